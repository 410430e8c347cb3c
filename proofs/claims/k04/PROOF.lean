import PyProof.Rows.All
import Wide.All
import OpenK.AllK
import Wide.FinOn
import KE.KFromBytes
import KE.KExcSuper
import HandS.Base
import HandS.Call
import HandS.Exc
import HandS.Ends
import HandS.Words
import KE.KExcIs
import HandS.ForExc
import HandS.ForMost
import HandS.IsInst
import HandS.Walk
import HandS.TupAny
import HandS.More
import PyProof.WalkInts
import KE.GoesMore
import PyProof.EnumMake
import PyProof.EnumFor
import HandS.Wide
import HandS.WideMore
import PyProof.ReprBulk
import HandS.MakeKwOnly
import PyProof.StrOps2
import HandS.Dict
import HandS.ReplaceLit
import HandS.ReplaceList
import HandS.Text
import HandS.Style
import HandS.NoneIn
import KE.KTupSum
import PySem.Challenge.RW_lineends_k04_runs_of_texts
set_option Elab.async false
set_option linter.all false
set_option maxRecDepth 100000
set_option maxHeartbeats 4000000
/-! An own error class over ValueError, called by position or by keyword: what it leaves. -/
namespace Lx
open PySem PySem.HandSPX
open PySem.W (Looks)
section
variable {M : Model} {prog : Program} {w : World} {A : Around} {E : Value → Shared → Prop} {R : Result → Shared → Prop}
variable {h : Heap} {gn : Array GenState} {dr : Drawn} {tk : Nat} {os : OsState}
variable {nm q : Str} {C N : Addr} {bs bm bmB : List Value} {hd : Bool} {sn : List Str} {sub : List Value} {ab : Bool} {col : Option Bool} {dd : Option Addr} {k0 k1 k2 k3 k5 : Option Value} {B nid iid : String}
/-- the maker's own check, with keywords -/
theorem newCheck (F : ExcBaseFacts B nid iid bmB) (hT : ∀ Y : String, bm.contains (.type Y) = bmB.contains (.type Y)) {pos : List Value} {kw : List (Str × Value)} {Q : Unit → Shared → Prop}
    (hC : h.get? C = some (excClassObj nm q C N bs bm hd sn sub ab col dd k0 k1 k2 k3 k5 nid)) (hq : Q () ⟨h, gn, dr, tk, os⟩) :
    wpAny M A (checkBuiltinCall nid ⟨.ref C :: pos, kw⟩) Q E ⟨h, gn, dr, tk, os⟩ := by
  have c0 : (Value.ref C :: bm).contains (.type B) = true := by
    rw [List.contains_cons, hT, F.hasB, Bool.or_true]
  have c1 := F.noStar
  simp only [checkBuiltinCall, F.newKind, F.newSplit, F.newRow]
  repeat (first
    | refine wpAny_loadPart_at hC ?_
    | (refine wpAny_isSubtype_exc hC ?_; rw [c0])
    | refine wpAny_staticBase_exc hC ?_
    | refine wpAny_madeBy_exc hC ?_
    | simp only [bne_self_eq_false, Bool.false_eq_true, if_false]
    | wp_step)
  exact hq
/-- the maker: the arguments by position alone are laid -/
theorem newMakes (F : ExcBaseFacts B nid iid bmB) (hT : ∀ Y : String, bm.contains (.type Y) = bmB.contains (.type Y)) {pos : List Value} {kw : List (Str × Value)}
    (hC : h.get? C = some (excClassObj nm q C N bs bm hd sn sub ab col dd k0 k1 k2 k3 k5 nid)) (hl : pos.length ≤ sizeLine)
    (hq : R (.ok (.ret (.ref (h.objs.size + 1)))) ⟨(h.push (W.kdv_tup pos)).push (excO C h.objs.size), gn, dr, tk, os⟩) :
    codeAny (model prog w) A (.builtin nid ⟨.ref C :: pos, kw⟩) R ⟨h, gn, dr, tk, os⟩ := by
  have e1 := F.ends
  have c0 : (Value.ref C :: bm).contains (.type B) = true := by
    rw [List.contains_cons, hT, F.hasB, Bool.or_true]
  have c1 : (Value.ref C :: bm).contains (.type "AttributeError") = false := by
    rw [List.contains_cons, hT, F.noAttr]; rfl
  have c2 : (Value.ref C :: bm).contains (.type "NameError") = false := by
    rw [List.contains_cons, hT, F.noName]; rfl
  refine codeAny_builtinAt F.entry ?_
  unfold Builtin.«BaseException.__new__»
  refine wpAt_bind ?_
  show wpAt _ _ _ (stack >>= _) _ _ _
  refine wpAt_bind (wpAt_stack fun p below => wpAt_of_wpAny ?_)
  wp_walk
  refine wpAt_of_wpAny ?_
  rw [F.owner]
  repeat (first
    | with_reducible refine wpAny_madeHere_exc F.canon hC ?_
    | with_reducible refine wpAny_loadPart_at hC ?_
    | (with_reducible refine wpAny_isSubtype_exc hC ?_; first | rw [c0] | rw [c1] | rw [c2])
    | wp_step)
  show R _ _
  rw [Heap.size_push]
  exact hq
/-- the class's call: the maker, then the class's own __init__ -/
theorem typeCalls (F : ExcBaseFacts B nid iid bmB) (hT : ∀ Y : String, bm.contains (.type Y) = bmB.contains (.type Y)) {pos : List Value} {kw : List (Str × Value)} {fI : Addr} {Q : Fin → Shared → Prop}
    (hC : h.get? C = some (excClassObj nm q C N bs bm hd sn sub ab col dd k0 k1 k2 k3 k5 nid))
    (hi : Looks (model prog w) h (typeLookup (.ref C) "__init__") (some (.ref fI))) (hb : ∀ self, Looks (model prog w) h (bindSpecial (.ref fI) self) (.ref fI, [self])) (hl : pos.length ≤ sizeLine)
    (hq : codeAny (model prog w) A (.call (.ref fI) ⟨.ref (h.objs.size + 1) :: pos, kw⟩)
      (fun r s' => match r with | .ok (.ret v) => v = .none ∧ Q (.done (.ret (.ref (h.objs.size + 1)))) s' | .ok _ => False | .error e => E e s')
      ⟨(h.push (W.kdv_tup pos)).push (excO C h.objs.size), gn, dr, tk, os⟩) :
    wpAny (model prog w) A (Builtin.«type.__call__» ⟨.ref C :: pos, kw⟩) Q E ⟨h, gn, dr, tk, os⟩ := by
  repeat (first | with_reducible refine wpAny_loadPart_at hC ?_ | with_reducible refine wpAny_madeBy_exc hC ?_ | wp_step)
  refine codeAny_call_builtin_code (Code.quiet_builtin _ F.quiet) (newCheck F hT hC ?_)
  refine newMakes F hT hC hl ?_
  show wpAny _ _ _ _ _ _
  have kp : ∀ b o, h.get? b = some o → ((h.push (W.kdv_tup pos)).push (excO C h.objs.size)).get? b = some o := fun b o e => Heap.get?_push_of_some _ (Heap.get?_push_of_some _ e)
  have hC1 := kp _ _ hC
  have hg : ((h.push (W.kdv_tup pos)).push (excO C h.objs.size)).get? (h.objs.size + 1) = some (excO C h.objs.size) := by heap_get
  have hs : (Value.ref C :: bm).contains (.ref C) = true := by simp
  have i1 := hi.keeps kp
  have b1 := (hb (.ref (h.objs.size + 1))).keeps kp
  unfold isInstance
  repeat (first | with_reducible refine wpAny_loadPart_at hg ?_ | (with_reducible refine wpAny_isSubtype_exc hC1 ?_; rw [hs]) | wp_step)
  show wpAny _ _ (typeLookup (.ref C) _) _ _ _
  refine i1.at ?_
  refine wpAny_holding (wpAny_bind (b1.at ?_))
  refine wpAny_bind (wpAny_call (codeAny_mono hq fun r s' z => ?_))
  rcases r with e | (v | _ | _ | _) <;> first | exact z | exact z.elim | skip
  obtain ⟨rfl, z⟩ := z
  first
    | exact wpAny_pure (wpAny_pure z)
    | (wp_walk; exact z)
end
end Lx
namespace Lx
open PySem PySem.HandSPX
open PySem.W (Looks)
open L2 (defArgs defBody defScope)
/-! ### the text of an error's __init__ -/
def inA (a b : Pos) : Arguments := { posonlyargs := [], args := [{ arg := "self", annotation := none, pos := a }, { arg := "value", annotation := none, pos := b }], vararg := none, kwonlyargs := [], kw_defaults := [], kwarg := none, defaults := [] }
def inB (msg : Str) (a b c d e f g i j k : Pos) : List Stmt :=
  [.Expr (.Call (.Attribute (.Call (.Name "super" a) [] [] b) "__init__" c) [.Constant (.str msg) 0 d] [] e) f, .Assign [.Attribute (.Name "self" g) "value" i] (.Name "value" j) k]
def SupCall (msg : Str) (a b c d e : Pos) : Prop := ∀ env : Env, ∃ pl : Sem Bool, eval (.Call (.Attribute (.Call (.Name "super" a) [] [] b) "__init__" c) [.Constant (.str msg) 0 d] [] e) env = (do
  let ov ← attributeBase (.Call (.Name "super" a) [] [] b) "__init__" env (eval (.Call (.Name "super" a) [] [] b) env)
  standAt c.atName
  let (f, first) ← holding [ov] (getMethod ov "__init__" pl)
  callWith e f first (backTo e (starEach [.Constant (.str msg) 0 d] env)) [])
def inS : Scope := { kind := .function, names := [(PySem.Str.ofString "self", .local), (PySem.Str.ofString "value", .local), (PySem.Str.ofString "__class__", .free), (PySem.Str.ofString "super", .globalImplicit)], isGenerator := false, isCoroutine := false, more := [] }
/-- what the written part says of the errors' own base, at L -/
structure LineC (K : PySem.W.Frag) (mg : Str → Option Value) (L : Addr) : Prop where
  gL : mg "LineError" = some (.ref L)
  cls : ∃ n q N bs sn sub ab col dd k0 k1 k2 k3 k5, K.lookup L = some (excClassObj n q L N bs HandSPX.veTail true sn sub ab col dd k0 k1 k2 k3 k5 "ValueError.__new__")
  ini : PySem.W.findIn K (.ref L) "__init__" = some (some (.builtin "ValueError.__init__"))
  ty : PySem.W.typeIn K (.ref L) = some (.type "type")
  exB : PySem.W.subIn K (.ref L) (.type "BaseException") = some true
  sup : PySem.W.nsIn K mainGlobals "super" = some none
  opq : PySem.W.nsIn K cStatics "thirdparty.any" = some none
  sp : PySem.W.specialIn K (.builtin "object.__class__") "__get__" = some (some (.builtin "getset_descriptor.__get__"))
  tk : PySem.W.takesIn K (.builtin "object.__class__") = some true
/-- what the written part says of an error class at C, whose base stands at L; st is the text of its __init__, qual that def's long name, nm the class's name -/
structure ErrC (K : PySem.W.Frag) (file : Str) (mg : Str → Option Value) (L : Addr) (nm qual : Str) (st : Stmt) (C : Addr) : Prop where
  gC : mg nm = some (.ref C)
  cls : ∃ n q N bs sn sub ab col dd k0 k1 k2 k3 k5, K.lookup C = some (excClassObj n q C N bs (.ref L :: HandSPX.veTail) true sn sub ab col dd k0 k1 k2 k3 k5 "ValueError.__new__")
  sa : PySem.W.findIn K (.ref C) "__setattr__" = some (some (.builtin "object.__setattr__"))
  ga : PySem.W.findIn K (.ref C) "__getattribute__" = some (some (.builtin "BaseException.__getattribute__"))
  gg : PySem.W.findIn K (.ref C) "__getattr__" = some none
  ca : PySem.W.findIn K (.ref C) "__class__" = some (some (.builtin "object.__class__"))
  nv : PySem.W.findIn K (.ref C) "value" = some none
  ty : PySem.W.typeIn K (.ref C) = some (.type "type")
  kp : PySem.W.keepIn K (.ref C) = true
  init : ∃ fI : Addr, PySem.W.findIn K (.ref C) "__init__" = some (some (.ref fI)) ∧ PySem.W.typeIn K (.ref fI) = some (.type "function") ∧
    ∃ (oc : Value) (od : Option Addr) (doc pm : Value) (an : Option Addr) (cc cda : Addr) (ct : Value) (osl : Array (Option Value)),
      K.lookup fI = some ⟨oc, od, .func (PySem.W.fnX "__init__" qual (defArgs st) (defBody st) (defScope st) [("__class__", cc)] .none .none doc pm an (.ref cda) ct), osl⟩ ∧ PySem.W.codeIn K (.ref cda) qual = true ∧
      (∃ (cl : Value) (cd : Option Addr) (vs : Array Value) (cs : Array (Option Value)) (tf : Tok), K.lookup cda = some ⟨cl, cd, .fields vs, cs⟩ ∧ vs[2]? = some (.str file tf)) ∧
      ∃ (cl : Value) (cd : Option Addr) (cs : Array (Option Value)), K.lookup cc = some ⟨cl, cd, .cell (some (.ref C)), cs⟩
  tA : ∃ a b, defArgs st = inA a b
  tB : ∃ msg a b c d e f g i j k, defBody st = inB msg a b c d e f g i j k ∧ SupCall msg a b c d e
  tS : defScope st = inS
theorem LineC.along {K : PySem.W.Frag} {mg : Str → Option Value} {L : Addr} (T : LineC K mg L) : PySem.W.alongIn K "__init__" (.ref L :: HandSPX.veTail) = some (some (.builtin "ValueError.__init__")) := by
  obtain ⟨n, q, N, bs, sn, sub, ab, col, dd, k0, k1, k2, k3, k5, hL⟩ := T.cls
  have e := T.ini
  simp only [PySem.W.findIn, hL] at e
  exact e
/-- the chain of classes above C -/
theorem ErrC.chain {K : PySem.W.Frag} {file : Str} {mg : Str → Option Value} {L C : Addr} {nm qual : Str} {st : Stmt} (T : ErrC K file mg L nm qual st C) : ∃ cd : ClassData, PySem.W.clsIn K C = some cd ∧ cd.mro = .ref C :: .ref L :: HandSPX.veTail ∧ cd.hasDict = true := by
  obtain ⟨n, q, N, bs, sn, sub, ab, col, dd, k0, k1, k2, k3, k5, hC⟩ := T.cls
  exact ⟨{ name := n, bases := bs, mro := .ref C :: .ref L :: HandSPX.veTail, ns := N, qualname := q, hasDict := true, slotNames := sn, subclasses := sub, abstract := ab, collection := col, hasDel := false }, by unfold PySem.W.clsIn; rw [hC] <;> rfl, rfl, rfl⟩
theorem ErrC.under {K : PySem.W.Frag} {file : Str} {mg : Str → Option Value} {L C : Addr} {nm qual : Str} {st : Stmt} (T : ErrC K file mg L nm qual st C) (b : Value) : PySem.W.mroIn K C b = some ((Value.ref C :: .ref L :: HandSPX.veTail).contains b) := by
  obtain ⟨cd, e1, e2, _⟩ := T.chain
  unfold PySem.W.mroIn
  rw [e1, Option.bind_some, e2]
  rfl
section
variable {prog : Program} {w : World} {A : Around} {E : Value → Shared → Prop} {R : Result → Shared → Prop} {M : Model}
variable {h : Heap} {gn : Array GenState} {dr : Drawn} {tk : Nat} {os : OsState}
variable {nm q : Str} {C N : Addr} {bs bm bmB : List Value} {hdt : Bool} {sn : List Str} {sub : List Value} {ab : Bool} {col : Option Bool} {dd : Option Addr} {k0 k1 k2 k3 k5 : Option Value} {B nid iid : String}
theorem tcCheck {pos : List Value} {kw : List (Str × Value)} {Q : Unit → Shared → Prop} (hC : h.get? C = some (excClassObj nm q C N bs bm hdt sn sub ab col dd k0 k1 k2 k3 k5 nid)) (hq : Q () ⟨h, gn, dr, tk, os⟩) :
    wpAny M A (checkBuiltinCall "type.__call__" ⟨.ref C :: pos, kw⟩) Q E ⟨h, gn, dr, tk, os⟩ := by
  have f3 := tc_sub
  have hT : (⟨h, gn, dr, tk, os⟩ : Shared).TypeIs (.ref C) "type" := ⟨_, hC, rfl⟩
  simp only [checkBuiltinCall, tc_kind, tc_split]
  repeat (any_goals (first | assumption | with_reducible refine wpAny_loadPart_at hC ?_ | with_reducible refine wpAny_onRaise ?_ | with_reducible refine wpAny_map ?_ | wp_step))
theorem clsCalls (F : ExcBaseFacts B nid iid bmB) (hT : ∀ Y : String, bm.contains (.type Y) = bmB.contains (.type Y)) {pos : List Value} {kw : List (Str × Value)} {fI : Addr}
    (hC : h.get? C = some (excClassObj nm q C N bs bm hdt sn sub ab col dd k0 k1 k2 k3 k5 nid))
    (hi : Looks (model prog w) h (typeLookup (.ref C) "__init__") (some (.ref fI))) (hb : ∀ self, Looks (model prog w) h (bindSpecial (.ref fI) self) (.ref fI, [self])) (hl : pos.length ≤ sizeLine)
    (hq : codeAny (model prog w) (A.under (.builtin "type.__call__" ⟨.ref C :: pos, kw⟩)) (.call (.ref fI) ⟨.ref (h.objs.size + 1) :: pos, kw⟩) (W.InitBack (h.objs.size + 1) R)
      ⟨(h.push (W.kdv_tup pos)).push (excO C h.objs.size), gn, dr, tk, os⟩) :
    codeAny (model prog w) A (.call (.ref C) ⟨pos, kw⟩) R ⟨h, gn, dr, tk, os⟩ := by
  have f1 := tc_lookup
  have f2 := tc_bind (.ref C)
  have hTy : (⟨h, gn, dr, tk, os⟩ : Shared).TypeIs (.ref C) "type" := ⟨_, hC, rfl⟩
  refine codeAny_of_tree ?_
  show wpAny _ _ (callAny (.ref C) _) _ _ _
  repeat (any_goals (first | assumption | with_reducible refine wpAny_loadPart_at hC ?_ | wp_step))
  refine ⟨rfl, ?_⟩
  refine codeAny_call_builtin_at (Code.quiet_builtin _ (by decide +kernel)) entry_typeCall (tcCheck hC (typeCalls F hT hC hi hb hl ?_))
  refine codeAny_mono hq fun r s' z => ?_
  rcases r with e | (v | _ | _ | _) <;> exact z
end
end Lx
namespace Lx
open PySem PySem.HandSPX
open PySem.W (Looks)
open L2 (defArgs defBody defScope)
/-- what __init__ leaves of a fresh error at x -/
structure InitLeft (h h' : Heap) (x C dx t1 : Addr) (v : Value) : Prop where
  keep : ∀ b o, b ≠ x → h.get? b = some o → h'.get? b = some o
  obj : h'.get? x = some { cls := .ref C, dict := some dx, data := .fields #[.ref t1, .none, .none, .none, .bool false, .none] }
  big : h.objs.size ≤ dx
  ne : dx ≠ x
  ns : h'.Ns1 dx (fun y => if y = "value" then some v else none)
/-- the two ways in which the value is handed over -/
inductive Hands (v : Value) : List Value → List (Str × Value) → Prop where
  | pos : Hands v [v] []
  | kw : Hands v [] [("value", v)]
section
variable {prog : Program} {w : World} {A : Around} {E : Value → Shared → Prop} {R : Result → Shared → Prop} {M : Model} {s : Shared}
variable {K : PySem.W.Frag} {mg mb : Str → Option Value} {nm qual : Str} {st : Stmt} {C L : Addr}
theorem initRuns (TL : LineC K mg L) (T : ErrC K prog.main.file mg L nm qual st C) {x t0 fI : Addr} {v : Value} {ps : List Value} {kw : List (Str × Value)} (hv : Hands v ps kw) (htop : (prog.main.scope.names.lookup ("super" : Str)).isSome = false)
    (hfI : PySem.W.findIn K (.ref C) "__init__" = some (some (.ref fI))) (X : K.In s.heap) (G : s.heap.Ns mainGlobals mg) (gs : mg "super" = none) (B : s.heap.Ns builtinsNs mb) (bs : mb "super" = some (.type "super"))
    (hlim : s.heap.NoLimit) (hnx : K.lookup x = none) (hx : s.heap.get? x = some (excO C t0)) (hroom : A.depth < recursionLimit)
    (hq : ∀ h' tk dx t1, InitLeft s.heap h' x C dx t1 v → R (.ok (.ret .none)) { s with heap := h', toks := tk }) :
    codeAny (model prog w) A (.call (.ref fI) ⟨.ref x :: ps, kw⟩) R s := by
  obtain ⟨n, q, N, bss, sn, sub, ab, col, dd, k0, k1, k2, k3, k5, hC⟩ := T.cls
  obtain ⟨bm, ebm⟩ : ∃ bm, bm = (Value.ref L :: HandSPX.veTail) := ⟨_, rfl⟩
  rw [← ebm] at hC
  have hbm : refsVE bm = true := by rw [ebm]; rfl
  have hal := TL.along
  rw [← ebm] at hal
  obtain ⟨f2, e2, tI, oc, od, doc, pm, an, cc, cda, ct, osl, ho, hcd, ⟨cl, cd, vs, cs, tf, hco, hvs⟩, cl2, cd2, cs2, hce⟩ := T.init
  rw [hfI] at e2
  obtain rfl : fI = f2 := Value.ref.inj (Option.some.inj (Option.some.inj e2))
  obtain ⟨a1, a2, eA⟩ := T.tA
  obtain ⟨msg, p0, p1, p2, p3, p4, p5, q1, q2, q3, q4, eB, hsc⟩ := T.tB
  rw [eA, eB, T.tS] at ho
  have hcl : PySem.W.clsIn K C = some { name := n, bases := bss, mro := .ref C :: bm, ns := N, qualname := q, hasDict := true, slotNames := sn, subclasses := sub, abstract := ab, collection := col, hasDel := false } := by
    unfold PySem.W.clsIn; rw [hC] <;> rfl
  have hcC : (Value.ref C :: bm).contains (.ref C) = true := by simp
  have hbase : ∀ Y : String, bm.contains (.type Y) = HandSPX.veTail.contains (.type Y) := fun Y => refsVE_contains Y bm hbm
  refine ks_codeAny_call_defAt (fd := PySem.W.fnX "__init__" qual (inA a1 a2) (inB msg p0 p1 p2 p3 p4 p5 q1 q2 q3 q4) inS [("__class__", cc)] .none .none doc pm an (.ref cda) ct) (body := inB msg p0 p1 p2 p3 p4 p5 q1 q2 q3 q4)
    (binds := [("self", .ref x), ("value", v)]) hroom (X _ _ ho) rfl hlim (PySem.W.codeRec_of X hcd) rfl ?_ (show ∀ y ∈ inS.names, y.2 ≠ .cell by decide) (by intro y hy; simp only [List.mem_cons, List.not_mem_nil, or_false] at hy; rcases hy with rfl | rfl <;> rfl) (fun h1 hns hk => ?_) rfl rfl rfl
  · cases hv with
    | pos => exact .of_eq (by first | rfl | with_unfolding_all rfl)
    | kw => exact .of_eq (by first | rfl | with_unfolding_all rfl)
  have X1 : K.In h1 := X.keeps hk
  have hx1 := hk _ _ hx
  have hC1 := X1 _ _ hC
  have hxC : x ≠ C := fun z => by
    rw [z] at hx1
    rw [hC1] at hx1
    cases hx1
  have hL : s.heap.objs.size ≠ x := Nat.ne_of_gt (Heap.lt_size hx)
  obtain ⟨pl, hpl⟩ := hsc (callEnv (PySem.W.fnX "__init__" qual (inA a1 a2) (inB msg p0 p1 p2 p3 p4 p5 q1 q2 q3 q4) inS [("__class__", cc)] .none .none doc pm an (.ref cda) ct) s.heap.objs.size fI)
  refine ks_wpAt_execs_cons (ks_wpAt_Expr_any (ks_wpAt_MethodCall (pl := pl) ?_ hpl))
  refine ks_wpAt_super_base (env := callEnv (PySem.W.fnX "__init__" qual (inA a1 a2) (inB msg p0 p1 p2 p3 p4 p5 q1 q2 q3 q4) inS [("__class__", cc)] .none .none doc pm an (.ref cda) ct) s.heap.objs.size fI) rfl rfl rfl rfl (X1 _ _ ho) rfl rfl rfl (X1 _ _ hco) rfl hvs (by simp) htop ?_
  refine PySem.W.ks_loadName_global rfl rfl (Calls.loadGlobal_builtin (mg := mg) (mb := mb) ?_ gs ?_ bs ⟨rfl, ?_⟩)
  · obtain ⟨o, es, ep, e, r⟩ := G
    exact ⟨o, es, ep, hk _ _ e, r⟩
  · obtain ⟨o, es, ep, e, r⟩ := B
    exact ⟨o, es, ep, hk _ _ e, r⟩
  refine wpAny_loadName_free rfl rfl (c := cc) rfl ⟨_, X1 _ _ hce, rfl⟩ ?_
  refine wpAny_loadName_local (m := fun y => ([("self", .ref x), ("value", v)] : List (Str × Value)).reverse.lookup y) rfl rfl hns rfl ?_
  refine ks_wpAny_isType_cls hC1 rfl ⟨rfl, ?_⟩
  refine ks_wpAny_call_super (C := C) hC1 rfl hx1 rfl (fun c e => by cases e) (PySem.W.looks_mroIn X1 (by unfold PySem.W.mroIn; rw [hcl, Option.bind_some, if_neg (by simp), hcC])) (fun h2 hso k2' => ?_)
  have X2 : K.In h2 := X1.keeps k2'
  have hx2 := k2' _ _ hx1
  have I2 : PySem.W.InstAt h2 x (excO C t0) C none := ⟨hx2, rfl, rfl, trivial⟩
  refine PySem.W.kxs_getMethod PySem.W.kxs_ValueError hso (PySem.W.looks_opaque X2 TL.opq) (l₀ := .ref C :: bm) (l := bm) (fun A' Q' E' s' k' q' => wpAny_bind ((PySem.W.looks_clsIn X2 hcl) A' _ E' s' k' (wpAny_pure q')))
    (by simp [List.dropWhile_cons]) X2 hal (I2.type.andThen (PySem.W.looks_mroIn X2 ((T.under _).trans (by rfl)))) hxC (by decide) ?_
  have k3 : ∀ b o, h2.get? b = some o → (h2.push (PySem.W.kxs_mw "ValueError.__init__" x)).get? b = some o := fun b o e => Heap.get?_push_of_some _ e
  have hu : (h2.push (PySem.W.kxs_mw "ValueError.__init__" x)).get? h2.objs.size = some (PySem.W.kxs_mw "ValueError.__init__" x) := Heap.get?_push_at rfl rfl
  refine PySem.W.kxs_callWith (i := "ValueError.__init__") (x := x) (by rfl) ?_
  refine Calls.evalArgs_plain ?_
  refine Calls.spliced_cons (wpAny_Constant_str (k := 0) (pos := p3) (Calls.spliced_nil ⟨hu, ?_⟩))
  have hone : ([.str msg s.toks] : List Value).length ≤ sizeLine := by rw [sizeLine_eq]; exact (by decide : 1 ≤ 16777216)
  refine wpAny_call (codeAny_of_tree ?_)
  show wpAny _ _ (callAny (.ref h2.objs.size) _) _ _ _
  simp only [callAny]
  refine wpAny_bind (wpAny_load hu ?_)
  simp only [PySem.W.kxs_mw, show (Value.type "method-wrapper" == Value.type "method" || Value.type "method-wrapper" == Value.type "builtin_function_or_method" || Value.type "method-wrapper" == Value.type "method-wrapper") = true by decide, if_true]
  refine PySem.W.KFB.if_so (by decide) ?_
  refine wpAny_bind (PySem.W.check_bound_init F.excBase_ValueError.toExcCallFacts (k3 _ _ (k2' _ _ hC1)) (k3 _ _ hx2) rfl ?_)
  refine wpAny_bind (wpAny_pure (wpAny_pure ?_))
  refine ⟨plainId_quiet F.excBase_ValueError.init.plain _, codeAny_builtin F.excBase_ValueError.initEntry ?_⟩
  refine PySem.W.exc_init_tree (cls := .ref C) (t0 := t0) (dv := none) (c2 := .none) (c3 := .none) (b4 := .bool false) (k3 _ _ hx2) (by rw [sizeLine_eq]; exact (by decide : 1 ≤ 16777216)) (fun h3 k4 hx3 _ => ?_)
  show wpAt _ _ _ (execs _ _) _ _ _
  have keep3 : ∀ b o, b ≠ x → h1.get? b = some o → h3.get? b = some o := fun b o hb e => k4 b o hb (k3 _ _ (k2' _ _ e))
  have hns3 : h3.Ns s.heap.objs.size (fun y => ([("self", .ref x), ("value", v)] : List (Str × Value)).reverse.lookup y) := by
    obtain ⟨o, es, ep, e, r⟩ := hns
    exact ⟨o, es, ep, keep3 _ _ hL e, r⟩
  have X3 : K.In h3 := fun a o e => keep3 a o (fun z => by
    rw [z, hnx] at e
    cases e) (X1 a o e)
  refine ks_wpAt_execs_cons (ks_wpAt_Assign_Attr ?_)
  refine wpAt_of_wpAny (wpAny_Name (wpAny_loadName_local rfl rfl hns3 rfl ?_))
  refine wpAny_Name (wpAny_loadName_local rfl rfl hns3 rfl ?_)
  refine PySem.W.set_plain X3 (ox := excO C _) (od := none) ⟨hx3, rfl, rfl, trivial⟩ T.sa ?_
  refine exc_osa X3 hx3 hcl (show refsVE (.ref C :: bm) = true from hbm) rfl T.nv (fun h4 tk4 dx k5 dn dne hx4 hn4 => ?_)
  refine wpAt_of_wpAny (wpAny_pure ?_)
  refine hq h4 tk4 dx _ ⟨fun b o hb e => k5 b o hb (keep3 b o hb (hk b o e)), hx4, Nat.le_trans (Nat.le_of_lt hns3.lt) dn, dne, hn4⟩
end
end Lx
namespace Lx
open PySem PySem.HandSPX
/-- a made error, at e, its own dict at d -/
structure ErrMade (h h' : Heap) (e C d : Addr) (v : Value) : Prop where
  keep : ∀ b o, h.get? b = some o → h'.get? b = some o
  ebig : h.objs.size ≤ e
  obj : ∃ t1 : Addr, h'.get? e = some { cls := .ref C, dict := some d, data := .fields #[.ref t1, .none, .none, .none, .bool false, .none] }
  dbig : h.objs.size ≤ d
  ne : d ≠ e
  ns : h'.Ns1 d (fun y => if y = "value" then some v else none)
section
variable {prog : Program} {w : World} {A : Around} {R : Result → Shared → Prop} {s : Shared}
variable {K : PySem.W.Frag} {mg mb : Str → Option Value} {nm qual : Str} {st : Stmt} {C L : Addr}
theorem errMade (TL : LineC K mg L) (T : ErrC K prog.main.file mg L nm qual st C) {v : Value} {ps : List Value} {kw : List (Str × Value)} (hv : Hands v ps kw) (htop : (prog.main.scope.names.lookup ("super" : Str)).isSome = false)
    (X : K.In s.heap) (G : s.heap.Ns mainGlobals mg) (gs : mg "super" = none) (B : s.heap.Ns builtinsNs mb) (bs : mb "super" = some (.type "super")) (hlim : s.heap.NoLimit) (hroom : A.depth + 1 < recursionLimit)
    (hq : ∀ h' tk e d, ErrMade s.heap h' e C d v → R (.ok (.ret (.ref e))) { s with heap := h', toks := tk }) : codeAny (model prog w) A (.call (.ref C) ⟨ps, kw⟩) R s := by
  obtain ⟨n, q, N, bss, sn, sub, ab, col, dd, k0, k1, k2, k3, k5, hC⟩ := T.cls
  obtain ⟨fI, iC, tI, _⟩ := T.init
  obtain ⟨hp, g, dr, tk, os⟩ := s
  have kp : ∀ b o, hp.get? b = some o → ((hp.push (W.kdv_tup ps)).push (excO C hp.objs.size)).get? b = some o := fun b o e => Heap.get?_push_of_some _ (Heap.get?_push_of_some _ e)
  have hget : ((hp.push (W.kdv_tup ps)).push (excO C hp.objs.size)).get? (hp.objs.size + 1) = some (excO C hp.objs.size) := by heap_get
  have hnx : K.lookup (hp.objs.size + 1) = none := by
    cases e : K.lookup (hp.objs.size + 1) with
    | none => rfl
    | some o =>
      have z : hp.get? (hp.objs.size + 1) = some o := X _ _ e
      exact absurd (Nat.lt_of_succ_lt (Heap.lt_size z)) (Nat.lt_irrefl _)
  have hl : ps.length ≤ sizeLine := by
    cases hv with
    | pos => rw [sizeLine_eq]; exact (by decide : 1 ≤ 16777216)
    | kw => exact Nat.zero_le _
  refine clsCalls F.excBase_ValueError (fun Y => refsVE_contains Y (.ref L :: HandSPX.veTail) (by rfl)) (X _ _ hC) (W.looks_findIn X iC) (fun self => W.bind_fn X self tI) hl ?_
  refine initRuns (s := ⟨(hp.push (W.kdv_tup ps)).push (excO C hp.objs.size), g, dr, tk, os⟩) TL T hv htop iC (X.keeps kp) ?_ gs ?_ bs (hlim.keeps kp) hnx hget ?_ fun h' tk' dx t1 I => ?_
  · obtain ⟨o, es, ep, e, r⟩ := G
    exact ⟨o, es, ep, kp _ _ e, r⟩
  · obtain ⟨o, es, ep, e, r⟩ := B
    exact ⟨o, es, ep, kp _ _ e, r⟩
  · show A.depth + 1 < recursionLimit
    exact hroom
  · have z : hp.objs.size + 1 + 1 ≤ dx := by
      first
        | (simpa only [Heap.size_push] using I.big)
        | (have q := I.big; rw [Heap.size_push, Heap.size_push] at q; exact q)
    refine ⟨rfl, hq h' tk' (hp.objs.size + 1) dx ⟨fun b o e => I.keep b o (Nat.ne_of_lt (Nat.lt_succ_of_lt (Heap.lt_size e))) (kp b o e), Nat.le_succ _, ⟨t1, I.obj⟩, (show hp.objs.size ≤ dx by omega), I.ne, I.ns⟩⟩
end
end Lx
namespace Lx
open PySem PySem.Spec L2
/-- at e: an error of the class at C, its own dict at d -/
def errO (e C d : Addr) : HO := .ext fun h => ∃ t1 : Addr, h.get? e = some ({ cls := .ref C, dict := some d, data := .fields #[.ref t1, .none, .none, .none, .bool false, .none] } : Obj)
theorem errO_ok {P : Program} {w : World} {H : Hp} {h : Heap} {e C d t1 : Addr} (he : h.get? e = some ({ cls := .ref C, dict := some d, data := .fields #[.ref t1, .none, .none, .none, .bool false, .none] } : Obj)) : ObjOk P w H h e (errO e C d) :=
  ⟨⟨t1, he⟩, ⟨_, he⟩, fun _ _ ⟨t, q⟩ k => ⟨t, k _ q⟩⟩
theorem errO_at {P : Program} {w : World} {H : Hp} {h : Heap} {e C d : Addr} (hok : HOk P w H h) (he : H e = some (errO e C d)) : ∃ t1 : Addr, h.get? e = some ({ cls := .ref C, dict := some d, data := .fields #[.ref t1, .none, .none, .none, .bool false, .none] } : Obj) := by
  have x : ObjOk P w H h e (.ext fun h => ∃ t1 : Addr, h.get? e = some ({ cls := .ref C, dict := some d, data := .fields #[.ref t1, .none, .none, .none, .bool false, .none] } : Obj)) := hok e _ he
  exact x.1
/-- the fields of a made error -/
abbrev vf (v : V) : List (Str × V) := [(("value" : Str), v)]
theorem relO_vf {v : V} {u : Value} (r : RelV v u) (f : Str) : RelO (List.lookup f (vf v)) (if f = "value" then some u else none) := by
  by_cases hw : f = "value"
  · subst hw
    rw [if_pos rfl]
    have q : List.lookup ("value" : Str) (vf v) = some v := by simp [List.lookup]
    rw [q]
    exact r
  · rw [if_neg hw]
    have qw : (f == ("value" : Str)) = false := by simpa using hw
    have q2 : List.lookup f (vf v) = none := by simp [List.lookup, qw]
    rw [q2]
    trivial
section
variable {X : Cx} {pins : List (Addr × Obj)} {σ : St} {H : Hp} {s : Shared}
/-- two new objects laid at once -/
theorem laid2 {h' : Heap} {d e : Addr} {o1 o2 : HO} {t' : Nat} (I : Inv X pins σ H s) (k : ∀ b u, s.heap.get? b = some u → h'.get? b = some u) (hd : s.heap.objs.size ≤ d) (he : s.heap.objs.size ≤ e)
    (ok1 : ObjOk X.prog X.w (upd (upd H d o1) e o2) h' d o1) (ok2 : ObjOk X.prog X.w (upd (upd H d o1) e o2) h' e o2) : Inv X pins σ (upd (upd H d o1) e o2) { s with heap := h', toks := t' } := by
  have nd : H d = none := I.hok.fresh hd
  have ne : H e = none := I.hok.fresh he
  have old : ∀ b o, H b = some o → upd (upd H d o1) e o2 b = some o := fun b o q => by
    rw [upd_ne (ne_of_none q ne), upd_ne (ne_of_none q nd)]
    exact q
  have lt : ∀ (b : Addr) (o : Obj), s.heap.get? b = some o → b ≠ d ∧ b ≠ e := fun b o q => ⟨Nat.ne_of_lt (Nat.lt_of_lt_of_le (Heap.lt_size q) hd), Nat.ne_of_lt (Nat.lt_of_lt_of_le (Heap.lt_size q) he)⟩
  refine I.un (t' := t') ⟨fun b o q _ _ _ => k b o q, fun b o q _ _ _ => ⟨o.slots, k b o q⟩, fun b o q n _ => ?_, fun b o q _ => ⟨o, k b o q⟩, fun b xs q => old _ _ q, fun b o u q => old _ _ q, fun b ps q => ⟨#[], by rw [old _ _ q]; simp⟩⟩ fun b o q => ?_
  · rw [upd_ne (lt b o q).2, upd_ne (lt b o q).1]
    exact n
  · by_cases h1 : b = e
    · subst h1
      rw [upd_same] at q
      cases q
      exact ok2
    · rw [upd_ne h1] at q
      by_cases h2 : b = d
      · subst h2
        rw [upd_same] at q
        cases q
        exact ok1
      · rw [upd_ne h2] at q
        exact (I.hok b o q).stay (fun c v _ z => k c v z) (fun c z => old _ _ z) fun c xs z => old _ _ z
end
/-- C(e), C(value=e): a new error and its dict -/
def tErr (C : Addr) (ta : TE) : TE := fun σ H Q => ta σ H fun v H1 => ∀ d e : Addr, H1 d = none → H1 e = none → d ≠ e → Q (.ref e) (upd (upd H1 d (.xd (vf v))) e (errO e C d))
/-- raise C(e) -/
def tErrR (C : Addr) (ta : TE) : St → Hp → XK → Prop := fun σ H Q => ta σ H fun v H1 => ∀ d : Addr, H1 d = none → Q (.ref C) (some d) (upd H1 d (.xd (vf v)))
section
variable {X : Cx} {C L : Addr} {nm qual : Str} {st : Stmt} {a : Expr} {ta : TE} {p pos kpos : Pos} {k : Nat}
theorem callErr {pins : List (Addr × Obj)} {σ : St} {H : Hp} {s : Shared} {R : Value → Shared → Prop} {E : Value → Shared → Prop} (TL : LineC X.K X.mg L) (T : ErrC X.K X.prog.main.file X.mg L nm qual st C) (hr : Room k X.A) (htop : (X.prog.main.scope.names.lookup ("super" : Str)).isSome = false) (gs : X.mg "super" = none)
    {v : Value} {ps : List Value} {kw : List (Str × Value)} (hv : Hands v ps kw) (I : Inv X pins σ H s)
    (hq : ∀ h' tk e d, ErrMade s.heap h' e C d v → R (.ref e) { s with heap := h', toks := tk }) : wpAny (model X.prog X.w) X.A (call (.ref C) ps kw) R E s := by
  obtain ⟨mb, hB, hb⟩ := I.mod.blt
  refine wpAny_call (errMade TL T hv htop I.kIn (I.mod.glob.keeps I.bk) gs (hB.keeps I.bk) ((hb _ (by decide)).trans (by decide +kernel)) I.nolimit (by have := hr.dp; omega) fun h' tk e d M => hq h' tk e d M)
theorem errEP {pins : List (Addr × Obj)} {σ : St} {H : Hp} {s : Shared} {h' : Heap} {tk : Nat} {e d : Addr} {v : V} {u : Value} {Q : VK} (I : Inv X pins σ H s) (r : RelV v u) (M : ErrMade s.heap h' e C d u)
    (q : ∀ d e : Addr, H d = none → H e = none → d ≠ e → Q (.ref e) (upd (upd H d (.xd (vf v))) e (errO e C d))) : EP X pins σ Q (.ref e) { s with heap := h', toks := tk } := by
  obtain ⟨t1, ho⟩ := M.obj
  exact ⟨.ref e, _, laid2 (o1 := .xd (vf v)) (o2 := errO e C d) I M.keep M.dbig M.ebig ⟨_, M.ns, fun f => relO_vf r f⟩ (errO_ok ho), rfl, q d e (I.hok.fresh M.dbig) (I.hok.fresh M.ebig) M.ne⟩
/-- C(e) as a value -/
theorem pe_err (TL : LineC X.K X.mg L) (T : ErrC X.K X.prog.main.file X.mg L nm qual st C) (hr : Room k X.A) (htop : (X.prog.main.scope.names.lookup ("super" : Str)).isSome = false) (gs : X.mg "super" = none) (hg : Gl X nm) (he : PE X a ta) (hdb : (nm == ("__debug__" : Str)) = false := by decide)
    (hs : starEach [a] X.env = (false, eval a X.env) :: starEach [] X.env := by rfl) (hpl : (backTo pos (starEach [] X.env)).any (·.1) = false := by rfl) : PE X (.Call (.Name nm p) [a] [] pos) (tErr C ta) := by
  refine ⟨fun pins s σ H Q I h => ?_⟩
  refine wpAny_Call_Name_kw (ld_glob I hg T.gC ?_ hdb)
  refine PySem.W.callWith_K (h₀ := X.base) I.ok.mod.kin T.kp ?_ hs hpl
  rw [hs]
  show wpAny _ _ (spliced ((false, eval a X.env) :: backTo pos (starEach [] X.env))) _ _ s
  refine Calls.spliced_cons (thn (he.run pins s σ H _ I h) fun u s1 ⟨v, H1, I1, r1, q1⟩ => ?_)
  refine Calls.spliced_nil ⟨I1.kIn, ?_⟩
  show wpAny _ _ (call (.ref C) [u]) _ _ _
  exact callErr TL T hr htop gs .pos I1 fun h' tk e d M => errEP I1 r1 M q1
/-- C(value=e) as a value -/
theorem pe_errK (TL : LineC X.K X.mg L) (T : ErrC X.K X.prog.main.file X.mg L nm qual st C) (hr : Room k X.A) (htop : (X.prog.main.scope.names.lookup ("super" : Str)).isSome = false) (gs : X.mg "super" = none) (hg : Gl X nm) (he : PE X a ta) (hdb : (nm == ("__debug__" : Str)) = false := by decide)
    (hall : (backToKw pos (keywordEach [⟨some "value", a, kpos⟩] X.env)).all (·.1.isSome) = true := by rfl) (hks : (backToKw pos (keywordEach [⟨some "value", a, kpos⟩] X.env)).filterMap (·.1) = [("value" : Str)] := by rfl)
    (hpl : ((backTo pos (starEach [] X.env)).any (·.1) || (backToKw pos (keywordEach [⟨some "value", a, kpos⟩] X.env)).any (·.1.isNone)) = false := by rfl) : PE X (.Call (.Name nm p) [] [⟨some "value", a, kpos⟩] pos) (tErr C ta) := by
  refine ⟨fun pins s σ H Q I h => ?_⟩
  refine wpAny_Call_Name_kw (ld_glob I hg T.gC ?_ hdb)
  refine PySem.W.callWith_KW0 (h₀ := X.base) I.ok.mod.kin T.kp hall ?_ hpl
  refine thn ((pk_cons he pk_nil).run pos pins s σ H (fun vs H1 => match vs with | [v] => ∀ d e : Addr, H1 d = none → H1 e = none → d ≠ e → Q (.ref e) (upd (upd H1 d (.xd (vf v))) e (errO e C d)) | _ => False) I h) fun us s1 ⟨vs, H1, I1, r1, q1⟩ => ⟨I1.kIn, ?_⟩
  rw [hks]
  cases r1 with
  | nil => exact q1.elim
  | cons rv rn =>
    cases rn with
    | nil => exact callErr TL T hr htop gs .kw I1 fun h' tk e d M => errEP I1 rv M q1
    | cons _ _ => exact q1.elim
/-- raise C(e): what makes the error -/
theorem pmk_err (TL : LineC X.K X.mg L) (T : ErrC X.K X.prog.main.file X.mg L nm qual st C) (hr : Room k X.A) (htop : (X.prog.main.scope.names.lookup ("super" : Str)).isSome = false) (gs : X.mg "super" = none) (hg : Gl X nm) (he : PE X a ta) (hdb : (nm == ("__debug__" : Str)) = false := by decide)
    (hs : starEach [a] X.env = (false, eval a X.env) :: starEach [] X.env := by rfl) (hpl : (backTo pos (starEach [] X.env)).any (·.1) = false := by rfl) : PMk X (.Call (.Name nm p) [a] [] pos) (tErrR C ta) := by
  intro pins s σ H Q I h
  refine wpAny_Call_Name_kw (ld_glob I hg T.gC ?_ hdb)
  refine PySem.W.callWith_K (h₀ := X.base) I.ok.mod.kin T.kp ?_ hs hpl
  rw [hs]
  show wpAny _ _ (spliced ((false, eval a X.env) :: backTo pos (starEach [] X.env))) _ _ s
  refine Calls.spliced_cons (thn (he.run pins s σ H _ I h) fun u s1 ⟨v, H1, I1, r1, q1⟩ => ?_)
  refine Calls.spliced_nil ⟨I1.kIn, ?_⟩
  show wpAny _ _ (call (.ref C) [u]) _ _ _
  refine callErr TL T hr htop gs .pos I1 fun h' tk e d M => ?_
  obtain ⟨t1, hoe⟩ := M.obj
  have hns := M.ns
  obtain ⟨G', g1, g2⟩ := restrict h' fun b => decide (b ≠ e)
  have gk : ∀ b, b ≠ e → G'.get? b = h'.get? b := fun b hb => g1 b (decide_eq_true hb)
  have ge : G'.get? e = none := g2 e (by simp)
  have old : ∀ b o, s1.heap.get? b = some o → G'.get? b = some o := fun b o q => (gk b (Nat.ne_of_lt (Nat.lt_of_lt_of_le (Heap.lt_size q) M.ebig))).trans (M.keep b o q)
  have ob : ObjOk X.prog X.w (upd H1 d (.xd (vf v))) G' d (.xd (vf v)) := ⟨_, hns.at (fun o q => (gk d M.ne).trans q), fun f => relO_vf r1 f⟩
  have J : Inv X pins σ (upd H1 d (.xd (vf v))) { s1 with heap := G', toks := tk } := I1.laid (t' := tk) old M.dbig ob
  have r : Raises X (.ref C) := raises_own ((T.under _).trans (by rfl)) T.ty
  refine ⟨e, _, _, { s1 with heap := G', toks := tk }, _, .ref C, some d, rfl, J, fun b o q => ?_, ge, hoe, ⟨rfl, rfl⟩, rfl, rfl, ?_, rfl, I1.bare, r, q1 d (I1.hok.fresh M.dbig)⟩
  · by_cases hb : b = e
    · have q' : G'.get? b = some o := q
      rw [hb, ge] at q'
      cases q'
    · exact (gk b hb).symm.trans q
  · rw [upd_ne (Ne.symm M.ne)]
    exact I1.hok.fresh M.ebig
/-- the error's class is asked for -/
theorem kitErr (TL : LineC X.K X.mg L) (T : ErrC X.K X.prog.main.file X.mg L nm qual st C) {x : Addr} {ox : Obj} {od : Option Obj} : PySem.W.KitX X.K (.ref x) (.ref C) (fun h => PySem.W.InstAt h x ox C od) := by
  obtain ⟨cd, e1, e2, e3⟩ := T.chain
  exact PySem.W.kitx_exc (by rw [e1]; rfl) T.ga T.gg ((T.under _).trans (by rfl)) T.ca TL.sp TL.tk ((T.under _).trans (by rfl))
/-- isinstance(e, c), e a made error, c a class of the program (at D) or a built-in one -/
def rIsErr (K : PySem.W.Frag) : List V → Hp → VK → Prop := fun xs H Q => ∃ (e C d : Addr) (v : V) (c : V) (u : Value) (b : Bool), xs = [.ref e, c] ∧ H e = some (errO e C d) ∧ H d = some (.xd (vf v)) ∧ ClsV c u ∧ PySem.W.kitOne K (.ref C) u = some b ∧
  (∃ (file : Str) (mg : Str → Option Value) (L : Addr) (nm qual : Str) (st : Stmt), LineC K mg L ∧ ErrC K file mg L nm qual st C) ∧ Q (.bl b) H
theorem call_isErr : CallR X (.builtin "isinstance") (rIsErr X.K) := by
  intro pins s σ H xs us Q I r h
  obtain ⟨e, C', d, v, c, u, b, rfl, he, hd, hc, hk, ⟨file, mg, L', nm', qual', st', TL, T⟩, q⟩ := h
  obtain ⟨u1, u2, rfl, r1, r2⟩ := vals2 r
  obtain rfl : u1 = Value.ref e := r1
  have e2 := hc.eq r2
  subst e2
  obtain ⟨t1, ho⟩ := errO_at I.hok he
  obtain ⟨mA, hns, _⟩ := (show ∃ mA, s.heap.Ns1 d mA ∧ ∀ f, RelO ((vf v).lookup f) (mA f) from I.hok d _ hd)
  obtain ⟨od, hod, _⟩ := lookIn_ns hns
  obtain ⟨cd, q1, q2, q3⟩ := T.chain
  have Z : PySem.W.KitX X.K (.ref e) (.ref C') (fun h => PySem.W.InstAt h e { cls := .ref C', dict := some d, data := .fields #[.ref t1, .none, .none, .none, .bool false, .none] } C' (some od)) :=
    PySem.W.kitx_exc (by rw [q1]; rfl) T.ga T.gg ((T.under _).trans (by rfl)) T.ca TL.sp TL.tk ((T.under _).trans (by rfl))
  exact PySem.W.kia_one Z I.kIn ⟨ho, rfl, rfl, hod⟩ hk (fun z => nomatch z) fun tk => ⟨.bl b, H, I.tok tk, rfl, q⟩
/-- e.value, e a made error -/
def tErrV (K : PySem.W.Frag) (te : TE) : TE := fun σ H Q => te σ H fun x H1 => ∃ (e C d : Addr) (v : V), x = .ref e ∧ H1 e = some (errO e C d) ∧ H1 d = some (.xd (vf v)) ∧
  (∃ (file : Str) (mg : Str → Option Value) (L : Addr) (nm qual : Str) (st : Stmt), LineC K mg L ∧ ErrC K file mg L nm qual st C) ∧ Q v H1
theorem pe_errV {e : Expr} {te : TE} (he : PE X e te) (hb : attributeBase e "value" X.env (eval e X.env) = eval e X.env := by rfl) : PE X (.Attribute e "value" pos) (tErrV X.K te) := by
  refine ⟨fun pins s σ H Q I h => ?_⟩
  refine attr_of hb (thn (he.run pins s σ H _ I h) fun u s1 hh => ?_)
  obtain ⟨x, H1, I1, rx, e', C', d, v, ex, hoe, hd, ⟨file, mg, L', nm', qual', st', TL, T⟩, q⟩ := hh
  subst ex
  obtain rfl : u = Value.ref e' := rx
  obtain ⟨t1, ho⟩ := errO_at I1.hok hoe
  obtain ⟨mA, hns, hr⟩ := (show ∃ mA, s1.heap.Ns1 d mA ∧ ∀ f, RelO ((vf v).lookup f) (mA f) from I1.hok d _ hd)
  obtain ⟨od, hod, hl⟩ := lookIn_ns hns
  have l : List.lookup ("value" : Str) (vf v) = some v := by simp [List.lookup]
  obtain ⟨u, hu, ru⟩ := RelO.some_of (v := v) (o := mA "value") (by rw [← l]; exact hr "value")
  have J : PySem.W.InstAt s1.heap e' { cls := .ref C', dict := some d, data := .fields #[.ref t1, .none, .none, .none, .bool false, .none] } C' (some od) := ⟨ho, rfl, rfl, hod⟩
  obtain ⟨cd, q1, q2, q3⟩ := T.chain
  have hdict : PySem.W.hasDictIn X.K C' = true := by
    unfold PySem.W.hasDictIn
    rw [q1]
    simpa using q3
  exact HandSPX.exc_get I1.kIn J T.ga T.gg ((T.under _).trans (by rfl)) (PySem.W.findObj_own hdict T.nv rfl (by rw [hl, hu])) (handed_of ru) ⟨v, H1, I1.tok _, ru, q⟩
end
end Lx
namespace Lx
open PySem PySem.Spec L2 PyProof.Rows
/-! ### min of a tuple of ints -/
section
variable {prog : Program} {w : World} {A : Around} {E : Value → Shared → Prop} {s : Shared} {l : Addr}
variable {its : List Value} {ns : List Int} {Q : Value → Shared → Prop}
theorem min_rawT (hh : A.handled = none) (hl : s.heap.IsTuple l its.toArray) (hi : IntsAre its ns) (hne : 0 < ns.length)
    (h : ∀ h' tk M t', (∀ b o, s.heap.get? b = some o → h'.get? b = some o) → M ∈ ns → (∀ a, a ∈ ns → M ≤ a) → Q (.int M t') { s with heap := h', toks := tk }) : wpAny (model prog w) A (call (.builtin "min") [.ref l]) Q E s := by
  obtain ⟨xs, e⟩ := hi.allInts.items
  have hn : numsOf (intItems xs).toList = ns := by rw [← e]; exact hi.numsOf
  rw [nums_intItems] at hn
  subst hn
  rw [e] at hl
  have hsz : 0 < xs.size := by simpa using hne
  have hlt : l < s.heap.objs.size := by obtain ⟨_, e, _⟩ := hl; exact Heap.lt_size e
  refine call_min_walk (wpAny_pyIter_tuple hl ?_)
  refine ⟨_, _, _, _, _, _, _, rfl, Walks.tuple (A := A.in1) hh _ l (Nat.ne_of_lt hlt) (intItems xs), ⟨⟨_, Heap.get?_push_size _ rfl, rfl, rfl⟩, hl.at fun o e => Heap.get?_push_of_some _ e⟩, fun b hb => ?_, by simpa [intItems] using hsz, CmpOf.ints_lt (numAt xs) (fun _ _ => intItems_at), fun v h' tk hP hk => ?_⟩
  · show b < (s.heap.push _).objs.size
    rw [Heap.size_push]
    rcases List.mem_cons.mp hb with rfl | hb
    · exact Nat.lt_succ_self _
    · rcases List.mem_cons.mp hb with rfl | hb
      · exact Nat.lt_succ_of_lt hlt
      · cases hb
  · obtain ⟨t, rfl⟩ := intItems_at hP
    obtain ⟨h1, h2⟩ := argBest_lt (numAt xs) (xs.size - 1)
    have hz : (intItems xs).size = xs.size := by simp [intItems]
    refine h h' tk _ t (fun b o e => hk b o (fun hm => Nat.lt_irrefl _ ((List.mem_singleton.mp hm) ▸ Heap.lt_size e)) (Heap.get?_push_of_some _ e)) ?_ fun a ha => ?_
    · rw [numAt_eq]; exact PySem.getD_mem (by rw [List.length_map, Array.length_toList, hz]; omega)
    · obtain ⟨j, hj, rfl⟩ := mem_getD ha
      rw [List.length_map, Array.length_toList] at hj
      rw [← numAt_eq, hz]; exact h2 j (by omega)
end
def rMinT (K : PySem.W.Frag) : List V → Hp → VK → Prop := fun vs H Q => ∃ (a : Addr) (ns : List Int), vs = [V.ref a] ∧ SqT K H a (ns.map V.int) ∧ 0 < ns.length ∧ ∀ m, m ∈ ns → (∀ y, y ∈ ns → m ≤ y) → Q (.int m) H
theorem call_minT {X : Cx} (hc : X.calm = true) : CallR X (.builtin "min") (rMinT X.K) := by
  intro pins s σ H vs us Q I r h
  obtain ⟨a, ns, rfl, hs, hne, q⟩ := h
  obtain ⟨its, rv, hl, _⟩ := I.tuple hs
  rw [Vals.ref1 r]
  exact min_rawT (I.ok.hd hc) (by obtain ⟨o, h1, h2, n, h3⟩ := hl; exact ⟨o, h1, h2, n, h3⟩) rv.ints hne fun h' tk m t' hk h1 h2 => ⟨.int _, H, I.kept hk, ⟨_, rfl⟩, q m h1 h2⟩
/-! ### get of a written dict -/
def tKGet (K : PySem.W.Frag) (w : World) (td ty : TE) : TE := fun σ H Q => td σ H fun x H1 => ∃ a es n, x = .ref a ∧ KDict K w a es n ∧ ty σ H1 fun y H2 => ∃ (z : Str) (r : Option Value) (v : V), y = .str z ∧ PySem.W.nsIn K a z = some r ∧ RelV v (r.getD .none) ∧ Q v H2
theorem pe_kget {X : Cx} {o e : Expr} {apos cpos : Pos} {td ty : TE} (ho : PE X o td) (he : PE X e ty) (m : M1 X o "get" apos e cpos) : PE X (.Call (.Attribute o "get" apos) [e] [] cpos) (tKGet X.K X.w td ty) := by
  refine ⟨fun pins s σ H Q I h => ?_⟩
  refine wpAny_Call_method m.base m.few m.line PySem.F.plainAttrs_dict PySem.F.slot_dict_get PySem.F.type_dict_get (thn (ho.run pins s σ H _ I h) fun u s1 ⟨x, H1, I1, rx, a, es, n, ex, D, q1⟩ => ?_)
  subst ex
  obtain rfl : u = Value.ref a := rx
  have hm1 := PySem.W.mapOf_K (prog := X.prog) (w := X.w) I1.kIn D.at_ D.lit
  refine ⟨hm1.typeIs, fun b q => ?_, ?_⟩
  · cases q
    exact ⟨_, I1.kIn _ _ D.at_, rfl⟩
  rw [m.trees]
  refine Calls.callWith_builtin rfl (Calls.evalArgs_plain (Calls.spliced_cons (thn (he.run pins s1 σ H1 _ I1 q1) fun iv s2 ⟨y, H2, I2, ry, z, r, v, ey, e, rv, q2⟩ => Calls.spliced_nil ?_)))
  subst ey
  obtain ⟨t, rfl⟩ := ry
  have hm2 := PySem.W.mapOf_K (prog := X.prog) (w := X.w) I2.kIn D.at_ D.lit
  refine call_meetsIn PySem.F.slot_dict_get hm2.typeIs PySem.F.entry_dict_get (PySem.F.args_dict_get_2 _ _) (meets_dict_get (strKind X.prog X.w) a (strKind_is X.prog X.w z t) D.low) ⟨_, hm2, ?_⟩
  rw [PySem.W.find_K D.at_ e]
  exact ⟨v, H2, I2.tok _, rv, q2⟩
end Lx
namespace Lx
open PySem PySem.Spec L2
/-! ### enumerate(text) -/
/-- each sign of x with its place, in a new pair -/
def Itx (x : Str) : It :=
  ⟨fun i _ => i < x.cps.size, fun i H v H' => ∃ T c, v = .ref T ∧ H T = none ∧ H' = upd H T (.tup [.int (i : Nat), .str ⟨#[c]⟩]) ∧ x.cps[i]? = some c, fun i _ => x.cps.size ≤ i⟩
theorem turn_enumS {P : Program} {w : World} {K : PySem.W.Frag} {elts : List Expr} {kk : Nat} {tpos : Pos} (x : Str) (t : Tok) (e it : Addr) :
    Turn P w K (.Tuple elts kk tpos) (Itx x) [e, it] e (fun i h => (∃ old, IsEnum h e it ((i : Nat) : Int) old) ∧ h.IsStrIter it (strIterType x) x t i ∧ e ≠ it ∧ i ≤ x.cps.size) where
  mem := by simp
  obj := fun i h st b hb => by
    obtain ⟨⟨old, he⟩, ⟨o, ho, hc, hd⟩, _, _⟩ := st
    have e' : b = e ∨ b = it := by simpa using hb
    rcases e' with z | z
    · rw [z]; exact ⟨_, he, fun v q => nomatch q⟩
    · rw [z]; exact ⟨o, ho, fun v q => by rw [hd] at q; cases q⟩
  keep := fun i h h' st k => by
    obtain ⟨⟨old, he⟩, ⟨o, ho, r⟩, hne, hle⟩ := st
    exact ⟨⟨old, k e (by simp) _ he⟩, ⟨o, k it (by simp) o ho, r⟩, hne, hle⟩
  item := by
    intro X hP hw hK hc i pins s σ H E I hf st hg
    subst hP hw hK
    obtain ⟨⟨old, he⟩, hit, hne, hle⟩ := st
    have hlt : i < x.cps.size := hg
    have hel : e < s.heap.objs.size := Heap.lt_size he
    have hil : it < s.heap.objs.size := by obtain ⟨_, q, _⟩ := hit; exact Heap.lt_size q
    refine wpAny_pyNext_enum_itemD (Draws.text (A := X.A.in1) (I.ok.hd hc) it x t) he hit hlt hne (by simpa using hne) fun u h' tk hP ho hit' hT hsz hk => ?_
    obtain ⟨c, tc, hcx, rfl⟩ := hP
    refine ⟨_, rfl, wpAny_letOwnedTupleGo_enum (s := { s with heap := h', toks := tk + 1 }) ho fun h'' he' sb => ?_⟩
    have hT2 : h''.get? s.heap.objs.size = some { cls := .type "tuple", data := .seq #[.int i tk, .str ⟨#[c]⟩ tc] } := (sb.2 _ (Nat.ne_of_gt hel)).trans hT
    have new : ObjOk X.prog X.w (upd H s.heap.objs.size (.tup [.int (i : Nat), .str ⟨#[c]⟩])) h'' s.heap.objs.size (.tup [.int (i : Nat), .str ⟨#[c]⟩]) :=
      ⟨by show 2 ≤ sizeLine; decide, [.int i tk, .str ⟨#[c]⟩ tc], .cons ⟨_, rfl⟩ (.cons ⟨_, rfl⟩ .nil), ⟨_, hT2, rfl, _, rfl⟩⟩
    have I1 : Inv X pins σ (upd H s.heap.objs.size (.tup [.int (i : Nat), .str ⟨#[c]⟩])) { s with heap := h'', toks := tk + 1 } :=
      I.turnedNew (ch := [e, it]) (fun b ob hb q => (sb.2 b (fun z => hb (by simp [z]))).trans (hk b ob (fun z => hb (by simp [z])) (fun z => hb (by simp [z])) q)) hf (Nat.le_refl _) new
    refine ⟨.ref s.heap.objs.size, _, I1, rfl, ⟨_, c, rfl, I.hok.fresh (Nat.le_refl _), rfl, hcx⟩, ⟨⟨.str ⟨#[c]⟩ tc, ?_⟩, ?_, hne, hlt⟩, fun b hb => ?_⟩
    · have e1 : ((i + 1 : Nat) : Int) = (i : Int) + 1 := by omega
      rw [e1]; exact he'
    · obtain ⟨o, ho2, r⟩ := hit'
      exact ⟨o, (sb.2 it (Ne.symm hne)).trans ho2, r⟩
    · have hb' : b < s.heap.objs.size := by
        have e' : b = e ∨ b = it := by simpa using hb
        rcases e' with z | z
        · rw [z]; exact hel
        · rw [z]; exact hil
      rw [upd_ne (Nat.ne_of_lt hb')]
      exact (hf b hb).1
  done := by
    intro X hP hw hK hc i pins s σ H E I hf st hg
    subst hP hw hK
    obtain ⟨⟨old, he⟩, hit, hne, hle⟩ := st
    obtain ⟨f0, f1, f2, f3, f4, f5⟩ := hf it (by simp)
    have e1 : i = x.cps.size := Nat.le_antisymm hle hg
    subst e1
    exact wpAny_pyNext_enum_endD (Draws.text (A := X.A.in1) (I.ok.hd hc) it x t) he hit fun h' eb => ⟨rfl, I.turned (t' := s.toks) (fun b o hb q => eb b o hb q) f0 f1 f3 f4 f5⟩
  self := fun A i s Q E st h => let ⟨⟨_, he⟩, _⟩ := st; PySem.wpAny_pyIter_enum he h
def iEnumS (ta : TA) : TI := fun σ H R => ta σ H fun vs H1 => ∃ x, vs = [.str x] ∧ R (Itx x) H1
theorem pi_enumS {X : Cx} {e : Expr} {ta : TA} {p pos tpos : Pos} {elts : List Expr} {kk : Nat} (hg : Gl X "enumerate") (hm : X.mg "enumerate" = none) (ha : PA X [e] ta) (hs : starEach [e] X.env = [(false, eval e X.env)] := by rfl) :
    PI X (.Tuple elts kk tpos) (.Call (.Name "enumerate" p) [e] [] pos) (iEnumS ta) := by
  refine ⟨fun pins s σ H R I h => ?_⟩
  refine PyProof.Rows.Call_ (ld_blt I hg hm PyProof.Rows.boot_enumerate (PyProof.Rows.callWith_type1 (thn (ha.run pos pins s σ H _ I h) fun us s1 ⟨vs, H1, I1, r1, q1⟩ => ?_) hs rfl))
  obtain ⟨x, ex, q⟩ := q1
  subst ex
  cases r1 with
  | cons r rr =>
    cases rr
    obtain ⟨t, rfl⟩ := r
    refine call_enumerate_str fun h' he hit hsz hk => PySem.wpAny_pyIter_enum he ?_
    have I2 : Inv X pins σ H1 { s1 with heap := h' } := I1.kept (t' := s1.toks) hk
    refine ⟨s1.heap.objs.size + 1, [s1.heap.objs.size + 1, s1.heap.objs.size], _, _, H1, rfl, I2, turn_enumS x t (s1.heap.objs.size + 1) s1.heap.objs.size, ⟨⟨.none, he⟩, hit, Nat.succ_ne_self _, Nat.zero_le _⟩, fun b hb => ?_, q⟩
    have e' : b = s1.heap.objs.size + 1 ∨ b = s1.heap.objs.size := by simpa using hb
    have hle : s1.heap.objs.size ≤ b := by
      rcases e' with z | z
      · rw [z]; exact Nat.le_add_right _ _
      · rw [z]; exact Nat.le_refl _
    exact I1.fpOk hle (I1.hok.fresh hle)
theorem walk_enumS {z : Str} : Walk (Itx z) z.cps.size (fun _ => True) (YPair (fun i => some (.int (i : Nat))) (fun i => z.cps[i]?.map fun c => V.str ⟨#[c]⟩)) :=
  ⟨fun _ _ hi _ => hi, fun _ _ => Nat.le_refl _, fun i H v H' _ _ y => by
    obtain ⟨T, c, h1, h2, h3, h4⟩ := y
    exact ⟨T, .int (i : Nat), .str ⟨#[c]⟩, h1, h2, h3, rfl, by simp [h4]⟩⟩
end Lx
namespace Lx
open PySem PySem.Spec L2
/-! ### sizes of numbers -/
def Sm (n : Nat) (x : Int) : Prop := x.natAbs < 2 ^ n
theorem Sm.mono {n m : Nat} {x : Int} (h : Sm n x) (k : n ≤ m) : Sm m x := Nat.lt_of_lt_of_le h (Nat.pow_le_pow_right (by decide) k)
theorem Sm.add {n : Nat} {x y : Int} (h : Sm n x) (k : Sm n y) : Sm (n + 1) (x + y) := by
  unfold Sm at *
  have := Nat.pow_succ 2 n
  omega
theorem Sm.mul {n m : Nat} {x y : Int} (h : Sm n x) (k : Sm m y) : Sm (n + m) (x * y) := by
  unfold Sm at *
  rw [Int.natAbs_mul, Nat.pow_add]
  exact Nat.mul_lt_mul'' h k
theorem Sm.of_le {n : Nat} {x y : Int} (h0 : 0 ≤ x) (h1 : x ≤ y) (k : Sm n y) : Sm n x := by
  unfold Sm at *
  omega
/-! ### forms -/
inductive Fm
  | keep (b a : Int)
  | lf (b a k c : Int)
  | cr (b a k : Int)
namespace Fm
def vs : Fm → List V
  | keep b a => [.str "keep", .int b, .int a]
  | lf b a k c => [.str "lf", .int b, .int a, .int k, .int c]
  | cr b a k => [.str "cr", .int b, .int a, .int k]
def nm : Fm → Str
  | keep _ _ => "keep"
  | lf _ _ _ _ => "lf"
  | cr _ _ _ => "cr"
def b : Fm → Int
  | keep b _ => b
  | lf b _ _ _ => b
  | cr b _ _ => b
def a : Fm → Int
  | keep _ a => a
  | lf _ a _ _ => a
  | cr _ a _ => a
/-- the number of ^ in front of a break with j of them -/
def after (f : Fm) (j : Int) : Int := (if j - f.b > 0 then j - f.b else 0) + f.a
def ahead (b' a' : Int) : Fm → Fm
  | keep _ _ => keep b' a'
  | lf _ _ k c => lf b' a' k c
  | cr _ _ k => cr b' a' k
def both : Fm → Fm → Fm
  | keep b a, g => ahead (b + (if g.b - a > 0 then g.b - a else 0)) ((if a - g.b > 0 then a - g.b else 0) + g.a) g
  | lf b a k c, keep b' a' => lf b a k (after (keep b' a') c)
  | cr b a k, keep _ _ => cr b a k
  | lf b a k c, lf b' a' k' c' => lf b a (k * (after (lf b' a' k' c') c + 1) * k') c'
  | lf b a k c, cr b' a' k' => cr b a (k * (after (cr b' a' k') c + 1) * k')
  | cr b a k, lf _ _ k' c' => lf b a (k * 1 * k') c'
  | cr b a k, cr _ _ k' => cr b a (k * 1 * k')
/-- a form, its numbers below 2 ^ n -/
def Ok (n : Nat) : Fm → Prop
  | keep b a => 0 ≤ b ∧ 0 ≤ a ∧ Sm n b ∧ Sm n a
  | lf b a k c => 0 ≤ b ∧ 0 ≤ a ∧ 0 < k ∧ 0 ≤ c ∧ Sm n b ∧ Sm n a ∧ Sm n k ∧ Sm n c
  | cr b a k => 0 ≤ b ∧ 0 ≤ a ∧ 0 < k ∧ Sm n b ∧ Sm n a ∧ Sm n k
def nums : Fm → List Int
  | keep b a => [b, a]
  | lf b a k c => [b, a, k, c]
  | cr b a k => [b, a, k]
theorem Ok.mono {n m : Nat} (h : n ≤ m) : ∀ {f : Fm}, Ok n f → Ok m f
  | keep _ _, ⟨h1, h2, h3, h4⟩ => ⟨h1, h2, h3.mono h, h4.mono h⟩
  | lf _ _ _ _, ⟨h1, h2, h3, h4, h5, h6, h7, h8⟩ => ⟨h1, h2, h3, h4, h5.mono h, h6.mono h, h7.mono h, h8.mono h⟩
  | cr _ _ _, ⟨h1, h2, h3, h4, h5, h6⟩ => ⟨h1, h2, h3, h4.mono h, h5.mono h, h6.mono h⟩
theorem Ok.b0 {n : Nat} : ∀ {f : Fm}, Ok n f → 0 ≤ f.b ∧ Sm n f.b
  | keep _ _, h => ⟨h.1, h.2.2.1⟩
  | lf _ _ _ _, h => ⟨h.1, h.2.2.2.2.1⟩
  | cr _ _ _, h => ⟨h.1, h.2.2.2.1⟩
theorem Ok.a0 {n : Nat} : ∀ {f : Fm}, Ok n f → 0 ≤ f.a ∧ Sm n f.a
  | keep _ _, h => ⟨h.2.1, h.2.2.2⟩
  | lf _ _ _ _, h => ⟨h.2.1, h.2.2.2.2.2.1⟩
  | cr _ _ _, h => ⟨h.2.1, h.2.2.2.2.1⟩
theorem after_ok {n : Nat} {f : Fm} (h : Ok n f) {j : Int} (h0 : 0 ≤ j) (hj : Sm n j) : 0 ≤ after f j ∧ Sm (n + 1) (after f j) := by
  have hb := h.b0
  have ha := h.a0
  unfold after
  unfold Sm at *
  have := Nat.pow_succ 2 n
  split <;> omega
theorem vs1 (f : Fm) : f.vs[1]? = some (.int f.b) := by cases f <;> rfl
theorem vs2 (f : Fm) : f.vs[2]? = some (.int f.a) := by cases f <;> rfl
theorem vs0 (f : Fm) : f.vs[0]? = some (.str f.nm) := by cases f <;> rfl
end Fm
def FmAt (K : PySem.W.Frag) (H : Hp) (x : V) (f : Fm) : Prop := ∃ p, x = .ref p ∧ SqT K H p f.vs
theorem sameT {K : PySem.W.Frag} {H H' : Hp} {a : Addr} {xs : List V} (e : Same H H') (h : SqT K H a xs) : SqT K H' a xs := by
  rcases h with (h | ⟨o, h⟩) | h
  · exact .inl (.inl (e _ _ h))
  · exact .inl (.inr ⟨o, e _ _ h⟩)
  · exact .inr h
theorem FmAt.same {K : PySem.W.Frag} {H H' : Hp} {x : V} {f : Fm} (e : Same H H') : FmAt K H x f → FmAt K H' x f := fun ⟨p, h1, h2⟩ => ⟨p, h1, sameT e h2⟩
/-! ### runs -/
/-- a group: a tuple that is tracked -/
def PrAt (H : Hp) (v : V) (x : Int × Int) : Prop := ∃ p, v = .ref p ∧ H p = some (.tup [.int x.1, .int x.2])
inductive Prs (K : PySem.W.Frag) (H : Hp) : List V → List (Int × Int) → Prop
  | nil : Prs K H [] []
  | cons {v : V} {vs : List V} {x : Int × Int} {xs : List (Int × Int)} : PrAt H v x → Prs K H vs xs → Prs K H (v :: vs) (x :: xs)
theorem Prs.same {K : PySem.W.Frag} {H H' : Hp} (e : Same H H') : ∀ {vs : List V} {gs : List (Int × Int)}, Prs K H vs gs → Prs K H' vs gs
  | _, _, .nil => .nil
  | _, _, .cons ⟨p, h1, h2⟩ t => .cons ⟨p, h1, e _ _ h2⟩ (t.same e)
theorem Prs.len {K : PySem.W.Frag} {H : Hp} : ∀ {vs : List V} {gs : List (Int × Int)}, Prs K H vs gs → vs.length = gs.length
  | _, _, .nil => rfl
  | _, _, .cons _ t => by rw [List.length_cons, List.length_cons, t.len]
theorem Prs.get {K : PySem.W.Frag} {H : Hp} : ∀ {vs : List V} {gs : List (Int × Int)}, Prs K H vs gs → ∀ {i : Nat} {v : V}, vs[i]? = some v → ∃ x, gs[i]? = some x ∧ PrAt H v x
  | _, _, .nil, i, v, h => by simp at h
  | _, _, .cons h1 t, 0, v, h => by
    have e := Option.some.inj h
    subst e
    exact ⟨_, rfl, h1⟩
  | _, _, .cons h1 t, i + 1, v, h => t.get (i := i) h
theorem Prs.append {K : PySem.W.Frag} {H : Hp} : ∀ {vs ws : List V} {gs hs : List (Int × Int)}, Prs K H vs gs → Prs K H ws hs → Prs K H (vs ++ ws) (gs ++ hs)
  | _, _, _, _, .nil, h => h
  | _, _, _, _, .cons a t, h => .cons a (t.append h)
def GsAt (K : PySem.W.Frag) (H : Hp) (l : Addr) (gs : List (Int × Int)) : Prop := ∃ xs, SqL K H l xs ∧ Prs K H xs gs
def RnAt (K : PySem.W.Frag) (H : Hp) (x : V) (l : Addr) (r : List (Int × Int) × Int) : Prop := ∃ p, x = .ref p ∧ SqT K H p [.ref l, .int r.2] ∧ GsAt K H l r.1
theorem GsAt.same {K : PySem.W.Frag} {H H' : Hp} {l : Addr} {gs : List (Int × Int)} (e : Same H H') : GsAt K H l gs → GsAt K H' l gs := fun ⟨xs, h1, h2⟩ => ⟨xs, e.seq h1, h2.same e⟩
theorem RnAt.same {K : PySem.W.Frag} {H H' : Hp} {x : V} {l : Addr} {r : List (Int × Int) × Int} (e : Same H H') : RnAt K H x l r → RnAt K H' x l r := fun ⟨p, h1, h2, h3⟩ => ⟨p, h1, sameT e h2, h3.same e⟩
/-- groups as the document wants them, numbers below 2 ^ n -/
def GsOk (n : Nat) (gs : List (Int × Int)) : Prop := ∀ (i : Nat) (x : Int × Int), gs[i]? = some x → 1 ≤ x.1 ∧ 0 ≤ x.2 ∧ Sm n x.1 ∧ Sm n x.2 ∧ ∀ y : Int × Int, gs[i + 1]? = some y → y.2 ≠ x.2
structure RnOk (n : Nat) (r : List (Int × Int) × Int) : Prop where
  gs : GsOk n r.1
  rest : 0 ≤ r.2 ∧ Sm n r.2
  len : r.1.length ≤ 1000
def addTo (acc : List (Int × Int)) (x : Int × Int) : List (Int × Int) := match acc.getLast? with
  | some y => if y.2 = x.2 then acc.dropLast ++ [(y.1 + x.1, x.2)] else acc ++ [x]
  | none => acc ++ [x]
def merged (gs : List (Int × Int)) : List (Int × Int) := gs.foldl addTo []
def moved (f : Fm) (gs : List (Int × Int)) : List (Int × Int) := gs.map fun x => (x.1, f.after x.2)
def total (gs : List (Int × Int)) : Int := (gs.map fun x => x.1 * (x.2 + 1)).sum
def units (r : List (Int × Int) × Int) (f : Fm) : Int := total (moved f r.1) + r.2
def runAfter (r : List (Int × Int) × Int) : Fm → List (Int × Int) × Int
  | .keep b a => (merged (moved (.keep b a) r.1), r.2)
  | .lf b a k c => if k * units r (.lf b a k c) = 0 then ([], 0) else ([(k * units r (.lf b a k c), c)], 0)
  | .cr b a k => ([], k * units r (.cr b a k))
end Lx
namespace Lw
open PySem PySem.Spec L2 Lx
def topS (i : Nat) : Stmt := PySem.Challenge.pw_lineends_k04_runs_of_texts.main.body.getD i (.Pass ⟨0, 0, 0, 0⟩)
abbrev sChkRun : Stmt := topS 4
abbrev sSigns : Stmt := topS 7
abbrev sUnits : Stmt := topS 8
abbrev sUog : Stmt := topS 9
abbrev sMerged : Stmt := topS 10
abbrev sSize : Stmt := topS 13
abbrev sRunsOf : Stmt := topS 14
abbrev sRunOfPiece : Stmt := topS 15
abbrev sLRng : Stmt := topS 17
abbrev sLDraw : Stmt := topS 18
abbrev sLLine : Stmt := topS 19
abbrev sLParse : Stmt := topS 20
abbrev sLSpelt : Stmt := topS 21
abbrev sLaw : Stmt := topS 22
end Lw
namespace Lx
open PySem PySem.Spec L2
/-! ### one form after another -/
theorem addTo_none (x : Int × Int) : addTo [] x = [x] := rfl
theorem addTo_end (a : List (Int × Int)) (y x : Int × Int) : addTo (a ++ [y]) x = if y.2 = x.2 then a ++ [(y.1 + x.1, x.2)] else a ++ [y] ++ [x] := by
  unfold addTo
  rw [List.getLast?_concat]
  simp
theorem ends {α : Type} : ∀ l : List α, l = [] ∨ ∃ a x, l = a ++ [x]
  | [] => .inl rfl
  | x :: l => by
    rcases ends l with rfl | ⟨a, y, rfl⟩
    · exact .inr ⟨[], x, rfl⟩
    · exact .inr ⟨x :: a, y, rfl⟩
theorem merged_snoc (xs : List (Int × Int)) (x : Int × Int) : merged (xs ++ [x]) = addTo (merged xs) x := by
  unfold merged
  rw [List.foldl_append]
  rfl
theorem addTo_addTo (a : List (Int × Int)) (m m' j : Int) : addTo (addTo a (m, j)) (m', j) = addTo a (m + m', j) := by
  rcases ends a with rfl | ⟨b, z, rfl⟩
  · show addTo ([] ++ [(m, j)]) (m', j) = [(m + m', j)]
    rw [addTo_end, if_pos rfl]
    rfl
  · rw [addTo_end, addTo_end]
    by_cases e : z.2 = j
    · rw [if_pos e, if_pos e, addTo_end, if_pos rfl, Int.add_assoc]
    · rw [if_neg e, if_neg e, addTo_end, if_pos rfl]
def on (h : Int → Int) (gs : List (Int × Int)) : List (Int × Int) := gs.map fun x => (x.1, h x.2)
theorem on_snoc (h : Int → Int) (a : List (Int × Int)) (x : Int × Int) : on h (a ++ [x]) = on h a ++ [(x.1, h x.2)] := by
  unfold on
  rw [List.map_append]
  rfl
theorem merged_on_addTo (h : Int → Int) (a : List (Int × Int)) (x : Int × Int) : merged (on h (addTo a x)) = addTo (merged (on h a)) (x.1, h x.2) := by
  rcases ends a with rfl | ⟨b, y, rfl⟩
  · rfl
  · rw [addTo_end]
    by_cases e : y.2 = x.2
    · rw [if_pos e, on_snoc, merged_snoc, on_snoc, merged_snoc, ← e, addTo_addTo]
    · rw [if_neg e, on_snoc, merged_snoc]
theorem merged_on (h : Int → Int) (n : Nat) : ∀ xs : List (Int × Int), xs.length = n → merged (on h (merged xs)) = merged (on h xs) := by
  induction n with
  | zero =>
    intro xs hx
    rw [List.eq_nil_of_length_eq_zero hx]
    rfl
  | succ n ih =>
    intro xs hx
    rcases ends xs with rfl | ⟨a, x, rfl⟩
    · rfl
    · rw [merged_snoc, merged_on_addTo, ih a (by simpa using hx), on_snoc, merged_snoc]
theorem total_snoc (a : List (Int × Int)) (x : Int × Int) : total (a ++ [x]) = total a + x.1 * (x.2 + 1) := by
  unfold total
  rw [List.map_append, List.sum_append]
  simp
theorem total_addTo (h : Int → Int) (a : List (Int × Int)) (x : Int × Int) : total (on h (addTo a x)) = total (on h a) + x.1 * (h x.2 + 1) := by
  rcases ends a with rfl | ⟨b, y, rfl⟩
  · show total ([] ++ [(x.1, h x.2)]) = total [] + _
    rw [total_snoc]
  · rw [addTo_end]
    by_cases e : y.2 = x.2
    · rw [if_pos e, on_snoc, total_snoc, on_snoc, total_snoc, e, Int.add_mul, Int.add_assoc]
    · rw [if_neg e, on_snoc, total_snoc]
theorem total_on (h : Int → Int) (n : Nat) : ∀ xs : List (Int × Int), xs.length = n → total (on h (merged xs)) = total (on h xs) := by
  induction n with
  | zero =>
    intro xs hx
    rw [List.eq_nil_of_length_eq_zero hx]
    rfl
  | succ n ih =>
    intro xs hx
    rcases ends xs with rfl | ⟨a, x, rfl⟩
    · rfl
    · rw [merged_snoc, total_addTo, ih a (by simpa using hx), on_snoc, total_snoc]
theorem moved_on (f : Fm) (gs : List (Int × Int)) : moved f gs = on f.after gs := rfl
theorem on_on (h h' : Int → Int) (gs : List (Int × Int)) : on h' (on h gs) = on (fun j => h' (h j)) gs := by
  unfold on
  rw [List.map_map]
  rfl
theorem posI (x : Int) : 0 ≤ (if x > 0 then x else 0) ∧ ((if x > 0 then x else 0) = x ∨ ((if x > 0 then x else 0) = 0 ∧ x ≤ 0)) := by
  by_cases h : x > 0
  · rw [if_pos h]; omega
  · rw [if_neg h]; omega
theorem after_both (b a : Int) (g : Fm) (j : Int) : g.after ((Fm.keep b a).after j) = ((Fm.keep b a).both g).after j := by
  have e : ∀ b' a' : Int, (if (if j - b > 0 then j - b else 0) + a - b' > 0 then (if j - b > 0 then j - b else 0) + a - b' else 0) + a' =
      (if j - (b + (if b' - a > 0 then b' - a else 0)) > 0 then j - (b + (if b' - a > 0 then b' - a else 0)) else 0) + ((if a - b' > 0 then a - b' else 0) + a') := by
    intro b' a'
    have p1 := posI (j - b)
    have p2 := posI (b' - a)
    have p3 := posI (a - b')
    generalize (if j - b > 0 then j - b else 0) = A at *
    generalize (if b' - a > 0 then b' - a else 0) = B at *
    generalize (if a - b' > 0 then a - b' else 0) = C at *
    have p4 := posI (A + a - b')
    have p5 := posI (j - (b + B))
    generalize (if A + a - b' > 0 then A + a - b' else 0) = D at *
    generalize (if j - (b + B) > 0 then j - (b + B) else 0) = E at *
    omega
  cases g with
  | keep b' a' => exact e b' a'
  | lf b' a' k c => exact e b' a'
  | cr b' a' k => exact e b' a'
theorem units_both (r : List (Int × Int) × Int) (b a : Int) (g : Fm) : units (runAfter r (.keep b a)) g = units r ((Fm.keep b a).both g) := by
  show total (moved g (merged (moved (.keep b a) r.1))) + r.2 = total (moved _ r.1) + r.2
  rw [moved_on, total_on _ _ _ rfl, moved_on, on_on, moved_on]
  have e : (fun j => g.after ((Fm.keep b a).after j)) = ((Fm.keep b a).both g).after := funext fun j => after_both b a g j
  rw [e]
theorem units_one (n c : Int) (g : Fm) : units ([(n, c)], 0) g = n * (g.after c + 1) := by
  show total ([] ++ [(n, g.after c)]) + 0 = _
  rw [total_snoc]
  show 0 + n * (g.after c + 1) + 0 = _
  omega
theorem units_none (n : Int) (g : Fm) : units ([], n) g = n := by
  show (0 : Int) + n = n
  omega
theorem runAfter_both (r : List (Int × Int) × Int) (f g : Fm) : runAfter (runAfter r f) g = runAfter r (f.both g) := by
  cases f with
  | keep b a =>
    have hu := units_both r b a g
    cases g with
    | keep b' a' =>
      show (merged (moved (.keep b' a') (merged (moved (.keep b a) r.1))), r.2) = (merged (moved _ r.1), r.2)
      rw [moved_on, merged_on _ _ _ rfl, moved_on, on_on, moved_on]
      have e : (fun j => (Fm.keep b' a').after ((Fm.keep b a).after j)) = ((Fm.keep b a).both (.keep b' a')).after := funext fun j => after_both b a _ j
      rw [e]
      rfl
    | lf b' a' k' c' =>
      show (if k' * units (runAfter r (.keep b a)) (.lf b' a' k' c') = 0 then (([] : List (Int × Int)), (0 : Int)) else ([(k' * units (runAfter r (.keep b a)) (.lf b' a' k' c'), c')], 0)) = _
      rw [hu]
      rfl
    | cr b' a' k' =>
      show (([] : List (Int × Int)), k' * units (runAfter r (.keep b a)) (.cr b' a' k')) = _
      rw [hu]
      rfl
  | lf b a k c =>
    by_cases z : k * units r (.lf b a k c) = 0
    · rw [show runAfter r (.lf b a k c) = ([], 0) from if_pos z]
      cases g with
      | keep b' a' =>
        show (([] : List (Int × Int)), (0 : Int)) = if k * units r (.lf b a k c) = 0 then ([], 0) else _
        rw [if_pos z]
      | lf b' a' k' c' =>
        have e : k * ((Fm.lf b' a' k' c').after c + 1) * k' * units r (.lf b a k c) = 0 := by
          rw [show k * ((Fm.lf b' a' k' c').after c + 1) * k' * units r (.lf b a k c) = ((Fm.lf b' a' k' c').after c + 1) * k' * (k * units r (.lf b a k c)) by
            simp only [Int.mul_assoc, Int.mul_comm, Int.mul_left_comm], z, Int.mul_zero]
        show (if k' * units ([], 0) (.lf b' a' k' c') = 0 then (([] : List (Int × Int)), (0 : Int)) else _) = if k * ((Fm.lf b' a' k' c').after c + 1) * k' * units r (.lf b a k c) = 0 then ([], 0) else _
        rw [units_none, Int.mul_zero, if_pos rfl, if_pos e]
      | cr b' a' k' =>
        have e : k * ((Fm.cr b' a' k').after c + 1) * k' * units r (.lf b a k c) = 0 := by
          rw [show k * ((Fm.cr b' a' k').after c + 1) * k' * units r (.lf b a k c) = ((Fm.cr b' a' k').after c + 1) * k' * (k * units r (.lf b a k c)) by
            simp only [Int.mul_assoc, Int.mul_comm, Int.mul_left_comm], z, Int.mul_zero]
        show (([] : List (Int × Int)), k' * units ([], 0) (.cr b' a' k')) = ([], k * ((Fm.cr b' a' k').after c + 1) * k' * units r (.lf b a k c))
        rw [units_none, Int.mul_zero, e]
    · rw [show runAfter r (.lf b a k c) = ([(k * units r (.lf b a k c), c)], 0) from if_neg z]
      cases g with
      | keep b' a' =>
        show (merged [(k * units r (.lf b a k c), (Fm.keep b' a').after c)], (0 : Int)) = if k * units r (.lf b a k c) = 0 then ([], 0) else ([(k * units r (.lf b a k c), (Fm.keep b' a').after c)], 0)
        rw [if_neg z]
        rfl
      | lf b' a' k' c' =>
        show (if k' * units ([(k * units r (.lf b a k c), c)], 0) (.lf b' a' k' c') = 0 then (([] : List (Int × Int)), (0 : Int)) else ([(k' * units ([(k * units r (.lf b a k c), c)], 0) (.lf b' a' k' c'), c')], 0)) =
          if k * ((Fm.lf b' a' k' c').after c + 1) * k' * units r (.lf b a k c) = 0 then ([], 0) else ([(k * ((Fm.lf b' a' k' c').after c + 1) * k' * units r (.lf b a k c), c')], 0)
        rw [units_one, show k' * (k * units r (.lf b a k c) * ((Fm.lf b' a' k' c').after c + 1)) = k * ((Fm.lf b' a' k' c').after c + 1) * k' * units r (.lf b a k c) by
          simp only [Int.mul_assoc, Int.mul_comm, Int.mul_left_comm]]
      | cr b' a' k' =>
        show (([] : List (Int × Int)), k' * units ([(k * units r (.lf b a k c), c)], 0) (.cr b' a' k')) = ([], k * ((Fm.cr b' a' k').after c + 1) * k' * units r (.lf b a k c))
        rw [units_one, show k' * (k * units r (.lf b a k c) * ((Fm.cr b' a' k').after c + 1)) = k * ((Fm.cr b' a' k').after c + 1) * k' * units r (.lf b a k c) by
          simp only [Int.mul_assoc, Int.mul_comm, Int.mul_left_comm]]
  | cr b a k =>
    cases g with
    | keep b' a' => rfl
    | lf b' a' k' c' =>
      show (if k' * units ([], k * units r (.cr b a k)) (.lf b' a' k' c') = 0 then (([] : List (Int × Int)), (0 : Int)) else ([(k' * units ([], k * units r (.cr b a k)) (.lf b' a' k' c'), c')], 0)) =
        if k * 1 * k' * units r (.cr b a k) = 0 then ([], 0) else ([(k * 1 * k' * units r (.cr b a k), c')], 0)
      rw [units_none, Int.mul_one, show k' * (k * units r (.cr b a k)) = k * k' * units r (.cr b a k) by simp only [Int.mul_assoc, Int.mul_comm, Int.mul_left_comm]]
    | cr b' a' k' =>
      show (([] : List (Int × Int)), k' * units ([], k * units r (.cr b a k)) (.cr b' a' k')) = ([], k * 1 * k' * units r (.cr b a k))
      rw [units_none, Int.mul_one, show k' * (k * units r (.cr b a k)) = k * k' * units r (.cr b a k) by simp only [Int.mul_assoc, Int.mul_comm, Int.mul_left_comm]]
end Lx
/-! promises of defs that are called where no repr is at work -/
namespace Lx
open PySem PySem.Spec L2
open PyProof.Rows (AllBare IntsAre)
/-- as FnOk, at callers in which no guarded call (a repr, a comparison) runs -/
structure FnG (P : Program) (w : World) (K : PySem.W.Frag) (mg : Str → Option Value) (base : Heap) (CX : CXT) (k : Nat) (f : Addr) (fd : FuncData) (ps : List Str) (sp : Sp) : Prop where
  len : ∀ vs H Q E, sp vs H Q E → vs.length = ps.length
  go : ∀ (A : Around) (outer : List Env) (s : Shared) (H : Hp) (args : Args) (us : List Value) (vs : List V) (Q : VK) (E : XK), Room k A → A.guards = some [] → Env0 P w K mg base A outer s H → BindsTo s fd args (ps.zip us) → Vals vs us → sp vs H Q E →
    codeAny (model P w) A (.call (.ref f) args) (CR CX outer P w H s Q E) s
section
variable {P : Program} {w : World} {K : PySem.W.Frag} {mg : Str → Option Value} {base : Heap} {CX : CXT}
theorem FnG.of {k : Nat} {f : Addr} {fd : FuncData} {ps : List Str} {sp : Sp} (F : FnOk P w K mg base CX k f fd ps sp) : FnG P w K mg base CX k f fd ps sp :=
  ⟨F.len, fun A outer s H args us vs Q E hr _ he hb hv hs => F.run A outer s H args us vs Q E hr he hb hv hs⟩
/-- a def's promise by its body -/
theorem okG {x qual : Str} {st : Stmt} {f : Addr} {fd : FuncData} {N ps : List Str} {k : Nat} {sp : Sp} (F : Fun K x qual st f fd) (S : FnScope N ps (defScope st)) (len : ∀ vs H Q E, sp vs H Q E → vs.length = ps.length)
    (hb : ∀ (cdv : Value) (A : Around) (outer : List Env) (s : Shared) (H : Hp) (vs : List V) (Q : VK) (E : XK), Room k (A.deeper (PyProof.Rows.envOfC qual (defScope st) s.heap.objs.size f cdv)) → A.guards = some [] → sp vs H Q E →
      ∃ t, PSs (cxOf CX P w K mg base N qual (defScope st) f cdv A outer s H E) (defBody st) t ∧ t { nx := fun _ H' => Q .non H', rt := Q } (start N vs) H) : FnG P w K mg base CX (k + 1) f fd ps sp := by
  obtain ⟨oc, od, kV, doc, pm, an, cdv, ct, osl, rfl, lk, hcd⟩ := F.ex
  refine ⟨len, fun A outer s H args us vs Q E hr hg e0 hbd r hsp => ?_⟩
  have X : K.In s.heap := e0.mod.kin.keeps fun b o e => (e0.bs b o e).1
  have lim : s.heap.NoLimit := e0.mod.nolimit.keeps fun b o e => (e0.bs b o e).1
  refine codeAny_call_function hr.depth (X _ _ lk) rfl S.co S.gen rfl (PySem.W.codeRec_of X hcd) (hbd _ _ _ _ ?_)
  refine wpAny_newFunctionEnv_cells S.kind (fun y hy => ?_) fun env he s1 x1 => ?_
  · obtain ⟨n, v⟩ := y
    rcases S.par n (List.of_mem_zip hy).1 with q | q
    · exact .inl q
    · exact .inr ⟨q, PySem.W.cellsFrom_some _ _ _ (.inl q)⟩
  · subst he
    refine ⟨lim.keeps x1.toInCall.keep, codeAny_func ?_⟩
    obtain ⟨t, ht, hq⟩ := hb cdv A outer s H vs Q E (hr.deeper _) hg hsp
    have I := inv_start (CX := CX) (E := E) S hr.hd e0 (len _ _ _ _ hsp) r x1
    refine wpAny_mono (ht.run [] s1 (start N vs) H _ I hq) (fun fl s2 z => ?_) fun _ _ z => z
    rcases fl with _ | _ | _ | u
    all_goals first
      | (obtain ⟨_, _, _, q⟩ := z; exact q.elim)
      | (obtain ⟨σ2, H2, J, q⟩ := z; exact ⟨V.non, H2, J.os, J.bare, J.base, J.hok, rfl, q⟩)
      | (obtain ⟨v2, σ2, H2, J, rv, q⟩ := z; exact ⟨v2, H2, J.os, J.bare, J.base, J.hok, rv, q⟩)
end
section
variable {X : Cx} {CX : CXT} {k : Nat} {f : Addr} {fd : FuncData} {ps : List Str} {sp : Sp} {dvs : List V} {ds : List Value} {E : XK} {x : Str} {p pos : Pos} {e : Expr} {es : List Expr} {t : TA}
/-- f(e, ..) -/
theorem pe_callG (F : FnG X.prog X.w X.K X.mg X.base CX k f fd ps sp) (hG : X.A.guards = some []) (hr : Room k X.A) (hg : Gl X x) (hm : X.mg x = some (.ref f)) (hk : PySem.W.keepIn X.K (.ref f) = true) (hb : Binds X.K fd ps ds) (hd : Vals dvs ds) (hx : Passes CX X E)
    (ha : PA X (e :: es) t) (hdb : (x == ("__debug__" : Str)) = false := by decide) (he : starEach (e :: es) X.env = (false, eval e X.env) :: starEach es X.env := by rfl) (hpl : (backTo pos (starEach es X.env)).any (·.1) = false := by rfl) :
    PE X (.Call (.Name x p) (e :: es) [] pos) (tCall sp dvs E t) := by
  refine ⟨fun pins s σ H Q I h => ?_⟩
  refine wpAny_Call_Name_kw (ld_glob I hg hm ?_ hdb)
  refine PySem.W.callWith_K (h₀ := X.base) I.ok.mod.kin hk (thn (ha.run pos pins s σ H _ I h) fun us s1 ⟨vs, H1, I1, r, q⟩ => ⟨I1.kIn, ?_⟩) he hpl
  have r2 : Vals (vs ++ dvs) (us ++ ds) := r.append hd
  have hl : (us ++ ds).length = ps.length := by rw [← r2.length]; exact F.len _ _ _ _ q
  show wpAny _ _ (call (.ref f) us) _ _ _
  refine wpAny_call (codeAny_mono (F.go X.A X.stack s1 H1 ⟨us, []⟩ (us ++ ds) (vs ++ dvs) Q E hr hG I1.env0 (hb s1 us I1.kIn hl) r2 q) fun res s' hq => ?_)
  rcases res with er | fl
  · exact hx pins σ H1 s1 er s' I1 hq
  · rcases fl with _ | _ | _ | u
    all_goals first
      | exact I1.after hq
      | exact False.elim hq
end
/-- the heap in which nothing but the script is told -/
def onlyAt (a : Addr) (o : Obj) (ns : List Int) : Hp := fun b => if b = a then some (.frz o (.lst (ns.map V.int))) else none
section
variable {P : Program} {w : World} {K : PySem.W.Frag} {mg mb : Str → Option Value} {CX : CXT} {k : Nat} {fa a : Addr} {fd : FuncData} {x : Str} {sp : Sp} {s : Shared} {vs : List Value} {ns : List Int}
/-- the law's call, from an abstract heap that tells of the script at most -/
theorem lawFrom (KX : K.In s.heap) (hns : s.heap.Ns mainGlobals mg) (hbl : s.heap.Ns builtinsNs mb) (hbb : ∀ x : Str, x ≠ "__name__" → mb x = bootBuiltins x) (hlim : s.heap.NoLimit) (hg : s.gens = #[]) {o : Obj} (ho : s.heap.get? a = some o) (hdict : ∀ es ep, o.data ≠ .dict es ep)
    (hr : Room k callerA) (F : ∀ base : Heap, K.In base → base.Ns mainGlobals mg → FnG P w K mg base CX k fa fd [x] sp) (hbind : ∀ (s : Shared) (u : Value), BindsTo s fd ⟨[u], []⟩ [(x, u)])
    (H : Hp) (hok : HOk P w H s.heap) (hA : ∀ b, H b ≠ none → b = a ∧ K.lookup a = none ∧ H a = some (.frz o (.lst (ns.map V.int)))) (hsp : sp [.ref a] H (fun v _ => v = .bl true) fun _ _ _ => False) (hCX : ∀ e s', CX [] H s (fun _ _ _ => False) e s' → False) :
    codeAny (model P w) callerA (.call (.ref fa) ⟨[.ref a], []⟩) (fun r s' => r = .ok (.ret (.bool true)) ∧ OldK s.heap s'.heap ∧ s'.os = s.os ∧ AllBare s'.gens) s := by
  have free : ∀ {b : Addr} {u : Obj}, s.heap.get? b = some u → (∃ es ep, u.data = .dict es ep) → H b = none := fun {b u} e ⟨es, ep, d⟩ => by
    cases q : H b with
    | none => rfl
    | some z =>
      obtain ⟨rfl, _, _⟩ := hA b (by rw [q]; simp)
      rw [ho] at e
      cases e
      exact (hdict es ep d).elim
  have nsK : ∀ {b : Addr} {m : Str → Option Value}, s.heap.Ns b m → (hidT s.heap H).Ns b m := fun {b m} ⟨u, es, ep, e, d, r⟩ => ⟨u, es, ep, hidT_get e (free e ⟨es, ep, d⟩), d, r⟩
  have kb : K.In (hidT s.heap H) := fun b u e => hidT_get (KX b u e) (by
    cases q : H b with
    | none => rfl
    | some z =>
      obtain ⟨rfl, q2, _⟩ := hA b (by rw [q]; simp)
      rw [q2] at e
      cases e)
  have hM : Mod K mg (hidT s.heap H) := ⟨kb, nsK hns, ⟨mb, nsK hbl, hbb⟩, let ⟨mc, h1, h2⟩ := hlim; ⟨mc, nsK h1, h2⟩⟩
  have e0 : Env0 P w K mg (hidT s.heap H) callerA [] s H := ⟨rfl, hM, fun b u e => of_hidT e, Nat.le_of_eq (hidT_size _ _), trivial, fun b hb => absurd (show b ∈ ([] : List Addr) from hb) (by simp), hok, .of_eq hg⟩
  refine codeAny_mono ((F _ kb (nsK hns)).go callerA [] s H ⟨[.ref a], []⟩ [.ref a] [.ref a] _ _ hr rfl e0 (hbind s (.ref a)) (.cons rfl .nil) hsp) fun r s' h => ?_
  rcases r with e | fl
  · exact (hCX e s' h).elim
  · rcases fl with _ | _ | _ | u
    all_goals first
      | exact False.elim h
      | skip
    obtain ⟨v, H', os, bare, un, hok', r', q⟩ := h
    obtain rfl : v = .bl true := q
    obtain rfl : u = Value.bool true := r'
    refine ⟨rfl, OldK.of_keep fun b u e => ?_, os, bare⟩
    cases q : H b with
    | none => exact un.keep b u e q (fun z => absurd (show b ∈ ([] : List Addr) from z) (by simp)) (by simp)
    | some z =>
      obtain ⟨rfl, _, q3⟩ := hA b (by rw [q]; simp)
      obtain ⟨e2, _⟩ := hok' b _ (un.frzs b o _ q3)
      rw [ho] at e
      cases e
      exact e2
theorem lawCall (KX : K.In s.heap) (hns : s.heap.Ns mainGlobals mg) (hbl : s.heap.Ns builtinsNs mb) (hbb : ∀ x : Str, x ≠ "__name__" → mb x = bootBuiltins x) (hlim : s.heap.NoLimit) (hg : s.gens = #[])
    (ha : s.heap.get? a = some { cls := .type "list", data := .seq vs.toArray }) (hi : IntsAre vs ns) (hl : ns.length ≤ sizeLine) (hr : Room k callerA)
    (F : ∀ base : Heap, K.In base → base.Ns mainGlobals mg → FnG P w K mg base CX k fa fd [x] sp) (hbind : ∀ (s : Shared) (u : Value), BindsTo s fd ⟨[u], []⟩ [(x, u)])
    (hsp : ∀ H : Hp, SqL K H a (ns.map V.int) → sp [.ref a] H (fun v _ => v = .bl true) fun _ _ _ => False) (hCX : ∀ H e s', CX [] H s (fun _ _ _ => False) e s' → False) :
    codeAny (model P w) callerA (.call (.ref fa) ⟨[.ref a], []⟩) (fun r s' => r = .ok (.ret (.bool true)) ∧ OldK s.heap s'.heap ∧ s'.os = s.os ∧ AllBare s'.gens) s := by
  have rv := vals_ints hi
  cases hk : K.lookup a with
  | some o =>
    have e := KX a o hk
    rw [ha] at e
    cases e
    refine lawFrom KX hns hbl hbb hlim hg ha (fun _ _ z => by cases z) hr F hbind (ns := ns) (fun _ => none) (fun b u z => by cases z) (fun b z => absurd rfl z) (hsp _ ?_) (hCX _)
    exact .inr ⟨_, vs.toArray, _, hk, rfl, rfl, rfl, by rw [List.size_toArray, hi.length]; exact hl, by simpa using rv⟩
  | none =>
    refine lawFrom KX hns hbl hbb hlim hg ha (fun _ _ z => by cases z) hr F hbind (ns := ns) (onlyAt a { cls := .type "list", data := .seq vs.toArray } ns) (fun b u z => ?_) (fun b z => ?_) (hsp _ (.inl (.inr ⟨_, if_pos rfl⟩))) (hCX _)
    · by_cases hb : b = a
      · have q := (if_pos hb).symm.trans z
        cases q
        subst hb
        exact ⟨ha, by rw [List.length_map]; exact hl, vs, _, rv, ha⟩
      · have q := (if_neg hb).symm.trans z
        cases q
    · by_cases hb : b = a
      · exact ⟨hb, hk, if_pos rfl⟩
      · exact absurd (if_neg hb) z
end
/-- the end of a law's row -/
theorem endG {l : PySem.W.OpenLaw} {n k : Nat} {q : Program} {loose : List Str} {XP : (Str → Option Value) → Heap → Prop} {YP : World → Heap → Prop} {d : DefRec} {K : Params → PySem.W.Frag} {CX : World → CXT} {sp : World → Sp} {x : Str}
    (hn : l.most = some n) (hn2 : n ≤ sizeLine) (hdf : d.params.defaults = []) (hr : Room k callerA) (hY : ∀ (w : World) (h : Heap), YP w h → (K w.params).In h)
    (F : ∀ (w : World) (mg : Str → Option Value) (fa : Addr) (h : Heap), (K w.params).In h → h.Ns mainGlobals mg → mg d.name = some (.ref fa) →
      ∃ fd : FuncData, (∀ (s : Shared) (u : Value), BindsTo s fd ⟨[u], []⟩ [(x, u)]) ∧ ∀ base : Heap, (K w.params).In base → base.Ns mainGlobals mg → FnG l.prog w (K w.params) mg base (CX w) k fa fd [x] (sp w))
    (hsp : ∀ (w : World) (H : Hp) (a : Addr) (ns : List Int), ns.length ≤ n → SqL (K w.params) H a (ns.map V.int) → sp w [.ref a] H (fun v _ => v = .bl true) fun _ _ _ => False)
    (hCX : ∀ (w : World) (H : Hp) (s : Shared) (e : Value) (s' : Shared), CX w [] H s (fun _ _ _ => False) e s' → False) : PySem.W.WalkO q loose XP YP l.row.toRowW d [] (fun f vs => PySem.call f vs) := by
  refine Att.attach_call hn hdf fun w s₀ s₁ mg mb fa o pm cd doc a vs ns G Y ho hd hcd hmg hobj hints hlen hg => ?_
  obtain ⟨fd, hb, hF⟩ := F w mg fa _ (hY w _ Y) G.T.g hmg
  exact lawCall (hY w _ Y) G.T.g G.T.b G.T.builtins G.T.nolimit hg hobj hints (Nat.le_trans hlen hn2) hr hF hb (fun H hS => hsp w H a ns hlen hS) fun H e s' => hCX w H s₁ e s'
end Lx
namespace Lx
open PySem PySem.Spec L2
/-! ### repr of data -/
structure Fit (d : PyData) : Prop where
  can : d.showable = true
  no : d.hasDict = false
  dep : d.depth ≤ 40
  len : d.shown.length ≤ sizeLine
/-- repr(x), x data -/
def rRepr (K : PySem.W.Frag) : List V → Hp → VK → Prop := fun xs H Q => ∃ x d, xs = [x] ∧ Dp K H x d ∧ Fit d ∧ Q (.str d.shown) H
theorem call_reprD {X : Cx} (hG : X.A.guards = some []) (hu : X.A.units + 64 < cLine) : CallR X (.builtin "repr") (rRepr X.K) := by
  intro pins s σ H xs us Q I r h
  obtain ⟨x, d, rfl, hd, F, q⟩ := h
  obtain ⟨u, rfl, r1⟩ := vals1 r
  obtain ⟨as, rd⟩ := Dp.reads I d x u hd r1
  have big : ∀ a : Addr, u = .ref a → wpAny (model X.prog X.w) X.A (call (.builtin "repr") [u]) (EP X pins σ Q) X.xe s := fun a e => by
    subst e
    exact repr_of_reads' rd F.can (PyData.noDict_hsm F.no) hG (by have := F.dep; omega) (fun _ _ e => e) (fun h' t tk kp => ⟨.str d.shown, H, I.kept (t' := tk) kp, ⟨t, rfl⟩, q⟩) F.len
  cases hd with
  | non =>
    cases r1
    exact P.repr_of_none ⟨.str _, H, I.tok _, ⟨_, rfl⟩, q⟩
  | bl b =>
    cases r1
    exact P.repr_of_bool ⟨.str _, H, I.tok _, ⟨_, rfl⟩, by cases b <;> exact q⟩
  | int i =>
    obtain ⟨t, rfl⟩ := r1
    exact P.repr_of_int (of_decide_eq_true F.can) ⟨.str _, H, I.tok _, ⟨_, rfl⟩, q⟩
  | str y =>
    obtain ⟨t, rfl⟩ := r1
    exact P.repr_of_str ⟨.str _, H, I.tok _, ⟨_, rfl⟩, q⟩ F.len
  | lst _ _ => exact big _ r1
  | tup _ _ => exact big _ r1
/-! ### which class is which -/
section
variable {K : PySem.W.Frag} {file : Str} {mg : Str → Option Value} {L C D : Addr} {nm qual nm2 qual2 : Str} {st st2 : Stmt}
theorem ErrC.some_ (T : ErrC K file mg L nm qual st C) : (PySem.W.clsIn K C).isSome = true := by
  obtain ⟨cd, e, _⟩ := T.chain
  rw [e]; rfl
theorem LineC.some_ (T : LineC K mg L) : (PySem.W.clsIn K L).isSome = true := by
  obtain ⟨n, q, N, bs, sn, sub, ab, col, dd, k0, k1, k2, k3, k5, hL⟩ := T.cls
  unfold PySem.W.clsIn
  rw [hL] <;> rfl
theorem kit_ref {b : Bool} (h1 : (PySem.W.clsIn K D).isSome = true) (h2 : PySem.W.typeIn K (.ref D) = some (.type "type")) (T : ErrC K file mg L nm qual st C) (h : (Value.ref C :: .ref L :: HandSPX.veTail).contains (.ref D) = b) : PySem.W.kitOne K (.ref C) (.ref D) = some b := by
  unfold PySem.W.kitOne
  by_cases e : C = D
  · subst e
    have z : (Value.ref C == Value.ref C) = true := by simp
    rw [if_pos z, ← h]
    simp
  · have z : ¬ (Value.ref C == Value.ref D) = true := by simpa using e
    rw [if_neg z]
    show (if ((PySem.W.clsIn K D).isSome && PySem.W.typeIn K (.ref D) == some (.type "type")) = true then PySem.W.subIn K (.ref C) (.ref D) else none) = some b
    rw [h1, h2, if_pos (by rfl)]
    exact (T.under _).trans (by rw [h])
theorem kit_err (T : ErrC K file mg L nm qual st C) (T2 : ErrC K file mg L nm2 qual2 st2 D) (hD : D ≠ L) : PySem.W.kitOne K (.ref C) (.ref D) = some (decide (C = D)) := by
  refine kit_ref T2.some_ T2.ty T ?_
  rw [List.contains_cons, List.contains_cons]
  have e1 : (Value.ref D == Value.ref L) = false := by simpa using hD
  have e2 : List.contains HandSPX.veTail (Value.ref D) = false := by rfl
  rw [e1, e2]
  by_cases e : C = D
  · subst e; simp
  · have z : (Value.ref D == Value.ref C) = false := by simpa using Ne.symm e
    rw [z, decide_eq_false e]; rfl
theorem kit_line (TL : LineC K mg L) (T : ErrC K file mg L nm qual st C) : PySem.W.kitOne K (.ref C) (.ref L) = some true := kit_ref TL.some_ TL.ty T (by simp)
theorem kit_ve (T : ErrC K file mg L nm qual st C) : PySem.W.kitOne K (.ref C) (.type "ValueError") = some true := by
  unfold PySem.W.kitOne
  rw [if_neg (by simp)]
  show (if PySem.W.kitMeta "ValueError" = true then PySem.W.subIn K (.ref C) (.type "ValueError") else none) = some true
  rw [if_pos (by decide +kernel)]
  exact (T.under _).trans (by rfl)
end
/-! ### data that repr can write -/
/-- ints below 2 ^ 400, texts of plain signs -/
def small : PyData → Bool
  | .none | .bool _ => true
  | .int i => decide (i.natAbs < 2 ^ 400)
  | .str x => x.cps.toList.all fun c => decide (c < 128)
  | .list xs | .tuple xs => smallAll xs
  | .dict _ => false
where smallAll : List PyData → Bool
  | [] => true
  | x :: xs => small x && smallAll xs
theorem int_log {i : Int} (h : i.natAbs < 2 ^ 400) : i.natAbs.log2 < 400 := PySem.Flt.log2_lt_of (by decide) h
theorem int_shown {i : Int} (h : i.natAbs < 2 ^ 400) : (PyData.shown (.int i)).length ≤ 401 := by
  have e := int_text_length_le (k := 400) (by decide) (int_log h)
  show (Str.ofString (toString i)).length ≤ 401
  rw [ofString_length]
  omega
mutual
theorem small_can : ∀ d : PyData, small d = true → d.showable = true
  | .none, _ => rfl
  | .bool _, _ => rfl
  | .int i, h => by
    have e := int_log (of_decide_eq_true (show decide (i.natAbs < 2 ^ 400) = true by simpa only [small] using h))
    simp only [PyData.showable]
    exact decide_eq_true (by omega)
  | .str _, _ => rfl
  | .list xs, h => by
    simp only [PyData.showable]
    exact small_canAll xs (by simpa only [small] using h)
  | .tuple xs, h => by
    simp only [PyData.showable]
    exact small_canAll xs (by simpa only [small] using h)
  | .dict _, h => by simp [small] at h
theorem small_canAll : ∀ xs : List PyData, small.smallAll xs = true → PyData.showableAll xs = true
  | [], _ => rfl
  | x :: xs, h => by
    have h' : small x = true ∧ small.smallAll xs = true := by simpa only [small.smallAll, Bool.and_eq_true] using h
    simp only [PyData.showableAll, Bool.and_eq_true]
    exact ⟨small_can x h'.1, small_canAll xs h'.2⟩
end
mutual
theorem small_no : ∀ d : PyData, small d = true → d.hasDict = false
  | .none, _ => rfl
  | .bool _, _ => rfl
  | .int i, h => rfl
  | .str _, _ => rfl
  | .list xs, h => by
    simp only [PyData.hasDict]
    exact small_noAll xs (by simpa only [small] using h)
  | .tuple xs, h => by
    simp only [PyData.hasDict]
    exact small_noAll xs (by simpa only [small] using h)
  | .dict _, h => by simp [small] at h
theorem small_noAll : ∀ xs : List PyData, small.smallAll xs = true → PyData.hasDictAll xs = false
  | [], _ => rfl
  | x :: xs, h => by
    have h' : small x = true ∧ small.smallAll xs = true := by simpa only [small.smallAll, Bool.and_eq_true] using h
    simp only [PyData.hasDictAll, Bool.or_eq_false_iff]
    exact ⟨small_no x h'.1, small_noAll xs h'.2⟩
end
mutual
theorem small_leaves : ∀ d : PyData, small d = true → d.leavesShort 401 = true
  | .none, _ => rfl
  | .bool _, _ => rfl
  | .int i, h => by
    have e := int_shown (of_decide_eq_true (show decide (i.natAbs < 2 ^ 400) = true by simpa only [small] using h))
    simp only [PyData.leavesShort]
    exact decide_eq_true e
  | .str x, h => by
    simp only [PyData.leavesShort, List.all_eq_true, decide_eq_true_eq]
    simp only [small, List.all_eq_true, decide_eq_true_eq] at h
    intro c hc
    exact Nat.lt_of_lt_of_le (h c hc) (by decide)
  | .list xs, h => by
    simp only [PyData.leavesShort]
    exact small_leavesAll xs (by simpa only [small] using h)
  | .tuple xs, h => by
    simp only [PyData.leavesShort]
    exact small_leavesAll xs (by simpa only [small] using h)
  | .dict _, h => by simp [small] at h
theorem small_leavesAll : ∀ xs : List PyData, small.smallAll xs = true → PyData.leavesShortAll 401 xs = true
  | [], _ => rfl
  | x :: xs, h => by
    have h' : small x = true ∧ small.smallAll xs = true := by simpa only [small.smallAll, Bool.and_eq_true] using h
    simp only [PyData.leavesShortAll, Bool.and_eq_true]
    exact ⟨small_leaves x h'.1, small_leavesAll xs h'.2⟩
end
theorem fit_small {d : PyData} (h : small d = true) (hd : d.depth ≤ 40) (hb : d.bulk ≤ 40000) : Fit d := by
  refine ⟨small_can d h, small_no d h, hd, ?_⟩
  have e := PyData.shown_le_bulk 401 (by decide) d (small_leaves d h)
  have e2 : (401 + 2) * d.bulk ≤ 403 * 40000 := Nat.mul_le_mul (by decide) hb
  rw [sizeLine_eq]
  omega
end Lx
namespace Lx
open PySem PySem.Spec L2 PyProof.Rows
/-! ### f(k = v, ..) of a def -/
section
variable {X : Cx} {CX : CXT} {k : Nat} {f : Addr} {fd : FuncData} {ps ks : List Str} {sp : Sp} {E : XK} {x : Str} {p pos : Pos} {kws : List Keyword} {tk : TA} {g : List Value → List Value → List Value} {gV : List V → List V → List V}
theorem pe_callK0 (F : FnOk X.prog X.w X.K X.mg X.base CX k f fd ps sp) (hr : Room k X.A) (hg : Gl X x) (hm : X.mg x = some (.ref f)) (hk : PySem.W.keepIn X.K (.ref f) = true) (hb : KBinds X.K fd ps ks g gV) (hx : Passes CX X E)
    (hkw : PK X kws tk) (hall : (backToKw pos (keywordEach kws X.env)).all (·.1.isSome) = true := by rfl) (hks : (backToKw pos (keywordEach kws X.env)).filterMap (·.1) = ks := by rfl)
    (hdb : (x == ("__debug__" : Str)) = false := by decide) (hpl : ((backTo pos (starEach [] X.env)).any (·.1) || (backToKw pos (keywordEach kws X.env)).any (·.1.isNone)) = false := by rfl) :
    PE X (.Call (.Name x p) [] kws pos) (tCallK sp gV E tNil tk) := by
  refine ⟨fun pins s σ H Q I h => ?_⟩
  refine wpAny_Call_Name_kw (ld_glob I hg hm ?_ hdb)
  refine PySem.W.callWith_KW0 (h₀ := X.base) I.ok.mod.kin hk hall ?_ hpl
  refine thn (hkw.run pos pins s σ H _ I h) fun ws s2 ⟨zs, H2, I2, rz, q2⟩ => ⟨I2.kIn, ?_⟩
  rw [hks]
  exact run_fnk (us := []) (vs := []) F hr hb hx I2 .nil rz q2
end
/-- two keywords, the second parameter's first -/
def g21 (α : Type) : List α → List α → List α
  | [], [a, b] => [b, a]
  | _, _ => []
def g1 (α : Type) : List α → List α → List α
  | [], [a] => [a]
  | _, _ => []
theorem kb21 {K : PySem.W.Frag} {x qual : Str} {st : Stmt} {f : Addr} {fd : FuncData} {p1 p2 : Str} (F : Fun K x qual st f fd)
    (h : ∀ (kV doc pm : Value) (an : Option Addr) (cdv ct a b : Value), bindArgs (PySem.W.fnOf x qual (defArgs st) (defBody st) (defScope st) .none kV doc pm an cdv ct) ⟨[], [(p2, a), (p1, b)]⟩ = pure [(p1, b), (p2, a)]) : KBinds K fd [p1, p2] [p2, p1] (g21 Value) (g21 V) := by
  obtain ⟨oc, od, kV, doc, pm, an, cdv, ct, osl, rfl, lk, hcd⟩ := F.ex
  refine ⟨fun s us ws _ hl => ?_, fun {vs us zs ws} r1 r2 => ?_⟩
  · match us, ws, hl with
    | [], [a, b], _ => exact .of_eq (h kV doc pm an cdv ct a b)
    | [], [], hl => exact absurd hl (by simp [g21])
    | [], [_], hl => exact absurd hl (by simp [g21])
    | [], _ :: _ :: _ :: _, hl => exact absurd hl (by simp [g21])
    | _ :: _, _, hl => exact absurd hl (by simp [g21])
  · cases r1 with
    | cons _ _ => exact .nil
    | nil =>
      cases r2 with
      | nil => exact .nil
      | cons a t =>
        cases t with
        | nil => exact .nil
        | cons b t =>
          cases t with
          | nil => exact .cons b (.cons a .nil)
          | cons _ _ => exact .nil
theorem kb1 {K : PySem.W.Frag} {x qual : Str} {st : Stmt} {f : Addr} {fd : FuncData} {p1 : Str} (F : Fun K x qual st f fd)
    (h : ∀ (kV doc pm : Value) (an : Option Addr) (cdv ct a : Value), bindArgs (PySem.W.fnOf x qual (defArgs st) (defBody st) (defScope st) .none kV doc pm an cdv ct) ⟨[], [(p1, a)]⟩ = pure [(p1, a)]) : KBinds K fd [p1] [p1] (g1 Value) (g1 V) := by
  obtain ⟨oc, od, kV, doc, pm, an, cdv, ct, osl, rfl, lk, hcd⟩ := F.ex
  refine ⟨fun s us ws _ hl => ?_, fun {vs us zs ws} r1 r2 => ?_⟩
  · match us, ws, hl with
    | [], [a], _ => exact .of_eq (h kV doc pm an cdv ct a)
    | [], [], hl => exact absurd hl (by simp [g1])
    | [], _ :: _ :: _, hl => exact absurd hl (by simp [g1])
    | _ :: _, _, hl => exact absurd hl (by simp [g1])
  · cases r1 with
    | cons _ _ => exact .nil
    | nil =>
      cases r2 with
      | nil => exact .nil
      | cons a t =>
        cases t with
        | nil => exact .cons a .nil
        | cons _ _ => exact .nil
end Lx
/-! texts repeated -/
namespace Lx
open PySem PySem.Spec L2
/-- the signs of a text, n times -/
def rep (x : Str) (n : Nat) : Str := ⟨((List.replicate n x.cps.toList).flatten).toArray⟩
theorem rep_list (x : Str) (n : Nat) : (rep x n).cps.toList = (List.replicate n x.cps.toList).flatten := rfl
theorem rep_len (x : Str) (n : Nat) : (rep x n).length = x.length * n := by
  show ((List.replicate n x.cps.toList).flatten).toArray.size = x.cps.size * n
  rw [List.size_toArray, List.length_flatten, List.map_replicate, List.sum_replicate_nat, Array.length_toList, Nat.mul_comm]
theorem rep_one (x : Str) : rep x 1 = x := by
  have e : (rep x 1).cps.toList = x.cps.toList := by simp [rep_list]
  exact Str.ext' (Array.toList_inj.mp e)
theorem rep_zero (x : Str) : rep x 0 = Str.empty := rfl
theorem fold_rep (a : Array Nat) : ∀ (n : Nat) (b : Array Nat), ((List.replicate n a).foldl (· ++ ·) b).toList = b.toList ++ (List.replicate n a.toList).flatten
  | 0, b => by simp
  | n + 1, b => by
    rw [List.replicate_succ, List.foldl_cons, fold_rep a n, List.replicate_succ, List.flatten_cons, Array.toList_append, List.append_assoc]
theorem rep_fold (x : Str) (n : Nat) : (⟨(List.replicate n x.cps).foldl (· ++ ·) #[]⟩ : Str) = rep x n := by
  have e : ((List.replicate n x.cps).foldl (· ++ ·) #[]).toList = (rep x n).cps.toList := by
    rw [fold_rep, rep_list]; rfl
  exact Str.ext' (Array.toList_inj.mp e)
theorem rep_empty (x : Str) (n : Nat) (h : x.length = 0) : rep x n = x := by
  have e : x.cps.toList = [] := List.eq_nil_of_length_eq_zero (by rw [Array.length_toList]; exact h)
  have e2 : (rep x n).cps.toList = x.cps.toList := by
    rw [rep_list, e]
    induction n with
    | zero => rfl
    | succ n ih => rw [List.replicate_succ, List.flatten_cons, ih]; rfl
  exact Str.ext' (Array.toList_inj.mp e2)
/-- text * k -/
def rRepS : R2 := fun x y H Q => ∃ (z : Str) (k : Int), x = .str z ∧ y = .int k ∧ 0 ≤ k ∧ k < 1000000000 ∧ z.length * k.toNat ≤ sizeLine ∧ Q (.str (rep z k.toNat)) H
theorem op_repS {X : Cx} : OpR X (binaryOp .Mult) rRepS := by
  intro pins s σ H x y v u Q I rx ry h
  obtain ⟨z, k, rfl, rfl, h0, h1, hz, q⟩ := h
  obtain ⟨t, rfl⟩ := rx
  obtain ⟨t', rfl⟩ := ry
  have hlong : PySem.Builtin.Str.tooLong (z.length * k.toNat) = false := by
    unfold PySem.Builtin.Str.tooLong
    exact decide_eq_false (by omega)
  refine P.mul_str (by rw [decide_eq_false (by omega), decide_eq_false (by omega)]; rfl) (fun hk _ => ?_) (fun _ _ => hlong) ?_
  · have e : (z.length : Int) * k ≤ 2 ^ 63 - 1 := by
      have e1 : (z.length : Int) * k = ((z.length * k.toNat : Nat) : Int) := by
        rw [Int.natCast_mul, Int.toNat_of_nonneg h0]
      have e2 : sizeLine ≤ 9223372036854775807 := by rw [sizeLine_eq]; decide
      rw [e1]
      omega
    have hkp : 0 < k := by omega
    have := Int.le_ediv_of_mul_le hkp e
    omega
  · by_cases hk : k < 1
    · rw [if_pos hk]
      have e : k.toNat = 0 := by omega
      rw [e, rep_zero] at q
      exact ⟨by decide, ⟨.str _, H, I.tok _, ⟨_, rfl⟩, q⟩⟩
    · rw [if_neg hk]
      by_cases h2 : (k == 1 || z.length == 0) = true
      · rw [if_pos h2]
        have e : rep z k.toNat = z := by
          rcases Bool.or_eq_true_iff.mp h2 with e | e
          · have e' : k.toNat = 1 := by have := beq_iff_eq.mp e; omega
            rw [e', rep_one]
          · exact rep_empty _ _ (beq_iff_eq.mp e)
        rw [e] at q
        exact ⟨.str _, H, I, ⟨_, rfl⟩, q⟩
      · rw [if_neg h2, rep_fold]
        exact ⟨by rw [rep_len]; exact hz, ⟨.str _, H, I.tok _, ⟨_, rfl⟩, q⟩⟩
end Lx
namespace Lw
open PySem PySem.Spec L2 Lx
theorem same_upd {H : Hp} {p : Addr} {o : HO} (h : H p = none) : Same H (upd H p o) := fun b x e => by
  rw [upd_ne (ne_of_none e h)]
  exact e
abbrev steps : Str := "UDMN"
def ChOk (x : Str) : Prop := ∀ c ∈ x.cps.toList, c ∈ steps.cps.toList
abbrev nothing : Fm := .keep 0 0
def stepF (c : Nat) : Fm := if c = 85 then .keep 0 1 else if c = 68 then .keep 1 0 else if c = 77 then .lf 0 0 1 0 else .cr 0 0 1
def formL (cs : List Nat) : Fm := cs.foldl (fun f c => f.both (stepF c)) nothing
def formOf (x : Str) : Fm := formL x.cps.toList
def FLe (L : Nat) : Fm → Prop
  | .keep b a => 0 ≤ b ∧ b ≤ L ∧ 0 ≤ a ∧ a ≤ L
  | .lf b a k c => 0 ≤ b ∧ b ≤ L ∧ 0 ≤ a ∧ a ≤ L ∧ 0 < k ∧ Sm (13 * L + 1) k ∧ 0 ≤ c ∧ c ≤ L
  | .cr b a k => 0 ≤ b ∧ b ≤ L ∧ 0 ≤ a ∧ a ≤ L ∧ 0 < k ∧ Sm (13 * L + 1) k
theorem sm_le {L : Nat} {x : Int} (h0 : 0 ≤ x) (h : x ≤ L) : Sm (13 * L + 1) x := by
  have h1 : L < 2 ^ L := Nat.lt_two_pow_self
  have h2 : 2 ^ L ≤ 2 ^ (13 * L + 1) := Nat.pow_le_pow_right (by decide) (by omega)
  unfold Sm
  omega
theorem FLe.ok {L : Nat} : ∀ {f : Fm}, FLe L f → f.Ok (13 * L + 1)
  | .keep _ _, ⟨h1, h2, h3, h4⟩ => ⟨h1, h3, sm_le h1 h2, sm_le h3 h4⟩
  | .lf _ _ _ _, ⟨h1, h2, h3, h4, h5, h6, h7, h8⟩ => ⟨h1, h3, h5, h7, sm_le h1 h2, sm_le h3 h4, h6, sm_le h7 h8⟩
  | .cr _ _ _, ⟨h1, h2, h3, h4, h5, h6⟩ => ⟨h1, h3, h5, sm_le h1 h2, sm_le h3 h4, h6⟩
theorem step_cases {c : Nat} (h : c ∈ steps.cps.toList) : stepF c = .keep 0 1 ∨ stepF c = .keep 1 0 ∨ stepF c = .lf 0 0 1 0 ∨ stepF c = .cr 0 0 1 := by
  unfold stepF
  split
  · exact .inl rfl
  · split
    · exact .inr (.inl rfl)
    · split
      · exact .inr (.inr (.inl rfl))
      · exact .inr (.inr (.inr rfl))
theorem sm_mul {L : Nat} {k x : Int} (hk : Sm (13 * L + 1) k) (h0 : 0 ≤ x) (h : x < 8192) : Sm (13 * (L + 1) + 1) (k * x * 1) := by
  have e : Sm 13 x := by
    unfold Sm
    have : (2 : Nat) ^ 13 = 8192 := by decide
    omega
  rw [Int.mul_one]
  exact (hk.mul e).mono (by omega)
theorem sm_up {L : Nat} {k : Int} (hk : Sm (13 * L + 1) k) : Sm (13 * (L + 1) + 1) k := hk.mono (by omega)
theorem pp (x : Int) : 0 ≤ (if x > 0 then x else 0) ∧ ((if x > 0 then x else 0) = x ∨ ((if x > 0 then x else 0) = 0 ∧ x ≤ 0)) := by
  by_cases h : x > 0
  · rw [if_pos h]; omega
  · rw [if_neg h]; omega
theorem FLe.step {L : Nat} (hL : L ≤ 7000) {c : Nat} (hc : c ∈ steps.cps.toList) {f : Fm} (h : FLe L f) : FLe (L + 1) (f.both (stepF c)) := by
  cases f with
  | keep b a =>
    obtain ⟨h1, h2, h3, h4⟩ := h
    have p1 := pp (0 - a)
    have p2 := pp (a - 0)
    have p3 := pp (1 - a)
    have p4 := pp (a - 1)
    have one : Sm (13 * (L + 1) + 1) 1 := sm_le (L := L + 1) (by decide) (by omega)
    rcases step_cases hc with e | e | e | e <;> rw [e] <;> simp only [Fm.both, Fm.ahead, Fm.b, Fm.a, FLe]
    · exact ⟨by omega, by omega, by omega, by omega⟩
    · exact ⟨by omega, by omega, by omega, by omega⟩
    · exact ⟨by omega, by omega, by omega, by omega, by decide, one, by decide, by omega⟩
    · exact ⟨by omega, by omega, by omega, by omega, by decide, one⟩
  | lf b a k d =>
    obtain ⟨h1, h2, h3, h4, h5, h6, h7, h8⟩ := h
    have p1 := pp (d - 0)
    have p2 := pp (d - 1)
    rcases step_cases hc with e | e | e | e <;> rw [e] <;> simp only [Fm.both, Fm.after, Fm.b, Fm.a, FLe]
    · exact ⟨h1, by omega, h3, by omega, h5, sm_up h6, by omega, by omega⟩
    · exact ⟨h1, by omega, h3, by omega, h5, sm_up h6, by omega, by omega⟩
    · refine ⟨h1, by omega, h3, by omega, ?_, sm_mul h6 (by omega) (by omega), by decide, by omega⟩
      rw [Int.mul_one]
      exact Int.mul_pos h5 (by omega)
    · refine ⟨h1, by omega, h3, by omega, ?_, sm_mul h6 (by omega) (by omega)⟩
      rw [Int.mul_one]
      exact Int.mul_pos h5 (by omega)
  | cr b a k =>
    obtain ⟨h1, h2, h3, h4, h5, h6⟩ := h
    rcases step_cases hc with e | e | e | e <;> rw [e] <;> simp only [Fm.both, FLe, Int.mul_one]
    · exact ⟨h1, by omega, h3, by omega, h5, sm_up h6⟩
    · exact ⟨h1, by omega, h3, by omega, h5, sm_up h6⟩
    · exact ⟨h1, by omega, h3, by omega, h5, sm_up h6, by decide, by omega⟩
    · exact ⟨h1, by omega, h3, by omega, h5, sm_up h6⟩
/-- the forms of the steps, and of no step -/
structure StepT (K : PySem.W.Frag) (w : World) (mg : Str → Option Value) (aN aS : Addr) : Prop where
  gN : mg "NOTHING" = some (.ref aN)
  n : ∀ H : Hp, FmAt K H (.ref aN) nothing
  gS : mg "STEP_FORMS" = some (.ref aS)
  s : ∀ c ∈ steps.cps.toList, ∃ v, KDct K w aS ⟨#[c]⟩ v ∧ ∀ H : Hp, FmAt K H v (stepF c)
theorem Same.own {H H' : Hp} {p : Addr} {o : HO} (s : Same H H') (n : H p = none) : Same H (upd H' p o) := fun b x e => by
  rw [upd_ne (ne_of_none e n)]
  exact s b x e
theorem SqT.lstUpd {K : PySem.W.Frag} {H : Hp} {a p : Addr} {xs ys : List V} {o : HO} (h : SqT K H a xs) (e : H p = some (.lst ys)) : SqT K (upd H p o) a xs := by
  have ne : ∀ o', H a = some o' → (∀ zs, o' ≠ .lst zs) → a ≠ p := fun o' h1 h2 z => by
    subst z
    rw [e] at h1
    exact h2 _ (Option.some.inj h1).symm
  rcases h with (h | ⟨q, h⟩) | h
  · exact .inl (.inl (by rw [upd_ne (ne _ h (fun zs z => by cases z))]; exact h))
  · exact .inl (.inr ⟨q, by rw [upd_ne (ne _ h (fun zs z => by cases z))]; exact h⟩)
  · exact .inr h
theorem Prs.lstUpd {K : PySem.W.Frag} {H : Hp} {p : Addr} {ys : List V} {o : HO} (e : H p = some (.lst ys)) : ∀ {vs : List V} {gs : List (Int × Int)}, Prs K H vs gs → Prs K (upd H p o) vs gs
  | _, _, .nil => .nil
  | _, _, .cons ⟨q, h1, h2⟩ t => .cons ⟨q, h1, by rw [upd_ne (ne_of h2 e (by intro z; cases z))]; exact h2⟩ (Prs.lstUpd e t)
theorem Prs.back {K : PySem.W.Frag} {H : Hp} : ∀ {vs : List V} {gs : List (Int × Int)} {x : Int × Int}, Prs K H vs (gs ++ [x]) → ∃ ws v, vs = ws ++ [v] ∧ Prs K H ws gs ∧ PrAt H v x
  | _, [], x, h => by
    cases h with
    | cons h1 t =>
      cases t
      exact ⟨[], _, rfl, .nil, h1⟩
  | _, g :: gs, x, h => by
    cases h with
    | cons h1 t =>
      obtain ⟨ws, v, rfl, a, b⟩ := Prs.back (gs := gs) t
      exact ⟨_ :: ws, v, rfl, .cons h1 a, b⟩
theorem snoc_or {α : Type} : ∀ l : List α, l = [] ∨ ∃ a x, l = a ++ [x]
  | [] => .inl rfl
  | x :: l => by
    rcases snoc_or l with rfl | ⟨a, y, rfl⟩
    · exact .inr ⟨[], x, rfl⟩
    · exact .inr ⟨x :: a, y, rfl⟩
theorem addTo_nil (x : Int × Int) : addTo [] x = [x] := rfl
theorem addTo_snoc (a : List (Int × Int)) (y x : Int × Int) : addTo (a ++ [y]) x = if y.2 = x.2 then a ++ [(y.1 + x.1, x.2)] else a ++ [y] ++ [x] := by
  unfold addTo
  rw [List.getLast?_concat]
  simp
theorem ixN_last {α : Type} (a : List α) (x : α) : ixN (a ++ [x]).length (-1) = some a.length := by
  unfold ixN
  simp
  omega
/-- numbers of groups that may be reckoned with -/
def RnSm (n : Nat) (r : List (Int × Int) × Int) : Prop := (∀ x ∈ r.1, 0 ≤ x.1 ∧ 0 ≤ x.2 ∧ Sm n x.1 ∧ Sm n x.2) ∧ 0 ≤ r.2 ∧ Sm n r.2 ∧ r.1.length ≤ 1000
theorem RnOk.sm {n : Nat} {r : List (Int × Int) × Int} (h : RnOk n r) : RnSm n r := ⟨fun x hx => by
  obtain ⟨i, hi⟩ := List.mem_iff_getElem?.mp hx
  obtain ⟨h1, h2, h3, h4, _⟩ := h.gs i x hi
  exact ⟨by omega, h2, h3, h4⟩, h.rest.1, h.rest.2, h.len⟩
theorem sum_mapV {gs : List (Int × Int)} {f : Fm} : ((gs.map fun x => x.1 * (f.after x.2 + 1))).sum = total (moved f gs) := by
  unfold total moved
  rw [List.map_map]
  rfl
theorem sum_sm {m : Nat} : ∀ (ts : List Int), (∀ t ∈ ts, 0 ≤ t ∧ Sm m t) → 0 ≤ ts.sum ∧ ts.sum ≤ ts.length * (2 ^ m : Nat)
  | [], _ => ⟨by decide, by simp⟩
  | t :: ts, h => by
    obtain ⟨h0, h1⟩ := h t (List.mem_cons_self ..)
    obtain ⟨i0, i1⟩ := sum_sm ts fun x hx => h x (List.mem_cons_of_mem _ hx)
    rw [List.sum_cons, List.length_cons]
    have e : ((ts.length + 1 : Nat) : Int) * (2 ^ m : Nat) = ts.length * (2 ^ m : Nat) + (2 ^ m : Nat) := by
      rw [Int.natCast_add, Int.add_mul]
      simp
    unfold Sm at h1
    rw [e]
    generalize ((ts.length : Nat) : Int) * (2 ^ m : Nat) = T at *
    generalize 2 ^ m = M at *
    omega
theorem units_ok {n : Nat} {r : List (Int × Int) × Int} {f : Fm} (h : RnSm n r) (hf : f.Ok n) : 0 ≤ units r f ∧ Sm (2 * n + 20) (units r f) := by
  have key : ∀ t ∈ (r.1.map fun x => x.1 * (f.after x.2 + 1)), 0 ≤ t ∧ Sm (2 * n + 4) t := by
    intro t ht
    obtain ⟨x, hx, rfl⟩ := List.mem_map.mp ht
    obtain ⟨x1, x2, x3, x4⟩ := h.1 x hx
    have hb := Fm.after_ok hf x2 x4
    have hb2 : Sm (n + 2) (f.after x.2 + 1) := hb.2.add (Nat.lt_of_lt_of_le (by decide : (1 : Int).natAbs < 2 ^ 1) (Nat.pow_le_pow_right (by decide) (by omega)))
    exact ⟨Int.mul_nonneg x1 (by have := hb.1; omega), (x3.mul hb2).mono (by omega)⟩
  obtain ⟨s0, s1⟩ := sum_sm _ key
  rw [sum_mapV] at s0 s1
  rw [List.length_map] at s1
  have hl := h.2.2.2
  have hr0 := h.2.1
  have hr1 : r.2.natAbs < 2 ^ n := h.2.2.1
  have e1 : (r.1.length : Int) * (2 ^ (2 * n + 4) : Nat) ≤ 1000 * (2 ^ (2 * n + 4) : Nat) := Int.mul_le_mul_of_nonneg_right (by omega) (Int.natCast_nonneg _)
  have e2 : 2 ^ (2 * n + 20) = 2 ^ (2 * n + 4) * 65536 := by rw [show 2 * n + 20 = (2 * n + 4) + 16 from rfl, Nat.pow_add]
  have e3 : 2 ^ n ≤ 2 ^ (2 * n + 4) := Nat.pow_le_pow_right (by decide) (by omega)
  unfold units Sm
  rw [e2]
  generalize total (moved f r.1) = T at *
  generalize (r.1.length : Int) * (2 ^ (2 * n + 4) : Nat) = U at *
  generalize 2 ^ (2 * n + 4) = M at *
  generalize 2 ^ n = N at *
  omega
/-- a run that has just been made -/
def NewRn (K : PySem.W.Frag) (H H' : Hp) (v : V) (r : List (Int × Int) × Int) : Prop :=
  ∃ p l xs, v = .ref p ∧ H p = none ∧ H l = none ∧ H' p = some (.tup [.ref l, .int r.2]) ∧ H' l = some (.lst xs) ∧ Prs K H' xs r.1
theorem RnSm.mono {n m : Nat} {r : List (Int × Int) × Int} (h : RnSm n r) (k : n ≤ m) : RnSm m r :=
  ⟨fun x hx => ⟨(h.1 x hx).1, (h.1 x hx).2.1, (h.1 x hx).2.2.1.mono k, (h.1 x hx).2.2.2.mono k⟩, h.2.1, h.2.2.1.mono k, h.2.2.2⟩
theorem NewRn.back {K : PySem.W.Frag} {H0 H H' : Hp} {v : V} {r : List (Int × Int) × Int} (s : Same H0 H) (h : NewRn K H H' v r) : NewRn K H0 H' v r := by
  obtain ⟨p, l, xs, h1, h2, h3, h4⟩ := h
  exact ⟨p, l, xs, h1, s.free h2, s.free h3, h4⟩
def CPowW (i j : Int) : Prop := 0 ≤ j ∧ j ≤ 64 ∧ i.natAbs < 2 ^ 200000
theorem op_powW {X : Cx} : OpR X (binaryOp .Pow) (rI CPowW fun i j => .int (i ^ j.toNat)) := opI fun i j _ _ _ _ _ hc q => by
  refine PyProof.Rows.pow_int hc.1 ?_ q
  have h1 := PySem.Flt.log2_lt_of (by decide : 0 < 200000) hc.2.2
  have h2 : Builtin.Int.intBits i ≤ i.natAbs.log2 + 1 := by
    unfold Builtin.Int.intBits
    split <;> omega
  have h3 : (Builtin.Int.intBits i : Int) ≤ 200000 := by omega
  have h4 := hc.2.1
  have h5 := hc.1
  have h6 : (Builtin.Int.intBits i : Int) * j ≤ 200000 * 64 := by
    refine Int.le_trans (Int.mul_le_mul_of_nonneg_right h3 h5) (Int.mul_le_mul_of_nonneg_left h4 (by decide))
  exact Int.le_trans h6 (by decide)
theorem fm {a b : Int} (hb : 0 < b) : 0 ≤ a.fmod b ∧ a.fmod b < b := by
  rw [Int.fmod_eq_emod_of_nonneg a (Int.le_of_lt hb)]
  exact ⟨Int.emod_nonneg a (by omega), Int.emod_lt_of_pos a hb⟩
theorem pow_sm {x : Int} (h0 : 0 ≤ x) (h : x < 2 ^ 200) {j : Int} (j0 : 0 ≤ j) (j1 : j ≤ 64) : CPowW x j := ⟨j0, j1, by
  have h1 : (x.natAbs : Int) < ((2 ^ 200 : Nat) : Int) := by
    rw [Int.natAbs_of_nonneg h0]
    exact h
  exact Nat.lt_of_lt_of_le (Int.ofNat_lt.mp h1) (Nat.pow_le_pow_right (by decide) (by decide))⟩
theorem cube_sm {x : Int} (h0 : 0 ≤ x) (h : x < 2147483648) : Sm 93 (x ^ Int.toNat 3) := by
  have e : x ^ Int.toNat 3 = x * x * x := by
    show x ^ 3 = _
    rw [Int.pow_succ, Int.pow_succ, Int.pow_succ, Int.pow_zero, Int.one_mul]
  have hx : Sm 31 x := by
    unfold Sm
    have : (2 : Nat) ^ 31 = 2147483648 := by decide
    omega
  rw [e]
  exact (hx.mul hx).mul hx
theorem p61 : (2 : Int) ^ Int.toNat 61 - 1 = 2305843009213693951 := by decide +kernel
theorem p61n : (2 : Int) ^ Int.toNat 61 - 1 ≠ 0 := by decide +kernel
theorem p61p : (0 : Int) < (2 : Int) ^ Int.toNat 61 - 1 := by decide +kernel
theorem p18n : (10 : Int) ^ Int.toNat 18 + 9 ≠ 0 := by decide +kernel
theorem while_fin {c : TT} {tb : TS} {D : Ends} {σ : St} {H : Hp} (Fin : St → Hp → Prop) (h : ∀ R : St → Hp → Prop, (∀ σ H, Fin σ H → R σ H) → tWhile c tb { D with nx := R } σ H) (hf : ∀ σ H, Fin σ H → D.nx σ H) : tWhile c tb D σ H := h D.nx hf
theorem dps {K : PySem.W.Frag} {H : Hp} : ∀ ds : List Int, DpAll K H (ds.map V.int) (ds.map PyData.int)
  | [] => .nil
  | d :: ds => .cons (.int d) (dps ds)
theorem shaped_ints (ds : List Int) : SeqAt.shaped (.list (ds.map .int)) = true := by
  have h1 : ∀ ds : List Int, PyData.canLayAll0 (ds.map .int) = true := fun ds => by
    induction ds with
    | nil => rfl
    | cons d ds ih => simp only [List.map_cons, PyData.canLayAll0, PyData.canLay0, ih, Bool.and_self]
  have h2 : ∀ ds : List Int, PyData.depthAll (ds.map .int) = 0 := fun ds => by
    induction ds with
    | nil => rfl
    | cons d ds ih => simp [PyData.depthAll, PyData.depth, ih]
  unfold SeqAt.shaped
  simp [PyData.canLay0, PyData.depth, h1, h2]
theorem p18 : (10 : Int) ^ Int.toNat 18 = 1000000000000000000 := by decide +kernel
def TT (K : PySem.W.Frag) (H : Hp) (a : Addr) : Prop := (∃ ys, H a = some (.tup ys)) ∨ (∃ o, K.lookup a = some o ∧ o.cls = .type "tuple") ∨ ∃ o ys, H a = some (.frz o (.tup ys))
mutual
inductive Dq (K : PySem.W.Frag) (H : Hp) : V → PyData → Prop
  | non : Dq K H .non .none
  | bl (b : Bool) : Dq K H (.bl b) (.bool b)
  | int (i : Int) : Dq K H (.int i) (.int i)
  | str (x : Str) : Dq K H (.str x) (.str x)
  | lst {a : Addr} {xs : List V} {ds : List PyData} : H a = some (.lst xs) → DqAll K H xs ds → Dq K H (.ref a) (.list ds)
  | tup {a : Addr} {xs : List V} {ds : List PyData} : TT K H a → SqT K H a xs → DqAll K H xs ds → Dq K H (.ref a) (.tuple ds)
inductive DqAll (K : PySem.W.Frag) (H : Hp) : List V → List PyData → Prop
  | nil : DqAll K H [] []
  | cons {v : V} {vs : List V} {d : PyData} {ds : List PyData} : Dq K H v d → DqAll K H vs ds → DqAll K H (v :: vs) (d :: ds)
end
theorem TT.ty {K : PySem.W.Frag} {H : Hp} {a : Addr} : TT K H a → TyX K H (.ref a) (.type "tuple")
  | .inl ⟨_, h⟩ => .base (.tup h)
  | .inr (.inl ⟨_, h, c⟩) => .kTuple h c
  | .inr (.inr ⟨_, _, h⟩) => .fTuple h
theorem SqT.tt {K : PySem.W.Frag} {H : Hp} {a : Addr} {xs : List V} : SqT K H a xs → TT K H a
  | .inl (.inl h) => .inl ⟨_, h⟩
  | .inl (.inr ⟨_, h⟩) => .inr (.inr ⟨_, _, h⟩)
  | .inr ⟨_, _, _, h, c, _⟩ => .inr (.inl ⟨_, h, c⟩)
theorem TT.same {K : PySem.W.Frag} {H H' : Hp} {a : Addr} (s : Same H H') : TT K H a → TT K H' a
  | .inl ⟨ys, h⟩ => .inl ⟨ys, s _ _ h⟩
  | .inr (.inl h) => .inr (.inl h)
  | .inr (.inr ⟨o, ys, h⟩) => .inr (.inr ⟨o, ys, s _ _ h⟩)
mutual
theorem Dq.same {K : PySem.W.Frag} {H H' : Hp} (s : Same H H') : ∀ {v : V} {d : PyData}, Dq K H v d → Dq K H' v d
  | _, _, .non => .non
  | _, _, .bl b => .bl b
  | _, _, .int i => .int i
  | _, _, .str x => .str x
  | _, _, .lst h t => .lst (s _ _ h) (DqAll.same s t)
  | _, _, .tup h1 h2 t => .tup (h1.same s) (sameT s h2) (DqAll.same s t)
theorem DqAll.same {K : PySem.W.Frag} {H H' : Hp} (s : Same H H') : ∀ {vs : List V} {ds : List PyData}, DqAll K H vs ds → DqAll K H' vs ds
  | _, _, .nil => .nil
  | _, _, .cons h t => .cons (Dq.same s h) (DqAll.same s t)
end
mutual
theorem Dq.dp {K : PySem.W.Frag} {H : Hp} : ∀ {v : V} {d : PyData}, Dq K H v d → Dp K H v d
  | _, _, .non => .non
  | _, _, .bl b => .bl b
  | _, _, .int i => .int i
  | _, _, .str x => .str x
  | _, _, .lst h t => .lst (.inl (.inl h)) (DqAll.dp t)
  | _, _, .tup _ h2 t => .tup h2 (DqAll.dp t)
theorem DqAll.dp {K : PySem.W.Frag} {H : Hp} : ∀ {vs : List V} {ds : List PyData}, DqAll K H vs ds → DpAll K H vs ds
  | _, _, .nil => .nil
  | _, _, .cons h t => .cons (Dq.dp h) (DqAll.dp t)
end
theorem DqAll.len {K : PySem.W.Frag} {H : Hp} : ∀ {vs : List V} {ds : List PyData}, DqAll K H vs ds → vs.length = ds.length
  | _, _, .nil => rfl
  | _, _, .cons _ t => by rw [List.length_cons, List.length_cons, DqAll.len t]
theorem DqAll.get {K : PySem.W.Frag} {H : Hp} : ∀ {vs : List V} {ds : List PyData}, DqAll K H vs ds → ∀ {i : Nat} {d : PyData}, ds[i]? = some d → ∃ v, vs[i]? = some v ∧ Dq K H v d
  | _, _, .nil, i, d, h => by simp at h
  | _, _, .cons h1 t, 0, d, h => by
    have e := Option.some.inj h
    subst e
    exact ⟨_, rfl, h1⟩
  | _, _, .cons h1 t, i + 1, d, h => DqAll.get t (i := i) h
mutual
def wd : PyData → Bool
  | .list xs | .tuple xs => decide (xs.length ≤ 5000) && wdAll xs
  | _ => true
def wdAll : List PyData → Bool
  | [] => true
  | x :: xs => wd x && wdAll xs
end
theorem wd_get : ∀ (xs : List PyData) (i : Nat) (x : PyData), wdAll xs = true → xs[i]? = some x → wd x = true
  | [], i, x, _, h => by simp at h
  | y :: ys, 0, x, h, e => by
    cases Option.some.inj e
    simp only [wdAll, Bool.and_eq_true] at h
    exact h.1
  | y :: ys, i + 1, x, h, e => by
    simp only [wdAll, Bool.and_eq_true] at h
    exact wd_get ys i x h.2 e
theorem depth_mem : ∀ (xs : List PyData) (i : Nat) (x : PyData), xs[i]? = some x → PyData.depth x ≤ PyData.depthAll xs := fun xs i x h => PyData.depth_le_depthAll xs x (List.mem_of_getElem? h)
def rIxA (K : PySem.W.Frag) : R2 := fun x y H Q => rIxL K x y H Q ∨ rIxT K x y H Q
theorem ix_any {X : Cx} {K : PySem.W.Frag} (h : X.K = K) : IxR X (rIxA K) := by
  subst h
  exact ix_list.or ix_tup
theorem ixA {K : PySem.W.Frag} {H H' : Hp} {a : Addr} {xs : List V} {j : Int} {i : Nat} {v : V} {Q : VK} (sm : Same H H') (h : SqL K H a xs ∨ SqT K H a xs) (e : j = i) (hv : xs[i]? = some v) (q : Q v H') : rIxA K (.ref a) (.int j) H' Q := by
  subst e
  rcases h with h | h
  · exact .inl ⟨a, xs, _, v, rfl, rfl, sm.seq h, atI_nat hv, q⟩
  · exact .inr ⟨a, xs, _, v, rfl, rfl, sameT sm h, atI_nat hv, q⟩
theorem ix_l {X : Cx} {K : PySem.W.Frag} (h : X.K = K) : IxR X (rIxL K) := by
  subst h
  exact ix_list
theorem far_sm {far : Int} (h0 : 4 ≤ far) (h : far < 2 ^ 97) : far.natAbs < 2 ^ 4000 := by
  have e : far.natAbs < 2 ^ 97 := by omega
  exact Nat.lt_of_lt_of_le e (Nat.pow_le_pow_right (by decide) (by decide))
def pd (gs : List (Int × Int)) : List PyData := gs.map fun x => .tuple [.int x.1, .int x.2]
theorem Prs.dp {K : PySem.W.Frag} {H : Hp} : ∀ {vs : List V} {gs : List (Int × Int)}, Prs K H vs gs → DpAll K H vs (pd gs)
  | _, _, .nil => .nil
  | _, _, .cons ⟨p, e, h⟩ t => by
    subst e
    exact .cons (.tup (.inl (.inl h)) (.cons (.int _) (.cons (.int _) .nil))) (Prs.dp t)
theorem pd_lay (gs : List (Int × Int)) : PyData.canLayAll0 (pd gs) = true := by
  unfold pd
  induction gs with
  | nil => rfl
  | cons g gs ih => simp only [List.map_cons, PyData.canLayAll0, PyData.canLay0, ih, Bool.and_self]
theorem pd_depth (gs : List (Int × Int)) : PyData.depthAll (pd gs) ≤ 1 := by
  unfold pd
  induction gs with
  | nil => simp [PyData.depthAll]
  | cons g gs ih =>
    simp only [List.map_cons, PyData.depthAll, PyData.depth]
    omega
theorem pd_shaped (gs : List (Int × Int)) : SeqAt.shaped (.list (pd gs)) = true := by
  have := pd_depth gs
  unfold SeqAt.shaped
  simp only [PyData.canLay0, pd_lay, PyData.depth, Bool.true_and]
  exact decide_eq_true (by omega)
theorem gsok_snoc {n : Nat} {gs : List (Int × Int)} {x : Int × Int} (h : GsOk n gs) (hl : ∀ a y, gs = a ++ [y] → y.2 ≠ x.2) (hx : 1 ≤ x.1 ∧ 0 ≤ x.2 ∧ Sm n x.1 ∧ Sm n x.2) : GsOk n (gs ++ [x]) := by
  intro i z hz
  by_cases hi : i < gs.length
  · rw [List.getElem?_append_left hi] at hz
    obtain ⟨h1, h2, h3, h4, h5⟩ := h i z hz
    refine ⟨h1, h2, h3, h4, fun y hy => ?_⟩
    by_cases hj : i + 1 < gs.length
    · rw [List.getElem?_append_left hj] at hy
      exact h5 y hy
    · have e : i + 1 = gs.length := by omega
      rw [e, List.getElem?_append_right (Nat.le_refl _), Nat.sub_self] at hy
      cases Option.some.inj hy
      rcases snoc_or gs with rfl | ⟨a, y', rfl⟩
      · simp at hi
      · have ea : i = a.length := by
          simp at e
          omega
        subst ea
        simp at hz
        subst hz
        exact Ne.symm (hl a y' rfl)
  · have hle : gs.length ≤ i := by omega
    rw [List.getElem?_append_right hle] at hz
    have e : i - gs.length = 0 := by
      have := (List.getElem?_eq_some_iff.mp hz).1
      simp at this
      omega
    rw [e] at hz
    cases Option.some.inj hz
    refine ⟨hx.1, hx.2.1, hx.2.2.1, hx.2.2.2, fun y hy => ?_⟩
    have := (List.getElem?_eq_some_iff.mp hy).1
    simp at this
    omega
def sameEnd (gs : List (Int × Int)) (j : Int) : Bool := match gs.getLast? with
  | some y => decide (y.2 = j)
  | none => false
theorem sameEnd_snoc (a : List (Int × Int)) (y : Int × Int) (j : Int) : sameEnd (a ++ [y]) j = decide (y.2 = j) := by
  unfold sameEnd
  rw [List.getLast?_concat]
theorem if_by {c : L2.TT} {A B : TS} {D : Ends} {σ : St} {H : Hp} (b : Bool) (R : Hp → Prop) (hc : ∀ K : Bool → Hp → Prop, (∀ H1, R H1 → K b H1) → c σ H K) (h : ∀ H1, R H1 → if b = true then A D σ H1 else B D σ H1) : tIfS c A B D σ H := hc _ h
theorem ix_t {X : Cx} {K : PySem.W.Frag} (h : X.K = K) : IxR X (rIxT K) := by
  subst h
  exact ix_tup
theorem gsok_front {n : Nat} {a : List (Int × Int)} {y : Int × Int} (h : GsOk n (a ++ [y])) : GsOk n a ∧ (∀ a' z, a = a' ++ [z] → z.2 ≠ y.2) ∧ 1 ≤ y.1 ∧ 0 ≤ y.2 := by
  refine ⟨fun i x hx => ?_, fun a' z e => ?_, ?_⟩
  · have hi := (List.getElem?_eq_some_iff.mp hx).1
    obtain ⟨h1, h2, h3, h4, h5⟩ := h i x (by rw [List.getElem?_append_left hi]; exact hx)
    refine ⟨h1, h2, h3, h4, fun w hw => ?_⟩
    have hi2 := (List.getElem?_eq_some_iff.mp hw).1
    exact h5 w (by rw [List.getElem?_append_left hi2]; exact hw)
  · subst e
    have := (h a'.length z (by simp)).2.2.2.2 y (by simp)
    exact fun q => this q.symm
  · have := h a.length y (by simp)
    exact ⟨this.1, this.2.1⟩
def MI (n t : Nat) (acc : List (Int × Int)) : Prop := GsOk (n + 11) acc ∧ (∀ x ∈ acc, x.1 ≤ (t : Int) * (2 ^ n : Nat)) ∧ acc.length ≤ t
theorem mi_sm {n t : Nat} {x : Int} (ht : t ≤ 1000) (h0 : 0 ≤ x) (h : x ≤ (t : Int) * (2 ^ n : Nat)) : Sm (n + 11) x := by
  have e : 2 ^ (n + 11) = 2 ^ n * 2048 := Nat.pow_add 2 n 11
  have e2 : (t : Int) * (2 ^ n : Nat) ≤ 1000 * (2 ^ n : Nat) := Int.mul_le_mul_of_nonneg_right (by omega) (Int.natCast_nonneg _)
  have e3 : 0 < 2 ^ n := Nat.two_pow_pos n
  unfold Sm
  rw [e]
  generalize (t : Int) * (2 ^ n : Nat) = T at *
  generalize 2 ^ n = M at *
  omega
theorem mi_step {n t : Nat} (ht : t < 1000) {acc : List (Int × Int)} {x : Int × Int} (h : MI n t acc) (x1 : 1 ≤ x.1) (x2 : Sm n x.1) (x3 : 0 ≤ x.2) (x4 : Sm (n + 1) x.2) : MI n (t + 1) (addTo acc x) := by
  obtain ⟨h1, h2, h3⟩ := h
  have hM : ((t + 1 : Nat) : Int) * (2 ^ n : Nat) = (t : Int) * (2 ^ n : Nat) + (2 ^ n : Nat) := by
    rw [Int.natCast_add, Int.add_mul]
    simp
  have hx : x.1 < (2 ^ n : Nat) := by
    unfold Sm at x2
    omega
  have ht0 : 0 ≤ (t : Int) * (2 ^ n : Nat) := Int.mul_nonneg (by omega) (Int.natCast_nonneg _)
  have up : ∀ y ∈ acc, y.1 ≤ ((t + 1 : Nat) : Int) * (2 ^ n : Nat) := fun y hy => by
    have := h2 y hy
    omega
  have xs : Sm (n + 11) x.1 := x2.mono (by omega)
  rcases snoc_or acc with rfl | ⟨a, y, rfl⟩
  · refine ⟨gsok_snoc (gs := []) (fun i z hz => by simp at hz) (fun a y e => by simp at e) ⟨x1, x3, xs, x4.mono (by omega)⟩, fun y hy => ?_, by show 1 ≤ t + 1; omega⟩
    have hy' : y = x := List.mem_singleton.mp hy
    rw [hy', hM]
    omega
  · rw [addTo_snoc]
    by_cases ey : y.2 = x.2
    · rw [if_pos ey]
      obtain ⟨g1, g2, g3, g4⟩ := gsok_front h1
      have hy1 := h2 y (by simp)
      have hs : y.1 + x.1 ≤ ((t + 1 : Nat) : Int) * (2 ^ n : Nat) := by omega
      refine ⟨gsok_snoc g1 (fun a' z e => by show z.2 ≠ x.2; rw [← ey]; exact g2 a' z e) ⟨by show 1 ≤ y.1 + x.1; omega, x3, mi_sm (t := t + 1) (by omega) (by show 0 ≤ y.1 + x.1; omega) hs, x4.mono (by omega)⟩, fun z hz => ?_, by simp only [List.length_append, List.length_cons, List.length_nil] at h3 ⊢; omega⟩
      rcases List.mem_append.mp hz with q | q
      · exact up z (List.mem_append.mpr (.inl q))
      · rw [List.mem_singleton.mp q]
        exact hs
    · rw [if_neg ey]
      refine ⟨gsok_snoc h1 (fun a' z e => by
        have := (List.append_inj' e rfl).2
        cases this
        exact ey) ⟨x1, x3, xs, x4.mono (by omega)⟩, fun z hz => ?_, by simp only [List.length_append, List.length_cons, List.length_nil] at h3 ⊢; omega⟩
      rcases List.mem_append.mp hz with q | q
      · exact up z q
      · rw [List.mem_singleton.mp q, hM]
        omega
theorem mi_fold {n : Nat} : ∀ (gs acc : List (Int × Int)) (t : Nat), t + gs.length ≤ 1000 → (∀ x ∈ gs, 1 ≤ x.1 ∧ Sm n x.1 ∧ 0 ≤ x.2 ∧ Sm (n + 1) x.2) → MI n t acc → MI n (t + gs.length) (gs.foldl addTo acc)
  | [], acc, t, _, _, h => h
  | g :: gs, acc, t, hl, hg, h => by
    have hl' : t + (gs.length + 1) ≤ 1000 := hl
    obtain ⟨g1, g2, g3, g4⟩ := hg g (List.mem_cons_self ..)
    have e := mi_fold gs (addTo acc g) (t + 1) (by omega) (fun x hx => hg x (List.mem_cons_of_mem _ hx)) (mi_step (by omega) h g1 g2 g3 g4)
    have e2 : t + 1 + gs.length = t + (g :: gs).length := by simp; omega
    rw [e2] at e
    exact e
theorem runAfter_ok {n : Nat} {r : List (Int × Int) × Int} {f : Fm} (h : RnOk n r) (hf : f.Ok n) : RnOk (3 * n + 40) (runAfter r f) := by
  have hu := units_ok (RnOk.sm h) hf
  cases f with
  | keep b a =>
    have m := mi_fold (n := n) (moved (.keep b a) r.1) [] 0 (by unfold moved; rw [List.length_map]; have := h.len; omega) (fun x hx => by
      obtain ⟨y, hy, rfl⟩ := List.mem_map.mp hx
      obtain ⟨i, hi⟩ := List.mem_iff_getElem?.mp hy
      obtain ⟨y1, y2, y3, y4, _⟩ := h.gs i y hi
      have := Fm.after_ok hf y2 y4
      exact ⟨y1, y3, this.1, this.2⟩) ⟨(fun i x hx => by simp at hx), (fun x hx => by cases hx), Nat.le_refl _⟩
    obtain ⟨m1, m2, m3⟩ := m
    refine ⟨fun i x hx => ?_, ⟨h.rest.1, h.rest.2.mono (by omega)⟩, ?_⟩
    · obtain ⟨q1, q2, q3, q4, q5⟩ := m1 i x hx
      exact ⟨q1, q2, q3.mono (by omega), q4.mono (by omega), q5⟩
    · have e : (moved (.keep b a) r.1).length = r.1.length := List.length_map ..
      have := h.len
      show (Lx.merged (moved (.keep b a) r.1)).length ≤ 1000
      unfold Lx.merged
      omega
  | lf b a k c =>
    by_cases z : k * units r (.lf b a k c) = 0
    · rw [show runAfter r (.lf b a k c) = ([], 0) from if_pos z]
      exact ⟨fun i x hx => by simp at hx, ⟨by decide, Nat.two_pow_pos _⟩, Nat.zero_le _⟩
    · rw [show runAfter r (.lf b a k c) = ([(k * units r (.lf b a k c), c)], 0) from if_neg z]
      have hp := Int.mul_nonneg (Int.le_of_lt hf.2.2.1) hu.1
      have hs := hf.2.2.2.2.2.2.1.mul hu.2
      exact ⟨gsok_snoc (gs := []) (fun i x hx => by simp at hx) (fun a y e => by simp at e) ⟨by show 1 ≤ k * units r (.lf b a k c); omega, hf.2.2.2.1, hs.mono (by omega), hf.2.2.2.2.2.2.2.mono (by omega)⟩, ⟨(by decide : (0 : Int) ≤ 0), Nat.two_pow_pos _⟩, by show 1 ≤ 1000; decide⟩
  | cr b a k =>
    have hs := hf.2.2.2.2.2.mul hu.2
    exact ⟨fun i x hx => by simp [runAfter] at hx, ⟨Int.mul_nonneg (Int.le_of_lt hf.2.2.1) hu.1, hs.mono (by omega)⟩, Nat.zero_le _⟩
theorem units_nothing {n : Nat} {r : List (Int × Int) × Int} (h : RnSm n r) : (r.1.map fun x => x.1 * (x.2 + 1)).sum + r.2 = units r nothing := by
  have e : moved nothing r.1 = r.1 := by
    unfold moved
    have : ∀ gs : List (Int × Int), (∀ x ∈ gs, 0 ≤ x.2) → gs.map (fun x => (x.1, nothing.after x.2)) = gs := by
      intro gs
      induction gs with
      | nil => intro _; rfl
      | cons g gs ih =>
        intro hg
        have h0 := hg g (List.mem_cons_self ..)
        have e0 : nothing.after g.2 = g.2 := by
          show (if g.2 - 0 > 0 then g.2 - 0 else 0) + 0 = g.2
          have := pp (g.2 - 0)
          omega
        rw [List.map_cons, ih fun x hx => hg x (List.mem_cons_of_mem _ hx), e0]
    exact this r.1 fun x hx => (h.1 x hx).2.1
  unfold units
  rw [e]
  rfl
def RnS (K : PySem.W.Frag) (H : Hp) (v : V) (l : Addr) (g : List (Int × Int) × Int) : Prop := ∃ p xs, v = .ref p ∧ H p = some (.tup [.ref l, .int g.2]) ∧ H l = some (.lst xs) ∧ Prs K H xs g.1
theorem NewRn.s {K : PySem.W.Frag} {H H' : Hp} {v : V} {g : List (Int × Int) × Int} : NewRn K H H' v g → ∃ l, H l = none ∧ RnS K H' v l g := fun ⟨p, l, xs, h1, h2, h3, h4, h5, h6⟩ => ⟨l, h3, p, xs, h1, h4, h5, h6⟩
theorem RnS.same {K : PySem.W.Frag} {H H' : Hp} {v : V} {l : Addr} {g : List (Int × Int) × Int} (s : Same H H') : RnS K H v l g → RnS K H' v l g := fun ⟨p, xs, h1, h2, h3, h4⟩ => ⟨p, xs, h1, s _ _ h2, s _ _ h3, h4.same s⟩
theorem RnS.rn {K : PySem.W.Frag} {H : Hp} {v : V} {l : Addr} {g : List (Int × Int) × Int} : RnS K H v l g → RnAt K H v l g := fun ⟨p, xs, h1, h2, h3, h4⟩ => ⟨p, h1, .inl (.inl h2), xs, .inl (.inl h3), h4⟩
theorem RnS.upd {K : PySem.W.Frag} {H : Hp} {v : V} {l l2 : Addr} {g : List (Int × Int) × Int} {ys : List V} {o : HO} (e : H l2 = some (.lst ys)) (ne : l ≠ l2) : RnS K H v l g → RnS K (upd H l2 o) v l g :=
  fun ⟨p, xs, h1, h2, h3, h4⟩ => ⟨p, xs, h1, by rw [upd_ne (ne_of h2 e (by intro z; cases z))]; exact h2, by rw [upd_ne ne]; exact h3, Prs.lstUpd e h4⟩
theorem RnS.ne {K : PySem.W.Frag} {H : Hp} {v : V} {l p : Addr} {g : List (Int × Int) × Int} (h : RnS K H v l g) (n : H p = none) : l ≠ p := by
  obtain ⟨_, _, _, _, h3, _⟩ := h
  exact ne_of_none h3 n
def rd (g : List (Int × Int) × Int) : PyData := .tuple [.list (pd g.1), .int g.2]
theorem Prs.dq {K : PySem.W.Frag} {H : Hp} : ∀ {vs : List V} {gs : List (Int × Int)}, Prs K H vs gs → DqAll K H vs (pd gs)
  | _, _, .nil => .nil
  | _, _, .cons ⟨p, e, h⟩ t => by
    subst e
    exact .cons (.tup (.inl ⟨_, h⟩) (.inl (.inl h)) (.cons (.int _) (.cons (.int _) .nil))) (Prs.dq t)
theorem RnS.dq {K : PySem.W.Frag} {H : Hp} {v : V} {l : Addr} {g : List (Int × Int) × Int} : RnS K H v l g → Dq K H v (rd g) := fun ⟨p, xs, h1, h2, h3, h4⟩ => by
  subst h1
  exact .tup (.inl ⟨_, h2⟩) (.inl (.inl h2)) (.cons (.lst h3 (Prs.dq h4)) (.cons (.int _) .nil))
def fdt : Fm → PyData
  | .keep b a => .tuple [.str "keep", .int b, .int a]
  | .lf b a k c => .tuple [.str "lf", .int b, .int a, .int k, .int c]
  | .cr b a k => .tuple [.str "cr", .int b, .int a, .int k]
theorem fm_dq {K : PySem.W.Frag} {H : Hp} {p : Addr} {f : Fm} (h : H p = some (.tup f.vs)) : Dq K H (.ref p) (fdt f) := by
  cases f with
  | keep b a => exact .tup (.inl ⟨_, h⟩) (.inl (.inl h)) (.cons (.str _) (.cons (.int _) (.cons (.int _) .nil)))
  | lf b a k c => exact .tup (.inl ⟨_, h⟩) (.inl (.inl h)) (.cons (.str _) (.cons (.int _) (.cons (.int _) (.cons (.int _) (.cons (.int _) .nil)))))
  | cr b a k => exact .tup (.inl ⟨_, h⟩) (.inl (.inl h)) (.cons (.str _) (.cons (.int _) (.cons (.int _) (.cons (.int _) .nil))))
theorem rd_shaped (g : List (Int × Int) × Int) : SeqAt.shaped (rd g) = true := by
  have := pd_depth g.1
  unfold SeqAt.shaped rd
  simp only [PyData.canLay0, PyData.canLayAll0, pd_lay, PyData.depth, PyData.depthAll, Bool.true_and, Bool.and_true]
  exact decide_eq_true (by omega)
theorem pd_wd (gs : List (Int × Int)) : wdAll (pd gs) = true := by
  unfold pd
  induction gs with
  | nil => rfl
  | cons g gs ih => simp only [List.map_cons, wdAll, wd, ih, Bool.and_true, List.length_cons, List.length_nil, Bool.and_self, decide_true]; exact decide_eq_true (by omega)
theorem rd_wd {g : List (Int × Int) × Int} (h : g.1.length ≤ 1000) : wd (rd g) = true := by
  have e : (pd g.1).length = g.1.length := List.length_map ..
  unfold rd
  simp only [wd, wdAll, pd_wd, List.length_cons, List.length_nil, Bool.and_true]
  rw [decide_eq_true (by omega : (pd g.1).length ≤ 5000)]
  simp
theorem rd_depth (g : List (Int × Int) × Int) : (rd g).depth ≤ 3 := by
  have := pd_depth g.1
  unfold rd
  simp only [PyData.depth, PyData.depthAll]
  omega
def shw (g : List (Int × Int) × Int) (f : Fm) : PyData := .list [rd g, fdt f]
theorem sm400 {x : Int} (h : Sm 100 x) : x.natAbs < 2 ^ 400 := Nat.lt_of_lt_of_le h (Nat.pow_le_pow_right (by decide) (by decide))
theorem pd_small : ∀ (gs : List (Int × Int)), (∀ x ∈ gs, Sm 100 x.1 ∧ Sm 100 x.2) → small.smallAll (pd gs) = true
  | [], _ => rfl
  | g :: gs, h => by
    have h1 := h g (List.mem_cons_self ..)
    have ih := pd_small gs fun x hx => h x (List.mem_cons_of_mem _ hx)
    unfold pd at ih ⊢
    simp only [List.map_cons, small.smallAll, small, ih, Bool.and_true]
    rw [decide_eq_true (sm400 h1.1), decide_eq_true (sm400 h1.2)]
    rfl
theorem pd_bulk (gs : List (Int × Int)) : PyData.bulkAll (pd gs) ≤ 20 * gs.length := by
  unfold pd
  induction gs with
  | nil => exact Nat.le_refl _
  | cons g gs ih =>
    simp only [List.map_cons, PyData.bulkAll, PyData.bulk, List.length_cons]
    omega
theorem fdt_small {f : Fm} (h : f.Ok 100) : small (fdt f) = true := by
  cases f with
  | keep b a =>
    obtain ⟨_, _, h1, h2⟩ := h
    simp only [fdt, small, small.smallAll]
    rw [decide_eq_true (sm400 h1), decide_eq_true (sm400 h2)]
    decide
  | lf b a k c =>
    obtain ⟨_, _, _, _, h1, h2, h3, h4⟩ := h
    simp only [fdt, small, small.smallAll]
    rw [decide_eq_true (sm400 h1), decide_eq_true (sm400 h2), decide_eq_true (sm400 h3), decide_eq_true (sm400 h4)]
    decide
  | cr b a k =>
    obtain ⟨_, _, _, h1, h2, h3⟩ := h
    simp only [fdt, small, small.smallAll]
    rw [decide_eq_true (sm400 h1), decide_eq_true (sm400 h2), decide_eq_true (sm400 h3)]
    decide
theorem shw_fit {g : List (Int × Int) × Int} {f : Fm} (h : RnOk 100 g) (hf : f.Ok 100) : Fit (shw g f) := by
  refine fit_small ?_ ?_ ?_
  · have e1 := pd_small g.1 fun x hx => by
      obtain ⟨i, hi⟩ := List.mem_iff_getElem?.mp hx
      exact ⟨(h.gs i x hi).2.2.1, (h.gs i x hi).2.2.2.1⟩
    unfold shw rd
    simp only [small, small.smallAll, e1, fdt_small hf, Bool.and_true, Bool.true_and]
    exact decide_eq_true (sm400 h.rest.2)
  · have e := rd_depth g
    have e2 : (fdt f).depth ≤ 1 := by cases f <;> simp [fdt, PyData.depth, PyData.depthAll]
    unfold shw
    simp only [PyData.depth, PyData.depthAll]
    omega
  · have e := pd_bulk g.1
    have e2 : (fdt f).bulk ≤ 200 := by cases f <;> (simp [fdt, PyData.bulk, PyData.bulkAll]; decide)
    have e3 := h.len
    unfold shw rd
    simp only [PyData.bulk, PyData.bulkAll]
    omega
/-- a def that is called by its name -/
structure Cl (P : Program) (w : World) (K : PySem.W.Frag) (mg : Str → Option Value) (base : Heap) (k : Nat) (nm : Str) (ps : List Str) (sp : Sp) (f : Addr) (fd : FuncData) : Prop where
  G : FnOk P w K mg base CX0 k f fd ps sp
  kp : PySem.W.keepIn K (.ref f) = true
  b : Binds K fd ps []
  g : mg nm = some (.ref f)
theorem upd_keep {H : Hp} {t l b : Addr} {o1 o2 o : HO} (nt : H t = none) (ne : b ≠ l) (h : H b = some o) : upd (upd H t o1) l o2 b = some o := by
  rw [upd_ne ne, upd_ne (ne_of_none h nt)]
  exact h
end Lw
namespace Lw
open PySem PySem.Spec L2 Lx
theorem wh3 : ∀ f : Fm, ¬ (HT.sIx f.vs.length 0 (some 3) = 0 ∧ HT.sIx f.vs.length f.vs.length none = f.vs.length)
  | .keep _ _ => show ¬ (HT.sIx 3 0 (some 3) = 0 ∧ HT.sIx 3 3 none = 3) by decide
  | .lf _ _ _ _ => show ¬ (HT.sIx 5 0 (some 3) = 0 ∧ HT.sIx 5 5 none = 5) by decide
  | .cr _ _ _ => show ¬ (HT.sIx 4 0 (some 3) = 0 ∧ HT.sIx 4 4 none = 4) by decide
theorem vs_len : ∀ f : Fm, f.vs.length ≤ 5
  | .keep _ _ => by show 3 ≤ 5; decide
  | .lf _ _ _ _ => Nat.le_refl 5
  | .cr _ _ _ => by show 4 ≤ 5; decide
def Fm.isKeep : Fm → Bool
  | .keep _ _ => true
  | _ => false
/-- units of one unit -/
def Fm.one : Fm → Fm → Int
  | .lf _ _ _ c, g => g.after c + 1
  | _, _ => 1
theorem nk_k {f : Fm} (h : Fm.isKeep f = false) : ∃ k, f.vs[3]? = some (.int k) := by
  cases f with
  | keep _ _ => cases h
  | lf _ _ k _ => exact ⟨k, rfl⟩
  | cr _ _ k => exact ⟨k, rfl⟩
theorem nk_ok {f : Fm} {n : Nat} {k : Int} (h : Fm.isKeep f = false) (o : f.Ok n) (e : f.vs[3]? = some (.int k)) : 0 < k ∧ Sm n k := by
  cases f with
  | keep _ _ => cases h
  | lf _ _ _ _ => cases e; exact ⟨o.2.2.1, o.2.2.2.2.2.2.1⟩
  | cr _ _ _ => cases e; exact ⟨o.2.2.1, o.2.2.2.2.2⟩
theorem nk_pos {f : Fm} {n : Nat} (h : Fm.isKeep f = false) (o : f.Ok n) : 0 < n := by
  obtain ⟨k, e⟩ := nk_k h
  have h1 := nk_ok h o e
  have h2 : k.natAbs < 2 ^ n := h1.2
  have h3 := h1.1
  rcases Nat.eq_zero_or_pos n with z | z
  · subst z
    omega
  · exact z
theorem one_ok {f g : Fm} {n : Nat} (h : Fm.isKeep f = false) (o : f.Ok n) (og : g.Ok n) : 0 < Fm.one f g ∧ Sm (n + 2) (Fm.one f g) := by
  have h4 : 2 ^ 2 ≤ 2 ^ (n + 2) := Nat.pow_le_pow_right (by decide) (by omega)
  cases f with
  | keep _ _ => cases h
  | lf b a k c =>
    have e := Fm.after_ok og o.2.2.2.1 o.2.2.2.2.2.2.2
    have e2 : 2 ^ (n + 2) = 2 ^ (n + 1) * 2 := Nat.pow_succ 2 (n + 1)
    have e3 : (g.after c).natAbs < 2 ^ (n + 1) := e.2
    have e4 := e.1
    have e5 : 1 ≤ 2 ^ (n + 1) := Nat.one_le_two_pow
    refine ⟨by show 0 < g.after c + 1; omega, ?_⟩
    show (g.after c + 1).natAbs < 2 ^ (n + 2)
    rw [e2]
    generalize 2 ^ (n + 1) = M at *
    omega
  | cr _ _ _ => exact ⟨(by decide : (0 : Int) < 1), Nat.lt_of_lt_of_le (by decide : (1 : Int).natAbs < 2 ^ 2) h4⟩
theorem wh4 : ∀ f : Fm, ¬ (HT.sIx f.vs.length 0 (some 4) = 0 ∧ HT.sIx f.vs.length f.vs.length none = f.vs.length)
  | .keep _ _ => show ¬ (HT.sIx 3 0 (some 4) = 0 ∧ HT.sIx 3 3 none = 3) by decide
  | .lf _ _ _ _ => show ¬ (HT.sIx 5 0 (some 4) = 0 ∧ HT.sIx 5 5 none = 5) by decide
  | .cr _ _ _ => show ¬ (HT.sIx 4 0 (some 4) = 0 ∧ HT.sIx 4 4 none = 4) by decide
/-- the run that a form which keeps no groups makes of so many units -/
def ofUnits (t : Int) : Fm → List (Int × Int) × Int
  | .keep _ _ => ([], 0)
  | .lf _ _ k c => if k * t = 0 then ([], 0) else ([(k * t, c)], 0)
  | .cr _ _ k => ([], k * t)
theorem runAfter_units {r : List (Int × Int) × Int} {f : Fm} (h : Fm.isKeep f = false) : runAfter r f = ofUnits (units r f) f := by
  cases f with
  | keep _ _ => cases h
  | lf _ _ _ _ => rfl
  | cr _ _ _ => rfl
/-- the lengths of forms by their words -/
structure LenT (K : PySem.W.Frag) (w : World) (mg : Str → Option Value) (aL : Addr) : Prop where
  g : mg "FORM_LENGTHS" = some (.ref aL)
  d : ∃ es n, KDict K w aL es n
  keep : ∃ t, PySem.W.nsIn K aL "keep" = some (some (.int 3 t))
  lf : ∃ t, PySem.W.nsIn K aL "lf" = some (some (.int 5 t))
  cr : ∃ t, PySem.W.nsIn K aL "cr" = some (some (.int 4 t))
theorem LenT.at {K : PySem.W.Frag} {w : World} {mg : Str → Option Value} {aL : Addr} (T : LenT K w mg aL) : ∀ f : Fm, ∃ t, PySem.W.nsIn K aL f.nm = some (some (.int f.vs.length t))
  | .keep _ _ => T.keep
  | .lf _ _ _ _ => T.lf
  | .cr _ _ _ => T.cr
theorem cut1 (f : Fm) : cutV f.vs (some 1) none = f.nums.map V.int := by cases f <;> rfl
theorem wh : ∀ f : Fm, ¬ (HT.sIx f.vs.length 0 (some 1) = 0 ∧ HT.sIx f.vs.length f.vs.length none = f.vs.length)
  | .keep _ _ => show ¬ (HT.sIx 3 0 (some 1) = 0 ∧ HT.sIx 3 3 none = 3) by decide
  | .lf _ _ _ _ => show ¬ (HT.sIx 5 0 (some 1) = 0 ∧ HT.sIx 5 5 none = 5) by decide
  | .cr _ _ _ => show ¬ (HT.sIx 4 0 (some 1) = 0 ∧ HT.sIx 4 4 none = 4) by decide
theorem np : ∀ f : Fm, 0 < f.nums.length
  | .keep _ _ => Nat.succ_pos _
  | .lf _ _ _ _ => Nat.succ_pos _
  | .cr _ _ _ => Nat.succ_pos _
theorem nums0 {f : Fm} {n : Nat} (h : f.Ok n) : ∀ x ∈ f.nums, 0 ≤ x := by
  intro x hx
  cases f with
  | keep b a =>
    obtain ⟨h1, h2, _⟩ := h
    simp only [Fm.nums, List.mem_cons, List.not_mem_nil, or_false] at hx
    rcases hx with rfl | rfl <;> assumption
  | lf b a k c =>
    obtain ⟨h1, h2, h3, h4, _⟩ := h
    simp only [Fm.nums, List.mem_cons, List.not_mem_nil, or_false] at hx
    rcases hx with rfl | rfl | rfl | rfl
    · exact h1
    · exact h2
    · omega
    · exact h4
  | cr b a k =>
    obtain ⟨h1, h2, h3, _⟩ := h
    simp only [Fm.nums, List.mem_cons, List.not_mem_nil, or_false] at hx
    rcases hx with rfl | rfl | rfl
    · exact h1
    · exact h2
    · omega
end Lw
namespace Lx
open PySem PySem.Spec L2
/-! ### data that repr can write -/
/-- ints below 2 ^ 400, texts of plain signs -/
def smallB (b : Nat) : PyData → Bool
  | .none | .bool _ => true
  | .int i => decide (i.natAbs < 2 ^ b)
  | .str x => x.cps.toList.all fun c => decide (c < 128)
  | .list xs | .tuple xs => smallAll xs
  | .dict _ => false
where smallAll : List PyData → Bool
  | [] => true
  | x :: xs => smallB b x && smallAll xs
theorem intB_log {b : Nat} (h0 : 0 < b) {i : Int} (h : i.natAbs < 2 ^ b) : i.natAbs.log2 < b := PySem.Flt.log2_lt_of h0 h
theorem intB_shown {b : Nat} (h0 : 0 < b) {i : Int} (h : i.natAbs < 2 ^ b) : (PyData.shown (.int i)).length ≤ b + 1 := by
  have e := int_text_length_le (k := b) h0 (intB_log h0 h)
  show (Str.ofString (toString i)).length ≤ b + 1
  rw [ofString_length]
  omega
mutual
theorem smallB_can {b : Nat} (h0 : 0 < b) (h1 : b ≤ 1900) : ∀ d : PyData, smallB b d = true → d.showable = true
  | .none, _ => rfl
  | .bool _, _ => rfl
  | .int i, h => by
    have e := intB_log h0 (of_decide_eq_true (show decide (i.natAbs < 2 ^ b) = true by simpa only [smallB] using h))
    simp only [PyData.showable]
    exact decide_eq_true (by omega)
  | .str _, _ => rfl
  | .list xs, h => by
    simp only [PyData.showable]
    exact smallB_canAll h0 h1 xs (by simpa only [smallB] using h)
  | .tuple xs, h => by
    simp only [PyData.showable]
    exact smallB_canAll h0 h1 xs (by simpa only [smallB] using h)
  | .dict _, h => by simp [smallB] at h
theorem smallB_canAll {b : Nat} (h0 : 0 < b) (h1 : b ≤ 1900) : ∀ xs : List PyData, smallB.smallAll b xs = true → PyData.showableAll xs = true
  | [], _ => rfl
  | x :: xs, h => by
    have h' : smallB b x = true ∧ smallB.smallAll b xs = true := by simpa only [smallB.smallAll, Bool.and_eq_true] using h
    simp only [PyData.showableAll, Bool.and_eq_true]
    exact ⟨smallB_can h0 h1 x h'.1, smallB_canAll h0 h1 xs h'.2⟩
end
mutual
theorem smallB_no {b : Nat} : ∀ d : PyData, smallB b d = true → d.hasDict = false
  | .none, _ => rfl
  | .bool _, _ => rfl
  | .int i, h => rfl
  | .str _, _ => rfl
  | .list xs, h => by
    simp only [PyData.hasDict]
    exact smallB_noAll xs (by simpa only [smallB] using h)
  | .tuple xs, h => by
    simp only [PyData.hasDict]
    exact smallB_noAll xs (by simpa only [smallB] using h)
  | .dict _, h => by simp [smallB] at h
theorem smallB_noAll {b : Nat} : ∀ xs : List PyData, smallB.smallAll b xs = true → PyData.hasDictAll xs = false
  | [], _ => rfl
  | x :: xs, h => by
    have h' : smallB b x = true ∧ smallB.smallAll b xs = true := by simpa only [smallB.smallAll, Bool.and_eq_true] using h
    simp only [PyData.hasDictAll, Bool.or_eq_false_iff]
    exact ⟨smallB_no x h'.1, smallB_noAll xs h'.2⟩
end
mutual
theorem smallB_leaves {b : Nat} (h0 : 0 < b) (h8 : 8 ≤ b) : ∀ d : PyData, smallB b d = true → d.leavesShort (b + 1) = true
  | .none, _ => rfl
  | .bool _, _ => rfl
  | .int i, h => by
    have e := intB_shown h0 (of_decide_eq_true (show decide (i.natAbs < 2 ^ b) = true by simpa only [smallB] using h))
    simp only [PyData.leavesShort]
    exact decide_eq_true e
  | .str x, h => by
    simp only [PyData.leavesShort, List.all_eq_true, decide_eq_true_eq]
    simp only [smallB, List.all_eq_true, decide_eq_true_eq] at h
    intro c hc
    exact Nat.lt_of_lt_of_le (h c hc) (by decide)
  | .list xs, h => by
    simp only [PyData.leavesShort]
    exact smallB_leavesAll h0 h8 xs (by simpa only [smallB] using h)
  | .tuple xs, h => by
    simp only [PyData.leavesShort]
    exact smallB_leavesAll h0 h8 xs (by simpa only [smallB] using h)
  | .dict _, h => by simp [smallB] at h
theorem smallB_leavesAll {b : Nat} (h0 : 0 < b) (h8 : 8 ≤ b) : ∀ xs : List PyData, smallB.smallAll b xs = true → PyData.leavesShortAll (b + 1) xs = true
  | [], _ => rfl
  | x :: xs, h => by
    have h' : smallB b x = true ∧ smallB.smallAll b xs = true := by simpa only [smallB.smallAll, Bool.and_eq_true] using h
    simp only [PyData.leavesShortAll, Bool.and_eq_true]
    exact ⟨smallB_leaves h0 h8 x h'.1, smallB_leavesAll h0 h8 xs h'.2⟩
end
theorem fit_b {b : Nat} {d : PyData} (h8 : 8 ≤ b) (h1 : b ≤ 1900) (h : smallB b d = true) (hd : d.depth ≤ 40) (hb : (b + 3) * d.bulk + (b + 1) ≤ 16777216) : Fit d := by
  refine ⟨smallB_can (by omega) h1 d h, smallB_no d h, hd, ?_⟩
  have e := PyData.shown_le_bulk (b + 1) (by omega) d (smallB_leaves (by omega) h8 d h)
  rw [sizeLine_eq]
  have e2 : (b + 1 + 2) * d.bulk = (b + 3) * d.bulk := rfl
  omega
end Lx
namespace Lw
open PySem PySem.Spec L2 Lx
/-! ### a chain step by step -/
def stepsL (r : List (Int × Int) × Int) (cs : List Nat) : List (Int × Int) × Int := cs.foldl (fun y c => runAfter y (stepF c)) r
theorem stepsL_snoc (r : List (Int × Int) × Int) (cs : List Nat) (c : Nat) : stepsL r (cs ++ [c]) = runAfter (stepsL r cs) (stepF c) := by
  unfold stepsL
  rw [List.foldl_append]
  rfl
theorem stepsL_append (r : List (Int × Int) × Int) (a b : List Nat) : stepsL r (a ++ b) = stepsL (stepsL r a) b := by
  unfold stepsL
  rw [List.foldl_append]
theorem formL_snoc (cs : List Nat) (c : Nat) : formL (cs ++ [c]) = (formL cs).both (stepF c) := by
  unfold formL
  rw [List.foldl_append]
  rfl
theorem merged_ok {n : Nat} (k : Nat) : ∀ gs : List (Int × Int), gs.length = k → GsOk n gs → Lx.merged gs = gs := by
  induction k with
  | zero =>
    intro gs h _
    rw [List.eq_nil_of_length_eq_zero h]
    rfl
  | succ k ih =>
    intro gs h hg
    rcases snoc_or gs with rfl | ⟨a, y, rfl⟩
    · rfl
    · obtain ⟨h1, h2, _⟩ := gsok_front hg
      rw [merged_snoc, ih a (by simpa using h) h1]
      rcases snoc_or a with rfl | ⟨b, z, rfl⟩
      · rfl
      · rw [addTo_snoc, if_neg (h2 b z rfl)]
theorem after_nothing {j : Int} (h : 0 ≤ j) : nothing.after j = j := by
  show (if j - 0 > 0 then j - 0 else 0) + 0 = j
  have := pp (j - 0)
  omega
theorem moved_nothing {gs : List (Int × Int)} (h : ∀ x ∈ gs, 0 ≤ x.2) : moved nothing gs = gs := by
  unfold moved
  induction gs with
  | nil => rfl
  | cons g gs ih =>
    rw [List.map_cons, ih fun x hx => h x (List.mem_cons_of_mem _ hx), after_nothing (h g (List.mem_cons_self ..))]
theorem runAfter_nothing {n : Nat} {r : List (Int × Int) × Int} (h : RnOk n r) : runAfter r nothing = r := by
  show (Lx.merged (moved nothing r.1), r.2) = r
  rw [moved_nothing (fun x hx => ((RnOk.sm h).1 x hx).2.1), merged_ok _ r.1 rfl h.gs]
theorem conv_form {n : Nat} {r : List (Int × Int) × Int} (h : RnOk n r) (k : Nat) : ∀ cs : List Nat, cs.length = k → runAfter r (formL cs) = stepsL r cs := by
  induction k with
  | zero =>
    intro cs e
    rw [List.eq_nil_of_length_eq_zero e]
    exact runAfter_nothing h
  | succ k ih =>
    intro cs e
    rcases snoc_or cs with rfl | ⟨a, c, rfl⟩
    · exact runAfter_nothing h
    · rw [formL_snoc, ← runAfter_both, ih a (by simpa using e), stepsL_snoc]
theorem conv_of {n : Nat} {r : List (Int × Int) × Int} (h : RnOk n r) (x : Str) : runAfter r (formOf x) = stepsL r x.cps.toList := conv_form h _ _ rfl
/-! ### forms of short chains -/
def FLs (L : Nat) : Fm → Prop
  | .keep b a => 0 ≤ b ∧ b ≤ L ∧ 0 ≤ a ∧ a ≤ L
  | .lf b a k c => 0 ≤ b ∧ b ≤ L ∧ 0 ≤ a ∧ a ≤ L ∧ 0 < k ∧ Sm (6 * L + 1) k ∧ 0 ≤ c ∧ c ≤ L
  | .cr b a k => 0 ≤ b ∧ b ≤ L ∧ 0 ≤ a ∧ a ≤ L ∧ 0 < k ∧ Sm (6 * L + 1) k
theorem sms_le {L : Nat} {x : Int} (h0 : 0 ≤ x) (h : x ≤ L) : Sm (6 * L + 1) x := by
  have h1 : L < 2 ^ L := Nat.lt_two_pow_self
  have h2 : 2 ^ L ≤ 2 ^ (6 * L + 1) := Nat.pow_le_pow_right (by decide) (by omega)
  unfold Sm
  omega
theorem FLs.ok {L : Nat} : ∀ {f : Fm}, FLs L f → f.Ok (6 * L + 1)
  | .keep _ _, ⟨h1, h2, h3, h4⟩ => ⟨h1, h3, sms_le h1 h2, sms_le h3 h4⟩
  | .lf _ _ _ _, ⟨h1, h2, h3, h4, h5, h6, h7, h8⟩ => ⟨h1, h3, h5, h7, sms_le h1 h2, sms_le h3 h4, h6, sms_le h7 h8⟩
  | .cr _ _ _, ⟨h1, h2, h3, h4, h5, h6⟩ => ⟨h1, h3, h5, sms_le h1 h2, sms_le h3 h4, h6⟩
theorem sms_mul {L : Nat} {k x : Int} (hk : Sm (6 * L + 1) k) (h0 : 0 ≤ x) (h : x < 64) : Sm (6 * (L + 1) + 1) (k * x * 1) := by
  have e : Sm 6 x := by
    unfold Sm
    have : (2 : Nat) ^ 6 = 64 := by decide
    omega
  rw [Int.mul_one]
  exact (hk.mul e).mono (by omega)
theorem sms_up {L : Nat} {k : Int} (hk : Sm (6 * L + 1) k) : Sm (6 * (L + 1) + 1) k := hk.mono (by omega)
theorem FLs.step {L : Nat} (hL : L ≤ 60) {c : Nat} (hc : c ∈ steps.cps.toList) {f : Fm} (h : FLs L f) : FLs (L + 1) (f.both (stepF c)) := by
  cases f with
  | keep b a =>
    obtain ⟨h1, h2, h3, h4⟩ := h
    have p1 := pp (0 - a)
    have p2 := pp (a - 0)
    have p3 := pp (1 - a)
    have p4 := pp (a - 1)
    have one : Sm (6 * (L + 1) + 1) 1 := sms_le (L := L + 1) (by decide) (by omega)
    rcases step_cases hc with e | e | e | e <;> rw [e] <;> simp only [Fm.both, Fm.ahead, Fm.b, Fm.a, FLs]
    · exact ⟨by omega, by omega, by omega, by omega⟩
    · exact ⟨by omega, by omega, by omega, by omega⟩
    · exact ⟨by omega, by omega, by omega, by omega, by decide, one, by decide, by omega⟩
    · exact ⟨by omega, by omega, by omega, by omega, by decide, one⟩
  | lf b a k d =>
    obtain ⟨h1, h2, h3, h4, h5, h6, h7, h8⟩ := h
    have p1 := pp (d - 0)
    have p2 := pp (d - 1)
    rcases step_cases hc with e | e | e | e <;> rw [e] <;> simp only [Fm.both, Fm.after, Fm.b, Fm.a, FLs]
    · exact ⟨h1, by omega, h3, by omega, h5, sms_up h6, by omega, by omega⟩
    · exact ⟨h1, by omega, h3, by omega, h5, sms_up h6, by omega, by omega⟩
    · refine ⟨h1, by omega, h3, by omega, ?_, sms_mul h6 (by omega) (by omega), by decide, by omega⟩
      rw [Int.mul_one]
      exact Int.mul_pos h5 (by omega)
    · refine ⟨h1, by omega, h3, by omega, ?_, sms_mul h6 (by omega) (by omega)⟩
      rw [Int.mul_one]
      exact Int.mul_pos h5 (by omega)
  | cr b a k =>
    obtain ⟨h1, h2, h3, h4, h5, h6⟩ := h
    rcases step_cases hc with e | e | e | e <;> rw [e] <;> simp only [Fm.both, FLs, Int.mul_one]
    · exact ⟨h1, by omega, h3, by omega, h5, sms_up h6⟩
    · exact ⟨h1, by omega, h3, by omega, h5, sms_up h6⟩
    · exact ⟨h1, by omega, h3, by omega, h5, sms_up h6, by decide, by omega⟩
    · exact ⟨h1, by omega, h3, by omega, h5, sms_up h6⟩
theorem formL_fls (k : Nat) : ∀ cs : List Nat, cs.length = k → k ≤ 61 → (∀ c ∈ cs, c ∈ steps.cps.toList) → FLs k (formL cs) := by
  induction k with
  | zero =>
    intro cs h _ _
    rw [List.eq_nil_of_length_eq_zero h]
    exact ⟨by decide, by decide, by decide, by decide⟩
  | succ k ih =>
    intro cs h hk hc
    rcases snoc_or cs with rfl | ⟨a, c, rfl⟩
    · simp at h
    · rw [formL_snoc]
      exact (ih a (by simpa using h) (by omega) fun d hd => hc d (List.mem_append.mpr (.inl hd))).step (by omega) (hc c (by simp))
/-! ### lengths -/
theorem addTo_len (a : List (Int × Int)) (x : Int × Int) : (addTo a x).length ≤ a.length + 1 := by
  rcases snoc_or a with rfl | ⟨b, y, rfl⟩
  · exact Nat.le_refl _
  · rw [addTo_snoc]
    split <;> simp
theorem fold_len : ∀ (gs acc : List (Int × Int)), (gs.foldl addTo acc).length ≤ acc.length + gs.length
  | [], acc => Nat.le_refl _
  | g :: gs, acc => by
    have h1 := fold_len gs (addTo acc g)
    have h2 := addTo_len acc g
    rw [List.foldl_cons, List.length_cons]
    omega
theorem runAfter_len (r : List (Int × Int) × Int) (f : Fm) : (runAfter r f).1.length ≤ max r.1.length 1 := by
  cases f with
  | keep b a =>
    have := fold_len (moved (.keep b a) r.1) []
    have e : (moved (.keep b a) r.1).length = r.1.length := List.length_map ..
    show (Lx.merged (moved (.keep b a) r.1)).length ≤ _
    unfold Lx.merged
    rw [e] at this
    simp at this
    omega
  | lf b a k c =>
    show (if k * units r (.lf b a k c) = 0 then (([] : List (Int × Int)), (0 : Int)) else ([(k * units r (.lf b a k c), c)], 0)).1.length ≤ _
    split
    · exact Nat.zero_le _
    · exact Nat.le_max_right ..
  | cr b a k => exact Nat.zero_le _
theorem _root_.Lx.RnOk.mono {n m : Nat} {r : List (Int × Int) × Int} (h : RnOk n r) (k : n ≤ m) : RnOk m r :=
  ⟨fun i x hx => let ⟨h1, h2, h3, h4, h5⟩ := h.gs i x hx; ⟨h1, h2, h3.mono k, h4.mono k, h5⟩, ⟨h.rest.1, h.rest.2.mono k⟩, h.len⟩
/-- a chain of at most sixty steps from a run with numbers below 2 ^ 361 -/
theorem stepsL_ok {n : Nat} {r : List (Int × Int) × Int} (h : RnOk n r) (hn : n ≤ 361) {cs : List Nat} (hl : cs.length ≤ 60) (hc : ∀ c ∈ cs, c ∈ steps.cps.toList) : RnOk 1123 (stepsL r cs) ∧ (stepsL r cs).1.length ≤ max r.1.length 1 := by
  rw [← conv_form h _ cs rfl]
  have f := (formL_fls _ cs rfl (by omega) hc).ok
  exact ⟨runAfter_ok (h.mono hn) (f.mono (by omega)), runAfter_len r _⟩
/-! ### runs that repr can write -/
theorem pd_smallB {b : Nat} : ∀ (gs : List (Int × Int)), (∀ x ∈ gs, Sm b x.1 ∧ Sm b x.2) → smallB.smallAll b (pd gs) = true
  | [], _ => rfl
  | g :: gs, h => by
    have h1 := h g (List.mem_cons_self ..)
    have ih := pd_smallB gs fun x hx => h x (List.mem_cons_of_mem _ hx)
    unfold pd at ih ⊢
    simp only [List.map_cons, smallB.smallAll, smallB, ih, Bool.and_true]
    rw [decide_eq_true (show g.1.natAbs < 2 ^ b from h1.1), decide_eq_true (show g.2.natAbs < 2 ^ b from h1.2)]
    rfl
theorem rd_smallB {b : Nat} {g : List (Int × Int) × Int} (h : RnOk b g) : smallB b (rd g) = true := by
  have e1 := pd_smallB (b := b) g.1 fun x hx => by
    obtain ⟨i, hi⟩ := List.mem_iff_getElem?.mp hx
    exact ⟨(h.gs i x hi).2.2.1, (h.gs i x hi).2.2.2.1⟩
  unfold rd
  simp only [smallB, smallB.smallAll, e1, Bool.and_true, Bool.true_and]
  exact decide_eq_true h.rest.2
theorem pd_bulk3 (gs : List (Int × Int)) : PyData.bulkAll (pd gs) = 3 * gs.length := by
  unfold pd
  induction gs with
  | nil => rfl
  | cons g gs ih =>
    simp only [List.map_cons, PyData.bulkAll, PyData.bulk, List.length_cons]
    omega
theorem rd_bulk (g : List (Int × Int) × Int) : (rd g).bulk = 3 * g.1.length + 2 := by
  have e := pd_bulk3 g.1
  unfold rd
  simp only [PyData.bulk, PyData.bulkAll]
  omega
theorem rd_fit {g : List (Int × Int) × Int} (h : RnOk 1123 g) (hl : g.1.length ≤ 1000) : Fit (rd g) := by
  have e := rd_bulk g
  have e2 := rd_depth g
  exact fit_b (b := 1123) (by decide) (by decide) (rd_smallB h) (by omega) (by omega)
theorem rd2_fit {g h : List (Int × Int) × Int} (h1 : RnOk 1123 g) (h2 : RnOk 1123 h) (hl : g.1.length ≤ 1000) (hl2 : h.1.length ≤ 1000) : Fit (.list [rd g, rd h]) := by
  have e := rd_bulk g
  have e' := rd_bulk h
  have e2 := rd_depth g
  have e2' := rd_depth h
  refine fit_b (b := 1123) (by decide) (by decide) ?_ ?_ ?_
  · simp only [smallB, smallB.smallAll, rd_smallB h1, rd_smallB h2, Bool.and_true]
  · simp only [PyData.depth, PyData.depthAll]
    omega
  · simp only [PyData.bulk, PyData.bulkAll]
    omega
theorem int_fit {x : Int} (h : Sm 1900 x) : Fit (.int x) := by
  refine fit_b (b := 1900) (by decide) (by decide) ?_ (by simp [PyData.depth]) (by simp [PyData.bulk])
  simp only [smallB]
  exact decide_eq_true h
end Lw
namespace Lw
open PySem PySem.Spec L2 Lx
theorem cutS_head (z : Str) (k : Nat) (h : k ≤ z.cps.size) : (cutS z none (some (k : Int))).cps.toList = z.cps.toList.take k := by
  unfold cutS
  have e : z.length = z.cps.size := rfl
  rw [e, HT.sIx_none, HT.sIx_nat, Nat.min_eq_left h]
  simp
theorem cutS_tail (z : Str) (k : Nat) (h : k ≤ z.cps.size) : (cutS z (some (k : Int)) none).cps.toList = z.cps.toList.drop k := by
  unfold cutS
  have e : z.length = z.cps.size := rfl
  rw [e, HT.sIx_none, HT.sIx_nat, Nat.min_eq_left h]
  simp
  exact List.take_of_length_le (by simp)
end Lw
namespace Lw
open PySem PySem.Spec L2 Lx
theorem units_size {g : List (Int × Int) × Int} {f : Fm} (h : RnOk 361 g) (hf : f.Ok 361) : Sm 1600 (units (runAfter g f) nothing) := by
  have hu := units_ok (RnOk.sm h) hf
  cases f with
  | keep b a =>
    rw [units_both]
    have e : (Fm.keep b a).both nothing = .keep b a := by
      have p1 := pp (0 - a)
      have p2 := pp (a - 0)
      have ha := hf.2.1
      show Fm.keep (b + (if 0 - a > 0 then 0 - a else 0)) ((if a - 0 > 0 then a - 0 else 0) + 0) = _
      congr 1 <;> omega
    rw [e]
    exact hu.2.mono (by decide)
  | lf b a k c =>
    by_cases z : k * units g (.lf b a k c) = 0
    · rw [show runAfter g (.lf b a k c) = ([], 0) from if_pos z]
      exact Nat.two_pow_pos _
    · rw [show runAfter g (.lf b a k c) = ([(k * units g (.lf b a k c), c)], 0) from if_neg z, units_one, after_nothing hf.2.2.2.1]
      have h1 := hf.2.2.2.2.2.2.1.mul hu.2
      have h2 : Sm 362 (c + 1) := hf.2.2.2.2.2.2.2.add (Nat.lt_of_lt_of_le (by decide : (1 : Int).natAbs < 2 ^ 1) (Nat.pow_le_pow_right (by decide) (by decide)))
      exact (h1.mul h2).mono (by decide)
  | cr b a k =>
    show Sm 1600 (units ([], k * units g (.cr b a k)) nothing)
    rw [units_none]
    exact (hf.2.2.2.2.2.mul hu.2).mono (by decide)
theorem stepsL_units {n : Nat} {r : List (Int × Int) × Int} (h : RnOk n r) (hn : n ≤ 361) {cs : List Nat} (hl : cs.length ≤ 60) (hc : ∀ c ∈ cs, c ∈ steps.cps.toList) : Sm 1900 (units (stepsL r cs) nothing) := by
  rw [← conv_form h _ cs rfl]
  have f := (formL_fls _ cs rfl (by omega) hc).ok
  exact (units_size (h.mono hn) (f.mono (by omega))).mono (by decide)
end Lw
namespace Lw
open PySem PySem.Spec L2 Lx
/-! ### a dict of draws -/
abbrev bagK (g : Addr) (l t b : Int) : List (Key × V) := [(.inr "great", .ref g), (.inr "left", .int l), (.inr "turn", .int t), (.inr "blend", .int b)]
theorem bag_put_left {g : Addr} {l t b x : Int} : putK (bagK g l t b) (.inr "left") (.int x) = bagK g x t b := by rfl
theorem bag_put_turn {g : Addr} {l t b x : Int} : putK (bagK g l t b) (.inr "turn") (.int x) = bagK g l x b := by rfl
theorem bag_great {g : Addr} {l t b : Int} : valV (bagK g l t b) (.inr "great") = some (.ref g) := by rfl
theorem bag_left {g : Addr} {l t b : Int} : valV (bagK g l t b) (.inr "left") = some (.int l) := by rfl
theorem bag_turn {g : Addr} {l t b : Int} : valV (bagK g l t b) (.inr "turn") = some (.int t) := by rfl
theorem bag_blend {g : Addr} {l t b : Int} : valV (bagK g l t b) (.inr "blend") = some (.int b) := by rfl
def BagAt (H : Hp) (r gl : Addr) (n : Nat) : Prop := ∃ (ds : List Int) (l t b : Int), H r = some (.dK (bagK gl l t b)) ∧ H gl = some (.lst (ds.map V.int)) ∧ (∀ d ∈ ds, 0 ≤ d) ∧ 0 ≤ l ∧ 0 ≤ t ∧ t ≤ n ∧ 0 ≤ b ∧ b < 2305843009213693952 ∧ r ≠ gl
theorem bag_get {H : Hp} {r gl : Addr} {l t b : Int} {k : Str} {v : V} (h : H r = some (.dK (bagK gl l t b))) (e : valV (bagK gl l t b) (.inr k) = some v) : DGet H r (.str k) (some v) := .inl ⟨_, .inr k, .inl h, rfl, e.symm⟩
/-- all but two addresses is as it was -/
def Kb (r gl : Addr) (H H' : Hp) : Prop := ∀ b o, b ≠ r → b ≠ gl → H b = some o → H' b = some o
theorem Kb.refl (r gl : Addr) (H : Hp) : Kb r gl H H := fun _ _ _ _ h => h
theorem Kb.trans {r gl : Addr} {H H1 H2 : Hp} (a : Kb r gl H H1) (b : Kb r gl H1 H2) : Kb r gl H H2 := fun c o h1 h2 h => b c o h1 h2 (a c o h1 h2 h)
theorem Kb.of {r gl : Addr} {H H' : Hp} (s : Same H H') : Kb r gl H H' := fun b o _ _ h => s b o h
theorem Kb.upd_r {r gl : Addr} {H : Hp} {o : HO} : Kb r gl H (upd H r o) := fun b u h1 h2 h => by rw [upd_ne h1]; exact h
theorem Kb.upd_g {r gl : Addr} {H : Hp} {o : HO} : Kb r gl H (upd H gl o) := fun b u h1 h2 h => by rw [upd_ne h2]; exact h
theorem Kb.own {r gl p : Addr} {H H' : Hp} {o : HO} (k : Kb r gl H H') (h : H p = none) : Kb r gl H (upd H' p o) := fun b u h1 h2 e => by
  rw [upd_ne (ne_of_none e h)]
  exact k b u h1 h2 e
theorem BagAt.same {H H' : Hp} {r gl : Addr} {n : Nat} (s : Same H H') : BagAt H r gl n → BagAt H' r gl n := fun ⟨ds, l, t, b, h1, h2, h3⟩ => ⟨ds, l, t, b, s _ _ h1, s _ _ h2, h3⟩
theorem BagAt.mono {H : Hp} {r gl : Addr} {n m : Nat} (k : n ≤ m) : BagAt H r gl n → BagAt H r gl m := fun ⟨ds, l, t, b, h1, h2, h3, h4, h5, h6, h7⟩ => ⟨ds, l, t, b, h1, h2, h3, h4, h5, by omega, h7⟩
theorem BagAt.ne {H : Hp} {r gl p : Addr} {n : Nat} (s : BagAt H r gl n) (h : H p = none) : p ≠ r ∧ p ≠ gl := by
  obtain ⟨_, _, _, _, q1, q2, _⟩ := s
  exact ⟨Ne.symm (ne_of_none q1 h), Ne.symm (ne_of_none q2 h)⟩
theorem BagAt.neT {H : Hp} {r gl p : Addr} {n : Nat} {xs : List V} (s : BagAt H r gl n) (h : H p = some (.tup xs)) : p ≠ r ∧ p ≠ gl := by
  obtain ⟨_, _, _, _, q1, q2, _⟩ := s
  exact ⟨ne_of h q1 (by intro z; cases z), ne_of h q2 (by intro z; cases z)⟩
theorem BagAt.own {H : Hp} {r gl p : Addr} {n : Nat} {o : HO} (s : BagAt H r gl n) (ne : p ≠ r ∧ p ≠ gl) : BagAt (upd H p o) r gl n := by
  obtain ⟨ds, l, t, b, h1, h2, h3⟩ := s
  exact ⟨ds, l, t, b, by rw [upd_ne (Ne.symm ne.1)]; exact h1, by rw [upd_ne (Ne.symm ne.2)]; exact h2, h3⟩
theorem Kb.free {r gl : Addr} {H H' : Hp} {n : Nat} (k : Kb r gl H H') (s : BagAt H' r gl n) {p : Addr} (h : H' p = none) : H p = none := by
  cases e : H p with
  | none => rfl
  | some o =>
    have := k p o (s.ne h).1 (s.ne h).2 e
    rw [h] at this
    cases this
theorem Prs.kb {K : PySem.W.Frag} {H H' : Hp} {r gl : Addr} {n : Nat} (s : BagAt H r gl n) (k : Kb r gl H H') : ∀ {vs : List V} {gs : List (Int × Int)}, Prs K H vs gs → Prs K H' vs gs
  | _, _, .nil => .nil
  | _, _, .cons ⟨p, e, h⟩ t => .cons ⟨p, e, k _ _ (s.neT h).1 (s.neT h).2 h⟩ (Prs.kb s k t)
theorem RnS.kb {K : PySem.W.Frag} {H H' : Hp} {v : V} {l r gl : Addr} {n : Nat} {g : List (Int × Int) × Int} (s : BagAt H r gl n) (k : Kb r gl H H') (ne : l ≠ r ∧ l ≠ gl) : RnS K H v l g → RnS K H' v l g :=
  fun ⟨p, xs, h1, h2, h3, h4⟩ => ⟨p, xs, h1, k _ _ (s.neT h2).1 (s.neT h2).2 h2, k _ _ ne.1 ne.2 h3, Prs.kb s k h4⟩
theorem if_fin {c : L2.TT} {A B : TS} {D : Ends} {σ : St} {H : Hp} (Fin : St → Hp → Prop) (h : ∀ R : St → Hp → Prop, (∀ σ H, Fin σ H → R σ H) → tIfS c A B { D with nx := R } σ H) (hf : ∀ σ H, Fin σ H → D.nx σ H) : tIfS c A B D σ H := h D.nx hf
/-! ### groups of which some may be empty, put together -/
/-- numbers that can be reckoned with -/
def GsSm (n : Nat) (gs : List (Int × Int)) : Prop := ∀ x ∈ gs, 0 ≤ x.1 ∧ 0 ≤ x.2 ∧ Sm n x.1 ∧ Sm n x.2
def reduced (gs : List (Int × Int)) : List (Int × Int) := Lx.merged (gs.filter fun x => decide (x.1 > 0))
theorem reduced_take {gs : List (Int × Int)} {i : Nat} {x : Int × Int} (h : gs[i]? = some x) : reduced (gs.take (i + 1)) = if x.1 > 0 then addTo (reduced (gs.take i)) x else reduced (gs.take i) := by
  unfold reduced
  rw [List.take_succ, h, List.filter_append]
  by_cases hx : x.1 > 0
  · have e : List.filter (fun x : Int × Int => decide (x.1 > 0)) (some x).toList = [x] := by simp [hx]
    rw [if_pos hx, e]
    unfold Lx.merged
    rw [List.foldl_append]
    rfl
  · have e : List.filter (fun x : Int × Int => decide (x.1 > 0)) (some x).toList = [] := by simp [hx]
    rw [if_neg hx, e, List.append_nil]
theorem reduced_all {gs : List (Int × Int)} (h : ∀ x ∈ gs, x.1 > 0) : reduced gs = Lx.merged gs := by
  unfold reduced
  rw [List.filter_eq_self.mpr fun x hx => decide_eq_true (h x hx)]
theorem reduced_ok {n : Nat} {gs : List (Int × Int)} (h : GsSm n gs) (hl : gs.length ≤ 1000) : GsOk (n + 11) (reduced gs) ∧ (reduced gs).length ≤ gs.length := by
  have hf : (gs.filter fun x => decide (x.1 > 0)).length ≤ gs.length := List.length_filter_le ..
  have m := mi_fold (n := n) (gs.filter fun x => decide (x.1 > 0)) [] 0 (by omega) (fun x hx => by
    obtain ⟨h1, h2⟩ := List.mem_filter.mp hx
    have h2 := of_decide_eq_true h2
    obtain ⟨q1, q2, q3, q4⟩ := h x h1
    exact ⟨by omega, q3, q2, q4.mono (by omega)⟩) ⟨(fun i x hx => by simp at hx), (fun x hx => by cases hx), Nat.le_refl _⟩
  obtain ⟨m1, m2, m3⟩ := m
  refine ⟨m1, ?_⟩
  have : (reduced gs).length ≤ 0 + (gs.filter fun x => decide (x.1 > 0)).length := m3
  omega
end Lw
namespace Lw
open PySem PySem.Spec L2 Lx
/-! ### equal data -/
theorem pd_eqv : ∀ (a b : List (Int × Int)), PyData.eqvAll (pd a) (pd b) = decide (a = b)
  | [], [] => rfl
  | [], _ :: _ => rfl
  | _ :: _, [] => rfl
  | x :: xs, y :: ys => by
    have ih := pd_eqv xs ys
    unfold pd at ih ⊢
    simp only [List.map_cons, PyData.eqvAll, PyData.eqv, Bool.and_true, ih]
    obtain ⟨x1, x2⟩ := x
    obtain ⟨y1, y2⟩ := y
    by_cases h1 : x1 = y1 <;> by_cases h2 : x2 = y2 <;> by_cases h3 : xs = ys <;> simp [h1, h2, h3]
theorem rd_eqv (a b : List (Int × Int) × Int) : PyData.eqv (rd a) (rd b) = decide (a = b) := by
  have h := pd_eqv a.1 b.1
  unfold rd
  simp only [PyData.eqv, PyData.eqvAll, h, Bool.and_true]
  obtain ⟨a1, a2⟩ := a
  obtain ⟨b1, b2⟩ := b
  by_cases h1 : a1 = b1 <;> by_cases h2 : a2 = b2 <;> simp [h1, h2]
theorem fm_dp {K : PySem.W.Frag} {H : Hp} {x : V} {f : Fm} : FmAt K H x f → Dp K H x (fdt f) := fun ⟨p, e, h⟩ => by
  subst e
  cases f with
  | keep b a => exact .tup h (.cons (.str _) (.cons (.int _) (.cons (.int _) .nil)))
  | lf b a k c => exact .tup h (.cons (.str _) (.cons (.int _) (.cons (.int _) (.cons (.int _) (.cons (.int _) .nil)))))
  | cr b a k => exact .tup h (.cons (.str _) (.cons (.int _) (.cons (.int _) (.cons (.int _) .nil))))
theorem fdt_shaped (f : Fm) : SeqAt.shaped (fdt f) = true := by
  cases f <;> (unfold SeqAt.shaped fdt; simp [PyData.canLay0, PyData.canLayAll0, PyData.depth, PyData.depthAll]; decide +kernel)
theorem fdt_eqv (f g : Fm) : PyData.eqv (fdt f) (fdt g) = true ↔ f = g := by
  cases f <;> cases g <;> simp [fdt, PyData.eqv, PyData.eqvAll] <;> decide
/-! ### runs in a list -/
inductive Rns (K : PySem.W.Frag) (H : Hp) : List V → List (List (Int × Int) × Int) → Prop
  | nil : Rns K H [] []
  | cons {v : V} {vs : List V} {r : List (Int × Int) × Int} {rs : List (List (Int × Int) × Int)} : (∃ l, RnS K H v l r) → Rns K H vs rs → Rns K H (v :: vs) (r :: rs)
theorem Rns.same {K : PySem.W.Frag} {H H' : Hp} (s : Same H H') : ∀ {vs rs}, Rns K H vs rs → Rns K H' vs rs
  | _, _, .nil => .nil
  | _, _, .cons ⟨l, h⟩ t => .cons ⟨l, h.same s⟩ (t.same s)
theorem Rns.len {K : PySem.W.Frag} {H : Hp} : ∀ {vs rs}, Rns K H vs rs → vs.length = rs.length
  | _, _, .nil => rfl
  | _, _, .cons _ t => by rw [List.length_cons, List.length_cons, t.len]
theorem Rns.get {K : PySem.W.Frag} {H : Hp} : ∀ {vs rs}, Rns K H vs rs → ∀ {i : Nat} {v : V}, vs[i]? = some v → ∃ r l, rs[i]? = some r ∧ RnS K H v l r
  | _, _, .nil, i, v, h => by simp at h
  | _, _, .cons ⟨l, h1⟩ t, 0, v, h => by
    have e := Option.some.inj h
    subst e
    exact ⟨_, l, rfl, h1⟩
  | _, _, .cons h1 t, i + 1, v, h => t.get (i := i) h
theorem Rns.append {K : PySem.W.Frag} {H : Hp} : ∀ {vs ws rs qs}, Rns K H vs rs → Rns K H ws qs → Rns K H (vs ++ ws) (rs ++ qs)
  | _, _, _, _, .nil, h => h
  | _, _, _, _, .cons a t, h => .cons a (t.append h)
/-! ### forms that do the same twice -/
def sizesOf (f : Fm) : List Int := [0, 1, f.b, f.a, f.b + f.a, 2 * f.nums.sum + 5]
def tests (f : Fm) : List (List (Int × Int) × Int) := [([], 1), ([], 3)] ++ (sizesOf f).map fun j => ([(1, j)], 0)
theorem tests_ok {n : Nat} {f : Fm} (h : f.Ok n) : ∀ r ∈ tests f, RnOk (n + 10) r := by
  have hb := h.b0
  have ha := h.a0
  have one : ∀ z : Int, 0 ≤ z → z ≤ 5 → Sm (n + 10) z := fun z h0 h1 => Nat.lt_of_lt_of_le (show z.natAbs < 2 ^ 10 by
    have : (2 : Nat) ^ 10 = 1024 := by decide
    omega) (Nat.pow_le_pow_right (by decide) (by omega))
  have hs : 0 ≤ f.nums.sum ∧ Sm (n + 3) f.nums.sum := by
    have pw : 2 ^ (n + 3) = 2 ^ n * 8 := Nat.pow_add 2 n 3
    cases f with
    | keep b a =>
      obtain ⟨h1, h2, h3, h4⟩ := h
      unfold Sm at *
      simp only [Fm.nums, List.sum_cons, List.sum_nil]
      rw [pw]
      generalize 2 ^ n = M at *
      omega
    | lf b a k c =>
      obtain ⟨h1, h2, h3, h4, h5, h6, h7, h8⟩ := h
      unfold Sm at *
      simp only [Fm.nums, List.sum_cons, List.sum_nil]
      rw [pw]
      generalize 2 ^ n = M at *
      omega
    | cr b a k =>
      obtain ⟨h1, h2, h3, h4, h5, h6⟩ := h
      unfold Sm at *
      simp only [Fm.nums, List.sum_cons, List.sum_nil]
      rw [pw]
      generalize 2 ^ n = M at *
      omega
  have r0 : ∀ e : Int, 0 ≤ e → e ≤ 5 → RnOk (n + 10) ([], e) := fun e e0 e1 => ⟨fun i x hx => by simp at hx, ⟨e0, one e e0 e1⟩, Nat.zero_le _⟩
  have r1 : ∀ j : Int, 0 ≤ j → Sm (n + 10) j → RnOk (n + 10) ([(1, j)], 0) := fun j j0 j1 => ⟨gsok_snoc (gs := []) (fun i x hx => by simp at hx) (fun a y e => by simp at e) ⟨by show (1 : Int) ≤ 1; decide, j0, one 1 (by decide) (by decide), j1⟩, ⟨(by decide : (0 : Int) ≤ 0), one 0 (by decide) (by decide)⟩, by show 1 ≤ 1000; decide⟩
  have m : ∀ {z : Int} {k : Nat}, k ≤ n + 10 → Sm k z → Sm (n + 10) z := fun h1 h2 => h2.mono h1
  have pw4 : Sm (n + 10) (2 * f.nums.sum + 5) := by
    have e : 2 ^ (n + 10) = 2 ^ (n + 3) * 128 := by rw [show n + 10 = (n + 3) + 7 from rfl, Nat.pow_add]
    have e1 : 1 ≤ 2 ^ (n + 3) := Nat.one_le_two_pow
    have h1 := hs.2
    unfold Sm at *
    rw [e]
    generalize 2 ^ (n + 3) = M at *
    omega
  intro r hr
  have hr' : r ∈ [([], 1), ([], 3), ([(1, 0)], 0), ([(1, 1)], 0), ([(1, f.b)], 0), ([(1, f.a)], 0), ([(1, f.b + f.a)], 0), ([(1, 2 * f.nums.sum + 5)], (0 : Int))] := hr
  simp only [List.mem_cons, List.not_mem_nil, or_false] at hr'
  rcases hr' with rfl | rfl | rfl | rfl | rfl | rfl | rfl | rfl
  · exact r0 1 (by decide) (by decide)
  · exact r0 3 (by decide) (by decide)
  · exact r1 0 (by decide) (one 0 (by decide) (by decide))
  · exact r1 1 (by decide) (one 1 (by decide) (by decide))
  · exact r1 _ hb.1 (m (by omega) hb.2)
  · exact r1 _ ha.1 (m (by omega) ha.2)
  · exact r1 _ (by omega) (m (by omega) (hb.2.add ha.2))
  · exact r1 _ (by have := hs.1; omega) pw4
theorem sum_ge {n : Nat} {f : Fm} (h : f.Ok n) : f.b ≤ f.nums.sum := by
  cases f with
  | keep b a =>
    obtain ⟨h1, h2, _⟩ := h
    simp only [Fm.nums, List.sum_cons, List.sum_nil, Fm.b]
    omega
  | lf b a k c =>
    obtain ⟨h1, h2, h3, h4, _⟩ := h
    simp only [Fm.nums, List.sum_cons, List.sum_nil, Fm.b]
    omega
  | cr b a k =>
    obtain ⟨h1, h2, h3, _⟩ := h
    simp only [Fm.nums, List.sum_cons, List.sum_nil, Fm.b]
    omega
theorem run1 (b a j : Int) : runAfter ([(1, j)], 0) (.keep b a) = ([(1, (Fm.keep b a).after j)], 0) := rfl
theorem twice {n : Nat} {f : Fm} (h : f.Ok n) : f.both f = f ↔ ∀ r ∈ tests f, runAfter (runAfter r f) f = runAfter r f := by
  constructor
  · intro e r _
    rw [runAfter_both, e]
  · intro ht
    have t1 := ht ([], 1) (by unfold tests; simp)
    rw [runAfter_both] at t1
    cases f with
    | keep b a =>
      have one : ∀ j : Int, (([(1, j)], 0) : List (Int × Int) × Int) ∈ tests (.keep b a) → ((Fm.keep b a).both (.keep b a)).after j = (Fm.keep b a).after j := fun j hj => by
        have e := ht _ hj
        rw [runAfter_both] at e
        have eb : (Fm.keep b a).both (.keep b a) = .keep (b + if b - a > 0 then b - a else 0) ((if a - b > 0 then a - b else 0) + a) := rfl
        rw [eb] at e ⊢
        rw [run1, run1] at e
        injection e with e1 e2
        injection e1 with e3 e4
        injection e3
      have s1 := one 0 (by unfold tests sizesOf; simp)
      have s2 := one (2 * (Fm.keep b a).nums.sum + 5) (by unfold tests sizesOf; simp)
      have hs := sum_ge h
      obtain ⟨b0, a0, _, _⟩ := h
      have p1 := pp (b - a)
      have p2 := pp (a - b)
      simp only [Fm.both, Fm.ahead, Fm.after, Fm.b, Fm.a, Fm.nums, List.sum_cons, List.sum_nil] at s1 s2 hs ⊢
      generalize (if b - a > 0 then b - a else 0) = A at *
      generalize (if a - b > 0 then a - b else 0) = B at *
      have p3 := pp (0 - (b + A))
      have p4 := pp (0 - b)
      have p5 := pp (2 * (b + (a + 0)) + 5 - (b + A))
      have p6 := pp (2 * (b + (a + 0)) + 5 - b)
      congr 1 <;> omega
    | lf b a k c =>
      obtain ⟨b0, a0, k0, c0, _⟩ := h
      have u0 : 0 ≤ (Fm.lf b a k c).after c := by
        have := pp (c - b)
        show 0 ≤ (if c - b > 0 then c - b else 0) + a
        omega
      have kk : 0 < k * ((Fm.lf b a k c).after c + 1) * k := Int.mul_pos (Int.mul_pos k0 (by omega)) k0
      have un : ∀ g : Fm, units ([], 1) g = 1 := fun g => units_none 1 g
      have e1 : runAfter ([], 1) (.lf b a k c) = ([(k, c)], 0) := by
        show (if k * units ([], 1) (.lf b a k c) = 0 then (([] : List (Int × Int)), (0 : Int)) else ([(k * units ([], 1) (.lf b a k c), c)], 0)) = _
        rw [un, Int.mul_one, if_neg (by omega)]
      have e2 : runAfter ([], 1) ((Fm.lf b a k c).both (.lf b a k c)) = ([(k * ((Fm.lf b a k c).after c + 1) * k, c)], 0) := by
        show (if (k * ((Fm.lf b a k c).after c + 1) * k) * units ([], 1) (.lf b a (k * ((Fm.lf b a k c).after c + 1) * k) c) = 0 then (([] : List (Int × Int)), (0 : Int)) else ([((k * ((Fm.lf b a k c).after c + 1) * k) * units ([], 1) (.lf b a (k * ((Fm.lf b a k c).after c + 1) * k) c), c)], 0)) = _
        rw [un, Int.mul_one, if_neg (by omega)]
      rw [e1, e2] at t1
      injection t1 with t2 t3
      injection t2 with t4 t5
      injection t4 with t6 t7
      show Fm.lf b a (k * ((Fm.lf b a k c).after c + 1) * k) c = _
      rw [t6]
    | cr b a k =>
      have un : ∀ g : Fm, units ([], 1) g = 1 := fun g => units_none 1 g
      have t2 : (([] : List (Int × Int)), (k * 1 * k) * units ([], 1) (.cr b a (k * 1 * k))) = ([], k * units ([], 1) (.cr b a k)) := t1
      rw [un, un, Int.mul_one, Int.mul_one k] at t2
      injection t2 with t3 t4
      show Fm.cr b a (k * 1 * k) = _
      rw [Int.mul_one, t4]
end Lw
namespace Lw
open PySem PySem.Spec L2 Lx
theorem fm_dq' {K : PySem.W.Frag} {H : Hp} {x : V} {f : Fm} : FmAt K H x f → Dq K H x (fdt f) := fun ⟨p, e, h⟩ => by
  subst e
  cases f with
  | keep b a => exact .tup (SqT.tt h) h (.cons (.str _) (.cons (.int _) (.cons (.int _) .nil)))
  | lf b a k c => exact .tup (SqT.tt h) h (.cons (.str _) (.cons (.int _) (.cons (.int _) (.cons (.int _) (.cons (.int _) .nil)))))
  | cr b a k => exact .tup (SqT.tt h) h (.cons (.str _) (.cons (.int _) (.cons (.int _) (.cons (.int _) .nil))))
theorem fdt_self (f : Fm) : PyData.eqv (fdt f) (fdt f) = true := (fdt_eqv f f).mpr rfl
/-! ### joined forms -/
theorem kk_assoc (b a b' a' b'' a'' : Int) (h1 : 0 ≤ a) (h2 : 0 ≤ b') (h3 : 0 ≤ a') (h4 : 0 ≤ b'') :
    (b + (if b' - a > 0 then b' - a else 0)) + (if b'' - ((if a - b' > 0 then a - b' else 0) + a') > 0 then b'' - ((if a - b' > 0 then a - b' else 0) + a') else 0) =
      b + (if (b' + (if b'' - a' > 0 then b'' - a' else 0)) - a > 0 then (b' + (if b'' - a' > 0 then b'' - a' else 0)) - a else 0) ∧
    (if ((if a - b' > 0 then a - b' else 0) + a') - b'' > 0 then ((if a - b' > 0 then a - b' else 0) + a') - b'' else 0) + a'' =
      (if a - (b' + (if b'' - a' > 0 then b'' - a' else 0)) > 0 then a - (b' + (if b'' - a' > 0 then b'' - a' else 0)) else 0) + ((if a' - b'' > 0 then a' - b'' else 0) + a'') := by
  have p1 := pp (b' - a)
  have p2 := pp (a - b')
  have p3 := pp (b'' - a')
  have p4 := pp (a' - b'')
  generalize (if b' - a > 0 then b' - a else 0) = A at *
  generalize (if a - b' > 0 then a - b' else 0) = B at *
  generalize (if b'' - a' > 0 then b'' - a' else 0) = C at *
  generalize (if a' - b'' > 0 then a' - b'' else 0) = D at *
  have p5 := pp (b'' - (B + a'))
  have p6 := pp (B + a' - b'')
  have p7 := pp (b' + C - a)
  have p8 := pp (a - (b' + C))
  generalize (if b'' - (B + a') > 0 then b'' - (B + a') else 0) = E at *
  generalize (if B + a' - b'' > 0 then B + a' - b'' else 0) = F at *
  generalize (if b' + C - a > 0 then b' + C - a else 0) = G at *
  generalize (if a - (b' + C) > 0 then a - (b' + C) else 0) = I at *
  constructor <;> omega
theorem both_assoc {n : Nat} {f g h : Fm} (of : f.Ok n) (og : g.Ok n) (oh : h.Ok n) : (f.both g).both h = f.both (g.both h) := by
  have fa := of.a0.1
  have gb := og.b0.1
  have ga := og.a0.1
  have hb := oh.b0.1
  cases f with
  | keep b a =>
    cases g with
    | keep b' a' =>
      have e := kk_assoc b a b' a' h.b h.a fa gb ga hb
      cases h with
      | keep b'' a'' =>
        show Fm.keep _ _ = Fm.keep _ _
        exact congr (congrArg Fm.keep e.1) e.2
      | lf b'' a'' k'' c'' =>
        show Fm.lf _ _ _ _ = Fm.lf _ _ _ _
        exact congrFun (congrFun (congr (congrArg Fm.lf e.1) e.2) k'') c''
      | cr b'' a'' k'' =>
        show Fm.cr _ _ _ = Fm.cr _ _ _
        exact congrFun (congr (congrArg Fm.cr e.1) e.2) k''
    | lf b' a' k' c' => cases h <;> rfl
    | cr b' a' k' => cases h <;> rfl
  | lf b a k c =>
    cases g with
    | keep b' a' =>
      have e := after_both b' a' h c
      cases h with
      | keep b'' a'' =>
        show Fm.lf b a k _ = Fm.lf b a k _
        exact congrArg (Fm.lf b a k) e
      | lf b'' a'' k'' c'' =>
        show Fm.lf b a (k * ((Fm.lf b'' a'' k'' c'').after ((Fm.keep b' a').after c) + 1) * k'') c'' = Fm.lf b a (k * (((Fm.keep b' a').both (.lf b'' a'' k'' c'')).after c + 1) * k'') c''
        rw [e]
      | cr b'' a'' k'' =>
        show Fm.cr b a (k * ((Fm.cr b'' a'' k'').after ((Fm.keep b' a').after c) + 1) * k'') = Fm.cr b a (k * (((Fm.keep b' a').both (.cr b'' a'' k'')).after c + 1) * k'')
        rw [e]
    | lf b' a' k' c' =>
      cases h with
      | keep b'' a'' => rfl
      | lf b'' a'' k'' c'' =>
        show Fm.lf b a (k * ((Fm.lf b' a' k' c').after c + 1) * k' * ((Fm.lf b'' a'' k'' c'').after c' + 1) * k'') c'' = Fm.lf b a (k * ((Fm.lf b' a' k' c').after c + 1) * (k' * ((Fm.lf b'' a'' k'' c'').after c' + 1) * k'')) c''
        rw [← Int.mul_assoc, ← Int.mul_assoc]
      | cr b'' a'' k'' =>
        show Fm.cr b a (k * ((Fm.lf b' a' k' c').after c + 1) * k' * ((Fm.cr b'' a'' k'').after c' + 1) * k'') = Fm.cr b a (k * ((Fm.lf b' a' k' c').after c + 1) * (k' * ((Fm.cr b'' a'' k'').after c' + 1) * k''))
        rw [← Int.mul_assoc, ← Int.mul_assoc]
    | cr b' a' k' =>
      cases h with
      | keep b'' a'' => rfl
      | lf b'' a'' k'' c'' =>
        show Fm.lf b a (k * ((Fm.cr b' a' k').after c + 1) * k' * 1 * k'') c'' = Fm.lf b a (k * ((Fm.cr b' a' k').after c + 1) * (k' * 1 * k'')) c''
        rw [← Int.mul_assoc, ← Int.mul_assoc]
      | cr b'' a'' k'' =>
        show Fm.cr b a (k * ((Fm.cr b' a' k').after c + 1) * k' * 1 * k'') = Fm.cr b a (k * ((Fm.cr b' a' k').after c + 1) * (k' * 1 * k''))
        rw [← Int.mul_assoc, ← Int.mul_assoc]
  | cr b a k =>
    cases g with
    | keep b' a' =>
      cases h <;> rfl
    | lf b' a' k' c' =>
      cases h with
      | keep b'' a'' => rfl
      | lf b'' a'' k'' c'' =>
        show Fm.lf b a (k * 1 * k' * ((Fm.lf b'' a'' k'' c'').after c' + 1) * k'') c'' = Fm.lf b a (k * 1 * (k' * ((Fm.lf b'' a'' k'' c'').after c' + 1) * k'')) c''
        rw [← Int.mul_assoc, ← Int.mul_assoc]
      | cr b'' a'' k'' =>
        show Fm.cr b a (k * 1 * k' * ((Fm.cr b'' a'' k'').after c' + 1) * k'') = Fm.cr b a (k * 1 * (k' * ((Fm.cr b'' a'' k'').after c' + 1) * k''))
        rw [← Int.mul_assoc, ← Int.mul_assoc]
    | cr b' a' k' =>
      cases h with
      | keep b'' a'' => rfl
      | lf b'' a'' k'' c'' =>
        show Fm.lf b a (k * 1 * k' * 1 * k'') c'' = Fm.lf b a (k * 1 * (k' * 1 * k'')) c''
        rw [← Int.mul_assoc, ← Int.mul_assoc]
      | cr b'' a'' k'' =>
        show Fm.cr b a (k * 1 * k' * 1 * k'') = Fm.cr b a (k * 1 * (k' * 1 * k''))
        rw [← Int.mul_assoc, ← Int.mul_assoc]
theorem both_nothing {n : Nat} {f : Fm} (of : f.Ok n) : f.both nothing = f := by
  have ha := of.a0.1
  cases f with
  | keep b a =>
    have p1 := pp (0 - a)
    have p2 := pp (a - 0)
    show Fm.keep (b + (if 0 - a > 0 then 0 - a else 0)) ((if a - 0 > 0 then a - 0 else 0) + 0) = _
    have ha' : 0 ≤ a := ha
    congr 1 <;> omega
  | lf b a k c =>
    show Fm.lf b a k (nothing.after c) = _
    rw [after_nothing of.2.2.2.1]
  | cr b a k => rfl
theorem nothing_both {n : Nat} {f : Fm} (of : f.Ok n) : nothing.both f = f := by
  have hb := of.b0.1
  have p1 := pp (f.b - 0)
  have p2 := pp (0 - f.b)
  have e1 : 0 + (if f.b - 0 > 0 then f.b - 0 else 0) = f.b := by omega
  have e2 : (if 0 - f.b > 0 then 0 - f.b else 0) + f.a = f.a := by omega
  have e : nothing.both f = Fm.ahead (0 + (if f.b - 0 > 0 then f.b - 0 else 0)) ((if 0 - f.b > 0 then 0 - f.b else 0) + f.a) f := rfl
  rw [e, e1, e2]
  cases f <;> rfl
theorem nothing_ok (n : Nat) : nothing.Ok n := ⟨by decide, by decide, Nat.two_pow_pos n, Nat.two_pow_pos n⟩
theorem both_ok {n : Nat} (hn : 0 < n) {f g : Fm} (of : f.Ok n) (og : g.Ok n) : (f.both g).Ok (3 * n + 3) := by
  have gb := og.b0
  have ga := og.a0
  have o1 : Sm n 1 := Nat.lt_of_lt_of_le (by decide : (1 : Int).natAbs < 2 ^ 1) (Nat.pow_le_pow_right (by decide) hn)
  cases f with
  | keep b a =>
    obtain ⟨b0, a0, sb, sa⟩ := of
    have p1 := pp (g.b - a)
    have p2 := pp (a - g.b)
    have hB : 0 ≤ b + (if g.b - a > 0 then g.b - a else 0) ∧ Sm (3 * n + 3) (b + (if g.b - a > 0 then g.b - a else 0)) := ⟨by omega, (Sm.of_le (by omega) (show b + (if g.b - a > 0 then g.b - a else 0) ≤ b + g.b by omega) (sb.add gb.2)).mono (by omega)⟩
    have hA : 0 ≤ (if a - g.b > 0 then a - g.b else 0) + g.a ∧ Sm (3 * n + 3) ((if a - g.b > 0 then a - g.b else 0) + g.a) := ⟨by omega, (Sm.of_le (by omega) (show (if a - g.b > 0 then a - g.b else 0) + g.a ≤ a + g.a by omega) (sa.add ga.2)).mono (by omega)⟩
    cases g with
    | keep b' a' => exact ⟨hB.1, hA.1, hB.2, hA.2⟩
    | lf b' a' k' c' =>
      obtain ⟨_, _, k0, c0, _, _, sk, sc⟩ := og
      exact ⟨hB.1, hA.1, k0, c0, hB.2, hA.2, sk.mono (by omega), sc.mono (by omega)⟩
    | cr b' a' k' =>
      obtain ⟨_, _, k0, _, _, sk⟩ := og
      exact ⟨hB.1, hA.1, k0, hB.2, hA.2, sk.mono (by omega)⟩
  | lf b a k c =>
    obtain ⟨b0, a0, k0, c0, sb, sa, sk, sc⟩ := of
    have hc := Fm.after_ok og c0 sc
    have hu : 0 < g.after c + 1 ∧ Sm (n + 2) (g.after c + 1) := ⟨by have := hc.1; omega, hc.2.add (o1.mono (Nat.le_succ n))⟩
    cases g with
    | keep b' a' => exact ⟨b0, a0, k0, hc.1, sb.mono (by omega), sa.mono (by omega), sk.mono (by omega), hc.2.mono (by omega)⟩
    | lf b' a' k' c' =>
      obtain ⟨_, _, k0', c0', _, _, sk', sc'⟩ := og
      exact ⟨b0, a0, Int.mul_pos (Int.mul_pos k0 hu.1) k0', c0', sb.mono (by omega), sa.mono (by omega), ((sk.mul hu.2).mul sk').mono (by omega), sc'.mono (by omega)⟩
    | cr b' a' k' =>
      obtain ⟨_, _, k0', _, _, sk'⟩ := og
      exact ⟨b0, a0, Int.mul_pos (Int.mul_pos k0 hu.1) k0', sb.mono (by omega), sa.mono (by omega), ((sk.mul hu.2).mul sk').mono (by omega)⟩
  | cr b a k =>
    obtain ⟨b0, a0, k0, sb, sa, sk⟩ := of
    cases g with
    | keep b' a' => exact ⟨b0, a0, k0, sb.mono (by omega), sa.mono (by omega), sk.mono (by omega)⟩
    | lf b' a' k' c' =>
      obtain ⟨_, _, k0', c0', _, _, sk', sc'⟩ := og
      exact ⟨b0, a0, Int.mul_pos (Int.mul_pos k0 (by decide)) k0', c0', sb.mono (by omega), sa.mono (by omega), ((sk.mul o1).mul sk').mono (by omega), sc'.mono (by omega)⟩
    | cr b' a' k' =>
      obtain ⟨_, _, k0', _, _, sk'⟩ := og
      exact ⟨b0, a0, Int.mul_pos (Int.mul_pos k0 (by decide)) k0', sb.mono (by omega), sa.mono (by omega), ((sk.mul o1).mul sk').mono (by omega)⟩
/-! ### a form many times -/
def fp (f : Fm) : Nat → Fm
  | 0 => nothing
  | n + 1 => (fp f n).both f
theorem fp_ok {m : Nat} {f : Fm} (h : f.Ok m) : ∀ n : Nat, ∃ k, (fp f n).Ok k
  | 0 => ⟨0, nothing_ok 0⟩
  | n + 1 => by
    obtain ⟨k, hk⟩ := fp_ok h n
    exact ⟨_, both_ok (n := max k m + 1) (by omega) (hk.mono (by omega)) (h.mono (by omega))⟩
theorem fp_one {m : Nat} {f : Fm} (h : f.Ok m) : fp f 1 = f := nothing_both h
theorem fp_add {m : Nat} {f : Fm} (h : f.Ok m) (i : Nat) : ∀ j : Nat, (fp f i).both (fp f j) = fp f (i + j)
  | 0 => by
    obtain ⟨k, hk⟩ := fp_ok h i
    exact both_nothing hk
  | j + 1 => by
    obtain ⟨k, hk⟩ := fp_ok h i
    obtain ⟨k', hk'⟩ := fp_ok h j
    show (fp f i).both ((fp f j).both f) = (fp f (i + j)).both f
    rw [← both_assoc (n := max (max k k') m) (hk.mono (by omega)) (hk'.mono (by omega)) (h.mono (by omega)), fp_add h i j]
theorem fp_keep {b a : Int} (b0 : 0 ≤ b) (a0 : 0 ≤ a) : ∀ n : Nat, ∃ B A, fp (.keep b a) n = .keep B A ∧ 0 ≤ B ∧ B ≤ n * b ∧ 0 ≤ A ∧ A ≤ n * a
  | 0 => ⟨0, 0, rfl, by decide, by simp, by decide, by simp⟩
  | n + 1 => by
    obtain ⟨B, A, e, h1, h2, h3, h4⟩ := fp_keep b0 a0 n
    have p1 := pp (b - A)
    have p2 := pp (A - b)
    refine ⟨B + (if b - A > 0 then b - A else 0), (if A - b > 0 then A - b else 0) + a, ?_, by omega, ?_, by omega, ?_⟩
    · show (fp (.keep b a) n).both (.keep b a) = _
      rw [e]
      rfl
    · rw [Int.natCast_add, Int.add_mul]
      simp only [Int.natCast_one, Int.one_mul]
      omega
    · rw [Int.natCast_add, Int.add_mul]
      simp only [Int.natCast_one, Int.one_mul]
      omega
theorem fp_lf {m : Nat} {b a k c : Int} (h : (Fm.lf b a k c).Ok m) (hm : 0 < m) : ∀ n : Nat, ∃ K, fp (.lf b a k c) (n + 1) = .lf b a K c ∧ 0 < K ∧ Sm ((n + 1) * (2 * m + 2)) K
  | 0 => ⟨k, fp_one h, h.2.2.1, h.2.2.2.2.2.2.1.mono (by omega)⟩
  | n + 1 => by
    obtain ⟨K, e, K0, K1⟩ := fp_lf h hm n
    have hc := Fm.after_ok h h.2.2.2.1 h.2.2.2.2.2.2.2
    have o1 : Sm m 1 := Nat.lt_of_lt_of_le (by decide : (1 : Int).natAbs < 2 ^ 1) (Nat.pow_le_pow_right (by decide) hm)
    have hu : 0 < (Fm.lf b a k c).after c + 1 ∧ Sm (m + 2) ((Fm.lf b a k c).after c + 1) := ⟨by have := hc.1; omega, hc.2.add (o1.mono (Nat.le_succ m))⟩
    refine ⟨K * ((Fm.lf b a k c).after c + 1) * k, ?_, Int.mul_pos (Int.mul_pos K0 hu.1) h.2.2.1, ((K1.mul hu.2).mul h.2.2.2.2.2.2.1).mono ?_⟩
    · show (fp (.lf b a k c) (n + 1)).both (.lf b a k c) = _
      rw [e]
      rfl
    · have : (n + 1 + 1) * (2 * m + 2) = (n + 1) * (2 * m + 2) + (2 * m + 2) := by rw [Nat.add_mul (n + 1) 1, Nat.one_mul]
      omega
theorem fp_cr {m : Nat} {b a k : Int} (h : (Fm.cr b a k).Ok m) (hm : 0 < m) : ∀ n : Nat, ∃ K, fp (.cr b a k) (n + 1) = .cr b a K ∧ 0 < K ∧ Sm ((n + 1) * (2 * m + 2)) K
  | 0 => ⟨k, fp_one h, h.2.2.1, h.2.2.2.2.2.mono (by omega)⟩
  | n + 1 => by
    obtain ⟨K, e, K0, K1⟩ := fp_cr h hm n
    have o1 : Sm m 1 := Nat.lt_of_lt_of_le (by decide : (1 : Int).natAbs < 2 ^ 1) (Nat.pow_le_pow_right (by decide) hm)
    refine ⟨K * 1 * k, ?_, Int.mul_pos (Int.mul_pos K0 (by decide)) h.2.2.1, ((K1.mul o1).mul h.2.2.2.2.2).mono ?_⟩
    · show (fp (.cr b a k) (n + 1)).both (.cr b a k) = _
      rw [e]
      rfl
    · have : (n + 1 + 1) * (2 * m + 2) = (n + 1) * (2 * m + 2) + (2 * m + 2) := by rw [Nat.add_mul (n + 1) 1, Nat.one_mul]
      omega
/-- how often a form may be repeated here -/
def Often (f : Fm) (n : Nat) : Prop := n ≤ 100 ∨ (Fm.isKeep f = true ∧ n ≤ 2 ^ 100)
theorem Often.le {f : Fm} {n m : Nat} (h : Often f n) (k : m ≤ n) : Often f m := by
  rcases h with h | ⟨h1, h2⟩
  · exact .inl (by omega)
  · exact .inr ⟨h1, Nat.le_trans k h2⟩
theorem fp_sm {m : Nat} {f : Fm} (h : f.Ok m) (hm : 0 < m) (hm2 : m ≤ 440) {n : Nat} (o : Often f n) : (fp f n).Ok 90000 := by
  cases f with
  | keep b a =>
    obtain ⟨b0, a0, sb, sa⟩ := h
    obtain ⟨B, A, e, h1, h2, h3, h4⟩ := fp_keep b0 a0 n
    have hn : n ≤ 2 ^ 100 := by
      rcases o with o | o
      · exact Nat.le_trans o (by decide +kernel)
      · exact o.2
    have sn : Sm 101 (n : Int) := by
      unfold Sm
      have : (2 : Nat) ^ 101 = 2 ^ 100 * 2 := Nat.pow_succ ..
      omega
    rw [e]
    exact ⟨h1, h3, (Sm.of_le h1 h2 (sn.mul sb)).mono (by omega), (Sm.of_le h3 h4 (sn.mul sa)).mono (by omega)⟩
  | lf b a k c =>
    have hn : n ≤ 100 := by
      rcases o with o | o
      · exact o
      · cases o.1
    cases n with
    | zero => exact nothing_ok _
    | succ n =>
      obtain ⟨K, e, K0, K1⟩ := fp_lf h hm n
      obtain ⟨b0, a0, k0, c0, sb, sa, sk, sc⟩ := h
      rw [e]
      have : (n + 1) * (2 * m + 2) ≤ 100 * 882 := Nat.mul_le_mul (by omega) (by omega)
      exact ⟨b0, a0, K0, c0, sb.mono (by omega), sa.mono (by omega), K1.mono (by omega), sc.mono (by omega)⟩
  | cr b a k =>
    have hn : n ≤ 100 := by
      rcases o with o | o
      · exact o
      · cases o.1
    cases n with
    | zero => exact nothing_ok _
    | succ n =>
      obtain ⟨K, e, K0, K1⟩ := fp_cr h hm n
      obtain ⟨b0, a0, k0, sb, sa, sk⟩ := h
      rw [e]
      have : (n + 1) * (2 * m + 2) ≤ 100 * 882 := Nat.mul_le_mul (by omega) (by omega)
      exact ⟨b0, a0, K0, sb.mono (by omega), sa.mono (by omega), K1.mono (by omega)⟩
end Lw
namespace Lw
open PySem PySem.Spec L2 Lx
/-! ### chains put together -/
theorem formL_fle (k : Nat) : ∀ cs : List Nat, cs.length = k → k ≤ 7000 → (∀ c ∈ cs, c ∈ steps.cps.toList) → FLe k (formL cs) := by
  induction k with
  | zero =>
    intro cs e _ _
    rw [List.eq_nil_of_length_eq_zero e]
    exact ⟨by decide, by decide, by decide, by decide⟩
  | succ k ih =>
    intro cs e hk hc
    rcases snoc_or cs with rfl | ⟨ds, c, rfl⟩
    · cases e
    · have ed : ds.length = k := by simpa using e
      have h := ih ds ed (by omega) fun x hx => hc x (List.mem_append.mpr (.inl hx))
      have e2 : formL (ds ++ [c]) = (formL ds).both (stepF c) := by unfold formL; rw [List.foldl_append]; rfl
      rw [e2]
      exact h.step (by omega) (hc c (by simp))
theorem step_ok {c : Nat} (h : c ∈ steps.cps.toList) {n : Nat} (hn : 0 < n) : (stepF c).Ok n := by
  have one : Sm n 1 := Nat.lt_of_lt_of_le (by decide : (1 : Int).natAbs < 2 ^ 1) (Nat.pow_le_pow_right (by decide) hn)
  have zer : Sm n 0 := Nat.two_pow_pos n
  rcases step_cases h with e | e | e | e <;> rw [e]
  · exact ⟨by decide, by decide, zer, one⟩
  · exact ⟨by decide, by decide, one, zer⟩
  · exact ⟨by decide, by decide, by decide, by decide, zer, zer, one, zer⟩
  · exact ⟨by decide, by decide, by decide, zer, zer, one⟩
theorem formL_app7 (a : List Nat) (ha : ∀ c ∈ a, c ∈ steps.cps.toList) (n : Nat) : ∀ b : List Nat, b.length = n → (∀ c ∈ b, c ∈ steps.cps.toList) → a.length + b.length ≤ 7000 → formL (a ++ b) = (formL a).both (formL b) := by
  induction n with
  | zero =>
    intro b e _ hl
    rw [List.eq_nil_of_length_eq_zero e, List.append_nil]
    exact (both_nothing (formL_fle _ a rfl (by omega) ha).ok).symm
  | succ n ih =>
    intro b e hb hl
    rcases snoc_or b with rfl | ⟨ds, c, rfl⟩
    · cases e
    · have ed : ds.length = n := by simpa using e
      have hd : ∀ x ∈ ds, x ∈ steps.cps.toList := fun x hx => hb x (List.mem_append.mpr (.inl hx))
      have hc := hb c (by simp)
      have hl2 : (ds ++ [c]).length = ds.length + 1 := by simp
      have e2 : ∀ xs : List Nat, formL (xs ++ [c]) = (formL xs).both (stepF c) := fun xs => by unfold formL; rw [List.foldl_append]; rfl
      rw [← List.append_assoc, e2, ih ds ed hd (by omega), e2]
      have oa := (formL_fle _ a rfl (by omega) ha).ok
      have ob := (formL_fle _ ds rfl (by omega) hd).ok
      refine both_assoc (n := 13 * 7000 + 1) (oa.mono (by omega)) (ob.mono (by omega)) (step_ok hc (by omega))
theorem formOf_app {x y : Str} (hx : ChOk x) (hy : ChOk y) (hl : x.cps.size + y.cps.size ≤ 7000) : formOf (x ++ y) = (formOf x).both (formOf y) := by
  have e : (x ++ y).cps.toList = x.cps.toList ++ y.cps.toList := Array.toList_append ..
  unfold formOf
  rw [e]
  exact formL_app7 _ hx _ _ rfl hy (by rw [Array.length_toList, Array.length_toList]; exact hl)
theorem ChOk.app {x y : Str} (hx : ChOk x) (hy : ChOk y) : ChOk (x ++ y) := fun c hc => by
  have e : (x ++ y).cps.toList = x.cps.toList ++ y.cps.toList := Array.toList_append ..
  rw [e] at hc
  rcases List.mem_append.mp hc with h | h
  · exact hx c h
  · exact hy c h
theorem app_sz (x y : Str) : (x ++ y).cps.size = x.cps.size + y.cps.size := Array.size_append ..
theorem formOf_fle {x : Str} (hx : ChOk x) (hl : x.cps.size ≤ 7000) : FLe x.cps.size (formOf x) := formL_fle _ _ (Array.length_toList ..) hl hx
theorem formOf_ok {x : Str} (hx : ChOk x) (hl : x.cps.size ≤ 7000) : (formOf x).Ok 91001 := (formOf_fle hx hl).ok.mono (by omega)
/-! ### copies by name -/
inductive Ents (K : PySem.W.Frag) (H : Hp) : List (Key × V) → List (Str × Str) → Prop
  | nil : Ents K H [] []
  | cons {kvs : List (Key × V)} {zs : List (Str × Str)} {v : V} {n z : Str} : FmAt K H v (formOf z) → Ents K H kvs zs → Ents K H ((.inr n, v) :: kvs) ((n, z) :: zs)
theorem Ents.same {K : PySem.W.Frag} {H H' : Hp} (s : ∀ v f, FmAt K H v f → FmAt K H' v f) : ∀ {kvs : List (Key × V)} {zs : List (Str × Str)}, Ents K H kvs zs → Ents K H' kvs zs
  | _, _, .nil => .nil
  | _, _, .cons h t => .cons (s _ _ h) (t.same s)
theorem Ents.len {K : PySem.W.Frag} {H : Hp} : ∀ {kvs : List (Key × V)} {zs : List (Str × Str)}, Ents K H kvs zs → kvs.length = zs.length
  | _, _, .nil => rfl
  | _, _, .cons _ t => by rw [List.length_cons, List.length_cons, t.len]
theorem Ents.get {K : PySem.W.Frag} {H : Hp} {n z : Str} : ∀ {kvs : List (Key × V)} {zs : List (Str × Str)}, Ents K H kvs zs → zs.lookup n = some z → ∃ v, valV kvs (.inr n) = some v ∧ FmAt K H v (formOf z)
  | _, _, .nil, e => by cases e
  | _, _, .cons (n := m) (z := y) (v := v) (kvs := kvs) (zs := zs) h t, e => by
    by_cases c : m = n
    · subst c
      rw [List.lookup_cons_self] at e
      cases e
      exact ⟨v, valV_pos rfl, h⟩
    · rw [List.lookup_cons, show (n == m) = false from beq_false_of_ne (Ne.symm c)] at e
      obtain ⟨u, h1, h2⟩ := Ents.get t e
      exact ⟨u, (valV_neg (fun z => c (Sum.inr.inj z))).trans h1, h2⟩
/-- in its place, or at the end -/
def putZ : List (Str × Str) → Str → Str → List (Str × Str)
  | [], n, z => [(n, z)]
  | (m, y) :: r, n, z => if m = n then (m, z) :: r else (m, y) :: putZ r n z
theorem putZ_len : ∀ (zs : List (Str × Str)) (n z : Str), (putZ zs n z).length ≤ zs.length + 1
  | [], _, _ => Nat.le_refl _
  | (m, y) :: r, n, z => by
    have := putZ_len r n z
    unfold putZ
    split
    · exact Nat.le_succ _
    · show _ + 1 ≤ _ + 1 + 1
      omega
theorem putZ_get (n z m : Str) : ∀ zs : List (Str × Str), (putZ zs n z).lookup m = if m = n then some z else zs.lookup m
  | [] => by
    show List.lookup m [(n, z)] = _
    rw [List.lookup_cons]
    by_cases c : m = n
    · subst c
      simp
    · rw [show (m == n) = false from beq_false_of_ne c, if_neg c]
  | (k, y) :: r => by
    unfold putZ
    by_cases c : k = n
    · subst c
      rw [if_pos rfl, List.lookup_cons, List.lookup_cons]
      by_cases d : m = k
      · subst d
        simp
      · rw [show (m == k) = false from beq_false_of_ne d, if_neg d]
    · rw [if_neg c, List.lookup_cons, List.lookup_cons, putZ_get n z m r]
      by_cases d : m = k
      · subst d
        rw [if_neg c]
        simp [c]
      · rw [show (m == k) = false from beq_false_of_ne d]
/-- no name twice -/
def NdZ (zs : List (Str × Str)) : Prop := (zs.map Prod.fst).Nodup
theorem map_same {kvs : List (Key × V)} {n : Str} {v : V} (h : ∀ kv ∈ kvs, kv.1 ≠ .inr n) : kvs.map (fun kv => if kv.1 = .inr n then (kv.1, v) else kv) = kvs := by
  induction kvs with
  | nil => rfl
  | cons p r ih =>
    rw [List.map_cons, ih fun kv hkv => h kv (List.mem_cons_of_mem _ hkv), if_neg (h p (List.mem_cons_self ..))]
theorem Ents.keys {K : PySem.W.Frag} {H : Hp} {n : Str} : ∀ {kvs : List (Key × V)} {zs : List (Str × Str)}, Ents K H kvs zs → n ∉ zs.map Prod.fst → ∀ kv ∈ kvs, kv.1 ≠ .inr n
  | _, _, .nil, _, kv, hkv => by cases hkv
  | _, _, .cons (n := m) h t, hn, kv, hkv => by
    rcases List.mem_cons.mp hkv with rfl | hkv
    · exact fun e => hn (List.mem_cons.mpr (.inl (Sum.inr.inj e).symm))
    · exact Ents.keys t (fun e => hn (List.mem_cons_of_mem _ e)) kv hkv
theorem Ents.put {K : PySem.W.Frag} {H : Hp} {n z : Str} {v : V} (hv : FmAt K H v (formOf z)) : ∀ {kvs : List (Key × V)} {zs : List (Str × Str)}, Ents K H kvs zs → NdZ zs → Ents K H (putK kvs (.inr n) v) (putZ zs n z)
  | _, _, .nil, _ => .cons hv .nil
  | _, _, .cons (n := m) (z := y) (v := u) (kvs := kvs) (zs := zs) h t, nd => by
    have nd' : m ∉ zs.map Prod.fst ∧ NdZ zs := List.nodup_cons.mp nd
    unfold putZ
    by_cases c : m = n
    · subst c
      have e : putK ((.inr m, u) :: kvs) (.inr m : Key) v = (.inr m, v) :: kvs := by
        unfold putK
        rw [if_pos (by simp), List.map_cons, if_pos rfl, map_same (t.keys nd'.1)]
      rw [e, if_pos rfl]
      exact .cons hv t
    · have ih := Ents.put (n := n) hv t nd'.2
      have cn : ¬ ((.inr m : Key) = .inr n) := fun e => c (Sum.inr.inj e)
      have e : putK ((.inr m, u) :: kvs) (.inr n : Key) v = (.inr m, u) :: putK kvs (.inr n) v := by
        unfold putK
        by_cases a : (kvs.any fun kv => decide (kv.1 = (.inr n : Key))) = true
        · rw [if_pos (by rw [List.any_cons, a]; simp), if_pos a, List.map_cons, if_neg cn]
        · rw [if_neg (by rw [List.any_cons, decide_eq_false cn]; simpa using a), if_neg a]
          rfl
      rw [e, if_neg c]
      exact .cons h ih
theorem putZ_mem {n z : Str} : ∀ {zs : List (Str × Str)} {m : Str}, m ∈ (putZ zs n z).map Prod.fst → m = n ∨ m ∈ zs.map Prod.fst
  | [], m, h => .inl (by simpa [putZ] using h)
  | (k, y) :: r, m, h => by
    unfold putZ at h
    by_cases c : k = n
    · rw [if_pos c] at h
      exact .inr h
    · rw [if_neg c] at h
      rcases List.mem_cons.mp h with rfl | h
      · exact .inr (List.mem_cons_self ..)
      · exact (putZ_mem h).imp id fun q => List.mem_cons_of_mem _ q
theorem putZ_nd {n z : Str} : ∀ {zs : List (Str × Str)}, NdZ zs → NdZ (putZ zs n z)
  | [], _ => by unfold NdZ putZ; simp
  | (k, y) :: r, h => by
    have h' : k ∉ r.map Prod.fst ∧ NdZ r := List.nodup_cons.mp h
    unfold putZ
    by_cases c : k = n
    · rw [if_pos c]
      exact h
    · rw [if_neg c]
      refine List.nodup_cons.mpr ⟨fun hm => ?_, putZ_nd h'.2⟩
      rcases putZ_mem hm with e | e
      · exact c e
      · exact h'.1 e
/-- chains that may be put together with k letters more -/
def ZOk (L : Nat) (zs : List (Str × Str)) : Prop := ∀ n z, zs.lookup n = some z → ChOk z ∧ z.cps.size ≤ L
theorem ZOk.put {L : Nat} {zs : List (Str × Str)} {n z : Str} (h : ZOk L zs) (hz : ChOk z) (hl : z.cps.size ≤ L) : ZOk L (putZ zs n z) := fun m y e => by
  rw [putZ_get] at e
  by_cases c : m = n
  · rw [if_pos c] at e
    cases e
    exact ⟨hz, hl⟩
  · rw [if_neg c] at e
    exact h m y e
theorem ZOk.mono {L L' : Nat} {zs : List (Str × Str)} (h : ZOk L zs) (k : L ≤ L') : ZOk L' zs := fun n z e => ⟨(h n z e).1, Nat.le_trans (h n z e).2 k⟩
/-- a depot stands at p, its dict at d -/
structure DepAt (K : PySem.W.Frag) (C : Addr) (H : Hp) (p d : Addr) (zs : List (Str × Str)) : Prop where
  ob : ∃ dx, H p = some (.ins C dx [("_forms", .ref d)])
  dc : ∃ kvs, H d = some (.dK kvs) ∧ Ents K H kvs zs
  nd : NdZ zs
theorem DepAt.same {K : PySem.W.Frag} {C : Addr} {H H' : Hp} {p d : Addr} {zs : List (Str × Str)} (s : Same H H') (h : DepAt K C H p d zs) : DepAt K C H' p d zs := by
  obtain ⟨⟨dx, h1⟩, ⟨kvs, h2, h3⟩, h4⟩ := h
  exact ⟨⟨dx, s _ _ h1⟩, ⟨kvs, s _ _ h2, h3.same fun v f hv => hv.same s⟩, h4⟩
/-- all but one address is as it was -/
def Kd (d : Addr) (H H' : Hp) : Prop := ∀ b o, b ≠ d → H b = some o → H' b = some o
theorem Kd.refl (d : Addr) (H : Hp) : Kd d H H := fun _ _ _ h => h
theorem Kd.trans {d : Addr} {H H1 H2 : Hp} (a : Kd d H H1) (b : Kd d H1 H2) : Kd d H H2 := fun c o h1 h => b c o h1 (a c o h1 h)
theorem Kd.of {d : Addr} {H H' : Hp} (s : Same H H') : Kd d H H' := fun b o _ h => s b o h
theorem FmAt.kd {K : PySem.W.Frag} {H H' : Hp} {d : Addr} {kvs : List (Key × V)} (hd : H d = some (.dK kvs)) (k : Kd d H H') {v : V} {f : Fm} : FmAt K H v f → FmAt K H' v f := fun ⟨p, h1, h2⟩ => ⟨p, h1, by
  rcases h2 with (h | ⟨o, h⟩) | h
  · exact .inl (.inl (k _ _ (ne_of h hd (by intro z; cases z)) h))
  · exact .inl (.inr ⟨o, k _ _ (ne_of h hd (by intro z; cases z)) h⟩)
  · exact .inr h⟩
end Lw
namespace Lw
open PySem PySem.Spec L2 Lx
/-! ### numbers of any size -/
/-! ### the drawing list -/
def RngAt (H : Hp) (r : Addr) (n : Nat) : Prop := ∃ d s c : Int, H r = some (.lst [.int d, .int s, .int c]) ∧ 0 ≤ d ∧ 0 ≤ s ∧ s < 2305843009213693952 ∧ 0 ≤ c ∧ c ≤ n
def But (r : Addr) (H H' : Hp) : Prop := ∀ b, b ≠ r → H' b = H b
theorem But.upd {H : Hp} {r : Addr} {o : HO} : But r H (upd H r o) := fun b h => upd_ne h
theorem But.trans {H H1 H2 : Hp} {r : Addr} (a : But r H H1) (b : But r H1 H2) : But r H H2 := fun c h => (b c h).trans (a c h)
theorem pow10 : (10 : Int) ^ (60 : Int).toNat = 1000000000000000000000000000000000000000000000000000000000000 := by decide +kernel
theorem n60 : (10 : Int) ^ Int.toNat 60 ≠ 0 := by decide +kernel
theorem n_c : (2305843009213693921 : Int) ≠ 0 := by decide
theorem n_m : (2305843009213693951 : Int) ≠ 0 := by decide
abbrev B60 : Int := 1000000000000000000000000000000000000000000000000000000000000
theorem dig_more {d f : Int} {i : Nat} (h : d < B60 ^ i) (hf : f < B60) : d * B60 + f < B60 ^ (i + 1) := by
  have h1 : (d + 1) * B60 ≤ B60 ^ i * B60 := Int.mul_le_mul_of_nonneg_right (by omega) (by decide)
  rw [Int.add_mul, Int.one_mul] at h1
  rw [Int.pow_succ]
  omega
theorem dig_keep {d : Int} {i : Nat} (h : d < B60 ^ i) : d < B60 ^ (i + 1) := by
  have h1 : (0 : Int) < B60 ^ i := Int.pow_pos (by decide)
  have h2 : B60 ^ i * 1 ≤ B60 ^ i * B60 := Int.mul_le_mul_of_nonneg_left (by decide) (by omega)
  rw [Int.pow_succ]
  omega
theorem B60_mono (i : Nat) : ∀ n : Nat, B60 ^ i ≤ B60 ^ (i + n)
  | 0 => Int.le_refl _
  | n + 1 => by
    have h1 := B60_mono i n
    have h2 : (0 : Int) < B60 ^ (i + n) := Int.pow_pos (by decide)
    have h3 : B60 ^ (i + n) * 1 ≤ B60 ^ (i + n) * B60 := Int.mul_le_mul_of_nonneg_left (by decide) (by omega)
    rw [← Nat.add_assoc, Int.pow_succ]
    omega
theorem dig_small {d : Int} {i : Nat} (h0 : 0 ≤ d) (h : d < B60 ^ i) (hi : i ≤ 63) : d.natAbs < 2 ^ 12700 := by
  have h1 : B60 ^ i ≤ B60 ^ 63 := by
    have e := B60_mono i (63 - i)
    rw [Nat.add_sub_cancel' hi] at e
    exact e
  have h2 : B60 ^ 63 < 2 ^ 12700 := by decide +kernel
  have h3 : (d.natAbs : Int) < ((2 ^ 12700 : Nat) : Int) := by
    rw [Int.natAbs_of_nonneg h0]
    exact Int.lt_of_lt_of_le h (Int.le_trans h1 (Int.le_of_lt (by rw [Int.natCast_pow]; exact h2)))
  exact Int.ofNat_lt.mp h3
def spRng (K : PySem.W.Frag) : Sp := fun vs H Q _ => ∃ (a : Addr) (ns : List Int), vs = [.ref a] ∧ SqL K H a (ns.map V.int) ∧ ns.length ≤ 63 ∧ ∀ H' p, Same H H' → H p = none → RngAt H' p 0 → Q (.ref p) H'
def spDraw : Sp := fun vs H Q _ => ∃ (r : Addr) (n : Nat) (m : Int), vs = [.ref r, .int m] ∧ RngAt H r n ∧ n < 1000000000 ∧ 0 < m ∧ m.natAbs < 2 ^ 4000 ∧ ∀ v H', 0 ≤ v → v < m → RngAt H' r (n + 1) → But r H H' → Q (.int v) H'
theorem scRng : FnScope ["script", "digits", "seed", "cell", "far"] ["script"] (defScope sLRng) := ⟨rfl, rfl, rfl, by decide +kernel, rfl, by decide +kernel, by decide +kernel⟩
theorem scDraw : FnScope ["rng", "limit", "found", "mixed"] ["rng", "limit"] (defScope sLDraw) := ⟨rfl, rfl, rfl, by decide +kernel, rfl, by decide +kernel, by decide +kernel⟩
section
variable {P : Program} {w : World} {K : PySem.W.Frag} {mg : Str → Option Value} {base : Heap}
theorem ok_rng {f : Addr} {fd : FuncData} {k : Nat} (F : Fun K "_law_rng" "_law_rng" sLRng f fd) (mAbs : mg "abs" = none) : FnOk P w K mg base CX0 (k + 1) f fd ["script"] (spRng K) := by
  refine F.ok scRng (fun vs H Q E h => ?_) (fun cdv A outer s H vs Q E hr h => ?_)
  · obtain ⟨a, ns, rfl, _⟩ := h
    rfl
  · obtain ⟨a, ns, rfl, hS, hlen, q⟩ := h
    refine ⟨_, pss_cons (ps_asg (pe_tup (pa_cons pe_int (pa_cons pe_int pa_nil))) (pg_tup (by rfl) (pgs_cons (pg_name (i := 1) scRng.nd rfl (.inl rfl)) (pgs_cons (pg_name (i := 2) scRng.nd rfl (.inl rfl)) pgs_nil))))
      (pss_cons (ps_for PassesOwn.never rfl (pi_list (pe_slice sl_list (pv 0) po_none (po_some pe_int))) (pg_name (i := 3) scRng.nd rfl (.inl rfl))
        (pss_cons (ps_set (i := 4) scRng.nd rfl (.inl rfl) (pe_callB call_abs (by rfl) mAbs (by decide +kernel) (pa_cons (pv 3) pa_nil)))
        (pss_cons (ps_if (pt_cmpR op_ge (pv 4) (pe_op op_pow pe_int pe_int) (nomark _)) (pss_one (ps_set (i := 1) scRng.nd rfl (.inl rfl) (pe_op op_add (pe_op op_mulW (pv 1) (pe_op op_pow pe_int pe_int)) (pe_op op_modN (pv 4) (pe_op op_pow pe_int pe_int))))) pss_nil)
        (pss_one (ps_set (i := 2) scRng.nd rfl (.inl rfl) (pe_op op_modN (pe_op op_add (pe_op op_add (pe_op op_mul (pv 2) pe_int) (pe_op op_modN (pv 3) pe_int)) pe_int) pe_int))))))
      (pss_one (ps_ret (pe_lst (pa_cons (pv 1) (pa_cons (pv 2) (pa_cons pe_int pa_nil))))))), ?_⟩
    refine ⟨by show 2 ≤ sizeLine; decide, fun p0 np0 => ?_⟩
    refine ⟨p0, _, rfl, .inl (.inl upd_same), rfl, _, _, rfl, _, _, rfl, rfl, ?_⟩
    have s0 : Same H (upd H p0 (.tup [.int 0, .int 88675123])) := same_upd np0
    refine ⟨.ref a, rfl, 63, rfl, a, _, rfl, s0.seq hS, fun p np => ?_⟩
    have s1 := s0.trans (same_upd (o := .lst (cutV (ns.map V.int) none (some 63))) np)
    have hall : ∀ (i : Nat) x, (cutV (ns.map V.int) none (some 63))[i]? = some x → ∃ z : Int, x = .int z := fun i x hx => by
      have m1 := List.mem_of_getElem? hx
      unfold cutV at m1
      have m2 := List.mem_of_mem_drop (List.mem_of_mem_take m1)
      obtain ⟨z, _, e⟩ := List.mem_map.mp m2
      exact ⟨z, e.symm⟩
    have hcl : (cutV (ns.map V.int) none (some 63)).length ≤ 63 := Nat.le_trans (cutV_length _ _ _) (by rw [List.length_map]; exact hlen)
    refine ⟨p, rfl, ⟨_, .inl (.inl upd_same)⟩, for_list (K := K) (a := p) (xs := cutV (ns.map V.int) none (some 63)) (fun i σ H' => H' = upd (upd H p0 (.tup [.int 0, .int 88675123])) p (.lst (cutV (ns.map V.int) none (some 63))) ∧
      ∃ (d s' : Int) (y3 y4 : Option V), σ = [some (.ref a), some (.int d), some (.int s'), y3, y4] ∧ 0 ≤ d ∧ d < B60 ^ i ∧ 0 ≤ s' ∧ s' < 2305843009213693951)
      ⟨rfl, 0, 88675123, none, none, rfl, by decide, by decide, by decide, by decide⟩ (fun i σ H' _ hP => by rw [hP.1]; exact .inl (.inl upd_same)) ?_ ?_⟩
    · rintro i x σ H' hi ⟨rfl, d, s', y3, y4, rfl, hd0, hd, hs0, hs1⟩
      obtain ⟨z, rfl⟩ := hall i x hi
      have hil : i < 63 := Nat.lt_of_lt_of_le (List.getElem?_eq_some_iff.mp hi).1 hcl
      refine ⟨.int z, rfl, z, rfl, ?_⟩
      refine ⟨_, rfl, _, _, rfl, rfl, ⟨by decide, by decide, by decide⟩, _, _, rfl, rfl, _, rfl, ite2 (fun c => ?_) (fun c => ?_)⟩
      · refine ⟨_, rfl, _, _, rfl, rfl, ⟨by decide, by decide, by decide⟩, _, _, rfl, rfl, ?_, ?_⟩
        · exact wide_mul (a := 12700) (b := 200) (dig_small hd0 hd (by omega)) (by decide) (by decide) (by decide) (by decide)
        · refine ⟨_, rfl, _, _, rfl, rfl, ⟨by decide, by decide, by decide⟩, _, _, rfl, rfl, n60, _, _, rfl, rfl, ?_⟩
          have f1 := fm (a := if z < 0 then -z else z) (show (0 : Int) < B60 by decide)
          refine ⟨_, rfl, _, _, rfl, rfl, .inl ⟨by omega, by omega⟩, _, rfl, _, _, rfl, rfl, n_c, _, _, rfl, rfl, _, _, rfl, rfl, _, _, rfl, rfl, n_m, rfl, d * B60 + (if z < 0 then -z else z).fmod B60, _, _, _, rfl, ?_, dig_more hd f1.2, ?_⟩
          · have := Int.mul_nonneg hd0 (show (0 : Int) ≤ B60 by decide)
            omega
          · exact fm (by decide)
      · refine ⟨_, rfl, _, _, rfl, rfl, .inl ⟨by omega, by omega⟩, _, rfl, _, _, rfl, rfl, n_c, _, _, rfl, rfl, _, _, rfl, rfl, _, _, rfl, rfl, n_m, rfl, d, _, _, _, rfl, hd0, dig_keep hd, ?_⟩
        exact fm (by decide)
    · rintro σ H' ⟨rfl, d, s', y3, y4, rfl, hd0, hd, hs0, hs1⟩
      refine ⟨_, rfl, _, rfl, (by show 3 ≤ sizeLine; decide), fun l nl => ?_⟩
      exact q _ l (s1.trans (same_upd nl)) (s1.free nl) ⟨d, s', 0, upd_same, hd0, hs0, by omega, by decide, by decide⟩
theorem n_p1 : (162259276829213363391578010288127 : Int) ≠ 0 := by decide
theorem n_p2 : (170141183460469231731687303715884105727 : Int) ≠ 0 := by decide
theorem pow_ok {x : Int} (h0 : 0 ≤ x) (h : x < 2 ^ 200) : CPowW x 3 := ⟨by decide, by decide, by
  have h1 : (x.natAbs : Int) < ((2 ^ 200 : Nat) : Int) := by
    rw [Int.natAbs_of_nonneg h0]
    exact h
  exact Nat.lt_of_lt_of_le (Int.ofNat_lt.mp h1) (Nat.pow_le_pow_right (by decide) (by decide))⟩
theorem ok_draw {f : Addr} {fd : FuncData} {k : Nat} (F : Fun K "_law_draw" "_law_draw" sLDraw f fd) : FnOk P w K mg base CX0 (k + 1) f fd ["rng", "limit"] spDraw := by
  refine F.ok scDraw (fun vs H Q E h => ?_) (fun cdv A outer s H vs Q E hr h => ?_)
  · obtain ⟨r, n, m, rfl, _⟩ := h
    rfl
  · obtain ⟨r, n, m, rfl, ⟨d, s', c, hL, hd, hs0, hs1, hc0, hc1⟩, hn, hm0, hm1, q⟩ := h
    refine ⟨_, pss_cons (ps_if (pt_cmpR op_gt (pe_ix ix_list (pv 0) pe_int (fun _ _ => rfl)) pe_int (nomark _))
        (pss_cons (ps_set (i := 2) scDraw.nd rfl (.inl rfl) (pe_op op_modN (pe_ix ix_list (pv 0) pe_int (fun _ _ => rfl)) (pv 1)))
        (pss_cons (ps_asg (pe_op op_fdivW (pe_ix ix_list (pv 0) pe_int (fun _ _ => rfl)) (pv 1)) (pg_sub (pv 0) pe_int set_list))
        (pss_one (ps_ret (pv 2))))) pss_nil)
      (pss_cons (ps_asg (pe_op op_add (pe_ix ix_list (pv 0) pe_int (fun _ _ => rfl)) pe_int) (pg_sub (pv 0) pe_int set_list))
      (pss_cons (ps_set (i := 3) scDraw.nd rfl (.inl rfl) (pe_op op_modN (pe_op op_powW (pe_op op_add (pe_ix ix_list (pv 0) pe_int (fun _ _ => rfl)) (pe_op op_mul pe_int (pe_ix ix_list (pv 0) pe_int (fun _ _ => rfl)))) pe_int) pe_int))
      (pss_cons (ps_set (i := 3) scDraw.nd rfl (.inl rfl) (pe_op op_modN (pe_op op_powW (pe_op op_add (pv 3) (pe_op op_mul pe_int (pe_ix ix_list (pv 0) pe_int (fun _ _ => rfl)))) pe_int) pe_int))
      (pss_one (ps_ret (pe_op op_modN (pe_op op_fdiv (pv 3) pe_int) (pv 1))))))), ?_⟩
    have hmn : m ≠ 0 := by omega
    refine ⟨_, rfl, r, _, 0, .int d, rfl, rfl, .inl (.inl hL), atI_nat (j := 0) rfl, _, _, rfl, rfl, _, rfl, ite2 (fun z => ?_) (fun z => ?_)⟩
    · refine ⟨_, rfl, r, _, 0, .int d, rfl, rfl, .inl (.inl hL), atI_nat (j := 0) rfl, _, rfl, _, _, rfl, rfl, hmn, ?_⟩
      refine ⟨_, rfl, r, _, 0, .int d, rfl, rfl, .inl (.inl hL), atI_nat (j := 0) rfl, _, rfl, _, _, rfl, rfl, wide_div hm0 hm1 (by decide) (by decide), ?_⟩
      refine ⟨_, rfl, r, _, 0, 0, rfl, rfl, hL, rfl, ?_⟩
      refine ⟨_, rfl, ?_⟩
      have f1 := fm (a := d) hm0
      exact q _ _ f1.1 f1.2 ⟨d / m, s', c, upd_same, Int.ediv_nonneg hd (by omega), hs0, hs1, hc0, by omega⟩ But.upd
    · refine ⟨_, rfl, r, _, 2, .int c, rfl, rfl, .inl (.inl hL), atI_nat (j := 2) rfl, _, _, rfl, rfl, ?_⟩
      refine ⟨_, rfl, r, _, 2, 2, rfl, rfl, hL, rfl, ?_⟩
      have hL2 : upd H r (.lst ([V.int d, .int s', .int c].set 2 (.int (c + 1)))) r = some (.lst [.int d, .int s', .int (c + 1)]) := upd_same
      refine ⟨_, rfl, r, _, 1, .int s', rfl, rfl, .inl (.inl hL2), atI_nat (j := 1) rfl, _, rfl, r, _, 2, .int (c + 1), rfl, rfl, .inl (.inl hL2), atI_nat (j := 2) rfl, _, _, rfl, rfl, .inl ⟨by decide, by decide⟩, _, _, rfl, rfl, ?_⟩
      refine ⟨_, _, rfl, rfl, pow_ok (by omega) (by omega), _, _, rfl, rfl, n_p1, ?_⟩
      have f1 := fm (a := (s' + 998244353 * (c + 1)) ^ Int.toNat 3) (show (0 : Int) < 162259276829213363391578010288127 by decide)
      refine ⟨_, rfl, _, rfl, r, _, 2, .int (c + 1), rfl, rfl, .inl (.inl hL2), atI_nat (j := 2) rfl, _, _, rfl, rfl, .inl ⟨by decide, by decide⟩, _, _, rfl, rfl, _, _, rfl, rfl, pow_ok (by omega) (by omega), _, _, rfl, rfl, n_p2, ?_⟩
      refine ⟨_, rfl, _, _, rfl, rfl, ⟨by decide, by decide⟩, _, rfl, _, _, rfl, rfl, hmn, ?_⟩
      have f2 := fm (a := ((s' + 998244353 * (c + 1)) ^ Int.toNat 3 |>.fmod 162259276829213363391578010288127) + 32452843 * (c + 1) |> fun x => (x ^ Int.toNat 3).fmod 170141183460469231731687303715884105727 / 1048576) hm0
      exact q _ _ f2.1 f2.2 ⟨d, s', c + 1, hL2, hd, hs0, hs1, by omega, by omega⟩ But.upd
end
end Lw
namespace Lw
open PySem PySem.Spec L2 Lx
/-- one address is as it was -/
def At1 (H H' : Hp) (a : Addr) : Prop := ∀ o, H a = some o → H' a = some o
theorem At1.of {H H' : Hp} (s : Same H H') (a : Addr) : At1 H H' a := fun o h => s a o h
theorem At1.trans {H H1 H2 : Hp} {a : Addr} (x : At1 H H1 a) (y : At1 H1 H2 a) : At1 H H2 a := fun o h => y o (x o h)
theorem Kb.at1 {r gl a : Addr} {H H' : Hp} (k : Kb r gl H H') (h1 : a ≠ r) (h2 : a ≠ gl) : At1 H H' a := fun o h => k a o h1 h2 h
theorem Kd.at1 {d a : Addr} {H H' : Hp} (k : Kd d H H') (h1 : a ≠ d) : At1 H H' a := fun o h => k a o h1 h
theorem BagAt.keep {H H' : Hp} {r gl : Addr} {n : Nat} (b : BagAt H r gl n) (k1 : At1 H H' r) (k2 : At1 H H' gl) : BagAt H' r gl n := by
  obtain ⟨ds, l, t, b', h1, h2, h3⟩ := b
  exact ⟨ds, l, t, b', k1 _ h1, k2 _ h2, h3⟩
theorem FmAt.keepT {K : PySem.W.Frag} {H H' : Hp} {v : V} {f : Fm} (h : FmAt K H v f) (k : ∀ b o, (∀ xs, o ≠ .lst xs) → (∀ kvs, o ≠ .dK kvs) → (∀ C dx fs, o ≠ .ins C dx fs) → H b = some o → H' b = some o) : FmAt K H' v f := by
  obtain ⟨p, h1, h2⟩ := h
  refine ⟨p, h1, ?_⟩
  rcases h2 with (h | ⟨o, h⟩) | h
  · exact .inl (.inl (k _ _ (fun _ z => by cases z) (fun _ z => by cases z) (fun _ _ _ z => by cases z) h))
  · exact .inl (.inr ⟨o, k _ _ (fun _ z => by cases z) (fun _ z => by cases z) (fun _ _ _ z => by cases z) h⟩)
  · exact .inr h
/-- a new object, and what its __init__ left -/
theorem same_made {H : Hp} {dx p : Addr} {u o : HO} (ndx : H dx = none) (np : H p = none) : Same H (upd (upd H dx u) p o) := fun b x e => by
  rw [upd_ne (ne_of_none e np), upd_ne (ne_of_none e ndx)]
  exact e
theorem same_ofKd {H H1 H' : Hp} {p : Addr} (s : Same H H1) (np : H p = none) (k : Kd p H1 H') : Same H H' := fun b o e => k b o (ne_of_none e np) (s b o e)
theorem cutS_to (z : Str) (k : Nat) : (cutS z none (some (k : Int))).cps.toList = z.cps.toList.take k := by
  have hl : z.cps.toList.length = z.length := Array.length_toList ..
  unfold cutS
  rw [HT.sIx_none, HT.sIx_nat]
  show (((z.cps.toList.drop 0).take (min k z.length - 0)).toArray).toList = _
  rw [List.drop_zero, Nat.sub_zero]
  by_cases h : k ≤ z.length
  · rw [Nat.min_eq_left h]
  · rw [Nat.min_eq_right (by omega), List.take_of_length_le (by omega : z.cps.toList.length ≤ z.length), List.take_of_length_le (by omega : z.cps.toList.length ≤ k)]
theorem cutS_from (z : Str) (k : Nat) : (cutS z (some (k : Int)) none).cps.toList = z.cps.toList.drop k := by
  have hl : z.cps.toList.length = z.length := Array.length_toList ..
  unfold cutS
  rw [HT.sIx_none, HT.sIx_nat]
  show (((z.cps.toList.drop (min k z.length)).take (z.length - min k z.length)).toArray).toList = _
  by_cases h : k ≤ z.length
  · rw [Nat.min_eq_left h, List.take_of_length_le (by rw [List.length_drop]; omega)]
  · rw [Nat.min_eq_right (by omega : z.length ≤ k), List.drop_of_length_le (by omega : z.cps.toList.length ≤ k), List.drop_of_length_le (by omega : z.cps.toList.length ≤ z.length)]
    simp
theorem str_ext {x y : Str} (h : x.cps.toList = y.cps.toList) : x = y := Str.ext' (Array.toList_inj.mp h)
end Lw
namespace Lw
open PySem PySem.Spec L2 Lx
theorem But.kd {r : Addr} {H H' : Hp} (b : But r H H') : Kd r H H' := fun c o hc e => (b c hc).trans e
theorem RngAt.same {H H' : Hp} {r : Addr} {n : Nat} (s : Same H H') : RngAt H r n → RngAt H' r n := fun ⟨d, a, c, h, q⟩ => ⟨d, a, c, s _ _ h, q⟩
theorem RngAt.mono {H : Hp} {r : Addr} {n m : Nat} (h : n ≤ m) : RngAt H r n → RngAt H r m := fun ⟨d, a, c, e, h1, h2, h3, h4, h5⟩ => ⟨d, a, c, e, h1, h2, h3, h4, by omega⟩
theorem RngAt.ne {H : Hp} {r b : Addr} {n : Nat} : RngAt H r n → H b = none → b ≠ r := fun ⟨d, a, c, e, _⟩ h => by
  rintro rfl
  rw [h] at e; cases e
theorem RngAt.own {H : Hp} {r b : Addr} {n : Nat} {o : HO} : RngAt H r n → b ≠ r → RngAt (upd H b o) r n := fun ⟨d, a, c, e, q⟩ h => ⟨d, a, c, by rw [upd_ne (Ne.symm h)]; exact e, q⟩
theorem RngAt.keep {H H' : Hp} {r : Addr} {n : Nat} (k1 : At1 H H' r) : RngAt H r n → RngAt H' r n := fun ⟨d, a, c, h, q⟩ => ⟨d, a, c, k1 _ h, q⟩
theorem Kd.freeR {r b : Addr} {H H' : Hp} {n : Nat} (k : Kd r H H') (s : RngAt H' r n) (h : H' b = none) : H b = none := by
  cases e : H b with
  | none => rfl
  | some o =>
    have := k b o (s.ne h) e
    rw [h] at this; cases this
theorem kd_own {d b : Addr} {H H' : Hp} {o : HO} (k : Kd d H H') (h : H b = none) : Kd d H (upd H' b o) := fun c u hc e => by
  rw [upd_ne (ne_of_none e h)]
  exact k c u hc e
theorem scLine : FnScope ["rng", "most", "found", "kind", "turn", "some"] ["rng", "most"] (defScope sLLine) := ⟨rfl, rfl, rfl, by decide +kernel, rfl, by decide +kernel, by decide +kernel⟩
/-- small signs -/
def Low (x : Str) : Prop := ∀ c ∈ x.cps.toList, c < 128
theorem low_app {x y : Str} (h1 : Low x) (h2 : Low y) : Low (x ++ y) := fun c hc => by
  have e : (x ++ y).cps.toList = x.cps.toList ++ y.cps.toList := Array.toList_append ..
  rw [e] at hc
  rcases List.mem_append.mp hc with h | h
  · exact h1 c h
  · exact h2 c h
theorem low_rep {x : Str} (h : Low x) (k : Nat) : Low (rep x k) := fun c hc => by
  rw [rep_list] at hc
  obtain ⟨l, hl, hcl⟩ := List.mem_flatten.mp hc
  obtain ⟨_, rfl⟩ := List.mem_replicate.mp hl
  exact h c hcl
theorem low_cut {x : Str} (h : Low x) (i j : Option Int) : Low (cutS x i j) := fun c hc => h c (List.mem_of_mem_drop (List.mem_of_mem_take hc))
def spLine : Sp := fun vs H Q _ => ∃ (r : Addr) (n m : Nat), vs = [.ref r, .int m] ∧ RngAt H r n ∧ n < 900000000 ∧ m ≤ 2000 ∧ ∀ (x : Str) H', x.cps.size ≤ m → Low x → RngAt H' r (n + 4 * m + 60) → Kd r H H' → Q (.str x) H'
structure RlF (mg : Str → Option Value) : Prop where
  range : mg "range" = none
  int : mg "int" = none
theorem pick_ten {s1 s2 : Str} (h1 : s1.length ≤ 20) (h2 : s2.length ≤ 20) (g1 : Low s1) (g2 : Low s2) {v : Int} (v0 : 0 ≤ v) (v1 : v < 10) :
    ∃ z : Str, atI [V.str "a", .str "b c", .str "\n", .str "^", .str "^\n", .str "^^\n", .str "\n^", .str s1, .str "~", .str s2] v = some (.str z) ∧ z.length ≤ 20 ∧ Low z := by
  have : v = 0 ∨ v = 1 ∨ v = 2 ∨ v = 3 ∨ v = 4 ∨ v = 5 ∨ v = 6 ∨ v = 7 ∨ v = 8 ∨ v = 9 := by omega
  rcases this with rfl | rfl | rfl | rfl | rfl | rfl | rfl | rfl | rfl | rfl
  all_goals first
    | exact ⟨_, rfl, by decide, by unfold Low; decide⟩
    | exact ⟨_, rfl, h1, g1⟩
    | exact ⟨_, rfl, h2, g2⟩
theorem cutS_mostR (x : Str) (m : Nat) : (cutS x none (some (m : Int))).cps.size ≤ m := by
  show (((x.cps.toList.drop (HT.sIx x.length 0 none)).take (HT.sIx x.length x.length (some (m : Int)) - HT.sIx x.length 0 none)).toArray).size ≤ m
  rw [HT.sIx_none, HT.sIx_nat, List.size_toArray, List.length_take]
  omega
section
variable {P : Program} {w : World} {K : PySem.W.Frag} {mg : Str → Option Value} {base : Heap}
theorem ok_line {f aD : Addr} {fd dD : FuncData} {k : Nat} (F : Fun K "_law_line" "_law_line" sLLine f fd) (Z : RlF mg)
    (cD : Cl P w K mg base k "_law_draw" ["rng", "limit"] spDraw aD dD) : FnOk P w K mg base CX0 (k + 1) f fd ["rng", "most"] spLine := by
  refine F.ok scLine (fun vs H Q E h => ?_) (fun cdv A outer s H vs Q E hr h => ?_)
  · obtain ⟨r, n, m, rfl, _⟩ := h
    rfl
  · obtain ⟨r, n, m, rfl, hS, hn, hm, q⟩ := h
    refine ⟨_, (pss_cons (ps_par (i := 2) (j := 3) rfl scLine.nd rfl rfl (by decide) rfl rfl (pa_cons pe_str (pa_cons (pe_call cD.G hr (by rfl) cD.g cD.kp cD.b .nil pass0 (pa_cons (pv 0) (pa_cons pe_int pa_nil))) pa_nil)) rfl)
      (pss_cons (ps_for PassesOwn.never rfl (pi_range1 rfl Z.range (pa_cons (pe_call cD.G hr (by rfl) cD.g cD.kp cD.b .nil pass0 (pa_cons (pv 0) (pa_cons (pe_op op_add (pe_ix ix_list (pe_lst (pa_cons pe_int (pa_cons pe_int (pa_cons (pv 1) pa_nil)))) (pe_call cD.G hr (by rfl) cD.g cD.kp cD.b .nil pass0 (pa_cons (pv 0) (pa_cons pe_int pa_nil))) (fun _ _ => rfl)) pe_int) pa_nil))) pa_nil)) (pg_name (i := 4) scLine.nd rfl (.inl rfl))
          (pss_cons (ps_set (i := 5) scLine.nd rfl (.inl rfl) (pe_lst (pa_cons pe_str (pa_cons pe_str (pa_cons pe_str (pa_cons pe_str (pa_cons pe_str (pa_cons pe_str (pa_cons pe_str (pa_cons (pe_op op_add_str (pe_op op_repS pe_str (pe_op op_add pe_int (pe_call cD.G hr (by rfl) cD.g cD.kp cD.b .nil pass0 (pa_cons (pv 0) (pa_cons pe_int pa_nil))))) pe_str) (pa_cons pe_str pa_nil)))))))))))
          (pss_cons (ps_expr (pe_bm PySem.F.plainAttrs_list PySem.F.slot_list_append PySem.F.type_list_append mt_append (pv 5) (pa_cons (pe_op op_repS pe_str (pe_op op_add pe_int (pe_call cD.G hr (by rfl) cD.g cD.kp cD.b .nil pass0 (pa_cons (pv 0) (pa_cons pe_int pa_nil))))) pa_nil)))
          (pss_one (ps_set (i := 2) scLine.nd rfl (.inl rfl) (pe_op op_add_str (pv 2) (pe_ix ix_list (pv 5) (pe_ix ix_list (pe_lst (pa_cons (pe_call cD.G hr (by rfl) cD.g cD.kp cD.b .nil pass0 (pa_cons (pv 0) (pa_cons pe_int pa_nil))) (pa_cons (pe_op op_add pe_int (pe_call cD.G hr (by rfl) cD.g cD.kp cD.b .nil pass0 (pa_cons (pv 0) (pa_cons pe_int pa_nil)))) pa_nil))) (pe_callTy call_int1 (by rfl) Z.int (by decide +kernel) (pa_cons (pe_cmpR op_eq (pv 3) pe_int (nomark _)) pa_nil)) (fun _ _ => rfl)) (fun _ _ => rfl))))))))
      (pss_one (ps_ret (pe_slice sl_str (pv 2) po_none (po_some (pv 1))))))), ?_⟩
    have p10 : (2 : Nat) ^ 20 = 1048576 := by decide
    have p40 : (2 : Nat) ^ 20 ≤ 2 ^ 4000 := Nat.pow_le_pow_right (by decide) (by decide)
    have sm : ∀ i : Int, 0 ≤ i → i ≤ 10001 → i.natAbs < 2 ^ 4000 := fun i h0 h1 => Nat.lt_of_lt_of_le (show i.natAbs < 2 ^ 20 by omega) p40
    have la : ∀ x y : Str, (x ++ y).length = x.length + y.length := fun x y => Array.size_append ..
    refine ⟨_, rfl, r, n, 4, rfl, hS, by omega, by decide, by decide, fun kind H1 c0 c1 hS1 k1 => ⟨_, _, rfl, ?_⟩⟩
    replace k1 := k1.kd
    refine ⟨_, rfl, _, rfl, by show 3 ≤ sizeLine; decide, fun l0 n0 => ?_⟩
    have s0 := same_upd (o := .lst [.int 3, .int 12, .int m]) n0
    refine ⟨_, rfl, r, _, 3, rfl, hS1.same s0, by omega, by decide, by decide, fun i H2 i0 i1 hS2 k2 => ?_⟩
    replace k2 := k2.kd
    have hl0 := k2 _ _ (hS1.ne n0) upd_same
    have k02 := (k1.trans (Kd.of s0)).trans k2
    have pick : ∃ t : Nat, atI [V.int 3, .int 12, .int m] i = some (.int (t : Int)) ∧ t ≤ m + 12 := by
      have : i = 0 ∨ i = 1 ∨ i = 2 := by omega
      rcases this with rfl | rfl | rfl
      · exact ⟨3, rfl, by omega⟩
      · exact ⟨12, rfl, by omega⟩
      · exact ⟨m, rfl, by omega⟩
    obtain ⟨t, ht, htm⟩ := pick
    clear k1 s0 k2
    refine ⟨l0, _, i, _, rfl, rfl, .inl (.inl hl0), ht, _, _, rfl, rfl, r, _, (t : Int) + 1, rfl, hS2, by omega, by omega, sm _ (by omega) (by omega), fun cnt H3 e0 e1 hS3 k3 => ?_⟩
    replace k3 := k02.trans k3.kd
    refine ⟨_, rfl, by omega, by omega, ?_⟩
    refine for_range (lo := 0) (n := cnt.toNat) (fun j σ H' => ∃ (x : Str) (y4 y5 : Option V), σ = [some (.ref r), some (.int m), some (.str x), some (.int kind), y4, y5] ∧ x.length ≤ 20 * j ∧ Low x ∧ RngAt H' r (n + 3 + 4 * j) ∧ Kd r H H') ⟨"", none, none, rfl, Nat.zero_le _, (fun c hc => by cases hc), hS3, k3⟩ ?_ ?_
    · rintro j σ H4 hj ⟨x, y4, y5, rfl, hx, hxL, hS4, k4⟩
      refine ⟨_, rfl, r, _, 9, rfl, hS4, by omega, by decide, by decide, fun v H5 v0 v1 hS5 k5 => ?_⟩
      replace k5 := k4.trans k5.kd
      have hr1 : (rep "^" (1 + v).toNat).length ≤ 10 := by rw [rep_len]; show 1 * _ ≤ _; omega
      refine ⟨_, _, rfl, rfl, "^", 1 + v, rfl, rfl, by omega, by omega, ?_, _, _, rfl, rfl, ?_, ?_⟩
      · rw [sizeLine_eq]; show 1 * (1 + v).toNat ≤ _; omega
      · rw [sizeLine_eq]; show _ + 1 ≤ _; omega
      have hs1 : (rep "^" (1 + v).toNat ++ "\n").length ≤ 20 := by rw [la]; show _ + 1 ≤ _; omega
      have gs1 : Low (rep "^" (1 + v).toNat ++ "\n") := low_app (low_rep (by unfold Low; decide) _) (by unfold Low; decide)
      generalize rep "^" (1 + v).toNat ++ "\n" = s1 at hs1 gs1
      refine ⟨by show 9 ≤ sizeLine; decide, fun l nl => ?_⟩
      have s6 := same_upd (o := .lst [.str "a", .str "b c", .str "\n", .str "^", .str "^\n", .str "^^\n", .str "\n^", .str s1, .str "~"]) nl
      have hlr := hS5.ne nl
      have hlH : H l = none := k5.freeR hS5 nl
      have hS6 := hS5.same s6
      refine ⟨_, rfl, .inl ⟨rfl, _, .inl (.inl upd_same)⟩, _, rfl, r, _, 20, rfl, hS6, by omega, by decide, by decide, fun u H7 u0 u1 hS7 k7 => ?_⟩
      replace k7 := k7.kd
      have hl7 := k7 _ _ hlr upd_same
      have k07 := (k5.trans (Kd.of s6)).trans k7
      have hr2 : (rep "\n" (1 + u).toNat).length ≤ 20 := by rw [rep_len]; show 1 * _ ≤ _; omega
      refine ⟨_, _, rfl, rfl, "\n", 1 + u, rfl, rfl, by omega, by omega, ?_, l, _, _, rfl, rfl, hl7, by show 9 < sizeLine; decide, ?_⟩
      · rw [sizeLine_eq]; show 1 * (1 + u).toNat ≤ _; omega
      have gs2 : Low (rep "\n" (1 + u).toNat) := low_rep (by unfold Low; decide) _
      generalize rep "\n" (1 + u).toNat = s2 at hr2 gs2
      have hS8 := hS7.own (o := .lst ([V.str "a", .str "b c", .str "\n", .str "^", .str "^\n", .str "^^\n", .str "\n^", .str s1, .str "~"] ++ [.str s2])) hlr
      have k08 := kd_own (o := .lst ([V.str "a", .str "b c", .str "\n", .str "^", .str "^\n", .str "^^\n", .str "\n^", .str s1, .str "~"] ++ [.str s2])) k07 hlH
      have hl8 : upd H7 l (.lst ([V.str "a", .str "b c", .str "\n", .str "^", .str "^\n", .str "^^\n", .str "\n^", .str s1, .str "~"] ++ [.str s2])) l = some (.lst [V.str "a", .str "b c", .str "\n", .str "^", .str "^\n", .str "^^\n", .str "\n^", .str s1, .str "~", .str s2]) := upd_same
      revert hS8 k08 hl8
      generalize upd H7 l _ = H8
      intro hS8 k08 hl8
      clear hS5 k5 hS6 hS7 k7 k07 hl7 s6 nl
      dsimp only
      refine ⟨_, rfl, _, rfl, _, rfl, r, _, 10, rfl, hS8, by omega, by decide, by decide, fun a H9 a0 a1 hS9 k9 => ?_⟩
      replace k9 := k9.kd
      refine ⟨_, rfl, r, _, 6, rfl, hS9, by omega, by decide, by decide, fun b H10 b0 b1 hS10 k10 => ?_⟩
      replace k10 := k10.kd
      refine ⟨_, _, rfl, rfl, by show 2 ≤ sizeLine; decide, fun l2 n2 => ?_⟩
      have s11 := same_upd (o := .lst [.int a, .int (2 + b)]) n2
      have hl11 := s11 _ _ (k10 _ _ hlr (k9 _ _ hlr hl8))
      have pick : ∃ v : Int, atI [V.int a, .int (2 + b)] (if decide (V.int kind = V.int 0) = true then (1 : Int) else 0) = some (.int v) ∧ 0 ≤ v ∧ v < 10 := by
        cases decide (V.int kind = V.int 0)
        · exact ⟨a, rfl, by omega, by omega⟩
        · exact ⟨2 + b, rfl, by omega, by omega⟩
      obtain ⟨v', hv, v0', v1'⟩ := pick
      obtain ⟨zz, hz, hzl, hzL⟩ := pick_ten hs1 hr2 gs1 gs2 v0' v1'
      refine ⟨_, rfl, rfl, .inr ⟨_, rfl, l2, _, _, _, rfl, rfl, .inl (.inl upd_same), hv, l, _, _, _, rfl, rfl, .inl (.inl hl11), hz, _, _, rfl, rfl, by rw [sizeLine_eq]; omega, ?_⟩⟩
      refine ⟨_, _, _, rfl, by rw [la]; omega, low_app hxL hzL, (hS10.same s11).mono (by omega), (((k08.trans k9).trans k10).trans (Kd.of s11))⟩
    · rintro σ H4 ⟨x, y4, y5, rfl, hx, hxL, hS4, k4⟩
      refine ⟨_, rfl, _, rfl, (m : Int), rfl, x, rfl, by rw [sizeLine_eq]; omega, ?_⟩
      exact q _ _ (cutS_mostR _ _) (low_cut hxL _ _) (hS4.mono (by omega)) k4
end
end Lw
namespace Lx
open PySem PySem.Spec L2
/-! ### a test against a written text puts a token out: what stands in its branches may replace in texts -/
def PTC (X : Cx) (e : Expr) (t : TT) : Prop :=
  ∀ (pins : List (Addr × Obj)) (s : Shared) (σ : St) (H : Hp) (Q : Bool → Hp → Prop), Inv X pins σ H s → t σ H Q → wpAny (model X.prog X.w) X.A (isTrue e X.env (eval e X.env)) (fun d s1 => 1 ≤ s1.toks ∧ TP X pins σ Q d s1) X.xe s
section
variable {X : Cx} {a c e : Expr} {ta te : TE} {tc : TT} {t u : TS} {A B : List Stmt} {x : Str} {j : Nat} {p p' pos pos' : Pos}
theorem ptc_cmp {op : CmpOp} {r : R2} (ho : OpR X (compareOp op) r) (ha : PE X a ta) (hm : behindInMarks op (.Constant (.str x) j p) = false) : PTC X (.Compare a [op] [.Constant (.str x) j p] pos) (tTest (tOp r ta (tC (.str x)))) := by
  intro pins s σ H Q I h
  refine wpAny_isTrue_Compare1 (thn (ha.run pins s σ H _ I h) fun v s1 ⟨y, H1, I1, r1, q1⟩ => Calls.Constant_str ?_) hm
  refine wpAny_mono (PySem.wpAny_toks_of (n := 1) (by show 1 ≤ s1.toks + 1; omega) (ho pins { s1 with toks := s1.toks + 1 } σ H1 y (.str x) v (.str x s1.toks) _ (I1.tok _) r1 ⟨_, rfl⟩ q1)) (fun c s3 q => ?_) fun _ _ z => z.2
  obtain ⟨hk, z, H3, I3, r3, k, e, q3⟩ := q
  subst e
  cases r3
  exact wpAny_truthy_bool ⟨hk, H3, I3, q3⟩
theorem ps_ifC (hc : PTC X c tc) (ha : PSsT X A t) (hb : PSsT X B u) : PS X (.If c A B pos) (tIfS tc t u) := by
  refine ⟨fun pins s σ H D I h => ?_⟩
  refine wpAny_If (thn (hc pins s σ H _ I h) fun d s1 q => ?_)
  obtain ⟨hk, H1, I1, q1⟩ := q
  cases d with
  | true => exact ha pins s1 σ H1 D hk I1 q1
  | false => exact hb pins s1 σ H1 D hk I1 q1
theorem pst_set {i : Nat} {y : Str} (hN : X.N.Nodup) (hi : X.N[i]? = some y) (hx : Loc X.env.scope y) (he : PET X e te) (hs : swapsWith e (some (.Name y pos')) pos.line X.env = pure false := by rfl) (hf : X.fn y = true ∨ X.env.scope.names.lookup y = some .local := by first | exact .inl rfl | exact .inr rfl | assumption) :
    PST X (.Assign [.Name y pos'] e pos) (tAsg te (gName i)) := by
  intro pins s σ H D h0 I h
  refine wpAny_Assign_Name (thn (he pins s σ H _ h0 I h) fun v s1 ⟨y, H1, I1, r1, q1⟩ => ?_) hs
  exact store_ok I1 hN hi hx r1 (fun s2 I2 => ⟨_, H1, I2, q1⟩) hf
end
/-! ### steps on texts -/
open PySem.StrLaws
def stepT (c : Nat) (l : List Nat) : List Nat := if c = 85 then replL [10] [94, 10] l else if c = 68 then replL [94, 10] [10] l else if c = 77 then replL [94] [10] l else replL [10] [94] l
def doneT (l cs : List Nat) : List Nat := cs.foldl (fun l c => stepT c l) l
theorem doneT_snoc (l cs : List Nat) (c : Nat) : doneT l (cs ++ [c]) = stepT c (doneT l cs) := by
  unfold doneT
  rw [List.foldl_append]
  rfl
theorem replS_len {y z : List Nat} (hz : z.length ≤ 2) : ∀ (l : List Nat) (s : Nat), (replS y z s l).length ≤ 2 * l.length
  | [], s => by cases s <;> simp [replS]
  | c :: r, 0 => by
    rw [replS]
    split
    · have := replS_len (y := y) hz r (y.length - 1)
      rw [List.length_append, List.length_cons]
      omega
    · have := replS_len (y := y) hz r 0
      rw [List.length_cons, List.length_cons]
      omega
  | c :: r, s + 1 => by
    rw [replS]
    have := replS_len (y := y) hz r s
    rw [List.length_cons]
    omega
theorem stepT_len (c : Nat) (l : List Nat) : (stepT c l).length ≤ 2 * l.length := by
  unfold stepT
  split
  · exact replS_len (by decide) l 0
  · split
    · exact replS_len (by decide) l 0
    · split <;> exact replS_len (by decide) l 0
theorem doneT_len (l : List Nat) : ∀ (k : Nat) (cs : List Nat), cs.length = k → (doneT l cs).length ≤ l.length * 2 ^ k
  | 0, cs, h => by
    rw [List.length_eq_zero_iff.mp h]
    show l.length ≤ l.length * 2 ^ 0
    omega
  | k + 1, cs, h => by
    rcases List.eq_nil_or_concat cs with rfl | ⟨ds, c, rfl⟩
    · cases h
    · have e : ds.length = k := by simpa using h
      rw [List.concat_eq_append, doneT_snoc, Nat.pow_succ]
      have h1 := stepT_len c (doneT l ds)
      have h2 := doneT_len l k ds e
      generalize 2 ^ k = m at h2 ⊢
      rw [← Nat.mul_assoc]
      omega
/-- the text of groups with these numbers of ^, and a rest -/
def up (n : Nat) : List Nat := List.replicate n 94
def spT (rows : List Nat) (rest : Nat) : List Nat := rows.flatMap (fun j => up j ++ [10]) ++ up rest
def unT (rows : List Nat) (rest : Nat) : Nat := rows.sum + rows.length + rest
theorem up_succ (n : Nat) : up (n + 1) = 94 :: up n := rfl
theorem spT_cons (j : Nat) (rows : List Nat) (rest : Nat) : spT (j :: rows) rest = up j ++ 10 :: spT rows rest := by
  unfold spT
  rw [List.flatMap_cons, List.append_assoc, List.append_assoc]
  rfl
theorem spT_len : ∀ (rows : List Nat) (rest : Nat), (spT rows rest).length = unT rows rest
  | [], rest => by simp [spT, unT, up]
  | j :: rows, rest => by
    have ih := spT_len rows rest
    rw [spT_cons, List.length_append, List.length_cons, ih]
    simp only [unT, up, List.length_replicate, List.sum_cons, List.length_cons]
    omega
/- U -/
theorem u_up (r : List Nat) : ∀ j, replL [10] [94, 10] (up j ++ r) = up j ++ replL [10] [94, 10] r
  | 0 => rfl
  | j + 1 => by
    rw [up_succ, List.cons_append, replL_miss (by simp), u_up r j]
    rfl
theorem up_snoc (j : Nat) (r : List Nat) : up j ++ 94 :: r = up (j + 1) ++ r := by
  unfold up
  rw [List.replicate_succ', List.append_assoc]
  rfl
theorem stepU : ∀ (rows : List Nat) (rest : Nat), replL [10] [94, 10] (spT rows rest) = spT (rows.map (· + 1)) rest
  | [], rest => by
    have := u_up [] rest
    rw [replL_nil, List.append_nil] at this
    simpa [spT] using this
  | j :: rows, rest => by
    rw [spT_cons, u_up, replL_hit (by simp) (by simp), List.map_cons, spT_cons]
    have ih := stepU rows rest
    show up j ++ ([94, 10] ++ replL [10] [94, 10] (spT rows rest)) = _
    rw [ih]
    exact up_snoc j _
/- D -/
theorem d_up : ∀ (j : Nat) (r : List Nat), replL [94, 10] [10] (up j ++ 10 :: r) = up (j - 1) ++ 10 :: replL [94, 10] [10] r
  | 0, r => by
    show replL [94, 10] [10] (10 :: r) = _
    rw [replL_miss (by simp)]
    rfl
  | 1, r => by
    show replL [94, 10] [10] (94 :: 10 :: r) = _
    rw [replL_hit (by simp) (by simp)]
    rfl
  | j + 2, r => by
    rw [up_succ, List.cons_append, replL_miss (by simp [up_succ]), d_up (j + 1) r]
    rfl
theorem d_rest : ∀ (n : Nat), replL [94, 10] [10] (up n) = up n
  | 0 => replL_nil
  | 1 => by
    show replL [94, 10] [10] [94] = [94]
    rw [replL_miss (by simp), replL_nil]
  | n + 2 => by
    rw [up_succ, replL_miss (by simp [up_succ]), d_rest (n + 1)]
theorem stepD : ∀ (rows : List Nat) (rest : Nat), replL [94, 10] [10] (spT rows rest) = spT (rows.map (· - 1)) rest
  | [], rest => by simpa [spT] using d_rest rest
  | j :: rows, rest => by rw [spT_cons, d_up, stepD rows rest, List.map_cons, spT_cons]
/- M, N -/
theorem m_up (r : List Nat) : ∀ j, replL [94] [10] (up j ++ r) = List.replicate j 10 ++ replL [94] [10] r
  | 0 => rfl
  | j + 1 => by
    rw [up_succ, List.cons_append, replL_hit (by simp) (by simp)]
    show [10] ++ replL [94] [10] (up j ++ r) = _
    rw [m_up r j]
    rfl
theorem m_all : ∀ (rows : List Nat) (rest : Nat), replL [94] [10] (spT rows rest) = List.replicate (unT rows rest) 10
  | [], rest => by
    have := m_up [] rest
    rw [replL_nil, List.append_nil] at this
    rw [List.append_nil] at this
    simpa [spT, unT] using this
  | j :: rows, rest => by
    rw [spT_cons, m_up, replL_miss (by simp), m_all rows rest]
    have e : unT (j :: rows) rest = j + (1 + unT rows rest) := by simp only [unT, List.sum_cons, List.length_cons]; omega
    rw [e, ← List.replicate_append_replicate, ← List.replicate_append_replicate (n := 1)]
    rfl
theorem spT_zeros : ∀ n, spT (List.replicate n 0) 0 = List.replicate n 10
  | 0 => rfl
  | n + 1 => by
    rw [List.replicate_succ, spT_cons, spT_zeros n]
    rfl
theorem stepM (rows : List Nat) (rest : Nat) : replL [94] [10] (spT rows rest) = spT (List.replicate (unT rows rest) 0) 0 := by rw [m_all, spT_zeros]
theorem n_up (r : List Nat) : ∀ j, replL [10] [94] (up j ++ r) = up j ++ replL [10] [94] r
  | 0 => rfl
  | j + 1 => by
    rw [up_succ, List.cons_append, replL_miss (by simp), n_up r j]
    rfl
theorem stepN : ∀ (rows : List Nat) (rest : Nat), replL [10] [94] (spT rows rest) = spT [] (unT rows rest)
  | [], rest => by
    have := n_up [] rest
    rw [replL_nil, List.append_nil] at this
    simpa [spT, unT] using this
  | j :: rows, rest => by
    have ih := stepN rows rest
    rw [spT_cons, n_up, replL_hit (by simp) (by simp)]
    show up j ++ ([94] ++ replL [10] [94] (spT rows rest)) = _
    rw [ih]
    have e : unT (j :: rows) rest = j + (1 + unT rows rest) := by simp only [unT, List.sum_cons, List.length_cons]; omega
    show up j ++ ([94] ++ up (unT rows rest)) = up (unT (j :: rows) rest)
    rw [e]
    unfold up
    rw [← List.replicate_append_replicate, ← List.replicate_append_replicate (n := 1)]
    rfl
/-! ### what a form makes of groups -/
/-- told by natural numbers -/
def sdRows (b a : Nat) (rows : List Nat) : List Nat := rows.map (fun j => (j - b) + a)
def saidT (f : Fm) (rows : List Nat) (rest : Nat) : List Nat := match f with
  | .keep b a => spT (sdRows b.toNat a.toNat rows) rest
  | .lf b a k c => spT (List.replicate (k.toNat * unT (sdRows b.toNat a.toNat rows) rest) c.toNat) 0
  | .cr b a k => spT [] (k.toNat * unT (sdRows b.toNat a.toNat rows) rest)
theorem unT_rep : ∀ (n c r : Nat), unT (List.replicate n c) r = n * (c + 1) + r
  | 0, c, r => by simp [unT]
  | n + 1, c, r => by
    have ih := unT_rep n c r
    rw [List.replicate_succ]
    have e : unT (c :: List.replicate n c) r = (c + 1) + unT (List.replicate n c) r := by simp only [unT, List.sum_cons, List.length_cons]; omega
    rw [e, ih, Nat.succ_mul]
    omega
theorem sd_up (b a : Nat) (rows : List Nat) : sdRows b (a + 1) rows = (sdRows b a rows).map (· + 1) := by
  unfold sdRows
  rw [List.map_map]
  exact List.map_congr_left fun j _ => by show j - b + (a + 1) = (j - b + a) + 1; omega
theorem sd_dn (b a : Nat) (rows : List Nat) : sdRows b a rows = (sdRows b (a + 1) rows).map (· - 1) := by
  unfold sdRows
  rw [List.map_map]
  exact List.map_congr_left fun j _ => by show j - b + a = (j - b + (a + 1)) - 1; omega
theorem sd_dn0 (b : Nat) (rows : List Nat) : sdRows (b + 1) 0 rows = (sdRows b 0 rows).map (· - 1) := by
  unfold sdRows
  rw [List.map_map]
  exact List.map_congr_left fun j _ => by show j - (b + 1) + 0 = (j - b + 0) - 1; omega
theorem sd_0 (rows : List Nat) : sdRows 0 0 rows = rows := by
  unfold sdRows
  exact (List.map_congr_left fun j _ => by show j - 0 + 0 = id j; show _ = j; omega).trans (List.map_id rows)
theorem natF {n : Nat} {f : Fm} (h : f.Ok n) : (∃ b a : Nat, f = .keep b a) ∨ (∃ b a k c : Nat, f = .lf b a k c) ∨ (∃ b a k : Nat, f = .cr b a k) := by
  cases f with
  | keep b a =>
    obtain ⟨b', rfl⟩ := Int.eq_ofNat_of_zero_le h.1
    obtain ⟨a', rfl⟩ := Int.eq_ofNat_of_zero_le h.2.1
    exact .inl ⟨_, _, rfl⟩
  | lf b a k c =>
    obtain ⟨b', rfl⟩ := Int.eq_ofNat_of_zero_le h.1
    obtain ⟨a', rfl⟩ := Int.eq_ofNat_of_zero_le h.2.1
    obtain ⟨k', rfl⟩ := Int.eq_ofNat_of_zero_le (Int.le_of_lt h.2.2.1)
    obtain ⟨c', rfl⟩ := Int.eq_ofNat_of_zero_le h.2.2.2.1
    exact .inr (.inl ⟨_, _, _, _, rfl⟩)
  | cr b a k =>
    obtain ⟨b', rfl⟩ := Int.eq_ofNat_of_zero_le h.1
    obtain ⟨a', rfl⟩ := Int.eq_ofNat_of_zero_le h.2.1
    obtain ⟨k', rfl⟩ := Int.eq_ofNat_of_zero_le (Int.le_of_lt h.2.2.1)
    exact .inr (.inr ⟨_, _, _, rfl⟩)
theorem mul1 (k c : Nat) : ((k : Int) * ((c : Int) + 1) * 1) = ((k * (c + 1) : Nat) : Int) := by
  rw [Int.mul_one, Int.natCast_mul]
  rfl
theorem af0 (c : Nat) (k : Int) (c' : Int) : Fm.after (.lf 0 0 k c') c = c := by
  unfold Fm.after Fm.b Fm.a
  dsimp only
  split <;> omega
theorem af0c (c : Nat) (k : Int) : Fm.after (.cr 0 0 k) c = c := by
  unfold Fm.after Fm.b Fm.a
  dsimp only
  split <;> omega
end Lx
namespace Lw
open PySem PySem.Spec L2 Lx
open PySem.StrLaws
theorem said_step {n : Nat} {f : Fm} (h : f.Ok n) {c : Nat} (hc : c ∈ steps.cps.toList) (rows : List Nat) (rest : Nat) : saidT (f.both (stepF c)) rows rest = stepT c (saidT f rows rest) := by
  have hc4 : c = 85 ∨ c = 68 ∨ c = 77 ∨ c = 78 := by
    have : c ∈ ([85, 68, 77, 78] : List Nat) := hc
    simpa using this
  rcases natF h with ⟨b, a, rfl⟩ | ⟨b, a, k, d, rfl⟩ | ⟨b, a, k, rfl⟩
  · rcases hc4 with rfl | rfl | rfl | rfl
    · have e : (Fm.keep b a).both (stepF 85) = .keep b ((a + 1 : Nat) : Int) := by
        show Fm.keep ((b : Int) + (if (0 : Int) - a > 0 then (0 : Int) - a else 0)) ((if (a : Int) - 0 > 0 then (a : Int) - 0 else 0) + 1) = _
        congr 1 <;> split <;> omega
      rw [e]
      show spT (sdRows (b : Int).toNat ((a + 1 : Nat) : Int).toNat rows) rest = replL [10] [94, 10] (spT (sdRows (b : Int).toNat (a : Int).toNat rows) rest)
      rw [Int.toNat_natCast, Int.toNat_natCast, Int.toNat_natCast, stepU, sd_up]
    · cases a with
      | zero =>
        have e : (Fm.keep b ((0 : Nat) : Int)).both (stepF 68) = .keep ((b + 1 : Nat) : Int) ((0 : Nat) : Int) := by
          show Fm.keep ((b : Int) + (if (1 : Int) - ((0 : Nat) : Int) > 0 then (1 : Int) - ((0 : Nat) : Int) else 0)) ((if ((0 : Nat) : Int) - 1 > 0 then ((0 : Nat) : Int) - 1 else 0) + 0) = _
          congr 1 <;> split <;> omega
        rw [e]
        show spT (sdRows ((b + 1 : Nat) : Int).toNat ((0 : Nat) : Int).toNat rows) rest = replL [94, 10] [10] (spT (sdRows (b : Int).toNat ((0 : Nat) : Int).toNat rows) rest)
        rw [Int.toNat_natCast, Int.toNat_natCast, Int.toNat_natCast, stepD, sd_dn0]
      | succ a =>
        have e : (Fm.keep b ((a + 1 : Nat) : Int)).both (stepF 68) = .keep b a := by
          show Fm.keep ((b : Int) + (if (1 : Int) - ((a + 1 : Nat) : Int) > 0 then (1 : Int) - ((a + 1 : Nat) : Int) else 0)) ((if ((a + 1 : Nat) : Int) - 1 > 0 then ((a + 1 : Nat) : Int) - 1 else 0) + 0) = _
          congr 1 <;> split <;> omega
        rw [e]
        show spT (sdRows (b : Int).toNat (a : Int).toNat rows) rest = replL [94, 10] [10] (spT (sdRows (b : Int).toNat ((a + 1 : Nat) : Int).toNat rows) rest)
        rw [Int.toNat_natCast, Int.toNat_natCast, Int.toNat_natCast, stepD, ← sd_dn]
    · have e : (Fm.keep b a).both (stepF 77) = .lf b a ((1 : Nat) : Int) ((0 : Nat) : Int) := by
        show Fm.lf ((b : Int) + (if (0 : Int) - a > 0 then (0 : Int) - a else 0)) ((if (a : Int) - 0 > 0 then (a : Int) - 0 else 0) + 0) 1 0 = _
        congr 1 <;> split <;> omega
      rw [e]
      show spT (List.replicate (((1 : Nat) : Int).toNat * unT (sdRows (b : Int).toNat (a : Int).toNat rows) rest) ((0 : Nat) : Int).toNat) 0 = replL [94] [10] (spT (sdRows (b : Int).toNat (a : Int).toNat rows) rest)
      rw [Int.toNat_natCast, Int.toNat_natCast, Int.toNat_natCast, Int.toNat_natCast, stepM, Nat.one_mul]
    · have e : (Fm.keep b a).both (stepF 78) = .cr b a ((1 : Nat) : Int) := by
        show Fm.cr ((b : Int) + (if (0 : Int) - a > 0 then (0 : Int) - a else 0)) ((if (a : Int) - 0 > 0 then (a : Int) - 0 else 0) + 0) 1 = _
        congr 1 <;> split <;> omega
      rw [e]
      show spT [] (((1 : Nat) : Int).toNat * unT (sdRows (b : Int).toNat (a : Int).toNat rows) rest) = replL [10] [94] (spT (sdRows (b : Int).toNat (a : Int).toNat rows) rest)
      rw [Int.toNat_natCast, Int.toNat_natCast, Int.toNat_natCast, stepN, Nat.one_mul]
  · rcases hc4 with rfl | rfl | rfl | rfl
    · have e : (Fm.lf b a k d).both (stepF 85) = .lf b a k ((d + 1 : Nat) : Int) := by
        show Fm.lf b a k ((if (d : Int) - 0 > 0 then (d : Int) - 0 else 0) + 1) = _
        congr 1 <;> split <;> omega
      rw [e]
      show spT (List.replicate ((k : Int).toNat * unT (sdRows (b : Int).toNat (a : Int).toNat rows) rest) ((d + 1 : Nat) : Int).toNat) 0 = replL [10] [94, 10] (spT (List.replicate ((k : Int).toNat * unT (sdRows (b : Int).toNat (a : Int).toNat rows) rest) (d : Int).toNat) 0)
      rw [stepU, List.map_replicate]
      simp only [Int.toNat_natCast]
    · have e : (Fm.lf b a k d).both (stepF 68) = .lf b a k ((d - 1 : Nat) : Int) := by
        show Fm.lf b a k ((if (d : Int) - 1 > 0 then (d : Int) - 1 else 0) + 0) = _
        congr 1 <;> split <;> omega
      rw [e]
      show spT (List.replicate ((k : Int).toNat * unT (sdRows (b : Int).toNat (a : Int).toNat rows) rest) ((d - 1 : Nat) : Int).toNat) 0 = replL [94, 10] [10] (spT (List.replicate ((k : Int).toNat * unT (sdRows (b : Int).toNat (a : Int).toNat rows) rest) (d : Int).toNat) 0)
      rw [stepD, List.map_replicate]
      simp only [Int.toNat_natCast]
    · have e : (Fm.lf b a k d).both (stepF 77) = .lf b a ((k * (d + 1) : Nat) : Int) ((0 : Nat) : Int) := by
        show Fm.lf b a ((k : Int) * (Fm.after (.lf 0 0 1 0) d + 1) * 1) 0 = _
        rw [af0, mul1]
        rfl
      rw [e]
      show spT (List.replicate (((k * (d + 1) : Nat) : Int).toNat * unT (sdRows (b : Int).toNat (a : Int).toNat rows) rest) ((0 : Nat) : Int).toNat) 0 = replL [94] [10] (spT (List.replicate ((k : Int).toNat * unT (sdRows (b : Int).toNat (a : Int).toNat rows) rest) (d : Int).toNat) 0)
      rw [stepM, unT_rep]
      simp only [Int.toNat_natCast, Nat.add_zero]
      rw [Nat.mul_right_comm]
    · have e : (Fm.lf b a k d).both (stepF 78) = .cr b a ((k * (d + 1) : Nat) : Int) := by
        show Fm.cr b a ((k : Int) * (Fm.after (.cr 0 0 1) d + 1) * 1) = _
        rw [af0c, mul1]
      rw [e]
      show spT [] (((k * (d + 1) : Nat) : Int).toNat * unT (sdRows (b : Int).toNat (a : Int).toNat rows) rest) = replL [10] [94] (spT (List.replicate ((k : Int).toNat * unT (sdRows (b : Int).toNat (a : Int).toNat rows) rest) (d : Int).toNat) 0)
      rw [stepN, unT_rep]
      simp only [Int.toNat_natCast, Nat.add_zero]
      rw [Nat.mul_right_comm]
  · have un0 : ∀ n, unT [] n = n := fun n => by simp [unT]
    rcases hc4 with rfl | rfl | rfl | rfl
    · show spT [] _ = replL [10] [94, 10] (spT [] _)
      rw [stepU]
      rfl
    · show spT [] _ = replL [94, 10] [10] (spT [] _)
      rw [stepD]
      rfl
    · have e : (Fm.cr b a k).both (stepF 77) = .lf b a k ((0 : Nat) : Int) := by
        show Fm.lf b a ((k : Int) * 1 * 1) 0 = _
        rw [Int.mul_one, Int.mul_one]
        rfl
      rw [e]
      show spT (List.replicate ((k : Int).toNat * unT (sdRows (b : Int).toNat (a : Int).toNat rows) rest) ((0 : Nat) : Int).toNat) 0 = replL [94] [10] (spT [] ((k : Int).toNat * unT (sdRows (b : Int).toNat (a : Int).toNat rows) rest))
      rw [stepM, un0]
      rfl
    · have e : (Fm.cr b a k).both (stepF 78) = .cr b a k := by
        show Fm.cr b a ((k : Int) * 1 * 1) = _
        rw [Int.mul_one, Int.mul_one]
      rw [e]
      show spT [] ((k : Int).toNat * unT (sdRows (b : Int).toNat (a : Int).toNat rows) rest) = replL [10] [94] (spT [] ((k : Int).toNat * unT (sdRows (b : Int).toNat (a : Int).toNat rows) rest))
      rw [stepN, un0]
theorem said_done (rows : List Nat) (rest : Nat) : ∀ (k : Nat) (cs : List Nat), cs.length = k → k ≤ 60 → (∀ c ∈ cs, c ∈ steps.cps.toList) → saidT (formL cs) rows rest = doneT (spT rows rest) cs
  | 0, cs, h, _, _ => by
    rw [List.length_eq_zero_iff.mp h]
    show spT (sdRows 0 0 rows) rest = spT rows rest
    rw [sd_0]
  | k + 1, cs, h, hk, hc => by
    rcases List.eq_nil_or_concat cs with rfl | ⟨ds, c, rfl⟩
    · cases h
    · have e : ds.length = k := by simpa using h
      rw [List.concat_eq_append] at hc ⊢
      have hd : ∀ c ∈ ds, c ∈ steps.cps.toList := fun c h => hc c (List.mem_append_left _ h)
      rw [formL_snoc, doneT_snoc, ← said_done rows rest k ds e (by omega) hd]
      exact said_step (formL_fls k ds e (by omega) hd).ok (hc c (by simp)) rows rest
/-! ### cutting such a text at its breaks -/
theorem spT_join : ∀ (rows : List Nat) (rest : Nat), spT rows rest = TL.joinL [10] (rows.map up ++ [up rest])
  | [], rest => rfl
  | j :: rows, rest => by
    rw [spT_cons, spT_join rows rest]
    cases rows with
    | nil => rfl
    | cons a r => rfl
theorem spT_cut (rows : List Nat) (rest : Nat) : TL.spl [10] 0 [] (spT rows rest) = rows.map up ++ [up rest] := by
  rw [spT_join]
  refine TL.spl_join (by simp) fun p hp => ?_
  have hu : ∀ n, (10 : Nat) ∉ up n := fun n h => by
    have := (List.mem_replicate.mp h).2
    omega
  rcases List.mem_append.mp hp with h | h
  · obtain ⟨n, _, rfl⟩ := List.mem_map.mp h
    exact hu n
  · rw [List.mem_singleton.mp h]
    exact hu _
/-- every text of ^ and breaks is one -/
theorem spT_of : ∀ l : List Nat, (∀ c ∈ l, c = 94 ∨ c = 10) → ∃ rows rest, l = spT rows rest
  | [], _ => ⟨[], 0, rfl⟩
  | c :: l, h => by
    obtain ⟨rows, rest, rfl⟩ := spT_of l fun d hd => h d (List.mem_cons_of_mem _ hd)
    rcases h c List.mem_cons_self with rfl | rfl
    · cases rows with
      | nil => exact ⟨[], rest + 1, rfl⟩
      | cons j rows => exact ⟨(j + 1) :: rows, rest, by rw [spT_cons, spT_cons]; rfl⟩
    · exact ⟨0 :: rows, rest, by rw [spT_cons]; rfl⟩
end Lw
/-! three runs between letters tell a form -/
namespace Lw
open PySem PySem.Spec L2 Lx
open PySem.StrLaws
/-- a letter that is no sign of a break -/
abbrev Sep (e : Nat) : Prop := e ≠ 94 ∧ e ≠ 10
theorem repl1_sep {y e : Nat} {z : List Nat} (he : e ≠ y) (r : List Nat) : ∀ l, replL [y] z (l ++ e :: r) = replL [y] z l ++ e :: replL [y] z r
  | [] => by
    rw [replL_nil]
    show replL [y] z (e :: r) = e :: replL [y] z r
    exact replL_miss (by simpa using he)
  | c :: l => by
    have ih := repl1_sep (z := z) he r l
    by_cases h : c = y
    · subst h
      rw [List.cons_append, replL_hit (by simp) (by simp), replL_hit (by simp) (by simp)]
      show z ++ replL [c] z (l ++ e :: r) = z ++ replL [c] z l ++ _
      rw [ih, List.append_assoc]
    · rw [List.cons_append, replL_miss (by simpa using h), replL_miss (by simpa using h), ih]
      rfl
theorem repl2_sep {e : Nat} (he : Sep e) (r : List Nat) : ∀ (n : Nat) (l : List Nat), l.length ≤ n → replL [94, 10] [10] (l ++ e :: r) = replL [94, 10] [10] l ++ e :: replL [94, 10] [10] r
  | _, [], _ => by
    rw [replL_nil]
    show replL [94, 10] [10] (e :: r) = e :: replL [94, 10] [10] r
    exact replL_miss (by
      intro h
      have h1 : ([94, 10] : List Nat).length = 2 := rfl
      cases r with
      | nil => simp at h
      | cons a r => simp at h; exact he.1 h.1)
  | 0, c :: l, h => by simp at h
  | n + 1, [c], _ => by
    have m1 : replL [94, 10] [10] [c] = [c] := by rw [replL_miss (by simp), replL_nil]
    have m0 : replL [94, 10] [10] (e :: r) = e :: replL [94, 10] [10] r := repl2_sep he r 0 [] (Nat.le_refl _)
    rw [m1]
    show replL [94, 10] [10] (c :: e :: r) = _
    rw [replL_miss (by simp; intro _; exact he.2), m0]
    rfl
  | n + 1, c :: d :: l, h => by
    by_cases hh : c = 94 ∧ d = 10
    · obtain ⟨rfl, rfl⟩ := hh
      have ih := repl2_sep he r n l (by simp at h; omega)
      rw [List.cons_append, List.cons_append, replL_hit (by simp) (by simp), replL_hit (by simp) (by simp)]
      show [10] ++ replL [94, 10] [10] (l ++ e :: r) = [10] ++ replL [94, 10] [10] l ++ _
      rw [ih, List.append_assoc]
    · have ih := repl2_sep he r n (d :: l) (by simp at h ⊢; omega)
      rw [List.cons_append, replL_miss (by simp; intro h1 h2; exact hh ⟨h1, h2⟩), replL_miss (by simp; intro h1 h2; exact hh ⟨h1, h2⟩), ih]
      rfl
theorem stepT_sep {e : Nat} (he : Sep e) (c : Nat) (l r : List Nat) : stepT c (l ++ e :: r) = stepT c l ++ e :: stepT c r := by
  unfold stepT
  split
  · exact repl1_sep he.2 r l
  · split
    · exact repl2_sep he r _ l (Nat.le_refl _)
    · split
      · exact repl1_sep he.1 r l
      · exact repl1_sep he.2 r l
theorem doneT_sep {e : Nat} (he : Sep e) (cs : List Nat) : ∀ l r : List Nat, doneT (l ++ e :: r) cs = doneT l cs ++ e :: doneT r cs := by
  induction cs with
  | nil => exact fun _ _ => rfl
  | cons c cs ih =>
    intro l r
    show doneT (stepT c (l ++ e :: r)) cs = doneT (stepT c l) cs ++ e :: doneT (stepT c r) cs
    rw [stepT_sep he, ih]
theorem doneT_nil : ∀ cs : List Nat, doneT [] cs = []
  | [] => rfl
  | c :: cs => by
    have : stepT c [] = [] := by
      unfold stepT
      split
      · exact replL_nil
      · split
        · exact replL_nil
        · split <;> exact replL_nil
    show doneT (stepT c []) cs = []
    rw [this, doneT_nil cs]
/-- the text of three runs between letters -/
def tst (n : Nat) : List Nat := 97 :: (spT [] 1 ++ 98 :: (spT [0] 0 ++ 99 :: (spT [n] 0 ++ [100])))
theorem tst_done (n : Nat) (cs : List Nat) : doneT (tst n) cs = 97 :: (doneT (spT [] 1) cs ++ 98 :: (doneT (spT [0] 0) cs ++ 99 :: (doneT (spT [n] 0) cs ++ [100]))) := by
  have h1 : doneT (tst n) cs = doneT [] cs ++ 97 :: doneT (spT [] 1 ++ 98 :: (spT [0] 0 ++ 99 :: (spT [n] 0 ++ [100]))) cs := doneT_sep (by decide) cs [] _
  rw [h1, doneT_nil, doneT_sep (by decide), doneT_sep (by decide)]
  have h2 : doneT (spT [n] 0 ++ [100]) cs = doneT (spT [n] 0) cs ++ 100 :: doneT [] cs := doneT_sep (by decide) cs _ []
  rw [h2, doneT_nil]
  rfl
theorem sep_cut {e : Nat} : ∀ {a a' r r' : List Nat}, e ∉ a → e ∉ a' → a ++ e :: r = a' ++ e :: r' → a = a' ∧ r = r'
  | [], [], r, r', _, _, h => ⟨rfl, (List.cons.inj h).2⟩
  | [], c :: a', r, r', _, h2, h => absurd ((List.cons.inj h).1 ▸ List.mem_cons_self) h2
  | c :: a, [], r, r', h1, _, h => absurd ((List.cons.inj h).1 ▸ List.mem_cons_self) h1
  | c :: a, d :: a', r, r', h1, h2, h => by
    obtain ⟨e1, e2⟩ := List.cons.inj h
    obtain ⟨i1, i2⟩ := sep_cut (fun z => h1 (List.mem_cons_of_mem _ z)) (fun z => h2 (List.mem_cons_of_mem _ z)) e2
    exact ⟨by rw [e1, i1], i2⟩
theorem spT_mem {rows : List Nat} {rest e : Nat} (he : Sep e) : e ∉ spT rows rest := by
  intro h
  have up' : ∀ n, e ∉ up n := fun n h => he.1 (List.mem_replicate.mp h).2
  rcases List.mem_append.mp h with h | h
  · obtain ⟨j, _, h⟩ := List.mem_flatMap.mp h
    rcases List.mem_append.mp h with h | h
    · exact up' _ h
    · exact he.2 (List.mem_singleton.mp h)
  · exact up' _ h
theorem up_inj {a b : Nat} (h : up a = up b) : a = b := by
  have := congrArg List.length h
  simpa [up] using this
theorem map_up_inj : ∀ {a b : List Nat}, a.map up = b.map up → a = b
  | [], [], _ => rfl
  | [], _ :: _, h => by simp at h
  | _ :: _, [], h => by simp at h
  | x :: a, y :: b, h => by
    rw [List.map_cons, List.map_cons] at h
    obtain ⟨h1, h2⟩ := List.cons.inj h
    rw [up_inj h1, map_up_inj h2]
theorem spT_inj {rows rows' : List Nat} {rest rest' : Nat} (h : spT rows rest = spT rows' rest') : rows = rows' ∧ rest = rest' := by
  have h1 := congrArg (TL.spl [10] 0 []) h
  rw [spT_cut, spT_cut] at h1
  have h2 : ([rows ++ [rest]].flatten).map up = ([rows' ++ [rest']].flatten).map up := by simpa using h1
  have h3 := map_up_inj h2
  have h4 : rows ++ [rest] = rows' ++ [rest'] := by simpa using h3
  have := List.append_inj' h4 rfl
  exact ⟨this.1, (List.cons.inj this.2).1⟩
theorem mul_inj {k a b : Nat} (hk : 0 < k) (h : k * a = k * b) : a = b := Nat.eq_of_mul_eq_mul_left hk h
theorem rep_inj {k k' c c' : Nat} (hk : 0 < k) (h : List.replicate k c = List.replicate k' c') : k = k' ∧ c = c' := by
  have h1 := congrArg List.length h
  rw [List.length_replicate, List.length_replicate] at h1
  subst h1
  cases k with
  | zero => cases hk
  | succ k =>
    rw [List.replicate_succ, List.replicate_succ] at h
    exact ⟨rfl, (List.cons.inj h).1⟩
/-- what a form makes of the three runs -/
theorem said_keep (b a n : Nat) : saidT (.keep b a) [] 1 = spT [] 1 ∧ saidT (.keep b a) [0] 0 = spT [a] 0 ∧ saidT (.keep b a) [n] 0 = spT [n - b + a] 0 := by
  refine ⟨rfl, ?_, ?_⟩
  · show spT [0 - (b : Int).toNat + (a : Int).toNat] 0 = _
    rw [Int.toNat_natCast, Int.toNat_natCast, Nat.zero_sub, Nat.zero_add]
  · show spT [n - (b : Int).toNat + (a : Int).toNat] 0 = _
    rw [Int.toNat_natCast, Int.toNat_natCast]
theorem unT_one (j : Nat) : unT [j] 0 = j + 1 := by simp [unT]
theorem said_lf (b a k c n : Nat) : saidT (.lf b a k c) [] 1 = spT (List.replicate (k * 1) c) 0 ∧ saidT (.lf b a k c) [0] 0 = spT (List.replicate (k * (a + 1)) c) 0 ∧ saidT (.lf b a k c) [n] 0 = spT (List.replicate (k * (n - b + a + 1)) c) 0 := by
  refine ⟨?_, ?_, ?_⟩
  · show spT (List.replicate ((k : Int).toNat * unT [] 1) (c : Int).toNat) 0 = _
    rw [Int.toNat_natCast, Int.toNat_natCast]
    rfl
  · show spT (List.replicate ((k : Int).toNat * unT [0 - (b : Int).toNat + (a : Int).toNat] 0) (c : Int).toNat) 0 = _
    rw [Int.toNat_natCast, Int.toNat_natCast, Int.toNat_natCast, Int.toNat_natCast, Nat.zero_sub, Nat.zero_add, unT_one]
  · show spT (List.replicate ((k : Int).toNat * unT [n - (b : Int).toNat + (a : Int).toNat] 0) (c : Int).toNat) 0 = _
    rw [Int.toNat_natCast, Int.toNat_natCast, Int.toNat_natCast, Int.toNat_natCast, unT_one]
theorem said_cr (b a k n : Nat) : saidT (.cr b a k) [] 1 = spT [] (k * 1) ∧ saidT (.cr b a k) [0] 0 = spT [] (k * (a + 1)) ∧ saidT (.cr b a k) [n] 0 = spT [] (k * (n - b + a + 1)) := by
  refine ⟨?_, ?_, ?_⟩
  · show spT [] ((k : Int).toNat * unT [] 1) = _
    rw [Int.toNat_natCast]
    rfl
  · show spT [] ((k : Int).toNat * unT [0 - (b : Int).toNat + (a : Int).toNat] 0) = _
    rw [Int.toNat_natCast, Int.toNat_natCast, Int.toNat_natCast, Nat.zero_sub, Nat.zero_add, unT_one]
  · show spT [] ((k : Int).toNat * unT [n - (b : Int).toNat + (a : Int).toNat] 0) = _
    rw [Int.toNat_natCast, Int.toNat_natCast, Int.toNat_natCast, unT_one]
theorem said_tell {m : Nat} {f g : Fm} (hf : f.Ok m) (hg : g.Ok m) {n : Nat} (bf : f.b ≤ n) (bg : g.b ≤ n)
    (h1 : saidT f [] 1 = saidT g [] 1) (h2 : saidT f [0] 0 = saidT g [0] 0) (h3 : saidT f [n] 0 = saidT g [n] 0) : f = g := by
  rcases natF hf with ⟨b, a, rfl⟩ | ⟨b, a, k, c, rfl⟩ | ⟨b, a, k, rfl⟩ <;> rcases natF hg with ⟨b', a', rfl⟩ | ⟨b', a', k', c', rfl⟩ | ⟨b', a', k', rfl⟩
  · obtain ⟨-, e2, e3⟩ := said_keep b a n
    obtain ⟨-, e2', e3'⟩ := said_keep b' a' n
    rw [e2, e2'] at h2
    rw [e3, e3'] at h3
    have q2 := (List.cons.inj (spT_inj h2).1).1
    have q3 := (List.cons.inj (spT_inj h3).1).1
    have p1 : (b : Int) ≤ n := bf
    have p2 : (b' : Int) ≤ n := bg
    have : b = b' := by omega
    rw [this, q2]
  · obtain ⟨e1, -, -⟩ := said_keep b a n
    obtain ⟨e1', -, -⟩ := said_lf b' a' k' c' n
    rw [e1, e1'] at h1
    have := (spT_inj h1).2
    omega
  · obtain ⟨-, e2, -⟩ := said_keep b a n
    obtain ⟨-, e2', -⟩ := said_cr b' a' k' n
    rw [e2, e2'] at h2
    cases (spT_inj h2).1
  · obtain ⟨e1, -, -⟩ := said_lf b a k c n
    obtain ⟨e1', -, -⟩ := said_keep b' a' n
    rw [e1, e1'] at h1
    have := (spT_inj h1).2
    omega
  · obtain ⟨e1, e2, e3⟩ := said_lf b a k c n
    obtain ⟨e1', e2', e3'⟩ := said_lf b' a' k' c' n
    rw [e1, e1'] at h1
    rw [e2, e2'] at h2
    rw [e3, e3'] at h3
    have hk : 0 < k := by have := hf.2.2.1; omega
    obtain ⟨q1, qc⟩ := rep_inj (by omega) (spT_inj h1).1
    have qk : k = k' := by omega
    subst qk
    have q2 := (rep_inj (Nat.mul_pos hk (Nat.succ_pos _)) (spT_inj h2).1).1
    have q3 := (rep_inj (Nat.mul_pos hk (Nat.succ_pos _)) (spT_inj h3).1).1
    have qa := mul_inj hk q2
    have qb := mul_inj hk q3
    have p1 : (b : Int) ≤ n := bf
    have p2 : (b' : Int) ≤ n := bg
    have ea : a = a' := by omega
    have eb : b = b' := by omega
    rw [ea, eb, qc]
  · obtain ⟨e1, -, -⟩ := said_lf b a k c n
    obtain ⟨e1', -, -⟩ := said_cr b' a' k' n
    rw [e1, e1'] at h1
    have hk : 0 < k' := by have := hg.2.2.1; omega
    have := (spT_inj h1).2
    omega
  · obtain ⟨-, e2, -⟩ := said_cr b a k n
    obtain ⟨-, e2', -⟩ := said_keep b' a' n
    rw [e2, e2'] at h2
    cases (spT_inj h2).1
  · obtain ⟨e1, -, -⟩ := said_cr b a k n
    obtain ⟨e1', -, -⟩ := said_lf b' a' k' c' n
    rw [e1, e1'] at h1
    have hk : 0 < k := by have := hf.2.2.1; omega
    have := (spT_inj h1).2
    omega
  · obtain ⟨e1, e2, e3⟩ := said_cr b a k n
    obtain ⟨e1', e2', e3'⟩ := said_cr b' a' k' n
    rw [e1, e1'] at h1
    rw [e2, e2'] at h2
    rw [e3, e3'] at h3
    have hk : 0 < k := by have := hf.2.2.1; omega
    have qk : k = k' := by have := (spT_inj h1).2; omega
    subst qk
    have qa := mul_inj hk (spT_inj h2).2
    have qb := mul_inj hk (spT_inj h3).2
    have p1 : (b : Int) ≤ n := bf
    have p2 : (b' : Int) ≤ n := bg
    have ea : a = a' := by omega
    have eb : b = b' := by omega
    rw [ea, eb]
end Lw
namespace Lw
open PySem PySem.Spec L2 Lx
/-! ### the runs of a text -/
abbrev Rn := List (Int × Int) × Int
/-- the run with these groups, one by one, and a rest -/
def rnT (rows : List Nat) (rest : Nat) : Rn := (Lx.merged (rows.map fun n : Nat => ((1 : Int), (n : Int))), (rest : Int))
def spc (c : Nat) : Nat := if c = 94 ∨ c = 10 then c else 32
def rowsOf (l : List Nat) : List Nat := ((TL.spl [10] 0 [] l).dropLast).map List.length
def restOf (l : List Nat) : Nat := ((TL.spl [10] 0 [] l).getLast?.getD []).length
theorem rowsOf_spT (rows : List Nat) (rest : Nat) : rowsOf (spT rows rest) = rows := by
  unfold rowsOf
  rw [spT_cut, List.dropLast_concat, List.map_map]
  have : (List.length ∘ up) = id := funext fun n => by simp [up]
  rw [this, List.map_id]
theorem restOf_spT (rows : List Nat) (rest : Nat) : restOf (spT rows rest) = rest := by
  unfold restOf
  rw [spT_cut, List.getLast?_concat]
  simp [up]
/-- the run of a text of signs alone -/
def rpT (l : List Nat) : Rn := rnT (rowsOf l) (restOf l)
theorem rpT_spT (rows : List Nat) (rest : Nat) : rpT (spT rows rest) = rnT rows rest := by
  unfold rpT
  rw [rowsOf_spT, restOf_spT]
def piecesT (l : List Nat) : List (List Nat) := (TL.spl [32] 0 [] (l.map spc)).filter fun p => !p.isEmpty
def runsT (l : List Nat) : List Rn := (piecesT l).map rpT
def Signs (l : List Nat) : Prop := ∀ c ∈ l, c = 94 ∨ c = 10
theorem spT_signs (rows : List Nat) (rest : Nat) : Signs (spT rows rest) := fun c hc => by
  unfold spT at hc
  rcases List.mem_append.mp hc with h | h
  · obtain ⟨j, _, h⟩ := List.mem_flatMap.mp h
    rcases List.mem_append.mp h with h | h
    · exact .inl (List.mem_replicate.mp h).2
    · exact .inr (List.mem_singleton.mp h)
  · exact .inl (List.mem_replicate.mp h).2
theorem map_spc {l : List Nat} (h : Signs l) : l.map spc = l := by
  induction l with
  | nil => rfl
  | cons c l ih =>
    rw [List.map_cons, ih fun d hd => h d (List.mem_cons_of_mem _ hd)]
    unfold spc
    rw [if_pos (h c (List.mem_cons_self ..))]
theorem not32 {l : List Nat} (h : Signs l) : 32 ∉ l := fun z => by rcases h 32 z with e | e <;> cases e
theorem spl32 {l : List Nat} (h : Signs l) {e : Nat} (he : Sep e) (r : List Nat) : TL.spl [32] 0 [] ((l ++ e :: r).map spc) = l :: TL.spl [32] 0 [] (r.map spc) := by
  have e1 : spc e = 32 := by
    unfold spc
    rw [if_neg (by rcases he with ⟨a, b⟩; omega)]
  rw [List.map_append, List.map_cons, map_spc h, e1]
  have := TL.spl_part1 (s := 32) (S := []) (p := l) (rest := r.map spc) (acc := []) (not32 h)
  rw [List.nil_append] at this
  exact this
theorem spl32_last {l : List Nat} (h : Signs l) : TL.spl [32] 0 [] (l.map spc) = [l] := by
  rw [map_spc h]
  have := TL.spl_last1 (s := 32) (S := []) (p := l) (acc := []) (not32 h)
  rw [List.nil_append] at this
  exact this
theorem pieces_cons {l : List Nat} (h : Signs l) {e : Nat} (he : Sep e) (r : List Nat) : piecesT (l ++ e :: r) = (if l = [] then [] else [l]) ++ piecesT r := by
  unfold piecesT
  rw [spl32 h he]
  cases l with
  | nil => rfl
  | cons c l => rfl
theorem pieces_last {l : List Nat} (h : Signs l) : piecesT l = if l = [] then [] else [l] := by
  unfold piecesT
  rw [spl32_last h]
  cases l with
  | nil => rfl
  | cons c l => rfl
/-- a text is runs between other letters -/
theorem cut_text : ∀ l : List Nat, ∃ a : List Nat, Signs a ∧ (l = a ∨ ∃ e r, Sep e ∧ l = a ++ e :: r ∧ r.length < l.length)
  | [] => ⟨[], (fun c h => by cases h), .inl rfl⟩
  | c :: l => by
    by_cases h : c = 94 ∨ c = 10
    · obtain ⟨a, ha, h2⟩ := cut_text l
      refine ⟨c :: a, fun d hd => ?_, ?_⟩
      · rcases List.mem_cons.mp hd with rfl | hd
        · exact h
        · exact ha d hd
      · rcases h2 with rfl | ⟨e, r, he, rfl, hl⟩
        · exact .inl rfl
        · exact .inr ⟨e, r, he, rfl, by rw [List.length_cons]; omega⟩
    · exact ⟨[], (fun d hd => by cases hd), .inr ⟨c, l, ⟨fun z => h (.inl z), fun z => h (.inr z)⟩, rfl, by rw [List.length_cons]; omega⟩⟩
theorem piece_ok : ∀ (n : Nat) (l : List Nat), l.length ≤ n → ∀ p ∈ piecesT l, Signs p ∧ p ≠ [] ∧ p.length ≤ l.length
  | n, l, hn, p, hp => by
    obtain ⟨a, ha, h | ⟨e, r, he, h, hl⟩⟩ := cut_text l
    · rw [h] at hp ⊢
      rw [pieces_last ha] at hp
      by_cases c : a = []
      · rw [if_pos c] at hp; cases hp
      · rw [if_neg c] at hp
        rw [List.mem_singleton.mp hp]
        exact ⟨ha, c, Nat.le_refl _⟩
    · cases n with
      | zero => omega
      | succ n =>
        have ih := piece_ok n r (by omega)
        rw [h, pieces_cons ha he] at hp
        have hle : l.length = a.length + (r.length + 1) := by rw [h, List.length_append, List.length_cons]
        rcases List.mem_append.mp hp with hp | hp
        · by_cases c : a = []
          · rw [if_pos c] at hp; cases hp
          · rw [if_neg c] at hp
            rw [List.mem_singleton.mp hp]
            exact ⟨ha, c, by omega⟩
        · obtain ⟨h1, h2, h3⟩ := ih p hp
          exact ⟨h1, h2, by omega⟩
theorem spl_len (S : List Nat) : ∀ (l : List Nat) (k : Nat) (acc : List Nat), (TL.spl S k acc l).length ≤ l.length + 1
  | [], k, acc => by rw [TL.spl_nil]; simp
  | c :: l, 0, acc => by
    by_cases h : TL.pre S (c :: l) = true
    · rw [TL.spl_hit h, List.length_cons, List.length_cons]
      have := spl_len S l (S.length - 1) []
      omega
    · rw [TL.spl_miss (by simpa using h), List.length_cons]
      have := spl_len S l 0 (acc ++ [c])
      omega
  | c :: l, k + 1, acc => by
    show (TL.spl S k acc l).length ≤ _
    rw [List.length_cons]
    have := spl_len S l k acc
    omega
theorem rows_small {rows : List Nat} {rest : Nat} : rows.length ≤ (spT rows rest).length ∧ rest ≤ (spT rows rest).length ∧ ∀ n ∈ rows, n ≤ (spT rows rest).length := by
  have ms : ∀ {l : List Nat} {n : Nat}, n ∈ l → n ≤ l.sum := fun {l n} h => by
    induction l with
    | nil => cases h
    | cons a l ih =>
      rw [List.sum_cons]
      rcases List.mem_cons.mp h with rfl | h
      · omega
      · have := ih h
        omega
  rw [spT_len]
  unfold unT
  exact ⟨by omega, by omega, fun n h => by have := ms h; omega⟩
/-- the truth of e, K said outright -/
def tTruK (K : PySem.W.Frag) (ta : TE) : L2.TT := fun σ H Q => ta σ H fun x H' => ∃ k, TruV K x H' k ∧ Q k H'
theorem pt_truthK {X : Cx} {K : PySem.W.Frag} {a : Expr} {ta : TE} (hK : X.K = K) (ha : PE X a ta) (he : ∀ whole, isTrue a X.env whole = (do let v ← whole; standAt a.pos; holding [v] (truthy v))) :
    PT X a (tTruK K ta) := by
  subst hK
  exact pt_truth ha he
/-! ### lists of runs, a list apart -/
inductive RnsD (K : PySem.W.Frag) (H : Hp) (D : Addr) : List V → List Rn → Prop
  | nil : RnsD K H D [] []
  | cons {v : V} {vs : List V} {r : Rn} {rs : List Rn} : (∃ l, l ≠ D ∧ RnS K H v l r) → RnsD K H D vs rs → RnsD K H D (v :: vs) (r :: rs)
theorem RnsD.same {K : PySem.W.Frag} {H H' : Hp} {D : Addr} (s : Same H H') : ∀ {vs rs}, RnsD K H D vs rs → RnsD K H' D vs rs
  | _, _, .nil => .nil
  | _, _, .cons ⟨l, n, h⟩ t => .cons ⟨l, n, h.same s⟩ (t.same s)
theorem RnsD.lstUpd {K : PySem.W.Frag} {H : Hp} {D : Addr} {ys : List V} {o : HO} (e : H D = some (.lst ys)) : ∀ {vs rs}, RnsD K H D vs rs → RnsD K (upd H D o) D vs rs
  | _, _, .nil => .nil
  | _, _, .cons ⟨l, n, h⟩ t => .cons ⟨l, n, h.upd e n⟩ (RnsD.lstUpd e t)
theorem RnsD.append {K : PySem.W.Frag} {H : Hp} {D : Addr} : ∀ {vs ws rs qs}, RnsD K H D vs rs → RnsD K H D ws qs → RnsD K H D (vs ++ ws) (rs ++ qs)
  | _, _, _, _, .nil, h => h
  | _, _, _, _, .cons a t, h => .cons a (t.append h)
theorem RnsD.rns {K : PySem.W.Frag} {H : Hp} {D : Addr} : ∀ {vs rs}, RnsD K H D vs rs → Rns K H vs rs
  | _, _, .nil => .nil
  | _, _, .cons ⟨l, _, h⟩ t => .cons ⟨l, h⟩ t.rns
theorem RnsD.len {K : PySem.W.Frag} {H : Hp} {D : Addr} {vs rs} (h : RnsD K H D vs rs) : vs.length = rs.length := h.rns.len
end Lw
namespace Lw
open PySem PySem.Spec L2 Lx
/-! ### products and sums of factors -/
def pr : List Nat → Nat
  | [] => 1
  | g :: gs => g * pr gs
theorem pr_app : ∀ a b : List Nat, pr (a ++ b) = pr a * pr b
  | [], b => (Nat.one_mul _).symm
  | g :: a, b => by
    show g * pr (a ++ b) = g * pr a * pr b
    rw [pr_app a b, Nat.mul_assoc]
theorem pr_snoc (a : List Nat) (g : Nat) : pr (a ++ [g]) = pr a * g := by
  rw [pr_app]
  show pr a * (g * 1) = _
  rw [Nat.mul_one]
/-- a prime -/
def Pm (p : Nat) : Prop := 2 ≤ p ∧ ∀ d, d ∣ p → d = 1 ∨ d = p
theorem Pm.dvd_mul {p a b : Nat} (hp : Pm p) (h : p ∣ a * b) : p ∣ a ∨ p ∣ b := by
  rcases hp.2 (Nat.gcd p a) (Nat.gcd_dvd_left p a) with h1 | h1
  · exact .inr (Nat.Coprime.dvd_of_dvd_mul_left h1 h)
  · exact .inl (h1 ▸ Nat.gcd_dvd_right p a)
theorem Pm.dvd_pr {p : Nat} (hp : Pm p) : ∀ {gs : List Nat}, p ∣ pr gs → ∃ a g b, gs = a ++ g :: b ∧ p ∣ g
  | [], h => by
    have := Nat.le_of_dvd (by decide) h
    have := hp.1
    show _
    exact absurd this (by change ¬ 2 ≤ p; show ¬ 2 ≤ p; have h1 : p ≤ 1 := ‹p ≤ pr []›; omega)
  | g :: gs, h => by
    rcases hp.dvd_mul h with h1 | h1
    · exact ⟨[], g, gs, rfl, h1⟩
    · obtain ⟨a, y, b, e, hy⟩ := hp.dvd_pr h1
      exact ⟨g :: a, y, b, by rw [e]; rfl, hy⟩
theorem pr_mid (a b : List Nat) (g : Nat) : pr (a ++ g :: b) = g * pr (a ++ b) := by
  rw [pr_app, pr_app]
  show pr a * (g * pr b) = _
  rw [← Nat.mul_assoc, Nat.mul_comm (pr a) g, Nat.mul_assoc]
theorem sum_mid (a b : List Nat) (g : Nat) : (a ++ g :: b).sum = g + (a ++ b).sum := by
  rw [List.sum_append, List.sum_append, List.sum_cons]
  omega
theorem pr_pos {gs : List Nat} (h : ∀ g ∈ gs, 2 ≤ g) : 0 < pr gs := by
  induction gs with
  | nil => exact Nat.one_pos
  | cons g gs ih => exact Nat.mul_pos (by have := h g (List.mem_cons_self ..); omega) (ih fun x hx => h x (List.mem_cons_of_mem _ hx))
/-- no way to write a product has a smaller sum than the one by primes -/
theorem min_sum : ∀ {fs : List Nat}, (∀ p ∈ fs, Pm p) → ∀ {gs : List Nat}, (∀ g ∈ gs, 2 ≤ g) → pr fs = pr gs → fs.sum ≤ gs.sum
  | [], _, gs, _, _ => Nat.zero_le _
  | p :: fs, hf, gs, hg, e => by
    have hp := hf p (List.mem_cons_self ..)
    obtain ⟨a, g, b, rfl, m, rfl⟩ := hp.dvd_pr (show p ∣ pr gs from ⟨pr fs, e.symm⟩)
    have hab : ∀ x ∈ a ++ b, 2 ≤ x := fun x hx => hg x (by
      rcases List.mem_append.mp hx with h | h
      · exact List.mem_append_left _ h
      · exact List.mem_append_right _ (List.mem_cons_of_mem _ h))
    have hg2 := hg (p * m) (by simp)
    have p0 : 0 < p := by have := hp.1; omega
    rw [pr_mid, Nat.mul_assoc] at e
    have e2 : pr fs = m * pr (a ++ b) := Nat.eq_of_mul_eq_mul_left p0 e
    rw [sum_mid, List.sum_cons]
    by_cases h1 : m = 1
    · subst h1
      rw [Nat.one_mul] at e2
      have := min_sum (fun q hq => hf q (List.mem_cons_of_mem _ hq)) hab e2
      omega
    · have hm : 2 ≤ m := by
        rcases m with _ | _ | m
        · rw [Nat.mul_zero] at hg2; omega
        · exact absurd rfl h1
        · omega
      have := min_sum (fun q hq => hf q (List.mem_cons_of_mem _ hq)) (gs := m :: (a ++ b)) (fun x hx => by
        rcases List.mem_cons.mp hx with rfl | h
        · exact hm
        · exact hab x h) e2
      rw [List.sum_cons] at this
      have : p + m ≤ p * m := by
        have h2 : 2 ≤ p := hp.1
        obtain ⟨x, rfl⟩ := Nat.exists_eq_add_of_le h2
        obtain ⟨y, rfl⟩ := Nat.exists_eq_add_of_le hm
        rw [Nat.add_mul, Nat.mul_add, Nat.mul_add]
        omega
      omega
/-! ### what one step makes of a form -/
theorem st_kU {b a : Int} (h : 0 ≤ a) : (Fm.keep b a).both (.keep 0 1) = .keep b (a + 1) := by
  show Fm.keep (b + (if 0 - a > 0 then 0 - a else 0)) ((if a - 0 > 0 then a - 0 else 0) + 1) = _
  congr 1 <;> split <;> omega
theorem st_kD {b a : Int} (h : 0 ≤ a) : (Fm.keep b a).both (.keep 1 0) = if a = 0 then .keep (b + 1) 0 else .keep b (a - 1) := by
  show Fm.keep (b + (if 1 - a > 0 then 1 - a else 0)) ((if a - 1 > 0 then a - 1 else 0) + 0) = _
  split <;> split <;> split <;> congr 1 <;> omega
theorem st_kM {b a : Int} (h : 0 ≤ a) : (Fm.keep b a).both (.lf 0 0 1 0) = .lf b a 1 0 := by
  show Fm.lf (b + (if 0 - a > 0 then 0 - a else 0)) ((if a - 0 > 0 then a - 0 else 0) + 0) 1 0 = _
  congr 1 <;> split <;> omega
theorem st_kN {b a : Int} (h : 0 ≤ a) : (Fm.keep b a).both (.cr 0 0 1) = .cr b a 1 := by
  show Fm.cr (b + (if 0 - a > 0 then 0 - a else 0)) ((if a - 0 > 0 then a - 0 else 0) + 0) 1 = _
  congr 1 <;> split <;> omega
theorem st_lU {b a k c : Int} (h : 0 ≤ c) : (Fm.lf b a k c).both (.keep 0 1) = .lf b a k (c + 1) := by
  show Fm.lf b a k ((if c - 0 > 0 then c - 0 else 0) + 1) = _
  congr 1
  split <;> omega
theorem st_lD {b a k c : Int} (h : 0 ≤ c) : (Fm.lf b a k c).both (.keep 1 0) = .lf b a k (if c - 1 > 0 then c - 1 else 0) := by
  show Fm.lf b a k ((if c - 1 > 0 then c - 1 else 0) + 0) = _
  rw [Int.add_zero]
theorem st_lM {b a k c : Int} (h : 0 ≤ c) : (Fm.lf b a k c).both (.lf 0 0 1 0) = .lf b a (k * (c + 1)) 0 := by
  have e1 : Fm.after (.lf 0 0 1 0) c = c := by
    unfold Fm.after Fm.b Fm.a
    dsimp only
    split <;> omega
  show Fm.lf b a (k * (Fm.after (.lf 0 0 1 0) c + 1) * 1) 0 = _
  rw [e1, Int.mul_one]
theorem st_lN {b a k c : Int} (h : 0 ≤ c) : (Fm.lf b a k c).both (.cr 0 0 1) = .cr b a (k * (c + 1)) := by
  have e1 : Fm.after (.cr 0 0 1) c = c := by
    unfold Fm.after Fm.b Fm.a
    dsimp only
    split <;> omega
  show Fm.cr b a (k * (Fm.after (.cr 0 0 1) c + 1) * 1) = _
  rw [e1, Int.mul_one]
theorem st_cM {b a k : Int} : (Fm.cr b a k).both (.lf 0 0 1 0) = .lf b a k 0 := by
  show Fm.lf b a (k * 1 * 1) 0 = _
  rw [Int.mul_one, Int.mul_one]
theorem st_cN {b a k : Int} : (Fm.cr b a k).both (.cr 0 0 1) = .cr b a k := by
  show Fm.cr b a (k * 1 * 1) = _
  rw [Int.mul_one, Int.mul_one]
/-! ### a chain has at least the fewest steps of its form -/
/-- a form that a chain of n steps may have -/
def LowB : Fm → Nat → Prop
  | .keep b a, n => 0 ≤ b ∧ 0 ≤ a ∧ b + a ≤ n
  | .lf b a k c, n => 0 ≤ b ∧ 0 ≤ a ∧ 0 ≤ c ∧ ∃ gs : List Nat, (∀ g ∈ gs, 2 ≤ g) ∧ (pr gs : Int) = k ∧ b + a + 1 + (gs.sum : Int) + c ≤ n
  | .cr b a k, n => 0 ≤ b ∧ 0 ≤ a ∧ ∃ gs : List Nat, (∀ g ∈ gs, 2 ≤ g) ∧ (pr gs : Int) = k ∧ b + a + 1 + (gs.sum : Int) ≤ n
theorem low_mul {k c : Int} {gs : List Nat} (hc : 0 ≤ c) (hg : ∀ g ∈ gs, 2 ≤ g) (hk : (pr gs : Int) = k) : ∃ hs : List Nat, (∀ g ∈ hs, 2 ≤ g) ∧ (pr hs : Int) = k * (c + 1) ∧ (hs.sum : Int) ≤ gs.sum + c + 1 := by
  by_cases h0 : c = 0
  · subst h0
    exact ⟨gs, hg, by rw [Int.zero_add, Int.mul_one]; exact hk, by omega⟩
  · obtain ⟨c, rfl⟩ := Int.eq_ofNat_of_zero_le hc
    refine ⟨gs ++ [c + 1], fun g h => ?_, ?_, ?_⟩
    · rcases List.mem_append.mp h with h | h
      · exact hg g h
      · rw [List.mem_singleton.mp h]; omega
    · rw [pr_snoc, Int.natCast_mul, hk]
      rfl
    · rw [List.sum_append]
      show ((gs.sum + (c + 1 + 0) : Nat) : Int) ≤ _
      omega
theorem low_step {f : Fm} {n : Nat} {c : Nat} (hc : c ∈ steps.cps.toList) (h : LowB f n) : LowB (f.both (stepF c)) (n + 1) := by
  rcases step_cases hc with e | e | e | e <;> rw [e]
  · cases f with
    | keep b a =>
      obtain ⟨h1, h2, h3⟩ := h
      rw [st_kU h2]
      exact ⟨h1, by omega, by omega⟩
    | lf b a k c =>
      obtain ⟨h1, h2, h3, gs, h4, h5, h6⟩ := h
      rw [st_lU h3]
      exact ⟨h1, h2, by omega, gs, h4, h5, by omega⟩
    | cr b a k =>
      obtain ⟨h1, h2, gs, h4, h5, h6⟩ := h
      exact ⟨h1, h2, gs, h4, h5, by omega⟩
  · cases f with
    | keep b a =>
      obtain ⟨h1, h2, h3⟩ := h
      rw [st_kD h2]
      split
      · exact ⟨by omega, by decide, by omega⟩
      · exact ⟨h1, by omega, by omega⟩
    | lf b a k c =>
      obtain ⟨h1, h2, h3, gs, h4, h5, h6⟩ := h
      rw [st_lD h3]
      refine ⟨h1, h2, by split <;> omega, gs, h4, h5, by split <;> omega⟩
    | cr b a k =>
      obtain ⟨h1, h2, gs, h4, h5, h6⟩ := h
      exact ⟨h1, h2, gs, h4, h5, by omega⟩
  · cases f with
    | keep b a =>
      obtain ⟨h1, h2, h3⟩ := h
      rw [st_kM h2]
      exact ⟨h1, h2, by decide, [], (fun g h => by cases h), rfl, by show b + a + 1 + 0 + 0 ≤ _; omega⟩
    | lf b a k c =>
      obtain ⟨h1, h2, h3, gs, h4, h5, h6⟩ := h
      rw [st_lM h3]
      obtain ⟨hs, q1, q2, q3⟩ := low_mul h3 h4 h5
      exact ⟨h1, h2, by decide, hs, q1, q2, by omega⟩
    | cr b a k =>
      obtain ⟨h1, h2, gs, h4, h5, h6⟩ := h
      rw [st_cM]
      exact ⟨h1, h2, by decide, gs, h4, h5, by omega⟩
  · cases f with
    | keep b a =>
      obtain ⟨h1, h2, h3⟩ := h
      rw [st_kN h2]
      exact ⟨h1, h2, [], (fun g h => by cases h), rfl, by show b + a + 1 + 0 ≤ _; omega⟩
    | lf b a k c =>
      obtain ⟨h1, h2, h3, gs, h4, h5, h6⟩ := h
      rw [st_lN h3]
      obtain ⟨hs, q1, q2, q3⟩ := low_mul h3 h4 h5
      exact ⟨h1, h2, hs, q1, q2, by omega⟩
    | cr b a k =>
      obtain ⟨h1, h2, gs, h4, h5, h6⟩ := h
      rw [st_cN]
      exact ⟨h1, h2, gs, h4, h5, by omega⟩
theorem low_form : ∀ (n : Nat) (cs : List Nat), cs.length = n → (∀ c ∈ cs, c ∈ steps.cps.toList) → LowB (formL cs) n
  | 0, cs, h, _ => by
    rw [List.length_eq_zero_iff.mp h]
    exact ⟨by decide, by decide, by decide⟩
  | n + 1, cs, h, hc => by
    rcases List.eq_nil_or_concat cs with rfl | ⟨ds, c, rfl⟩
    · cases h
    · rw [List.concat_eq_append] at h hc ⊢
      rw [formL_snoc]
      exact low_step (hc c (by simp)) (low_form n ds (by simpa using h) fun d hd => hc d (List.mem_append_left _ hd))
/-! ### steps of a form whose k is the product of primes -/
/-- the primes of a form -/
def Prim : Fm → List Nat → Prop
  | .keep _ _, fs => fs = []
  | .lf _ _ k _, fs => (∀ p ∈ fs, Pm p) ∧ (pr fs : Int) = k
  | .cr _ _ k, fs => (∀ p ∈ fs, Pm p) ∧ (pr fs : Int) = k
def stepsF : Fm → List Nat → Int
  | .keep b a, _ => b + a
  | .lf b a _ c, fs => b + a + 1 + (fs.sum : Int) + c
  | .cr b a _, fs => b + a + 1 + (fs.sum : Int)
theorem steps_le {f : Fm} {n : Nat} {fs : List Nat} (h : LowB f n) (hp : Prim f fs) : stepsF f fs ≤ n := by
  cases f with
  | keep b a => exact h.2.2
  | lf b a k c =>
    obtain ⟨h1, h2, h3, gs, h4, h5, h6⟩ := h
    have := min_sum hp.1 h4 (Int.ofNat_inj.mp (hp.2.trans h5.symm))
    show b + a + 1 + (fs.sum : Int) + c ≤ n
    omega
  | cr b a k =>
    obtain ⟨h1, h2, gs, h4, h5, h6⟩ := h
    have := min_sum hp.1 h4 (Int.ofNat_inj.mp (hp.2.trans h5.symm))
    show b + a + 1 + (fs.sum : Int) ≤ n
    omega
theorem steps_min {x : Str} (hx : ChOk x) {fs : List Nat} (hp : Prim (formOf x) fs) : stepsF (formOf x) fs ≤ x.cps.size := steps_le (low_form _ x.cps.toList (Array.length_toList ..) hx) hp
end Lw
namespace Lw
open PySem PySem.Spec L2 Lx
/-! ### the chain that a list of factors gives -/
def go (f : Fm) (cs : List Nat) : Fm := cs.foldl (fun f c => f.both (stepF c)) f
theorem go_app (f : Fm) (a b : List Nat) : go f (a ++ b) = go (go f a) b := List.foldl_append
theorem go_nothing (cs : List Nat) : go nothing cs = formL cs := rfl
theorem go_one (f : Fm) (c : Nat) : go f [c] = f.both (stepF c) := rfl
theorem go_D : ∀ (n : Nat) {b : Int}, go (.keep b 0) (List.replicate n 68) = .keep (b + n) 0
  | 0, b => by show Fm.keep b 0 = Fm.keep (b + 0) 0; rw [Int.add_zero]
  | n + 1, b => by
    show go ((Fm.keep b 0).both (.keep 1 0)) (List.replicate n 68) = _
    rw [st_kD (by decide), if_pos rfl, go_D n]
    congr 1
    omega
theorem go_kU : ∀ (n : Nat) {b a : Int}, 0 ≤ a → go (.keep b a) (List.replicate n 85) = .keep b (a + n)
  | 0, b, a, _ => by show Fm.keep b a = Fm.keep b (a + 0); rw [Int.add_zero]
  | n + 1, b, a, h => by
    show go ((Fm.keep b a).both (.keep 0 1)) (List.replicate n 85) = _
    rw [st_kU h, go_kU n (by omega)]
    congr 1
    omega
theorem go_lU : ∀ (n : Nat) {b a k c : Int}, 0 ≤ c → go (.lf b a k c) (List.replicate n 85) = .lf b a k (c + n)
  | 0, b, a, k, c, _ => by show Fm.lf b a k c = Fm.lf b a k (c + 0); rw [Int.add_zero]
  | n + 1, b, a, k, c, h => by
    show go ((Fm.lf b a k c).both (.keep 0 1)) (List.replicate n 85) = _
    rw [st_lU h, go_lU n (by omega)]
    congr 1
    omega
def seg (p : Nat) : List Nat := List.replicate (p - 1) 85 ++ [77]
def segs (gs : List Nat) : List Nat := gs.flatMap seg
theorem go_segs : ∀ (gs : List Nat), (∀ g ∈ gs, 1 ≤ g) → ∀ {b a k : Int}, go (.lf b a k 0) (segs gs) = .lf b a (k * (pr gs : Int)) 0
  | [], _, b, a, k => by show Fm.lf b a k 0 = Fm.lf b a (k * 1) 0; rw [Int.mul_one]
  | g :: gs, h, b, a, k => by
    have hg := h g (List.mem_cons_self ..)
    show go (.lf b a k 0) (seg g ++ segs gs) = _
    rw [go_app]
    have e : go (.lf b a k 0) (seg g) = .lf b a (k * (g : Int)) 0 := by
      unfold seg
      rw [go_app, go_lU _ (by decide)]
      show (Fm.lf b a k (0 + ((g - 1 : Nat) : Int))).both (.lf 0 0 1 0) = _
      rw [st_lM (by omega)]
      congr 2
      omega
    rw [e, go_segs gs fun x hx => h x (List.mem_cons_of_mem _ hx)]
    congr 1
    show k * (g : Int) * (pr gs : Int) = k * ((g * pr gs : Nat) : Int)
    rw [Int.natCast_mul, Int.mul_assoc]
def startL (b a : Int) : List Nat := List.replicate b.toNat 68 ++ List.replicate a.toNat 85
theorem go_start {b a : Int} (hb : 0 ≤ b) (ha : 0 ≤ a) : formL (startL b a) = .keep b a := by
  rw [← go_nothing]
  unfold startL
  rw [go_app, go_D, go_kU _ (by decide), Int.toNat_of_nonneg ha]
  congr 1 <;> omega
def shc : Fm → List Nat → List Nat
  | .keep b a, _ => startL b a
  | .lf b a _ c, gs => startL b a ++ (77 :: segs gs) ++ List.replicate c.toNat 85
  | .cr b a _, gs => startL b a ++ (77 :: segs gs).dropLast ++ [78]
theorem segs_snoc (gs : List Nat) (g : Nat) : 77 :: segs (gs ++ [g]) = (77 :: segs gs) ++ List.replicate (g - 1) 85 ++ [77] := by
  unfold segs
  rw [List.flatMap_append]
  show 77 :: (gs.flatMap seg ++ (seg g ++ [])) = _
  rw [List.append_nil]
  unfold seg
  simp
theorem drop_snoc (gs : List Nat) (g : Nat) : (77 :: segs (gs ++ [g])).dropLast = (77 :: segs gs) ++ List.replicate (g - 1) 85 := by
  rw [segs_snoc, List.dropLast_concat]
/-- factors of a form -/
def Fac : Fm → List Nat → Prop
  | .keep b a, _ => 0 ≤ b ∧ 0 ≤ a
  | .lf b a k c, gs => 0 ≤ b ∧ 0 ≤ a ∧ 0 ≤ c ∧ (∀ g ∈ gs, 2 ≤ g) ∧ (pr gs : Int) = k
  | .cr b a k, gs => 0 ≤ b ∧ 0 ≤ a ∧ (∀ g ∈ gs, 2 ≤ g) ∧ (pr gs : Int) = k
theorem shc_form {f : Fm} {gs : List Nat} (h : Fac f gs) : formL (shc f gs) = f := by
  have one : ∀ {l : List Nat}, (∀ g ∈ l, 2 ≤ g) → ∀ g ∈ l, 1 ≤ g := fun h g hg => by have := h g hg; omega
  cases f with
  | keep b a => exact go_start h.1 h.2
  | lf b a k c =>
    obtain ⟨h1, h2, h3, h4, h5⟩ := h
    unfold shc
    rw [← go_nothing, go_app, go_app, go_nothing, go_start h1 h2]
    show go (go ((Fm.keep b a).both (.lf 0 0 1 0)) (segs gs)) _ = _
    rw [st_kM h2, go_segs gs (one h4), go_lU _ (by decide), Int.one_mul, h5]
    congr 1
    omega
  | cr b a k =>
    obtain ⟨h1, h2, h4, h5⟩ := h
    unfold shc
    rw [← go_nothing, go_app, go_app, go_nothing, go_start h1 h2]
    rcases List.eq_nil_or_concat gs with rfl | ⟨ds, g, rfl⟩
    · show go (.keep b a) [78] = _
      show (Fm.keep b a).both (.cr 0 0 1) = _
      rw [st_kN h2, ← h5]
      rfl
    · rw [List.concat_eq_append] at h4 h5 ⊢
      have hg : 2 ≤ g := h4 g (by simp)
      rw [drop_snoc, go_app]
      show go (go (go ((Fm.keep b a).both (.lf 0 0 1 0)) (segs ds)) (List.replicate (g - 1) 85)) [78] = _
      rw [st_kM h2, go_segs ds (one fun x hx => h4 x (List.mem_append_left _ hx)), go_lU _ (by decide)]
      show (Fm.lf b a _ _).both (.cr 0 0 1) = _
      rw [st_lN (by omega), ← h5, pr_snoc]
      congr 1
      rw [Int.one_mul, Int.natCast_mul]
      congr 1
      omega
theorem segs_len : ∀ {gs : List Nat}, (∀ g ∈ gs, 1 ≤ g) → (segs gs).length = gs.sum
  | [], _ => rfl
  | g :: gs, h => by
    have hg := h g (List.mem_cons_self ..)
    have ih := segs_len fun x hx => h x (List.mem_cons_of_mem _ hx)
    show (seg g ++ segs gs).length = _
    rw [List.length_append, ih, List.sum_cons]
    unfold seg
    rw [List.length_append, List.length_replicate]
    show g - 1 + 1 + _ = _
    omega
theorem start_len {b a : Int} (hb : 0 ≤ b) (ha : 0 ≤ a) : ((startL b a).length : Int) = b + a := by
  unfold startL
  rw [List.length_append, List.length_replicate, List.length_replicate]
  omega
theorem shc_len {f : Fm} {gs : List Nat} (h : Fac f gs) : ((shc f gs).length : Int) = stepsF f gs := by
  have one : ∀ {l : List Nat}, (∀ g ∈ l, 2 ≤ g) → ∀ g ∈ l, 1 ≤ g := fun h g hg => by have := h g hg; omega
  cases f with
  | keep b a => exact start_len h.1 h.2
  | lf b a k c =>
    obtain ⟨h1, h2, h3, h4, h5⟩ := h
    have e1 := start_len h1 h2
    have e2 := segs_len (one h4)
    unfold shc
    rw [List.length_append, List.length_append, List.length_cons, List.length_replicate]
    show _ = b + a + 1 + (gs.sum : Int) + c
    omega
  | cr b a k =>
    obtain ⟨h1, h2, h4, h5⟩ := h
    have e1 := start_len h1 h2
    have e2 := segs_len (one h4)
    unfold shc
    rw [List.length_append, List.length_append, List.length_dropLast, List.length_cons]
    show ((((startL b a).length + ((segs gs).length + 1 - 1) + 1 : Nat)) : Int) = b + a + 1 + (gs.sum : Int)
    omega
theorem seg_ok {p c : Nat} (h : c ∈ seg p) : c = 85 ∨ c = 77 := by
  unfold seg at h
  rcases List.mem_append.mp h with h | h
  · exact .inl (List.mem_replicate.mp h).2
  · exact .inr (List.mem_singleton.mp h)
theorem segs_ok {gs : List Nat} {c : Nat} (h : c ∈ 77 :: segs gs) : c = 85 ∨ c = 77 := by
  rcases List.mem_cons.mp h with h | h
  · exact .inr h
  · obtain ⟨g, _, hg⟩ := List.mem_flatMap.mp h
    exact seg_ok hg
theorem start_ok {b a : Int} {c : Nat} (h : c ∈ startL b a) : c = 68 ∨ c = 85 := by
  unfold startL at h
  rcases List.mem_append.mp h with h | h
  · exact .inl (List.mem_replicate.mp h).2
  · exact .inr (List.mem_replicate.mp h).2
theorem steps_list : steps.cps.toList = [85, 68, 77, 78] := by decide
theorem shc_ok {f : Fm} {gs : List Nat} : ∀ c ∈ shc f gs, c ∈ steps.cps.toList := fun c h => by
  rw [steps_list]
  simp only [List.mem_cons, List.not_mem_nil, or_false]
  cases f with
  | keep b a => rcases start_ok h with h | h <;> omega
  | lf b a k d =>
    unfold shc at h
    rcases List.mem_append.mp h with h | h
    · rcases List.mem_append.mp h with h | h
      · rcases start_ok h with h | h <;> omega
      · rcases segs_ok h with h | h <;> omega
    · have := (List.mem_replicate.mp h).2
      omega
  | cr b a k =>
    unfold shc at h
    rcases List.mem_append.mp h with h | h
    · rcases List.mem_append.mp h with h | h
      · rcases start_ok h with h | h <;> omega
      · rcases segs_ok (List.dropLast_subset _ h) with h | h <;> omega
    · have := List.mem_singleton.mp h
      omega
/-- a form of at most n steps has a chain -/
theorem low_chain {f : Fm} {n : Nat} (h : LowB f n) : ∃ cs : List Nat, (∀ c ∈ cs, c ∈ steps.cps.toList) ∧ cs.length ≤ n ∧ formL cs = f := by
  have main : ∀ gs, Fac f gs → stepsF f gs ≤ n → ∃ cs : List Nat, (∀ c ∈ cs, c ∈ steps.cps.toList) ∧ cs.length ≤ n ∧ formL cs = f := fun gs hf hs =>
    ⟨shc f gs, shc_ok, by have := shc_len hf; omega, shc_form hf⟩
  cases f with
  | keep b a => exact main [] ⟨h.1, h.2.1⟩ h.2.2
  | lf b a k c =>
    obtain ⟨h1, h2, h3, gs, h4, h5, h6⟩ := h
    exact main gs ⟨h1, h2, h3, h4, h5⟩ h6
  | cr b a k =>
    obtain ⟨h1, h2, gs, h4, h5, h6⟩ := h
    exact main gs ⟨h1, h2, h4, h5⟩ h6
theorem low_mono {f : Fm} {n m : Nat} (h : LowB f n) (k : n ≤ m) : LowB f m := by
  cases f with
  | keep b a => exact ⟨h.1, h.2.1, by have := h.2.2; omega⟩
  | lf b a k' c =>
    obtain ⟨h1, h2, h3, gs, h4, h5, h6⟩ := h
    exact ⟨h1, h2, h3, gs, h4, h5, by omega⟩
  | cr b a k' =>
    obtain ⟨h1, h2, gs, h4, h5, h6⟩ := h
    exact ⟨h1, h2, gs, h4, h5, by omega⟩
theorem low_both {f g : Fm} {n m : Nat} (hf : LowB f n) (hg : LowB g m) (hn : n + m ≤ 7000) : LowB (f.both g) (n + m) := by
  obtain ⟨cs, c1, c2, rfl⟩ := low_chain hf
  obtain ⟨ds, d1, d2, rfl⟩ := low_chain hg
  have e : ∀ {l : List Nat}, (∀ c ∈ l, c ∈ steps.cps.toList) → ChOk ⟨l.toArray⟩ := fun h => h
  have := formOf_app (x := ⟨cs.toArray⟩) (y := ⟨ds.toArray⟩) (e c1) (e d1) (by show cs.length + ds.length ≤ 7000; omega)
  have h2 : formOf ((⟨cs.toArray⟩ : Str) ++ ⟨ds.toArray⟩) = formL (cs ++ ds) := by
    show formL (cs.toArray ++ ds.toArray).toList = _
    rw [Array.toList_append]
  have h3 : formL (cs ++ ds) = (formL cs).both (formL ds) := h2.symm.trans this
  rw [← h3]
  exact low_mono (low_form _ (cs ++ ds) rfl fun c hc => by
    rcases List.mem_append.mp hc with h | h
    · exact c1 c h
    · exact d1 c h) (by rw [List.length_append]; omega)
end Lw
namespace Lw
open PySem PySem.Spec L2 Lx
/-! ### how much longer a form makes a text -/
def wt : Fm → Nat
  | .keep _ a => a.toNat + 1
  | .lf _ a k c => (a.toNat + 1) * (k.toNat * (c.toNat + 1))
  | .cr _ a k => (a.toNat + 1) * k.toNat
theorem sd_wt (b a : Nat) : ∀ (rows : List Nat) (rest : Nat), unT (sdRows b a rows) rest ≤ unT rows rest * (a + 1)
  | [], rest => by
    show unT [] rest ≤ _
    exact Nat.le_mul_of_pos_right _ (Nat.succ_pos _)
  | j :: rows, rest => by
    have ih := sd_wt b a rows rest
    have e1 : unT (sdRows b a (j :: rows)) rest = (j - b + a + 1) + unT (sdRows b a rows) rest := by
      unfold unT sdRows
      rw [List.map_cons, List.sum_cons, List.length_cons]
      omega
    have e2 : unT (j :: rows) rest = (j + 1) + unT rows rest := by
      unfold unT
      rw [List.sum_cons, List.length_cons]
      omega
    rw [e1, e2, Nat.add_mul]
    have h : j - b + a + 1 ≤ (j + 1) * (a + 1) := by
      have : j * 1 ≤ j * (a + 1) := Nat.mul_le_mul_left _ (by omega)
      rw [Nat.add_mul]
      omega
    omega
theorem said_wt {m : Nat} {f : Fm} (hf : f.Ok m) (rows : List Nat) (rest : Nat) : (saidT f rows rest).length ≤ unT rows rest * wt f := by
  rcases natF hf with ⟨b, a, rfl⟩ | ⟨b, a, k, c, rfl⟩ | ⟨b, a, k, rfl⟩
  · show (spT (sdRows b a rows) rest).length ≤ unT rows rest * (a + 1)
    rw [spT_len]
    exact sd_wt b a rows rest
  · show (spT (List.replicate (k * unT (sdRows b a rows) rest) c) 0).length ≤ unT rows rest * ((a + 1) * (k * (c + 1)))
    rw [spT_len, unT_rep, Nat.add_zero, ← Nat.mul_assoc, Nat.mul_comm k, Nat.mul_assoc]
    exact Nat.mul_le_mul_right _ (sd_wt b a rows rest)
  · show (spT [] (k * unT (sdRows b a rows) rest)).length ≤ unT rows rest * ((a + 1) * k)
    rw [spT_len, ← Nat.mul_assoc, Nat.mul_comm k]
    have : unT [] (unT (sdRows b a rows) rest * k) = unT (sdRows b a rows) rest * k := by simp [unT]
    rw [this]
    exact Nat.mul_le_mul_right _ (sd_wt b a rows rest)
theorem wt_pos {m : Nat} {f : Fm} (hf : f.Ok m) : 1 ≤ wt f := by
  rcases natF hf with ⟨b, a, rfl⟩ | ⟨b, a, k, c, rfl⟩ | ⟨b, a, k, rfl⟩
  · exact Nat.succ_pos _
  · have hk : 0 < k := by have := hf.2.2.1; omega
    exact Nat.mul_pos (Nat.succ_pos _) (Nat.mul_pos hk (Nat.succ_pos _))
  · have hk : 0 < k := by have := hf.2.2.1; omega
    exact Nat.mul_pos (Nat.succ_pos _) hk
theorem done_wt {cs : List Nat} (hl : cs.length ≤ 60) (hc : ∀ c ∈ cs, c ∈ steps.cps.toList) : ∀ (n : Nat) (l : List Nat), l.length ≤ n → (doneT l cs).length ≤ l.length * wt (formL cs)
  | n, l, hn => by
    have hok := (formL_fle _ cs rfl (by omega) hc).ok
    have w1 := wt_pos hok
    have key : ∀ a : List Nat, Signs a → (doneT a cs).length ≤ a.length * wt (formL cs) := fun a ha => by
      obtain ⟨rows, rest, rfl⟩ := spT_of a ha
      rw [← said_done rows rest _ cs rfl hl hc, spT_len]
      exact said_wt hok rows rest
    obtain ⟨a, ha, h | ⟨e, r, he, h, hlt⟩⟩ := cut_text l
    · rw [h]
      exact key a ha
    · cases n with
      | zero => omega
      | succ n =>
        have ih := done_wt hl hc n r (by omega)
        rw [h, doneT_sep he, List.length_append, List.length_cons, List.length_append, List.length_cons, Nat.add_mul, Nat.succ_mul]
        have := key a ha
        omega
end Lw
namespace Lw
open PySem PySem.Spec L2 Lx
/-! ### a form told by three runs -/
theorem merged_rep (c : Int) : ∀ k : Nat, Lx.merged (List.replicate k ((1 : Int), c)) = if k = 0 then [] else [((k : Int), c)]
  | 0 => rfl
  | k + 1 => by
    rw [List.replicate_succ', merged_snoc, merged_rep c k, if_neg (Nat.succ_ne_zero k)]
    by_cases h : k = 0
    · subst h
      rfl
    · rw [if_neg h]
      show addTo ([] ++ [((k : Int), c)]) (1, c) = _
      rw [addTo_end, if_pos rfl]
      show [((k : Int) + 1, c)] = _
      rw [Int.natCast_succ]
def rowP (rows : List Nat) : List (Int × Int) := rows.map fun n : Nat => ((1 : Int), (n : Int))
theorem total_rows : ∀ rows : List Nat, total (rowP rows) = ((rows.sum + rows.length : Nat) : Int)
  | [] => rfl
  | n :: rows => by
    have ih := total_rows rows
    unfold total rowP at ih ⊢
    rw [List.map_cons, List.map_cons, List.sum_cons, ih, List.sum_cons, List.length_cons]
    show 1 * ((n : Int) + 1) + _ = _
    omega
theorem units_rnT (rows : List Nat) (rest : Nat) : units (rnT rows rest) nothing = (unT rows rest : Int) := by
  show total (moved nothing (Lx.merged (rowP rows))) + (rest : Int) = _
  rw [moved_on, total_on _ _ _ rfl, ← moved_on, moved_nothing (gs := rowP rows) fun x hx => by
    obtain ⟨n, _, rfl⟩ := List.mem_map.mp hx
    exact Int.natCast_nonneg n, total_rows]
  unfold unT
  omega
theorem rnT_rep (k c : Nat) : rnT (List.replicate k c) 0 = (if k = 0 then [] else [((k : Int), (c : Int))], 0) := by
  unfold rnT
  rw [List.map_replicate, merged_rep]
  rfl
theorem rn_none (k : Nat) {n : Nat} (h : k < 2 ^ n) : RnOk n (rnT [] k) := ⟨fun i x hx => by
  have : ([] : List (Int × Int))[i]? = some x := hx
  simp at this, ⟨Int.natCast_nonneg _, by unfold Sm rnT; show (k : Int).natAbs < _; omega⟩, by show 0 ≤ 1000; decide⟩
theorem rn_some {k c n : Nat} (hk : k < 2 ^ n) (hc : c < 2 ^ n) : RnOk n (rnT (List.replicate k c) 0) := by
  rw [rnT_rep]
  by_cases h : k = 0
  · rw [if_pos h]
    refine ⟨fun i x hx => ?_, ⟨Int.le_refl _, Nat.two_pow_pos n⟩, by show 0 ≤ 1000; decide⟩
    have : ([] : List (Int × Int))[i]? = some x := hx
    simp at this
  · rw [if_neg h]
    refine ⟨fun i x hx => ?_, ⟨Int.le_refl _, Nat.two_pow_pos n⟩, by show 1 ≤ 1000; decide⟩
    cases i with
    | zero =>
      cases Option.some.inj hx
      refine ⟨by omega, Int.natCast_nonneg _, by unfold Sm; omega, by unfold Sm; omega, fun y hy => ?_⟩
      have : ([] : List (Int × Int))[0]? = some y := hy
      simp at this
    | succ i =>
      have : ([] : List (Int × Int))[i]? = some x := hx
      simp at this
/-- the form that is read off two runs and two numbers -/
def fwF (r r2 : Rn) (b a : Int) : Fm := match r.1 with
  | (k, c) :: _ => .lf b a k c
  | [] => if r2.1 = [] then .cr b a r.2 else .keep b a
theorem find_ok {m L : Nat} {f : Fm} (hf : f.Ok m) (hb : f.b ≤ L) (l1 : (saidT f [] 1).length ≤ 1000000) (l2 : (saidT f [0] 0).length ≤ 1000000) (l3 : (saidT f [L] 0).length ≤ 1000000) :
    RnOk 20 (rpT (saidT f [] 1)) ∧ RnOk 20 (rpT (saidT f [0] 0)) ∧ RnOk 20 (rpT (saidT f [L] 0)) ∧
    ∃ u : Nat, 0 < u ∧ u ≤ 1000000 ∧ units (rpT (saidT f [] 1)) nothing = (u : Int) ∧ 0 ≤ units (rpT (saidT f [0] 0)) nothing ∧ 0 ≤ units (rpT (saidT f [L] 0)) nothing ∧
    units (rpT (saidT f [0] 0)) nothing ≤ 1000000 ∧ units (rpT (saidT f [L] 0)) nothing ≤ 1000000 ∧
    units (rpT (saidT f [0] 0)) nothing / (u : Int) - 1 = f.a ∧ (L : Int) + f.a + 1 - units (rpT (saidT f [L] 0)) nothing / (u : Int) = f.b ∧
    fwF (rpT (saidT f [] 1)) (rpT (saidT f [0] 0)) f.b f.a = f := by
  have p20 : (2 : Nat) ^ 20 = 1048576 := by decide
  have ediv : ∀ k x : Nat, 0 < k → ((k * x : Nat) : Int) / (k : Int) = (x : Int) := fun k x h => by
    rw [Int.natCast_mul, Int.mul_ediv_cancel_left _ (by omega)]
  rcases natF hf with ⟨b, a, rfl⟩ | ⟨b, a, k, c, rfl⟩ | ⟨b, a, k, rfl⟩
  · obtain ⟨e1, e2, e3⟩ := said_keep b a L
    rw [e1, spT_len] at l1
    rw [e2, spT_len, unT_one] at l2
    rw [e3, spT_len, unT_one] at l3
    have hb' : (b : Int) ≤ L := hb
    rw [e1, e2, e3, rpT_spT, rpT_spT, rpT_spT, units_rnT, units_rnT, units_rnT, unT_one, unT_one]
    refine ⟨rn_none 1 (by decide), ?_, ?_, 1, by decide, by decide, rfl, by omega, by omega, by omega, by omega, ?_, ?_, ?_⟩
    · exact rn_some (k := 1) (c := a) (by decide) (by omega)
    · exact rn_some (k := 1) (c := L - b + a) (by decide) (by omega)
    · show _ = (a : Int)
      rw [Int.natCast_one, Int.ediv_one]
      omega
    · show _ = (b : Int)
      rw [Int.natCast_one, Int.ediv_one]
      show (L : Int) + (a : Int) + 1 - _ = _
      omega
    · rfl
  · obtain ⟨e1, e2, e3⟩ := said_lf b a k c L
    have hk : 0 < k := by have := hf.2.2.1; omega
    rw [e1, spT_len, unT_rep] at l1
    rw [e2, spT_len, unT_rep] at l2
    rw [e3, spT_len, unT_rep] at l3
    have hb' : (b : Int) ≤ L := hb
    rw [e1, e2, e3, rpT_spT, rpT_spT, rpT_spT, units_rnT, units_rnT, units_rnT, unT_rep, unT_rep, unT_rep]
    have m1 : k * 1 ≤ k * 1 * (c + 1) := Nat.le_mul_of_pos_right _ (by omega)
    have m2 : k * (a + 1) ≤ k * (a + 1) * (c + 1) := Nat.le_mul_of_pos_right _ (by omega)
    have m3 : k * (L - b + a + 1) ≤ k * (L - b + a + 1) * (c + 1) := Nat.le_mul_of_pos_right _ (by omega)
    have mc : c + 1 ≤ k * 1 * (c + 1) := Nat.le_mul_of_pos_left _ (by omega)
    have q2 : k * (a + 1) * (c + 1) + 0 = k * 1 * (c + 1) * (a + 1) := by
      rw [Nat.add_zero, Nat.mul_one, Nat.mul_assoc, Nat.mul_comm (a + 1), ← Nat.mul_assoc]
    have q3 : k * (L - b + a + 1) * (c + 1) + 0 = k * 1 * (c + 1) * (L - b + a + 1) := by
      rw [Nat.add_zero, Nat.mul_one, Nat.mul_assoc, Nat.mul_comm (L - b + a + 1), ← Nat.mul_assoc]
    have u0 : 0 < k * 1 * (c + 1) := by omega
    refine ⟨rn_some (by omega) (by omega), rn_some (by omega) (by omega), rn_some (by omega) (by omega), k * 1 * (c + 1), u0, by omega, by rw [Nat.add_zero], by omega, by omega, by omega, by omega, ?_, ?_, ?_⟩
    · show _ = (a : Int)
      rw [q2, ediv _ _ u0]
      omega
    · show (L : Int) + (a : Int) + 1 - _ = (b : Int)
      rw [q3, ediv _ _ u0]
      omega
    · rw [rnT_rep, if_neg (by omega)]
      show Fm.lf b a ((k * 1 : Nat) : Int) c = _
      rw [Nat.mul_one]
  · obtain ⟨e1, e2, e3⟩ := said_cr b a k L
    have hk : 0 < k := by have := hf.2.2.1; omega
    rw [e1, spT_len] at l1
    rw [e2, spT_len] at l2
    rw [e3, spT_len] at l3
    have un : ∀ x : Nat, unT [] x = x := fun x => by simp [unT]
    rw [un] at l1 l2 l3
    have hb' : (b : Int) ≤ L := hb
    rw [e1, e2, e3, rpT_spT, rpT_spT, rpT_spT, units_rnT, units_rnT, units_rnT, un, un, un]
    refine ⟨rn_none _ (by omega), rn_none _ (by omega), rn_none _ (by omega), k * 1, by omega, by omega, rfl, by omega, by omega, by omega, by omega, ?_, ?_, ?_⟩
    · show _ = (a : Int)
      rw [Nat.mul_one, ediv _ _ hk]
      omega
    · show (L : Int) + (a : Int) + 1 - _ = (b : Int)
      rw [Nat.mul_one, ediv _ _ hk]
      omega
    · show Fm.cr b a ((k * 1 : Nat) : Int) = _
      rw [Nat.mul_one]
/-- the question: a return, a newline, and a group -/
def qT (L : Nat) : List Nat := spT [] 1 ++ 32 :: (spT [0] 0 ++ 32 :: spT [L] 0)
theorem sep32 : Sep 32 := ⟨by decide, by decide⟩
theorem qT_done (L : Nat) (cs : List Nat) : doneT (qT L) cs = doneT (spT [] 1) cs ++ 32 :: (doneT (spT [0] 0) cs ++ 32 :: doneT (spT [L] 0) cs) := by
  unfold qT
  rw [doneT_sep sep32, doneT_sep sep32]
theorem qT_len (L : Nat) : (qT L).length = L + 5 := by
  unfold qT
  rw [List.length_append, List.length_cons, List.length_append, List.length_cons, spT_len, spT_len, spT_len]
  simp [unT]
  omega
theorem said_signs (f : Fm) (rows : List Nat) (rest : Nat) : Signs (saidT f rows rest) := by
  cases f <;> exact spT_signs _ _
theorem said_ne {m : Nat} {f : Fm} (hf : f.Ok m) {rows : List Nat} {rest : Nat} (h : 0 < unT rows rest) : saidT f rows rest ≠ [] := fun z => by
  have hl : (saidT f rows rest).length = 0 := by rw [z]; rfl
  have pos : ∀ b a : Nat, 0 < unT (sdRows b a rows) rest := fun b a => by
    unfold unT sdRows at *
    rw [List.length_map]
    cases rows with
    | nil => simp at h ⊢; omega
    | cons r rows => rw [List.length_cons]; omega
  rcases natF hf with ⟨b, a, rfl⟩ | ⟨b, a, k, c, rfl⟩ | ⟨b, a, k, rfl⟩
  · have := pos b a
    change (spT (sdRows b a rows) rest).length = 0 at hl
    rw [spT_len] at hl
    omega
  · have hk : 0 < k := by have := hf.2.2.1; omega
    have := Nat.mul_pos hk (pos b a)
    change (spT (List.replicate (k * unT (sdRows b a rows) rest) c) 0).length = 0 at hl
    rw [spT_len, unT_rep] at hl
    have h2 : k * unT (sdRows b a rows) rest ≤ k * unT (sdRows b a rows) rest * (c + 1) := Nat.le_mul_of_pos_right _ (by omega)
    omega
  · have hk : 0 < k := by have := hf.2.2.1; omega
    have := Nat.mul_pos hk (pos b a)
    change (spT [] (k * unT (sdRows b a rows) rest)).length = 0 at hl
    rw [spT_len] at hl
    simp [unT] at hl this
    omega
theorem runs_q {m L : Nat} {f : Fm} (hf : f.Ok m) : runsT (saidT f [] 1 ++ 32 :: (saidT f [0] 0 ++ 32 :: saidT f [L] 0)) = [rpT (saidT f [] 1), rpT (saidT f [0] 0), rpT (saidT f [L] 0)] := by
  unfold runsT
  rw [pieces_cons (said_signs f [] 1) sep32, pieces_cons (said_signs f [0] 0) sep32, pieces_last (said_signs f [L] 0), if_neg (said_ne hf (by decide)), if_neg (said_ne hf (by decide)), if_neg (said_ne hf (by simp [unT]))]
  rfl
end Lw
namespace Lw
open PySem PySem.Spec L2 Lx
/-! ### the prime factors in ascending order -/
structure IsPf (k : Nat) (fs : List Nat) : Prop where
  pm : ∀ p ∈ fs, Pm p
  prod : pr fs = k
  up : fs.Pairwise (· ≤ ·)
theorem Pm.eq {p q : Nat} (hp : Pm p) (hq : Pm q) (h : p ∣ q) : p = q := by
  rcases hq.2 p h with h1 | h1
  · have := hp.1; omega
  · exact h1
theorem Pm.mem {p : Nat} (hp : Pm p) {fs : List Nat} (hf : ∀ q ∈ fs, Pm q) (h : p ∣ pr fs) : p ∈ fs := by
  obtain ⟨a, g, b, rfl, hg⟩ := hp.dvd_pr h
  have := hp.eq (hf g (by simp)) hg
  subst this
  simp
theorem IsPf.uniq : ∀ {fs gs : List Nat} {k : Nat}, IsPf k fs → IsPf k gs → fs = gs
  | [], [], _, _, _ => rfl
  | [], g :: gs, k, hf, hg => by
    have h1 := (hg.pm g (List.mem_cons_self ..)).1
    have h2 : g * pr gs = 1 := hg.prod.trans hf.prod.symm
    have h3 := pr_pos fun x hx => (hg.pm x (List.mem_cons_of_mem _ hx)).1
    have := Nat.mul_le_mul h1 h3
    omega
  | f :: fs, [], k, hf, hg => by
    have h1 := (hf.pm f (List.mem_cons_self ..)).1
    have h2 : f * pr fs = 1 := hf.prod.trans hg.prod.symm
    have h3 := pr_pos fun x hx => (hf.pm x (List.mem_cons_of_mem _ hx)).1
    have := Nat.mul_le_mul h1 h3
    omega
  | f :: fs, g :: gs, k, hf, hg => by
    have pf := hf.pm f (List.mem_cons_self ..)
    have pg := hg.pm g (List.mem_cons_self ..)
    have e : pr (f :: fs) = pr (g :: gs) := hf.prod.trans hg.prod.symm
    have m1 := pf.mem hg.pm (by rw [← e]; exact ⟨pr fs, rfl⟩)
    have m2 := pg.mem hf.pm (by rw [e]; exact ⟨pr gs, rfl⟩)
    have le1 : g ≤ f := by
      rcases List.mem_cons.mp m1 with h | h
      · omega
      · exact (List.pairwise_cons.mp hg.up).1 f h
    have le2 : f ≤ g := by
      rcases List.mem_cons.mp m2 with h | h
      · omega
      · exact (List.pairwise_cons.mp hf.up).1 g h
    have : f = g := by omega
    subst this
    have e2 : pr fs = pr gs := Nat.eq_of_mul_eq_mul_left (by have := pf.1; omega) e
    have := IsPf.uniq (fs := fs) (gs := gs) (k := pr gs) ⟨fun p h => hf.pm p (List.mem_cons_of_mem _ h), e2, (List.pairwise_cons.mp hf.up).2⟩ ⟨fun p h => hg.pm p (List.mem_cons_of_mem _ h), rfl, (List.pairwise_cons.mp hg.up).2⟩
    rw [this]
/-! ### forms between two forms -/
def wba : Fm → Int → Int → Fm
  | .keep _ _, b, a => .keep b a
  | .lf _ _ k c, b, a => .lf b a k c
  | .cr _ _ k, b, a => .cr b a k
def ch1 (j w : Int) : Int := if j - w > 0 then j - w else 0
def btw (dv : Int → List Int) : Fm → Fm → List Fm
  | .keep b a, g => if g.b < b then [] else if g.b > b then [wba g (a + g.b - b) g.a] else [wba g (ch1 a g.a) (ch1 g.a a)]
  | .lf _ _ _ _, .keep _ _ => []
  | .cr _ _ _, .keep _ _ => []
  | .lf b a k c, .lf b' a' k' c' => if b = b' ∧ a = a' ∧ k'.fmod k = 0 then (if k' / k = 1 then [.keep (ch1 c c') (ch1 c' c)] else (dv (k' / k)).map fun u => .lf (ch1 c (u - 1)) (ch1 (u - 1) c) (k' / k / u) c') else []
  | .lf b a k c, .cr b' a' k' => if b = b' ∧ a = a' ∧ k'.fmod k = 0 then (dv (k' / k)).map fun u => .cr (ch1 c (u - 1)) (ch1 (u - 1) c) (k' / k / u) else []
  | .cr b a k, .cr b' a' k' => if b = b' ∧ a = a' ∧ k'.fmod k = 0 then (if k' / k = 1 then [.keep 0 0] else [.cr 0 0 (k' / k)]) else []
  | .cr b a k, .lf b' a' k' c' => if b = b' ∧ a = a' ∧ k'.fmod k = 0 then [.lf 0 0 (k' / k) c'] else []
theorem btw_k {dv : Int → List Int} {b a : Int} {g : Fm} : btw dv (.keep b a) g = if g.b < b then [] else if g.b > b then [wba g (a + g.b - b) g.a] else [wba g (ch1 a g.a) (ch1 g.a a)] := by cases g <;> rfl
theorem btw_ll {dv : Int → List Int} {b a k c b' a' k' c' : Int} : btw dv (.lf b a k c) (.lf b' a' k' c') = if b = b' ∧ a = a' ∧ k'.fmod k = 0 then (if k' / k = 1 then [.keep (ch1 c c') (ch1 c' c)] else (dv (k' / k)).map fun u => .lf (ch1 c (u - 1)) (ch1 (u - 1) c) (k' / k / u) c') else [] := rfl
theorem btw_lc {dv : Int → List Int} {b a k c b' a' k' : Int} : btw dv (.lf b a k c) (.cr b' a' k') = if b = b' ∧ a = a' ∧ k'.fmod k = 0 then (dv (k' / k)).map fun u => .cr (ch1 c (u - 1)) (ch1 (u - 1) c) (k' / k / u) else [] := rfl
theorem btw_cc {dv : Int → List Int} {b a k b' a' k' : Int} : btw dv (.cr b a k) (.cr b' a' k') = if b = b' ∧ a = a' ∧ k'.fmod k = 0 then (if k' / k = 1 then [.keep 0 0] else [.cr 0 0 (k' / k)]) else [] := rfl
theorem btw_cl {dv : Int → List Int} {b a k b' a' k' c' : Int} : btw dv (.cr b a k) (.lf b' a' k' c') = if b = b' ∧ a = a' ∧ k'.fmod k = 0 then [.lf 0 0 (k' / k) c'] else [] := rfl
/-- numbers that are not negative, k positive -/
def NN : Fm → Prop
  | .keep b a => 0 ≤ b ∧ 0 ≤ a
  | .lf b a k c => 0 ≤ b ∧ 0 ≤ a ∧ 0 < k ∧ 0 ≤ c
  | .cr b a k => 0 ≤ b ∧ 0 ≤ a ∧ 0 < k
theorem low_nn {f : Fm} {n : Nat} (h : LowB f n) : NN f := by
  cases f with
  | keep b a => exact ⟨h.1, h.2.1⟩
  | lf b a k c =>
    obtain ⟨h1, h2, h3, gs, h4, h5, h6⟩ := h
    exact ⟨h1, h2, by have := pr_pos h4; omega, h3⟩
  | cr b a k =>
    obtain ⟨h1, h2, gs, h4, h5, h6⟩ := h
    exact ⟨h1, h2, by have := pr_pos h4; omega⟩
theorem ch1_le {j w : Int} : 0 ≤ ch1 j w ∧ (j ≤ w → ch1 j w = 0) ∧ (w ≤ j → ch1 j w = j - w) := by
  unfold ch1
  refine ⟨by split <;> omega, fun h => by split <;> omega, fun h => by split <;> omega⟩
theorem mul_div_l {k x : Int} (h : 0 < k) : k * x / k = x := Int.mul_ediv_cancel_left x (by omega)
theorem fmod_l {k x : Int} (h : 0 < k) : (k * x).fmod k = 0 := by
  rw [Int.fmod_eq_emod_of_nonneg _ (Int.le_of_lt h)]
  exact Int.mul_emod_right k x
/-- after c: what a form makes of the returns -/
theorem aft_lf {hb ha k d c : Int} : Fm.after (.lf hb ha k d) c = (if c - hb > 0 then c - hb else 0) + ha := rfl
theorem aft_cr {hb ha k c : Int} : Fm.after (.cr hb ha k) c = (if c - hb > 0 then c - hb else 0) + ha := rfl
/-- to every form that leads from f to g there is one of the list with as few steps -/
theorem btw_min {dv : Int → List Int} (hdv : ∀ q u : Int, 0 < u → 0 < q → u ∣ q → u ∈ dv q) {f h : Fm} {n : Nat} (hf : NN f) (hh : LowB h n) : ∃ w ∈ btw dv f (f.both h), LowB w n := by
  cases f with
  | keep b a =>
    obtain ⟨f1, f2⟩ := hf
    have eb : ((Fm.keep b a).both h).b = b + ch1 h.b a := by cases h <;> rfl
    have ea : ((Fm.keep b a).both h).a = ch1 a h.b + h.a := by cases h <;> rfl
    have ew : ∀ t p, wba ((Fm.keep b a).both h) t p = wba h t p := fun t p => by cases h <;> rfl
    have hn := low_nn hh
    have h1 : 0 ≤ h.b ∧ 0 ≤ h.a := by cases h <;> exact ⟨hn.1, by first | exact hn.2 | exact hn.2.1⟩
    have fin : ∀ t p : Int, 0 ≤ t → 0 ≤ p → t + p ≤ h.b + h.a → LowB (wba h t p) n := fun t p t0 p0 hs => by
      cases h with
      | keep hb' ha' => exact ⟨t0, p0, by have := hh.2.2; have hs' : t + p ≤ hb' + ha' := hs; omega⟩
      | lf hb' ha' k c =>
        obtain ⟨q1, q2, q3, gs, q4, q5, q6⟩ := hh
        have hs' : t + p ≤ hb' + ha' := hs
        exact ⟨t0, p0, q3, gs, q4, q5, by omega⟩
      | cr hb' ha' k =>
        obtain ⟨q1, q2, gs, q4, q5, q6⟩ := hh
        have hs' : t + p ≤ hb' + ha' := hs
        exact ⟨t0, p0, gs, q4, q5, by omega⟩
    obtain ⟨c0, c1, c2⟩ := @ch1_le h.b a
    obtain ⟨d0, d1, d2⟩ := @ch1_le a h.b
    rw [btw_k]
    rw [eb, ea, if_neg (by omega)]
    by_cases hc : h.b > a
    · have e1 := c2 (by omega)
      have e2 := d1 (by omega)
      rw [if_pos (by omega)]
      refine ⟨_, List.mem_singleton.mpr rfl, ?_⟩
      rw [ew]
      exact fin _ _ (by omega) (by omega) (by omega)
    · have e1 := c1 (by omega)
      have e2 := d2 (by omega)
      rw [if_neg (by omega)]
      refine ⟨_, List.mem_singleton.mpr rfl, ?_⟩
      rw [ew, e2]
      unfold ch1
      exact fin _ _ (by split <;> omega) (by split <;> omega) (by split <;> split <;> omega)
  | lf b a k c =>
    obtain ⟨f1, f2, f3, f4⟩ := hf
    cases h with
    | keep hb ha =>
      obtain ⟨q1, q2, q3⟩ := hh
      have e : (Fm.lf b a k c).both (.keep hb ha) = .lf b a k ((if c - hb > 0 then c - hb else 0) + ha) := rfl
      rw [e]
      rw [btw_ll]
      have e2 : k / k = 1 := Int.ediv_self (by omega)
      have e3 : k.fmod k = 0 := by have := fmod_l (x := 1) f3; rwa [Int.mul_one] at this
      rw [if_pos ⟨rfl, rfl, e3⟩, if_pos e2]
      refine ⟨_, List.mem_singleton.mpr rfl, ?_⟩
      unfold ch1
      exact ⟨by split <;> split <;> omega, by split <;> split <;> omega, by split <;> split <;> split <;> omega⟩
    | lf hb ha hk hc =>
      obtain ⟨q1, q2, q3, gs, q4, q5, q6⟩ := hh
      have hk0 : 0 < hk := by have := pr_pos q4; omega
      have hu0 : 0 ≤ (if c - hb > 0 then c - hb else 0) + ha := by split <;> omega
      have e : (Fm.lf b a k c).both (.lf hb ha hk hc) = .lf b a (k * ((if c - hb > 0 then c - hb else 0) + ha + 1) * hk) hc := rfl
      rw [e]
      generalize hu : (if c - hb > 0 then c - hb else 0) + ha = u at hu0
      rw [btw_ll]
      rw [Int.mul_assoc, if_pos ⟨rfl, rfl, fmod_l f3⟩, mul_div_l f3]
      by_cases hq : (u + 1) * hk = 1
      · rw [if_pos hq]
        refine ⟨_, List.mem_singleton.mpr rfl, ?_⟩
        have hu1 : u = 0 := by
          have : (u + 1) * 1 ≤ (u + 1) * hk := Int.mul_le_mul_of_nonneg_left (by omega) (by omega)
          omega
        unfold ch1
        refine ⟨by split <;> omega, by split <;> omega, ?_⟩
        split at hu <;> split <;> split <;> omega
      · rw [if_neg hq]
        refine ⟨_, List.mem_map.mpr ⟨u + 1, hdv _ _ (by omega) (Int.mul_pos (by omega) hk0) ⟨hk, rfl⟩, rfl⟩, ?_⟩
        rw [mul_div_l (by omega)]
        unfold ch1
        refine ⟨by split <;> omega, by split <;> omega, q3, gs, q4, q5, ?_⟩
        split at hu <;> split <;> split <;> omega
    | cr hb ha hk =>
      obtain ⟨q1, q2, gs, q4, q5, q6⟩ := hh
      have hk0 : 0 < hk := by have := pr_pos q4; omega
      have hu0 : 0 ≤ (if c - hb > 0 then c - hb else 0) + ha := by split <;> omega
      have e : (Fm.lf b a k c).both (.cr hb ha hk) = .cr b a (k * ((if c - hb > 0 then c - hb else 0) + ha + 1) * hk) := rfl
      rw [e]
      generalize hu : (if c - hb > 0 then c - hb else 0) + ha = u at hu0
      rw [btw_lc]
      rw [Int.mul_assoc, if_pos ⟨rfl, rfl, fmod_l f3⟩, mul_div_l f3]
      refine ⟨_, List.mem_map.mpr ⟨u + 1, hdv _ _ (by omega) (Int.mul_pos (by omega) hk0) ⟨hk, rfl⟩, rfl⟩, ?_⟩
      rw [mul_div_l (by omega)]
      unfold ch1
      refine ⟨by split <;> omega, by split <;> omega, gs, q4, q5, ?_⟩
      split at hu <;> split <;> split <;> omega
  | cr b a k =>
    obtain ⟨f1, f2, f3⟩ := hf
    cases h with
    | keep hb ha =>
      have e : (Fm.cr b a k).both (.keep hb ha) = .cr b a k := rfl
      rw [e]
      rw [btw_cc]
      have e2 : k / k = 1 := Int.ediv_self (by omega)
      have e3 : k.fmod k = 0 := by have := fmod_l (x := 1) f3; rwa [Int.mul_one] at this
      rw [if_pos ⟨rfl, rfl, e3⟩, if_pos e2]
      exact ⟨_, List.mem_singleton.mpr rfl, by decide, by decide, by omega⟩
    | lf hb ha hk hc =>
      obtain ⟨q1, q2, q3, gs, q4, q5, q6⟩ := hh
      have e : (Fm.cr b a k).both (.lf hb ha hk hc) = .lf b a (k * 1 * hk) hc := rfl
      rw [e]
      rw [btw_cl]
      rw [Int.mul_one, if_pos ⟨rfl, rfl, fmod_l f3⟩, mul_div_l f3]
      exact ⟨_, List.mem_singleton.mpr rfl, by decide, by decide, q3, gs, q4, q5, by omega⟩
    | cr hb ha hk =>
      obtain ⟨q1, q2, gs, q4, q5, q6⟩ := hh
      have e : (Fm.cr b a k).both (.cr hb ha hk) = .cr b a (k * 1 * hk) := rfl
      rw [e]
      rw [btw_cc]
      rw [Int.mul_one, if_pos ⟨rfl, rfl, fmod_l f3⟩, mul_div_l f3]
      by_cases hq : hk = 1
      · rw [if_pos hq]
        exact ⟨_, List.mem_singleton.mpr rfl, by decide, by decide, by omega⟩
      · rw [if_neg hq]
        exact ⟨_, List.mem_singleton.mpr rfl, by decide, by decide, gs, q4, q5, by omega⟩
theorem pos_r {a b : Int} (ha : 0 < a) (h : 0 < a * b) : 0 < b := by
  rcases Int.lt_or_le 0 b with h1 | h1
  · exact h1
  · have := Int.mul_le_mul_of_nonneg_left h1 (Int.le_of_lt ha)
    rw [Int.mul_zero] at this
    omega
theorem fmod_mul {k k' : Int} (hk : 0 < k) (h : k'.fmod k = 0) : k * (k' / k) = k' := by
  rw [Int.fmod_eq_emod_of_nonneg _ (Int.le_of_lt hk)] at h
  exact Int.mul_ediv_cancel' (Int.dvd_of_emod_eq_zero h)
/-- every form of the list leads from f to g -/
theorem btw_leads {dv : Int → List Int} (hdv : ∀ q u : Int, 0 < q → u ∈ dv q → 0 < u ∧ u ∣ q) {f g w : Fm} (hf : NN f) (hg : NN g) (hw : w ∈ btw dv f g) : f.both w = g ∧ NN w := by
  cases f with
  | keep b a =>
    obtain ⟨f1, f2⟩ := hf
    rw [btw_k] at hw
    have g1 : 0 ≤ g.b ∧ 0 ≤ g.a := by cases g <;> exact ⟨hg.1, by first | exact hg.2 | exact hg.2.1⟩
    have nw : ∀ t p : Int, 0 ≤ t → 0 ≤ p → NN (wba g t p) := fun t p t0 p0 => by
      cases g with
      | keep => exact ⟨t0, p0⟩
      | lf => exact ⟨t0, p0, hg.2.2.1, hg.2.2.2⟩
      | cr => exact ⟨t0, p0, hg.2.2⟩
    have ew : ∀ t p : Int, b + (if t - a > 0 then t - a else 0) = g.b → (if a - t > 0 then a - t else 0) + p = g.a → (Fm.keep b a).both (wba g t p) = g := fun t p e1 e2 => by
      cases g with
      | keep b' a' =>
        show Fm.keep (b + (if t - a > 0 then t - a else 0)) ((if a - t > 0 then a - t else 0) + p) = _
        rw [e1, e2]
        rfl
      | lf b' a' k c =>
        show Fm.lf (b + (if t - a > 0 then t - a else 0)) ((if a - t > 0 then a - t else 0) + p) k c = _
        rw [e1, e2]
        rfl
      | cr b' a' k =>
        show Fm.cr (b + (if t - a > 0 then t - a else 0)) ((if a - t > 0 then a - t else 0) + p) k = _
        rw [e1, e2]
        rfl
    split at hw
    · cases hw
    · split at hw
      · rw [List.mem_singleton.mp hw]
        exact ⟨ew _ _ (by split <;> omega) (by split <;> omega), nw _ _ (by omega) (by omega)⟩
      · rw [List.mem_singleton.mp hw]
        unfold ch1
        exact ⟨ew _ _ (by split <;> split <;> omega) (by split <;> split <;> split <;> omega), nw _ _ (by split <;> omega) (by split <;> omega)⟩
  | lf b a k c =>
    obtain ⟨f1, f2, f3, f4⟩ := hf
    have eu : ∀ u : Int, 0 < u → (if c - ch1 c (u - 1) > 0 then c - ch1 c (u - 1) else 0) + ch1 (u - 1) c + 1 = u := fun u hu => by
      unfold ch1
      split <;> split <;> split <;> omega
    have n1 : ∀ x y : Int, 0 ≤ ch1 x y := fun x y => ch1_le.1
    cases g with
    | keep b' a' => cases hw
    | lf b' a' k' c' =>
      obtain ⟨g1, g2, g3, g4⟩ := hg
      rw [btw_ll] at hw
      split at hw
      · rename_i hc
        obtain ⟨rfl, rfl, hk⟩ := hc
        have ek := fmod_mul f3 hk
        split at hw
        · rename_i hq
          rw [hq, Int.mul_one] at ek
          subst ek
          rw [List.mem_singleton.mp hw]
          refine ⟨?_, n1 _ _, n1 _ _⟩
          show Fm.lf b a k ((if c - ch1 c c' > 0 then c - ch1 c c' else 0) + ch1 c' c) = _
          congr 1
          unfold ch1
          split <;> split <;> split <;> omega
        · obtain ⟨u, hu, rfl⟩ := List.mem_map.mp hw
          have q0 : 0 < k' / k := by
            rw [← ek] at g3
            exact pos_r f3 g3
          obtain ⟨u0, x, hx⟩ := hdv _ u q0 hu
          have x0 : 0 < x := by
            rw [hx] at q0
            exact pos_r u0 q0
          rw [hx, mul_div_l u0]
          refine ⟨?_, n1 _ _, n1 _ _, x0, g4⟩
          show Fm.lf b a (k * ((if c - ch1 c (u - 1) > 0 then c - ch1 c (u - 1) else 0) + ch1 (u - 1) c + 1) * x) c' = _
          rw [eu u u0, Int.mul_assoc, ← hx, ek]
      · cases hw
    | cr b' a' k' =>
      obtain ⟨g1, g2, g3⟩ := hg
      rw [btw_lc] at hw
      split at hw
      · rename_i hc
        obtain ⟨rfl, rfl, hk⟩ := hc
        have ek := fmod_mul f3 hk
        obtain ⟨u, hu, rfl⟩ := List.mem_map.mp hw
        have q0 : 0 < k' / k := by
          rw [← ek] at g3
          exact pos_r f3 g3
        obtain ⟨u0, x, hx⟩ := hdv _ u q0 hu
        have x0 : 0 < x := by
          rw [hx] at q0
          exact pos_r u0 q0
        rw [hx, mul_div_l u0]
        refine ⟨?_, n1 _ _, n1 _ _, x0⟩
        show Fm.cr b a (k * ((if c - ch1 c (u - 1) > 0 then c - ch1 c (u - 1) else 0) + ch1 (u - 1) c + 1) * x) = _
        rw [eu u u0, Int.mul_assoc, ← hx, ek]
      · cases hw
  | cr b a k =>
    obtain ⟨f1, f2, f3⟩ := hf
    cases g with
    | keep b' a' => cases hw
    | lf b' a' k' c' =>
      obtain ⟨g1, g2, g3, g4⟩ := hg
      rw [btw_cl] at hw
      split at hw
      · rename_i hc
        obtain ⟨rfl, rfl, hk⟩ := hc
        have ek := fmod_mul f3 hk
        have q0 : 0 < k' / k := by
          rw [← ek] at g3
          exact pos_r f3 g3
        rw [List.mem_singleton.mp hw]
        refine ⟨?_, by decide, by decide, q0, g4⟩
        show Fm.lf b a (k * 1 * (k' / k)) c' = _
        rw [Int.mul_one, ek]
      · cases hw
    | cr b' a' k' =>
      obtain ⟨g1, g2, g3⟩ := hg
      rw [btw_cc] at hw
      split at hw
      · rename_i hc
        obtain ⟨rfl, rfl, hk⟩ := hc
        have ek := fmod_mul f3 hk
        have q0 : 0 < k' / k := by
          rw [← ek] at g3
          exact pos_r f3 g3
        split at hw
        · rename_i hq
          rw [hq, Int.mul_one] at ek
          subst ek
          rw [List.mem_singleton.mp hw]
          exact ⟨rfl, by decide, by decide⟩
        · rw [List.mem_singleton.mp hw]
          refine ⟨?_, by decide, by decide, q0⟩
          show Fm.cr b a (k * 1 * (k' / k)) = _
          rw [Int.mul_one, ek]
      · cases hw
end Lw
/-! texts, runs and forms: what a chain of any length makes -/
namespace Lw
open PySem PySem.Spec L2 Lx
open PySem.StrLaws
theorem said_done7 (rows : List Nat) (rest : Nat) : ∀ (k : Nat) (cs : List Nat), cs.length = k → k ≤ 7000 → (∀ c ∈ cs, c ∈ steps.cps.toList) → saidT (formL cs) rows rest = doneT (spT rows rest) cs
  | 0, cs, h, _, _ => by
    rw [List.length_eq_zero_iff.mp h]
    show spT (sdRows 0 0 rows) rest = spT rows rest
    rw [sd_0]
  | k + 1, cs, h, hk, hc => by
    rcases List.eq_nil_or_concat cs with rfl | ⟨ds, c, rfl⟩
    · cases h
    · have e : ds.length = k := by simpa using h
      rw [List.concat_eq_append] at hc ⊢
      have hd : ∀ c ∈ ds, c ∈ steps.cps.toList := fun c h => hc c (List.mem_append_left _ h)
      rw [formL_snoc, doneT_snoc, ← said_done7 rows rest k ds e (by omega) hd]
      exact said_step (formL_fle k ds e (by omega) hd).ok (hc c (by simp)) rows rest
/-- chains of one form make the same of every text -/
theorem done_same7 {cs cs' : List Nat} (h : formL cs = formL cs') (hl : cs.length ≤ 7000) (hl' : cs'.length ≤ 7000) (hc : ∀ c ∈ cs, c ∈ steps.cps.toList) (hc' : ∀ c ∈ cs', c ∈ steps.cps.toList) : ∀ (n : Nat) (l : List Nat), l.length ≤ n → doneT l cs = doneT l cs' := by
  have one : ∀ a, Signs a → doneT a cs = doneT a cs' := fun a ha => by
    obtain ⟨rows, rest, rfl⟩ := spT_of a ha
    rw [← said_done7 rows rest _ cs rfl hl hc, ← said_done7 rows rest _ cs' rfl hl' hc', h]
  intro n
  induction n with
  | zero =>
    intro l hn
    obtain rfl := List.length_eq_zero_iff.mp (Nat.le_zero.mp hn)
    rw [doneT_nil, doneT_nil]
  | succ n ih =>
    intro l hn
    obtain ⟨a, ha, rfl | ⟨e, r, he, rfl, hr⟩⟩ := cut_text l
    · exact one _ ha
    · rw [doneT_sep he, doneT_sep he, one a ha, ih r (by omega)]
theorem after_nat (b a j : Nat) (f : Fm) (hb : f.b = b) (ha : f.a = a) : f.after (j : Int) = ((j - b + a : Nat) : Int) := by
  unfold Fm.after
  rw [hb, ha]
  split <;> omega
theorem on_rows (b a : Nat) (f : Fm) (hb : f.b = b) (ha : f.a = a) (rows : List Nat) : on f.after (rowP rows) = rowP (sdRows b a rows) := by
  unfold on rowP sdRows
  rw [List.map_map, List.map_map]
  refine List.map_congr_left fun j _ => ?_
  show ((1 : Int), f.after (j : Int)) = _
  rw [after_nat b a j f hb ha]
  rfl
theorem units_rows (b a : Nat) (f : Fm) (hb : f.b = b) (ha : f.a = a) (rows : List Nat) (rest : Nat) : units (rnT rows rest) f = (unT (sdRows b a rows) rest : Int) := by
  show total (moved f (Lx.merged (rowP rows))) + (rest : Int) = _
  rw [moved_on, total_on _ _ _ rfl, on_rows b a f hb ha, total_rows]
  unfold unT
  omega
/-- the run of what a form makes of a text -/
theorem rp_after {m : Nat} {f : Fm} (hf : f.Ok m) (rows : List Nat) (rest : Nat) : rpT (saidT f rows rest) = runAfter (rnT rows rest) f := by
  rcases natF hf with ⟨b, a, rfl⟩ | ⟨b, a, k, c, rfl⟩ | ⟨b, a, k, rfl⟩
  · show rpT (spT (sdRows b a rows) rest) = (Lx.merged (moved (.keep b a) (Lx.merged (rowP rows))), (rest : Int))
    rw [rpT_spT, moved_on, merged_on _ _ _ rfl, on_rows b a (.keep b a) rfl rfl]
    rfl
  · show rpT (spT (List.replicate (k * unT (sdRows b a rows) rest) c) 0) = if (k : Int) * units (rnT rows rest) (.lf b a k c) = 0 then ([], 0) else ([((k : Int) * units (rnT rows rest) (.lf b a k c), (c : Int))], 0)
    rw [rpT_spT, rnT_rep, units_rows b a (.lf b a k c) rfl rfl, ← Int.natCast_mul]
    by_cases h : k * unT (sdRows b a rows) rest = 0
    · rw [if_pos h, if_pos (by rw [h]; rfl)]
    · rw [if_neg h, if_neg (by omega)]
  · show rpT (spT [] (k * unT (sdRows b a rows) rest)) = ([], (k : Int) * units (rnT rows rest) (.cr b a k))
    rw [rpT_spT, units_rows b a (.cr b a k) rfl rfl, ← Int.natCast_mul]
    rfl
theorem spT_nil {rows : List Nat} {rest : Nat} (h : spT rows rest ≠ []) : 0 < unT rows rest := Nat.pos_of_ne_zero fun z => h (List.eq_nil_of_length_eq_zero (by rw [spT_len]; exact z))
/-- the runs of what a chain makes of a text -/
theorem runs_done {cs : List Nat} (hl : cs.length ≤ 7000) (hc : ∀ c ∈ cs, c ∈ steps.cps.toList) : ∀ (n : Nat) (l : List Nat), l.length ≤ n → runsT (doneT l cs) = (runsT l).map fun r => runAfter r (formL cs) := by
  have hok := (formL_fle _ cs rfl hl hc).ok
  have one : ∀ a, Signs a → Signs (doneT a cs) ∧ (doneT a cs = [] ↔ a = []) ∧ rpT (doneT a cs) = runAfter (rpT a) (formL cs) := fun a ha => by
    obtain ⟨rows, rest, rfl⟩ := spT_of a ha
    refine ⟨?_, ⟨fun h => ?_, fun h => by rw [h, doneT_nil]⟩, ?_⟩
    · rw [← said_done7 rows rest _ cs rfl hl hc]
      exact said_signs _ _ _
    · refine Classical.byContradiction fun z => ?_
      rw [← said_done7 rows rest _ cs rfl hl hc] at h
      exact said_ne hok (spT_nil z) h
    · rw [← said_done7 rows rest _ cs rfl hl hc, rp_after hok, rpT_spT]
  have pc : ∀ a, Signs a → (if doneT a cs = [] then [] else [doneT a cs]).map rpT = ((if a = [] then [] else [a]).map rpT).map fun r => runAfter r (formL cs) := fun a ha => by
    obtain ⟨_, h2, h3⟩ := one a ha
    by_cases h : a = []
    · rw [if_pos h, if_pos (h2.mpr h)]; rfl
    · rw [if_neg h, if_neg (fun z => h (h2.mp z))]
      show [rpT (doneT a cs)] = [runAfter (rpT a) (formL cs)]
      rw [h3]
  intro n
  induction n with
  | zero =>
    intro l hn
    obtain rfl := List.length_eq_zero_iff.mp (Nat.le_zero.mp hn)
    rw [doneT_nil]
    rfl
  | succ n ih =>
    intro l hn
    obtain ⟨a, ha, rfl | ⟨e, r, he, rfl, hr⟩⟩ := cut_text l
    · unfold runsT
      rw [pieces_last ha, pieces_last (one _ ha).1]
      exact pc _ ha
    · have ih2 := ih r (by omega)
      unfold runsT at ih2 ⊢
      rw [doneT_sep he, pieces_cons ha he, pieces_cons (one _ ha).1 he, List.map_append, List.map_append, List.map_append, ih2, pc a ha]
theorem rn_ok {rows : List Nat} {rest : Nat} (h : (spT rows rest).length ≤ 500) : RnOk 40 (rnT rows rest) := by
  obtain ⟨rl, rs, rn⟩ := @rows_small rows rest
  have sm : ∀ {x : Nat} {k : Nat}, x ≤ 500 → 20 ≤ k → Sm k (x : Int) := fun {x k} hx hk => by
    have h1 : (2 : Nat) ^ 20 ≤ 2 ^ k := Nat.pow_le_pow_right (by decide) hk
    have h2 : (2 : Nat) ^ 20 = 1048576 := by decide
    unfold Sm
    rw [Int.natAbs_natCast]
    omega
  have el : (rowP rows).length = rows.length := List.length_map _
  have m := mi_fold (n := 20) (rowP rows) [] 0 (by omega) (fun x hx => by
    obtain ⟨j, hj, rfl⟩ := List.mem_map.mp hx
    exact ⟨Int.le_refl _, sm (x := 1) (by decide) (by decide), Int.natCast_nonneg _, sm (by have := rn j hj; omega) (by decide)⟩) ⟨(fun i x hx => by simp at hx), (fun x hx => by cases hx), Nat.le_refl _⟩
  obtain ⟨m1, m2, m3⟩ := m
  refine ⟨fun i x hx => ?_, ⟨Int.natCast_nonneg _, sm (by omega) (by decide)⟩, ?_⟩
  · obtain ⟨q1, q2, q3, q4, q5⟩ := m1 i x hx
    exact ⟨q1, q2, q3.mono (by decide), q4.mono (by decide), q5⟩
  · show (Lx.merged (rowP rows)).length ≤ 1000
    unfold Lx.merged
    omega
theorem runs_ok {l : List Nat} (h : l.length ≤ 500) : (∀ r ∈ runsT l, RnOk 40 r) ∧ (runsT l).length ≤ 501 := by
  refine ⟨fun r hr => ?_, ?_⟩
  · obtain ⟨p, hp, rfl⟩ := List.mem_map.mp hr
    obtain ⟨h1, _, h3⟩ := piece_ok _ l (Nat.le_refl _) p hp
    obtain ⟨rows, rest, rfl⟩ := spT_of p h1
    rw [rpT_spT]
    exact rn_ok (by omega)
  · unfold runsT piecesT
    rw [List.length_map]
    have := List.length_filter_le (fun p : List Nat => !p.isEmpty) (TL.spl [32] 0 [] (l.map spc))
    have := spl_len [32] (l.map spc) 0 []
    rw [List.length_map] at this
    omega
/-! how long texts become on the way -/
theorem step_grow {c : Nat} (hc : c = 85 ∨ c = 77 ∨ c = 78) : ∀ (n : Nat) (l : List Nat), l.length ≤ n → l.length ≤ (stepT c l).length := by
  have one : ∀ a, Signs a → a.length ≤ (stepT c a).length := fun a ha => by
    obtain ⟨rows, rest, rfl⟩ := spT_of a ha
    rcases hc with rfl | rfl | rfl
    · show _ ≤ (replL [10] [94, 10] (spT rows rest)).length
      rw [stepU, spT_len, spT_len]
      unfold unT
      have : ∀ rs : List Nat, rs.sum ≤ (rs.map (· + 1)).sum := fun rs => by
        induction rs with
        | nil => exact Nat.le_refl _
        | cons r rs ih => rw [List.map_cons, List.sum_cons, List.sum_cons]; omega
      have := this rows
      rw [List.length_map]
      omega
    · show _ ≤ (replL [94] [10] (spT rows rest)).length
      rw [stepM, spT_len, spT_len, unT_rep]
      omega
    · show _ ≤ (replL [10] [94] (spT rows rest)).length
      rw [stepN, spT_len, spT_len]
      simp [unT]
  intro n
  induction n with
  | zero => intro l hn; omega
  | succ n ih =>
    intro l hn
    obtain ⟨a, ha, rfl | ⟨e, r, he, rfl, hr⟩⟩ := cut_text l
    · exact one _ ha
    · have i1 := ih r (by omega)
      have i2 := one a ha
      rw [stepT_sep he, List.length_append, List.length_append, List.length_cons, List.length_cons]
      omega
theorem step_shrink : ∀ (n : Nat) (l : List Nat), l.length ≤ n → (stepT 68 l).length ≤ l.length := by
  have one : ∀ a, Signs a → (stepT 68 a).length ≤ a.length := fun a ha => by
    obtain ⟨rows, rest, rfl⟩ := spT_of a ha
    show (replL [94, 10] [10] (spT rows rest)).length ≤ _
    rw [stepD, spT_len, spT_len]
    unfold unT
    have : ∀ rs : List Nat, (rs.map (· - 1)).sum ≤ rs.sum := fun rs => by
      induction rs with
      | nil => exact Nat.le_refl _
      | cons r rs ih => rw [List.map_cons, List.sum_cons, List.sum_cons]; omega
    have := this rows
    rw [List.length_map]
    omega
  intro n
  induction n with
  | zero =>
    intro l hn
    obtain rfl := List.length_eq_zero_iff.mp (Nat.le_zero.mp hn)
    exact one [] (fun c h => by cases h)
  | succ n ih =>
    intro l hn
    obtain ⟨a, ha, rfl | ⟨e, r, he, rfl, hr⟩⟩ := cut_text l
    · exact one _ ha
    · have i1 := ih r (by omega)
      have i2 := one a ha
      rw [stepT_sep he, List.length_append, List.length_append, List.length_cons, List.length_cons]
      omega
theorem done_app7 (l a b : List Nat) : doneT (doneT l a) b = doneT l (a ++ b) := by
  unfold doneT; rw [List.foldl_append]
theorem done_grow : ∀ (es : List Nat), (∀ c ∈ es, c = 85 ∨ c = 77 ∨ c = 78) → ∀ l, l.length ≤ (doneT l es).length
  | [], _, l => Nat.le_refl _
  | e :: es, h, l => by
    have h1 := step_grow (h e (List.mem_cons_self ..)) _ l (Nat.le_refl _)
    have h2 := done_grow es (fun c hc => h c (List.mem_cons_of_mem _ hc)) (stepT e l)
    show _ ≤ (doneT (stepT e l) es).length
    omega
theorem done_shrink : ∀ (d : Nat) (l : List Nat), (doneT l (List.replicate d 68)).length ≤ l.length
  | 0, l => Nat.le_refl _
  | d + 1, l => by
    have h1 := step_shrink _ l (Nat.le_refl _)
    have h2 := done_shrink d (stepT 68 l)
    show (doneT (stepT 68 l) (List.replicate d 68)).length ≤ _
    omega
/-- first D, then no D: no text on the way is longer than the first or the last -/
theorem way_len {d : Nat} {es : List Nat} (h : ∀ c ∈ es, c = 85 ∨ c = 77 ∨ c = 78) (l : List Nat) (i : Nat) : (doneT l ((List.replicate d 68 ++ es).take i)).length ≤ max l.length (doneT l (List.replicate d 68 ++ es)).length := by
  by_cases hi : i ≤ d
  · rw [List.take_append_of_le_length (by rw [List.length_replicate]; exact hi), List.take_replicate]
    have := done_shrink (min i d) l
    omega
  · have e1 : (List.replicate d 68 ++ es).take i = List.replicate d 68 ++ es.take (i - d) := by
      rw [List.take_append, List.length_replicate, List.take_of_length_le (by rw [List.length_replicate]; omega)]
    have e2 : List.replicate d 68 ++ es = (List.replicate d 68 ++ es.take (i - d)) ++ es.drop (i - d) := by
      rw [List.append_assoc, List.take_append_drop]
    have := done_grow (es.drop (i - d)) (fun c hc => h c (List.mem_of_mem_drop hc)) (doneT l (List.replicate d 68 ++ es.take (i - d)))
    rw [done_app7, ← e2] at this
    rw [e1]
    omega
theorem shc_shape (w : Fm) (fs : List Nat) : ∃ (d : Nat) (es : List Nat), shc w fs = List.replicate d 68 ++ es ∧ ∀ c ∈ es, c = 85 ∨ c = 77 ∨ c = 78 := by
  cases w with
  | keep b a =>
    refine ⟨b.toNat, List.replicate a.toNat 85, rfl, fun c hc => .inl (List.mem_replicate.mp hc).2⟩
  | lf b a k c =>
    refine ⟨b.toNat, List.replicate a.toNat 85 ++ ((77 :: segs fs) ++ List.replicate c.toNat 85), ?_, fun e he => ?_⟩
    · unfold shc startL
      simp only [List.append_assoc]
    · rcases List.mem_append.mp he with h | h
      · exact .inl (List.mem_replicate.mp h).2
      · rcases List.mem_append.mp h with h | h
        · rcases segs_ok h with h | h
          · exact .inl h
          · exact .inr (.inl h)
        · exact .inl (List.mem_replicate.mp h).2
  | cr b a k =>
    refine ⟨b.toNat, List.replicate a.toNat 85 ++ ((77 :: segs fs).dropLast ++ [78]), ?_, fun e he => ?_⟩
    · unfold shc startL
      simp only [List.append_assoc]
    · rcases List.mem_append.mp he with h | h
      · exact .inl (List.mem_replicate.mp h).2
      · rcases List.mem_append.mp h with h | h
        · rcases segs_ok (List.dropLast_subset _ h) with h | h
          · exact .inl h
          · exact .inr (.inl h)
        · exact .inr (.inr (List.mem_singleton.mp h))
/-! how much longer a chain makes a text -/
theorem cube_le7 : ∀ x : Nat, x ^ 3 ≤ 3 ^ x
  | 0 => by decide
  | 1 => by decide
  | 2 => by decide
  | 3 => by decide
  | x + 4 => by
    have ih := cube_le7 (x + 3)
    have h := Nat.pow_le_pow_left (show 3 * (x + 4) ≤ 4 * (x + 3) by omega) 3
    rw [Nat.mul_pow, Nat.mul_pow, show (3 : Nat) ^ 3 = 27 from rfl, show (4 : Nat) ^ 3 = 64 from rfl] at h
    have e2 : 3 ^ (x + 4) = 3 ^ (x + 3) * 3 := Nat.pow_succ ..
    omega
theorem pr_cube7 : ∀ gs : List Nat, pr gs ^ 3 ≤ 3 ^ gs.sum
  | [] => by decide
  | g :: gs => by
    show (g * pr gs) ^ 3 ≤ _
    rw [Nat.mul_pow, List.sum_cons, Nat.pow_add]
    exact Nat.mul_le_mul (cube_le7 g) (pr_cube7 gs)
theorem wt_cube7 {f : Fm} {n : Nat} (h : LowB f n) : wt f ^ 3 ≤ 3 ^ (n + 1) := by
  cases f with
  | keep b a =>
    obtain ⟨h1, h2, h3⟩ := h
    show (a.toNat + 1) ^ 3 ≤ _
    refine Nat.le_trans (cube_le7 _) (Nat.pow_le_pow_right (by decide) ?_)
    omega
  | lf b a k c =>
    obtain ⟨h1, h2, h3, gs, hg, e, h4⟩ := h
    have ek : k.toNat = pr gs := by omega
    show ((a.toNat + 1) * (k.toNat * (c.toNat + 1))) ^ 3 ≤ _
    rw [Nat.mul_pow, Nat.mul_pow, ek]
    have := Nat.mul_le_mul (cube_le7 (a.toNat + 1)) (Nat.mul_le_mul (pr_cube7 gs) (cube_le7 (c.toNat + 1)))
    rw [← Nat.pow_add, ← Nat.pow_add] at this
    refine Nat.le_trans this (Nat.pow_le_pow_right (by decide) ?_)
    omega
  | cr b a k =>
    obtain ⟨h1, h2, gs, hg, e, h4⟩ := h
    have ek : k.toNat = pr gs := by omega
    show ((a.toNat + 1) * k.toNat) ^ 3 ≤ _
    rw [Nat.mul_pow, ek]
    have := Nat.mul_le_mul (cube_le7 (a.toNat + 1)) (pr_cube7 gs)
    rw [← Nat.pow_add] at this
    refine Nat.le_trans this (Nat.pow_le_pow_right (by decide) ?_)
    omega
theorem wt_20 {cs : List Nat} (hl : cs.length ≤ 20) (hc : ∀ c ∈ cs, c ∈ steps.cps.toList) : wt (formL cs) ≤ 2188 := by
  have h1 := wt_cube7 (low_form _ cs rfl hc)
  have h2 : (3 : Nat) ^ (cs.length + 1) ≤ 3 ^ 21 := Nat.pow_le_pow_right (by decide) (by omega)
  refine Classical.byContradiction fun z => ?_
  have h3 : 2189 ^ 3 ≤ wt (formL cs) ^ 3 := Nat.pow_le_pow_left (by omega) 3
  have h4 : (3 : Nat) ^ 21 < 2189 ^ 3 := by decide
  omega
theorem len_20 {cs : List Nat} (hl : cs.length ≤ 20) (hc : ∀ c ∈ cs, c ∈ steps.cps.toList) {l : List Nat} (h : l.length ≤ 60) : (doneT l cs).length ≤ 131280 := by
  have a := done_wt (by omega) hc _ l (Nat.le_refl _)
  have := Nat.mul_le_mul h (wt_20 hl hc)
  omega
/-! three runs between letters -/
def apL : List Nat := spT [] 1 ++ 120 :: (spT [0] 0 ++ 121 :: spT [20] 0)
theorem ap_tell {cs cs' : List Nat} (hl : cs.length ≤ 20) (hl' : cs'.length ≤ 20) (hc : ∀ c ∈ cs, c ∈ steps.cps.toList) (hc' : ∀ c ∈ cs', c ∈ steps.cps.toList) (h : doneT apL cs = doneT apL cs') : formL cs = formL cs' := by
  have s120 : Sep 120 := ⟨by decide, by decide⟩
  have s121 : Sep 121 := ⟨by decide, by decide⟩
  unfold apL at h
  rw [doneT_sep s120, doneT_sep s120, doneT_sep s121, doneT_sep s121] at h
  have sd := fun rows rest => said_done7 rows rest _ cs rfl (by omega) hc
  have sd' := fun rows rest => said_done7 rows rest _ cs' rfl (by omega) hc'
  rw [← sd, ← sd, ← sd, ← sd', ← sd', ← sd'] at h
  have ns : ∀ (f : Fm) rows rest e, Sep e → e ∉ saidT f rows rest := fun f rows rest e he hm => by
    rcases said_signs f rows rest e hm with z | z
    · exact he.1 z
    · exact he.2 z
  obtain ⟨h1, h⟩ := sep_cut (ns _ _ _ 120 s120) (ns _ _ _ 120 s120) h
  obtain ⟨h2, h3⟩ := sep_cut (ns _ _ _ 121 s121) (ns _ _ _ 121 s121) h
  have fl := formL_fle _ cs rfl (by omega) hc
  have fl' := formL_fle _ cs' rfl (by omega) hc'
  have b1 : ∀ {g : Fm} {m : Nat}, FLe m g → m ≤ 20 → g.b ≤ 20 := fun {g m} hg hm => by
    cases g with
    | keep b a => obtain ⟨_, h, _⟩ := hg; show b ≤ 20; omega
    | lf b a k c => obtain ⟨_, h, _⟩ := hg; show b ≤ 20; omega
    | cr b a k => obtain ⟨_, h, _⟩ := hg; show b ≤ 20; omega
  exact said_tell (fl.ok.mono (show _ ≤ 100001 by omega)) (fl'.ok.mono (by omega)) (b1 fl hl) (b1 fl' hl') h1 h2 h3
/-! runs as data -/
theorem Rns.dq {K : PySem.W.Frag} {H : Hp} : ∀ {vs rs}, Rns K H vs rs → DqAll K H vs (rs.map rd)
  | _, _, .nil => .nil
  | _, _, .cons ⟨l, h⟩ t => .cons h.dq (Rns.dq t)
theorem rds_shaped (rs : List (List (Int × Int) × Int)) : SeqAt.shaped (.list (rs.map rd)) = true := by
  have h1 : PyData.canLayAll0 (rs.map rd) = true := by
    induction rs with
    | nil => rfl
    | cons r rs ih =>
      have h0 : PyData.canLay0 (rd r) = true := by
        have := pd_lay r.1
        unfold rd
        simp only [PyData.canLay0, PyData.canLayAll0, this, Bool.and_true]
      simp only [List.map_cons, PyData.canLayAll0, ih, h0, Bool.and_self]
  have h2 : PyData.depthAll (rs.map rd) ≤ 3 := by
    induction rs with
    | nil => exact Nat.zero_le _
    | cons r rs ih =>
      have := rd_depth r
      simp only [List.map_cons, PyData.depthAll]
      have i2 := ih (by
        simp only [List.map_cons, PyData.canLayAll0, Bool.and_eq_true] at h1
        exact h1.2)
      omega
  unfold SeqAt.shaped
  simp only [PyData.canLay0, h1, PyData.depth, Bool.true_and]
  exact decide_eq_true (by omega)
theorem rds_eqv : ∀ (a b : List (List (Int × Int) × Int)), PyData.eqv (.list (a.map rd)) (.list (b.map rd)) = true ↔ a = b
  | [], [] => by simp [PyData.eqv, PyData.eqvAll]
  | [], _ :: _ => by simp [PyData.eqv, PyData.eqvAll]
  | _ :: _, [] => by simp [PyData.eqv, PyData.eqvAll]
  | x :: xs, y :: ys => by
    have ih := rds_eqv xs ys
    simp only [PyData.eqv] at ih
    simp only [List.map_cons, PyData.eqv, PyData.eqvAll, Bool.and_eq_true, ih, rd_eqv, decide_eq_true_iff, List.cons.injEq]
end Lw
/-! steps that take each other back on any text -/
namespace Lw
open PySem PySem.Spec L2 Lx PySem.StrLaws
theorem rep1 (a b : Nat) : ∀ l : List Nat, replL [a] [b] l = l.map fun c => if c = a then b else c := by
  intro l
  unfold replL
  induction l with
  | nil => rfl
  | cons c r ih =>
    rw [replS]
    by_cases h : c = a
    · subst h
      rw [if_pos (by simp)]
      show [b] ++ replS [c] [b] 0 r = _
      rw [ih]
      simp
    · rw [if_neg (by simp [h]), ih]
      simp [h]
theorem rep2 (a : Nat) (z : List Nat) : ∀ l : List Nat, replL [a] z l = l.flatMap fun c => if c = a then z else [c] := by
  intro l
  unfold replL
  induction l with
  | nil => rfl
  | cons c r ih =>
    rw [replS]
    by_cases h : c = a
    · subst h
      rw [if_pos (by simp)]
      show z ++ replS [c] z 0 r = _
      rw [ih]
      simp
    · rw [if_neg (by simp [h]), ih]
      simp [h]
/-- N behind M, no newline before -/
theorem step_MN {l : List Nat} (h : 10 ∉ l) : stepT 78 (stepT 77 l) = l := by
  show replL [10] [94] (replL [94] [10] l) = l
  rw [rep1, rep1, List.map_map]
  induction l with
  | nil => rfl
  | cons c r ih =>
    have hc : c ≠ 10 := fun e => h (by rw [e]; exact List.mem_cons_self ..)
    rw [List.map_cons, ih fun q => h (List.mem_cons_of_mem _ q)]
    by_cases h9 : c = 94
    · subst h9; rfl
    · simp [h9, hc]
/-- D behind U -/
theorem step_UD (l : List Nat) : stepT 68 (stepT 85 l) = l := by
  show replL [94, 10] [10] (replL [10] [94, 10] l) = l
  rw [rep2]
  have hd : ∀ r : List Nat, (r.flatMap fun c => if c = 10 then [94, 10] else [c]).head? ≠ some 10 := fun r => by
    cases r with
    | nil => simp
    | cons c r =>
      by_cases h : c = 10
      · subst h; simp
      · simp [h]
  unfold replL
  induction l with
  | nil => rfl
  | cons c r ih =>
    by_cases h : c = 10
    · subst h
      show replS [94, 10] [10] 0 (94 :: 10 :: r.flatMap _) = _
      rw [replS, if_pos (by simp)]
      show [10] ++ replS [94, 10] [10] 1 (10 :: r.flatMap _) = _
      rw [replS, ih]
      rfl
    · have e : (c :: r).flatMap (fun c => if c = 10 then [94, 10] else [c]) = c :: r.flatMap fun c => if c = 10 then [94, 10] else [c] := by simp [h]
      rw [e, replS]
      have hn : ¬ ((c :: r.flatMap fun c => if c = 10 then [94, 10] else [c]).take ([94, 10] : List Nat).length = [94, 10]) := fun q => by
        have h1 := hd r
        revert h1 q
        cases (r.flatMap fun c => if c = 10 then [94, 10] else [c]) with
        | nil => intro q h1; simp at q
        | cons d t =>
          intro q h1
          simp at q h1
          exact h1 q.2
      rw [if_neg hn, ih]
end Lw
/-! newlines counted: one less than the pieces between them; the pieces put together again; lines with endings -/
namespace Lw
open PySem PySem.Spec L2 Lx PySem.StrLaws
theorem nl_spl (x : Str) : (Txt.split x "\n").map TL.tl = TL.spl [10] 0 [] x.cps.toList := TL.split_spl x "\n" (by decide) (TL.kind_ok (by decide +kernel))
theorem spl_cnt : ∀ (l acc : List Nat), ((TL.spl [10] 0 acc l).length : Int) = PyProof.Rows.cnt 10 l + 1
  | [], acc => rfl
  | c :: r, acc => by
    rw [PyProof.Rows.cnt_cons]
    by_cases h : c = 10
    · subst h
      rw [TL.spl_hit (by simp [TL.pre]), TL.spl_pass]
      show ((_ :: TL.spl [10] 0 [] r).length : Int) = _
      rw [List.length_cons, Int.natCast_add, spl_cnt r []]
      rw [if_pos rfl]
      omega
    · rw [TL.spl_miss (by simp [TL.pre, h]), spl_cnt r (acc ++ [c]), if_neg h]
      omega
theorem ct_cnt (x : Str) : Txt.count x "\n" = PyProof.Rows.cnt 10 x.cps.toList := PyProof.Rows.count_cnt x 10
theorem ct_split (x : Str) : Txt.count x "\n" = ((Txt.split x "\n").length : Int) - 1 := by
  have h := congrArg List.length (nl_spl x)
  rw [List.length_map] at h
  rw [ct_cnt, h, spl_cnt]
  omega
theorem joinL_ne (S p : List Nat) {r : List (List Nat)} (h : r ≠ []) : TL.joinL S (p :: r) = p ++ (S ++ TL.joinL S r) := by
  cases r with
  | nil => exact absurd rfl h
  | cons q t => rfl
theorem spl_ne (S : List Nat) (k : Nat) (l acc : List Nat) : TL.spl S k acc l ≠ [] := by
  induction l generalizing k acc with
  | nil => rw [TL.spl_nil]; simp
  | cons c r ih =>
    cases k with
    | zero =>
      unfold TL.spl
      split
      · simp
      · exact ih _ _
    | succ k => exact ih _ _
theorem join_spl : ∀ (l acc : List Nat), TL.joinL [10] (TL.spl [10] 0 acc l) = acc ++ l
  | [], acc => by rw [TL.spl_nil, List.append_nil]; rfl
  | c :: r, acc => by
    by_cases h : c = 10
    · subst h
      rw [TL.spl_hit (by simp [TL.pre]), TL.spl_pass]
      show TL.joinL [10] (acc :: TL.spl [10] 0 [] r) = _
      rw [joinL_ne _ _ (spl_ne _ _ _ _), join_spl r []]
      rfl
    · rw [TL.spl_miss (by simp [TL.pre, h]), join_spl r (acc ++ [c]), List.append_assoc]
      rfl
theorem join_split (x : Str) : Txt.join "\n" (Txt.split x "\n") = x := by
  refine TL.ext_tl ?_
  rw [TL.join_eq, TL.tl_join, nl_spl]
  exact join_spl _ []
/-- lines, each followed by an ending -/
def ej (e : List Nat) (xs : List Str) : List Nat := xs.flatMap fun x => x.cps.toList ++ e
theorem joinL_nil : ∀ l : List (List Nat), TL.joinL [] l = l.flatten
  | [] => rfl
  | [p] => by show p = _; simp
  | p :: q :: r => by
    show p ++ ([] ++ TL.joinL [] (q :: r)) = _
    rw [joinL_nil (q :: r)]
    rfl
theorem ej_join (e : Str) (xs : List Str) : (Txt.join "" (xs.map fun x => x ++ e)).cps.toList = ej e.cps.toList xs := by
  show TL.tl _ = _
  rw [TL.join_eq, TL.tl_join]
  show TL.joinL [] _ = _
  rw [joinL_nil, List.map_map]
  unfold ej
  rw [List.flatMap_def]
  congr 1
  refine List.map_congr_left fun x _ => ?_
  exact TL.tl_append x e
theorem ej_U {xs : List Str} (h : ∀ x ∈ xs, 10 ∉ x.cps.toList) (z : List Nat) : replL [10] z (ej [10] xs) = ej z xs := by
  rw [rep2]
  unfold ej
  rw [List.flatMap_assoc, List.flatMap_def, List.flatMap_def]
  refine congrArg List.flatten (List.map_congr_left fun x hx => ?_)
  rw [List.flatMap_append]
  congr 1
  · have := h x hx
    revert this
    generalize x.cps.toList = l
    intro h10
    induction l with
    | nil => rfl
    | cons c r ih =>
      have hc : c ≠ 10 := fun e => h10 (by rw [e]; exact List.mem_cons_self ..)
      rw [List.flatMap_cons, if_neg hc, ih fun q => h10 (List.mem_cons_of_mem _ q)]
      rfl
  · simp
theorem ej_M {xs : List Str} (h : ∀ x ∈ xs, 94 ∉ x.cps.toList) : replL [94] [10] (ej [94] xs) = ej [10] xs := by
  rw [rep2]
  unfold ej
  rw [List.flatMap_assoc, List.flatMap_def, List.flatMap_def]
  refine congrArg List.flatten (List.map_congr_left fun x hx => ?_)
  rw [List.flatMap_append]
  congr 1
  · have := h x hx
    revert this
    generalize x.cps.toList = l
    intro h10
    induction l with
    | nil => rfl
    | cons c r ih =>
      have hc : c ≠ 94 := fun e => h10 (by rw [e]; exact List.mem_cons_self ..)
      rw [List.flatMap_cons, if_neg hc, ih fun q => h10 (List.mem_cons_of_mem _ q)]
      rfl

theorem st_U {xs : List Str} (h : ∀ x ∈ xs, 10 ∉ x.cps.toList) : stepT 85 (ej [10] xs) = ej [94, 10] xs := ej_U h _
theorem st_N {xs : List Str} (h : ∀ x ∈ xs, 10 ∉ x.cps.toList) : stepT 78 (ej [10] xs) = ej [94] xs := ej_U h _
theorem st_M {xs : List Str} (h : ∀ x ∈ xs, 94 ∉ x.cps.toList) : stepT 77 (ej [94] xs) = ej [10] xs := ej_M h
theorem st_D {xs : List Str} (h : ∀ x ∈ xs, 10 ∉ x.cps.toList) : stepT 68 (ej [94, 10] xs) = ej [10] xs := by
  rw [← st_U h, step_UD]
/-- newlines in lines with endings -/
theorem cnt_app (a b : List Nat) : PyProof.Rows.cnt 10 (a ++ b) = PyProof.Rows.cnt 10 a + PyProof.Rows.cnt 10 b := by
  induction a with
  | nil => rw [List.nil_append, PyProof.Rows.cnt_nil]; omega
  | cons c r ih =>
    rw [List.cons_append, PyProof.Rows.cnt_cons, PyProof.Rows.cnt_cons, ih]
    omega
theorem cnt_free {l : List Nat} (h : 10 ∉ l) : PyProof.Rows.cnt 10 l = 0 := by
  induction l with
  | nil => rfl
  | cons c r ih =>
    have hc : c ≠ 10 := fun e => h (by rw [e]; exact List.mem_cons_self ..)
    rw [PyProof.Rows.cnt_cons, ih fun q => h (List.mem_cons_of_mem _ q), if_neg hc]
    rfl
theorem cnt_ej (e : List Nat) {xs : List Str} (h : ∀ x ∈ xs, 10 ∉ x.cps.toList) : PyProof.Rows.cnt 10 (ej e xs) = (xs.length : Int) * PyProof.Rows.cnt 10 e := by
  induction xs with
  | nil => show (0 : Int) = 0 * _; rw [Int.zero_mul]
  | cons x r ih =>
    show PyProof.Rows.cnt 10 ((x.cps.toList ++ e) ++ ej e r) = _
    rw [cnt_app, cnt_app, cnt_free (h x (List.mem_cons_self ..)), ih fun y hy => h y (List.mem_cons_of_mem _ hy), List.length_cons, Int.natCast_add, Int.add_mul]
    show _ = _ + 1 * _
    omega
/-- the pieces of lines with endings -/
theorem ej_pieces {x : Str} (z : Str) {xs : List Str} (hx : x.cps.toList = ej (z.cps.toList ++ [10]) xs) (h : ∀ y ∈ xs, 10 ∉ y.cps.toList) (hz : 10 ∉ z.cps.toList) :
    Txt.split x "\n" = xs.map (fun y => y ++ z) ++ [("" : Str)] := by
  have e : x = Txt.join "\n" (xs.map (fun y => y ++ z) ++ [("" : Str)]) := by
    refine TL.ext_tl ?_
    rw [TL.join_eq, TL.tl_join]
    show x.cps.toList = TL.joinL [10] _
    rw [hx]
    clear hx h
    induction xs with
    | nil => rfl
    | cons y r ih =>
      rw [List.map_cons, List.cons_append, List.map_cons, joinL_ne _ _ (by simp), ← ih]
      show (y.cps.toList ++ (z.cps.toList ++ [10])) ++ ej _ r = TL.tl (y ++ z) ++ _
      rw [TL.tl_append]
      show _ = (y.cps.toList ++ z.cps.toList) ++ ([10] ++ _)
      simp only [List.append_assoc]
  rw [e]
  refine TL.split_join (s := 10) (S := []) rfl (by decide +kernel) (by simp) fun p hp => ?_
  rcases List.mem_append.mp hp with hp | hp
  · obtain ⟨y, hy, rfl⟩ := List.mem_map.mp hp
    rw [TL.tl_append]
    intro q
    rcases List.mem_append.mp q with q | q
    · exact h y hy q
    · exact hz q
  · obtain rfl := List.mem_singleton.mp hp
    decide +kernel
theorem ej_len (e : List Nat) {n : Nat} {xs : List Str} (h : ∀ x ∈ xs, x.length ≤ n) : (ej e xs).length ≤ xs.length * (n + e.length) := by
  induction xs with
  | nil => exact Nat.zero_le _
  | cons x r ih =>
    show ((x.cps.toList ++ e) ++ ej e r).length ≤ _
    have h1 := h x (List.mem_cons_self ..)
    have h2 := ih fun y hy => h y (List.mem_cons_of_mem _ hy)
    have h3 : x.cps.toList.length = x.length := Array.length_toList ..
    rw [List.length_append, List.length_append, List.length_cons, Nat.add_mul]
    omega
end Lw
/-! runs of a text: their feeds, and how much they are written out -/
namespace Lw
open PySem PySem.Spec L2 Lx
theorem mfold {B : Int} : ∀ (gs acc : List (Int × Int)) (t : Nat), (∀ x ∈ acc, 0 ≤ x.1 ∧ x.1 ≤ (t : Int) ∧ 0 ≤ x.2 ∧ x.2 ≤ B) → acc.length ≤ t → (∀ g ∈ gs, g.1 = 1 ∧ 0 ≤ g.2 ∧ g.2 ≤ B) →
    (∀ x ∈ gs.foldl addTo acc, 0 ≤ x.1 ∧ x.1 ≤ ((t + gs.length : Nat) : Int) ∧ 0 ≤ x.2 ∧ x.2 ≤ B) ∧ (gs.foldl addTo acc).length ≤ t + gs.length
  | [], acc, t, h1, h2, _ => ⟨h1, h2⟩
  | g :: gs, acc, t, h1, h2, h3 => by
    obtain ⟨g1, g2, g3⟩ := h3 g List.mem_cons_self
    have key : (∀ x ∈ addTo acc g, 0 ≤ x.1 ∧ x.1 ≤ ((t + 1 : Nat) : Int) ∧ 0 ≤ x.2 ∧ x.2 ≤ B) ∧ (addTo acc g).length ≤ t + 1 := by
      rcases ends acc with rfl | ⟨b, y, rfl⟩
      · refine ⟨fun x hx => ?_, ?_⟩
        · have : x = g := by simpa [addTo] using hx
          subst this
          omega
        · show 1 ≤ t + 1
          omega
      · obtain ⟨y1, y2, y3, y4⟩ := h1 y (by simp)
        rw [addTo_end]
        rw [List.length_append, List.length_singleton] at h2
        by_cases e : y.2 = g.2
        · rw [if_pos e]
          refine ⟨fun x hx => ?_, by rw [List.length_append, List.length_singleton]; omega⟩
          rcases List.mem_append.mp hx with h | h
          · have := h1 x (List.mem_append_left _ h); omega
          · rw [List.mem_singleton.mp h]; show 0 ≤ y.1 + g.1 ∧ y.1 + g.1 ≤ _ ∧ 0 ≤ g.2 ∧ g.2 ≤ B; omega
        · rw [if_neg e]
          refine ⟨fun x hx => ?_, by rw [List.length_append, List.length_append, List.length_singleton, List.length_singleton]; omega⟩
          rcases List.mem_append.mp hx with h | h
          · have := h1 x h; omega
          · rw [List.mem_singleton.mp h]; omega
    have ih := mfold gs (addTo acc g) (t + 1) key.1 key.2 fun x hx => h3 x (List.mem_cons_of_mem _ hx)
    have e : t + 1 + gs.length = t + (g :: gs).length := by rw [List.length_cons]; omega
    rw [e] at ih
    exact ih
theorem rn_bd (rows : List Nat) (rest : Nat) {n : Nat} (h : (spT rows rest).length ≤ n) : (∀ x ∈ (rnT rows rest).1, 0 ≤ x.1 ∧ x.1 ≤ (n : Int) ∧ 0 ≤ x.2 ∧ x.2 ≤ (n : Int)) ∧ (rnT rows rest).1.length ≤ rows.length ∧ rows.length ≤ n ∧ rest ≤ n := by
  obtain ⟨rl, rs, rn⟩ := @rows_small rows rest
  have m := mfold (B := (n : Int)) (rowP rows) [] 0 (fun x hx => by cases hx) (Nat.le_refl _) (fun x hx => by
    obtain ⟨j, hj, rfl⟩ := List.mem_map.mp hx
    have := rn j hj
    exact ⟨rfl, Int.natCast_nonneg _, (show (j : Int) ≤ (n : Int) by omega)⟩)
  have el : (rowP rows).length = rows.length := List.length_map _
  rw [el, Nat.zero_add] at m
  refine ⟨fun x hx => ?_, m.2, by omega, by omega⟩
  have := m.1 x hx
  omega
def feedOf (r : List (Int × Int) × Int) : Int := (r.1.map (·.1)).sum
theorem feed_rn (rows : List Nat) (rest : Nat) : feedOf (rnT rows rest) = (rows.length : Int) := by
  have e0 : ∀ gs : List (Int × Int), (gs.map (·.1)).sum = total (on (fun _ => 0) gs) := fun gs => by
    unfold total on
    rw [List.map_map]
    congr 1
    refine List.map_congr_left fun x _ => ?_
    show x.1 = x.1 * (0 + 1)
    omega
  have e1 : ∀ rs : List Nat, ((rowP rs).map (·.1)).sum = (rs.length : Int) := fun rs => by
    induction rs with
    | nil => rfl
    | cons r rs ih =>
      show (1 : Int) + ((rowP rs).map (·.1)).sum = _
      rw [ih, List.length_cons]
      omega
  show ((Lx.merged (rowP rows)).map (·.1)).sum = _
  rw [e0, total_on _ _ _ rfl, ← e0, e1]
theorem cnt_sp (rows : List Nat) (rest : Nat) : PyProof.Rows.cnt 10 (spT rows rest) = (rows.length : Int) := by
  have up : ∀ n : Nat, PyProof.Rows.cnt 10 (List.replicate n 94) = 0 := fun n => cnt_free (fun h => by have := (List.mem_replicate.mp h).2; cases this)
  induction rows with
  | nil =>
    show PyProof.Rows.cnt 10 (List.replicate rest 94) = 0
    exact up rest
  | cons r rows ih =>
    have e : spT (r :: rows) rest = List.replicate r 94 ++ ([10] ++ spT rows rest) := by
      unfold spT
      rw [List.flatMap_cons]
      simp [Lx.up]
    rw [e, cnt_app, cnt_app, up, ih, List.length_cons, show PyProof.Rows.cnt 10 [10] = 1 from rfl]
    omega
theorem runs_feed : ∀ (n : Nat) (l : List Nat), l.length ≤ n → ((runsT l).map feedOf).sum = PyProof.Rows.cnt 10 l := by
  have one : ∀ a, Signs a → (((if a = [] then [] else [a]).map rpT).map feedOf).sum = PyProof.Rows.cnt 10 a := fun a ha => by
    by_cases h : a = []
    · rw [if_pos h, h]; rfl
    · rw [if_neg h]
      obtain ⟨rows, rest, rfl⟩ := spT_of a ha
      show feedOf (rpT (spT rows rest)) + 0 = _
      rw [rpT_spT, feed_rn, cnt_sp]
      omega
  intro n
  induction n with
  | zero =>
    intro l hn
    obtain rfl := List.length_eq_zero_iff.mp (Nat.le_zero.mp hn)
    rfl
  | succ n ih =>
    intro l hn
    obtain ⟨a, ha, rfl | ⟨e, r, he, rfl, hr⟩⟩ := cut_text l
    · unfold runsT
      rw [pieces_last ha]
      exact one _ ha
    · have ih2 := ih r (by omega)
      unfold runsT at ih2 ⊢
      rw [pieces_cons ha he, List.map_append, List.map_append, List.sum_append, one a ha, ih2, cnt_app, show e :: r = [e] ++ r from rfl, cnt_app, cnt_free (l := [e]) (fun h => he.2 (List.mem_singleton.mp h).symm)]
      omega
theorem runs_bulk : ∀ (n : Nat) (l : List Nat), l.length ≤ n → ((runsT l).map fun r => 3 * r.1.length + 3).sum ≤ 6 * l.length := by
  have one : ∀ a, Signs a → (((if a = [] then [] else [a]).map rpT).map fun r => 3 * r.1.length + 3).sum ≤ 6 * a.length := fun a ha => by
    by_cases h : a = []
    · rw [if_pos h, h]; exact Nat.le_refl _
    · rw [if_neg h]
      obtain ⟨rows, rest, rfl⟩ := spT_of a ha
      show 3 * (rpT (spT rows rest)).1.length + 3 + 0 ≤ _
      rw [rpT_spT]
      obtain ⟨_, h2, h3, _⟩ := rn_bd rows rest (Nat.le_refl _)
      have : 0 < (spT rows rest).length := List.length_pos_iff.mpr h
      omega
  intro n
  induction n with
  | zero =>
    intro l hn
    obtain rfl := List.length_eq_zero_iff.mp (Nat.le_zero.mp hn)
    exact Nat.le_refl _
  | succ n ih =>
    intro l hn
    obtain ⟨a, ha, rfl | ⟨e, r, he, rfl, hr⟩⟩ := cut_text l
    · unfold runsT
      rw [pieces_last ha]
      exact one _ ha
    · have ih2 := ih r (by omega)
      have i1 := one a ha
      unfold runsT at ih2 ⊢
      rw [pieces_cons ha he, List.map_append, List.map_append, List.sum_append, List.length_append, List.length_cons]
      omega
theorem runs_len (l : List Nat) : (runsT l).length ≤ l.length + 1 := by
  unfold runsT piecesT
  rw [List.length_map]
  have := List.length_filter_le (fun p : List Nat => !p.isEmpty) (TL.spl [32] 0 [] (l.map spc))
  have := spl_len [32] (l.map spc) 0 []
  rw [List.length_map] at this
  omega
theorem runs_grp {l : List Nat} {r : List (Int × Int) × Int} (hr : r ∈ runsT l) : r.1.length ≤ l.length := by
  obtain ⟨p, hp, rfl⟩ := List.mem_map.mp hr
  obtain ⟨h1, _, h3⟩ := piece_ok _ l (Nat.le_refl _) p hp
  obtain ⟨rows, rest, rfl⟩ := spT_of p h1
  rw [rpT_spT]
  obtain ⟨_, b, c, _⟩ := rn_bd rows rest (n := l.length) h3
  omega
theorem rd_small {r : List (Int × Int) × Int} {n : Nat} (h : ∀ x ∈ r.1, 0 ≤ x.1 ∧ x.1 ≤ (n : Int) ∧ 0 ≤ x.2 ∧ x.2 ≤ (n : Int)) (h2 : 0 ≤ r.2 ∧ r.2 ≤ (n : Int)) (hn : n ≤ 1000000) : small (rd r) = true := by
  have sm : ∀ {x : Int}, 0 ≤ x → x ≤ (n : Int) → x.natAbs < 2 ^ 400 := fun {x} h0 h1 => by
    have p : (2 : Nat) ^ 20 ≤ 2 ^ 400 := Nat.pow_le_pow_right (by decide) (by decide)
    have p2 : (2 : Nat) ^ 20 = 1048576 := by decide
    omega
  have e : ∀ gs : List (Int × Int), (∀ x ∈ gs, 0 ≤ x.1 ∧ x.1 ≤ (n : Int) ∧ 0 ≤ x.2 ∧ x.2 ≤ (n : Int)) → small.smallAll (pd gs) = true := fun gs => by
    unfold pd
    induction gs with
    | nil => exact fun _ => rfl
    | cons g gs ih =>
      intro hg
      obtain ⟨a, b, c, d⟩ := hg g List.mem_cons_self
      simp only [List.map_cons, small.smallAll, small, decide_eq_true (sm a b), decide_eq_true (sm c d), Bool.and_true, Bool.true_and]
      exact ih fun x hx => hg x (List.mem_cons_of_mem _ hx)
  unfold rd
  simp only [small, small.smallAll, e r.1 h, decide_eq_true (sm h2.1 h2.2), Bool.and_true]
theorem runs_fit {l : List Nat} (h : l.length ≤ 6000) : Fit (.list ((runsT l).map rd)) := by
  have hs : ∀ r ∈ runsT l, small (rd r) = true := fun r hr => by
    obtain ⟨p, hp, rfl⟩ := List.mem_map.mp hr
    obtain ⟨h1, _, h3⟩ := piece_ok _ l (Nat.le_refl _) p hp
    obtain ⟨rows, rest, rfl⟩ := spT_of p h1
    rw [rpT_spT]
    obtain ⟨a, _, _, d⟩ := rn_bd rows rest (n := 6000) (by omega)
    exact rd_small a ⟨Int.natCast_nonneg _, (show (rest : Int) ≤ _ by omega)⟩ (by decide)
  have hb := runs_bulk _ l (Nat.le_refl _)
  revert hs hb
  generalize runsT l = rs
  intro hs hb
  refine fit_small ?_ ?_ ?_
  · show small.smallAll (rs.map rd) = true
    clear hb
    induction rs with
    | nil => rfl
    | cons r rs ih =>
      simp only [List.map_cons, small.smallAll, hs r List.mem_cons_self, Bool.true_and]
      exact ih fun x hx => hs x (List.mem_cons_of_mem _ hx)
  · have e : ∀ rs : List (List (Int × Int) × Int), PyData.depthAll (rs.map rd) ≤ 30 := fun rs => by
      induction rs with
      | nil => exact Nat.zero_le _
      | cons r rs ih =>
        have := rd_depth r
        simp only [List.map_cons, PyData.depthAll]
        omega
    have := e rs
    simp only [PyData.depth]
    omega
  · have e : ∀ rs : List (List (Int × Int) × Int), PyData.bulkAll (rs.map rd) = (rs.map fun r => 3 * r.1.length + 3).sum := fun rs => by
      induction rs with
      | nil => rfl
      | cons r rs ih =>
        have := rd_bulk r
        simp only [List.map_cons, PyData.bulkAll, List.sum_cons]
        omega
    exact Nat.le_trans (Nat.le_of_eq (e rs)) (Nat.le_trans hb (by omega))
/-! three runs between letters, to 12 steps -/
def ebL : List Nat := spT [] 1 ++ 97 :: 10 :: 97 :: spT [13] 0
theorem eb_tell {cs cs' : List Nat} (hl : cs.length ≤ 13) (hl' : cs'.length ≤ 13) (hc : ∀ c ∈ cs, c ∈ steps.cps.toList) (hc' : ∀ c ∈ cs', c ∈ steps.cps.toList) (h : doneT ebL cs = doneT ebL cs') : formL cs = formL cs' := by
  have s97 : Sep 97 := ⟨by decide, by decide⟩
  have e0 : ebL = spT [] 1 ++ 97 :: (spT [0] 0 ++ 97 :: spT [13] 0) := rfl
  rw [e0] at h
  rw [doneT_sep s97, doneT_sep s97, doneT_sep s97, doneT_sep s97] at h
  have sd := fun rows rest => said_done7 rows rest _ cs rfl (by omega) hc
  have sd' := fun rows rest => said_done7 rows rest _ cs' rfl (by omega) hc'
  rw [← sd, ← sd, ← sd, ← sd', ← sd', ← sd'] at h
  have ns : ∀ (f : Fm) rows rest e, Sep e → e ∉ saidT f rows rest := fun f rows rest e he hm => by
    rcases said_signs f rows rest e hm with z | z
    · exact he.1 z
    · exact he.2 z
  obtain ⟨h1, h⟩ := sep_cut (ns _ _ _ 97 s97) (ns _ _ _ 97 s97) h
  obtain ⟨h2, h3⟩ := sep_cut (ns _ _ _ 97 s97) (ns _ _ _ 97 s97) h
  have fl := formL_fle _ cs rfl (by omega) hc
  have fl' := formL_fle _ cs' rfl (by omega) hc'
  have b1 : ∀ {g : Fm} {m : Nat}, FLe m g → m ≤ 13 → g.b ≤ 13 := fun {g m} hg hm => by
    cases g with
    | keep b a => obtain ⟨_, h, _⟩ := hg; show b ≤ 13; omega
    | lf b a k c => obtain ⟨_, h, _⟩ := hg; show b ≤ 13; omega
    | cr b a k => obtain ⟨_, h, _⟩ := hg; show b ≤ 13; omega
  exact said_tell (fl.ok.mono (show _ ≤ 100001 by omega)) (fl'.ok.mono (by omega)) (b1 fl hl) (b1 fl' hl') h1 h2 h3
end Lw
/-! a text read sign by sign: its runs, and what stands between them -/
namespace Lw
open PySem PySem.Spec L2 Lx
abbrev Rn4 := List (Int × Int) × Int
structure PS4 where
  found : List Rn4
  others : List (List Nat)
  inside : Bool
/-- one sign of a run -/
def runStep (r : Rn4) (c : Nat) : Rn4 := if c = 94 then (r.1, r.2 + 1) else (addTo r.1 (1, r.2), 0)
def updLast {α : Type} (f : α → α) : List α → List α
  | [] => []
  | [x] => [f x]
  | x :: y :: r => x :: updLast f (y :: r)
theorem updLast_snoc {α : Type} (f : α → α) : ∀ (l : List α) (x : α), updLast f (l ++ [x]) = l ++ [f x]
  | [], x => rfl
  | [y], x => rfl
  | y :: z :: r, x => by
    have := updLast_snoc f (z :: r) x
    show y :: updLast f ((z :: r) ++ [x]) = _
    rw [this]
    rfl
def parseStep (s : PS4) (c : Nat) : PS4 :=
  if c ≠ 94 ∧ c ≠ 10 then ⟨s.found, updLast (· ++ [c]) s.others, false⟩
  else if s.inside then ⟨updLast (fun r => runStep r c) s.found, s.others, true⟩
  else ⟨s.found ++ [runStep ([], 0) c], s.others ++ [[]], true⟩
def parse0 : PS4 := ⟨[], [[]], false⟩
def parseT (l : List Nat) : PS4 := l.foldl parseStep parse0
def runFold (r : Rn4) (l : List Nat) : Rn4 := l.foldl runStep r
/-- signs read inside a run -/
theorem fold_in : ∀ (a : List Nat) (rs : List Rn4) (r : Rn4) (os : List (List Nat)), Signs a → a.foldl parseStep ⟨rs ++ [r], os, true⟩ = ⟨rs ++ [runFold r a], os, true⟩
  | [], rs, r, os, _ => rfl
  | c :: a, rs, r, os, h => by
    have hc := h c List.mem_cons_self
    have ih := fold_in a rs (runStep r c) os fun d hd => h d (List.mem_cons_of_mem _ hd)
    have e : parseStep ⟨rs ++ [r], os, true⟩ c = ⟨rs ++ [runStep r c], os, true⟩ := by
      unfold parseStep
      rw [if_neg (by omega), if_pos rfl, updLast_snoc]
    show a.foldl parseStep (parseStep ⟨rs ++ [r], os, true⟩ c) = _
    rw [e, ih]
    rfl
/-- signs read outside -/
theorem fold_out (c : Nat) (a : List Nat) (rs : List Rn4) (os : List (List Nat)) (h : Signs (c :: a)) : (c :: a).foldl parseStep ⟨rs, os, false⟩ = ⟨rs ++ [runFold ([], 0) (c :: a)], os ++ [[]], true⟩ := by
  have hc := h c List.mem_cons_self
  have e : parseStep ⟨rs, os, false⟩ c = ⟨rs ++ [runStep ([], 0) c], os ++ [[]], true⟩ := by
    unfold parseStep
    rw [if_neg (by omega), if_neg Bool.false_ne_true]
  show a.foldl parseStep (parseStep ⟨rs, os, false⟩ c) = _
  rw [e, fold_in a rs _ _ fun d hd => h d (List.mem_cons_of_mem _ hd)]
  rfl
theorem run_up : ∀ (n : Nat) (r : Rn4), runFold r (Lx.up n) = (r.1, r.2 + (n : Int))
  | 0, r => by
    show r = _
    simp
  | n + 1, r => by
    rw [up_succ]
    show runFold (runStep r 94) (Lx.up n) = _
    rw [run_up n]
    unfold runStep
    rw [if_pos rfl]
    show (r.1, r.2 + 1 + (n : Int)) = (r.1, r.2 + ((n + 1 : Nat) : Int))
    congr 1
    omega
theorem run_sp : ∀ (rows : List Nat) (rest : Nat) (gs : List (Int × Int)), runFold (gs, 0) (spT rows rest) = ((rowP rows).foldl addTo gs, (rest : Int))
  | [], rest, gs => by
    show runFold (gs, 0) (Lx.up rest) = _
    rw [run_up]
    show (gs, (0 : Int) + (rest : Int)) = (gs, (rest : Int))
    rw [Int.zero_add]
  | j :: rows, rest, gs => by
    rw [spT_cons]
    unfold runFold
    rw [List.foldl_append]
    show (spT rows rest).foldl runStep (runStep (runFold (gs, 0) (Lx.up j)) 10) = _
    rw [run_up]
    have e : runStep (gs, (0 : Int) + (j : Int)) 10 = (addTo gs (1, (j : Int)), 0) := by
      unfold runStep
      rw [if_neg (by decide), Int.zero_add]
    rw [e]
    exact run_sp rows rest (addTo gs (1, (j : Int)))
theorem run_rp {a : List Nat} (h : Signs a) : runFold ([], 0) a = rpT a := by
  obtain ⟨rows, rest, rfl⟩ := spT_of a h
  rw [run_sp, rpT_spT]
  rfl
theorem parse_sep (s : PS4) {e : Nat} (he : Sep e) : parseStep s e = ⟨s.found, updLast (· ++ [e]) s.others, false⟩ := by
  unfold parseStep
  rw [if_pos ⟨fun z => he.1 z, fun z => he.2 z⟩]
/-- the runs found are the runs of the text -/
theorem parse_runs : ∀ (n : Nat) (l : List Nat) (rs : List Rn4) (os : List (List Nat)), l.length ≤ n → (l.foldl parseStep ⟨rs, os, false⟩).found = rs ++ runsT l := by
  have one : ∀ (a : List Nat) (rs : List Rn4) (os : List (List Nat)), Signs a → (a.foldl parseStep ⟨rs, os, false⟩).found = rs ++ ((if a = [] then [] else [a]).map rpT) := fun a rs os ha => by
    cases a with
    | nil => simp
    | cons c a =>
      rw [fold_out c a rs os ha, if_neg (by simp), run_rp ha]
      rfl
  intro n
  induction n with
  | zero =>
    intro l rs os hn
    obtain rfl := List.length_eq_zero_iff.mp (Nat.le_zero.mp hn)
    show rs = rs ++ []
    rw [List.append_nil]
  | succ n ih =>
    intro l rs os hn
    obtain ⟨a, ha, rfl | ⟨e, r, he, rfl, hr⟩⟩ := cut_text l
    · unfold runsT
      rw [pieces_last ha]
      exact one _ _ _ ha
    · rw [List.foldl_append]
      show (r.foldl parseStep (parseStep (a.foldl parseStep ⟨rs, os, false⟩) e)).found = _
      rw [parse_sep _ he, ih r _ _ (by omega), one a rs os ha]
      unfold runsT
      rw [pieces_cons ha he, List.map_append, List.append_assoc]
theorem parseT_runs (l : List Nat) : (parseT l).found = runsT l := by
  have := parse_runs _ l [] [[]] (Nat.le_refl _)
  rw [List.nil_append] at this
  exact this
/-! the text put together again -/
/-- a run spelt -/
def speltT (r : Rn4) : List Nat := (r.1.flatMap fun x => (List.replicate x.1.toNat (Lx.up x.2.toNat ++ [10])).flatten) ++ Lx.up r.2.toNat
theorem up_snoc : ∀ n : Nat, Lx.up (n + 1) = Lx.up n ++ [94]
  | 0 => rfl
  | n + 1 => by
    have := up_snoc n
    show 94 :: Lx.up (n + 1) = (94 :: Lx.up n) ++ [94]
    rw [this]
    rfl
/-- numbers that can be spelt -/
def GOk (r : Rn4) : Prop := (∀ x ∈ r.1, 1 ≤ x.1 ∧ 0 ≤ x.2) ∧ 0 ≤ r.2
theorem spelt_step {r : Rn4} (h : GOk r) {c : Nat} (hc : c = 94 ∨ c = 10) : speltT (runStep r c) = speltT r ++ [c] ∧ GOk (runStep r c) := by
  obtain ⟨gs, rest⟩ := r
  obtain ⟨h1, h2⟩ := h
  replace h2 : 0 ≤ rest := h2
  rcases hc with rfl | rfl
  · have e : runStep (gs, rest) 94 = (gs, rest + 1) := by unfold runStep; rw [if_pos rfl]
    rw [e]
    refine ⟨?_, h1, (by show 0 ≤ rest + 1; omega)⟩
    unfold speltT
    show _ ++ Lx.up (rest + 1).toNat = _ ++ Lx.up rest.toNat ++ [94]
    rw [show (rest + 1).toNat = rest.toNat + 1 by omega, up_snoc, List.append_assoc]
  · have e : runStep (gs, rest) 10 = (addTo gs (1, rest), 0) := by unfold runStep; rw [if_neg (by decide)]
    rw [e]
    have fin : ∀ gs : List (Int × Int), speltT (gs, 0) = gs.flatMap fun x => (List.replicate x.1.toNat (Lx.up x.2.toNat ++ [10])).flatten := fun gs => by
      unfold speltT
      show _ ++ [] = _
      rw [List.append_nil]
    rw [fin]
    rcases ends gs with rfl | ⟨b, y, rfl⟩
    · refine ⟨?_, fun x hx => ?_, Int.le_refl _⟩
      · show [((1 : Int), rest)].flatMap _ = speltT ([], rest) ++ [10]
        unfold speltT
        simp
      · have : x = (1, rest) := by simpa [addTo] using hx
        subst this
        exact ⟨Int.le_refl _, h2⟩
    · obtain ⟨y1, y2⟩ := h1 y (by simp)
      rw [addTo_end]
      by_cases hy : y.2 = rest
      · replace hy : y.2 = (1, rest).2 := hy
        rw [if_pos hy]
        refine ⟨?_, fun x hx => ?_, Int.le_refl _⟩
        · unfold speltT
          rw [List.flatMap_append, List.flatMap_append]
          show _ ++ ([(y.1 + 1, rest)].flatMap _) = (_ ++ ([y].flatMap _)) ++ Lx.up rest.toNat ++ [10]
          rw [List.flatMap_singleton, List.flatMap_singleton]
          show _ ++ (List.replicate (y.1 + 1).toNat (Lx.up rest.toNat ++ [10])).flatten = _
          rw [show (y.1 + 1).toNat = y.1.toNat + 1 by omega, List.replicate_succ', List.flatten_append, show y.2 = rest from hy]
          simp [List.append_assoc]
        · rcases List.mem_append.mp hx with h | h
          · exact h1 x (List.mem_append_left _ h)
          · rw [List.mem_singleton.mp h]
            exact ⟨(by show 1 ≤ y.1 + 1; omega), h2⟩
      · rw [if_neg (show ¬ y.2 = ((1 : Int), rest).2 from hy)]
        refine ⟨?_, fun x hx => ?_, Int.le_refl _⟩
        · unfold speltT
          rw [List.flatMap_append]
          show _ ++ ([((1 : Int), rest)].flatMap _) = _ ++ Lx.up rest.toNat ++ [10]
          rw [List.flatMap_singleton]
          simp [List.append_assoc]
        · rcases List.mem_append.mp hx with h | h
          · exact h1 x h
          · rw [List.mem_singleton.mp h]
            exact ⟨Int.le_refl _, h2⟩
def zipJ (os : List (List Nat)) (rs : List Rn4) : List Nat := (List.zipWith (fun o r => o ++ speltT r) os rs).flatten
theorem zipJ_snoc {os : List (List Nat)} {rs : List Rn4} (h : os.length = rs.length) (o : List Nat) (r : Rn4) : zipJ (os ++ [o]) (rs ++ [r]) = zipJ os rs ++ (o ++ speltT r) := by
  unfold zipJ
  rw [List.zipWith_append h, List.flatten_append]
  simp
/-- what has been read, put together -/
structure PJ (s : PS4) (pre : List Nat) : Prop where
  at_ : ∃ os' last, s.others = os' ++ [last] ∧ os'.length = s.found.length ∧ pre = zipJ os' s.found ++ last ∧ (s.inside = true → last = [] ∧ s.found ≠ [])
  ok : ∀ r ∈ s.found, GOk r
theorem parse_join {s : PS4} {pre : List Nat} (h : PJ s pre) (c : Nat) : PJ (parseStep s c) (pre ++ [c]) := by
  obtain ⟨⟨os', last, e1, e2, e3, e4⟩, ok⟩ := h
  obtain ⟨found, others, inside⟩ := s
  replace e1 : others = os' ++ [last] := e1
  replace e2 : os'.length = found.length := e2
  replace e3 : pre = zipJ os' found ++ last := e3
  subst e1 e3
  unfold parseStep
  by_cases hc : c ≠ 94 ∧ c ≠ 10
  · rw [if_pos hc]
    refine ⟨⟨os', last ++ [c], updLast_snoc _ _ _, e2, by rw [List.append_assoc], fun h => by cases h⟩, ok⟩
  · rw [if_neg hc]
    have hc2 : c = 94 ∨ c = 10 := by omega
    cases inside with
    | true =>
      obtain ⟨rfl, hne⟩ := e4 rfl
      rw [if_pos rfl]
      rcases ends found with h | ⟨rs, r, rfl⟩
      · exact absurd h hne
      · have hr := ok r (by simp)
        obtain ⟨s1, s2⟩ := spelt_step hr hc2
        rcases ends os' with h | ⟨os2, o, rfl⟩
        · rw [h] at e2
          simp at e2
        · rw [List.length_append, List.length_append] at e2
          have e2' : os2.length = rs.length := by simpa using e2
          refine ⟨⟨os2 ++ [o], [], rfl, by rw [updLast_snoc]; simp [e2'], ?_, fun _ => ⟨rfl, by rw [updLast_snoc]; simp⟩⟩, fun x hx => ?_⟩
          · show _ = zipJ (os2 ++ [o]) (updLast (fun r => runStep r c) (rs ++ [r])) ++ []
            rw [updLast_snoc, zipJ_snoc e2', zipJ_snoc e2', s1]
            simp [List.append_assoc]
          · have hx' : x ∈ updLast (fun r => runStep r c) (rs ++ [r]) := hx
            rw [updLast_snoc] at hx'
            rcases List.mem_append.mp hx' with h | h
            · exact ok x (List.mem_append_left _ h)
            · rw [List.mem_singleton.mp h]; exact s2
    | false =>
      rw [if_neg Bool.false_ne_true]
      have g0 : GOk (([], 0) : Rn4) := ⟨(fun x hx => by cases hx), Int.le_refl _⟩
      obtain ⟨s1, s2⟩ := spelt_step g0 hc2
      refine ⟨⟨os' ++ [last], [], rfl, by simp [e2], ?_, fun _ => ⟨rfl, by simp⟩⟩, fun x hx => ?_⟩
      · show _ = zipJ (os' ++ [last]) (found ++ [runStep ([], 0) c]) ++ []
        rw [zipJ_snoc e2, s1]
        show _ = zipJ os' found ++ (last ++ ([] ++ [c])) ++ []
        simp [List.append_assoc]
      · rcases List.mem_append.mp hx with h | h
        · exact ok x h
        · rw [List.mem_singleton.mp h]; exact s2
theorem parse0_join : PJ parse0 [] := ⟨⟨[], [], rfl, rfl, rfl, fun h => by cases h⟩, fun r hr => by cases hr⟩
theorem parse_all (l : List Nat) : PJ (parseT l) l := by
  have go : ∀ (l : List Nat) (s : PS4) (pre : List Nat), PJ s pre → PJ (l.foldl parseStep s) (pre ++ l) := fun l => by
    induction l with
    | nil => intro s pre h; rw [List.append_nil]; exact h
    | cons c l ih =>
      intro s pre h
      have := ih _ _ (parse_join h c)
      rw [List.append_assoc] at this
      exact this
  exact go l parse0 [] parse0_join
structure BD (s : PS4) (n : Nat) : Prop where
  f : s.found.length ≤ n
  o : s.others.length ≤ n + 1
  g : ∀ r ∈ s.found, r.1.length ≤ n
theorem updLast_len {α : Type} (f : α → α) (l : List α) : (updLast f l).length = l.length := by
  rcases ends l with rfl | ⟨a, x, rfl⟩
  · rfl
  · rw [updLast_snoc, List.length_append, List.length_append]; rfl
theorem runStep_len (r : Rn4) (c : Nat) : (runStep r c).1.length ≤ r.1.length + 1 := by
  unfold runStep
  split
  · show r.1.length ≤ _; omega
  · show (addTo r.1 (1, r.2)).length ≤ _
    rcases ends r.1 with h | ⟨b, y, h⟩
    · rw [h]; show 1 ≤ _; omega
    · rw [h, addTo_end]
      split <;> simp
theorem parse_bd {s : PS4} {n : Nat} (h : BD s n) (c : Nat) : BD (parseStep s c) (n + 1) := by
  obtain ⟨h1, h2, h3⟩ := h
  obtain ⟨found, others, inside⟩ := s
  replace h1 : found.length ≤ n := h1
  replace h2 : others.length ≤ n + 1 := h2
  replace h3 : ∀ r ∈ found, r.1.length ≤ n := h3
  unfold parseStep
  split
  · exact ⟨(by show found.length ≤ _; omega), by show (updLast _ others).length ≤ _; rw [updLast_len]; omega, fun r hr => by have := h3 r hr; omega⟩
  · cases inside with
    | true =>
      rw [if_pos rfl]
      refine ⟨by show (updLast _ found).length ≤ _; rw [updLast_len]; omega, by show others.length ≤ _; omega, fun r hr => ?_⟩
      have hr' : r ∈ updLast (fun r => runStep r c) found := hr
      rcases ends found with rfl | ⟨b, y, rfl⟩
      · cases hr'
      · rw [updLast_snoc] at hr'
        rcases List.mem_append.mp hr' with h | h
        · have := h3 r (List.mem_append_left _ h); omega
        · rw [List.mem_singleton.mp h]
          have := runStep_len y c
          have := h3 y (by simp)
          omega
    | false =>
      rw [if_neg Bool.false_ne_true]
      refine ⟨by show (found ++ [_]).length ≤ _; rw [List.length_append]; show found.length + 1 ≤ _; omega, by show (others ++ [[]]).length ≤ _; rw [List.length_append]; show others.length + 1 ≤ _; omega, fun r hr => ?_⟩
      rcases List.mem_append.mp hr with h | h
      · have := h3 r h; omega
      · rw [List.mem_singleton.mp h]
        have := runStep_len ([], 0) c
        exact Nat.le_trans this (by show 0 + 1 ≤ _; omega)
theorem parse_bdT (l : List Nat) : BD (parseT l) l.length := by
  have go : ∀ (l : List Nat) (s : PS4) (n : Nat), BD s n → BD (l.foldl parseStep s) (n + l.length) := fun l => by
    induction l with
    | nil => intro s n h; exact h
    | cons c l ih =>
      intro s n h
      have := ih _ _ (parse_bd h c)
      rw [List.length_cons, show n + (l.length + 1) = n + 1 + l.length by omega]
      exact this
  have := go l parse0 0 ⟨Nat.le_refl _, Nat.le_refl _, fun r hr => by cases hr⟩
  rw [Nat.zero_add] at this
  exact this
theorem last_len {l : List Nat} {os' : List (List Nat)} {last : List Nat} (h : (parseT l).others = os' ++ [last]) : last.length ≤ l.length := by
  obtain ⟨⟨os2, last2, e1, _, e3, _⟩, _⟩ := parse_all l
  rw [h] at e1
  obtain ⟨_, rfl⟩ := List.append_inj' e1 rfl |>.imp id List.singleton_inj.mp
  have := congrArg List.length e3
  rw [List.length_append] at this
  omega
end Lw
namespace Lw
open PySem PySem.Spec L2 Lx
theorem asgK {v : V} {g : TG} {D : Ends} {σ : St} {H : Hp} (h : g v σ H D.nx) : tAsg (tC v) g D σ H := h
theorem op_eqDK {X : Cx} {K : PySem.W.Frag} (hK : X.K = K) (hu : X.A.units + 64 < cLine) : OpR X (compareOp .Eq) (rEqD K) := by
  subst hK
  exact op_eqD hu
theorem op_neDK {X : Cx} {K : PySem.W.Frag} (hK : X.K = K) (hu : X.A.units + 64 < cLine) : OpR X (compareOp .NotEq) (rNeD K) := by
  subst hK
  exact op_neD hu
/-! ### a pool of draws: a list of three numbers -/
def PoolAt (H : Hp) (p : Addr) (n : Nat) : Prop := ∃ a m k : Int, H p = some (.lst [.int a, .int m, .int k]) ∧ 0 ≤ a ∧ 0 ≤ m ∧ m < 9223372036854775808 ∧ 0 ≤ k ∧ k ≤ n
theorem PoolAt.same {H H' : Hp} {p : Addr} {n : Nat} (s : Same H H') : PoolAt H p n → PoolAt H' p n := fun ⟨a, m, k, h, r⟩ => ⟨a, m, k, s _ _ h, r⟩
theorem PoolAt.mono {H : Hp} {p : Addr} {n m : Nat} (h : n ≤ m) : PoolAt H p n → PoolAt H p m := fun ⟨a, x, k, h1, h2, h3, h4, h5, h6⟩ => ⟨a, x, k, h1, h2, h3, h4, h5, by omega⟩
theorem PoolAt.ne {H : Hp} {p b : Addr} {n : Nat} (s : PoolAt H p n) (h : H b = none) : b ≠ p := by
  obtain ⟨_, _, _, q, _⟩ := s
  exact Ne.symm (ne_of_none q h)
theorem PoolAt.neT {H : Hp} {p b : Addr} {n : Nat} {xs : List V} (s : PoolAt H p n) (h : H b = some (.tup xs)) : b ≠ p := by
  obtain ⟨_, _, _, q, _⟩ := s
  exact ne_of h q (by intro z; cases z)
theorem PoolAt.own {H : Hp} {p b : Addr} {n : Nat} {o : HO} (s : PoolAt H p n) (ne : b ≠ p) : PoolAt (upd H b o) p n := by
  obtain ⟨a, m, k, h, r⟩ := s
  exact ⟨a, m, k, by rw [upd_ne (Ne.symm ne)]; exact h, r⟩
theorem Kd.put {d : Addr} {H : Hp} {o : HO} : Kd d H (upd H d o) := fun b u hb e => by rw [upd_ne hb]; exact e
theorem Kd.own {d b : Addr} {H H' : Hp} {o : HO} (k : Kd d H H') (h : H b = none) : Kd d H (upd H' b o) := fun c u hc e => by
  rw [upd_ne (ne_of_none e h)]
  exact k c u hc e
theorem Kd.freeP {d b : Addr} {H H' : Hp} {n : Nat} (k : Kd d H H') (s : PoolAt H' d n) (h : H' b = none) : H b = none := by
  cases e : H b with
  | none => rfl
  | some o =>
    have := k b o (s.ne h) e
    rw [h] at this
    cases this
theorem Prs.kd {K : PySem.W.Frag} {H H' : Hp} {d : Addr} {n : Nat} (s : PoolAt H d n) (k : Kd d H H') : ∀ {vs : List V} {gs : List (Int × Int)}, Prs K H vs gs → Prs K H' vs gs
  | _, _, .nil => .nil
  | _, _, .cons ⟨p, e, h⟩ t => .cons ⟨p, e, k _ _ (s.neT h) h⟩ (Prs.kd s k t)
theorem RnS.kd {K : PySem.W.Frag} {H H' : Hp} {v : V} {l d : Addr} {n : Nat} {g : List (Int × Int) × Int} (s : PoolAt H d n) (k : Kd d H H') (ne : l ≠ d) : RnS K H v l g → RnS K H' v l g :=
  fun ⟨p, xs, h1, h2, h3, h4⟩ => ⟨p, xs, h1, k _ _ (s.neT h2) h2, k _ _ ne h3, Prs.kd s k h4⟩
end Lw
/-! rules inside a comprehension: the linked program by its name -/
namespace Lx
open PySem PySem.Spec L2
theorem cr_sumK {X : Cx} {K : PySem.W.Frag} (hK : X.K = K) (hc : X.calm = true) : CallR X (.builtin "sum") (rSum K) := by
  subst hK
  exact cr_sum hc
theorem call_lenK {X : Cx} {K : PySem.W.Frag} (hK : X.K = K) : CallR X (.builtin "len") (fun xs H Q => ∃ p ys, xs = [.ref p] ∧ (SqL K H p ys ∨ SqT K H p ys) ∧ Q (.int ys.length) H) := by
  subst hK
  exact call_len_seq
theorem pi_listK {X : Cx} {K : PySem.W.Frag} {tg l : Expr} {tl : TE} (hK : X.K = K) (hl : PE X l tl) : PI X tg l (iList K tl) := by
  subst hK
  exact pi_list hl
theorem pg_tupK {X : Cx} {K : PySem.W.Frag} {es : List Expr} {k : Nat} {pos : Pos} {t : TGs} {n : Nat} (hK : X.K = K) (hc : X.calm = true) (h : PGs X es t)
    (hn : (assignEach es X.env).length = n := by rfl) (hst : (assignEach es X.env).findIdx? (·.1) = none := by rfl) : PG X (.Tuple es k pos) (gTup K n t) := by
  subst hK
  exact pg_tup hc h hn hst
theorem blk_any {N : List Str} {sc sc' scope : Scope} {own : List (Str × Nat)} (h : L2.BlkOk N sc scope own) (nf : ∀ y ∈ scope.names, y.2 ≠ .free) : L2.BlkOk N sc' scope own :=
  ⟨h.kind, h.uniq, h.ix, fun y hy e => absurd e (nf y hy), h.own⟩
end Lx
namespace Lw
open PySem PySem.Spec L2 Lx
theorem scMergedL : FnScope ["groups", "merged", "many", "j"] ["groups"] (defScope sMerged) := ⟨rfl, rfl, rfl, by decide +kernel, rfl, by decide +kernel, by decide +kernel⟩
def spMergedL (K : PySem.W.Frag) : Sp := fun vs H Q _ => ∃ l gs, vs = [.ref l] ∧ GsAt K H l gs ∧ gs.length ≤ 5000000 ∧ ∀ p H' xs, H p = none → Same H H' → H' p = some (.lst xs) → Prs K H' xs (merged gs) → Q (.ref p) H'
section
variable {P : Program} {w : World} {K : PySem.W.Frag} {mg : Str → Option Value} {base : Heap} {aL aN aS : Addr}
theorem ok_mergedL {f : Addr} {fd : FuncData} {k : Nat} (F : Fun K "merged_groups" "merged_groups" sMerged f fd) : FnOk P w K mg base CX0 (k + 1) f fd ["groups"] (spMergedL K) := by
  refine F.ok scMergedL (fun vs H Q E h => ?_) (fun cdv A outer s H vs Q E hr h => ?_)
  · obtain ⟨l, gs, rfl, _⟩ := h
    rfl
  · obtain ⟨l, gs, rfl, ⟨xs, hL, hP⟩, hlen, q⟩ := h
    refine ⟨_, pss_cons (ps_set (i := 1) scMergedL.nd rfl (.inl rfl) (pe_lst pa_nil))
      (pss_cons (ps_for PassesOwn.never rfl (pi_list (pv 0)) (pg_tup (by rfl) (pgs_cons (pg_name (i := 2) scMergedL.nd rfl (.inl rfl)) (pgs_cons (pg_name (i := 3) scMergedL.nd rfl (.inl rfl)) pgs_nil)))
        (pss_one (ps_if (PW.pt (pw_and (pt_truth (pv 1) (fun _ => rfl)) (pw_and1 (pt_cmpR op_eq (pe_ix ix_tup (pe_ix ix_list (pv 1) (pe_un un_neg pe_int) (fun _ _ => rfl)) pe_int (fun _ _ => rfl)) (pv 3) (nomark _)))))
          (pss_one (ps_asg (pe_tup (pa_cons (pe_op op_add (pe_ix ix_tup (pe_ix ix_list (pv 1) (pe_un un_neg pe_int) (fun _ _ => rfl)) pe_int (fun _ _ => rfl)) (pv 2)) (pa_cons (pv 3) pa_nil))) (pg_sub (pv 1) (pe_un un_neg pe_int) set_list)))
          (pss_one (ps_expr (pe_bm PySem.F.plainAttrs_list PySem.F.slot_list_append PySem.F.type_list_append mt_append (pv 1) (pa_cons (pe_tup (pa_cons (pv 2) (pa_cons (pv 3) pa_nil))) pa_nil)))))))
      (pss_one (ps_ret (pv 1)))), ?_⟩
    refine ⟨Nat.zero_le _, fun p np => ?_⟩
    refine ⟨_, rfl, l, rfl, ⟨_, (same_upd (o := .lst []) np).seq hL⟩, ?_⟩
    refine for_it (walk_list (xs := xs)) (fun i σ H' => Same H H' ∧ ∃ y2 y3 zs, σ = [some (.ref l), some (.ref p), y2, y3] ∧ H' p = some (.lst zs) ∧ Prs K H' zs (merged (gs.take i)) ∧ zs.length ≤ i)
      ⟨same_upd np, none, none, [], rfl, upd_same, .nil, Nat.le_refl _⟩ (fun i σ H' _ hQ => hQ.1.seq hL) ?_ ?_
    · rintro i u σ H1 H2 hi ⟨sm, y2, y3, zs, rfl, hp, hz, hzl⟩ ⟨rfl, hu⟩
      obtain ⟨x, hx, a, rfl, ha'⟩ := hP.get hu
      have ha : SqT K H a [.int x.1, .int x.2] := .inl (.inl ha')
      have htk : merged (gs.take (i + 1)) = addTo (Lx.merged (gs.take i)) x := by
        unfold Lx.merged
        rw [List.take_succ, hx, List.foldl_append]
        rfl
      have ha1 := sameT sm ha
      have hxl := hP.len
      refine ⟨a, _, rfl, ha1, rfl, _, _, rfl, _, _, rfl, rfl, ?_⟩
      refine ⟨_, rfl, !zs.isEmpty, .inl ⟨zs, .inl (.inl hp), rfl⟩, ?_⟩
      have app : ∀ t, H2 t = none → addTo (Lx.merged (gs.take i)) x = Lx.merged (gs.take i) ++ [x] →
          Same H (upd (upd H2 t (.tup [.int x.1, .int x.2])) p (.lst (zs ++ [.ref t]))) ∧ (upd (upd H2 t (.tup [.int x.1, .int x.2])) p (.lst (zs ++ [.ref t]))) p = some (.lst (zs ++ [.ref t])) ∧
          Prs K (upd (upd H2 t (.tup [.int x.1, .int x.2])) p (.lst (zs ++ [.ref t]))) (zs ++ [.ref t]) (merged (gs.take (i + 1))) ∧ (zs ++ [V.ref t]).length ≤ i + 1 := fun t nt e => by
        have s1 := same_upd (o := .tup [.int x.1, .int x.2]) nt
        refine ⟨Same.own (sm.trans s1) np, upd_same, ?_, by rw [List.length_append]; exact Nat.add_le_add_right hzl 1⟩
        rw [htk, e]
        exact Prs.lstUpd (s1 _ _ hp) ((hz.same s1).append (.cons ⟨t, rfl, upd_same⟩ .nil))
      rcases snoc_or (Lx.merged (gs.take i)) with e0 | ⟨as, y, e0⟩
      · have hz0 : zs = [] := by
          have := hz.len
          rw [e0] at this
          exact List.eq_nil_of_length_eq_zero this
        have app' := app
        subst hz0
        refine iteF (iteF ?_)
        refine ⟨_, rfl, .inl ⟨rfl, _, .inl (.inl hp)⟩, _, rfl, _, rfl, by show 2 ≤ sizeLine; decide, fun t nt => ?_⟩
        refine ⟨p, [], .ref t, rfl, rfl, same_upd nt _ _ hp, by rw [sizeLine_eq]; decide, ?_⟩
        obtain ⟨r1, r2, r3, r4⟩ := app t nt (by rw [e0]; rfl)
        exact ⟨r1, _, _, _, rfl, r2, r3, r4⟩
      · rw [e0] at hz
        obtain ⟨ws, v, rfl, hw, a2, rfl, ha2'⟩ := Prs.back hz
        have ha2 : SqT K H2 a2 [.int y.1, .int y.2] := .inl (.inl ha2')
        have hemp : (!(ws ++ [V.ref a2]).isEmpty) = true := by simp
        rw [hemp]
        refine iteT ?_
        refine ⟨_, rfl, 1, rfl, p, _, -1, _, rfl, rfl, .inl (.inl hp), atI_last ws (.ref a2), a2, _, 1, _, rfl, rfl, ha2, atI_nat (j := 1) rfl, _, rfl, rfl, _, rfl, ?_⟩
        by_cases ej : y.2 = x.2
        · rw [decide_eq_true (by rw [ej])]
          refine iteT ?_
          refine ⟨_, rfl, 1, rfl, p, _, -1, _, rfl, rfl, .inl (.inl hp), atI_last ws (.ref a2), a2, _, 0, _, rfl, rfl, ha2, atI_nat (j := 0) rfl, _, rfl, _, _, rfl, rfl, _, rfl, by show 2 ≤ sizeLine; decide, fun t nt => ?_⟩
          have s1 := same_upd (o := .tup [.int (y.1 + x.1), .int x.2]) nt
          refine ⟨_, rfl, 1, rfl, p, _, -1, _, rfl, rfl, s1 _ _ hp, ixN_last ws (.ref a2), ?_⟩
          have eset : (ws ++ [V.ref a2]).set ws.length (.ref t) = ws ++ [V.ref t] := by simp
          rw [eset]
          refine ⟨Same.own (sm.trans s1) np, _, _, ws ++ [.ref t], rfl, upd_same, ?_, ?_⟩
          · rw [htk, e0, addTo_snoc, if_pos ej]
            exact Prs.lstUpd (s1 _ _ hp) ((hw.same s1).append (.cons ⟨t, rfl, upd_same⟩ .nil))
          · simp only [List.length_append, List.length_cons, List.length_nil] at hzl ⊢
            omega
        · rw [decide_eq_false (fun z => ej (V.int.inj z))]
          refine iteF ?_
          refine ⟨_, rfl, .inl ⟨rfl, _, .inl (.inl hp)⟩, _, rfl, _, rfl, by show 2 ≤ sizeLine; decide, fun t nt => ?_⟩
          refine ⟨p, _, .ref t, rfl, rfl, same_upd nt _ _ hp, by rw [sizeLine_eq]; simp only [List.length_append, List.length_cons, List.length_nil] at hzl ⊢; have := hP.len; omega, ?_⟩
          obtain ⟨r1, r2, r3, r4⟩ := app t nt (by rw [e0, addTo_snoc, if_neg ej])
          exact ⟨r1, _, _, _, rfl, r2, r3, r4⟩
    · rintro σ H1 ⟨sm, y2, y3, zs, rfl, hp, hz, hzl⟩
      rw [List.take_of_length_le (by rw [← hP.len]; exact Nat.le_refl _)] at hz
      exact ⟨_, rfl, q p H1 zs np sm hp hz⟩
end
end Lw
namespace Lw
open PySem PySem.Spec L2 Lx
theorem scRop : FnScope ["piece", "parts", "returns"] ["piece"] (defScope sRunOfPiece) := ⟨rfl, rfl, rfl, by decide +kernel, rfl, by decide +kernel, by decide +kernel⟩
theorem scRso : FnScope ["text", "spaced", "piece", "sign"] ["text"] (defScope sRunsOf) := ⟨rfl, rfl, rfl, by decide +kernel, rfl, by decide +kernel, by decide +kernel⟩
def spRop (K : PySem.W.Frag) : Sp := fun vs H Q _ => ∃ (x : Str) (rows : List Nat) (rest : Nat), vs = [.str x] ∧ x.cps.toList = spT rows rest ∧ x.cps.size ≤ 1000000 ∧ ∀ v l H', Same H H' → H l = none → RnS K H' v l (rnT rows rest) → Q v H'
def spRso (K : PySem.W.Frag) : Sp := fun vs H Q _ => ∃ (x : Str), vs = [.str x] ∧ x.cps.size ≤ 1000000 ∧ ∀ p ws H', Same H H' → H p = none → H' p = some (.lst ws) → RnsD K H' p ws (runsT x.cps.toList) → Q (.ref p) H'
def upW (n : Nat) : Str := ⟨(up n).toArray⟩
theorem upW_len (n : Nat) : (upW n).length = n := by
  show (up n).toArray.size = n
  simp [up]
theorem pieces10 {x : Str} {rows : List Nat} {rest : Nat} (h : x.cps.toList = spT rows rest) : Txt.split x "\n" = rows.map upW ++ [upW rest] := by
  refine TL.map_tl_inj ?_
  rw [TL.split_spl x "\n" (by decide) (TL.kind_ok (by decide +kernel))]
  have e : TL.spl (TL.tl "\n") 0 [] (TL.tl x) = rows.map up ++ [up rest] := by
    show TL.spl [10] 0 [] x.cps.toList = _
    rw [h, spT_cut]
  rw [e, List.map_append, List.map_map]
  rfl
theorem cutV_back (ys : List V) (z : V) : cutV (ys ++ [z]) none (some (-1)) = ys := by
  unfold cutV HT.sIx
  rw [List.length_append, List.length_singleton]
  simp only [List.drop_zero, Nat.sub_zero]
  rw [if_pos (by decide)]
  have : ((-1 : Int) + ((ys.length + 1 : Nat) : Int)).toNat = ys.length := by omega
  rw [this, List.take_left]
def sgS (c : Nat) : Str := ⟨#[spc c]⟩
theorem join_sg (l : List Nat) : (Txt.join "" (l.map sgS)).cps.toList = l.map spc := by
  rw [TL.join_eq]
  refine (TL.tl_join "" (l.map sgS)).trans ?_
  show TL.joinL [] _ = _
  have jn : ∀ ps : List (List Nat), TL.joinL [] ps = ps.flatten := fun ps => by
    induction ps with
    | nil => rfl
    | cons a r ih =>
      cases r with
      | nil => show a = _; simp
      | cons b r =>
        show a ++ ([] ++ TL.joinL [] (b :: r)) = _
        rw [ih, List.nil_append]
        rfl
  rw [jn, List.map_map]
  induction l with
  | nil => rfl
  | cons c l ih =>
    rw [List.map_cons, List.flatten_cons, ih, List.map_cons]
    rfl
theorem sum_one (l : List Nat) : ((l.map sgS).map (·.length)).sum = l.length := by
  induction l with
  | nil => rfl
  | cons c l ih =>
    rw [List.map_cons, List.map_cons, List.sum_cons, ih, List.length_cons]
    show 1 + _ = _
    omega
structure RoF (mg : Str → Option Value) : Prop where
  len : mg "len" = none
section
variable {P : Program} {w : World} {K : PySem.W.Frag} {mg : Str → Option Value} {base : Heap}
theorem ok_rop {f aM : Addr} {fd dM : FuncData} {k : Nat} (F : Fun K "run_of_piece" "run_of_piece" sRunOfPiece f fd) (Z : RoF mg)
    (cM : Cl P w K mg base k "merged_groups" ["groups"] (spMergedL K) aM dM) : FnOk P w K mg base CX0 (k + 1) f fd ["piece"] (spRop K) := by
  refine F.ok scRop (fun vs H Q E h => ?_) (fun cdv A outer s H vs Q E hr h => ?_)
  · obtain ⟨x, rows, rest, rfl, _⟩ := h
    rfl
  · obtain ⟨x, rows, rest, rfl, hx, hl, q⟩ := h
    refine ⟨_, (pss_cons (ps_set (i := 1) scRop.nd rfl (.inl rfl) (pe_split (pv 0) pe_str))
      (pss_one (ps_ret (pe_tup (pa_cons (pe_call cM.G hr (by rfl) cM.g cM.kp cM.b .nil pass0 (pa_cons (pe_lc (own := [("returns", 2)]) (g := (gName 2)) (tt := tYes) rfl scRop.nd (pi_list (pe_slice sl_list (pv 1) po_none (po_some (pe_un un_neg pe_int)))) (blkOk_by (own := [("returns", 2)]) (N := ["piece", "parts", "returns"]) (sc := defScope sRunOfPiece) (by decide +kernel)) (fun _ _ _ _ _ => (pg_name (i := 2) scRop.nd rfl (.inl rfl))) (fun _ _ _ _ _ => pts_nil) (fun _ _ _ _ _ => (pe_tup (pa_cons pe_int (pa_cons (pe_callB call_len_str (by rfl) Z.len PySem.boot_len (pa_cons (pv 2) pa_nil)) pa_nil))))) pa_nil)) (pa_cons (pe_callB call_len_str (by rfl) Z.len PySem.boot_len (pa_cons (pe_ix ix_list (pv 1) (pe_un un_neg pe_int) (fun _ _ => rfl)) pa_nil)) pa_nil)))))), ?_⟩
    have hlen : (spT rows rest).length ≤ 1000000 := by rw [← hx, Array.length_toList]; exact hl
    obtain ⟨rl, rs, rn⟩ := @rows_small rows rest
    refine ⟨_, rfl, ⟨x, rfl⟩, x, "\n", rfl, rfl, rfl, ?_, fun p np => ?_⟩
    · show x.cps.size + 2 ≤ sizeLine
      rw [sizeLine_eq]
      omega
    rw [pieces10 hx]
    have s1 := same_upd (o := .lst ((rows.map upW ++ [upW rest]).map V.str)) np
    have hP : upd H p (.lst ((rows.map upW ++ [upW rest]).map V.str)) p = _ := upd_same
    generalize upd H p (.lst ((rows.map upW ++ [upW rest]).map V.str)) = H1 at s1 hP
    rw [List.map_append, List.map_map] at hP
    refine ⟨_, rfl, (1 : Int), rfl, (-1 : Int), rfl, p, _, rfl, .inl (.inl hP), fun p2 n2 => ?_⟩
    have ec : cutV (rows.map (V.str ∘ upW) ++ [upW rest].map V.str) none (some (-1)) = rows.map (V.str ∘ upW) := cutV_back _ _
    rw [ec]
    have s2 := same_upd (o := .lst (rows.map (V.str ∘ upW))) n2
    have hP2 : upd H1 p2 (.lst (rows.map (V.str ∘ upW))) p2 = _ := upd_same
    generalize upd H1 p2 (.lst (rows.map (V.str ∘ upW))) = H2 at s2 hP2
    refine ⟨p2, rfl, ⟨_, .inl (.inl hP2)⟩, fun D nD => ?_⟩
    refine lc_it (walk_list (xs := rows.map (V.str ∘ upW))) (fun j H' => Same H2 H' ∧ ∃ ws, H' D = some (.lst ws) ∧ Prs K H' ws ((rows.take j).map fun n : Nat => ((1 : Int), (n : Int)))) ⟨same_upd nD, [], upd_same, .nil⟩ (fun _ _ _ hQ => .inl (.inl (hQ.1 _ _ hP2))) ?_ ?_
    · rintro j u H3 H4 hj ⟨sm, ws, hD, hw⟩ ⟨rfl, hu⟩
      rw [List.length_map] at hj
      have hri : rows[j]? = some rows[j] := List.getElem?_eq_getElem hj
      rw [List.getElem?_map, hri] at hu
      cases Option.some.inj hu
      have hrn := rn _ (List.mem_of_getElem? hri)
      generalize rows[j] = r at hri hrn
      refine ⟨rfl, _, rfl, upW r, rfl, ?_⟩
      rw [upW_len]
      refine ⟨by rw [sizeLine_eq]; omega, by show 2 ≤ sizeLine; decide, fun t nt => ?_⟩
      have st := same_upd (o := .tup [.int 1, .int (r : Int)]) nt
      have hD2 := st _ _ hD
      refine ⟨ws, hD2, ?_, Same.own (sm.trans st) nD, ws ++ [.ref t], upd_same, ?_⟩
      · have := hw.len
        rw [List.length_map, List.length_take] at this
        rw [sizeLine_eq]
        omega
      · rw [List.take_succ, hri, List.map_append]
        exact Prs.lstUpd hD2 ((hw.same st).append (.cons ⟨t, rfl, upd_same⟩ .nil))
    · rintro H3 ⟨sm, ws, hD, hw⟩
      rw [List.length_map, List.take_length] at hw
      have hwl := hw.len
      rw [List.length_map] at hwl
      refine ⟨D, _, rfl, ⟨ws, .inl (.inl hD), hw⟩, by rw [List.length_map]; omega, fun p3 H4 xs n3 s4 h3 hx3 => ?_⟩
      have hP3 := s4 _ _ (sm _ _ (s2 _ _ hP))
      refine ⟨_, rfl, (1 : Int), rfl, p, _, (-1 : Int), V.str (upW rest), rfl, rfl, .inl (.inl hP3), atI_last _ _, upW rest, rfl, ?_, ?_⟩
      · rw [upW_len, sizeLine_eq]
        omega
      · rw [upW_len]
        refine ⟨by show 2 ≤ sizeLine; decide, fun t nt => ?_⟩
        have s5 := same_upd (o := .tup [.ref p3, .int rest]) nt
        have s14 := ((s1.trans s2).trans sm)
        exact q (.ref t) p3 _ ((s14.trans s4).trans s5) (s14.free n3) ⟨t, xs, rfl, upd_same, s5 _ _ h3, hx3.same s5⟩
theorem ok_rso {f aP : Addr} {fd dP : FuncData} {k : Nat} {tS : Tok} (F : Fun K "runs_of" "runs_of" sRunsOf f fd) (gS : mg "SIGNS" = some (.str "^\n" tS))
    (cP : Cl P w K mg base k "run_of_piece" ["piece"] (spRop K) aP dP) : FnOk P w K mg base CX0 (k + 1) f fd ["text"] (spRso K) := by
  refine F.ok scRso (fun vs H Q E h => ?_) (fun cdv A outer s H vs Q E hr h => ?_)
  · obtain ⟨x, rfl, _⟩ := h
    rfl
  · obtain ⟨x, rfl, hl, q⟩ := h
    have hxl : x.cps.toList.length = x.cps.size := Array.length_toList ..
    refine ⟨_, (pss_cons (ps_set (i := 1) scRso.nd rfl (.inl rfl) (pe_join pe_str (pe_lc (own := [("sign", 3)]) (g := (gName 3)) (tt := tYes) rfl scRso.nd (pi_str (pv 0)) (blkOk_by (own := [("sign", 3)]) (N := ["text", "spaced", "piece", "sign"]) (sc := defScope sRunsOf) (by decide +kernel)) (fun _ _ _ _ _ => (pg_name (i := 3) scRso.nd rfl (.inl rfl))) (fun _ _ _ _ _ => pts_nil) (fun _ _ _ _ _ => (pe_ifExp (pt_cmpR op_in_sign (pv 3) (pe_glob (v := .str "^\n") rfl gS ⟨_, rfl⟩) (by with_unfolding_all rfl)) (pv 3) pe_str)))))
      (pss_one (ps_ret (pe_lc (own := [("piece", 2)]) (g := (gName 2)) (tt := _) rfl scRso.nd (pi_list (pe_split (pv 1) pe_str)) (blkOk_by (own := [("piece", 2)]) (N := ["text", "spaced", "piece", "sign"]) (sc := defScope sRunsOf) (by decide +kernel)) (fun _ _ _ _ _ => (pg_name (i := 2) scRso.nd rfl (.inl rfl))) (fun _ _ _ _ _ => (pts_one (pt_truthK (K := K) rfl (pv 2) (fun _ => rfl)))) (fun _ _ _ _ _ => (pe_call cP.G hr (by rfl) cP.g cP.kp cP.b .nil pass0 (pa_cons (pv 2) pa_nil))))))), ?_⟩
    refine ⟨⟨"", rfl⟩, _, rfl, x, rfl, fun D nD => ?_⟩
    refine lc_it walk_str (fun j H' => Same H H' ∧ H' D = some (.lst (((x.cps.toList.take j).map sgS).map V.str))) ⟨same_upd nD, upd_same⟩ (fun _ _ _ _ => trivial) ?_ ?_
    · rintro j u H3 H4 hj ⟨sm, hD⟩ ⟨rfl, c, hc, rfl⟩
      have hcl : x.cps.toList[j]? = some c := by rw [Array.getElem?_toList]; exact hc
      have fin : ∀ y : Str, y = sgS c → ∃ acc, H4 D = some (.lst acc) ∧ acc.length < sizeLine ∧ (Same H (upd H4 D (.lst (acc ++ [.str y]))) ∧ upd H4 D (.lst (acc ++ [.str y])) D = some (.lst (((x.cps.toList.take (j + 1)).map sgS).map V.str))) := fun y hy => by
        subst hy
        refine ⟨_, hD, ?_, Same.own sm nD, ?_⟩
        · rw [List.length_map, List.length_map, List.length_take, sizeLine_eq]
          omega
        · rw [upd_same, List.take_succ, hcl, List.map_append, List.map_append]
          rfl
      have smem : c ∈ ("^\n" : Str).cps.toList ↔ c = 94 ∨ c = 10 := by
        show c ∈ ([94, 10] : List Nat) ↔ _
        simp
      refine ⟨rfl, _, rfl, c, "^\n", rfl, rfl, _, rfl, ite2 (fun hm => ?_) (fun hm => ?_)⟩
      · have hm2 := smem.mp (of_decide_eq_true hm)
        refine ⟨_, rfl, ?_⟩
        obtain ⟨acc, h1, h2, h3⟩ := fin ⟨#[c]⟩ (by unfold sgS spc; rw [if_pos hm2])
        exact ⟨acc, h1, h2, h3⟩
      · have hm2 : ¬ (c = 94 ∨ c = 10) := fun z => hm (decide_eq_true (smem.mpr z))
        obtain ⟨acc, h1, h2, h3⟩ := fin " " (by unfold sgS spc; rw [if_neg hm2]; rfl)
        exact ⟨acc, h1, h2, h3⟩
    · rintro H3 ⟨sm, hD⟩
      have e : x.cps.toList.take x.cps.size = x.cps.toList := List.take_of_length_le (by simp)
      rw [e] at hD
      refine ⟨"", D, _, rfl, rfl, .inl (.inl (.inl hD)), ?_, ?_⟩
      · rw [sum_one]
        show _ + _ * 0 ≤ _
        omega
      · have hjl := join_sg x.cps.toList
        generalize Txt.join "" (x.cps.toList.map sgS) = y at hjl
        have hyl : y.cps.size = x.cps.size := by rw [← hxl, ← Array.length_toList, hjl, List.length_map]
        -- the pieces
        refine ⟨_, rfl, ⟨y, rfl⟩, y, " ", rfl, rfl, rfl, ?_, fun p np => ?_⟩
        · show y.cps.size + 2 ≤ sizeLine
          rw [sizeLine_eq]
          omega
        have hps : (Txt.split y " ").map TL.tl = TL.spl [32] 0 [] (x.cps.toList.map spc) := by
          rw [TL.split_spl y " " (by decide) (TL.kind_ok (by decide +kernel))]
          show TL.spl [32] 0 [] y.cps.toList = _
          rw [hjl]
        have hpl : (Txt.split y " ").length ≤ x.cps.size + 1 := by
          have h1 := congrArg List.length hps
          rw [List.length_map] at h1
          have h2 := spl_len [32] (x.cps.toList.map spc) 0 []
          rw [List.length_map] at h2
          omega
        generalize Txt.split y " " = ps at hps hpl np
        have s1 := same_upd (o := .lst (ps.map V.str)) np
        have hP : upd H3 p (.lst (ps.map V.str)) p = _ := upd_same
        generalize upd H3 p (.lst (ps.map V.str)) = H4 at s1 hP
        refine ⟨p, rfl, ⟨_, .inl (.inl hP)⟩, fun D2 nD2 => ?_⟩
        have hpiece : ∀ z ∈ ps, z.cps.toList ≠ [] → z.cps.toList ∈ piecesT x.cps.toList := fun z hz hne => by
          have h1 : TL.tl z ∈ ps.map TL.tl := List.mem_map.mpr ⟨z, hz, rfl⟩
          rw [hps] at h1
          exact List.mem_filter.mpr ⟨h1, by
            cases e : z.cps.toList with
            | nil => exact absurd e hne
            | cons a r => rfl⟩
        have hruns : ∀ j, j ≤ ps.length → (((ps.take j).map TL.tl).filter fun p => !p.isEmpty).length ≤ j := fun j hj => by
          refine Nat.le_trans (List.length_filter_le _ _) ?_
          rw [List.length_map, List.length_take]
          omega
        refine lc_it (walk_list (xs := ps.map V.str)) (fun j H' => Same H4 H' ∧ ∃ ws, H' D2 = some (.lst ws) ∧ RnsD K H' D2 ws ((((ps.take j).map TL.tl).filter fun p => !p.isEmpty).map rpT)) ⟨same_upd nD2, [], upd_same, .nil⟩ (fun _ _ _ hQ => .inl (.inl (hQ.1 _ _ hP))) ?_ ?_
        · rintro j u H5 H6 hj ⟨sm2, ws, hD2, hw⟩ ⟨rfl, hu⟩
          rw [List.length_map] at hj
          have hri : ps[j]? = some ps[j] := List.getElem?_eq_getElem hj
          rw [List.getElem?_map, hri] at hu
          cases Option.some.inj hu
          have hzm := List.mem_of_getElem? hri
          have hrl := hruns j (by omega)
          have hwl := hw.len
          rw [List.length_map] at hwl
          generalize ps[j] = z at hri hzm
          have htk : ((ps.take (j + 1)).map TL.tl).filter (fun p => !p.isEmpty) = ((ps.take j).map TL.tl).filter (fun p => !p.isEmpty) ++ (if z.cps.toList = [] then [] else [z.cps.toList]) := by
            rw [List.take_succ, hri, List.map_append, List.filter_append]
            congr 1
            show List.filter _ [TL.tl z] = _
            by_cases hz : z.cps.toList = []
            · rw [if_pos hz]
              show List.filter _ [z.cps.toList] = _
              rw [hz]
              rfl
            · rw [if_neg hz]
              show List.filter _ [z.cps.toList] = _
              cases e : z.cps.toList with
              | nil => exact absurd e hz
              | cons a r => rfl
          rw [htk]
          have hzl : z.cps.toList.length = z.length := Array.length_toList ..
          by_cases hz : z.cps.toList = []
          · rw [if_pos hz, List.append_nil]
            have z0 : z.length = 0 := by rw [← hzl, hz]; rfl
            refine ⟨rfl, _, rfl, false, ⟨by omega, by rw [z0]; rfl⟩, ?_⟩
            exact iteF ⟨sm2, ws, hD2, hw⟩
          · rw [if_neg hz]
            obtain ⟨sg, _, hle⟩ := piece_ok _ x.cps.toList (Nat.le_refl _) _ (hpiece z hzm hz)
            have z1 : z.length ≠ 0 := fun e => hz (List.eq_nil_of_length_eq_zero (by omega))
            refine ⟨rfl, _, rfl, true, ⟨by rw [sizeLine_eq]; omega, ?_⟩, iteT ?_⟩
            · have : ((z.length : Int) != 0) = true := by
                rw [bne_iff_ne]
                omega
              exact this.symm
            · obtain ⟨rows, rest, er⟩ := spT_of _ sg
              refine ⟨_, rfl, z, rows, rest, rfl, er, by show z.length ≤ _; omega, fun v l H7 s7 nl hR => ?_⟩
              have hD7 := s7 _ _ hD2
              refine ⟨ws, hD7, by rw [sizeLine_eq]; omega, Same.own (sm2.trans s7) nD2, ws ++ [v], upd_same, ?_⟩
              rw [List.map_append]
              refine RnsD.lstUpd hD7 ((hw.same s7).append (.cons ⟨l, Ne.symm (ne_of_none hD2 nl), ?_⟩ .nil))
              rw [er, rpT_spT]
              exact hR
        · rintro H5 ⟨sm2, ws, hD2, hw⟩
          rw [List.length_map, List.take_length, hps] at hw
          have s05 := (sm.trans s1).trans sm2
          exact q D2 ws H5 s05 ((sm.trans s1).free nD2) hD2 hw
end
end Lw
namespace Lw
open PySem PySem.Spec L2 Lx
theorem scParse : FnScope ["line", "found", "others", "inside", "sign", "groups", "rest"] ["line"] (defScope sLParse) := ⟨rfl, rfl, rfl, by decide +kernel, rfl, by decide +kernel, by decide +kernel⟩
theorem pg_unlK {X : Cx} {K : PySem.W.Frag} {es : List Expr} {k : Nat} {pos : Pos} {t : TGs} {n : Nat} (hK : X.K = K) (hc : X.calm = true) (h : PGs X es t)
    (hn : (assignEach es X.env).length = n := by rfl) (hst : (assignEach es X.env).findIdx? (·.1) = none := by rfl) : PG X (.Tuple es k pos) (gUnl K n t) := by
  subst hK
  exact pg_unl hc h hn hst
theorem pd_nil4 (gs : List (Int × Int)) : PyData.eqv (.list (pd gs)) (.list []) = decide (gs = []) := by
  cases gs with
  | nil => rfl
  | cons g gs => rfl
/-- a run under way: a list of its groups and its rest; the groups' list is new since H0 -/
def FdE (K : PySem.W.Frag) (H0 H : Hp) (F O : Addr) (v : V) (r : Rn4) : Prop := ∃ q g ws, v = .ref q ∧ q ≠ F ∧ q ≠ O ∧ g ≠ F ∧ g ≠ O ∧ H0 g = none ∧ H q = some (.lst [.ref g, .int r.2]) ∧ H g = some (.lst ws) ∧ Prs K H ws r.1
inductive Fnd (K : PySem.W.Frag) (H0 H : Hp) (F O : Addr) : List V → List Rn4 → Prop
  | nil : Fnd K H0 H F O [] []
  | cons {v : V} {vs : List V} {r : Rn4} {rs : List Rn4} : FdE K H0 H F O v r → Fnd K H0 H F O vs rs → Fnd K H0 H F O (v :: vs) (r :: rs)
section
variable {K : PySem.W.Frag} {H0 H H' : Hp} {F O : Addr} {xs ys : List V}
theorem prs_keep2 (hF : H F = some (.lst xs)) (hO : H O = some (.lst ys)) (k : ∀ b o, b ≠ F → b ≠ O → H b = some o → H' b = some o) : ∀ {ws : List V} {gs : List (Int × Int)}, Prs K H ws gs → Prs K H' ws gs
  | _, _, .nil => .nil
  | _, _, .cons ⟨p, e, h⟩ t => .cons ⟨p, e, k _ _ (ne_of h hF (by intro z; cases z)) (ne_of h hO (by intro z; cases z)) h⟩ (prs_keep2 hF hO k t)
theorem FdE.keep (hF : H F = some (.lst xs)) (hO : H O = some (.lst ys)) (k : ∀ b o, b ≠ F → b ≠ O → H b = some o → H' b = some o) {v : V} {r : Rn4} : FdE K H0 H F O v r → FdE K H0 H' F O v r := fun ⟨q, g, ws, h1, h2, h3, h4, h5, h6, h7, h8, h9⟩ =>
  ⟨q, g, ws, h1, h2, h3, h4, h5, h6, k _ _ h2 h3 h7, k _ _ h4 h5 h8, prs_keep2 hF hO k h9⟩
theorem Fnd.keep (hF : H F = some (.lst xs)) (hO : H O = some (.lst ys)) (k : ∀ b o, b ≠ F → b ≠ O → H b = some o → H' b = some o) : ∀ {vs : List V} {rs : List Rn4}, Fnd K H0 H F O vs rs → Fnd K H0 H' F O vs rs
  | _, _, .nil => .nil
  | _, _, .cons h t => .cons (h.keep hF hO k) (Fnd.keep hF hO k t)
theorem Fnd.snoc {v : V} {r : Rn4} (h : FdE K H0 H F O v r) : ∀ {vs : List V} {rs : List Rn4}, Fnd K H0 H F O vs rs → Fnd K H0 H F O (vs ++ [v]) (rs ++ [r])
  | _, _, .nil => .cons h .nil
  | _, _, .cons a t => .cons a (Fnd.snoc h t)
theorem Fnd.len : ∀ {vs : List V} {rs : List Rn4}, Fnd K H0 H F O vs rs → vs.length = rs.length
  | _, _, .nil => rfl
  | _, _, .cons _ t => by rw [List.length_cons, List.length_cons, Fnd.len t]
theorem Fnd.back : ∀ {rs : List Rn4} {vs : List V} {r : Rn4}, Fnd K H0 H F O vs (rs ++ [r]) → ∃ us u, vs = us ++ [u] ∧ Fnd K H0 H F O us rs ∧ FdE K H0 H F O u r
  | [], _, r, .cons h .nil => ⟨[], _, rfl, .nil, h⟩
  | a :: rs, _, r, .cons h t => by
    obtain ⟨us, u, e, h1, h2⟩ := Fnd.back (rs := rs) t
    subst e
    exact ⟨_ :: us, u, rfl, .cons h h1, h2⟩
end
/-- where the reading stands -/
structure PA (K : PySem.W.Frag) (H0 H : Hp) (F O : Addr) (rs : List Rn4) (os : List (List Nat)) : Prop where
  f : ∃ vs, H F = some (.lst vs) ∧ Fnd K H0 H F O vs rs
  o : ∃ ols : List Str, H O = some (.lst (ols.map V.str)) ∧ ols.map (fun s => s.cps.toList) = os
  k : ∀ b o, b ≠ F → b ≠ O → H0 b = some o → H b = some o
section
variable {P : Program} {w : World} {K : PySem.W.Frag} {mg : Str → Option Value} {base : Heap}
def spParse (K : PySem.W.Frag) : Sp := fun vs H Q _ => ∃ x : Str, vs = [.str x] ∧ x.cps.size ≤ 2000 ∧ ∀ (pd pf po : Addr) (ws : List V) (ols : List Str) H', Same H H' → H pd = none → H pf = none → H po = none → H' pd = some (.lst [.ref pf, .ref po]) → H' pf = some (.lst ws) → RnsD K H' pf ws (runsT x.cps.toList) →
  H' po = some (.lst (ols.map V.str)) → ols.map (fun s => s.cps.toList) = (parseT x.cps.toList).others → Q (.ref pd) H'
theorem ok_parse {f : Addr} {fd : FuncData} {k : Nat} (F : Fun K "_law_parse" "_law_parse" sLParse f fd) : FnOk P w K mg base CX0 (k + 1) f fd ["line"] (spParse K) := by
  refine F.ok scParse (fun vs H Q E h => ?_) (fun cdv A outer s H vs Q E hr h => ?_)
  · obtain ⟨x, rfl, _⟩ := h
    rfl
  · obtain ⟨x, rfl, hx, q⟩ := h
    refine ⟨_, (pss_cons (ps_par3 (i := 1) (j := 2) (l := 3) rfl scParse.nd rfl rfl rfl (by decide) (by decide) (by decide) rfl rfl rfl (pa_cons (pe_lst pa_nil) (pa_cons (pe_lst (pa_cons pe_str pa_nil)) (pa_cons pe_bl pa_nil))) rfl)
      (pss_cons (ps_for PassesOwn.never rfl (pi_str (pv 0)) (pg_name (i := 4) scParse.nd rfl (.inl rfl))
          (pss_one (ps_if (pt_cmpR op_notIn_sign (pv 4) pe_str (by with_unfolding_all rfl))
              (pss_cons (ps_asg (pe_op op_add_str (pe_ix ix_list (pv 2) (pe_un un_neg pe_int) (fun _ _ => rfl)) (pv 4)) (pg_sub (pv 2) (pe_un un_neg pe_int) set_list))
              (pss_one (ps_set (i := 3) scParse.nd rfl (.inl rfl) pe_bl)))
              (pss_cons (ps_if (pt_not (pt_val (pv 3)))
                  (pss_cons (ps_expr (pe_bm PySem.F.plainAttrs_list PySem.F.slot_list_append PySem.F.type_list_append mt_append (pv 1) (pa_cons (pe_lst (pa_cons (pe_lst pa_nil) (pa_cons pe_int pa_nil))) pa_nil)))
                  (pss_one (ps_expr (pe_bm PySem.F.plainAttrs_list PySem.F.slot_list_append PySem.F.type_list_append mt_append (pv 2) (pa_cons pe_str pa_nil))))) pss_nil)
              (pss_cons (ps_set (i := 3) scParse.nd rfl (.inl rfl) pe_bl)
              (pss_cons (ps_asg (pe_ix ix_list (pv 1) (pe_un un_neg pe_int) (fun _ _ => rfl)) (pg_unl (by rfl) (pgs_cons (pg_name (i := 5) scParse.nd rfl (.inl rfl)) (pgs_cons (pg_name (i := 6) scParse.nd rfl (.inl rfl)) pgs_nil))))
              (pss_one (ps_if (pt_cmpR op_eq (pv 4) pe_str (nomark _))
                  (pss_one (ps_asg (pe_lst (pa_cons (pv 5) (pa_cons (pe_op op_add (pv 6) pe_int) pa_nil))) (pg_sub (pv 1) (pe_un un_neg pe_int) set_list)))
                  (pss_one (ps_if (PW.pt (pw_and (pt_cmpR (op_neD hr.units) (pv 5) (pe_lst pa_nil) (nomark _)) (pw_and1 (pt_cmpR op_eq (pe_ix ix_tup (pe_ix ix_list (pv 5) (pe_un un_neg pe_int) (fun _ _ => rfl)) pe_int (fun _ _ => rfl)) (pv 6) (nomark _)))))
                      (pss_one (ps_asg (pe_lst (pa_cons (pe_op op_cat (pe_slice sl_list (pv 5) po_none (po_some (pe_un un_neg pe_int))) (pe_lst (pa_cons (pe_tup (pa_cons (pe_op op_add (pe_ix ix_tup (pe_ix ix_list (pv 5) (pe_un un_neg pe_int) (fun _ _ => rfl)) pe_int (fun _ _ => rfl)) pe_int) (pa_cons (pv 6) pa_nil))) pa_nil))) (pa_cons pe_int pa_nil))) (pg_sub (pv 1) (pe_un un_neg pe_int) set_list)))
                      (pss_one (ps_asg (pe_lst (pa_cons (pe_op op_cat (pv 5) (pe_lst (pa_cons (pe_tup (pa_cons pe_int (pa_cons (pv 6) pa_nil))) pa_nil))) (pa_cons pe_int pa_nil))) (pg_sub (pv 1) (pe_un un_neg pe_int) set_list)))))))))))))
      (pss_one (ps_ret (pe_lst (pa_cons (pe_lc (own := [("groups", 5), ("rest", 6)]) (g := (gUnl K 2 (gCons (gName 5) (gCons (gName 6) gNil)))) (tt := tYes) rfl scParse.nd (pi_list (pv 1)) (blkOk_by (own := [("groups", 5), ("rest", 6)]) (N := ["line", "found", "others", "inside", "sign", "groups", "rest"]) (sc := defScope sLParse) (by decide +kernel)) (fun _ _ _ _ _ => (pg_unlK (K := K) rfl (by rfl) (pgs_cons (pg_name (i := 5) scParse.nd rfl (.inl rfl)) (pgs_cons (pg_name (i := 6) scParse.nd rfl (.inl rfl)) pgs_nil)))) (fun _ _ _ _ _ => pts_nil) (fun _ _ _ _ _ => (pe_tup (pa_cons (pv 5) (pa_cons (pv 6) pa_nil))))) (pa_cons (pv 2) pa_nil))))))), ?_⟩
    refine ⟨by show 0 ≤ sizeLine; omega, fun aF nF => ⟨by show 1 ≤ sizeLine; decide, fun aO nO => ⟨_, _, _, rfl, ?_⟩⟩⟩
    have dFO : aF ≠ aO := (ne_of_none upd_same nO)
    have nO' : H aO = none := by rw [upd_ne dFO.symm] at nO; exact nO
    have s1 : Same H (upd (upd H aF (.lst [])) aO (.lst [.str ""])) := (same_upd nF).trans (same_upd nO)
    have P0 : PA K H (upd (upd H aF (.lst [])) aO (.lst [.str ""])) aF aO [] [[]] := ⟨⟨[], by rw [upd_ne dFO]; exact upd_same, .nil⟩, ⟨[""], upd_same, rfl⟩, fun b o _ _ h => s1 _ _ h⟩
    revert P0
    generalize upd (upd H aF (.lst [])) aO (.lst [.str ""]) = H1
    intro P0
    clear nO s1
    dsimp only [gName, tNext, tSeq]
    refine ⟨_, rfl, x, rfl, ?_⟩
    refine for_it walk_str (fun i σ H' => ∃ y4 y5 y6, σ = [some (.str x), some (.ref aF), some (.ref aO), some (.bl ((x.cps.toList.take i).foldl parseStep parse0).inside), y4, y5, y6] ∧ PA K H H' aF aO ((x.cps.toList.take i).foldl parseStep parse0).found ((x.cps.toList.take i).foldl parseStep parse0).others)
      ⟨none, none, none, rfl, P0⟩ (fun _ _ _ _ _ => trivial) ?_ ?_
    · rintro i u σ H2 H3 hi ⟨y4, y5, y6, rfl, PA2⟩ ⟨rfl, c, hc, rfl⟩
      have htk : (x.cps.toList.take (i + 1)).foldl parseStep parse0 = parseStep ((x.cps.toList.take i).foldl parseStep parse0) c := by
        have : x.cps.toList[i]? = some c := by rw [Array.getElem?_toList]; exact hc
        rw [List.take_succ, this, List.foldl_append]
        rfl
      have hJ := parse_all (x.cps.toList.take i)
      have hB := parse_bdT (x.cps.toList.take i)
      have hll : (x.cps.toList.take i).length ≤ 2000 := by
        rw [List.length_take, Array.length_toList]
        omega
      unfold parseT at hJ hB
      rw [htk]
      generalize (x.cps.toList.take i).foldl parseStep parse0 = st at PA2 hJ hB
      generalize (x.cps.toList.take i).length = pl at hB hll
      obtain ⟨⟨os', last, e1, e2, e3, e4⟩, hok⟩ := hJ
      have hlast : last.length ≤ 2000 := by
        have h1 := congrArg List.length e3
        rw [List.length_append, List.length_take, Array.length_toList] at h1
        omega
      clear e3 htk
      obtain ⟨rs, os, ins⟩ := st
      replace e1 : os = os' ++ [last] := e1
      replace e2 : os'.length = rs.length := e2
      replace e4 : ins = true → last = [] ∧ rs ≠ [] := e4
      replace hok : ∀ r ∈ rs, GOk r := hok
      obtain ⟨⟨vs, hF, hvs⟩, ⟨ols, hO, hols⟩, kk⟩ := PA2
      replace hvs : Fnd K H H3 aF aO vs rs := hvs
      replace hols : ols.map (fun s => s.cps.toList) = os := hols
      subst e1
      obtain ⟨oi, ol, rfl⟩ : ∃ oi ol, ols = oi ++ [ol] := by
        rcases ends ols with h | h
        · rw [h] at hols
          cases os' <;> cases hols
        · exact h
      rw [List.map_append] at hols
      obtain ⟨ho1, ho2⟩ := List.append_inj' hols rfl
      replace ho2 : ol.cps.toList = last := (List.cons.inj ho2).1
      have hmapo : (oi ++ [ol]).map V.str = oi.map V.str ++ [.str ol] := by rw [List.map_append]; rfl
      have holen : oi.length ≤ 2001 := by
        have h1 := congrArg List.length ho1
        rw [List.length_map] at h1
        have := hB.f
        replace this : rs.length ≤ pl := this
        omega
      have hols2 : ol.cps.size ≤ 2000 := by rw [← Array.length_toList, ho2]; exact hlast
      dsimp only [gName, tNext, tSeq]
      refine ⟨_, rfl, c, "^\n", rfl, rfl, _, rfl, ?_⟩
      have hcm : (c ∈ ("^\n" : Str).cps.toList) ↔ (c = 94 ∨ c = 10) := by
        show c ∈ ([94, 10] : List Nat) ↔ _
        simp
      by_cases hc2 : c = 94 ∨ c = 10
      · rw [decide_eq_true (hcm.mpr hc2)]
        refine iteF ?_
        dsimp only [gName, tNext, tSeq]
        have hvl := hvs.len
        have hrl : rs.length ≤ 2000 := by
          have : rs.length ≤ pl := hB.f
          omega
        have hgl : ∀ r ∈ rs, r.1.length ≤ 2000 := fun r hr => by
          have : r.1.length ≤ pl := hB.g r hr
          omega
        refine if_fin (fun σ H1 => ∃ (rs1 : List Rn4) (r : Rn4) (os1 : List (List Nat)) (vs2 : List V) (ols2 : List Str), σ = [some (.str x), some (.ref aF), some (.ref aO), some (.bl ins), some (.str ⟨#[c]⟩), y5, y6] ∧ H1 aF = some (.lst vs2) ∧ Fnd K H H1 aF aO vs2 (rs1 ++ [r]) ∧ H1 aO = some (.lst (ols2.map V.str)) ∧ ols2.map (fun s => s.cps.toList) = os1 ∧ (∀ b o, b ≠ aF → b ≠ aO → H b = some o → H1 b = some o) ∧ r.1.length ≤ 2000 ∧ rs1.length ≤ 2000 ∧ parseStep ⟨rs, os' ++ [last], ins⟩ c = ⟨rs1 ++ [runStep r c], os1, true⟩) (fun J hJ => ?_) ?_
        · cases ins with
          | true =>
            obtain ⟨-, hne⟩ := e4 rfl
            rcases ends rs with h | ⟨rs1, r, rfl⟩
            · exact absurd h hne
            · refine ⟨_, rfl, true, rfl, iteF (hJ _ _ ⟨rs1, r, os' ++ [last], vs, oi ++ [ol], rfl, hF, hvs, hO, by rw [List.map_append, ho1]; show _ ++ [ol.cps.toList] = _; rw [ho2], kk, hgl r (by simp), by rw [List.length_append] at hrl; omega, ?_⟩)⟩
              unfold parseStep
              rw [if_neg (by omega), if_pos rfl, updLast_snoc]
          | false =>
            refine ⟨_, rfl, false, rfl, iteT ?_⟩
            dsimp only [gName, tNext, tSeq]
            refine ⟨_, rfl, .inl ⟨rfl, _, .inl (.inl hF)⟩, by show 0 ≤ sizeLine; omega, fun g ng => ⟨by show 2 ≤ sizeLine; decide, fun q0 nq => ?_⟩⟩
            have g1 : aF ≠ g := ne_of_none hF ng
            have g2 : aO ≠ g := ne_of_none hO ng
            have nq' : H3 q0 = none := by
              by_cases h : q0 = g
              · rw [h]; exact ng
              · rw [upd_ne h] at nq; exact nq
            have q1 : aF ≠ q0 := ne_of_none hF nq'
            have q2 : aO ≠ q0 := ne_of_none hO nq'
            have qg : g ≠ q0 := ne_of_none upd_same nq
            refine ⟨aF, vs, .ref q0, rfl, rfl, by rw [upd_ne q1, upd_ne g1]; exact hF, by rw [hvl, sizeLine_eq]; omega, ?_⟩
            have hO4 : upd (upd (upd H3 g (.lst [])) q0 (.lst [.ref g, .int 0])) aF (.lst (vs ++ [.ref q0])) aO = some (.lst ((oi ++ [ol]).map V.str)) := by rw [upd_ne dFO.symm, upd_ne q2, upd_ne g2]; exact hO
            refine ⟨_, rfl, .inl ⟨rfl, _, .inl (.inl hO4)⟩, aO, _, .str "", rfl, rfl, hO4, by rw [List.length_map, List.length_append, List.length_singleton, sizeLine_eq]; omega, hJ _ _ ⟨rs, ([], 0), (os' ++ [last]) ++ [[]], vs ++ [.ref q0], (oi ++ [ol]) ++ [("" : Str)], rfl, by rw [upd_ne dFO]; exact upd_same, ?_, by rw [upd_same]; simp only [List.map_append, List.map_cons, List.map_nil], by rw [List.map_append, List.map_append, ho1]; show (os' ++ [ol.cps.toList]) ++ [[]] = _; rw [ho2], ?_, Nat.zero_le _, hrl, ?_⟩⟩
            · have kA : ∀ b o, b ≠ aF → b ≠ aO → H3 b = some o → upd (upd (upd (upd H3 g (.lst [])) q0 (.lst [.ref g, .int 0])) aF (.lst (vs ++ [.ref q0]))) aO (.lst (((oi ++ [ol]).map V.str) ++ [.str ""])) b = some o := fun b o h1 h2 h => by
                rw [upd_ne h2, upd_ne h1, upd_ne (ne_of_none h nq'), upd_ne (ne_of_none h ng)]
                exact h
              refine Fnd.snoc ⟨q0, g, [], rfl, q1.symm, q2.symm, g1.symm, g2.symm, ?_, ?_, ?_, .nil⟩ (hvs.keep hF hO kA)
              · cases e : H g with
                | none => rfl
                | some o =>
                  have := kk g o g1.symm g2.symm e
                  rw [ng] at this; cases this
              · rw [upd_ne q2.symm, upd_ne q1.symm]
                exact upd_same
              · rw [upd_ne g2.symm, upd_ne g1.symm, upd_ne qg]
                exact upd_same
            · intro b o h1 h2 h
              have h3 := kk b o h1 h2 h
              rw [upd_ne h2, upd_ne h1, upd_ne (ne_of_none h3 nq'), upd_ne (ne_of_none h3 ng)]
              exact h3
            · unfold parseStep
              rw [if_neg (by omega), if_neg Bool.false_ne_true]
        · rintro σ H4 ⟨rs1, r, os1, vs2, ols2, rfl, hF4, hvs4, hO4, hols4, kk4, hrg, hrl4, est⟩
          rw [est]
          clear hvs hols hF hO kk e4 ho1 ho2 hmapo est hok
          obtain ⟨us, uq, rfl, hus, q1, g1, ws1, rfl, q1F, q1O, g1F, g1O, g1n, hq1, hg1, hw1⟩ := Fnd.back hvs4
          have ful := hus.len
          dsimp only [gName, tNext, tSeq]
          have upN : ∀ (q2 g2 : Addr) (ws2 : List V) (H5 : Hp) (y5 y6 : Option V), (∀ b o, b ≠ aF → b ≠ aO → H4 b = some o → H5 b = some o) → H5 aF = some (.lst (us ++ [.ref q1])) → H5 aO = some (.lst (ols2.map V.str)) → q2 ≠ aF → q2 ≠ aO → g2 ≠ aF → g2 ≠ aO → H g2 = none →
              H5 q2 = some (.lst [.ref g2, .int (runStep r c).2]) → H5 g2 = some (.lst ws2) → Prs K H5 ws2 (runStep r c).1 →
              ∃ y4 y5' y6', [some (V.str x), some (.ref aF), some (.ref aO), some (.bl true), some (.str ⟨#[c]⟩), y5, y6] = [some (V.str x), some (.ref aF), some (.ref aO), some (.bl true), y4, y5', y6'] ∧ PA K H (upd H5 aF (.lst ((us ++ [V.ref q1]).set us.length (.ref q2)))) aF aO (rs1 ++ [runStep r c]) os1 := fun q2 g2 ws2 H5 y5 y6 k5 hF5 hO5 n1 n2 n3 n4 hgn hq2 hg2 hw2 => by
            have es : (us ++ [V.ref q1]).set us.length (.ref q2) = us ++ [.ref q2] := by simp
            rw [es]
            have kf : ∀ b o, b ≠ aF → b ≠ aO → H5 b = some o → upd H5 aF (.lst (us ++ [.ref q2])) b = some o := fun b o h1 _ h => by rw [upd_ne h1]; exact h
            refine ⟨_, _, _, rfl, ⟨⟨us ++ [.ref q2], upd_same, Fnd.snoc ⟨q2, g2, ws2, rfl, n1, n2, n3, n4, hgn, kf _ _ n1 n2 hq2, kf _ _ n3 n4 hg2, prs_keep2 hF5 hO5 kf hw2⟩ ((hus.keep hF4 hO4 k5).keep hF5 hO5 kf)⟩, ⟨ols2, by rw [upd_ne dFO.symm]; exact hO5, hols4⟩, fun b o h1 h2 h => kf _ _ h1 h2 (k5 _ _ h1 h2 (kk4 b o h1 h2 h))⟩⟩
          refine ⟨_, rfl, 1, rfl, aF, _, (-1 : Int), .ref q1, rfl, rfl, .inl (.inl hF4), atI_last _ _, q1, _, rfl, .inl (.inl hq1), rfl, _, _, rfl, _, _, rfl, rfl, ?_⟩
          dsimp only [gName, tNext, tSeq]
          refine ⟨_, rfl, rfl, _, rfl, ?_⟩
          by_cases h94 : c = 94
          · subst h94
            rw [decide_eq_true (show V.str ⟨#[94]⟩ = V.str "^" from rfl)]
            refine iteT ?_
            have e5 : runStep r 94 = (r.1, r.2 + 1) := by unfold runStep; rw [if_pos rfl]
            refine ⟨_, rfl, _, rfl, _, _, rfl, rfl, by show 2 ≤ sizeLine; decide, fun q2 nq2 => ?_⟩
            have s5 := same_upd (o := .lst [.ref g1, .int (r.2 + 1)]) nq2
            refine ⟨_, rfl, 1, rfl, aF, _, (-1 : Int), _, rfl, rfl, s5 _ _ hF4, ixN_last _ _, ?_⟩
            exact upN q2 g1 ws1 _ _ _ (fun b o _ _ h => s5 b o h) (s5 _ _ hF4) (s5 _ _ hO4) (ne_of_none hF4 nq2).symm (ne_of_none hO4 nq2).symm g1F g1O g1n (by rw [e5]; exact upd_same) (s5 _ _ hg1) (by rw [e5]; exact hw1.same s5)
          · rw [decide_eq_false (fun h => h94 (by
              have := V.str.inj h
              have h2 := congrArg (fun s : Str => s.cps.toList) this
              exact (List.cons.inj h2).1))]
            refine iteF ?_
            have hfree : ∀ (Hx : Hp) (b : Addr), Same H4 Hx → Hx b = none → b ≠ aF → b ≠ aO → H b = none := fun Hx b s hb n1 n2 => by
              cases e : H b with
              | none => rfl
              | some o =>
                have := s _ _ (kk4 b o n1 n2 e)
                rw [hb] at this; cases this
            /- the new groups at lc, then the new pair -/
            have fin : ∀ (Hc : Hp) (lc q2 : Addr) (wsn : List V) (y5 y6 : Option V), Same H4 Hc → Hc lc = none → upd Hc lc (.lst wsn) q2 = none → Prs K (upd (upd Hc lc (.lst wsn)) q2 (.lst [.ref lc, .int 0])) wsn (addTo r.1 (1, r.2)) →
                ∃ y4 y5' y6', [some (V.str x), some (.ref aF), some (.ref aO), some (.bl true), some (.str ⟨#[c]⟩), y5, y6] = [some (V.str x), some (.ref aF), some (.ref aO), some (.bl true), y4, y5', y6'] ∧ PA K H (upd (upd (upd Hc lc (.lst wsn)) q2 (.lst [.ref lc, .int 0])) aF (.lst ((us ++ [V.ref q1]).set us.length (.ref q2)))) aF aO (rs1 ++ [runStep r c]) os1 := fun Hc lc q2 wsn y5 y6 sc nlc nq2 hw2 => by
              have e5 : runStep r c = (addTo r.1 (1, r.2), 0) := by unfold runStep; rw [if_neg h94]
              have sd : Same H4 (upd Hc lc (.lst wsn)) := sc.trans (same_upd nlc)
              have se : Same H4 (upd (upd Hc lc (.lst wsn)) q2 (.lst [.ref lc, .int 0])) := sd.trans (same_upd nq2)
              have c1 : lc ≠ aF := (ne_of_none (sc _ _ hF4) nlc).symm
              have c2 : lc ≠ aO := (ne_of_none (sc _ _ hO4) nlc).symm
              exact upN q2 lc wsn _ y5 y6 (fun b o _ _ h => se b o h) (se _ _ hF4) (se _ _ hO4) (ne_of_none (sd _ _ hF4) nq2).symm (ne_of_none (sd _ _ hO4) nq2).symm c1 c2 (hfree _ _ sc nlc c1 c2) (by rw [e5]; exact upd_same) (by rw [upd_ne (ne_of_none upd_same nq2)]; exact upd_same) (by rw [e5]; exact hw2)
            have e5 : runStep r c = (addTo r.1 (1, r.2), 0) := by unfold runStep; rw [if_neg h94]
            refine ⟨_, rfl, by show 0 ≤ sizeLine; omega, fun ln nln => ?_⟩
            have s5 := same_upd (o := .lst []) nln
            refine ⟨.list (pd r.1), .list [], (Dq.lst (s5 _ _ hg1) (Prs.dq (hw1.same s5))).dp, (Dq.lst upd_same .nil).dp, pd_shaped _, by decide, _, rfl, ?_⟩
            rw [pd_nil4]
            revert s5
            generalize upd H4 ln (.lst []) = H5
            intro s5
            have hF5 := s5 _ _ hF4
            have hO5 := s5 _ _ hO4
            have hg5 := s5 _ _ hg1
            have hw5 := hw1.same s5
            have hwl := hw1.len
            rcases ends r.1 with e1 | ⟨gi, y, e1⟩
            · rw [e1, decide_eq_true rfl]
              refine iteF (iteF ?_)
              rw [e1] at hw5 hwl
              obtain rfl : ws1 = [] := List.eq_nil_of_length_eq_zero hwl
              refine ⟨_, rfl, _, rfl, by show 2 ≤ sizeLine; decide, fun t nt => ⟨by show 1 ≤ sizeLine; decide, fun lb nlb => ?_⟩⟩
              have sL := same_upd (o := .lst [.ref t]) nlb
              have s6 := s5.trans ((same_upd (o := .tup [.int 1, .int r.2]) nt).trans sL)
              refine ⟨g1, lb, [], [.ref t], rfl, rfl, s6 _ _ hg1, upd_same, by show 0 + 1 ≤ sizeLine; rw [sizeLine_eq]; decide, fun lc nlc => ⟨by show 2 ≤ sizeLine; decide, fun q2 nq2 => ?_⟩⟩
              have s7 := (sL.trans (same_upd (o := .lst ([] ++ [V.ref t])) nlc)).trans (same_upd (o := .lst [.ref lc, .int 0]) nq2)
              refine ⟨_, rfl, 1, rfl, aF, _, (-1 : Int), _, rfl, rfl, (s6.trans ((same_upd (o := .lst ([] ++ [V.ref t])) nlc).trans (same_upd (o := .lst [.ref lc, .int 0]) nq2))) _ _ hF4, ixN_last _ _, ?_⟩
              refine fin _ lc q2 [.ref t] _ _ s6 nlc nq2 ?_
              rw [e1]
              exact .cons ⟨t, rfl, s7 _ _ upd_same⟩ .nil
            · rw [e1, decide_eq_false (by simp)]
              refine iteT ?_
              rw [e1] at hw5
              obtain ⟨wi, v, rfl, hwi, a2, rfl, ha2⟩ := Prs.back hw5
              have hwil := hwi.len
              have hgil : gi.length ≤ 2000 := by
                have := hrg
                rw [e1, List.length_append] at this
                omega
              refine ⟨_, rfl, 1, rfl, g1, _, -1, _, rfl, rfl, .inl (.inl hg5), atI_last wi (.ref a2), a2, _, 1, _, rfl, rfl, .inl (.inl ha2), atI_nat (j := 1) rfl, _, rfl, rfl, _, rfl, ?_⟩
              by_cases ej : y.2 = r.2
              · rw [decide_eq_true (by rw [ej])]
                refine iteT ?_
                refine ⟨_, rfl, 1, rfl, _, rfl, g1, _, rfl, .inl (.inl hg5), fun la nla => ?_⟩
                have sA := same_upd (o := .lst (cutV (wi ++ [V.ref a2]) none (some (-1)))) nla
                have ecb : cutV (wi ++ [V.ref a2]) none (some (-1)) = wi := cutV_back wi (.ref a2)
                refine ⟨_, rfl, 1, rfl, g1, _, -1, _, rfl, rfl, .inl (.inl (sA _ _ hg5)), atI_last wi (.ref a2), a2, _, 0, _, rfl, rfl, .inl (.inl (sA _ _ ha2)), atI_nat (j := 0) rfl, _, _, rfl, rfl, _, rfl, by show 2 ≤ sizeLine; decide, fun t nt => ⟨by show 1 ≤ sizeLine; decide, fun lb nlb => ?_⟩⟩
                have sT := same_upd (o := .tup [.int (y.1 + 1), .int r.2]) nt
                have sL := same_upd (o := .lst [.ref t]) nlb
                have s6 := s5.trans (sA.trans (sT.trans sL))
                refine ⟨la, lb, wi, [.ref t], rfl, rfl, ((sT.trans sL) _ _ upd_same).trans (congrArg (fun z => some (HO.lst z)) ecb), upd_same, by rw [sizeLine_eq]; show wi.length + 1 ≤ _; omega, fun lc nlc => ⟨by show 2 ≤ sizeLine; decide, fun q2 nq2 => ?_⟩⟩
                have sC := (same_upd (o := .lst (wi ++ [V.ref t])) nlc).trans (same_upd (o := .lst [.ref lc, .int 0]) nq2)
                refine ⟨_, rfl, 1, rfl, aF, _, (-1 : Int), _, rfl, rfl, (s6.trans sC) _ _ hF4, ixN_last _ _, ?_⟩
                refine fin _ lc q2 _ _ _ s6 nlc nq2 ?_
                rw [e1, addTo_end, if_pos ej]
                exact (hwi.same ((sA.trans (sT.trans sL)).trans sC)).append (.cons ⟨t, rfl, (sL.trans sC) _ _ upd_same⟩ .nil)
              · rw [decide_eq_false (fun h => ej (V.int.inj h))]
                refine iteF ?_
                refine ⟨_, rfl, _, rfl, by show 2 ≤ sizeLine; decide, fun t nt => ⟨by show 1 ≤ sizeLine; decide, fun lb nlb => ?_⟩⟩
                have sL := same_upd (o := .lst [.ref t]) nlb
                have sT := same_upd (o := .tup [.int 1, .int r.2]) nt
                have s6 := s5.trans (sT.trans sL)
                refine ⟨g1, lb, wi ++ [.ref a2], [.ref t], rfl, rfl, s6 _ _ hg1, upd_same, by rw [List.length_append, sizeLine_eq]; show wi.length + 1 + 1 ≤ _; omega, fun lc nlc => ⟨by show 2 ≤ sizeLine; decide, fun q2 nq2 => ?_⟩⟩
                have sC := (same_upd (o := .lst ((wi ++ [V.ref a2]) ++ [V.ref t])) nlc).trans (same_upd (o := .lst [.ref lc, .int 0]) nq2)
                refine ⟨_, rfl, 1, rfl, aF, _, (-1 : Int), _, rfl, rfl, (s6.trans sC) _ _ hF4, ixN_last _ _, ?_⟩
                refine fin _ lc q2 _ _ _ s6 nlc nq2 ?_
                rw [e1, addTo_end, if_neg ej]
                exact (hw5.same ((sT.trans sL).trans sC)).append (.cons ⟨t, rfl, (sL.trans sC) _ _ upd_same⟩ .nil)
      · rw [decide_eq_false (fun h => hc2 (hcm.mp h))]
        have est : parseStep ⟨rs, os' ++ [last], ins⟩ c = ⟨rs, os' ++ [last ++ [c]], false⟩ := by
          unfold parseStep
          rw [if_pos (by omega), updLast_snoc]
        rw [est]
        refine iteT ?_
        dsimp only [gName, tNext, tSeq]
        refine ⟨_, rfl, 1, rfl, aO, _, (-1 : Int), .str ol, rfl, rfl, .inl (.inl (by rw [← hmapo]; exact hO)), atI_last _ _, _, rfl, ol, ⟨#[c]⟩, rfl, rfl, by rw [sizeLine_eq]; show ol.cps.size + 1 ≤ _; omega, ?_⟩
        refine ⟨_, rfl, 1, rfl, aO, _, (-1 : Int), _, rfl, rfl, by rw [← hmapo]; exact hO, ixN_last _ _, ?_⟩
        have eset : (oi.map V.str ++ [V.str ol]).set (oi.map V.str).length (.str (ol ++ ⟨#[c]⟩)) = (oi ++ [ol ++ ⟨#[c]⟩]).map V.str := by
          rw [List.map_append]
          simp
        rw [eset]
        refine ⟨_, _, _, rfl, ⟨⟨vs, by rw [upd_ne dFO]; exact hF, hvs.keep hF hO fun b o _ h2 h => by rw [upd_ne h2]; exact h⟩, ⟨oi ++ [ol ++ ⟨#[c]⟩], upd_same, ?_⟩, fun b o h1 h2 h => by rw [upd_ne h2]; exact kk b o h1 h2 h⟩⟩
        rw [List.map_append, ho1]
        show _ ++ [(ol ++ ⟨#[c]⟩ : Str).cps.toList] = _
        rw [show (ol ++ ⟨#[c]⟩ : Str).cps.toList = ol.cps.toList ++ [c] from Array.toList_append .., ho2]
    · rintro σ H2 ⟨y4, y5, y6, rfl, PA2⟩
      rw [List.take_of_length_le (by rw [Array.length_toList]; exact Nat.le_refl _)] at PA2
      have hrun := parseT_runs x.cps.toList
      have hB := parse_bdT x.cps.toList
      unfold parseT at hrun hB
      obtain ⟨⟨vs, hF, hvs⟩, ⟨ols, hO, hols⟩, kk⟩ := PA2
      rw [hrun] at hvs
      have hfl : (runsT x.cps.toList).length ≤ 2000 := by
        have h1 := hB.f
        rw [hrun] at h1
        have h2 : x.cps.toList.length = x.cps.size := Array.length_toList ..
        omega
      have hvl := hvs.len
      dsimp only [gName, tNext, tSeq]
      refine ⟨_, rfl, aF, rfl, ⟨_, .inl (.inl hF)⟩, fun D nD => ?_⟩
      refine lc_it (walk_list (xs := vs)) (fun j H' => Same H2 H' ∧ ∃ us, H' D = some (.lst us) ∧ RnsD K H' D us ((runsT x.cps.toList).take j)) ⟨same_upd nD, [], upd_same, .nil⟩ (fun _ _ _ hQ => .inl (.inl (hQ.1 _ _ hF))) ?_ ?_
      · rintro j u H3 H3' hj ⟨sm, us, hD, hus⟩ ⟨rfl, hu⟩
        have hget : ∀ {vs : List V} {rs : List Rn4}, Fnd K H H2 aF aO vs rs → ∀ {i : Nat} {v : V}, vs[i]? = some v → ∃ r, rs[i]? = some r ∧ FdE K H H2 aF aO v r := fun {vs rs} h => by
          induction h with
          | nil => intro i v hv; simp at hv
          | cons h0 _ ih =>
            intro i v hv
            cases i with
            | zero => exact ⟨_, rfl, (Option.some.inj hv) ▸ h0⟩
            | succ i => exact ih hv
        obtain ⟨r, hr2, q1, g1, ws1, rfl, q1F, q1O, g1F, g1O, g1n, hq1, hg1, hw1⟩ := hget hvs hu
        refine ⟨q1, _, rfl, .inl (.inl (sm _ _ hq1)), rfl, _, _, rfl, _, _, rfl, rfl, rfl, _, rfl, _, rfl, by show 2 ≤ sizeLine; decide, fun t nt => ?_⟩
        have st := same_upd (o := .tup [.ref g1, .int r.2]) nt
        have hD4 := st _ _ hD
        have hul := hus.len
        rw [List.length_take] at hul
        refine ⟨us, hD4, by rw [sizeLine_eq]; omega, Same.own (sm.trans st) nD, us ++ [.ref t], upd_same, ?_⟩
        rw [List.take_succ, hr2]
        have gD : g1 ≠ D := ne_of_none hg1 nD
        exact RnsD.lstUpd hD4 ((hus.same st).append (.cons ⟨g1, gD, t, ws1, rfl, upd_same, st _ _ (sm _ _ hg1), (hw1.same sm).same st⟩ .nil))
      · rintro H3 ⟨sm, us, hD, hus⟩
        rw [hvl, List.take_length] at hus
        refine ⟨_, rfl, by show 2 ≤ sizeLine; decide, fun pd npd => ?_⟩
        have sp := same_upd (o := .lst [.ref D, .ref aO]) npd
        have sH : Same H H2 := fun b o h => kk b o (ne_of_none h nF) (ne_of_none h nO') h
        have hnone : ∀ (Hx : Hp) (b : Addr), Same H Hx → Hx b = none → H b = none := fun Hx b s hb => by
          cases e : H b with
          | none => rfl
          | some o =>
            have := s _ _ e
            rw [hb] at this; cases this
        exact q pd D aO us ols _ ((sH.trans sm).trans sp) (hnone _ _ (sH.trans sm) npd) (hnone _ _ sH nD) nO' upd_same (sp _ _ hD) (hus.same sp) (sp _ _ (sm _ _ hO)) hols
end
end Lw
namespace Lw
open PySem PySem.Spec L2 Lx
theorem scSpelt : FnScope ["run", "groups", "rest", "many", "returns"] ["run"] (defScope sLSpelt) := ⟨rfl, rfl, rfl, by decide +kernel, rfl, by decide +kernel, by decide +kernel⟩
def spSpelt (K : PySem.W.Frag) : Sp := fun vs H Q _ => ∃ (v : V) (l : Addr) (r : Rn4), vs = [v] ∧ RnAt K H v l r ∧ GOk r ∧ (speltT r).length ≤ 4000 ∧ ∀ (z : Str) H', Same H H' → z.cps.toList = speltT r → Q (.str z) H'
def rowS (x : Int × Int) : Str := rep (rep "^" x.2.toNat ++ "\n") x.1.toNat
theorem rowS_list (x : Int × Int) : (rowS x).cps.toList = (List.replicate x.1.toNat (Lx.up x.2.toNat ++ [10])).flatten := by
  unfold rowS
  rw [rep_list, show (rep "^" x.2.toNat ++ "\n" : Str).cps.toList = (rep "^" x.2.toNat).cps.toList ++ ("\n" : Str).cps.toList from Array.toList_append .., rep_list]
  have : (List.replicate x.2.toNat ("^" : Str).cps.toList).flatten = Lx.up x.2.toNat := by
    generalize x.2.toNat = n
    induction n with
    | zero => rfl
    | succ n ih =>
      rw [List.replicate_succ, List.flatten_cons, ih]
      rfl
  rw [this]
  rfl
theorem spelt_row {r : Rn4} {x : Int × Int} (h : x ∈ r.1) : (rowS x).cps.toList.length ≤ (speltT r).length := by
  rw [rowS_list]
  unfold speltT
  rw [List.length_append]
  have : ∀ (gs : List (Int × Int)) (f : Int × Int → List Nat), x ∈ gs → (f x).length ≤ (gs.flatMap f).length := fun gs f hx => by
    induction gs with
    | nil => cases hx
    | cons g gs ih =>
      rw [List.flatMap_cons, List.length_append]
      rcases List.mem_cons.mp hx with rfl | h
      · omega
      · have := ih h; omega
  have := this r.1 (fun x => (List.replicate x.1.toNat (Lx.up x.2.toNat ++ [10])).flatten) h
  omega
section
variable {P : Program} {w : World} {K : PySem.W.Frag} {mg : Str → Option Value} {base : Heap}
theorem ok_spelt {f : Addr} {fd : FuncData} {k : Nat} (F : Fun K "_law_spelt" "_law_spelt" sLSpelt f fd) : FnOk P w K mg base CX0 (k + 1) f fd ["run"] (spSpelt K) := by
  refine F.ok scSpelt (fun vs H Q E h => ?_) (fun cdv A outer s H vs Q E hr h => ?_)
  · obtain ⟨v, l, r, rfl, _⟩ := h
    rfl
  · obtain ⟨_, l, r, rfl, ⟨p, rfl, hT, xs, hL, hP⟩, hg, hsz, q⟩ := h
    refine ⟨_, (pss_cons (ps_asg (pv 0) (pg_tup (by rfl) (pgs_cons (pg_name (i := 1) scSpelt.nd rfl (.inl rfl)) (pgs_cons (pg_name (i := 2) scSpelt.nd rfl (.inl rfl)) pgs_nil))))
      (pss_one (ps_ret (pe_op op_add_str (pe_join pe_str (pe_lc (own := [("many", 3), ("returns", 4)]) (g := (gTup K 2 (gCons (gName 3) (gCons (gName 4) gNil)))) (tt := tYes) rfl scSpelt.nd (pi_list (pv 1)) (blkOk_by (own := [("many", 3), ("returns", 4)]) (N := ["run", "groups", "rest", "many", "returns"]) (sc := defScope sLSpelt) (by decide +kernel)) (fun _ _ _ _ _ => (pg_tup (by rfl) (pgs_cons (pg_name (i := 3) scSpelt.nd rfl (.inl rfl)) (pgs_cons (pg_name (i := 4) scSpelt.nd rfl (.inl rfl)) pgs_nil)))) (fun _ _ _ _ _ => pts_nil) (fun _ _ _ _ _ => (pe_op op_repS (pe_op op_add_str (pe_op op_repS pe_str (pv 4)) pe_str) (pv 3))))) (pe_op op_repS pe_str (pv 2)))))), ?_⟩
    refine ⟨_, rfl, p, _, rfl, hT, rfl, _, _, rfl, _, _, rfl, rfl, ?_⟩
    dsimp only [gName, tNext, tSeq]
    refine ⟨⟨"", rfl⟩, _, rfl, l, rfl, ⟨xs, hL⟩, fun D nD => ?_⟩
    have hxl := hP.len
    refine lc_it (walk_list (xs := xs)) (fun j H' => Same H H' ∧ H' D = some (.lst (((r.1.take j).map rowS).map V.str))) ⟨same_upd nD, upd_same⟩ (fun j H' _ hQ => hQ.1.seq hL) ?_ ?_
    · rintro j u H1 H1' hj ⟨sm, hD⟩ ⟨rfl, hu⟩
      obtain ⟨x, hx, a, rfl, ha⟩ := (hP.same sm).get hu
      have hxm := List.mem_of_getElem? hx
      obtain ⟨x1, x2⟩ := hg.1 x hxm
      have hrow := spelt_row (r := r) hxm
      refine ⟨a, _, rfl, .inl (.inl ha), rfl, _, _, rfl, _, _, rfl, rfl, rfl, ?_⟩
      have l1 : (rep "^" x.2.toNat ++ "\n" : Str).length = x.2.toNat + 1 := by
        rw [show (rep "^" x.2.toNat ++ "\n" : Str).length = (rep "^" x.2.toNat).length + ("\n" : Str).length from Array.size_append .., rep_len]
        show 1 * x.2.toNat + 1 = _
        omega
      have l2 : (rowS x).length = (x.2.toNat + 1) * x.1.toNat := by
        unfold rowS
        rw [rep_len, l1]
      have l3 : (rowS x).cps.toList.length = (rowS x).length := Array.length_toList ..
      have l4 : (x.2.toNat + 1) * x.1.toNat ≤ 4000 := by omega
      have l5 : x.2.toNat + 1 ≤ 4000 := Nat.le_trans (Nat.le_mul_of_pos_right _ (by omega)) l4
      have l6 : x.1.toNat ≤ 4000 := Nat.le_trans (Nat.le_mul_of_pos_left _ (by omega)) l4
      have hjl : j < r.1.length := (List.getElem?_eq_some_iff.mp hx).1
      have hgl : r.1.length ≤ 4000 := by
        have : ∀ gs : List (Int × Int), (∀ y ∈ gs, 1 ≤ y.1) → gs.length ≤ (gs.flatMap fun x => (List.replicate x.1.toNat (Lx.up x.2.toNat ++ [10])).flatten).length := fun gs => by
          induction gs with
          | nil => intro _; exact Nat.le_refl _
          | cons g gs ih =>
            intro h
            have h1 := ih fun y hy => h y (List.mem_cons_of_mem _ hy)
            have h2 := h g List.mem_cons_self
            obtain ⟨n, hn⟩ : ∃ n, g.1.toNat = n + 1 := ⟨g.1.toNat - 1, by omega⟩
            rw [List.flatMap_cons, List.length_append, List.length_cons, hn, List.replicate_succ, List.flatten_cons, List.length_append, List.length_append]
            show _ ≤ _ + 1 + _ + _
            omega
        have h1 := this r.1 fun y hy => (hg.1 y hy).1
        unfold speltT at hsz
        rw [List.length_append] at hsz
        omega
      refine ⟨_, rfl, "^", x.2, rfl, rfl, x2, by omega, by rw [sizeLine_eq]; show 1 * x.2.toNat ≤ _; omega, _, _, rfl, rfl, by rw [rep_len, sizeLine_eq]; show 1 * x.2.toNat + 1 ≤ _; omega, _, rfl, _, x.1, rfl, rfl, by omega, by omega, by rw [l1, sizeLine_eq]; omega, _, hD, by rw [List.length_map, List.length_map, List.length_take, sizeLine_eq]; omega, Same.own sm nD, ?_⟩
      rw [upd_same, List.take_succ, hx, List.map_append, List.map_append]
      rfl
    · rintro H1 ⟨sm, hD⟩
      rw [hxl, List.take_length] at hD
      have hfm : ((r.1.map rowS).map (·.length)).sum = (r.1.flatMap fun x => (List.replicate x.1.toNat (Lx.up x.2.toNat ++ [10])).flatten).length := by
        rw [List.length_flatMap, List.map_map]
        congr 1
        refine List.map_congr_left fun y _ => ?_
        rw [← rowS_list]
        exact (Array.length_toList ..).symm
      have hsz2 := hsz
      unfold speltT at hsz2
      have ulen : (Lx.up r.2.toNat).length = r.2.toNat := List.length_replicate ..
      rw [List.length_append, ulen] at hsz2
      have g2 := hg.2
      have hjoin : (Txt.join "" (r.1.map rowS)).cps.toList = r.1.flatMap fun x => (List.replicate x.1.toNat (Lx.up x.2.toNat ++ [10])).flatten := by
        rw [TL.join_eq]
        refine (TL.tl_join "" _).trans ?_
        have jn : ∀ ps : List (List Nat), TL.joinL [] ps = ps.flatten := fun ps => by
          induction ps with
          | nil => rfl
          | cons a r ih =>
            cases r with
            | nil => show a = _; simp
            | cons b r =>
              show a ++ ([] ++ TL.joinL [] (b :: r)) = _
              rw [ih, List.nil_append]
              rfl
        show TL.joinL [] _ = _
        rw [jn, List.map_map, List.flatMap_def]
        congr 1
        exact List.map_congr_left fun y _ => rowS_list y
      have hjl : (Txt.join "" (r.1.map rowS)).length = (r.1.flatMap fun x => (List.replicate x.1.toNat (Lx.up x.2.toNat ++ [10])).flatten).length := by
        rw [← hjoin]
        exact (Array.length_toList ..).symm
      refine ⟨"", D, r.1.map rowS, rfl, rfl, .inl (.inl (.inl hD)), by rw [hfm]; show _ + _ * 0 ≤ _; omega, _, rfl, "^", r.2, rfl, rfl, g2, by omega, by rw [sizeLine_eq]; show 1 * r.2.toNat ≤ _; omega, _, _, rfl, rfl, by rw [hjl, rep_len, sizeLine_eq]; show _ + 1 * r.2.toNat ≤ _; omega, q _ _ sm ?_⟩
      rw [show (Txt.join "" (r.1.map rowS) ++ rep "^" r.2.toNat).cps.toList = (Txt.join "" (r.1.map rowS)).cps.toList ++ (rep "^" r.2.toNat).cps.toList from Array.toList_append .., hjoin, rep_list]
      unfold speltT
      congr 1
      show (List.replicate r.2.toNat [94]).flatten = Lx.up r.2.toNat
      generalize r.2.toNat = n
      induction n with
      | zero => rfl
      | succ n ih =>
        rw [List.replicate_succ, List.flatten_cons, ih]
        rfl
end
end Lw
namespace Lw
open PySem PySem.Spec L2 Lx
inductive RnsF (K : PySem.W.Frag) (H0 H : Hp) (D : Addr) : List V → List Rn → Prop
  | nil : RnsF K H0 H D [] []
  | cons {v : V} {vs : List V} {r : Rn} {rs : List Rn} : (∃ l, l ≠ D ∧ H0 l = none ∧ RnS K H v l r) → RnsF K H0 H D vs rs → RnsF K H0 H D (v :: vs) (r :: rs)
theorem RnsF.d {K : PySem.W.Frag} {H0 H : Hp} {D : Addr} : ∀ {vs rs}, RnsF K H0 H D vs rs → RnsD K H D vs rs
  | _, _, .nil => .nil
  | _, _, .cons ⟨l, n, _, h⟩ t => .cons ⟨l, n, h⟩ t.d
theorem RnsF.same {K : PySem.W.Frag} {H0 H H' : Hp} {D : Addr} (s : Same H H') : ∀ {vs rs}, RnsF K H0 H D vs rs → RnsF K H0 H' D vs rs
  | _, _, .nil => .nil
  | _, _, .cons ⟨l, n, f, h⟩ t => .cons ⟨l, n, f, h.same s⟩ (RnsF.same s t)
theorem RnsF.lstUpd {K : PySem.W.Frag} {H0 H : Hp} {D : Addr} {ys : List V} {o : HO} (e : H D = some (.lst ys)) : ∀ {vs rs}, RnsF K H0 H D vs rs → RnsF K H0 (upd H D o) D vs rs
  | _, _, .nil => .nil
  | _, _, .cons ⟨l, n, f, h⟩ t => .cons ⟨l, n, f, h.upd e n⟩ (RnsF.lstUpd e t)
theorem RnsF.append {K : PySem.W.Frag} {H0 H : Hp} {D : Addr} : ∀ {vs ws rs qs}, RnsF K H0 H D vs rs → RnsF K H0 H D ws qs → RnsF K H0 H D (vs ++ ws) (rs ++ qs)
  | _, _, _, _, .nil, h => h
  | _, _, _, _, .cons a t, h => .cons a (RnsF.append t h)
theorem RnsF.len {K : PySem.W.Frag} {H0 H : Hp} {D : Addr} {vs rs} (h : RnsF K H0 H D vs rs) : vs.length = rs.length := h.d.len
def spRso4 (K : PySem.W.Frag) : Sp := fun vs H Q _ => ∃ (x : Str), vs = [.str x] ∧ x.cps.size ≤ 1000000 ∧ ∀ p ws H', Same H H' → H p = none → H' p = some (.lst ws) → RnsF K H H' p ws (runsT x.cps.toList) → Q (.ref p) H'
section
variable {P : Program} {w : World} {K : PySem.W.Frag} {mg : Str → Option Value} {base : Heap}
theorem ok_rso4 {f aP : Addr} {fd dP : FuncData} {k : Nat} {tS : Tok} (F : Fun K "runs_of" "runs_of" sRunsOf f fd) (gS : mg "SIGNS" = some (.str "^\n" tS))
    (cP : Cl P w K mg base k "run_of_piece" ["piece"] (spRop K) aP dP) : FnOk P w K mg base CX0 (k + 1) f fd ["text"] (spRso4 K) := by
  refine F.ok scRso (fun vs H Q E h => ?_) (fun cdv A outer s H vs Q E hr h => ?_)
  · obtain ⟨x, rfl, _⟩ := h
    rfl
  · obtain ⟨x, rfl, hl, q⟩ := h
    have hxl : x.cps.toList.length = x.cps.size := Array.length_toList ..
    refine ⟨_, (pss_cons (ps_set (i := 1) scRso.nd rfl (.inl rfl) (pe_join pe_str (pe_lc (own := [("sign", 3)]) (g := (gName 3)) (tt := tYes) rfl scRso.nd (pi_str (pv 0)) (blkOk_by (own := [("sign", 3)]) (N := ["text", "spaced", "piece", "sign"]) (sc := defScope sRunsOf) (by decide +kernel)) (fun _ _ _ _ _ => (pg_name (i := 3) scRso.nd rfl (.inl rfl))) (fun _ _ _ _ _ => pts_nil) (fun _ _ _ _ _ => (pe_ifExp (pt_cmpR op_in_sign (pv 3) (pe_glob (v := .str "^\n") rfl gS ⟨_, rfl⟩) (by with_unfolding_all rfl)) (pv 3) pe_str)))))
      (pss_one (ps_ret (pe_lc (own := [("piece", 2)]) (g := (gName 2)) (tt := _) rfl scRso.nd (pi_list (pe_split (pv 1) pe_str)) (blkOk_by (own := [("piece", 2)]) (N := ["text", "spaced", "piece", "sign"]) (sc := defScope sRunsOf) (by decide +kernel)) (fun _ _ _ _ _ => (pg_name (i := 2) scRso.nd rfl (.inl rfl))) (fun _ _ _ _ _ => (pts_one (pt_truthK (K := K) rfl (pv 2) (fun _ => rfl)))) (fun _ _ _ _ _ => (pe_call cP.G hr (by rfl) cP.g cP.kp cP.b .nil pass0 (pa_cons (pv 2) pa_nil))))))), ?_⟩
    refine ⟨⟨"", rfl⟩, _, rfl, x, rfl, fun D nD => ?_⟩
    refine lc_it walk_str (fun j H' => Same H H' ∧ H' D = some (.lst (((x.cps.toList.take j).map sgS).map V.str))) ⟨same_upd nD, upd_same⟩ (fun _ _ _ _ => trivial) ?_ ?_
    · rintro j u H3 H4 hj ⟨sm, hD⟩ ⟨rfl, c, hc, rfl⟩
      have hcl : x.cps.toList[j]? = some c := by rw [Array.getElem?_toList]; exact hc
      have fin : ∀ y : Str, y = sgS c → ∃ acc, H4 D = some (.lst acc) ∧ acc.length < sizeLine ∧ (Same H (upd H4 D (.lst (acc ++ [.str y]))) ∧ upd H4 D (.lst (acc ++ [.str y])) D = some (.lst (((x.cps.toList.take (j + 1)).map sgS).map V.str))) := fun y hy => by
        subst hy
        refine ⟨_, hD, ?_, Same.own sm nD, ?_⟩
        · rw [List.length_map, List.length_map, List.length_take, sizeLine_eq]
          omega
        · rw [upd_same, List.take_succ, hcl, List.map_append, List.map_append]
          rfl
      have smem : c ∈ ("^\n" : Str).cps.toList ↔ c = 94 ∨ c = 10 := by
        show c ∈ ([94, 10] : List Nat) ↔ _
        simp
      refine ⟨rfl, _, rfl, c, "^\n", rfl, rfl, _, rfl, ite2 (fun hm => ?_) (fun hm => ?_)⟩
      · have hm2 := smem.mp (of_decide_eq_true hm)
        refine ⟨_, rfl, ?_⟩
        obtain ⟨acc, h1, h2, h3⟩ := fin ⟨#[c]⟩ (by unfold sgS spc; rw [if_pos hm2])
        exact ⟨acc, h1, h2, h3⟩
      · have hm2 : ¬ (c = 94 ∨ c = 10) := fun z => hm (decide_eq_true (smem.mpr z))
        obtain ⟨acc, h1, h2, h3⟩ := fin " " (by unfold sgS spc; rw [if_neg hm2]; rfl)
        exact ⟨acc, h1, h2, h3⟩
    · rintro H3 ⟨sm, hD⟩
      have e : x.cps.toList.take x.cps.size = x.cps.toList := List.take_of_length_le (by simp)
      rw [e] at hD
      refine ⟨"", D, _, rfl, rfl, .inl (.inl (.inl hD)), ?_, ?_⟩
      · rw [sum_one]
        show _ + _ * 0 ≤ _
        omega
      · have hjl := join_sg x.cps.toList
        generalize Txt.join "" (x.cps.toList.map sgS) = y at hjl
        have hyl : y.cps.size = x.cps.size := by rw [← hxl, ← Array.length_toList, hjl, List.length_map]
        -- the pieces
        refine ⟨_, rfl, ⟨y, rfl⟩, y, " ", rfl, rfl, rfl, ?_, fun p np => ?_⟩
        · show y.cps.size + 2 ≤ sizeLine
          rw [sizeLine_eq]
          omega
        have hps : (Txt.split y " ").map TL.tl = TL.spl [32] 0 [] (x.cps.toList.map spc) := by
          rw [TL.split_spl y " " (by decide) (TL.kind_ok (by decide +kernel))]
          show TL.spl [32] 0 [] y.cps.toList = _
          rw [hjl]
        have hpl : (Txt.split y " ").length ≤ x.cps.size + 1 := by
          have h1 := congrArg List.length hps
          rw [List.length_map] at h1
          have h2 := spl_len [32] (x.cps.toList.map spc) 0 []
          rw [List.length_map] at h2
          omega
        generalize Txt.split y " " = ps at hps hpl np
        have s1 := same_upd (o := .lst (ps.map V.str)) np
        have hP : upd H3 p (.lst (ps.map V.str)) p = _ := upd_same
        generalize upd H3 p (.lst (ps.map V.str)) = H4 at s1 hP
        refine ⟨p, rfl, ⟨_, .inl (.inl hP)⟩, fun D2 nD2 => ?_⟩
        have hpiece : ∀ z ∈ ps, z.cps.toList ≠ [] → z.cps.toList ∈ piecesT x.cps.toList := fun z hz hne => by
          have h1 : TL.tl z ∈ ps.map TL.tl := List.mem_map.mpr ⟨z, hz, rfl⟩
          rw [hps] at h1
          exact List.mem_filter.mpr ⟨h1, by
            cases e : z.cps.toList with
            | nil => exact absurd e hne
            | cons a r => rfl⟩
        have hruns : ∀ j, j ≤ ps.length → (((ps.take j).map TL.tl).filter fun p => !p.isEmpty).length ≤ j := fun j hj => by
          refine Nat.le_trans (List.length_filter_le _ _) ?_
          rw [List.length_map, List.length_take]
          omega
        refine lc_it (walk_list (xs := ps.map V.str)) (fun j H' => Same H4 H' ∧ ∃ ws, H' D2 = some (.lst ws) ∧ RnsF K H H' D2 ws ((((ps.take j).map TL.tl).filter fun p => !p.isEmpty).map rpT)) ⟨same_upd nD2, [], upd_same, .nil⟩ (fun _ _ _ hQ => .inl (.inl (hQ.1 _ _ hP))) ?_ ?_
        · rintro j u H5 H6 hj ⟨sm2, ws, hD2, hw⟩ ⟨rfl, hu⟩
          rw [List.length_map] at hj
          have hri : ps[j]? = some ps[j] := List.getElem?_eq_getElem hj
          rw [List.getElem?_map, hri] at hu
          cases Option.some.inj hu
          have hzm := List.mem_of_getElem? hri
          have hrl := hruns j (by omega)
          have hwl := hw.len
          rw [List.length_map] at hwl
          generalize ps[j] = z at hri hzm
          have htk : ((ps.take (j + 1)).map TL.tl).filter (fun p => !p.isEmpty) = ((ps.take j).map TL.tl).filter (fun p => !p.isEmpty) ++ (if z.cps.toList = [] then [] else [z.cps.toList]) := by
            rw [List.take_succ, hri, List.map_append, List.filter_append]
            congr 1
            show List.filter _ [TL.tl z] = _
            by_cases hz : z.cps.toList = []
            · rw [if_pos hz]
              show List.filter _ [z.cps.toList] = _
              rw [hz]
              rfl
            · rw [if_neg hz]
              show List.filter _ [z.cps.toList] = _
              cases e : z.cps.toList with
              | nil => exact absurd e hz
              | cons a r => rfl
          rw [htk]
          have hzl : z.cps.toList.length = z.length := Array.length_toList ..
          by_cases hz : z.cps.toList = []
          · rw [if_pos hz, List.append_nil]
            have z0 : z.length = 0 := by rw [← hzl, hz]; rfl
            refine ⟨rfl, _, rfl, false, ⟨by omega, by rw [z0]; rfl⟩, ?_⟩
            exact iteF ⟨sm2, ws, hD2, hw⟩
          · rw [if_neg hz]
            obtain ⟨sg, _, hle⟩ := piece_ok _ x.cps.toList (Nat.le_refl _) _ (hpiece z hzm hz)
            have z1 : z.length ≠ 0 := fun e => hz (List.eq_nil_of_length_eq_zero (by omega))
            refine ⟨rfl, _, rfl, true, ⟨by rw [sizeLine_eq]; omega, ?_⟩, iteT ?_⟩
            · have : ((z.length : Int) != 0) = true := by
                rw [bne_iff_ne]
                omega
              exact this.symm
            · obtain ⟨rows, rest, er⟩ := spT_of _ sg
              refine ⟨_, rfl, z, rows, rest, rfl, er, by show z.length ≤ _; omega, fun v l H7 s7 nl hR => ?_⟩
              have hD7 := s7 _ _ hD2
              refine ⟨ws, hD7, by rw [sizeLine_eq]; omega, Same.own (sm2.trans s7) nD2, ws ++ [v], upd_same, ?_⟩
              rw [List.map_append]
              refine RnsF.lstUpd hD7 ((hw.same s7).append (.cons ⟨l, Ne.symm (ne_of_none hD2 nl), ((sm.trans s1).trans sm2).free nl, ?_⟩ .nil))
              rw [er, rpT_spT]
              exact hR
        · rintro H5 ⟨sm2, ws, hD2, hw⟩
          rw [List.length_map, List.take_length, hps] at hw
          have s05 := (sm.trans s1).trans sm2
          exact q D2 ws H5 s05 ((sm.trans s1).free nD2) hD2 hw
end
end Lw
namespace Lw
open PySem PySem.Spec L2 Lx
theorem scChkRun : FnScope ["run", "groups", "rest", "before", "index", "many", "j"] ["run"] (defScope sChkRun) := ⟨rfl, rfl, rfl, by decide +kernel, rfl, by decide +kernel, by decide +kernel⟩
def spChk4 (K : PySem.W.Frag) : Sp := fun vs H Q _ => ∃ x l r n, vs = [x] ∧ RnAt K H x l r ∧ (GsOk n r.1 ∧ 0 ≤ r.2) ∧ ∀ H', Same H H' → Q .non H'
section
variable {P : Program} {w : World} {K : PySem.W.Frag} {mg : Str → Option Value} {base : Heap} {aL aN aS : Addr}
theorem ok_chk4 {f : Addr} {fd : FuncData} {k : Nat} (F : Fun K "check_run" "check_run" sChkRun f fd) (mE : mg "enumerate" = none) : FnOk P w K mg base CX0 (k + 1) f fd ["run"] (spChk4 K) := by
  refine F.ok scChkRun (fun vs H Q E h => ?_) (fun cdv A outer s H vs Q E hr h => ?_)
  · obtain ⟨x, l, r, n, rfl, _⟩ := h
    rfl
  · obtain ⟨_, l, r, n, rfl, ⟨p, rfl, hT, xs, hL, hP⟩, ho, q⟩ := h
    refine ⟨_, pss_cons (ps_asg (pv 0) (pg_tup (by rfl) (pgs_cons (pg_name (i := 1) scChkRun.nd rfl (.inl rfl)) (pgs_cons (pg_name (i := 2) scChkRun.nd rfl (.inl rfl)) pgs_nil))))
      (pss_cons (ps_set (i := 3) scChkRun.nd rfl (.inl rfl) pe_non)
      (pss_cons (ps_for PassesOwn.never rfl (pi_enum rfl mE (pa_cons (pv 1) pa_nil)) (pg_tup (by rfl) (pgs_cons (pg_name (i := 4) scChkRun.nd rfl (.inl rfl)) (pgs_cons (pg_tup (by rfl) (pgs_cons (pg_name (i := 5) scChkRun.nd rfl (.inl rfl)) (pgs_cons (pg_name (i := 6) scChkRun.nd rfl (.inl rfl)) pgs_nil))) pgs_nil)))
        (pss_cons (ps_if (PW.pt (pw_or (pt_cmpR op_lt (pv 5) pe_int (nomark _)) (pw_or (pt_cmpR op_lt (pv 6) pe_int (nomark _)) (pw_or1 (pt_cmpR op_eq (pv 6) (pv 3) (nomark _)))))) (pss_one ps_never) pss_nil)
        (pss_one (ps_set (i := 3) scChkRun.nd rfl (.inl rfl) (pv 6)))))
      (pss_one (ps_if (pt_cmpR op_lt (pv 2) pe_int (nomark _)) (pss_one ps_never) pss_nil)))), ?_⟩
    refine ⟨_, rfl, p, _, rfl, hT, rfl, _, _, rfl, _, _, rfl, rfl, ?_⟩
    refine ⟨_, rfl, l, xs, rfl, hL, ?_⟩
    refine for_it (walk_enum (xs := xs)) (fun i σ H' => Same H H' ∧ ∃ bf y4 y5 y6, σ = [some (.ref p), some (.ref l), some (.int r.2), some bf, y4, y5, y6] ∧ (i = 0 → bf = .non) ∧ ∀ i' x, i = i' + 1 → r.1[i']? = some x → bf = .int x.2)
      ⟨Same.refl H, .non, none, none, none, rfl, fun _ => rfl, fun _ _ e => by cases e⟩ (fun i σ H' _ hP => hP.1.seq hL) ?_ ?_
    · rintro i v σ H1 H2 hi ⟨sm, bf, y4, y5, y6, rfl, hb0, hb1⟩ ⟨T, u1, u2, rfl, nT, rfl, h1, h2⟩
      cases Option.some.inj h1
      obtain ⟨x, hx, p2, rfl, hp2'⟩ := hP.get h2
      have hp2 : SqT K H p2 [.int x.1, .int x.2] := .inl (.inl hp2')
      have s2 := sm.trans (same_upd (o := .tup [.int (i : Nat), .ref p2]) nT)
      obtain ⟨o1, o2, _, _, o5⟩ := ho.1 i x hx
      refine ⟨T, _, rfl, .inl (.inl upd_same), rfl, _, _, rfl, _, _, rfl, p2, _, rfl, sameT s2 hp2, rfl, _, _, rfl, _, _, rfl, rfl, rfl, ?_⟩
      refine ⟨_, rfl, _, _, rfl, rfl, _, rfl, ?_⟩
      rw [decide_eq_false (by omega : ¬ x.1 < 1)]
      refine iteF ⟨_, rfl, _, _, rfl, rfl, _, rfl, ?_⟩
      rw [decide_eq_false (by omega : ¬ x.2 < 0)]
      refine iteF ⟨_, rfl, _, rfl, ?_⟩
      have hne : scal (.int x.2) bf = true ∧ ¬ (V.int x.2 = bf) := by
        cases i with
        | zero =>
          cases hb0 rfl
          exact ⟨rfl, by intro z; cases z⟩
        | succ i' =>
          have hlt : i' < r.1.length := by
            have := (List.getElem?_eq_some_iff.mp hx).1
            omega
          have e := hb1 i' _ rfl (List.getElem?_eq_getElem hlt)
          subst e
          refine ⟨rfl, fun z => ?_⟩
          exact (ho.1 i' _ (List.getElem?_eq_getElem hlt)).2.2.2.2 x hx (V.int.inj z)
      refine ⟨hne.1, _, rfl, ?_⟩
      rw [decide_eq_false hne.2]
      refine iteF ⟨_, rfl, s2, _, _, _, _, rfl, (fun e => by cases e), fun i' x' e hx' => ?_⟩
      cases Nat.succ.inj e
      rw [hx] at hx'
      cases hx'
      rfl
    · rintro σ H1 ⟨sm, bf, y4, y5, y6, rfl, _⟩
      refine ⟨_, rfl, _, _, rfl, rfl, _, rfl, ?_⟩
      rw [decide_eq_false (by have := ho.2; omega : ¬ r.2 < 0)]
      exact iteF (q _ sm)
end
end Lw
namespace Lw
open PySem PySem.Spec L2 Lx
theorem scSigns : FnScope ["j", "wanted"] ["j", "wanted"] (defScope sSigns) := ⟨rfl, rfl, rfl, by decide +kernel, rfl, by decide +kernel, by decide +kernel⟩
theorem scUog : FnScope ["j", "wanted"] ["j", "wanted"] (defScope sUog) := ⟨rfl, rfl, rfl, by decide +kernel, rfl, by decide +kernel, by decide +kernel⟩
def spUog (K : PySem.W.Frag) : Sp := fun vs H Q _ => ∃ j x f, vs = [.int j, x] ∧ FmAt K H x f ∧ Q (.int (f.after j + 1)) H
def spSigns (K : PySem.W.Frag) : Sp := fun vs H Q _ => ∃ j x f, vs = [.int j, x] ∧ FmAt K H x f ∧ Q (.int (f.after j)) H
section
variable {P : Program} {w : World} {K : PySem.W.Frag} {mg : Str → Option Value} {base : Heap} {aL aN aS : Addr}
theorem ok_signs {f : Addr} {fd : FuncData} {k : Nat} (F : Fun K "signs_after" "signs_after" sSigns f fd) (mX : mg "max" = none) : FnOk P w K mg base CX0 (k + 1) f fd ["j", "wanted"] (spSigns K) := by
  refine F.ok scSigns (fun vs H Q E h => ?_) (fun cdv A outer s H vs Q E hr h => ?_)
  · obtain ⟨j, x, f, rfl, _⟩ := h
    rfl
  · obtain ⟨j, _, f, rfl, ⟨p, rfl, hT⟩, q⟩ := h
    refine ⟨_, pss_one (ps_ret (pe_op op_add (pe_callB (call_max2 rfl) (by rfl) mX (by decide +kernel) (pa_cons pe_int (pa_cons (pe_op op_sub (pv 0) (pe_ix ix_tup (pv 1) pe_int (fun _ _ => rfl))) pa_nil))) (pe_ix ix_tup (pv 1) pe_int (fun _ _ => rfl)))), ?_⟩
    refine ⟨_, rfl, _, rfl, p, _, 1, _, rfl, rfl, hT, atI_nat (j := 1) f.vs1, _, _, rfl, rfl, _, _, rfl, _, rfl, p, _, 2, _, rfl, rfl, hT, atI_nat (j := 2) f.vs2, _, _, rfl, rfl, q⟩
theorem ok_uog {f fS : Addr} {fd fdS : FuncData} {k : Nat} (F : Fun K "units_of_group" "units_of_group" sUog f fd) (GS : FnOk P w K mg base CX0 k fS fdS ["j", "wanted"] (spSigns K)) (kS : PySem.W.keepIn K (.ref fS) = true) (bS : Binds K fdS ["j", "wanted"] []) (gS : mg "signs_after" = some (.ref fS)) :
    FnOk P w K mg base CX0 (k + 1) f fd ["j", "wanted"] (spUog K) := by
  refine F.ok scUog (fun vs H Q E h => ?_) (fun cdv A outer s H vs Q E hr h => ?_)
  · obtain ⟨j, x, f, rfl, _⟩ := h
    rfl
  · obtain ⟨j, x, f, rfl, hx, q⟩ := h
    refine ⟨_, pss_one (ps_ret (pe_op op_add (pe_call GS hr (by rfl) gS kS bS .nil pass0 (pa_cons (pv 0) (pa_cons (pv 1) pa_nil))) pe_int)), ?_⟩
    exact ⟨_, rfl, _, rfl, j, x, f, rfl, hx, _, _, rfl, rfl, q⟩
end
end Lw
namespace Lw
open PySem PySem.Spec L2 Lx
abbrev nUnits : List Str := ["run", "wanted", "groups", "rest", "many", "j"]
theorem scUnits : FnScope nUnits ["run", "wanted"] (defScope sUnits) := ⟨rfl, rfl, rfl, by decide +kernel, rfl, by decide +kernel, by decide +kernel⟩
def RnBg (n : Nat) (r : List (Int × Int) × Int) : Prop := (∀ x ∈ r.1, 0 ≤ x.1 ∧ 0 ≤ x.2 ∧ Sm n x.1 ∧ Sm n x.2) ∧ 0 ≤ r.2 ∧ Sm n r.2 ∧ r.1.length ≤ 100000
def spUn4 (K : PySem.W.Frag) : Sp := fun vs H Q _ => ∃ x l r y f n, vs = [x, y] ∧ RnAt K H x l r ∧ FmAt K H y f ∧ RnBg n r ∧ f.Ok n ∧ n ≤ 100000 ∧ ∀ H', Same H H' → Q (.int (units r f)) H'
section
variable {P : Program} {w : World} {K : PySem.W.Frag} {mg : Str → Option Value} {base : Heap} {aL aN aS : Addr}
theorem ok_un4 {f fS : Addr} {fd fdS : FuncData} {k : Nat} (F : Fun K "units" "units" sUnits f fd) (GS : FnOk P w K mg base CX0 k fS fdS ["j", "wanted"] (spUog K)) (kS : PySem.W.keepIn K (.ref fS) = true) (bS : Binds K fdS ["j", "wanted"] []) (gS : mg "units_of_group" = some (.ref fS)) (mS : mg "sum" = none) :
    FnOk P w K mg base CX0 (k + 1) f fd ["run", "wanted"] (spUn4 K) := by
  refine F.ok scUnits (fun vs H Q E h => ?_) (fun cdv A outer s H vs Q E hr h => ?_)
  · obtain ⟨x, l, r, y, f, n, rfl, _⟩ := h
    rfl
  · obtain ⟨_, l, r, y, f, n, rfl, ⟨p, rfl, hT, xs, hL, hP⟩, hy, hs, hf, hn, q⟩ := h
    refine ⟨_, pss_cons (ps_asg (pv 0) (pg_tup (by rfl) (pgs_cons (pg_name (i := 2) scUnits.nd rfl (.inl rfl)) (pgs_cons (pg_name (i := 3) scUnits.nd rfl (.inl rfl)) pgs_nil))))
      (pss_one (ps_ret (pe_op op_add (pe_callB (cr_sum rfl) (by rfl) mS (by decide +kernel) (pa_cons (pe_lc (own := [("many", 4), ("j", 5)]) (g := gTup K 2 (gCons (gName 4) (gCons (gName 5) gNil))) (tt := tYes) rfl scUnits.nd (pi_list (pv 2)) (blkOk_by (own := [("many", 4), ("j", 5)]) (N := nUnits) (sc := defScope sUnits) (by decide +kernel))
          (fun _ _ _ _ _ => pg_tup (by rfl) (pgs_cons (pg_name (i := 4) scUnits.nd rfl (.inl rfl)) (pgs_cons (pg_name (i := 5) scUnits.nd rfl (.inl rfl)) pgs_nil))) (fun _ _ _ _ _ => pts_nil)
          (fun _ _ _ _ _ => pe_op op_mulW (pv 4) (pe_call GS hr (by rfl) gS kS bS .nil pass0 (pa_cons (pv 5) (pa_cons (pv 1) pa_nil))))) pa_nil)) (pv 3)))), ?_⟩
    refine ⟨_, rfl, p, _, rfl, hT, rfl, _, _, rfl, _, _, rfl, rfl, ?_⟩
    refine ⟨_, rfl, l, rfl, ⟨_, hL⟩, fun D nD => ?_⟩
    refine lc_it (walk_list (xs := xs)) (fun i H' => Same H H' ∧ H' D = some (.lst (((r.1.take i).map fun x => x.1 * (f.after x.2 + 1)).map V.int))) ⟨same_upd nD, upd_same⟩ (fun i H' _ hQ => hQ.1.seq hL) ?_ ?_
    · rintro i u H1 H2 hi ⟨sm, hD⟩ ⟨rfl, hu⟩
      obtain ⟨x, hx, a, rfl, ha'⟩ := hP.get hu
      have ha : SqT K H a [.int x.1, .int x.2] := .inl (.inl ha')
      have hxm := List.mem_of_getElem? hx
      obtain ⟨x1, x2, x3, x4⟩ := hs.1 x hxm
      have hb := Fm.after_ok (hf.mono (Nat.le_succ n)) x2 (x4.mono (Nat.le_succ n))
      have hb2 : Sm (n + 3) (f.after x.2 + 1) := hb.2.add (Nat.lt_of_lt_of_le (by decide : (1 : Int).natAbs < 2 ^ 1) (Nat.pow_le_pow_right (by decide) (by omega)))
      refine ⟨a, _, rfl, sameT sm ha, rfl, _, _, rfl, _, _, rfl, rfl, rfl, ?_⟩
      refine ⟨_, rfl, _, rfl, _, rfl, x.2, y, f, rfl, hy.same sm, _, _, rfl, rfl, wide_mul (x3.mono (Nat.le_succ n)) hb2 (by omega) (by omega) (by omega), ?_⟩
      refine ⟨_, hD, ?_, Same.own sm nD, ?_⟩
      · have := hs.2.2.2
        rw [List.length_map, List.length_map, List.length_take, sizeLine_eq]
        omega
      · rw [upd_same, List.take_succ, hx, List.map_append, List.map_append]
        rfl
    · rintro H1 ⟨sm, hD⟩
      rw [List.take_of_length_le (by rw [← hP.len]; exact Nat.le_refl _)] at hD
      refine ⟨D, _, rfl, .inl (.inl hD), _, rfl, _, _, rfl, rfl, ?_⟩
      rw [sum_mapV]
      exact q _ sm
end
end Lw
namespace Lw
open PySem PySem.Spec L2 Lx
theorem gsBg {n : Nat} {r : List (Int × Int) × Int} (h : GsOk n r.1) (g : 0 ≤ r.2 ∧ Sm n r.2 ∧ r.1.length ≤ 100000) : RnBg n r := ⟨fun x hx => by
  obtain ⟨i, hi⟩ := List.mem_iff_getElem?.mp hx
  obtain ⟨h1, h2, h3, h4, _⟩ := h i x hi
  exact ⟨by omega, h2, h3, h4⟩, g⟩
theorem scSize : FnScope ["run"] ["run"] (defScope sSize) := ⟨rfl, rfl, rfl, by decide +kernel, rfl, by decide +kernel, by decide +kernel⟩
def spSz4 (K : PySem.W.Frag) : Sp := fun vs H Q _ => ∃ x l r n, vs = [x] ∧ RnAt K H x l r ∧ GsOk n r.1 ∧ (0 ≤ r.2 ∧ Sm n r.2 ∧ r.1.length ≤ 100000) ∧ n ≤ 100000 ∧ ∀ H', Same H H' → Q (.int (units r nothing)) H'
section
variable {P : Program} {w : World} {K : PySem.W.Frag} {mg : Str → Option Value} {base : Heap} {aL aN aS : Addr}
theorem ok_sz4 {f fC fU : Addr} {fd fdC fdU : FuncData} {k : Nat} (F : Fun K "size" "size" sSize f fd) (gN : mg "NOTHING" = some (.ref aN)) (tN : ∀ H : Hp, FmAt K H (.ref aN) nothing)
    (GC : FnOk P w K mg base CX0 k fC fdC ["run"] (spChk4 K)) (kC : PySem.W.keepIn K (.ref fC) = true) (bC : Binds K fdC ["run"] []) (gC : mg "check_run" = some (.ref fC))
    (GU : FnOk P w K mg base CX0 k fU fdU ["run", "wanted"] (spUn4 K)) (kU : PySem.W.keepIn K (.ref fU) = true) (bU : Binds K fdU ["run", "wanted"] []) (gU : mg "units" = some (.ref fU)) :
    FnOk P w K mg base CX0 (k + 1) f fd ["run"] (spSz4 K) := by
  refine F.ok scSize (fun vs H Q E h => ?_) (fun cdv A outer s H vs Q E hr h => ?_)
  · obtain ⟨x, l, r, n, rfl, _⟩ := h
    rfl
  · obtain ⟨x, l, r, n, rfl, hR, ho, hre, hn, q⟩ := h
    refine ⟨_, pss_cons (ps_expr (pe_call GC hr (by rfl) gC kC bC .nil pass0 (pa_cons (pv 0) pa_nil)))
      (pss_one (ps_ret (pe_call GU hr (by rfl) gU kU bU .nil pass0 (pa_cons (pv 0) (pa_cons (pe_glob (v := .ref aN) rfl gN rfl) pa_nil))))), ?_⟩
    exact ⟨_, rfl, x, l, r, n, rfl, hR, ⟨ho, hre.1⟩, fun H1 s1 => ⟨_, rfl, x, l, r, _, nothing, n, rfl, hR.same s1, tN H1, gsBg ho hre, ⟨by decide, by decide, Nat.two_pow_pos n, Nat.two_pow_pos n⟩, hn, fun H2 s2 => q H2 (s1.trans s2)⟩⟩
end
end Lw
namespace Lw
open PySem PySem.Spec L2 Lx
theorem runs_parts {l : List Nat} (h : l.length ≤ 2000) : small (.list ((runsT l).map rd)) = true ∧ (PyData.list ((runsT l).map rd)).depth ≤ 35 ∧ (PyData.list ((runsT l).map rd)).bulk ≤ 14000 := by
  have hs : ∀ r ∈ runsT l, small (rd r) = true := fun r hr => by
    obtain ⟨p, hp, rfl⟩ := List.mem_map.mp hr
    obtain ⟨h1, _, h3⟩ := piece_ok _ l (Nat.le_refl _) p hp
    obtain ⟨rows, rest, rfl⟩ := spT_of p h1
    rw [rpT_spT]
    obtain ⟨a, _, _, d⟩ := rn_bd rows rest (n := 6000) (by omega)
    exact rd_small a ⟨Int.natCast_nonneg _, (show (rest : Int) ≤ _ by omega)⟩ (by decide)
  have hb := runs_bulk _ l (Nat.le_refl _)
  revert hs hb
  generalize runsT l = rs
  intro hs hb
  refine ⟨?_, ?_, ?_⟩
  · show small.smallAll (rs.map rd) = true
    clear hb
    induction rs with
    | nil => rfl
    | cons r rs ih =>
      simp only [List.map_cons, small.smallAll, hs r List.mem_cons_self, Bool.true_and]
      exact ih fun x hx => hs x (List.mem_cons_of_mem _ hx)
  · have e : ∀ rs : List (List (Int × Int) × Int), PyData.depthAll (rs.map rd) ≤ 30 := fun rs => by
      induction rs with
      | nil => exact Nat.zero_le _
      | cons r rs ih =>
        have := rd_depth r
        simp only [List.map_cons, PyData.depthAll]
        omega
    have := e rs
    simp only [PyData.depth]
    omega
  · have e : ∀ rs : List (List (Int × Int) × Int), PyData.bulkAll (rs.map rd) = (rs.map fun r => 3 * r.1.length + 3).sum := fun rs => by
      induction rs with
      | nil => rfl
      | cons r rs ih =>
        have := rd_bulk r
        simp only [List.map_cons, PyData.bulkAll, List.sum_cons]
        omega
    exact Nat.le_trans (Nat.le_of_eq (e rs)) (Nat.le_trans hb (by omega))
theorem runs_fit2 {l : List Nat} (h : l.length ≤ 2000) : Fit (.list [.list ((runsT l).map rd), .list ((runsT l).map rd)]) := by
  obtain ⟨a, b, c⟩ := runs_parts h
  revert a b c
  generalize PyData.list ((runsT l).map rd) = d
  intro a b c
  refine fit_small ?_ ?_ ?_
  · simp only [small, small.smallAll, a, Bool.and_true]
  · simp only [PyData.depth, PyData.depthAll]
    omega
  · simp only [PyData.bulk, PyData.bulkAll]
    omega
end Lw
namespace Lx
open PySem PySem.Spec L2 PyProof.Rows
/-! ### sum of a tuple of ints -/
def rSumT (K : PySem.W.Frag) : List V → Hp → VK → Prop := fun vs H Q => ∃ (a : Addr) (ns : List Int), vs = [V.ref a] ∧ SqT K H a (ns.map V.int) ∧ Q (.int ns.sum) H
theorem call_sumT {X : Cx} (hc : X.calm = true) : CallR X (.builtin "sum") (rSumT X.K) := by
  intro pins s σ H vs us Q I r h
  obtain ⟨a, ns, rfl, hs, q⟩ := h
  obtain ⟨its, rv, hl, _⟩ := I.tuple hs
  rw [Vals.ref1 r]
  have hi := rv.ints
  obtain ⟨xs, e⟩ := hi.allInts.items
  have hn : numsOf (intItems xs).toList = ns := by rw [← e]; exact hi.numsOf
  rw [nums_intItems] at hn
  have hl' : s.heap.IsTuple a (intItems xs) := by
    rw [← e]
    obtain ⟨o, h1, h2, n, h3⟩ := hl
    exact ⟨o, h1, h2, n, h3⟩
  refine PySem.W.ktm_sumG (I.ok.hd hc) hl' fun h' tk t' hk => ⟨.int _, H, I.kept hk, ⟨_, rfl⟩, ?_⟩
  rw [preSum_eq, List.take_of_length_le (by simp), hn]
  exact q
/-! ### a method of a tuple that is written where it is called -/
def tTupM (r : V → List V → Hp → VK → Prop) (t0 t : TA) : TE := fun σ H Q => t0 σ H fun ys H1 => ys.length ≤ sizeLine ∧ ∀ p, H1 p = none → t σ (upd H1 p (.tup ys)) fun xs H2 => r (.ref p) xs H2 Q
theorem pe_tupM {X : Cx} {es0 : List Expr} {x1} {tpos : Pos} {e : Expr} {es : List Expr} {t0 t : TA} {name : Str} {apos cpos : Pos} {id : String} {r : V → List V → Hp → VK → Prop} (pa : PlainAttrs "tuple") (slot : Slot "tuple" name id) (hty : typeOf (.builtin id) = pure (.type "method_descriptor")) (hm : MtR X id r) (h0 : PA X es0 t0) (ha : PA X (e :: es) t)
    (hbase : attributeBase (.Tuple es0 x1 tpos) name X.env (eval (.Tuple es0 x1 tpos) X.env) = eval (.Tuple es0 x1 tpos) X.env := by rfl)
    (hfew : ((backTo cpos (starEach (e :: es) X.env)).all (fun x => !x.1) && (backToKw cpos (keywordEach [] X.env)).all (fun x => x.1.isSome)
      && decide ((e :: es).length + ([] : List Keyword).length + (if ([] : List Keyword).isEmpty then 0 else 1) < 30)) = true := by rfl)
    (hline : (apos.endLine == cpos.line) = true := by rfl) (hs : starEach (e :: es) X.env = (false, eval e X.env) :: starEach es X.env := by rfl) (hplain : (backTo cpos (starEach es X.env)).any (·.1) = false := by rfl) :
    PE X (.Call (.Attribute (.Tuple es0 x1 tpos) name apos) (e :: es) [] cpos) (tTupM r t0 t) := by
  refine ⟨fun pins s σ H Q I h => ?_⟩
  refine wpAny_Call_method_late hbase hfew hline rfl ?_
  refine wpAny_Tuple_spliced (thn (h0.run tpos pins s σ H _ I h) fun us s1 ⟨xs, H1, I1, r1, z, q⟩ => ⟨by rw [← r1.length]; exact z, ?_⟩)
  have hf : H1 s1.heap.objs.size = none := I1.hok.fresh (Nat.le_refl _)
  have I2 := I1.laid (a := s1.heap.objs.size) (o := .tup xs) (h' := s1.heap.push { cls := .type "tuple", data := .seq us.toArray }) (t' := s1.toks) (fun b u e => Heap.get?_push_of_some _ e) (Nat.le_refl _) ⟨z, us, r1, ⟨_, Heap.get?_push_size _ rfl, rfl, _, rfl⟩⟩
  have hg : (s1.heap.push { cls := .type "tuple", data := .seq us.toArray }).get? s1.heap.objs.size = some { cls := .type "tuple", data := .seq us.toArray } := Heap.get?_push_size _ rfl
  refine ⟨"tuple", id, pa, slot, hty, ⟨_, hg, rfl⟩, fun a e => ?_, ?_⟩
  · cases e
    exact ⟨_, hg, rfl⟩
  · have hA := ha.run cpos pins _ σ _ _ I2 (q _ hf)
    rw [hs] at hA ⊢
    refine Calls.callWith_builtin (by show (false || (backTo cpos (starEach es X.env)).any (·.1)) = false; rw [hplain] <;> rfl) (Calls.evalArgs_plain ?_)
    exact thn hA fun us2 s2 ⟨vs, H2, I3, r2, q2⟩ => hm pins s2 σ H2 (.ref s1.heap.objs.size) vs (.ref s1.heap.objs.size) us2 Q I3 rfl r2 q2
end Lx
/-! the signs of a text counted by its runs; the runs of a long text are valid -/
namespace Lw
open PySem PySem.Spec L2 Lx
theorem sum_natV {α : Type} (f : α → Nat) : ∀ l : List α, (l.map fun x => ((f x : Nat) : Int)).sum = (((l.map f).sum : Nat) : Int)
  | [] => rfl
  | a :: l => by
    rw [List.map_cons, List.sum_cons, sum_natV f l, List.map_cons, List.sum_cons, Int.natCast_add]
theorem fold_spelt : ∀ (a : List Nat) (r : Rn4), Signs a → GOk r → speltT (runFold r a) = speltT r ++ a ∧ GOk (runFold r a)
  | [], r, _, h => ⟨(List.append_nil _).symm, h⟩
  | c :: a, r, ha, h => by
    obtain ⟨s1, s2⟩ := spelt_step h (ha c List.mem_cons_self)
    obtain ⟨t1, t2⟩ := fold_spelt a (runStep r c) (fun d hd => ha d (List.mem_cons_of_mem _ hd)) s2
    refine ⟨?_, t2⟩
    show speltT (runFold (runStep r c) a) = _
    rw [t1, s1, List.append_assoc]
    rfl
theorem spelt_rp {a : List Nat} (h : Signs a) : speltT (rpT a) = a := by
  rw [← run_rp h]
  exact (fold_spelt a ([], 0) h ⟨fun x hx => (by cases hx), Int.le_refl _⟩).1
def isSg (c : Nat) : Bool := decide (c = 94 ∨ c = 10)
theorem signs_runs : ∀ (n : Nat) (l : List Nat), l.length ≤ n → (l.filter isSg).length = ((runsT l).map fun r => (speltT r).length).sum := by
  have one : ∀ a, Signs a → (a.filter isSg).length = (((if a = [] then [] else [a]).map rpT).map fun r => (speltT r).length).sum := fun a ha => by
    have e : a.filter isSg = a := List.filter_eq_self.mpr fun c hc => decide_eq_true (ha c hc)
    rw [e]
    by_cases h : a = []
    · rw [if_pos h, h]
      rfl
    · rw [if_neg h]
      show a.length = (speltT (rpT a)).length + 0
      rw [spelt_rp ha]
      rfl
  intro n
  induction n with
  | zero =>
    intro l hn
    obtain rfl := List.length_eq_zero_iff.mp (Nat.le_zero.mp hn)
    rfl
  | succ n ih =>
    intro l hn
    obtain ⟨a, ha, rfl | ⟨e, r, he, rfl, hr⟩⟩ := cut_text l
    · unfold runsT
      rw [pieces_last ha]
      exact one _ ha
    · have ih2 := ih r (by omega)
      unfold runsT at ih2 ⊢
      have e2 : isSg e = false := decide_eq_false fun z => by rcases z with z | z; exact he.1 z; exact he.2 z
      rw [pieces_cons ha he, List.map_append, List.map_append, List.sum_append, ← one a ha, ← ih2, List.filter_append, List.length_append, List.filter_cons, e2]
      rfl
theorem tot_len : ∀ gs : List (Int × Int), (∀ x ∈ gs, 1 ≤ x.1 ∧ 0 ≤ x.2) → ((gs.flatMap fun x => (List.replicate x.1.toNat (Lx.up x.2.toNat ++ [10])).flatten).length : Int) = total gs
  | [], _ => rfl
  | g :: gs, h => by
    obtain ⟨g1, g2⟩ := h g List.mem_cons_self
    have ih := tot_len gs fun x hx => h x (List.mem_cons_of_mem _ hx)
    unfold total at ih ⊢
    rw [List.flatMap_cons, List.length_append, Int.natCast_add, ih, List.map_cons, List.sum_cons]
    congr 1
    have e1 : (Lx.up g.2.toNat ++ [10]).length = g.2.toNat + 1 := by
      rw [List.length_append]
      show (List.replicate _ _).length + 1 = _
      rw [List.length_replicate]
    have e2 : (List.replicate g.1.toNat (Lx.up g.2.toNat ++ [10])).flatten.length = g.1.toNat * (g.2.toNat + 1) := by
      generalize g.1.toNat = m
      induction m with
      | zero => simp
      | succ m ih2 => rw [List.replicate_succ, List.flatten_cons, List.length_append, ih2, e1, Nat.succ_mul]; omega
    rw [e2, Int.natCast_mul, Int.natCast_add, Int.toNat_of_nonneg (by omega), Int.toNat_of_nonneg g2]
    rfl
theorem units_spelt {r : Rn4} (h : GOk r) : units r nothing = ((speltT r).length : Int) := by
  unfold units
  rw [moved_nothing fun x hx => (h.1 x hx).2, ← tot_len _ h.1]
  unfold speltT
  rw [List.length_append, Int.natCast_add]
  congr 1
  show r.2 = ((List.replicate _ _).length : Int)
  rw [List.length_replicate, Int.toNat_of_nonneg h.2]
theorem gsok_add {n : Nat} {acc : List (Int × Int)} {x : Int × Int} (h : GsOk n acc) (x1 : 1 ≤ x.1) (x2 : Sm n x.1) (x3 : 0 ≤ x.2) (x4 : Sm n x.2) : GsOk (n + 1) (addTo acc x) := by
  have up : ∀ {gs}, GsOk n gs → GsOk (n + 1) gs := fun h i y hy => by
    obtain ⟨q1, q2, q3, q4, q5⟩ := h i y hy
    exact ⟨q1, q2, q3.mono (Nat.le_succ n), q4.mono (Nat.le_succ n), q5⟩
  rcases snoc_or acc with rfl | ⟨a, y, rfl⟩
  · exact gsok_snoc (gs := []) (fun i z hz => by simp at hz) (fun a y e => by simp at e) ⟨x1, x3, x2.mono (Nat.le_succ n), x4.mono (Nat.le_succ n)⟩
  · rw [addTo_snoc]
    by_cases ey : y.2 = x.2
    · rw [if_pos ey]
      obtain ⟨g1, g2, g3, g4⟩ := gsok_front h
      have hy := (h a.length y (by simp)).2.2.1
      exact gsok_snoc (up g1) (fun a' z e => by show z.2 ≠ x.2; rw [← ey]; exact g2 a' z e) ⟨by show 1 ≤ y.1 + x.1; omega, x3, hy.add x2, x4.mono (Nat.le_succ n)⟩
    · rw [if_neg ey]
      refine gsok_snoc (up h) (fun a' z e => ?_) ⟨x1, x3, x2.mono (Nat.le_succ n), x4.mono (Nat.le_succ n)⟩
      obtain ⟨_, rfl⟩ := List.append_inj' e rfl |>.imp id List.singleton_inj.mp
      exact ey
theorem gsok_fold : ∀ (gs acc : List (Int × Int)) (n : Nat), GsOk n acc → (∀ x ∈ gs, 1 ≤ x.1 ∧ Sm n x.1 ∧ 0 ≤ x.2 ∧ Sm n x.2) → GsOk (n + gs.length) (gs.foldl addTo acc)
  | [], _, _, h, _ => h
  | g :: gs, acc, n, h, hg => by
    obtain ⟨a, b, c, d⟩ := hg g List.mem_cons_self
    have := gsok_fold gs _ _ (gsok_add h a b c d) fun x hx => by
      obtain ⟨a, b, c, d⟩ := hg x (List.mem_cons_of_mem _ hx)
      exact ⟨a, b.mono (Nat.le_succ n), c, d.mono (Nat.le_succ n)⟩
    rw [List.length_cons, show n + (gs.length + 1) = n + 1 + gs.length by omega]
    exact this
theorem runs_gsok {l : List Nat} (h : l.length ≤ 5000) {r : Rn4} (hr : r ∈ runsT l) : GsOk 6000 r.1 ∧ 0 ≤ r.2 ∧ Sm 6000 r.2 ∧ r.1.length ≤ 100000 := by
  have hg := runs_grp hr
  obtain ⟨p, hp, rfl⟩ := List.mem_map.mp hr
  obtain ⟨h1, _, h3⟩ := piece_ok _ l (Nat.le_refl _) p hp
  obtain ⟨rows, rest, rfl⟩ := spT_of p h1
  obtain ⟨rl, rs, rn⟩ := @rows_small rows rest
  rw [rpT_spT] at hg ⊢
  have sm : ∀ {x : Nat}, x ≤ 5000 → Sm 20 (x : Int) := fun {x} hx => by
    have h2 : (2 : Nat) ^ 20 = 1048576 := by decide
    unfold Sm
    rw [Int.natAbs_natCast]
    omega
  have el : (rowP rows).length = rows.length := List.length_map _
  refine ⟨?_, Int.natCast_nonneg _, (sm (by omega)).mono (by decide), by omega⟩
  have m := gsok_fold (rowP rows) [] 20 (fun i z hz => by simp at hz) fun x hx => by
    obtain ⟨j, hj, rfl⟩ := List.mem_map.mp hx
    exact ⟨Int.le_refl _, sm (x := 1) (by decide), Int.natCast_nonneg _, sm (by have := rn j hj; omega)⟩
  intro i x hx
  obtain ⟨q1, q2, q3, q4, q5⟩ := m i x hx
  exact ⟨q1, q2, q3.mono (by omega), q4.mono (by omega), q5⟩
end Lw
namespace Lw
open PySem PySem.Spec L2 Lx
theorem scLaw : FnScope ["script", "rng", "lap", "line", "due", "others", "told", "pieces", "groups", "rest", "one", "run", "sign"] ["script"] (defScope sLaw) := ⟨rfl, rfl, rfl, by decide +kernel, rfl, by decide +kernel, by decide +kernel⟩
structure LwF (mg : Str → Option Value) : Prop where
  range : mg "range" = none
  min : mg "min" = none
  len : mg "len" = none
  repr : mg "repr" = none
  zip : mg "zip" = none
  sum : mg "sum" = none
theorem joinE4 (l : List Str) : (Txt.join "" l).cps.toList = l.flatMap fun x => x.cps.toList := by
  have jn : ∀ ps : List (List Nat), TL.joinL [] ps = ps.flatten := fun ps => by
    induction ps with
    | nil => rfl
    | cons a r ih =>
      cases r with
      | nil => show a = _; simp
      | cons b r =>
        show a ++ ([] ++ TL.joinL [] (b :: r)) = _
        rw [ih, List.nil_append]
        rfl
  rw [TL.join_eq]
  refine (TL.tl_join "" l).trans ?_
  show TL.joinL [] _ = _
  rw [jn, List.flatMap_def]
theorem prs_tup {K : PySem.W.Frag} {HB H' : Hp} (k3 : ∀ b xs, HB b = some (.tup xs) → H' b = some (.tup xs)) : ∀ {ws gs}, Prs K HB ws gs → Prs K H' ws gs
  | _, _, .nil => .nil
  | _, _, .cons ⟨q, e, hq⟩ t => .cons ⟨q, e, k3 _ _ hq⟩ (prs_tup k3 t)
theorem RnsF.keep {K : PySem.W.Frag} {H0 HB H' : Hp} {D : Addr} (k2 : ∀ b o, H0 b = none → HB b = some o → H' b = some o) (k3 : ∀ b xs, HB b = some (.tup xs) → H' b = some (.tup xs)) : ∀ {vs rs}, RnsF K H0 HB D vs rs → RnsD K H' D vs rs
  | _, _, .nil => .nil
  | _, _, .cons ⟨l, n, f, p, xs, h1, h2, h3, h4⟩ t => .cons ⟨l, n, p, xs, h1, k3 _ _ h2, k2 _ _ f h3, prs_tup k3 h4⟩ (RnsF.keep k2 k3 t)
theorem RnsF.get {K : PySem.W.Frag} {H0 H : Hp} {D : Addr} : ∀ {vs rs}, RnsF K H0 H D vs rs → ∀ {i : Nat} {v : V}, vs[i]? = some v → ∃ l g, rs[i]? = some g ∧ l ≠ D ∧ H0 l = none ∧ RnS K H v l g
  | _, _, .nil, i, v, h => by simp at h
  | _, _, .cons ⟨l, n, f, h⟩ t, 0, v, e => by cases Option.some.inj e; exact ⟨l, _, rfl, n, f, h⟩
  | _, _, .cons _ t, i + 1, v, e => RnsF.get t (i := i) e
def spLaw (K : PySem.W.Frag) : Sp := fun vs H Q _ => ∃ (a : Addr) (ns : List Int), vs = [.ref a] ∧ SqL K H a (ns.map V.int) ∧ ns.length ≤ 63 ∧ ∀ H', Q (.bl true) H'
section
variable {P : Program} {w : World} {K : PySem.W.Frag} {mg : Str → Option Value} {base : Heap}
theorem ok_law {f aG aD aL aP aS aR aZ : Addr} {fd dG dD dL dP dS dR dZ : FuncData} {k : Nat} (F : Fun K "law" "law" sLaw f fd) (Z : LwF mg)
    (cG : Cl P w K mg base k "_law_rng" ["script"] (spRng K) aG dG)
    (cD : Cl P w K mg base k "_law_draw" ["rng", "limit"] spDraw aD dD)
    (cL : Cl P w K mg base k "_law_line" ["rng", "most"] spLine aL dL)
    (cP : Cl P w K mg base k "_law_parse" ["line"] (spParse K) aP dP)
    (cSp : Cl P w K mg base k "_law_spelt" ["run"] (spSpelt K) aS dS)
    (cRo : Cl P w K mg base k "runs_of" ["text"] (spRso4 K) aR dR)
    (kcRo : KBinds K dR ["text"] ["text"] (g1 Value) (g1 V))
    (cZ : Cl P w K mg base k "size" ["run"] (spSz4 K) aZ dZ) : FnG P w K mg base CX0 (k + 1) f fd ["script"] (spLaw K) := by
  refine okG F scLaw (fun vs H Q E h => ?_) (fun cdv A outer s H vs Q E hr hg h => ?_)
  · obtain ⟨a, ns, rfl, _⟩ := h
    rfl
  · obtain ⟨a, ns, rfl, hS, hlen, q⟩ := h
    refine ⟨_, PSs.nox ((pss_cons (ps_set (i := 1) scLaw.nd rfl (.inl rfl) (pe_call cG.G hr (by rfl) cG.g cG.kp cG.b .nil pass0 (pa_cons (pv 0) pa_nil)))
      (pss_cons (ps_for PassesOwn.never rfl (pi_range1 rfl Z.range (pa_cons (pe_op op_add pe_int (pe_callB (call_min2 rfl) (by rfl) Z.min (by decide +kernel) (pa_cons pe_int (pa_cons (pe_callB call_len_seq (by rfl) Z.len PySem.boot_len (pa_cons (pv 0) pa_nil)) pa_nil)))) pa_nil)) (pg_name (i := 2) scLaw.nd rfl (.inl rfl))
          (pss_cons (ps_set (i := 3) scLaw.nd rfl (.inl rfl) (pe_call cL.G hr (by rfl) cL.g cL.kp cL.b .nil pass0 (pa_cons (pv 1) (pa_cons (pe_ix ix_list (pe_lst (pa_cons pe_int (pa_cons pe_int pa_nil))) (pe_call cD.G hr (by rfl) cD.g cD.kp cD.b .nil pass0 (pa_cons (pv 1) (pa_cons pe_int pa_nil))) (fun _ _ => rfl)) pa_nil))))
          (pss_cons (ps_asg (pe_call cP.G hr (by rfl) cP.g cP.kp cP.b .nil pass0 (pa_cons (pv 3) pa_nil)) (pg_unl (by rfl) (pgs_cons (pg_name (i := 4) scLaw.nd rfl (.inl rfl)) (pgs_cons (pg_name (i := 5) scLaw.nd rfl (.inl rfl)) pgs_nil))))
          (pss_cons (ps_set (i := 6) scLaw.nd rfl (.inl rfl) (pe_lst (pa_cons (pe_call cRo.G hr (by rfl) cRo.g cRo.kp cRo.b .nil pass0 (pa_cons (pv 3) pa_nil)) (pa_cons (pe_callK0 cRo.G hr (by rfl) cRo.g cRo.kp kcRo pass0 (pk_cons (pv 3) pk_nil)) pa_nil))))
          (pss_cons (ps_if (pt_cmpR op_ne (pe_callB (call_reprD hg hr.units) (by rfl) Z.repr (by decide +kernel) (pa_cons (pv 6) pa_nil)) (pe_callB (call_reprD hg hr.units) (by rfl) Z.repr (by decide +kernel) (pa_cons (pe_lst (pa_cons (pv 4) (pa_cons (pv 4) pa_nil))) pa_nil)) (nomark _))
              (pss_one (ps_ret pe_bl)) pss_nil)
          (pss_cons (ps_setLc (i := 7) (own := [("one", 10), ("run", 11)]) (g := (gTup K 2 (gCons (gName 10) (gCons (gName 11) gNil)))) (tt := tYes) rfl scLaw.nd rfl rfl (sw_true rfl rfl rfl (by decide +kernel)) (pi_zip (by rfl) Z.zip (pa_cons (pv 5) (pa_cons (pe_ix ix_list (pv 6) pe_int (fun _ _ => rfl)) pa_nil))) (blkOk_by (own := [("one", 10), ("run", 11)]) (N := ["script", "rng", "lap", "line", "due", "others", "told", "pieces", "groups", "rest", "one", "run", "sign"]) (sc := defScope sLaw) (by decide +kernel)) (fun _ _ _ _ _ => (pg_tup (by rfl) (pgs_cons (pg_name (i := 10) scLaw.nd rfl (.inl rfl)) (pgs_cons (pg_name (i := 11) scLaw.nd rfl (.inl rfl)) pgs_nil)))) (fun _ _ _ _ _ => pts_nil) (fun _ _ _ _ _ => (pe_op op_add_str (pv 10) (pe_call cSp.G hr (by rfl) cSp.g cSp.kp cSp.b .nil pass0 (pa_cons (pv 11) pa_nil)))))
          (pss_cons (ps_if (pt_cmpR op_ne (pe_op op_add_str (pe_join pe_str (pv 7)) (pe_ix ix_list (pv 5) (pe_un un_neg pe_int) (fun _ _ => rfl))) (pv 3) (nomark _))
              (pss_one (ps_ret pe_bl)) pss_nil)
          (pss_cons (ps_if (pt_cmpR op_ne (pe_callB (cr_sum rfl) (by rfl) Z.sum (by decide +kernel) (pa_cons (pe_lc (own := [("run", 11)]) (g := (gName 11)) (tt := tYes) rfl scLaw.nd (pi_list (pe_ix ix_list (pv 6) pe_int (fun _ _ => rfl))) (blkOk_by (own := [("run", 11)]) (N := ["script", "rng", "lap", "line", "due", "others", "told", "pieces", "groups", "rest", "one", "run", "sign"]) (sc := defScope sLaw) (by decide +kernel)) (fun _ _ _ _ _ => (pg_name (i := 11) scLaw.nd rfl (.inl rfl))) (fun _ _ _ _ _ => pts_nil) (fun _ _ _ _ _ => (pe_call cZ.G hr (by rfl) cZ.g cZ.kp cZ.b .nil pass0 (pa_cons (pv 11) pa_nil)))) pa_nil)) (pe_callB call_len_seq (by rfl) Z.len PySem.boot_len (pa_cons (pe_lc (own := [("sign", 12)]) (g := (gName 12)) (tt := _) rfl scLaw.nd (pi_str (pv 3)) (blkOk_by (own := [("sign", 12)]) (N := ["script", "rng", "lap", "line", "due", "others", "told", "pieces", "groups", "rest", "one", "run", "sign"]) (sc := defScope sLaw) (by decide +kernel)) (fun _ _ _ _ _ => (pg_name (i := 12) scLaw.nd rfl (.inl rfl))) (fun _ _ _ _ _ => (pts_one (pt_cmpR op_in_sign (pv 12) pe_str (by with_unfolding_all rfl)))) (fun _ _ _ _ _ => (pv 12))) pa_nil)) (nomark _))
              (pss_one (ps_ret pe_bl)) pss_nil)
          (pss_cons (ps_for PassesOwn.never rfl (pi_list (pe_ix ix_list (pv 6) pe_int (fun _ _ => rfl))) (pg_tup (by rfl) (pgs_cons (pg_name (i := 8) scLaw.nd rfl (.inl rfl)) (pgs_cons (pg_name (i := 9) scLaw.nd rfl (.inl rfl)) pgs_nil)))
              (pss_one (ps_expr (pe_bm PySem.F.plainAttrs_list PySem.F.slot_list_append PySem.F.type_list_append mt_append (pv 8) (pa_cons (pe_tup (pa_cons pe_int (pa_cons pe_int pa_nil))) pa_nil)))))
          (pss_one (ps_if (PW.pt (pw_or (pt_cmpR op_ne (pe_callB (call_reprD hg hr.units) (by rfl) Z.repr (by decide +kernel) (pa_cons (pe_ix ix_list (pv 6) pe_int (fun _ _ => rfl)) pa_nil)) (pe_callB (call_reprD hg hr.units) (by rfl) Z.repr (by decide +kernel) (pa_cons (pv 4) pa_nil)) (nomark _)) (pw_or1 (pt_cmpR op_ne (pe_callB (call_reprD hg hr.units) (by rfl) Z.repr (by decide +kernel) (pa_cons (pe_call cRo.G hr (by rfl) cRo.g cRo.kp cRo.b .nil pass0 (pa_cons (pv 3) pa_nil)) pa_nil)) (pe_callB (call_reprD hg hr.units) (by rfl) Z.repr (by decide +kernel) (pa_cons (pv 4) pa_nil)) (nomark _)))))
              (pss_one (ps_ret pe_bl)) pss_nil)))))))))))
      (pss_cons (ps_set (i := 3) scLaw.nd rfl (.inl rfl) (pe_op op_add_str (pe_op op_add_str (pe_op op_repS pe_str (pe_call cD.G hr (by rfl) cD.g cD.kp cD.b .nil pass0 (pa_cons (pv 1) (pa_cons pe_int pa_nil)))) (pe_op op_repS pe_str (pe_op op_add pe_int (pe_call cD.G hr (by rfl) cD.g cD.kp cD.b .nil pass0 (pa_cons (pv 1) (pa_cons pe_int pa_nil)))))) (pe_op op_repS pe_str (pe_call cD.G hr (by rfl) cD.g cD.kp cD.b .nil pass0 (pa_cons (pv 1) (pa_cons pe_int pa_nil))))))
      (pss_cons (ps_if (pt_cmpR op_ne (pe_callB (call_reprD hg hr.units) (by rfl) Z.repr (by decide +kernel) (pa_cons (pe_call cRo.G hr (by rfl) cRo.g cRo.kp cRo.b .nil pass0 (pa_cons (pv 3) pa_nil)) pa_nil)) (pe_callB (call_reprD hg hr.units) (by rfl) Z.repr (by decide +kernel) (pa_cons (pe_ix ix_list (pe_call cP.G hr (by rfl) cP.g cP.kp cP.b .nil pass0 (pa_cons (pv 3) pa_nil)) pe_int (fun _ _ => rfl)) pa_nil)) (nomark _))
          (pss_one (ps_ret pe_bl)) pss_nil)
      (pss_one (ps_ret (pe_and (pe_cmpR (op_eqD hr.units) (pe_call cRo.G hr (by rfl) cRo.g cRo.kp cRo.b .nil pass0 (pa_cons pe_str pa_nil)) (pe_lst (pa_cons (pe_tup (pa_cons (pe_lst (pa_cons (pe_tup (pa_cons pe_int (pa_cons pe_int pa_nil))) pa_nil)) (pa_cons pe_int pa_nil))) (pa_cons (pe_tup (pa_cons (pe_lst (pa_cons (pe_tup (pa_cons pe_int (pa_cons pe_int pa_nil))) pa_nil)) (pa_cons pe_int pa_nil))) pa_nil))) (nomark _)) (pe_and (pe_cmpR (op_eqD hr.units) (pe_call cRo.G hr (by rfl) cRo.g cRo.kp cRo.b .nil pass0 (pa_cons pe_str pa_nil)) (pe_lst pa_nil) (nomark _)) (pe_one (pe_cmpR (op_eqD hr.units) (pe_call cRo.G hr (by rfl) cRo.g cRo.kp cRo.b .nil pass0 (pa_cons pe_str pa_nil)) (pe_lst pa_nil) (nomark _)))))))))))), ?_⟩
    refine ⟨_, rfl, a, ns, rfl, hS, hlen, fun H1 r s1 nr hR => ?_⟩
    dsimp only [gName, tNext, tSeq]
    refine ⟨_, rfl, a, _, rfl, .inl (s1.seq hS), 10, _, rfl, _, _, rfl, rfl, _, rfl, ?_, ?_, ?_⟩
    · split <;> omega
    · split <;> omega
    have hb : (6 + (if ((ns.map V.int).length : Int) < 10 then ((ns.map V.int).length : Int) else 10)).toNat ≤ 16 := by split <;> omega
    generalize (6 + (if ((ns.map V.int).length : Int) < 10 then ((ns.map V.int).length : Int) else 10)).toNat = laps at hb
    refine for_range (lo := 0) (n := laps) (fun i σ H' => ∃ y2 y3 y4 y5 y6 y7 y8 y9 y10 y11 y12, σ = [some (.ref a), some (.ref r), y2, y3, y4, y5, y6, y7, y8, y9, y10, y11, y12] ∧ RngAt H' r (10000 * i)) ⟨_, _, _, _, _, _, _, _, _, _, _, rfl, hR⟩ ?_ ?_
    · rintro i σ H3 hi ⟨y2, y3, y4, y5, y6, y7, y8, y9, y10, y11, y12, rfl, hR3⟩
      dsimp only [gName, tNext, tSeq]
      refine ⟨_, rfl, by show 2 ≤ sizeLine; decide, fun D nD => ?_⟩
      have hr0 := hR3.same (same_upd (o := .lst [V.int 60, V.int 2000]) nD)
      have hDr : D ≠ r := hR3.ne nD
      have hD : upd H3 D (.lst [V.int 60, V.int 2000]) D = _ := upd_same
      generalize upd H3 D (.lst [V.int 60, V.int 2000]) = H4 at hr0 hD
      refine ⟨_, rfl, r, _, 2, rfl, hr0, by omega, by decide, by decide, fun v H5 v0 v1 hR5 b5 => ?_⟩
      have hD5 := (b5 D hDr).trans hD
      obtain ⟨m, hm, hat⟩ : ∃ m : Nat, m ≤ 2000 ∧ atI [V.int 60, V.int 2000] v = some (.int (m : Int)) := by
        rcases (by omega : v = 0 ∨ v = 1) with rfl | rfl
        · exact ⟨60, by decide, rfl⟩
        · exact ⟨2000, by decide, rfl⟩
      refine ⟨D, _, v, _, rfl, rfl, .inl (.inl hD5), hat, r, _, m, rfl, hR5, by omega, hm, fun line H6 hline hlow hR6 k6 => ?_⟩
      clear k6 hR5 hD5 hr0 hD b5
      dsimp only [gName, tNext, tSeq]
      refine ⟨_, rfl, line, rfl, by omega, fun pd pf po ws ols H7 s7 npd npf npo hpd hpf hws hpo hols => ?_⟩
      refine ⟨pd, _, rfl, .inl (.inl hpd), rfl, _, _, rfl, _, _, rfl, rfl, ?_⟩
      dsimp only [gName, tNext, tSeq]
      refine ⟨_, rfl, line, rfl, by omega, fun p1 us1 H8 s8 np1 hp1 hu1 => ?_⟩
      refine ⟨_, rfl, line, rfl, by omega, fun p2 us2 H9 s9 np2 hp2 hu2 => ?_⟩
      refine ⟨by show 2 ≤ sizeLine; decide, fun T nT => ?_⟩
      have sT := same_upd (o := .lst [V.ref p1, V.ref p2]) nT
      have hL : line.cps.toList.length ≤ 2000 := by rw [Array.length_toList]; omega
      have eD : ∀ H', Same H9 H' → Dq K H' (.ref p1) (.list ((runsT line.cps.toList).map rd)) ∧ Dq K H' (.ref p2) (.list ((runsT line.cps.toList).map rd)) ∧ Dq K H' (.ref pf) (.list ((runsT line.cps.toList).map rd)) := fun H' s =>
        ⟨.lst (s _ _ (s9 _ _ hp1)) (hu1.d.same (s9.trans s)).rns.dq, .lst (s _ _ hp2) (hu2.d.same s).rns.dq, .lst (s _ _ (s9 _ _ (s8 _ _ hpf))) (hws.same ((s8.trans s9).trans s)).rns.dq⟩
      have hT : upd H9 T (.lst [V.ref p1, V.ref p2]) T = _ := upd_same
      generalize upd H9 T (.lst [V.ref p1, V.ref p2]) = H10 at sT hT
      obtain ⟨d1, d2, d3⟩ := eD H10 sT
      dsimp only [gName, tNext, tSeq]
      refine ⟨_, rfl, .ref T, .list _, rfl, (Dq.lst hT (.cons d1 (.cons d2 .nil))).dp, runs_fit2 hL, ?_⟩
      refine ⟨_, rfl, _, rfl, by show 2 ≤ sizeLine; decide, fun T2 nT2 => ?_⟩
      have sT2 := same_upd (o := .lst [V.ref pf, V.ref pf]) nT2
      have hT2 : upd H10 T2 (.lst [V.ref pf, V.ref pf]) T2 = _ := upd_same
      generalize upd H10 T2 (.lst [V.ref pf, V.ref pf]) = H11 at sT2 hT2
      obtain ⟨d1', d2', d3'⟩ := eD H11 (sT.trans sT2)
      refine ⟨.ref T2, .list _, rfl, (Dq.lst hT2 (.cons d3' (.cons d3' .nil))).dp, runs_fit2 hL, rfl, _, rfl, ?_⟩
      rw [decide_eq_true rfl]
      refine iteF ?_
      dsimp only [gName, tNext, tSeq]
      have hpj := parse_all line.cps.toList
      obtain ⟨⟨os', last, eo, elen, eall, _⟩, hgok⟩ := hpj
      rw [parseT_runs] at elen eall hgok
      rw [eo] at hols
      have hsT11 := sT.trans sT2
      have hp1' := hsT11 _ _ (s9 _ _ hp1)
      have hpo' := hsT11 _ _ (s9 _ _ (s8 _ _ hpo))
      have hu1' := hu1.same (s9.trans hsT11)
      have hT' := sT2 _ _ hT
      have hul := hu1.len
      have hol : ols.length = os'.length + 1 := by
        have := congrArg List.length hols
        rw [List.length_map, List.length_append, List.length_singleton] at this
        exact this
      have hLc := congrArg List.length eall
      rw [List.length_append] at hLc
      have hmem : ∀ (q : Nat) (o : List Nat) (g : Rn4), os'[q]? = some o → (runsT line.cps.toList)[q]? = some g → o.length + (speltT g).length ≤ 2000 := fun q o g h1 h2 => by
        have h3 : o ++ speltT g ∈ List.zipWith (fun o r => o ++ speltT r) os' (runsT line.cps.toList) := by
          refine List.mem_iff_getElem?.mpr ⟨q, ?_⟩
          rw [List.getElem?_zipWith, h1, h2]
        have h4 := List.Sublist.length_le (List.sublist_flatten_of_mem h3)
        rw [List.length_append] at h4
        unfold zipJ at hLc
        omega
      refine ⟨_, rfl, _, rfl, T, _, 0, _, rfl, rfl, .inl (.inl hT'), rfl, po, p1, _, _, rfl, .inl (.inl hpo'), .inl (.inl hp1'), fun D2 nD2 => ?_⟩
      refine lc_it (walk_zip (n := us1.length) (xs := ols.map V.str) (ys := us1) (by rw [List.length_map]; omega)) (fun q H' => Same H11 H' ∧ ∃ ps : List Str, H' D2 = some (.lst (ps.map V.str)) ∧ ps.map (fun s => s.cps.toList) = (List.zipWith (fun o r => o ++ speltT r) os' (runsT line.cps.toList)).take q) ⟨same_upd nD2, [], upd_same, rfl⟩ (fun _ H' _ hQ => ⟨.inl (.inl (hQ.1 _ _ hpo')), .inl (.inl (hQ.1 _ _ hp1'))⟩) ?_ ?_
      · rintro q u H12 H13 hq ⟨sm, ps, hD, hps⟩ ⟨T3, u1, u2, rfl, nT3, rfl, h1, h2⟩
        replace h1 : (ols.map V.str)[q]? = some u1 := h1
        replace h2 : us1[q]? = some u2 := h2
        rw [List.getElem?_map] at h1
        obtain ⟨o, ho, h1⟩ := Option.map_eq_some_iff.mp h1
        subst h1
        obtain ⟨g, l, hg, hgs⟩ := hu1'.d.rns.get h2
        have s3 := same_upd (o := .tup [.str o, u2]) nT3
        have hT3 : upd H12 T3 (.tup [.str o, u2]) T3 = _ := upd_same
        generalize upd H12 T3 (.tup [.str o, u2]) = H14 at s3 hT3
        have hos : os'[q]? = some o.cps.toList := by
          have h5 : (ols.map (fun s => s.cps.toList))[q]? = some o.cps.toList := by rw [List.getElem?_map, ho]; rfl
          rw [hols, List.getElem?_append_left (by omega)] at h5
          exact h5
        have hbd := hmem q _ g hos hg
        refine ⟨T3, _, rfl, .inl (.inl hT3), rfl, _, _, rfl, _, _, rfl, rfl, rfl, ?_⟩
        refine ⟨_, rfl, _, rfl, u2, l, g, rfl, (hgs.same (sm.trans s3)).rn, hgok g (List.mem_of_getElem? hg), by omega, fun z H15 s15 hz => ?_⟩
        have hzl : z.length = (speltT g).length := by rw [← hz, Array.length_toList]; rfl
        have hyl : o.length = o.cps.toList.length := by rw [Array.length_toList]; rfl
        refine ⟨o, z, rfl, rfl, by rw [sizeLine_eq]; omega, _, (s3.trans s15) _ _ hD, ?_, Same.own (sm.trans (s3.trans s15)) nD2, ps ++ [o ++ z], ?_, ?_⟩
        · have := congrArg List.length hps
          rw [List.length_map, List.length_take] at this
          rw [List.length_map, sizeLine_eq]
          have hrl : (runsT line.cps.toList).length = us1.length := hul.symm
          have hrl2 := (parse_bdT line.cps.toList).f
          rw [parseT_runs] at hrl2
          omega
        · rw [upd_same, List.map_append]
          rfl
        · rw [List.map_append, hps, List.take_succ, List.getElem?_zipWith, hos, hg]
          congr 1
          show [(o ++ z).cps.toList] = [o.cps.toList ++ speltT g]
          rw [← hz]; exact congrArg (fun t => [t]) (Array.toList_append ..)
      · rintro H12 ⟨sm, ps, hD, hps⟩
        have hzw : (List.zipWith (fun o r => o ++ speltT r) os' (runsT line.cps.toList)).length ≤ us1.length := by
          rw [List.length_zipWith]
          omega
        rw [List.take_of_length_le hzw] at hps
        have hpl : ps.length ≤ us1.length := by
          have := congrArg List.length hps
          rw [List.length_map] at this
          omega
        have hfl : (ps.map (fun s => s.cps.toList)).flatten = zipJ os' (runsT line.cps.toList) := by rw [hps]; rfl
        have hsum : (ps.map (·.length)).sum = (zipJ os' (runsT line.cps.toList)).length := by
          rw [← hfl, List.length_flatten, List.map_map]
          congr 1
        obtain ⟨ols', lsl, e1, hA, hB⟩ := List.map_eq_append_iff.mp hols
        obtain ⟨ls, e2, hls⟩ := List.map_eq_singleton_iff.mp hB
        subst e2 e1
        have hjl : (Txt.join "" ps).cps.toList = zipJ os' (runsT line.cps.toList) := by
          rw [joinE4, ← hfl]
          exact List.flatMap_def ..
        have hpo12 := sm _ _ hpo'
        rw [List.map_append] at hpo12
        dsimp only [gName, tNext, tSeq]
        refine ⟨⟨"", rfl⟩, _, rfl, "", D2, ps, rfl, rfl, .inl (.inl (.inl hD)), by rw [hsum]; show _ + _ * 0 ≤ _; omega, ?_⟩
        refine ⟨_, rfl, (1 : Int), rfl, po, _, (-1 : Int), V.str ls, rfl, rfl, .inl (.inl hpo12), atI_last _ _, _, _, rfl, rfl, ?_, ?_⟩
        · rw [sizeLine_eq]
          have h1 : (Txt.join "" ps).length = (zipJ os' (runsT line.cps.toList)).length := by rw [← hjl, Array.length_toList]; rfl
          have h2 : ls.length = last.length := by rw [← hls, Array.length_toList]; rfl
          omega
        have hall : Txt.join "" ps ++ ls = line := by
          refine str_ext ?_
          refine (Array.toList_append ..).trans ?_
          rw [hjl, hls]
          exact eall.symm
        rw [hall]
        refine ⟨_, rfl, rfl, _, rfl, ?_⟩
        rw [decide_eq_true rfl]
        refine iteF ?_
        dsimp only [gName, tNext, tSeq]
        have hT12 := sm _ _ hT'
        have hp12 := sm _ _ hp1'
        refine ⟨_, rfl, T, _, 0, _, rfl, rfl, .inl (.inl hT12), rfl, p1, rfl, ⟨us1, .inl (.inl hp12)⟩, fun D3 nD3 => ?_⟩
        refine lc_it (walk_list (xs := us1)) (fun q H' => Same H12 H' ∧ H' D3 = some (.lst ((((runsT line.cps.toList).take q).map fun r => ((speltT r).length : Int)).map V.int))) ⟨same_upd nD3, upd_same⟩ (fun _ H' _ hQ => .inl (.inl (hQ.1 _ _ hp12))) ?_ ?_
        · rintro q u H13 H14 hq ⟨sm3, hD3⟩ ⟨rfl, hu⟩
          obtain ⟨g, l, hg, hgs⟩ := hu1'.d.rns.get hu
          obtain ⟨b1, b2, b3, b4⟩ := runs_gsok (by omega) (List.mem_of_getElem? hg)
          refine ⟨rfl, _, rfl, u, l, g, 6000, rfl, (hgs.same (sm.trans sm3)).rn, b1, ⟨b2, b3, b4⟩, by decide, fun H15 s15 => ?_⟩
          refine ⟨_, s15 _ _ hD3, ?_, Same.own (sm3.trans s15) nD3, ?_⟩
          · rw [List.length_map, List.length_map, List.length_take, sizeLine_eq]
            have hrl2 := (parse_bdT line.cps.toList).f
            rw [parseT_runs] at hrl2
            omega
          · rw [upd_same, List.take_succ, hg, List.map_append, List.map_append, units_spelt (hgok g (List.mem_of_getElem? hg))]
            rfl
        · rintro H13 ⟨sm3, hD3⟩
          rw [List.take_of_length_le (Nat.le_of_eq hul.symm)] at hD3
          refine ⟨D3, _, rfl, .inl (.inl hD3), ?_⟩
          refine ⟨_, rfl, line, rfl, fun D4 nD4 => ?_⟩
          refine lc_it walk_str (fun j H' => Same H13 H' ∧ H' D4 = some (.lst (((line.cps.toList.take j).filter isSg).map fun c => V.str ⟨#[c]⟩))) ⟨same_upd nD4, upd_same⟩ (fun _ _ _ _ => trivial) ?_ ?_
          · rintro j u H15 H16 hj ⟨sm4, hD4⟩ ⟨rfl, c, hc, rfl⟩
            have hcl : line.cps.toList[j]? = some c := by rw [Array.getElem?_toList]; exact hc
            have smem : c ∈ ("^\n" : Str).cps.toList ↔ c = 94 ∨ c = 10 := by
              show c ∈ ([94, 10] : List Nat) ↔ _
              simp
            have htk : ((line.cps.toList.take (j + 1)).filter isSg).map (fun c => V.str ⟨#[c]⟩) = ((line.cps.toList.take j).filter isSg).map (fun c => V.str ⟨#[c]⟩) ++ (if isSg c = true then [V.str ⟨#[c]⟩] else []) := by
              rw [List.take_succ, hcl, List.filter_append, List.map_append]
              congr 1
              show (List.filter isSg [c]).map _ = _
              rw [List.filter_cons]
              split <;> rfl
            have hcnt : ((line.cps.toList.take j).filter isSg).length ≤ 2000 := by
              have h1 := List.length_filter_le isSg (line.cps.toList.take j)
              rw [List.length_take] at h1
              omega
            refine ⟨rfl, _, rfl, c, "^\n", rfl, rfl, _, rfl, ite2 (fun hm => ?_) (fun hm => ?_)⟩
            · have hm2 := smem.mp (of_decide_eq_true hm)
              refine ⟨_, rfl, _, hD4, by rw [List.length_map, sizeLine_eq]; omega, Same.own sm4 nD4, ?_⟩
              rw [upd_same, htk, if_pos (show isSg c = true from decide_eq_true hm2)]
            · have hm2 : ¬ (c = 94 ∨ c = 10) := fun z => hm (decide_eq_true (smem.mpr z))
              refine ⟨sm4, ?_⟩
              rw [htk, if_neg (show ¬ isSg c = true from fun z => hm2 (of_decide_eq_true z)), List.append_nil]
              exact hD4
          · rintro H15 ⟨sm4, hD4⟩
            have e : line.cps.toList.take line.cps.size = line.cps.toList := List.take_of_length_le (by simp)
            rw [e] at hD4
            refine ⟨D4, _, rfl, .inl (.inl (.inl hD4)), rfl, _, rfl, ?_⟩
            rw [decide_eq_true (show V.int _ = V.int _ from congrArg V.int (by
              rw [List.length_map, signs_runs _ _ (Nat.le_refl _), sum_natV fun r => (speltT r).length]))]
            refine iteF ?_
            dsimp only [gName, tNext, tSeq]
            clear hall hD3 hD4 hpo12 hsum hjl hfl hps hD hmem hLc hols hA hB
            have s12_15 := sm3.trans sm4
            have hT15 := s12_15 _ _ hT12
            have hp15 := s12_15 _ _ hp12
            have s11_15 := sm.trans s12_15
            have s10_15 := sT2.trans s11_15
            have s9_15 := sT.trans s10_15
            have s8_15 := s9.trans s9_15
            have hu15 : RnsF K H7 H15 p1 us1 (runsT line.cps.toList) := hu1.same s8_15
            have hv15 : RnsF K H8 H15 p2 us2 (runsT line.cps.toList) := hu2.same s9_15
            have hp2_15 := s9_15 _ _ hp2
            clear hT12 hp12 sm sm3 sm4 s12_15 hT' hp1' hpo'
            refine ⟨_, rfl, T, _, 0, _, rfl, rfl, .inl (.inl hT15), rfl, p1, rfl, ⟨us1, .inl (.inl hp15)⟩, ?_⟩
            refine for_it (walk_list (xs := us1)) (fun q σ H' => ∃ y8 y9, σ = [some (.ref a), some (.ref r), some (.int (0 + (i : Int))), some (.str line), some (.ref pf), some (.ref po), some (.ref T), some (.ref D2), y8, y9, y10, y11, y12] ∧ Same H7 H' ∧ (∀ b o, H8 b = none → H15 b = some o → H' b = some o) ∧ (∀ b xs, H15 b = some (.tup xs) → H' b = some (.tup xs)) ∧ H' p1 = some (.lst us1) ∧ ∀ u l g, u ∈ us1 → RnS K H15 u l g → ∃ ws, H' l = some (.lst ws) ∧ ws.length ≤ 2000 + q) ⟨_, _, rfl, s8.trans s8_15, fun _ _ _ h => h, fun _ _ h => h, hp15, ?_⟩ (fun _ _ H' _ ⟨_, _, _, _, _, _, h, _⟩ => .inl (.inl h)) ?_ ?_
            · rintro u l g hm ⟨p, xs, e1, e2, e3, e4⟩
              refine ⟨xs, e3, ?_⟩
              obtain ⟨q, hq⟩ := List.mem_iff_getElem?.mp hm
              obtain ⟨l2, g2, hg2, _, _, p2', xs2, f1, f2, f3, f4⟩ := hu15.get hq
              have e5 : p = p2' := V.ref.inj (e1.symm.trans f1)
              subst e5
              rw [e2] at f2
              have e6 : l = l2 := V.ref.inj (List.cons.inj (HO.tup.inj (Option.some.inj f2))).1
              subst e6
              rw [e3] at f3
              have e7 : xs = xs2 := HO.lst.inj (Option.some.inj f3)
              subst e7
              have hln := f4.len
              have hgr := runs_grp (List.mem_of_getElem? hg2)
              omega
            · rintro q u σ H16 H17 hq ⟨y8, y9, rfl, k1, k2, k3, k4, k5⟩ ⟨rfl, hu⟩
              obtain ⟨l, g, hg, hl1, hl7, p, xs, rfl, e2, e3, e4⟩ := hu1.get hu
              have hrn : RnS K H15 (.ref p) l g := RnS.same s8_15 ⟨p, xs, rfl, e2, e3, e4⟩
              obtain ⟨ws2, hw2, hwl⟩ := k5 _ _ _ (List.mem_of_getElem? hu) hrn
              have hp := k3 _ _ (s8_15 _ _ e2)
              refine ⟨p, _, rfl, .inl (.inl hp), rfl, _, _, rfl, _, _, rfl, rfl, ?_⟩
              refine ⟨_, rfl, .inl ⟨rfl, _, .inl (.inl hw2)⟩, by show 2 ≤ sizeLine; decide, fun t nt => ⟨l, ws2, .ref t, rfl, rfl, (same_upd nt) _ _ hw2, by rw [sizeLine_eq]; have := (parse_bdT line.cps.toList).f; rw [parseT_runs] at this; omega, ?_⟩⟩
              have up : ∀ b o, b ≠ l → H17 b = some o → upd (upd H17 t (.tup [.int 1, .int 1])) l (.lst (ws2 ++ [.ref t])) b = some o := fun b o h1 h2 => by
                rw [upd_ne h1]
                exact same_upd nt _ _ h2
              refine ⟨_, _, rfl, fun b o h => up b o (fun e => by rw [e, hl7] at h; cases h) (k1 _ _ h), fun b o h1 h2 => up b o (fun e => by rw [e, e3] at h1; cases h1) (k2 _ _ h1 h2), fun b ys h => up b _ (fun e => by rw [e, s8_15 _ _ e3] at h; cases h) (k3 _ _ h), up _ _ (Ne.symm hl1) k4, fun u2 l2 g2 hm2 hr2 => ?_⟩
              obtain ⟨ws3, hw3, hwl3⟩ := k5 u2 l2 g2 hm2 hr2
              by_cases hll : l2 = l
              · rw [hll]
                refine ⟨_, upd_same, ?_⟩
                rw [List.length_append, List.length_singleton]
                omega
              · exact ⟨ws3, up _ _ hll hw3, by omega⟩
            · rintro σ H16 ⟨y8, y9, rfl, k1, k2, k3, k4, _⟩
              have hT16 := k2 _ _ (by
                cases e : H8 T with
                | none => rfl
                | some o => have := s9 _ _ e; rw [nT] at this; cases this) hT15
              have hp2_16 := k2 _ _ np2 hp2_15
              have dq2 : Dq K H16 (.ref p2) (.list ((runsT line.cps.toList).map rd)) := .lst hp2_16 (RnsF.keep k2 k3 hv15).rns.dq
              have dq3 : ∀ H', Same H16 H' → Dq K H' (.ref pf) (.list ((runsT line.cps.toList).map rd)) := fun H' s => .lst (s _ _ (k1 _ _ hpf)) (hws.same (k1.trans s)).rns.dq
              have hfit1 : Fit (.list ((runsT line.cps.toList).map rd)) := runs_fit (by omega)
              dsimp only [gName, tNext, tSeq]
              refine ⟨_, rfl, T, _, 1, _, rfl, rfl, .inl (.inl hT16), rfl, .ref p2, .list _, rfl, dq2.dp, hfit1, _, rfl, .ref pf, .list _, rfl, (dq3 _ (Same.refl _)).dp, hfit1, rfl, _, rfl, ?_⟩
              rw [decide_eq_true rfl]
              refine iteF ?_
              refine ⟨_, rfl, line, rfl, by omega, fun p3 us3 H17 s17 np3 hp3 hu3 => ?_⟩
              have dq4 : Dq K H17 (.ref p3) (.list ((runsT line.cps.toList).map rd)) := .lst hp3 hu3.d.rns.dq
              refine ⟨.ref p3, .list _, rfl, dq4.dp, hfit1, _, rfl, .ref pf, .list _, rfl, (dq3 _ s17).dp, hfit1, rfl, _, rfl, ?_⟩
              rw [decide_eq_true rfl]
              refine iteF ?_
              exact ⟨_, _, _, _, _, _, _, _, _, _, _, rfl, (hR6.same ((s7.trans k1).trans s17)).mono (by omega)⟩
    · rintro σ H3 ⟨y2, y3, y4, y5, y6, y7, y8, y9, y10, y11, y12, rfl, hR3⟩
      dsimp only [gName, tNext, tSeq]
      refine ⟨_, rfl, r, _, 900, rfl, hR3, by omega, by decide, by decide, fun v1 H4 v10 v11 hR4 b4 => ?_⟩
      refine ⟨"^", v1, rfl, rfl, v10, by omega, by rw [sizeLine_eq]; show 1 * v1.toNat ≤ _; omega, ?_⟩
      refine ⟨_, rfl, r, _, 900, rfl, hR4, by omega, by decide, by decide, fun v2 H5 v20 v21 hR5 b5 => ?_⟩
      refine ⟨_, _, rfl, rfl, "\n", 1 + v2, rfl, rfl, by omega, by omega, by rw [sizeLine_eq]; show 1 * (1 + v2).toNat ≤ _; omega, ?_⟩
      have r1 : ∀ (x : Str) (n : Nat), x.length = 1 → (rep x n).length = n := fun x n hx => by rw [rep_len, hx, Nat.one_mul]
      have ap : ∀ x y : Str, (x ++ y).length = x.length + y.length := fun x y => Array.size_append ..
      refine ⟨_, _, rfl, rfl, by rw [r1 _ _ rfl, r1 _ _ rfl, sizeLine_eq]; omega, ?_⟩
      refine ⟨_, rfl, r, _, 200, rfl, hR5, by omega, by decide, by decide, fun v3 H6 v30 v31 hR6 b6 => ?_⟩
      refine ⟨"^", v3, rfl, rfl, v30, by omega, by rw [sizeLine_eq]; show 1 * v3.toNat ≤ _; omega, ?_⟩
      refine ⟨_, _, rfl, rfl, by rw [ap, r1 _ _ rfl, r1 _ _ rfl, r1 _ _ rfl, sizeLine_eq]; omega, ?_⟩
      have hl : ((rep "^" v1.toNat ++ rep "\n" (1 + v2).toNat) ++ rep "^" v3.toNat : Str).cps.size ≤ 2000 := by
        show ((rep "^" v1.toNat ++ rep "\n" (1 + v2).toNat) ++ rep "^" v3.toNat : Str).length ≤ 2000
        rw [ap, ap, r1 _ _ rfl, r1 _ _ rfl, r1 _ _ rfl]
        omega
      generalize (rep "^" v1.toNat ++ rep "\n" (1 + v2).toNat) ++ rep "^" v3.toNat = line at hl
      dsimp only [gName, tNext, tSeq]
      have hL : line.cps.toList.length ≤ 2000 := by rw [Array.length_toList]; exact hl
      refine ⟨_, rfl, line, rfl, by omega, fun p3 us3 H7 s7 np3 hp3 hu3 => ?_⟩
      have dq4 : Dq K H7 (.ref p3) (.list ((runsT line.cps.toList).map rd)) := .lst hp3 hu3.d.rns.dq
      have hfit1 : Fit (.list ((runsT line.cps.toList).map rd)) := runs_fit (by omega)
      refine ⟨.ref p3, .list _, rfl, dq4.dp, hfit1, ?_⟩
      refine ⟨_, rfl, line, rfl, hl, fun pd pf po ws ols H8 s8 npd npf npo hpd hpf hws hpo hols => ?_⟩
      have dq5 : Dq K H8 (.ref pf) (.list ((runsT line.cps.toList).map rd)) := .lst hpf hws.rns.dq
      refine ⟨pd, _, 0, _, rfl, rfl, .inl (.inl hpd), rfl, .ref pf, .list _, rfl, dq5.dp, hfit1, rfl, _, rfl, ?_⟩
      rw [decide_eq_true rfl]
      refine iteF ?_
      dsimp only [gName, tNext, tSeq]
      refine ⟨"a\n\n^b^\n", rfl, by decide, fun p4 us4 H9 s9 np4 hp4 hu4 => ?_⟩
      have dq6 : Dq K H9 (.ref p4) (.list ((runsT ("a\n\n^b^\n" : Str).cps.toList).map rd)) := .lst hp4 hu4.d.rns.dq
      have s9x : Same H9 H9 := Same.refl _
      refine ⟨by show 2 ≤ sizeLine; decide, fun c1 nc1 => ?_⟩
      have sH10 := same_upd (o := .tup [.int 2, .int 0]) nc1
      have fc1 : upd H9 c1 (.tup [.int 2, .int 0]) c1 = _ := upd_same
      generalize upd H9 c1 (.tup [.int 2, .int 0]) = H10 at sH10 fc1
      replace s9x := s9x.trans sH10
      refine ⟨by show 1 ≤ sizeLine; decide, fun b1 nb1 => ?_⟩
      have sH11 := same_upd (o := .lst [.ref c1]) nb1
      have fb1 : upd H10 b1 (.lst [.ref c1]) b1 = _ := upd_same
      generalize upd H10 b1 (.lst [.ref c1]) = H11 at sH11 fb1
      replace fc1 := sH11 _ _ fc1
      replace s9x := s9x.trans sH11
      refine ⟨by show 2 ≤ sizeLine; decide, fun a1 na1 => ?_⟩
      have sH12 := same_upd (o := .tup [.ref b1, .int 1]) na1
      have fa1 : upd H11 a1 (.tup [.ref b1, .int 1]) a1 = _ := upd_same
      generalize upd H11 a1 (.tup [.ref b1, .int 1]) = H12 at sH12 fa1
      replace fc1 := sH12 _ _ fc1
      replace fb1 := sH12 _ _ fb1
      replace s9x := s9x.trans sH12
      refine ⟨by show 2 ≤ sizeLine; decide, fun c2 nc2 => ?_⟩
      have sH13 := same_upd (o := .tup [.int 1, .int 1]) nc2
      have fc2 : upd H12 c2 (.tup [.int 1, .int 1]) c2 = _ := upd_same
      generalize upd H12 c2 (.tup [.int 1, .int 1]) = H13 at sH13 fc2
      replace fc1 := sH13 _ _ fc1
      replace fb1 := sH13 _ _ fb1
      replace fa1 := sH13 _ _ fa1
      replace s9x := s9x.trans sH13
      refine ⟨by show 1 ≤ sizeLine; decide, fun b2 nb2 => ?_⟩
      have sH14 := same_upd (o := .lst [.ref c2]) nb2
      have fb2 : upd H13 b2 (.lst [.ref c2]) b2 = _ := upd_same
      generalize upd H13 b2 (.lst [.ref c2]) = H14 at sH14 fb2
      replace fc1 := sH14 _ _ fc1
      replace fb1 := sH14 _ _ fb1
      replace fa1 := sH14 _ _ fa1
      replace fc2 := sH14 _ _ fc2
      replace s9x := s9x.trans sH14
      refine ⟨by show 2 ≤ sizeLine; decide, fun a2 na2 => ?_⟩
      have sH15 := same_upd (o := .tup [.ref b2, .int 0]) na2
      have fa2 : upd H14 a2 (.tup [.ref b2, .int 0]) a2 = _ := upd_same
      generalize upd H14 a2 (.tup [.ref b2, .int 0]) = H15 at sH15 fa2
      replace fc1 := sH15 _ _ fc1
      replace fb1 := sH15 _ _ fb1
      replace fa1 := sH15 _ _ fa1
      replace fc2 := sH15 _ _ fc2
      replace fb2 := sH15 _ _ fb2
      replace s9x := s9x.trans sH15
      refine ⟨by show 2 ≤ sizeLine; decide, fun D nD => ?_⟩
      have sH16 := same_upd (o := .lst [.ref a1, .ref a2]) nD
      have fD : upd H15 D (.lst [.ref a1, .ref a2]) D = _ := upd_same
      generalize upd H15 D (.lst [.ref a1, .ref a2]) = H16 at sH16 fD
      replace fc1 := sH16 _ _ fc1
      replace fb1 := sH16 _ _ fb1
      replace fa1 := sH16 _ _ fa1
      replace fc2 := sH16 _ _ fc2
      replace fb2 := sH16 _ _ fb2
      replace fa2 := sH16 _ _ fa2
      replace s9x := s9x.trans sH16
      have dqT : Dq K H16 (.ref D) (.list [.tuple [.list [.tuple [.int 2, .int 0]], .int 1], .tuple [.list [.tuple [.int 1, .int 1]], .int 0]]) :=
        .lst fD (.cons (.tup (.inl ⟨_, fa1⟩) (.inl (.inl fa1)) (.cons (.lst fb1 (.cons (.tup (.inl ⟨_, fc1⟩) (.inl (.inl fc1)) (.cons (.int 2) (.cons (.int 0) .nil))) .nil)) (.cons (.int 1) .nil)))
          (.cons (.tup (.inl ⟨_, fa2⟩) (.inl (.inl fa2)) (.cons (.lst fb2 (.cons (.tup (.inl ⟨_, fc2⟩) (.inl (.inl fc2)) (.cons (.int 1) (.cons (.int 1) .nil))) .nil)) (.cons (.int 0) .nil))) .nil))
      have dq7 : Dq K H16 (.ref p4) (.list ((runsT ("a\n\n^b^\n" : Str).cps.toList).map rd)) := .lst (s9x _ _ hp4) (hu4.d.same s9x).rns.dq
      have e1 : (runsT ("a\n\n^b^\n" : Str).cps.toList).map rd = [.tuple [.list [.tuple [.int 2, .int 0]], .int 1], .tuple [.list [.tuple [.int 1, .int 1]], .int 0]] := by
        have e0 : runsT ("a\n\n^b^\n" : Str).cps.toList = [([(2, 0)], 1), ([(1, 1)], 0)] := by decide +kernel
        rw [e0]
        rfl
      rw [e1] at dq7
      refine ⟨.list _, .list _, dq7.dp, dqT.dp, by decide +kernel, by decide +kernel, true, by decide +kernel, ?_⟩
      rw [if_pos rfl]
      refine ⟨"abc", rfl, by decide, fun p5 us5 H17 s17 np5 hp5 hu5 => ?_⟩
      have e2 : runsT ("abc" : Str).cps.toList = [] := by decide +kernel
      rw [e2] at hu5
      refine ⟨by show 0 ≤ sizeLine; omega, fun D5 nD5 => ?_⟩
      have s18 := same_upd (o := .lst []) nD5
      have d8 : Dq K (upd H17 D5 (.lst [])) (.ref D5) (.list []) := .lst upd_same .nil
      have d9 : Dq K (upd H17 D5 (.lst [])) (.ref p5) (.list []) := .lst (s18 _ _ hp5) (hu5.d.same s18).rns.dq
      refine ⟨.list _, .list _, d9.dp, d8.dp, by decide +kernel, by decide +kernel, true, by decide +kernel, ?_⟩
      rw [if_pos rfl]
      generalize upd H17 D5 (.lst []) = H18
      refine ⟨"", rfl, by decide, fun p6 us6 H19 s19 np6 hp6 hu6 => ?_⟩
      have e3 : runsT ("" : Str).cps.toList = [] := by decide +kernel
      rw [e3] at hu6
      refine ⟨by show 0 ≤ sizeLine; omega, fun D6 nD6 => ?_⟩
      have s20 := same_upd (o := .lst []) nD6
      have d10 : Dq K (upd H19 D6 (.lst [])) (.ref D6) (.list []) := .lst upd_same .nil
      have d11 : Dq K (upd H19 D6 (.lst [])) (.ref p6) (.list []) := .lst (s20 _ _ hp6) (hu6.d.same s20).rns.dq
      refine ⟨.list _, .list _, d11.dp, d10.dp, by decide +kernel, by decide +kernel, ?_⟩
      rw [show PyData.eqv (.list []) (.list []) = true by decide +kernel]
      exact q _
end
end Lw
namespace Lw
open PySem PySem.Spec L2 Lx
theorem sz5 {n : Nat} (h : n ≤ 5) : n ≤ sizeLine := by
  rw [sizeLine_eq]; omega
theorem all_mk {P : Program} {w : World} {K : PySem.W.Frag} {h : Heap} {mg : Str → Option Value} {fa aN fCr fSa fUg fUn fSz fMg fRp fRo fLg fLd fLl fLp fLs fW : Addr} (X : K.In h) (G : h.Ns mainGlobals mg) (hfa : mg "law" = some (.ref fa))
    {ocCr kVCr docCr pmCr cdCr ctCr : Value} {odCr anCr : Option Addr} {oslCr : Array (Option Value)}
    {ocSa kVSa docSa pmSa cdSa ctSa : Value} {odSa anSa : Option Addr} {oslSa : Array (Option Value)}
    {ocUg kVUg docUg pmUg cdUg ctUg : Value} {odUg anUg : Option Addr} {oslUg : Array (Option Value)}
    {ocUn kVUn docUn pmUn cdUn ctUn : Value} {odUn anUn : Option Addr} {oslUn : Array (Option Value)}
    {ocSz kVSz docSz pmSz cdSz ctSz : Value} {odSz anSz : Option Addr} {oslSz : Array (Option Value)}
    {ocMg kVMg docMg pmMg cdMg ctMg : Value} {odMg anMg : Option Addr} {oslMg : Array (Option Value)}
    {ocRp kVRp docRp pmRp cdRp ctRp : Value} {odRp anRp : Option Addr} {oslRp : Array (Option Value)}
    {ocRo kVRo docRo pmRo cdRo ctRo : Value} {odRo anRo : Option Addr} {oslRo : Array (Option Value)}
    {ocLg kVLg docLg pmLg cdLg ctLg : Value} {odLg anLg : Option Addr} {oslLg : Array (Option Value)}
    {ocLd kVLd docLd pmLd cdLd ctLd : Value} {odLd anLd : Option Addr} {oslLd : Array (Option Value)}
    {ocLl kVLl docLl pmLl cdLl ctLl : Value} {odLl anLl : Option Addr} {oslLl : Array (Option Value)}
    {ocLp kVLp docLp pmLp cdLp ctLp : Value} {odLp anLp : Option Addr} {oslLp : Array (Option Value)}
    {ocLs kVLs docLs pmLs cdLs ctLs : Value} {odLs anLs : Option Addr} {oslLs : Array (Option Value)}
    {ocW kVW docW pmW cdW ctW : Value} {odW anW : Option Addr} {oslW : Array (Option Value)}
    {n1 n2 n3 : Tok} {nN : Nat} {odN : Option Addr} {slN : Array (Option Value)}
    {tSg : Tok}
    (aCr : PySem.W.nsIn K mainGlobals "check_run" = some (some (.ref fCr)))
    (lCr : K.lookup fCr = some ⟨ocCr, odCr, .func (PySem.W.fnOf "check_run" "check_run" (defArgs sChkRun) (defBody sChkRun) (defScope sChkRun) .none kVCr docCr pmCr anCr cdCr ctCr), oslCr⟩)
    (c_Cr : PySem.W.codeIn K cdCr "check_run" = true)
    (k_Cr : PySem.W.keepIn K (.ref fCr) = true)
    (aSa : PySem.W.nsIn K mainGlobals "signs_after" = some (some (.ref fSa)))
    (lSa : K.lookup fSa = some ⟨ocSa, odSa, .func (PySem.W.fnOf "signs_after" "signs_after" (defArgs sSigns) (defBody sSigns) (defScope sSigns) .none kVSa docSa pmSa anSa cdSa ctSa), oslSa⟩)
    (c_Sa : PySem.W.codeIn K cdSa "signs_after" = true)
    (k_Sa : PySem.W.keepIn K (.ref fSa) = true)
    (aUg : PySem.W.nsIn K mainGlobals "units_of_group" = some (some (.ref fUg)))
    (lUg : K.lookup fUg = some ⟨ocUg, odUg, .func (PySem.W.fnOf "units_of_group" "units_of_group" (defArgs sUog) (defBody sUog) (defScope sUog) .none kVUg docUg pmUg anUg cdUg ctUg), oslUg⟩)
    (c_Ug : PySem.W.codeIn K cdUg "units_of_group" = true)
    (k_Ug : PySem.W.keepIn K (.ref fUg) = true)
    (aUn : PySem.W.nsIn K mainGlobals "units" = some (some (.ref fUn)))
    (lUn : K.lookup fUn = some ⟨ocUn, odUn, .func (PySem.W.fnOf "units" "units" (defArgs sUnits) (defBody sUnits) (defScope sUnits) .none kVUn docUn pmUn anUn cdUn ctUn), oslUn⟩)
    (c_Un : PySem.W.codeIn K cdUn "units" = true)
    (k_Un : PySem.W.keepIn K (.ref fUn) = true)
    (aSz : PySem.W.nsIn K mainGlobals "size" = some (some (.ref fSz)))
    (lSz : K.lookup fSz = some ⟨ocSz, odSz, .func (PySem.W.fnOf "size" "size" (defArgs sSize) (defBody sSize) (defScope sSize) .none kVSz docSz pmSz anSz cdSz ctSz), oslSz⟩)
    (c_Sz : PySem.W.codeIn K cdSz "size" = true)
    (k_Sz : PySem.W.keepIn K (.ref fSz) = true)
    (aMg : PySem.W.nsIn K mainGlobals "merged_groups" = some (some (.ref fMg)))
    (lMg : K.lookup fMg = some ⟨ocMg, odMg, .func (PySem.W.fnOf "merged_groups" "merged_groups" (defArgs sMerged) (defBody sMerged) (defScope sMerged) .none kVMg docMg pmMg anMg cdMg ctMg), oslMg⟩)
    (c_Mg : PySem.W.codeIn K cdMg "merged_groups" = true)
    (k_Mg : PySem.W.keepIn K (.ref fMg) = true)
    (aRp : PySem.W.nsIn K mainGlobals "run_of_piece" = some (some (.ref fRp)))
    (lRp : K.lookup fRp = some ⟨ocRp, odRp, .func (PySem.W.fnOf "run_of_piece" "run_of_piece" (defArgs sRunOfPiece) (defBody sRunOfPiece) (defScope sRunOfPiece) .none kVRp docRp pmRp anRp cdRp ctRp), oslRp⟩)
    (c_Rp : PySem.W.codeIn K cdRp "run_of_piece" = true)
    (k_Rp : PySem.W.keepIn K (.ref fRp) = true)
    (aRo : PySem.W.nsIn K mainGlobals "runs_of" = some (some (.ref fRo)))
    (lRo : K.lookup fRo = some ⟨ocRo, odRo, .func (PySem.W.fnOf "runs_of" "runs_of" (defArgs sRunsOf) (defBody sRunsOf) (defScope sRunsOf) .none kVRo docRo pmRo anRo cdRo ctRo), oslRo⟩)
    (c_Ro : PySem.W.codeIn K cdRo "runs_of" = true)
    (k_Ro : PySem.W.keepIn K (.ref fRo) = true)
    (aLg : PySem.W.nsIn K mainGlobals "_law_rng" = some (some (.ref fLg)))
    (lLg : K.lookup fLg = some ⟨ocLg, odLg, .func (PySem.W.fnOf "_law_rng" "_law_rng" (defArgs sLRng) (defBody sLRng) (defScope sLRng) .none kVLg docLg pmLg anLg cdLg ctLg), oslLg⟩)
    (c_Lg : PySem.W.codeIn K cdLg "_law_rng" = true)
    (k_Lg : PySem.W.keepIn K (.ref fLg) = true)
    (aLd : PySem.W.nsIn K mainGlobals "_law_draw" = some (some (.ref fLd)))
    (lLd : K.lookup fLd = some ⟨ocLd, odLd, .func (PySem.W.fnOf "_law_draw" "_law_draw" (defArgs sLDraw) (defBody sLDraw) (defScope sLDraw) .none kVLd docLd pmLd anLd cdLd ctLd), oslLd⟩)
    (c_Ld : PySem.W.codeIn K cdLd "_law_draw" = true)
    (k_Ld : PySem.W.keepIn K (.ref fLd) = true)
    (aLl : PySem.W.nsIn K mainGlobals "_law_line" = some (some (.ref fLl)))
    (lLl : K.lookup fLl = some ⟨ocLl, odLl, .func (PySem.W.fnOf "_law_line" "_law_line" (defArgs sLLine) (defBody sLLine) (defScope sLLine) .none kVLl docLl pmLl anLl cdLl ctLl), oslLl⟩)
    (c_Ll : PySem.W.codeIn K cdLl "_law_line" = true)
    (k_Ll : PySem.W.keepIn K (.ref fLl) = true)
    (aLp : PySem.W.nsIn K mainGlobals "_law_parse" = some (some (.ref fLp)))
    (lLp : K.lookup fLp = some ⟨ocLp, odLp, .func (PySem.W.fnOf "_law_parse" "_law_parse" (defArgs sLParse) (defBody sLParse) (defScope sLParse) .none kVLp docLp pmLp anLp cdLp ctLp), oslLp⟩)
    (c_Lp : PySem.W.codeIn K cdLp "_law_parse" = true)
    (k_Lp : PySem.W.keepIn K (.ref fLp) = true)
    (aLs : PySem.W.nsIn K mainGlobals "_law_spelt" = some (some (.ref fLs)))
    (lLs : K.lookup fLs = some ⟨ocLs, odLs, .func (PySem.W.fnOf "_law_spelt" "_law_spelt" (defArgs sLSpelt) (defBody sLSpelt) (defScope sLSpelt) .none kVLs docLs pmLs anLs cdLs ctLs), oslLs⟩)
    (c_Ls : PySem.W.codeIn K cdLs "_law_spelt" = true)
    (k_Ls : PySem.W.keepIn K (.ref fLs) = true)
    (aW : PySem.W.nsIn K mainGlobals "law" = some (some (.ref fW)))
    (lW : K.lookup fW = some ⟨ocW, odW, .func (PySem.W.fnOf "law" "law" (defArgs sLaw) (defBody sLaw) (defScope sLaw) .none kVW docW pmW anW cdW ctW), oslW⟩)
    (c_W : PySem.W.codeIn K cdW "law" = true)
    (k_W : PySem.W.keepIn K (.ref fW) = true)
    (z_abs : PySem.W.nsIn K mainGlobals "abs" = some none)
    (z_enumerate : PySem.W.nsIn K mainGlobals "enumerate" = some none)
    (z_int : PySem.W.nsIn K mainGlobals "int" = some none)
    (z_len : PySem.W.nsIn K mainGlobals "len" = some none)
    (z_max : PySem.W.nsIn K mainGlobals "max" = some none)
    (z_min : PySem.W.nsIn K mainGlobals "min" = some none)
    (z_range : PySem.W.nsIn K mainGlobals "range" = some none)
    (z_repr : PySem.W.nsIn K mainGlobals "repr" = some none)
    (z_sum : PySem.W.nsIn K mainGlobals "sum" = some none)
    (z_zip : PySem.W.nsIn K mainGlobals "zip" = some none)
    (gN : PySem.W.nsIn K mainGlobals "NOTHING" = some (some (.ref aN)))
    (hN : K.lookup aN = some ⟨.type "tuple", odN, .seq #[.str "keep" n1, .int 0 n2, .int 0 n3] nN, slN⟩)
    (gSg : PySem.W.nsIn K mainGlobals "SIGNS" = some (some (.str "^\n" tSg))) :
    ∃ fd : FuncData, (∀ (s : Shared) (v : Value), BindsTo s fd ⟨[v], []⟩ [("script", v)]) ∧ ∀ base : Heap, K.In base → base.Ns mainGlobals mg → FnG P w K mg base CX0 5 fa fd ["script"] (spLaw K) := by
  have e := hfa.symm.trans (PySem.W.mg_of X G aW)
  cases e
  have FCr := fun_mk (st := sChkRun) lCr c_Cr k_Cr
  have bCr := FCr.binds (ps := ["run"]) fun _ _ _ _ _ _ us hl => match us, hl with | [_], _ => rfl
  have gCr' := PySem.W.mg_of X G aCr
  have FSa := fun_mk (st := sSigns) lSa c_Sa k_Sa
  have bSa := FSa.binds (ps := ["j", "wanted"]) fun _ _ _ _ _ _ us hl => match us, hl with | [_, _], _ => rfl
  have gSa' := PySem.W.mg_of X G aSa
  have FUg := fun_mk (st := sUog) lUg c_Ug k_Ug
  have bUg := FUg.binds (ps := ["j", "wanted"]) fun _ _ _ _ _ _ us hl => match us, hl with | [_, _], _ => rfl
  have gUg' := PySem.W.mg_of X G aUg
  have FUn := fun_mk (st := sUnits) lUn c_Un k_Un
  have bUn := FUn.binds (ps := ["run", "wanted"]) fun _ _ _ _ _ _ us hl => match us, hl with | [_, _], _ => rfl
  have gUn' := PySem.W.mg_of X G aUn
  have FSz := fun_mk (st := sSize) lSz c_Sz k_Sz
  have bSz := FSz.binds (ps := ["run"]) fun _ _ _ _ _ _ us hl => match us, hl with | [_], _ => rfl
  have gSz' := PySem.W.mg_of X G aSz
  have FMg := fun_mk (st := sMerged) lMg c_Mg k_Mg
  have bMg := FMg.binds (ps := ["groups"]) fun _ _ _ _ _ _ us hl => match us, hl with | [_], _ => rfl
  have gMg' := PySem.W.mg_of X G aMg
  have FRp := fun_mk (st := sRunOfPiece) lRp c_Rp k_Rp
  have bRp := FRp.binds (ps := ["piece"]) fun _ _ _ _ _ _ us hl => match us, hl with | [_], _ => rfl
  have gRp' := PySem.W.mg_of X G aRp
  have FRo := fun_mk (st := sRunsOf) lRo c_Ro k_Ro
  have bRo := FRo.binds (ps := ["text"]) fun _ _ _ _ _ _ us hl => match us, hl with | [_], _ => rfl
  have gRo' := PySem.W.mg_of X G aRo
  have FLg := fun_mk (st := sLRng) lLg c_Lg k_Lg
  have bLg := FLg.binds (ps := ["script"]) fun _ _ _ _ _ _ us hl => match us, hl with | [_], _ => rfl
  have gLg' := PySem.W.mg_of X G aLg
  have FLd := fun_mk (st := sLDraw) lLd c_Ld k_Ld
  have bLd := FLd.binds (ps := ["rng", "limit"]) fun _ _ _ _ _ _ us hl => match us, hl with | [_, _], _ => rfl
  have gLd' := PySem.W.mg_of X G aLd
  have FLl := fun_mk (st := sLLine) lLl c_Ll k_Ll
  have bLl := FLl.binds (ps := ["rng", "most"]) fun _ _ _ _ _ _ us hl => match us, hl with | [_, _], _ => rfl
  have gLl' := PySem.W.mg_of X G aLl
  have FLp := fun_mk (st := sLParse) lLp c_Lp k_Lp
  have bLp := FLp.binds (ps := ["line"]) fun _ _ _ _ _ _ us hl => match us, hl with | [_], _ => rfl
  have gLp' := PySem.W.mg_of X G aLp
  have FLs := fun_mk (st := sLSpelt) lLs c_Ls k_Ls
  have bLs := FLs.binds (ps := ["run"]) fun _ _ _ _ _ _ us hl => match us, hl with | [_], _ => rfl
  have gLs' := PySem.W.mg_of X G aLs
  have FW := fun_mk (st := sLaw) lW c_W k_W
  have gW' := PySem.W.mg_of X G aW
  have m_abs := PySem.W.mg_none_of X G z_abs
  have m_enumerate := PySem.W.mg_none_of X G z_enumerate
  have m_int := PySem.W.mg_none_of X G z_int
  have m_len := PySem.W.mg_none_of X G z_len
  have m_max := PySem.W.mg_none_of X G z_max
  have m_min := PySem.W.mg_none_of X G z_min
  have m_range := PySem.W.mg_none_of X G z_range
  have m_repr := PySem.W.mg_none_of X G z_repr
  have m_sum := PySem.W.mg_none_of X G z_sum
  have m_zip := PySem.W.mg_none_of X G z_zip
  have tN : ∀ H : Hp, FmAt K H (.ref aN) nothing := fun H => ⟨aN, rfl, .inr ⟨_, _, _, hN, rfl, rfl, sz5 (by simp), .cons ⟨_, rfl⟩ (.cons ⟨_, rfl⟩ (.cons ⟨_, rfl⟩ .nil))⟩⟩
  have gSgn := PySem.W.mg_of X G gSg
  refine ⟨PySem.W.fnOf "law" "law" (defArgs sLaw) (defBody sLaw) (defScope sLaw) .none kVW docW pmW anW cdW ctW, fun s v => .of_eq rfl, fun base _ _ => ?_⟩
  have GCr : FnOk P w K mg base CX0 1 fCr _ ["run"] (spChk4 K) := ok_chk4 FCr m_enumerate
  have GSa : FnOk P w K mg base CX0 1 fSa _ ["j", "wanted"] (spSigns K) := ok_signs FSa m_max
  have GUg : FnOk P w K mg base CX0 2 fUg _ ["j", "wanted"] (spUog K) := ok_uog FUg GSa k_Sa bSa gSa'
  have GUn : FnOk P w K mg base CX0 3 fUn _ ["run", "wanted"] (spUn4 K) := ok_un4 FUn GUg k_Ug bUg gUg' m_sum
  have GSz : FnOk P w K mg base CX0 4 fSz _ ["run"] (spSz4 K) := ok_sz4 FSz (PySem.W.mg_of X G gN) tN (GCr.mono (by decide)) k_Cr bCr gCr' GUn k_Un bUn gUn'
  have GMg : FnOk P w K mg base CX0 1 fMg _ ["groups"] (spMergedL K) := ok_mergedL FMg
  have GRp : FnOk P w K mg base CX0 2 fRp _ ["piece"] (spRop K) := ok_rop FRp ⟨m_len⟩ ⟨GMg.mono (by decide), k_Mg, bMg, gMg'⟩
  have GRo : FnOk P w K mg base CX0 3 fRo _ ["text"] (spRso4 K) := ok_rso4 FRo gSgn ⟨GRp.mono (by decide), k_Rp, bRp, gRp'⟩
  have GLg : FnOk P w K mg base CX0 1 fLg _ ["script"] (spRng K) := ok_rng FLg m_abs
  have GLd : FnOk P w K mg base CX0 1 fLd _ ["rng", "limit"] spDraw := ok_draw FLd
  have GLl : FnOk P w K mg base CX0 2 fLl _ ["rng", "most"] spLine := ok_line FLl ⟨m_range, m_int⟩ ⟨GLd.mono (by decide), k_Ld, bLd, gLd'⟩
  have GLp : FnOk P w K mg base CX0 1 fLp _ ["line"] (spParse K) := ok_parse FLp
  have GLs : FnOk P w K mg base CX0 1 fLs _ ["run"] (spSpelt K) := ok_spelt FLs
  have GW := ok_law (k := 4) FW ⟨m_range, m_min, m_len, m_repr, m_zip, m_sum⟩ ⟨GLg.mono (by decide), k_Lg, bLg, gLg'⟩ ⟨GLd.mono (by decide), k_Ld, bLd, gLd'⟩ ⟨GLl.mono (by decide), k_Ll, bLl, gLl'⟩ ⟨GLp.mono (by decide), k_Lp, bLp, gLp'⟩ ⟨GLs.mono (by decide), k_Ls, bLs, gLs'⟩ ⟨GRo.mono (by decide), k_Ro, bRo, gRo'⟩ (kb1 FRo fun _ _ _ _ _ _ _ => rfl) ⟨GSz.mono (by decide), k_Sz, bSz, gSz'⟩
  exact GW
end Lw
open PySem PySem.W PyProof.Rows
set_option maxRecDepth 100000 in
set_option maxHeartbeats 0 in
theorem PySem.Challenge.cw_lineends_k04_runs_of_texts_holds : PySem.Challenge.rw_lineends_k04_runs_of_texts.Holds := by
  w_on; o_law; k_head; (case hw => w_witness2)
  k_fill
  refine Lx.endG (l := PySem.Challenge.rw_lineends_k04_runs_of_texts) (n := 63) (k := 5) (x := "script") (CX := fun _ => L2.CX0) (sp := fun w => Lw.spLaw _) rfl (by decide) rfl ⟨rfl, by decide, by decide⟩ (fun w h Y => PySem.W.kIn_of Y) ?F (fun _ _ a ns hl hS => ⟨a, ns, rfl, hS, hl, fun _ => rfl⟩) (fun _ _ _ _ _ h => h)
  case F =>
    intro w mg fa h KX G hmg
    refine' Lw.all_mk KX G hmg ?aCr ?lCr ?c_Cr ?k_Cr ?aSa ?lSa ?c_Sa ?k_Sa ?aUg ?lUg ?c_Ug ?k_Ug ?aUn ?lUn ?c_Un ?k_Un ?aSz ?lSz ?c_Sz ?k_Sz ?aMg ?lMg ?c_Mg ?k_Mg ?aRp ?lRp ?c_Rp ?k_Rp ?aRo ?lRo ?c_Ro ?k_Ro ?aLg ?lLg ?c_Lg ?k_Lg ?aLd ?lLd ?c_Ld ?k_Ld ?aLl ?lLl ?c_Ll ?k_Ll ?aLp ?lLp ?c_Lp ?k_Lp ?aLs ?lLs ?c_Ls ?k_Ls ?aW ?lW ?c_W ?k_W ?z_abs ?z_enumerate ?z_int ?z_len ?z_max ?z_min ?z_range ?z_repr ?z_sum ?z_zip ?gN ?hN ?gSg
    (case aCr => k_is)
    (case lCr => k_is)
    (case c_Cr => k_is)
    (case k_Cr => k_is)
    (case aSa => k_is)
    (case lSa => k_is)
    (case c_Sa => k_is)
    (case k_Sa => k_is)
    (case aUg => k_is)
    (case lUg => k_is)
    (case c_Ug => k_is)
    (case k_Ug => k_is)
    (case aUn => k_is)
    (case lUn => k_is)
    (case c_Un => k_is)
    (case k_Un => k_is)
    (case aSz => k_is)
    (case lSz => k_is)
    (case c_Sz => k_is)
    (case k_Sz => k_is)
    (case aMg => k_is)
    (case lMg => k_is)
    (case c_Mg => k_is)
    (case k_Mg => k_is)
    (case aRp => k_is)
    (case lRp => k_is)
    (case c_Rp => k_is)
    (case k_Rp => k_is)
    (case aRo => k_is)
    (case lRo => k_is)
    (case c_Ro => k_is)
    (case k_Ro => k_is)
    (case aLg => k_is)
    (case lLg => k_is)
    (case c_Lg => k_is)
    (case k_Lg => k_is)
    (case aLd => k_is)
    (case lLd => k_is)
    (case c_Ld => k_is)
    (case k_Ld => k_is)
    (case aLl => k_is)
    (case lLl => k_is)
    (case c_Ll => k_is)
    (case k_Ll => k_is)
    (case aLp => k_is)
    (case lLp => k_is)
    (case c_Lp => k_is)
    (case k_Lp => k_is)
    (case aLs => k_is)
    (case lLs => k_is)
    (case c_Ls => k_is)
    (case k_Ls => k_is)
    (case aW => k_is)
    (case lW => k_is)
    (case c_W => k_is)
    (case k_W => k_is)
    (case z_abs => k_is)
    (case z_enumerate => k_is)
    (case z_int => k_is)
    (case z_len => k_is)
    (case z_max => k_is)
    (case z_min => k_is)
    (case z_range => k_is)
    (case z_repr => k_is)
    (case z_sum => k_is)
    (case z_zip => k_is)
    (case gN => k_is)
    (case hN => k_is)
    (case gSg => k_is)
