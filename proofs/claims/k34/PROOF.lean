import PyProof.Rows.All
import Wide.All
import OpenK.AllK
import Wide.FinOn
import KE.KFromBytes
import KE.KExcSuper
import HandS.Base
import HandS.Call
import HandS.Exc
import HandS.Ends
import HandS.Words
import KE.KExcIs
import HandS.ForExc
import HandS.ForMost
import HandS.IsInst
import HandS.Walk
import HandS.TupAny
import HandS.More
import PyProof.WalkInts
import KE.GoesMore
import PyProof.EnumMake
import PyProof.EnumFor
import HandS.Wide
import HandS.WideMore
import PyProof.ReprBulk
import HandS.MakeKwOnly
import PyProof.StrOps2
import HandS.Dict
import KE.KTupSum
import HandS.Strs
import HandS.Style
import HandS.SetFor
import HandS.SortInts
import HandS.ReplaceLit
import HandS.ReplaceList
import HandS.NoneIn
import PySem.Challenge.RW_lineends_k34_great_remainders
set_option Elab.async false
set_option linter.all false
set_option maxRecDepth 100000
set_option maxHeartbeats 4000000
/-! An own error class over ValueError, called by position or by keyword: what it leaves. -/
namespace Lx
open PySem PySem.HandSPX
open PySem.W (Looks)
section
variable {M : Model} {prog : Program} {w : World} {A : Around} {E : Value → Shared → Prop} {R : Result → Shared → Prop}
variable {h : Heap} {gn : Array GenState} {dr : Drawn} {tk : Nat} {os : OsState}
variable {nm q : Str} {C N : Addr} {bs bm bmB : List Value} {hd : Bool} {sn : List Str} {sub : List Value} {ab : Bool} {col : Option Bool} {dd : Option Addr} {k0 k1 k2 k3 k5 : Option Value} {B nid iid : String}
/-- the maker's own check, with keywords -/
theorem newCheck (F : ExcBaseFacts B nid iid bmB) (hT : ∀ Y : String, bm.contains (.type Y) = bmB.contains (.type Y)) {pos : List Value} {kw : List (Str × Value)} {Q : Unit → Shared → Prop}
    (hC : h.get? C = some (excClassObj nm q C N bs bm hd sn sub ab col dd k0 k1 k2 k3 k5 nid)) (hq : Q () ⟨h, gn, dr, tk, os⟩) :
    wpAny M A (checkBuiltinCall nid ⟨.ref C :: pos, kw⟩) Q E ⟨h, gn, dr, tk, os⟩ := by
  have c0 : (Value.ref C :: bm).contains (.type B) = true := by
    rw [List.contains_cons, hT, F.hasB, Bool.or_true]
  have c1 := F.noStar
  simp only [checkBuiltinCall, F.newKind, F.newSplit, F.newRow]
  repeat (first
    | refine wpAny_loadPart_at hC ?_
    | (refine wpAny_isSubtype_exc hC ?_; rw [c0])
    | refine wpAny_staticBase_exc hC ?_
    | refine wpAny_madeBy_exc hC ?_
    | simp only [bne_self_eq_false, Bool.false_eq_true, if_false]
    | wp_step)
  exact hq
/-- the maker: the arguments by position alone are laid -/
theorem newMakes (F : ExcBaseFacts B nid iid bmB) (hT : ∀ Y : String, bm.contains (.type Y) = bmB.contains (.type Y)) {pos : List Value} {kw : List (Str × Value)}
    (hC : h.get? C = some (excClassObj nm q C N bs bm hd sn sub ab col dd k0 k1 k2 k3 k5 nid)) (hl : pos.length ≤ sizeLine)
    (hq : R (.ok (.ret (.ref (h.objs.size + 1)))) ⟨(h.push (W.kdv_tup pos)).push (excO C h.objs.size), gn, dr, tk, os⟩) :
    codeAny (model prog w) A (.builtin nid ⟨.ref C :: pos, kw⟩) R ⟨h, gn, dr, tk, os⟩ := by
  have e1 := F.ends
  have c0 : (Value.ref C :: bm).contains (.type B) = true := by
    rw [List.contains_cons, hT, F.hasB, Bool.or_true]
  have c1 : (Value.ref C :: bm).contains (.type "AttributeError") = false := by
    rw [List.contains_cons, hT, F.noAttr]; rfl
  have c2 : (Value.ref C :: bm).contains (.type "NameError") = false := by
    rw [List.contains_cons, hT, F.noName]; rfl
  refine codeAny_builtinAt F.entry ?_
  unfold Builtin.«BaseException.__new__»
  refine wpAt_bind ?_
  show wpAt _ _ _ (stack >>= _) _ _ _
  refine wpAt_bind (wpAt_stack fun p below => wpAt_of_wpAny ?_)
  wp_walk
  refine wpAt_of_wpAny ?_
  rw [F.owner]
  repeat (first
    | with_reducible refine wpAny_madeHere_exc F.canon hC ?_
    | with_reducible refine wpAny_loadPart_at hC ?_
    | (with_reducible refine wpAny_isSubtype_exc hC ?_; first | rw [c0] | rw [c1] | rw [c2])
    | wp_step)
  show R _ _
  rw [Heap.size_push]
  exact hq
/-- the class's call: the maker, then the class's own __init__ -/
theorem typeCalls (F : ExcBaseFacts B nid iid bmB) (hT : ∀ Y : String, bm.contains (.type Y) = bmB.contains (.type Y)) {pos : List Value} {kw : List (Str × Value)} {fI : Addr} {Q : Fin → Shared → Prop}
    (hC : h.get? C = some (excClassObj nm q C N bs bm hd sn sub ab col dd k0 k1 k2 k3 k5 nid))
    (hi : Looks (model prog w) h (typeLookup (.ref C) "__init__") (some (.ref fI))) (hb : ∀ self, Looks (model prog w) h (bindSpecial (.ref fI) self) (.ref fI, [self])) (hl : pos.length ≤ sizeLine)
    (hq : codeAny (model prog w) A (.call (.ref fI) ⟨.ref (h.objs.size + 1) :: pos, kw⟩)
      (fun r s' => match r with | .ok (.ret v) => v = .none ∧ Q (.done (.ret (.ref (h.objs.size + 1)))) s' | .ok _ => False | .error e => E e s')
      ⟨(h.push (W.kdv_tup pos)).push (excO C h.objs.size), gn, dr, tk, os⟩) :
    wpAny (model prog w) A (Builtin.«type.__call__» ⟨.ref C :: pos, kw⟩) Q E ⟨h, gn, dr, tk, os⟩ := by
  repeat (first | with_reducible refine wpAny_loadPart_at hC ?_ | with_reducible refine wpAny_madeBy_exc hC ?_ | wp_step)
  refine codeAny_call_builtin_code (Code.quiet_builtin _ F.quiet) (newCheck F hT hC ?_)
  refine newMakes F hT hC hl ?_
  show wpAny _ _ _ _ _ _
  have kp : ∀ b o, h.get? b = some o → ((h.push (W.kdv_tup pos)).push (excO C h.objs.size)).get? b = some o := fun b o e => Heap.get?_push_of_some _ (Heap.get?_push_of_some _ e)
  have hC1 := kp _ _ hC
  have hg : ((h.push (W.kdv_tup pos)).push (excO C h.objs.size)).get? (h.objs.size + 1) = some (excO C h.objs.size) := by heap_get
  have hs : (Value.ref C :: bm).contains (.ref C) = true := by simp
  have i1 := hi.keeps kp
  have b1 := (hb (.ref (h.objs.size + 1))).keeps kp
  unfold isInstance
  repeat (first | with_reducible refine wpAny_loadPart_at hg ?_ | (with_reducible refine wpAny_isSubtype_exc hC1 ?_; rw [hs]) | wp_step)
  show wpAny _ _ (typeLookup (.ref C) _) _ _ _
  refine i1.at ?_
  refine wpAny_holding (wpAny_bind (b1.at ?_))
  refine wpAny_bind (wpAny_call (codeAny_mono hq fun r s' z => ?_))
  rcases r with e | (v | _ | _ | _) <;> first | exact z | exact z.elim | skip
  obtain ⟨rfl, z⟩ := z
  first
    | exact wpAny_pure (wpAny_pure z)
    | (wp_walk; exact z)
end
end Lx
namespace Lx
open PySem PySem.HandSPX
open PySem.W (Looks)
open L2 (defArgs defBody defScope)
/-! ### the text of an error's __init__ -/
def inA (a b : Pos) : Arguments := { posonlyargs := [], args := [{ arg := "self", annotation := none, pos := a }, { arg := "value", annotation := none, pos := b }], vararg := none, kwonlyargs := [], kw_defaults := [], kwarg := none, defaults := [] }
def inB (msg : Str) (a b c d e f g i j k : Pos) : List Stmt :=
  [.Expr (.Call (.Attribute (.Call (.Name "super" a) [] [] b) "__init__" c) [.Constant (.str msg) 0 d] [] e) f, .Assign [.Attribute (.Name "self" g) "value" i] (.Name "value" j) k]
def SupCall (msg : Str) (a b c d e : Pos) : Prop := ∀ env : Env, ∃ pl : Sem Bool, eval (.Call (.Attribute (.Call (.Name "super" a) [] [] b) "__init__" c) [.Constant (.str msg) 0 d] [] e) env = (do
  let ov ← attributeBase (.Call (.Name "super" a) [] [] b) "__init__" env (eval (.Call (.Name "super" a) [] [] b) env)
  standAt c.atName
  let (f, first) ← holding [ov] (getMethod ov "__init__" pl)
  callWith e f first (backTo e (starEach [.Constant (.str msg) 0 d] env)) [])
def inS : Scope := { kind := .function, names := [(PySem.Str.ofString "self", .local), (PySem.Str.ofString "value", .local), (PySem.Str.ofString "__class__", .free), (PySem.Str.ofString "super", .globalImplicit)], isGenerator := false, isCoroutine := false, more := [] }
/-- what the written part says of the errors' own base, at L -/
structure LineC (K : PySem.W.Frag) (mg : Str → Option Value) (L : Addr) : Prop where
  gL : mg "LineError" = some (.ref L)
  cls : ∃ n q N bs sn sub ab col dd k0 k1 k2 k3 k5, K.lookup L = some (excClassObj n q L N bs HandSPX.veTail true sn sub ab col dd k0 k1 k2 k3 k5 "ValueError.__new__")
  ini : PySem.W.findIn K (.ref L) "__init__" = some (some (.builtin "ValueError.__init__"))
  ty : PySem.W.typeIn K (.ref L) = some (.type "type")
  exB : PySem.W.subIn K (.ref L) (.type "BaseException") = some true
  sup : PySem.W.nsIn K mainGlobals "super" = some none
  opq : PySem.W.nsIn K cStatics "thirdparty.any" = some none
  sp : PySem.W.specialIn K (.builtin "object.__class__") "__get__" = some (some (.builtin "getset_descriptor.__get__"))
  tk : PySem.W.takesIn K (.builtin "object.__class__") = some true
/-- what the written part says of an error class at C, whose base stands at L; st is the text of its __init__, qual that def's long name, nm the class's name -/
structure ErrC (K : PySem.W.Frag) (file : Str) (mg : Str → Option Value) (L : Addr) (nm qual : Str) (st : Stmt) (C : Addr) : Prop where
  gC : mg nm = some (.ref C)
  cls : ∃ n q N bs sn sub ab col dd k0 k1 k2 k3 k5, K.lookup C = some (excClassObj n q C N bs (.ref L :: HandSPX.veTail) true sn sub ab col dd k0 k1 k2 k3 k5 "ValueError.__new__")
  sa : PySem.W.findIn K (.ref C) "__setattr__" = some (some (.builtin "object.__setattr__"))
  ga : PySem.W.findIn K (.ref C) "__getattribute__" = some (some (.builtin "BaseException.__getattribute__"))
  gg : PySem.W.findIn K (.ref C) "__getattr__" = some none
  ca : PySem.W.findIn K (.ref C) "__class__" = some (some (.builtin "object.__class__"))
  nv : PySem.W.findIn K (.ref C) "value" = some none
  ty : PySem.W.typeIn K (.ref C) = some (.type "type")
  kp : PySem.W.keepIn K (.ref C) = true
  init : ∃ fI : Addr, PySem.W.findIn K (.ref C) "__init__" = some (some (.ref fI)) ∧ PySem.W.typeIn K (.ref fI) = some (.type "function") ∧
    ∃ (oc : Value) (od : Option Addr) (doc pm : Value) (an : Option Addr) (cc cda : Addr) (ct : Value) (osl : Array (Option Value)),
      K.lookup fI = some ⟨oc, od, .func (PySem.W.fnX "__init__" qual (defArgs st) (defBody st) (defScope st) [("__class__", cc)] .none .none doc pm an (.ref cda) ct), osl⟩ ∧ PySem.W.codeIn K (.ref cda) qual = true ∧
      (∃ (cl : Value) (cd : Option Addr) (vs : Array Value) (cs : Array (Option Value)) (tf : Tok), K.lookup cda = some ⟨cl, cd, .fields vs, cs⟩ ∧ vs[2]? = some (.str file tf)) ∧
      ∃ (cl : Value) (cd : Option Addr) (cs : Array (Option Value)), K.lookup cc = some ⟨cl, cd, .cell (some (.ref C)), cs⟩
  tA : ∃ a b, defArgs st = inA a b
  tB : ∃ msg a b c d e f g i j k, defBody st = inB msg a b c d e f g i j k ∧ SupCall msg a b c d e
  tS : defScope st = inS
theorem LineC.along {K : PySem.W.Frag} {mg : Str → Option Value} {L : Addr} (T : LineC K mg L) : PySem.W.alongIn K "__init__" (.ref L :: HandSPX.veTail) = some (some (.builtin "ValueError.__init__")) := by
  obtain ⟨n, q, N, bs, sn, sub, ab, col, dd, k0, k1, k2, k3, k5, hL⟩ := T.cls
  have e := T.ini
  simp only [PySem.W.findIn, hL] at e
  exact e
/-- the chain of classes above C -/
theorem ErrC.chain {K : PySem.W.Frag} {file : Str} {mg : Str → Option Value} {L C : Addr} {nm qual : Str} {st : Stmt} (T : ErrC K file mg L nm qual st C) : ∃ cd : ClassData, PySem.W.clsIn K C = some cd ∧ cd.mro = .ref C :: .ref L :: HandSPX.veTail ∧ cd.hasDict = true := by
  obtain ⟨n, q, N, bs, sn, sub, ab, col, dd, k0, k1, k2, k3, k5, hC⟩ := T.cls
  exact ⟨{ name := n, bases := bs, mro := .ref C :: .ref L :: HandSPX.veTail, ns := N, qualname := q, hasDict := true, slotNames := sn, subclasses := sub, abstract := ab, collection := col, hasDel := false }, by unfold PySem.W.clsIn; rw [hC] <;> rfl, rfl, rfl⟩
theorem ErrC.under {K : PySem.W.Frag} {file : Str} {mg : Str → Option Value} {L C : Addr} {nm qual : Str} {st : Stmt} (T : ErrC K file mg L nm qual st C) (b : Value) : PySem.W.mroIn K C b = some ((Value.ref C :: .ref L :: HandSPX.veTail).contains b) := by
  obtain ⟨cd, e1, e2, _⟩ := T.chain
  unfold PySem.W.mroIn
  rw [e1, Option.bind_some, e2]
  rfl
section
variable {prog : Program} {w : World} {A : Around} {E : Value → Shared → Prop} {R : Result → Shared → Prop} {M : Model}
variable {h : Heap} {gn : Array GenState} {dr : Drawn} {tk : Nat} {os : OsState}
variable {nm q : Str} {C N : Addr} {bs bm bmB : List Value} {hdt : Bool} {sn : List Str} {sub : List Value} {ab : Bool} {col : Option Bool} {dd : Option Addr} {k0 k1 k2 k3 k5 : Option Value} {B nid iid : String}
theorem tcCheck {pos : List Value} {kw : List (Str × Value)} {Q : Unit → Shared → Prop} (hC : h.get? C = some (excClassObj nm q C N bs bm hdt sn sub ab col dd k0 k1 k2 k3 k5 nid)) (hq : Q () ⟨h, gn, dr, tk, os⟩) :
    wpAny M A (checkBuiltinCall "type.__call__" ⟨.ref C :: pos, kw⟩) Q E ⟨h, gn, dr, tk, os⟩ := by
  have f3 := tc_sub
  have hT : (⟨h, gn, dr, tk, os⟩ : Shared).TypeIs (.ref C) "type" := ⟨_, hC, rfl⟩
  simp only [checkBuiltinCall, tc_kind, tc_split]
  repeat (any_goals (first | assumption | with_reducible refine wpAny_loadPart_at hC ?_ | with_reducible refine wpAny_onRaise ?_ | with_reducible refine wpAny_map ?_ | wp_step))
theorem clsCalls (F : ExcBaseFacts B nid iid bmB) (hT : ∀ Y : String, bm.contains (.type Y) = bmB.contains (.type Y)) {pos : List Value} {kw : List (Str × Value)} {fI : Addr}
    (hC : h.get? C = some (excClassObj nm q C N bs bm hdt sn sub ab col dd k0 k1 k2 k3 k5 nid))
    (hi : Looks (model prog w) h (typeLookup (.ref C) "__init__") (some (.ref fI))) (hb : ∀ self, Looks (model prog w) h (bindSpecial (.ref fI) self) (.ref fI, [self])) (hl : pos.length ≤ sizeLine)
    (hq : codeAny (model prog w) (A.under (.builtin "type.__call__" ⟨.ref C :: pos, kw⟩)) (.call (.ref fI) ⟨.ref (h.objs.size + 1) :: pos, kw⟩) (W.InitBack (h.objs.size + 1) R)
      ⟨(h.push (W.kdv_tup pos)).push (excO C h.objs.size), gn, dr, tk, os⟩) :
    codeAny (model prog w) A (.call (.ref C) ⟨pos, kw⟩) R ⟨h, gn, dr, tk, os⟩ := by
  have f1 := tc_lookup
  have f2 := tc_bind (.ref C)
  have hTy : (⟨h, gn, dr, tk, os⟩ : Shared).TypeIs (.ref C) "type" := ⟨_, hC, rfl⟩
  refine codeAny_of_tree ?_
  show wpAny _ _ (callAny (.ref C) _) _ _ _
  repeat (any_goals (first | assumption | with_reducible refine wpAny_loadPart_at hC ?_ | wp_step))
  refine ⟨rfl, ?_⟩
  refine codeAny_call_builtin_at (Code.quiet_builtin _ (by decide +kernel)) entry_typeCall (tcCheck hC (typeCalls F hT hC hi hb hl ?_))
  refine codeAny_mono hq fun r s' z => ?_
  rcases r with e | (v | _ | _ | _) <;> exact z
end
end Lx
namespace Lx
open PySem PySem.HandSPX
open PySem.W (Looks)
open L2 (defArgs defBody defScope)
/-- what __init__ leaves of a fresh error at x -/
structure InitLeft (h h' : Heap) (x C dx t1 : Addr) (v : Value) : Prop where
  keep : ∀ b o, b ≠ x → h.get? b = some o → h'.get? b = some o
  obj : h'.get? x = some { cls := .ref C, dict := some dx, data := .fields #[.ref t1, .none, .none, .none, .bool false, .none] }
  big : h.objs.size ≤ dx
  ne : dx ≠ x
  ns : h'.Ns1 dx (fun y => if y = "value" then some v else none)
/-- the two ways in which the value is handed over -/
inductive Hands (v : Value) : List Value → List (Str × Value) → Prop where
  | pos : Hands v [v] []
  | kw : Hands v [] [("value", v)]
section
variable {prog : Program} {w : World} {A : Around} {E : Value → Shared → Prop} {R : Result → Shared → Prop} {M : Model} {s : Shared}
variable {K : PySem.W.Frag} {mg mb : Str → Option Value} {nm qual : Str} {st : Stmt} {C L : Addr}
theorem initRuns (TL : LineC K mg L) (T : ErrC K prog.main.file mg L nm qual st C) {x t0 fI : Addr} {v : Value} {ps : List Value} {kw : List (Str × Value)} (hv : Hands v ps kw) (htop : (prog.main.scope.names.lookup ("super" : Str)).isSome = false)
    (hfI : PySem.W.findIn K (.ref C) "__init__" = some (some (.ref fI))) (X : K.In s.heap) (G : s.heap.Ns mainGlobals mg) (gs : mg "super" = none) (B : s.heap.Ns builtinsNs mb) (bs : mb "super" = some (.type "super"))
    (hlim : s.heap.NoLimit) (hnx : K.lookup x = none) (hx : s.heap.get? x = some (excO C t0)) (hroom : A.depth < recursionLimit)
    (hq : ∀ h' tk dx t1, InitLeft s.heap h' x C dx t1 v → R (.ok (.ret .none)) { s with heap := h', toks := tk }) :
    codeAny (model prog w) A (.call (.ref fI) ⟨.ref x :: ps, kw⟩) R s := by
  obtain ⟨n, q, N, bss, sn, sub, ab, col, dd, k0, k1, k2, k3, k5, hC⟩ := T.cls
  obtain ⟨bm, ebm⟩ : ∃ bm, bm = (Value.ref L :: HandSPX.veTail) := ⟨_, rfl⟩
  rw [← ebm] at hC
  have hbm : refsVE bm = true := by rw [ebm]; rfl
  have hal := TL.along
  rw [← ebm] at hal
  obtain ⟨f2, e2, tI, oc, od, doc, pm, an, cc, cda, ct, osl, ho, hcd, ⟨cl, cd, vs, cs, tf, hco, hvs⟩, cl2, cd2, cs2, hce⟩ := T.init
  rw [hfI] at e2
  obtain rfl : fI = f2 := Value.ref.inj (Option.some.inj (Option.some.inj e2))
  obtain ⟨a1, a2, eA⟩ := T.tA
  obtain ⟨msg, p0, p1, p2, p3, p4, p5, q1, q2, q3, q4, eB, hsc⟩ := T.tB
  rw [eA, eB, T.tS] at ho
  have hcl : PySem.W.clsIn K C = some { name := n, bases := bss, mro := .ref C :: bm, ns := N, qualname := q, hasDict := true, slotNames := sn, subclasses := sub, abstract := ab, collection := col, hasDel := false } := by
    unfold PySem.W.clsIn; rw [hC] <;> rfl
  have hcC : (Value.ref C :: bm).contains (.ref C) = true := by simp
  have hbase : ∀ Y : String, bm.contains (.type Y) = HandSPX.veTail.contains (.type Y) := fun Y => refsVE_contains Y bm hbm
  refine ks_codeAny_call_defAt (fd := PySem.W.fnX "__init__" qual (inA a1 a2) (inB msg p0 p1 p2 p3 p4 p5 q1 q2 q3 q4) inS [("__class__", cc)] .none .none doc pm an (.ref cda) ct) (body := inB msg p0 p1 p2 p3 p4 p5 q1 q2 q3 q4)
    (binds := [("self", .ref x), ("value", v)]) hroom (X _ _ ho) rfl hlim (PySem.W.codeRec_of X hcd) rfl ?_ (show ∀ y ∈ inS.names, y.2 ≠ .cell by decide) (by intro y hy; simp only [List.mem_cons, List.not_mem_nil, or_false] at hy; rcases hy with rfl | rfl <;> rfl) (fun h1 hns hk => ?_) rfl rfl rfl
  · cases hv with
    | pos => exact .of_eq (by first | rfl | with_unfolding_all rfl)
    | kw => exact .of_eq (by first | rfl | with_unfolding_all rfl)
  have X1 : K.In h1 := X.keeps hk
  have hx1 := hk _ _ hx
  have hC1 := X1 _ _ hC
  have hxC : x ≠ C := fun z => by
    rw [z] at hx1
    rw [hC1] at hx1
    cases hx1
  have hL : s.heap.objs.size ≠ x := Nat.ne_of_gt (Heap.lt_size hx)
  obtain ⟨pl, hpl⟩ := hsc (callEnv (PySem.W.fnX "__init__" qual (inA a1 a2) (inB msg p0 p1 p2 p3 p4 p5 q1 q2 q3 q4) inS [("__class__", cc)] .none .none doc pm an (.ref cda) ct) s.heap.objs.size fI)
  refine ks_wpAt_execs_cons (ks_wpAt_Expr_any (ks_wpAt_MethodCall (pl := pl) ?_ hpl))
  refine ks_wpAt_super_base (env := callEnv (PySem.W.fnX "__init__" qual (inA a1 a2) (inB msg p0 p1 p2 p3 p4 p5 q1 q2 q3 q4) inS [("__class__", cc)] .none .none doc pm an (.ref cda) ct) s.heap.objs.size fI) rfl rfl rfl rfl (X1 _ _ ho) rfl rfl rfl (X1 _ _ hco) rfl hvs (by simp) htop ?_
  refine PySem.W.ks_loadName_global rfl rfl (Calls.loadGlobal_builtin (mg := mg) (mb := mb) ?_ gs ?_ bs ⟨rfl, ?_⟩)
  · obtain ⟨o, es, ep, e, r⟩ := G
    exact ⟨o, es, ep, hk _ _ e, r⟩
  · obtain ⟨o, es, ep, e, r⟩ := B
    exact ⟨o, es, ep, hk _ _ e, r⟩
  refine wpAny_loadName_free rfl rfl (c := cc) rfl ⟨_, X1 _ _ hce, rfl⟩ ?_
  refine wpAny_loadName_local (m := fun y => ([("self", .ref x), ("value", v)] : List (Str × Value)).reverse.lookup y) rfl rfl hns rfl ?_
  refine ks_wpAny_isType_cls hC1 rfl ⟨rfl, ?_⟩
  refine ks_wpAny_call_super (C := C) hC1 rfl hx1 rfl (fun c e => by cases e) (PySem.W.looks_mroIn X1 (by unfold PySem.W.mroIn; rw [hcl, Option.bind_some, if_neg (by simp), hcC])) (fun h2 hso k2' => ?_)
  have X2 : K.In h2 := X1.keeps k2'
  have hx2 := k2' _ _ hx1
  have I2 : PySem.W.InstAt h2 x (excO C t0) C none := ⟨hx2, rfl, rfl, trivial⟩
  refine PySem.W.kxs_getMethod PySem.W.kxs_ValueError hso (PySem.W.looks_opaque X2 TL.opq) (l₀ := .ref C :: bm) (l := bm) (fun A' Q' E' s' k' q' => wpAny_bind ((PySem.W.looks_clsIn X2 hcl) A' _ E' s' k' (wpAny_pure q')))
    (by simp [List.dropWhile_cons]) X2 hal (I2.type.andThen (PySem.W.looks_mroIn X2 ((T.under _).trans (by rfl)))) hxC (by decide) ?_
  have k3 : ∀ b o, h2.get? b = some o → (h2.push (PySem.W.kxs_mw "ValueError.__init__" x)).get? b = some o := fun b o e => Heap.get?_push_of_some _ e
  have hu : (h2.push (PySem.W.kxs_mw "ValueError.__init__" x)).get? h2.objs.size = some (PySem.W.kxs_mw "ValueError.__init__" x) := Heap.get?_push_at rfl rfl
  refine PySem.W.kxs_callWith (i := "ValueError.__init__") (x := x) (by rfl) ?_
  refine Calls.evalArgs_plain ?_
  refine Calls.spliced_cons (wpAny_Constant_str (k := 0) (pos := p3) (Calls.spliced_nil ⟨hu, ?_⟩))
  have hone : ([.str msg s.toks] : List Value).length ≤ sizeLine := by rw [sizeLine_eq]; exact (by decide : 1 ≤ 16777216)
  refine wpAny_call (codeAny_of_tree ?_)
  show wpAny _ _ (callAny (.ref h2.objs.size) _) _ _ _
  simp only [callAny]
  refine wpAny_bind (wpAny_load hu ?_)
  simp only [PySem.W.kxs_mw, show (Value.type "method-wrapper" == Value.type "method" || Value.type "method-wrapper" == Value.type "builtin_function_or_method" || Value.type "method-wrapper" == Value.type "method-wrapper") = true by decide, if_true]
  refine PySem.W.KFB.if_so (by decide) ?_
  refine wpAny_bind (PySem.W.check_bound_init F.excBase_ValueError.toExcCallFacts (k3 _ _ (k2' _ _ hC1)) (k3 _ _ hx2) rfl ?_)
  refine wpAny_bind (wpAny_pure (wpAny_pure ?_))
  refine ⟨plainId_quiet F.excBase_ValueError.init.plain _, codeAny_builtin F.excBase_ValueError.initEntry ?_⟩
  refine PySem.W.exc_init_tree (cls := .ref C) (t0 := t0) (dv := none) (c2 := .none) (c3 := .none) (b4 := .bool false) (k3 _ _ hx2) (by rw [sizeLine_eq]; exact (by decide : 1 ≤ 16777216)) (fun h3 k4 hx3 _ => ?_)
  show wpAt _ _ _ (execs _ _) _ _ _
  have keep3 : ∀ b o, b ≠ x → h1.get? b = some o → h3.get? b = some o := fun b o hb e => k4 b o hb (k3 _ _ (k2' _ _ e))
  have hns3 : h3.Ns s.heap.objs.size (fun y => ([("self", .ref x), ("value", v)] : List (Str × Value)).reverse.lookup y) := by
    obtain ⟨o, es, ep, e, r⟩ := hns
    exact ⟨o, es, ep, keep3 _ _ hL e, r⟩
  have X3 : K.In h3 := fun a o e => keep3 a o (fun z => by
    rw [z, hnx] at e
    cases e) (X1 a o e)
  refine ks_wpAt_execs_cons (ks_wpAt_Assign_Attr ?_)
  refine wpAt_of_wpAny (wpAny_Name (wpAny_loadName_local rfl rfl hns3 rfl ?_))
  refine wpAny_Name (wpAny_loadName_local rfl rfl hns3 rfl ?_)
  refine PySem.W.set_plain X3 (ox := excO C _) (od := none) ⟨hx3, rfl, rfl, trivial⟩ T.sa ?_
  refine exc_osa X3 hx3 hcl (show refsVE (.ref C :: bm) = true from hbm) rfl T.nv (fun h4 tk4 dx k5 dn dne hx4 hn4 => ?_)
  refine wpAt_of_wpAny (wpAny_pure ?_)
  refine hq h4 tk4 dx _ ⟨fun b o hb e => k5 b o hb (keep3 b o hb (hk b o e)), hx4, Nat.le_trans (Nat.le_of_lt hns3.lt) dn, dne, hn4⟩
end
end Lx
namespace Lx
open PySem PySem.HandSPX
/-- a made error, at e, its own dict at d -/
structure ErrMade (h h' : Heap) (e C d : Addr) (v : Value) : Prop where
  keep : ∀ b o, h.get? b = some o → h'.get? b = some o
  ebig : h.objs.size ≤ e
  obj : ∃ t1 : Addr, h'.get? e = some { cls := .ref C, dict := some d, data := .fields #[.ref t1, .none, .none, .none, .bool false, .none] }
  dbig : h.objs.size ≤ d
  ne : d ≠ e
  ns : h'.Ns1 d (fun y => if y = "value" then some v else none)
section
variable {prog : Program} {w : World} {A : Around} {R : Result → Shared → Prop} {s : Shared}
variable {K : PySem.W.Frag} {mg mb : Str → Option Value} {nm qual : Str} {st : Stmt} {C L : Addr}
theorem errMade (TL : LineC K mg L) (T : ErrC K prog.main.file mg L nm qual st C) {v : Value} {ps : List Value} {kw : List (Str × Value)} (hv : Hands v ps kw) (htop : (prog.main.scope.names.lookup ("super" : Str)).isSome = false)
    (X : K.In s.heap) (G : s.heap.Ns mainGlobals mg) (gs : mg "super" = none) (B : s.heap.Ns builtinsNs mb) (bs : mb "super" = some (.type "super")) (hlim : s.heap.NoLimit) (hroom : A.depth + 1 < recursionLimit)
    (hq : ∀ h' tk e d, ErrMade s.heap h' e C d v → R (.ok (.ret (.ref e))) { s with heap := h', toks := tk }) : codeAny (model prog w) A (.call (.ref C) ⟨ps, kw⟩) R s := by
  obtain ⟨n, q, N, bss, sn, sub, ab, col, dd, k0, k1, k2, k3, k5, hC⟩ := T.cls
  obtain ⟨fI, iC, tI, _⟩ := T.init
  obtain ⟨hp, g, dr, tk, os⟩ := s
  have kp : ∀ b o, hp.get? b = some o → ((hp.push (W.kdv_tup ps)).push (excO C hp.objs.size)).get? b = some o := fun b o e => Heap.get?_push_of_some _ (Heap.get?_push_of_some _ e)
  have hget : ((hp.push (W.kdv_tup ps)).push (excO C hp.objs.size)).get? (hp.objs.size + 1) = some (excO C hp.objs.size) := by heap_get
  have hnx : K.lookup (hp.objs.size + 1) = none := by
    cases e : K.lookup (hp.objs.size + 1) with
    | none => rfl
    | some o =>
      have z : hp.get? (hp.objs.size + 1) = some o := X _ _ e
      exact absurd (Nat.lt_of_succ_lt (Heap.lt_size z)) (Nat.lt_irrefl _)
  have hl : ps.length ≤ sizeLine := by
    cases hv with
    | pos => rw [sizeLine_eq]; exact (by decide : 1 ≤ 16777216)
    | kw => exact Nat.zero_le _
  refine clsCalls F.excBase_ValueError (fun Y => refsVE_contains Y (.ref L :: HandSPX.veTail) (by rfl)) (X _ _ hC) (W.looks_findIn X iC) (fun self => W.bind_fn X self tI) hl ?_
  refine initRuns (s := ⟨(hp.push (W.kdv_tup ps)).push (excO C hp.objs.size), g, dr, tk, os⟩) TL T hv htop iC (X.keeps kp) ?_ gs ?_ bs (hlim.keeps kp) hnx hget ?_ fun h' tk' dx t1 I => ?_
  · obtain ⟨o, es, ep, e, r⟩ := G
    exact ⟨o, es, ep, kp _ _ e, r⟩
  · obtain ⟨o, es, ep, e, r⟩ := B
    exact ⟨o, es, ep, kp _ _ e, r⟩
  · show A.depth + 1 < recursionLimit
    exact hroom
  · have z : hp.objs.size + 1 + 1 ≤ dx := by
      first
        | (simpa only [Heap.size_push] using I.big)
        | (have q := I.big; rw [Heap.size_push, Heap.size_push] at q; exact q)
    refine ⟨rfl, hq h' tk' (hp.objs.size + 1) dx ⟨fun b o e => I.keep b o (Nat.ne_of_lt (Nat.lt_succ_of_lt (Heap.lt_size e))) (kp b o e), Nat.le_succ _, ⟨t1, I.obj⟩, (show hp.objs.size ≤ dx by omega), I.ne, I.ns⟩⟩
end
end Lx
namespace Lx
open PySem PySem.Spec L2
/-- at e: an error of the class at C, its own dict at d -/
def errO (e C d : Addr) : HO := .ext fun h => ∃ t1 : Addr, h.get? e = some ({ cls := .ref C, dict := some d, data := .fields #[.ref t1, .none, .none, .none, .bool false, .none] } : Obj)
theorem errO_ok {P : Program} {w : World} {H : Hp} {h : Heap} {e C d t1 : Addr} (he : h.get? e = some ({ cls := .ref C, dict := some d, data := .fields #[.ref t1, .none, .none, .none, .bool false, .none] } : Obj)) : ObjOk P w H h e (errO e C d) :=
  ⟨⟨t1, he⟩, ⟨_, he⟩, fun _ _ ⟨t, q⟩ k => ⟨t, k _ q⟩⟩
theorem errO_at {P : Program} {w : World} {H : Hp} {h : Heap} {e C d : Addr} (hok : HOk P w H h) (he : H e = some (errO e C d)) : ∃ t1 : Addr, h.get? e = some ({ cls := .ref C, dict := some d, data := .fields #[.ref t1, .none, .none, .none, .bool false, .none] } : Obj) := by
  have x : ObjOk P w H h e (.ext fun h => ∃ t1 : Addr, h.get? e = some ({ cls := .ref C, dict := some d, data := .fields #[.ref t1, .none, .none, .none, .bool false, .none] } : Obj)) := hok e _ he
  exact x.1
/-- the fields of a made error -/
abbrev vf (v : V) : List (Str × V) := [(("value" : Str), v)]
theorem relO_vf {v : V} {u : Value} (r : RelV v u) (f : Str) : RelO (List.lookup f (vf v)) (if f = "value" then some u else none) := by
  by_cases hw : f = "value"
  · subst hw
    rw [if_pos rfl]
    have q : List.lookup ("value" : Str) (vf v) = some v := by simp [List.lookup]
    rw [q]
    exact r
  · rw [if_neg hw]
    have qw : (f == ("value" : Str)) = false := by simpa using hw
    have q2 : List.lookup f (vf v) = none := by simp [List.lookup, qw]
    rw [q2]
    trivial
section
variable {X : Cx} {pins : List (Addr × Obj)} {σ : St} {H : Hp} {s : Shared}
/-- two new objects laid at once -/
theorem laid2 {h' : Heap} {d e : Addr} {o1 o2 : HO} {t' : Nat} (I : Inv X pins σ H s) (k : ∀ b u, s.heap.get? b = some u → h'.get? b = some u) (hd : s.heap.objs.size ≤ d) (he : s.heap.objs.size ≤ e)
    (ok1 : ObjOk X.prog X.w (upd (upd H d o1) e o2) h' d o1) (ok2 : ObjOk X.prog X.w (upd (upd H d o1) e o2) h' e o2) : Inv X pins σ (upd (upd H d o1) e o2) { s with heap := h', toks := t' } := by
  have nd : H d = none := I.hok.fresh hd
  have ne : H e = none := I.hok.fresh he
  have old : ∀ b o, H b = some o → upd (upd H d o1) e o2 b = some o := fun b o q => by
    rw [upd_ne (ne_of_none q ne), upd_ne (ne_of_none q nd)]
    exact q
  have lt : ∀ (b : Addr) (o : Obj), s.heap.get? b = some o → b ≠ d ∧ b ≠ e := fun b o q => ⟨Nat.ne_of_lt (Nat.lt_of_lt_of_le (Heap.lt_size q) hd), Nat.ne_of_lt (Nat.lt_of_lt_of_le (Heap.lt_size q) he)⟩
  refine I.un (t' := t') ⟨fun b o q _ _ _ => k b o q, fun b o q _ _ _ => ⟨o.slots, k b o q⟩, fun b o q n _ => ?_, fun b o q _ => ⟨o, k b o q⟩, fun b xs q => old _ _ q, fun b o u q => old _ _ q, fun b ps q => ⟨#[], by rw [old _ _ q]; simp⟩⟩ fun b o q => ?_
  · rw [upd_ne (lt b o q).2, upd_ne (lt b o q).1]
    exact n
  · by_cases h1 : b = e
    · subst h1
      rw [upd_same] at q
      cases q
      exact ok2
    · rw [upd_ne h1] at q
      by_cases h2 : b = d
      · subst h2
        rw [upd_same] at q
        cases q
        exact ok1
      · rw [upd_ne h2] at q
        exact (I.hok b o q).stay (fun c v _ z => k c v z) (fun c z => old _ _ z) fun c xs z => old _ _ z
end
/-- C(e), C(value=e): a new error and its dict -/
def tErr (C : Addr) (ta : TE) : TE := fun σ H Q => ta σ H fun v H1 => ∀ d e : Addr, H1 d = none → H1 e = none → d ≠ e → Q (.ref e) (upd (upd H1 d (.xd (vf v))) e (errO e C d))
/-- raise C(e) -/
def tErrR (C : Addr) (ta : TE) : St → Hp → XK → Prop := fun σ H Q => ta σ H fun v H1 => ∀ d : Addr, H1 d = none → Q (.ref C) (some d) (upd H1 d (.xd (vf v)))
section
variable {X : Cx} {C L : Addr} {nm qual : Str} {st : Stmt} {a : Expr} {ta : TE} {p pos kpos : Pos} {k : Nat}
theorem callErr {pins : List (Addr × Obj)} {σ : St} {H : Hp} {s : Shared} {R : Value → Shared → Prop} {E : Value → Shared → Prop} (TL : LineC X.K X.mg L) (T : ErrC X.K X.prog.main.file X.mg L nm qual st C) (hr : Room k X.A) (htop : (X.prog.main.scope.names.lookup ("super" : Str)).isSome = false) (gs : X.mg "super" = none)
    {v : Value} {ps : List Value} {kw : List (Str × Value)} (hv : Hands v ps kw) (I : Inv X pins σ H s)
    (hq : ∀ h' tk e d, ErrMade s.heap h' e C d v → R (.ref e) { s with heap := h', toks := tk }) : wpAny (model X.prog X.w) X.A (call (.ref C) ps kw) R E s := by
  obtain ⟨mb, hB, hb⟩ := I.mod.blt
  refine wpAny_call (errMade TL T hv htop I.kIn (I.mod.glob.keeps I.bk) gs (hB.keeps I.bk) ((hb _ (by decide)).trans (by decide +kernel)) I.nolimit (by have := hr.dp; omega) fun h' tk e d M => hq h' tk e d M)
theorem errEP {pins : List (Addr × Obj)} {σ : St} {H : Hp} {s : Shared} {h' : Heap} {tk : Nat} {e d : Addr} {v : V} {u : Value} {Q : VK} (I : Inv X pins σ H s) (r : RelV v u) (M : ErrMade s.heap h' e C d u)
    (q : ∀ d e : Addr, H d = none → H e = none → d ≠ e → Q (.ref e) (upd (upd H d (.xd (vf v))) e (errO e C d))) : EP X pins σ Q (.ref e) { s with heap := h', toks := tk } := by
  obtain ⟨t1, ho⟩ := M.obj
  exact ⟨.ref e, _, laid2 (o1 := .xd (vf v)) (o2 := errO e C d) I M.keep M.dbig M.ebig ⟨_, M.ns, fun f => relO_vf r f⟩ (errO_ok ho), rfl, q d e (I.hok.fresh M.dbig) (I.hok.fresh M.ebig) M.ne⟩
/-- C(e) as a value -/
theorem pe_err (TL : LineC X.K X.mg L) (T : ErrC X.K X.prog.main.file X.mg L nm qual st C) (hr : Room k X.A) (htop : (X.prog.main.scope.names.lookup ("super" : Str)).isSome = false) (gs : X.mg "super" = none) (hg : Gl X nm) (he : PE X a ta) (hdb : (nm == ("__debug__" : Str)) = false := by decide)
    (hs : starEach [a] X.env = (false, eval a X.env) :: starEach [] X.env := by rfl) (hpl : (backTo pos (starEach [] X.env)).any (·.1) = false := by rfl) : PE X (.Call (.Name nm p) [a] [] pos) (tErr C ta) := by
  refine ⟨fun pins s σ H Q I h => ?_⟩
  refine wpAny_Call_Name_kw (ld_glob I hg T.gC ?_ hdb)
  refine PySem.W.callWith_K (h₀ := X.base) I.ok.mod.kin T.kp ?_ hs hpl
  rw [hs]
  show wpAny _ _ (spliced ((false, eval a X.env) :: backTo pos (starEach [] X.env))) _ _ s
  refine Calls.spliced_cons (thn (he.run pins s σ H _ I h) fun u s1 ⟨v, H1, I1, r1, q1⟩ => ?_)
  refine Calls.spliced_nil ⟨I1.kIn, ?_⟩
  show wpAny _ _ (call (.ref C) [u]) _ _ _
  exact callErr TL T hr htop gs .pos I1 fun h' tk e d M => errEP I1 r1 M q1
/-- C(value=e) as a value -/
theorem pe_errK (TL : LineC X.K X.mg L) (T : ErrC X.K X.prog.main.file X.mg L nm qual st C) (hr : Room k X.A) (htop : (X.prog.main.scope.names.lookup ("super" : Str)).isSome = false) (gs : X.mg "super" = none) (hg : Gl X nm) (he : PE X a ta) (hdb : (nm == ("__debug__" : Str)) = false := by decide)
    (hall : (backToKw pos (keywordEach [⟨some "value", a, kpos⟩] X.env)).all (·.1.isSome) = true := by rfl) (hks : (backToKw pos (keywordEach [⟨some "value", a, kpos⟩] X.env)).filterMap (·.1) = [("value" : Str)] := by rfl)
    (hpl : ((backTo pos (starEach [] X.env)).any (·.1) || (backToKw pos (keywordEach [⟨some "value", a, kpos⟩] X.env)).any (·.1.isNone)) = false := by rfl) : PE X (.Call (.Name nm p) [] [⟨some "value", a, kpos⟩] pos) (tErr C ta) := by
  refine ⟨fun pins s σ H Q I h => ?_⟩
  refine wpAny_Call_Name_kw (ld_glob I hg T.gC ?_ hdb)
  refine PySem.W.callWith_KW0 (h₀ := X.base) I.ok.mod.kin T.kp hall ?_ hpl
  refine thn ((pk_cons he pk_nil).run pos pins s σ H (fun vs H1 => match vs with | [v] => ∀ d e : Addr, H1 d = none → H1 e = none → d ≠ e → Q (.ref e) (upd (upd H1 d (.xd (vf v))) e (errO e C d)) | _ => False) I h) fun us s1 ⟨vs, H1, I1, r1, q1⟩ => ⟨I1.kIn, ?_⟩
  rw [hks]
  cases r1 with
  | nil => exact q1.elim
  | cons rv rn =>
    cases rn with
    | nil => exact callErr TL T hr htop gs .kw I1 fun h' tk e d M => errEP I1 rv M q1
    | cons _ _ => exact q1.elim
/-- raise C(e): what makes the error -/
theorem pmk_err (TL : LineC X.K X.mg L) (T : ErrC X.K X.prog.main.file X.mg L nm qual st C) (hr : Room k X.A) (htop : (X.prog.main.scope.names.lookup ("super" : Str)).isSome = false) (gs : X.mg "super" = none) (hg : Gl X nm) (he : PE X a ta) (hdb : (nm == ("__debug__" : Str)) = false := by decide)
    (hs : starEach [a] X.env = (false, eval a X.env) :: starEach [] X.env := by rfl) (hpl : (backTo pos (starEach [] X.env)).any (·.1) = false := by rfl) : PMk X (.Call (.Name nm p) [a] [] pos) (tErrR C ta) := by
  intro pins s σ H Q I h
  refine wpAny_Call_Name_kw (ld_glob I hg T.gC ?_ hdb)
  refine PySem.W.callWith_K (h₀ := X.base) I.ok.mod.kin T.kp ?_ hs hpl
  rw [hs]
  show wpAny _ _ (spliced ((false, eval a X.env) :: backTo pos (starEach [] X.env))) _ _ s
  refine Calls.spliced_cons (thn (he.run pins s σ H _ I h) fun u s1 ⟨v, H1, I1, r1, q1⟩ => ?_)
  refine Calls.spliced_nil ⟨I1.kIn, ?_⟩
  show wpAny _ _ (call (.ref C) [u]) _ _ _
  refine callErr TL T hr htop gs .pos I1 fun h' tk e d M => ?_
  obtain ⟨t1, hoe⟩ := M.obj
  have hns := M.ns
  obtain ⟨G', g1, g2⟩ := restrict h' fun b => decide (b ≠ e)
  have gk : ∀ b, b ≠ e → G'.get? b = h'.get? b := fun b hb => g1 b (decide_eq_true hb)
  have ge : G'.get? e = none := g2 e (by simp)
  have old : ∀ b o, s1.heap.get? b = some o → G'.get? b = some o := fun b o q => (gk b (Nat.ne_of_lt (Nat.lt_of_lt_of_le (Heap.lt_size q) M.ebig))).trans (M.keep b o q)
  have ob : ObjOk X.prog X.w (upd H1 d (.xd (vf v))) G' d (.xd (vf v)) := ⟨_, hns.at (fun o q => (gk d M.ne).trans q), fun f => relO_vf r1 f⟩
  have J : Inv X pins σ (upd H1 d (.xd (vf v))) { s1 with heap := G', toks := tk } := I1.laid (t' := tk) old M.dbig ob
  have r : Raises X (.ref C) := raises_own ((T.under _).trans (by rfl)) T.ty
  refine ⟨e, _, _, { s1 with heap := G', toks := tk }, _, .ref C, some d, rfl, J, fun b o q => ?_, ge, hoe, ⟨rfl, rfl⟩, rfl, rfl, ?_, rfl, I1.bare, r, q1 d (I1.hok.fresh M.dbig)⟩
  · by_cases hb : b = e
    · have q' : G'.get? b = some o := q
      rw [hb, ge] at q'
      cases q'
    · exact (gk b hb).symm.trans q
  · rw [upd_ne (Ne.symm M.ne)]
    exact I1.hok.fresh M.ebig
/-- the error's class is asked for -/
theorem kitErr (TL : LineC X.K X.mg L) (T : ErrC X.K X.prog.main.file X.mg L nm qual st C) {x : Addr} {ox : Obj} {od : Option Obj} : PySem.W.KitX X.K (.ref x) (.ref C) (fun h => PySem.W.InstAt h x ox C od) := by
  obtain ⟨cd, e1, e2, e3⟩ := T.chain
  exact PySem.W.kitx_exc (by rw [e1]; rfl) T.ga T.gg ((T.under _).trans (by rfl)) T.ca TL.sp TL.tk ((T.under _).trans (by rfl))
/-- isinstance(e, c), e a made error, c a class of the program (at D) or a built-in one -/
def rIsErr (K : PySem.W.Frag) : List V → Hp → VK → Prop := fun xs H Q => ∃ (e C d : Addr) (v : V) (c : V) (u : Value) (b : Bool), xs = [.ref e, c] ∧ H e = some (errO e C d) ∧ H d = some (.xd (vf v)) ∧ ClsV c u ∧ PySem.W.kitOne K (.ref C) u = some b ∧
  (∃ (file : Str) (mg : Str → Option Value) (L : Addr) (nm qual : Str) (st : Stmt), LineC K mg L ∧ ErrC K file mg L nm qual st C) ∧ Q (.bl b) H
theorem call_isErr : CallR X (.builtin "isinstance") (rIsErr X.K) := by
  intro pins s σ H xs us Q I r h
  obtain ⟨e, C', d, v, c, u, b, rfl, he, hd, hc, hk, ⟨file, mg, L', nm', qual', st', TL, T⟩, q⟩ := h
  obtain ⟨u1, u2, rfl, r1, r2⟩ := vals2 r
  obtain rfl : u1 = Value.ref e := r1
  have e2 := hc.eq r2
  subst e2
  obtain ⟨t1, ho⟩ := errO_at I.hok he
  obtain ⟨mA, hns, _⟩ := (show ∃ mA, s.heap.Ns1 d mA ∧ ∀ f, RelO ((vf v).lookup f) (mA f) from I.hok d _ hd)
  obtain ⟨od, hod, _⟩ := lookIn_ns hns
  obtain ⟨cd, q1, q2, q3⟩ := T.chain
  have Z : PySem.W.KitX X.K (.ref e) (.ref C') (fun h => PySem.W.InstAt h e { cls := .ref C', dict := some d, data := .fields #[.ref t1, .none, .none, .none, .bool false, .none] } C' (some od)) :=
    PySem.W.kitx_exc (by rw [q1]; rfl) T.ga T.gg ((T.under _).trans (by rfl)) T.ca TL.sp TL.tk ((T.under _).trans (by rfl))
  exact PySem.W.kia_one Z I.kIn ⟨ho, rfl, rfl, hod⟩ hk (fun z => nomatch z) fun tk => ⟨.bl b, H, I.tok tk, rfl, q⟩
/-- e.value, e a made error -/
def tErrV (K : PySem.W.Frag) (te : TE) : TE := fun σ H Q => te σ H fun x H1 => ∃ (e C d : Addr) (v : V), x = .ref e ∧ H1 e = some (errO e C d) ∧ H1 d = some (.xd (vf v)) ∧
  (∃ (file : Str) (mg : Str → Option Value) (L : Addr) (nm qual : Str) (st : Stmt), LineC K mg L ∧ ErrC K file mg L nm qual st C) ∧ Q v H1
theorem pe_errV {e : Expr} {te : TE} (he : PE X e te) (hb : attributeBase e "value" X.env (eval e X.env) = eval e X.env := by rfl) : PE X (.Attribute e "value" pos) (tErrV X.K te) := by
  refine ⟨fun pins s σ H Q I h => ?_⟩
  refine attr_of hb (thn (he.run pins s σ H _ I h) fun u s1 hh => ?_)
  obtain ⟨x, H1, I1, rx, e', C', d, v, ex, hoe, hd, ⟨file, mg, L', nm', qual', st', TL, T⟩, q⟩ := hh
  subst ex
  obtain rfl : u = Value.ref e' := rx
  obtain ⟨t1, ho⟩ := errO_at I1.hok hoe
  obtain ⟨mA, hns, hr⟩ := (show ∃ mA, s1.heap.Ns1 d mA ∧ ∀ f, RelO ((vf v).lookup f) (mA f) from I1.hok d _ hd)
  obtain ⟨od, hod, hl⟩ := lookIn_ns hns
  have l : List.lookup ("value" : Str) (vf v) = some v := by simp [List.lookup]
  obtain ⟨u, hu, ru⟩ := RelO.some_of (v := v) (o := mA "value") (by rw [← l]; exact hr "value")
  have J : PySem.W.InstAt s1.heap e' { cls := .ref C', dict := some d, data := .fields #[.ref t1, .none, .none, .none, .bool false, .none] } C' (some od) := ⟨ho, rfl, rfl, hod⟩
  obtain ⟨cd, q1, q2, q3⟩ := T.chain
  have hdict : PySem.W.hasDictIn X.K C' = true := by
    unfold PySem.W.hasDictIn
    rw [q1]
    simpa using q3
  exact HandSPX.exc_get I1.kIn J T.ga T.gg ((T.under _).trans (by rfl)) (PySem.W.findObj_own hdict T.nv rfl (by rw [hl, hu])) (handed_of ru) ⟨v, H1, I1.tok _, ru, q⟩
end
end Lx
namespace Lx
open PySem PySem.Spec L2 PyProof.Rows
/-! ### min of a tuple of ints -/
section
variable {prog : Program} {w : World} {A : Around} {E : Value → Shared → Prop} {s : Shared} {l : Addr}
variable {its : List Value} {ns : List Int} {Q : Value → Shared → Prop}
theorem min_rawT (hh : A.handled = none) (hl : s.heap.IsTuple l its.toArray) (hi : IntsAre its ns) (hne : 0 < ns.length)
    (h : ∀ h' tk M t', (∀ b o, s.heap.get? b = some o → h'.get? b = some o) → M ∈ ns → (∀ a, a ∈ ns → M ≤ a) → Q (.int M t') { s with heap := h', toks := tk }) : wpAny (model prog w) A (call (.builtin "min") [.ref l]) Q E s := by
  obtain ⟨xs, e⟩ := hi.allInts.items
  have hn : numsOf (intItems xs).toList = ns := by rw [← e]; exact hi.numsOf
  rw [nums_intItems] at hn
  subst hn
  rw [e] at hl
  have hsz : 0 < xs.size := by simpa using hne
  have hlt : l < s.heap.objs.size := by obtain ⟨_, e, _⟩ := hl; exact Heap.lt_size e
  refine call_min_walk (wpAny_pyIter_tuple hl ?_)
  refine ⟨_, _, _, _, _, _, _, rfl, Walks.tuple (A := A.in1) hh _ l (Nat.ne_of_lt hlt) (intItems xs), ⟨⟨_, Heap.get?_push_size _ rfl, rfl, rfl⟩, hl.at fun o e => Heap.get?_push_of_some _ e⟩, fun b hb => ?_, by simpa [intItems] using hsz, CmpOf.ints_lt (numAt xs) (fun _ _ => intItems_at), fun v h' tk hP hk => ?_⟩
  · show b < (s.heap.push _).objs.size
    rw [Heap.size_push]
    rcases List.mem_cons.mp hb with rfl | hb
    · exact Nat.lt_succ_self _
    · rcases List.mem_cons.mp hb with rfl | hb
      · exact Nat.lt_succ_of_lt hlt
      · cases hb
  · obtain ⟨t, rfl⟩ := intItems_at hP
    obtain ⟨h1, h2⟩ := argBest_lt (numAt xs) (xs.size - 1)
    have hz : (intItems xs).size = xs.size := by simp [intItems]
    refine h h' tk _ t (fun b o e => hk b o (fun hm => Nat.lt_irrefl _ ((List.mem_singleton.mp hm) ▸ Heap.lt_size e)) (Heap.get?_push_of_some _ e)) ?_ fun a ha => ?_
    · rw [numAt_eq]; exact PySem.getD_mem (by rw [List.length_map, Array.length_toList, hz]; omega)
    · obtain ⟨j, hj, rfl⟩ := mem_getD ha
      rw [List.length_map, Array.length_toList] at hj
      rw [← numAt_eq, hz]; exact h2 j (by omega)
end
def rMinT (K : PySem.W.Frag) : List V → Hp → VK → Prop := fun vs H Q => ∃ (a : Addr) (ns : List Int), vs = [V.ref a] ∧ SqT K H a (ns.map V.int) ∧ 0 < ns.length ∧ ∀ m, m ∈ ns → (∀ y, y ∈ ns → m ≤ y) → Q (.int m) H
theorem call_minT {X : Cx} (hc : X.calm = true) : CallR X (.builtin "min") (rMinT X.K) := by
  intro pins s σ H vs us Q I r h
  obtain ⟨a, ns, rfl, hs, hne, q⟩ := h
  obtain ⟨its, rv, hl, _⟩ := I.tuple hs
  rw [Vals.ref1 r]
  exact min_rawT (I.ok.hd hc) (by obtain ⟨o, h1, h2, n, h3⟩ := hl; exact ⟨o, h1, h2, n, h3⟩) rv.ints hne fun h' tk m t' hk h1 h2 => ⟨.int _, H, I.kept hk, ⟨_, rfl⟩, q m h1 h2⟩
/-! ### get of a written dict -/
def tKGet (K : PySem.W.Frag) (w : World) (td ty : TE) : TE := fun σ H Q => td σ H fun x H1 => ∃ a es n, x = .ref a ∧ KDict K w a es n ∧ ty σ H1 fun y H2 => ∃ (z : Str) (r : Option Value) (v : V), y = .str z ∧ PySem.W.nsIn K a z = some r ∧ RelV v (r.getD .none) ∧ Q v H2
theorem pe_kget {X : Cx} {o e : Expr} {apos cpos : Pos} {td ty : TE} (ho : PE X o td) (he : PE X e ty) (m : M1 X o "get" apos e cpos) : PE X (.Call (.Attribute o "get" apos) [e] [] cpos) (tKGet X.K X.w td ty) := by
  refine ⟨fun pins s σ H Q I h => ?_⟩
  refine wpAny_Call_method m.base m.few m.line PySem.F.plainAttrs_dict PySem.F.slot_dict_get PySem.F.type_dict_get (thn (ho.run pins s σ H _ I h) fun u s1 ⟨x, H1, I1, rx, a, es, n, ex, D, q1⟩ => ?_)
  subst ex
  obtain rfl : u = Value.ref a := rx
  have hm1 := PySem.W.mapOf_K (prog := X.prog) (w := X.w) I1.kIn D.at_ D.lit
  refine ⟨hm1.typeIs, fun b q => ?_, ?_⟩
  · cases q
    exact ⟨_, I1.kIn _ _ D.at_, rfl⟩
  rw [m.trees]
  refine Calls.callWith_builtin rfl (Calls.evalArgs_plain (Calls.spliced_cons (thn (he.run pins s1 σ H1 _ I1 q1) fun iv s2 ⟨y, H2, I2, ry, z, r, v, ey, e, rv, q2⟩ => Calls.spliced_nil ?_)))
  subst ey
  obtain ⟨t, rfl⟩ := ry
  have hm2 := PySem.W.mapOf_K (prog := X.prog) (w := X.w) I2.kIn D.at_ D.lit
  refine call_meetsIn PySem.F.slot_dict_get hm2.typeIs PySem.F.entry_dict_get (PySem.F.args_dict_get_2 _ _) (meets_dict_get (strKind X.prog X.w) a (strKind_is X.prog X.w z t) D.low) ⟨_, hm2, ?_⟩
  rw [PySem.W.find_K D.at_ e]
  exact ⟨v, H2, I2.tok _, rv, q2⟩
end Lx
namespace Lx
open PySem PySem.Spec L2
/-! ### enumerate(text) -/
/-- each sign of x with its place, in a new pair -/
def Itx (x : Str) : It :=
  ⟨fun i _ => i < x.cps.size, fun i H v H' => ∃ T c, v = .ref T ∧ H T = none ∧ H' = upd H T (.tup [.int (i : Nat), .str ⟨#[c]⟩]) ∧ x.cps[i]? = some c, fun i _ => x.cps.size ≤ i⟩
theorem turn_enumS {P : Program} {w : World} {K : PySem.W.Frag} {elts : List Expr} {kk : Nat} {tpos : Pos} (x : Str) (t : Tok) (e it : Addr) :
    Turn P w K (.Tuple elts kk tpos) (Itx x) [e, it] e (fun i h => (∃ old, IsEnum h e it ((i : Nat) : Int) old) ∧ h.IsStrIter it (strIterType x) x t i ∧ e ≠ it ∧ i ≤ x.cps.size) where
  mem := by simp
  obj := fun i h st b hb => by
    obtain ⟨⟨old, he⟩, ⟨o, ho, hc, hd⟩, _, _⟩ := st
    have e' : b = e ∨ b = it := by simpa using hb
    rcases e' with z | z
    · rw [z]; exact ⟨_, he, fun v q => nomatch q⟩
    · rw [z]; exact ⟨o, ho, fun v q => by rw [hd] at q; cases q⟩
  keep := fun i h h' st k => by
    obtain ⟨⟨old, he⟩, ⟨o, ho, r⟩, hne, hle⟩ := st
    exact ⟨⟨old, k e (by simp) _ he⟩, ⟨o, k it (by simp) o ho, r⟩, hne, hle⟩
  item := by
    intro X hP hw hK hc i pins s σ H E I hf st hg
    subst hP hw hK
    obtain ⟨⟨old, he⟩, hit, hne, hle⟩ := st
    have hlt : i < x.cps.size := hg
    have hel : e < s.heap.objs.size := Heap.lt_size he
    have hil : it < s.heap.objs.size := by obtain ⟨_, q, _⟩ := hit; exact Heap.lt_size q
    refine wpAny_pyNext_enum_itemD (Draws.text (A := X.A.in1) (I.ok.hd hc) it x t) he hit hlt hne (by simpa using hne) fun u h' tk hP ho hit' hT hsz hk => ?_
    obtain ⟨c, tc, hcx, rfl⟩ := hP
    refine ⟨_, rfl, wpAny_letOwnedTupleGo_enum (s := { s with heap := h', toks := tk + 1 }) ho fun h'' he' sb => ?_⟩
    have hT2 : h''.get? s.heap.objs.size = some { cls := .type "tuple", data := .seq #[.int i tk, .str ⟨#[c]⟩ tc] } := (sb.2 _ (Nat.ne_of_gt hel)).trans hT
    have new : ObjOk X.prog X.w (upd H s.heap.objs.size (.tup [.int (i : Nat), .str ⟨#[c]⟩])) h'' s.heap.objs.size (.tup [.int (i : Nat), .str ⟨#[c]⟩]) :=
      ⟨by show 2 ≤ sizeLine; decide, [.int i tk, .str ⟨#[c]⟩ tc], .cons ⟨_, rfl⟩ (.cons ⟨_, rfl⟩ .nil), ⟨_, hT2, rfl, _, rfl⟩⟩
    have I1 : Inv X pins σ (upd H s.heap.objs.size (.tup [.int (i : Nat), .str ⟨#[c]⟩])) { s with heap := h'', toks := tk + 1 } :=
      I.turnedNew (ch := [e, it]) (fun b ob hb q => (sb.2 b (fun z => hb (by simp [z]))).trans (hk b ob (fun z => hb (by simp [z])) (fun z => hb (by simp [z])) q)) hf (Nat.le_refl _) new
    refine ⟨.ref s.heap.objs.size, _, I1, rfl, ⟨_, c, rfl, I.hok.fresh (Nat.le_refl _), rfl, hcx⟩, ⟨⟨.str ⟨#[c]⟩ tc, ?_⟩, ?_, hne, hlt⟩, fun b hb => ?_⟩
    · have e1 : ((i + 1 : Nat) : Int) = (i : Int) + 1 := by omega
      rw [e1]; exact he'
    · obtain ⟨o, ho2, r⟩ := hit'
      exact ⟨o, (sb.2 it (Ne.symm hne)).trans ho2, r⟩
    · have hb' : b < s.heap.objs.size := by
        have e' : b = e ∨ b = it := by simpa using hb
        rcases e' with z | z
        · rw [z]; exact hel
        · rw [z]; exact hil
      rw [upd_ne (Nat.ne_of_lt hb')]
      exact (hf b hb).1
  done := by
    intro X hP hw hK hc i pins s σ H E I hf st hg
    subst hP hw hK
    obtain ⟨⟨old, he⟩, hit, hne, hle⟩ := st
    obtain ⟨f0, f1, f2, f3, f4, f5⟩ := hf it (by simp)
    have e1 : i = x.cps.size := Nat.le_antisymm hle hg
    subst e1
    exact wpAny_pyNext_enum_endD (Draws.text (A := X.A.in1) (I.ok.hd hc) it x t) he hit fun h' eb => ⟨rfl, I.turned (t' := s.toks) (fun b o hb q => eb b o hb q) f0 f1 f3 f4 f5⟩
  self := fun A i s Q E st h => let ⟨⟨_, he⟩, _⟩ := st; PySem.wpAny_pyIter_enum he h
def iEnumS (ta : TA) : TI := fun σ H R => ta σ H fun vs H1 => ∃ x, vs = [.str x] ∧ R (Itx x) H1
theorem pi_enumS {X : Cx} {e : Expr} {ta : TA} {p pos tpos : Pos} {elts : List Expr} {kk : Nat} (hg : Gl X "enumerate") (hm : X.mg "enumerate" = none) (ha : PA X [e] ta) (hs : starEach [e] X.env = [(false, eval e X.env)] := by rfl) :
    PI X (.Tuple elts kk tpos) (.Call (.Name "enumerate" p) [e] [] pos) (iEnumS ta) := by
  refine ⟨fun pins s σ H R I h => ?_⟩
  refine PyProof.Rows.Call_ (ld_blt I hg hm PyProof.Rows.boot_enumerate (PyProof.Rows.callWith_type1 (thn (ha.run pos pins s σ H _ I h) fun us s1 ⟨vs, H1, I1, r1, q1⟩ => ?_) hs rfl))
  obtain ⟨x, ex, q⟩ := q1
  subst ex
  cases r1 with
  | cons r rr =>
    cases rr
    obtain ⟨t, rfl⟩ := r
    refine call_enumerate_str fun h' he hit hsz hk => PySem.wpAny_pyIter_enum he ?_
    have I2 : Inv X pins σ H1 { s1 with heap := h' } := I1.kept (t' := s1.toks) hk
    refine ⟨s1.heap.objs.size + 1, [s1.heap.objs.size + 1, s1.heap.objs.size], _, _, H1, rfl, I2, turn_enumS x t (s1.heap.objs.size + 1) s1.heap.objs.size, ⟨⟨.none, he⟩, hit, Nat.succ_ne_self _, Nat.zero_le _⟩, fun b hb => ?_, q⟩
    have e' : b = s1.heap.objs.size + 1 ∨ b = s1.heap.objs.size := by simpa using hb
    have hle : s1.heap.objs.size ≤ b := by
      rcases e' with z | z
      · rw [z]; exact Nat.le_add_right _ _
      · rw [z]; exact Nat.le_refl _
    exact I1.fpOk hle (I1.hok.fresh hle)
theorem walk_enumS {z : Str} : Walk (Itx z) z.cps.size (fun _ => True) (YPair (fun i => some (.int (i : Nat))) (fun i => z.cps[i]?.map fun c => V.str ⟨#[c]⟩)) :=
  ⟨fun _ _ hi _ => hi, fun _ _ => Nat.le_refl _, fun i H v H' _ _ y => by
    obtain ⟨T, c, h1, h2, h3, h4⟩ := y
    exact ⟨T, .int (i : Nat), .str ⟨#[c]⟩, h1, h2, h3, rfl, by simp [h4]⟩⟩
end Lx
namespace Lx
open PySem PySem.Spec L2
/-! ### sizes of numbers -/
def Sm (n : Nat) (x : Int) : Prop := x.natAbs < 2 ^ n
theorem Sm.mono {n m : Nat} {x : Int} (h : Sm n x) (k : n ≤ m) : Sm m x := Nat.lt_of_lt_of_le h (Nat.pow_le_pow_right (by decide) k)
theorem Sm.add {n : Nat} {x y : Int} (h : Sm n x) (k : Sm n y) : Sm (n + 1) (x + y) := by
  unfold Sm at *
  have := Nat.pow_succ 2 n
  omega
theorem Sm.mul {n m : Nat} {x y : Int} (h : Sm n x) (k : Sm m y) : Sm (n + m) (x * y) := by
  unfold Sm at *
  rw [Int.natAbs_mul, Nat.pow_add]
  exact Nat.mul_lt_mul'' h k
theorem Sm.of_le {n : Nat} {x y : Int} (h0 : 0 ≤ x) (h1 : x ≤ y) (k : Sm n y) : Sm n x := by
  unfold Sm at *
  omega
/-! ### forms -/
inductive Fm
  | keep (b a : Int)
  | lf (b a k c : Int)
  | cr (b a k : Int)
namespace Fm
def vs : Fm → List V
  | keep b a => [.str "keep", .int b, .int a]
  | lf b a k c => [.str "lf", .int b, .int a, .int k, .int c]
  | cr b a k => [.str "cr", .int b, .int a, .int k]
def nm : Fm → Str
  | keep _ _ => "keep"
  | lf _ _ _ _ => "lf"
  | cr _ _ _ => "cr"
def b : Fm → Int
  | keep b _ => b
  | lf b _ _ _ => b
  | cr b _ _ => b
def a : Fm → Int
  | keep _ a => a
  | lf _ a _ _ => a
  | cr _ a _ => a
/-- the number of ^ in front of a break with j of them -/
def after (f : Fm) (j : Int) : Int := (if j - f.b > 0 then j - f.b else 0) + f.a
def ahead (b' a' : Int) : Fm → Fm
  | keep _ _ => keep b' a'
  | lf _ _ k c => lf b' a' k c
  | cr _ _ k => cr b' a' k
def both : Fm → Fm → Fm
  | keep b a, g => ahead (b + (if g.b - a > 0 then g.b - a else 0)) ((if a - g.b > 0 then a - g.b else 0) + g.a) g
  | lf b a k c, keep b' a' => lf b a k (after (keep b' a') c)
  | cr b a k, keep _ _ => cr b a k
  | lf b a k c, lf b' a' k' c' => lf b a (k * (after (lf b' a' k' c') c + 1) * k') c'
  | lf b a k c, cr b' a' k' => cr b a (k * (after (cr b' a' k') c + 1) * k')
  | cr b a k, lf _ _ k' c' => lf b a (k * 1 * k') c'
  | cr b a k, cr _ _ k' => cr b a (k * 1 * k')
/-- a form, its numbers below 2 ^ n -/
def Ok (n : Nat) : Fm → Prop
  | keep b a => 0 ≤ b ∧ 0 ≤ a ∧ Sm n b ∧ Sm n a
  | lf b a k c => 0 ≤ b ∧ 0 ≤ a ∧ 0 < k ∧ 0 ≤ c ∧ Sm n b ∧ Sm n a ∧ Sm n k ∧ Sm n c
  | cr b a k => 0 ≤ b ∧ 0 ≤ a ∧ 0 < k ∧ Sm n b ∧ Sm n a ∧ Sm n k
def nums : Fm → List Int
  | keep b a => [b, a]
  | lf b a k c => [b, a, k, c]
  | cr b a k => [b, a, k]
theorem Ok.mono {n m : Nat} (h : n ≤ m) : ∀ {f : Fm}, Ok n f → Ok m f
  | keep _ _, ⟨h1, h2, h3, h4⟩ => ⟨h1, h2, h3.mono h, h4.mono h⟩
  | lf _ _ _ _, ⟨h1, h2, h3, h4, h5, h6, h7, h8⟩ => ⟨h1, h2, h3, h4, h5.mono h, h6.mono h, h7.mono h, h8.mono h⟩
  | cr _ _ _, ⟨h1, h2, h3, h4, h5, h6⟩ => ⟨h1, h2, h3, h4.mono h, h5.mono h, h6.mono h⟩
theorem Ok.b0 {n : Nat} : ∀ {f : Fm}, Ok n f → 0 ≤ f.b ∧ Sm n f.b
  | keep _ _, h => ⟨h.1, h.2.2.1⟩
  | lf _ _ _ _, h => ⟨h.1, h.2.2.2.2.1⟩
  | cr _ _ _, h => ⟨h.1, h.2.2.2.1⟩
theorem Ok.a0 {n : Nat} : ∀ {f : Fm}, Ok n f → 0 ≤ f.a ∧ Sm n f.a
  | keep _ _, h => ⟨h.2.1, h.2.2.2⟩
  | lf _ _ _ _, h => ⟨h.2.1, h.2.2.2.2.2.1⟩
  | cr _ _ _, h => ⟨h.2.1, h.2.2.2.2.1⟩
theorem after_ok {n : Nat} {f : Fm} (h : Ok n f) {j : Int} (h0 : 0 ≤ j) (hj : Sm n j) : 0 ≤ after f j ∧ Sm (n + 1) (after f j) := by
  have hb := h.b0
  have ha := h.a0
  unfold after
  unfold Sm at *
  have := Nat.pow_succ 2 n
  split <;> omega
theorem vs1 (f : Fm) : f.vs[1]? = some (.int f.b) := by cases f <;> rfl
theorem vs2 (f : Fm) : f.vs[2]? = some (.int f.a) := by cases f <;> rfl
theorem vs0 (f : Fm) : f.vs[0]? = some (.str f.nm) := by cases f <;> rfl
end Fm
def FmAt (K : PySem.W.Frag) (H : Hp) (x : V) (f : Fm) : Prop := ∃ p, x = .ref p ∧ SqT K H p f.vs
theorem sameT {K : PySem.W.Frag} {H H' : Hp} {a : Addr} {xs : List V} (e : Same H H') (h : SqT K H a xs) : SqT K H' a xs := by
  rcases h with (h | ⟨o, h⟩) | h
  · exact .inl (.inl (e _ _ h))
  · exact .inl (.inr ⟨o, e _ _ h⟩)
  · exact .inr h
theorem FmAt.same {K : PySem.W.Frag} {H H' : Hp} {x : V} {f : Fm} (e : Same H H') : FmAt K H x f → FmAt K H' x f := fun ⟨p, h1, h2⟩ => ⟨p, h1, sameT e h2⟩
/-! ### runs -/
/-- a group: a tuple that is tracked -/
def PrAt (H : Hp) (v : V) (x : Int × Int) : Prop := ∃ p, v = .ref p ∧ H p = some (.tup [.int x.1, .int x.2])
inductive Prs (K : PySem.W.Frag) (H : Hp) : List V → List (Int × Int) → Prop
  | nil : Prs K H [] []
  | cons {v : V} {vs : List V} {x : Int × Int} {xs : List (Int × Int)} : PrAt H v x → Prs K H vs xs → Prs K H (v :: vs) (x :: xs)
theorem Prs.same {K : PySem.W.Frag} {H H' : Hp} (e : Same H H') : ∀ {vs : List V} {gs : List (Int × Int)}, Prs K H vs gs → Prs K H' vs gs
  | _, _, .nil => .nil
  | _, _, .cons ⟨p, h1, h2⟩ t => .cons ⟨p, h1, e _ _ h2⟩ (t.same e)
theorem Prs.len {K : PySem.W.Frag} {H : Hp} : ∀ {vs : List V} {gs : List (Int × Int)}, Prs K H vs gs → vs.length = gs.length
  | _, _, .nil => rfl
  | _, _, .cons _ t => by rw [List.length_cons, List.length_cons, t.len]
theorem Prs.get {K : PySem.W.Frag} {H : Hp} : ∀ {vs : List V} {gs : List (Int × Int)}, Prs K H vs gs → ∀ {i : Nat} {v : V}, vs[i]? = some v → ∃ x, gs[i]? = some x ∧ PrAt H v x
  | _, _, .nil, i, v, h => by simp at h
  | _, _, .cons h1 t, 0, v, h => by
    have e := Option.some.inj h
    subst e
    exact ⟨_, rfl, h1⟩
  | _, _, .cons h1 t, i + 1, v, h => t.get (i := i) h
theorem Prs.append {K : PySem.W.Frag} {H : Hp} : ∀ {vs ws : List V} {gs hs : List (Int × Int)}, Prs K H vs gs → Prs K H ws hs → Prs K H (vs ++ ws) (gs ++ hs)
  | _, _, _, _, .nil, h => h
  | _, _, _, _, .cons a t, h => .cons a (t.append h)
def GsAt (K : PySem.W.Frag) (H : Hp) (l : Addr) (gs : List (Int × Int)) : Prop := ∃ xs, SqL K H l xs ∧ Prs K H xs gs
def RnAt (K : PySem.W.Frag) (H : Hp) (x : V) (l : Addr) (r : List (Int × Int) × Int) : Prop := ∃ p, x = .ref p ∧ SqT K H p [.ref l, .int r.2] ∧ GsAt K H l r.1
theorem GsAt.same {K : PySem.W.Frag} {H H' : Hp} {l : Addr} {gs : List (Int × Int)} (e : Same H H') : GsAt K H l gs → GsAt K H' l gs := fun ⟨xs, h1, h2⟩ => ⟨xs, e.seq h1, h2.same e⟩
theorem RnAt.same {K : PySem.W.Frag} {H H' : Hp} {x : V} {l : Addr} {r : List (Int × Int) × Int} (e : Same H H') : RnAt K H x l r → RnAt K H' x l r := fun ⟨p, h1, h2, h3⟩ => ⟨p, h1, sameT e h2, h3.same e⟩
/-- groups as the document wants them, numbers below 2 ^ n -/
def GsOk (n : Nat) (gs : List (Int × Int)) : Prop := ∀ (i : Nat) (x : Int × Int), gs[i]? = some x → 1 ≤ x.1 ∧ 0 ≤ x.2 ∧ Sm n x.1 ∧ Sm n x.2 ∧ ∀ y : Int × Int, gs[i + 1]? = some y → y.2 ≠ x.2
structure RnOk (n : Nat) (r : List (Int × Int) × Int) : Prop where
  gs : GsOk n r.1
  rest : 0 ≤ r.2 ∧ Sm n r.2
  len : r.1.length ≤ 1000
def addTo (acc : List (Int × Int)) (x : Int × Int) : List (Int × Int) := match acc.getLast? with
  | some y => if y.2 = x.2 then acc.dropLast ++ [(y.1 + x.1, x.2)] else acc ++ [x]
  | none => acc ++ [x]
def merged (gs : List (Int × Int)) : List (Int × Int) := gs.foldl addTo []
def moved (f : Fm) (gs : List (Int × Int)) : List (Int × Int) := gs.map fun x => (x.1, f.after x.2)
def total (gs : List (Int × Int)) : Int := (gs.map fun x => x.1 * (x.2 + 1)).sum
def units (r : List (Int × Int) × Int) (f : Fm) : Int := total (moved f r.1) + r.2
def runAfter (r : List (Int × Int) × Int) : Fm → List (Int × Int) × Int
  | .keep b a => (merged (moved (.keep b a) r.1), r.2)
  | .lf b a k c => if k * units r (.lf b a k c) = 0 then ([], 0) else ([(k * units r (.lf b a k c), c)], 0)
  | .cr b a k => ([], k * units r (.cr b a k))
end Lx
namespace Lw
open PySem PySem.Spec L2 Lx
def topS (i : Nat) : Stmt := PySem.Challenge.pw_lineends_k34_great_remainders.main.body.getD i (.Pass ⟨0, 0, 0, 0⟩)
abbrev sChkForm : Stmt := topS 5
abbrev sIsForm : Stmt := topS 6
abbrev sPrimeFactors : Stmt := topS 8
abbrev sDivisors : Stmt := topS 9
abbrev sPrimesOfForm : Stmt := topS 10
abbrev sStepsOfForm : Stmt := topS 11
abbrev sShortestChain : Stmt := topS 13
abbrev sChainWithFactors : Stmt := topS 14
abbrev sRemainder : Stmt := topS 16
abbrev sFormsBetween : Stmt := topS 17
abbrev sFormsBehindKeep : Stmt := topS 18
abbrev sFormBetweenEnds : Stmt := topS 19
abbrev sFormsBehindLf : Stmt := topS 20
abbrev sChangesBetween : Stmt := topS 21
abbrev sLSource : Stmt := topS 23
abbrev sLDraw : Stmt := topS 24
abbrev sLSame : Stmt := topS 25
abbrev sLForm : Stmt := topS 26
abbrev sLDrawn : Stmt := topS 27
abbrev sLJoined : Stmt := topS 28
abbrev sLPrimes : Stmt := topS 29
abbrev sLDivisors : Stmt := topS 30
abbrev sLFactorSteps : Stmt := topS 31
abbrev sLBetween : Stmt := topS 32
abbrev sLConverted : Stmt := topS 33
abbrev sLDue : Stmt := topS 34
abbrev sLIsSmall : Stmt := topS 35
abbrev sLPair : Stmt := topS 36
abbrev sLaw : Stmt := topS 37
end Lw
namespace Lx
open PySem PySem.Spec L2
/-! ### one form after another -/
theorem addTo_none (x : Int × Int) : addTo [] x = [x] := rfl
theorem addTo_end (a : List (Int × Int)) (y x : Int × Int) : addTo (a ++ [y]) x = if y.2 = x.2 then a ++ [(y.1 + x.1, x.2)] else a ++ [y] ++ [x] := by
  unfold addTo
  rw [List.getLast?_concat]
  simp
theorem ends {α : Type} : ∀ l : List α, l = [] ∨ ∃ a x, l = a ++ [x]
  | [] => .inl rfl
  | x :: l => by
    rcases ends l with rfl | ⟨a, y, rfl⟩
    · exact .inr ⟨[], x, rfl⟩
    · exact .inr ⟨x :: a, y, rfl⟩
theorem merged_snoc (xs : List (Int × Int)) (x : Int × Int) : merged (xs ++ [x]) = addTo (merged xs) x := by
  unfold merged
  rw [List.foldl_append]
  rfl
theorem addTo_addTo (a : List (Int × Int)) (m m' j : Int) : addTo (addTo a (m, j)) (m', j) = addTo a (m + m', j) := by
  rcases ends a with rfl | ⟨b, z, rfl⟩
  · show addTo ([] ++ [(m, j)]) (m', j) = [(m + m', j)]
    rw [addTo_end, if_pos rfl]
    rfl
  · rw [addTo_end, addTo_end]
    by_cases e : z.2 = j
    · rw [if_pos e, if_pos e, addTo_end, if_pos rfl, Int.add_assoc]
    · rw [if_neg e, if_neg e, addTo_end, if_pos rfl]
def on (h : Int → Int) (gs : List (Int × Int)) : List (Int × Int) := gs.map fun x => (x.1, h x.2)
theorem on_snoc (h : Int → Int) (a : List (Int × Int)) (x : Int × Int) : on h (a ++ [x]) = on h a ++ [(x.1, h x.2)] := by
  unfold on
  rw [List.map_append]
  rfl
theorem merged_on_addTo (h : Int → Int) (a : List (Int × Int)) (x : Int × Int) : merged (on h (addTo a x)) = addTo (merged (on h a)) (x.1, h x.2) := by
  rcases ends a with rfl | ⟨b, y, rfl⟩
  · rfl
  · rw [addTo_end]
    by_cases e : y.2 = x.2
    · rw [if_pos e, on_snoc, merged_snoc, on_snoc, merged_snoc, ← e, addTo_addTo]
    · rw [if_neg e, on_snoc, merged_snoc]
theorem merged_on (h : Int → Int) (n : Nat) : ∀ xs : List (Int × Int), xs.length = n → merged (on h (merged xs)) = merged (on h xs) := by
  induction n with
  | zero =>
    intro xs hx
    rw [List.eq_nil_of_length_eq_zero hx]
    rfl
  | succ n ih =>
    intro xs hx
    rcases ends xs with rfl | ⟨a, x, rfl⟩
    · rfl
    · rw [merged_snoc, merged_on_addTo, ih a (by simpa using hx), on_snoc, merged_snoc]
theorem total_snoc (a : List (Int × Int)) (x : Int × Int) : total (a ++ [x]) = total a + x.1 * (x.2 + 1) := by
  unfold total
  rw [List.map_append, List.sum_append]
  simp
theorem total_addTo (h : Int → Int) (a : List (Int × Int)) (x : Int × Int) : total (on h (addTo a x)) = total (on h a) + x.1 * (h x.2 + 1) := by
  rcases ends a with rfl | ⟨b, y, rfl⟩
  · show total ([] ++ [(x.1, h x.2)]) = total [] + _
    rw [total_snoc]
  · rw [addTo_end]
    by_cases e : y.2 = x.2
    · rw [if_pos e, on_snoc, total_snoc, on_snoc, total_snoc, e, Int.add_mul, Int.add_assoc]
    · rw [if_neg e, on_snoc, total_snoc]
theorem total_on (h : Int → Int) (n : Nat) : ∀ xs : List (Int × Int), xs.length = n → total (on h (merged xs)) = total (on h xs) := by
  induction n with
  | zero =>
    intro xs hx
    rw [List.eq_nil_of_length_eq_zero hx]
    rfl
  | succ n ih =>
    intro xs hx
    rcases ends xs with rfl | ⟨a, x, rfl⟩
    · rfl
    · rw [merged_snoc, total_addTo, ih a (by simpa using hx), on_snoc, total_snoc]
theorem moved_on (f : Fm) (gs : List (Int × Int)) : moved f gs = on f.after gs := rfl
theorem on_on (h h' : Int → Int) (gs : List (Int × Int)) : on h' (on h gs) = on (fun j => h' (h j)) gs := by
  unfold on
  rw [List.map_map]
  rfl
theorem posI (x : Int) : 0 ≤ (if x > 0 then x else 0) ∧ ((if x > 0 then x else 0) = x ∨ ((if x > 0 then x else 0) = 0 ∧ x ≤ 0)) := by
  by_cases h : x > 0
  · rw [if_pos h]; omega
  · rw [if_neg h]; omega
theorem after_both (b a : Int) (g : Fm) (j : Int) : g.after ((Fm.keep b a).after j) = ((Fm.keep b a).both g).after j := by
  have e : ∀ b' a' : Int, (if (if j - b > 0 then j - b else 0) + a - b' > 0 then (if j - b > 0 then j - b else 0) + a - b' else 0) + a' =
      (if j - (b + (if b' - a > 0 then b' - a else 0)) > 0 then j - (b + (if b' - a > 0 then b' - a else 0)) else 0) + ((if a - b' > 0 then a - b' else 0) + a') := by
    intro b' a'
    have p1 := posI (j - b)
    have p2 := posI (b' - a)
    have p3 := posI (a - b')
    generalize (if j - b > 0 then j - b else 0) = A at *
    generalize (if b' - a > 0 then b' - a else 0) = B at *
    generalize (if a - b' > 0 then a - b' else 0) = C at *
    have p4 := posI (A + a - b')
    have p5 := posI (j - (b + B))
    generalize (if A + a - b' > 0 then A + a - b' else 0) = D at *
    generalize (if j - (b + B) > 0 then j - (b + B) else 0) = E at *
    omega
  cases g with
  | keep b' a' => exact e b' a'
  | lf b' a' k c => exact e b' a'
  | cr b' a' k => exact e b' a'
theorem units_both (r : List (Int × Int) × Int) (b a : Int) (g : Fm) : units (runAfter r (.keep b a)) g = units r ((Fm.keep b a).both g) := by
  show total (moved g (merged (moved (.keep b a) r.1))) + r.2 = total (moved _ r.1) + r.2
  rw [moved_on, total_on _ _ _ rfl, moved_on, on_on, moved_on]
  have e : (fun j => g.after ((Fm.keep b a).after j)) = ((Fm.keep b a).both g).after := funext fun j => after_both b a g j
  rw [e]
theorem units_one (n c : Int) (g : Fm) : units ([(n, c)], 0) g = n * (g.after c + 1) := by
  show total ([] ++ [(n, g.after c)]) + 0 = _
  rw [total_snoc]
  show 0 + n * (g.after c + 1) + 0 = _
  omega
theorem units_none (n : Int) (g : Fm) : units ([], n) g = n := by
  show (0 : Int) + n = n
  omega
theorem runAfter_both (r : List (Int × Int) × Int) (f g : Fm) : runAfter (runAfter r f) g = runAfter r (f.both g) := by
  cases f with
  | keep b a =>
    have hu := units_both r b a g
    cases g with
    | keep b' a' =>
      show (merged (moved (.keep b' a') (merged (moved (.keep b a) r.1))), r.2) = (merged (moved _ r.1), r.2)
      rw [moved_on, merged_on _ _ _ rfl, moved_on, on_on, moved_on]
      have e : (fun j => (Fm.keep b' a').after ((Fm.keep b a).after j)) = ((Fm.keep b a).both (.keep b' a')).after := funext fun j => after_both b a _ j
      rw [e]
      rfl
    | lf b' a' k' c' =>
      show (if k' * units (runAfter r (.keep b a)) (.lf b' a' k' c') = 0 then (([] : List (Int × Int)), (0 : Int)) else ([(k' * units (runAfter r (.keep b a)) (.lf b' a' k' c'), c')], 0)) = _
      rw [hu]
      rfl
    | cr b' a' k' =>
      show (([] : List (Int × Int)), k' * units (runAfter r (.keep b a)) (.cr b' a' k')) = _
      rw [hu]
      rfl
  | lf b a k c =>
    by_cases z : k * units r (.lf b a k c) = 0
    · rw [show runAfter r (.lf b a k c) = ([], 0) from if_pos z]
      cases g with
      | keep b' a' =>
        show (([] : List (Int × Int)), (0 : Int)) = if k * units r (.lf b a k c) = 0 then ([], 0) else _
        rw [if_pos z]
      | lf b' a' k' c' =>
        have e : k * ((Fm.lf b' a' k' c').after c + 1) * k' * units r (.lf b a k c) = 0 := by
          rw [show k * ((Fm.lf b' a' k' c').after c + 1) * k' * units r (.lf b a k c) = ((Fm.lf b' a' k' c').after c + 1) * k' * (k * units r (.lf b a k c)) by
            simp only [Int.mul_assoc, Int.mul_comm, Int.mul_left_comm], z, Int.mul_zero]
        show (if k' * units ([], 0) (.lf b' a' k' c') = 0 then (([] : List (Int × Int)), (0 : Int)) else _) = if k * ((Fm.lf b' a' k' c').after c + 1) * k' * units r (.lf b a k c) = 0 then ([], 0) else _
        rw [units_none, Int.mul_zero, if_pos rfl, if_pos e]
      | cr b' a' k' =>
        have e : k * ((Fm.cr b' a' k').after c + 1) * k' * units r (.lf b a k c) = 0 := by
          rw [show k * ((Fm.cr b' a' k').after c + 1) * k' * units r (.lf b a k c) = ((Fm.cr b' a' k').after c + 1) * k' * (k * units r (.lf b a k c)) by
            simp only [Int.mul_assoc, Int.mul_comm, Int.mul_left_comm], z, Int.mul_zero]
        show (([] : List (Int × Int)), k' * units ([], 0) (.cr b' a' k')) = ([], k * ((Fm.cr b' a' k').after c + 1) * k' * units r (.lf b a k c))
        rw [units_none, Int.mul_zero, e]
    · rw [show runAfter r (.lf b a k c) = ([(k * units r (.lf b a k c), c)], 0) from if_neg z]
      cases g with
      | keep b' a' =>
        show (merged [(k * units r (.lf b a k c), (Fm.keep b' a').after c)], (0 : Int)) = if k * units r (.lf b a k c) = 0 then ([], 0) else ([(k * units r (.lf b a k c), (Fm.keep b' a').after c)], 0)
        rw [if_neg z]
        rfl
      | lf b' a' k' c' =>
        show (if k' * units ([(k * units r (.lf b a k c), c)], 0) (.lf b' a' k' c') = 0 then (([] : List (Int × Int)), (0 : Int)) else ([(k' * units ([(k * units r (.lf b a k c), c)], 0) (.lf b' a' k' c'), c')], 0)) =
          if k * ((Fm.lf b' a' k' c').after c + 1) * k' * units r (.lf b a k c) = 0 then ([], 0) else ([(k * ((Fm.lf b' a' k' c').after c + 1) * k' * units r (.lf b a k c), c')], 0)
        rw [units_one, show k' * (k * units r (.lf b a k c) * ((Fm.lf b' a' k' c').after c + 1)) = k * ((Fm.lf b' a' k' c').after c + 1) * k' * units r (.lf b a k c) by
          simp only [Int.mul_assoc, Int.mul_comm, Int.mul_left_comm]]
      | cr b' a' k' =>
        show (([] : List (Int × Int)), k' * units ([(k * units r (.lf b a k c), c)], 0) (.cr b' a' k')) = ([], k * ((Fm.cr b' a' k').after c + 1) * k' * units r (.lf b a k c))
        rw [units_one, show k' * (k * units r (.lf b a k c) * ((Fm.cr b' a' k').after c + 1)) = k * ((Fm.cr b' a' k').after c + 1) * k' * units r (.lf b a k c) by
          simp only [Int.mul_assoc, Int.mul_comm, Int.mul_left_comm]]
  | cr b a k =>
    cases g with
    | keep b' a' => rfl
    | lf b' a' k' c' =>
      show (if k' * units ([], k * units r (.cr b a k)) (.lf b' a' k' c') = 0 then (([] : List (Int × Int)), (0 : Int)) else ([(k' * units ([], k * units r (.cr b a k)) (.lf b' a' k' c'), c')], 0)) =
        if k * 1 * k' * units r (.cr b a k) = 0 then ([], 0) else ([(k * 1 * k' * units r (.cr b a k), c')], 0)
      rw [units_none, Int.mul_one, show k' * (k * units r (.cr b a k)) = k * k' * units r (.cr b a k) by simp only [Int.mul_assoc, Int.mul_comm, Int.mul_left_comm]]
    | cr b' a' k' =>
      show (([] : List (Int × Int)), k' * units ([], k * units r (.cr b a k)) (.cr b' a' k')) = ([], k * 1 * k' * units r (.cr b a k))
      rw [units_none, Int.mul_one, show k' * (k * units r (.cr b a k)) = k * k' * units r (.cr b a k) by simp only [Int.mul_assoc, Int.mul_comm, Int.mul_left_comm]]
end Lx
/-! promises of defs that are called where no repr is at work -/
namespace Lx
open PySem PySem.Spec L2
open PyProof.Rows (AllBare IntsAre)
/-- as FnOk, at callers in which no guarded call (a repr, a comparison) runs -/
structure FnG (P : Program) (w : World) (K : PySem.W.Frag) (mg : Str → Option Value) (base : Heap) (CX : CXT) (k : Nat) (f : Addr) (fd : FuncData) (ps : List Str) (sp : Sp) : Prop where
  len : ∀ vs H Q E, sp vs H Q E → vs.length = ps.length
  go : ∀ (A : Around) (outer : List Env) (s : Shared) (H : Hp) (args : Args) (us : List Value) (vs : List V) (Q : VK) (E : XK), Room k A → A.guards = some [] → Env0 P w K mg base A outer s H → BindsTo s fd args (ps.zip us) → Vals vs us → sp vs H Q E →
    codeAny (model P w) A (.call (.ref f) args) (CR CX outer P w H s Q E) s
section
variable {P : Program} {w : World} {K : PySem.W.Frag} {mg : Str → Option Value} {base : Heap} {CX : CXT}
theorem FnG.of {k : Nat} {f : Addr} {fd : FuncData} {ps : List Str} {sp : Sp} (F : FnOk P w K mg base CX k f fd ps sp) : FnG P w K mg base CX k f fd ps sp :=
  ⟨F.len, fun A outer s H args us vs Q E hr _ he hb hv hs => F.run A outer s H args us vs Q E hr he hb hv hs⟩
/-- a def's promise by its body -/
theorem okG {x qual : Str} {st : Stmt} {f : Addr} {fd : FuncData} {N ps : List Str} {k : Nat} {sp : Sp} (F : Fun K x qual st f fd) (S : FnScope N ps (defScope st)) (len : ∀ vs H Q E, sp vs H Q E → vs.length = ps.length)
    (hb : ∀ (cdv : Value) (A : Around) (outer : List Env) (s : Shared) (H : Hp) (vs : List V) (Q : VK) (E : XK), Room k (A.deeper (PyProof.Rows.envOfC qual (defScope st) s.heap.objs.size f cdv)) → A.guards = some [] → sp vs H Q E →
      ∃ t, PSs (cxOf CX P w K mg base N qual (defScope st) f cdv A outer s H E) (defBody st) t ∧ t { nx := fun _ H' => Q .non H', rt := Q } (start N vs) H) : FnG P w K mg base CX (k + 1) f fd ps sp := by
  obtain ⟨oc, od, kV, doc, pm, an, cdv, ct, osl, rfl, lk, hcd⟩ := F.ex
  refine ⟨len, fun A outer s H args us vs Q E hr hg e0 hbd r hsp => ?_⟩
  have X : K.In s.heap := e0.mod.kin.keeps fun b o e => (e0.bs b o e).1
  have lim : s.heap.NoLimit := e0.mod.nolimit.keeps fun b o e => (e0.bs b o e).1
  refine codeAny_call_function hr.depth (X _ _ lk) rfl S.co S.gen rfl (PySem.W.codeRec_of X hcd) (hbd _ _ _ _ ?_)
  refine wpAny_newFunctionEnv_cells S.kind (fun y hy => ?_) fun env he s1 x1 => ?_
  · obtain ⟨n, v⟩ := y
    rcases S.par n (List.of_mem_zip hy).1 with q | q
    · exact .inl q
    · exact .inr ⟨q, PySem.W.cellsFrom_some _ _ _ (.inl q)⟩
  · subst he
    refine ⟨lim.keeps x1.toInCall.keep, codeAny_func ?_⟩
    obtain ⟨t, ht, hq⟩ := hb cdv A outer s H vs Q E (hr.deeper _) hg hsp
    have I := inv_start (CX := CX) (E := E) S hr.hd e0 (len _ _ _ _ hsp) r x1
    refine wpAny_mono (ht.run [] s1 (start N vs) H _ I hq) (fun fl s2 z => ?_) fun _ _ z => z
    rcases fl with _ | _ | _ | u
    all_goals first
      | (obtain ⟨_, _, _, q⟩ := z; exact q.elim)
      | (obtain ⟨σ2, H2, J, q⟩ := z; exact ⟨V.non, H2, J.os, J.bare, J.base, J.hok, rfl, q⟩)
      | (obtain ⟨v2, σ2, H2, J, rv, q⟩ := z; exact ⟨v2, H2, J.os, J.bare, J.base, J.hok, rv, q⟩)
end
section
variable {X : Cx} {CX : CXT} {k : Nat} {f : Addr} {fd : FuncData} {ps : List Str} {sp : Sp} {dvs : List V} {ds : List Value} {E : XK} {x : Str} {p pos : Pos} {e : Expr} {es : List Expr} {t : TA}
/-- f(e, ..) -/
theorem pe_callG (F : FnG X.prog X.w X.K X.mg X.base CX k f fd ps sp) (hG : X.A.guards = some []) (hr : Room k X.A) (hg : Gl X x) (hm : X.mg x = some (.ref f)) (hk : PySem.W.keepIn X.K (.ref f) = true) (hb : Binds X.K fd ps ds) (hd : Vals dvs ds) (hx : Passes CX X E)
    (ha : PA X (e :: es) t) (hdb : (x == ("__debug__" : Str)) = false := by decide) (he : starEach (e :: es) X.env = (false, eval e X.env) :: starEach es X.env := by rfl) (hpl : (backTo pos (starEach es X.env)).any (·.1) = false := by rfl) :
    PE X (.Call (.Name x p) (e :: es) [] pos) (tCall sp dvs E t) := by
  refine ⟨fun pins s σ H Q I h => ?_⟩
  refine wpAny_Call_Name_kw (ld_glob I hg hm ?_ hdb)
  refine PySem.W.callWith_K (h₀ := X.base) I.ok.mod.kin hk (thn (ha.run pos pins s σ H _ I h) fun us s1 ⟨vs, H1, I1, r, q⟩ => ⟨I1.kIn, ?_⟩) he hpl
  have r2 : Vals (vs ++ dvs) (us ++ ds) := r.append hd
  have hl : (us ++ ds).length = ps.length := by rw [← r2.length]; exact F.len _ _ _ _ q
  show wpAny _ _ (call (.ref f) us) _ _ _
  refine wpAny_call (codeAny_mono (F.go X.A X.stack s1 H1 ⟨us, []⟩ (us ++ ds) (vs ++ dvs) Q E hr hG I1.env0 (hb s1 us I1.kIn hl) r2 q) fun res s' hq => ?_)
  rcases res with er | fl
  · exact hx pins σ H1 s1 er s' I1 hq
  · rcases fl with _ | _ | _ | u
    all_goals first
      | exact I1.after hq
      | exact False.elim hq
end
/-- the heap in which nothing but the script is told -/
def onlyAt (a : Addr) (o : Obj) (ns : List Int) : Hp := fun b => if b = a then some (.frz o (.lst (ns.map V.int))) else none
section
variable {P : Program} {w : World} {K : PySem.W.Frag} {mg mb : Str → Option Value} {CX : CXT} {k : Nat} {fa a : Addr} {fd : FuncData} {x : Str} {sp : Sp} {s : Shared} {vs : List Value} {ns : List Int}
/-- the law's call, from an abstract heap that tells of the script at most -/
theorem lawFrom (KX : K.In s.heap) (hns : s.heap.Ns mainGlobals mg) (hbl : s.heap.Ns builtinsNs mb) (hbb : ∀ x : Str, x ≠ "__name__" → mb x = bootBuiltins x) (hlim : s.heap.NoLimit) (hg : s.gens = #[]) {o : Obj} (ho : s.heap.get? a = some o) (hdict : ∀ es ep, o.data ≠ .dict es ep)
    (hr : Room k callerA) (F : ∀ base : Heap, K.In base → base.Ns mainGlobals mg → FnG P w K mg base CX k fa fd [x] sp) (hbind : ∀ (s : Shared) (u : Value), BindsTo s fd ⟨[u], []⟩ [(x, u)])
    (H : Hp) (hok : HOk P w H s.heap) (hA : ∀ b, H b ≠ none → b = a ∧ K.lookup a = none ∧ H a = some (.frz o (.lst (ns.map V.int)))) (hsp : sp [.ref a] H (fun v _ => v = .bl true) fun _ _ _ => False) (hCX : ∀ e s', CX [] H s (fun _ _ _ => False) e s' → False) :
    codeAny (model P w) callerA (.call (.ref fa) ⟨[.ref a], []⟩) (fun r s' => r = .ok (.ret (.bool true)) ∧ OldK s.heap s'.heap ∧ s'.os = s.os ∧ AllBare s'.gens) s := by
  have free : ∀ {b : Addr} {u : Obj}, s.heap.get? b = some u → (∃ es ep, u.data = .dict es ep) → H b = none := fun {b u} e ⟨es, ep, d⟩ => by
    cases q : H b with
    | none => rfl
    | some z =>
      obtain ⟨rfl, _, _⟩ := hA b (by rw [q]; simp)
      rw [ho] at e
      cases e
      exact (hdict es ep d).elim
  have nsK : ∀ {b : Addr} {m : Str → Option Value}, s.heap.Ns b m → (hidT s.heap H).Ns b m := fun {b m} ⟨u, es, ep, e, d, r⟩ => ⟨u, es, ep, hidT_get e (free e ⟨es, ep, d⟩), d, r⟩
  have kb : K.In (hidT s.heap H) := fun b u e => hidT_get (KX b u e) (by
    cases q : H b with
    | none => rfl
    | some z =>
      obtain ⟨rfl, q2, _⟩ := hA b (by rw [q]; simp)
      rw [q2] at e
      cases e)
  have hM : Mod K mg (hidT s.heap H) := ⟨kb, nsK hns, ⟨mb, nsK hbl, hbb⟩, let ⟨mc, h1, h2⟩ := hlim; ⟨mc, nsK h1, h2⟩⟩
  have e0 : Env0 P w K mg (hidT s.heap H) callerA [] s H := ⟨rfl, hM, fun b u e => of_hidT e, Nat.le_of_eq (hidT_size _ _), trivial, fun b hb => absurd (show b ∈ ([] : List Addr) from hb) (by simp), hok, .of_eq hg⟩
  refine codeAny_mono ((F _ kb (nsK hns)).go callerA [] s H ⟨[.ref a], []⟩ [.ref a] [.ref a] _ _ hr rfl e0 (hbind s (.ref a)) (.cons rfl .nil) hsp) fun r s' h => ?_
  rcases r with e | fl
  · exact (hCX e s' h).elim
  · rcases fl with _ | _ | _ | u
    all_goals first
      | exact False.elim h
      | skip
    obtain ⟨v, H', os, bare, un, hok', r', q⟩ := h
    obtain rfl : v = .bl true := q
    obtain rfl : u = Value.bool true := r'
    refine ⟨rfl, OldK.of_keep fun b u e => ?_, os, bare⟩
    cases q : H b with
    | none => exact un.keep b u e q (fun z => absurd (show b ∈ ([] : List Addr) from z) (by simp)) (by simp)
    | some z =>
      obtain ⟨rfl, _, q3⟩ := hA b (by rw [q]; simp)
      obtain ⟨e2, _⟩ := hok' b _ (un.frzs b o _ q3)
      rw [ho] at e
      cases e
      exact e2
theorem lawCall (KX : K.In s.heap) (hns : s.heap.Ns mainGlobals mg) (hbl : s.heap.Ns builtinsNs mb) (hbb : ∀ x : Str, x ≠ "__name__" → mb x = bootBuiltins x) (hlim : s.heap.NoLimit) (hg : s.gens = #[])
    (ha : s.heap.get? a = some { cls := .type "list", data := .seq vs.toArray }) (hi : IntsAre vs ns) (hl : ns.length ≤ sizeLine) (hr : Room k callerA)
    (F : ∀ base : Heap, K.In base → base.Ns mainGlobals mg → FnG P w K mg base CX k fa fd [x] sp) (hbind : ∀ (s : Shared) (u : Value), BindsTo s fd ⟨[u], []⟩ [(x, u)])
    (hsp : ∀ H : Hp, SqL K H a (ns.map V.int) → sp [.ref a] H (fun v _ => v = .bl true) fun _ _ _ => False) (hCX : ∀ H e s', CX [] H s (fun _ _ _ => False) e s' → False) :
    codeAny (model P w) callerA (.call (.ref fa) ⟨[.ref a], []⟩) (fun r s' => r = .ok (.ret (.bool true)) ∧ OldK s.heap s'.heap ∧ s'.os = s.os ∧ AllBare s'.gens) s := by
  have rv := vals_ints hi
  cases hk : K.lookup a with
  | some o =>
    have e := KX a o hk
    rw [ha] at e
    cases e
    refine lawFrom KX hns hbl hbb hlim hg ha (fun _ _ z => by cases z) hr F hbind (ns := ns) (fun _ => none) (fun b u z => by cases z) (fun b z => absurd rfl z) (hsp _ ?_) (hCX _)
    exact .inr ⟨_, vs.toArray, _, hk, rfl, rfl, rfl, by rw [List.size_toArray, hi.length]; exact hl, by simpa using rv⟩
  | none =>
    refine lawFrom KX hns hbl hbb hlim hg ha (fun _ _ z => by cases z) hr F hbind (ns := ns) (onlyAt a { cls := .type "list", data := .seq vs.toArray } ns) (fun b u z => ?_) (fun b z => ?_) (hsp _ (.inl (.inr ⟨_, if_pos rfl⟩))) (hCX _)
    · by_cases hb : b = a
      · have q := (if_pos hb).symm.trans z
        cases q
        subst hb
        exact ⟨ha, by rw [List.length_map]; exact hl, vs, _, rv, ha⟩
      · have q := (if_neg hb).symm.trans z
        cases q
    · by_cases hb : b = a
      · exact ⟨hb, hk, if_pos rfl⟩
      · exact absurd (if_neg hb) z
end
/-- the end of a law's row -/
theorem endG {l : PySem.W.OpenLaw} {n k : Nat} {q : Program} {loose : List Str} {XP : (Str → Option Value) → Heap → Prop} {YP : World → Heap → Prop} {d : DefRec} {K : Params → PySem.W.Frag} {CX : World → CXT} {sp : World → Sp} {x : Str}
    (hn : l.most = some n) (hn2 : n ≤ sizeLine) (hdf : d.params.defaults = []) (hr : Room k callerA) (hY : ∀ (w : World) (h : Heap), YP w h → (K w.params).In h)
    (F : ∀ (w : World) (mg : Str → Option Value) (fa : Addr) (h : Heap), (K w.params).In h → h.Ns mainGlobals mg → mg d.name = some (.ref fa) →
      ∃ fd : FuncData, (∀ (s : Shared) (u : Value), BindsTo s fd ⟨[u], []⟩ [(x, u)]) ∧ ∀ base : Heap, (K w.params).In base → base.Ns mainGlobals mg → FnG l.prog w (K w.params) mg base (CX w) k fa fd [x] (sp w))
    (hsp : ∀ (w : World) (H : Hp) (a : Addr) (ns : List Int), ns.length ≤ n → SqL (K w.params) H a (ns.map V.int) → sp w [.ref a] H (fun v _ => v = .bl true) fun _ _ _ => False)
    (hCX : ∀ (w : World) (H : Hp) (s : Shared) (e : Value) (s' : Shared), CX w [] H s (fun _ _ _ => False) e s' → False) : PySem.W.WalkO q loose XP YP l.row.toRowW d [] (fun f vs => PySem.call f vs) := by
  refine Att.attach_call hn hdf fun w s₀ s₁ mg mb fa o pm cd doc a vs ns G Y ho hd hcd hmg hobj hints hlen hg => ?_
  obtain ⟨fd, hb, hF⟩ := F w mg fa _ (hY w _ Y) G.T.g hmg
  exact lawCall (hY w _ Y) G.T.g G.T.b G.T.builtins G.T.nolimit hg hobj hints (Nat.le_trans hlen hn2) hr hF hb (fun H hS => hsp w H a ns hlen hS) fun H e s' => hCX w H s₁ e s'
end Lx
namespace Lx
open PySem PySem.Spec L2
/-! ### repr of data -/
structure Fit (d : PyData) : Prop where
  can : d.showable = true
  no : d.hasDict = false
  dep : d.depth ≤ 40
  len : d.shown.length ≤ sizeLine
/-- repr(x), x data -/
def rRepr (K : PySem.W.Frag) : List V → Hp → VK → Prop := fun xs H Q => ∃ x d, xs = [x] ∧ Dp K H x d ∧ Fit d ∧ Q (.str d.shown) H
theorem call_reprD {X : Cx} (hG : X.A.guards = some []) (hu : X.A.units + 64 < cLine) : CallR X (.builtin "repr") (rRepr X.K) := by
  intro pins s σ H xs us Q I r h
  obtain ⟨x, d, rfl, hd, F, q⟩ := h
  obtain ⟨u, rfl, r1⟩ := vals1 r
  obtain ⟨as, rd⟩ := Dp.reads I d x u hd r1
  have big : ∀ a : Addr, u = .ref a → wpAny (model X.prog X.w) X.A (call (.builtin "repr") [u]) (EP X pins σ Q) X.xe s := fun a e => by
    subst e
    exact repr_of_reads' rd F.can (PyData.noDict_hsm F.no) hG (by have := F.dep; omega) (fun _ _ e => e) (fun h' t tk kp => ⟨.str d.shown, H, I.kept (t' := tk) kp, ⟨t, rfl⟩, q⟩) F.len
  cases hd with
  | non =>
    cases r1
    exact P.repr_of_none ⟨.str _, H, I.tok _, ⟨_, rfl⟩, q⟩
  | bl b =>
    cases r1
    exact P.repr_of_bool ⟨.str _, H, I.tok _, ⟨_, rfl⟩, by cases b <;> exact q⟩
  | int i =>
    obtain ⟨t, rfl⟩ := r1
    exact P.repr_of_int (of_decide_eq_true F.can) ⟨.str _, H, I.tok _, ⟨_, rfl⟩, q⟩
  | str y =>
    obtain ⟨t, rfl⟩ := r1
    exact P.repr_of_str ⟨.str _, H, I.tok _, ⟨_, rfl⟩, q⟩ F.len
  | lst _ _ => exact big _ r1
  | tup _ _ => exact big _ r1
/-! ### which class is which -/
section
variable {K : PySem.W.Frag} {file : Str} {mg : Str → Option Value} {L C D : Addr} {nm qual nm2 qual2 : Str} {st st2 : Stmt}
theorem ErrC.some_ (T : ErrC K file mg L nm qual st C) : (PySem.W.clsIn K C).isSome = true := by
  obtain ⟨cd, e, _⟩ := T.chain
  rw [e]; rfl
theorem LineC.some_ (T : LineC K mg L) : (PySem.W.clsIn K L).isSome = true := by
  obtain ⟨n, q, N, bs, sn, sub, ab, col, dd, k0, k1, k2, k3, k5, hL⟩ := T.cls
  unfold PySem.W.clsIn
  rw [hL] <;> rfl
theorem kit_ref {b : Bool} (h1 : (PySem.W.clsIn K D).isSome = true) (h2 : PySem.W.typeIn K (.ref D) = some (.type "type")) (T : ErrC K file mg L nm qual st C) (h : (Value.ref C :: .ref L :: HandSPX.veTail).contains (.ref D) = b) : PySem.W.kitOne K (.ref C) (.ref D) = some b := by
  unfold PySem.W.kitOne
  by_cases e : C = D
  · subst e
    have z : (Value.ref C == Value.ref C) = true := by simp
    rw [if_pos z, ← h]
    simp
  · have z : ¬ (Value.ref C == Value.ref D) = true := by simpa using e
    rw [if_neg z]
    show (if ((PySem.W.clsIn K D).isSome && PySem.W.typeIn K (.ref D) == some (.type "type")) = true then PySem.W.subIn K (.ref C) (.ref D) else none) = some b
    rw [h1, h2, if_pos (by rfl)]
    exact (T.under _).trans (by rw [h])
theorem kit_err (T : ErrC K file mg L nm qual st C) (T2 : ErrC K file mg L nm2 qual2 st2 D) (hD : D ≠ L) : PySem.W.kitOne K (.ref C) (.ref D) = some (decide (C = D)) := by
  refine kit_ref T2.some_ T2.ty T ?_
  rw [List.contains_cons, List.contains_cons]
  have e1 : (Value.ref D == Value.ref L) = false := by simpa using hD
  have e2 : List.contains HandSPX.veTail (Value.ref D) = false := by rfl
  rw [e1, e2]
  by_cases e : C = D
  · subst e; simp
  · have z : (Value.ref D == Value.ref C) = false := by simpa using Ne.symm e
    rw [z, decide_eq_false e]; rfl
theorem kit_line (TL : LineC K mg L) (T : ErrC K file mg L nm qual st C) : PySem.W.kitOne K (.ref C) (.ref L) = some true := kit_ref TL.some_ TL.ty T (by simp)
theorem kit_ve (T : ErrC K file mg L nm qual st C) : PySem.W.kitOne K (.ref C) (.type "ValueError") = some true := by
  unfold PySem.W.kitOne
  rw [if_neg (by simp)]
  show (if PySem.W.kitMeta "ValueError" = true then PySem.W.subIn K (.ref C) (.type "ValueError") else none) = some true
  rw [if_pos (by decide +kernel)]
  exact (T.under _).trans (by rfl)
end
/-! ### data that repr can write -/
/-- ints below 2 ^ 400, texts of plain signs -/
def small : PyData → Bool
  | .none | .bool _ => true
  | .int i => decide (i.natAbs < 2 ^ 400)
  | .str x => x.cps.toList.all fun c => decide (c < 128)
  | .list xs | .tuple xs => smallAll xs
  | .dict _ => false
where smallAll : List PyData → Bool
  | [] => true
  | x :: xs => small x && smallAll xs
theorem int_log {i : Int} (h : i.natAbs < 2 ^ 400) : i.natAbs.log2 < 400 := PySem.Flt.log2_lt_of (by decide) h
theorem int_shown {i : Int} (h : i.natAbs < 2 ^ 400) : (PyData.shown (.int i)).length ≤ 401 := by
  have e := int_text_length_le (k := 400) (by decide) (int_log h)
  show (Str.ofString (toString i)).length ≤ 401
  rw [ofString_length]
  omega
mutual
theorem small_can : ∀ d : PyData, small d = true → d.showable = true
  | .none, _ => rfl
  | .bool _, _ => rfl
  | .int i, h => by
    have e := int_log (of_decide_eq_true (show decide (i.natAbs < 2 ^ 400) = true by simpa only [small] using h))
    simp only [PyData.showable]
    exact decide_eq_true (by omega)
  | .str _, _ => rfl
  | .list xs, h => by
    simp only [PyData.showable]
    exact small_canAll xs (by simpa only [small] using h)
  | .tuple xs, h => by
    simp only [PyData.showable]
    exact small_canAll xs (by simpa only [small] using h)
  | .dict _, h => by simp [small] at h
theorem small_canAll : ∀ xs : List PyData, small.smallAll xs = true → PyData.showableAll xs = true
  | [], _ => rfl
  | x :: xs, h => by
    have h' : small x = true ∧ small.smallAll xs = true := by simpa only [small.smallAll, Bool.and_eq_true] using h
    simp only [PyData.showableAll, Bool.and_eq_true]
    exact ⟨small_can x h'.1, small_canAll xs h'.2⟩
end
mutual
theorem small_no : ∀ d : PyData, small d = true → d.hasDict = false
  | .none, _ => rfl
  | .bool _, _ => rfl
  | .int i, h => rfl
  | .str _, _ => rfl
  | .list xs, h => by
    simp only [PyData.hasDict]
    exact small_noAll xs (by simpa only [small] using h)
  | .tuple xs, h => by
    simp only [PyData.hasDict]
    exact small_noAll xs (by simpa only [small] using h)
  | .dict _, h => by simp [small] at h
theorem small_noAll : ∀ xs : List PyData, small.smallAll xs = true → PyData.hasDictAll xs = false
  | [], _ => rfl
  | x :: xs, h => by
    have h' : small x = true ∧ small.smallAll xs = true := by simpa only [small.smallAll, Bool.and_eq_true] using h
    simp only [PyData.hasDictAll, Bool.or_eq_false_iff]
    exact ⟨small_no x h'.1, small_noAll xs h'.2⟩
end
mutual
theorem small_leaves : ∀ d : PyData, small d = true → d.leavesShort 401 = true
  | .none, _ => rfl
  | .bool _, _ => rfl
  | .int i, h => by
    have e := int_shown (of_decide_eq_true (show decide (i.natAbs < 2 ^ 400) = true by simpa only [small] using h))
    simp only [PyData.leavesShort]
    exact decide_eq_true e
  | .str x, h => by
    simp only [PyData.leavesShort, List.all_eq_true, decide_eq_true_eq]
    simp only [small, List.all_eq_true, decide_eq_true_eq] at h
    intro c hc
    exact Nat.lt_of_lt_of_le (h c hc) (by decide)
  | .list xs, h => by
    simp only [PyData.leavesShort]
    exact small_leavesAll xs (by simpa only [small] using h)
  | .tuple xs, h => by
    simp only [PyData.leavesShort]
    exact small_leavesAll xs (by simpa only [small] using h)
  | .dict _, h => by simp [small] at h
theorem small_leavesAll : ∀ xs : List PyData, small.smallAll xs = true → PyData.leavesShortAll 401 xs = true
  | [], _ => rfl
  | x :: xs, h => by
    have h' : small x = true ∧ small.smallAll xs = true := by simpa only [small.smallAll, Bool.and_eq_true] using h
    simp only [PyData.leavesShortAll, Bool.and_eq_true]
    exact ⟨small_leaves x h'.1, small_leavesAll xs h'.2⟩
end
theorem fit_small {d : PyData} (h : small d = true) (hd : d.depth ≤ 40) (hb : d.bulk ≤ 40000) : Fit d := by
  refine ⟨small_can d h, small_no d h, hd, ?_⟩
  have e := PyData.shown_le_bulk 401 (by decide) d (small_leaves d h)
  have e2 : (401 + 2) * d.bulk ≤ 403 * 40000 := Nat.mul_le_mul (by decide) hb
  rw [sizeLine_eq]
  omega
end Lx
namespace Lx
open PySem PySem.Spec L2 PyProof.Rows
/-! ### f(k = v, ..) of a def -/
section
variable {X : Cx} {CX : CXT} {k : Nat} {f : Addr} {fd : FuncData} {ps ks : List Str} {sp : Sp} {E : XK} {x : Str} {p pos : Pos} {kws : List Keyword} {tk : TA} {g : List Value → List Value → List Value} {gV : List V → List V → List V}
theorem pe_callK0 (F : FnOk X.prog X.w X.K X.mg X.base CX k f fd ps sp) (hr : Room k X.A) (hg : Gl X x) (hm : X.mg x = some (.ref f)) (hk : PySem.W.keepIn X.K (.ref f) = true) (hb : KBinds X.K fd ps ks g gV) (hx : Passes CX X E)
    (hkw : PK X kws tk) (hall : (backToKw pos (keywordEach kws X.env)).all (·.1.isSome) = true := by rfl) (hks : (backToKw pos (keywordEach kws X.env)).filterMap (·.1) = ks := by rfl)
    (hdb : (x == ("__debug__" : Str)) = false := by decide) (hpl : ((backTo pos (starEach [] X.env)).any (·.1) || (backToKw pos (keywordEach kws X.env)).any (·.1.isNone)) = false := by rfl) :
    PE X (.Call (.Name x p) [] kws pos) (tCallK sp gV E tNil tk) := by
  refine ⟨fun pins s σ H Q I h => ?_⟩
  refine wpAny_Call_Name_kw (ld_glob I hg hm ?_ hdb)
  refine PySem.W.callWith_KW0 (h₀ := X.base) I.ok.mod.kin hk hall ?_ hpl
  refine thn (hkw.run pos pins s σ H _ I h) fun ws s2 ⟨zs, H2, I2, rz, q2⟩ => ⟨I2.kIn, ?_⟩
  rw [hks]
  exact run_fnk (us := []) (vs := []) F hr hb hx I2 .nil rz q2
end
/-- two keywords, the second parameter's first -/
def g21 (α : Type) : List α → List α → List α
  | [], [a, b] => [b, a]
  | _, _ => []
def g1 (α : Type) : List α → List α → List α
  | [], [a] => [a]
  | _, _ => []
theorem kb21 {K : PySem.W.Frag} {x qual : Str} {st : Stmt} {f : Addr} {fd : FuncData} {p1 p2 : Str} (F : Fun K x qual st f fd)
    (h : ∀ (kV doc pm : Value) (an : Option Addr) (cdv ct a b : Value), bindArgs (PySem.W.fnOf x qual (defArgs st) (defBody st) (defScope st) .none kV doc pm an cdv ct) ⟨[], [(p2, a), (p1, b)]⟩ = pure [(p1, b), (p2, a)]) : KBinds K fd [p1, p2] [p2, p1] (g21 Value) (g21 V) := by
  obtain ⟨oc, od, kV, doc, pm, an, cdv, ct, osl, rfl, lk, hcd⟩ := F.ex
  refine ⟨fun s us ws _ hl => ?_, fun {vs us zs ws} r1 r2 => ?_⟩
  · match us, ws, hl with
    | [], [a, b], _ => exact .of_eq (h kV doc pm an cdv ct a b)
    | [], [], hl => exact absurd hl (by simp [g21])
    | [], [_], hl => exact absurd hl (by simp [g21])
    | [], _ :: _ :: _ :: _, hl => exact absurd hl (by simp [g21])
    | _ :: _, _, hl => exact absurd hl (by simp [g21])
  · cases r1 with
    | cons _ _ => exact .nil
    | nil =>
      cases r2 with
      | nil => exact .nil
      | cons a t =>
        cases t with
        | nil => exact .nil
        | cons b t =>
          cases t with
          | nil => exact .cons b (.cons a .nil)
          | cons _ _ => exact .nil
theorem kb1 {K : PySem.W.Frag} {x qual : Str} {st : Stmt} {f : Addr} {fd : FuncData} {p1 : Str} (F : Fun K x qual st f fd)
    (h : ∀ (kV doc pm : Value) (an : Option Addr) (cdv ct a : Value), bindArgs (PySem.W.fnOf x qual (defArgs st) (defBody st) (defScope st) .none kV doc pm an cdv ct) ⟨[], [(p1, a)]⟩ = pure [(p1, a)]) : KBinds K fd [p1] [p1] (g1 Value) (g1 V) := by
  obtain ⟨oc, od, kV, doc, pm, an, cdv, ct, osl, rfl, lk, hcd⟩ := F.ex
  refine ⟨fun s us ws _ hl => ?_, fun {vs us zs ws} r1 r2 => ?_⟩
  · match us, ws, hl with
    | [], [a], _ => exact .of_eq (h kV doc pm an cdv ct a)
    | [], [], hl => exact absurd hl (by simp [g1])
    | [], _ :: _ :: _, hl => exact absurd hl (by simp [g1])
    | _ :: _, _, hl => exact absurd hl (by simp [g1])
  · cases r1 with
    | cons _ _ => exact .nil
    | nil =>
      cases r2 with
      | nil => exact .nil
      | cons a t =>
        cases t with
        | nil => exact .cons a .nil
        | cons _ _ => exact .nil
end Lx
/-! texts repeated -/
namespace Lx
open PySem PySem.Spec L2
/-- the signs of a text, n times -/
def rep (x : Str) (n : Nat) : Str := ⟨((List.replicate n x.cps.toList).flatten).toArray⟩
theorem rep_list (x : Str) (n : Nat) : (rep x n).cps.toList = (List.replicate n x.cps.toList).flatten := rfl
theorem rep_len (x : Str) (n : Nat) : (rep x n).length = x.length * n := by
  show ((List.replicate n x.cps.toList).flatten).toArray.size = x.cps.size * n
  rw [List.size_toArray, List.length_flatten, List.map_replicate, List.sum_replicate_nat, Array.length_toList, Nat.mul_comm]
theorem rep_one (x : Str) : rep x 1 = x := by
  have e : (rep x 1).cps.toList = x.cps.toList := by simp [rep_list]
  exact Str.ext' (Array.toList_inj.mp e)
theorem rep_zero (x : Str) : rep x 0 = Str.empty := rfl
theorem fold_rep (a : Array Nat) : ∀ (n : Nat) (b : Array Nat), ((List.replicate n a).foldl (· ++ ·) b).toList = b.toList ++ (List.replicate n a.toList).flatten
  | 0, b => by simp
  | n + 1, b => by
    rw [List.replicate_succ, List.foldl_cons, fold_rep a n, List.replicate_succ, List.flatten_cons, Array.toList_append, List.append_assoc]
theorem rep_fold (x : Str) (n : Nat) : (⟨(List.replicate n x.cps).foldl (· ++ ·) #[]⟩ : Str) = rep x n := by
  have e : ((List.replicate n x.cps).foldl (· ++ ·) #[]).toList = (rep x n).cps.toList := by
    rw [fold_rep, rep_list]; rfl
  exact Str.ext' (Array.toList_inj.mp e)
theorem rep_empty (x : Str) (n : Nat) (h : x.length = 0) : rep x n = x := by
  have e : x.cps.toList = [] := List.eq_nil_of_length_eq_zero (by rw [Array.length_toList]; exact h)
  have e2 : (rep x n).cps.toList = x.cps.toList := by
    rw [rep_list, e]
    induction n with
    | zero => rfl
    | succ n ih => rw [List.replicate_succ, List.flatten_cons, ih]; rfl
  exact Str.ext' (Array.toList_inj.mp e2)
/-- text * k -/
def rRepS : R2 := fun x y H Q => ∃ (z : Str) (k : Int), x = .str z ∧ y = .int k ∧ 0 ≤ k ∧ k < 1000000000 ∧ z.length * k.toNat ≤ sizeLine ∧ Q (.str (rep z k.toNat)) H
theorem op_repS {X : Cx} : OpR X (binaryOp .Mult) rRepS := by
  intro pins s σ H x y v u Q I rx ry h
  obtain ⟨z, k, rfl, rfl, h0, h1, hz, q⟩ := h
  obtain ⟨t, rfl⟩ := rx
  obtain ⟨t', rfl⟩ := ry
  have hlong : PySem.Builtin.Str.tooLong (z.length * k.toNat) = false := by
    unfold PySem.Builtin.Str.tooLong
    exact decide_eq_false (by omega)
  refine P.mul_str (by rw [decide_eq_false (by omega), decide_eq_false (by omega)]; rfl) (fun hk _ => ?_) (fun _ _ => hlong) ?_
  · have e : (z.length : Int) * k ≤ 2 ^ 63 - 1 := by
      have e1 : (z.length : Int) * k = ((z.length * k.toNat : Nat) : Int) := by
        rw [Int.natCast_mul, Int.toNat_of_nonneg h0]
      have e2 : sizeLine ≤ 9223372036854775807 := by rw [sizeLine_eq]; decide
      rw [e1]
      omega
    have hkp : 0 < k := by omega
    have := Int.le_ediv_of_mul_le hkp e
    omega
  · by_cases hk : k < 1
    · rw [if_pos hk]
      have e : k.toNat = 0 := by omega
      rw [e, rep_zero] at q
      exact ⟨by decide, ⟨.str _, H, I.tok _, ⟨_, rfl⟩, q⟩⟩
    · rw [if_neg hk]
      by_cases h2 : (k == 1 || z.length == 0) = true
      · rw [if_pos h2]
        have e : rep z k.toNat = z := by
          rcases Bool.or_eq_true_iff.mp h2 with e | e
          · have e' : k.toNat = 1 := by have := beq_iff_eq.mp e; omega
            rw [e', rep_one]
          · exact rep_empty _ _ (beq_iff_eq.mp e)
        rw [e] at q
        exact ⟨.str _, H, I, ⟨_, rfl⟩, q⟩
      · rw [if_neg h2, rep_fold]
        exact ⟨by rw [rep_len]; exact hz, ⟨.str _, H, I.tok _, ⟨_, rfl⟩, q⟩⟩
end Lx
namespace Lw
open PySem PySem.Spec L2 Lx
theorem same_upd {H : Hp} {p : Addr} {o : HO} (h : H p = none) : Same H (upd H p o) := fun b x e => by
  rw [upd_ne (ne_of_none e h)]
  exact e
abbrev steps : Str := "UDMN"
def ChOk (x : Str) : Prop := ∀ c ∈ x.cps.toList, c ∈ steps.cps.toList
abbrev nothing : Fm := .keep 0 0
def stepF (c : Nat) : Fm := if c = 85 then .keep 0 1 else if c = 68 then .keep 1 0 else if c = 77 then .lf 0 0 1 0 else .cr 0 0 1
def formL (cs : List Nat) : Fm := cs.foldl (fun f c => f.both (stepF c)) nothing
def formOf (x : Str) : Fm := formL x.cps.toList
def FLe (L : Nat) : Fm → Prop
  | .keep b a => 0 ≤ b ∧ b ≤ L ∧ 0 ≤ a ∧ a ≤ L
  | .lf b a k c => 0 ≤ b ∧ b ≤ L ∧ 0 ≤ a ∧ a ≤ L ∧ 0 < k ∧ Sm (13 * L + 1) k ∧ 0 ≤ c ∧ c ≤ L
  | .cr b a k => 0 ≤ b ∧ b ≤ L ∧ 0 ≤ a ∧ a ≤ L ∧ 0 < k ∧ Sm (13 * L + 1) k
theorem sm_le {L : Nat} {x : Int} (h0 : 0 ≤ x) (h : x ≤ L) : Sm (13 * L + 1) x := by
  have h1 : L < 2 ^ L := Nat.lt_two_pow_self
  have h2 : 2 ^ L ≤ 2 ^ (13 * L + 1) := Nat.pow_le_pow_right (by decide) (by omega)
  unfold Sm
  omega
theorem FLe.ok {L : Nat} : ∀ {f : Fm}, FLe L f → f.Ok (13 * L + 1)
  | .keep _ _, ⟨h1, h2, h3, h4⟩ => ⟨h1, h3, sm_le h1 h2, sm_le h3 h4⟩
  | .lf _ _ _ _, ⟨h1, h2, h3, h4, h5, h6, h7, h8⟩ => ⟨h1, h3, h5, h7, sm_le h1 h2, sm_le h3 h4, h6, sm_le h7 h8⟩
  | .cr _ _ _, ⟨h1, h2, h3, h4, h5, h6⟩ => ⟨h1, h3, h5, sm_le h1 h2, sm_le h3 h4, h6⟩
theorem step_cases {c : Nat} (h : c ∈ steps.cps.toList) : stepF c = .keep 0 1 ∨ stepF c = .keep 1 0 ∨ stepF c = .lf 0 0 1 0 ∨ stepF c = .cr 0 0 1 := by
  unfold stepF
  split
  · exact .inl rfl
  · split
    · exact .inr (.inl rfl)
    · split
      · exact .inr (.inr (.inl rfl))
      · exact .inr (.inr (.inr rfl))
theorem sm_mul {L : Nat} {k x : Int} (hk : Sm (13 * L + 1) k) (h0 : 0 ≤ x) (h : x < 8192) : Sm (13 * (L + 1) + 1) (k * x * 1) := by
  have e : Sm 13 x := by
    unfold Sm
    have : (2 : Nat) ^ 13 = 8192 := by decide
    omega
  rw [Int.mul_one]
  exact (hk.mul e).mono (by omega)
theorem sm_up {L : Nat} {k : Int} (hk : Sm (13 * L + 1) k) : Sm (13 * (L + 1) + 1) k := hk.mono (by omega)
theorem pp (x : Int) : 0 ≤ (if x > 0 then x else 0) ∧ ((if x > 0 then x else 0) = x ∨ ((if x > 0 then x else 0) = 0 ∧ x ≤ 0)) := by
  by_cases h : x > 0
  · rw [if_pos h]; omega
  · rw [if_neg h]; omega
theorem FLe.step {L : Nat} (hL : L ≤ 7000) {c : Nat} (hc : c ∈ steps.cps.toList) {f : Fm} (h : FLe L f) : FLe (L + 1) (f.both (stepF c)) := by
  cases f with
  | keep b a =>
    obtain ⟨h1, h2, h3, h4⟩ := h
    have p1 := pp (0 - a)
    have p2 := pp (a - 0)
    have p3 := pp (1 - a)
    have p4 := pp (a - 1)
    have one : Sm (13 * (L + 1) + 1) 1 := sm_le (L := L + 1) (by decide) (by omega)
    rcases step_cases hc with e | e | e | e <;> rw [e] <;> simp only [Fm.both, Fm.ahead, Fm.b, Fm.a, FLe]
    · exact ⟨by omega, by omega, by omega, by omega⟩
    · exact ⟨by omega, by omega, by omega, by omega⟩
    · exact ⟨by omega, by omega, by omega, by omega, by decide, one, by decide, by omega⟩
    · exact ⟨by omega, by omega, by omega, by omega, by decide, one⟩
  | lf b a k d =>
    obtain ⟨h1, h2, h3, h4, h5, h6, h7, h8⟩ := h
    have p1 := pp (d - 0)
    have p2 := pp (d - 1)
    rcases step_cases hc with e | e | e | e <;> rw [e] <;> simp only [Fm.both, Fm.after, Fm.b, Fm.a, FLe]
    · exact ⟨h1, by omega, h3, by omega, h5, sm_up h6, by omega, by omega⟩
    · exact ⟨h1, by omega, h3, by omega, h5, sm_up h6, by omega, by omega⟩
    · refine ⟨h1, by omega, h3, by omega, ?_, sm_mul h6 (by omega) (by omega), by decide, by omega⟩
      rw [Int.mul_one]
      exact Int.mul_pos h5 (by omega)
    · refine ⟨h1, by omega, h3, by omega, ?_, sm_mul h6 (by omega) (by omega)⟩
      rw [Int.mul_one]
      exact Int.mul_pos h5 (by omega)
  | cr b a k =>
    obtain ⟨h1, h2, h3, h4, h5, h6⟩ := h
    rcases step_cases hc with e | e | e | e <;> rw [e] <;> simp only [Fm.both, FLe, Int.mul_one]
    · exact ⟨h1, by omega, h3, by omega, h5, sm_up h6⟩
    · exact ⟨h1, by omega, h3, by omega, h5, sm_up h6⟩
    · exact ⟨h1, by omega, h3, by omega, h5, sm_up h6, by decide, by omega⟩
    · exact ⟨h1, by omega, h3, by omega, h5, sm_up h6⟩
/-- the forms of the steps, and of no step -/
structure StepT (K : PySem.W.Frag) (w : World) (mg : Str → Option Value) (aN aS : Addr) : Prop where
  gN : mg "NOTHING" = some (.ref aN)
  n : ∀ H : Hp, FmAt K H (.ref aN) nothing
  gS : mg "STEP_FORMS" = some (.ref aS)
  s : ∀ c ∈ steps.cps.toList, ∃ v, KDct K w aS ⟨#[c]⟩ v ∧ ∀ H : Hp, FmAt K H v (stepF c)
theorem Same.own {H H' : Hp} {p : Addr} {o : HO} (s : Same H H') (n : H p = none) : Same H (upd H' p o) := fun b x e => by
  rw [upd_ne (ne_of_none e n)]
  exact s b x e
theorem SqT.lstUpd {K : PySem.W.Frag} {H : Hp} {a p : Addr} {xs ys : List V} {o : HO} (h : SqT K H a xs) (e : H p = some (.lst ys)) : SqT K (upd H p o) a xs := by
  have ne : ∀ o', H a = some o' → (∀ zs, o' ≠ .lst zs) → a ≠ p := fun o' h1 h2 z => by
    subst z
    rw [e] at h1
    exact h2 _ (Option.some.inj h1).symm
  rcases h with (h | ⟨q, h⟩) | h
  · exact .inl (.inl (by rw [upd_ne (ne _ h (fun zs z => by cases z))]; exact h))
  · exact .inl (.inr ⟨q, by rw [upd_ne (ne _ h (fun zs z => by cases z))]; exact h⟩)
  · exact .inr h
theorem Prs.lstUpd {K : PySem.W.Frag} {H : Hp} {p : Addr} {ys : List V} {o : HO} (e : H p = some (.lst ys)) : ∀ {vs : List V} {gs : List (Int × Int)}, Prs K H vs gs → Prs K (upd H p o) vs gs
  | _, _, .nil => .nil
  | _, _, .cons ⟨q, h1, h2⟩ t => .cons ⟨q, h1, by rw [upd_ne (ne_of h2 e (by intro z; cases z))]; exact h2⟩ (Prs.lstUpd e t)
theorem Prs.back {K : PySem.W.Frag} {H : Hp} : ∀ {vs : List V} {gs : List (Int × Int)} {x : Int × Int}, Prs K H vs (gs ++ [x]) → ∃ ws v, vs = ws ++ [v] ∧ Prs K H ws gs ∧ PrAt H v x
  | _, [], x, h => by
    cases h with
    | cons h1 t =>
      cases t
      exact ⟨[], _, rfl, .nil, h1⟩
  | _, g :: gs, x, h => by
    cases h with
    | cons h1 t =>
      obtain ⟨ws, v, rfl, a, b⟩ := Prs.back (gs := gs) t
      exact ⟨_ :: ws, v, rfl, .cons h1 a, b⟩
theorem snoc_or {α : Type} : ∀ l : List α, l = [] ∨ ∃ a x, l = a ++ [x]
  | [] => .inl rfl
  | x :: l => by
    rcases snoc_or l with rfl | ⟨a, y, rfl⟩
    · exact .inr ⟨[], x, rfl⟩
    · exact .inr ⟨x :: a, y, rfl⟩
theorem addTo_nil (x : Int × Int) : addTo [] x = [x] := rfl
theorem addTo_snoc (a : List (Int × Int)) (y x : Int × Int) : addTo (a ++ [y]) x = if y.2 = x.2 then a ++ [(y.1 + x.1, x.2)] else a ++ [y] ++ [x] := by
  unfold addTo
  rw [List.getLast?_concat]
  simp
theorem ixN_last {α : Type} (a : List α) (x : α) : ixN (a ++ [x]).length (-1) = some a.length := by
  unfold ixN
  simp
  omega
/-- numbers of groups that may be reckoned with -/
def RnSm (n : Nat) (r : List (Int × Int) × Int) : Prop := (∀ x ∈ r.1, 0 ≤ x.1 ∧ 0 ≤ x.2 ∧ Sm n x.1 ∧ Sm n x.2) ∧ 0 ≤ r.2 ∧ Sm n r.2 ∧ r.1.length ≤ 1000
theorem RnOk.sm {n : Nat} {r : List (Int × Int) × Int} (h : RnOk n r) : RnSm n r := ⟨fun x hx => by
  obtain ⟨i, hi⟩ := List.mem_iff_getElem?.mp hx
  obtain ⟨h1, h2, h3, h4, _⟩ := h.gs i x hi
  exact ⟨by omega, h2, h3, h4⟩, h.rest.1, h.rest.2, h.len⟩
theorem sum_mapV {gs : List (Int × Int)} {f : Fm} : ((gs.map fun x => x.1 * (f.after x.2 + 1))).sum = total (moved f gs) := by
  unfold total moved
  rw [List.map_map]
  rfl
theorem sum_sm {m : Nat} : ∀ (ts : List Int), (∀ t ∈ ts, 0 ≤ t ∧ Sm m t) → 0 ≤ ts.sum ∧ ts.sum ≤ ts.length * (2 ^ m : Nat)
  | [], _ => ⟨by decide, by simp⟩
  | t :: ts, h => by
    obtain ⟨h0, h1⟩ := h t (List.mem_cons_self ..)
    obtain ⟨i0, i1⟩ := sum_sm ts fun x hx => h x (List.mem_cons_of_mem _ hx)
    rw [List.sum_cons, List.length_cons]
    have e : ((ts.length + 1 : Nat) : Int) * (2 ^ m : Nat) = ts.length * (2 ^ m : Nat) + (2 ^ m : Nat) := by
      rw [Int.natCast_add, Int.add_mul]
      simp
    unfold Sm at h1
    rw [e]
    generalize ((ts.length : Nat) : Int) * (2 ^ m : Nat) = T at *
    generalize 2 ^ m = M at *
    omega
theorem units_ok {n : Nat} {r : List (Int × Int) × Int} {f : Fm} (h : RnSm n r) (hf : f.Ok n) : 0 ≤ units r f ∧ Sm (2 * n + 20) (units r f) := by
  have key : ∀ t ∈ (r.1.map fun x => x.1 * (f.after x.2 + 1)), 0 ≤ t ∧ Sm (2 * n + 4) t := by
    intro t ht
    obtain ⟨x, hx, rfl⟩ := List.mem_map.mp ht
    obtain ⟨x1, x2, x3, x4⟩ := h.1 x hx
    have hb := Fm.after_ok hf x2 x4
    have hb2 : Sm (n + 2) (f.after x.2 + 1) := hb.2.add (Nat.lt_of_lt_of_le (by decide : (1 : Int).natAbs < 2 ^ 1) (Nat.pow_le_pow_right (by decide) (by omega)))
    exact ⟨Int.mul_nonneg x1 (by have := hb.1; omega), (x3.mul hb2).mono (by omega)⟩
  obtain ⟨s0, s1⟩ := sum_sm _ key
  rw [sum_mapV] at s0 s1
  rw [List.length_map] at s1
  have hl := h.2.2.2
  have hr0 := h.2.1
  have hr1 : r.2.natAbs < 2 ^ n := h.2.2.1
  have e1 : (r.1.length : Int) * (2 ^ (2 * n + 4) : Nat) ≤ 1000 * (2 ^ (2 * n + 4) : Nat) := Int.mul_le_mul_of_nonneg_right (by omega) (Int.natCast_nonneg _)
  have e2 : 2 ^ (2 * n + 20) = 2 ^ (2 * n + 4) * 65536 := by rw [show 2 * n + 20 = (2 * n + 4) + 16 from rfl, Nat.pow_add]
  have e3 : 2 ^ n ≤ 2 ^ (2 * n + 4) := Nat.pow_le_pow_right (by decide) (by omega)
  unfold units Sm
  rw [e2]
  generalize total (moved f r.1) = T at *
  generalize (r.1.length : Int) * (2 ^ (2 * n + 4) : Nat) = U at *
  generalize 2 ^ (2 * n + 4) = M at *
  generalize 2 ^ n = N at *
  omega
/-- a run that has just been made -/
def NewRn (K : PySem.W.Frag) (H H' : Hp) (v : V) (r : List (Int × Int) × Int) : Prop :=
  ∃ p l xs, v = .ref p ∧ H p = none ∧ H l = none ∧ H' p = some (.tup [.ref l, .int r.2]) ∧ H' l = some (.lst xs) ∧ Prs K H' xs r.1
theorem RnSm.mono {n m : Nat} {r : List (Int × Int) × Int} (h : RnSm n r) (k : n ≤ m) : RnSm m r :=
  ⟨fun x hx => ⟨(h.1 x hx).1, (h.1 x hx).2.1, (h.1 x hx).2.2.1.mono k, (h.1 x hx).2.2.2.mono k⟩, h.2.1, h.2.2.1.mono k, h.2.2.2⟩
theorem NewRn.back {K : PySem.W.Frag} {H0 H H' : Hp} {v : V} {r : List (Int × Int) × Int} (s : Same H0 H) (h : NewRn K H H' v r) : NewRn K H0 H' v r := by
  obtain ⟨p, l, xs, h1, h2, h3, h4⟩ := h
  exact ⟨p, l, xs, h1, s.free h2, s.free h3, h4⟩
def CPowW (i j : Int) : Prop := 0 ≤ j ∧ j ≤ 64 ∧ i.natAbs < 2 ^ 200000
theorem op_powW {X : Cx} : OpR X (binaryOp .Pow) (rI CPowW fun i j => .int (i ^ j.toNat)) := opI fun i j _ _ _ _ _ hc q => by
  refine PyProof.Rows.pow_int hc.1 ?_ q
  have h1 := PySem.Flt.log2_lt_of (by decide : 0 < 200000) hc.2.2
  have h2 : Builtin.Int.intBits i ≤ i.natAbs.log2 + 1 := by
    unfold Builtin.Int.intBits
    split <;> omega
  have h3 : (Builtin.Int.intBits i : Int) ≤ 200000 := by omega
  have h4 := hc.2.1
  have h5 := hc.1
  have h6 : (Builtin.Int.intBits i : Int) * j ≤ 200000 * 64 := by
    refine Int.le_trans (Int.mul_le_mul_of_nonneg_right h3 h5) (Int.mul_le_mul_of_nonneg_left h4 (by decide))
  exact Int.le_trans h6 (by decide)
theorem fm {a b : Int} (hb : 0 < b) : 0 ≤ a.fmod b ∧ a.fmod b < b := by
  rw [Int.fmod_eq_emod_of_nonneg a (Int.le_of_lt hb)]
  exact ⟨Int.emod_nonneg a (by omega), Int.emod_lt_of_pos a hb⟩
theorem pow_sm {x : Int} (h0 : 0 ≤ x) (h : x < 2 ^ 200) {j : Int} (j0 : 0 ≤ j) (j1 : j ≤ 64) : CPowW x j := ⟨j0, j1, by
  have h1 : (x.natAbs : Int) < ((2 ^ 200 : Nat) : Int) := by
    rw [Int.natAbs_of_nonneg h0]
    exact h
  exact Nat.lt_of_lt_of_le (Int.ofNat_lt.mp h1) (Nat.pow_le_pow_right (by decide) (by decide))⟩
theorem cube_sm {x : Int} (h0 : 0 ≤ x) (h : x < 2147483648) : Sm 93 (x ^ Int.toNat 3) := by
  have e : x ^ Int.toNat 3 = x * x * x := by
    show x ^ 3 = _
    rw [Int.pow_succ, Int.pow_succ, Int.pow_succ, Int.pow_zero, Int.one_mul]
  have hx : Sm 31 x := by
    unfold Sm
    have : (2 : Nat) ^ 31 = 2147483648 := by decide
    omega
  rw [e]
  exact (hx.mul hx).mul hx
theorem p61 : (2 : Int) ^ Int.toNat 61 - 1 = 2305843009213693951 := by decide +kernel
theorem p61n : (2 : Int) ^ Int.toNat 61 - 1 ≠ 0 := by decide +kernel
theorem p61p : (0 : Int) < (2 : Int) ^ Int.toNat 61 - 1 := by decide +kernel
theorem p18n : (10 : Int) ^ Int.toNat 18 + 9 ≠ 0 := by decide +kernel
theorem while_fin {c : TT} {tb : TS} {D : Ends} {σ : St} {H : Hp} (Fin : St → Hp → Prop) (h : ∀ R : St → Hp → Prop, (∀ σ H, Fin σ H → R σ H) → tWhile c tb { D with nx := R } σ H) (hf : ∀ σ H, Fin σ H → D.nx σ H) : tWhile c tb D σ H := h D.nx hf
theorem dps {K : PySem.W.Frag} {H : Hp} : ∀ ds : List Int, DpAll K H (ds.map V.int) (ds.map PyData.int)
  | [] => .nil
  | d :: ds => .cons (.int d) (dps ds)
theorem shaped_ints (ds : List Int) : SeqAt.shaped (.list (ds.map .int)) = true := by
  have h1 : ∀ ds : List Int, PyData.canLayAll0 (ds.map .int) = true := fun ds => by
    induction ds with
    | nil => rfl
    | cons d ds ih => simp only [List.map_cons, PyData.canLayAll0, PyData.canLay0, ih, Bool.and_self]
  have h2 : ∀ ds : List Int, PyData.depthAll (ds.map .int) = 0 := fun ds => by
    induction ds with
    | nil => rfl
    | cons d ds ih => simp [PyData.depthAll, PyData.depth, ih]
  unfold SeqAt.shaped
  simp [PyData.canLay0, PyData.depth, h1, h2]
theorem p18 : (10 : Int) ^ Int.toNat 18 = 1000000000000000000 := by decide +kernel
def TT (K : PySem.W.Frag) (H : Hp) (a : Addr) : Prop := (∃ ys, H a = some (.tup ys)) ∨ (∃ o, K.lookup a = some o ∧ o.cls = .type "tuple") ∨ ∃ o ys, H a = some (.frz o (.tup ys))
mutual
inductive Dq (K : PySem.W.Frag) (H : Hp) : V → PyData → Prop
  | non : Dq K H .non .none
  | bl (b : Bool) : Dq K H (.bl b) (.bool b)
  | int (i : Int) : Dq K H (.int i) (.int i)
  | str (x : Str) : Dq K H (.str x) (.str x)
  | lst {a : Addr} {xs : List V} {ds : List PyData} : H a = some (.lst xs) → DqAll K H xs ds → Dq K H (.ref a) (.list ds)
  | tup {a : Addr} {xs : List V} {ds : List PyData} : TT K H a → SqT K H a xs → DqAll K H xs ds → Dq K H (.ref a) (.tuple ds)
inductive DqAll (K : PySem.W.Frag) (H : Hp) : List V → List PyData → Prop
  | nil : DqAll K H [] []
  | cons {v : V} {vs : List V} {d : PyData} {ds : List PyData} : Dq K H v d → DqAll K H vs ds → DqAll K H (v :: vs) (d :: ds)
end
theorem TT.ty {K : PySem.W.Frag} {H : Hp} {a : Addr} : TT K H a → TyX K H (.ref a) (.type "tuple")
  | .inl ⟨_, h⟩ => .base (.tup h)
  | .inr (.inl ⟨_, h, c⟩) => .kTuple h c
  | .inr (.inr ⟨_, _, h⟩) => .fTuple h
theorem SqT.tt {K : PySem.W.Frag} {H : Hp} {a : Addr} {xs : List V} : SqT K H a xs → TT K H a
  | .inl (.inl h) => .inl ⟨_, h⟩
  | .inl (.inr ⟨_, h⟩) => .inr (.inr ⟨_, _, h⟩)
  | .inr ⟨_, _, _, h, c, _⟩ => .inr (.inl ⟨_, h, c⟩)
theorem TT.same {K : PySem.W.Frag} {H H' : Hp} {a : Addr} (s : Same H H') : TT K H a → TT K H' a
  | .inl ⟨ys, h⟩ => .inl ⟨ys, s _ _ h⟩
  | .inr (.inl h) => .inr (.inl h)
  | .inr (.inr ⟨o, ys, h⟩) => .inr (.inr ⟨o, ys, s _ _ h⟩)
mutual
theorem Dq.same {K : PySem.W.Frag} {H H' : Hp} (s : Same H H') : ∀ {v : V} {d : PyData}, Dq K H v d → Dq K H' v d
  | _, _, .non => .non
  | _, _, .bl b => .bl b
  | _, _, .int i => .int i
  | _, _, .str x => .str x
  | _, _, .lst h t => .lst (s _ _ h) (DqAll.same s t)
  | _, _, .tup h1 h2 t => .tup (h1.same s) (sameT s h2) (DqAll.same s t)
theorem DqAll.same {K : PySem.W.Frag} {H H' : Hp} (s : Same H H') : ∀ {vs : List V} {ds : List PyData}, DqAll K H vs ds → DqAll K H' vs ds
  | _, _, .nil => .nil
  | _, _, .cons h t => .cons (Dq.same s h) (DqAll.same s t)
end
mutual
theorem Dq.dp {K : PySem.W.Frag} {H : Hp} : ∀ {v : V} {d : PyData}, Dq K H v d → Dp K H v d
  | _, _, .non => .non
  | _, _, .bl b => .bl b
  | _, _, .int i => .int i
  | _, _, .str x => .str x
  | _, _, .lst h t => .lst (.inl (.inl h)) (DqAll.dp t)
  | _, _, .tup _ h2 t => .tup h2 (DqAll.dp t)
theorem DqAll.dp {K : PySem.W.Frag} {H : Hp} : ∀ {vs : List V} {ds : List PyData}, DqAll K H vs ds → DpAll K H vs ds
  | _, _, .nil => .nil
  | _, _, .cons h t => .cons (Dq.dp h) (DqAll.dp t)
end
theorem DqAll.len {K : PySem.W.Frag} {H : Hp} : ∀ {vs : List V} {ds : List PyData}, DqAll K H vs ds → vs.length = ds.length
  | _, _, .nil => rfl
  | _, _, .cons _ t => by rw [List.length_cons, List.length_cons, DqAll.len t]
theorem DqAll.get {K : PySem.W.Frag} {H : Hp} : ∀ {vs : List V} {ds : List PyData}, DqAll K H vs ds → ∀ {i : Nat} {d : PyData}, ds[i]? = some d → ∃ v, vs[i]? = some v ∧ Dq K H v d
  | _, _, .nil, i, d, h => by simp at h
  | _, _, .cons h1 t, 0, d, h => by
    have e := Option.some.inj h
    subst e
    exact ⟨_, rfl, h1⟩
  | _, _, .cons h1 t, i + 1, d, h => DqAll.get t (i := i) h
mutual
def wd : PyData → Bool
  | .list xs | .tuple xs => decide (xs.length ≤ 5000) && wdAll xs
  | _ => true
def wdAll : List PyData → Bool
  | [] => true
  | x :: xs => wd x && wdAll xs
end
theorem wd_get : ∀ (xs : List PyData) (i : Nat) (x : PyData), wdAll xs = true → xs[i]? = some x → wd x = true
  | [], i, x, _, h => by simp at h
  | y :: ys, 0, x, h, e => by
    cases Option.some.inj e
    simp only [wdAll, Bool.and_eq_true] at h
    exact h.1
  | y :: ys, i + 1, x, h, e => by
    simp only [wdAll, Bool.and_eq_true] at h
    exact wd_get ys i x h.2 e
theorem depth_mem : ∀ (xs : List PyData) (i : Nat) (x : PyData), xs[i]? = some x → PyData.depth x ≤ PyData.depthAll xs := fun xs i x h => PyData.depth_le_depthAll xs x (List.mem_of_getElem? h)
def rIxA (K : PySem.W.Frag) : R2 := fun x y H Q => rIxL K x y H Q ∨ rIxT K x y H Q
theorem ix_any {X : Cx} {K : PySem.W.Frag} (h : X.K = K) : IxR X (rIxA K) := by
  subst h
  exact ix_list.or ix_tup
theorem ixA {K : PySem.W.Frag} {H H' : Hp} {a : Addr} {xs : List V} {j : Int} {i : Nat} {v : V} {Q : VK} (sm : Same H H') (h : SqL K H a xs ∨ SqT K H a xs) (e : j = i) (hv : xs[i]? = some v) (q : Q v H') : rIxA K (.ref a) (.int j) H' Q := by
  subst e
  rcases h with h | h
  · exact .inl ⟨a, xs, _, v, rfl, rfl, sm.seq h, atI_nat hv, q⟩
  · exact .inr ⟨a, xs, _, v, rfl, rfl, sameT sm h, atI_nat hv, q⟩
theorem ix_l {X : Cx} {K : PySem.W.Frag} (h : X.K = K) : IxR X (rIxL K) := by
  subst h
  exact ix_list
theorem far_sm {far : Int} (h0 : 4 ≤ far) (h : far < 2 ^ 97) : far.natAbs < 2 ^ 4000 := by
  have e : far.natAbs < 2 ^ 97 := by omega
  exact Nat.lt_of_lt_of_le e (Nat.pow_le_pow_right (by decide) (by decide))
def pd (gs : List (Int × Int)) : List PyData := gs.map fun x => .tuple [.int x.1, .int x.2]
theorem Prs.dp {K : PySem.W.Frag} {H : Hp} : ∀ {vs : List V} {gs : List (Int × Int)}, Prs K H vs gs → DpAll K H vs (pd gs)
  | _, _, .nil => .nil
  | _, _, .cons ⟨p, e, h⟩ t => by
    subst e
    exact .cons (.tup (.inl (.inl h)) (.cons (.int _) (.cons (.int _) .nil))) (Prs.dp t)
theorem pd_lay (gs : List (Int × Int)) : PyData.canLayAll0 (pd gs) = true := by
  unfold pd
  induction gs with
  | nil => rfl
  | cons g gs ih => simp only [List.map_cons, PyData.canLayAll0, PyData.canLay0, ih, Bool.and_self]
theorem pd_depth (gs : List (Int × Int)) : PyData.depthAll (pd gs) ≤ 1 := by
  unfold pd
  induction gs with
  | nil => simp [PyData.depthAll]
  | cons g gs ih =>
    simp only [List.map_cons, PyData.depthAll, PyData.depth]
    omega
theorem pd_shaped (gs : List (Int × Int)) : SeqAt.shaped (.list (pd gs)) = true := by
  have := pd_depth gs
  unfold SeqAt.shaped
  simp only [PyData.canLay0, pd_lay, PyData.depth, Bool.true_and]
  exact decide_eq_true (by omega)
theorem gsok_snoc {n : Nat} {gs : List (Int × Int)} {x : Int × Int} (h : GsOk n gs) (hl : ∀ a y, gs = a ++ [y] → y.2 ≠ x.2) (hx : 1 ≤ x.1 ∧ 0 ≤ x.2 ∧ Sm n x.1 ∧ Sm n x.2) : GsOk n (gs ++ [x]) := by
  intro i z hz
  by_cases hi : i < gs.length
  · rw [List.getElem?_append_left hi] at hz
    obtain ⟨h1, h2, h3, h4, h5⟩ := h i z hz
    refine ⟨h1, h2, h3, h4, fun y hy => ?_⟩
    by_cases hj : i + 1 < gs.length
    · rw [List.getElem?_append_left hj] at hy
      exact h5 y hy
    · have e : i + 1 = gs.length := by omega
      rw [e, List.getElem?_append_right (Nat.le_refl _), Nat.sub_self] at hy
      cases Option.some.inj hy
      rcases snoc_or gs with rfl | ⟨a, y', rfl⟩
      · simp at hi
      · have ea : i = a.length := by
          simp at e
          omega
        subst ea
        simp at hz
        subst hz
        exact Ne.symm (hl a y' rfl)
  · have hle : gs.length ≤ i := by omega
    rw [List.getElem?_append_right hle] at hz
    have e : i - gs.length = 0 := by
      have := (List.getElem?_eq_some_iff.mp hz).1
      simp at this
      omega
    rw [e] at hz
    cases Option.some.inj hz
    refine ⟨hx.1, hx.2.1, hx.2.2.1, hx.2.2.2, fun y hy => ?_⟩
    have := (List.getElem?_eq_some_iff.mp hy).1
    simp at this
    omega
def sameEnd (gs : List (Int × Int)) (j : Int) : Bool := match gs.getLast? with
  | some y => decide (y.2 = j)
  | none => false
theorem sameEnd_snoc (a : List (Int × Int)) (y : Int × Int) (j : Int) : sameEnd (a ++ [y]) j = decide (y.2 = j) := by
  unfold sameEnd
  rw [List.getLast?_concat]
theorem if_by {c : L2.TT} {A B : TS} {D : Ends} {σ : St} {H : Hp} (b : Bool) (R : Hp → Prop) (hc : ∀ K : Bool → Hp → Prop, (∀ H1, R H1 → K b H1) → c σ H K) (h : ∀ H1, R H1 → if b = true then A D σ H1 else B D σ H1) : tIfS c A B D σ H := hc _ h
theorem ix_t {X : Cx} {K : PySem.W.Frag} (h : X.K = K) : IxR X (rIxT K) := by
  subst h
  exact ix_tup
theorem gsok_front {n : Nat} {a : List (Int × Int)} {y : Int × Int} (h : GsOk n (a ++ [y])) : GsOk n a ∧ (∀ a' z, a = a' ++ [z] → z.2 ≠ y.2) ∧ 1 ≤ y.1 ∧ 0 ≤ y.2 := by
  refine ⟨fun i x hx => ?_, fun a' z e => ?_, ?_⟩
  · have hi := (List.getElem?_eq_some_iff.mp hx).1
    obtain ⟨h1, h2, h3, h4, h5⟩ := h i x (by rw [List.getElem?_append_left hi]; exact hx)
    refine ⟨h1, h2, h3, h4, fun w hw => ?_⟩
    have hi2 := (List.getElem?_eq_some_iff.mp hw).1
    exact h5 w (by rw [List.getElem?_append_left hi2]; exact hw)
  · subst e
    have := (h a'.length z (by simp)).2.2.2.2 y (by simp)
    exact fun q => this q.symm
  · have := h a.length y (by simp)
    exact ⟨this.1, this.2.1⟩
def MI (n t : Nat) (acc : List (Int × Int)) : Prop := GsOk (n + 11) acc ∧ (∀ x ∈ acc, x.1 ≤ (t : Int) * (2 ^ n : Nat)) ∧ acc.length ≤ t
theorem mi_sm {n t : Nat} {x : Int} (ht : t ≤ 1000) (h0 : 0 ≤ x) (h : x ≤ (t : Int) * (2 ^ n : Nat)) : Sm (n + 11) x := by
  have e : 2 ^ (n + 11) = 2 ^ n * 2048 := Nat.pow_add 2 n 11
  have e2 : (t : Int) * (2 ^ n : Nat) ≤ 1000 * (2 ^ n : Nat) := Int.mul_le_mul_of_nonneg_right (by omega) (Int.natCast_nonneg _)
  have e3 : 0 < 2 ^ n := Nat.two_pow_pos n
  unfold Sm
  rw [e]
  generalize (t : Int) * (2 ^ n : Nat) = T at *
  generalize 2 ^ n = M at *
  omega
theorem mi_step {n t : Nat} (ht : t < 1000) {acc : List (Int × Int)} {x : Int × Int} (h : MI n t acc) (x1 : 1 ≤ x.1) (x2 : Sm n x.1) (x3 : 0 ≤ x.2) (x4 : Sm (n + 1) x.2) : MI n (t + 1) (addTo acc x) := by
  obtain ⟨h1, h2, h3⟩ := h
  have hM : ((t + 1 : Nat) : Int) * (2 ^ n : Nat) = (t : Int) * (2 ^ n : Nat) + (2 ^ n : Nat) := by
    rw [Int.natCast_add, Int.add_mul]
    simp
  have hx : x.1 < (2 ^ n : Nat) := by
    unfold Sm at x2
    omega
  have ht0 : 0 ≤ (t : Int) * (2 ^ n : Nat) := Int.mul_nonneg (by omega) (Int.natCast_nonneg _)
  have up : ∀ y ∈ acc, y.1 ≤ ((t + 1 : Nat) : Int) * (2 ^ n : Nat) := fun y hy => by
    have := h2 y hy
    omega
  have xs : Sm (n + 11) x.1 := x2.mono (by omega)
  rcases snoc_or acc with rfl | ⟨a, y, rfl⟩
  · refine ⟨gsok_snoc (gs := []) (fun i z hz => by simp at hz) (fun a y e => by simp at e) ⟨x1, x3, xs, x4.mono (by omega)⟩, fun y hy => ?_, by show 1 ≤ t + 1; omega⟩
    have hy' : y = x := List.mem_singleton.mp hy
    rw [hy', hM]
    omega
  · rw [addTo_snoc]
    by_cases ey : y.2 = x.2
    · rw [if_pos ey]
      obtain ⟨g1, g2, g3, g4⟩ := gsok_front h1
      have hy1 := h2 y (by simp)
      have hs : y.1 + x.1 ≤ ((t + 1 : Nat) : Int) * (2 ^ n : Nat) := by omega
      refine ⟨gsok_snoc g1 (fun a' z e => by show z.2 ≠ x.2; rw [← ey]; exact g2 a' z e) ⟨by show 1 ≤ y.1 + x.1; omega, x3, mi_sm (t := t + 1) (by omega) (by show 0 ≤ y.1 + x.1; omega) hs, x4.mono (by omega)⟩, fun z hz => ?_, by simp only [List.length_append, List.length_cons, List.length_nil] at h3 ⊢; omega⟩
      rcases List.mem_append.mp hz with q | q
      · exact up z (List.mem_append.mpr (.inl q))
      · rw [List.mem_singleton.mp q]
        exact hs
    · rw [if_neg ey]
      refine ⟨gsok_snoc h1 (fun a' z e => by
        have := (List.append_inj' e rfl).2
        cases this
        exact ey) ⟨x1, x3, xs, x4.mono (by omega)⟩, fun z hz => ?_, by simp only [List.length_append, List.length_cons, List.length_nil] at h3 ⊢; omega⟩
      rcases List.mem_append.mp hz with q | q
      · exact up z q
      · rw [List.mem_singleton.mp q, hM]
        omega
theorem mi_fold {n : Nat} : ∀ (gs acc : List (Int × Int)) (t : Nat), t + gs.length ≤ 1000 → (∀ x ∈ gs, 1 ≤ x.1 ∧ Sm n x.1 ∧ 0 ≤ x.2 ∧ Sm (n + 1) x.2) → MI n t acc → MI n (t + gs.length) (gs.foldl addTo acc)
  | [], acc, t, _, _, h => h
  | g :: gs, acc, t, hl, hg, h => by
    have hl' : t + (gs.length + 1) ≤ 1000 := hl
    obtain ⟨g1, g2, g3, g4⟩ := hg g (List.mem_cons_self ..)
    have e := mi_fold gs (addTo acc g) (t + 1) (by omega) (fun x hx => hg x (List.mem_cons_of_mem _ hx)) (mi_step (by omega) h g1 g2 g3 g4)
    have e2 : t + 1 + gs.length = t + (g :: gs).length := by simp; omega
    rw [e2] at e
    exact e
theorem runAfter_ok {n : Nat} {r : List (Int × Int) × Int} {f : Fm} (h : RnOk n r) (hf : f.Ok n) : RnOk (3 * n + 40) (runAfter r f) := by
  have hu := units_ok (RnOk.sm h) hf
  cases f with
  | keep b a =>
    have m := mi_fold (n := n) (moved (.keep b a) r.1) [] 0 (by unfold moved; rw [List.length_map]; have := h.len; omega) (fun x hx => by
      obtain ⟨y, hy, rfl⟩ := List.mem_map.mp hx
      obtain ⟨i, hi⟩ := List.mem_iff_getElem?.mp hy
      obtain ⟨y1, y2, y3, y4, _⟩ := h.gs i y hi
      have := Fm.after_ok hf y2 y4
      exact ⟨y1, y3, this.1, this.2⟩) ⟨(fun i x hx => by simp at hx), (fun x hx => by cases hx), Nat.le_refl _⟩
    obtain ⟨m1, m2, m3⟩ := m
    refine ⟨fun i x hx => ?_, ⟨h.rest.1, h.rest.2.mono (by omega)⟩, ?_⟩
    · obtain ⟨q1, q2, q3, q4, q5⟩ := m1 i x hx
      exact ⟨q1, q2, q3.mono (by omega), q4.mono (by omega), q5⟩
    · have e : (moved (.keep b a) r.1).length = r.1.length := List.length_map ..
      have := h.len
      show (Lx.merged (moved (.keep b a) r.1)).length ≤ 1000
      unfold Lx.merged
      omega
  | lf b a k c =>
    by_cases z : k * units r (.lf b a k c) = 0
    · rw [show runAfter r (.lf b a k c) = ([], 0) from if_pos z]
      exact ⟨fun i x hx => by simp at hx, ⟨by decide, Nat.two_pow_pos _⟩, Nat.zero_le _⟩
    · rw [show runAfter r (.lf b a k c) = ([(k * units r (.lf b a k c), c)], 0) from if_neg z]
      have hp := Int.mul_nonneg (Int.le_of_lt hf.2.2.1) hu.1
      have hs := hf.2.2.2.2.2.2.1.mul hu.2
      exact ⟨gsok_snoc (gs := []) (fun i x hx => by simp at hx) (fun a y e => by simp at e) ⟨by show 1 ≤ k * units r (.lf b a k c); omega, hf.2.2.2.1, hs.mono (by omega), hf.2.2.2.2.2.2.2.mono (by omega)⟩, ⟨(by decide : (0 : Int) ≤ 0), Nat.two_pow_pos _⟩, by show 1 ≤ 1000; decide⟩
  | cr b a k =>
    have hs := hf.2.2.2.2.2.mul hu.2
    exact ⟨fun i x hx => by simp [runAfter] at hx, ⟨Int.mul_nonneg (Int.le_of_lt hf.2.2.1) hu.1, hs.mono (by omega)⟩, Nat.zero_le _⟩
theorem units_nothing {n : Nat} {r : List (Int × Int) × Int} (h : RnSm n r) : (r.1.map fun x => x.1 * (x.2 + 1)).sum + r.2 = units r nothing := by
  have e : moved nothing r.1 = r.1 := by
    unfold moved
    have : ∀ gs : List (Int × Int), (∀ x ∈ gs, 0 ≤ x.2) → gs.map (fun x => (x.1, nothing.after x.2)) = gs := by
      intro gs
      induction gs with
      | nil => intro _; rfl
      | cons g gs ih =>
        intro hg
        have h0 := hg g (List.mem_cons_self ..)
        have e0 : nothing.after g.2 = g.2 := by
          show (if g.2 - 0 > 0 then g.2 - 0 else 0) + 0 = g.2
          have := pp (g.2 - 0)
          omega
        rw [List.map_cons, ih fun x hx => hg x (List.mem_cons_of_mem _ hx), e0]
    exact this r.1 fun x hx => (h.1 x hx).2.1
  unfold units
  rw [e]
  rfl
def RnS (K : PySem.W.Frag) (H : Hp) (v : V) (l : Addr) (g : List (Int × Int) × Int) : Prop := ∃ p xs, v = .ref p ∧ H p = some (.tup [.ref l, .int g.2]) ∧ H l = some (.lst xs) ∧ Prs K H xs g.1
theorem NewRn.s {K : PySem.W.Frag} {H H' : Hp} {v : V} {g : List (Int × Int) × Int} : NewRn K H H' v g → ∃ l, H l = none ∧ RnS K H' v l g := fun ⟨p, l, xs, h1, h2, h3, h4, h5, h6⟩ => ⟨l, h3, p, xs, h1, h4, h5, h6⟩
theorem RnS.same {K : PySem.W.Frag} {H H' : Hp} {v : V} {l : Addr} {g : List (Int × Int) × Int} (s : Same H H') : RnS K H v l g → RnS K H' v l g := fun ⟨p, xs, h1, h2, h3, h4⟩ => ⟨p, xs, h1, s _ _ h2, s _ _ h3, h4.same s⟩
theorem RnS.rn {K : PySem.W.Frag} {H : Hp} {v : V} {l : Addr} {g : List (Int × Int) × Int} : RnS K H v l g → RnAt K H v l g := fun ⟨p, xs, h1, h2, h3, h4⟩ => ⟨p, h1, .inl (.inl h2), xs, .inl (.inl h3), h4⟩
theorem RnS.upd {K : PySem.W.Frag} {H : Hp} {v : V} {l l2 : Addr} {g : List (Int × Int) × Int} {ys : List V} {o : HO} (e : H l2 = some (.lst ys)) (ne : l ≠ l2) : RnS K H v l g → RnS K (upd H l2 o) v l g :=
  fun ⟨p, xs, h1, h2, h3, h4⟩ => ⟨p, xs, h1, by rw [upd_ne (ne_of h2 e (by intro z; cases z))]; exact h2, by rw [upd_ne ne]; exact h3, Prs.lstUpd e h4⟩
theorem RnS.ne {K : PySem.W.Frag} {H : Hp} {v : V} {l p : Addr} {g : List (Int × Int) × Int} (h : RnS K H v l g) (n : H p = none) : l ≠ p := by
  obtain ⟨_, _, _, _, h3, _⟩ := h
  exact ne_of_none h3 n
def rd (g : List (Int × Int) × Int) : PyData := .tuple [.list (pd g.1), .int g.2]
theorem Prs.dq {K : PySem.W.Frag} {H : Hp} : ∀ {vs : List V} {gs : List (Int × Int)}, Prs K H vs gs → DqAll K H vs (pd gs)
  | _, _, .nil => .nil
  | _, _, .cons ⟨p, e, h⟩ t => by
    subst e
    exact .cons (.tup (.inl ⟨_, h⟩) (.inl (.inl h)) (.cons (.int _) (.cons (.int _) .nil))) (Prs.dq t)
theorem RnS.dq {K : PySem.W.Frag} {H : Hp} {v : V} {l : Addr} {g : List (Int × Int) × Int} : RnS K H v l g → Dq K H v (rd g) := fun ⟨p, xs, h1, h2, h3, h4⟩ => by
  subst h1
  exact .tup (.inl ⟨_, h2⟩) (.inl (.inl h2)) (.cons (.lst h3 (Prs.dq h4)) (.cons (.int _) .nil))
def fdt : Fm → PyData
  | .keep b a => .tuple [.str "keep", .int b, .int a]
  | .lf b a k c => .tuple [.str "lf", .int b, .int a, .int k, .int c]
  | .cr b a k => .tuple [.str "cr", .int b, .int a, .int k]
theorem fm_dq {K : PySem.W.Frag} {H : Hp} {p : Addr} {f : Fm} (h : H p = some (.tup f.vs)) : Dq K H (.ref p) (fdt f) := by
  cases f with
  | keep b a => exact .tup (.inl ⟨_, h⟩) (.inl (.inl h)) (.cons (.str _) (.cons (.int _) (.cons (.int _) .nil)))
  | lf b a k c => exact .tup (.inl ⟨_, h⟩) (.inl (.inl h)) (.cons (.str _) (.cons (.int _) (.cons (.int _) (.cons (.int _) (.cons (.int _) .nil)))))
  | cr b a k => exact .tup (.inl ⟨_, h⟩) (.inl (.inl h)) (.cons (.str _) (.cons (.int _) (.cons (.int _) (.cons (.int _) .nil))))
theorem rd_shaped (g : List (Int × Int) × Int) : SeqAt.shaped (rd g) = true := by
  have := pd_depth g.1
  unfold SeqAt.shaped rd
  simp only [PyData.canLay0, PyData.canLayAll0, pd_lay, PyData.depth, PyData.depthAll, Bool.true_and, Bool.and_true]
  exact decide_eq_true (by omega)
theorem pd_wd (gs : List (Int × Int)) : wdAll (pd gs) = true := by
  unfold pd
  induction gs with
  | nil => rfl
  | cons g gs ih => simp only [List.map_cons, wdAll, wd, ih, Bool.and_true, List.length_cons, List.length_nil, Bool.and_self, decide_true]; exact decide_eq_true (by omega)
theorem rd_wd {g : List (Int × Int) × Int} (h : g.1.length ≤ 1000) : wd (rd g) = true := by
  have e : (pd g.1).length = g.1.length := List.length_map ..
  unfold rd
  simp only [wd, wdAll, pd_wd, List.length_cons, List.length_nil, Bool.and_true]
  rw [decide_eq_true (by omega : (pd g.1).length ≤ 5000)]
  simp
theorem rd_depth (g : List (Int × Int) × Int) : (rd g).depth ≤ 3 := by
  have := pd_depth g.1
  unfold rd
  simp only [PyData.depth, PyData.depthAll]
  omega
def shw (g : List (Int × Int) × Int) (f : Fm) : PyData := .list [rd g, fdt f]
theorem sm400 {x : Int} (h : Sm 100 x) : x.natAbs < 2 ^ 400 := Nat.lt_of_lt_of_le h (Nat.pow_le_pow_right (by decide) (by decide))
theorem pd_small : ∀ (gs : List (Int × Int)), (∀ x ∈ gs, Sm 100 x.1 ∧ Sm 100 x.2) → small.smallAll (pd gs) = true
  | [], _ => rfl
  | g :: gs, h => by
    have h1 := h g (List.mem_cons_self ..)
    have ih := pd_small gs fun x hx => h x (List.mem_cons_of_mem _ hx)
    unfold pd at ih ⊢
    simp only [List.map_cons, small.smallAll, small, ih, Bool.and_true]
    rw [decide_eq_true (sm400 h1.1), decide_eq_true (sm400 h1.2)]
    rfl
theorem pd_bulk (gs : List (Int × Int)) : PyData.bulkAll (pd gs) ≤ 20 * gs.length := by
  unfold pd
  induction gs with
  | nil => exact Nat.le_refl _
  | cons g gs ih =>
    simp only [List.map_cons, PyData.bulkAll, PyData.bulk, List.length_cons]
    omega
theorem fdt_small {f : Fm} (h : f.Ok 100) : small (fdt f) = true := by
  cases f with
  | keep b a =>
    obtain ⟨_, _, h1, h2⟩ := h
    simp only [fdt, small, small.smallAll]
    rw [decide_eq_true (sm400 h1), decide_eq_true (sm400 h2)]
    decide
  | lf b a k c =>
    obtain ⟨_, _, _, _, h1, h2, h3, h4⟩ := h
    simp only [fdt, small, small.smallAll]
    rw [decide_eq_true (sm400 h1), decide_eq_true (sm400 h2), decide_eq_true (sm400 h3), decide_eq_true (sm400 h4)]
    decide
  | cr b a k =>
    obtain ⟨_, _, _, h1, h2, h3⟩ := h
    simp only [fdt, small, small.smallAll]
    rw [decide_eq_true (sm400 h1), decide_eq_true (sm400 h2), decide_eq_true (sm400 h3)]
    decide
theorem shw_fit {g : List (Int × Int) × Int} {f : Fm} (h : RnOk 100 g) (hf : f.Ok 100) : Fit (shw g f) := by
  refine fit_small ?_ ?_ ?_
  · have e1 := pd_small g.1 fun x hx => by
      obtain ⟨i, hi⟩ := List.mem_iff_getElem?.mp hx
      exact ⟨(h.gs i x hi).2.2.1, (h.gs i x hi).2.2.2.1⟩
    unfold shw rd
    simp only [small, small.smallAll, e1, fdt_small hf, Bool.and_true, Bool.true_and]
    exact decide_eq_true (sm400 h.rest.2)
  · have e := rd_depth g
    have e2 : (fdt f).depth ≤ 1 := by cases f <;> simp [fdt, PyData.depth, PyData.depthAll]
    unfold shw
    simp only [PyData.depth, PyData.depthAll]
    omega
  · have e := pd_bulk g.1
    have e2 : (fdt f).bulk ≤ 200 := by cases f <;> (simp [fdt, PyData.bulk, PyData.bulkAll]; decide)
    have e3 := h.len
    unfold shw rd
    simp only [PyData.bulk, PyData.bulkAll]
    omega
/-- a def that is called by its name -/
structure Cl (P : Program) (w : World) (K : PySem.W.Frag) (mg : Str → Option Value) (base : Heap) (k : Nat) (nm : Str) (ps : List Str) (sp : Sp) (f : Addr) (fd : FuncData) : Prop where
  G : FnOk P w K mg base CX0 k f fd ps sp
  kp : PySem.W.keepIn K (.ref f) = true
  b : Binds K fd ps []
  g : mg nm = some (.ref f)
theorem upd_keep {H : Hp} {t l b : Addr} {o1 o2 o : HO} (nt : H t = none) (ne : b ≠ l) (h : H b = some o) : upd (upd H t o1) l o2 b = some o := by
  rw [upd_ne ne, upd_ne (ne_of_none h nt)]
  exact h
end Lw
namespace Lx
open PySem PySem.Spec L2
/-! ### data that repr can write -/
/-- ints below 2 ^ 400, texts of plain signs -/
def smallB (b : Nat) : PyData → Bool
  | .none | .bool _ => true
  | .int i => decide (i.natAbs < 2 ^ b)
  | .str x => x.cps.toList.all fun c => decide (c < 128)
  | .list xs | .tuple xs => smallAll xs
  | .dict _ => false
where smallAll : List PyData → Bool
  | [] => true
  | x :: xs => smallB b x && smallAll xs
theorem intB_log {b : Nat} (h0 : 0 < b) {i : Int} (h : i.natAbs < 2 ^ b) : i.natAbs.log2 < b := PySem.Flt.log2_lt_of h0 h
theorem intB_shown {b : Nat} (h0 : 0 < b) {i : Int} (h : i.natAbs < 2 ^ b) : (PyData.shown (.int i)).length ≤ b + 1 := by
  have e := int_text_length_le (k := b) h0 (intB_log h0 h)
  show (Str.ofString (toString i)).length ≤ b + 1
  rw [ofString_length]
  omega
mutual
theorem smallB_can {b : Nat} (h0 : 0 < b) (h1 : b ≤ 1900) : ∀ d : PyData, smallB b d = true → d.showable = true
  | .none, _ => rfl
  | .bool _, _ => rfl
  | .int i, h => by
    have e := intB_log h0 (of_decide_eq_true (show decide (i.natAbs < 2 ^ b) = true by simpa only [smallB] using h))
    simp only [PyData.showable]
    exact decide_eq_true (by omega)
  | .str _, _ => rfl
  | .list xs, h => by
    simp only [PyData.showable]
    exact smallB_canAll h0 h1 xs (by simpa only [smallB] using h)
  | .tuple xs, h => by
    simp only [PyData.showable]
    exact smallB_canAll h0 h1 xs (by simpa only [smallB] using h)
  | .dict _, h => by simp [smallB] at h
theorem smallB_canAll {b : Nat} (h0 : 0 < b) (h1 : b ≤ 1900) : ∀ xs : List PyData, smallB.smallAll b xs = true → PyData.showableAll xs = true
  | [], _ => rfl
  | x :: xs, h => by
    have h' : smallB b x = true ∧ smallB.smallAll b xs = true := by simpa only [smallB.smallAll, Bool.and_eq_true] using h
    simp only [PyData.showableAll, Bool.and_eq_true]
    exact ⟨smallB_can h0 h1 x h'.1, smallB_canAll h0 h1 xs h'.2⟩
end
mutual
theorem smallB_no {b : Nat} : ∀ d : PyData, smallB b d = true → d.hasDict = false
  | .none, _ => rfl
  | .bool _, _ => rfl
  | .int i, h => rfl
  | .str _, _ => rfl
  | .list xs, h => by
    simp only [PyData.hasDict]
    exact smallB_noAll xs (by simpa only [smallB] using h)
  | .tuple xs, h => by
    simp only [PyData.hasDict]
    exact smallB_noAll xs (by simpa only [smallB] using h)
  | .dict _, h => by simp [smallB] at h
theorem smallB_noAll {b : Nat} : ∀ xs : List PyData, smallB.smallAll b xs = true → PyData.hasDictAll xs = false
  | [], _ => rfl
  | x :: xs, h => by
    have h' : smallB b x = true ∧ smallB.smallAll b xs = true := by simpa only [smallB.smallAll, Bool.and_eq_true] using h
    simp only [PyData.hasDictAll, Bool.or_eq_false_iff]
    exact ⟨smallB_no x h'.1, smallB_noAll xs h'.2⟩
end
mutual
theorem smallB_leaves {b : Nat} (h0 : 0 < b) (h8 : 8 ≤ b) : ∀ d : PyData, smallB b d = true → d.leavesShort (b + 1) = true
  | .none, _ => rfl
  | .bool _, _ => rfl
  | .int i, h => by
    have e := intB_shown h0 (of_decide_eq_true (show decide (i.natAbs < 2 ^ b) = true by simpa only [smallB] using h))
    simp only [PyData.leavesShort]
    exact decide_eq_true e
  | .str x, h => by
    simp only [PyData.leavesShort, List.all_eq_true, decide_eq_true_eq]
    simp only [smallB, List.all_eq_true, decide_eq_true_eq] at h
    intro c hc
    exact Nat.lt_of_lt_of_le (h c hc) (by decide)
  | .list xs, h => by
    simp only [PyData.leavesShort]
    exact smallB_leavesAll h0 h8 xs (by simpa only [smallB] using h)
  | .tuple xs, h => by
    simp only [PyData.leavesShort]
    exact smallB_leavesAll h0 h8 xs (by simpa only [smallB] using h)
  | .dict _, h => by simp [smallB] at h
theorem smallB_leavesAll {b : Nat} (h0 : 0 < b) (h8 : 8 ≤ b) : ∀ xs : List PyData, smallB.smallAll b xs = true → PyData.leavesShortAll (b + 1) xs = true
  | [], _ => rfl
  | x :: xs, h => by
    have h' : smallB b x = true ∧ smallB.smallAll b xs = true := by simpa only [smallB.smallAll, Bool.and_eq_true] using h
    simp only [PyData.leavesShortAll, Bool.and_eq_true]
    exact ⟨smallB_leaves h0 h8 x h'.1, smallB_leavesAll h0 h8 xs h'.2⟩
end
theorem fit_b {b : Nat} {d : PyData} (h8 : 8 ≤ b) (h1 : b ≤ 1900) (h : smallB b d = true) (hd : d.depth ≤ 40) (hb : (b + 3) * d.bulk + (b + 1) ≤ 16777216) : Fit d := by
  refine ⟨smallB_can (by omega) h1 d h, smallB_no d h, hd, ?_⟩
  have e := PyData.shown_le_bulk (b + 1) (by omega) d (smallB_leaves (by omega) h8 d h)
  rw [sizeLine_eq]
  have e2 : (b + 1 + 2) * d.bulk = (b + 3) * d.bulk := rfl
  omega
end Lx
namespace Lw
open PySem PySem.Spec L2 Lx
/-! ### a chain step by step -/
def stepsL (r : List (Int × Int) × Int) (cs : List Nat) : List (Int × Int) × Int := cs.foldl (fun y c => runAfter y (stepF c)) r
theorem stepsL_snoc (r : List (Int × Int) × Int) (cs : List Nat) (c : Nat) : stepsL r (cs ++ [c]) = runAfter (stepsL r cs) (stepF c) := by
  unfold stepsL
  rw [List.foldl_append]
  rfl
theorem stepsL_append (r : List (Int × Int) × Int) (a b : List Nat) : stepsL r (a ++ b) = stepsL (stepsL r a) b := by
  unfold stepsL
  rw [List.foldl_append]
theorem formL_snoc (cs : List Nat) (c : Nat) : formL (cs ++ [c]) = (formL cs).both (stepF c) := by
  unfold formL
  rw [List.foldl_append]
  rfl
theorem merged_ok {n : Nat} (k : Nat) : ∀ gs : List (Int × Int), gs.length = k → GsOk n gs → Lx.merged gs = gs := by
  induction k with
  | zero =>
    intro gs h _
    rw [List.eq_nil_of_length_eq_zero h]
    rfl
  | succ k ih =>
    intro gs h hg
    rcases snoc_or gs with rfl | ⟨a, y, rfl⟩
    · rfl
    · obtain ⟨h1, h2, _⟩ := gsok_front hg
      rw [merged_snoc, ih a (by simpa using h) h1]
      rcases snoc_or a with rfl | ⟨b, z, rfl⟩
      · rfl
      · rw [addTo_snoc, if_neg (h2 b z rfl)]
theorem after_nothing {j : Int} (h : 0 ≤ j) : nothing.after j = j := by
  show (if j - 0 > 0 then j - 0 else 0) + 0 = j
  have := pp (j - 0)
  omega
theorem moved_nothing {gs : List (Int × Int)} (h : ∀ x ∈ gs, 0 ≤ x.2) : moved nothing gs = gs := by
  unfold moved
  induction gs with
  | nil => rfl
  | cons g gs ih =>
    rw [List.map_cons, ih fun x hx => h x (List.mem_cons_of_mem _ hx), after_nothing (h g (List.mem_cons_self ..))]
theorem runAfter_nothing {n : Nat} {r : List (Int × Int) × Int} (h : RnOk n r) : runAfter r nothing = r := by
  show (Lx.merged (moved nothing r.1), r.2) = r
  rw [moved_nothing (fun x hx => ((RnOk.sm h).1 x hx).2.1), merged_ok _ r.1 rfl h.gs]
theorem conv_form {n : Nat} {r : List (Int × Int) × Int} (h : RnOk n r) (k : Nat) : ∀ cs : List Nat, cs.length = k → runAfter r (formL cs) = stepsL r cs := by
  induction k with
  | zero =>
    intro cs e
    rw [List.eq_nil_of_length_eq_zero e]
    exact runAfter_nothing h
  | succ k ih =>
    intro cs e
    rcases snoc_or cs with rfl | ⟨a, c, rfl⟩
    · exact runAfter_nothing h
    · rw [formL_snoc, ← runAfter_both, ih a (by simpa using e), stepsL_snoc]
theorem conv_of {n : Nat} {r : List (Int × Int) × Int} (h : RnOk n r) (x : Str) : runAfter r (formOf x) = stepsL r x.cps.toList := conv_form h _ _ rfl
/-! ### forms of short chains -/
def FLs (L : Nat) : Fm → Prop
  | .keep b a => 0 ≤ b ∧ b ≤ L ∧ 0 ≤ a ∧ a ≤ L
  | .lf b a k c => 0 ≤ b ∧ b ≤ L ∧ 0 ≤ a ∧ a ≤ L ∧ 0 < k ∧ Sm (6 * L + 1) k ∧ 0 ≤ c ∧ c ≤ L
  | .cr b a k => 0 ≤ b ∧ b ≤ L ∧ 0 ≤ a ∧ a ≤ L ∧ 0 < k ∧ Sm (6 * L + 1) k
theorem sms_le {L : Nat} {x : Int} (h0 : 0 ≤ x) (h : x ≤ L) : Sm (6 * L + 1) x := by
  have h1 : L < 2 ^ L := Nat.lt_two_pow_self
  have h2 : 2 ^ L ≤ 2 ^ (6 * L + 1) := Nat.pow_le_pow_right (by decide) (by omega)
  unfold Sm
  omega
theorem FLs.ok {L : Nat} : ∀ {f : Fm}, FLs L f → f.Ok (6 * L + 1)
  | .keep _ _, ⟨h1, h2, h3, h4⟩ => ⟨h1, h3, sms_le h1 h2, sms_le h3 h4⟩
  | .lf _ _ _ _, ⟨h1, h2, h3, h4, h5, h6, h7, h8⟩ => ⟨h1, h3, h5, h7, sms_le h1 h2, sms_le h3 h4, h6, sms_le h7 h8⟩
  | .cr _ _ _, ⟨h1, h2, h3, h4, h5, h6⟩ => ⟨h1, h3, h5, sms_le h1 h2, sms_le h3 h4, h6⟩
theorem sms_mul {L : Nat} {k x : Int} (hk : Sm (6 * L + 1) k) (h0 : 0 ≤ x) (h : x < 64) : Sm (6 * (L + 1) + 1) (k * x * 1) := by
  have e : Sm 6 x := by
    unfold Sm
    have : (2 : Nat) ^ 6 = 64 := by decide
    omega
  rw [Int.mul_one]
  exact (hk.mul e).mono (by omega)
theorem sms_up {L : Nat} {k : Int} (hk : Sm (6 * L + 1) k) : Sm (6 * (L + 1) + 1) k := hk.mono (by omega)
theorem FLs.step {L : Nat} (hL : L ≤ 60) {c : Nat} (hc : c ∈ steps.cps.toList) {f : Fm} (h : FLs L f) : FLs (L + 1) (f.both (stepF c)) := by
  cases f with
  | keep b a =>
    obtain ⟨h1, h2, h3, h4⟩ := h
    have p1 := pp (0 - a)
    have p2 := pp (a - 0)
    have p3 := pp (1 - a)
    have p4 := pp (a - 1)
    have one : Sm (6 * (L + 1) + 1) 1 := sms_le (L := L + 1) (by decide) (by omega)
    rcases step_cases hc with e | e | e | e <;> rw [e] <;> simp only [Fm.both, Fm.ahead, Fm.b, Fm.a, FLs]
    · exact ⟨by omega, by omega, by omega, by omega⟩
    · exact ⟨by omega, by omega, by omega, by omega⟩
    · exact ⟨by omega, by omega, by omega, by omega, by decide, one, by decide, by omega⟩
    · exact ⟨by omega, by omega, by omega, by omega, by decide, one⟩
  | lf b a k d =>
    obtain ⟨h1, h2, h3, h4, h5, h6, h7, h8⟩ := h
    have p1 := pp (d - 0)
    have p2 := pp (d - 1)
    rcases step_cases hc with e | e | e | e <;> rw [e] <;> simp only [Fm.both, Fm.after, Fm.b, Fm.a, FLs]
    · exact ⟨h1, by omega, h3, by omega, h5, sms_up h6, by omega, by omega⟩
    · exact ⟨h1, by omega, h3, by omega, h5, sms_up h6, by omega, by omega⟩
    · refine ⟨h1, by omega, h3, by omega, ?_, sms_mul h6 (by omega) (by omega), by decide, by omega⟩
      rw [Int.mul_one]
      exact Int.mul_pos h5 (by omega)
    · refine ⟨h1, by omega, h3, by omega, ?_, sms_mul h6 (by omega) (by omega)⟩
      rw [Int.mul_one]
      exact Int.mul_pos h5 (by omega)
  | cr b a k =>
    obtain ⟨h1, h2, h3, h4, h5, h6⟩ := h
    rcases step_cases hc with e | e | e | e <;> rw [e] <;> simp only [Fm.both, FLs, Int.mul_one]
    · exact ⟨h1, by omega, h3, by omega, h5, sms_up h6⟩
    · exact ⟨h1, by omega, h3, by omega, h5, sms_up h6⟩
    · exact ⟨h1, by omega, h3, by omega, h5, sms_up h6, by decide, by omega⟩
    · exact ⟨h1, by omega, h3, by omega, h5, sms_up h6⟩
theorem formL_fls (k : Nat) : ∀ cs : List Nat, cs.length = k → k ≤ 61 → (∀ c ∈ cs, c ∈ steps.cps.toList) → FLs k (formL cs) := by
  induction k with
  | zero =>
    intro cs h _ _
    rw [List.eq_nil_of_length_eq_zero h]
    exact ⟨by decide, by decide, by decide, by decide⟩
  | succ k ih =>
    intro cs h hk hc
    rcases snoc_or cs with rfl | ⟨a, c, rfl⟩
    · simp at h
    · rw [formL_snoc]
      exact (ih a (by simpa using h) (by omega) fun d hd => hc d (List.mem_append.mpr (.inl hd))).step (by omega) (hc c (by simp))
/-! ### lengths -/
theorem addTo_len (a : List (Int × Int)) (x : Int × Int) : (addTo a x).length ≤ a.length + 1 := by
  rcases snoc_or a with rfl | ⟨b, y, rfl⟩
  · exact Nat.le_refl _
  · rw [addTo_snoc]
    split <;> simp
theorem fold_len : ∀ (gs acc : List (Int × Int)), (gs.foldl addTo acc).length ≤ acc.length + gs.length
  | [], acc => Nat.le_refl _
  | g :: gs, acc => by
    have h1 := fold_len gs (addTo acc g)
    have h2 := addTo_len acc g
    rw [List.foldl_cons, List.length_cons]
    omega
theorem runAfter_len (r : List (Int × Int) × Int) (f : Fm) : (runAfter r f).1.length ≤ max r.1.length 1 := by
  cases f with
  | keep b a =>
    have := fold_len (moved (.keep b a) r.1) []
    have e : (moved (.keep b a) r.1).length = r.1.length := List.length_map ..
    show (Lx.merged (moved (.keep b a) r.1)).length ≤ _
    unfold Lx.merged
    rw [e] at this
    simp at this
    omega
  | lf b a k c =>
    show (if k * units r (.lf b a k c) = 0 then (([] : List (Int × Int)), (0 : Int)) else ([(k * units r (.lf b a k c), c)], 0)).1.length ≤ _
    split
    · exact Nat.zero_le _
    · exact Nat.le_max_right ..
  | cr b a k => exact Nat.zero_le _
theorem _root_.Lx.RnOk.mono {n m : Nat} {r : List (Int × Int) × Int} (h : RnOk n r) (k : n ≤ m) : RnOk m r :=
  ⟨fun i x hx => let ⟨h1, h2, h3, h4, h5⟩ := h.gs i x hx; ⟨h1, h2, h3.mono k, h4.mono k, h5⟩, ⟨h.rest.1, h.rest.2.mono k⟩, h.len⟩
/-- a chain of at most sixty steps from a run with numbers below 2 ^ 361 -/
theorem stepsL_ok {n : Nat} {r : List (Int × Int) × Int} (h : RnOk n r) (hn : n ≤ 361) {cs : List Nat} (hl : cs.length ≤ 60) (hc : ∀ c ∈ cs, c ∈ steps.cps.toList) : RnOk 1123 (stepsL r cs) ∧ (stepsL r cs).1.length ≤ max r.1.length 1 := by
  rw [← conv_form h _ cs rfl]
  have f := (formL_fls _ cs rfl (by omega) hc).ok
  exact ⟨runAfter_ok (h.mono hn) (f.mono (by omega)), runAfter_len r _⟩
/-! ### runs that repr can write -/
theorem pd_smallB {b : Nat} : ∀ (gs : List (Int × Int)), (∀ x ∈ gs, Sm b x.1 ∧ Sm b x.2) → smallB.smallAll b (pd gs) = true
  | [], _ => rfl
  | g :: gs, h => by
    have h1 := h g (List.mem_cons_self ..)
    have ih := pd_smallB gs fun x hx => h x (List.mem_cons_of_mem _ hx)
    unfold pd at ih ⊢
    simp only [List.map_cons, smallB.smallAll, smallB, ih, Bool.and_true]
    rw [decide_eq_true (show g.1.natAbs < 2 ^ b from h1.1), decide_eq_true (show g.2.natAbs < 2 ^ b from h1.2)]
    rfl
theorem rd_smallB {b : Nat} {g : List (Int × Int) × Int} (h : RnOk b g) : smallB b (rd g) = true := by
  have e1 := pd_smallB (b := b) g.1 fun x hx => by
    obtain ⟨i, hi⟩ := List.mem_iff_getElem?.mp hx
    exact ⟨(h.gs i x hi).2.2.1, (h.gs i x hi).2.2.2.1⟩
  unfold rd
  simp only [smallB, smallB.smallAll, e1, Bool.and_true, Bool.true_and]
  exact decide_eq_true h.rest.2
theorem pd_bulk3 (gs : List (Int × Int)) : PyData.bulkAll (pd gs) = 3 * gs.length := by
  unfold pd
  induction gs with
  | nil => rfl
  | cons g gs ih =>
    simp only [List.map_cons, PyData.bulkAll, PyData.bulk, List.length_cons]
    omega
theorem rd_bulk (g : List (Int × Int) × Int) : (rd g).bulk = 3 * g.1.length + 2 := by
  have e := pd_bulk3 g.1
  unfold rd
  simp only [PyData.bulk, PyData.bulkAll]
  omega
theorem rd_fit {g : List (Int × Int) × Int} (h : RnOk 1123 g) (hl : g.1.length ≤ 1000) : Fit (rd g) := by
  have e := rd_bulk g
  have e2 := rd_depth g
  exact fit_b (b := 1123) (by decide) (by decide) (rd_smallB h) (by omega) (by omega)
theorem rd2_fit {g h : List (Int × Int) × Int} (h1 : RnOk 1123 g) (h2 : RnOk 1123 h) (hl : g.1.length ≤ 1000) (hl2 : h.1.length ≤ 1000) : Fit (.list [rd g, rd h]) := by
  have e := rd_bulk g
  have e' := rd_bulk h
  have e2 := rd_depth g
  have e2' := rd_depth h
  refine fit_b (b := 1123) (by decide) (by decide) ?_ ?_ ?_
  · simp only [smallB, smallB.smallAll, rd_smallB h1, rd_smallB h2, Bool.and_true]
  · simp only [PyData.depth, PyData.depthAll]
    omega
  · simp only [PyData.bulk, PyData.bulkAll]
    omega
theorem int_fit {x : Int} (h : Sm 1900 x) : Fit (.int x) := by
  refine fit_b (b := 1900) (by decide) (by decide) ?_ (by simp [PyData.depth]) (by simp [PyData.bulk])
  simp only [smallB]
  exact decide_eq_true h
end Lw
namespace Lw
open PySem PySem.Spec L2 Lx
theorem cutS_head (z : Str) (k : Nat) (h : k ≤ z.cps.size) : (cutS z none (some (k : Int))).cps.toList = z.cps.toList.take k := by
  unfold cutS
  have e : z.length = z.cps.size := rfl
  rw [e, HT.sIx_none, HT.sIx_nat, Nat.min_eq_left h]
  simp
theorem cutS_tail (z : Str) (k : Nat) (h : k ≤ z.cps.size) : (cutS z (some (k : Int)) none).cps.toList = z.cps.toList.drop k := by
  unfold cutS
  have e : z.length = z.cps.size := rfl
  rw [e, HT.sIx_none, HT.sIx_nat, Nat.min_eq_left h]
  simp
  exact List.take_of_length_le (by simp)
end Lw
namespace Lw
open PySem PySem.Spec L2 Lx
theorem units_size {g : List (Int × Int) × Int} {f : Fm} (h : RnOk 361 g) (hf : f.Ok 361) : Sm 1600 (units (runAfter g f) nothing) := by
  have hu := units_ok (RnOk.sm h) hf
  cases f with
  | keep b a =>
    rw [units_both]
    have e : (Fm.keep b a).both nothing = .keep b a := by
      have p1 := pp (0 - a)
      have p2 := pp (a - 0)
      have ha := hf.2.1
      show Fm.keep (b + (if 0 - a > 0 then 0 - a else 0)) ((if a - 0 > 0 then a - 0 else 0) + 0) = _
      congr 1 <;> omega
    rw [e]
    exact hu.2.mono (by decide)
  | lf b a k c =>
    by_cases z : k * units g (.lf b a k c) = 0
    · rw [show runAfter g (.lf b a k c) = ([], 0) from if_pos z]
      exact Nat.two_pow_pos _
    · rw [show runAfter g (.lf b a k c) = ([(k * units g (.lf b a k c), c)], 0) from if_neg z, units_one, after_nothing hf.2.2.2.1]
      have h1 := hf.2.2.2.2.2.2.1.mul hu.2
      have h2 : Sm 362 (c + 1) := hf.2.2.2.2.2.2.2.add (Nat.lt_of_lt_of_le (by decide : (1 : Int).natAbs < 2 ^ 1) (Nat.pow_le_pow_right (by decide) (by decide)))
      exact (h1.mul h2).mono (by decide)
  | cr b a k =>
    show Sm 1600 (units ([], k * units g (.cr b a k)) nothing)
    rw [units_none]
    exact (hf.2.2.2.2.2.mul hu.2).mono (by decide)
theorem stepsL_units {n : Nat} {r : List (Int × Int) × Int} (h : RnOk n r) (hn : n ≤ 361) {cs : List Nat} (hl : cs.length ≤ 60) (hc : ∀ c ∈ cs, c ∈ steps.cps.toList) : Sm 1900 (units (stepsL r cs) nothing) := by
  rw [← conv_form h _ cs rfl]
  have f := (formL_fls _ cs rfl (by omega) hc).ok
  exact (units_size (h.mono hn) (f.mono (by omega))).mono (by decide)
end Lw
namespace Lw
open PySem PySem.Spec L2 Lx
/-! ### a dict of draws -/
abbrev bagK (g : Addr) (l t b : Int) : List (Key × V) := [(.inr "great", .ref g), (.inr "left", .int l), (.inr "turn", .int t), (.inr "blend", .int b)]
theorem bag_put_left {g : Addr} {l t b x : Int} : putK (bagK g l t b) (.inr "left") (.int x) = bagK g x t b := by rfl
theorem bag_put_turn {g : Addr} {l t b x : Int} : putK (bagK g l t b) (.inr "turn") (.int x) = bagK g l x b := by rfl
theorem bag_great {g : Addr} {l t b : Int} : valV (bagK g l t b) (.inr "great") = some (.ref g) := by rfl
theorem bag_left {g : Addr} {l t b : Int} : valV (bagK g l t b) (.inr "left") = some (.int l) := by rfl
theorem bag_turn {g : Addr} {l t b : Int} : valV (bagK g l t b) (.inr "turn") = some (.int t) := by rfl
theorem bag_blend {g : Addr} {l t b : Int} : valV (bagK g l t b) (.inr "blend") = some (.int b) := by rfl
def BagAt (H : Hp) (r gl : Addr) (n : Nat) : Prop := ∃ (ds : List Int) (l t b : Int), H r = some (.dK (bagK gl l t b)) ∧ H gl = some (.lst (ds.map V.int)) ∧ (∀ d ∈ ds, 0 ≤ d) ∧ 0 ≤ l ∧ 0 ≤ t ∧ t ≤ n ∧ 0 ≤ b ∧ b < 2305843009213693952 ∧ r ≠ gl
theorem bag_get {H : Hp} {r gl : Addr} {l t b : Int} {k : Str} {v : V} (h : H r = some (.dK (bagK gl l t b))) (e : valV (bagK gl l t b) (.inr k) = some v) : DGet H r (.str k) (some v) := .inl ⟨_, .inr k, .inl h, rfl, e.symm⟩
/-- all but two addresses is as it was -/
def Kb (r gl : Addr) (H H' : Hp) : Prop := ∀ b o, b ≠ r → b ≠ gl → H b = some o → H' b = some o
theorem Kb.refl (r gl : Addr) (H : Hp) : Kb r gl H H := fun _ _ _ _ h => h
theorem Kb.trans {r gl : Addr} {H H1 H2 : Hp} (a : Kb r gl H H1) (b : Kb r gl H1 H2) : Kb r gl H H2 := fun c o h1 h2 h => b c o h1 h2 (a c o h1 h2 h)
theorem Kb.of {r gl : Addr} {H H' : Hp} (s : Same H H') : Kb r gl H H' := fun b o _ _ h => s b o h
theorem Kb.upd_r {r gl : Addr} {H : Hp} {o : HO} : Kb r gl H (upd H r o) := fun b u h1 h2 h => by rw [upd_ne h1]; exact h
theorem Kb.upd_g {r gl : Addr} {H : Hp} {o : HO} : Kb r gl H (upd H gl o) := fun b u h1 h2 h => by rw [upd_ne h2]; exact h
theorem Kb.own {r gl p : Addr} {H H' : Hp} {o : HO} (k : Kb r gl H H') (h : H p = none) : Kb r gl H (upd H' p o) := fun b u h1 h2 e => by
  rw [upd_ne (ne_of_none e h)]
  exact k b u h1 h2 e
theorem BagAt.same {H H' : Hp} {r gl : Addr} {n : Nat} (s : Same H H') : BagAt H r gl n → BagAt H' r gl n := fun ⟨ds, l, t, b, h1, h2, h3⟩ => ⟨ds, l, t, b, s _ _ h1, s _ _ h2, h3⟩
theorem BagAt.mono {H : Hp} {r gl : Addr} {n m : Nat} (k : n ≤ m) : BagAt H r gl n → BagAt H r gl m := fun ⟨ds, l, t, b, h1, h2, h3, h4, h5, h6, h7⟩ => ⟨ds, l, t, b, h1, h2, h3, h4, h5, by omega, h7⟩
theorem BagAt.ne {H : Hp} {r gl p : Addr} {n : Nat} (s : BagAt H r gl n) (h : H p = none) : p ≠ r ∧ p ≠ gl := by
  obtain ⟨_, _, _, _, q1, q2, _⟩ := s
  exact ⟨Ne.symm (ne_of_none q1 h), Ne.symm (ne_of_none q2 h)⟩
theorem BagAt.neT {H : Hp} {r gl p : Addr} {n : Nat} {xs : List V} (s : BagAt H r gl n) (h : H p = some (.tup xs)) : p ≠ r ∧ p ≠ gl := by
  obtain ⟨_, _, _, _, q1, q2, _⟩ := s
  exact ⟨ne_of h q1 (by intro z; cases z), ne_of h q2 (by intro z; cases z)⟩
theorem BagAt.own {H : Hp} {r gl p : Addr} {n : Nat} {o : HO} (s : BagAt H r gl n) (ne : p ≠ r ∧ p ≠ gl) : BagAt (upd H p o) r gl n := by
  obtain ⟨ds, l, t, b, h1, h2, h3⟩ := s
  exact ⟨ds, l, t, b, by rw [upd_ne (Ne.symm ne.1)]; exact h1, by rw [upd_ne (Ne.symm ne.2)]; exact h2, h3⟩
theorem Kb.free {r gl : Addr} {H H' : Hp} {n : Nat} (k : Kb r gl H H') (s : BagAt H' r gl n) {p : Addr} (h : H' p = none) : H p = none := by
  cases e : H p with
  | none => rfl
  | some o =>
    have := k p o (s.ne h).1 (s.ne h).2 e
    rw [h] at this
    cases this
theorem Prs.kb {K : PySem.W.Frag} {H H' : Hp} {r gl : Addr} {n : Nat} (s : BagAt H r gl n) (k : Kb r gl H H') : ∀ {vs : List V} {gs : List (Int × Int)}, Prs K H vs gs → Prs K H' vs gs
  | _, _, .nil => .nil
  | _, _, .cons ⟨p, e, h⟩ t => .cons ⟨p, e, k _ _ (s.neT h).1 (s.neT h).2 h⟩ (Prs.kb s k t)
theorem RnS.kb {K : PySem.W.Frag} {H H' : Hp} {v : V} {l r gl : Addr} {n : Nat} {g : List (Int × Int) × Int} (s : BagAt H r gl n) (k : Kb r gl H H') (ne : l ≠ r ∧ l ≠ gl) : RnS K H v l g → RnS K H' v l g :=
  fun ⟨p, xs, h1, h2, h3, h4⟩ => ⟨p, xs, h1, k _ _ (s.neT h2).1 (s.neT h2).2 h2, k _ _ ne.1 ne.2 h3, Prs.kb s k h4⟩
theorem if_fin {c : L2.TT} {A B : TS} {D : Ends} {σ : St} {H : Hp} (Fin : St → Hp → Prop) (h : ∀ R : St → Hp → Prop, (∀ σ H, Fin σ H → R σ H) → tIfS c A B { D with nx := R } σ H) (hf : ∀ σ H, Fin σ H → D.nx σ H) : tIfS c A B D σ H := h D.nx hf
/-! ### groups of which some may be empty, put together -/
/-- numbers that can be reckoned with -/
def GsSm (n : Nat) (gs : List (Int × Int)) : Prop := ∀ x ∈ gs, 0 ≤ x.1 ∧ 0 ≤ x.2 ∧ Sm n x.1 ∧ Sm n x.2
def reduced (gs : List (Int × Int)) : List (Int × Int) := Lx.merged (gs.filter fun x => decide (x.1 > 0))
theorem reduced_take {gs : List (Int × Int)} {i : Nat} {x : Int × Int} (h : gs[i]? = some x) : reduced (gs.take (i + 1)) = if x.1 > 0 then addTo (reduced (gs.take i)) x else reduced (gs.take i) := by
  unfold reduced
  rw [List.take_succ, h, List.filter_append]
  by_cases hx : x.1 > 0
  · have e : List.filter (fun x : Int × Int => decide (x.1 > 0)) (some x).toList = [x] := by simp [hx]
    rw [if_pos hx, e]
    unfold Lx.merged
    rw [List.foldl_append]
    rfl
  · have e : List.filter (fun x : Int × Int => decide (x.1 > 0)) (some x).toList = [] := by simp [hx]
    rw [if_neg hx, e, List.append_nil]
theorem reduced_all {gs : List (Int × Int)} (h : ∀ x ∈ gs, x.1 > 0) : reduced gs = Lx.merged gs := by
  unfold reduced
  rw [List.filter_eq_self.mpr fun x hx => decide_eq_true (h x hx)]
theorem reduced_ok {n : Nat} {gs : List (Int × Int)} (h : GsSm n gs) (hl : gs.length ≤ 1000) : GsOk (n + 11) (reduced gs) ∧ (reduced gs).length ≤ gs.length := by
  have hf : (gs.filter fun x => decide (x.1 > 0)).length ≤ gs.length := List.length_filter_le ..
  have m := mi_fold (n := n) (gs.filter fun x => decide (x.1 > 0)) [] 0 (by omega) (fun x hx => by
    obtain ⟨h1, h2⟩ := List.mem_filter.mp hx
    have h2 := of_decide_eq_true h2
    obtain ⟨q1, q2, q3, q4⟩ := h x h1
    exact ⟨by omega, q3, q2, q4.mono (by omega)⟩) ⟨(fun i x hx => by simp at hx), (fun x hx => by cases hx), Nat.le_refl _⟩
  obtain ⟨m1, m2, m3⟩ := m
  refine ⟨m1, ?_⟩
  have : (reduced gs).length ≤ 0 + (gs.filter fun x => decide (x.1 > 0)).length := m3
  omega
end Lw
namespace Lw
open PySem PySem.Spec L2 Lx
theorem wh3 : ∀ f : Fm, ¬ (HT.sIx f.vs.length 0 (some 3) = 0 ∧ HT.sIx f.vs.length f.vs.length none = f.vs.length)
  | .keep _ _ => show ¬ (HT.sIx 3 0 (some 3) = 0 ∧ HT.sIx 3 3 none = 3) by decide
  | .lf _ _ _ _ => show ¬ (HT.sIx 5 0 (some 3) = 0 ∧ HT.sIx 5 5 none = 5) by decide
  | .cr _ _ _ => show ¬ (HT.sIx 4 0 (some 3) = 0 ∧ HT.sIx 4 4 none = 4) by decide
theorem vs_len : ∀ f : Fm, f.vs.length ≤ 5
  | .keep _ _ => by show 3 ≤ 5; decide
  | .lf _ _ _ _ => Nat.le_refl 5
  | .cr _ _ _ => by show 4 ≤ 5; decide
def Fm.isKeep : Fm → Bool
  | .keep _ _ => true
  | _ => false
/-- units of one unit -/
def Fm.one : Fm → Fm → Int
  | .lf _ _ _ c, g => g.after c + 1
  | _, _ => 1
theorem nk_k {f : Fm} (h : Fm.isKeep f = false) : ∃ k, f.vs[3]? = some (.int k) := by
  cases f with
  | keep _ _ => cases h
  | lf _ _ k _ => exact ⟨k, rfl⟩
  | cr _ _ k => exact ⟨k, rfl⟩
theorem nk_ok {f : Fm} {n : Nat} {k : Int} (h : Fm.isKeep f = false) (o : f.Ok n) (e : f.vs[3]? = some (.int k)) : 0 < k ∧ Sm n k := by
  cases f with
  | keep _ _ => cases h
  | lf _ _ _ _ => cases e; exact ⟨o.2.2.1, o.2.2.2.2.2.2.1⟩
  | cr _ _ _ => cases e; exact ⟨o.2.2.1, o.2.2.2.2.2⟩
theorem nk_pos {f : Fm} {n : Nat} (h : Fm.isKeep f = false) (o : f.Ok n) : 0 < n := by
  obtain ⟨k, e⟩ := nk_k h
  have h1 := nk_ok h o e
  have h2 : k.natAbs < 2 ^ n := h1.2
  have h3 := h1.1
  rcases Nat.eq_zero_or_pos n with z | z
  · subst z
    omega
  · exact z
theorem one_ok {f g : Fm} {n : Nat} (h : Fm.isKeep f = false) (o : f.Ok n) (og : g.Ok n) : 0 < Fm.one f g ∧ Sm (n + 2) (Fm.one f g) := by
  have h4 : 2 ^ 2 ≤ 2 ^ (n + 2) := Nat.pow_le_pow_right (by decide) (by omega)
  cases f with
  | keep _ _ => cases h
  | lf b a k c =>
    have e := Fm.after_ok og o.2.2.2.1 o.2.2.2.2.2.2.2
    have e2 : 2 ^ (n + 2) = 2 ^ (n + 1) * 2 := Nat.pow_succ 2 (n + 1)
    have e3 : (g.after c).natAbs < 2 ^ (n + 1) := e.2
    have e4 := e.1
    have e5 : 1 ≤ 2 ^ (n + 1) := Nat.one_le_two_pow
    refine ⟨by show 0 < g.after c + 1; omega, ?_⟩
    show (g.after c + 1).natAbs < 2 ^ (n + 2)
    rw [e2]
    generalize 2 ^ (n + 1) = M at *
    omega
  | cr _ _ _ => exact ⟨(by decide : (0 : Int) < 1), Nat.lt_of_lt_of_le (by decide : (1 : Int).natAbs < 2 ^ 2) h4⟩
theorem wh4 : ∀ f : Fm, ¬ (HT.sIx f.vs.length 0 (some 4) = 0 ∧ HT.sIx f.vs.length f.vs.length none = f.vs.length)
  | .keep _ _ => show ¬ (HT.sIx 3 0 (some 4) = 0 ∧ HT.sIx 3 3 none = 3) by decide
  | .lf _ _ _ _ => show ¬ (HT.sIx 5 0 (some 4) = 0 ∧ HT.sIx 5 5 none = 5) by decide
  | .cr _ _ _ => show ¬ (HT.sIx 4 0 (some 4) = 0 ∧ HT.sIx 4 4 none = 4) by decide
/-- the run that a form which keeps no groups makes of so many units -/
def ofUnits (t : Int) : Fm → List (Int × Int) × Int
  | .keep _ _ => ([], 0)
  | .lf _ _ k c => if k * t = 0 then ([], 0) else ([(k * t, c)], 0)
  | .cr _ _ k => ([], k * t)
theorem runAfter_units {r : List (Int × Int) × Int} {f : Fm} (h : Fm.isKeep f = false) : runAfter r f = ofUnits (units r f) f := by
  cases f with
  | keep _ _ => cases h
  | lf _ _ _ _ => rfl
  | cr _ _ _ => rfl
/-- the lengths of forms by their words -/
structure LenT (K : PySem.W.Frag) (w : World) (mg : Str → Option Value) (aL : Addr) : Prop where
  g : mg "FORM_LENGTHS" = some (.ref aL)
  d : ∃ es n, KDict K w aL es n
  keep : ∃ t, PySem.W.nsIn K aL "keep" = some (some (.int 3 t))
  lf : ∃ t, PySem.W.nsIn K aL "lf" = some (some (.int 5 t))
  cr : ∃ t, PySem.W.nsIn K aL "cr" = some (some (.int 4 t))
theorem LenT.at {K : PySem.W.Frag} {w : World} {mg : Str → Option Value} {aL : Addr} (T : LenT K w mg aL) : ∀ f : Fm, ∃ t, PySem.W.nsIn K aL f.nm = some (some (.int f.vs.length t))
  | .keep _ _ => T.keep
  | .lf _ _ _ _ => T.lf
  | .cr _ _ _ => T.cr
theorem cut1 (f : Fm) : cutV f.vs (some 1) none = f.nums.map V.int := by cases f <;> rfl
theorem wh : ∀ f : Fm, ¬ (HT.sIx f.vs.length 0 (some 1) = 0 ∧ HT.sIx f.vs.length f.vs.length none = f.vs.length)
  | .keep _ _ => show ¬ (HT.sIx 3 0 (some 1) = 0 ∧ HT.sIx 3 3 none = 3) by decide
  | .lf _ _ _ _ => show ¬ (HT.sIx 5 0 (some 1) = 0 ∧ HT.sIx 5 5 none = 5) by decide
  | .cr _ _ _ => show ¬ (HT.sIx 4 0 (some 1) = 0 ∧ HT.sIx 4 4 none = 4) by decide
theorem np : ∀ f : Fm, 0 < f.nums.length
  | .keep _ _ => Nat.succ_pos _
  | .lf _ _ _ _ => Nat.succ_pos _
  | .cr _ _ _ => Nat.succ_pos _
theorem nums0 {f : Fm} {n : Nat} (h : f.Ok n) : ∀ x ∈ f.nums, 0 ≤ x := by
  intro x hx
  cases f with
  | keep b a =>
    obtain ⟨h1, h2, _⟩ := h
    simp only [Fm.nums, List.mem_cons, List.not_mem_nil, or_false] at hx
    rcases hx with rfl | rfl <;> assumption
  | lf b a k c =>
    obtain ⟨h1, h2, h3, h4, _⟩ := h
    simp only [Fm.nums, List.mem_cons, List.not_mem_nil, or_false] at hx
    rcases hx with rfl | rfl | rfl | rfl
    · exact h1
    · exact h2
    · omega
    · exact h4
  | cr b a k =>
    obtain ⟨h1, h2, h3, _⟩ := h
    simp only [Fm.nums, List.mem_cons, List.not_mem_nil, or_false] at hx
    rcases hx with rfl | rfl | rfl
    · exact h1
    · exact h2
    · omega
end Lw
namespace Lw
open PySem PySem.Spec L2 Lx
/-! ### equal data -/
theorem pd_eqv : ∀ (a b : List (Int × Int)), PyData.eqvAll (pd a) (pd b) = decide (a = b)
  | [], [] => rfl
  | [], _ :: _ => rfl
  | _ :: _, [] => rfl
  | x :: xs, y :: ys => by
    have ih := pd_eqv xs ys
    unfold pd at ih ⊢
    simp only [List.map_cons, PyData.eqvAll, PyData.eqv, Bool.and_true, ih]
    obtain ⟨x1, x2⟩ := x
    obtain ⟨y1, y2⟩ := y
    by_cases h1 : x1 = y1 <;> by_cases h2 : x2 = y2 <;> by_cases h3 : xs = ys <;> simp [h1, h2, h3]
theorem rd_eqv (a b : List (Int × Int) × Int) : PyData.eqv (rd a) (rd b) = decide (a = b) := by
  have h := pd_eqv a.1 b.1
  unfold rd
  simp only [PyData.eqv, PyData.eqvAll, h, Bool.and_true]
  obtain ⟨a1, a2⟩ := a
  obtain ⟨b1, b2⟩ := b
  by_cases h1 : a1 = b1 <;> by_cases h2 : a2 = b2 <;> simp [h1, h2]
theorem fm_dp {K : PySem.W.Frag} {H : Hp} {x : V} {f : Fm} : FmAt K H x f → Dp K H x (fdt f) := fun ⟨p, e, h⟩ => by
  subst e
  cases f with
  | keep b a => exact .tup h (.cons (.str _) (.cons (.int _) (.cons (.int _) .nil)))
  | lf b a k c => exact .tup h (.cons (.str _) (.cons (.int _) (.cons (.int _) (.cons (.int _) (.cons (.int _) .nil)))))
  | cr b a k => exact .tup h (.cons (.str _) (.cons (.int _) (.cons (.int _) (.cons (.int _) .nil))))
theorem fdt_shaped (f : Fm) : SeqAt.shaped (fdt f) = true := by
  cases f <;> (unfold SeqAt.shaped fdt; simp [PyData.canLay0, PyData.canLayAll0, PyData.depth, PyData.depthAll]; decide +kernel)
theorem fdt_eqv (f g : Fm) : PyData.eqv (fdt f) (fdt g) = true ↔ f = g := by
  cases f <;> cases g <;> simp [fdt, PyData.eqv, PyData.eqvAll] <;> decide
/-! ### runs in a list -/
inductive Rns (K : PySem.W.Frag) (H : Hp) : List V → List (List (Int × Int) × Int) → Prop
  | nil : Rns K H [] []
  | cons {v : V} {vs : List V} {r : List (Int × Int) × Int} {rs : List (List (Int × Int) × Int)} : (∃ l, RnS K H v l r) → Rns K H vs rs → Rns K H (v :: vs) (r :: rs)
theorem Rns.same {K : PySem.W.Frag} {H H' : Hp} (s : Same H H') : ∀ {vs rs}, Rns K H vs rs → Rns K H' vs rs
  | _, _, .nil => .nil
  | _, _, .cons ⟨l, h⟩ t => .cons ⟨l, h.same s⟩ (t.same s)
theorem Rns.len {K : PySem.W.Frag} {H : Hp} : ∀ {vs rs}, Rns K H vs rs → vs.length = rs.length
  | _, _, .nil => rfl
  | _, _, .cons _ t => by rw [List.length_cons, List.length_cons, t.len]
theorem Rns.get {K : PySem.W.Frag} {H : Hp} : ∀ {vs rs}, Rns K H vs rs → ∀ {i : Nat} {v : V}, vs[i]? = some v → ∃ r l, rs[i]? = some r ∧ RnS K H v l r
  | _, _, .nil, i, v, h => by simp at h
  | _, _, .cons ⟨l, h1⟩ t, 0, v, h => by
    have e := Option.some.inj h
    subst e
    exact ⟨_, l, rfl, h1⟩
  | _, _, .cons h1 t, i + 1, v, h => t.get (i := i) h
theorem Rns.append {K : PySem.W.Frag} {H : Hp} : ∀ {vs ws rs qs}, Rns K H vs rs → Rns K H ws qs → Rns K H (vs ++ ws) (rs ++ qs)
  | _, _, _, _, .nil, h => h
  | _, _, _, _, .cons a t, h => .cons a (t.append h)
/-! ### forms that do the same twice -/
def sizesOf (f : Fm) : List Int := [0, 1, f.b, f.a, f.b + f.a, 2 * f.nums.sum + 5]
def tests (f : Fm) : List (List (Int × Int) × Int) := [([], 1), ([], 3)] ++ (sizesOf f).map fun j => ([(1, j)], 0)
theorem tests_ok {n : Nat} {f : Fm} (h : f.Ok n) : ∀ r ∈ tests f, RnOk (n + 10) r := by
  have hb := h.b0
  have ha := h.a0
  have one : ∀ z : Int, 0 ≤ z → z ≤ 5 → Sm (n + 10) z := fun z h0 h1 => Nat.lt_of_lt_of_le (show z.natAbs < 2 ^ 10 by
    have : (2 : Nat) ^ 10 = 1024 := by decide
    omega) (Nat.pow_le_pow_right (by decide) (by omega))
  have hs : 0 ≤ f.nums.sum ∧ Sm (n + 3) f.nums.sum := by
    have pw : 2 ^ (n + 3) = 2 ^ n * 8 := Nat.pow_add 2 n 3
    cases f with
    | keep b a =>
      obtain ⟨h1, h2, h3, h4⟩ := h
      unfold Sm at *
      simp only [Fm.nums, List.sum_cons, List.sum_nil]
      rw [pw]
      generalize 2 ^ n = M at *
      omega
    | lf b a k c =>
      obtain ⟨h1, h2, h3, h4, h5, h6, h7, h8⟩ := h
      unfold Sm at *
      simp only [Fm.nums, List.sum_cons, List.sum_nil]
      rw [pw]
      generalize 2 ^ n = M at *
      omega
    | cr b a k =>
      obtain ⟨h1, h2, h3, h4, h5, h6⟩ := h
      unfold Sm at *
      simp only [Fm.nums, List.sum_cons, List.sum_nil]
      rw [pw]
      generalize 2 ^ n = M at *
      omega
  have r0 : ∀ e : Int, 0 ≤ e → e ≤ 5 → RnOk (n + 10) ([], e) := fun e e0 e1 => ⟨fun i x hx => by simp at hx, ⟨e0, one e e0 e1⟩, Nat.zero_le _⟩
  have r1 : ∀ j : Int, 0 ≤ j → Sm (n + 10) j → RnOk (n + 10) ([(1, j)], 0) := fun j j0 j1 => ⟨gsok_snoc (gs := []) (fun i x hx => by simp at hx) (fun a y e => by simp at e) ⟨by show (1 : Int) ≤ 1; decide, j0, one 1 (by decide) (by decide), j1⟩, ⟨(by decide : (0 : Int) ≤ 0), one 0 (by decide) (by decide)⟩, by show 1 ≤ 1000; decide⟩
  have m : ∀ {z : Int} {k : Nat}, k ≤ n + 10 → Sm k z → Sm (n + 10) z := fun h1 h2 => h2.mono h1
  have pw4 : Sm (n + 10) (2 * f.nums.sum + 5) := by
    have e : 2 ^ (n + 10) = 2 ^ (n + 3) * 128 := by rw [show n + 10 = (n + 3) + 7 from rfl, Nat.pow_add]
    have e1 : 1 ≤ 2 ^ (n + 3) := Nat.one_le_two_pow
    have h1 := hs.2
    unfold Sm at *
    rw [e]
    generalize 2 ^ (n + 3) = M at *
    omega
  intro r hr
  have hr' : r ∈ [([], 1), ([], 3), ([(1, 0)], 0), ([(1, 1)], 0), ([(1, f.b)], 0), ([(1, f.a)], 0), ([(1, f.b + f.a)], 0), ([(1, 2 * f.nums.sum + 5)], (0 : Int))] := hr
  simp only [List.mem_cons, List.not_mem_nil, or_false] at hr'
  rcases hr' with rfl | rfl | rfl | rfl | rfl | rfl | rfl | rfl
  · exact r0 1 (by decide) (by decide)
  · exact r0 3 (by decide) (by decide)
  · exact r1 0 (by decide) (one 0 (by decide) (by decide))
  · exact r1 1 (by decide) (one 1 (by decide) (by decide))
  · exact r1 _ hb.1 (m (by omega) hb.2)
  · exact r1 _ ha.1 (m (by omega) ha.2)
  · exact r1 _ (by omega) (m (by omega) (hb.2.add ha.2))
  · exact r1 _ (by have := hs.1; omega) pw4
theorem sum_ge {n : Nat} {f : Fm} (h : f.Ok n) : f.b ≤ f.nums.sum := by
  cases f with
  | keep b a =>
    obtain ⟨h1, h2, _⟩ := h
    simp only [Fm.nums, List.sum_cons, List.sum_nil, Fm.b]
    omega
  | lf b a k c =>
    obtain ⟨h1, h2, h3, h4, _⟩ := h
    simp only [Fm.nums, List.sum_cons, List.sum_nil, Fm.b]
    omega
  | cr b a k =>
    obtain ⟨h1, h2, h3, _⟩ := h
    simp only [Fm.nums, List.sum_cons, List.sum_nil, Fm.b]
    omega
theorem run1 (b a j : Int) : runAfter ([(1, j)], 0) (.keep b a) = ([(1, (Fm.keep b a).after j)], 0) := rfl
theorem twice {n : Nat} {f : Fm} (h : f.Ok n) : f.both f = f ↔ ∀ r ∈ tests f, runAfter (runAfter r f) f = runAfter r f := by
  constructor
  · intro e r _
    rw [runAfter_both, e]
  · intro ht
    have t1 := ht ([], 1) (by unfold tests; simp)
    rw [runAfter_both] at t1
    cases f with
    | keep b a =>
      have one : ∀ j : Int, (([(1, j)], 0) : List (Int × Int) × Int) ∈ tests (.keep b a) → ((Fm.keep b a).both (.keep b a)).after j = (Fm.keep b a).after j := fun j hj => by
        have e := ht _ hj
        rw [runAfter_both] at e
        have eb : (Fm.keep b a).both (.keep b a) = .keep (b + if b - a > 0 then b - a else 0) ((if a - b > 0 then a - b else 0) + a) := rfl
        rw [eb] at e ⊢
        rw [run1, run1] at e
        injection e with e1 e2
        injection e1 with e3 e4
        injection e3
      have s1 := one 0 (by unfold tests sizesOf; simp)
      have s2 := one (2 * (Fm.keep b a).nums.sum + 5) (by unfold tests sizesOf; simp)
      have hs := sum_ge h
      obtain ⟨b0, a0, _, _⟩ := h
      have p1 := pp (b - a)
      have p2 := pp (a - b)
      simp only [Fm.both, Fm.ahead, Fm.after, Fm.b, Fm.a, Fm.nums, List.sum_cons, List.sum_nil] at s1 s2 hs ⊢
      generalize (if b - a > 0 then b - a else 0) = A at *
      generalize (if a - b > 0 then a - b else 0) = B at *
      have p3 := pp (0 - (b + A))
      have p4 := pp (0 - b)
      have p5 := pp (2 * (b + (a + 0)) + 5 - (b + A))
      have p6 := pp (2 * (b + (a + 0)) + 5 - b)
      congr 1 <;> omega
    | lf b a k c =>
      obtain ⟨b0, a0, k0, c0, _⟩ := h
      have u0 : 0 ≤ (Fm.lf b a k c).after c := by
        have := pp (c - b)
        show 0 ≤ (if c - b > 0 then c - b else 0) + a
        omega
      have kk : 0 < k * ((Fm.lf b a k c).after c + 1) * k := Int.mul_pos (Int.mul_pos k0 (by omega)) k0
      have un : ∀ g : Fm, units ([], 1) g = 1 := fun g => units_none 1 g
      have e1 : runAfter ([], 1) (.lf b a k c) = ([(k, c)], 0) := by
        show (if k * units ([], 1) (.lf b a k c) = 0 then (([] : List (Int × Int)), (0 : Int)) else ([(k * units ([], 1) (.lf b a k c), c)], 0)) = _
        rw [un, Int.mul_one, if_neg (by omega)]
      have e2 : runAfter ([], 1) ((Fm.lf b a k c).both (.lf b a k c)) = ([(k * ((Fm.lf b a k c).after c + 1) * k, c)], 0) := by
        show (if (k * ((Fm.lf b a k c).after c + 1) * k) * units ([], 1) (.lf b a (k * ((Fm.lf b a k c).after c + 1) * k) c) = 0 then (([] : List (Int × Int)), (0 : Int)) else ([((k * ((Fm.lf b a k c).after c + 1) * k) * units ([], 1) (.lf b a (k * ((Fm.lf b a k c).after c + 1) * k) c), c)], 0)) = _
        rw [un, Int.mul_one, if_neg (by omega)]
      rw [e1, e2] at t1
      injection t1 with t2 t3
      injection t2 with t4 t5
      injection t4 with t6 t7
      show Fm.lf b a (k * ((Fm.lf b a k c).after c + 1) * k) c = _
      rw [t6]
    | cr b a k =>
      have un : ∀ g : Fm, units ([], 1) g = 1 := fun g => units_none 1 g
      have t2 : (([] : List (Int × Int)), (k * 1 * k) * units ([], 1) (.cr b a (k * 1 * k))) = ([], k * units ([], 1) (.cr b a k)) := t1
      rw [un, un, Int.mul_one, Int.mul_one k] at t2
      injection t2 with t3 t4
      show Fm.cr b a (k * 1 * k) = _
      rw [Int.mul_one, t4]
end Lw
namespace Lw
open PySem PySem.Spec L2 Lx
theorem fm_dq' {K : PySem.W.Frag} {H : Hp} {x : V} {f : Fm} : FmAt K H x f → Dq K H x (fdt f) := fun ⟨p, e, h⟩ => by
  subst e
  cases f with
  | keep b a => exact .tup (SqT.tt h) h (.cons (.str _) (.cons (.int _) (.cons (.int _) .nil)))
  | lf b a k c => exact .tup (SqT.tt h) h (.cons (.str _) (.cons (.int _) (.cons (.int _) (.cons (.int _) (.cons (.int _) .nil)))))
  | cr b a k => exact .tup (SqT.tt h) h (.cons (.str _) (.cons (.int _) (.cons (.int _) (.cons (.int _) .nil))))
theorem fdt_self (f : Fm) : PyData.eqv (fdt f) (fdt f) = true := (fdt_eqv f f).mpr rfl
/-! ### joined forms -/
theorem kk_assoc (b a b' a' b'' a'' : Int) (h1 : 0 ≤ a) (h2 : 0 ≤ b') (h3 : 0 ≤ a') (h4 : 0 ≤ b'') :
    (b + (if b' - a > 0 then b' - a else 0)) + (if b'' - ((if a - b' > 0 then a - b' else 0) + a') > 0 then b'' - ((if a - b' > 0 then a - b' else 0) + a') else 0) =
      b + (if (b' + (if b'' - a' > 0 then b'' - a' else 0)) - a > 0 then (b' + (if b'' - a' > 0 then b'' - a' else 0)) - a else 0) ∧
    (if ((if a - b' > 0 then a - b' else 0) + a') - b'' > 0 then ((if a - b' > 0 then a - b' else 0) + a') - b'' else 0) + a'' =
      (if a - (b' + (if b'' - a' > 0 then b'' - a' else 0)) > 0 then a - (b' + (if b'' - a' > 0 then b'' - a' else 0)) else 0) + ((if a' - b'' > 0 then a' - b'' else 0) + a'') := by
  have p1 := pp (b' - a)
  have p2 := pp (a - b')
  have p3 := pp (b'' - a')
  have p4 := pp (a' - b'')
  generalize (if b' - a > 0 then b' - a else 0) = A at *
  generalize (if a - b' > 0 then a - b' else 0) = B at *
  generalize (if b'' - a' > 0 then b'' - a' else 0) = C at *
  generalize (if a' - b'' > 0 then a' - b'' else 0) = D at *
  have p5 := pp (b'' - (B + a'))
  have p6 := pp (B + a' - b'')
  have p7 := pp (b' + C - a)
  have p8 := pp (a - (b' + C))
  generalize (if b'' - (B + a') > 0 then b'' - (B + a') else 0) = E at *
  generalize (if B + a' - b'' > 0 then B + a' - b'' else 0) = F at *
  generalize (if b' + C - a > 0 then b' + C - a else 0) = G at *
  generalize (if a - (b' + C) > 0 then a - (b' + C) else 0) = I at *
  constructor <;> omega
theorem both_assoc {n : Nat} {f g h : Fm} (of : f.Ok n) (og : g.Ok n) (oh : h.Ok n) : (f.both g).both h = f.both (g.both h) := by
  have fa := of.a0.1
  have gb := og.b0.1
  have ga := og.a0.1
  have hb := oh.b0.1
  cases f with
  | keep b a =>
    cases g with
    | keep b' a' =>
      have e := kk_assoc b a b' a' h.b h.a fa gb ga hb
      cases h with
      | keep b'' a'' =>
        show Fm.keep _ _ = Fm.keep _ _
        exact congr (congrArg Fm.keep e.1) e.2
      | lf b'' a'' k'' c'' =>
        show Fm.lf _ _ _ _ = Fm.lf _ _ _ _
        exact congrFun (congrFun (congr (congrArg Fm.lf e.1) e.2) k'') c''
      | cr b'' a'' k'' =>
        show Fm.cr _ _ _ = Fm.cr _ _ _
        exact congrFun (congr (congrArg Fm.cr e.1) e.2) k''
    | lf b' a' k' c' => cases h <;> rfl
    | cr b' a' k' => cases h <;> rfl
  | lf b a k c =>
    cases g with
    | keep b' a' =>
      have e := after_both b' a' h c
      cases h with
      | keep b'' a'' =>
        show Fm.lf b a k _ = Fm.lf b a k _
        exact congrArg (Fm.lf b a k) e
      | lf b'' a'' k'' c'' =>
        show Fm.lf b a (k * ((Fm.lf b'' a'' k'' c'').after ((Fm.keep b' a').after c) + 1) * k'') c'' = Fm.lf b a (k * (((Fm.keep b' a').both (.lf b'' a'' k'' c'')).after c + 1) * k'') c''
        rw [e]
      | cr b'' a'' k'' =>
        show Fm.cr b a (k * ((Fm.cr b'' a'' k'').after ((Fm.keep b' a').after c) + 1) * k'') = Fm.cr b a (k * (((Fm.keep b' a').both (.cr b'' a'' k'')).after c + 1) * k'')
        rw [e]
    | lf b' a' k' c' =>
      cases h with
      | keep b'' a'' => rfl
      | lf b'' a'' k'' c'' =>
        show Fm.lf b a (k * ((Fm.lf b' a' k' c').after c + 1) * k' * ((Fm.lf b'' a'' k'' c'').after c' + 1) * k'') c'' = Fm.lf b a (k * ((Fm.lf b' a' k' c').after c + 1) * (k' * ((Fm.lf b'' a'' k'' c'').after c' + 1) * k'')) c''
        rw [← Int.mul_assoc, ← Int.mul_assoc]
      | cr b'' a'' k'' =>
        show Fm.cr b a (k * ((Fm.lf b' a' k' c').after c + 1) * k' * ((Fm.cr b'' a'' k'').after c' + 1) * k'') = Fm.cr b a (k * ((Fm.lf b' a' k' c').after c + 1) * (k' * ((Fm.cr b'' a'' k'').after c' + 1) * k''))
        rw [← Int.mul_assoc, ← Int.mul_assoc]
    | cr b' a' k' =>
      cases h with
      | keep b'' a'' => rfl
      | lf b'' a'' k'' c'' =>
        show Fm.lf b a (k * ((Fm.cr b' a' k').after c + 1) * k' * 1 * k'') c'' = Fm.lf b a (k * ((Fm.cr b' a' k').after c + 1) * (k' * 1 * k'')) c''
        rw [← Int.mul_assoc, ← Int.mul_assoc]
      | cr b'' a'' k'' =>
        show Fm.cr b a (k * ((Fm.cr b' a' k').after c + 1) * k' * 1 * k'') = Fm.cr b a (k * ((Fm.cr b' a' k').after c + 1) * (k' * 1 * k''))
        rw [← Int.mul_assoc, ← Int.mul_assoc]
  | cr b a k =>
    cases g with
    | keep b' a' =>
      cases h <;> rfl
    | lf b' a' k' c' =>
      cases h with
      | keep b'' a'' => rfl
      | lf b'' a'' k'' c'' =>
        show Fm.lf b a (k * 1 * k' * ((Fm.lf b'' a'' k'' c'').after c' + 1) * k'') c'' = Fm.lf b a (k * 1 * (k' * ((Fm.lf b'' a'' k'' c'').after c' + 1) * k'')) c''
        rw [← Int.mul_assoc, ← Int.mul_assoc]
      | cr b'' a'' k'' =>
        show Fm.cr b a (k * 1 * k' * ((Fm.cr b'' a'' k'').after c' + 1) * k'') = Fm.cr b a (k * 1 * (k' * ((Fm.cr b'' a'' k'').after c' + 1) * k''))
        rw [← Int.mul_assoc, ← Int.mul_assoc]
    | cr b' a' k' =>
      cases h with
      | keep b'' a'' => rfl
      | lf b'' a'' k'' c'' =>
        show Fm.lf b a (k * 1 * k' * 1 * k'') c'' = Fm.lf b a (k * 1 * (k' * 1 * k'')) c''
        rw [← Int.mul_assoc, ← Int.mul_assoc]
      | cr b'' a'' k'' =>
        show Fm.cr b a (k * 1 * k' * 1 * k'') = Fm.cr b a (k * 1 * (k' * 1 * k''))
        rw [← Int.mul_assoc, ← Int.mul_assoc]
theorem both_nothing {n : Nat} {f : Fm} (of : f.Ok n) : f.both nothing = f := by
  have ha := of.a0.1
  cases f with
  | keep b a =>
    have p1 := pp (0 - a)
    have p2 := pp (a - 0)
    show Fm.keep (b + (if 0 - a > 0 then 0 - a else 0)) ((if a - 0 > 0 then a - 0 else 0) + 0) = _
    have ha' : 0 ≤ a := ha
    congr 1 <;> omega
  | lf b a k c =>
    show Fm.lf b a k (nothing.after c) = _
    rw [after_nothing of.2.2.2.1]
  | cr b a k => rfl
theorem nothing_both {n : Nat} {f : Fm} (of : f.Ok n) : nothing.both f = f := by
  have hb := of.b0.1
  have p1 := pp (f.b - 0)
  have p2 := pp (0 - f.b)
  have e1 : 0 + (if f.b - 0 > 0 then f.b - 0 else 0) = f.b := by omega
  have e2 : (if 0 - f.b > 0 then 0 - f.b else 0) + f.a = f.a := by omega
  have e : nothing.both f = Fm.ahead (0 + (if f.b - 0 > 0 then f.b - 0 else 0)) ((if 0 - f.b > 0 then 0 - f.b else 0) + f.a) f := rfl
  rw [e, e1, e2]
  cases f <;> rfl
theorem nothing_ok (n : Nat) : nothing.Ok n := ⟨by decide, by decide, Nat.two_pow_pos n, Nat.two_pow_pos n⟩
theorem both_ok {n : Nat} (hn : 0 < n) {f g : Fm} (of : f.Ok n) (og : g.Ok n) : (f.both g).Ok (3 * n + 3) := by
  have gb := og.b0
  have ga := og.a0
  have o1 : Sm n 1 := Nat.lt_of_lt_of_le (by decide : (1 : Int).natAbs < 2 ^ 1) (Nat.pow_le_pow_right (by decide) hn)
  cases f with
  | keep b a =>
    obtain ⟨b0, a0, sb, sa⟩ := of
    have p1 := pp (g.b - a)
    have p2 := pp (a - g.b)
    have hB : 0 ≤ b + (if g.b - a > 0 then g.b - a else 0) ∧ Sm (3 * n + 3) (b + (if g.b - a > 0 then g.b - a else 0)) := ⟨by omega, (Sm.of_le (by omega) (show b + (if g.b - a > 0 then g.b - a else 0) ≤ b + g.b by omega) (sb.add gb.2)).mono (by omega)⟩
    have hA : 0 ≤ (if a - g.b > 0 then a - g.b else 0) + g.a ∧ Sm (3 * n + 3) ((if a - g.b > 0 then a - g.b else 0) + g.a) := ⟨by omega, (Sm.of_le (by omega) (show (if a - g.b > 0 then a - g.b else 0) + g.a ≤ a + g.a by omega) (sa.add ga.2)).mono (by omega)⟩
    cases g with
    | keep b' a' => exact ⟨hB.1, hA.1, hB.2, hA.2⟩
    | lf b' a' k' c' =>
      obtain ⟨_, _, k0, c0, _, _, sk, sc⟩ := og
      exact ⟨hB.1, hA.1, k0, c0, hB.2, hA.2, sk.mono (by omega), sc.mono (by omega)⟩
    | cr b' a' k' =>
      obtain ⟨_, _, k0, _, _, sk⟩ := og
      exact ⟨hB.1, hA.1, k0, hB.2, hA.2, sk.mono (by omega)⟩
  | lf b a k c =>
    obtain ⟨b0, a0, k0, c0, sb, sa, sk, sc⟩ := of
    have hc := Fm.after_ok og c0 sc
    have hu : 0 < g.after c + 1 ∧ Sm (n + 2) (g.after c + 1) := ⟨by have := hc.1; omega, hc.2.add (o1.mono (Nat.le_succ n))⟩
    cases g with
    | keep b' a' => exact ⟨b0, a0, k0, hc.1, sb.mono (by omega), sa.mono (by omega), sk.mono (by omega), hc.2.mono (by omega)⟩
    | lf b' a' k' c' =>
      obtain ⟨_, _, k0', c0', _, _, sk', sc'⟩ := og
      exact ⟨b0, a0, Int.mul_pos (Int.mul_pos k0 hu.1) k0', c0', sb.mono (by omega), sa.mono (by omega), ((sk.mul hu.2).mul sk').mono (by omega), sc'.mono (by omega)⟩
    | cr b' a' k' =>
      obtain ⟨_, _, k0', _, _, sk'⟩ := og
      exact ⟨b0, a0, Int.mul_pos (Int.mul_pos k0 hu.1) k0', sb.mono (by omega), sa.mono (by omega), ((sk.mul hu.2).mul sk').mono (by omega)⟩
  | cr b a k =>
    obtain ⟨b0, a0, k0, sb, sa, sk⟩ := of
    cases g with
    | keep b' a' => exact ⟨b0, a0, k0, sb.mono (by omega), sa.mono (by omega), sk.mono (by omega)⟩
    | lf b' a' k' c' =>
      obtain ⟨_, _, k0', c0', _, _, sk', sc'⟩ := og
      exact ⟨b0, a0, Int.mul_pos (Int.mul_pos k0 (by decide)) k0', c0', sb.mono (by omega), sa.mono (by omega), ((sk.mul o1).mul sk').mono (by omega), sc'.mono (by omega)⟩
    | cr b' a' k' =>
      obtain ⟨_, _, k0', _, _, sk'⟩ := og
      exact ⟨b0, a0, Int.mul_pos (Int.mul_pos k0 (by decide)) k0', sb.mono (by omega), sa.mono (by omega), ((sk.mul o1).mul sk').mono (by omega)⟩
/-! ### a form many times -/
def fp (f : Fm) : Nat → Fm
  | 0 => nothing
  | n + 1 => (fp f n).both f
theorem fp_ok {m : Nat} {f : Fm} (h : f.Ok m) : ∀ n : Nat, ∃ k, (fp f n).Ok k
  | 0 => ⟨0, nothing_ok 0⟩
  | n + 1 => by
    obtain ⟨k, hk⟩ := fp_ok h n
    exact ⟨_, both_ok (n := max k m + 1) (by omega) (hk.mono (by omega)) (h.mono (by omega))⟩
theorem fp_one {m : Nat} {f : Fm} (h : f.Ok m) : fp f 1 = f := nothing_both h
theorem fp_add {m : Nat} {f : Fm} (h : f.Ok m) (i : Nat) : ∀ j : Nat, (fp f i).both (fp f j) = fp f (i + j)
  | 0 => by
    obtain ⟨k, hk⟩ := fp_ok h i
    exact both_nothing hk
  | j + 1 => by
    obtain ⟨k, hk⟩ := fp_ok h i
    obtain ⟨k', hk'⟩ := fp_ok h j
    show (fp f i).both ((fp f j).both f) = (fp f (i + j)).both f
    rw [← both_assoc (n := max (max k k') m) (hk.mono (by omega)) (hk'.mono (by omega)) (h.mono (by omega)), fp_add h i j]
theorem fp_keep {b a : Int} (b0 : 0 ≤ b) (a0 : 0 ≤ a) : ∀ n : Nat, ∃ B A, fp (.keep b a) n = .keep B A ∧ 0 ≤ B ∧ B ≤ n * b ∧ 0 ≤ A ∧ A ≤ n * a
  | 0 => ⟨0, 0, rfl, by decide, by simp, by decide, by simp⟩
  | n + 1 => by
    obtain ⟨B, A, e, h1, h2, h3, h4⟩ := fp_keep b0 a0 n
    have p1 := pp (b - A)
    have p2 := pp (A - b)
    refine ⟨B + (if b - A > 0 then b - A else 0), (if A - b > 0 then A - b else 0) + a, ?_, by omega, ?_, by omega, ?_⟩
    · show (fp (.keep b a) n).both (.keep b a) = _
      rw [e]
      rfl
    · rw [Int.natCast_add, Int.add_mul]
      simp only [Int.natCast_one, Int.one_mul]
      omega
    · rw [Int.natCast_add, Int.add_mul]
      simp only [Int.natCast_one, Int.one_mul]
      omega
theorem fp_lf {m : Nat} {b a k c : Int} (h : (Fm.lf b a k c).Ok m) (hm : 0 < m) : ∀ n : Nat, ∃ K, fp (.lf b a k c) (n + 1) = .lf b a K c ∧ 0 < K ∧ Sm ((n + 1) * (2 * m + 2)) K
  | 0 => ⟨k, fp_one h, h.2.2.1, h.2.2.2.2.2.2.1.mono (by omega)⟩
  | n + 1 => by
    obtain ⟨K, e, K0, K1⟩ := fp_lf h hm n
    have hc := Fm.after_ok h h.2.2.2.1 h.2.2.2.2.2.2.2
    have o1 : Sm m 1 := Nat.lt_of_lt_of_le (by decide : (1 : Int).natAbs < 2 ^ 1) (Nat.pow_le_pow_right (by decide) hm)
    have hu : 0 < (Fm.lf b a k c).after c + 1 ∧ Sm (m + 2) ((Fm.lf b a k c).after c + 1) := ⟨by have := hc.1; omega, hc.2.add (o1.mono (Nat.le_succ m))⟩
    refine ⟨K * ((Fm.lf b a k c).after c + 1) * k, ?_, Int.mul_pos (Int.mul_pos K0 hu.1) h.2.2.1, ((K1.mul hu.2).mul h.2.2.2.2.2.2.1).mono ?_⟩
    · show (fp (.lf b a k c) (n + 1)).both (.lf b a k c) = _
      rw [e]
      rfl
    · have : (n + 1 + 1) * (2 * m + 2) = (n + 1) * (2 * m + 2) + (2 * m + 2) := by rw [Nat.add_mul (n + 1) 1, Nat.one_mul]
      omega
theorem fp_cr {m : Nat} {b a k : Int} (h : (Fm.cr b a k).Ok m) (hm : 0 < m) : ∀ n : Nat, ∃ K, fp (.cr b a k) (n + 1) = .cr b a K ∧ 0 < K ∧ Sm ((n + 1) * (2 * m + 2)) K
  | 0 => ⟨k, fp_one h, h.2.2.1, h.2.2.2.2.2.mono (by omega)⟩
  | n + 1 => by
    obtain ⟨K, e, K0, K1⟩ := fp_cr h hm n
    have o1 : Sm m 1 := Nat.lt_of_lt_of_le (by decide : (1 : Int).natAbs < 2 ^ 1) (Nat.pow_le_pow_right (by decide) hm)
    refine ⟨K * 1 * k, ?_, Int.mul_pos (Int.mul_pos K0 (by decide)) h.2.2.1, ((K1.mul o1).mul h.2.2.2.2.2).mono ?_⟩
    · show (fp (.cr b a k) (n + 1)).both (.cr b a k) = _
      rw [e]
      rfl
    · have : (n + 1 + 1) * (2 * m + 2) = (n + 1) * (2 * m + 2) + (2 * m + 2) := by rw [Nat.add_mul (n + 1) 1, Nat.one_mul]
      omega
/-- how often a form may be repeated here -/
def Often (f : Fm) (n : Nat) : Prop := n ≤ 100 ∨ (Fm.isKeep f = true ∧ n ≤ 2 ^ 100)
theorem Often.le {f : Fm} {n m : Nat} (h : Often f n) (k : m ≤ n) : Often f m := by
  rcases h with h | ⟨h1, h2⟩
  · exact .inl (by omega)
  · exact .inr ⟨h1, Nat.le_trans k h2⟩
theorem fp_sm {m : Nat} {f : Fm} (h : f.Ok m) (hm : 0 < m) (hm2 : m ≤ 440) {n : Nat} (o : Often f n) : (fp f n).Ok 90000 := by
  cases f with
  | keep b a =>
    obtain ⟨b0, a0, sb, sa⟩ := h
    obtain ⟨B, A, e, h1, h2, h3, h4⟩ := fp_keep b0 a0 n
    have hn : n ≤ 2 ^ 100 := by
      rcases o with o | o
      · exact Nat.le_trans o (by decide +kernel)
      · exact o.2
    have sn : Sm 101 (n : Int) := by
      unfold Sm
      have : (2 : Nat) ^ 101 = 2 ^ 100 * 2 := Nat.pow_succ ..
      omega
    rw [e]
    exact ⟨h1, h3, (Sm.of_le h1 h2 (sn.mul sb)).mono (by omega), (Sm.of_le h3 h4 (sn.mul sa)).mono (by omega)⟩
  | lf b a k c =>
    have hn : n ≤ 100 := by
      rcases o with o | o
      · exact o
      · cases o.1
    cases n with
    | zero => exact nothing_ok _
    | succ n =>
      obtain ⟨K, e, K0, K1⟩ := fp_lf h hm n
      obtain ⟨b0, a0, k0, c0, sb, sa, sk, sc⟩ := h
      rw [e]
      have : (n + 1) * (2 * m + 2) ≤ 100 * 882 := Nat.mul_le_mul (by omega) (by omega)
      exact ⟨b0, a0, K0, c0, sb.mono (by omega), sa.mono (by omega), K1.mono (by omega), sc.mono (by omega)⟩
  | cr b a k =>
    have hn : n ≤ 100 := by
      rcases o with o | o
      · exact o
      · cases o.1
    cases n with
    | zero => exact nothing_ok _
    | succ n =>
      obtain ⟨K, e, K0, K1⟩ := fp_cr h hm n
      obtain ⟨b0, a0, k0, sb, sa, sk⟩ := h
      rw [e]
      have : (n + 1) * (2 * m + 2) ≤ 100 * 882 := Nat.mul_le_mul (by omega) (by omega)
      exact ⟨b0, a0, K0, sb.mono (by omega), sa.mono (by omega), K1.mono (by omega)⟩
end Lw
namespace Lw
open PySem PySem.Spec L2 Lx
/-! ### products and sums of factors -/
def pr : List Nat → Nat
  | [] => 1
  | g :: gs => g * pr gs
theorem pr_app : ∀ a b : List Nat, pr (a ++ b) = pr a * pr b
  | [], b => (Nat.one_mul _).symm
  | g :: a, b => by
    show g * pr (a ++ b) = g * pr a * pr b
    rw [pr_app a b, Nat.mul_assoc]
theorem pr_snoc (a : List Nat) (g : Nat) : pr (a ++ [g]) = pr a * g := by
  rw [pr_app]
  show pr a * (g * 1) = _
  rw [Nat.mul_one]
/-- a prime -/
def Pm (p : Nat) : Prop := 2 ≤ p ∧ ∀ d, d ∣ p → d = 1 ∨ d = p
theorem Pm.dvd_mul {p a b : Nat} (hp : Pm p) (h : p ∣ a * b) : p ∣ a ∨ p ∣ b := by
  rcases hp.2 (Nat.gcd p a) (Nat.gcd_dvd_left p a) with h1 | h1
  · exact .inr (Nat.Coprime.dvd_of_dvd_mul_left h1 h)
  · exact .inl (h1 ▸ Nat.gcd_dvd_right p a)
theorem Pm.dvd_pr {p : Nat} (hp : Pm p) : ∀ {gs : List Nat}, p ∣ pr gs → ∃ a g b, gs = a ++ g :: b ∧ p ∣ g
  | [], h => by
    have := Nat.le_of_dvd (by decide) h
    have := hp.1
    show _
    exact absurd this (by change ¬ 2 ≤ p; show ¬ 2 ≤ p; have h1 : p ≤ 1 := ‹p ≤ pr []›; omega)
  | g :: gs, h => by
    rcases hp.dvd_mul h with h1 | h1
    · exact ⟨[], g, gs, rfl, h1⟩
    · obtain ⟨a, y, b, e, hy⟩ := hp.dvd_pr h1
      exact ⟨g :: a, y, b, by rw [e]; rfl, hy⟩
theorem pr_mid (a b : List Nat) (g : Nat) : pr (a ++ g :: b) = g * pr (a ++ b) := by
  rw [pr_app, pr_app]
  show pr a * (g * pr b) = _
  rw [← Nat.mul_assoc, Nat.mul_comm (pr a) g, Nat.mul_assoc]
theorem sum_mid (a b : List Nat) (g : Nat) : (a ++ g :: b).sum = g + (a ++ b).sum := by
  rw [List.sum_append, List.sum_append, List.sum_cons]
  omega
theorem pr_pos {gs : List Nat} (h : ∀ g ∈ gs, 2 ≤ g) : 0 < pr gs := by
  induction gs with
  | nil => exact Nat.one_pos
  | cons g gs ih => exact Nat.mul_pos (by have := h g (List.mem_cons_self ..); omega) (ih fun x hx => h x (List.mem_cons_of_mem _ hx))
/-- no way to write a product has a smaller sum than the one by primes -/
theorem min_sum : ∀ {fs : List Nat}, (∀ p ∈ fs, Pm p) → ∀ {gs : List Nat}, (∀ g ∈ gs, 2 ≤ g) → pr fs = pr gs → fs.sum ≤ gs.sum
  | [], _, gs, _, _ => Nat.zero_le _
  | p :: fs, hf, gs, hg, e => by
    have hp := hf p (List.mem_cons_self ..)
    obtain ⟨a, g, b, rfl, m, rfl⟩ := hp.dvd_pr (show p ∣ pr gs from ⟨pr fs, e.symm⟩)
    have hab : ∀ x ∈ a ++ b, 2 ≤ x := fun x hx => hg x (by
      rcases List.mem_append.mp hx with h | h
      · exact List.mem_append_left _ h
      · exact List.mem_append_right _ (List.mem_cons_of_mem _ h))
    have hg2 := hg (p * m) (by simp)
    have p0 : 0 < p := by have := hp.1; omega
    rw [pr_mid, Nat.mul_assoc] at e
    have e2 : pr fs = m * pr (a ++ b) := Nat.eq_of_mul_eq_mul_left p0 e
    rw [sum_mid, List.sum_cons]
    by_cases h1 : m = 1
    · subst h1
      rw [Nat.one_mul] at e2
      have := min_sum (fun q hq => hf q (List.mem_cons_of_mem _ hq)) hab e2
      omega
    · have hm : 2 ≤ m := by
        rcases m with _ | _ | m
        · rw [Nat.mul_zero] at hg2; omega
        · exact absurd rfl h1
        · omega
      have := min_sum (fun q hq => hf q (List.mem_cons_of_mem _ hq)) (gs := m :: (a ++ b)) (fun x hx => by
        rcases List.mem_cons.mp hx with rfl | h
        · exact hm
        · exact hab x h) e2
      rw [List.sum_cons] at this
      have : p + m ≤ p * m := by
        have h2 : 2 ≤ p := hp.1
        obtain ⟨x, rfl⟩ := Nat.exists_eq_add_of_le h2
        obtain ⟨y, rfl⟩ := Nat.exists_eq_add_of_le hm
        rw [Nat.add_mul, Nat.mul_add, Nat.mul_add]
        omega
      omega
/-! ### what one step makes of a form -/
theorem st_kU {b a : Int} (h : 0 ≤ a) : (Fm.keep b a).both (.keep 0 1) = .keep b (a + 1) := by
  show Fm.keep (b + (if 0 - a > 0 then 0 - a else 0)) ((if a - 0 > 0 then a - 0 else 0) + 1) = _
  congr 1 <;> split <;> omega
theorem st_kD {b a : Int} (h : 0 ≤ a) : (Fm.keep b a).both (.keep 1 0) = if a = 0 then .keep (b + 1) 0 else .keep b (a - 1) := by
  show Fm.keep (b + (if 1 - a > 0 then 1 - a else 0)) ((if a - 1 > 0 then a - 1 else 0) + 0) = _
  split <;> split <;> split <;> congr 1 <;> omega
theorem st_kM {b a : Int} (h : 0 ≤ a) : (Fm.keep b a).both (.lf 0 0 1 0) = .lf b a 1 0 := by
  show Fm.lf (b + (if 0 - a > 0 then 0 - a else 0)) ((if a - 0 > 0 then a - 0 else 0) + 0) 1 0 = _
  congr 1 <;> split <;> omega
theorem st_kN {b a : Int} (h : 0 ≤ a) : (Fm.keep b a).both (.cr 0 0 1) = .cr b a 1 := by
  show Fm.cr (b + (if 0 - a > 0 then 0 - a else 0)) ((if a - 0 > 0 then a - 0 else 0) + 0) 1 = _
  congr 1 <;> split <;> omega
theorem st_lU {b a k c : Int} (h : 0 ≤ c) : (Fm.lf b a k c).both (.keep 0 1) = .lf b a k (c + 1) := by
  show Fm.lf b a k ((if c - 0 > 0 then c - 0 else 0) + 1) = _
  congr 1
  split <;> omega
theorem st_lD {b a k c : Int} (h : 0 ≤ c) : (Fm.lf b a k c).both (.keep 1 0) = .lf b a k (if c - 1 > 0 then c - 1 else 0) := by
  show Fm.lf b a k ((if c - 1 > 0 then c - 1 else 0) + 0) = _
  rw [Int.add_zero]
theorem st_lM {b a k c : Int} (h : 0 ≤ c) : (Fm.lf b a k c).both (.lf 0 0 1 0) = .lf b a (k * (c + 1)) 0 := by
  have e1 : Fm.after (.lf 0 0 1 0) c = c := by
    unfold Fm.after Fm.b Fm.a
    dsimp only
    split <;> omega
  show Fm.lf b a (k * (Fm.after (.lf 0 0 1 0) c + 1) * 1) 0 = _
  rw [e1, Int.mul_one]
theorem st_lN {b a k c : Int} (h : 0 ≤ c) : (Fm.lf b a k c).both (.cr 0 0 1) = .cr b a (k * (c + 1)) := by
  have e1 : Fm.after (.cr 0 0 1) c = c := by
    unfold Fm.after Fm.b Fm.a
    dsimp only
    split <;> omega
  show Fm.cr b a (k * (Fm.after (.cr 0 0 1) c + 1) * 1) = _
  rw [e1, Int.mul_one]
theorem st_cM {b a k : Int} : (Fm.cr b a k).both (.lf 0 0 1 0) = .lf b a k 0 := by
  show Fm.lf b a (k * 1 * 1) 0 = _
  rw [Int.mul_one, Int.mul_one]
theorem st_cN {b a k : Int} : (Fm.cr b a k).both (.cr 0 0 1) = .cr b a k := by
  show Fm.cr b a (k * 1 * 1) = _
  rw [Int.mul_one, Int.mul_one]
/-! ### a chain has at least the fewest steps of its form -/
/-- a form that a chain of n steps may have -/
def LowB : Fm → Nat → Prop
  | .keep b a, n => 0 ≤ b ∧ 0 ≤ a ∧ b + a ≤ n
  | .lf b a k c, n => 0 ≤ b ∧ 0 ≤ a ∧ 0 ≤ c ∧ ∃ gs : List Nat, (∀ g ∈ gs, 2 ≤ g) ∧ (pr gs : Int) = k ∧ b + a + 1 + (gs.sum : Int) + c ≤ n
  | .cr b a k, n => 0 ≤ b ∧ 0 ≤ a ∧ ∃ gs : List Nat, (∀ g ∈ gs, 2 ≤ g) ∧ (pr gs : Int) = k ∧ b + a + 1 + (gs.sum : Int) ≤ n
theorem low_mul {k c : Int} {gs : List Nat} (hc : 0 ≤ c) (hg : ∀ g ∈ gs, 2 ≤ g) (hk : (pr gs : Int) = k) : ∃ hs : List Nat, (∀ g ∈ hs, 2 ≤ g) ∧ (pr hs : Int) = k * (c + 1) ∧ (hs.sum : Int) ≤ gs.sum + c + 1 := by
  by_cases h0 : c = 0
  · subst h0
    exact ⟨gs, hg, by rw [Int.zero_add, Int.mul_one]; exact hk, by omega⟩
  · obtain ⟨c, rfl⟩ := Int.eq_ofNat_of_zero_le hc
    refine ⟨gs ++ [c + 1], fun g h => ?_, ?_, ?_⟩
    · rcases List.mem_append.mp h with h | h
      · exact hg g h
      · rw [List.mem_singleton.mp h]; omega
    · rw [pr_snoc, Int.natCast_mul, hk]
      rfl
    · rw [List.sum_append]
      show ((gs.sum + (c + 1 + 0) : Nat) : Int) ≤ _
      omega
theorem low_step {f : Fm} {n : Nat} {c : Nat} (hc : c ∈ steps.cps.toList) (h : LowB f n) : LowB (f.both (stepF c)) (n + 1) := by
  rcases step_cases hc with e | e | e | e <;> rw [e]
  · cases f with
    | keep b a =>
      obtain ⟨h1, h2, h3⟩ := h
      rw [st_kU h2]
      exact ⟨h1, by omega, by omega⟩
    | lf b a k c =>
      obtain ⟨h1, h2, h3, gs, h4, h5, h6⟩ := h
      rw [st_lU h3]
      exact ⟨h1, h2, by omega, gs, h4, h5, by omega⟩
    | cr b a k =>
      obtain ⟨h1, h2, gs, h4, h5, h6⟩ := h
      exact ⟨h1, h2, gs, h4, h5, by omega⟩
  · cases f with
    | keep b a =>
      obtain ⟨h1, h2, h3⟩ := h
      rw [st_kD h2]
      split
      · exact ⟨by omega, by decide, by omega⟩
      · exact ⟨h1, by omega, by omega⟩
    | lf b a k c =>
      obtain ⟨h1, h2, h3, gs, h4, h5, h6⟩ := h
      rw [st_lD h3]
      refine ⟨h1, h2, by split <;> omega, gs, h4, h5, by split <;> omega⟩
    | cr b a k =>
      obtain ⟨h1, h2, gs, h4, h5, h6⟩ := h
      exact ⟨h1, h2, gs, h4, h5, by omega⟩
  · cases f with
    | keep b a =>
      obtain ⟨h1, h2, h3⟩ := h
      rw [st_kM h2]
      exact ⟨h1, h2, by decide, [], (fun g h => by cases h), rfl, by show b + a + 1 + 0 + 0 ≤ _; omega⟩
    | lf b a k c =>
      obtain ⟨h1, h2, h3, gs, h4, h5, h6⟩ := h
      rw [st_lM h3]
      obtain ⟨hs, q1, q2, q3⟩ := low_mul h3 h4 h5
      exact ⟨h1, h2, by decide, hs, q1, q2, by omega⟩
    | cr b a k =>
      obtain ⟨h1, h2, gs, h4, h5, h6⟩ := h
      rw [st_cM]
      exact ⟨h1, h2, by decide, gs, h4, h5, by omega⟩
  · cases f with
    | keep b a =>
      obtain ⟨h1, h2, h3⟩ := h
      rw [st_kN h2]
      exact ⟨h1, h2, [], (fun g h => by cases h), rfl, by show b + a + 1 + 0 ≤ _; omega⟩
    | lf b a k c =>
      obtain ⟨h1, h2, h3, gs, h4, h5, h6⟩ := h
      rw [st_lN h3]
      obtain ⟨hs, q1, q2, q3⟩ := low_mul h3 h4 h5
      exact ⟨h1, h2, hs, q1, q2, by omega⟩
    | cr b a k =>
      obtain ⟨h1, h2, gs, h4, h5, h6⟩ := h
      rw [st_cN]
      exact ⟨h1, h2, gs, h4, h5, by omega⟩
theorem low_form : ∀ (n : Nat) (cs : List Nat), cs.length = n → (∀ c ∈ cs, c ∈ steps.cps.toList) → LowB (formL cs) n
  | 0, cs, h, _ => by
    rw [List.length_eq_zero_iff.mp h]
    exact ⟨by decide, by decide, by decide⟩
  | n + 1, cs, h, hc => by
    rcases List.eq_nil_or_concat cs with rfl | ⟨ds, c, rfl⟩
    · cases h
    · rw [List.concat_eq_append] at h hc ⊢
      rw [formL_snoc]
      exact low_step (hc c (by simp)) (low_form n ds (by simpa using h) fun d hd => hc d (List.mem_append_left _ hd))
/-! ### steps of a form whose k is the product of primes -/
/-- the primes of a form -/
def Prim : Fm → List Nat → Prop
  | .keep _ _, fs => fs = []
  | .lf _ _ k _, fs => (∀ p ∈ fs, Pm p) ∧ (pr fs : Int) = k
  | .cr _ _ k, fs => (∀ p ∈ fs, Pm p) ∧ (pr fs : Int) = k
def stepsF : Fm → List Nat → Int
  | .keep b a, _ => b + a
  | .lf b a _ c, fs => b + a + 1 + (fs.sum : Int) + c
  | .cr b a _, fs => b + a + 1 + (fs.sum : Int)
theorem steps_le {f : Fm} {n : Nat} {fs : List Nat} (h : LowB f n) (hp : Prim f fs) : stepsF f fs ≤ n := by
  cases f with
  | keep b a => exact h.2.2
  | lf b a k c =>
    obtain ⟨h1, h2, h3, gs, h4, h5, h6⟩ := h
    have := min_sum hp.1 h4 (Int.ofNat_inj.mp (hp.2.trans h5.symm))
    show b + a + 1 + (fs.sum : Int) + c ≤ n
    omega
  | cr b a k =>
    obtain ⟨h1, h2, gs, h4, h5, h6⟩ := h
    have := min_sum hp.1 h4 (Int.ofNat_inj.mp (hp.2.trans h5.symm))
    show b + a + 1 + (fs.sum : Int) ≤ n
    omega
theorem steps_min {x : Str} (hx : ChOk x) {fs : List Nat} (hp : Prim (formOf x) fs) : stepsF (formOf x) fs ≤ x.cps.size := steps_le (low_form _ x.cps.toList (Array.length_toList ..) hx) hp
end Lw
namespace Lw
open PySem PySem.Spec L2 Lx
/-! ### chains put together -/
theorem formL_fle (k : Nat) : ∀ cs : List Nat, cs.length = k → k ≤ 7000 → (∀ c ∈ cs, c ∈ steps.cps.toList) → FLe k (formL cs) := by
  induction k with
  | zero =>
    intro cs e _ _
    rw [List.eq_nil_of_length_eq_zero e]
    exact ⟨by decide, by decide, by decide, by decide⟩
  | succ k ih =>
    intro cs e hk hc
    rcases snoc_or cs with rfl | ⟨ds, c, rfl⟩
    · cases e
    · have ed : ds.length = k := by simpa using e
      have h := ih ds ed (by omega) fun x hx => hc x (List.mem_append.mpr (.inl hx))
      have e2 : formL (ds ++ [c]) = (formL ds).both (stepF c) := by unfold formL; rw [List.foldl_append]; rfl
      rw [e2]
      exact h.step (by omega) (hc c (by simp))
theorem step_ok {c : Nat} (h : c ∈ steps.cps.toList) {n : Nat} (hn : 0 < n) : (stepF c).Ok n := by
  have one : Sm n 1 := Nat.lt_of_lt_of_le (by decide : (1 : Int).natAbs < 2 ^ 1) (Nat.pow_le_pow_right (by decide) hn)
  have zer : Sm n 0 := Nat.two_pow_pos n
  rcases step_cases h with e | e | e | e <;> rw [e]
  · exact ⟨by decide, by decide, zer, one⟩
  · exact ⟨by decide, by decide, one, zer⟩
  · exact ⟨by decide, by decide, by decide, by decide, zer, zer, one, zer⟩
  · exact ⟨by decide, by decide, by decide, zer, zer, one⟩
theorem formL_app7 (a : List Nat) (ha : ∀ c ∈ a, c ∈ steps.cps.toList) (n : Nat) : ∀ b : List Nat, b.length = n → (∀ c ∈ b, c ∈ steps.cps.toList) → a.length + b.length ≤ 7000 → formL (a ++ b) = (formL a).both (formL b) := by
  induction n with
  | zero =>
    intro b e _ hl
    rw [List.eq_nil_of_length_eq_zero e, List.append_nil]
    exact (both_nothing (formL_fle _ a rfl (by omega) ha).ok).symm
  | succ n ih =>
    intro b e hb hl
    rcases snoc_or b with rfl | ⟨ds, c, rfl⟩
    · cases e
    · have ed : ds.length = n := by simpa using e
      have hd : ∀ x ∈ ds, x ∈ steps.cps.toList := fun x hx => hb x (List.mem_append.mpr (.inl hx))
      have hc := hb c (by simp)
      have hl2 : (ds ++ [c]).length = ds.length + 1 := by simp
      have e2 : ∀ xs : List Nat, formL (xs ++ [c]) = (formL xs).both (stepF c) := fun xs => by unfold formL; rw [List.foldl_append]; rfl
      rw [← List.append_assoc, e2, ih ds ed hd (by omega), e2]
      have oa := (formL_fle _ a rfl (by omega) ha).ok
      have ob := (formL_fle _ ds rfl (by omega) hd).ok
      refine both_assoc (n := 13 * 7000 + 1) (oa.mono (by omega)) (ob.mono (by omega)) (step_ok hc (by omega))
theorem formOf_app {x y : Str} (hx : ChOk x) (hy : ChOk y) (hl : x.cps.size + y.cps.size ≤ 7000) : formOf (x ++ y) = (formOf x).both (formOf y) := by
  have e : (x ++ y).cps.toList = x.cps.toList ++ y.cps.toList := Array.toList_append ..
  unfold formOf
  rw [e]
  exact formL_app7 _ hx _ _ rfl hy (by rw [Array.length_toList, Array.length_toList]; exact hl)
theorem ChOk.app {x y : Str} (hx : ChOk x) (hy : ChOk y) : ChOk (x ++ y) := fun c hc => by
  have e : (x ++ y).cps.toList = x.cps.toList ++ y.cps.toList := Array.toList_append ..
  rw [e] at hc
  rcases List.mem_append.mp hc with h | h
  · exact hx c h
  · exact hy c h
theorem app_sz (x y : Str) : (x ++ y).cps.size = x.cps.size + y.cps.size := Array.size_append ..
theorem formOf_fle {x : Str} (hx : ChOk x) (hl : x.cps.size ≤ 7000) : FLe x.cps.size (formOf x) := formL_fle _ _ (Array.length_toList ..) hl hx
theorem formOf_ok {x : Str} (hx : ChOk x) (hl : x.cps.size ≤ 7000) : (formOf x).Ok 91001 := (formOf_fle hx hl).ok.mono (by omega)
/-! ### copies by name -/
inductive Ents (K : PySem.W.Frag) (H : Hp) : List (Key × V) → List (Str × Str) → Prop
  | nil : Ents K H [] []
  | cons {kvs : List (Key × V)} {zs : List (Str × Str)} {v : V} {n z : Str} : FmAt K H v (formOf z) → Ents K H kvs zs → Ents K H ((.inr n, v) :: kvs) ((n, z) :: zs)
theorem Ents.same {K : PySem.W.Frag} {H H' : Hp} (s : ∀ v f, FmAt K H v f → FmAt K H' v f) : ∀ {kvs : List (Key × V)} {zs : List (Str × Str)}, Ents K H kvs zs → Ents K H' kvs zs
  | _, _, .nil => .nil
  | _, _, .cons h t => .cons (s _ _ h) (t.same s)
theorem Ents.len {K : PySem.W.Frag} {H : Hp} : ∀ {kvs : List (Key × V)} {zs : List (Str × Str)}, Ents K H kvs zs → kvs.length = zs.length
  | _, _, .nil => rfl
  | _, _, .cons _ t => by rw [List.length_cons, List.length_cons, t.len]
theorem Ents.get {K : PySem.W.Frag} {H : Hp} {n z : Str} : ∀ {kvs : List (Key × V)} {zs : List (Str × Str)}, Ents K H kvs zs → zs.lookup n = some z → ∃ v, valV kvs (.inr n) = some v ∧ FmAt K H v (formOf z)
  | _, _, .nil, e => by cases e
  | _, _, .cons (n := m) (z := y) (v := v) (kvs := kvs) (zs := zs) h t, e => by
    by_cases c : m = n
    · subst c
      rw [List.lookup_cons_self] at e
      cases e
      exact ⟨v, valV_pos rfl, h⟩
    · rw [List.lookup_cons, show (n == m) = false from beq_false_of_ne (Ne.symm c)] at e
      obtain ⟨u, h1, h2⟩ := Ents.get t e
      exact ⟨u, (valV_neg (fun z => c (Sum.inr.inj z))).trans h1, h2⟩
/-- in its place, or at the end -/
def putZ : List (Str × Str) → Str → Str → List (Str × Str)
  | [], n, z => [(n, z)]
  | (m, y) :: r, n, z => if m = n then (m, z) :: r else (m, y) :: putZ r n z
theorem putZ_len : ∀ (zs : List (Str × Str)) (n z : Str), (putZ zs n z).length ≤ zs.length + 1
  | [], _, _ => Nat.le_refl _
  | (m, y) :: r, n, z => by
    have := putZ_len r n z
    unfold putZ
    split
    · exact Nat.le_succ _
    · show _ + 1 ≤ _ + 1 + 1
      omega
theorem putZ_get (n z m : Str) : ∀ zs : List (Str × Str), (putZ zs n z).lookup m = if m = n then some z else zs.lookup m
  | [] => by
    show List.lookup m [(n, z)] = _
    rw [List.lookup_cons]
    by_cases c : m = n
    · subst c
      simp
    · rw [show (m == n) = false from beq_false_of_ne c, if_neg c]
  | (k, y) :: r => by
    unfold putZ
    by_cases c : k = n
    · subst c
      rw [if_pos rfl, List.lookup_cons, List.lookup_cons]
      by_cases d : m = k
      · subst d
        simp
      · rw [show (m == k) = false from beq_false_of_ne d, if_neg d]
    · rw [if_neg c, List.lookup_cons, List.lookup_cons, putZ_get n z m r]
      by_cases d : m = k
      · subst d
        rw [if_neg c]
        simp [c]
      · rw [show (m == k) = false from beq_false_of_ne d]
/-- no name twice -/
def NdZ (zs : List (Str × Str)) : Prop := (zs.map Prod.fst).Nodup
theorem map_same {kvs : List (Key × V)} {n : Str} {v : V} (h : ∀ kv ∈ kvs, kv.1 ≠ .inr n) : kvs.map (fun kv => if kv.1 = .inr n then (kv.1, v) else kv) = kvs := by
  induction kvs with
  | nil => rfl
  | cons p r ih =>
    rw [List.map_cons, ih fun kv hkv => h kv (List.mem_cons_of_mem _ hkv), if_neg (h p (List.mem_cons_self ..))]
theorem Ents.keys {K : PySem.W.Frag} {H : Hp} {n : Str} : ∀ {kvs : List (Key × V)} {zs : List (Str × Str)}, Ents K H kvs zs → n ∉ zs.map Prod.fst → ∀ kv ∈ kvs, kv.1 ≠ .inr n
  | _, _, .nil, _, kv, hkv => by cases hkv
  | _, _, .cons (n := m) h t, hn, kv, hkv => by
    rcases List.mem_cons.mp hkv with rfl | hkv
    · exact fun e => hn (List.mem_cons.mpr (.inl (Sum.inr.inj e).symm))
    · exact Ents.keys t (fun e => hn (List.mem_cons_of_mem _ e)) kv hkv
theorem Ents.put {K : PySem.W.Frag} {H : Hp} {n z : Str} {v : V} (hv : FmAt K H v (formOf z)) : ∀ {kvs : List (Key × V)} {zs : List (Str × Str)}, Ents K H kvs zs → NdZ zs → Ents K H (putK kvs (.inr n) v) (putZ zs n z)
  | _, _, .nil, _ => .cons hv .nil
  | _, _, .cons (n := m) (z := y) (v := u) (kvs := kvs) (zs := zs) h t, nd => by
    have nd' : m ∉ zs.map Prod.fst ∧ NdZ zs := List.nodup_cons.mp nd
    unfold putZ
    by_cases c : m = n
    · subst c
      have e : putK ((.inr m, u) :: kvs) (.inr m : Key) v = (.inr m, v) :: kvs := by
        unfold putK
        rw [if_pos (by simp), List.map_cons, if_pos rfl, map_same (t.keys nd'.1)]
      rw [e, if_pos rfl]
      exact .cons hv t
    · have ih := Ents.put (n := n) hv t nd'.2
      have cn : ¬ ((.inr m : Key) = .inr n) := fun e => c (Sum.inr.inj e)
      have e : putK ((.inr m, u) :: kvs) (.inr n : Key) v = (.inr m, u) :: putK kvs (.inr n) v := by
        unfold putK
        by_cases a : (kvs.any fun kv => decide (kv.1 = (.inr n : Key))) = true
        · rw [if_pos (by rw [List.any_cons, a]; simp), if_pos a, List.map_cons, if_neg cn]
        · rw [if_neg (by rw [List.any_cons, decide_eq_false cn]; simpa using a), if_neg a]
          rfl
      rw [e, if_neg c]
      exact .cons h ih
theorem putZ_mem {n z : Str} : ∀ {zs : List (Str × Str)} {m : Str}, m ∈ (putZ zs n z).map Prod.fst → m = n ∨ m ∈ zs.map Prod.fst
  | [], m, h => .inl (by simpa [putZ] using h)
  | (k, y) :: r, m, h => by
    unfold putZ at h
    by_cases c : k = n
    · rw [if_pos c] at h
      exact .inr h
    · rw [if_neg c] at h
      rcases List.mem_cons.mp h with rfl | h
      · exact .inr (List.mem_cons_self ..)
      · exact (putZ_mem h).imp id fun q => List.mem_cons_of_mem _ q
theorem putZ_nd {n z : Str} : ∀ {zs : List (Str × Str)}, NdZ zs → NdZ (putZ zs n z)
  | [], _ => by unfold NdZ putZ; simp
  | (k, y) :: r, h => by
    have h' : k ∉ r.map Prod.fst ∧ NdZ r := List.nodup_cons.mp h
    unfold putZ
    by_cases c : k = n
    · rw [if_pos c]
      exact h
    · rw [if_neg c]
      refine List.nodup_cons.mpr ⟨fun hm => ?_, putZ_nd h'.2⟩
      rcases putZ_mem hm with e | e
      · exact c e
      · exact h'.1 e
/-- chains that may be put together with k letters more -/
def ZOk (L : Nat) (zs : List (Str × Str)) : Prop := ∀ n z, zs.lookup n = some z → ChOk z ∧ z.cps.size ≤ L
theorem ZOk.put {L : Nat} {zs : List (Str × Str)} {n z : Str} (h : ZOk L zs) (hz : ChOk z) (hl : z.cps.size ≤ L) : ZOk L (putZ zs n z) := fun m y e => by
  rw [putZ_get] at e
  by_cases c : m = n
  · rw [if_pos c] at e
    cases e
    exact ⟨hz, hl⟩
  · rw [if_neg c] at e
    exact h m y e
theorem ZOk.mono {L L' : Nat} {zs : List (Str × Str)} (h : ZOk L zs) (k : L ≤ L') : ZOk L' zs := fun n z e => ⟨(h n z e).1, Nat.le_trans (h n z e).2 k⟩
/-- a depot stands at p, its dict at d -/
structure DepAt (K : PySem.W.Frag) (C : Addr) (H : Hp) (p d : Addr) (zs : List (Str × Str)) : Prop where
  ob : ∃ dx, H p = some (.ins C dx [("_forms", .ref d)])
  dc : ∃ kvs, H d = some (.dK kvs) ∧ Ents K H kvs zs
  nd : NdZ zs
theorem DepAt.same {K : PySem.W.Frag} {C : Addr} {H H' : Hp} {p d : Addr} {zs : List (Str × Str)} (s : Same H H') (h : DepAt K C H p d zs) : DepAt K C H' p d zs := by
  obtain ⟨⟨dx, h1⟩, ⟨kvs, h2, h3⟩, h4⟩ := h
  exact ⟨⟨dx, s _ _ h1⟩, ⟨kvs, s _ _ h2, h3.same fun v f hv => hv.same s⟩, h4⟩
/-- all but one address is as it was -/
def Kd (d : Addr) (H H' : Hp) : Prop := ∀ b o, b ≠ d → H b = some o → H' b = some o
theorem Kd.refl (d : Addr) (H : Hp) : Kd d H H := fun _ _ _ h => h
theorem Kd.trans {d : Addr} {H H1 H2 : Hp} (a : Kd d H H1) (b : Kd d H1 H2) : Kd d H H2 := fun c o h1 h => b c o h1 (a c o h1 h)
theorem Kd.of {d : Addr} {H H' : Hp} (s : Same H H') : Kd d H H' := fun b o _ h => s b o h
theorem FmAt.kd {K : PySem.W.Frag} {H H' : Hp} {d : Addr} {kvs : List (Key × V)} (hd : H d = some (.dK kvs)) (k : Kd d H H') {v : V} {f : Fm} : FmAt K H v f → FmAt K H' v f := fun ⟨p, h1, h2⟩ => ⟨p, h1, by
  rcases h2 with (h | ⟨o, h⟩) | h
  · exact .inl (.inl (k _ _ (ne_of h hd (by intro z; cases z)) h))
  · exact .inl (.inr ⟨o, k _ _ (ne_of h hd (by intro z; cases z)) h⟩)
  · exact .inr h⟩
end Lw
namespace Lw
open PySem PySem.Spec L2 Lx
/-! ### the chain that a list of factors gives -/
def go (f : Fm) (cs : List Nat) : Fm := cs.foldl (fun f c => f.both (stepF c)) f
theorem go_app (f : Fm) (a b : List Nat) : go f (a ++ b) = go (go f a) b := List.foldl_append
theorem go_nothing (cs : List Nat) : go nothing cs = formL cs := rfl
theorem go_one (f : Fm) (c : Nat) : go f [c] = f.both (stepF c) := rfl
theorem go_D : ∀ (n : Nat) {b : Int}, go (.keep b 0) (List.replicate n 68) = .keep (b + n) 0
  | 0, b => by show Fm.keep b 0 = Fm.keep (b + 0) 0; rw [Int.add_zero]
  | n + 1, b => by
    show go ((Fm.keep b 0).both (.keep 1 0)) (List.replicate n 68) = _
    rw [st_kD (by decide), if_pos rfl, go_D n]
    congr 1
    omega
theorem go_kU : ∀ (n : Nat) {b a : Int}, 0 ≤ a → go (.keep b a) (List.replicate n 85) = .keep b (a + n)
  | 0, b, a, _ => by show Fm.keep b a = Fm.keep b (a + 0); rw [Int.add_zero]
  | n + 1, b, a, h => by
    show go ((Fm.keep b a).both (.keep 0 1)) (List.replicate n 85) = _
    rw [st_kU h, go_kU n (by omega)]
    congr 1
    omega
theorem go_lU : ∀ (n : Nat) {b a k c : Int}, 0 ≤ c → go (.lf b a k c) (List.replicate n 85) = .lf b a k (c + n)
  | 0, b, a, k, c, _ => by show Fm.lf b a k c = Fm.lf b a k (c + 0); rw [Int.add_zero]
  | n + 1, b, a, k, c, h => by
    show go ((Fm.lf b a k c).both (.keep 0 1)) (List.replicate n 85) = _
    rw [st_lU h, go_lU n (by omega)]
    congr 1
    omega
def seg (p : Nat) : List Nat := List.replicate (p - 1) 85 ++ [77]
def segs (gs : List Nat) : List Nat := gs.flatMap seg
theorem go_segs : ∀ (gs : List Nat), (∀ g ∈ gs, 1 ≤ g) → ∀ {b a k : Int}, go (.lf b a k 0) (segs gs) = .lf b a (k * (pr gs : Int)) 0
  | [], _, b, a, k => by show Fm.lf b a k 0 = Fm.lf b a (k * 1) 0; rw [Int.mul_one]
  | g :: gs, h, b, a, k => by
    have hg := h g (List.mem_cons_self ..)
    show go (.lf b a k 0) (seg g ++ segs gs) = _
    rw [go_app]
    have e : go (.lf b a k 0) (seg g) = .lf b a (k * (g : Int)) 0 := by
      unfold seg
      rw [go_app, go_lU _ (by decide)]
      show (Fm.lf b a k (0 + ((g - 1 : Nat) : Int))).both (.lf 0 0 1 0) = _
      rw [st_lM (by omega)]
      congr 2
      omega
    rw [e, go_segs gs fun x hx => h x (List.mem_cons_of_mem _ hx)]
    congr 1
    show k * (g : Int) * (pr gs : Int) = k * ((g * pr gs : Nat) : Int)
    rw [Int.natCast_mul, Int.mul_assoc]
def startL (b a : Int) : List Nat := List.replicate b.toNat 68 ++ List.replicate a.toNat 85
theorem go_start {b a : Int} (hb : 0 ≤ b) (ha : 0 ≤ a) : formL (startL b a) = .keep b a := by
  rw [← go_nothing]
  unfold startL
  rw [go_app, go_D, go_kU _ (by decide), Int.toNat_of_nonneg ha]
  congr 1 <;> omega
def shc : Fm → List Nat → List Nat
  | .keep b a, _ => startL b a
  | .lf b a _ c, gs => startL b a ++ (77 :: segs gs) ++ List.replicate c.toNat 85
  | .cr b a _, gs => startL b a ++ (77 :: segs gs).dropLast ++ [78]
theorem segs_snoc (gs : List Nat) (g : Nat) : 77 :: segs (gs ++ [g]) = (77 :: segs gs) ++ List.replicate (g - 1) 85 ++ [77] := by
  unfold segs
  rw [List.flatMap_append]
  show 77 :: (gs.flatMap seg ++ (seg g ++ [])) = _
  rw [List.append_nil]
  unfold seg
  simp
theorem drop_snoc (gs : List Nat) (g : Nat) : (77 :: segs (gs ++ [g])).dropLast = (77 :: segs gs) ++ List.replicate (g - 1) 85 := by
  rw [segs_snoc, List.dropLast_concat]
/-- factors of a form -/
def Fac : Fm → List Nat → Prop
  | .keep b a, _ => 0 ≤ b ∧ 0 ≤ a
  | .lf b a k c, gs => 0 ≤ b ∧ 0 ≤ a ∧ 0 ≤ c ∧ (∀ g ∈ gs, 2 ≤ g) ∧ (pr gs : Int) = k
  | .cr b a k, gs => 0 ≤ b ∧ 0 ≤ a ∧ (∀ g ∈ gs, 2 ≤ g) ∧ (pr gs : Int) = k
theorem shc_form {f : Fm} {gs : List Nat} (h : Fac f gs) : formL (shc f gs) = f := by
  have one : ∀ {l : List Nat}, (∀ g ∈ l, 2 ≤ g) → ∀ g ∈ l, 1 ≤ g := fun h g hg => by have := h g hg; omega
  cases f with
  | keep b a => exact go_start h.1 h.2
  | lf b a k c =>
    obtain ⟨h1, h2, h3, h4, h5⟩ := h
    unfold shc
    rw [← go_nothing, go_app, go_app, go_nothing, go_start h1 h2]
    show go (go ((Fm.keep b a).both (.lf 0 0 1 0)) (segs gs)) _ = _
    rw [st_kM h2, go_segs gs (one h4), go_lU _ (by decide), Int.one_mul, h5]
    congr 1
    omega
  | cr b a k =>
    obtain ⟨h1, h2, h4, h5⟩ := h
    unfold shc
    rw [← go_nothing, go_app, go_app, go_nothing, go_start h1 h2]
    rcases List.eq_nil_or_concat gs with rfl | ⟨ds, g, rfl⟩
    · show go (.keep b a) [78] = _
      show (Fm.keep b a).both (.cr 0 0 1) = _
      rw [st_kN h2, ← h5]
      rfl
    · rw [List.concat_eq_append] at h4 h5 ⊢
      have hg : 2 ≤ g := h4 g (by simp)
      rw [drop_snoc, go_app]
      show go (go (go ((Fm.keep b a).both (.lf 0 0 1 0)) (segs ds)) (List.replicate (g - 1) 85)) [78] = _
      rw [st_kM h2, go_segs ds (one fun x hx => h4 x (List.mem_append_left _ hx)), go_lU _ (by decide)]
      show (Fm.lf b a _ _).both (.cr 0 0 1) = _
      rw [st_lN (by omega), ← h5, pr_snoc]
      congr 1
      rw [Int.one_mul, Int.natCast_mul]
      congr 1
      omega
theorem segs_len : ∀ {gs : List Nat}, (∀ g ∈ gs, 1 ≤ g) → (segs gs).length = gs.sum
  | [], _ => rfl
  | g :: gs, h => by
    have hg := h g (List.mem_cons_self ..)
    have ih := segs_len fun x hx => h x (List.mem_cons_of_mem _ hx)
    show (seg g ++ segs gs).length = _
    rw [List.length_append, ih, List.sum_cons]
    unfold seg
    rw [List.length_append, List.length_replicate]
    show g - 1 + 1 + _ = _
    omega
theorem start_len {b a : Int} (hb : 0 ≤ b) (ha : 0 ≤ a) : ((startL b a).length : Int) = b + a := by
  unfold startL
  rw [List.length_append, List.length_replicate, List.length_replicate]
  omega
theorem shc_len {f : Fm} {gs : List Nat} (h : Fac f gs) : ((shc f gs).length : Int) = stepsF f gs := by
  have one : ∀ {l : List Nat}, (∀ g ∈ l, 2 ≤ g) → ∀ g ∈ l, 1 ≤ g := fun h g hg => by have := h g hg; omega
  cases f with
  | keep b a => exact start_len h.1 h.2
  | lf b a k c =>
    obtain ⟨h1, h2, h3, h4, h5⟩ := h
    have e1 := start_len h1 h2
    have e2 := segs_len (one h4)
    unfold shc
    rw [List.length_append, List.length_append, List.length_cons, List.length_replicate]
    show _ = b + a + 1 + (gs.sum : Int) + c
    omega
  | cr b a k =>
    obtain ⟨h1, h2, h4, h5⟩ := h
    have e1 := start_len h1 h2
    have e2 := segs_len (one h4)
    unfold shc
    rw [List.length_append, List.length_append, List.length_dropLast, List.length_cons]
    show ((((startL b a).length + ((segs gs).length + 1 - 1) + 1 : Nat)) : Int) = b + a + 1 + (gs.sum : Int)
    omega
theorem seg_ok {p c : Nat} (h : c ∈ seg p) : c = 85 ∨ c = 77 := by
  unfold seg at h
  rcases List.mem_append.mp h with h | h
  · exact .inl (List.mem_replicate.mp h).2
  · exact .inr (List.mem_singleton.mp h)
theorem segs_ok {gs : List Nat} {c : Nat} (h : c ∈ 77 :: segs gs) : c = 85 ∨ c = 77 := by
  rcases List.mem_cons.mp h with h | h
  · exact .inr h
  · obtain ⟨g, _, hg⟩ := List.mem_flatMap.mp h
    exact seg_ok hg
theorem start_ok {b a : Int} {c : Nat} (h : c ∈ startL b a) : c = 68 ∨ c = 85 := by
  unfold startL at h
  rcases List.mem_append.mp h with h | h
  · exact .inl (List.mem_replicate.mp h).2
  · exact .inr (List.mem_replicate.mp h).2
theorem steps_list : steps.cps.toList = [85, 68, 77, 78] := by decide
theorem shc_ok {f : Fm} {gs : List Nat} : ∀ c ∈ shc f gs, c ∈ steps.cps.toList := fun c h => by
  rw [steps_list]
  simp only [List.mem_cons, List.not_mem_nil, or_false]
  cases f with
  | keep b a => rcases start_ok h with h | h <;> omega
  | lf b a k d =>
    unfold shc at h
    rcases List.mem_append.mp h with h | h
    · rcases List.mem_append.mp h with h | h
      · rcases start_ok h with h | h <;> omega
      · rcases segs_ok h with h | h <;> omega
    · have := (List.mem_replicate.mp h).2
      omega
  | cr b a k =>
    unfold shc at h
    rcases List.mem_append.mp h with h | h
    · rcases List.mem_append.mp h with h | h
      · rcases start_ok h with h | h <;> omega
      · rcases segs_ok (List.dropLast_subset _ h) with h | h <;> omega
    · have := List.mem_singleton.mp h
      omega
/-- a form of at most n steps has a chain -/
theorem low_chain {f : Fm} {n : Nat} (h : LowB f n) : ∃ cs : List Nat, (∀ c ∈ cs, c ∈ steps.cps.toList) ∧ cs.length ≤ n ∧ formL cs = f := by
  have main : ∀ gs, Fac f gs → stepsF f gs ≤ n → ∃ cs : List Nat, (∀ c ∈ cs, c ∈ steps.cps.toList) ∧ cs.length ≤ n ∧ formL cs = f := fun gs hf hs =>
    ⟨shc f gs, shc_ok, by have := shc_len hf; omega, shc_form hf⟩
  cases f with
  | keep b a => exact main [] ⟨h.1, h.2.1⟩ h.2.2
  | lf b a k c =>
    obtain ⟨h1, h2, h3, gs, h4, h5, h6⟩ := h
    exact main gs ⟨h1, h2, h3, h4, h5⟩ h6
  | cr b a k =>
    obtain ⟨h1, h2, gs, h4, h5, h6⟩ := h
    exact main gs ⟨h1, h2, h4, h5⟩ h6
theorem low_mono {f : Fm} {n m : Nat} (h : LowB f n) (k : n ≤ m) : LowB f m := by
  cases f with
  | keep b a => exact ⟨h.1, h.2.1, by have := h.2.2; omega⟩
  | lf b a k' c =>
    obtain ⟨h1, h2, h3, gs, h4, h5, h6⟩ := h
    exact ⟨h1, h2, h3, gs, h4, h5, by omega⟩
  | cr b a k' =>
    obtain ⟨h1, h2, gs, h4, h5, h6⟩ := h
    exact ⟨h1, h2, gs, h4, h5, by omega⟩
theorem low_both {f g : Fm} {n m : Nat} (hf : LowB f n) (hg : LowB g m) (hn : n + m ≤ 7000) : LowB (f.both g) (n + m) := by
  obtain ⟨cs, c1, c2, rfl⟩ := low_chain hf
  obtain ⟨ds, d1, d2, rfl⟩ := low_chain hg
  have e : ∀ {l : List Nat}, (∀ c ∈ l, c ∈ steps.cps.toList) → ChOk ⟨l.toArray⟩ := fun h => h
  have := formOf_app (x := ⟨cs.toArray⟩) (y := ⟨ds.toArray⟩) (e c1) (e d1) (by show cs.length + ds.length ≤ 7000; omega)
  have h2 : formOf ((⟨cs.toArray⟩ : Str) ++ ⟨ds.toArray⟩) = formL (cs ++ ds) := by
    show formL (cs.toArray ++ ds.toArray).toList = _
    rw [Array.toList_append]
  have h3 : formL (cs ++ ds) = (formL cs).both (formL ds) := h2.symm.trans this
  rw [← h3]
  exact low_mono (low_form _ (cs ++ ds) rfl fun c hc => by
    rcases List.mem_append.mp hc with h | h
    · exact c1 c h
    · exact d1 c h) (by rw [List.length_append]; omega)
end Lw
namespace Lw
open PySem PySem.Spec L2 Lx
/-! ### the prime factors in ascending order -/
structure IsPf (k : Nat) (fs : List Nat) : Prop where
  pm : ∀ p ∈ fs, Pm p
  prod : pr fs = k
  up : fs.Pairwise (· ≤ ·)
theorem Pm.eq {p q : Nat} (hp : Pm p) (hq : Pm q) (h : p ∣ q) : p = q := by
  rcases hq.2 p h with h1 | h1
  · have := hp.1; omega
  · exact h1
theorem Pm.mem {p : Nat} (hp : Pm p) {fs : List Nat} (hf : ∀ q ∈ fs, Pm q) (h : p ∣ pr fs) : p ∈ fs := by
  obtain ⟨a, g, b, rfl, hg⟩ := hp.dvd_pr h
  have := hp.eq (hf g (by simp)) hg
  subst this
  simp
theorem IsPf.uniq : ∀ {fs gs : List Nat} {k : Nat}, IsPf k fs → IsPf k gs → fs = gs
  | [], [], _, _, _ => rfl
  | [], g :: gs, k, hf, hg => by
    have h1 := (hg.pm g (List.mem_cons_self ..)).1
    have h2 : g * pr gs = 1 := hg.prod.trans hf.prod.symm
    have h3 := pr_pos fun x hx => (hg.pm x (List.mem_cons_of_mem _ hx)).1
    have := Nat.mul_le_mul h1 h3
    omega
  | f :: fs, [], k, hf, hg => by
    have h1 := (hf.pm f (List.mem_cons_self ..)).1
    have h2 : f * pr fs = 1 := hf.prod.trans hg.prod.symm
    have h3 := pr_pos fun x hx => (hf.pm x (List.mem_cons_of_mem _ hx)).1
    have := Nat.mul_le_mul h1 h3
    omega
  | f :: fs, g :: gs, k, hf, hg => by
    have pf := hf.pm f (List.mem_cons_self ..)
    have pg := hg.pm g (List.mem_cons_self ..)
    have e : pr (f :: fs) = pr (g :: gs) := hf.prod.trans hg.prod.symm
    have m1 := pf.mem hg.pm (by rw [← e]; exact ⟨pr fs, rfl⟩)
    have m2 := pg.mem hf.pm (by rw [e]; exact ⟨pr gs, rfl⟩)
    have le1 : g ≤ f := by
      rcases List.mem_cons.mp m1 with h | h
      · omega
      · exact (List.pairwise_cons.mp hg.up).1 f h
    have le2 : f ≤ g := by
      rcases List.mem_cons.mp m2 with h | h
      · omega
      · exact (List.pairwise_cons.mp hf.up).1 g h
    have : f = g := by omega
    subst this
    have e2 : pr fs = pr gs := Nat.eq_of_mul_eq_mul_left (by have := pf.1; omega) e
    have := IsPf.uniq (fs := fs) (gs := gs) (k := pr gs) ⟨fun p h => hf.pm p (List.mem_cons_of_mem _ h), e2, (List.pairwise_cons.mp hf.up).2⟩ ⟨fun p h => hg.pm p (List.mem_cons_of_mem _ h), rfl, (List.pairwise_cons.mp hg.up).2⟩
    rw [this]
/-! ### forms between two forms -/
def wba : Fm → Int → Int → Fm
  | .keep _ _, b, a => .keep b a
  | .lf _ _ k c, b, a => .lf b a k c
  | .cr _ _ k, b, a => .cr b a k
def ch1 (j w : Int) : Int := if j - w > 0 then j - w else 0
def btw (dv : Int → List Int) : Fm → Fm → List Fm
  | .keep b a, g => if g.b < b then [] else if g.b > b then [wba g (a + g.b - b) g.a] else [wba g (ch1 a g.a) (ch1 g.a a)]
  | .lf _ _ _ _, .keep _ _ => []
  | .cr _ _ _, .keep _ _ => []
  | .lf b a k c, .lf b' a' k' c' => if b = b' ∧ a = a' ∧ k'.fmod k = 0 then (if k' / k = 1 then [.keep (ch1 c c') (ch1 c' c)] else (dv (k' / k)).map fun u => .lf (ch1 c (u - 1)) (ch1 (u - 1) c) (k' / k / u) c') else []
  | .lf b a k c, .cr b' a' k' => if b = b' ∧ a = a' ∧ k'.fmod k = 0 then (dv (k' / k)).map fun u => .cr (ch1 c (u - 1)) (ch1 (u - 1) c) (k' / k / u) else []
  | .cr b a k, .cr b' a' k' => if b = b' ∧ a = a' ∧ k'.fmod k = 0 then (if k' / k = 1 then [.keep 0 0] else [.cr 0 0 (k' / k)]) else []
  | .cr b a k, .lf b' a' k' c' => if b = b' ∧ a = a' ∧ k'.fmod k = 0 then [.lf 0 0 (k' / k) c'] else []
theorem btw_k {dv : Int → List Int} {b a : Int} {g : Fm} : btw dv (.keep b a) g = if g.b < b then [] else if g.b > b then [wba g (a + g.b - b) g.a] else [wba g (ch1 a g.a) (ch1 g.a a)] := by cases g <;> rfl
theorem btw_ll {dv : Int → List Int} {b a k c b' a' k' c' : Int} : btw dv (.lf b a k c) (.lf b' a' k' c') = if b = b' ∧ a = a' ∧ k'.fmod k = 0 then (if k' / k = 1 then [.keep (ch1 c c') (ch1 c' c)] else (dv (k' / k)).map fun u => .lf (ch1 c (u - 1)) (ch1 (u - 1) c) (k' / k / u) c') else [] := rfl
theorem btw_lc {dv : Int → List Int} {b a k c b' a' k' : Int} : btw dv (.lf b a k c) (.cr b' a' k') = if b = b' ∧ a = a' ∧ k'.fmod k = 0 then (dv (k' / k)).map fun u => .cr (ch1 c (u - 1)) (ch1 (u - 1) c) (k' / k / u) else [] := rfl
theorem btw_cc {dv : Int → List Int} {b a k b' a' k' : Int} : btw dv (.cr b a k) (.cr b' a' k') = if b = b' ∧ a = a' ∧ k'.fmod k = 0 then (if k' / k = 1 then [.keep 0 0] else [.cr 0 0 (k' / k)]) else [] := rfl
theorem btw_cl {dv : Int → List Int} {b a k b' a' k' c' : Int} : btw dv (.cr b a k) (.lf b' a' k' c') = if b = b' ∧ a = a' ∧ k'.fmod k = 0 then [.lf 0 0 (k' / k) c'] else [] := rfl
/-- numbers that are not negative, k positive -/
def NN : Fm → Prop
  | .keep b a => 0 ≤ b ∧ 0 ≤ a
  | .lf b a k c => 0 ≤ b ∧ 0 ≤ a ∧ 0 < k ∧ 0 ≤ c
  | .cr b a k => 0 ≤ b ∧ 0 ≤ a ∧ 0 < k
theorem low_nn {f : Fm} {n : Nat} (h : LowB f n) : NN f := by
  cases f with
  | keep b a => exact ⟨h.1, h.2.1⟩
  | lf b a k c =>
    obtain ⟨h1, h2, h3, gs, h4, h5, h6⟩ := h
    exact ⟨h1, h2, by have := pr_pos h4; omega, h3⟩
  | cr b a k =>
    obtain ⟨h1, h2, gs, h4, h5, h6⟩ := h
    exact ⟨h1, h2, by have := pr_pos h4; omega⟩
theorem ch1_le {j w : Int} : 0 ≤ ch1 j w ∧ (j ≤ w → ch1 j w = 0) ∧ (w ≤ j → ch1 j w = j - w) := by
  unfold ch1
  refine ⟨by split <;> omega, fun h => by split <;> omega, fun h => by split <;> omega⟩
theorem mul_div_l {k x : Int} (h : 0 < k) : k * x / k = x := Int.mul_ediv_cancel_left x (by omega)
theorem fmod_l {k x : Int} (h : 0 < k) : (k * x).fmod k = 0 := by
  rw [Int.fmod_eq_emod_of_nonneg _ (Int.le_of_lt h)]
  exact Int.mul_emod_right k x
/-- after c: what a form makes of the returns -/
theorem aft_lf {hb ha k d c : Int} : Fm.after (.lf hb ha k d) c = (if c - hb > 0 then c - hb else 0) + ha := rfl
theorem aft_cr {hb ha k c : Int} : Fm.after (.cr hb ha k) c = (if c - hb > 0 then c - hb else 0) + ha := rfl
/-- to every form that leads from f to g there is one of the list with as few steps -/
theorem btw_min {dv : Int → List Int} (hdv : ∀ q u : Int, 0 < u → 0 < q → u ∣ q → u ∈ dv q) {f h : Fm} {n : Nat} (hf : NN f) (hh : LowB h n) : ∃ w ∈ btw dv f (f.both h), LowB w n := by
  cases f with
  | keep b a =>
    obtain ⟨f1, f2⟩ := hf
    have eb : ((Fm.keep b a).both h).b = b + ch1 h.b a := by cases h <;> rfl
    have ea : ((Fm.keep b a).both h).a = ch1 a h.b + h.a := by cases h <;> rfl
    have ew : ∀ t p, wba ((Fm.keep b a).both h) t p = wba h t p := fun t p => by cases h <;> rfl
    have hn := low_nn hh
    have h1 : 0 ≤ h.b ∧ 0 ≤ h.a := by cases h <;> exact ⟨hn.1, by first | exact hn.2 | exact hn.2.1⟩
    have fin : ∀ t p : Int, 0 ≤ t → 0 ≤ p → t + p ≤ h.b + h.a → LowB (wba h t p) n := fun t p t0 p0 hs => by
      cases h with
      | keep hb' ha' => exact ⟨t0, p0, by have := hh.2.2; have hs' : t + p ≤ hb' + ha' := hs; omega⟩
      | lf hb' ha' k c =>
        obtain ⟨q1, q2, q3, gs, q4, q5, q6⟩ := hh
        have hs' : t + p ≤ hb' + ha' := hs
        exact ⟨t0, p0, q3, gs, q4, q5, by omega⟩
      | cr hb' ha' k =>
        obtain ⟨q1, q2, gs, q4, q5, q6⟩ := hh
        have hs' : t + p ≤ hb' + ha' := hs
        exact ⟨t0, p0, gs, q4, q5, by omega⟩
    obtain ⟨c0, c1, c2⟩ := @ch1_le h.b a
    obtain ⟨d0, d1, d2⟩ := @ch1_le a h.b
    rw [btw_k]
    rw [eb, ea, if_neg (by omega)]
    by_cases hc : h.b > a
    · have e1 := c2 (by omega)
      have e2 := d1 (by omega)
      rw [if_pos (by omega)]
      refine ⟨_, List.mem_singleton.mpr rfl, ?_⟩
      rw [ew]
      exact fin _ _ (by omega) (by omega) (by omega)
    · have e1 := c1 (by omega)
      have e2 := d2 (by omega)
      rw [if_neg (by omega)]
      refine ⟨_, List.mem_singleton.mpr rfl, ?_⟩
      rw [ew, e2]
      unfold ch1
      exact fin _ _ (by split <;> omega) (by split <;> omega) (by split <;> split <;> omega)
  | lf b a k c =>
    obtain ⟨f1, f2, f3, f4⟩ := hf
    cases h with
    | keep hb ha =>
      obtain ⟨q1, q2, q3⟩ := hh
      have e : (Fm.lf b a k c).both (.keep hb ha) = .lf b a k ((if c - hb > 0 then c - hb else 0) + ha) := rfl
      rw [e]
      rw [btw_ll]
      have e2 : k / k = 1 := Int.ediv_self (by omega)
      have e3 : k.fmod k = 0 := by have := fmod_l (x := 1) f3; rwa [Int.mul_one] at this
      rw [if_pos ⟨rfl, rfl, e3⟩, if_pos e2]
      refine ⟨_, List.mem_singleton.mpr rfl, ?_⟩
      unfold ch1
      exact ⟨by split <;> split <;> omega, by split <;> split <;> omega, by split <;> split <;> split <;> omega⟩
    | lf hb ha hk hc =>
      obtain ⟨q1, q2, q3, gs, q4, q5, q6⟩ := hh
      have hk0 : 0 < hk := by have := pr_pos q4; omega
      have hu0 : 0 ≤ (if c - hb > 0 then c - hb else 0) + ha := by split <;> omega
      have e : (Fm.lf b a k c).both (.lf hb ha hk hc) = .lf b a (k * ((if c - hb > 0 then c - hb else 0) + ha + 1) * hk) hc := rfl
      rw [e]
      generalize hu : (if c - hb > 0 then c - hb else 0) + ha = u at hu0
      rw [btw_ll]
      rw [Int.mul_assoc, if_pos ⟨rfl, rfl, fmod_l f3⟩, mul_div_l f3]
      by_cases hq : (u + 1) * hk = 1
      · rw [if_pos hq]
        refine ⟨_, List.mem_singleton.mpr rfl, ?_⟩
        have hu1 : u = 0 := by
          have : (u + 1) * 1 ≤ (u + 1) * hk := Int.mul_le_mul_of_nonneg_left (by omega) (by omega)
          omega
        unfold ch1
        refine ⟨by split <;> omega, by split <;> omega, ?_⟩
        split at hu <;> split <;> split <;> omega
      · rw [if_neg hq]
        refine ⟨_, List.mem_map.mpr ⟨u + 1, hdv _ _ (by omega) (Int.mul_pos (by omega) hk0) ⟨hk, rfl⟩, rfl⟩, ?_⟩
        rw [mul_div_l (by omega)]
        unfold ch1
        refine ⟨by split <;> omega, by split <;> omega, q3, gs, q4, q5, ?_⟩
        split at hu <;> split <;> split <;> omega
    | cr hb ha hk =>
      obtain ⟨q1, q2, gs, q4, q5, q6⟩ := hh
      have hk0 : 0 < hk := by have := pr_pos q4; omega
      have hu0 : 0 ≤ (if c - hb > 0 then c - hb else 0) + ha := by split <;> omega
      have e : (Fm.lf b a k c).both (.cr hb ha hk) = .cr b a (k * ((if c - hb > 0 then c - hb else 0) + ha + 1) * hk) := rfl
      rw [e]
      generalize hu : (if c - hb > 0 then c - hb else 0) + ha = u at hu0
      rw [btw_lc]
      rw [Int.mul_assoc, if_pos ⟨rfl, rfl, fmod_l f3⟩, mul_div_l f3]
      refine ⟨_, List.mem_map.mpr ⟨u + 1, hdv _ _ (by omega) (Int.mul_pos (by omega) hk0) ⟨hk, rfl⟩, rfl⟩, ?_⟩
      rw [mul_div_l (by omega)]
      unfold ch1
      refine ⟨by split <;> omega, by split <;> omega, gs, q4, q5, ?_⟩
      split at hu <;> split <;> split <;> omega
  | cr b a k =>
    obtain ⟨f1, f2, f3⟩ := hf
    cases h with
    | keep hb ha =>
      have e : (Fm.cr b a k).both (.keep hb ha) = .cr b a k := rfl
      rw [e]
      rw [btw_cc]
      have e2 : k / k = 1 := Int.ediv_self (by omega)
      have e3 : k.fmod k = 0 := by have := fmod_l (x := 1) f3; rwa [Int.mul_one] at this
      rw [if_pos ⟨rfl, rfl, e3⟩, if_pos e2]
      exact ⟨_, List.mem_singleton.mpr rfl, by decide, by decide, by omega⟩
    | lf hb ha hk hc =>
      obtain ⟨q1, q2, q3, gs, q4, q5, q6⟩ := hh
      have e : (Fm.cr b a k).both (.lf hb ha hk hc) = .lf b a (k * 1 * hk) hc := rfl
      rw [e]
      rw [btw_cl]
      rw [Int.mul_one, if_pos ⟨rfl, rfl, fmod_l f3⟩, mul_div_l f3]
      exact ⟨_, List.mem_singleton.mpr rfl, by decide, by decide, q3, gs, q4, q5, by omega⟩
    | cr hb ha hk =>
      obtain ⟨q1, q2, gs, q4, q5, q6⟩ := hh
      have e : (Fm.cr b a k).both (.cr hb ha hk) = .cr b a (k * 1 * hk) := rfl
      rw [e]
      rw [btw_cc]
      rw [Int.mul_one, if_pos ⟨rfl, rfl, fmod_l f3⟩, mul_div_l f3]
      by_cases hq : hk = 1
      · rw [if_pos hq]
        exact ⟨_, List.mem_singleton.mpr rfl, by decide, by decide, by omega⟩
      · rw [if_neg hq]
        exact ⟨_, List.mem_singleton.mpr rfl, by decide, by decide, gs, q4, q5, by omega⟩
theorem pos_r {a b : Int} (ha : 0 < a) (h : 0 < a * b) : 0 < b := by
  rcases Int.lt_or_le 0 b with h1 | h1
  · exact h1
  · have := Int.mul_le_mul_of_nonneg_left h1 (Int.le_of_lt ha)
    rw [Int.mul_zero] at this
    omega
theorem fmod_mul {k k' : Int} (hk : 0 < k) (h : k'.fmod k = 0) : k * (k' / k) = k' := by
  rw [Int.fmod_eq_emod_of_nonneg _ (Int.le_of_lt hk)] at h
  exact Int.mul_ediv_cancel' (Int.dvd_of_emod_eq_zero h)
/-- every form of the list leads from f to g -/
theorem btw_leads {dv : Int → List Int} (hdv : ∀ q u : Int, 0 < q → u ∈ dv q → 0 < u ∧ u ∣ q) {f g w : Fm} (hf : NN f) (hg : NN g) (hw : w ∈ btw dv f g) : f.both w = g ∧ NN w := by
  cases f with
  | keep b a =>
    obtain ⟨f1, f2⟩ := hf
    rw [btw_k] at hw
    have g1 : 0 ≤ g.b ∧ 0 ≤ g.a := by cases g <;> exact ⟨hg.1, by first | exact hg.2 | exact hg.2.1⟩
    have nw : ∀ t p : Int, 0 ≤ t → 0 ≤ p → NN (wba g t p) := fun t p t0 p0 => by
      cases g with
      | keep => exact ⟨t0, p0⟩
      | lf => exact ⟨t0, p0, hg.2.2.1, hg.2.2.2⟩
      | cr => exact ⟨t0, p0, hg.2.2⟩
    have ew : ∀ t p : Int, b + (if t - a > 0 then t - a else 0) = g.b → (if a - t > 0 then a - t else 0) + p = g.a → (Fm.keep b a).both (wba g t p) = g := fun t p e1 e2 => by
      cases g with
      | keep b' a' =>
        show Fm.keep (b + (if t - a > 0 then t - a else 0)) ((if a - t > 0 then a - t else 0) + p) = _
        rw [e1, e2]
        rfl
      | lf b' a' k c =>
        show Fm.lf (b + (if t - a > 0 then t - a else 0)) ((if a - t > 0 then a - t else 0) + p) k c = _
        rw [e1, e2]
        rfl
      | cr b' a' k =>
        show Fm.cr (b + (if t - a > 0 then t - a else 0)) ((if a - t > 0 then a - t else 0) + p) k = _
        rw [e1, e2]
        rfl
    split at hw
    · cases hw
    · split at hw
      · rw [List.mem_singleton.mp hw]
        exact ⟨ew _ _ (by split <;> omega) (by split <;> omega), nw _ _ (by omega) (by omega)⟩
      · rw [List.mem_singleton.mp hw]
        unfold ch1
        exact ⟨ew _ _ (by split <;> split <;> omega) (by split <;> split <;> split <;> omega), nw _ _ (by split <;> omega) (by split <;> omega)⟩
  | lf b a k c =>
    obtain ⟨f1, f2, f3, f4⟩ := hf
    have eu : ∀ u : Int, 0 < u → (if c - ch1 c (u - 1) > 0 then c - ch1 c (u - 1) else 0) + ch1 (u - 1) c + 1 = u := fun u hu => by
      unfold ch1
      split <;> split <;> split <;> omega
    have n1 : ∀ x y : Int, 0 ≤ ch1 x y := fun x y => ch1_le.1
    cases g with
    | keep b' a' => cases hw
    | lf b' a' k' c' =>
      obtain ⟨g1, g2, g3, g4⟩ := hg
      rw [btw_ll] at hw
      split at hw
      · rename_i hc
        obtain ⟨rfl, rfl, hk⟩ := hc
        have ek := fmod_mul f3 hk
        split at hw
        · rename_i hq
          rw [hq, Int.mul_one] at ek
          subst ek
          rw [List.mem_singleton.mp hw]
          refine ⟨?_, n1 _ _, n1 _ _⟩
          show Fm.lf b a k ((if c - ch1 c c' > 0 then c - ch1 c c' else 0) + ch1 c' c) = _
          congr 1
          unfold ch1
          split <;> split <;> split <;> omega
        · obtain ⟨u, hu, rfl⟩ := List.mem_map.mp hw
          have q0 : 0 < k' / k := by
            rw [← ek] at g3
            exact pos_r f3 g3
          obtain ⟨u0, x, hx⟩ := hdv _ u q0 hu
          have x0 : 0 < x := by
            rw [hx] at q0
            exact pos_r u0 q0
          rw [hx, mul_div_l u0]
          refine ⟨?_, n1 _ _, n1 _ _, x0, g4⟩
          show Fm.lf b a (k * ((if c - ch1 c (u - 1) > 0 then c - ch1 c (u - 1) else 0) + ch1 (u - 1) c + 1) * x) c' = _
          rw [eu u u0, Int.mul_assoc, ← hx, ek]
      · cases hw
    | cr b' a' k' =>
      obtain ⟨g1, g2, g3⟩ := hg
      rw [btw_lc] at hw
      split at hw
      · rename_i hc
        obtain ⟨rfl, rfl, hk⟩ := hc
        have ek := fmod_mul f3 hk
        obtain ⟨u, hu, rfl⟩ := List.mem_map.mp hw
        have q0 : 0 < k' / k := by
          rw [← ek] at g3
          exact pos_r f3 g3
        obtain ⟨u0, x, hx⟩ := hdv _ u q0 hu
        have x0 : 0 < x := by
          rw [hx] at q0
          exact pos_r u0 q0
        rw [hx, mul_div_l u0]
        refine ⟨?_, n1 _ _, n1 _ _, x0⟩
        show Fm.cr b a (k * ((if c - ch1 c (u - 1) > 0 then c - ch1 c (u - 1) else 0) + ch1 (u - 1) c + 1) * x) = _
        rw [eu u u0, Int.mul_assoc, ← hx, ek]
      · cases hw
  | cr b a k =>
    obtain ⟨f1, f2, f3⟩ := hf
    cases g with
    | keep b' a' => cases hw
    | lf b' a' k' c' =>
      obtain ⟨g1, g2, g3, g4⟩ := hg
      rw [btw_cl] at hw
      split at hw
      · rename_i hc
        obtain ⟨rfl, rfl, hk⟩ := hc
        have ek := fmod_mul f3 hk
        have q0 : 0 < k' / k := by
          rw [← ek] at g3
          exact pos_r f3 g3
        rw [List.mem_singleton.mp hw]
        refine ⟨?_, by decide, by decide, q0, g4⟩
        show Fm.lf b a (k * 1 * (k' / k)) c' = _
        rw [Int.mul_one, ek]
      · cases hw
    | cr b' a' k' =>
      obtain ⟨g1, g2, g3⟩ := hg
      rw [btw_cc] at hw
      split at hw
      · rename_i hc
        obtain ⟨rfl, rfl, hk⟩ := hc
        have ek := fmod_mul f3 hk
        have q0 : 0 < k' / k := by
          rw [← ek] at g3
          exact pos_r f3 g3
        split at hw
        · rename_i hq
          rw [hq, Int.mul_one] at ek
          subst ek
          rw [List.mem_singleton.mp hw]
          exact ⟨rfl, by decide, by decide⟩
        · rw [List.mem_singleton.mp hw]
          refine ⟨?_, by decide, by decide, q0⟩
          show Fm.cr b a (k * 1 * (k' / k)) = _
          rw [Int.mul_one, ek]
      · cases hw
end Lw
namespace Lw
open PySem PySem.Spec L2 Lx
/-! ### trial division -/
structure PfSt (k0 kk d : Nat) (fs : List Nat) : Prop where
  prod : pr fs * kk = k0
  pos : 1 ≤ kk
  pm : ∀ p ∈ fs, Pm p
  up : fs.Pairwise (· ≤ ·)
  le : ∀ p ∈ fs, p ≤ d
  two : 2 ≤ d
  rough : ∀ e, 2 ≤ e → e < d → ¬ e ∣ kk
  par : d = 2 ∨ d % 2 = 1
theorem pw_snoc {fs : List Nat} {x : Nat} (h : fs.Pairwise (· ≤ ·)) (hx : ∀ p ∈ fs, p ≤ x) : (fs ++ [x]).Pairwise (· ≤ ·) :=
  List.pairwise_append.mpr ⟨h, List.pairwise_singleton _ _, fun a ha b hb => by rw [List.mem_singleton.mp hb]; exact hx a ha⟩
theorem PfSt.prime {k0 kk d : Nat} {fs : List Nat} (s : PfSt k0 kk d fs) (h : d ∣ kk) : Pm d := by
  refine ⟨s.two, fun e he => ?_⟩
  have hd := s.two
  have hle := Nat.le_of_dvd (by omega) he
  by_cases h1 : e = 1
  · exact .inl h1
  · by_cases h2 : e = d
    · exact .inr h2
    · have h0 : e ≠ 0 := fun z => by
        rw [z] at he
        have := Nat.eq_zero_of_zero_dvd he
        omega
      exact absurd (Nat.dvd_trans he h) (s.rough e (by omega) (by omega))
theorem PfSt.take {k0 kk d : Nat} {fs : List Nat} (s : PfSt k0 kk d fs) (h : d ∣ kk) : PfSt k0 (kk / d) d (fs ++ [d]) := by
  have hm : d * (kk / d) = kk := Nat.mul_div_cancel' h
  have hp := s.pos
  refine ⟨?_, ?_, fun p hp => ?_, pw_snoc s.up s.le, fun p hp => ?_, s.two, fun e h1 h2 h3 => s.rough e h1 h2 (Nat.dvd_trans h3 ⟨d, by rw [Nat.mul_comm]; exact hm.symm⟩), s.par⟩
  · rw [pr_snoc, Nat.mul_assoc, hm]
    exact s.prod
  · refine Nat.pos_of_ne_zero fun z => ?_
    rw [z, Nat.mul_zero] at hm
    omega
  · rcases List.mem_append.mp hp with h1 | h1
    · exact s.pm p h1
    · rw [List.mem_singleton.mp h1]; exact s.prime h
  · rcases List.mem_append.mp hp with h1 | h1
    · exact s.le p h1
    · rw [List.mem_singleton.mp h1]; exact Nat.le_refl _
theorem PfSt.next {k0 kk d : Nat} {fs : List Nat} (s : PfSt k0 kk d fs) (h : ¬ d ∣ kk) : PfSt k0 kk (if d = 2 then d + 1 else d + 2) fs := by
  have hd := s.two
  by_cases h2 : d = 2
  · subst h2
    rw [if_pos rfl]
    refine ⟨s.prod, s.pos, s.pm, s.up, fun p hp => by have := s.le p hp; omega, by decide, fun e h1 h3 => ?_, .inr (by decide)⟩
    have : e = 2 := by omega
    rw [this]
    exact h
  · rw [if_neg h2]
    have hodd : d % 2 = 1 := by rcases s.par with q | q <;> omega
    refine ⟨s.prod, s.pos, s.pm, s.up, fun p hp => by have := s.le p hp; omega, by omega, fun e h1 h3 he => ?_, .inr (by omega)⟩
    by_cases e1 : e < d
    · exact s.rough e h1 e1 he
    · by_cases e2 : e = d
      · subst e2; exact h he
      · have e3 : e = d + 1 := by omega
        have : 2 ∣ e := Nat.dvd_of_mod_eq_zero (by omega)
        exact s.rough 2 (by decide) (by omega) (Nat.dvd_trans this he)
theorem PfSt.last {k0 kk d : Nat} {fs : List Nat} (s : PfSt k0 kk d fs) (h : kk < d * d) (h1 : 1 < kk) : IsPf k0 (fs ++ [kk]) := by
  have hge : d ≤ kk := Nat.le_of_not_lt fun z => s.rough kk h1 z (Nat.dvd_refl _)
  have hd := s.two
  refine ⟨fun p hp => ?_, by rw [pr_snoc]; exact s.prod, pw_snoc s.up fun p hp => Nat.le_trans (s.le p hp) hge⟩
  rcases List.mem_append.mp hp with q | q
  · exact s.pm p q
  · rw [List.mem_singleton.mp q]
    refine ⟨h1, fun e he => ?_⟩
    obtain ⟨x, hx⟩ := he
    by_cases q1 : e = 1
    · exact .inl q1
    · by_cases q2 : e = kk
      · exact .inr q2
      · have e0 : e ≠ 0 := fun z => by rw [z, Nat.zero_mul] at hx; omega
        have x0 : x ≠ 0 := fun z => by rw [z, Nat.mul_zero] at hx; omega
        have x1 : x ≠ 1 := fun z => q2 (by rw [z, Nat.mul_one] at hx; exact hx.symm)
        have a1 : d ≤ e := Nat.le_of_not_lt fun z => s.rough e (by omega) z ⟨x, hx⟩
        have a2 : d ≤ x := Nat.le_of_not_lt fun z => s.rough x (by omega) z ⟨e, by rw [Nat.mul_comm]; exact hx⟩
        have := Nat.mul_le_mul a1 a2
        omega
theorem PfSt.end_ {k0 kk d : Nat} {fs : List Nat} (s : PfSt k0 kk d fs) (h1 : ¬ 1 < kk) : IsPf k0 fs := by
  have := s.pos
  have e : kk = 1 := by omega
  refine ⟨s.pm, ?_, s.up⟩
  have := s.prod
  rw [e, Nat.mul_one] at this
  exact this
theorem PfSt.start {k0 : Nat} (h : 1 ≤ k0) : PfSt k0 k0 2 [] := ⟨Nat.one_mul _, h, (fun p h => by cases h), List.Pairwise.nil, (fun p h => by cases h), by decide, fun e h1 h2 => by omega, .inl rfl⟩
theorem pr_two : ∀ {fs : List Nat}, (∀ p ∈ fs, Pm p) → 2 ^ fs.length ≤ pr fs
  | [], _ => Nat.le_refl _
  | p :: fs, h => by
    have h1 := (h p (List.mem_cons_self ..)).1
    have ih := pr_two fun x hx => h x (List.mem_cons_of_mem _ hx)
    show 2 ^ (fs.length + 1) ≤ p * pr fs
    rw [Nat.pow_succ, Nat.mul_comm]
    exact Nat.mul_le_mul h1 ih
theorem len_lt {fs : List Nat} {k0 n : Nat} (h : ∀ p ∈ fs, Pm p) (hp : pr fs ≤ k0) (hk : k0 < 2 ^ n) : fs.length < n := by
  have := pr_two h
  exact Nat.lt_of_not_le fun z => by
    have := Nat.pow_le_pow_right (show 0 < 2 by decide) z
    omega
end Lw
namespace Lw
open PySem PySem.Spec L2 Lx
theorem scPf : FnScope ["k", "factors", "divisor"] ["k"] (defScope sPrimeFactors) := ⟨rfl, rfl, rfl, by decide +kernel, rfl, by decide +kernel, by decide +kernel⟩
def natsV (fs : List Nat) : List V := fs.map fun n : Nat => V.int n
def spPf : Sp := fun vs H Q _ => ∃ k : Nat, vs = [.int k] ∧ 1 ≤ k ∧ k < 2 ^ 60 ∧ ∀ (p : Addr) (fs : List Nat) H', H p = none → Same H H' → H' p = some (.lst (natsV fs)) → IsPf k fs → Q (.ref p) H'
theorem sameOwnP {H H' : Hp} {p : Addr} {o : HO} (s : Same H H') (h : H p = none) : Same H (upd H' p o) := fun b u e => by
  rw [upd_ne (ne_of_none e h)]
  exact s b u e
section
variable {P : Program} {w : World} {K : PySem.W.Frag} {mg : Str → Option Value} {base : Heap}
theorem ok_pf {f : Addr} {fd : FuncData} {k : Nat} (F : Fun K "prime_factors" "prime_factors" sPrimeFactors f fd) : FnOk P w K mg base CX0 (k + 1) f fd ["k"] spPf := by
  refine F.ok scPf (fun vs H Q E h => ?_) (fun cdv A outer s H vs Q E hr h => ?_)
  · obtain ⟨k0, rfl, _⟩ := h
    rfl
  · obtain ⟨k0, rfl, hk1, hk2, q⟩ := h
    refine ⟨_, (pss_cons (ps_set (i := 1) scPf.nd rfl (.inl rfl) (pe_lst pa_nil))
      (pss_cons (ps_set (i := 2) scPf.nd rfl (.inl rfl) pe_int)
      (pss_cons (ps_while PassesOwn.never (pt_cmpR op_le (pe_op op_mulW (pv 2) (pv 2)) (pv 0) (nomark _))
          (pss_cons (ps_while PassesOwn.never (pt_cmpR op_eq (pe_op op_modN (pv 0) (pv 2)) pe_int (nomark _))
              (pss_cons (ps_expr (pe_bm PySem.F.plainAttrs_list PySem.F.slot_list_append PySem.F.type_list_append mt_append (pv 1) (pa_cons (pv 2) pa_nil)))
              (pss_one (ps_aug (i := 0) scPf.nd rfl (.inl rfl) (pv 2) iop_fdiv))))
          (pss_one (ps_aug (i := 2) scPf.nd rfl (.inl rfl) (pe_ifExp (pt_cmpR op_eq (pv 2) pe_int (nomark _)) pe_int pe_int) ip_add))))
      (pss_cons (ps_if (pt_cmpR op_gt (pv 0) pe_int (nomark _))
          (pss_one (ps_expr (pe_bm PySem.F.plainAttrs_list PySem.F.slot_list_append PySem.F.type_list_append mt_append (pv 1) (pa_cons (pv 0) pa_nil)))) pss_nil)
      (pss_one (ps_ret (pv 1))))))), ?_⟩
    have p60 : (2 : Nat) ^ 60 = 1152921504606846976 := by decide +kernel
    have small : ∀ {kk d : Nat} {fs : List Nat}, PfSt k0 kk d fs → kk ≤ k0 ∧ fs.length < 60 := fun st => by
      have h1 := st.prod
      have h2 := st.pos
      have h3 := pr_pos fun x hx => (st.pm x hx).1
      refine ⟨?_, len_lt st.pm ?_ hk2⟩
      · rw [← h1]; exact Nat.le_mul_of_pos_left _ h3
      · rw [← h1]; exact Nat.le_mul_of_pos_right _ h2
    refine ⟨Nat.zero_le _, fun L nL => ?_⟩
    refine while_fin (fun σ H' => ∃ (kk d : Nat) (fs : List Nat), σ = [some (.int kk), some (.ref L), some (.int d)] ∧ Same H H' ∧ H' L = some (.lst (natsV fs)) ∧ PfSt k0 kk d fs ∧ kk < d * d) (fun R hR => ?_) (fun σ H' hF => ?_)
    · refine ⟨fun mm σ H' => ∃ (kk d : Nat) (fs : List Nat), σ = [some (.int kk), some (.ref L), some (.int d)] ∧ Same H H' ∧ H' L = some (.lst (natsV fs)) ∧ PfSt k0 kk d fs ∧ d ≤ 1073741830 ∧ mm = 1073741830 - d, ⟨_, k0, 2, [], rfl, same_upd nL, upd_same, .start hk1, by decide, rfl⟩, ?_⟩
      rintro t σ H2 ⟨kk, d, fs, rfl, sm, hL, st, hd40, rfl⟩
      have hd2 := st.two
      refine ⟨_, rfl, _, rfl, _, _, rfl, rfl, wide_mul (a := 31) (b := 31) (by omega) (by omega) (by decide) (by decide) (by decide), _, rfl, _, _, rfl, rfl, _, rfl, ?_⟩
      by_cases hdd : d * d ≤ kk
      · have hd31 : d < 1073741824 := by
          refine Nat.lt_of_not_le fun h => ?_
          have : 1073741824 * 1073741824 ≤ d * d := Nat.mul_le_mul h h
          have := (small st).1
          omega
        rw [decide_eq_true (by have := Int.natCast_mul d d; omega : (d : Int) * (d : Int) ≤ (kk : Int))]
        have hd' : ∃ d' : Nat, d' = (if d = 2 then d + 1 else d + 2) := ⟨_, rfl⟩
        obtain ⟨d', hd'⟩ := hd'
        have hd1 : d < d' ∧ d' ≤ 1073741826 := by split at hd' <;> omega
        refine iteT ⟨fun σ' H' => ∃ (kk : Nat) (fs : List Nat), σ' = [some (.int kk), some (.ref L), some (.int d')] ∧ Same H H' ∧ H' L = some (.lst (natsV fs)) ∧ PfSt k0 kk d' fs,
          fun σ' H' ⟨kk, fs, h1, h2, h3, h4⟩ => ⟨1073741830 - d', by omega, kk, d', fs, h1, h2, h3, h4, by omega, rfl⟩, ?_⟩
        refine while_fin (fun σ H' => ∃ (kk : Nat) (fs : List Nat), σ = [some (.int kk), some (.ref L), some (.int d)] ∧ Same H H' ∧ H' L = some (.lst (natsV fs)) ∧ PfSt k0 kk d fs ∧ ¬ d ∣ kk) (fun R hR => ?_) (fun σ H' hF => ?_)
        · refine ⟨fun mm σ H' => ∃ (fs : List Nat), σ = [some (.int (mm : Nat)), some (.ref L), some (.int d)] ∧ Same H H' ∧ H' L = some (.lst (natsV fs)) ∧ PfSt k0 mm d fs, ⟨kk, fs, rfl, sm, hL, st⟩, ?_⟩
          rintro kk σ H3 ⟨fs, rfl, sm, hL, st⟩
          refine ⟨_, rfl, _, rfl, _, _, rfl, rfl, (by omega : (d : Int) ≠ 0), rfl, _, rfl, ?_⟩
          have hmod : ((kk : Nat) : Int).fmod (d : Int) = ((kk % d : Nat) : Int) := by
            rw [Int.fmod_eq_emod_of_nonneg _ (by omega)]
            exact (Int.natCast_emod kk d).symm
          show (if decide (V.int (((kk : Nat) : Int).fmod (d : Int)) = V.int 0) = true then _ else _)
          rw [hmod]
          by_cases hz : kk % d = 0
          · rw [decide_eq_true (by rw [hz]; rfl)]
            have hdv : d ∣ kk := Nat.dvd_of_mod_eq_zero hz
            have hlt : kk / d < kk := Nat.div_lt_self st.pos hd2
            refine iteT ⟨fun σ' H' => ∃ (fs : List Nat), σ' = [some (.int ((kk / d : Nat))), some (.ref L), some (.int d)] ∧ Same H H' ∧ H' L = some (.lst (natsV fs)) ∧ PfSt k0 (kk / d) d fs, fun σ' H' h => ⟨kk / d, hlt, h⟩, ?_⟩
            have hlen := (small st).2
            refine ⟨_, rfl, .inl ⟨rfl, _, .inl (.inl hL)⟩, _, rfl, L, _, _, rfl, rfl, hL, by unfold natsV; rw [List.length_map, sizeLine_eq]; omega, ?_⟩
            refine ⟨_, rfl, _, rfl, _, _, rfl, rfl, ⟨by omega, by omega⟩, ?_⟩
            refine ⟨fs ++ [d], ?_, sameOwnP sm nL, ?_, st.take hdv⟩
            · show [some (V.int ((kk : Int) / (d : Int))), _, _] = _
              rw [← Int.natCast_ediv]
            · rw [upd_same]
              unfold natsV
              rw [List.map_append]
              rfl
          · rw [decide_eq_false (fun e => hz (by have := V.int.inj e; omega))]
            exact iteF (hR _ _ ⟨kk, fs, rfl, sm, hL, st, fun z => hz (Nat.mod_eq_zero_of_dvd z)⟩)
        · obtain ⟨kk, fs, rfl, sm, hL, st, hnd⟩ := hF
          have sn := st.next hnd
          rw [← hd'] at sn
          refine ⟨_, rfl, ?_⟩
          refine ⟨_, rfl, rfl, _, rfl, ?_⟩
          by_cases h2 : d = 2
          · subst h2
            rw [if_pos rfl] at hd'
            subst hd'
            exact iteT ⟨_, _, rfl, rfl, kk, fs, rfl, sm, hL, sn⟩
          · rw [if_neg h2] at hd'
            subst hd'
            show (if decide (V.int (d : Int) = V.int 2) = true then _ else _)
            rw [decide_eq_false (fun e => h2 (by have := V.int.inj e; omega))]
            exact iteF ⟨_, _, rfl, rfl, kk, fs, rfl, sm, hL, sn⟩
      · rw [decide_eq_false (by have := Int.natCast_mul d d; omega : ¬ (d : Int) * (d : Int) ≤ (kk : Int))]
        exact iteF (hR _ _ ⟨kk, d, fs, rfl, sm, hL, st, by omega⟩)
    · obtain ⟨kk, d, fs, rfl, sm, hL, st, hlt⟩ := hF
      have hlen := (small st).2
      refine ⟨_, rfl, _, _, rfl, rfl, _, rfl, ?_⟩
      by_cases h1 : kk > 1
      · rw [decide_eq_true (by omega : (kk : Int) > 1)]
        refine iteT ⟨_, rfl, .inl ⟨rfl, _, .inl (.inl hL)⟩, _, rfl, L, _, _, rfl, rfl, hL, by unfold natsV; rw [List.length_map, sizeLine_eq]; omega, ?_⟩
        exact ⟨_, rfl, q L (fs ++ [kk]) _ nL (sameOwnP sm nL) (by rw [upd_same]; unfold natsV; rw [List.map_append]; rfl) (st.last hlt h1)⟩
      · rw [decide_eq_false (by omega : ¬ (kk : Int) > 1)]
        exact iteF ⟨_, rfl, q L fs _ nL sm hL (st.end_ h1)⟩
end
end Lw
namespace Lw
open PySem PySem.Spec L2 Lx
theorem scIsForm : FnScope ["wanted"] ["wanted"] (defScope sIsForm) := ⟨rfl, rfl, rfl, by decide +kernel, rfl, by decide +kernel, by decide +kernel⟩
theorem scChkForm : FnScope ["wanted"] ["wanted"] (defScope sChkForm) := ⟨rfl, rfl, rfl, by decide +kernel, rfl, by decide +kernel, by decide +kernel⟩
def spIsForm (K : PySem.W.Frag) : Sp := fun vs H Q _ => ∃ x f n, vs = [x] ∧ FmAt K H x f ∧ f.Ok n ∧ ∀ H', Same H H' → Q (.bl true) H'
def spChkForm (K : PySem.W.Frag) : Sp := fun vs H Q _ => ∃ x f n, vs = [x] ∧ FmAt K H x f ∧ f.Ok n ∧ ∀ H', Same H H' → Q .non H'
section
variable {P : Program} {w : World} {K : PySem.W.Frag} {mg : Str → Option Value} {base : Heap} {aL aN aS : Addr}
theorem ok_isForm {f : Addr} {fd : FuncData} {k : Nat} (F : Fun K "is_form" "is_form" sIsForm f fd) (T : LenT K w mg aL) (mL : mg "len" = none) (mM : mg "min" = none) : FnOk P w K mg base CX0 (k + 1) f fd ["wanted"] (spIsForm K) := by
  refine F.ok scIsForm (fun vs H Q E h => ?_) (fun cdv A outer s H vs Q E hr h => ?_)
  · obtain ⟨x, f, n, rfl, _⟩ := h
    rfl
  · obtain ⟨_, f, n, rfl, ⟨p, rfl, hT⟩, ho, q⟩ := h
    refine ⟨_, pss_cons (ps_if (PW.pt (pw_or (pt_not (pt_truth (pv 0) (fun _ => rfl))) (pw_or1 (pt_cmpR op_ne (pe_kget (pe_glob (v := .ref aL) rfl T.g rfl) (pe_ix ix_tup (pv 0) pe_int (fun _ _ => rfl)) ⟨rfl, rfl, rfl, rfl⟩) (pe_callB call_len_seq (by rfl) mL PySem.boot_len (pa_cons (pv 0) pa_nil)) (nomark _))))) (pss_one (ps_ret pe_bl)) pss_nil)
      (pss_cons (ps_if (pt_cmpR op_lt (pe_callB (call_minT rfl) (by rfl) mM (by decide +kernel) (pa_cons (pe_slice sl_tup (pv 0) (po_some pe_int) po_none) pa_nil)) pe_int (nomark _)) (pss_one (ps_ret pe_bl)) pss_nil)
      (pss_one (ps_ret (pe_or (pe_cmpR op_eq (pe_ix ix_tup (pv 0) pe_int (fun _ _ => rfl)) pe_str (nomark _)) (pe_one (pe_cmpR op_gt (pe_ix ix_tup (pv 0) pe_int (fun _ _ => rfl)) pe_int (nomark _))))))), ?_⟩
    obtain ⟨es, dn, D⟩ := T.d
    obtain ⟨t, ht⟩ := T.at f
    have hne : f.vs.isEmpty = false := by cases f <;> rfl
    refine ⟨_, rfl, true, .inr (.inl ⟨f.vs, hT, by rw [hne]; rfl⟩), iteF ?_⟩
    refine ⟨aL, es, dn, rfl, D, _, rfl, p, _, 0, _, rfl, rfl, hT, atI_nat (j := 0) f.vs0, f.nm, _, .int f.vs.length, rfl, ht, ⟨t, rfl⟩, ?_⟩
    refine ⟨_, rfl, p, f.vs, rfl, .inr hT, ?_⟩
    refine ⟨rfl, _, rfl, ?_⟩
    rw [decide_eq_true rfl]
    refine iteF ?_
    refine ⟨_, rfl, 1, rfl, p, f.vs, rfl, hT, wh f, fun p2 n2 => ?_⟩
    rw [cut1]
    have s2 := same_upd (o := .tup (f.nums.map V.int)) n2
    refine ⟨p2, f.nums, rfl, .inl (.inl upd_same), np f, fun m hm _ => ?_⟩
    refine ⟨_, _, rfl, rfl, _, rfl, ?_⟩
    rw [decide_eq_false (by have := nums0 ho m hm; omega : ¬ m < 0)]
    refine iteF ?_
    refine ⟨_, rfl, p, _, 0, _, rfl, rfl, sameT s2 hT, atI_nat (j := 0) f.vs0, rfl, _, rfl, ?_⟩
    cases f with
    | keep b a => exact iteT (q _ s2)
    | lf b a k c =>
      refine iteF ⟨_, rfl, p, _, 3, .int k, rfl, rfl, sameT s2 hT, atI_nat (j := 3) rfl, _, _, rfl, rfl, ?_⟩
      show Q (.bl (decide (0 < k))) _
      rw [decide_eq_true (by have := ho.2.2.1; omega : 0 < k)]
      exact q _ s2
    | cr b a k =>
      refine iteF ⟨_, rfl, p, _, 3, .int k, rfl, rfl, sameT s2 hT, atI_nat (j := 3) rfl, _, _, rfl, rfl, ?_⟩
      show Q (.bl (decide (0 < k))) _
      rw [decide_eq_true (by have := ho.2.2.1; omega : 0 < k)]
      exact q _ s2
theorem ok_chkForm {f fI : Addr} {fd fdI : FuncData} {k : Nat} (F : Fun K "check_form" "check_form" sChkForm f fd) (GI : FnOk P w K mg base CX0 k fI fdI ["wanted"] (spIsForm K)) (kI : PySem.W.keepIn K (.ref fI) = true) (bI : Binds K fdI ["wanted"] []) (gI : mg "is_form" = some (.ref fI)) :
    FnOk P w K mg base CX0 (k + 1) f fd ["wanted"] (spChkForm K) := by
  refine F.ok scChkForm (fun vs H Q E h => ?_) (fun cdv A outer s H vs Q E hr h => ?_)
  · obtain ⟨x, f, n, rfl, _⟩ := h
    rfl
  · obtain ⟨x, f, n, rfl, hf, ho, q⟩ := h
    refine ⟨_, pss_one (ps_if (pt_not (pt_val (pe_call GI hr (by rfl) gI kI bI .nil pass0 (pa_cons (pv 0) pa_nil)))) (pss_one ps_never) pss_nil), ?_⟩
    refine ⟨_, rfl, x, f, n, rfl, hf, ho, fun H' sm => ?_⟩
    exact ⟨_, rfl, iteF (q _ sm)⟩
end
end Lw
namespace Lx
open PySem PySem.Spec L2 PyProof.Rows
/-! ### sum of a tuple of ints -/
def rSumT (K : PySem.W.Frag) : List V → Hp → VK → Prop := fun vs H Q => ∃ (a : Addr) (ns : List Int), vs = [V.ref a] ∧ SqT K H a (ns.map V.int) ∧ Q (.int ns.sum) H
theorem call_sumT {X : Cx} (hc : X.calm = true) : CallR X (.builtin "sum") (rSumT X.K) := by
  intro pins s σ H vs us Q I r h
  obtain ⟨a, ns, rfl, hs, q⟩ := h
  obtain ⟨its, rv, hl, _⟩ := I.tuple hs
  rw [Vals.ref1 r]
  have hi := rv.ints
  obtain ⟨xs, e⟩ := hi.allInts.items
  have hn : numsOf (intItems xs).toList = ns := by rw [← e]; exact hi.numsOf
  rw [nums_intItems] at hn
  have hl' : s.heap.IsTuple a (intItems xs) := by
    rw [← e]
    obtain ⟨o, h1, h2, n, h3⟩ := hl
    exact ⟨o, h1, h2, n, h3⟩
  refine PySem.W.ktm_sumG (I.ok.hd hc) hl' fun h' tk t' hk => ⟨.int _, H, I.kept hk, ⟨_, rfl⟩, ?_⟩
  rw [preSum_eq, List.take_of_length_le (by simp), hn]
  exact q
/-! ### a method of a tuple that is written where it is called -/
def tTupM (r : V → List V → Hp → VK → Prop) (t0 t : TA) : TE := fun σ H Q => t0 σ H fun ys H1 => ys.length ≤ sizeLine ∧ ∀ p, H1 p = none → t σ (upd H1 p (.tup ys)) fun xs H2 => r (.ref p) xs H2 Q
theorem pe_tupM {X : Cx} {es0 : List Expr} {x1} {tpos : Pos} {e : Expr} {es : List Expr} {t0 t : TA} {name : Str} {apos cpos : Pos} {id : String} {r : V → List V → Hp → VK → Prop} (pa : PlainAttrs "tuple") (slot : Slot "tuple" name id) (hty : typeOf (.builtin id) = pure (.type "method_descriptor")) (hm : MtR X id r) (h0 : PA X es0 t0) (ha : PA X (e :: es) t)
    (hbase : attributeBase (.Tuple es0 x1 tpos) name X.env (eval (.Tuple es0 x1 tpos) X.env) = eval (.Tuple es0 x1 tpos) X.env := by rfl)
    (hfew : ((backTo cpos (starEach (e :: es) X.env)).all (fun x => !x.1) && (backToKw cpos (keywordEach [] X.env)).all (fun x => x.1.isSome)
      && decide ((e :: es).length + ([] : List Keyword).length + (if ([] : List Keyword).isEmpty then 0 else 1) < 30)) = true := by rfl)
    (hline : (apos.endLine == cpos.line) = true := by rfl) (hs : starEach (e :: es) X.env = (false, eval e X.env) :: starEach es X.env := by rfl) (hplain : (backTo cpos (starEach es X.env)).any (·.1) = false := by rfl) :
    PE X (.Call (.Attribute (.Tuple es0 x1 tpos) name apos) (e :: es) [] cpos) (tTupM r t0 t) := by
  refine ⟨fun pins s σ H Q I h => ?_⟩
  refine wpAny_Call_method_late hbase hfew hline rfl ?_
  refine wpAny_Tuple_spliced (thn (h0.run tpos pins s σ H _ I h) fun us s1 ⟨xs, H1, I1, r1, z, q⟩ => ⟨by rw [← r1.length]; exact z, ?_⟩)
  have hf : H1 s1.heap.objs.size = none := I1.hok.fresh (Nat.le_refl _)
  have I2 := I1.laid (a := s1.heap.objs.size) (o := .tup xs) (h' := s1.heap.push { cls := .type "tuple", data := .seq us.toArray }) (t' := s1.toks) (fun b u e => Heap.get?_push_of_some _ e) (Nat.le_refl _) ⟨z, us, r1, ⟨_, Heap.get?_push_size _ rfl, rfl, _, rfl⟩⟩
  have hg : (s1.heap.push { cls := .type "tuple", data := .seq us.toArray }).get? s1.heap.objs.size = some { cls := .type "tuple", data := .seq us.toArray } := Heap.get?_push_size _ rfl
  refine ⟨"tuple", id, pa, slot, hty, ⟨_, hg, rfl⟩, fun a e => ?_, ?_⟩
  · cases e
    exact ⟨_, hg, rfl⟩
  · have hA := ha.run cpos pins _ σ _ _ I2 (q _ hf)
    rw [hs] at hA ⊢
    refine Calls.callWith_builtin (by show (false || (backTo cpos (starEach es X.env)).any (·.1)) = false; rw [hplain] <;> rfl) (Calls.evalArgs_plain ?_)
    exact thn hA fun us2 s2 ⟨vs, H2, I3, r2, q2⟩ => hm pins s2 σ H2 (.ref s1.heap.objs.size) vs (.ref s1.heap.objs.size) us2 Q I3 rfl r2 q2
end Lx
namespace Lw
open PySem PySem.Spec L2 Lx
theorem scPof : FnScope ["wanted"] ["wanted"] (defScope sPrimesOfForm) := ⟨rfl, rfl, rfl, by decide +kernel, rfl, by decide +kernel, by decide +kernel⟩
theorem scSof : FnScope ["wanted", "steps"] ["wanted"] (defScope sStepsOfForm) := ⟨rfl, rfl, rfl, by decide +kernel, rfl, by decide +kernel, by decide +kernel⟩
theorem scCwf : FnScope ["wanted", "factors", "start", "middle", "factor"] ["wanted", "factors"] (defScope sChainWithFactors) := ⟨rfl, rfl, rfl, by decide +kernel, rfl, by decide +kernel, by decide +kernel⟩
/-- the ascending primes of a form -/
def Pf : Fm → List Nat → Prop
  | .keep _ _, fs => fs = []
  | .lf _ _ k _, fs => IsPf k.toNat fs
  | .cr _ _ k, fs => IsPf k.toNat fs
def KB : Fm → Prop
  | .keep _ _ => True
  | .lf _ _ k _ => k < 2 ^ 60
  | .cr _ _ k => k < 2 ^ 60
theorem Pf.uniq {f : Fm} {fs gs : List Nat} (h : Pf f fs) (g : Pf f gs) : fs = gs := by
  cases f with
  | keep b a => exact h.trans g.symm
  | lf b a k c => exact IsPf.uniq h g
  | cr b a k => exact IsPf.uniq h g
theorem Pf.prim {f : Fm} {fs : List Nat} (n : NN f) (h : Pf f fs) : Prim f fs := by
  cases f with
  | keep b a => exact h
  | lf b a k c => exact ⟨h.pm, by rw [h.prod]; have := n.2.2.1; omega⟩
  | cr b a k => exact ⟨h.pm, by rw [h.prod]; have := n.2.2; omega⟩
theorem Pf.fac {f : Fm} {fs : List Nat} (n : NN f) (h : Pf f fs) : Fac f fs := by
  cases f with
  | keep b a => exact n
  | lf b a k c => exact ⟨n.1, n.2.1, n.2.2.2, fun g hg => (h.pm g hg).1, by rw [h.prod]; have := n.2.2.1; omega⟩
  | cr b a k => exact ⟨n.1, n.2.1, fun g hg => (h.pm g hg).1, by rw [h.prod]; have := n.2.2; omega⟩
def spPof (K : PySem.W.Frag) : Sp := fun vs H Q _ => ∃ (y : V) (f : Fm), vs = [y] ∧ FmAt K H y f ∧ NN f ∧ KB f ∧ ∀ (p : Addr) (fs : List Nat) H', H p = none → Same H H' → H' p = some (.lst (natsV fs)) → Pf f fs → Q (.ref p) H'
def spSof (K : PySem.W.Frag) : Sp := fun vs H Q _ => ∃ (y : V) (f : Fm), vs = [y] ∧ FmAt K H y f ∧ NN f ∧ KB f ∧ ∀ (fs : List Nat) H', Same H H' → Pf f fs → Q (.int (stepsF f fs)) H'
def spCwf (K : PySem.W.Frag) : Sp := fun vs H Q _ => ∃ (y : V) (p : Addr) (f : Fm) (fs : List Nat), vs = [y, .ref p] ∧ FmAt K H y f ∧ NN f ∧ H p = some (.lst (natsV fs)) ∧ (∀ g ∈ fs, 2 ≤ g) ∧ stepsF f fs ≤ 1000000 ∧ ∀ (z : Str) H', Same H H' → z.cps.toList = shc f fs → Q (.str z) H'
structure SmF (mg : Str → Option Value) : Prop where
  sum : mg "sum" = none
theorem rep1 (c : Nat) (n : Nat) : (rep (⟨#[c]⟩ : Str) n).cps.toList = List.replicate n c := by
  rw [rep_list]
  induction n with
  | zero => rfl
  | succ n ih => rw [List.replicate_succ, List.flatten_cons, ih]; rfl
theorem tl_app (x y : Str) : (x ++ y).cps.toList = x.cps.toList ++ y.cps.toList := Array.toList_append ..
theorem joinL_nil2 : ∀ ps : List (List Nat), TL.joinL [] ps = ps.flatten
  | [] => rfl
  | [a] => by show a = _; simp
  | a :: b :: r => by
    show a ++ ([] ++ TL.joinL [] (b :: r)) = _
    rw [joinL_nil2 (b :: r), List.nil_append]
    rfl
theorem joinS_list2 (l : List Str) : (Txt.join "" l).cps.toList = l.flatMap fun x => x.cps.toList := by
  rw [TL.join_eq]
  refine (TL.tl_join "" l).trans ?_
  show TL.joinL [] _ = _
  rw [joinL_nil2, List.flatMap_def]
theorem len_tl (x : Str) : x.length = x.cps.toList.length := (Array.length_toList ..).symm
theorem cut_last (x : Str) : (cutS x none (some (-1))).cps.toList = x.cps.toList.dropLast := by
  unfold cutS
  have e : x.cps.toList.length = x.length := Array.length_toList ..
  have e1 : HT.sIx x.length 0 none = 0 := HT.sIx_none _ _
  have e2 : HT.sIx x.length x.length (some (-1)) = x.length - 1 := by
    unfold HT.sIx
    simp
    omega
  rw [e1, e2]
  simp
  rw [List.dropLast_eq_take, e]
theorem sum_cast : ∀ fs : List Nat, (fs.map (fun n : Nat => (n : Int))).sum = (fs.sum : Int)
  | [] => rfl
  | f :: fs => by
    rw [List.map_cons, List.sum_cons, List.sum_cons, sum_cast fs]
    omega
theorem mem_sum2 : ∀ {l : List Nat} {n : Nat}, n ∈ l → n ≤ l.sum
  | a :: l, n, h => by
    rw [List.sum_cons]
    rcases List.mem_cons.mp h with rfl | h
    · omega
    · have := mem_sum2 h
      omega
theorem len_sum2 : ∀ {l : List Nat}, (∀ g ∈ l, 2 ≤ g) → l.length ≤ l.sum
  | [], _ => Nat.le_refl _
  | a :: l, h => by
    have h1 := h a (List.mem_cons_self ..)
    have := len_sum2 fun x hx => h x (List.mem_cons_of_mem _ hx)
    rw [List.sum_cons, List.length_cons]
    omega
section
variable {P : Program} {w : World} {K : PySem.W.Frag} {mg : Str → Option Value} {base : Heap}
theorem ok_pof {f aP : Addr} {fd dP : FuncData} {k : Nat} (F : Fun K "primes_of_form" "primes_of_form" sPrimesOfForm f fd)
    (cP : Cl P w K mg base k "prime_factors" ["k"] spPf aP dP) : FnOk P w K mg base CX0 (k + 1) f fd ["wanted"] (spPof K) := by
  refine F.ok scPof (fun vs H Q E h => ?_) (fun cdv A outer s H vs Q E hr h => ?_)
  · obtain ⟨y, f, rfl, _⟩ := h
    rfl
  · obtain ⟨_, f, rfl, ⟨q0, rfl, hT⟩, hf, hb, q⟩ := h
    refine ⟨_, (pss_cons (ps_if (pt_cmpR op_eq (pe_ix ix_tup (pv 0) pe_int (fun _ _ => rfl)) pe_str (nomark _))
          (pss_one (ps_ret (pe_lst pa_nil))) pss_nil)
      (pss_one (ps_ret (pe_call cP.G hr (by rfl) cP.g cP.kp cP.b .nil pass0 (pa_cons (pe_ix ix_tup (pv 0) pe_int (fun _ _ => rfl)) pa_nil))))), ?_⟩
    refine ⟨_, rfl, q0, _, 0, _, rfl, rfl, hT, atI_nat (j := 0) f.vs0, rfl, _, rfl, ?_⟩
    cases f with
    | keep b a => exact iteT ⟨Nat.zero_le _, fun p np => q p [] _ np (same_upd np) upd_same rfl⟩
    | lf b a kk c =>
      obtain ⟨k', rfl⟩ := Int.eq_ofNat_of_zero_le (Int.le_of_lt hf.2.2.1)
      have h1 := hf.2.2.1
      have h2 : (k' : Int) < 2 ^ 60 := hb
      exact iteF ⟨_, rfl, q0, _, 3, .int k', rfl, rfl, hT, atI_nat (j := 3) rfl, k', rfl, by omega, by omega, q⟩
    | cr b a kk =>
      obtain ⟨k', rfl⟩ := Int.eq_ofNat_of_zero_le (Int.le_of_lt hf.2.2)
      have h1 := hf.2.2
      have h2 : (k' : Int) < 2 ^ 60 := hb
      exact iteF ⟨_, rfl, q0, _, 3, .int k', rfl, rfl, hT, atI_nat (j := 3) rfl, k', rfl, by omega, by omega, q⟩
theorem ok_sof {f aP : Addr} {fd dP : FuncData} {k : Nat} (F : Fun K "steps_of_form" "steps_of_form" sStepsOfForm f fd) (Z : SmF mg)
    (cP : Cl P w K mg base k "primes_of_form" ["wanted"] (spPof K) aP dP) : FnOk P w K mg base CX0 (k + 1) f fd ["wanted"] (spSof K) := by
  refine F.ok scSof (fun vs H Q E h => ?_) (fun cdv A outer s H vs Q E hr h => ?_)
  · obtain ⟨y, f, rfl, _⟩ := h
    rfl
  · obtain ⟨_, f, rfl, ⟨q0, rfl, hT⟩, hf, hb, q⟩ := h
    refine ⟨_, (pss_cons (ps_set (i := 1) scSof.nd rfl (.inl rfl) (pe_op op_add (pe_ix ix_tup (pv 0) pe_int (fun _ _ => rfl)) (pe_ix ix_tup (pv 0) pe_int (fun _ _ => rfl))))
      (pss_cons (ps_if (pt_cmpR op_eq (pe_ix ix_tup (pv 0) pe_int (fun _ _ => rfl)) pe_str (nomark _))
          (pss_one (ps_ret (pv 1))) pss_nil)
      (pss_one (ps_ret (pe_op op_add (pe_op op_add (pe_op op_add (pv 1) pe_int) (pe_callB (cr_sum rfl) (by rfl) Z.sum (by decide +kernel) (pa_cons (pe_call cP.G hr (by rfl) cP.g cP.kp cP.b .nil pass0 (pa_cons (pv 0) pa_nil)) pa_nil))) (pe_callB (call_sumT rfl) (by rfl) Z.sum (by decide +kernel) (pa_cons (pe_slice sl_tup (pv 0) (po_some pe_int) po_none) pa_nil))))))), ?_⟩
    refine ⟨_, rfl, q0, _, 1, _, rfl, rfl, hT, atI_nat (j := 1) f.vs1, _, rfl, q0, _, 2, _, rfl, rfl, hT, atI_nat (j := 2) f.vs2, _, _, rfl, rfl, ?_⟩
    refine ⟨_, rfl, q0, _, 0, _, rfl, rfl, hT, atI_nat (j := 0) f.vs0, rfl, _, rfl, ?_⟩
    have main : ∀ H2 : Hp, Same H H2 → SqT K H2 q0 f.vs := fun H2 s => sameT s hT
    cases f with
    | keep b a => exact iteT ⟨_, rfl, q [] _ (Same.refl _) rfl⟩
    | lf b a kk c =>
      refine iteF ⟨_, rfl, _, _, rfl, rfl, _, rfl, .ref q0, _, rfl, ⟨q0, rfl, hT⟩, hf, hb, fun p fs H2 np s2 hp hpf => ?_⟩
      refine ⟨p, fs.map (fun n : Nat => (n : Int)), rfl, .inl (.inl (by rw [hp]; unfold natsV; rw [List.map_map]; rfl)), _, _, rfl, rfl, ?_⟩
      refine ⟨_, rfl, 4, rfl, q0, _, rfl, main H2 s2, fun z => absurd z.1 (show ¬ HT.sIx 5 0 (some 4) = 0 by decide), fun t nt => ⟨t, [c], rfl, .inl (.inl upd_same), _, _, rfl, rfl, ?_⟩⟩
      show Q (.int (b + a + 1 + (fs.map (fun n : Nat => (n : Int))).sum + (c + 0))) _
      rw [sum_cast, Int.add_zero]
      exact q fs _ (s2.trans (same_upd nt)) hpf
    | cr b a kk =>
      refine iteF ⟨_, rfl, _, _, rfl, rfl, _, rfl, .ref q0, _, rfl, ⟨q0, rfl, hT⟩, hf, hb, fun p fs H2 np s2 hp hpf => ?_⟩
      refine ⟨p, fs.map (fun n : Nat => (n : Int)), rfl, .inl (.inl (by rw [hp]; unfold natsV; rw [List.map_map]; rfl)), _, _, rfl, rfl, ?_⟩
      refine ⟨_, rfl, 4, rfl, q0, _, rfl, main H2 s2, fun z => absurd z.1 (show ¬ HT.sIx 4 0 (some 4) = 0 by decide), fun t nt => ⟨t, [], rfl, .inl (.inl upd_same), _, _, rfl, rfl, ?_⟩⟩
      show Q (.int (b + a + 1 + (fs.map (fun n : Nat => (n : Int))).sum + 0)) _
      rw [sum_cast, Int.add_zero]
      exact q fs _ (s2.trans (same_upd nt)) hpf
theorem ok_cwf {f : Addr} {fd : FuncData} {k : Nat} (F : Fun K "chain_with_factors" "chain_with_factors" sChainWithFactors f fd) : FnOk P w K mg base CX0 (k + 1) f fd ["wanted", "factors"] (spCwf K) := by
  refine F.ok scCwf (fun vs H Q E h => ?_) (fun cdv A outer s H vs Q E hr h => ?_)
  · obtain ⟨y, p, f, fs, rfl, _⟩ := h
    rfl
  · obtain ⟨_, p, f, fs, rfl, ⟨q0, rfl, hT⟩, hf, hp, hfs, hst, q⟩ := h
    refine ⟨_, (pss_cons (ps_set (i := 2) scCwf.nd rfl (.inl rfl) (pe_op op_add_str (pe_op op_repS pe_str (pe_ix ix_tup (pv 0) pe_int (fun _ _ => rfl))) (pe_op op_repS pe_str (pe_ix ix_tup (pv 0) pe_int (fun _ _ => rfl)))))
      (pss_cons (ps_if (pt_cmpR op_eq (pe_ix ix_tup (pv 0) pe_int (fun _ _ => rfl)) pe_str (nomark _))
          (pss_one (ps_ret (pv 2))) pss_nil)
      (pss_cons (ps_set (i := 3) scCwf.nd rfl (.inl rfl) (pe_op op_add_str pe_str (pe_join pe_str (pe_lc (own := [("factor", 4)]) (g := (gName 4)) (tt := tYes) rfl scCwf.nd (pi_list (pv 1)) (blkOk_by (own := [("factor", 4)]) (N := ["wanted", "factors", "start", "middle", "factor"]) (sc := defScope sChainWithFactors) (by decide +kernel)) (fun _ _ _ _ _ => (pg_name (i := 4) scCwf.nd rfl (.inl rfl))) (fun _ _ _ _ _ => pts_nil) (fun _ _ _ _ _ => (pe_op op_add_str (pe_op op_repS pe_str (pe_op op_sub (pv 4) pe_int)) pe_str))))))
      (pss_cons (ps_if (pt_cmpR op_eq (pe_ix ix_tup (pv 0) pe_int (fun _ _ => rfl)) pe_str (nomark _))
          (pss_one (ps_ret (pe_op op_add_str (pe_op op_add_str (pv 2) (pv 3)) (pe_op op_repS pe_str (pe_ix ix_tup (pv 0) pe_int (fun _ _ => rfl)))))) pss_nil)
      (pss_one (ps_ret (pe_op op_add_str (pe_op op_add_str (pv 2) (pe_slice sl_str (pv 3) po_none (po_some (pe_un un_neg pe_int)))) pe_str))))))), ?_⟩
    have hb0 : 0 ≤ f.b ∧ 0 ≤ f.a := by cases f <;> exact ⟨hf.1, by first | exact hf.2 | exact hf.2.1⟩
    have hba : f.b + f.a ≤ 1000000 := by
      cases f with
      | keep b a => exact hst
      | lf b a k c =>
        have h1 : b + a + 1 + (fs.sum : Int) + c ≤ 1000000 := hst
        have h2 : 0 ≤ c := hf.2.2.2
        show b + a ≤ 1000000
        omega
      | cr b a k =>
        have h1 : b + a + 1 + (fs.sum : Int) ≤ 1000000 := hst
        show b + a ≤ 1000000
        omega
    have hsum : Fm.isKeep f = false → (fs.sum : Int) ≤ 1000000 := fun hk => by
      cases f with
      | keep b a => cases hk
      | lf b a k c =>
        have h1 : b + a + 1 + (fs.sum : Int) + c ≤ 1000000 := hst
        have h2 : 0 ≤ c := hf.2.2.2
        have h3 := hf.1
        have h4 := hf.2.1
        omega
      | cr b a k =>
        have h1 : b + a + 1 + (fs.sum : Int) ≤ 1000000 := hst
        have h3 := hf.1
        have h4 := hf.2.1
        omega
    obtain ⟨b, hbv⟩ := Int.eq_ofNat_of_zero_le hb0.1
    obtain ⟨a, hav⟩ := Int.eq_ofNat_of_zero_le hb0.2
    have v1 : f.vs[1]? = some (.int b) := hbv ▸ f.vs1
    have v2 : f.vs[2]? = some (.int a) := hav ▸ f.vs2
    have szD : (rep "D" (b : Int).toNat).length = b := by rw [rep_len, Int.toNat_natCast]; show 1 * b = b; omega
    have szU : (rep "U" (a : Int).toNat).length = a := by rw [rep_len, Int.toNat_natCast]; show 1 * a = a; omega
    refine ⟨_, rfl, q0, _, 1, _, rfl, rfl, hT, atI_nat (j := 1) v1, "D", b, rfl, rfl, by omega, by omega, by rw [Int.toNat_natCast, sizeLine_eq]; show 1 * b ≤ _; omega, _, rfl, q0, _, 2, _, rfl, rfl, hT, atI_nat (j := 2) v2, "U", a, rfl, rfl, by omega, by omega, by rw [Int.toNat_natCast, sizeLine_eq]; show 1 * a ≤ _; omega, _, _, rfl, rfl, by rw [szD, szU, sizeLine_eq]; omega, ?_⟩
    have hst1 : (rep "D" (b : Int).toNat ++ rep "U" (a : Int).toNat).cps.toList = startL f.b f.a := by
      rw [tl_app, hbv, hav]
      show _ = List.replicate _ 68 ++ List.replicate _ 85
      rw [← rep1 68, ← rep1 85]
      rfl
    have hstl : (rep "D" (b : Int).toNat ++ rep "U" (a : Int).toNat).length ≤ 1000000 := by
      have : (rep "D" (b : Int).toNat ++ rep "U" (a : Int).toNat).length = (rep "D" (b : Int).toNat).length + (rep "U" (a : Int).toNat).length := Array.size_append ..
      omega
    show gName 2 (.str (rep "D" (b : Int).toNat ++ rep "U" (a : Int).toNat)) _ _ _
    generalize rep "D" (b : Int).toNat ++ rep "U" (a : Int).toNat = st at hst1 hstl
    refine ⟨_, rfl, q0, _, 0, _, rfl, rfl, hT, atI_nat (j := 0) f.vs0, rfl, _, rfl, ?_⟩
    by_cases hk : Fm.isKeep f = true
    · have hnm : decide (V.str f.nm = V.str "keep") = true := by
        cases f with
        | keep b a => rfl
        | _ => cases hk
      rw [hnm]
      refine iteT ⟨_, rfl, q st _ (Same.refl _) ?_⟩
      cases f with
      | keep b a => exact hst1
      | _ => cases hk
    · have hk' : Fm.isKeep f = false := by simpa using hk
      have hnm : decide (V.str f.nm = V.str "keep") = false := by
        cases f with
        | keep b a => cases hk'
        | _ => rfl
      have hsum := hsum hk'
      rw [hnm]
      refine iteF ⟨⟨"", rfl⟩, _, rfl, p, rfl, ⟨_, .inl (.inl hp)⟩, fun D nD => ?_⟩
      have gT : ∀ n : Nat, (rep "U" ((n : Int) - 1).toNat ++ "M").cps.toList = seg n := fun n => by
        rw [tl_app]
        unfold seg
        have e : ((n : Int) - 1).toNat = n - 1 := by omega
        rw [e]
        rw [← rep1 85]
        rfl
      refine lc_it (walk_list (xs := natsV fs)) (fun j H' => Same H H' ∧ H' D = some (.lst (((fs.take j).map fun n : Nat => (rep "U" ((n : Int) - 1).toNat ++ "M" : Str)).map V.str))) ⟨same_upd nD, upd_same⟩ (fun _ _ _ hQ => .inl (.inl (hQ.1 _ _ hp))) ?_ ?_
      · rintro j u H3 H4 hj ⟨sm, hD⟩ ⟨rfl, hu⟩
        unfold natsV at hj hu
        rw [List.length_map] at hj
        have hri : fs[j]? = some fs[j] := List.getElem?_eq_getElem hj
        rw [List.getElem?_map, hri] at hu
        cases Option.some.inj hu
        have hr0 := hfs _ (List.mem_of_getElem? hri)
        have hr1 := mem_sum2 (List.mem_of_getElem? hri)
        have hle := len_sum2 hfs
        generalize fs[j] = r at hri hr0 hr1
        refine ⟨rfl, _, rfl, _, _, rfl, rfl, "U", (r : Int) - 1, rfl, rfl, by omega, by omega, ?_, _, _, rfl, rfl, ?_, _, hD, ?_, sameOwnP sm nD, ?_⟩
        · rw [sizeLine_eq]
          show 1 * ((r : Int) - 1).toNat ≤ _
          omega
        · rw [rep_len, sizeLine_eq]
          show 1 * ((r : Int) - 1).toNat + 1 ≤ _
          omega
        · rw [List.length_map, List.length_map, List.length_take, sizeLine_eq]
          omega
        · rw [upd_same, List.take_succ, hri, List.map_append, List.map_append]
          rfl
      · rintro H3 ⟨sm, hD⟩
        unfold natsV at hD
        rw [List.length_map, List.take_length] at hD
        have hj : (Txt.join "" (fs.map fun n : Nat => (rep "U" ((n : Int) - 1).toNat ++ "M" : Str))).cps.toList = segs fs := by
          rw [joinS_list2, List.flatMap_map]
          unfold segs
          exact congrArg (fun g => List.flatMap g fs) (funext gT)
        have hjl : (Txt.join "" (fs.map fun n : Nat => (rep "U" ((n : Int) - 1).toNat ++ "M" : Str))).length = fs.sum := by
          rw [len_tl, hj, segs_len fun g hg => by have := hfs g hg; omega]
        have hls : ((fs.map fun n : Nat => (rep "U" ((n : Int) - 1).toNat ++ "M" : Str)).map (·.length)).sum = fs.sum := by
          rw [List.map_map]
          refine congrArg List.sum ((List.map_congr_left fun n hn => ?_).trans (List.map_id fs))
          show (rep "U" ((n : Int) - 1).toNat ++ "M").length = n
          rw [len_tl, gT]
          have := hfs n hn
          unfold seg
          rw [List.length_append, List.length_replicate]
          show n - 1 + 1 = n
          omega
        refine ⟨"", D, _, rfl, rfl, .inl (.inl (.inl hD)), ?_, _, _, rfl, rfl, ?_, ?_⟩
        · rw [hls]
          show _ + _ * 0 ≤ _
          omega
        · rw [hjl, sizeLine_eq]
          show 1 + fs.sum ≤ _
          omega
        generalize Txt.join "" (fs.map fun n : Nat => (rep "U" ((n : Int) - 1).toNat ++ "M" : Str)) = mid at hj hjl
        have hm : ("M" ++ mid).cps.toList = 77 :: segs fs := by
          rw [tl_app, hj]
          rfl
        have hml : ("M" ++ mid).length = fs.sum + 1 := by
          rw [len_tl, hm, List.length_cons, segs_len fun g hg => by have := hfs g hg; omega]
        show gName 3 (.str ("M" ++ mid)) _ _ _
        generalize "M" ++ mid = mi at hm hml
        have hT3 := sameT sm hT
        have e12 : (st ++ mi).length = st.length + mi.length := Array.size_append ..
        refine ⟨_, rfl, q0, _, 0, _, rfl, rfl, hT3, atI_nat (j := 0) f.vs0, rfl, _, rfl, ?_⟩
        cases f with
        | keep b a => cases hk'
        | lf b' a' k' c' =>
          obtain ⟨c, rfl⟩ := Int.eq_ofNat_of_zero_le hf.2.2.2
          have hc1 : b' + a' + 1 + (fs.sum : Int) + c ≤ 1000000 := hst
          have hc2 := hf.1
          have hc3 := hf.2.1
          have szC : (rep "U" (c : Int).toNat).length = c := by rw [rep_len, Int.toNat_natCast]; show 1 * c = c; omega
          refine iteT ⟨_, rfl, _, rfl, _, _, rfl, rfl, by rw [sizeLine_eq]; omega, _, rfl, q0, _, 4, .int c, rfl, rfl, hT3, atI_nat (j := 4) rfl, "U", c, rfl, rfl, by omega, by omega, by rw [Int.toNat_natCast, sizeLine_eq]; show 1 * c ≤ _; omega, _, _, rfl, rfl, by rw [e12, szC, sizeLine_eq]; omega, ?_⟩
          refine q _ _ sm ?_
          rw [tl_app, tl_app, hst1, hm]
          show _ = startL b' a' ++ (77 :: segs fs) ++ List.replicate _ 85
          rw [← rep1 85]
          rfl
        | cr b' a' k' =>
          have hcl : (cutS mi none (some (-1))).cps.toList = (77 :: segs fs).dropLast := by rw [cut_last, hm]
          have hcn : (cutS mi none (some (-1))).length ≤ fs.sum := by
            rw [len_tl, hcl, List.length_dropLast, List.length_cons, segs_len fun g hg => by have := hfs g hg; omega]
            omega
          have e13 : (st ++ cutS mi none (some (-1))).length = st.length + (cutS mi none (some (-1))).length := Array.size_append ..
          refine iteF ⟨_, rfl, _, rfl, (1 : Int), rfl, (-1 : Int), rfl, mi, rfl, by show mi.length ≤ sizeLine; rw [sizeLine_eq]; omega, ?_⟩
          refine ⟨_, _, rfl, rfl, by rw [sizeLine_eq]; omega, _, _, rfl, rfl, by rw [e13, sizeLine_eq]; show _ + 1 ≤ _; omega, ?_⟩
          refine q _ _ sm ?_
          rw [tl_app, tl_app, hst1, hcl]
          rfl
end
end Lw
namespace Lx
open PySem PySem.Spec L2 PyProof.Rows
/-! ### min of a list of texts -/
theorem cmp_strs {prog : Program} {w : World} {A : Around} {P : Nat → Value → Prop} (val : Nat → Str) (hval : ∀ i v, P i v → ∃ t, v = .str (val i) t) :
    CmpOf prog w A .Lt P (fun i j => decide ((val i).cps.toList < (val j).cps.toList)) := fun i j vi vj s Q E hi hj h => by
  obtain ⟨t, rfl⟩ := hval i vi hi
  obtain ⟨u, rfl⟩ := hval j vj hj
  exact (lt_str h : wpAny (model prog w) A (compareOp .Lt (.str (val i) t) (.str (val j) u)) Q E s)
theorem argBest_str (val : Nat → List Nat) : ∀ k, argBest (fun i j => decide (val i < val j)) k ≤ k ∧ ∀ j, j ≤ k → ¬ val j < val (argBest (fun i j => decide (val i < val j)) k)
  | 0 => ⟨Nat.le_refl _, fun j hj => by
      have : j = 0 := by omega
      subst this
      exact List.lt_irrefl _⟩
  | k + 1 => by
    obtain ⟨h1, h2⟩ := argBest_str val k
    simp only [argBest]
    by_cases hc : val (k + 1) < val (argBest (fun i j => decide (val i < val j)) k)
    · rw [if_pos (by simpa using hc)]
      refine ⟨Nat.le_refl _, fun j hj => ?_⟩
      rcases Nat.lt_or_ge j (k + 1) with h | h
      · exact fun q => h2 j (by omega) (List.lt_trans q hc)
      · have : j = k + 1 := by omega
        subst this
        exact List.lt_irrefl _
    · rw [if_neg (by simpa using hc)]
      refine ⟨by omega, fun j hj => ?_⟩
      rcases Nat.lt_or_ge j (k + 1) with h | h
      · exact h2 j (by omega)
      · have : j = k + 1 := by omega
        subst this
        exact hc
theorem vals_str_at : ∀ {zs : List Str} {its : List Value}, Vals (zs.map V.str) its → ∀ {i : Nat} {v : Value}, its[i]? = some v → ∃ t, v = .str (zs.getD i "") t
  | [], _, .nil, i, v, h => by simp at h
  | z :: zs, _, .cons r t, 0, v, h => by
    obtain ⟨t', e⟩ := r
    have h := Option.some.inj h
    subst h
    exact ⟨t', e⟩
  | z :: zs, _, .cons r t, i + 1, v, h => vals_str_at t (i := i) h
section
variable {prog : Program} {w : World} {A : Around} {E : Value → Shared → Prop} {s : Shared} {l : Addr}
variable {its : List Value} {zs : List Str} {Q : Value → Shared → Prop}
theorem min_rawS (hh : A.handled = none) (hl : s.heap.IsList l its.toArray) (hi : Vals (zs.map V.str) its) (hne : 0 < zs.length)
    (h : ∀ h' tk m t', (∀ b o, s.heap.get? b = some o → h'.get? b = some o) → m ∈ zs → (∀ y, y ∈ zs → ¬ y.cps.toList < m.cps.toList) → Q (.str m t') { s with heap := h', toks := tk }) : wpAny (model prog w) A (call (.builtin "min") [.ref l]) Q E s := by
  have hlen : its.length = zs.length := by rw [← hi.length, List.length_map]
  have hlt : l < s.heap.objs.size := by obtain ⟨_, e, _⟩ := hl; exact Heap.lt_size e
  refine call_min_walk (wpAny_pyIter_list hl ?_)
  refine ⟨_, _, _, _, _, _, _, rfl, Walks.list (A := A.in1) hh _ l (Nat.ne_of_lt hlt) its.toArray, ⟨⟨_, Heap.get?_push_size _ rfl, rfl, rfl⟩, hl.push _⟩, fun b hb => ?_, by simpa [hlen] using hne, cmp_strs (fun i => zs.getD i "") (fun i v hv => vals_str_at hi (by simpa using hv)), fun v h' tk hP hk => ?_⟩
  · show b < (s.heap.push _).objs.size
    rw [Heap.size_push]
    rcases List.mem_cons.mp hb with rfl | hb
    · exact Nat.lt_succ_self _
    · rcases List.mem_cons.mp hb with rfl | hb
      · exact Nat.lt_succ_of_lt hlt
      · cases hb
  · rw [show its.toArray.size = zs.length by simp [hlen]] at hP
    rw [List.getElem?_toArray] at hP
    obtain ⟨t, rfl⟩ := vals_str_at hi hP
    obtain ⟨h1, h2⟩ := argBest_str (fun i => (zs.getD i "").cps.toList) (zs.length - 1)
    refine h h' tk _ t (fun b o e => hk b o (fun hm => Nat.lt_irrefl _ ((List.mem_singleton.mp hm) ▸ Heap.lt_size e)) (Heap.get?_push_of_some _ e)) ?_ fun a ha => ?_
    · rw [List.getD_eq_getElem?_getD, List.getElem?_eq_getElem (by omega)]
      exact List.getElem_mem _
    · obtain ⟨j, hj⟩ := List.mem_iff_getElem?.mp ha
      have hj2 := (List.getElem?_eq_some_iff.mp hj).1
      have h3 := h2 j (by omega)
      have e : zs.getD j "" = a := by rw [List.getD_eq_getElem?_getD, hj]; rfl
      rw [e] at h3
      exact h3
end
def rMinS (K : PySem.W.Frag) : List V → Hp → VK → Prop := fun vs H Q => ∃ (a : Addr) (zs : List Str), vs = [V.ref a] ∧ SqL K H a (zs.map V.str) ∧ 0 < zs.length ∧ ∀ m, m ∈ zs → (∀ y, y ∈ zs → ¬ y.cps.toList < m.cps.toList) → Q (.str m) H
theorem call_minS {X : Cx} (hc : X.calm = true) : CallR X (.builtin "min") (rMinS X.K) := by
  intro pins s σ H vs us Q I r h
  obtain ⟨a, zs, rfl, hs, hne, q⟩ := h
  obtain ⟨its, rv, hl, _⟩ := I.list hs
  rw [Vals.ref1 r]
  exact min_rawS (I.ok.hd hc) hl.isList rv hne fun h' tk m t' hk h1 h2 => ⟨.str _, H, I.kept hk, ⟨_, rfl⟩, q m h1 h2⟩
end Lx
namespace Lw
open PySem PySem.Spec L2 Lx
theorem scChg : FnScope ["j", "wanted_j"] ["j", "wanted_j"] (defScope sChangesBetween) := ⟨rfl, rfl, rfl, by decide +kernel, rfl, by decide +kernel, by decide +kernel⟩
theorem scFbk : FnScope ["first", "second", "_", "b", "a", "taken", "put"] ["first", "second"] (defScope sFormsBehindKeep) := ⟨rfl, rfl, rfl, by decide +kernel, rfl, by decide +kernel, by decide +kernel⟩
theorem scFbe : FnScope ["first", "second", "taken", "put"] ["first", "second"] (defScope sFormBetweenEnds) := ⟨rfl, rfl, rfl, by decide +kernel, rfl, by decide +kernel, by decide +kernel⟩
theorem scFbl : FnScope ["first", "second", "quotient", "found", "units", "taken", "put"] ["first", "second", "quotient"] (defScope sFormsBehindLf) := ⟨rfl, rfl, rfl, by decide +kernel, rfl, by decide +kernel, by decide +kernel⟩
theorem scFbt : FnScope ["first", "second", "quotient"] ["first", "second"] (defScope sFormsBetween) := ⟨rfl, rfl, rfl, by decide +kernel, rfl, by decide +kernel, by decide +kernel⟩
theorem scShc : FnScope ["wanted"] ["wanted"] (defScope sShortestChain) := ⟨rfl, rfl, rfl, by decide +kernel, rfl, by decide +kernel, by decide +kernel⟩
abbrev pos (x : Int) : Int := if x > 0 then x else 0
inductive Fms (K : PySem.W.Frag) (H : Hp) : List V → List Fm → Prop
  | nil : Fms K H [] []
  | cons {v : V} {vs : List V} {f : Fm} {fs : List Fm} : FmAt K H v f → Fms K H vs fs → Fms K H (v :: vs) (f :: fs)
theorem Fms.same {K : PySem.W.Frag} {H H' : Hp} (e : Same H H') : ∀ {vs : List V} {fs : List Fm}, Fms K H vs fs → Fms K H' vs fs
  | _, _, .nil => .nil
  | _, _, .cons h t => .cons (h.same e) (t.same e)
def FmsAt (K : PySem.W.Frag) (H : Hp) (p : Addr) (fs : List Fm) : Prop := ∃ us, H p = some (.lst us) ∧ Fms K H us fs
def takenF (b a : Int) (g : Fm) : Int := if g.b > b then a + g.b - b else pos (a - g.a)
def putF (b a : Int) (g : Fm) : Int := if g.b > b then g.a else pos (g.a - a)
def behind (b a : Int) (g : Fm) : List Fm := if g.b < b then [] else [Fm.ahead (takenF b a g) (putF b a g) g]
theorem behind_btw {dv : Int → List Int} {b a : Int} {g : Fm} : behind b a g = btw dv (.keep b a) g := by
  rw [btw_k]
  unfold behind takenF putF
  by_cases h1 : g.b < b
  · rw [if_pos h1, if_pos h1]
  · rw [if_neg h1, if_neg h1]
    by_cases h2 : g.b > b
    · rw [if_pos h2, if_pos h2, if_pos h2]
      cases g <;> rfl
    · rw [if_neg h2, if_neg h2, if_neg h2]
      cases g <;> rfl
def spChg : Sp := fun vs H Q _ => ∃ j w : Int, vs = [.int j, .int w] ∧ ∀ p H', Same H H' → H' p = some (.tup [.int (pos (j - w)), .int (pos (w - j))]) → Q (.ref p) H'
def spFbk (K : PySem.W.Frag) : Sp := fun vs H Q _ => ∃ x y b a g, vs = [x, y] ∧ FmAt K H x (.keep b a) ∧ FmAt K H y g ∧ ∀ p H', Same H H' → FmsAt K H' p (behind b a g) → Q (.ref p) H'
def fbe : Fm → Fm → Fm
  | .lf _ _ _ c, .lf _ _ _ c' => .keep (ch1 c c') (ch1 c' c)
  | _, _ => .keep 0 0
def spFbe (K : PySem.W.Frag) : Sp := fun vs H Q _ => ∃ x y f g, vs = [x, y] ∧ FmAt K H x f ∧ FmAt K H y g ∧ ((∃ b a k, f = .cr b a k) ∨ (∃ b a k c b' a' k' c', f = .lf b a k c ∧ g = .lf b' a' k' c')) ∧ ∀ v H', Same H H' → FmAt K H' v (fbe f g) → Q v H'
def spShc (K : PySem.W.Frag) : Sp := fun vs H Q _ => ∃ (y : V) (f : Fm) (n m : Nat), vs = [y] ∧ FmAt K H y f ∧ f.Ok n ∧ KB f ∧ LowB f m ∧ m ≤ 1000000 ∧ ∀ (z : Str) (fs : List Nat) H', Same H H' → Pf f fs → z.cps.toList = shc f fs → Q (.str z) H'
def spDv (dv : Int → List Int) : Sp := fun vs H Q _ => ∃ q : Int, vs = [.int q] ∧ 1 ≤ q ∧ q < 2 ^ 60 ∧ (dv q).length < 2000 ∧ ∀ p H', H p = none → Same H H' → H' p = some (.lst ((dv q).map V.int)) → Q (.ref p) H'
def one (g : Fm) (c q u : Int) : Fm := match g with
  | .lf _ _ _ c' => .lf (ch1 c (u - 1)) (ch1 (u - 1) c) (q / u) c'
  | _ => .cr (ch1 c (u - 1)) (ch1 (u - 1) c) (q / u)
def spFbl (K : PySem.W.Frag) (dv : Int → List Int) : Sp := fun vs H Q _ => ∃ x y b a k c g q, vs = [x, y, .int q] ∧ FmAt K H x (.lf b a k c) ∧ FmAt K H y g ∧ Fm.isKeep g = false ∧ 1 ≤ q ∧ q < 2 ^ 60 ∧ (dv q).length < 2000 ∧ (∀ u ∈ dv q, 0 < u ∧ u < 2 ^ 60) ∧ ∀ p H', Same H H' → FmsAt K H' p ((dv q).map (one g c q)) → Q (.ref p) H'
theorem FmAt.kdL {K : PySem.W.Frag} {H H' : Hp} {d : Addr} {zs : List V} (hd : H d = some (.lst zs)) (k : Kd d H H') {v : V} {f : Fm} : FmAt K H v f → FmAt K H' v f := fun ⟨p, h1, h2⟩ => ⟨p, h1, by
  rcases h2 with (h | ⟨o, h⟩) | h
  · exact .inl (.inl (k _ _ (ne_of h hd (by intro z; cases z)) h))
  · exact .inl (.inr ⟨o, k _ _ (ne_of h hd (by intro z; cases z)) h⟩)
  · exact .inr h⟩
theorem Fms.kdL {K : PySem.W.Frag} {H H' : Hp} {d : Addr} {zs : List V} (hd : H d = some (.lst zs)) (k : Kd d H H') : ∀ {vs : List V} {fs : List Fm}, Fms K H vs fs → Fms K H' vs fs
  | _, _, .nil => .nil
  | _, _, .cons h t => .cons (FmAt.kdL hd k h) (Fms.kdL hd k t)
theorem Fms.append {K : PySem.W.Frag} {H : Hp} {v : V} {f : Fm} (hv : FmAt K H v f) : ∀ {vs : List V} {fs : List Fm}, Fms K H vs fs → Fms K H (vs ++ [v]) (fs ++ [f])
  | _, _, .nil => .cons hv .nil
  | _, _, .cons h t => .cons h (Fms.append hv t)
theorem Fms.len {K : PySem.W.Frag} {H : Hp} : ∀ {vs : List V} {fs : List Fm}, Fms K H vs fs → vs.length = fs.length
  | _, _, .nil => rfl
  | _, _, .cons _ t => congrArg (· + 1) (Fms.len t)
theorem kdUpd {d : Addr} {H : Hp} {o : HO} : Kd d H (upd H d o) := fun b u hb e => by rw [upd_ne hb]; exact e
structure MxF (mg : Str → Option Value) : Prop where
  max : mg "max" = none
section
variable {P : Program} {w : World} {K : PySem.W.Frag} {mg : Str → Option Value} {base : Heap}
theorem ok_chg {f : Addr} {fd : FuncData} {k : Nat} (F : Fun K "changes_between" "changes_between" sChangesBetween f fd) (Z : MxF mg) : FnOk P w K mg base CX0 (k + 1) f fd ["j", "wanted_j"] spChg := by
  refine F.ok scChg (fun vs H Q E h => ?_) (fun cdv A outer s H vs Q E hr h => ?_)
  · obtain ⟨j, w', rfl, _⟩ := h
    rfl
  · obtain ⟨j, w', rfl, q⟩ := h
    refine ⟨_, (pss_one (ps_ret (pe_tup (pa_cons (pe_callB (call_max2 rfl) (by rfl) Z.max (by decide +kernel) (pa_cons pe_int (pa_cons (pe_op op_sub (pv 0) (pv 1)) pa_nil))) (pa_cons (pe_callB (call_max2 rfl) (by rfl) Z.max (by decide +kernel) (pa_cons pe_int (pa_cons (pe_op op_sub (pv 1) (pv 0)) pa_nil))) pa_nil))))), ?_⟩
    refine ⟨_, rfl, _, rfl, _, _, rfl, rfl, _, _, rfl, _, rfl, _, rfl, _, _, rfl, rfl, _, _, rfl, by show 2 ≤ sizeLine; decide, fun t nt => ?_⟩
    exact q _ _ (same_upd nt) upd_same
theorem ok_fbk {f aC : Addr} {fd dC : FuncData} {k : Nat} (F : Fun K "forms_behind_keep" "forms_behind_keep" sFormsBehindKeep f fd)
    (cC : Cl P w K mg base k "changes_between" ["j", "wanted_j"] spChg aC dC) : FnOk P w K mg base CX0 (k + 1) f fd ["first", "second"] (spFbk K) := by
  refine F.ok scFbk (fun vs H Q E h => ?_) (fun cdv A outer s H vs Q E hr h => ?_)
  · obtain ⟨x, y, b, a, g, rfl, _⟩ := h
    rfl
  · obtain ⟨_, _, b, a, g, rfl, ⟨p, rfl, hT⟩, ⟨r, rfl, hG⟩, q⟩ := h
    refine ⟨_, (pss_cons (ps_asg (pv 0) (pg_tup (by rfl) (pgs_cons (pg_name (i := 2) scFbk.nd rfl (.inl rfl)) (pgs_cons (pg_name (i := 3) scFbk.nd rfl (.inl rfl)) (pgs_cons (pg_name (i := 4) scFbk.nd rfl (.inl rfl)) pgs_nil)))))
      (pss_cons (ps_if (pt_cmpR op_lt (pe_ix ix_tup (pv 1) pe_int (fun _ _ => rfl)) (pv 3) (nomark _))
          (pss_one (ps_ret (pe_lst pa_nil))) pss_nil)
      (pss_cons (ps_if (pt_cmpR op_gt (pe_ix ix_tup (pv 1) pe_int (fun _ _ => rfl)) (pv 3) (nomark _))
          (pss_one (ps_par (i := 5) (j := 6) rfl scFbk.nd rfl rfl (by decide) rfl rfl (pa_cons (pe_op op_sub (pe_op op_add (pv 4) (pe_ix ix_tup (pv 1) pe_int (fun _ _ => rfl))) (pv 3)) (pa_cons (pe_ix ix_tup (pv 1) pe_int (fun _ _ => rfl)) pa_nil)) rfl))
          (pss_one (ps_asg (pe_call cC.G hr (by rfl) cC.g cC.kp cC.b .nil pass0 (pa_cons (pv 4) (pa_cons (pe_ix ix_tup (pv 1) pe_int (fun _ _ => rfl)) pa_nil))) (pg_tup (by rfl) (pgs_cons (pg_name (i := 5) scFbk.nd rfl (.inl rfl)) (pgs_cons (pg_name (i := 6) scFbk.nd rfl (.inl rfl)) pgs_nil))))))
      (pss_one (ps_ret (pe_lst (pa_cons (pe_op op_catA (pe_tup (pa_cons (pe_ix ix_tup (pv 1) pe_int (fun _ _ => rfl)) (pa_cons (pv 5) (pa_cons (pv 6) pa_nil)))) (pe_slice sl_tup (pv 1) (po_some pe_int) po_none)) pa_nil))))))), ?_⟩
    refine ⟨_, rfl, p, _, rfl, hT, rfl, _, _, rfl, _, _, rfl, _, _, rfl, rfl, ?_⟩
    refine ⟨_, rfl, r, _, 1, _, rfl, rfl, hG, atI_nat (j := 1) g.vs1, _, rfl, _, _, rfl, rfl, _, rfl, ite2 (fun c => ?_) (fun c => ?_)⟩
    · refine ⟨Nat.zero_le _, fun l nl => q _ _ (same_upd nl) ?_⟩
      unfold behind
      rw [if_pos (of_decide_eq_true c)]
      exact ⟨_, upd_same, .nil⟩
    · have c0 : ¬ g.b < b := fun h => c (decide_eq_true h)
      dsimp only [tNext, tSeq]
      refine if_fin (fun σ H1 => Same H H1 ∧ σ = [some (.ref p), some (.ref r), some (.str "keep"), some (.int b), some (.int a), some (.int (takenF b a g)), some (.int (putF b a g))]) (fun R hR => ?_) (fun σ H1 hF => ?_)
      · refine ⟨_, rfl, r, _, 1, _, rfl, rfl, hG, atI_nat (j := 1) g.vs1, _, rfl, _, _, rfl, rfl, _, rfl, ite2 (fun c => ?_) (fun c => ?_)⟩
        · have c1 : g.b > b := of_decide_eq_true c
          refine ⟨_, rfl, _, rfl, r, _, 1, _, rfl, rfl, hG, atI_nat (j := 1) g.vs1, _, _, rfl, rfl, _, rfl, _, _, rfl, rfl, _, rfl, r, _, 2, _, rfl, rfl, hG, atI_nat (j := 2) g.vs2, _, _, rfl, hR _ _ ⟨Same.refl _, ?_⟩⟩
          unfold takenF putF
          rw [if_pos c1, if_pos c1]
          rfl
        · have c1 : ¬ g.b > b := fun h => c (decide_eq_true h)
          refine ⟨_, rfl, _, rfl, r, _, 2, _, rfl, rfl, hG, atI_nat (j := 2) g.vs2, _, _, rfl, fun t H1 s1 ht => ?_⟩
          refine ⟨t, _, rfl, .inl (.inl ht), rfl, _, _, rfl, _, _, rfl, rfl, hR _ _ ⟨s1, ?_⟩⟩
          unfold takenF putF
          rw [if_neg c1, if_neg c1]
          rfl
      · obtain ⟨s1, rfl⟩ := hF
        have hG1 := sameT s1 hG
        refine ⟨_, rfl, r, _, 0, _, rfl, rfl, hG1, atI_nat (j := 0) g.vs0, _, rfl, _, rfl, by show 3 ≤ sizeLine; decide, fun t nt => ?_⟩
        have hb : behind b a g = [Fm.ahead (takenF b a g) (putF b a g) g] := if_neg c0
        rw [hb] at q
        generalize takenF b a g = T at *
        generalize putF b a g = U at *
        have s2 : Same H1 (upd H1 t (.tup [.str g.nm, .int T, .int U])) := same_upd nt
        have ht1 : upd H1 t (.tup [.str g.nm, .int T, .int U]) t = some (.tup [.str g.nm, .int T, .int U]) := upd_same
        show tSl _ _ _ _ _ (upd H1 t (.tup [.str g.nm, .int T, .int U])) _
        generalize upd H1 t (.tup [.str g.nm, .int T, .int U]) = H2 at s2 ht1
        refine ⟨_, rfl, 3, rfl, r, g.vs, rfl, sameT s2 hG1, wh3 g, fun p2 n2 => ?_⟩
        have s3 := (s1.trans s2).trans (same_upd (o := .tup (cutV g.vs (some 3) none)) n2)
        have ht2 : SqT K (upd H2 p2 (.tup (cutV g.vs (some 3) none))) t [.str g.nm, .int T, .int U] := .inl (.inl (by rw [upd_ne (ne_of_none ht1 n2)]; exact ht1))
        have hp2 : SqT K (upd H2 p2 (.tup (cutV g.vs (some 3) none))) p2 (cutV g.vs (some 3) none) := .inl (.inl upd_same)
        generalize upd H2 p2 (.tup (cutV g.vs (some 3) none)) = H3 at s3 ht2 hp2
        have fin : ∀ v H4, Same H3 H4 → FmAt K H4 v (Fm.ahead T U g) → ∀ l, H4 l = none → Q (.ref l) (upd H4 l (.lst [v])) := fun v H4 s4 hv l nl =>
          q _ _ ((s3.trans s4).trans (same_upd nl)) ⟨[v], upd_same, .cons (hv.same (same_upd nl)) .nil⟩
        refine ⟨t, p2, _, _, rfl, rfl, ht2, hp2, by show 3 + _ ≤ sizeLine; have := cutV_length g.vs (some 3) none; have h5 : g.vs.length ≤ 5 := vs_len g; rw [sizeLine_eq]; omega, fun z => by (exact nomatch z), fun _ hy => ?_, fun _ hy p3 n3 => ?_⟩
        · refine ⟨by show 1 ≤ sizeLine; decide, fun l nl => fin _ _ (Same.refl _) ?_ l nl⟩
          cases g with
          | keep b' a' => exact ⟨t, rfl, ht2⟩
          | lf b' a' k' c' => exact nomatch hy
          | cr b' a' k' => exact nomatch hy
        · refine ⟨by show 1 ≤ sizeLine; decide, fun l nl => fin _ _ (same_upd n3) ?_ l nl⟩
          cases g with
          | keep b' a' => exact absurd rfl hy
          | lf b' a' k' c' => exact ⟨p3, rfl, .inl (.inl upd_same)⟩
          | cr b' a' k' => exact ⟨p3, rfl, .inl (.inl upd_same)⟩
theorem ok_fbe {f aC : Addr} {fd dC : FuncData} {k : Nat} (F : Fun K "form_between_ends" "form_between_ends" sFormBetweenEnds f fd)
    (cC : Cl P w K mg base k "changes_between" ["j", "wanted_j"] spChg aC dC) : FnOk P w K mg base CX0 (k + 1) f fd ["first", "second"] (spFbe K) := by
  refine F.ok scFbe (fun vs H Q E h => ?_) (fun cdv A outer s H vs Q E hr h => ?_)
  · obtain ⟨x, y, f, g, rfl, _⟩ := h
    rfl
  · obtain ⟨_, _, f, g, rfl, ⟨p, rfl, hT⟩, ⟨r, rfl, hG⟩, hk, q⟩ := h
    refine ⟨_, (pss_cons (ps_if (pt_cmpR op_eq (pe_ix ix_tup (pv 0) pe_int (fun _ _ => rfl)) pe_str (nomark _))
          (pss_one (ps_ret (pe_tup (pa_cons pe_str (pa_cons pe_int (pa_cons pe_int pa_nil)))))) pss_nil)
      (pss_cons (ps_asg (pe_call cC.G hr (by rfl) cC.g cC.kp cC.b .nil pass0 (pa_cons (pe_ix ix_tup (pv 0) pe_int (fun _ _ => rfl)) (pa_cons (pe_ix ix_tup (pv 1) pe_int (fun _ _ => rfl)) pa_nil))) (pg_tup (by rfl) (pgs_cons (pg_name (i := 2) scFbe.nd rfl (.inl rfl)) (pgs_cons (pg_name (i := 3) scFbe.nd rfl (.inl rfl)) pgs_nil))))
      (pss_one (ps_ret (pe_tup (pa_cons pe_str (pa_cons (pv 2) (pa_cons (pv 3) pa_nil)))))))), ?_⟩
    refine ⟨_, rfl, p, _, 0, _, rfl, rfl, hT, atI_nat (j := 0) f.vs0, rfl, _, rfl, ?_⟩
    rcases hk with ⟨b, a, k', rfl⟩ | ⟨b, a, k', c, b', a', k2, c', rfl, rfl⟩
    · refine iteT ⟨by show 3 ≤ sizeLine; decide, fun t nt => q _ _ (same_upd nt) ⟨t, rfl, .inl (.inl upd_same)⟩⟩
    · refine iteF ⟨_, rfl, p, _, 4, .int c, rfl, rfl, hT, atI_nat (j := 4) rfl, _, rfl, r, _, 4, .int c', rfl, rfl, hG, atI_nat (j := 4) rfl, c, c', rfl, fun t H1 s1 ht => ?_⟩
      refine ⟨t, _, rfl, .inl (.inl ht), rfl, _, _, rfl, _, _, rfl, rfl, ?_⟩
      refine ⟨_, rfl, _, rfl, by show 3 ≤ sizeLine; decide, fun t2 nt2 => q _ _ (s1.trans (same_upd nt2)) ⟨t2, rfl, .inl (.inl upd_same)⟩⟩
theorem ok_shc {f aF aP aC : Addr} {fd dF dP dC : FuncData} {k : Nat} (F : Fun K "shortest_chain" "shortest_chain" sShortestChain f fd)
    (cF : Cl P w K mg base k "check_form" ["wanted"] (spChkForm K) aF dF)
    (cP : Cl P w K mg base k "primes_of_form" ["wanted"] (spPof K) aP dP)
    (cW : Cl P w K mg base k "chain_with_factors" ["wanted", "factors"] (spCwf K) aC dC) : FnOk P w K mg base CX0 (k + 1) f fd ["wanted"] (spShc K) := by
  refine F.ok scShc (fun vs H Q E h => ?_) (fun cdv A outer s H vs Q E hr h => ?_)
  · obtain ⟨y, f, n, m, rfl, _⟩ := h
    rfl
  · obtain ⟨y, f, n, m, rfl, hy, hf, hb, hl, hm, q⟩ := h
    refine ⟨_, (pss_cons (ps_expr (pe_call cF.G hr (by rfl) cF.g cF.kp cF.b .nil pass0 (pa_cons (pv 0) pa_nil)))
      (pss_one (ps_ret (pe_call cW.G hr (by rfl) cW.g cW.kp cW.b .nil pass0 (pa_cons (pv 0) (pa_cons (pe_call cP.G hr (by rfl) cP.g cP.kp cP.b .nil pass0 (pa_cons (pv 0) pa_nil)) pa_nil)))))), ?_⟩
    have hn := low_nn hl
    refine ⟨_, rfl, y, f, n, rfl, hy, hf, fun H1 s1 => ?_⟩
    refine ⟨_, rfl, _, rfl, y, f, rfl, hy.same s1, hn, hb, fun p fs H2 np s2 hp hfs => ?_⟩
    have hst := steps_le hl (hfs.prim hn)
    refine ⟨y, p, f, fs, rfl, (hy.same s1).same s2, hn, hp, ?_, by omega, fun z H3 s3 hz => q z fs H3 ((s1.trans s2).trans s3) hfs hz⟩
    cases f with
    | keep b a => rw [show fs = [] from hfs]; exact fun g h => by cases h
    | lf b a k' c => exact (hfs.fac hn).2.2.2.1
    | cr b a k' => exact (hfs.fac hn).2.2.1
theorem ok_fbl {dv : Int → List Int} {f aC aD : Addr} {fd dC dD : FuncData} {k : Nat} (F : Fun K "forms_behind_lf" "forms_behind_lf" sFormsBehindLf f fd)
    (cD : Cl P w K mg base k "divisors" ["k"] (spDv dv) aD dD)
    (cC : Cl P w K mg base k "changes_between" ["j", "wanted_j"] spChg aC dC) : FnOk P w K mg base CX0 (k + 1) f fd ["first", "second", "quotient"] (spFbl K dv) := by
  refine F.ok scFbl (fun vs H Q E h => ?_) (fun cdv A outer s H vs Q E hr h => ?_)
  · obtain ⟨x, y, b, a, k', c, g, q, rfl, _⟩ := h
    rfl
  · obtain ⟨_, _, b, a, k', c, g, qq, rfl, ⟨p, rfl, hT⟩, ⟨r, rfl, hG⟩, hk, hq1, hq2, hdl, hdu, q⟩ := h
    refine ⟨_, (pss_cons (ps_set (i := 3) scFbl.nd rfl (.inl rfl) (pe_lst pa_nil))
      (pss_cons (ps_for PassesOwn.never rfl (pi_list (pe_call cD.G hr (by rfl) cD.g cD.kp cD.b .nil pass0 (pa_cons (pv 2) pa_nil))) (pg_name (i := 4) scFbl.nd rfl (.inl rfl))
          (pss_cons (ps_asg (pe_call cC.G hr (by rfl) cC.g cC.kp cC.b .nil pass0 (pa_cons (pe_ix ix_tup (pv 0) pe_int (fun _ _ => rfl)) (pa_cons (pe_op op_sub (pv 4) pe_int) pa_nil))) (pg_tup (by rfl) (pgs_cons (pg_name (i := 5) scFbl.nd rfl (.inl rfl)) (pgs_cons (pg_name (i := 6) scFbl.nd rfl (.inl rfl)) pgs_nil))))
          (pss_one (ps_expr (pe_bm PySem.F.plainAttrs_list PySem.F.slot_list_append PySem.F.type_list_append mt_append (pv 3) (pa_cons (pe_op op_catA (pe_tup (pa_cons (pe_ix ix_tup (pv 1) pe_int (fun _ _ => rfl)) (pa_cons (pv 5) (pa_cons (pv 6) (pa_cons (pe_op op_fdivW (pv 2) (pv 4)) pa_nil))))) (pe_slice sl_tup (pv 1) (po_some pe_int) po_none)) pa_nil))))))
      (pss_one (ps_ret (pv 3))))), ?_⟩
    refine ⟨Nat.zero_le _, fun D nD => ?_⟩
    have sD := same_upd (o := .lst []) nD
    refine ⟨_, rfl, qq, rfl, hq1, hq2, hdl, fun pd H1 npd s1 hpd => ⟨pd, rfl, ⟨_, .inl (.inl hpd)⟩, ?_⟩⟩
    have hD1 := s1 _ _ (upd_same : upd H D (.lst []) D = some (.lst []))
    refine for_it (walk_list (xs := (dv qq).map V.int)) (fun i σ H' => Same H H' ∧ ∃ y4 y5 y6 zs, σ = [some (.ref p), some (.ref r), some (.int qq), some (.ref D), y4, y5, y6] ∧ H' D = some (.lst zs) ∧ Fms K H' zs (((dv qq).take i).map (one g c qq)) ∧ H' pd = some (.lst ((dv qq).map V.int)))
      ⟨sD.trans s1, none, none, none, [], rfl, hD1, .nil, hpd⟩ (fun i σ H' _ hQ => by obtain ⟨_, _, _, _, _, _, _, _, h⟩ := hQ; exact .inl (.inl h)) ?_ ?_
    · rintro i u σ H2 H3 hi ⟨sm, y4, y5, y6, zs, rfl, hD, hz, hpd2⟩ ⟨rfl, hu⟩
      rw [List.length_map] at hi
      have hri : (dv qq)[i]? = some (dv qq)[i] := List.getElem?_eq_getElem hi
      rw [List.getElem?_map, hri] at hu
      cases Option.some.inj hu
      obtain ⟨u0, u1⟩ := hdu _ (List.mem_of_getElem? hri)
      have htk : (dv qq).take (i + 1) = (dv qq).take i ++ [(dv qq)[i]] := by rw [List.take_succ, hri]; rfl
      generalize (dv qq)[i] = u at hri u0 u1 htk
      have hT2 := sameT sm hT
      have hG2 := sameT sm hG
      dsimp only [gName, tNext, tSeq]
      refine ⟨_, rfl, p, _, 4, .int c, rfl, rfl, hT2, atI_nat (j := 4) rfl, _, rfl, _, _, rfl, rfl, c, u - 1, rfl, fun t H3 s3 ht => ?_⟩
      refine ⟨t, _, rfl, .inl (.inl ht), rfl, _, _, rfl, _, _, rfl, rfl, ?_⟩
      have hD3 := s3 _ _ hD
      have hG3 := sameT s3 hG2
      refine ⟨_, rfl, .inl ⟨rfl, _, .inl (.inl hD3)⟩, _, rfl, r, _, 0, _, rfl, rfl, hG3, atI_nat (j := 0) g.vs0, _, rfl, _, rfl, _, rfl, _, rfl, _, _, rfl, rfl, wide_div (show 0 < u by omega) (Nat.lt_of_lt_of_le (show u.natAbs < 2 ^ 60 by omega) (Nat.pow_le_pow_right (by decide) (by decide : 60 ≤ 4000))) (by decide) (by decide), by show 4 ≤ sizeLine; decide, fun t4 nt4 => ?_⟩
      have npd2 : pd ≠ D := fun z => by
        rw [z, upd_same] at npd
        cases npd
      have s4 := same_upd (o := .tup [.str g.nm, .int (pos (c - (u - 1))), .int (pos (u - 1 - c)), .int (qq / u)]) nt4
      have ht4 : upd H3 t4 (.tup [.str g.nm, .int (pos (c - (u - 1))), .int (pos (u - 1 - c)), .int (qq / u)]) t4 = some (.tup [.str g.nm, .int (pos (c - (u - 1))), .int (pos (u - 1 - c)), .int (qq / u)]) := upd_same
      have s34 := s3.trans s4
      show tSl _ _ _ _ _ (upd H3 t4 (.tup [.str g.nm, .int (pos (c - (u - 1))), .int (pos (u - 1 - c)), .int (qq / u)])) _
      generalize upd H3 t4 (.tup [.str g.nm, .int (pos (c - (u - 1))), .int (pos (u - 1 - c)), .int (qq / u)]) = H4 at s34 ht4 s4
      have fin : ∀ v H5, Same H4 H5 → FmAt K H5 v (one g c qq u) → Same H (upd H5 D (.lst (zs ++ [v]))) ∧ ∃ y4 y5 y6 zs', [some (V.ref p), some (.ref r), some (.int qq), some (.ref D), some (.int u), some (.int (pos (c - (u - 1)))), some (.int (pos (u - 1 - c)))] = [some (.ref p), some (.ref r), some (.int qq), some (.ref D), y4, y5, y6] ∧ (upd H5 D (.lst (zs ++ [v]))) D = some (.lst zs') ∧ Fms K (upd H5 D (.lst (zs ++ [v]))) zs' (((dv qq).take (i + 1)).map (one g c qq)) ∧ (upd H5 D (.lst (zs ++ [v]))) pd = some (.lst ((dv qq).map V.int)) := fun v H5 s5 hv => by
        have s35 := s34.trans s5
        have hD5 := s35 _ _ hD
        refine ⟨sameOwnP (sm.trans s35) nD, _, _, _, _, rfl, upd_same, ?_, by rw [upd_ne npd2]; exact s35 _ _ hpd2⟩
        rw [htk, List.map_append]
        exact (Fms.append hv (hz.same s35)).kdL hD5 kdUpd
      have hzl : zs.length + 1 < sizeLine := by
        have := hz.len
        rw [List.length_map, List.length_take] at this
        rw [sizeLine_eq]
        omega
      cases g with
      | keep b' a' => cases hk
      | lf b' a' k2 c' =>
        refine ⟨_, rfl, 4, rfl, r, _, rfl, sameT s34 hG2, fun z => absurd z.1 (show ¬ HT.sIx 5 0 (some 4) = 0 by decide), fun p2 n2 => ?_⟩
        have s5 := same_upd (o := .tup [.int c']) n2
        refine ⟨t4, p2, _, [.int c'], rfl, rfl, .inl (.inl (s5 _ _ ht4)), .inl (.inl upd_same), by show 4 + 1 ≤ sizeLine; decide, fun z => by (exact nomatch z), fun _ hy => (by (exact nomatch hy)), fun _ hy p3 n3 => ?_⟩
        have s6 := same_upd (o := .tup (Fm.lf (pos (c - (u - 1))) (pos (u - 1 - c)) (qq / u) c').vs) n3
        exact ⟨D, zs, .ref p3, rfl, rfl, (s5.trans s6) _ _ (s34 _ _ hD), by omega, fin _ _ (s5.trans s6) ⟨p3, rfl, .inl (.inl upd_same)⟩⟩
      | cr b' a' k2 =>
        refine ⟨_, rfl, 4, rfl, r, _, rfl, sameT s34 hG2, fun z => absurd z.1 (show ¬ HT.sIx 4 0 (some 4) = 0 by decide), fun p2 n2 => ?_⟩
        have s5 := same_upd (o := .tup []) n2
        refine ⟨t4, p2, _, [], rfl, rfl, .inl (.inl (s5 _ _ ht4)), .inl (.inl upd_same), by show 4 + 0 ≤ sizeLine; decide, fun z => by (exact nomatch z), fun _ _ => ?_, fun _ hy => absurd rfl hy⟩
        exact ⟨D, zs, .ref t4, rfl, rfl, s5 _ _ (s34 _ _ hD), by omega, fin _ _ s5 ⟨t4, rfl, .inl (.inl (s5 _ _ ht4))⟩⟩
    · rintro σ H2 ⟨sm, y4, y5, y6, zs, rfl, hD, hz, hpd2⟩
      rw [List.length_map, List.take_length] at hz
      exact ⟨_, rfl, q D H2 sm ⟨zs, hD, hz⟩⟩
end
end Lw
namespace Lw
open PySem PySem.Spec L2 Lx
theorem scRem : FnScope ["first", "second", "forms", "least", "wanted"] ["first", "second"] (defScope sRemainder) := ⟨rfl, rfl, rfl, by decide +kernel, rfl, by decide +kernel, by decide +kernel⟩
def kOf : Fm → Int
  | .keep _ _ => 1
  | .lf _ _ k _ => k
  | .cr _ _ k => k
/-- what is asked of the divisors -/
structure DvOk (dv : Int → List Int) : Prop where
  mem : ∀ q u : Int, 0 < u → 0 < q → u ∣ q → u ∈ dv q
  of : ∀ q u : Int, 0 < q → u ∈ dv q → 0 < u ∧ u ∣ q
def spFbt (K : PySem.W.Frag) (dv : Int → List Int) : Sp := fun vs H Q _ => ∃ x y f g, vs = [x, y] ∧ FmAt K H x f ∧ FmAt K H y g ∧ NN f ∧ NN g ∧ KB f ∧ KB g ∧ (Fm.isKeep f = false → (kOf g).fmod (kOf f) = 0 → (dv (kOf g / kOf f)).length < 2000) ∧ ∀ p H', Same H H' → FmsAt K H' p (btw dv f g) → Q (.ref p) H'
theorem two_eqv (b a b' a' : Int) : PyData.eqv (.tuple [.int b, .int a]) (.tuple [.int b', .int a']) = decide (b = b' ∧ a = a') := by
  simp only [PyData.eqv, PyData.eqvAll, Bool.and_true]
  by_cases h1 : b = b' <;> by_cases h2 : a = a' <;> simp [h1, h2]
theorem one_eqF {g : Fm} {c q : Int} {dv : List Int} (hk : Fm.isKeep g = false) : dv.map (one g c q) = match g with
    | .lf _ _ _ c' => dv.map fun u => Fm.lf (ch1 c (u - 1)) (ch1 (u - 1) c) (q / u) c'
    | _ => dv.map fun u => Fm.cr (ch1 c (u - 1)) (ch1 (u - 1) c) (q / u) := by
  cases g with
  | keep b a => cases hk
  | lf b a k c => rfl
  | cr b a k => rfl
theorem vs3 {f : Fm} (h : Fm.isKeep f = false) : f.vs[3]? = some (.int (kOf f)) := by
  cases f with
  | keep b a => cases h
  | lf b a k c => rfl
  | cr b a k => rfl
theorem cut13 (f : Fm) : cutV f.vs (some 1) (some 3) = [.int f.b, .int f.a] := by cases f <;> rfl
theorem nw13 (f : Fm) : ¬ (HT.sIx f.vs.length 0 (some 1) = 0 ∧ HT.sIx f.vs.length f.vs.length (some 3) = f.vs.length) := by
  cases f with
  | keep b a => exact fun z => absurd z.1 (show ¬ HT.sIx 3 0 (some 1) = 0 by decide)
  | lf b a k c => exact fun z => absurd z.1 (show ¬ HT.sIx 5 0 (some 1) = 0 by decide)
  | cr b a k => exact fun z => absurd z.1 (show ¬ HT.sIx 4 0 (some 1) = 0 by decide)
theorem btw_no {dv : Int → List Int} {f g : Fm} (hf : Fm.isKeep f = false) (h : ¬ (Fm.isKeep g = false ∧ f.b = g.b ∧ f.a = g.a ∧ (kOf g).fmod (kOf f) = 0)) : btw dv f g = [] := by
  cases f with
  | keep b a => cases hf
  | lf b a k c =>
    cases g with
    | keep b' a' => rfl
    | lf b' a' k' c' => rw [btw_ll, if_neg (show ¬ (b = b' ∧ a = a' ∧ k'.fmod k = 0) from fun z => h ⟨rfl, z⟩)]
    | cr b' a' k' => rw [btw_lc, if_neg (show ¬ (b = b' ∧ a = a' ∧ k'.fmod k = 0) from fun z => h ⟨rfl, z⟩)]
  | cr b a k =>
    cases g with
    | keep b' a' => rfl
    | lf b' a' k' c' => rw [btw_cl, if_neg (show ¬ (b = b' ∧ a = a' ∧ k'.fmod k = 0) from fun z => h ⟨rfl, z⟩)]
    | cr b' a' k' => rw [btw_cc, if_neg (show ¬ (b = b' ∧ a = a' ∧ k'.fmod k = 0) from fun z => h ⟨rfl, z⟩)]
theorem btw_fbe {dv : Int → List Int} {f g : Fm} (hf : Fm.isKeep f = false) (hg : Fm.isKeep g = false) (hb : f.b = g.b) (ha : f.a = g.a) (hm : (kOf g).fmod (kOf f) = 0) (hq : kOf g / kOf f = 1) (hn : f.nm = g.nm) : btw dv f g = [fbe f g] ∧ ((∃ b a k, f = .cr b a k) ∨ (∃ b a k c b' a' k' c', f = .lf b a k c ∧ g = .lf b' a' k' c')) := by
  cases f with
  | keep b a => cases hf
  | lf b a k c =>
    cases g with
    | keep b' a' => cases hg
    | lf b' a' k' c' =>
      rw [btw_ll, if_pos (show b = b' ∧ a = a' ∧ k'.fmod k = 0 from ⟨hb, ha, hm⟩), if_pos (show k' / k = 1 from hq)]
      exact ⟨rfl, .inr ⟨_, _, _, _, _, _, _, _, rfl, rfl⟩⟩
    | cr b' a' k' => exact absurd hn (show ¬ (("lf" : Str) = "cr") by decide)
  | cr b a k =>
    cases g with
    | keep b' a' => cases hg
    | lf b' a' k' c' => exact absurd hn (show ¬ (("cr" : Str) = "lf") by decide)
    | cr b' a' k' =>
      rw [btw_cc, if_pos (show b = b' ∧ a = a' ∧ k'.fmod k = 0 from ⟨hb, ha, hm⟩), if_pos (show k' / k = 1 from hq)]
      exact ⟨rfl, .inl ⟨_, _, _, rfl⟩⟩
theorem btw_lf {dv : Int → List Int} {b a k c : Int} {g : Fm} (hg : Fm.isKeep g = false) (hb : b = g.b) (ha : a = g.a) (hm : (kOf g).fmod k = 0) (hq : ¬ (kOf g / k = 1 ∧ Fm.nm (.lf b a k c) = g.nm)) : btw dv (.lf b a k c) g = (dv (kOf g / k)).map (one g c (kOf g / k)) := by
  cases g with
  | keep b' a' => cases hg
  | lf b' a' k' c' =>
    rw [btw_ll, if_pos (show b = b' ∧ a = a' ∧ k'.fmod k = 0 from ⟨hb, ha, hm⟩), if_neg (show ¬ k' / k = 1 from fun z => hq ⟨z, rfl⟩)]
    rfl
  | cr b' a' k' =>
    rw [btw_lc, if_pos (show b = b' ∧ a = a' ∧ k'.fmod k = 0 from ⟨hb, ha, hm⟩)]
    rfl
theorem kOf_pos {f : Fm} (h : NN f) : 0 < kOf f := by
  cases f with
  | keep b a => exact (by decide : (0 : Int) < 1)
  | lf b a k c => exact h.2.2.1
  | cr b a k => exact h.2.2
theorem kOf_60 {f : Fm} (h : KB f) : kOf f < 2 ^ 60 := by
  cases f with
  | keep b a => exact (by decide : (1 : Int) < 2 ^ 60)
  | lf b a k c => exact h
  | cr b a k => exact h
section
variable {P : Program} {w : World} {K : PySem.W.Frag} {mg : Str → Option Value} {base : Heap}
theorem ok_fbt {dv : Int → List Int} (D : DvOk dv) {f aK aE aL : Addr} {fd dK dE dL : FuncData} {k : Nat} (F : Fun K "forms_between" "forms_between" sFormsBetween f fd)
    (cK : Cl P w K mg base k "forms_behind_keep" ["first", "second"] (spFbk K) aK dK)
    (cE : Cl P w K mg base k "form_between_ends" ["first", "second"] (spFbe K) aE dE)
    (cL : Cl P w K mg base k "forms_behind_lf" ["first", "second", "quotient"] (spFbl K dv) aL dL) : FnOk P w K mg base CX0 (k + 1) f fd ["first", "second"] (spFbt K dv) := by
  refine F.ok scFbt (fun vs H Q E h => ?_) (fun cdv A outer s H vs Q E hr h => ?_)
  · obtain ⟨x, y, f, g, rfl, _⟩ := h
    rfl
  · obtain ⟨_, _, f, g, rfl, ⟨p, rfl, hT⟩, ⟨r, rfl, hG⟩, nf, ng, kf, kg, hdl, q⟩ := h
    refine ⟨_, (pss_cons (ps_if (pt_cmpR op_eq (pe_ix ix_tup (pv 0) pe_int (fun _ _ => rfl)) pe_str (nomark _))
          (pss_one (ps_ret (pe_call cK.G hr (by rfl) cK.g cK.kp cK.b .nil pass0 (pa_cons (pv 0) (pa_cons (pv 1) pa_nil))))) pss_nil)
      (pss_cons (ps_if (PW.pt (pw_or (pt_cmpR op_eq (pe_ix ix_tup (pv 1) pe_int (fun _ _ => rfl)) pe_str (nomark _)) (pw_or (pt_cmpR (op_neD hr.units) (pe_slice sl_tup (pv 0) (po_some pe_int) (po_some pe_int)) (pe_slice sl_tup (pv 1) (po_some pe_int) (po_some pe_int)) (nomark _)) (pw_or1 (pt_cmpR op_ne (pe_op op_modN (pe_ix ix_tup (pv 1) pe_int (fun _ _ => rfl)) (pe_ix ix_tup (pv 0) pe_int (fun _ _ => rfl))) pe_int (nomark _))))))
          (pss_one (ps_ret (pe_lst pa_nil))) pss_nil)
      (pss_cons (ps_set (i := 2) scFbt.nd rfl (.inl rfl) (pe_op op_fdivW (pe_ix ix_tup (pv 1) pe_int (fun _ _ => rfl)) (pe_ix ix_tup (pv 0) pe_int (fun _ _ => rfl))))
      (pss_cons (ps_if (PW.pt (pw_and (pt_cmpR op_eq (pv 2) pe_int (nomark _)) (pw_and1 (pt_cmpR op_eq (pe_ix ix_tup (pv 0) pe_int (fun _ _ => rfl)) (pe_ix ix_tup (pv 1) pe_int (fun _ _ => rfl)) (nomark _)))))
          (pss_one (ps_ret (pe_lst (pa_cons (pe_call cE.G hr (by rfl) cE.g cE.kp cE.b .nil pass0 (pa_cons (pv 0) (pa_cons (pv 1) pa_nil))) pa_nil)))) pss_nil)
      (pss_cons (ps_if (pt_cmpR op_eq (pe_ix ix_tup (pv 0) pe_int (fun _ _ => rfl)) pe_str (nomark _))
          (pss_one (ps_ret (pe_lst (pa_cons (pe_op op_catA (pe_tup (pa_cons (pe_ix ix_tup (pv 1) pe_int (fun _ _ => rfl)) (pa_cons pe_int (pa_cons pe_int (pa_cons (pv 2) pa_nil))))) (pe_slice sl_tup (pv 1) (po_some pe_int) po_none)) pa_nil)))) pss_nil)
      (pss_one (ps_ret (pe_call cL.G hr (by rfl) cL.g cL.kp cL.b .nil pass0 (pa_cons (pv 0) (pa_cons (pv 1) (pa_cons (pv 2) pa_nil))))))))))), ?_⟩
    have hx : ∀ H', Same H H' → FmAt K H' (.ref p) f := fun H' s => ⟨p, rfl, sameT s hT⟩
    have hy : ∀ H', Same H H' → FmAt K H' (.ref r) g := fun H' s => ⟨r, rfl, sameT s hG⟩
    refine ⟨_, rfl, p, _, 0, _, rfl, rfl, hT, atI_nat (j := 0) f.vs0, rfl, _, rfl, ?_⟩
    by_cases hk : ∃ b a, f = .keep b a
    · obtain ⟨b, a, rfl⟩ := hk
      refine iteT ⟨_, rfl, _, rfl, _, _, b, a, g, rfl, hx _ (Same.refl _), hy _ (Same.refl _), fun l H1 s1 hl => ?_⟩
      rw [behind_btw (dv := dv)] at hl
      exact q l H1 s1 hl
    have hfk : decide (V.str f.nm = V.str "keep") = false := by
      cases f with
      | keep b a => exact absurd ⟨b, a, rfl⟩ hk
      | lf b a k c => rfl
      | cr b a k => rfl
    rw [hfk]
    refine iteF ?_
    have nil : ∀ H1, Same H H1 → btw dv f g = [] → ∀ l, H1 l = none → Q (.ref l) (upd H1 l (.lst [])) := fun H1 s1 e l nl => q l _ (s1.trans (same_upd nl)) (by rw [e]; exact ⟨[], upd_same, .nil⟩)
    have hfK : Fm.isKeep f = false := by
      cases f with
      | keep b a => exact absurd ⟨b, a, rfl⟩ hk
      | lf b a k c => rfl
      | cr b a k => rfl
    have hk0 := kOf_pos nf
    have hg0 := kOf_pos ng
    dsimp only [gName, tNext, tSeq]
    refine if_fin (fun σ H1 => σ = [some (.ref p), some (.ref r), none] ∧ Same H H1 ∧ Fm.isKeep g = false ∧ f.b = g.b ∧ f.a = g.a ∧ (kOf g).fmod (kOf f) = 0) (fun R hR => ?_) (fun σ H1 hF => ?_)
    · refine ⟨_, rfl, r, _, 0, _, rfl, rfl, hG, atI_nat (j := 0) g.vs0, rfl, _, rfl, ?_⟩
      by_cases hgK : Fm.isKeep g = false
      · have hgn : decide (V.str g.nm = V.str "keep") = false := by
          cases g with
          | keep b a => cases hgK
          | lf b a k c => rfl
          | cr b a k => rfl
        rw [hgn]
        refine iteF ⟨_, rfl, 1, rfl, 3, rfl, p, _, rfl, hT, nw13 f, fun p1 n1 => ⟨_, rfl, 1, rfl, 3, rfl, r, _, rfl, sameT (same_upd n1) hG, nw13 g, fun p2 n2 => ?_⟩⟩
        rw [cut13] at n2 ⊢
        rw [cut13]
        have s1 := same_upd (o := .tup [.int f.b, .int f.a]) n1
        have s2 := same_upd (o := .tup [.int g.b, .int g.a]) n2
        have s12 := s1.trans s2
        refine ⟨.tuple [.int f.b, .int f.a], .tuple [.int g.b, .int g.a], .tup (.inl (.inl (s2 _ _ upd_same))) (.cons (.int _) (.cons (.int _) .nil)), .tup (.inl (.inl upd_same)) (.cons (.int _) (.cons (.int _) .nil)), rfl, rfl, _, rfl, ?_⟩
        rw [two_eqv]
        by_cases hba : f.b = g.b ∧ f.a = g.a
        · rw [decide_eq_true hba]
          refine iteF ⟨_, rfl, r, _, 3, _, rfl, rfl, sameT s12 hG, atI_nat (j := 3) (vs3 hgK), _, rfl, p, _, 3, _, rfl, rfl, sameT s12 hT, atI_nat (j := 3) (vs3 hfK), _, _, rfl, rfl, (by omega : kOf f ≠ 0), rfl, _, rfl, ?_⟩
          by_cases hm : (kOf g).fmod (kOf f) = 0
          · show (if (!decide (V.int ((kOf g).fmod (kOf f)) = V.int 0)) = true then _ else _)
            rw [decide_eq_true (show V.int ((kOf g).fmod (kOf f)) = V.int 0 by rw [hm])]
            exact iteF (hR _ _ ⟨rfl, s12, hgK, hba.1, hba.2, hm⟩)
          · show (if (!decide (V.int ((kOf g).fmod (kOf f)) = V.int 0)) = true then _ else _)
            rw [decide_eq_false (show ¬ V.int ((kOf g).fmod (kOf f)) = V.int 0 from fun z => hm (V.int.inj z))]
            exact iteT ⟨Nat.zero_le _, fun l nl => nil _ s12 (btw_no hfK fun z => hm z.2.2.2) l nl⟩
        · rw [decide_eq_false hba]
          exact iteT ⟨Nat.zero_le _, fun l nl => nil _ s12 (btw_no hfK fun z => hba ⟨z.2.1, z.2.2.1⟩) l nl⟩
      · have hgn : decide (V.str g.nm = V.str "keep") = true := by
          cases g with
          | keep b a => rfl
          | lf b a k c => exact absurd rfl hgK
          | cr b a k => exact absurd rfl hgK
        rw [hgn]
        exact iteT ⟨Nat.zero_le _, fun l nl => nil _ (Same.refl _) (btw_no hfK fun z => hgK z.1) l nl⟩
    · obtain ⟨rfl, s1, hgK, hb, ha, hm⟩ := hF
      have hT1 := sameT s1 hT
      have hG1 := sameT s1 hG
      have h60 := kOf_60 kf
      refine ⟨_, rfl, r, _, 3, _, rfl, rfl, hG1, atI_nat (j := 3) (vs3 hgK), _, rfl, p, _, 3, _, rfl, rfl, hT1, atI_nat (j := 3) (vs3 hfK), _, _, rfl, rfl, wide_div hk0 (Nat.lt_of_lt_of_le (show (kOf f).natAbs < 2 ^ 60 by omega) (Nat.pow_le_pow_right (by decide) (by decide : 60 ≤ 4000))) (by decide) (by decide), ?_⟩
      have ek := fmod_mul hk0 hm
      have q0 : 0 < kOf g / kOf f := by
        rw [← ek] at hg0
        exact pos_r hk0 hg0
      have q60 : kOf g / kOf f < 2 ^ 60 := by
        have h1 := kOf_60 kg
        have h2 : 1 * (kOf g / kOf f) ≤ kOf f * (kOf g / kOf f) := Int.mul_le_mul_of_nonneg_right (by omega) (by omega)
        rw [ek] at h2
        omega
      show gName 2 (V.int (kOf g / kOf f)) _ _ _
      have hdu : ∀ u ∈ dv (kOf g / kOf f), 0 < u ∧ u < 2 ^ 60 := fun u hu => by
        obtain ⟨u0, x, hx⟩ := D.of _ u q0 hu
        refine ⟨u0, ?_⟩
        have x0 : 0 < x := by
          rw [hx] at q0
          exact pos_r u0 q0
        have : u * 1 ≤ u * x := Int.mul_le_mul_of_nonneg_left (by omega) (by omega)
        omega
      dsimp only [gName, tNext, tSeq]
      have ql := fun (l : Addr) (H' : Hp) (s : Same H H') (h : FmsAt K H' l (btw dv f g)) => q l H' s h
      refine if_fin (fun σ H2 => σ = [some (.ref p), some (.ref r), some (.int (kOf g / kOf f))] ∧ H2 = H1 ∧ ¬ (kOf g / kOf f = 1 ∧ f.nm = g.nm)) (fun R hR => ?_) (fun σ H2 hF => ?_)
      · refine ⟨_, rfl, rfl, _, rfl, ?_⟩
        by_cases hq : kOf g / kOf f = 1
        · rw [decide_eq_true (show V.int (kOf g / kOf f) = V.int 1 by rw [hq])]
          refine iteT ⟨_, rfl, p, _, 0, _, rfl, rfl, hT1, atI_nat (j := 0) f.vs0, _, rfl, r, _, 0, _, rfl, rfl, hG1, atI_nat (j := 0) g.vs0, rfl, _, rfl, ?_⟩
          by_cases hn : f.nm = g.nm
          · rw [decide_eq_true (show V.str f.nm = V.str g.nm by rw [hn])]
            obtain ⟨e1, e2⟩ := btw_fbe (dv := dv) hfK hgK hb ha hm hq hn
            refine iteT ⟨_, rfl, _, rfl, .ref p, .ref r, f, g, rfl, hx _ s1, hy _ s1, e2, fun v H2 s2 hv => ⟨by show 1 ≤ sizeLine; decide, fun l nl => ?_⟩⟩
            refine ql l _ ((s1.trans s2).trans (same_upd nl)) ?_
            rw [e1]
            exact ⟨[v], upd_same, .cons (hv.same (same_upd nl)) .nil⟩
          · rw [decide_eq_false (show ¬ V.str f.nm = V.str g.nm from fun z => hn (V.str.inj z))]
            exact iteF (hR _ _ ⟨rfl, rfl, fun z => hn z.2⟩)
        · rw [decide_eq_false (show ¬ V.int (kOf g / kOf f) = V.int 1 from fun z => hq (V.int.inj z))]
          exact iteF (hR _ _ ⟨rfl, rfl, fun z => hq z.1⟩)
      · obtain ⟨rfl, rfl, hq⟩ := hF
        refine ⟨_, rfl, p, _, 0, _, rfl, rfl, hT1, atI_nat (j := 0) f.vs0, rfl, _, rfl, ?_⟩
        cases f with
        | keep b a => cases hfK
        | lf b a k' c =>
          refine iteF ⟨_, rfl, _, rfl, _, rfl, .ref p, .ref r, b, a, k', c, g, kOf g / k', rfl, hx _ s1, hy _ s1, hgK, q0, q60, hdl hfK hm, hdu, fun l H' s2 hl => ql l H' (s1.trans s2) ?_⟩
          rw [btw_lf (b := b) (a := a) (k := k') (c := c) hgK hb ha hm hq]
          exact hl
        | cr b a k' =>
          have bc : btw dv (.cr b a k') g = [match g with | .lf _ _ _ c' => .lf 0 0 (kOf g / k') c' | _ => .cr 0 0 (kOf g / k')] := by
            cases g with
            | keep b' a' => cases hgK
            | lf b' a' k2 c' => rw [btw_cl, if_pos (show b = b' ∧ a = a' ∧ k2.fmod k' = 0 from ⟨hb, ha, hm⟩)]; rfl
            | cr b' a' k2 => rw [btw_cc, if_pos (show b = b' ∧ a = a' ∧ k2.fmod k' = 0 from ⟨hb, ha, hm⟩), if_neg (show ¬ k2 / k' = 1 from fun z => hq ⟨z, rfl⟩)]; rfl
          refine iteT ⟨_, rfl, r, _, 0, _, rfl, rfl, hG1, atI_nat (j := 0) g.vs0, _, rfl, by show 4 ≤ sizeLine; decide, fun t4 nt4 => ?_⟩
          have ht4 : upd H2 t4 (.tup [.str g.nm, .int 0, .int 0, .int (kOf g / k')]) t4 = some (.tup [.str g.nm, .int 0, .int 0, .int (kOf g / k')]) := upd_same
          have s4 := same_upd (o := .tup [.str g.nm, .int 0, .int 0, .int (kOf g / k')]) nt4
          show tSl _ _ _ _ _ (upd H2 t4 (.tup [.str g.nm, .int 0, .int 0, .int (kOf g / k')])) _
          generalize upd H2 t4 (.tup [.str g.nm, .int 0, .int 0, .int (kOf g / k')]) = H4 at ht4 s4
          cases g with
          | keep b' a' => cases hgK
          | lf b' a' k2 c' =>
            refine ⟨_, rfl, 4, rfl, r, _, rfl, sameT s4 hG1, fun z => absurd z.1 (show ¬ HT.sIx 5 0 (some 4) = 0 by decide), fun p2 n2 => ?_⟩
            have s5 := same_upd (o := .tup [.int c']) n2
            refine ⟨t4, p2, _, [.int c'], rfl, rfl, .inl (.inl (s5 _ _ ht4)), .inl (.inl upd_same), by show 4 + 1 ≤ sizeLine; decide, fun z => by (exact nomatch z), fun _ hy => (by (exact nomatch hy)), fun _ hy p3 n3 => ⟨by show 1 ≤ sizeLine; decide, fun l nl => ?_⟩⟩
            have s6 := same_upd (o := .tup (Fm.lf 0 0 (k2 / k') c').vs) n3
            refine ql l _ ((((s1.trans s4).trans s5).trans s6).trans (same_upd nl)) ?_
            rw [bc]
            exact ⟨[.ref p3], upd_same, .cons ⟨p3, rfl, .inl (.inl (same_upd nl _ _ upd_same))⟩ .nil⟩
          | cr b' a' k2 =>
            refine ⟨_, rfl, 4, rfl, r, _, rfl, sameT s4 hG1, fun z => absurd z.1 (show ¬ HT.sIx 4 0 (some 4) = 0 by decide), fun p2 n2 => ?_⟩
            have s5 := same_upd (o := .tup []) n2
            refine ⟨t4, p2, _, [], rfl, rfl, .inl (.inl (s5 _ _ ht4)), .inl (.inl upd_same), by show 4 + 0 ≤ sizeLine; decide, fun z => by (exact nomatch z), fun _ _ => ⟨by show 1 ≤ sizeLine; decide, fun l nl => ?_⟩, fun _ hy => absurd rfl hy⟩
            refine ql l _ (((s1.trans s4).trans s5).trans (same_upd nl)) ?_
            rw [bc]
            exact ⟨[.ref t4], upd_same, .cons ⟨t4, rfl, .inl (.inl (same_upd nl _ _ (s5 _ _ ht4)))⟩ .nil⟩
end
end Lw
namespace Lw
open PySem PySem.Spec L2 Lx
theorem fac_low {f : Fm} {fs : List Nat} {m : Nat} (h : Fac f fs) (hs : stepsF f fs ≤ m) : LowB f m := by
  cases f with
  | keep b a => exact ⟨h.1, h.2, hs⟩
  | lf b a k c => exact ⟨h.1, h.2.1, h.2.2.1, fs, h.2.2.2.1, h.2.2.2.2, hs⟩
  | cr b a k => exact ⟨h.1, h.2.1, fs, h.2.2.1, h.2.2.2, hs⟩
theorem sm_self (x : Int) : Sm x.natAbs x := Nat.lt_two_pow_self
theorem nn_ok {f : Fm} (h : NN f) : ∃ n, f.Ok n := by
  cases f with
  | keep b a => exact ⟨b.natAbs + a.natAbs, h.1, h.2, (sm_self b).mono (by omega), (sm_self a).mono (by omega)⟩
  | lf b a k c => exact ⟨b.natAbs + a.natAbs + k.natAbs + c.natAbs, h.1, h.2.1, h.2.2.1, h.2.2.2, (sm_self b).mono (by omega), (sm_self a).mono (by omega), (sm_self k).mono (by omega), (sm_self c).mono (by omega)⟩
  | cr b a k => exact ⟨b.natAbs + a.natAbs + k.natAbs, h.1, h.2.1, h.2.2, (sm_self b).mono (by omega), (sm_self a).mono (by omega), (sm_self k).mono (by omega)⟩
/-- the steps of a form -/
def StOf (w : Fm) (s : Int) : Prop := ∃ fs, Pf w fs ∧ s = stepsF w fs
inductive SsOf : List Fm → List Int → Prop
  | nil : SsOf [] []
  | cons {w s ws ss} : StOf w s → SsOf ws ss → SsOf (w :: ws) (s :: ss)
theorem SsOf.snoc {w : Fm} {s : Int} (h : StOf w s) : ∀ {ws : List Fm} {ss : List Int}, SsOf ws ss → SsOf (ws ++ [w]) (ss ++ [s])
  | _, _, .nil => .cons h .nil
  | _, _, .cons a t => .cons a (SsOf.snoc h t)
theorem SsOf.len : ∀ {ws : List Fm} {ss : List Int}, SsOf ws ss → ws.length = ss.length
  | _, _, .nil => rfl
  | _, _, .cons _ t => congrArg (· + 1) t.len
theorem SsOf.of : ∀ {ws : List Fm} {ss : List Int}, SsOf ws ss → ∀ s ∈ ss, ∃ w ∈ ws, StOf w s
  | _, _, .nil, s, h => by cases h
  | _, _, .cons a t, s, h => by
    rcases List.mem_cons.mp h with rfl | h
    · exact ⟨_, List.mem_cons_self .., a⟩
    · obtain ⟨w, hw, hs⟩ := t.of s h
      exact ⟨w, List.mem_cons_of_mem _ hw, hs⟩
theorem SsOf.all : ∀ {ws : List Fm} {ss : List Int}, SsOf ws ss → ∀ w ∈ ws, ∃ s ∈ ss, StOf w s
  | _, _, .nil, w, h => by cases h
  | _, _, .cons a t, w, h => by
    rcases List.mem_cons.mp h with rfl | h
    · exact ⟨_, List.mem_cons_self .., a⟩
    · obtain ⟨s, hs, hw⟩ := t.all w h
      exact ⟨s, List.mem_cons_of_mem _ hs, hw⟩
theorem StOf.uniq {w : Fm} {s t : Int} (a : StOf w s) (b : StOf w t) : s = t := by
  obtain ⟨fs, h1, rfl⟩ := a
  obtain ⟨gs, h2, rfl⟩ := b
  rw [h1.uniq h2]
/-- what remainder tells -/
def RemT (cands : List Fm) (t : List Nat) : Prop := ∃ s : Int, (∃ w ∈ cands, ∃ fs, Pf w fs ∧ stepsF w fs = s ∧ t = shc w fs) ∧ (∀ w ∈ cands, ∀ fs, Pf w fs → s ≤ stepsF w fs) ∧ ∀ w ∈ cands, ∀ fs, Pf w fs → stepsF w fs = s → ¬ shc w fs < t
theorem RemT.uniq {cands : List Fm} {t u : List Nat} (a : RemT cands t) (b : RemT cands u) : t = u := by
  obtain ⟨s, ⟨w, hw, fs, h1, h2, h3⟩, h4, h5⟩ := a
  obtain ⟨s', ⟨w', hw', fs', g1, g2, g3⟩, g4, g5⟩ := b
  have e1 := h4 w' hw' fs' g1
  have e2 := g4 w hw fs h1
  have e : s = s' := by omega
  subst e
  have l1 := h5 w' hw' fs' g1 g2
  have l2 := g5 w hw fs h1 h2
  rw [← g3] at l1
  rw [← h3] at l2
  exact List.le_antisymm (List.not_lt.mp l1) (List.not_lt.mp l2)
def spRem (K : PySem.W.Frag) (dv : Int → List Int) : Sp := fun vs H Q _ => ∃ x y f g n, vs = [x, y] ∧ FmAt K H x f ∧ FmAt K H y g ∧ f.Ok n ∧ g.Ok n ∧ NN f ∧ NN g ∧ KB f ∧ KB g ∧ (Fm.isKeep f = false → (kOf g).fmod (kOf f) = 0 → (dv (kOf g / kOf f)).length < 2000) ∧ (∀ w ∈ btw dv f g, NN w ∧ KB w) ∧ (btw dv f g).length ≤ 4000 ∧ (btw dv f g ≠ [] → ∃ w ∈ btw dv f g, ∃ m, m ≤ 1000000 ∧ LowB w m) ∧
  ∀ H', Same H H' → (btw dv f g = [] → Q .non H') ∧ ∀ z : Str, RemT (btw dv f g) z.cps.toList → Q (.str z) H'
structure MnF (mg : Str → Option Value) : Prop where
  min : mg "min" = none
theorem Fms.get {K : PySem.W.Frag} {H : Hp} : ∀ {vs : List V} {fs : List Fm}, Fms K H vs fs → ∀ {i : Nat} {v : V}, vs[i]? = some v → ∃ f, fs[i]? = some f ∧ FmAt K H v f
  | _, _, .nil, i, v, e => by simp at e
  | _, _, .cons h t, 0, v, e => by
    simp only [List.getElem?_cons_zero, Option.some.injEq] at e
    subst e
    exact ⟨_, rfl, h⟩
  | _, _, .cons h t, i + 1, v, e => by
    rw [List.getElem?_cons_succ] at e ⊢
    exact Fms.get t e
section
variable {P : Program} {w : World} {K : PySem.W.Frag} {mg : Str → Option Value} {base : Heap}
theorem ok_rem {dv : Int → List Int} {f aF aB aS aH : Addr} {fd dF dB dS dH : FuncData} {k : Nat} (F : Fun K "remainder" "remainder" sRemainder f fd) (Z : MnF mg)
    (cF : Cl P w K mg base k "check_form" ["wanted"] (spChkForm K) aF dF)
    (cB : Cl P w K mg base k "forms_between" ["first", "second"] (spFbt K dv) aB dB)
    (cS : Cl P w K mg base k "steps_of_form" ["wanted"] (spSof K) aS dS)
    (cH : Cl P w K mg base k "shortest_chain" ["wanted"] (spShc K) aH dH) : FnOk P w K mg base CX0 (k + 1) f fd ["first", "second"] (spRem K dv) := by
  refine F.ok scRem (fun vs H Q E h => ?_) (fun cdv A outer s H vs Q E hr h => ?_)
  · obtain ⟨x, y, f, g, n, rfl, _⟩ := h
    rfl
  · obtain ⟨x, y, f, g, n, rfl, hx, hy, of, og, nf, ng, kf, kg, hdl, hw, hlen, hex, q⟩ := h
    refine ⟨_, (pss_cons (ps_expr (pe_call cF.G hr (by rfl) cF.g cF.kp cF.b .nil pass0 (pa_cons (pv 0) pa_nil)))
      (pss_cons (ps_expr (pe_call cF.G hr (by rfl) cF.g cF.kp cF.b .nil pass0 (pa_cons (pv 1) pa_nil)))
      (pss_cons (ps_set (i := 2) scRem.nd rfl (.inl rfl) (pe_call cB.G hr (by rfl) cB.g cB.kp cB.b .nil pass0 (pa_cons (pv 0) (pa_cons (pv 1) pa_nil))))
      (pss_cons (ps_if (pt_not (pt_truth (pv 2) (fun _ => rfl)))
          (pss_one (ps_ret pe_non)) pss_nil)
      (pss_cons (ps_set (i := 3) scRem.nd rfl (.inr rfl) (pe_callB (cr_min rfl) (by rfl) Z.min (by decide +kernel) (pa_cons (pe_lc (own := [("wanted", 4)]) (g := (gName 4)) (tt := tYes) rfl scRem.nd (pi_list (pv 2)) (blkOk_by (own := [("wanted", 4)]) (N := ["first", "second", "forms", "least", "wanted"]) (sc := defScope sRemainder) (by decide +kernel)) (fun _ _ _ _ _ => (pg_name (i := 4) scRem.nd rfl (.inl rfl))) (fun _ _ _ _ _ => pts_nil) (fun _ _ _ _ _ => (pe_call cS.G hr (by rfl) cS.g cS.kp cS.b .nil pass0 (pa_cons (pv 4) pa_nil)))) pa_nil)))
      (pss_one (ps_ret (pe_callB (call_minS rfl) (by rfl) Z.min (by decide +kernel) (pa_cons (pe_lc (own := [("wanted", 4)]) (g := (gName 4)) (tt := _) rfl scRem.nd (pi_list (pv 2)) (blkOk_by (own := [("wanted", 4)]) (N := ["first", "second", "forms", "least", "wanted"]) (sc := defScope sRemainder) (by decide +kernel)) (fun _ _ _ _ _ => (pg_name (i := 4) scRem.nd rfl (.inl rfl))) (fun _ _ _ _ _ => (pts_one (pt_cmpR op_eq (pe_call cS.G hr (by rfl) cS.g cS.kp cS.b .nil pass0 (pa_cons (pv 4) pa_nil)) (pv 3) (nomark _)))) (fun _ _ _ _ _ => (pe_call cH.G hr (by rfl) cH.g cH.kp cH.b .nil pass0 (pa_cons (pv 4) pa_nil)))) pa_nil))))))))), ?_⟩
    refine ⟨_, rfl, x, f, n, rfl, hx, of, fun H1 s1 => ⟨_, rfl, y, g, n, rfl, hy.same s1, og, fun H2 s2 => ?_⟩⟩
    have s12 := s1.trans s2
    refine ⟨_, rfl, _, rfl, x, y, f, g, rfl, hx.same s12, hy.same s12, nf, ng, kf, kg, hdl, fun p H3 s3 ⟨us, hp, hus⟩ => ?_⟩
    have sA := s12.trans s3
    generalize hcs : btw dv f g = cs at hus hw hlen hex q
    refine ⟨_, rfl, !us.isEmpty, .inl ⟨us, .inl (.inl hp), rfl⟩, ?_⟩
    have hul := hus.len
    by_cases hue : us = []
    · subst hue
      have : cs = [] := List.eq_nil_of_length_eq_zero hul.symm
      exact iteT ((q _ sA).1 this)
    · have hne : cs ≠ [] := fun z => by
        rw [z] at hul
        exact hue (List.eq_nil_of_length_eq_zero hul)
      have hb : us.isEmpty = false := by
        cases us with
        | nil => exact absurd rfl hue
        | cons u us => rfl
      rw [hb]
      refine iteF ?_
      refine ⟨_, rfl, p, rfl, ⟨_, .inl (.inl hp)⟩, fun D nD => ?_⟩
      refine lc_it (walk_list (xs := us)) (fun i H' => Same H3 H' ∧ ∃ ss, H' D = some (.lst (ss.map V.int)) ∧ SsOf (cs.take i) ss) ⟨same_upd nD, [], upd_same, .nil⟩ (fun i H' _ hQ => .inl (.inl (hQ.1 _ _ hp))) ?_ ?_
      · rintro i u H4 H5 hi ⟨s4, ss, hD, hss⟩ ⟨rfl, hu⟩
        obtain ⟨c, hc, hv⟩ := hus.get hu
        obtain ⟨nc, kc⟩ := hw c (List.mem_of_getElem? hc)
        refine ⟨rfl, _, rfl, _, c, rfl, hv.same s4, nc, kc, fun fs H6 s6 hpf => ?_⟩
        refine ⟨_, s6 _ _ hD, ?_, sameOwnP (s4.trans s6) nD, ss ++ [stepsF c fs], by rw [upd_same, List.map_append]; rfl, ?_⟩
        · have := hss.len
          rw [List.length_take] at this
          rw [List.length_map, sizeLine_eq]
          omega
        · rw [List.take_succ, hc]
          exact hss.snoc ⟨fs, hpf, rfl⟩
      · rintro H4 ⟨s4, ss, hD, hss⟩
        rw [hul, List.take_length] at hss
        have hsl := hss.len
        refine ⟨D, ss, rfl, .inl (.inl hD), by have := List.length_pos_iff.mpr hne; omega, fun m hm hmin => ?_⟩
        obtain ⟨w0, hw0, fs0, hpf0, rfl⟩ := hss.of m hm
        have hleast : ∀ c ∈ cs, ∀ fs, Pf c fs → stepsF w0 fs0 ≤ stepsF c fs := fun c hc fs hf => by
          obtain ⟨s', hs', hst⟩ := hss.all c hc
          rw [(show StOf c (stepsF c fs) from ⟨fs, hf, rfl⟩).uniq hst]
          exact hmin s' hs'
        have hp4 := s4 _ _ hp
        obtain ⟨wm, hwm, mm, hmm, hlow⟩ := hex hne
        obtain ⟨sm', _, fsm, hpfm, _⟩ := hss.all wm hwm
        have hbd : stepsF w0 fs0 ≤ 1000000 := by
          have h1 := hleast wm hwm fsm hpfm
          have h2 := steps_le hlow (hpfm.prim (hw wm hwm).1)
          omega
        generalize hls : stepsF w0 fs0 = least at hleast hbd
        refine ⟨_, rfl, p, rfl, ⟨_, .inl (.inl hp4)⟩, fun D2 nD2 => ?_⟩
        refine lc_it (walk_list (xs := us)) (fun i H' => Same H4 H' ∧ ∃ zs : List Str, H' D2 = some (.lst (zs.map V.str)) ∧ zs.length ≤ i ∧ (∀ z ∈ zs, ∃ c ∈ cs, ∃ fs, Pf c fs ∧ stepsF c fs = least ∧ z.cps.toList = shc c fs) ∧ ∀ c ∈ cs.take i, ∀ fs, Pf c fs → stepsF c fs = least → ∃ z ∈ zs, z.cps.toList = shc c fs) ⟨same_upd nD2, [], upd_same, Nat.le_refl _, (fun z h => by cases h), (fun z h => by cases h)⟩ (fun i H' _ hQ => .inl (.inl (hQ.1 _ _ hp4))) ?_ ?_
        · rintro i u H5 H6 hi ⟨s5, zs, hD2, hzl, hz1, hz2⟩ ⟨rfl, hu⟩
          obtain ⟨c, hc, hv⟩ := hus.get hu
          have hcm := List.mem_of_getElem? hc
          obtain ⟨nc, kc⟩ := hw c hcm
          have hv5 := (hv.same s4).same s5
          refine ⟨rfl, _, rfl, _, c, rfl, hv5, nc, kc, fun fs H7 s7 hpf => ?_⟩
          have htk : cs.take (i + 1) = cs.take i ++ [c] := by rw [List.take_succ, hc]; rfl
          refine ⟨_, rfl, rfl, _, rfl, ?_⟩
          by_cases he : stepsF c fs = least
          · rw [decide_eq_true (show V.int (stepsF c fs) = V.int least by rw [he])]
            obtain ⟨nn, hok⟩ := nn_ok nc
            refine iteT ⟨_, rfl, _, c, nn, 1000000, rfl, hv5.same s7, hok, kc, fac_low (hpf.fac nc) (by omega), by decide, fun z fs2 H8 s8 hpf2 hz => ?_⟩
            have e2 := hpf2.uniq hpf
            subst e2
            have s78 := s7.trans s8
            refine ⟨_, s78 _ _ hD2, ?_, sameOwnP (s5.trans s78) nD2, zs ++ [z], by rw [upd_same, List.map_append]; rfl, by rw [List.length_append]; exact Nat.add_le_add_right hzl 1, fun y hy => ?_, fun c2 hc2 fs3 hf3 he3 => ?_⟩
            · rw [List.length_map, sizeLine_eq]
              omega
            · rcases List.mem_append.mp hy with h | h
              · exact hz1 y h
              · rw [List.mem_singleton.mp h]
                exact ⟨c, hcm, fs2, hpf, he, hz⟩
            · rw [htk] at hc2
              rcases List.mem_append.mp hc2 with h | h
              · obtain ⟨y, hy, hyt⟩ := hz2 c2 h fs3 hf3 he3
                exact ⟨y, List.mem_append_left _ hy, hyt⟩
              · rw [List.mem_singleton.mp h] at hf3 ⊢
                rw [hf3.uniq hpf]
                exact ⟨z, List.mem_append_right _ (List.mem_cons_self ..), hz⟩
          · rw [decide_eq_false (show ¬ V.int (stepsF c fs) = V.int least from fun z => he (V.int.inj z))]
            refine iteF ⟨s5.trans s7, zs, s7 _ _ hD2, by omega, hz1, fun c2 hc2 fs3 hf3 he3 => ?_⟩
            rw [htk] at hc2
            rcases List.mem_append.mp hc2 with h | h
            · exact hz2 c2 h fs3 hf3 he3
            · rw [List.mem_singleton.mp h] at hf3 he3
              rw [hf3.uniq hpf] at he3
              exact absurd he3 he
        · rintro H5 ⟨s5, zs, hD2, hzl, hz1, hz2⟩
          rw [hul, List.take_length] at hz2
          obtain ⟨z0, hz0, _⟩ := hz2 w0 hw0 fs0 hpf0 hls
          refine ⟨D2, zs, rfl, .inl (.inl hD2), List.length_pos_iff.mpr (fun z => by rw [z] at hz0; cases hz0), fun t ht hmin2 => ?_⟩
          refine (q _ ((sA.trans s4).trans s5)).2 t ?_
          obtain ⟨c, hc, fs, h1, h2, h3⟩ := hz1 t ht
          refine ⟨least, ⟨c, hc, fs, h1, h2, h3⟩, hleast, fun c2 hc2 fs2 hf2 he2 => ?_⟩
          obtain ⟨y, hy, hyt⟩ := hz2 c2 hc2 fs2 hf2 he2
          rw [← hyt]
          exact hmin2 y hy
end
end Lw
namespace Lw
open PySem PySem.Spec L2 Lx
theorem ex_primes : ∀ (n k : Nat), k ≤ n → 1 ≤ k → ∃ fs : List Nat, (∀ p ∈ fs, Pm p) ∧ pr fs = k
  | 0, k, h1, h2 => by omega
  | n + 1, k, h1, h2 => by
    by_cases k1 : k = 1
    · exact ⟨[], (fun p h => by cases h), k1.symm⟩
    · by_cases hp : Pm k
      · exact ⟨[k], (fun p h => by rw [List.mem_singleton.mp h]; exact hp), by show k * 1 = k; rw [Nat.mul_one]⟩
      · have : ∃ d, d ∣ k ∧ d ≠ 1 ∧ d ≠ k := Classical.byContradiction fun z => hp ⟨by omega, fun d hd => Classical.byContradiction fun y => z ⟨d, hd, fun e => y (.inl e), fun e => y (.inr e)⟩⟩
        obtain ⟨d, ⟨e, he⟩, d1, dk⟩ := this
        have d0 : d ≠ 0 := fun z => by rw [z, Nat.zero_mul] at he; omega
        have e0 : e ≠ 0 := fun z => by rw [z, Nat.mul_zero] at he; omega
        have e1 : e ≠ 1 := fun z => dk (by rw [z, Nat.mul_one] at he; exact he.symm)
        have hd2 : d < k := by
          have : d * 2 ≤ d * e := Nat.mul_le_mul_left _ (by omega)
          omega
        have he2 : e < k := by
          have : 2 * e ≤ d * e := Nat.mul_le_mul_right _ (by omega)
          omega
        obtain ⟨fs, f1, f2⟩ := ex_primes n d (by omega) (by omega)
        obtain ⟨gs, g1, g2⟩ := ex_primes n e (by omega) (by omega)
        refine ⟨fs ++ gs, fun p hp => ?_, by rw [pr_app, f2, g2, he]⟩
        rcases List.mem_append.mp hp with h | h
        · exact f1 p h
        · exact g1 p h
theorem pr_perm {a b : List Nat} (h : a.Perm b) : pr a = pr b := by
  induction h with
  | nil => rfl
  | cons x _ ih => show x * _ = x * _; rw [ih]
  | swap x y l => show y * (x * pr l) = x * (y * pr l); rw [← Nat.mul_assoc, ← Nat.mul_assoc, Nat.mul_comm y x]
  | trans _ _ h1 h2 => exact h1.trans h2
theorem ex_pf {k : Nat} (h : 1 ≤ k) : ∃ fs, IsPf k fs := by
  obtain ⟨fs, h1, h2⟩ := ex_primes k k (Nat.le_refl _) h
  have hp := List.mergeSort_perm fs (fun a b => decide (a ≤ b))
  refine ⟨fs.mergeSort (fun a b => decide (a ≤ b)), fun p hq => h1 p (hp.mem_iff.mp hq), (pr_perm hp).trans h2, ?_⟩
  have := List.pairwise_mergeSort (le := fun a b : Nat => decide (a ≤ b)) (fun a b c h1 h2 => by
    have := of_decide_eq_true h1
    have := of_decide_eq_true h2
    exact decide_eq_true (by omega)) (fun a b => by
    by_cases h : a ≤ b
    · simp [h]
    · have : b ≤ a := by omega
      simp [this]) fs
  exact this.imp fun h => of_decide_eq_true h
theorem ex_Pf {f : Fm} (h : NN f) : ∃ fs, Pf f fs := by
  cases f with
  | keep b a => exact ⟨[], rfl⟩
  | lf b a k c => exact ex_pf (by have := h.2.2.1; omega)
  | cr b a k => exact ex_pf (by have := h.2.2; omega)
/-- the text that remainder tells leads from f to g .. -/
theorem RemT.leads {dv : Int → List Int} (D : DvOk dv) {f g : Fm} (nf : NN f) (ng : NN g) {t : Str} (h : RemT (btw dv f g) t.cps.toList) : ChOk t ∧ f.both (formOf t) = g := by
  obtain ⟨s, ⟨w, hw, fs, h1, h2, h3⟩, _⟩ := h
  obtain ⟨e, nw⟩ := btw_leads (fun q u a b => D.of q u a b) nf ng hw
  refine ⟨fun c hc => ?_, ?_⟩
  · rw [h3] at hc
    exact shc_ok c hc
  · show f.both (formL t.cps.toList) = g
    rw [h3, shc_form (h1.fac nw)]
    exact e
/-- .. and no chain that does is shorter -/
theorem RemT.min {dv : Int → List Int} (D : DvOk dv) {f g : Fm} (nf : NN f) (ng : NN g) {t x : Str} (h : RemT (btw dv f g) t.cps.toList) (hx : ChOk x) (e : f.both (formOf x) = g) : t.cps.size ≤ x.cps.size := by
  obtain ⟨s, ⟨w, hw, fs, h1, h2, h3⟩, h4, _⟩ := h
  obtain ⟨w2, hw2, hl⟩ := btw_min (dv := dv) (fun q u a b c => D.mem q u a b c) nf (low_form _ x.cps.toList (Array.length_toList ..) hx)
  have hw3 : w2 ∈ btw dv f g := by
    rw [← e]
    exact hw2
  obtain ⟨fs2, hf2⟩ := ex_Pf (low_nn hl)
  have a1 := h4 w2 hw3 fs2 hf2
  have a2 := steps_le hl (hf2.prim (low_nn hl))
  have nw := (btw_leads (fun q u a b => D.of q u a b) nf ng hw).2
  have a3 := shc_len (h1.fac nw)
  rw [← h3, Array.length_toList] at a3
  omega
/-- if a chain leads there is a form of the list -/
theorem btw_ne {dv : Int → List Int} (D : DvOk dv) {f g : Fm} (nf : NN f) {x : Str} (hx : ChOk x) (e : f.both (formOf x) = g) : ∃ w ∈ btw dv f g, LowB w x.cps.size := by
  obtain ⟨w2, hw2, hl⟩ := btw_min (dv := dv) (fun q u a b c => D.mem q u a b c) nf (low_form _ x.cps.toList (Array.length_toList ..) hx)
  rw [← e]
  exact ⟨w2, hw2, hl⟩
/-- the divisors of a number, ascending -/
def dvs (q : Int) : List Int := ((List.range (q.toNat + 1)).filter fun d => decide (1 ≤ d) && decide (d ∣ q.toNat)).map fun n : Nat => (n : Int)
theorem dvs_ok : DvOk dvs := by
  refine ⟨fun q u u0 q0 hu => ?_, fun q u q0 hu => ?_⟩
  · obtain ⟨u, rfl⟩ := Int.eq_ofNat_of_zero_le (Int.le_of_lt u0)
    obtain ⟨q, rfl⟩ := Int.eq_ofNat_of_zero_le (Int.le_of_lt q0)
    have hd : u ∣ q := Int.natCast_dvd_natCast.mp hu
    have hle := Nat.le_of_dvd (by omega) hd
    refine List.mem_map.mpr ⟨u, List.mem_filter.mpr ⟨List.mem_range.mpr (by rw [Int.toNat_natCast]; omega), ?_⟩, rfl⟩
    rw [Int.toNat_natCast, decide_eq_true (by omega : 1 ≤ u), decide_eq_true hd]
    rfl
  · obtain ⟨n, hn, rfl⟩ := List.mem_map.mp hu
    obtain ⟨_, h2⟩ := List.mem_filter.mp hn
    rw [Bool.and_eq_true] at h2
    have h3 := of_decide_eq_true h2.1
    have h4 := of_decide_eq_true h2.2
    obtain ⟨q, rfl⟩ := Int.eq_ofNat_of_zero_le (Int.le_of_lt q0)
    rw [Int.toNat_natCast] at h4
    exact ⟨by omega, Int.natCast_dvd_natCast.mpr h4⟩
end Lw
namespace Lw
open PySem PySem.Spec PyProof.Rows L2 Lx
/-- the empty set as it is made -/
abbrev eset (w : World) : Obj := { cls := .type "set", dict := none, data := .set #[] 0 (.fresh 0 0 (!w.params.followText "set-order")) }
section
variable {P : Program} {w : World} {A : Around} {E : Value → Shared → Prop} {s : Shared}
/-- the set is filled from a list of whole numbers -/
theorem fill_list {l : Addr} {items : Array Value} (ns : List Int) {R : Result → Shared → Prop} (hh : A.handled = none) (hl : s.heap.IsList l items) (hit : IntsAre items.toList ns) (hb : ns.length + 1 < scanBound)
    {I S : Addr} {h0 : Heap} {tk : Nat} (hI : h0.IsListIter I l 0) (hne : l ≠ I) (hS : S ∉ [I, l]) (hl0 : h0.IsList l items) (he : h0.get? S = some (eset w))
    (h : ∀ s' c, Moved [S, I] (fun a b => b = a) { s with heap := h0, toks := tk } s' → c ≤ ns.length → SetR w s'.heap S (fun j => decide (j ∈ ns)) c → R (.ok (.ret .none)) s') :
    codeAny (model P w) A (.builtin "set.update.loop" ⟨[.ref S, .ref I], []⟩) R { s with heap := h0, toks := tk } := by
  have hz : items.size = ns.length := (Array.length_toList ..).symm.trans (IntsAre.length hit)
  have hv : ∀ (i : Nat) (v : Value), items[i]? = some v → ∃ k t, ns[i]? = some k ∧ v = .int k t := fun i v hv => by
    have hi : i < ns.length := by rw [← hz]; exact (Array.getElem?_eq_some_iff.mp hv).1
    obtain ⟨t, e⟩ := IntsAre.int_at hit i v (by rw [Array.getElem?_toList]; exact hv)
    refine ⟨ns[i], t, List.getElem?_eq_getElem hi, ?_⟩
    rw [e, List.getD_eq_getElem?_getD, List.getElem?_eq_getElem hi]
    rfl
  exact set_update_ints ((Walks.list (A := A.in1) (by simp [hh]) I l hne items).toS) S hS ns hz hb hv (items.size - 0) 0 _ (by omega) (Nat.zero_le _) ⟨hI, hl0⟩ ⟨0, Nat.le_refl 0, setR_new_at he⟩ (fun s' c hm hc hR => h s' c hm (hz ▸ hc) hR)
/-- set(xs), xs a list of whole numbers -/
theorem set_of_list {l : Addr} {items : Array Value} (ns : List Int) {Q : Value → Shared → Prop} (hh : A.handled = none) (hl : s.heap.IsList l items) (hit : IntsAre items.toList ns) (hb : ns.length + 1 < scanBound)
    (h : ∀ (h' : Heap) (tk c : Nat), SetR w h' s.heap.objs.size (fun j => decide (j ∈ ns)) c → c ≤ ns.length → (∀ b o, s.heap.get? b = some o → h'.get? b = some o) → Q (.ref s.heap.objs.size) { s with heap := h', toks := tk }) :
    wpAny (model P w) A (call (.type "set") [.ref l]) Q E s := by
  have mro := F.called_set.mro
  have made := F.called_set.made
  have sub := F.called_set.sub
  have nty := F.called_set.notType
  have can := F.called_set.canCreate
  have tcl := F.typeCall_set_1 (.ref l)
  obtain ⟨cm, ct, mro⟩ := mro
  refine wpAny_call (codeAny_of_tree (wpAny_pure ⟨Code.quiet_builtin _ (by decide +kernel), codeAny_builtin F.entry_type_call ?_⟩))
  rw [Around.under_plain (weight_type_call_type "set" [.ref l] []) rfl]
  repeat (any_goals (first | assumption | wp_step))
  have hnew : (s.heap.push (eset w)).get? s.heap.objs.size = some (eset w) := Heap.get?_push_size _ rfl
  refine codeAny_mono (code_set_led1 (.ref l) (E := E) (Q₁ := fun o t => o = .ref s.heap.objs.size ∧ t = { s with heap := s.heap.push (eset w) }) ⟨rfl, rfl⟩) fun r t hr => ?_
  match r, hr with
  | .error e, hr => exact hr
  | .ok (.ret o), hr =>
    obtain ⟨rfl, rfl⟩ := hr
    have ty : Shared.TypeIs { s with heap := s.heap.push (eset w) } (.ref s.heap.objs.size) "set" := ⟨_, hnew, rfl⟩
    have il := F.called_set.init.lookup
    have ib := F.called_set.init.bind (.ref s.heap.objs.size)
    repeat (any_goals (first | assumption | wp_step))
    refine codeAny_mono (codeAny_call_builtin (R := wants (fun v t => v = .none ∧ ∃ h' tk c, t = { s with heap := h', toks := tk } ∧ SetR w h' s.heap.objs.size (fun j => decide (j ∈ ns)) c ∧ c ≤ ns.length ∧ ∀ b o, s.heap.get? b = some o → h'.get? b = some o) E) F.called_set.init.plain F.entry_set_init (check_set_init_1 ty ?_)) fun r2 t2 hr2 => ?_
    · have lold : ∀ {b : Addr} {o : Obj}, s.heap.get? b = some o → (s.heap.push (eset w)).get? b = some o := fun e => Heap.get?_push_of_some _ e
      have hl1 : (s.heap.push (eset w)).IsList l items := hl.push _
      obtain ⟨lo, hlo, hlc, ln, hld⟩ := id hl
      have hlo1 := lold hlo
      obtain ⟨c0, d0, da0, sl0⟩ := lo
      simp only at hlc hld
      subst hlc hld
      have q1 := F.sub_list_set
      have q2 := F.sub_list_frozenset
      have q3 : (Value.type "list" == Value.type "dict") = false := by decide
      unfold Builtin.«set.__init__» noKeywords Builtin.Frozenset.updateFrom
      generalize hit' : pyIter = it'
      wp_walk
      subst hit'
      refine wpAny_pyIter_list hl1 (wpAny_bind (wpAny_runValue ?_))
      have hlt : l < s.heap.objs.size := Heap.lt_size hlo
      have hsz : (s.heap.push (eset w)).objs.size = s.heap.objs.size + 1 := Heap.size_push ..
      refine fill_list ns (A := A.in1.in1) (s := s) (by simp [hh]) hl hit hb (I := (s.heap.push (eset w)).objs.size) (S := s.heap.objs.size) (tk := s.toks) ⟨_, Heap.get?_push_size _ rfl, rfl, rfl⟩ (Nat.ne_of_lt (by rw [hsz]; exact Nat.lt_succ_of_lt hlt)) (by rw [hsz]; simp only [List.mem_cons, List.not_mem_nil, or_false, not_or]; exact ⟨Nat.ne_of_lt (Nat.lt_succ_self _), Nat.ne_of_gt hlt⟩) (hl1.push _) (Heap.get?_push_of_some _ hnew) fun s' c hm hc hR => ?_
      obtain ⟨h', g', d', tk', os'⟩ := s'
      have e1 : g' = s.gens := hm.gens
      have e2 : d' = s.drawn := hm.drawn
      have e3 : os' = s.os := hm.os
      subst e1 e2 e3
      refine wpAny_pure (wpAny_pure ⟨rfl, h', tk', c, rfl, hR, hc, fun b o e => ?_⟩)
      have hb0 : b < s.heap.objs.size := Heap.lt_size e
      exact hm.heap b o (by rw [hsz]; simp only [List.mem_cons, List.not_mem_nil, or_false, not_or]; exact ⟨Nat.ne_of_lt hb0, Nat.ne_of_lt (Nat.lt_succ_of_lt hb0)⟩) (Heap.get?_push_of_some _ (lold e))
    · match r2, hr2 with
      | .error e, hr2 => exact hr2
      | .ok (.ret v), hr2 =>
        obtain ⟨rfl, h', tk, c, rfl, hR, hc, hk⟩ := hr2
        refine wpAny_pure ?_
        show wpAny _ _ (ret (Value.ref s.heap.objs.size)) _ _ _
        exact wpAny_pure (h h' tk c hR hc hk)
end
/-- set(xs), xs a list of whole numbers -/
def rSetI (K : PySem.W.Frag) (w : World) : List V → Hp → VK → Prop := fun xs H Q => ∃ (l : Addr) (ns : List Int), xs = [V.ref l] ∧ SqL K H l (ns.map V.int) ∧ ns.length + 1 < scanBound ∧ ∀ a c, H a = none → c ≤ ns.length → Q (.ref a) (upd H a (SetO w a (fun j => decide (j ∈ ns)) c))
theorem cr_setI {X : Cx} (hc : X.calm = true) : CallR X (.type "set") (rSetI X.K X.w) := by
  intro pins s σ H xs us Q I r h
  obtain ⟨l, ns, rfl, hl, hb, q⟩ := h
  rw [Vals.ref1 r]
  obtain ⟨its, rv, pl, hz⟩ := I.list hl
  refine set_of_list ns (I.ok.hd hc) pl.isList rv.ints hb fun h' tk c R hcn k => ?_
  exact ⟨.ref s.heap.objs.size, upd H s.heap.objs.size (SetO X.w s.heap.objs.size (fun j => decide (j ∈ ns)) c), I.laid (t' := tk) k (Nat.le_refl _) (setO_new R), rfl, q _ c (I.hok.fresh (Nat.le_refl _)) hcn⟩
end Lw
namespace Lw
open PySem PySem.Spec PyProof.Rows L2 Lx
theorem set_count {w : World} {h : Heap} {a : Addr} {ns L : List Int} {c : Nat} (R : SetR w h a (fun j => decide (j ∈ ns)) c) (nd : L.Nodup) (hL : ∀ k, k ∈ L ↔ k ∈ ns) : c = L.length := by
  obtain ⟨o, es, ep, t, ho, hex, hd, g, nk, hm, hb, hf, hn, hr, hl⟩ := R
  have hp : (es.toList.map keyOf).Perm L := by
    refine (List.perm_ext_iff_of_nodup nk nd).mpr fun k => ?_
    rw [← hm k, hL k]
    exact decide_eq_true_iff
  have := hp.length_eq
  rw [List.length_map, Array.length_toList] at this
  omega
/-- set(xs), xs a list of whole numbers, its count known -/
def rSetL (K : PySem.W.Frag) (w : World) : List V → Hp → VK → Prop := fun xs H Q => ∃ (l : Addr) (ns L : List Int), xs = [V.ref l] ∧ SqL K H l (ns.map V.int) ∧ ns.length + 1 < scanBound ∧ L.Nodup ∧ (∀ k, k ∈ L ↔ k ∈ ns) ∧ ∀ a, H a = none → Q (.ref a) (upd H a (SetO w a (fun j => decide (j ∈ ns)) L.length))
theorem cr_setL {X : Cx} (hc : X.calm = true) : CallR X (.type "set") (rSetL X.K X.w) := by
  intro pins s σ H xs us Q I r h
  obtain ⟨l, ns, L, rfl, hl, hb, nd, hL, q⟩ := h
  rw [Vals.ref1 r]
  obtain ⟨its, rv, pl, hz⟩ := I.list hl
  refine set_of_list ns (I.ok.hd hc) pl.isList rv.ints hb fun h' tk c R hcn k => ?_
  have e := set_count R nd hL
  subst e
  exact ⟨.ref s.heap.objs.size, upd H s.heap.objs.size (SetO X.w s.heap.objs.size (fun j => decide (j ∈ ns)) L.length), I.laid (t' := tk) k (Nat.le_refl _) (setO_new R), rfl, q _ (I.hok.fresh (Nat.le_refl _))⟩
end Lw
/-! sorted(set of whole numbers), any number of them -/
namespace Lw
open PySem PySem.Spec PyProof.Rows L2 Lx
section
variable {P : Program} {w : World} {A : Around} {E : Value → Shared → Prop} {s : Shared} {a : Addr}
theorem sorted_setA {S : Int → Bool} {n : Nat} {Q : Value → Shared → Prop} (R : SetR w s.heap a S n) (hh : A.handled = none) (hz' : n ≤ sizeLine)
    (hQ : ∀ s' p (out : Array Value) (c : Nat) (ns : List Int), (∀ b o, s.heap.get? b = some o → s'.heap.get? b = some o) → s'.gens = s.gens → s'.os = s.os → s.heap.objs.size ≤ p →
      s'.heap.get? p = some (seqObj "list" out c) → IntsAre out.toList ns → ns.Pairwise (· < ·) → (∀ k, k ∈ ns ↔ S k = true) → ns.length = n → Q (.ref p) s') :
    wpAny (model P w) A (call (.builtin "sorted") [.ref a]) Q E s := by
  obtain ⟨o, es, ep, t, ho, hex, hd, g, nd, hm, hb, hf, hn, hr, hl⟩ := R
  refine Calls.call_function_entry kind_sorted plain_sorted entry_sorted (args_sorted1 _) ?_
  unfold Builtin.«sorted»
  refine wpAny_bind (m := checkCount "sorted" 1 1 _) (wpAny_pure ?_)
  refine wpAny_bind (collect_set (A := A.in1) hh ⟨o, ho, hex.1, hd⟩ hf hb hr hl fun s1 vs k1 hz g1 o1 pm => ?_)
  have hvl : vs.length = n := by rw [pm.length_eq, List.length_map, Array.length_toList]; exact hn
  have hI : IntsAre vs (vs.map Builtin.Re.reRawOf) := ints_of vs fun v hv => by
    obtain ⟨e, he, q⟩ := List.mem_map.mp (pm.mem_iff.mp hv)
    obtain ⟨k, tk, h1, _⟩ := g e he
    exact ⟨k, tk, by rw [← q]; exact h1⟩
  have pk : (vs.map Builtin.Re.reRawOf).Perm (es.toList.map keyOf) := by
    have q := pm.map Builtin.Re.reRawOf
    rw [List.map_map] at q
    exact q
  refine wpAny_bind (wpAny_newList ?_ (by rw [hvl]; exact hz'))
  have hoL : (s1.heap.push (seqObj "list" vs.toArray 0)).get? s1.heap.objs.size = some (seqObj "list" vs.toArray 0) := Heap.get?_push_size _ rfl
  refine wpAny_bind (wpAny_holding (wpAny_call_entry slot_list_sort ⟨_, hoL, rfl⟩ entry_list_sort (SrtO.list_sort_ord SrtO.swo_int hoL (by rw [hvl]; exact hz') (fun h2 => SrtO.ints_sortable hI h2) fun out hs hb => ⟨_, rfl, ?_⟩) (args_list_sort _)))
  obtain ⟨b1, b2, b3⟩ := SrtO.ints_out hI hs hb
  obtain ⟨c, hc⟩ := sortedHeap_at (vs := vs) (out := out.toArray) hoL
  have pn : (out.map SrtO.iv).Perm (es.toList.map keyOf) := b2.trans pk
  refine wpAny_pure ⟨_, rfl, hQ _ s1.heap.objs.size out.toArray c _ (fun b u e => ?_) g1 o1 hz hc (by simpa using b1) (lt_of_le_nodup _ b3 (pn.nodup_iff.mpr nd)) (fun k => by rw [pn.mem_iff, ← hm k]) ?_⟩
  · have q := k1 b u e
    have hlt := Heap.lt_size q
    show (sortedHeap (s1.heap.push (seqObj "list" vs.toArray 0)) s1.heap.objs.size vs out.toArray).get? b = some u
    rw [sortedHeap_old (Nat.ne_of_lt hlt) (by rw [size_push']; exact Nat.lt_succ_of_lt hlt)]
    exact Heap.get?_push_of_some _ q
  · rw [pn.length_eq, List.length_map, Array.length_toList]; exact hn
end
def rSortedSetA (w : World) : List V → Hp → VK → Prop := fun vs H Q => ∃ (a : Addr) (S : Int → Bool) (n : Nat), vs = [V.ref a] ∧ H a = some (SetO w a S n) ∧ n ≤ sizeLine ∧
  ∀ (ns : List Int) (p : Addr), ns.Pairwise (· < ·) → (∀ k : Int, k ∈ ns ↔ S k = true) → ns.length = n → H p = none → Q (.ref p) (upd H p (.lst (ns.map V.int)))
theorem cr_sortedSetA {X : Cx} (hc : X.calm = true) : CallR X (.builtin "sorted") (rSortedSetA X.w) := by
  intro pins s σ H vs us Q I r h
  obtain ⟨a, S, n, rfl, ha, hz', q⟩ := h
  have R := setO_get I ha
  rw [Vals.ref1 r]
  refine sorted_setA R (I.ok.hd hc) hz' fun s' p out c ns k g o hp hg hi hs hm hl => ?_
  have hlen : (ns.map V.int).length ≤ sizeLine := by rw [List.length_map, hl]; exact hz'
  have hn : H p = none := I.hok.fresh hp
  have J : Inv X pins σ (upd H p (.lst (ns.map V.int))) { s with heap := s'.heap, gens := s'.gens, drawn := s'.drawn, toks := s'.toks } :=
    I.call (ch := []) (Un.laid k hp hn) (I.hok.laid k hp ⟨hlen, out.toList, c, vals_of_ints hi, hg⟩) (by rw [g]; exact I.bare) (fun _ z => nomatch z)
  have e : s' = { s with heap := s'.heap, gens := s'.gens, drawn := s'.drawn, toks := s'.toks } := by
    cases s'
    cases s
    cases o
    rfl
  rw [e]
  exact ⟨.ref p, _, J, rfl, q ns p hs hm hl hn⟩
end Lw
namespace Lw
open PySem PySem.Spec L2 Lx
theorem scDv : FnScope ["k", "found", "prime", "divisor"] ["k"] (defScope sDivisors) := ⟨rfl, rfl, rfl, by decide +kernel, rfl, by decide +kernel, by decide +kernel⟩
structure DvF (mg : Str → Option Value) : Prop where
  sorted : mg "sorted" = none
  set : mg "set" = none
/-- the ascending divisors of n -/
structure IsDv (n : Nat) (F : List Int) : Prop where
  up : F.Pairwise (· < ·)
  mem : ∀ x : Int, x ∈ F ↔ 0 < x ∧ x ∣ (n : Int)
theorem IsDv.nd {n : Nat} {F : List Int} (h : IsDv n F) : F.Nodup := h.up.imp fun h => Int.ne_of_lt h
theorem up_uniq : ∀ {a b : List Int}, a.Pairwise (· < ·) → b.Pairwise (· < ·) → (∀ x, x ∈ a ↔ x ∈ b) → a = b
  | [], [], _, _, _ => rfl
  | [], y :: b, _, _, h => absurd ((h y).mpr (List.mem_cons_self ..)) (by simp)
  | x :: a, [], _, _, h => absurd ((h x).mp (List.mem_cons_self ..)) (by simp)
  | x :: a, y :: b, ha, hb, h => by
    obtain ⟨a1, a2⟩ := List.pairwise_cons.mp ha
    obtain ⟨b1, b2⟩ := List.pairwise_cons.mp hb
    have e : x = y := by
      rcases List.mem_cons.mp ((h x).mp (List.mem_cons_self ..)) with h1 | h1
      · exact h1
      · rcases List.mem_cons.mp ((h y).mpr (List.mem_cons_self ..)) with h2 | h2
        · exact h2.symm
        · have := b1 x h1
          have := a1 y h2
          omega
    subst e
    rw [up_uniq a2 b2 fun z => ⟨fun hz => by
      rcases List.mem_cons.mp ((h z).mp (List.mem_cons_of_mem _ hz)) with q | q
      · have := a1 z hz
        omega
      · exact q, fun hz => by
      rcases List.mem_cons.mp ((h z).mpr (List.mem_cons_of_mem _ hz)) with q | q
      · have := b1 z hz
        omega
      · exact q⟩]
theorem dvs_is {q : Int} (h : 0 < q) : IsDv q.toNat (dvs q) := by
  refine ⟨?_, fun x => ⟨fun hx => ?_, fun ⟨x0, hx⟩ => ?_⟩⟩
  · unfold dvs
    refine List.pairwise_map.mpr ((List.Pairwise.filter _ List.pairwise_lt_range).imp fun h => ?_)
    omega
  · obtain ⟨a, b⟩ := dvs_ok.of q x h hx
    exact ⟨a, by rw [Int.toNat_of_nonneg (Int.le_of_lt h)]; exact b⟩
  · rw [Int.toNat_of_nonneg (Int.le_of_lt h)] at hx
    exact dvs_ok.mem q x x0 h hx
theorem dv_step {n p : Nat} (hp : Pm p) (hn : 0 < n) (x : Int) : (0 < x ∧ x ∣ ((n * p : Nat) : Int)) ↔ (0 < x ∧ x ∣ (n : Int)) ∨ ∃ d : Int, (0 < d ∧ d ∣ (n : Int)) ∧ x = (p : Int) * d := by
  have p0 : 0 < p := by have := hp.1; omega
  constructor
  · rintro ⟨x0, hx⟩
    obtain ⟨x, rfl⟩ := Int.eq_ofNat_of_zero_le (Int.le_of_lt x0)
    have hx := Int.natCast_dvd_natCast.mp hx
    by_cases hd : p ∣ x
    · obtain ⟨e, rfl⟩ := hd
      refine .inr ⟨(e : Int), ⟨?_, ?_⟩, by rw [Int.natCast_mul]⟩
      · have : 0 < p * e := by omega
        have := Nat.pos_of_mul_pos_left this
        omega
      · rw [Nat.mul_comm n p] at hx
        exact Int.natCast_dvd_natCast.mpr (Nat.dvd_of_mul_dvd_mul_left p0 hx)
    · have hc : Nat.Coprime x p := by
        rcases hp.2 (Nat.gcd x p) (Nat.gcd_dvd_right x p) with h | h
        · exact h
        · exact absurd (h ▸ Nat.gcd_dvd_left x p) hd
      exact .inl ⟨x0, Int.natCast_dvd_natCast.mpr (hc.dvd_of_dvd_mul_right hx)⟩
  · rintro (⟨x0, hx⟩ | ⟨d, ⟨d0, hd⟩, rfl⟩)
    · exact ⟨x0, by rw [Int.natCast_mul]; exact Int.dvd_mul_of_dvd_left hx⟩
    · refine ⟨Int.mul_pos (by omega) d0, ?_⟩
      rw [Int.natCast_mul, Int.mul_comm]
      exact Int.mul_dvd_mul hd (Int.dvd_refl _)
theorem dvs_len {m q : Int} (hm : 0 < m) (hq : 0 < q) (h : m ∣ q) : (dvs m).length ≤ (dvs q).length := by
  unfold dvs
  rw [List.length_map, List.length_map, ← List.countP_eq_length_filter, ← List.countP_eq_length_filter]
  obtain ⟨m, rfl⟩ := Int.eq_ofNat_of_zero_le (Int.le_of_lt hm)
  obtain ⟨q, rfl⟩ := Int.eq_ofNat_of_zero_le (Int.le_of_lt hq)
  rw [Int.toNat_natCast, Int.toNat_natCast]
  have hd : m ∣ q := Int.natCast_dvd_natCast.mp h
  have hle := Nat.le_of_dvd (by omega) hd
  refine Nat.le_trans (List.countP_mono_left fun x _ hx => ?_) (List.Sublist.countP_le (List.range_sublist.mpr (by omega)))
  rw [Bool.and_eq_true] at hx ⊢
  exact ⟨hx.1, decide_eq_true (Nat.dvd_trans (of_decide_eq_true hx.2) hd)⟩
section
variable {P : Program} {w : World} {K : PySem.W.Frag} {mg : Str → Option Value} {base : Heap}
theorem ok_dv {f aP : Addr} {fd dP : FuncData} {k : Nat} (F : Fun K "divisors" "divisors" sDivisors f fd) (Z : DvF mg)
    (cP : Cl P w K mg base k "prime_factors" ["k"] spPf aP dP) : FnOk P w K mg base CX0 (k + 1) f fd ["k"] (spDv dvs) := by
  refine F.ok scDv (fun vs H Q E h => ?_) (fun cdv A outer s H vs Q E hr h => ?_)
  · obtain ⟨q0, rfl, _⟩ := h
    rfl
  · obtain ⟨q0, rfl, h1, h2, hdl, q⟩ := h
    obtain ⟨qn, rfl⟩ := Int.eq_ofNat_of_zero_le (Int.le_trans (by decide) h1)
    refine ⟨_, (pss_cons (ps_set (i := 1) scDv.nd rfl (.inl rfl) (pe_lst (pa_cons pe_int pa_nil)))
      (pss_cons (ps_for PassesOwn.never rfl (pi_list (pe_call cP.G hr (by rfl) cP.g cP.kp cP.b .nil pass0 (pa_cons (pv 0) pa_nil))) (pg_name (i := 2) scDv.nd rfl (.inr rfl))
          (pss_one (ps_set (i := 1) scDv.nd rfl (.inl rfl) (pe_callB (cr_sortedSetA rfl) (by rfl) Z.sorted (by decide +kernel) (pa_cons (pe_callTy (cr_setL rfl) (by rfl) Z.set (by decide +kernel) (pa_cons (pe_op op_cat (pv 1) (pe_lc (own := [("divisor", 3)]) (g := (gName 3)) (tt := tYes) rfl scDv.nd (pi_list (pv 1)) (blkOk_by (own := [("divisor", 3)]) (N := ["k", "found", "prime", "divisor"]) (sc := defScope sDivisors) (by decide +kernel)) (fun _ _ _ _ _ => (pg_name (i := 3) scDv.nd rfl (.inl rfl))) (fun _ _ _ _ _ => pts_nil) (fun _ _ _ _ _ => (pe_op op_mulW (pv 2) (pv 3))))) pa_nil)) pa_nil)))))
      (pss_one (ps_ret (pv 1))))), ?_⟩
    refine ⟨by show 1 ≤ sizeLine; decide, fun D nD => ?_⟩
    have sD := same_upd (o := .lst [.int 1]) nD
    refine ⟨_, rfl, qn, rfl, by omega, by omega, fun pf fs H1 np s1 hp hpf => ⟨pf, rfl, ⟨_, .inl (.inl hp)⟩, ?_⟩⟩
    have hD1 := s1 _ _ (upd_same : upd H D (.lst [.int 1]) D = some (.lst [.int 1]))
    have one_dv : IsDv 1 [1] := ⟨List.pairwise_singleton _ _, fun x => ⟨fun h => by rw [List.mem_singleton.mp h]; exact ⟨by decide, Int.dvd_refl _⟩, fun ⟨h1, h2⟩ => by
      have := Int.le_of_dvd (by decide) h2
      have h3 : ((1 : Nat) : Int) = 1 := rfl
      rw [h3] at this
      exact List.mem_singleton.mpr (by omega)⟩⟩
    refine for_it (walk_list (xs := natsV fs)) (fun i σ H' => Same H H' ∧ ∃ y2 y3 R G, σ = [some (.int (qn : Int)), some (.ref R), y2, y3] ∧ H' R = some (.lst (G.map V.int)) ∧ IsDv (pr (fs.take i)) G ∧ H R = none ∧ H' pf = some (.lst (natsV fs)))
      ⟨sD.trans s1, none, none, D, [1], rfl, hD1, one_dv, nD, hp⟩ (fun i σ H' _ hQ => by obtain ⟨_, _, _, _, _, _, _, _, _, h⟩ := hQ; exact .inl (.inl h)) ?_ ?_
    · rintro i u σ H2 H3 hi ⟨sm, y2, y3, R, G, rfl, hR, hG, nR, hpf2⟩ ⟨rfl, hu⟩
      unfold natsV at hi hu
      rw [List.length_map] at hi
      have hri : fs[i]? = some fs[i] := List.getElem?_eq_getElem hi
      rw [List.getElem?_map, hri] at hu
      cases Option.some.inj hu
      have hpm := hpf.pm _ (List.mem_of_getElem? hri)
      have htk : fs.take (i + 1) = fs.take i ++ [fs[i]] := by rw [List.take_succ, hri]; rfl
      have hdv : pr (fs.take (i + 1)) ∣ qn := ⟨pr (fs.drop (i + 1)), by rw [← pr_app, List.take_append_drop]; exact hpf.prod.symm⟩
      have hn0 : 0 < pr (fs.take i) := pr_pos fun x hx => (hpf.pm x (List.mem_of_mem_take hx)).1
      rw [htk, pr_snoc] at hdv ⊢
      generalize fs[i] = p at hri hpm htk hdv
      generalize pr (fs.take i) = n at hG hn0 hdv
      dsimp only [gName, tNext, tSeq]
      refine ⟨_, rfl, ?_⟩
      refine ⟨_, rfl, R, rfl, ⟨_, .inl (.inl hR)⟩, fun C nC => ?_⟩
      have p0 : 0 < p := by have := hpm.1; omega
      have hnp0 : 0 < n * p := Nat.mul_pos hn0 p0
      have hnple := Nat.le_of_dvd (by omega : 0 < qn) hdv
      have hnle : n ≤ n * p := Nat.le_mul_of_pos_right _ p0
      have hple : p ≤ n * p := Nat.le_mul_of_pos_left _ hn0
      have eG : ∀ {m : Nat} {G' : List Int}, 0 < m → IsDv m G' → G' = dvs (m : Int) := fun {m G'} hm hG' => up_uniq hG'.up (dvs_is (q := (m : Int)) (by omega)).up fun x => by rw [hG'.mem, (dvs_is (q := (m : Int)) (by omega)).mem, Int.toNat_natCast]
      have hGl : G.length < 2000 := by
        rw [eG hn0 hG]
        have := dvs_len (m := (n : Int)) (q := (qn : Int)) (by omega) (by omega) (Int.natCast_dvd_natCast.mpr (Nat.dvd_trans ⟨p, rfl⟩ hdv))
        omega
      have hLl : (dvs ((n * p : Nat) : Int)).length < 2000 := by
        have := dvs_len (m := ((n * p : Nat) : Int)) (q := (qn : Int)) (by omega) (by omega) (Int.natCast_dvd_natCast.mpr hdv)
        omega
      have p60 : (2 : Nat) ^ 61 = 2305843009213693952 := by decide +kernel
      refine lc_it (walk_list (xs := G.map V.int)) (fun j H' => Same H3 H' ∧ H' C = some (.lst (((G.take j).map fun d => (p : Int) * d).map V.int))) ⟨same_upd nC, upd_same⟩ (fun j H' _ hQ => .inl (.inl (hQ.1 _ _ hR))) ?_ ?_
      · rintro j u H4 H5 hj ⟨s4, hC⟩ ⟨rfl, hu⟩
        rw [List.length_map] at hj
        have hrj : G[j]? = some G[j] := List.getElem?_eq_getElem hj
        rw [List.getElem?_map, hrj] at hu
        cases Option.some.inj hu
        obtain ⟨x0, xd⟩ := (hG.mem _).mp (List.mem_of_getElem? hrj)
        have xle := Int.le_of_dvd (by omega) xd
        generalize G[j] = x at hrj x0 xd xle
        refine ⟨rfl, _, rfl, _, rfl, _, _, rfl, rfl, wide_mul (a := 61) (b := 61) (by omega) (by omega) (by decide) (by decide) (by decide), _, hC, ?_, sameOwnP s4 nC, ?_⟩
        · rw [List.length_map, List.length_map, List.length_take, sizeLine_eq]
          omega
        · rw [upd_same, List.take_succ, hrj, List.map_append, List.map_append]
          rfl
      · rintro H4 ⟨s4, hC⟩
        rw [List.length_map, List.take_length] at hC
        have hR4 := s4 _ _ hR
        refine ⟨R, C, _, _, rfl, rfl, hR4, hC, by rw [List.length_map, List.length_map, List.length_map, sizeLine_eq]; omega, fun A nA => ?_⟩
        have s5 := same_upd (o := .lst (G.map V.int ++ (G.map fun d => (p : Int) * d).map V.int)) nA
        have hA : upd H4 A (.lst (G.map V.int ++ (G.map fun d => (p : Int) * d).map V.int)) A = some (.lst (G.map V.int ++ (G.map fun d => (p : Int) * d).map V.int)) := upd_same
        generalize upd H4 A (.lst (G.map V.int ++ (G.map fun d => (p : Int) * d).map V.int)) = H5 at s5 hA
        have hmem : ∀ x : Int, x ∈ dvs ((n * p : Nat) : Int) ↔ x ∈ G ++ G.map fun d => (p : Int) * d := fun x => by
          rw [(dvs_is (q := ((n * p : Nat) : Int)) (by omega)).mem, Int.toNat_natCast, dv_step hpm hn0, List.mem_append, List.mem_map, hG.mem]
          constructor
          · rintro (h | ⟨d, h, rfl⟩)
            · exact .inl h
            · exact .inr ⟨d, (hG.mem d).mpr h, rfl⟩
          · rintro (h | ⟨d, h, rfl⟩)
            · exact .inl h
            · exact .inr ⟨d, (hG.mem d).mp h, rfl⟩
        refine ⟨A, G ++ G.map (fun d => (p : Int) * d), dvs ((n * p : Nat) : Int), rfl, .inl (.inl (by rw [hA, List.map_append])), by rw [List.length_append, List.length_map]; unfold scanBound; omega, (dvs_is (q := ((n * p : Nat) : Int)) (by omega)).nd, hmem, fun S nS => ?_⟩
        refine ⟨S, _, _, rfl, upd_same, (by rw [sizeLine_eq]; omega), fun ns T hup hme hlen nT => ?_⟩
        have s6 : Same H5 (upd H5 S (SetO w S (fun j => decide (j ∈ G ++ G.map fun d => (p : Int) * d)) (dvs ((n * p : Nat) : Int)).length)) := same_upd nS
        have sT := ((s4.trans s5).trans s6).trans (same_upd (o := .lst (ns.map V.int)) nT)
        refine ⟨sm.trans sT, _, _, T, ns, rfl, upd_same, ⟨hup, fun x => ?_⟩, (sm.trans ((s4.trans s5).trans s6)).free nT, sT _ _ hpf2⟩
        rw [hme, decide_eq_true_iff, ← hmem, (dvs_is (q := ((n * p : Nat) : Int)) (by omega)).mem, Int.toNat_natCast]
    · rintro σ H2 ⟨sm, y2, y3, R, G, rfl, hR, hG, nR, hpf2⟩
      unfold natsV at hG
      rw [List.length_map, List.take_length, hpf.prod] at hG
      have e : G = dvs (qn : Int) := up_uniq hG.up (dvs_is (q := (qn : Int)) (by omega)).up fun x => by rw [hG.mem, (dvs_is (q := (qn : Int)) (by omega)).mem, Int.toNat_natCast]
      rw [e] at hR
      exact ⟨_, rfl, q R H2 nR sm hR⟩
end
end Lw
/-! the law's own primes -/
namespace Lw
open PySem PySem.Spec L2 Lx
theorem scLPrimes : FnScope ["factor", "found", "one"] ["factor"] (defScope sLPrimes) := ⟨rfl, rfl, rfl, by decide +kernel, rfl, by decide +kernel, by decide +kernel⟩
structure LpSt (k0 kk d : Nat) (fs : List Nat) : Prop where
  prod : pr fs * kk = k0
  pos : 1 ≤ kk
  pm : ∀ p ∈ fs, Pm p
  up : fs.Pairwise (· ≤ ·)
  le : ∀ p ∈ fs, p ≤ d
  two : 2 ≤ d
  rough : ∀ e, 2 ≤ e → e < d → ¬ e ∣ kk
theorem LpSt.prime {k0 kk d : Nat} {fs : List Nat} (s : LpSt k0 kk d fs) (h : d ∣ kk) : Pm d := by
  refine ⟨s.two, fun e he => ?_⟩
  have hd := s.two
  have hle := Nat.le_of_dvd (by omega) he
  by_cases h1 : e = 1
  · exact .inl h1
  · by_cases h2 : e = d
    · exact .inr h2
    · have h0 : e ≠ 0 := fun z => by
        rw [z] at he
        have := Nat.eq_zero_of_zero_dvd he
        omega
      exact absurd (Nat.dvd_trans he h) (s.rough e (by omega) (by omega))
theorem LpSt.take {k0 kk d : Nat} {fs : List Nat} (s : LpSt k0 kk d fs) (h : d ∣ kk) : LpSt k0 (kk / d) d (fs ++ [d]) := by
  have hm : d * (kk / d) = kk := Nat.mul_div_cancel' h
  have hp := s.pos
  refine ⟨?_, ?_, fun p hp => ?_, pw_snoc s.up s.le, fun p hp => ?_, s.two, fun e h1 h2 h3 => s.rough e h1 h2 (Nat.dvd_trans h3 ⟨d, by rw [Nat.mul_comm]; exact hm.symm⟩)⟩
  · rw [pr_snoc, Nat.mul_assoc, hm]
    exact s.prod
  · refine Nat.pos_of_ne_zero fun z => ?_
    rw [z, Nat.mul_zero] at hm
    omega
  · rcases List.mem_append.mp hp with h1 | h1
    · exact s.pm p h1
    · rw [List.mem_singleton.mp h1]; exact s.prime h
  · rcases List.mem_append.mp hp with h1 | h1
    · exact s.le p h1
    · rw [List.mem_singleton.mp h1]; exact Nat.le_refl _
theorem LpSt.next {k0 kk d : Nat} {fs : List Nat} (s : LpSt k0 kk d fs) (h : ¬ d ∣ kk) : LpSt k0 kk (d + 1) fs := by
  have hd := s.two
  refine ⟨s.prod, s.pos, s.pm, s.up, fun p hp => by have := s.le p hp; omega, by omega, fun e h1 h3 he => ?_⟩
  by_cases e1 : e < d
  · exact s.rough e h1 e1 he
  · have : e = d := by omega
    exact h (this ▸ he)
theorem LpSt.low {k0 kk d : Nat} {fs : List Nat} (s : LpSt k0 kk d fs) (h1 : 1 < kk) : d ≤ kk := Nat.le_of_not_lt fun z => s.rough kk h1 z (Nat.dvd_refl _)
/-- what is left is a prime -/
theorem LpSt.jump {k0 kk d : Nat} {fs : List Nat} (s : LpSt k0 kk d fs) (h : kk < d * d) (h1 : 1 < kk) : LpSt k0 kk kk fs := by
  have hge := s.low h1
  have hd := s.two
  refine ⟨s.prod, s.pos, s.pm, s.up, fun p hp => Nat.le_trans (s.le p hp) hge, h1, fun e h2 h3 he => ?_⟩
  obtain ⟨x, hx⟩ := he
  have x0 : x ≠ 0 := fun z => by rw [z, Nat.mul_zero] at hx; omega
  have x1 : x ≠ 1 := fun z => by rw [z, Nat.mul_one] at hx; omega
  have a1 : d ≤ e := Nat.le_of_not_lt fun z => s.rough e h2 z ⟨x, hx⟩
  have a2 : d ≤ x := Nat.le_of_not_lt fun z => s.rough x (by omega) z ⟨e, by rw [Nat.mul_comm]; exact hx⟩
  have := Nat.mul_le_mul a1 a2
  omega
theorem LpSt.end_ {k0 kk d : Nat} {fs : List Nat} (s : LpSt k0 kk d fs) (h1 : ¬ 1 < kk) : IsPf k0 fs := by
  have := s.pos
  have e : kk = 1 := by omega
  refine ⟨s.pm, ?_, s.up⟩
  have := s.prod
  rw [e, Nat.mul_one] at this
  exact this
section
variable {P : Program} {w : World} {K : PySem.W.Frag} {mg : Str → Option Value} {base : Heap}
theorem ok_lprimes {f : Addr} {fd : FuncData} {k : Nat} (F : Fun K "_law_primes" "_law_primes" sLPrimes f fd) : FnOk P w K mg base CX0 (k + 1) f fd ["factor"] spPf := by
  refine F.ok scLPrimes (fun vs H Q E h => ?_) (fun cdv A outer s H vs Q E hr h => ?_)
  · obtain ⟨k0, rfl, _⟩ := h
    rfl
  · obtain ⟨k0, rfl, hk1, hk2, q⟩ := h
    refine ⟨_, (pss_cons (ps_par (i := 1) (j := 2) rfl scLPrimes.nd rfl rfl (by decide) rfl rfl (pa_cons (pe_lst pa_nil) (pa_cons pe_int pa_nil)) rfl)
      (pss_cons (ps_while PassesOwn.never (pt_cmpR op_gt (pv 0) pe_int (nomark _))
          (pss_cons (ps_if (pt_cmpR op_gt (pe_op op_mulW (pv 2) (pv 2)) (pv 0) (nomark _))
              (pss_one (ps_set (i := 2) scLPrimes.nd rfl (.inl rfl) (pv 0))) pss_nil)
          (pss_cons (ps_while PassesOwn.never (pt_cmpR op_eq (pe_op op_modN (pv 0) (pv 2)) pe_int (nomark _))
              (pss_cons (ps_expr (pe_bm PySem.F.plainAttrs_list PySem.F.slot_list_append PySem.F.type_list_append mt_append (pv 1) (pa_cons (pv 2) pa_nil)))
              (pss_one (ps_set (i := 0) scLPrimes.nd rfl (.inl rfl) (pe_op op_fdivW (pv 0) (pv 2))))))
          (pss_one (ps_set (i := 2) scLPrimes.nd rfl (.inl rfl) (pe_op op_add (pv 2) pe_int))))))
      (pss_one (ps_ret (pv 1))))), ?_⟩
    have p60 : (2 : Nat) ^ 60 = 1152921504606846976 := by decide +kernel
    have small : ∀ {kk d : Nat} {fs : List Nat}, LpSt k0 kk d fs → kk ≤ k0 ∧ fs.length < 60 := fun st => by
      have h1 := st.prod
      have h2 := st.pos
      have h3 := pr_pos fun x hx => (st.pm x hx).1
      refine ⟨?_, len_lt st.pm ?_ hk2⟩
      · rw [← h1]; exact Nat.le_mul_of_pos_left _ h3
      · rw [← h1]; exact Nat.le_mul_of_pos_right _ h2
    refine ⟨Nat.zero_le _, fun L nL => ⟨_, _, rfl, ?_⟩⟩
    dsimp only [gName, tNext, tSeq]
    refine while_fin (fun σ H' => ∃ (kk d : Nat) (fs : List Nat), σ = [some (.int kk), some (.ref L), some (.int d)] ∧ Same H H' ∧ H' L = some (.lst (natsV fs)) ∧ LpSt k0 kk d fs ∧ ¬ 1 < kk) (fun R hR => ?_) (fun σ H' hF => ?_)
    · refine ⟨fun mm σ H' => ∃ (kk d : Nat) (fs : List Nat), σ = [some (.int kk), some (.ref L), some (.int d)] ∧ Same H H' ∧ H' L = some (.lst (natsV fs)) ∧ LpSt k0 kk d fs ∧ d ≤ k0 + 2 ∧ (1 < kk → d ≤ 1073741826) ∧ mm = k0 + 2 - d, ⟨_, k0, 2, [], rfl, same_upd nL, upd_same, ⟨Nat.one_mul _, hk1, fun p h => (by cases h), List.Pairwise.nil, fun p h => (by cases h), Nat.le_refl _, fun e h1 h2 => by omega⟩, by omega, fun _ => by decide, rfl⟩, ?_⟩
      rintro t σ H2 ⟨kk, d, fs, rfl, sm, hL, st, hdk, hd30, rfl⟩
      have hd2 := st.two
      refine ⟨_, rfl, _, _, rfl, rfl, _, rfl, ?_⟩
      by_cases h1 : 1 < kk
      · rw [decide_eq_true (by omega : (1 : Int) < (kk : Int))]
        have hlow := st.low h1
        have hkk := (small st).1
        have hd31 := hd30 h1
        refine iteT ⟨fun σ' H' => ∃ (kk d' : Nat) (fs : List Nat), σ' = [some (.int kk), some (.ref L), some (.int d')] ∧ Same H H' ∧ H' L = some (.lst (natsV fs)) ∧ LpSt k0 kk d' fs ∧ d < d' ∧ d' ≤ k0 + 2 ∧ (1 < kk → d' ≤ 1073741826),
          fun σ' H' ⟨kk, d', fs, a1, a2, a3, a4, a5, a6, a7⟩ => ⟨k0 + 2 - d', by omega, kk, d', fs, a1, a2, a3, a4, a6, a7, rfl⟩, ?_⟩
        refine if_fin (fun σ H' => ∃ d' : Nat, σ = [some (.int kk), some (.ref L), some (.int d')] ∧ H' = H2 ∧ LpSt k0 kk d' fs ∧ d ≤ d' ∧ d' ≤ kk ∧ (d' = kk ∨ d' * d' ≤ kk)) (fun T hT => ?_) ?_
        · refine ⟨_, rfl, _, rfl, _, _, rfl, rfl, wide_mul (a := 31) (b := 31) (by omega) (by omega) (by decide) (by decide) (by decide), _, rfl, _, _, rfl, rfl, _, rfl, ?_⟩
          by_cases hdd : kk < d * d
          · rw [decide_eq_true (by have := Int.natCast_mul d d; omega : (kk : Int) < (d : Int) * (d : Int))]
            exact iteT ⟨_, rfl, hT _ _ ⟨kk, rfl, rfl, st.jump hdd h1, hlow, Nat.le_refl _, .inl rfl⟩⟩
          · rw [decide_eq_false (by have := Int.natCast_mul d d; omega : ¬ (kk : Int) < (d : Int) * (d : Int))]
            exact iteF (hT _ _ ⟨d, rfl, rfl, st, Nat.le_refl _, hlow, .inr (by omega)⟩)
        · rintro σ H3 ⟨d', rfl, rfl, st', hdd, hdk2, hor⟩
          have hd2' := st'.two
          refine while_fin (fun σ H' => ∃ (k2 : Nat) (fs : List Nat), σ = [some (.int k2), some (.ref L), some (.int d')] ∧ Same H H' ∧ H' L = some (.lst (natsV fs)) ∧ LpSt k0 k2 d' fs ∧ ¬ d' ∣ k2 ∧ k2 ≤ kk) (fun R hR2 => ?_) (fun σ H' hF => ?_)
          · refine ⟨fun mm σ H' => ∃ (fs : List Nat), σ = [some (.int (mm : Nat)), some (.ref L), some (.int d')] ∧ Same H H' ∧ H' L = some (.lst (natsV fs)) ∧ LpSt k0 mm d' fs ∧ mm ≤ kk, ⟨kk, fs, rfl, sm, hL, st', Nat.le_refl _⟩, ?_⟩
            rintro k2 σ H4 ⟨fs, rfl, sm, hL, st2, hle⟩
            refine ⟨_, rfl, _, rfl, _, _, rfl, rfl, (by omega : (d' : Int) ≠ 0), rfl, _, rfl, ?_⟩
            have hmod : ((k2 : Nat) : Int).fmod (d' : Int) = ((k2 % d' : Nat) : Int) := by
              rw [Int.fmod_eq_emod_of_nonneg _ (by omega)]
              exact (Int.natCast_emod k2 d').symm
            show (if decide (V.int (((k2 : Nat) : Int).fmod (d' : Int)) = V.int 0) = true then _ else _)
            rw [hmod]
            by_cases hz : k2 % d' = 0
            · rw [decide_eq_true (by rw [hz]; rfl)]
              have hdv : d' ∣ k2 := Nat.dvd_of_mod_eq_zero hz
              have hlt : k2 / d' < k2 := Nat.div_lt_self st2.pos hd2'
              refine iteT ⟨fun σ' H' => ∃ (fs : List Nat), σ' = [some (.int ((k2 / d' : Nat))), some (.ref L), some (.int d')] ∧ Same H H' ∧ H' L = some (.lst (natsV fs)) ∧ LpSt k0 (k2 / d') d' fs ∧ k2 / d' ≤ kk, fun σ' H' h => ⟨k2 / d', hlt, h⟩, ?_⟩
              have hlen := (small st2).2
              have hk22 := (small st2).1
              refine ⟨_, rfl, .inl ⟨rfl, _, .inl (.inl hL)⟩, _, rfl, L, _, _, rfl, rfl, hL, by unfold natsV; rw [List.length_map, sizeLine_eq]; omega, ?_⟩
              refine ⟨_, rfl, _, rfl, _, _, rfl, rfl, ⟨by omega, by rw [Int.natAbs_natCast]; exact (Nat.log2_lt (by omega)).mpr (Nat.lt_of_lt_of_le (show d' < 2 ^ 60 by omega) (Nat.pow_le_pow_right (by decide) (by decide)))⟩, ?_⟩
              refine ⟨fs ++ [d'], ?_, sameOwnP sm nL, ?_, st2.take hdv, by omega⟩
              · show [some (V.int ((k2 : Int) / (d' : Int))), _, _] = _
                rw [← Int.natCast_ediv]
              · rw [upd_same]
                unfold natsV
                rw [List.map_append]
                rfl
            · rw [decide_eq_false (fun e => hz (by have := V.int.inj e; omega))]
              exact iteF (hR2 _ _ ⟨k2, fs, rfl, sm, hL, st2, fun z => hz (Nat.mod_eq_zero_of_dvd z), hle⟩)
          · obtain ⟨k2, fs, rfl, sm, hL, st2, hnd, hle⟩ := hF
            refine ⟨_, rfl, _, _, rfl, rfl, k2, d' + 1, fs, rfl, sm, hL, st2.next hnd, by omega, by omega, fun h2 => ?_⟩
            have hl2 := st2.low h2
            rcases hor with e | e
            · exact absurd (by rw [show k2 = d' by omega]; exact Nat.dvd_refl _) hnd
            · refine Nat.le_of_not_lt fun h => ?_
              have : 1073741826 * 1073741826 ≤ d' * d' := Nat.mul_le_mul (by omega) (by omega)
              omega
      · rw [decide_eq_false (by omega : ¬ (1 : Int) < (kk : Int))]
        exact iteF (hR _ _ ⟨kk, d, fs, rfl, sm, hL, st, h1⟩)
    · obtain ⟨kk, d, fs, rfl, sm, hL, st, h1⟩ := hF
      exact ⟨_, rfl, q _ _ _ nL sm hL (st.end_ h1)⟩
end
end Lw
namespace Lw
open PySem PySem.Spec L2 Lx
theorem scLDv : FnScope ["factor", "found", "one", "divisor"] ["factor"] (defScope sLDivisors) := ⟨rfl, rfl, rfl, by decide +kernel, rfl, by decide +kernel, by decide +kernel⟩
section
variable {P : Program} {w : World} {K : PySem.W.Frag} {mg : Str → Option Value} {base : Heap}
theorem ok_ldv {f aP : Addr} {fd dP : FuncData} {k : Nat} (F : Fun K "_law_divisors" "_law_divisors" sLDivisors f fd) (Z : DvF mg)
    (cP : Cl P w K mg base k "_law_primes" ["factor"] spPf aP dP) : FnOk P w K mg base CX0 (k + 1) f fd ["factor"] (spDv dvs) := by
  refine F.ok scLDv (fun vs H Q E h => ?_) (fun cdv A outer s H vs Q E hr h => ?_)
  · obtain ⟨q0, rfl, _⟩ := h
    rfl
  · obtain ⟨q0, rfl, h1, h2, hdl, q⟩ := h
    obtain ⟨qn, rfl⟩ := Int.eq_ofNat_of_zero_le (Int.le_trans (by decide) h1)
    refine ⟨_, (pss_cons (ps_set (i := 1) scLDv.nd rfl (.inl rfl) (pe_lst (pa_cons pe_int pa_nil)))
      (pss_cons (ps_for PassesOwn.never rfl (pi_list (pe_call cP.G hr (by rfl) cP.g cP.kp cP.b .nil pass0 (pa_cons (pv 0) pa_nil))) (pg_name (i := 2) scLDv.nd rfl (.inr rfl))
          (pss_one (ps_set (i := 1) scLDv.nd rfl (.inl rfl) (pe_callB (cr_sortedSetA rfl) (by rfl) Z.sorted (by decide +kernel) (pa_cons (pe_callTy (cr_setL rfl) (by rfl) Z.set (by decide +kernel) (pa_cons (pe_op op_cat (pv 1) (pe_lc (own := [("divisor", 3)]) (g := (gName 3)) (tt := tYes) rfl scLDv.nd (pi_list (pv 1)) (blkOk_by (own := [("divisor", 3)]) (N := ["factor", "found", "one", "divisor"]) (sc := defScope sLDivisors) (by decide +kernel)) (fun _ _ _ _ _ => (pg_name (i := 3) scLDv.nd rfl (.inl rfl))) (fun _ _ _ _ _ => pts_nil) (fun _ _ _ _ _ => (pe_op op_mulW (pv 3) (pv 2))))) pa_nil)) pa_nil)))))
      (pss_one (ps_ret (pv 1))))), ?_⟩
    refine ⟨by show 1 ≤ sizeLine; decide, fun D nD => ?_⟩
    have sD := same_upd (o := .lst [.int 1]) nD
    refine ⟨_, rfl, qn, rfl, by omega, by omega, fun pf fs H1 np s1 hp hpf => ⟨pf, rfl, ⟨_, .inl (.inl hp)⟩, ?_⟩⟩
    have hD1 := s1 _ _ (upd_same : upd H D (.lst [.int 1]) D = some (.lst [.int 1]))
    have one_dv : IsDv 1 [1] := ⟨List.pairwise_singleton _ _, fun x => ⟨fun h => by rw [List.mem_singleton.mp h]; exact ⟨by decide, Int.dvd_refl _⟩, fun ⟨h1, h2⟩ => by
      have := Int.le_of_dvd (by decide) h2
      have h3 : ((1 : Nat) : Int) = 1 := rfl
      rw [h3] at this
      exact List.mem_singleton.mpr (by omega)⟩⟩
    refine for_it (walk_list (xs := natsV fs)) (fun i σ H' => Same H H' ∧ ∃ y2 y3 R G, σ = [some (.int (qn : Int)), some (.ref R), y2, y3] ∧ H' R = some (.lst (G.map V.int)) ∧ IsDv (pr (fs.take i)) G ∧ H R = none ∧ H' pf = some (.lst (natsV fs)))
      ⟨sD.trans s1, none, none, D, [1], rfl, hD1, one_dv, nD, hp⟩ (fun i σ H' _ hQ => by obtain ⟨_, _, _, _, _, _, _, _, _, h⟩ := hQ; exact .inl (.inl h)) ?_ ?_
    · rintro i u σ H2 H3 hi ⟨sm, y2, y3, R, G, rfl, hR, hG, nR, hpf2⟩ ⟨rfl, hu⟩
      unfold natsV at hi hu
      rw [List.length_map] at hi
      have hri : fs[i]? = some fs[i] := List.getElem?_eq_getElem hi
      rw [List.getElem?_map, hri] at hu
      cases Option.some.inj hu
      have hpm := hpf.pm _ (List.mem_of_getElem? hri)
      have htk : fs.take (i + 1) = fs.take i ++ [fs[i]] := by rw [List.take_succ, hri]; rfl
      have hdv : pr (fs.take (i + 1)) ∣ qn := ⟨pr (fs.drop (i + 1)), by rw [← pr_app, List.take_append_drop]; exact hpf.prod.symm⟩
      have hn0 : 0 < pr (fs.take i) := pr_pos fun x hx => (hpf.pm x (List.mem_of_mem_take hx)).1
      rw [htk, pr_snoc] at hdv ⊢
      generalize fs[i] = p at hri hpm htk hdv
      generalize pr (fs.take i) = n at hG hn0 hdv
      dsimp only [gName, tNext, tSeq]
      refine ⟨_, rfl, ?_⟩
      refine ⟨_, rfl, R, rfl, ⟨_, .inl (.inl hR)⟩, fun C nC => ?_⟩
      have p0 : 0 < p := by have := hpm.1; omega
      have hnp0 : 0 < n * p := Nat.mul_pos hn0 p0
      have hnple := Nat.le_of_dvd (by omega : 0 < qn) hdv
      have hnle : n ≤ n * p := Nat.le_mul_of_pos_right _ p0
      have hple : p ≤ n * p := Nat.le_mul_of_pos_left _ hn0
      have eG : ∀ {m : Nat} {G' : List Int}, 0 < m → IsDv m G' → G' = dvs (m : Int) := fun {m G'} hm hG' => up_uniq hG'.up (dvs_is (q := (m : Int)) (by omega)).up fun x => by rw [hG'.mem, (dvs_is (q := (m : Int)) (by omega)).mem, Int.toNat_natCast]
      have hGl : G.length < 2000 := by
        rw [eG hn0 hG]
        have := dvs_len (m := (n : Int)) (q := (qn : Int)) (by omega) (by omega) (Int.natCast_dvd_natCast.mpr (Nat.dvd_trans ⟨p, rfl⟩ hdv))
        omega
      have hLl : (dvs ((n * p : Nat) : Int)).length < 2000 := by
        have := dvs_len (m := ((n * p : Nat) : Int)) (q := (qn : Int)) (by omega) (by omega) (Int.natCast_dvd_natCast.mpr hdv)
        omega
      have p60 : (2 : Nat) ^ 61 = 2305843009213693952 := by decide +kernel
      refine lc_it (walk_list (xs := G.map V.int)) (fun j H' => Same H3 H' ∧ H' C = some (.lst (((G.take j).map fun d => (p : Int) * d).map V.int))) ⟨same_upd nC, upd_same⟩ (fun j H' _ hQ => .inl (.inl (hQ.1 _ _ hR))) ?_ ?_
      · rintro j u H4 H5 hj ⟨s4, hC⟩ ⟨rfl, hu⟩
        rw [List.length_map] at hj
        have hrj : G[j]? = some G[j] := List.getElem?_eq_getElem hj
        rw [List.getElem?_map, hrj] at hu
        cases Option.some.inj hu
        obtain ⟨x0, xd⟩ := (hG.mem _).mp (List.mem_of_getElem? hrj)
        have xle := Int.le_of_dvd (by omega) xd
        generalize G[j] = x at hrj x0 xd xle
        refine ⟨rfl, _, rfl, _, rfl, _, _, rfl, rfl, wide_mul (a := 61) (b := 61) (by omega) (by omega) (by decide) (by decide) (by decide), _, hC, ?_, sameOwnP s4 nC, ?_⟩
        · rw [List.length_map, List.length_map, List.length_take, sizeLine_eq]
          omega
        · rw [upd_same, List.take_succ, hrj, List.map_append, List.map_append]
          show some (HO.lst (_ ++ [V.int (x * (p : Int))])) = some (HO.lst (_ ++ [V.int ((p : Int) * x)]))
          rw [Int.mul_comm]
      · rintro H4 ⟨s4, hC⟩
        rw [List.length_map, List.take_length] at hC
        have hR4 := s4 _ _ hR
        refine ⟨R, C, _, _, rfl, rfl, hR4, hC, by rw [List.length_map, List.length_map, List.length_map, sizeLine_eq]; omega, fun A nA => ?_⟩
        have s5 := same_upd (o := .lst (G.map V.int ++ (G.map fun d => (p : Int) * d).map V.int)) nA
        have hA : upd H4 A (.lst (G.map V.int ++ (G.map fun d => (p : Int) * d).map V.int)) A = some (.lst (G.map V.int ++ (G.map fun d => (p : Int) * d).map V.int)) := upd_same
        generalize upd H4 A (.lst (G.map V.int ++ (G.map fun d => (p : Int) * d).map V.int)) = H5 at s5 hA
        have hmem : ∀ x : Int, x ∈ dvs ((n * p : Nat) : Int) ↔ x ∈ G ++ G.map fun d => (p : Int) * d := fun x => by
          rw [(dvs_is (q := ((n * p : Nat) : Int)) (by omega)).mem, Int.toNat_natCast, dv_step hpm hn0, List.mem_append, List.mem_map, hG.mem]
          constructor
          · rintro (h | ⟨d, h, rfl⟩)
            · exact .inl h
            · exact .inr ⟨d, (hG.mem d).mpr h, rfl⟩
          · rintro (h | ⟨d, h, rfl⟩)
            · exact .inl h
            · exact .inr ⟨d, (hG.mem d).mp h, rfl⟩
        refine ⟨A, G ++ G.map (fun d => (p : Int) * d), dvs ((n * p : Nat) : Int), rfl, .inl (.inl (by rw [hA, List.map_append])), by rw [List.length_append, List.length_map]; unfold scanBound; omega, (dvs_is (q := ((n * p : Nat) : Int)) (by omega)).nd, hmem, fun S nS => ?_⟩
        refine ⟨S, _, _, rfl, upd_same, (by rw [sizeLine_eq]; omega), fun ns T hup hme hlen nT => ?_⟩
        have s6 : Same H5 (upd H5 S (SetO w S (fun j => decide (j ∈ G ++ G.map fun d => (p : Int) * d)) (dvs ((n * p : Nat) : Int)).length)) := same_upd nS
        have sT := ((s4.trans s5).trans s6).trans (same_upd (o := .lst (ns.map V.int)) nT)
        refine ⟨sm.trans sT, _, _, T, ns, rfl, upd_same, ⟨hup, fun x => ?_⟩, (sm.trans ((s4.trans s5).trans s6)).free nT, sT _ _ hpf2⟩
        rw [hme, decide_eq_true_iff, ← hmem, (dvs_is (q := ((n * p : Nat) : Int)) (by omega)).mem, Int.toNat_natCast]
    · rintro σ H2 ⟨sm, y2, y3, R, G, rfl, hR, hG, nR, hpf2⟩
      unfold natsV at hG
      rw [List.length_map, List.take_length, hpf.prod] at hG
      have e : G = dvs (qn : Int) := up_uniq hG.up (dvs_is (q := (qn : Int)) (by omega)).up fun x => by rw [hG.mem, (dvs_is (q := (qn : Int)) (by omega)).mem, Int.toNat_natCast]
      rw [e] at hR
      exact ⟨_, rfl, q R H2 nR sm hR⟩
end
end Lw
namespace Lw
open PySem PySem.Spec L2 Lx
theorem scLBt : FnScope ["here", "there"] ["here", "there"] (defScope sLBetween) := ⟨rfl, rfl, rfl, by decide +kernel, rfl, by decide +kernel, by decide +kernel⟩
structure LbF (mg : Str → Option Value) : Prop where
  max : mg "max" = none
def spLBt : Sp := fun vs H Q _ => ∃ h t : Int, vs = [.int h, .int t] ∧ 0 ≤ h ∧ h ≤ 100000 ∧ 0 ≤ t ∧ t ≤ 100000 ∧ ∀ z : Str, z.cps.toList = List.replicate (t - h).toNat 85 ++ List.replicate (h - t).toNat 68 → Q (.str z) H
section
variable {P : Program} {w : World} {K : PySem.W.Frag} {mg : Str → Option Value} {base : Heap}
theorem ok_lbt {f : Addr} {fd : FuncData} {k : Nat} (F : Fun K "_law_between" "_law_between" sLBetween f fd) (Z : LbF mg) : FnOk P w K mg base CX0 (k + 1) f fd ["here", "there"] spLBt := by
  refine F.ok scLBt (fun vs H Q E h => ?_) (fun cdv A outer s H vs Q E hr h => ?_)
  · obtain ⟨h, t, rfl, _⟩ := h
    rfl
  · obtain ⟨h, t, rfl, h0, h1, t0, t1, q⟩ := h
    refine ⟨_, (pss_one (ps_ret (pe_op op_add_str (pe_op op_repS pe_str (pe_callB (call_max2 rfl) (by rfl) Z.max (by decide +kernel) (pa_cons pe_int (pa_cons (pe_op op_sub (pv 1) (pv 0)) pa_nil)))) (pe_op op_repS pe_str (pe_callB (call_max2 rfl) (by rfl) Z.max (by decide +kernel) (pa_cons pe_int (pa_cons (pe_op op_sub (pv 0) (pv 1)) pa_nil))))))), ?_⟩
    have e1 : (if t - h > 0 then t - h else 0).toNat = (t - h).toNat ∧ 0 ≤ (if t - h > 0 then t - h else 0) ∧ (if t - h > 0 then t - h else 0) ≤ 100000 := by split <;> omega
    have e2 : (if h - t > 0 then h - t else 0).toNat = (h - t).toNat ∧ 0 ≤ (if h - t > 0 then h - t else 0) ∧ (if h - t > 0 then h - t else 0) ≤ 100000 := by split <;> omega
    have rU : ∀ n, (rep "U" n).cps.toList = List.replicate n 85 := fun n => rep1 85 n
    have rD : ∀ n, (rep "D" n).cps.toList = List.replicate n 68 := fun n => rep1 68 n
    have lU : ∀ n : Nat, n ≤ 100000 → (rep "U" n).length = n ∧ (rep "D" n).length = n := fun n hn => by
      have a : (rep "U" n).cps.toList.length = n := by rw [rU, List.length_replicate]
      have b : (rep "D" n).cps.toList.length = n := by rw [rD, List.length_replicate]
      exact ⟨(Array.length_toList ..).symm.trans a, (Array.length_toList ..).symm.trans b⟩
    refine ⟨_, rfl, _, rfl, _, _, rfl, rfl, 0, _, rfl, _, _, rfl, rfl, e1.2.1, by omega, ?_, ?_⟩
    · rw [sizeLine_eq]
      show 1 * _ ≤ _
      omega
    refine ⟨_, rfl, _, rfl, _, _, rfl, rfl, 0, _, rfl, _, _, rfl, rfl, e2.2.1, by omega, ?_, _, _, rfl, rfl, ?_, q _ ?_⟩
    · rw [sizeLine_eq]
      show 1 * _ ≤ _
      omega
    · rw [(lU _ (by omega)).1, (lU _ (by omega)).2, sizeLine_eq]
      omega
    · rw [e1.1, e2.1]
      show (rep "U" (t - h).toNat ++ rep "D" (h - t).toNat).cps.toList = _
      rw [show (rep "U" (t - h).toNat ++ rep "D" (h - t).toNat).cps.toList = (rep "U" (t - h).toNat).cps.toList ++ (rep "D" (h - t).toNat).cps.toList from Array.toList_append .., rU, rD]
end
end Lw
namespace Lw
open PySem PySem.Spec L2 Lx
theorem scLFs : FnScope ["primes", "last", "found", "spot", "one"] ["primes", "last"] (defScope sLFactorSteps) := ⟨rfl, rfl, rfl, by decide +kernel, rfl, by decide +kernel, by decide +kernel⟩
structure FsF (mg : Str → Option Value) : Prop where
  enumerate : mg "enumerate" = none
  len : mg "len" = none
/-- steps that multiply by these factors, the last letter c -/
def lfs (fs : List Nat) (c : Nat) : List Nat := (77 :: segs fs).dropLast ++ [c]
theorem lfs_nil (c : Nat) : lfs [] c = [c] := rfl
theorem lfs_snoc (fs : List Nat) (g c : Nat) : lfs (fs ++ [g]) c = (77 :: segs fs) ++ List.replicate (g - 1) 85 ++ [c] := by
  unfold lfs
  rw [drop_snoc]
theorem lfs_M (fs : List Nat) : lfs fs 77 = 77 :: segs fs := by
  rcases List.eq_nil_or_concat fs with rfl | ⟨ds, g, rfl⟩
  · rfl
  · rw [List.concat_eq_append, lfs_snoc, segs_snoc]
theorem lfs_N (fs : List Nat) : lfs fs 78 = (77 :: segs fs).dropLast ++ [78] := rfl
theorem lfs_len (fs : List Nat) (h : ∀ g ∈ fs, 1 ≤ g) (c : Nat) : (lfs fs c).length = fs.sum + 1 := by
  unfold lfs
  rw [List.length_append, List.length_dropLast, List.length_cons, segs_len h]
  show fs.sum + 1 - 1 + 1 = _
  omega
theorem asg_fin {te : TE} {g : TG} {D : Ends} {σ : St} {H : Hp} (Fin : V → Hp → Prop) (h : ∀ R : V → Hp → Prop, (∀ v H', Fin v H' → R v H') → te σ H R) (hf : ∀ v H', Fin v H' → g v σ H' fun σ' H2 => D.nx σ' H2) : tAsg te g D σ H := h _ hf
def spLFs : Sp := fun vs H Q _ => ∃ (p : Addr) (fs : List Nat) (c : Nat), vs = [.ref p, .str ⟨#[c]⟩] ∧ H p = some (.lst (natsV fs)) ∧ fs.length ≤ 60 ∧ (∀ g ∈ fs, 1 ≤ g) ∧ fs.sum ≤ 100000 ∧ ∀ (z : Str) H', Same H H' → z.cps.toList = lfs fs c → Q (.str z) H'
theorem sum_take_le : ∀ (l : List Nat) (i : Nat), (l.take i).sum ≤ l.sum
  | [], i => by simp
  | a :: l, 0 => Nat.zero_le _
  | a :: l, i + 1 => by
    have := sum_take_le l i
    rw [List.take_succ_cons, List.sum_cons, List.sum_cons]
    omega
theorem mem_sum_le {l : List Nat} {n : Nat} (h : n ∈ l) : n ≤ l.sum := by
  induction l with
  | nil => cases h
  | cons a l ih =>
    rw [List.sum_cons]
    rcases List.mem_cons.mp h with rfl | h
    · omega
    · have := ih h
      omega
theorem ints_dp {K : PySem.W.Frag} {H : Hp} {p : Addr} {fs : List Nat} (h : H p = some (.lst (natsV fs))) : Dp K H (.ref p) (.list (fs.map fun n : Nat => PyData.int (n : Int))) := by
  refine .lst (.inl (.inl h)) ?_
  have : ∀ l : List Nat, DpAll K H (natsV l) (l.map fun n : Nat => PyData.int (n : Int)) := fun l => by
    induction l with
    | nil => exact .nil
    | cons a l ih => exact .cons (.int _) ih
  exact this fs
section
variable {P : Program} {w : World} {K : PySem.W.Frag} {mg : Str → Option Value} {base : Heap}
theorem ok_lfs {f : Addr} {fd : FuncData} {k : Nat} (F : Fun K "_law_factor_steps" "_law_factor_steps" sLFactorSteps f fd) (Z : FsF mg) : FnOk P w K mg base CX0 (k + 1) f fd ["primes", "last"] spLFs := by
  refine F.ok scLFs (fun vs H Q E h => ?_) (fun cdv A outer s H vs Q E hr h => ?_)
  · obtain ⟨p, fs, c, rfl, _⟩ := h
    rfl
  · obtain ⟨p, fs, c, rfl, hp, hl, hg, hs, q⟩ := h
    refine ⟨_, (pss_cons (ps_set (i := 2) scLFs.nd rfl (.inl rfl) (pe_ifExp (pt_cmpR (op_neD hr.units) (pv 0) (pe_lst pa_nil) (nomark _)) pe_str (pv 1)))
      (pss_cons (ps_for PassesOwn.never rfl (pi_enum rfl Z.enumerate (pa_cons (pv 0) pa_nil)) (pg_tup (by rfl) (pgs_cons (pg_name (i := 3) scLFs.nd rfl (.inl rfl)) (pgs_cons (pg_name (i := 4) scLFs.nd rfl (.inl rfl)) pgs_nil)))
          (pss_one (ps_set (i := 2) scLFs.nd rfl (.inl rfl) (pe_op op_add_str (pe_op op_add_str (pv 2) (pe_op op_repS pe_str (pe_op op_sub (pv 4) pe_int))) (pe_ifExp (pt_cmpR op_lt (pv 3) (pe_op op_sub (pe_callB call_len_seq (by rfl) Z.len PySem.boot_len (pa_cons (pv 0) pa_nil)) pe_int) (nomark _)) pe_str (pv 1))))))
      (pss_one (ps_ret (pv 2))))), ?_⟩
    have sh : ∀ l : List Nat, SeqAt.shaped (.list (l.map fun n : Nat => PyData.int (n : Int))) = true := fun l => by
      have := shaped_ints (l.map fun n : Nat => (n : Int))
      rwa [List.map_map] at this
    have hgl : natsV fs = (natsV fs) := rfl
    have e0 : (natsV fs).length = fs.length := List.length_map _
    refine asg_fin (fun v H1 => ∃ z0 : Str, v = .str z0 ∧ Same H H1 ∧ z0.cps.toList = (if 0 < fs.length then 77 :: segs (fs.take 0) else lfs fs c)) (fun R hR => ?_) ?_
    · refine ⟨_, rfl, by show 0 ≤ sizeLine; decide, fun e1 ne1 => ⟨_, .list [], ints_dp ((same_upd ne1) _ _ hp), .lst (.inl (.inl upd_same)) .nil, sh fs, sh [], _, rfl, ?_⟩⟩
      cases fs with
      | nil =>
        refine iteF ⟨_, rfl, hR _ _ ⟨⟨#[c]⟩, rfl, same_upd ne1, rfl⟩⟩
      | cons g gs =>
        refine iteT (hR _ _ ⟨"M", rfl, same_upd ne1, rfl⟩)
    · rintro v H1 ⟨z0, rfl, s1, hz0⟩
      dsimp only [gName, tNext, tSeq]
      have hp1 := s1 _ _ hp
      refine ⟨_, rfl, p, natsV fs, rfl, .inl (.inl hp1), ?_⟩
      refine for_it (walk_enum (xs := natsV fs)) (fun j σ H' => ∃ (z : Str) (y3 y4 : Option V), σ = [some (.ref p), some (.str ⟨#[c]⟩), some (.str z), y3, y4] ∧ Same H H' ∧ z.cps.toList = (if j < fs.length then 77 :: segs (fs.take j) else lfs fs c))
        ⟨z0, none, none, rfl, s1, hz0⟩ (fun _ _ _ _ ⟨_, _, _, _, sm, _⟩ => .inl (.inl (sm _ _ hp))) ?_ ?_
      · rintro j u σ H5 H6 hj ⟨z, y3, y4, rfl, sm, hz⟩ ⟨T', u1, u2, rfl, nT, rfl, h1, h2⟩
        cases Option.some.inj h1
        replace h2 : (natsV fs)[j]? = some u2 := h2
        rw [e0] at hj
        have hri : fs[j]? = some fs[j] := List.getElem?_eq_getElem hj
        unfold natsV at h2
        rw [List.getElem?_map, hri] at h2
        cases Option.some.inj h2
        have hgm := List.mem_of_getElem? hri
        have htk : fs.take (j + 1) = fs.take j ++ [fs[j]] := by rw [List.take_succ, hri]; rfl
        have g1 := hg _ hgm
        have g2 := mem_sum_le hgm
        have hT : upd H5 T' (.tup [.int (j : Nat), .int (fs[j] : Nat)]) T' = some (.tup [.int (j : Nat), .int (fs[j] : Nat)]) := upd_same
        have smT := sm.trans (same_upd (o := .tup [.int (j : Nat), .int (fs[j] : Nat)]) nT)
        revert hT smT
        generalize upd H5 T' (.tup [.int (j : Nat), .int (fs[j] : Nat)]) = H6
        intro hT smT
        rw [if_pos hj] at hz
        have zl : z.length ≤ 100001 := by
          have h0 : z.cps.toList.length = z.length := Array.length_toList
          rw [hz, List.length_cons, segs_len (fun x hx => hg x (List.mem_of_mem_take hx))] at h0
          have := sum_take_le fs j
          omega
        rw [htk]
        generalize fs[j] = g at *
        have gI : ((g : Int) - 1).toNat = g - 1 := by omega
        have repl : (rep "U" (g - 1)).cps.toList = List.replicate (g - 1) 85 := rep1 85 (g - 1)
        have rl : (rep "U" (g - 1)).length = g - 1 := by
          have h0 : (rep "U" (g - 1)).cps.toList.length = (rep "U" (g - 1)).length := Array.length_toList
          rw [repl, List.length_replicate] at h0
          exact h0.symm
        refine ⟨T', _, rfl, .inl (.inl hT), rfl, _, _, rfl, _, _, rfl, rfl, ?_⟩
        dsimp only [gName, tNext, tSeq]
        refine ⟨_, rfl, _, rfl, _, _, rfl, rfl, "U", _, rfl, rfl, by omega, by omega, by rw [gI, sizeLine_eq]; show 1 * _ ≤ _; omega, _, _, rfl, rfl, by rw [gI, rl, sizeLine_eq]; omega, ?_⟩
        rw [gI]
        have h12 : (z ++ rep "U" (g - 1)).cps.toList = z.cps.toList ++ List.replicate (g - 1) 85 := by
          rw [show (z ++ rep "U" (g - 1)).cps.toList = z.cps.toList ++ (rep "U" (g - 1)).cps.toList from Array.toList_append .., repl]
        have l12 : (z ++ rep "U" (g - 1)).length = z.length + (g - 1) := by
          have : (z ++ rep "U" (g - 1)).length = z.length + (rep "U" (g - 1)).length := Array.size_append ..
          rw [this, rl]
        refine ⟨_, rfl, _, rfl, p, _, rfl, .inl (.inl (.inl (smT _ _ hp))), _, _, rfl, rfl, _, _, rfl, rfl, _, rfl, ?_⟩
        rw [e0]
        by_cases hj1 : j + 1 < fs.length
        · rw [decide_eq_true (show ((j : Nat) : Int) < (fs.length : Int) - 1 by omega)]
          refine iteT ⟨_, _, rfl, rfl, by rw [l12, sizeLine_eq]; show _ + 1 ≤ _; omega, _, _, _, rfl, smT, ?_⟩
          rw [if_pos hj1, show (z ++ rep "U" (g - 1) ++ "M").cps.toList = (z ++ rep "U" (g - 1)).cps.toList ++ [77] from Array.toList_append .., h12, hz, segs_snoc]
        · rw [decide_eq_false (show ¬ ((j : Nat) : Int) < (fs.length : Int) - 1 by omega)]
          refine iteF ⟨_, rfl, _, _, rfl, rfl, by rw [l12, sizeLine_eq]; show _ + 1 ≤ _; omega, _, _, _, rfl, smT, ?_⟩
          have efs : fs = fs.take j ++ [g] := by rw [← htk, List.take_of_length_le (by omega)]
          rw [if_neg hj1, show (z ++ rep "U" (g - 1) ++ (⟨#[c]⟩ : Str)).cps.toList = (z ++ rep "U" (g - 1)).cps.toList ++ [c] from Array.toList_append .., h12, hz]
          conv => rhs; rw [efs]
          rw [lfs_snoc]
      · rintro σ H5 ⟨z, y3, y4, rfl, sm, hz⟩
        rw [e0, if_neg (Nat.lt_irrefl _)] at hz
        exact ⟨_, rfl, q z _ sm hz⟩
end
end Lw
namespace Lw
open PySem PySem.Spec L2 Lx
theorem mul_ge {k u x : Int} (hk : 0 < k) (hu : 0 < u) (hx : 0 < x) : x ≤ k * u * x := by
  have h1 : 1 * x ≤ k * u * x := Int.mul_le_mul_of_nonneg_right (by have := Int.mul_pos hk hu; omega) (by omega)
  omega
theorem k_le {f w : Fm} (nf : NN f) (nw : NN w) (h : Fm.isKeep w = false) : kOf w ≤ kOf (f.both w) := by
  have pz : ∀ {c hb ha : Int}, 0 ≤ ha → 0 < (if c - hb > 0 then c - hb else 0) + ha + 1 := fun h => by split <;> omega
  cases f with
  | keep b a => cases w <;> exact Int.le_refl _
  | lf b a k c =>
    cases w with
    | keep b' a' => cases h
    | lf b' a' k' c' => exact mul_ge nf.2.2.1 (pz nw.2.1) nw.2.2.1
    | cr b' a' k' => exact mul_ge nf.2.2.1 (pz nw.2.1) nw.2.2
  | cr b a k =>
    cases w with
    | keep b' a' => cases h
    | lf b' a' k' c' => exact mul_ge nf.2.2 (by decide) nw.2.2.1
    | cr b' a' k' => exact mul_ge nf.2.2 (by decide) nw.2.2
/-- what spRem asks of the forms of the list -/
theorem btw_kb {dv : Int → List Int} (D : DvOk dv) {f g : Fm} (nf : NN f) (ng : NN g) (kg : KB g) : ∀ w ∈ btw dv f g, NN w ∧ KB w := fun w hw => by
  obtain ⟨e, nw⟩ := btw_leads (fun q u a b => D.of q u a b) nf ng hw
  refine ⟨nw, ?_⟩
  have h60 := kOf_60 kg
  cases w with
  | keep b a => exact trivial
  | lf b a k c =>
    have h1 : k ≤ _ := k_le nf nw rfl
    rw [e] at h1
    show k < 2 ^ 60
    omega
  | cr b a k =>
    have h1 : k ≤ _ := k_le nf nw rfl
    rw [e] at h1
    show k < 2 ^ 60
    omega
theorem q_low {k q k' : Int} {gs : List Nat} (hk : 0 < k) (hq : 0 < q) (e : k * q = k') (hg : ∀ g ∈ gs, 2 ≤ g) (hp : (pr gs : Int) = k') : ∃ fs : List Nat, (∀ g ∈ fs, 2 ≤ g) ∧ (pr fs : Int) = q ∧ fs.sum ≤ gs.sum := by
  obtain ⟨k, rfl⟩ := Int.eq_ofNat_of_zero_le (Int.le_of_lt hk)
  obtain ⟨q, rfl⟩ := Int.eq_ofNat_of_zero_le (Int.le_of_lt hq)
  obtain ⟨fk, h1⟩ := ex_pf (k := k) (by omega)
  obtain ⟨fq, h2⟩ := ex_pf (k := q) (by omega)
  refine ⟨fq, fun g hg => (h2.pm g hg).1, by rw [h2.prod], ?_⟩
  have e2 : pr (fk ++ fq) = pr gs := by
    rw [pr_app, h1.prod, h2.prod]
    have : ((k * q : Nat) : Int) = (pr gs : Int) := by rw [Int.natCast_mul, e, hp]
    exact Int.ofNat_inj.mp this
  have := min_sum (fun p hp => by
    rcases List.mem_append.mp hp with h | h
    · exact h1.pm p h
    · exact h2.pm p h) hg e2
  rw [List.sum_append] at this
  omega
theorem wba_low {g : Fm} {M T : Nat} {t p : Int} (h : LowB g M) (t0 : 0 ≤ t) (p0 : 0 ≤ p) (ht : t + p ≤ T) : LowB (wba g t p) (M + T) := by
  cases g with
  | keep b a => exact ⟨t0, p0, by omega⟩
  | lf b a k c =>
    obtain ⟨h1, h2, h3, gs, h4, h5, h6⟩ := h
    exact ⟨t0, p0, h3, gs, h4, h5, by omega⟩
  | cr b a k =>
    obtain ⟨h1, h2, gs, h4, h5, h6⟩ := h
    exact ⟨t0, p0, gs, h4, h5, by omega⟩
/-- one form of the list has few steps -/
theorem btw_few {dv : Int → List Int} (D : DvOk dv) {f g : Fm} {N M : Nat} (lf : LowB f N) (lg : LowB g M) (hne : btw dv f g ≠ []) : ∃ w ∈ btw dv f g, LowB w (N + M + M + 1) := by
  have nf := low_nn lf
  have ng := low_nn lg
  cases f with
  | keep b a =>
    rw [btw_k] at hne ⊢
    have g1 : 0 ≤ g.b ∧ 0 ≤ g.a := by cases g <;> exact ⟨ng.1, by first | exact ng.2 | exact ng.2.1⟩
    have g2 : g.b + g.a ≤ M := by
      cases g with
      | keep b' a' => exact lg.2.2
      | lf b' a' k c => obtain ⟨h1, h2, h3, gs, h4, h5, h6⟩ := lg; show b' + a' ≤ M; omega
      | cr b' a' k => obtain ⟨h1, h2, gs, h4, h5, h6⟩ := lg; show b' + a' ≤ M; omega
    obtain ⟨f1, f2, f3⟩ := lf
    by_cases c1 : g.b < b
    · rw [if_pos c1] at hne
      exact absurd rfl hne
    · rw [if_neg c1]
      by_cases c2 : g.b > b
      · rw [if_pos c2]
        exact ⟨_, List.mem_singleton.mpr rfl, low_mono (wba_low (T := N + M) lg (by omega) (by omega) (by omega)) (by omega)⟩
      · rw [if_neg c2]
        refine ⟨_, List.mem_singleton.mpr rfl, low_mono (wba_low (T := N + M) lg ch1_le.1 ch1_le.1 ?_) (by omega)⟩
        unfold ch1
        split <;> split <;> omega
  | lf b a k c =>
    obtain ⟨f1, f2, f4, gf, f5, f6, f7⟩ := lf
    have hk0 : 0 < k := nf.2.2.1
    cases g with
    | keep b' a' => exact absurd rfl hne
    | lf b' a' k' c' =>
      obtain ⟨h1, h2, h3, gs, h4, h5, h6⟩ := lg
      rw [btw_ll] at hne ⊢
      by_cases hc : b = b' ∧ a = a' ∧ k'.fmod k = 0
      · rw [if_pos hc]
        have ek := fmod_mul hk0 hc.2.2
        have q0 : 0 < k' / k := by
          have := ng.2.2.1
          rw [← ek] at this
          exact pos_r hk0 this
        by_cases hq : k' / k = 1
        · rw [if_pos hq]
          refine ⟨_, List.mem_singleton.mpr rfl, ch1_le.1, ch1_le.1, ?_⟩
          unfold ch1
          split <;> split <;> omega
        · rw [if_neg hq]
          obtain ⟨fs, p1, p2, p3⟩ := q_low hk0 q0 ek h4 h5
          refine ⟨_, List.mem_map.mpr ⟨1, D.mem _ 1 (by decide) q0 (Int.one_dvd _), rfl⟩, ch1_le.1, ch1_le.1, h3, fs, p1, by rw [Int.ediv_one]; exact p2, ?_⟩
          unfold ch1
          split <;> split <;> omega
      · rw [if_neg hc] at hne
        exact absurd rfl hne
    | cr b' a' k' =>
      obtain ⟨h1, h2, gs, h4, h5, h6⟩ := lg
      rw [btw_lc] at hne ⊢
      by_cases hc : b = b' ∧ a = a' ∧ k'.fmod k = 0
      · rw [if_pos hc]
        have ek := fmod_mul hk0 hc.2.2
        have q0 : 0 < k' / k := by
          have := ng.2.2
          rw [← ek] at this
          exact pos_r hk0 this
        obtain ⟨fs, p1, p2, p3⟩ := q_low hk0 q0 ek h4 h5
        refine ⟨_, List.mem_map.mpr ⟨1, D.mem _ 1 (by decide) q0 (Int.one_dvd _), rfl⟩, ch1_le.1, ch1_le.1, fs, p1, by rw [Int.ediv_one]; exact p2, ?_⟩
        unfold ch1
        split <;> split <;> omega
      · rw [if_neg hc] at hne
        exact absurd rfl hne
  | cr b a k =>
    have hk0 : 0 < k := nf.2.2
    cases g with
    | keep b' a' => exact absurd rfl hne
    | lf b' a' k' c' =>
      obtain ⟨h1, h2, h3, gs, h4, h5, h6⟩ := lg
      rw [btw_cl] at hne ⊢
      by_cases hc : b = b' ∧ a = a' ∧ k'.fmod k = 0
      · rw [if_pos hc]
        have ek := fmod_mul hk0 hc.2.2
        have q0 : 0 < k' / k := by
          have := ng.2.2.1
          rw [← ek] at this
          exact pos_r hk0 this
        obtain ⟨fs, p1, p2, p3⟩ := q_low hk0 q0 ek h4 h5
        exact ⟨_, List.mem_singleton.mpr rfl, by decide, by decide, h3, fs, p1, p2, by omega⟩
      · rw [if_neg hc] at hne
        exact absurd rfl hne
    | cr b' a' k' =>
      obtain ⟨h1, h2, gs, h4, h5, h6⟩ := lg
      rw [btw_cc] at hne ⊢
      by_cases hc : b = b' ∧ a = a' ∧ k'.fmod k = 0
      · rw [if_pos hc]
        have ek := fmod_mul hk0 hc.2.2
        have q0 : 0 < k' / k := by
          have := ng.2.2
          rw [← ek] at this
          exact pos_r hk0 this
        by_cases hq : k' / k = 1
        · rw [if_pos hq]
          exact ⟨_, List.mem_singleton.mpr rfl, by decide, by decide, by omega⟩
        · rw [if_neg hq]
          obtain ⟨fs, p1, p2, p3⟩ := q_low hk0 q0 ek h4 h5
          exact ⟨_, List.mem_singleton.mpr rfl, by decide, by decide, fs, p1, p2, by omega⟩
      · rw [if_neg hc] at hne
        exact absurd rfl hne
end Lw
/-! how many divisors; all that remainder asks of forms with few steps -/
namespace Lw
open PySem PySem.Spec L2 Lx
theorem nodup_sub {α : Type} [BEq α] [LawfulBEq α] : ∀ {l m : List α}, l.Nodup → (∀ x ∈ l, x ∈ m) → l.length ≤ m.length
  | [], m, _, _ => Nat.zero_le _
  | x :: l, m, hn, h => by
    have hx : x ∈ m := h x (List.mem_cons_self ..)
    have hn' := List.nodup_cons.mp hn
    have := nodup_sub (l := l) (m := m.erase x) hn'.2 fun y hy => by
      have hne : y ≠ x := fun e => hn'.1 (e ▸ hy)
      exact (List.mem_erase_of_ne hne).mpr (h y (List.mem_cons_of_mem _ hy))
    have e := List.length_erase_of_mem hx
    have hpos : 0 < m.length := List.length_pos_of_mem hx
    rw [List.length_cons]
    omega
theorem cnt_pow {n p : Nat} (hp : Pm p) (hn : 0 < n) (a : Nat) : (dvs ((n * p ^ a : Nat) : Int)).length ≤ (a + 1) * (dvs (n : Int)).length := by
  have p0 : 0 < p := by have := hp.1; omega
  have sub : ∀ a : Nat, ∀ x ∈ dvs ((n * p ^ a : Nat) : Int), x ∈ (List.range (a + 1)).flatMap fun i => (dvs (n : Int)).map fun d => ((p ^ i : Nat) : Int) * d := by
    intro a
    induction a with
    | zero =>
      intro x hx
      rw [Nat.pow_zero, Nat.mul_one] at hx
      simp only [List.mem_flatMap, List.mem_map, List.mem_range]
      exact ⟨0, by omega, x, hx, by simp⟩
    | succ a ih =>
      intro x hx
      have hpos : 0 < n * p ^ a := Nat.mul_pos hn (Nat.pow_pos p0)
      have e : n * p ^ (a + 1) = (n * p ^ a) * p := by rw [Nat.pow_succ, Nat.mul_assoc]
      rw [e] at hx
      have hx2 := (dvs_is (q := ((n * p ^ a * p : Nat) : Int)) (by have := Nat.mul_pos hpos p0; omega)).mem x |>.mp hx
      rw [Int.toNat_natCast] at hx2
      have back : ∀ y : Int, (0 < y ∧ y ∣ ((n * p ^ a : Nat) : Int)) → y ∈ dvs ((n * p ^ a : Nat) : Int) := fun y hy => (dvs_is (q := ((n * p ^ a : Nat) : Int)) (by omega)).mem y |>.mpr (by rw [Int.toNat_natCast]; exact hy)
      rcases (dv_step hp hpos x).mp hx2 with h | ⟨d, h, rfl⟩
      · have := ih x (back x h)
        simp only [List.mem_flatMap, List.mem_map, List.mem_range] at this ⊢
        obtain ⟨i, hi, d, hd, e⟩ := this
        exact ⟨i, by omega, d, hd, e⟩
      · have := ih d (back d h)
        simp only [List.mem_flatMap, List.mem_map, List.mem_range] at this ⊢
        obtain ⟨i, hi, d', hd, e⟩ := this
        refine ⟨i + 1, by omega, d', hd, ?_⟩
        rw [← e, Nat.pow_succ, Int.natCast_mul, Int.mul_comm ((p ^ i : Nat) : Int), Int.mul_assoc]
  have hpos : 0 < n * p ^ a := Nat.mul_pos hn (Nat.pow_pos p0)
  have h1 := nodup_sub (dvs_is (q := ((n * p ^ a : Nat) : Int)) (by omega)).nd (sub a)
  have h2 : ∀ l : List Nat, (l.flatMap fun i => (dvs (n : Int)).map fun d => ((p ^ i : Nat) : Int) * d).length = l.length * (dvs (n : Int)).length := fun l => by
    induction l with
    | nil => simp
    | cons x l ih => rw [List.flatMap_cons, List.length_append, ih, List.length_map, List.length_cons, Nat.add_mul]; omega
  rw [h2, List.length_range] at h1
  exact h1
theorem cnt_two {n p : Nat} (hp : Pm p) (hn : 0 < n) : (dvs ((n * p : Nat) : Int)).length ≤ 2 * (dvs (n : Int)).length := by
  have := cnt_pow hp hn 1
  rwa [Nat.pow_one] at this
theorem cnt_list : ∀ fs : List Nat, (∀ p ∈ fs, Pm p) → (dvs ((pr fs : Nat) : Int)).length ≤ 2 ^ fs.length
  | [], _ => by
    show (dvs ((1 : Nat) : Int)).length ≤ 1
    decide
  | p :: fs, h => by
    have ih := cnt_list fs fun q hq => h q (List.mem_cons_of_mem _ hq)
    have h0 : 0 < pr fs := pr_pos fun x hx => (h x (List.mem_cons_of_mem _ hx)).1
    have := cnt_two (h p (List.mem_cons_self ..)) h0
    show (dvs ((p * pr fs : Nat) : Int)).length ≤ 2 ^ (fs.length + 1)
    rw [Nat.mul_comm p, Nat.pow_succ]
    omega
abbrev f2 (fs : List Nat) : List Nat := fs.filter fun p => p == 2
abbrev f3 (fs : List Nat) : List Nat := fs.filter fun p => p == 3
abbrev f5 (fs : List Nat) : List Nat := fs.filter fun p => !(p == 2 || p == 3)
theorem pr_split (fs : List Nat) : pr fs = pr (f5 fs) * 3 ^ (f3 fs).length * 2 ^ (f2 fs).length := by
  induction fs with
  | nil => rfl
  | cons p fs ih =>
    by_cases h2 : p = 2
    · subst h2
      show 2 * pr fs = pr (f5 fs) * 3 ^ (f3 fs).length * 2 ^ ((f2 fs).length + 1)
      rw [ih, Nat.pow_succ, Nat.mul_comm 2, Nat.mul_assoc]
    · by_cases h3 : p = 3
      · subst h3
        show 3 * pr fs = pr (f5 fs) * 3 ^ ((f3 fs).length + 1) * 2 ^ (f2 fs).length
        rw [ih, Nat.pow_succ]
        generalize pr (f5 fs) = A
        generalize 3 ^ (f3 fs).length = B
        generalize 2 ^ (f2 fs).length = C
        rw [← Nat.mul_assoc A B 3, Nat.mul_comm 3, Nat.mul_assoc (A * B) C 3, Nat.mul_comm C 3, Nat.mul_assoc (A * B) 3 C]
      · have e2 : (p == 2) = false := beq_false_of_ne h2
        have e3 : (p == 3) = false := beq_false_of_ne h3
        have x2 : f2 (p :: fs) = f2 fs := by unfold f2; rw [List.filter_cons, e2]; rfl
        have x3 : f3 (p :: fs) = f3 fs := by unfold f3; rw [List.filter_cons, e3]; rfl
        have x5 : f5 (p :: fs) = p :: f5 fs := by unfold f5; rw [List.filter_cons, e2, e3]; rfl
        rw [x2, x3, x5]
        show p * pr fs = p * pr (f5 fs) * _ * _
        rw [ih, Nat.mul_assoc, Nat.mul_assoc, Nat.mul_assoc]
theorem sum_split (fs : List Nat) (h : ∀ p ∈ fs, Pm p) : 2 * (f2 fs).length + 3 * (f3 fs).length + (f5 fs).sum ≤ fs.sum := by
  induction fs with
  | nil => decide
  | cons p fs ih =>
    have ih' := ih fun q hq => h q (List.mem_cons_of_mem _ hq)
    have hp := h p (List.mem_cons_self ..)
    rw [List.sum_cons]
    by_cases h2 : p = 2
    · subst h2
      show 2 * ((f2 fs).length + 1) + 3 * (f3 fs).length + (f5 fs).sum ≤ _
      omega
    · by_cases h3 : p = 3
      · subst h3
        show 2 * (f2 fs).length + 3 * ((f3 fs).length + 1) + (f5 fs).sum ≤ _
        omega
      · have e2 : (p == 2) = false := beq_false_of_ne h2
        have e3 : (p == 3) = false := beq_false_of_ne h3
        have := hp.1
        have x2 : f2 (p :: fs) = f2 fs := by unfold f2; rw [List.filter_cons, e2]; rfl
        have x3 : f3 (p :: fs) = f3 fs := by unfold f3; rw [List.filter_cons, e3]; rfl
        have x5 : f5 (p :: fs) = p :: f5 fs := by unfold f5; rw [List.filter_cons, e2, e3]; rfl
        rw [x2, x3, x5, List.sum_cons]
        omega
theorem five_of {fs : List Nat} (h : ∀ p ∈ fs, Pm p) : ∀ p ∈ f5 fs, 5 ≤ p := fun p hp => by
  obtain ⟨h1, h2⟩ := List.mem_filter.mp hp
  have hm := h p h1
  have h4 : p ≠ 4 := fun e => by
    subst e
    rcases hm.2 2 (by decide) with h | h <;> cases h
  have n2 : p ≠ 2 := fun e => by subst e; cases h2
  have n3 : p ≠ 3 := fun e => by subst e; cases h2
  have := hm.1
  omega
abbrev e5 (fs : List Nat) : List Nat := fs.filter fun p => p == 5
abbrev e7 (fs : List Nat) : List Nat := fs.filter fun p => !(p == 5)
theorem pr_split5 (fs : List Nat) : pr fs = pr (e7 fs) * 5 ^ (e5 fs).length := by
  induction fs with
  | nil => rfl
  | cons p fs ih =>
    by_cases h5 : p = 5
    · subst h5
      show 5 * pr fs = pr (e7 fs) * 5 ^ ((e5 fs).length + 1)
      rw [ih, Nat.pow_succ, Nat.mul_comm 5, Nat.mul_assoc]
    · have e : (p == 5) = false := beq_false_of_ne h5
      have x5 : e5 (p :: fs) = e5 fs := by unfold e5; rw [List.filter_cons, e]; rfl
      have x7 : e7 (p :: fs) = p :: e7 fs := by unfold e7; rw [List.filter_cons, e]; rfl
      rw [x5, x7]
      show p * pr fs = p * pr (e7 fs) * _
      rw [ih, Nat.mul_assoc]
theorem sum_split5 (fs : List Nat) (h : ∀ p ∈ fs, Pm p ∧ 5 ≤ p) : 5 * (e5 fs).length + 7 * (e7 fs).length ≤ fs.sum := by
  induction fs with
  | nil => decide
  | cons p fs ih =>
    have ih' := ih fun q hq => h q (List.mem_cons_of_mem _ hq)
    obtain ⟨hp, hp5⟩ := h p (List.mem_cons_self ..)
    rw [List.sum_cons]
    by_cases h5 : p = 5
    · subst h5
      show 5 * ((e5 fs).length + 1) + 7 * (e7 fs).length ≤ _
      omega
    · have e : (p == 5) = false := beq_false_of_ne h5
      have h6 : p ≠ 6 := fun e => by
        subst e
        rcases hp.2 2 (by decide) with h | h <;> cases h
      have x5 : e5 (p :: fs) = e5 fs := by unfold e5; rw [List.filter_cons, e]; rfl
      have x7 : e7 (p :: fs) = p :: e7 fs := by unfold e7; rw [List.filter_cons, e]; rfl
      rw [x5, x7, List.length_cons]
      omega
theorem cnt_tab : ∀ a, a < 29 → ∀ b, b < 19 → ∀ c, c < 12 → ∀ d, d < 9 → 2 * a + 3 * b + 5 * c + 7 * d ≤ 56 → (a + 1) * ((b + 1) * ((c + 1) * 2 ^ d)) < 2000 := by decide +kernel
theorem pm5 : Pm 5 := ⟨by decide, fun d hd => by
  have := Nat.le_of_dvd (by decide) hd
  match d, hd, this with
  | 0, h, _ => exact absurd h (by decide)
  | 1, _, _ => exact .inl rfl
  | 2, h, _ => exact absurd h (by decide)
  | 3, h, _ => exact absurd h (by decide)
  | 4, h, _ => exact absurd h (by decide)
  | 5, _, _ => exact .inr rfl
  | n + 6, _, h => omega⟩
theorem pm2 : Pm 2 := ⟨by decide, fun d hd => by
  have := Nat.le_of_dvd (by decide) hd
  match d, hd, this with
  | 0, h, _ => exact absurd h (by decide)
  | 1, _, _ => exact .inl rfl
  | 2, _, _ => exact .inr rfl
  | n + 3, _, h => omega⟩
theorem pm3 : Pm 3 := ⟨by decide, fun d hd => by
  have := Nat.le_of_dvd (by decide) hd
  match d, hd, this with
  | 0, h, _ => exact absurd h (by decide)
  | 1, _, _ => exact .inl rfl
  | 2, h, _ => exact absurd h (by decide)
  | 3, _, _ => exact .inr rfl
  | n + 4, _, h => omega⟩
theorem cnt_sum {fs : List Nat} (h : ∀ p ∈ fs, Pm p) (hs : fs.sum ≤ 56) : (dvs ((pr fs : Nat) : Int)).length < 2000 := by
  have e := pr_split fs
  have s := sum_split fs h
  have hr : ∀ p ∈ f5 fs, Pm p := fun p hp => h p (List.mem_filter.mp hp).1
  have hr5 := five_of h
  generalize f5 fs = rs at e s hr hr5
  have eq5 := pr_split5 rs
  have s5 := sum_split5 rs fun p hp => ⟨hr p hp, hr5 p hp⟩
  have hr7 : ∀ p ∈ e7 rs, Pm p := fun p hp => hr p (List.mem_filter.mp hp).1
  have h1 := cnt_list _ hr7
  have h0 : 0 < pr (e7 rs) := pr_pos fun x hx => (hr7 x hx).1
  generalize e7 rs = ts at eq5 s5 h1 h0
  generalize (e5 rs).length = c at eq5 s5
  generalize (f3 fs).length = b at e s
  generalize (f2 fs).length = a at e s
  have h5 := cnt_pow pm5 h0 c
  rw [eq5] at e
  have h2 := cnt_pow pm3 (n := pr ts * 5 ^ c) (Nat.mul_pos h0 (Nat.pow_pos (by decide))) b
  have h3 := cnt_pow pm2 (n := pr ts * 5 ^ c * 3 ^ b) (Nat.mul_pos (Nat.mul_pos h0 (Nat.pow_pos (by decide))) (Nat.pow_pos (by decide))) a
  have t := cnt_tab a (by omega) b (by omega) c (by omega) ts.length (by omega) (by omega)
  rw [e]
  refine Nat.lt_of_le_of_lt (Nat.le_trans h3 (Nat.mul_le_mul_left _ (Nat.le_trans h2 (Nat.mul_le_mul_left _ (Nat.le_trans h5 (Nat.mul_le_mul_left _ h1)))))) t
theorem pr_2pow : ∀ gs : List Nat, pr gs ≤ 2 ^ gs.sum
  | [] => by decide
  | g :: gs => by
    have ih := pr_2pow gs
    have hg : g ≤ 2 ^ g := Nat.le_of_lt Nat.lt_two_pow_self
    rw [List.sum_cons, Nat.pow_add]
    exact Nat.mul_le_mul hg ih
theorem low_kb {f : Fm} {n : Nat} (h : LowB f n) (hn : n ≤ 56) : KB f := by
  have go : ∀ {gs : List Nat} {k : Int}, (pr gs : Int) = k → gs.sum ≤ 56 → k < 2 ^ 60 := fun {gs k} e hs => by
    have h1 := pr_2pow gs
    have h2 : 2 ^ gs.sum ≤ 2 ^ 56 := Nat.pow_le_pow_right (by decide) hs
    have h3 : (2 : Nat) ^ 56 < 2 ^ 60 := by decide
    have h4 : ((2 : Nat) ^ 60 : Nat) = 1152921504606846976 := by decide
    have h5 : (2 : Int) ^ 60 = 1152921504606846976 := by decide +kernel
    rw [← e, h5]
    omega
  cases f with
  | keep b a => exact trivial
  | lf b a k c =>
    obtain ⟨h1, h2, h3, gs, _, e, h4⟩ := h
    exact go e (by omega)
  | cr b a k =>
    obtain ⟨h1, h2, gs, _, e, h4⟩ := h
    exact go e (by omega)
theorem low_facs {f : Fm} {n : Nat} (h : LowB f n) (hk : Fm.isKeep f = false) : ∃ gs : List Nat, (∀ g ∈ gs, 2 ≤ g) ∧ (pr gs : Int) = kOf f ∧ gs.sum ≤ n := by
  cases f with
  | keep b a => cases hk
  | lf b a k c =>
    obtain ⟨h1, h2, h3, gs, hg, e, h4⟩ := h
    exact ⟨gs, hg, e, by omega⟩
  | cr b a k =>
    obtain ⟨h1, h2, gs, hg, e, h4⟩ := h
    exact ⟨gs, hg, e, by omega⟩
theorem low_dvb {f g : Fm} {N M : Nat} (lf : LowB f N) (lg : LowB g M) (hM : M ≤ 56) : Fm.isKeep f = false → (kOf g).fmod (kOf f) = 0 → (dvs (kOf g / kOf f)).length < 2000 := fun hk hm => by
  obtain ⟨fs, hf, ef, sf⟩ := low_facs lf hk
  have f0 : 0 < pr fs := pr_pos hf
  cases hgk : Fm.isKeep g with
  | true =>
    cases g with
    | lf b a k c => cases hgk
    | cr b a k => cases hgk
    | keep b a =>
      have : kOf (.keep b a) / kOf f = 0 ∨ kOf (.keep b a) / kOf f = 1 := by
        show (1 : Int) / kOf f = 0 ∨ (1 : Int) / kOf f = 1
        rw [← ef]
        by_cases h1 : pr fs = 1
        · rw [h1]; exact .inr rfl
        · exact .inl (Int.ediv_eq_zero_of_lt (by decide) (by omega))
      rcases this with e | e <;> rw [e] <;> decide
  | false =>
    obtain ⟨gs, hg, eg, sg⟩ := low_facs lg hgk
    have g0 : 0 < pr gs := pr_pos hg
    have hd : kOf f ∣ kOf g := Int.dvd_of_fmod_eq_zero hm
    rw [← ef, ← eg] at hd ⊢
    have hd' := Int.natCast_dvd_natCast.mp hd
    have eq : (pr gs : Int) / (pr fs : Int) = ((pr gs / pr fs : Nat) : Int) := rfl
    have hq0 : 0 < pr gs / pr fs := Nat.div_pos (Nat.le_of_dvd g0 hd') f0
    obtain ⟨fq, hq⟩ := ex_pf (k := pr gs / pr fs) hq0
    obtain ⟨fk, hk2⟩ := ex_pf (k := pr fs) f0
    have e2 : pr (fk ++ fq) = pr gs := by
      rw [pr_app, hk2.prod, hq.prod, Nat.mul_div_cancel' hd']
    have hs := min_sum (fun p hp => by
      rcases List.mem_append.mp hp with h | h
      · exact hk2.pm p h
      · exact hq.pm p h) hg e2
    rw [List.sum_append] at hs
    rw [eq, ← hq.prod]
    exact cnt_sum hq.pm (by omega)
theorem btw_len {f g : Fm} (h : Fm.isKeep f = false → (kOf g).fmod (kOf f) = 0 → (dvs (kOf g / kOf f)).length < 2000) : (btw dvs f g).length ≤ 4000 := by
  cases f with
  | keep b a =>
    rw [btw_k]
    split
    · exact Nat.zero_le _
    · split <;> exact (by show 1 ≤ 4000; decide)
  | lf b a k c =>
    cases g with
    | keep b' a' => exact Nat.zero_le _
    | lf b' a' k' c' =>
      rw [btw_ll]
      split
      · next hc =>
        split
        · exact (by show 1 ≤ 4000; decide)
        · rw [List.length_map]
          have := h rfl hc.2.2
          exact Nat.le_trans (Nat.le_of_lt this) (by decide)
      · exact Nat.zero_le _
    | cr b' a' k' =>
      rw [btw_lc]
      split
      · next hc =>
        rw [List.length_map]
        have := h rfl hc.2.2
        exact Nat.le_trans (Nat.le_of_lt this) (by decide)
      · exact Nat.zero_le _
  | cr b a k =>
    cases g with
    | keep b' a' => exact Nat.zero_le _
    | lf b' a' k' c' =>
      rw [btw_cl]
      split
      · exact (by show 1 ≤ 4000; decide)
      · exact Nat.zero_le _
    | cr b' a' k' =>
      rw [btw_cc]
      split
      · split <;> exact (by show 1 ≤ 4000; decide)
      · exact Nat.zero_le _
/-- all that remainder asks -/
theorem rem_ready {f g : Fm} {N M : Nat} (lf : LowB f N) (lg : LowB g M) (hN : N ≤ 56) (hM : M ≤ 56) : NN f ∧ NN g ∧ KB f ∧ KB g ∧ (Fm.isKeep f = false → (kOf g).fmod (kOf f) = 0 → (dvs (kOf g / kOf f)).length < 2000) ∧ (∀ w ∈ btw dvs f g, NN w ∧ KB w) ∧ (btw dvs f g).length ≤ 4000 ∧ (btw dvs f g ≠ [] → ∃ w ∈ btw dvs f g, ∃ m, m ≤ 1000000 ∧ LowB w m) := by
  have hd := low_dvb lf lg hM
  have kg := low_kb lg hM
  refine ⟨low_nn lf, low_nn lg, low_kb lf hN, kg, hd, btw_kb dvs_ok (low_nn lf) (low_nn lg) kg, btw_len hd, fun hne => ?_⟩
  obtain ⟨w, hw, hl⟩ := btw_few dvs_ok lf lg hne
  exact ⟨w, hw, _, by omega, hl⟩
end Lw
/-! divisors of numbers up to a thousand million -/
namespace Lw
open PySem PySem.Spec L2 Lx
abbrev g7 (fs : List Nat) : List Nat := fs.filter fun p => p == 7
abbrev g11 (fs : List Nat) : List Nat := fs.filter fun p => !(p == 7)
theorem pr_split7 (fs : List Nat) : pr fs = pr (g11 fs) * 7 ^ (g7 fs).length := by
  induction fs with
  | nil => rfl
  | cons p fs ih =>
    by_cases h5 : p = 7
    · subst h5
      show 7 * pr fs = pr (g11 fs) * 7 ^ ((g7 fs).length + 1)
      rw [ih, Nat.pow_succ, Nat.mul_comm 7, Nat.mul_assoc]
    · have e : (p == 7) = false := beq_false_of_ne h5
      have x5 : g7 (p :: fs) = g7 fs := by unfold g7; rw [List.filter_cons, e]; rfl
      have x7 : g11 (p :: fs) = p :: g11 fs := by unfold g11; rw [List.filter_cons, e]; rfl
      rw [x5, x7]
      show p * pr fs = p * pr (g11 fs) * _
      rw [ih, Nat.mul_assoc]
theorem pr_11 : ∀ fs : List Nat, (∀ p ∈ fs, 11 ≤ p) → 11 ^ fs.length ≤ pr fs
  | [], _ => Nat.le_refl _
  | p :: fs, h => by
    have ih := pr_11 fs fun q hq => h q (List.mem_cons_of_mem _ hq)
    have hp := h p (List.mem_cons_self ..)
    show 11 ^ (fs.length + 1) ≤ p * pr fs
    rw [Nat.pow_succ, Nat.mul_comm]
    exact Nat.mul_le_mul hp ih
theorem pm7 : Pm 7 := ⟨by decide, fun d hd => by
  have := Nat.le_of_dvd (by decide) hd
  match d, hd, this with
  | 0, h, _ => exact absurd h (by decide)
  | 1, _, _ => exact .inl rfl
  | 2, h, _ => exact absurd h (by decide)
  | 3, h, _ => exact absurd h (by decide)
  | 4, h, _ => exact absurd h (by decide)
  | 5, h, _ => exact absurd h (by decide)
  | 6, h, _ => exact absurd h (by decide)
  | 7, _, _ => exact .inr rfl
  | n + 8, _, h => omega⟩
theorem eleven_of {rs : List Nat} (h : ∀ p ∈ rs, Pm p ∧ 5 ≤ p) : ∀ p ∈ g11 (e7 rs), 11 ≤ p := fun p hp => by
  obtain ⟨h1, h2⟩ := List.mem_filter.mp hp
  obtain ⟨h3, h4⟩ := List.mem_filter.mp h1
  obtain ⟨hm, h5⟩ := h p h3
  have n5 : p ≠ 5 := fun e => by subst e; cases h4
  have n7 : p ≠ 7 := fun e => by subst e; cases h2
  have n6 : p ≠ 6 := fun e => by
    subst e
    rcases hm.2 2 (by decide) with h | h <;> cases h
  have n8 : p ≠ 8 := fun e => by
    subst e
    rcases hm.2 2 (by decide) with h | h <;> cases h
  have n9 : p ≠ 9 := fun e => by
    subst e
    rcases hm.2 3 (by decide) with h | h <;> cases h
  have n10 : p ≠ 10 := fun e => by
    subst e
    rcases hm.2 2 (by decide) with h | h <;> cases h
  omega
def cB : Bool := (List.range 9).all fun e => !decide (11 ^ e ≤ 1000000000) || (List.range 11).all fun d => !decide (11 ^ e * 7 ^ d ≤ 1000000000) || (List.range 13).all fun c => !decide (11 ^ e * 7 ^ d * 5 ^ c ≤ 1000000000) || (List.range 19).all fun b => !decide (11 ^ e * 7 ^ d * 5 ^ c * 3 ^ b ≤ 1000000000) || (List.range 30).all fun a => !decide (11 ^ e * 7 ^ d * 5 ^ c * 3 ^ b * 2 ^ a ≤ 1000000000) || decide ((a + 1) * ((b + 1) * ((c + 1) * ((d + 1) * 2 ^ e))) < 2000)
theorem cB_ok : cB = true := by decide +kernel
theorem or_dec {p : Prop} [Decidable p] {x : Bool} (h : (!decide p || x) = true) (hp : p) : x = true := by
  rw [decide_eq_true hp] at h
  exact h
theorem cnt_big (e : Nat) (h1 : e < 9) (t1 : 11 ^ e ≤ 1000000000) (d : Nat) (h2 : d < 11) (t2 : 11 ^ e * 7 ^ d ≤ 1000000000) (c : Nat) (h3 : c < 13) (t3 : 11 ^ e * 7 ^ d * 5 ^ c ≤ 1000000000) (b : Nat) (h4 : b < 19) (t4 : 11 ^ e * 7 ^ d * 5 ^ c * 3 ^ b ≤ 1000000000) (a : Nat) (h5 : a < 30) (t5 : 11 ^ e * 7 ^ d * 5 ^ c * 3 ^ b * 2 ^ a ≤ 1000000000) : (a + 1) * ((b + 1) * ((c + 1) * ((d + 1) * 2 ^ e))) < 2000 := by
  have x1 := or_dec (List.all_eq_true.mp cB_ok e (List.mem_range.mpr h1)) t1
  have x2 := or_dec (List.all_eq_true.mp x1 d (List.mem_range.mpr h2)) t2
  have x3 := or_dec (List.all_eq_true.mp x2 c (List.mem_range.mpr h3)) t3
  have x4 := or_dec (List.all_eq_true.mp x3 b (List.mem_range.mpr h4)) t4
  exact of_decide_eq_true (or_dec (List.all_eq_true.mp x4 a (List.mem_range.mpr h5)) t5)
theorem exp_lt {p n k M : Nat} (hp : 2 ≤ p) (h : p ^ n ≤ M) (hk : M < p ^ k) : n < k := by
  refine Classical.byContradiction fun z => ?_
  have : p ^ k ≤ p ^ n := Nat.pow_le_pow_right (by omega) (by omega)
  omega
theorem cnt_prod {n : Nat} (h0 : 1 ≤ n) (hn : n ≤ 1000000000) : (dvs ((n : Nat) : Int)).length < 2000 := by
  obtain ⟨fs, h, rfl⟩ := ex_primes n n (Nat.le_refl _) h0
  have e := pr_split fs
  have hr : ∀ p ∈ f5 fs, Pm p := fun p hp => h p (List.mem_filter.mp hp).1
  have hr5 := five_of h
  generalize f5 fs = rs at e hr hr5
  have eq5 := pr_split5 rs
  have h11 := eleven_of fun p hp => ⟨hr p hp, hr5 p hp⟩
  have hr7 : ∀ p ∈ e7 rs, Pm p := fun p hp => hr p (List.mem_filter.mp hp).1
  have eq7 := pr_split7 (e7 rs)
  have hr11 : ∀ p ∈ g11 (e7 rs), Pm p := fun p hp => hr7 p (List.mem_filter.mp hp).1
  have h1 := cnt_list _ hr11
  have b11 := pr_11 _ h11
  have p0 : 0 < pr (g11 (e7 rs)) := pr_pos fun x hx => (hr11 x hx).1
  generalize g11 (e7 rs) = ts at eq7 h1 b11 p0
  generalize (g7 (e7 rs)).length = d at eq7
  generalize (e5 rs).length = c at eq5
  generalize (f3 fs).length = b at e
  generalize (f2 fs).length = a at e
  rw [eq7] at eq5
  rw [eq5] at e
  have q7 := cnt_pow pm7 p0 d
  have w7 : 0 < pr ts * 7 ^ d := Nat.mul_pos p0 (Nat.pow_pos (by decide))
  have q5 := cnt_pow pm5 w7 c
  have w5 : 0 < pr ts * 7 ^ d * 5 ^ c := Nat.mul_pos w7 (Nat.pow_pos (by decide))
  have q3 := cnt_pow pm3 w5 b
  have w3 : 0 < pr ts * 7 ^ d * 5 ^ c * 3 ^ b := Nat.mul_pos w5 (Nat.pow_pos (by decide))
  have q2 := cnt_pow pm2 w3 a
  have t5 : 11 ^ ts.length * 7 ^ d * 5 ^ c * 3 ^ b * 2 ^ a ≤ 1000000000 := by
    refine Nat.le_trans ?_ (e ▸ hn)
    exact Nat.mul_le_mul_right _ (Nat.mul_le_mul_right _ (Nat.mul_le_mul_right _ (Nat.mul_le_mul_right _ b11)))
  have t4 : 11 ^ ts.length * 7 ^ d * 5 ^ c * 3 ^ b ≤ 1000000000 := Nat.le_trans (Nat.le_mul_of_pos_right _ (Nat.pow_pos (by decide))) t5
  have t3 : 11 ^ ts.length * 7 ^ d * 5 ^ c ≤ 1000000000 := Nat.le_trans (Nat.le_mul_of_pos_right _ (Nat.pow_pos (by decide))) t4
  have t2 : 11 ^ ts.length * 7 ^ d ≤ 1000000000 := Nat.le_trans (Nat.le_mul_of_pos_right _ (Nat.pow_pos (by decide))) t3
  have t1 : 11 ^ ts.length ≤ 1000000000 := Nat.le_trans (Nat.le_mul_of_pos_right _ (Nat.pow_pos (by decide))) t2
  have u : ∀ {x y : Nat}, 0 < x → x * y ≤ 1000000000 → y ≤ 1000000000 := fun {x y} hx h => Nat.le_trans (Nat.le_mul_of_pos_left _ hx) h
  have s1 := exp_lt (p := 11) (k := 9) (by decide) t1 (by decide)
  have s2 := exp_lt (p := 7) (k := 11) (by decide) (u (Nat.pow_pos (by decide)) t2) (by decide)
  have s3 := exp_lt (p := 5) (k := 13) (by decide) (u (Nat.mul_pos (Nat.pow_pos (by decide)) (Nat.pow_pos (by decide))) t3) (by decide)
  have s4 := exp_lt (p := 3) (k := 19) (by decide) (u (Nat.mul_pos (Nat.mul_pos (Nat.pow_pos (by decide)) (Nat.pow_pos (by decide))) (Nat.pow_pos (by decide))) t4) (by decide)
  have s5 := exp_lt (p := 2) (k := 30) (by decide) (u (Nat.mul_pos (Nat.mul_pos (Nat.mul_pos (Nat.pow_pos (by decide)) (Nat.pow_pos (by decide))) (Nat.pow_pos (by decide))) (Nat.pow_pos (by decide))) t5) (by decide)
  have t := cnt_big ts.length s1 t1 d s2 t2 c s3 t3 b s4 t4 a s5 t5
  rw [e]
  exact Nat.lt_of_le_of_lt (Nat.le_trans q2 (Nat.mul_le_mul_left _ (Nat.le_trans q3 (Nat.mul_le_mul_left _ (Nat.le_trans q5 (Nat.mul_le_mul_left _ (Nat.le_trans q7 (Nat.mul_le_mul_left _ h1)))))))) t
end Lw
namespace Lw
open PySem PySem.Spec L2 Lx
theorem scLCv : FnScope ["here", "factor", "last", "some", "one", "primes", "least", "found", "long", "row"] ["here", "factor", "last"] (defScope sLConverted) := ⟨rfl, rfl, rfl, by decide +kernel, rfl, by decide +kernel, by decide +kernel⟩
structure CvF (mg : Str → Option Value) : Prop where
  abs : mg "abs" = none
  sum : mg "sum" = none
  min : mg "min" = none
def cst (h u : Int) (fs : List Nat) : Int := ch1 h (u - 1) + ch1 (u - 1) h + 1 + (fs.sum : Int)
theorem cst_abs (h u : Int) (fs : List Nat) : (if u - 1 - h < 0 then -(u - 1 - h) else u - 1 - h) + 1 + (fs.map (fun n : Nat => (n : Int))).sum = cst h u fs := by
  rw [sum_cast]
  unfold cst ch1
  split <;> split <;> split <;> omega
def cX (h u : Int) (fs : List Nat) (c : Nat) : List Nat := List.replicate (u - 1 - h).toNat 85 ++ List.replicate (h - (u - 1)).toNat 68 ++ lfs fs c
/-- the first shortest steps that multiply by q, from h returns before each newline -/
def Cvt (h q : Int) (c : Nat) (t : List Nat) : Prop := ∃ s : Int, (∃ u ∈ dvs q, ∃ fs, IsPf (q / u).toNat fs ∧ cst h u fs = s ∧ t = cX h u fs c) ∧ (∀ u ∈ dvs q, ∀ fs, IsPf (q / u).toNat fs → s ≤ cst h u fs) ∧ ∀ u ∈ dvs q, ∀ fs, IsPf (q / u).toNat fs → cst h u fs = s → ¬ cX h u fs c < t
/-- rows of numbers and primes: tuples, told by tv -/
inductive Rws (H : Hp) (D : Addr) (tv : Int × List Nat → Addr → List V) : List V → List (Int × List Nat) → Prop
  | nil : Rws H D tv [] []
  | cons {t p : Addr} {us : List V} {rs : List (Int × List Nat)} {r : Int × List Nat} : H t = some (.tup (tv r p)) → H p = some (.lst (natsV r.2)) → p ≠ D → Rws H D tv us rs → Rws H D tv (.ref t :: us) (r :: rs)
section
variable {H H' : Hp} {D : Addr} {tv : Int × List Nat → Addr → List V}
theorem Rws.same (s : Same H H') : ∀ {us rs}, Rws H D tv us rs → Rws H' D tv us rs
  | _, _, .nil => .nil
  | _, _, .cons a b n t => .cons (s _ _ a) (s _ _ b) n (t.same s)
theorem Rws.len : ∀ {us rs}, Rws H D tv us rs → us.length = rs.length
  | _, _, .nil => rfl
  | _, _, .cons _ _ _ t => by rw [List.length_cons, List.length_cons, t.len]
theorem Rws.snoc {t p : Addr} {r : Int × List Nat} (a : H t = some (.tup (tv r p))) (b : H p = some (.lst (natsV r.2))) (n : p ≠ D) : ∀ {us rs}, Rws H D tv us rs → Rws H D tv (us ++ [.ref t]) (rs ++ [r])
  | _, _, .nil => .cons a b n .nil
  | _, _, .cons x y m z => .cons x y m (z.snoc a b n)
theorem Rws.get : ∀ {us rs}, Rws H D tv us rs → ∀ {i : Nat} {v : V}, us[i]? = some v → ∃ t p r, rs[i]? = some r ∧ v = .ref t ∧ H t = some (.tup (tv r p)) ∧ H p = some (.lst (natsV r.2))
  | _, _, .nil, i, v, e => by simp at e
  | _, _, .cons (t := t) (p := p) (r := r) a b _ _, 0, v, e => by
    cases Option.some.inj e
    exact ⟨t, p, r, rfl, rfl, a, b⟩
  | _, _, .cons _ _ _ z, i + 1, v, e => z.get (i := i) e
theorem Rws.upd {xs : List V} {o : HO} (e : H D = some (.lst xs)) : ∀ {us rs}, Rws H D tv us rs → Rws (upd H D o) D tv us rs
  | _, _, .nil => .nil
  | _, _, .cons a b n z => .cons (by rw [upd_ne (ne_of a e (by intro z; cases z))]; exact a) (by rw [upd_ne n]; exact b) n (z.upd e)
end
abbrev tv3 (h : Int) : Int × List Nat → Addr → List V := fun r p => [.int (cst h r.1 r.2), .int r.1, .ref p]
abbrev tv2 : Int × List Nat → Addr → List V := fun r p => [.int r.1, .ref p]
def spLCv : Sp := fun vs H Q _ => ∃ (h q : Int) (c : Nat), vs = [.int h, .int q, .str ⟨#[c]⟩] ∧ 0 ≤ h ∧ h ≤ 10000 ∧ 1 ≤ q ∧ q ≤ 1000000000 ∧ (∃ fs, IsPf q.toNat fs ∧ fs.sum ≤ 10000) ∧ ∀ (z : Str) H', Same H H' → Cvt h q c z.cps.toList → Q (.str z) H'
theorem one_dvs {q : Int} (h : 1 ≤ q) : (1 : Int) ∈ dvs q := dvs_ok.mem q 1 (by decide) (by omega) (Int.one_dvd q)
/-- the primes of a divisor have no greater sum -/
theorem pf_sub {q u : Int} (q1 : 1 ≤ q) (hu : u ∈ dvs q) {fs gs : List Nat} (hf : IsPf q.toNat fs) (hg : IsPf (q / u).toNat gs) : gs.sum ≤ fs.sum := by
  obtain ⟨u0, x, hx⟩ := dvs_ok.of q u (by omega) hu
  have x0 : 0 < x := by
    rw [hx] at q1
    exact pos_r u0 (by omega)
  have e : q / u = x := by rw [hx]; exact mul_div_l u0
  rw [e] at hg
  obtain ⟨hs, hh⟩ := ex_pf (k := u.toNat) (by omega)
  have hp : ∀ p ∈ gs ++ hs, Pm p := fun p hp => by
    rcases List.mem_append.mp hp with h | h
    · exact hg.pm p h
    · exact hh.pm p h
  have := min_sum hp (gs := fs) (fun g hg2 => (hf.pm g hg2).1) (by
    rw [pr_app, hg.prod, hh.prod, hf.prod, hx]
    obtain ⟨a, rfl⟩ := Int.eq_ofNat_of_zero_le (Int.le_of_lt u0)
    obtain ⟨b, rfl⟩ := Int.eq_ofNat_of_zero_le (Int.le_of_lt x0)
    rw [← Int.natCast_mul, Int.toNat_natCast, Int.toNat_natCast, Int.toNat_natCast, Nat.mul_comm])
  rw [List.sum_append] at this
  omega
theorem pf_len {k : Nat} {fs : List Nat} (h : IsPf k fs) (hk : k < 2 ^ 60) : fs.length ≤ 60 := Nat.le_of_lt (len_lt h.pm (Nat.le_of_eq h.prod) hk)
section
variable {P : Program} {w : World} {K : PySem.W.Frag} {mg : Str → Option Value} {base : Heap}
theorem ok_lcv {f aD aP aB aF : Addr} {fd dD dP dB dF : FuncData} {k : Nat} (F : Fun K "_law_converted" "_law_converted" sLConverted f fd) (Z : CvF mg)
    (cDv : Cl P w K mg base k "_law_divisors" ["factor"] (spDv dvs) aD dD)
    (cP : Cl P w K mg base k "_law_primes" ["factor"] spPf aP dP)
    (cBt : Cl P w K mg base k "_law_between" ["here", "there"] spLBt aB dB)
    (cFs : Cl P w K mg base k "_law_factor_steps" ["primes", "last"] spLFs aF dF) : FnOk P w K mg base CX0 (k + 1) f fd ["here", "factor", "last"] spLCv := by
  refine F.ok scLCv (fun vs H Q E h => ?_) (fun cdv A outer s H vs Q E hr h => ?_)
  · obtain ⟨h, q, c, rfl, _⟩ := h
    rfl
  · obtain ⟨h, q, c, rfl, h0, h1, q1, q2, ⟨fs0, hf0, hs0⟩, q'⟩ := h
    refine ⟨_, (pss_cons (ps_set (i := 3) scLCv.nd rfl (.inl rfl) (pe_lst pa_nil))
      (pss_cons (ps_for PassesOwn.never rfl (pi_list (pe_call cDv.G hr (by rfl) cDv.g cDv.kp cDv.b .nil pass0 (pa_cons (pv 1) pa_nil))) (pg_name (i := 4) scLCv.nd rfl (.inl rfl))
          (pss_cons (ps_set (i := 5) scLCv.nd rfl (.inl rfl) (pe_call cP.G hr (by rfl) cP.g cP.kp cP.b .nil pass0 (pa_cons (pe_op op_fdivW (pv 1) (pv 4)) pa_nil)))
          (pss_one (ps_expr (pe_bm PySem.F.plainAttrs_list PySem.F.slot_list_append PySem.F.type_list_append mt_append (pv 3) (pa_cons (pe_tup (pa_cons (pe_op op_add (pe_op op_add (pe_callB call_abs (by rfl) Z.abs (by decide +kernel) (pa_cons (pe_op op_sub (pe_op op_sub (pv 4) pe_int) (pv 0)) pa_nil)) pe_int) (pe_callB (cr_sum rfl) (by rfl) Z.sum (by decide +kernel) (pa_cons (pv 5) pa_nil))) (pa_cons (pv 4) (pa_cons (pv 5) pa_nil)))) pa_nil))))))
      (pss_cons (ps_set (i := 6) scLCv.nd rfl (.inr rfl) (pe_callB (cr_min rfl) (by rfl) Z.min (by decide +kernel) (pa_cons (pe_lc (own := [("row", 9)]) (g := (gName 9)) (tt := tYes) rfl scLCv.nd (pi_list (pv 3)) (blkOk_by (own := [("row", 9)]) (N := ["here", "factor", "last", "some", "one", "primes", "least", "found", "long", "row"]) (sc := defScope sLConverted) (by decide +kernel)) (fun _ _ _ _ _ => (pg_name (i := 9) scLCv.nd rfl (.inl rfl))) (fun _ _ _ _ _ => pts_nil) (fun _ _ _ _ _ => (pe_ix (ix_t (K := K) rfl) (pv 9) pe_int (fun _ _ => rfl)))) pa_nil)))
      (pss_cons (ps_setLc (i := 7) (own := [("long", 8), ("one", 4), ("primes", 5)]) (g := (gTup K 3 (gCons (gName 8) (gCons (gName 4) (gCons (gName 5) gNil))))) (tt := _) rfl scLCv.nd rfl rfl (sw_true rfl rfl rfl (by decide +kernel)) (pi_list (pv 3)) (blkOk_by (own := [("long", 8), ("one", 4), ("primes", 5)]) (N := ["here", "factor", "last", "some", "one", "primes", "least", "found", "long", "row"]) (sc := defScope sLConverted) (by decide +kernel)) (fun _ _ _ _ _ => (pg_tup (by rfl) (pgs_cons (pg_name (i := 8) scLCv.nd rfl (.inl rfl)) (pgs_cons (pg_name (i := 4) scLCv.nd rfl (.inl rfl)) (pgs_cons (pg_name (i := 5) scLCv.nd rfl (.inl rfl)) pgs_nil))))) (fun _ _ _ _ _ => (pts_one (pt_cmpR op_eq (pv 8) (pv 6) (nomark _)))) (fun _ _ _ _ _ => (pe_tup (pa_cons (pv 4) (pa_cons (pv 5) pa_nil)))))
      (pss_one (ps_ret (pe_callB (call_minS rfl) (by rfl) Z.min (by decide +kernel) (pa_cons (pe_lc (own := [("one", 4), ("primes", 5)]) (g := (gTup K 2 (gCons (gName 4) (gCons (gName 5) gNil)))) (tt := tYes) rfl scLCv.nd (pi_list (pv 7)) (blkOk_by (own := [("one", 4), ("primes", 5)]) (N := ["here", "factor", "last", "some", "one", "primes", "least", "found", "long", "row"]) (sc := defScope sLConverted) (by decide +kernel)) (fun _ _ _ _ _ => (pg_tup (by rfl) (pgs_cons (pg_name (i := 4) scLCv.nd rfl (.inl rfl)) (pgs_cons (pg_name (i := 5) scLCv.nd rfl (.inl rfl)) pgs_nil)))) (fun _ _ _ _ _ => pts_nil) (fun _ _ _ _ _ => (pe_op op_add_str (pe_call cBt.G hr (by rfl) cBt.g cBt.kp cBt.b .nil pass0 (pa_cons (pv 0) (pa_cons (pe_op op_sub (pv 4) pe_int) pa_nil))) (pe_call cFs.G hr (by rfl) cFs.g cFs.kp cFs.b .nil pass0 (pa_cons (pv 5) (pa_cons (pv 2) pa_nil)))))) pa_nil)))))))), ?_⟩
    have p60 : (2 : Nat) ^ 60 = 1152921504606846976 := by decide +kernel
    have p60i : (2 : Int) ^ 60 = 1152921504606846976 := by decide +kernel
    have hdl : (dvs q).length < 2000 := by
      have : q = ((q.toNat : Nat) : Int) := by omega
      rw [this]
      exact cnt_prod (by omega) (by omega)
    refine ⟨by show 0 ≤ sizeLine; decide, fun S nS => ?_⟩
    have sS := same_upd (o := .lst []) nS
    have hS0 : upd H S (.lst []) S = some (.lst []) := upd_same
    revert sS hS0
    generalize upd H S (.lst []) = H0
    intro sS hS0
    dsimp only [gName, tNext, tSeq]
    refine ⟨_, rfl, q, rfl, q1, by omega, hdl, fun dp H1 nd s1 hd => ⟨dp, rfl, ⟨_, .inl (.inl hd)⟩, ?_⟩⟩
    have dS : dp ≠ S := (ne_of_none hS0 nd).symm
    refine for_it (walk_list (xs := (dvs q).map V.int)) (fun i σ H' => ∃ (y4 y5 : Option V) (us : List V) (rs : List (Int × List Nat)), σ = [some (.int h), some (.int q), some (.str ⟨#[c]⟩), some (.ref S), y4, y5, none, none, none, none] ∧ Same H H' ∧ H' dp = some (.lst ((dvs q).map V.int)) ∧ H' S = some (.lst us) ∧ Rws H' S (tv3 h) us rs ∧ rs.map (·.1) = (dvs q).take i ∧ ∀ r ∈ rs, IsPf (q / r.1).toNat r.2)
      ⟨none, none, [], [], rfl, sS.trans s1, hd, s1 _ _ hS0, .nil, rfl, fun r hr => by cases hr⟩ (fun _ _ _ _ ⟨_, _, _, _, _, _, hd, _⟩ => .inl (.inl hd)) ?_ ?_
    · rintro i u σ H2 H3 hi ⟨y4, y5, us, rs, rfl, sm, hd2, hS2, hrw, hmap, hpf⟩ ⟨rfl, hu⟩
      rw [List.length_map] at hi
      have hri : (dvs q)[i]? = some (dvs q)[i] := List.getElem?_eq_getElem hi
      rw [List.getElem?_map, hri] at hu
      cases Option.some.inj hu
      have hum := List.mem_of_getElem? hri
      generalize (dvs q)[i] = x at hri hum
      obtain ⟨x0, xd⟩ := dvs_ok.of q x (by omega) hum
      have xq := Int.le_of_dvd (by omega) xd
      have qx0 : 0 < q / x := Int.ediv_pos_of_pos_of_dvd (by omega) (by omega) xd
      have qxq : q / x ≤ q := Int.ediv_le_self _ (by omega)
      dsimp only [gName, tNext, tSeq]
      refine ⟨_, rfl, _, rfl, _, _, rfl, rfl, wide_div (b := 60) x0 (by rw [p60]; omega) (by decide) (by decide), (q / x).toNat, (by show [V.int (q / x)] = _; rw [Int.toNat_of_nonneg (by omega)]), by omega, by omega, fun pp fs H4 np s4 hp hpf4 => ?_⟩
      have ppS : pp ≠ S := (ne_of_none hS2 np).symm
      dsimp only [gName, tNext, tSeq]
      have hS4 := s4 _ _ hS2
      refine ⟨_, rfl, .inl ⟨rfl, _, .inl (.inl hS4)⟩, ?_⟩
      refine ⟨_, rfl, _, _, rfl, rfl, _, rfl, _, _, rfl, rfl, _, rfl, _, _, rfl, rfl, _, rfl, pp, fs.map (fun n : Nat => (n : Int)), rfl, .inl (.inl (by rw [hp]; unfold natsV; rw [List.map_map]; rfl)), _, _, rfl, rfl, _, rfl, _, rfl, by show 3 ≤ sizeLine; decide, fun t nt => ?_⟩
      have st := same_upd (o := .tup [.int ((if x - 1 - h < 0 then -(x - 1 - h) else x - 1 - h) + 1 + (fs.map (fun n : Nat => (n : Int))).sum), .int x, .ref pp]) nt
      have ht : upd H4 t (.tup [.int ((if x - 1 - h < 0 then -(x - 1 - h) else x - 1 - h) + 1 + (fs.map (fun n : Nat => (n : Int))).sum), .int x, .ref pp]) t = some (.tup [.int (cst h x fs), .int x, .ref pp]) := by rw [upd_same, cst_abs]
      have hS5 := st _ _ hS4
      have hd5 := st _ _ (s4 _ _ hd2)
      have hp5 := st _ _ hp
      have hrw5 := (hrw.same s4).same st
      have sm5 := (sm.trans s4).trans st
      revert ht hS5 hd5 hp5 hrw5 sm5
      generalize upd H4 t (.tup [.int ((if x - 1 - h < 0 then -(x - 1 - h) else x - 1 - h) + 1 + (fs.map (fun n : Nat => (n : Int))).sum), .int x, .ref pp]) = H5
      intro ht hS5 hd5 hp5 hrw5 sm5
      have hlen := hrw.len
      have hml : rs.length = i := by
        have := congrArg List.length hmap
        rw [List.length_map, List.length_take] at this
        omega
      refine ⟨S, us, _, rfl, rfl, hS5, by rw [sizeLine_eq]; omega, _, _, us ++ [.ref t], rs ++ [(x, fs)], rfl, Same.own sm5 nS, ?_, upd_same, ?_, ?_, ?_⟩
      · rw [upd_ne dS]; exact hd5
      · exact Rws.upd hS5 (hrw5.snoc (r := (x, fs)) ht hp5 ppS)
      · rw [List.map_append, hmap, List.take_succ, hri]
        rfl
      · intro r hr2
        rcases List.mem_append.mp hr2 with h | h
        · exact hpf r h
        · rw [List.mem_singleton.mp h]; exact hpf4
    · rintro σ H2 ⟨y4, y5, us, rs, rfl, sm, hd2, hS2, hrw, hmap, hpf⟩
      rw [List.length_map, List.take_length] at hmap
      have hrl := hrw.len
      have hml : rs.length < 2000 := by
        have := congrArg List.length hmap
        rw [List.length_map] at this
        omega
      clear hd2 hd nd s1 dS hS0 sS
      have uof : ∀ r ∈ rs, r.1 ∈ dvs q := fun r hr2 => by rw [← hmap]; exact List.mem_map.mpr ⟨r, hr2, rfl⟩
      have rof : ∀ u ∈ dvs q, ∀ gs, IsPf (q / u).toNat gs → (u, gs) ∈ rs := fun u hu gs hg => by
        rw [← hmap] at hu
        obtain ⟨⟨u', gs'⟩, hr2, rfl⟩ := List.mem_map.mp hu
        have e : gs' = gs := (hpf _ hr2).uniq hg
        subst e
        exact hr2
      dsimp only [gName, tNext, tSeq]
      refine ⟨_, rfl, S, rfl, ⟨_, .inl (.inl hS2)⟩, fun D nD => ?_⟩
      refine lc_it (walk_list (xs := us)) (fun j H' => Same H2 H' ∧ H' D = some (.lst (((rs.take j).map fun r => cst h r.1 r.2).map V.int))) ⟨same_upd nD, upd_same⟩ (fun _ _ _ hQ => .inl (.inl (hQ.1 _ _ hS2))) ?_ ?_
      · rintro j u H4 H5 hj ⟨s4, hD⟩ ⟨rfl, hu⟩
        obtain ⟨t, p, r, hri, rfl, ht, hp⟩ := hrw.get hu
        refine ⟨rfl, _, rfl, t, _, 0, _, rfl, rfl, .inl (.inl (s4 _ _ ht)), atI_nat (j := 0) rfl, _, hD, ?_, sameOwnP s4 nD, ?_⟩
        · rw [List.length_map, List.length_map, List.length_take, sizeLine_eq]
          omega
        · rw [upd_same, List.take_succ, hri, List.map_append, List.map_append]
          rfl
      · rintro H4 ⟨s4, hD⟩
        rw [hrl, List.take_length] at hD
        have hone : (1, fs0) ∈ rs := rof 1 (one_dvs q1) fs0 (by rw [Int.ediv_one]; exact hf0)
        refine ⟨D, _, rfl, .inl (.inl hD), by rw [List.length_map]; exact List.length_pos_of_mem hone, fun m hm hmin => ?_⟩
        obtain ⟨r0, hr0, rfl⟩ := List.mem_map.mp hm
        have hleast : ∀ r ∈ rs, cst h r0.1 r0.2 ≤ cst h r.1 r.2 := fun r hr2 => hmin _ (List.mem_map.mpr ⟨r, hr2, rfl⟩)
        have hbd : cst h r0.1 r0.2 ≤ 20001 := by
          have := hleast _ hone
          have e : cst h 1 fs0 = h + 1 + (fs0.sum : Int) := by unfold cst ch1; split <;> split <;> omega
          rw [e] at this
          omega
        generalize hls : cst h r0.1 r0.2 = least at hleast hbd
        have sm4 := sm.trans s4
        have hS4 := s4 _ _ hS2
        have hrw4 := hrw.same s4
        clear hD hm hmin hone
        dsimp only [gName, tNext, tSeq]
        refine ⟨_, rfl, S, rfl, ⟨_, .inl (.inl hS4)⟩, fun D2 nD2 => ?_⟩
        refine lc_it (walk_list (xs := us)) (fun j H' => Same H4 H' ∧ ∃ (ws : List V) (qs : List (Int × List Nat)), H' D2 = some (.lst ws) ∧ Rws H' D2 tv2 ws qs ∧ qs = (rs.take j).filter fun r => decide (cst h r.1 r.2 = least)) ⟨same_upd nD2, [], [], upd_same, .nil, rfl⟩ (fun _ _ _ hQ => .inl (.inl (hQ.1 _ _ hS4))) ?_ ?_
        · rintro j u H5 H6 hj ⟨s5, ws, qs, hD2, hqs, eqs⟩ ⟨rfl, hu⟩
          obtain ⟨t, p, r, hri, rfl, ht, hp⟩ := hrw4.get hu
          have hql : qs.length ≤ 2000 := by
            rw [eqs]
            refine Nat.le_trans (List.length_filter_le _ _) ?_
            rw [List.length_take]
            omega
          have htk : (rs.take (j + 1)).filter (fun r => decide (cst h r.1 r.2 = least)) = qs ++ if cst h r.1 r.2 = least then [r] else [] := by
            rw [List.take_succ, hri, List.filter_append, ← eqs]
            congr 1
            show List.filter _ [r] = _
            by_cases he : cst h r.1 r.2 = least
            · rw [if_pos he, List.filter_cons_of_pos (by exact decide_eq_true he)]; rfl
            · rw [if_neg he, List.filter_cons_of_neg (by simpa using he)]; rfl
          refine ⟨t, _, rfl, .inl (.inl (s5 _ _ ht)), rfl, _, _, rfl, _, _, rfl, _, _, rfl, rfl, rfl, ?_⟩
          refine ⟨_, rfl, _, rfl, rfl, _, rfl, ?_⟩
          by_cases he : cst h r.1 r.2 = least
          · rw [decide_eq_true (show V.int (cst h r.1 r.2) = V.int least by rw [he])]
            refine iteT ⟨_, rfl, _, rfl, by show 2 ≤ sizeLine; decide, fun t2 nt2 => ?_⟩
            have st := same_upd (o := .tup [.int r.1, .ref p]) nt2
            have hD2' := st _ _ hD2
            have hpD : p ≠ D2 := ne_of_none hp nD2
            have ht2 : upd H6 t2 (.tup [.int r.1, .ref p]) t2 = some (.tup (tv2 r p)) := upd_same
            refine ⟨ws, hD2', by rw [hqs.len, sizeLine_eq]; omega, sameOwnP (s5.trans st) nD2, ws ++ [.ref t2], qs ++ [r], upd_same, Rws.upd hD2' ((hqs.same st).snoc ht2 ((s5.trans st) _ _ hp) hpD), ?_⟩
            rw [htk, if_pos he]
          · rw [decide_eq_false (show ¬ V.int (cst h r.1 r.2) = V.int least from fun z => he (V.int.inj z))]
            refine iteF ⟨s5, ws, qs, hD2, hqs, ?_⟩
            rw [htk, if_neg he, List.append_nil]
        · rintro H5 ⟨s5, ws, qs, hD2, hqs, eqs⟩
          rw [hrl, List.take_length] at eqs
          have hql : qs.length ≤ 2000 := by
            rw [eqs]
            exact Nat.le_trans (List.length_filter_le _ _) (by omega)
          have qin : ∀ r ∈ qs, r ∈ rs ∧ cst h r.1 r.2 = least := fun r hr2 => by
            rw [eqs] at hr2
            exact ⟨(List.mem_filter.mp hr2).1, of_decide_eq_true (List.mem_filter.mp hr2).2⟩
          have qall : ∀ r ∈ rs, cst h r.1 r.2 = least → r ∈ qs := fun r hr2 he => by
            rw [eqs]
            exact List.mem_filter.mpr ⟨hr2, decide_eq_true he⟩
          dsimp only [gName, tNext, tSeq]
          refine ⟨_, rfl, D2, rfl, ⟨_, .inl (.inl hD2)⟩, fun D3 nD3 => ?_⟩
          refine lc_it (walk_list (xs := ws)) (fun j H' => Same H5 H' ∧ ∃ zs : List Str, H' D3 = some (.lst (zs.map V.str)) ∧ zs.length = j ∧ (∀ z ∈ zs, ∃ r ∈ qs, z.cps.toList = cX h r.1 r.2 c) ∧ ∀ r ∈ qs.take j, ∃ z ∈ zs, z.cps.toList = cX h r.1 r.2 c) ⟨same_upd nD3, [], upd_same, rfl, (fun z h => by cases h), (fun z h => by cases h)⟩ (fun _ _ _ hQ => .inl (.inl (hQ.1 _ _ hD2))) ?_ ?_
          · rintro j u H6 H7 hj ⟨s6, zs, hD3, hzl, hz1, hz2⟩ ⟨rfl, hu⟩
            obtain ⟨t, p, r, hri, rfl, ht, hp⟩ := hqs.get hu
            obtain ⟨rin, rle⟩ := qin r (List.mem_of_getElem? hri)
            have rdv := uof r rin
            obtain ⟨x0, xd⟩ := dvs_ok.of q r.1 (by omega) rdv
            have xq := Int.le_of_dvd (by omega) xd
            have pfr := hpf r rin
            have hb2 : r.1 - 1 ≤ 40000 := by
              have e : cst h r.1 r.2 ≤ 20001 := by omega
              unfold cst ch1 at e
              split at e <;> split at e <;> omega
            have qx0 : 0 < q / r.1 := Int.ediv_pos_of_pos_of_dvd (by omega) (by omega) xd
            have qxq : q / r.1 ≤ q := Int.ediv_le_self _ (by omega)
            refine ⟨t, _, rfl, .inl (.inl (s6 _ _ ht)), rfl, _, _, rfl, _, _, rfl, rfl, ?_⟩
            refine ⟨rfl, _, rfl, _, rfl, _, _, rfl, rfl, h, r.1 - 1, rfl, h0, by omega, by omega, by omega, fun z1 hz1' => ?_⟩
            have hsum := pf_sub q1 rdv hf0 pfr
            refine ⟨_, rfl, _, rfl, p, r.2, c, rfl, s6 _ _ hp, pf_len pfr (by omega), (fun g hg => by have := (pfr.pm g hg).1; omega), by omega, fun z2 H8 s8 hz2' => ?_⟩
            have e12 : (z1 ++ z2).cps.toList = cX h r.1 r.2 c := by
              rw [show (z1 ++ z2).cps.toList = z1.cps.toList ++ z2.cps.toList from Array.toList_append .., hz1', hz2']
              rfl
            have l1 : z1.length ≤ 60000 := by
              have h0 : z1.cps.toList.length = z1.length := Array.length_toList
              rw [hz1', List.length_append, List.length_replicate, List.length_replicate] at h0
              omega
            have l2 : z2.length ≤ 20000 := by
              have h0 : z2.cps.toList.length = z2.length := Array.length_toList
              rw [hz2', lfs_len r.2 (fun g hg => by have := (pfr.pm g hg).1; omega)] at h0
              omega
            have hD38 := s8 _ _ hD3
            refine ⟨_, _, rfl, rfl, by rw [sizeLine_eq]; omega, _, hD38, by rw [List.length_map, hzl, sizeLine_eq]; have := hqs.len; omega, sameOwnP (s6.trans s8) nD3, zs ++ [z1 ++ z2], by rw [upd_same, List.map_append]; rfl, by rw [List.length_append, hzl]; rfl, fun z hz => ?_, fun r' hr' => ?_⟩
            · rcases List.mem_append.mp hz with h | h
              · exact hz1 z h
              · rw [List.mem_singleton.mp h]
                exact ⟨r, List.mem_of_getElem? hri, e12⟩
            · rw [List.take_succ, hri] at hr'
              rcases List.mem_append.mp hr' with h | h
              · obtain ⟨z, a, b⟩ := hz2 r' h
                exact ⟨z, List.mem_append_left _ a, b⟩
              · rw [List.mem_singleton.mp h]
                exact ⟨z1 ++ z2, List.mem_append_right _ (List.mem_cons_self ..), e12⟩
          · rintro H6 ⟨s6, zs, hD3, hzl, hz1, hz2⟩
            rw [hqs.len, List.take_length] at hz2
            have hrq := qall r0 hr0 hls
            obtain ⟨z0, hz0, _⟩ := hz2 r0 hrq
            refine ⟨D3, zs, rfl, .inl (.inl hD3), List.length_pos_of_mem hz0, fun m hm hmin => ?_⟩
            refine q' m _ ((sm4.trans s5).trans s6) ?_
            obtain ⟨r, hr2, er⟩ := hz1 m hm
            obtain ⟨rin, rle⟩ := qin r hr2
            refine ⟨least, ⟨r.1, uof r rin, r.2, hpf r rin, rle, er⟩, fun u hu gs hg => hleast (u, gs) (rof u hu gs hg), fun u hu gs hg he => ?_⟩
            obtain ⟨y, hy, hyt⟩ := hz2 (u, gs) (qall (u, gs) (rof u hu gs hg) he)
            rw [← hyt]
            exact hmin y hy
end
end Lw
namespace Lw
open PySem PySem.Spec L2 Lx
theorem scLDu : FnScope ["one", "other", "start", "factor"] ["one", "other"] (defScope sLDue) := ⟨rfl, rfl, rfl, by decide +kernel, rfl, by decide +kernel, by decide +kernel⟩
structure DuF (mg : Str → Option Value) : Prop where
  sum : mg "sum" = none
/-- what remainder answers: no way, or the least text that leads -/
def WayV (f g : Fm) (v : V) : Prop := (v = .non ∧ btw dvs f g = []) ∨ ∃ t : Str, v = .str t ∧ RemT (btw dvs f g) t.cps.toList
theorem WayV.uniq {f g : Fm} {v u : V} (a : WayV f g v) (b : WayV f g u) : v = u := by
  rcases a with ⟨rfl, ha⟩ | ⟨t, rfl, ha⟩ <;> rcases b with ⟨rfl, hb⟩ | ⟨x, rfl, hb⟩
  · rfl
  · obtain ⟨s, ⟨w, hw, _⟩, _⟩ := hb
    rw [ha] at hw; cases hw
  · obtain ⟨s, ⟨w, hw, _⟩, _⟩ := ha
    rw [hb] at hw; cases hw
  · rw [Str.ext' (Array.toList_inj.mp (RemT.uniq ha hb))]
/-- within the law's bounds -/
def SmB : Fm → Prop
  | .keep b a => b + a ≤ 2000
  | .lf b a k c => k ≤ 1000000000 ∧ ∃ fs, IsPf k.toNat fs ∧ b + a + (fs.sum : Int) + c < 2000
  | .cr b a k => k ≤ 1000000000 ∧ ∃ fs, IsPf k.toNat fs ∧ b + a + (fs.sum : Int) < 2000
theorem rem_one {w : Fm} {fs t : List Nat} (h : Pf w fs) (e : t = shc w fs) : RemT [w] t := by
  refine ⟨stepsF w fs, ⟨w, List.mem_singleton.mpr rfl, fs, h, rfl, e⟩, fun w' hw fs' h' => ?_, fun w' hw fs' h' _ => ?_⟩
  · rw [List.mem_singleton.mp hw] at h' ⊢
    rw [h.uniq h']
    exact Int.le_refl _
  · rw [List.mem_singleton.mp hw] at h' ⊢
    rw [e, h.uniq h']
    exact List.lt_irrefl _
theorem bt_eq (h t : Int) : List.replicate (t - h).toNat 85 ++ List.replicate (h - t).toNat 68 = startL (ch1 h t) (ch1 t h) := by
  unfold startL
  obtain ⟨a1, a2, a3⟩ := @ch1_le h t
  obtain ⟨b1, b2, b3⟩ := @ch1_le t h
  by_cases c : h ≤ t
  · rw [a2 c, b3 c, show (h - t).toNat = 0 by omega]
    simp
  · rw [a3 (by omega), b2 (by omega), show (t - h).toNat = 0 by omega]
    simp
theorem lex_app : ∀ {x y s : List Nat}, x.length = y.length → x ++ s < y ++ s → x < y
  | [], [], s, _, h => absurd h (List.lt_irrefl _)
  | [], _ :: _, s, e, _ => by cases e
  | _ :: _, [], s, e, _ => by cases e
  | a :: x, b :: y, s, e, h => by
    rw [List.cons_append, List.cons_append, List.cons_lt_cons_iff] at h
    rw [List.cons_lt_cons_iff]
    rcases h with h | ⟨h1, h2⟩
    · exact .inl h
    · exact .inr ⟨h1, lex_app (by simpa using e) h2⟩
theorem cX_shl (h u k c : Int) (fs : List Nat) : shc (.lf (ch1 h (u - 1)) (ch1 (u - 1) h) k c) fs = cX h u fs 77 ++ List.replicate c.toNat 85 := by
  unfold cX
  rw [bt_eq, lfs_M]
  rfl
theorem cX_shc (h u k : Int) (fs : List Nat) : shc (.cr (ch1 h (u - 1)) (ch1 (u - 1) h) k) fs = cX h u fs 78 := by
  unfold cX
  rw [bt_eq, lfs_N]
  show startL _ _ ++ _ ++ _ = startL _ _ ++ (_ ++ _)
  rw [List.append_assoc]
theorem cX_len (h u : Int) {fs : List Nat} (hf : ∀ g ∈ fs, 1 ≤ g) (c : Nat) : ((cX h u fs c).length : Int) = cst h u fs := by
  have e := lfs_len fs hf c
  unfold cX cst ch1
  rw [List.length_append, List.length_append, List.length_replicate, List.length_replicate, e]
  split <;> split <;> omega
theorem cvt_rem_l {h q c : Int} (hq : 1 ≤ q) {z : List Nat} (H : Cvt h q 77 z) : RemT ((dvs q).map fun u => .lf (ch1 h (u - 1)) (ch1 (u - 1) h) (q / u) c) (z ++ List.replicate c.toNat 85) := by
  obtain ⟨s, ⟨u, hu, fs, h1, h2, h3⟩, h4, h5⟩ := H
  have st : ∀ (u : Int) (fs : List Nat), stepsF (.lf (ch1 h (u - 1)) (ch1 (u - 1) h) (q / u) c) fs = cst h u fs + c := fun u fs => rfl
  have one : ∀ {k : Nat} {l : List Nat}, IsPf k l → ∀ g ∈ l, 1 ≤ g := fun hp g hg => by have := (hp.pm g hg).1; omega
  refine ⟨s + c, ⟨_, List.mem_map.mpr ⟨u, hu, rfl⟩, fs, h1, by rw [st, h2], by rw [cX_shl, h3]⟩, fun w hw gs hg => ?_, fun w hw gs hg he hlt => ?_⟩
  · obtain ⟨v, hv, rfl⟩ := List.mem_map.mp hw
    have := h4 v hv gs hg
    rw [st]
    omega
  · obtain ⟨v, hv, rfl⟩ := List.mem_map.mp hw
    rw [st] at he
    have he' : cst h v gs = s := by omega
    rw [cX_shl] at hlt
    refine h5 v hv gs hg he' (lex_app ?_ hlt)
    have a := cX_len h v (one hg) 77
    have b := cX_len h u (one h1) 77
    rw [← h3] at b
    omega
theorem cvt_rem_c {h q : Int} (hq : 1 ≤ q) {z : List Nat} (H : Cvt h q 78 z) : RemT ((dvs q).map fun u => .cr (ch1 h (u - 1)) (ch1 (u - 1) h) (q / u)) z := by
  obtain ⟨s, ⟨u, hu, fs, h1, h2, h3⟩, h4, h5⟩ := H
  have st : ∀ (u : Int) (fs : List Nat), stepsF (.cr (ch1 h (u - 1)) (ch1 (u - 1) h) (q / u)) fs = cst h u fs := fun u fs => rfl
  refine ⟨s, ⟨_, List.mem_map.mpr ⟨u, hu, rfl⟩, fs, h1, by rw [st, h2], by rw [cX_shc, h3]⟩, fun w hw gs hg => ?_, fun w hw gs hg he hlt => ?_⟩
  · obtain ⟨v, hv, rfl⟩ := List.mem_map.mp hw
    have := h4 v hv gs hg
    rw [st]
    omega
  · obtain ⟨v, hv, rfl⟩ := List.mem_map.mp hw
    rw [st] at he
    rw [cX_shc] at hlt
    exact h5 v hv gs hg he hlt
def spLDu (K : PySem.W.Frag) : Sp := fun vs H Q _ => ∃ (u v : V) (f g : Fm), vs = [u, v] ∧ FmAt K H u f ∧ FmAt K H v g ∧ NN f ∧ NN g ∧ SmB f ∧ SmB g ∧ ∀ r H', Same H H' → WayV f g r → Q r H'
theorem cat_list (x y : Str) : (x ++ y).cps.toList = x.cps.toList ++ y.cps.toList := Array.toList_append ..
theorem len_list (x : Str) : x.length = x.cps.toList.length := Array.length_toList.symm
theorem rep_l (c : Nat) (n : Nat) : (rep (⟨#[c]⟩ : Str) n).length = n := by
  rw [len_list, rep1, List.length_replicate]
theorem start_ln {t p : Int} (h0 : 0 ≤ t) (h1 : 0 ≤ p) {z : Str} (h : z.cps.toList = startL t p) : (z.length : Int) = t + p := by
  rw [len_list, h]
  exact start_len h0 h1
theorem pf_one {k : Nat} {fs : List Nat} (h : IsPf k fs) : ∀ g ∈ fs, 1 ≤ g := fun g hg => by have := (h.pm g hg).1; omega
/-- a quotient of a number within the bounds -/
theorem quo_ok {k k' : Int} (hk : 0 < k) (hk' : 0 < k') (hm : k'.fmod k = 0) (hb : k' ≤ 1000000000) {fs : List Nat} (hf : IsPf k'.toNat fs) : 0 < k' / k ∧ k' / k ≤ 1000000000 ∧ ∀ gs, IsPf (k' / k).toNat gs → gs.sum ≤ fs.sum := by
  have e := fmod_mul hk hm
  have q0 : 0 < k' / k := pos_r hk (by rw [e]; exact hk')
  refine ⟨q0, Int.le_trans (Int.ediv_le_self _ (by omega)) hb, fun gs hg => ?_⟩
  exact pf_sub (by omega) (dvs_ok.mem k' k hk hk' ⟨k' / k, e.symm⟩) hf hg
section
variable {P : Program} {w : World} {K : PySem.W.Frag} {mg : Str → Option Value} {base : Heap}
theorem ok_ldu {f aP aB aF aC : Addr} {fd dP dB dF dC : FuncData} {k : Nat} (F : Fun K "_law_due" "_law_due" sLDue f fd) (Z : DuF mg)
    (cP : Cl P w K mg base k "_law_primes" ["factor"] spPf aP dP)
    (cBt : Cl P w K mg base k "_law_between" ["here", "there"] spLBt aB dB)
    (cFs : Cl P w K mg base k "_law_factor_steps" ["primes", "last"] spLFs aF dF)
    (cCv : Cl P w K mg base k "_law_converted" ["here", "factor", "last"] spLCv aC dC) : FnOk P w K mg base CX0 (k + 1) f fd ["one", "other"] (spLDu K) := by
  refine F.ok scLDu (fun vs H Q E h => ?_) (fun cdv A outer s H vs Q E hr h => ?_)
  · obtain ⟨u, v, f, g, rfl, _⟩ := h
    rfl
  · obtain ⟨_, _, f, g, rfl, ⟨p, rfl, hT⟩, ⟨r, rfl, hG⟩, nf, ng, sf, sg, q⟩ := h
    refine ⟨_, (pss_cons (ps_if (pt_cmpR op_eq (pe_ix ix_tup (pv 0) pe_int (fun _ _ => rfl)) pe_str (nomark _))
          (pss_cons (ps_if (pt_cmpR op_lt (pe_ix ix_tup (pv 1) pe_int (fun _ _ => rfl)) (pe_ix ix_tup (pv 0) pe_int (fun _ _ => rfl)) (nomark _))
              (pss_one (ps_ret pe_non)) pss_nil)
          (pss_cons (ps_set (i := 2) scLDu.nd rfl (.inl rfl) (pe_call cBt.G hr (by rfl) cBt.g cBt.kp cBt.b .nil pass0 (pa_cons (pe_ix ix_tup (pv 0) pe_int (fun _ _ => rfl)) (pa_cons (pe_ix ix_tup (pv 1) pe_int (fun _ _ => rfl)) pa_nil))))
          (pss_cons (ps_if (pt_cmpR op_gt (pe_ix ix_tup (pv 1) pe_int (fun _ _ => rfl)) (pe_ix ix_tup (pv 0) pe_int (fun _ _ => rfl)) (nomark _))
              (pss_one (ps_set (i := 2) scLDu.nd rfl (.inl rfl) (pe_op op_add_str (pe_op op_repS pe_str (pe_op op_sub (pe_op op_add (pe_ix ix_tup (pv 0) pe_int (fun _ _ => rfl)) (pe_ix ix_tup (pv 1) pe_int (fun _ _ => rfl))) (pe_ix ix_tup (pv 0) pe_int (fun _ _ => rfl)))) (pe_op op_repS pe_str (pe_ix ix_tup (pv 1) pe_int (fun _ _ => rfl)))))) pss_nil)
          (pss_cons (ps_if (pt_cmpR op_eq (pe_ix ix_tup (pv 1) pe_int (fun _ _ => rfl)) pe_str (nomark _))
              (pss_one (ps_ret (pv 2))) pss_nil)
          (pss_one (ps_ret (pe_op op_add_str (pe_op op_add_str (pv 2) (pe_call cFs.G hr (by rfl) cFs.g cFs.kp cFs.b .nil pass0 (pa_cons (pe_call cP.G hr (by rfl) cP.g cP.kp cP.b .nil pass0 (pa_cons (pe_ix ix_tup (pv 1) pe_int (fun _ _ => rfl)) pa_nil)) (pa_cons (pe_dget (hu_of hr) (pe_disp (pps_cons pe_str pe_str (pps_cons pe_str pe_str pps_nil)) (by rfl) (by rfl) (fun z => by cases z) (by decide)) (pe_ix ix_tup (pv 1) pe_int (fun _ _ => rfl)) (fun _ _ => rfl)) pa_nil)))) (pe_op op_repS pe_str (pe_callB (call_sumT rfl) (by rfl) Z.sum (by decide +kernel) (pa_cons (pe_slice sl_tup (pv 1) (po_some pe_int) po_none) pa_nil)))))))))) pss_nil)
      (pss_cons (ps_if (PW.pt (pw_or (pt_cmpR op_eq (pe_ix ix_tup (pv 1) pe_int (fun _ _ => rfl)) pe_str (nomark _)) (pw_or (pt_cmpR (op_neD hr.units) (pe_slice sl_tup (pv 0) (po_some pe_int) (po_some pe_int)) (pe_slice sl_tup (pv 1) (po_some pe_int) (po_some pe_int)) (nomark _)) (pw_or1 (pt_cmpR op_gt (pe_op op_modN (pe_ix ix_tup (pv 1) pe_int (fun _ _ => rfl)) (pe_ix ix_tup (pv 0) pe_int (fun _ _ => rfl))) pe_int (nomark _))))))
          (pss_one (ps_ret pe_non)) pss_nil)
      (pss_cons (ps_set (i := 3) scLDu.nd rfl (.inl rfl) (pe_op op_fdivW (pe_ix ix_tup (pv 1) pe_int (fun _ _ => rfl)) (pe_ix ix_tup (pv 0) pe_int (fun _ _ => rfl))))
      (pss_cons (ps_if (PW.pt (pw_and (pt_cmpR op_eq (pe_ix ix_tup (pv 0) pe_int (fun _ _ => rfl)) pe_str (nomark _)) (pw_and1 (pt_cmpR op_eq (pe_ix ix_tup (pv 1) pe_int (fun _ _ => rfl)) pe_str (nomark _)))))
          (pss_one (ps_ret (pe_ifExp (pt_cmpR op_gt (pv 3) pe_int (nomark _)) (pe_call cFs.G hr (by rfl) cFs.g cFs.kp cFs.b .nil pass0 (pa_cons (pe_call cP.G hr (by rfl) cP.g cP.kp cP.b .nil pass0 (pa_cons (pv 3) pa_nil)) (pa_cons pe_str pa_nil))) pe_str))) pss_nil)
      (pss_cons (ps_if (pt_cmpR op_eq (pe_ix ix_tup (pv 0) pe_int (fun _ _ => rfl)) pe_str (nomark _))
          (pss_one (ps_ret (pe_op op_add_str (pe_call cFs.G hr (by rfl) cFs.g cFs.kp cFs.b .nil pass0 (pa_cons (pe_call cP.G hr (by rfl) cP.g cP.kp cP.b .nil pass0 (pa_cons (pv 3) pa_nil)) (pa_cons pe_str pa_nil))) (pe_op op_repS pe_str (pe_ix ix_tup (pv 1) pe_int (fun _ _ => rfl)))))) pss_nil)
      (pss_cons (ps_if (pt_cmpR op_eq (pe_ix ix_tup (pv 1) pe_int (fun _ _ => rfl)) pe_str (nomark _))
          (pss_one (ps_ret (pe_call cCv.G hr (by rfl) cCv.g cCv.kp cCv.b .nil pass0 (pa_cons (pe_ix ix_tup (pv 0) pe_int (fun _ _ => rfl)) (pa_cons (pv 3) (pa_cons pe_str pa_nil)))))) pss_nil)
      (pss_cons (ps_if (pt_cmpR op_eq (pv 3) pe_int (nomark _))
          (pss_one (ps_ret (pe_call cBt.G hr (by rfl) cBt.g cBt.kp cBt.b .nil pass0 (pa_cons (pe_ix ix_tup (pv 0) pe_int (fun _ _ => rfl)) (pa_cons (pe_ix ix_tup (pv 1) pe_int (fun _ _ => rfl)) pa_nil))))) pss_nil)
      (pss_one (ps_ret (pe_op op_add_str (pe_call cCv.G hr (by rfl) cCv.g cCv.kp cCv.b .nil pass0 (pa_cons (pe_ix ix_tup (pv 0) pe_int (fun _ _ => rfl)) (pa_cons (pv 3) (pa_cons pe_str pa_nil)))) (pe_op op_repS pe_str (pe_ix ix_tup (pv 1) pe_int (fun _ _ => rfl))))))))))))), ?_⟩
    refine ⟨_, rfl, p, _, 0, _, rfl, rfl, hT, atI_nat (j := 0) f.vs0, rfl, _, rfl, ?_⟩
    have gb0 : 0 ≤ g.b ∧ 0 ≤ g.a := by cases g <;> exact ⟨ng.1, by first | exact ng.2 | exact ng.2.1⟩
    have gbs : g.b + g.a ≤ 2000 := by
      cases g with
      | keep b a => exact sg
      | lf b a k c => obtain ⟨_, fs, _, h⟩ := sg; have := ng.2.2.2; show b + a ≤ 2000; omega
      | cr b a k => obtain ⟨_, fs, _, h⟩ := sg; show b + a ≤ 2000; omega
    have p60 : (2 : Nat) ^ 60 = 1152921504606846976 := by decide +kernel
    cases f with
    | keep b a =>
      obtain ⟨b0, a0⟩ := nf
      have sba : b + a ≤ 2000 := sf
      refine iteT ⟨_, rfl, r, _, 1, _, rfl, rfl, hG, atI_nat (j := 1) g.vs1, _, rfl, p, _, 1, .int b, rfl, rfl, hT, atI_nat (j := 1) rfl, _, _, rfl, rfl, _, rfl, ?_⟩
      by_cases hlt : g.b < b
      · rw [decide_eq_true hlt]
        refine iteT (q _ _ (Same.refl _) (.inl ⟨rfl, ?_⟩))
        rw [btw_k, if_pos hlt]
      rw [decide_eq_false hlt]
      refine iteF ?_
      dsimp only [gName, tNext, tSeq]
      refine ⟨_, rfl, p, _, 2, .int a, rfl, rfl, hT, atI_nat (j := 2) rfl, _, rfl, r, _, 2, _, rfl, rfl, hG, atI_nat (j := 2) g.vs2, a, g.a, rfl, a0, by omega, gb0.2, by omega, fun z0 hz0 => ?_⟩
      rw [bt_eq] at hz0
      dsimp only [gName, tNext, tSeq]
      -- the start of the way, and the form it has
      refine if_fin (fun σ H1 => ∃ (z : Str) (t pp : Int), σ = [some (.ref p), some (.ref r), some (.str z), none] ∧ H1 = H ∧ 0 ≤ t ∧ t ≤ 4000 ∧ 0 ≤ pp ∧ pp ≤ 4000 ∧ z.cps.toList = startL t pp ∧ btw dvs (.keep b a) g = [wba g t pp]) (fun R hR => ?_) ?_
      · refine ⟨_, rfl, r, _, 1, _, rfl, rfl, hG, atI_nat (j := 1) g.vs1, _, rfl, p, _, 1, .int b, rfl, rfl, hT, atI_nat (j := 1) rfl, _, _, rfl, rfl, _, rfl, ?_⟩
        by_cases hgt : b < g.b
        · rw [decide_eq_true hgt]
          refine iteT ⟨_, rfl, p, _, 2, .int a, rfl, rfl, hT, atI_nat (j := 2) rfl, _, rfl, r, _, 1, _, rfl, rfl, hG, atI_nat (j := 1) g.vs1, _, _, rfl, rfl, _, rfl, p, _, 1, .int b, rfl, rfl, hT, atI_nat (j := 1) rfl, _, _, rfl, rfl, "D", _, rfl, rfl, by omega, by omega, by rw [sizeLine_eq]; show 1 * _ ≤ _; omega, ?_⟩
          refine ⟨_, rfl, r, _, 2, _, rfl, rfl, hG, atI_nat (j := 2) g.vs2, "U", _, rfl, rfl, by omega, by omega, by rw [sizeLine_eq]; show 1 * _ ≤ _; omega, _, _, rfl, rfl, by rw [show (rep "D" (a + g.b - b).toNat).length = _ from rep_l 68 _, show (rep "U" g.a.toNat).length = _ from rep_l 85 _, sizeLine_eq]; omega, ?_⟩
          refine hR _ _ ⟨_, a + g.b - b, g.a, rfl, rfl, by omega, by omega, gb0.2, by omega, ?_, ?_⟩
          · rw [cat_list, show (rep "D" (a + g.b - b).toNat).cps.toList = _ from rep1 68 _, show (rep "U" g.a.toNat).cps.toList = _ from rep1 85 _]
            rfl
          · rw [btw_k, if_neg hlt, if_pos hgt]
        · rw [decide_eq_false hgt]
          have c1 := @ch1_le a g.a
          have c2 := @ch1_le g.a a
          refine iteF (hR _ _ ⟨z0, ch1 a g.a, ch1 g.a a, rfl, rfl, c1.1, ?_, c2.1, ?_, hz0, ?_⟩)
          · unfold ch1; split <;> omega
          · unfold ch1; split <;> omega
          · rw [btw_k, if_neg hlt, if_neg hgt]
      · rintro σ H1 ⟨z, t, pp, rfl, rfl, t0, t1, p0, p1, hz, hb⟩
        have zl := start_ln t0 p0 hz
        dsimp only [gName, tNext, tSeq]
        refine ⟨_, rfl, r, _, 0, _, rfl, rfl, hG, atI_nat (j := 0) g.vs0, rfl, _, rfl, ?_⟩
        cases g with
        | keep b' a' =>
          refine iteT ⟨_, rfl, q _ _ (Same.refl _) (.inr ⟨z, rfl, ?_⟩)⟩
          rw [hb]
          exact rem_one (fs := []) rfl hz
        | lf b' a' k' c' =>
          obtain ⟨g1, g2, g3, g4⟩ := ng
          obtain ⟨s1, fs0, hf0, s2⟩ := sg
          refine iteF ?_
          refine ⟨_, rfl, _, rfl, r, _, 3, .int k', rfl, rfl, hG, atI_nat (j := 3) rfl, k'.toNat, (by show [V.int k'] = _; rw [Int.toNat_of_nonneg (by omega)]), by omega, by omega, fun pp2 fs H2 np s3 hp hpf => ?_⟩
          obtain rfl := hpf.uniq hf0
          refine fun dd ndd => ⟨upd_same, [(.inr "lf", .str "M"), (.inr "cr", .str "N")], rfl, (show 2 ≤ 15 by decide), ?_⟩
          have sd : Same H2 (upd (upd H2 dd (.dK [])) dd (.dK (mergeK [] [(.inr "lf", V.str "M"), (.inr "cr", V.str "N")]))) := fun b u e => by
            have hb := ne_of_none e ndd
            rw [upd_ne hb, upd_ne hb]; exact e
          have hdd : upd (upd H2 dd (.dK [])) dd (.dK (mergeK [] [(.inr "lf", V.str "M"), (.inr "cr", V.str "N")])) dd = some (.dK [(.inr "lf", V.str "M"), (.inr "cr", V.str "N")]) := upd_same
          revert sd hdd
          generalize upd (upd H2 dd (.dK [])) dd (.dK (mergeK [] [(.inr "lf", V.str "M"), (.inr "cr", V.str "N")])) = H3
          intro sd hdd
          have sA := s3.trans sd
          have vv : valV [((.inr "lf" : Key), V.str "M"), (.inr "cr", V.str "N")] (.inr "lf") = some (V.str "M") := by decide +kernel
          refine ⟨_, rfl, r, _, 0, .str "lf", rfl, rfl, sameT sA hG, atI_nat (j := 0) rfl, dd, _, rfl, vv ▸ DGet.k (k := Sum.inr "lf") hdd, pp2, fs, 77, rfl, sd _ _ hp, pf_len hpf (by omega), pf_one hpf, by omega, fun z2 H4 s4 hz2 => ?_⟩
          have sB := sA.trans s4
          have z2l : z2.length = fs.sum + 1 := by rw [len_list, hz2, lfs_len fs (pf_one hpf)]
          refine ⟨_, _, rfl, rfl, by rw [sizeLine_eq]; omega, ?_⟩
          refine ⟨_, rfl, 4, rfl, r, _, rfl, sameT sB hG, fun z => absurd z.1 (show ¬ HT.sIx 5 0 (some 4) = 0 by decide), fun t4 nt4 => ⟨t4, [c'], rfl, .inl (.inl upd_same), ?_⟩⟩
          have es : ([c'] : List Int).sum = c' := by simp
          rw [es]
          have cl : (z ++ z2).length = z.length + z2.length := Array.size_append ..
          refine ⟨"U", _, rfl, rfl, by omega, by omega, by rw [sizeLine_eq]; show 1 * _ ≤ _; omega, _, _, rfl, rfl, by rw [cl, show (rep "U" (c' : Int).toNat).length = _ from rep_l 85 _, sizeLine_eq]; omega, q _ _ (sB.trans (same_upd nt4)) (.inr ⟨_, rfl, ?_⟩)⟩
          rw [hb]
          refine rem_one (fs := fs) hpf ?_
          rw [cat_list, cat_list, hz, hz2, show (rep "U" (c' : Int).toNat).cps.toList = _ from rep1 85 _]
          rw [lfs_M]
          rfl
        | cr b' a' k' =>
          obtain ⟨g1, g2, g3⟩ := ng
          obtain ⟨s1, fs0, hf0, s2⟩ := sg
          refine iteF ?_
          refine ⟨_, rfl, _, rfl, r, _, 3, .int k', rfl, rfl, hG, atI_nat (j := 3) rfl, k'.toNat, (by show [V.int k'] = _; rw [Int.toNat_of_nonneg (by omega)]), by omega, by omega, fun pp2 fs H2 np s3 hp hpf => ?_⟩
          obtain rfl := hpf.uniq hf0
          refine fun dd ndd => ⟨upd_same, [(.inr "lf", .str "M"), (.inr "cr", .str "N")], rfl, (show 2 ≤ 15 by decide), ?_⟩
          have sd : Same H2 (upd (upd H2 dd (.dK [])) dd (.dK (mergeK [] [(.inr "lf", V.str "M"), (.inr "cr", V.str "N")]))) := fun b u e => by
            have hb := ne_of_none e ndd
            rw [upd_ne hb, upd_ne hb]; exact e
          have hdd : upd (upd H2 dd (.dK [])) dd (.dK (mergeK [] [(.inr "lf", V.str "M"), (.inr "cr", V.str "N")])) dd = some (.dK [(.inr "lf", V.str "M"), (.inr "cr", V.str "N")]) := upd_same
          revert sd hdd
          generalize upd (upd H2 dd (.dK [])) dd (.dK (mergeK [] [(.inr "lf", V.str "M"), (.inr "cr", V.str "N")])) = H3
          intro sd hdd
          have sA := s3.trans sd
          have vv : valV [((.inr "lf" : Key), V.str "M"), (.inr "cr", V.str "N")] (.inr "cr") = some (V.str "N") := by decide +kernel
          refine ⟨_, rfl, r, _, 0, .str "cr", rfl, rfl, sameT sA hG, atI_nat (j := 0) rfl, dd, _, rfl, vv ▸ DGet.k (k := Sum.inr "cr") hdd, pp2, fs, 78, rfl, sd _ _ hp, pf_len hpf (by omega), pf_one hpf, by omega, fun z2 H4 s4 hz2 => ?_⟩
          have sB := sA.trans s4
          have z2l : z2.length = fs.sum + 1 := by rw [len_list, hz2, lfs_len fs (pf_one hpf)]
          refine ⟨_, _, rfl, rfl, by rw [sizeLine_eq]; omega, ?_⟩
          refine ⟨_, rfl, 4, rfl, r, _, rfl, sameT sB hG, fun z => absurd z.1 (show ¬ HT.sIx 4 0 (some 4) = 0 by decide), fun t4 nt4 => ⟨t4, [], rfl, .inl (.inl upd_same), ?_⟩⟩
          have es : ([] : List Int).sum = 0 := by simp
          rw [es]
          have cl : (z ++ z2).length = z.length + z2.length := Array.size_append ..
          refine ⟨"U", _, rfl, rfl, by omega, by omega, by rw [sizeLine_eq]; show 1 * _ ≤ _; omega, _, _, rfl, rfl, by rw [cl, show (rep "U" (0 : Int).toNat).length = _ from rep_l 85 _, sizeLine_eq]; omega, q _ _ (sB.trans (same_upd nt4)) (.inr ⟨_, rfl, ?_⟩)⟩
          rw [hb]
          refine rem_one (fs := fs) hpf ?_
          rw [cat_list, cat_list, hz, hz2, show (rep "U" (0 : Int).toNat).cps.toList = _ from rep1 85 _]
          rw [lfs_N]
          show _ = startL t pp ++ _ ++ _
          rw [List.append_assoc]
          simp
    | lf b a k c =>
      have hfK : Fm.isKeep (Fm.lf b a k c) = false := rfl
      have hk0 : 0 < k := nf.2.2.1
      have hks : k ≤ 1000000000 := sf.1
      have hg0 := kOf_pos ng
      refine iteF ?_
      dsimp only [gName, tNext, tSeq]
      have nil : ∀ H1, Same H H1 → btw dvs (Fm.lf b a k c) g = [] → Q .non H1 := fun H1 s1 e => q _ _ s1 (.inl ⟨rfl, e⟩)
      refine if_fin (fun σ H1 => σ = [some (.ref p), some (.ref r), none, none] ∧ Same H H1 ∧ Fm.isKeep g = false ∧ b = g.b ∧ a = g.a ∧ (kOf g).fmod k = 0) (fun R hR => ?_) (fun σ H1 hF => ?_)
      · refine ⟨_, rfl, r, _, 0, _, rfl, rfl, hG, atI_nat (j := 0) g.vs0, rfl, _, rfl, ?_⟩
        by_cases hgK : Fm.isKeep g = false
        · have hgn : decide (V.str g.nm = V.str "keep") = false := by
            cases g with
            | keep b a => cases hgK
            | lf b a k c => rfl
            | cr b a k => rfl
          rw [hgn]
          refine iteF ⟨_, rfl, 1, rfl, 3, rfl, p, _, rfl, hT, nw13 (Fm.lf b a k c), fun p1 n1 => ⟨_, rfl, 1, rfl, 3, rfl, r, _, rfl, sameT (same_upd n1) hG, nw13 g, fun p2 n2 => ?_⟩⟩
          rw [cut13] at n2 ⊢
          rw [cut13]
          have s1 := same_upd (o := .tup [.int b, .int a]) n1
          have s2 := same_upd (o := .tup [.int g.b, .int g.a]) n2
          have s12 := s1.trans s2
          refine ⟨.tuple [.int b, .int a], .tuple [.int g.b, .int g.a], .tup (.inl (.inl (s2 _ _ upd_same))) (.cons (.int _) (.cons (.int _) .nil)), .tup (.inl (.inl upd_same)) (.cons (.int _) (.cons (.int _) .nil)), rfl, rfl, _, rfl, ?_⟩
          rw [two_eqv]
          by_cases hba : b = g.b ∧ a = g.a
          · rw [decide_eq_true hba]
            refine iteF ⟨_, rfl, r, _, 3, _, rfl, rfl, sameT s12 hG, atI_nat (j := 3) (vs3 hgK), _, rfl, p, _, 3, .int k, rfl, rfl, sameT s12 hT, atI_nat (j := 3) rfl, _, _, rfl, rfl, (by omega : k ≠ 0), _, _, rfl, rfl, _, rfl, ?_⟩
            have fm0 := fm (a := kOf g) hk0
            by_cases hm : (kOf g).fmod k = 0
            · rw [decide_eq_false (show ¬ (0 : Int) < (kOf g).fmod k by omega)]
              exact iteF (hR _ _ ⟨rfl, s12, hgK, hba.1, hba.2, hm⟩)
            · rw [decide_eq_true (show (0 : Int) < (kOf g).fmod k by omega)]
              exact iteT (nil _ s12 (btw_no hfK fun z => hm z.2.2.2))
          · rw [decide_eq_false hba]
            exact iteT (nil _ s12 (btw_no hfK fun z => hba ⟨z.2.1, z.2.2.1⟩))
        · have hgn : decide (V.str g.nm = V.str "keep") = true := by
            cases g with
            | keep b a => rfl
            | lf b a k c => exact absurd rfl hgK
            | cr b a k => exact absurd rfl hgK
          rw [hgn]
          exact iteT (nil _ (Same.refl _) (btw_no hfK fun z => hgK z.1))
      · obtain ⟨rfl, s1, hgK, hb, ha, hm⟩ := hF
        have hT1 := sameT s1 hT
        have hG1 := sameT s1 hG
        refine ⟨_, rfl, r, _, 3, _, rfl, rfl, hG1, atI_nat (j := 3) (vs3 hgK), _, rfl, p, _, 3, .int k, rfl, rfl, hT1, atI_nat (j := 3) rfl, _, _, rfl, rfl, wide_div (b := 60) hk0 (by rw [p60]; omega) (by decide) (by decide), ?_⟩
        show gName 3 (V.int (kOf g / k)) _ _ _
        dsimp only [gName, tNext, tSeq]
        cases g with
        | keep b' a' => cases hgK
        | lf b' a' k' c' =>
          have hb' : b = b' := hb
          have ha' : a = a' := ha
          subst hb' ha'
          have hm' : k'.fmod k = 0 := hm
          obtain ⟨g1, g2, g3, g4⟩ := ng
          obtain ⟨sg1, fs0, hf0, sg2⟩ := sg
          obtain ⟨q0, q1, qs⟩ := quo_ok hk0 g3 hm' sg1 hf0
          obtain ⟨n1, n2, n3, n4⟩ := nf
          obtain ⟨sf1, fs1, hf1, sf2⟩ := sf
          show tIfS _ _ _ _ [some (V.ref p), some (V.ref r), none, some (V.int (k' / k))] H1
          refine ⟨_, rfl, p, _, 0, .str "lf", rfl, rfl, hT1, atI_nat (j := 0) rfl, rfl, _, rfl, iteF (iteF ?_)⟩
          refine ⟨_, rfl, p, _, 0, .str "lf", rfl, rfl, hT1, atI_nat (j := 0) rfl, rfl, _, rfl, iteF ?_⟩
          refine ⟨_, rfl, r, _, 0, .str "lf", rfl, rfl, hG1, atI_nat (j := 0) rfl, rfl, _, rfl, iteF ?_⟩
          have e1 : btw dvs (.lf b a k c) (.lf b a k' c') = if k' / k = 1 then [.keep (ch1 c c') (ch1 c' c)] else (dvs (k' / k)).map fun u => .lf (ch1 c (u - 1)) (ch1 (u - 1) c) (k' / k / u) c' := by rw [btw_ll, if_pos ⟨rfl, rfl, hm'⟩]
          refine ⟨_, rfl, rfl, _, rfl, ?_⟩
          by_cases hq : k' / k = 1
          · rw [decide_eq_true (show V.int (k' / k) = V.int 1 by rw [hq])]
            refine iteT ⟨_, rfl, p, _, 4, .int c, rfl, rfl, hT1, atI_nat (j := 4) rfl, _, rfl, r, _, 4, .int c', rfl, rfl, hG1, atI_nat (j := 4) rfl, c, c', rfl, n4, by omega, g4, by omega, fun z hz => q _ _ s1 (.inr ⟨z, rfl, ?_⟩)⟩
            rw [e1, if_pos hq]
            refine rem_one (fs := []) rfl ?_
            rw [hz, bt_eq]
            rfl
          · rw [decide_eq_false (show ¬ V.int (k' / k) = V.int 1 from fun z => hq (V.int.inj z))]
            obtain ⟨gs, hgs⟩ := ex_pf (k := (k' / k).toNat) (by omega)
            have hgl := qs gs hgs
            refine iteF ⟨_, rfl, p, _, 4, .int c, rfl, rfl, hT1, atI_nat (j := 4) rfl, _, rfl, c, k' / k, 77, rfl, n4, by omega, by omega, q1, ⟨gs, hgs, by omega⟩, fun z H2 s2 hz => ?_⟩
            have hz' := hz
            obtain ⟨st, ⟨u, hu, fs, hpf, hst, hzl⟩, hmin, _⟩ := hz'
            have zl : (z.length : Int) ≤ 8001 := by
              have h1' := cX_len c u (pf_one hpf) 77
              rw [← hzl, ← len_list] at h1'
              have h2' := hmin 1 (one_dvs (by omega)) gs (by rw [Int.ediv_one]; exact hgs)
              have h3' : cst c 1 gs = c + 1 + (gs.sum : Int) := by unfold cst ch1; split <;> split <;> omega
              omega
            refine ⟨_, rfl, r, _, 4, .int c', rfl, rfl, sameT s2 hG1, atI_nat (j := 4) rfl, "U", _, rfl, rfl, by omega, by omega, by rw [sizeLine_eq]; show 1 * _ ≤ _; omega, _, _, rfl, rfl, by rw [show (rep "U" c'.toNat).length = _ from rep_l 85 _, sizeLine_eq]; omega, q _ _ (s1.trans s2) (.inr ⟨_, rfl, ?_⟩)⟩
            rw [e1, if_neg hq, cat_list, show (rep "U" c'.toNat).cps.toList = _ from rep1 85 _]
            exact cvt_rem_l (by omega) hz
        | cr b' a' k' =>
          have hb' : b = b' := hb
          have ha' : a = a' := ha
          subst hb' ha'
          have hm' : k'.fmod k = 0 := hm
          obtain ⟨g1, g2, g3⟩ := ng
          obtain ⟨sg1, fs0, hf0, sg2⟩ := sg
          obtain ⟨q0, q1, qs⟩ := quo_ok hk0 g3 hm' sg1 hf0
          obtain ⟨n1, n2, n3, n4⟩ := nf
          obtain ⟨sf1, fs1, hf1, sf2⟩ := sf
          show tIfS _ _ _ _ [some (V.ref p), some (V.ref r), none, some (V.int (k' / k))] H1
          refine ⟨_, rfl, p, _, 0, .str "lf", rfl, rfl, hT1, atI_nat (j := 0) rfl, rfl, _, rfl, iteF (iteF ?_)⟩
          refine ⟨_, rfl, p, _, 0, .str "lf", rfl, rfl, hT1, atI_nat (j := 0) rfl, rfl, _, rfl, iteF ?_⟩
          have e1 : btw dvs (.lf b a k c) (.cr b a k') = (dvs (k' / k)).map fun u => .cr (ch1 c (u - 1)) (ch1 (u - 1) c) (k' / k / u) := by rw [btw_lc, if_pos ⟨rfl, rfl, hm'⟩]
          obtain ⟨gs, hgs⟩ := ex_pf (k := (k' / k).toNat) (by omega)
          have hgl := qs gs hgs
          refine ⟨_, rfl, r, _, 0, .str "cr", rfl, rfl, hG1, atI_nat (j := 0) rfl, rfl, _, rfl, iteT ⟨_, rfl, p, _, 4, .int c, rfl, rfl, hT1, atI_nat (j := 4) rfl, _, rfl, c, k' / k, 78, rfl, n4, by omega, by omega, q1, ⟨gs, hgs, by omega⟩, fun z H2 s2 hz => q _ _ (s1.trans s2) (.inr ⟨z, rfl, ?_⟩)⟩⟩
          rw [e1]
          exact cvt_rem_c (by omega) hz
    | cr b a k =>
      have hfK : Fm.isKeep (Fm.cr b a k) = false := rfl
      have hk0 : 0 < k := nf.2.2
      have hks : k ≤ 1000000000 := sf.1
      have hg0 := kOf_pos ng
      refine iteF ?_
      dsimp only [gName, tNext, tSeq]
      have nil : ∀ H1, Same H H1 → btw dvs (Fm.cr b a k) g = [] → Q .non H1 := fun H1 s1 e => q _ _ s1 (.inl ⟨rfl, e⟩)
      refine if_fin (fun σ H1 => σ = [some (.ref p), some (.ref r), none, none] ∧ Same H H1 ∧ Fm.isKeep g = false ∧ b = g.b ∧ a = g.a ∧ (kOf g).fmod k = 0) (fun R hR => ?_) (fun σ H1 hF => ?_)
      · refine ⟨_, rfl, r, _, 0, _, rfl, rfl, hG, atI_nat (j := 0) g.vs0, rfl, _, rfl, ?_⟩
        by_cases hgK : Fm.isKeep g = false
        · have hgn : decide (V.str g.nm = V.str "keep") = false := by
            cases g with
            | keep b a => cases hgK
            | lf b a k c => rfl
            | cr b a k => rfl
          rw [hgn]
          refine iteF ⟨_, rfl, 1, rfl, 3, rfl, p, _, rfl, hT, nw13 (Fm.cr b a k), fun p1 n1 => ⟨_, rfl, 1, rfl, 3, rfl, r, _, rfl, sameT (same_upd n1) hG, nw13 g, fun p2 n2 => ?_⟩⟩
          rw [cut13] at n2 ⊢
          rw [cut13]
          have s1 := same_upd (o := .tup [.int b, .int a]) n1
          have s2 := same_upd (o := .tup [.int g.b, .int g.a]) n2
          have s12 := s1.trans s2
          refine ⟨.tuple [.int b, .int a], .tuple [.int g.b, .int g.a], .tup (.inl (.inl (s2 _ _ upd_same))) (.cons (.int _) (.cons (.int _) .nil)), .tup (.inl (.inl upd_same)) (.cons (.int _) (.cons (.int _) .nil)), rfl, rfl, _, rfl, ?_⟩
          rw [two_eqv]
          by_cases hba : b = g.b ∧ a = g.a
          · rw [decide_eq_true hba]
            refine iteF ⟨_, rfl, r, _, 3, _, rfl, rfl, sameT s12 hG, atI_nat (j := 3) (vs3 hgK), _, rfl, p, _, 3, .int k, rfl, rfl, sameT s12 hT, atI_nat (j := 3) rfl, _, _, rfl, rfl, (by omega : k ≠ 0), _, _, rfl, rfl, _, rfl, ?_⟩
            have fm0 := fm (a := kOf g) hk0
            by_cases hm : (kOf g).fmod k = 0
            · rw [decide_eq_false (show ¬ (0 : Int) < (kOf g).fmod k by omega)]
              exact iteF (hR _ _ ⟨rfl, s12, hgK, hba.1, hba.2, hm⟩)
            · rw [decide_eq_true (show (0 : Int) < (kOf g).fmod k by omega)]
              exact iteT (nil _ s12 (btw_no hfK fun z => hm z.2.2.2))
          · rw [decide_eq_false hba]
            exact iteT (nil _ s12 (btw_no hfK fun z => hba ⟨z.2.1, z.2.2.1⟩))
        · have hgn : decide (V.str g.nm = V.str "keep") = true := by
            cases g with
            | keep b a => rfl
            | lf b a k c => exact absurd rfl hgK
            | cr b a k => exact absurd rfl hgK
          rw [hgn]
          exact iteT (nil _ (Same.refl _) (btw_no hfK fun z => hgK z.1))
      · obtain ⟨rfl, s1, hgK, hb, ha, hm⟩ := hF
        have hT1 := sameT s1 hT
        have hG1 := sameT s1 hG
        refine ⟨_, rfl, r, _, 3, _, rfl, rfl, hG1, atI_nat (j := 3) (vs3 hgK), _, rfl, p, _, 3, .int k, rfl, rfl, hT1, atI_nat (j := 3) rfl, _, _, rfl, rfl, wide_div (b := 60) hk0 (by rw [p60]; omega) (by decide) (by decide), ?_⟩
        show gName 3 (V.int (kOf g / k)) _ _ _
        dsimp only [gName, tNext, tSeq]
        cases g with
        | keep b' a' => cases hgK
        | lf b' a' k' c' =>
          have hb' : b = b' := hb
          have ha' : a = a' := ha
          subst hb' ha'
          have hm' : k'.fmod k = 0 := hm
          obtain ⟨g1, g2, g3, g4⟩ := ng
          obtain ⟨sg1, fs0, hf0, sg2⟩ := sg
          obtain ⟨q0, q1, qs⟩ := quo_ok hk0 g3 hm' sg1 hf0
          obtain ⟨n1, n2, n3⟩ := nf
          obtain ⟨sf1, fs1, hf1, sf2⟩ := sf
          show tIfS _ _ _ _ [some (V.ref p), some (V.ref r), none, some (V.int (k' / k))] H1
          refine ⟨_, rfl, p, _, 0, .str "cr", rfl, rfl, hT1, atI_nat (j := 0) rfl, rfl, _, rfl, iteT ⟨_, rfl, r, _, 0, .str "lf", rfl, rfl, hG1, atI_nat (j := 0) rfl, rfl, _, rfl, iteF ?_⟩⟩
          have e1 : btw dvs (.cr b a k) (.lf b a k' c') = [.lf 0 0 (k' / k) c'] := by rw [btw_cl, if_pos ⟨rfl, rfl, hm'⟩]
          refine ⟨_, rfl, p, _, 0, .str "cr", rfl, rfl, hT1, atI_nat (j := 0) rfl, rfl, _, rfl, iteT ⟨_, rfl, (k' / k).toNat, (by show [V.int (k' / k)] = _; rw [Int.toNat_of_nonneg (by omega)]), by omega, by omega, fun pp fs H2 np s2 hp hpf => ?_⟩⟩
          have hgl := qs fs hpf
          refine ⟨pp, fs, 77, rfl, hp, pf_len hpf (by omega), pf_one hpf, by omega, fun z H3 s3 hz => ?_⟩
          have zl : z.length = fs.sum + 1 := by rw [len_list, hz, lfs_len fs (pf_one hpf)]
          have sA := s2.trans s3
          refine ⟨_, rfl, r, _, 4, .int c', rfl, rfl, sameT sA hG1, atI_nat (j := 4) rfl, "U", _, rfl, rfl, by omega, by omega, by rw [sizeLine_eq]; show 1 * _ ≤ _; omega, _, _, rfl, rfl, by rw [show (rep "U" c'.toNat).length = _ from rep_l 85 _, sizeLine_eq]; omega, q _ _ (s1.trans sA) (.inr ⟨_, rfl, ?_⟩)⟩
          rw [e1]
          refine rem_one (fs := fs) hpf ?_
          rw [cat_list, hz, show (rep "U" c'.toNat).cps.toList = _ from rep1 85 _, lfs_M]
          rfl
        | cr b' a' k' =>
          have hb' : b = b' := hb
          have ha' : a = a' := ha
          subst hb' ha'
          have hm' : k'.fmod k = 0 := hm
          obtain ⟨g1, g2, g3⟩ := ng
          obtain ⟨sg1, fs0, hf0, sg2⟩ := sg
          obtain ⟨q0, q1, qs⟩ := quo_ok hk0 g3 hm' sg1 hf0
          obtain ⟨n1, n2, n3⟩ := nf
          obtain ⟨sf1, fs1, hf1, sf2⟩ := sf
          show tIfS _ _ _ _ [some (V.ref p), some (V.ref r), none, some (V.int (k' / k))] H1
          have e1 : btw dvs (.cr b a k) (.cr b a k') = if k' / k = 1 then [.keep 0 0] else [.cr 0 0 (k' / k)] := by rw [btw_cc, if_pos ⟨rfl, rfl, hm'⟩]
          refine ⟨_, rfl, p, _, 0, .str "cr", rfl, rfl, hT1, atI_nat (j := 0) rfl, rfl, _, rfl, iteT ⟨_, rfl, r, _, 0, .str "cr", rfl, rfl, hG1, atI_nat (j := 0) rfl, rfl, _, rfl, iteT ?_⟩⟩
          refine ⟨_, rfl, _, _, rfl, rfl, _, rfl, ?_⟩
          by_cases hq : k' / k = 1
          · rw [decide_eq_false (show ¬ (1 : Int) < k' / k by omega)]
            refine iteF (q _ _ s1 (.inr ⟨"", rfl, ?_⟩))
            rw [e1, if_pos hq]
            exact rem_one (fs := []) rfl rfl
          · rw [decide_eq_true (show (1 : Int) < k' / k by omega)]
            refine iteT ⟨_, rfl, (k' / k).toNat, (by show [V.int (k' / k)] = _; rw [Int.toNat_of_nonneg (by omega)]), by omega, by omega, fun pp fs H2 np s2 hp hpf => ?_⟩
            have hgl := qs fs hpf
            refine ⟨pp, fs, 78, rfl, hp, pf_len hpf (by omega), pf_one hpf, by omega, fun z H3 s3 hz => q _ _ (s1.trans (s2.trans s3)) (.inr ⟨z, rfl, ?_⟩)⟩
            rw [e1, if_neg hq]
            exact rem_one (fs := fs) hpf hz
end
end Lw
namespace Lw
open PySem PySem.Spec L2 Lx
theorem asgK {v : V} {g : TG} {D : Ends} {σ : St} {H : Hp} (h : g v σ H D.nx) : tAsg (tC v) g D σ H := h
theorem op_eqDK {X : Cx} {K : PySem.W.Frag} (hK : X.K = K) (hu : X.A.units + 64 < cLine) : OpR X (compareOp .Eq) (rEqD K) := by
  subst hK
  exact op_eqD hu
theorem op_neDK {X : Cx} {K : PySem.W.Frag} (hK : X.K = K) (hu : X.A.units + 64 < cLine) : OpR X (compareOp .NotEq) (rNeD K) := by
  subst hK
  exact op_neD hu
/-! ### a pool of draws: a list of three numbers -/
def PoolAt (H : Hp) (p : Addr) (n : Nat) : Prop := ∃ a m k : Int, H p = some (.lst [.int a, .int m, .int k]) ∧ 0 ≤ a ∧ 0 ≤ m ∧ m < 9223372036854775808 ∧ 0 ≤ k ∧ k ≤ n
theorem PoolAt.same {H H' : Hp} {p : Addr} {n : Nat} (s : Same H H') : PoolAt H p n → PoolAt H' p n := fun ⟨a, m, k, h, r⟩ => ⟨a, m, k, s _ _ h, r⟩
theorem PoolAt.mono {H : Hp} {p : Addr} {n m : Nat} (h : n ≤ m) : PoolAt H p n → PoolAt H p m := fun ⟨a, x, k, h1, h2, h3, h4, h5, h6⟩ => ⟨a, x, k, h1, h2, h3, h4, h5, by omega⟩
theorem PoolAt.ne {H : Hp} {p b : Addr} {n : Nat} (s : PoolAt H p n) (h : H b = none) : b ≠ p := by
  obtain ⟨_, _, _, q, _⟩ := s
  exact Ne.symm (ne_of_none q h)
theorem PoolAt.neT {H : Hp} {p b : Addr} {n : Nat} {xs : List V} (s : PoolAt H p n) (h : H b = some (.tup xs)) : b ≠ p := by
  obtain ⟨_, _, _, q, _⟩ := s
  exact ne_of h q (by intro z; cases z)
theorem PoolAt.own {H : Hp} {p b : Addr} {n : Nat} {o : HO} (s : PoolAt H p n) (ne : b ≠ p) : PoolAt (upd H b o) p n := by
  obtain ⟨a, m, k, h, r⟩ := s
  exact ⟨a, m, k, by rw [upd_ne (Ne.symm ne)]; exact h, r⟩
theorem Kd.put {d : Addr} {H : Hp} {o : HO} : Kd d H (upd H d o) := fun b u hb e => by rw [upd_ne hb]; exact e
theorem Kd.own {d b : Addr} {H H' : Hp} {o : HO} (k : Kd d H H') (h : H b = none) : Kd d H (upd H' b o) := fun c u hc e => by
  rw [upd_ne (ne_of_none e h)]
  exact k c u hc e
theorem Kd.freeP {d b : Addr} {H H' : Hp} {n : Nat} (k : Kd d H H') (s : PoolAt H' d n) (h : H' b = none) : H b = none := by
  cases e : H b with
  | none => rfl
  | some o =>
    have := k b o (s.ne h) e
    rw [h] at this
    cases this
theorem Prs.kd {K : PySem.W.Frag} {H H' : Hp} {d : Addr} {n : Nat} (s : PoolAt H d n) (k : Kd d H H') : ∀ {vs : List V} {gs : List (Int × Int)}, Prs K H vs gs → Prs K H' vs gs
  | _, _, .nil => .nil
  | _, _, .cons ⟨p, e, h⟩ t => .cons ⟨p, e, k _ _ (s.neT h) h⟩ (Prs.kd s k t)
theorem RnS.kd {K : PySem.W.Frag} {H H' : Hp} {v : V} {l d : Addr} {n : Nat} {g : List (Int × Int) × Int} (s : PoolAt H d n) (k : Kd d H H') (ne : l ≠ d) : RnS K H v l g → RnS K H' v l g :=
  fun ⟨p, xs, h1, h2, h3, h4⟩ => ⟨p, xs, h1, k _ _ (s.neT h2) h2, k _ _ ne h3, Prs.kd s k h4⟩
end Lw
namespace Lw
open PySem PySem.Spec L2 Lx
theorem scLSm : FnScope ["told"] ["told"] (defScope sLIsSmall) := ⟨rfl, rfl, rfl, by decide +kernel, rfl, by decide +kernel, by decide +kernel⟩
theorem scLJn : FnScope ["one", "other", "low", "high", "times_here"] ["one", "other"] (defScope sLJoined) := ⟨rfl, rfl, rfl, by decide +kernel, rfl, by decide +kernel, by decide +kernel⟩
structure SmlF (mg : Str → Option Value) : Prop where
  sum : mg "sum" = none
structure JnF (mg : Str → Option Value) : Prop where
  max : mg "max" = none
def spLSm (K : PySem.W.Frag) : Sp := fun vs H Q _ => ∃ (u : V) (f : Fm), vs = [u] ∧ FmAt K H u f ∧ NN f ∧ ∀ (b : Bool) H', Same H H' → (b = true → SmB f) → Q (.bl b) H'
def spLJn (K : PySem.W.Frag) : Sp := fun vs H Q _ => ∃ (x y : V) (f g : Fm) (n : Nat), vs = [x, y] ∧ FmAt K H x f ∧ FmAt K H y g ∧ f.Ok n ∧ g.Ok n ∧ n ≤ 100000 ∧ ∀ v H', Same H H' → FmAt K H' v (f.both g) → Q v H'
section
variable {P : Program} {w : World} {K : PySem.W.Frag} {mg : Str → Option Value} {base : Heap}
theorem ok_lsm {f aP : Addr} {fd dP : FuncData} {k : Nat} (F : Fun K "_law_is_small" "_law_is_small" sLIsSmall f fd) (Z : SmlF mg)
    (cP : Cl P w K mg base k "_law_primes" ["factor"] spPf aP dP) : FnOk P w K mg base CX0 (k + 1) f fd ["told"] (spLSm K) := by
  refine F.ok scLSm (fun vs H Q E h => ?_) (fun cdv A outer s H vs Q E hr h => ?_)
  · obtain ⟨u, f, rfl, _⟩ := h
    rfl
  · obtain ⟨_, f, rfl, ⟨p, rfl, hT⟩, nf, q⟩ := h
    refine ⟨_, (pss_cons (ps_if (pt_cmpR op_eq (pe_ix ix_tup (pv 0) pe_int (fun _ _ => rfl)) pe_str (nomark _))
          (pss_one (ps_ret (pe_cmpR op_le (pe_callB (call_sumT rfl) (by rfl) Z.sum (by decide +kernel) (pa_cons (pe_slice sl_tup (pv 0) (po_some pe_int) po_none) pa_nil)) pe_int (nomark _)))) pss_nil)
      (pss_one (ps_ret (pe_and (pe_cmpR op_le (pe_ix ix_tup (pv 0) pe_int (fun _ _ => rfl)) (pe_op op_pow pe_int pe_int) (nomark _)) (pe_one (pe_cmpR op_lt (pe_op op_add (pe_op op_add (pe_callB (call_sumT rfl) (by rfl) Z.sum (by decide +kernel) (pa_cons (pe_slice sl_tup (pv 0) (po_some pe_int) (po_some pe_int)) pa_nil)) (pe_callB (cr_sum rfl) (by rfl) Z.sum (by decide +kernel) (pa_cons (pe_call cP.G hr (by rfl) cP.g cP.kp cP.b .nil pass0 (pa_cons (pe_ix ix_tup (pv 0) pe_int (fun _ _ => rfl)) pa_nil)) pa_nil))) (pe_callB (call_sumT rfl) (by rfl) Z.sum (by decide +kernel) (pa_cons (pe_slice sl_tup (pv 0) (po_some pe_int) po_none) pa_nil))) pe_int (nomark _))))))), ?_⟩
    have p60 : (2 : Nat) ^ 60 = 1152921504606846976 := by decide +kernel
    have p9 : (10 : Int) ^ (9 : Int).toNat = 1000000000 := by decide +kernel
    refine ⟨_, rfl, p, _, 0, _, rfl, rfl, hT, atI_nat (j := 0) f.vs0, rfl, _, rfl, ?_⟩
    cases f with
    | keep b a =>
      refine iteT ⟨_, rfl, 1, rfl, p, _, rfl, hT, (show ¬ (HT.sIx 3 0 (some 1) = 0 ∧ HT.sIx 3 3 none = 3) by decide), fun t nt => ⟨t, [b, a], rfl, .inl (.inl upd_same), _, _, rfl, rfl, ?_⟩⟩
      refine q _ _ (same_upd nt) fun h => ?_
      have h1 := of_decide_eq_true h
      have : [b, a].sum = b + (a + 0) := rfl
      rw [this] at h1
      show b + a ≤ 2000
      omega
    | lf b a k' c =>
      obtain ⟨n1, n2, n3, n4⟩ := nf
      refine iteF ⟨_, rfl, p, _, 3, .int k', rfl, rfl, hT, atI_nat (j := 3) rfl, _, _, rfl, rfl, ⟨by decide, by decide, by decide⟩, _, _, rfl, rfl, _, rfl, ?_⟩
      rw [p9]
      by_cases hk : k' ≤ 1000000000
      · rw [decide_eq_true hk]
        refine iteT ⟨_, rfl, 1, rfl, 3, rfl, p, _, rfl, hT, (show ¬ (HT.sIx 5 0 (some 1) = 0 ∧ HT.sIx 5 5 (some 3) = 5) by decide), fun t nt => ⟨t, [b, a], rfl, .inl (.inl upd_same), ?_⟩⟩
        have s1 := same_upd (o := .tup [V.int b, .int a]) nt
        refine ⟨_, rfl, p, _, 3, .int k', rfl, rfl, sameT s1 hT, atI_nat (j := 3) rfl, k'.toNat, (by show [V.int k'] = _; rw [Int.toNat_of_nonneg (by omega)]), by omega, by omega, fun pp fs H2 np s2 hp hpf => ?_⟩
        refine ⟨pp, fs.map (fun n : Nat => (n : Int)), rfl, .inl (.inl (by rw [hp]; unfold natsV; rw [List.map_map]; rfl)), _, _, rfl, rfl, ?_⟩
        have s12 := s1.trans s2
        refine ⟨_, rfl, 4, rfl, p, _, rfl, sameT s12 hT, fun z => absurd z.1 (show ¬ HT.sIx 5 0 (some 4) = 0 by decide), fun t4 nt4 => ⟨t4, [c], rfl, .inl (.inl upd_same), _, _, rfl, rfl, _, _, rfl, rfl, ?_⟩⟩
        refine q _ _ (s12.trans (same_upd nt4)) fun h => ⟨hk, fs, hpf, ?_⟩
        have h1 := of_decide_eq_true h
        have e1 : [b, a].sum = b + (a + 0) := rfl
        have e2 : [c].sum = c + 0 := rfl
        rw [e1, e2, sum_cast] at h1
        omega
      · rw [decide_eq_false hk]
        exact iteF (q _ _ (Same.refl _) fun h => by cases h)
    | cr b a k' =>
      obtain ⟨n1, n2, n3⟩ := nf
      refine iteF ⟨_, rfl, p, _, 3, .int k', rfl, rfl, hT, atI_nat (j := 3) rfl, _, _, rfl, rfl, ⟨by decide, by decide, by decide⟩, _, _, rfl, rfl, _, rfl, ?_⟩
      rw [p9]
      by_cases hk : k' ≤ 1000000000
      · rw [decide_eq_true hk]
        refine iteT ⟨_, rfl, 1, rfl, 3, rfl, p, _, rfl, hT, (show ¬ (HT.sIx 4 0 (some 1) = 0 ∧ HT.sIx 4 4 (some 3) = 4) by decide), fun t nt => ⟨t, [b, a], rfl, .inl (.inl upd_same), ?_⟩⟩
        have s1 := same_upd (o := .tup [V.int b, .int a]) nt
        refine ⟨_, rfl, p, _, 3, .int k', rfl, rfl, sameT s1 hT, atI_nat (j := 3) rfl, k'.toNat, (by show [V.int k'] = _; rw [Int.toNat_of_nonneg (by omega)]), by omega, by omega, fun pp fs H2 np s2 hp hpf => ?_⟩
        refine ⟨pp, fs.map (fun n : Nat => (n : Int)), rfl, .inl (.inl (by rw [hp]; unfold natsV; rw [List.map_map]; rfl)), _, _, rfl, rfl, ?_⟩
        have s12 := s1.trans s2
        refine ⟨_, rfl, 4, rfl, p, _, rfl, sameT s12 hT, fun z => absurd z.1 (show ¬ HT.sIx 4 0 (some 4) = 0 by decide), fun t4 nt4 => ⟨t4, [], rfl, .inl (.inl upd_same), _, _, rfl, rfl, _, _, rfl, rfl, ?_⟩⟩
        refine q _ _ (s12.trans (same_upd nt4)) fun h => ⟨hk, fs, hpf, ?_⟩
        have h1 := of_decide_eq_true h
        have e1 : [b, a].sum = b + (a + 0) := rfl
        have e2 : ([] : List Int).sum = 0 := rfl
        rw [e1, e2, sum_cast] at h1
        omega
      · rw [decide_eq_false hk]
        exact iteF (q _ _ (Same.refl _) fun h => by cases h)
theorem ok_ljn {f : Addr} {fd : FuncData} {k : Nat} (F : Fun K "_law_joined" "_law_joined" sLJoined f fd) (Z : JnF mg) : FnOk P w K mg base CX0 (k + 1) f fd ["one", "other"] (spLJn K) := by
  refine F.ok scLJn (fun vs H Q E h => ?_) (fun cdv A outer s H vs Q E hr h => ?_)
  · obtain ⟨x, y, f, g, n, rfl, _⟩ := h
    rfl
  · obtain ⟨_, _, f, g, n, rfl, ⟨p, rfl, hT⟩, ⟨r, rfl, hG⟩, of, og, hn, q⟩ := h
    refine ⟨_, (pss_cons (ps_par (i := 2) (j := 3) rfl scLJn.nd rfl rfl (by decide) rfl rfl (pa_cons (pe_op op_add (pe_ix ix_tup (pv 0) pe_int (fun _ _ => rfl)) (pe_callB (call_max2 rfl) (by rfl) Z.max (by decide +kernel) (pa_cons pe_int (pa_cons (pe_op op_sub (pe_ix ix_tup (pv 1) pe_int (fun _ _ => rfl)) (pe_ix ix_tup (pv 0) pe_int (fun _ _ => rfl))) pa_nil)))) (pa_cons (pe_op op_add (pe_callB (call_max2 rfl) (by rfl) Z.max (by decide +kernel) (pa_cons pe_int (pa_cons (pe_op op_sub (pe_ix ix_tup (pv 0) pe_int (fun _ _ => rfl)) (pe_ix ix_tup (pv 1) pe_int (fun _ _ => rfl))) pa_nil))) (pe_ix ix_tup (pv 1) pe_int (fun _ _ => rfl))) pa_nil)) rfl)
      (pss_cons (ps_if (pt_cmpR op_eq (pe_ix ix_tup (pv 0) pe_int (fun _ _ => rfl)) pe_str (nomark _))
          (pss_one (ps_ret (pe_op op_catA (pe_tup (pa_cons (pe_ix ix_tup (pv 1) pe_int (fun _ _ => rfl)) (pa_cons (pv 2) (pa_cons (pv 3) pa_nil)))) (pe_slice sl_tup (pv 1) (po_some pe_int) po_none)))) pss_nil)
      (pss_cons (ps_if (pt_cmpR op_eq (pe_ix ix_tup (pv 1) pe_int (fun _ _ => rfl)) pe_str (nomark _))
          (pss_one (ps_ret (pe_ifExp (pt_cmpR op_eq (pe_ix ix_tup (pv 0) pe_int (fun _ _ => rfl)) pe_str (nomark _)) (pv 0) (pe_op op_catA (pe_slice sl_tup (pv 0) po_none (po_some pe_int)) (pe_tup (pa_cons (pe_op op_add (pe_callB (call_max2 rfl) (by rfl) Z.max (by decide +kernel) (pa_cons pe_int (pa_cons (pe_op op_sub (pe_ix ix_tup (pv 0) pe_int (fun _ _ => rfl)) (pe_ix ix_tup (pv 1) pe_int (fun _ _ => rfl))) pa_nil))) (pe_ix ix_tup (pv 1) pe_int (fun _ _ => rfl))) pa_nil)))))) pss_nil)
      (pss_cons (ps_set (i := 4) scLJn.nd rfl (.inl rfl) pe_int)
      (pss_cons (ps_if (pt_cmpR op_eq (pe_ix ix_tup (pv 0) pe_int (fun _ _ => rfl)) pe_str (nomark _))
          (pss_one (ps_set (i := 4) scLJn.nd rfl (.inl rfl) (pe_op op_add (pe_op op_add (pe_callB (call_max2 rfl) (by rfl) Z.max (by decide +kernel) (pa_cons pe_int (pa_cons (pe_op op_sub (pe_ix ix_tup (pv 0) pe_int (fun _ _ => rfl)) (pe_ix ix_tup (pv 1) pe_int (fun _ _ => rfl))) pa_nil))) (pe_ix ix_tup (pv 1) pe_int (fun _ _ => rfl))) pe_int))) pss_nil)
      (pss_one (ps_ret (pe_op op_catA (pe_tup (pa_cons (pe_ix ix_tup (pv 1) pe_int (fun _ _ => rfl)) (pa_cons (pe_ix ix_tup (pv 0) pe_int (fun _ _ => rfl)) (pa_cons (pe_ix ix_tup (pv 0) pe_int (fun _ _ => rfl)) (pa_cons (pe_op op_mulW (pe_op op_mulW (pe_ix ix_tup (pv 0) pe_int (fun _ _ => rfl)) (pv 4)) (pe_ix ix_tup (pv 1) pe_int (fun _ _ => rfl))) pa_nil))))) (pe_slice sl_tup (pv 1) (po_some pe_int) po_none))))))))), ?_⟩
    have I : ∀ (j : Nat) {H' : Hp} {v : V}, Same H H' → f.vs[j]? = some v → SqT K H' p f.vs ∧ atI f.vs (j : Int) = some v := fun j H' v s e => ⟨sameT s hT, atI_nat e⟩
    refine ⟨_, rfl, p, _, 1, _, rfl, rfl, hT, atI_nat (j := 1) f.vs1, _, rfl, r, _, 1, _, rfl, rfl, hG, atI_nat (j := 1) g.vs1, _, rfl, p, _, 2, _, rfl, rfl, hT, atI_nat (j := 2) f.vs2, _, _, rfl, rfl, _, _, rfl, _, _, rfl, rfl, ?_⟩
    refine ⟨_, rfl, p, _, 2, _, rfl, rfl, hT, atI_nat (j := 2) f.vs2, _, rfl, r, _, 1, _, rfl, rfl, hG, atI_nat (j := 1) g.vs1, _, _, rfl, rfl, _, _, rfl, _, rfl, r, _, 2, _, rfl, rfl, hG, atI_nat (j := 2) g.vs2, _, _, rfl, rfl, _, _, rfl, ?_⟩
    show tSeq _ _ _ [some (V.ref p), some (V.ref r), some (V.int (f.b + (if g.b - f.a > 0 then g.b - f.a else 0))), some (V.int ((if f.a - g.b > 0 then f.a - g.b else 0) + g.a)), none] H
    refine ⟨_, rfl, p, _, 0, _, rfl, rfl, hT, atI_nat (j := 0) f.vs0, rfl, _, rfl, ?_⟩
    cases f with
    | keep b a =>
      refine iteT ⟨_, rfl, r, _, 0, _, rfl, rfl, hG, atI_nat (j := 0) g.vs0, _, rfl, _, rfl, by show 3 ≤ sizeLine; decide, fun t nt => ?_⟩
      have s1 : Same H (upd H t (.tup [.str g.nm, .int (b + (if g.b - a > 0 then g.b - a else 0)), .int ((if a - g.b > 0 then a - g.b else 0) + g.a)])) := same_upd nt
      have ht1 : upd H t (.tup [.str g.nm, .int (b + (if g.b - a > 0 then g.b - a else 0)), .int ((if a - g.b > 0 then a - g.b else 0) + g.a)]) t = some (.tup [.str g.nm, .int (b + (if g.b - a > 0 then g.b - a else 0)), .int ((if a - g.b > 0 then a - g.b else 0) + g.a)]) := upd_same
      show tSl _ _ _ _ _ (upd H t (.tup [.str g.nm, .int (b + (if g.b - a > 0 then g.b - a else 0)), .int ((if a - g.b > 0 then a - g.b else 0) + g.a)])) _
      generalize upd H t (.tup [.str g.nm, .int (b + (if g.b - a > 0 then g.b - a else 0)), .int ((if a - g.b > 0 then a - g.b else 0) + g.a)]) = H1 at s1 ht1
      refine ⟨_, rfl, 3, rfl, r, g.vs, rfl, sameT s1 hG, wh3 g, fun p2 n2 => ?_⟩
      have s2 := s1.trans (same_upd (o := .tup (cutV g.vs (some 3) none)) n2)
      have ht2 : SqT K (upd H1 p2 (.tup (cutV g.vs (some 3) none))) t [.str g.nm, .int (b + (if g.b - a > 0 then g.b - a else 0)), .int ((if a - g.b > 0 then a - g.b else 0) + g.a)] := .inl (.inl (by rw [upd_ne (ne_of_none ht1 n2)]; exact ht1))
      have hp2 : SqT K (upd H1 p2 (.tup (cutV g.vs (some 3) none))) p2 (cutV g.vs (some 3) none) := .inl (.inl upd_same)
      generalize upd H1 p2 (.tup (cutV g.vs (some 3) none)) = H2 at s2 ht2 hp2
      refine ⟨t, p2, _, _, rfl, rfl, ht2, hp2, by show 3 + _ ≤ sizeLine; have := cutV_length g.vs (some 3) none; have h5 : g.vs.length ≤ 5 := vs_len g; rw [sizeLine_eq]; omega, fun z => by (exact nomatch z), fun _ hy => ?_, fun _ hy p3 n3 => ?_⟩
      · cases g with
        | keep b' a' => exact q _ _ s2 ⟨t, rfl, ht2⟩
        | lf b' a' k' c' => exact nomatch hy
        | cr b' a' k' => exact nomatch hy
      · cases g with
        | keep b' a' => exact absurd rfl hy
        | lf b' a' k' c' => exact q _ _ (s2.trans (same_upd n3)) ⟨p3, rfl, .inl (.inl upd_same)⟩
        | cr b' a' k' => exact q _ _ (s2.trans (same_upd n3)) ⟨p3, rfl, .inl (.inl upd_same)⟩
    | lf b a k c =>
      refine iteF ?_
      dsimp only [gName, tNext, tSeq]
      refine ⟨_, rfl, r, _, 0, _, rfl, rfl, hG, atI_nat (j := 0) g.vs0, rfl, _, rfl, ?_⟩
      cases g with
      | keep b' a' =>
        refine iteT ⟨_, rfl, p, _, 0, .str "lf", rfl, rfl, hT, atI_nat (j := 0) rfl, rfl, _, rfl, ?_⟩
        refine iteF ⟨_, rfl, 4, rfl, p, _, rfl, hT, (show ¬ (HT.sIx 5 0 none = 0 ∧ HT.sIx 5 5 (some 4) = 5) by decide), fun p2 n2 => ?_⟩
        have s1 : Same H (upd H p2 (.tup [.str "lf", .int b, .int a, .int k])) := same_upd n2
        have hp2 : upd H p2 (.tup [.str "lf", .int b, .int a, .int k]) p2 = some (.tup [.str "lf", .int b, .int a, .int k]) := upd_same
        refine ⟨_, rfl, p, _, 4, .int c, rfl, rfl, sameT s1 hT, atI_nat (j := 4) rfl, _, rfl, r, _, 1, .int b', rfl, rfl, sameT s1 hG, atI_nat (j := 1) rfl, _, _, rfl, rfl, _, _, rfl, _, rfl, r, _, 2, .int a', rfl, rfl, sameT s1 hG, atI_nat (j := 2) rfl, _, _, rfl, rfl, by show 1 ≤ sizeLine; decide, fun p3 n3 => ?_⟩
        have s2 := s1.trans (same_upd (o := .tup [.int ((if c - b' > 0 then c - b' else 0) + a')]) n3)
        refine ⟨p2, p3, [.str "lf", .int b, .int a, .int k], [.int ((if c - b' > 0 then c - b' else 0) + a')], rfl, rfl, .inl (.inl (by rw [upd_ne (ne_of_none hp2 n3)]; exact hp2)), .inl (.inl upd_same), by show 5 ≤ sizeLine; decide, (fun z => by cases z), (fun _ z => by cases z), fun _ _ p4 n4 => ?_⟩
        exact q _ _ (s2.trans (same_upd n4)) ⟨p4, rfl, .inl (.inl upd_same)⟩
      | lf b' a' k' c' =>
        refine iteF ?_
        dsimp only [gName, tNext, tSeq]
        refine asgK ?_
        dsimp only [gName, tNext, tSeq]
        have tmb : Sm (n + 2) (((if c - b' > 0 then c - b' else 0) + a' + 1) : Int) ∧ 0 ≤ (((if c - b' > 0 then c - b' else 0) + a' + 1) : Int) := by
          have h := Fm.after_ok og of.2.2.2.1 of.2.2.2.2.2.2.2
          have e : Fm.after (.lf b' a' k' c') c = (if c - b' > 0 then c - b' else 0) + a' := rfl
          rw [e] at h
          exact ⟨h.2.add (Nat.lt_of_lt_of_le (by decide : (1 : Int).natAbs < 2 ^ 1) (Nat.pow_le_pow_right (by decide) (by omega))), by omega⟩
        refine if_fin (fun σ H1 => ∃ lo hi : Int, σ = [some (.ref p), some (.ref r), some (.int lo), some (.int hi), some (.int ((if c - b' > 0 then c - b' else 0) + a' + 1))] ∧ H1 = H) (fun R hR => ?_) ?_
        · refine ⟨_, rfl, p, _, 0, .str "lf", rfl, rfl, hT, atI_nat (j := 0) rfl, rfl, _, rfl, iteT ⟨_, rfl, p, _, 4, .int c, rfl, rfl, hT, atI_nat (j := 4) rfl, _, rfl, r, _, 1, .int b', rfl, rfl, hG, atI_nat (j := 1) rfl, _, _, rfl, rfl, _, _, rfl, _, rfl, r, _, 2, .int a', rfl, rfl, hG, atI_nat (j := 2) rfl, _, _, rfl, rfl, _, _, rfl, rfl, hR _ _ ⟨_, _, rfl, rfl⟩⟩⟩
        · rintro σ H1 ⟨lo, hi, rfl, rfl⟩
          have sk : Sm n k := of.2.2.2.2.2.2.1
          have sk' : Sm n k' := og.2.2.2.2.2.2.1
          refine ⟨_, rfl, r, _, 0, .str "lf", rfl, rfl, hG, atI_nat (j := 0) rfl, _, rfl, p, _, 1, .int b, rfl, rfl, hT, atI_nat (j := 1) rfl, _, rfl, p, _, 2, .int a, rfl, rfl, hT, atI_nat (j := 2) rfl, _, rfl, p, _, 3, .int k, rfl, rfl, hT, atI_nat (j := 3) rfl, _, rfl, _, _, rfl, rfl, wide_mul (a := n + 1) (b := n + 2) (sk.mono (by omega)) tmb.1 (by omega) (by omega) (by omega), ?_⟩
          refine ⟨_, rfl, r, _, 3, .int k', rfl, rfl, hG, atI_nat (j := 3) rfl, _, _, rfl, rfl, wide_mul (a := n + (n + 2)) (b := n + 1) (sk.mul tmb.1) (sk'.mono (by omega)) (by omega) (by omega) (by omega), by show 4 ≤ sizeLine; decide, fun t nt => ?_⟩
          have s1 := same_upd (o := .tup [.str "lf", .int b, .int a, .int (k * ((if c - b' > 0 then c - b' else 0) + a' + 1) * k')]) nt
          have ht1 : upd H1 t (.tup [.str "lf", .int b, .int a, .int (k * ((if c - b' > 0 then c - b' else 0) + a' + 1) * k')]) t = some (.tup [.str "lf", .int b, .int a, .int (k * ((if c - b' > 0 then c - b' else 0) + a' + 1) * k')]) := upd_same
          revert s1 ht1
          generalize upd H1 t (.tup [.str "lf", .int b, .int a, .int (k * ((if c - b' > 0 then c - b' else 0) + a' + 1) * k')]) = H2
          intro s1 ht1
          refine ⟨_, rfl, 4, rfl, r, _, rfl, sameT s1 hG, fun z => absurd z.1 (show ¬ HT.sIx 5 0 (some 4) = 0 by decide), fun p2 n2 => ?_⟩
          have s2 := s1.trans (same_upd (o := .tup [.int c']) n2)
          have ht2 : SqT K (upd H2 p2 (.tup [.int c'])) t [.str "lf", .int b, .int a, .int (k * ((if c - b' > 0 then c - b' else 0) + a' + 1) * k')] := .inl (.inl (by rw [upd_ne (ne_of_none ht1 n2)]; exact ht1))
          refine ⟨t, p2, _, [.int c'], rfl, rfl, ht2, .inl (.inl upd_same), by show 5 ≤ sizeLine; decide, (fun z => by cases z), fun _ z => ?_, fun _ z p3 n3 => ?_⟩
          · cases z
          · exact q _ _ (s2.trans (same_upd n3)) ⟨p3, rfl, .inl (.inl upd_same)⟩
      | cr b' a' k' =>
        refine iteF ?_
        dsimp only [gName, tNext, tSeq]
        refine asgK ?_
        dsimp only [gName, tNext, tSeq]
        have tmb : Sm (n + 2) (((if c - b' > 0 then c - b' else 0) + a' + 1) : Int) ∧ 0 ≤ (((if c - b' > 0 then c - b' else 0) + a' + 1) : Int) := by
          have h := Fm.after_ok og of.2.2.2.1 of.2.2.2.2.2.2.2
          have e : Fm.after (.cr b' a' k') c = (if c - b' > 0 then c - b' else 0) + a' := rfl
          rw [e] at h
          exact ⟨h.2.add (Nat.lt_of_lt_of_le (by decide : (1 : Int).natAbs < 2 ^ 1) (Nat.pow_le_pow_right (by decide) (by omega))), by omega⟩
        refine if_fin (fun σ H1 => ∃ lo hi : Int, σ = [some (.ref p), some (.ref r), some (.int lo), some (.int hi), some (.int ((if c - b' > 0 then c - b' else 0) + a' + 1))] ∧ H1 = H) (fun R hR => ?_) ?_
        · refine ⟨_, rfl, p, _, 0, .str "lf", rfl, rfl, hT, atI_nat (j := 0) rfl, rfl, _, rfl, iteT ⟨_, rfl, p, _, 4, .int c, rfl, rfl, hT, atI_nat (j := 4) rfl, _, rfl, r, _, 1, .int b', rfl, rfl, hG, atI_nat (j := 1) rfl, _, _, rfl, rfl, _, _, rfl, _, rfl, r, _, 2, .int a', rfl, rfl, hG, atI_nat (j := 2) rfl, _, _, rfl, rfl, _, _, rfl, rfl, hR _ _ ⟨_, _, rfl, rfl⟩⟩⟩
        · rintro σ H1 ⟨lo, hi, rfl, rfl⟩
          have sk : Sm n k := of.2.2.2.2.2.2.1
          have sk' : Sm n k' := og.2.2.2.2.2
          refine ⟨_, rfl, r, _, 0, .str "cr", rfl, rfl, hG, atI_nat (j := 0) rfl, _, rfl, p, _, 1, .int b, rfl, rfl, hT, atI_nat (j := 1) rfl, _, rfl, p, _, 2, .int a, rfl, rfl, hT, atI_nat (j := 2) rfl, _, rfl, p, _, 3, .int k, rfl, rfl, hT, atI_nat (j := 3) rfl, _, rfl, _, _, rfl, rfl, wide_mul (a := n + 1) (b := n + 2) (sk.mono (by omega)) tmb.1 (by omega) (by omega) (by omega), ?_⟩
          refine ⟨_, rfl, r, _, 3, .int k', rfl, rfl, hG, atI_nat (j := 3) rfl, _, _, rfl, rfl, wide_mul (a := n + (n + 2)) (b := n + 1) (sk.mul tmb.1) (sk'.mono (by omega)) (by omega) (by omega) (by omega), by show 4 ≤ sizeLine; decide, fun t nt => ?_⟩
          have s1 := same_upd (o := .tup [.str "cr", .int b, .int a, .int (k * ((if c - b' > 0 then c - b' else 0) + a' + 1) * k')]) nt
          have ht1 : upd H1 t (.tup [.str "cr", .int b, .int a, .int (k * ((if c - b' > 0 then c - b' else 0) + a' + 1) * k')]) t = some (.tup [.str "cr", .int b, .int a, .int (k * ((if c - b' > 0 then c - b' else 0) + a' + 1) * k')]) := upd_same
          revert s1 ht1
          generalize upd H1 t (.tup [.str "cr", .int b, .int a, .int (k * ((if c - b' > 0 then c - b' else 0) + a' + 1) * k')]) = H2
          intro s1 ht1
          refine ⟨_, rfl, 4, rfl, r, _, rfl, sameT s1 hG, fun z => absurd z.1 (show ¬ HT.sIx 4 0 (some 4) = 0 by decide), fun p2 n2 => ?_⟩
          have s2 := s1.trans (same_upd (o := .tup []) n2)
          have ht2 : SqT K (upd H2 p2 (.tup [])) t [.str "cr", .int b, .int a, .int (k * ((if c - b' > 0 then c - b' else 0) + a' + 1) * k')] := .inl (.inl (by rw [upd_ne (ne_of_none ht1 n2)]; exact ht1))
          refine ⟨t, p2, _, [], rfl, rfl, ht2, .inl (.inl upd_same), by show 4 ≤ sizeLine; decide, (fun z => by cases z), fun _ z => ?_, fun _ z p3 n3 => ?_⟩
          · exact q _ _ s2 ⟨t, rfl, ht2⟩
          · exact absurd rfl z
    | cr b a k =>
      refine iteF ?_
      dsimp only [gName, tNext, tSeq]
      refine ⟨_, rfl, r, _, 0, _, rfl, rfl, hG, atI_nat (j := 0) g.vs0, rfl, _, rfl, ?_⟩
      cases g with
      | keep b' a' =>
        refine iteT ⟨_, rfl, p, _, 0, .str "cr", rfl, rfl, hT, atI_nat (j := 0) rfl, rfl, _, rfl, ?_⟩
        exact iteT ⟨_, rfl, q _ _ (Same.refl _) ⟨p, rfl, hT⟩⟩
      | lf b' a' k' c' =>
        refine iteF ?_
        dsimp only [gName, tNext, tSeq]
        refine asgK ?_
        dsimp only [gName, tNext, tSeq]
        have tmb : Sm (n + 2) (1 : Int) ∧ 0 ≤ (1 : Int) := by
          exact ⟨Nat.lt_of_lt_of_le (by decide : (1 : Int).natAbs < 2 ^ 1) (Nat.pow_le_pow_right (by decide) (by omega)), by decide⟩
        refine if_fin (fun σ H1 => ∃ lo hi : Int, σ = [some (.ref p), some (.ref r), some (.int lo), some (.int hi), some (.int 1)] ∧ H1 = H) (fun R hR => ?_) ?_
        · exact ⟨_, rfl, p, _, 0, .str "cr", rfl, rfl, hT, atI_nat (j := 0) rfl, rfl, _, rfl, iteF (hR _ _ ⟨_, _, rfl, rfl⟩)⟩
        · rintro σ H1 ⟨lo, hi, rfl, rfl⟩
          have sk : Sm n k := of.2.2.2.2.2
          have sk' : Sm n k' := og.2.2.2.2.2.2.1
          refine ⟨_, rfl, r, _, 0, .str "lf", rfl, rfl, hG, atI_nat (j := 0) rfl, _, rfl, p, _, 1, .int b, rfl, rfl, hT, atI_nat (j := 1) rfl, _, rfl, p, _, 2, .int a, rfl, rfl, hT, atI_nat (j := 2) rfl, _, rfl, p, _, 3, .int k, rfl, rfl, hT, atI_nat (j := 3) rfl, _, rfl, _, _, rfl, rfl, wide_mul (a := n + 1) (b := n + 2) (sk.mono (by omega)) tmb.1 (by omega) (by omega) (by omega), ?_⟩
          refine ⟨_, rfl, r, _, 3, .int k', rfl, rfl, hG, atI_nat (j := 3) rfl, _, _, rfl, rfl, wide_mul (a := n + (n + 2)) (b := n + 1) (sk.mul tmb.1) (sk'.mono (by omega)) (by omega) (by omega) (by omega), by show 4 ≤ sizeLine; decide, fun t nt => ?_⟩
          have s1 := same_upd (o := .tup [.str "lf", .int b, .int a, .int (k * 1 * k')]) nt
          have ht1 : upd H1 t (.tup [.str "lf", .int b, .int a, .int (k * 1 * k')]) t = some (.tup [.str "lf", .int b, .int a, .int (k * 1 * k')]) := upd_same
          revert s1 ht1
          generalize upd H1 t (.tup [.str "lf", .int b, .int a, .int (k * 1 * k')]) = H2
          intro s1 ht1
          refine ⟨_, rfl, 4, rfl, r, _, rfl, sameT s1 hG, fun z => absurd z.1 (show ¬ HT.sIx 5 0 (some 4) = 0 by decide), fun p2 n2 => ?_⟩
          have s2 := s1.trans (same_upd (o := .tup [.int c']) n2)
          have ht2 : SqT K (upd H2 p2 (.tup [.int c'])) t [.str "lf", .int b, .int a, .int (k * 1 * k')] := .inl (.inl (by rw [upd_ne (ne_of_none ht1 n2)]; exact ht1))
          refine ⟨t, p2, _, [.int c'], rfl, rfl, ht2, .inl (.inl upd_same), by show 5 ≤ sizeLine; decide, (fun z => by cases z), fun _ z => ?_, fun _ z p3 n3 => ?_⟩
          · cases z
          · exact q _ _ (s2.trans (same_upd n3)) ⟨p3, rfl, .inl (.inl upd_same)⟩
      | cr b' a' k' =>
        refine iteF ?_
        dsimp only [gName, tNext, tSeq]
        refine asgK ?_
        dsimp only [gName, tNext, tSeq]
        have tmb : Sm (n + 2) (1 : Int) ∧ 0 ≤ (1 : Int) := by
          exact ⟨Nat.lt_of_lt_of_le (by decide : (1 : Int).natAbs < 2 ^ 1) (Nat.pow_le_pow_right (by decide) (by omega)), by decide⟩
        refine if_fin (fun σ H1 => ∃ lo hi : Int, σ = [some (.ref p), some (.ref r), some (.int lo), some (.int hi), some (.int 1)] ∧ H1 = H) (fun R hR => ?_) ?_
        · exact ⟨_, rfl, p, _, 0, .str "cr", rfl, rfl, hT, atI_nat (j := 0) rfl, rfl, _, rfl, iteF (hR _ _ ⟨_, _, rfl, rfl⟩)⟩
        · rintro σ H1 ⟨lo, hi, rfl, rfl⟩
          have sk : Sm n k := of.2.2.2.2.2
          have sk' : Sm n k' := og.2.2.2.2.2
          refine ⟨_, rfl, r, _, 0, .str "cr", rfl, rfl, hG, atI_nat (j := 0) rfl, _, rfl, p, _, 1, .int b, rfl, rfl, hT, atI_nat (j := 1) rfl, _, rfl, p, _, 2, .int a, rfl, rfl, hT, atI_nat (j := 2) rfl, _, rfl, p, _, 3, .int k, rfl, rfl, hT, atI_nat (j := 3) rfl, _, rfl, _, _, rfl, rfl, wide_mul (a := n + 1) (b := n + 2) (sk.mono (by omega)) tmb.1 (by omega) (by omega) (by omega), ?_⟩
          refine ⟨_, rfl, r, _, 3, .int k', rfl, rfl, hG, atI_nat (j := 3) rfl, _, _, rfl, rfl, wide_mul (a := n + (n + 2)) (b := n + 1) (sk.mul tmb.1) (sk'.mono (by omega)) (by omega) (by omega) (by omega), by show 4 ≤ sizeLine; decide, fun t nt => ?_⟩
          have s1 := same_upd (o := .tup [.str "cr", .int b, .int a, .int (k * 1 * k')]) nt
          have ht1 : upd H1 t (.tup [.str "cr", .int b, .int a, .int (k * 1 * k')]) t = some (.tup [.str "cr", .int b, .int a, .int (k * 1 * k')]) := upd_same
          revert s1 ht1
          generalize upd H1 t (.tup [.str "cr", .int b, .int a, .int (k * 1 * k')]) = H2
          intro s1 ht1
          refine ⟨_, rfl, 4, rfl, r, _, rfl, sameT s1 hG, fun z => absurd z.1 (show ¬ HT.sIx 4 0 (some 4) = 0 by decide), fun p2 n2 => ?_⟩
          have s2 := s1.trans (same_upd (o := .tup []) n2)
          have ht2 : SqT K (upd H2 p2 (.tup [])) t [.str "cr", .int b, .int a, .int (k * 1 * k')] := .inl (.inl (by rw [upd_ne (ne_of_none ht1 n2)]; exact ht1))
          refine ⟨t, p2, _, [], rfl, rfl, ht2, .inl (.inl upd_same), by show 4 ≤ sizeLine; decide, (fun z => by cases z), fun _ z => ?_, fun _ z p3 n3 => ?_⟩
          · exact q _ _ s2 ⟨t, rfl, ht2⟩
          · exact absurd rfl z
end
end Lw
namespace Lw
open PySem PySem.Spec L2 Lx
/-! ### numbers of any size -/
/-! ### the source of draws -/
def SrcAt (H : Hp) (r dl : Addr) (n : Nat) : Prop := ∃ (ds : List Int) (st mx ct : Int), H r = some (.lst [.ref dl, .int st, .int mx, .int ct]) ∧ H dl = some (.lst (ds.map V.int)) ∧ (∀ d ∈ ds, 0 ≤ d) ∧ 0 ≤ st ∧ 0 ≤ mx ∧ mx < 2305843009213693952 ∧ 0 ≤ ct ∧ ct ≤ n ∧ r ≠ dl
/-- all but the source is as it was -/
def Kp (r dl : Addr) (H H' : Hp) : Prop := ∀ b o, b ≠ r → b ≠ dl → H b = some o → H' b = some o
theorem Kp.refl (r dl : Addr) (H : Hp) : Kp r dl H H := fun _ _ _ _ h => h
theorem Kp.trans {r dl : Addr} {H H1 H2 : Hp} (a : Kp r dl H H1) (b : Kp r dl H1 H2) : Kp r dl H H2 := fun c o h1 h2 h => b c o h1 h2 (a c o h1 h2 h)
theorem Kp.of {r dl : Addr} {H H' : Hp} (s : Same H H') : Kp r dl H H' := fun b o _ _ h => s b o h
theorem Kp.upd_r {r dl : Addr} {H : Hp} {o : HO} : Kp r dl H (upd H r o) := fun b u h1 h2 h => by rw [upd_ne h1]; exact h
theorem Kp.upd_d {r dl : Addr} {H : Hp} {o : HO} : Kp r dl H (upd H dl o) := fun b u h1 h2 h => by rw [upd_ne h2]; exact h
theorem SrcAt.same {H H' : Hp} {r dl : Addr} {n : Nat} (s : Same H H') : SrcAt H r dl n → SrcAt H' r dl n := fun ⟨ds, st, mx, ct, h1, h2, h3⟩ => ⟨ds, st, mx, ct, s _ _ h1, s _ _ h2, h3⟩
theorem SrcAt.mono {H : Hp} {r dl : Addr} {n m : Nat} (k : n ≤ m) : SrcAt H r dl n → SrcAt H r dl m := fun ⟨ds, st, mx, ct, h1, h2, h3, h4, h5, h6, h7, h8, h9⟩ => ⟨ds, st, mx, ct, h1, h2, h3, h4, h5, h6, h7, by omega, h9⟩
theorem Kp.free {r dl : Addr} {H H' : Hp} {n : Nat} (k : Kp r dl H H') (s : SrcAt H' r dl n) {p : Addr} (h : H' p = none) : H p = none := by
  obtain ⟨ds, st, mx, ct, h1, h2, _⟩ := s
  cases e : H p with
  | none => rfl
  | some o =>
    have := k p o (ne_of_none h1 h |>.symm) (ne_of_none h2 h |>.symm) e
    rw [h] at this
    cases this
theorem scDraw : FnScope ["source", "many", "drawn", "mixed"] ["source", "many"] (defScope sLDraw) := ⟨rfl, rfl, rfl, by decide +kernel, rfl, by decide +kernel, by decide +kernel⟩
def spDraw : Sp := fun vs H Q _ => ∃ (r dl : Addr) (n : Nat) (m : Int), vs = [.ref r, .int m] ∧ SrcAt H r dl n ∧ n < 1000000000 ∧ 0 < m ∧ m.natAbs < 2 ^ 4000 ∧ ∀ v H', 0 ≤ v → v < m → SrcAt H' r dl (n + 1) → Kp r dl H H' → Q (.int v) H'
theorem n_p1 : (2305843009213693951 : Int) ≠ 0 := by decide
theorem n_p2 : (1000000000000000009 : Int) ≠ 0 := by decide
section
variable {P : Program} {w : World} {K : PySem.W.Frag} {mg : Str → Option Value} {base : Heap}
theorem ok_draw {f : Addr} {fd : FuncData} {k : Nat} (F : Fun K "_law_draw" "_law_draw" sLDraw f fd) : FnOk P w K mg base CX0 (k + 1) f fd ["source", "many"] spDraw := by
  refine F.ok scDraw (fun vs H Q E h => ?_) (fun cdv A outer s H vs Q E hr h => ?_)
  · obtain ⟨r, dl, n, m, rfl, _⟩ := h
    rfl
  · obtain ⟨r, dl, n, m, rfl, ⟨ds, st, mx, ct, hr1, hd1, hds, hst, hm0, hm1, hc0, hc1, hne⟩, hn, hmp, hmb, q⟩ := h
    refine ⟨_, pss_cons (ps_while PassesOwn.never (PW.pt (pw_and (pt_cmpR op_lt (pe_ix ix_list (pv 0) pe_int (fun _ _ => rfl)) pe_int (nomark _)) (pw_and1 (pt_cmpR (op_neD hr.units) (pe_ix ix_list (pv 0) pe_int (fun _ _ => rfl)) (pe_lst pa_nil) (nomark _)))))
        (pss_one (ps_asg (pe_bm PySem.F.plainAttrs_list PySem.F.slot_list_pop PySem.F.type_list_pop mt_popAt (pe_ix ix_list (pv 0) pe_int (fun _ _ => rfl)) (pa_cons pe_int pa_nil)) (pg_sub (pv 0) pe_int set_list))))
      (pss_cons (ps_if (pt_cmpR op_ge (pe_ix ix_list (pv 0) pe_int (fun _ _ => rfl)) pe_int (nomark _))
        (pss_cons (ps_set (i := 2) scDraw.nd rfl (.inl rfl) (pe_op op_modN (pe_ix ix_list (pv 0) pe_int (fun _ _ => rfl)) (pv 1)))
        (pss_cons (ps_asg (pe_op op_fdivW (pe_ix ix_list (pv 0) pe_int (fun _ _ => rfl)) (pv 1)) (pg_sub (pv 0) pe_int set_list))
        (pss_one (ps_ret (pv 2))))) pss_nil)
      (pss_cons (ps_asg (pe_op op_add (pe_ix ix_list (pv 0) pe_int (fun _ _ => rfl)) pe_int) (pg_sub (pv 0) pe_int set_list))
      (pss_cons (ps_set (i := 3) scDraw.nd rfl (.inl rfl) (pe_op op_mulW (pe_op op_add (pe_ix ix_list (pv 0) pe_int (fun _ _ => rfl)) pe_int) (pe_op op_powW (pe_op op_add (pe_ix ix_list (pv 0) pe_int (fun _ _ => rfl)) pe_int) pe_int)))
      (pss_cons (ps_set (i := 3) scDraw.nd rfl (.inl rfl) (pe_op op_modN (pe_op op_add (pv 3) (pe_op op_mul pe_int (pe_ix ix_list (pv 0) pe_int (fun _ _ => rfl)))) (pe_op op_sub (pe_op op_pow pe_int pe_int) pe_int)))
      (pss_one (ps_ret (pe_op op_modN (pe_op op_fdiv (pe_op op_modN (pe_op op_powW (pv 3) pe_int) (pe_op op_add (pe_op op_pow pe_int pe_int) pe_int)) pe_int) (pv 1)))))))), ?_⟩
    have hmn : m ≠ 0 := by omega
    refine while_fin (fun σ H1 => ∃ (ds : List Int) (st : Int), σ = [some (.ref r), some (.int m), none, none] ∧ Kp r dl H H1 ∧ H1 r = some (.lst [.ref dl, .int st, .int mx, .int ct]) ∧ H1 dl = some (.lst (ds.map V.int)) ∧ (∀ d ∈ ds, 0 ≤ d) ∧ 0 ≤ st) (fun R hR => ?_) (fun σ H1 hF => ?_)
    · refine ⟨fun mm σ H1 => ∃ (ds : List Int) (st : Int), σ = [some (.ref r), some (.int m), none, none] ∧ mm = ds.length ∧ Kp r dl H H1 ∧ H1 r = some (.lst [.ref dl, .int st, .int mx, .int ct]) ∧ H1 dl = some (.lst (ds.map V.int)) ∧ (∀ d ∈ ds, 0 ≤ d) ∧ 0 ≤ st, ⟨_, ds, st, rfl, rfl, Kp.refl r dl H, hr1, hd1, hds, hst⟩, ?_⟩
      rintro mm σ H1 ⟨ds, st, rfl, rfl, hk, hr1, hd1, hds, hst⟩
      refine ⟨_, rfl, r, _, 1, _, rfl, rfl, .inl (.inl hr1), atI_nat (j := 1) rfl, _, _, rfl, rfl, _, rfl, ?_⟩
      by_cases h2 : st < 2
      · rw [decide_eq_true h2]
        refine iteT ⟨_, rfl, r, _, 0, _, rfl, rfl, .inl (.inl hr1), atI_nat (j := 0) rfl, Nat.zero_le _, fun p np => ?_⟩
        have s1 := same_upd (o := .lst []) np
        refine ⟨.list (ds.map .int), .list [], .lst (.inl (.inl (s1 _ _ hd1))) (dps ds), .lst (.inl (.inl upd_same)) .nil, shaped_ints ds, by decide, _, rfl, ?_⟩
        cases ds with
        | nil => exact iteF (hR _ _ ⟨[], st, rfl, hk.trans (Kp.of s1), s1 _ _ hr1, s1 _ _ hd1, hds, hst⟩)
        | cons d ds =>
          refine iteT ⟨fun σ' H' => ∃ (ds' : List Int) (st' : Int), σ' = [some (.ref r), some (.int m), none, none] ∧ ds'.length < (d :: ds).length ∧ Kp r dl H H' ∧ H' r = some (.lst [.ref dl, .int st', .int mx, .int ct]) ∧ H' dl = some (.lst (ds'.map V.int)) ∧ (∀ d ∈ ds', 0 ≤ d) ∧ 0 ≤ st', fun σ' H' ⟨ds', st', e, hlt, rest⟩ => ⟨ds'.length, hlt, ds', st', e, rfl, rest⟩, ?_⟩
          refine ⟨_, rfl, r, _, 0, _, rfl, rfl, .inl (.inl (s1 _ _ hr1)), atI_nat (j := 0) rfl, .inl ⟨rfl, _, .inl (.inl (s1 _ _ hd1))⟩, ?_⟩
          refine ⟨dl, (d :: ds).map V.int, 0, 0, .int d, rfl, rfl, s1 _ _ hd1, by decide, by decide, PySem.seqIndex_of (by decide) (by simp), rfl, ?_⟩
          have hrp : upd (upd H1 p (.lst [])) dl (.lst (((d :: ds).map V.int).eraseIdx 0)) r = some (.lst [.ref dl, .int st, .int mx, .int ct]) := by rw [upd_ne hne]; exact s1 _ _ hr1
          refine ⟨_, rfl, r, _, 1, 1, rfl, rfl, hrp, rfl, ?_⟩
          exact ⟨ds, d, rfl, Nat.lt_succ_self _, ((hk.trans (Kp.of s1)).trans Kp.upd_d).trans Kp.upd_r, upd_same, by rw [upd_ne (Ne.symm hne)]; exact upd_same, fun x hx => hds x (List.mem_cons_of_mem _ hx), hds d (List.mem_cons_self ..)⟩
      · rw [decide_eq_false h2]
        exact iteF (hR _ _ ⟨ds, st, rfl, hk, hr1, hd1, hds, hst⟩)
    · obtain ⟨ds, st, rfl, hk, hr1, hd1, hds, hst⟩ := hF
      refine ⟨_, rfl, r, _, 1, _, rfl, rfl, .inl (.inl hr1), atI_nat (j := 1) rfl, _, _, rfl, rfl, _, rfl, ite2 (fun h2 => ?_) (fun h2 => ?_)⟩
      · refine ⟨_, rfl, r, _, 1, _, rfl, rfl, .inl (.inl hr1), atI_nat (j := 1) rfl, _, rfl, _, _, rfl, rfl, hmn, ?_⟩
        refine ⟨_, rfl, r, _, 1, _, rfl, rfl, .inl (.inl hr1), atI_nat (j := 1) rfl, _, rfl, _, _, rfl, rfl, wide_div hmp hmb (by decide) (by decide), ?_⟩
        refine ⟨_, rfl, r, _, 1, 1, rfl, rfl, hr1, rfl, ?_⟩
        refine ⟨_, rfl, ?_⟩
        have f1 := fm (a := st) hmp
        exact q _ _ f1.1 f1.2 ⟨ds, st / m, mx, ct, upd_same, by rw [upd_ne (Ne.symm hne)]; exact hd1, hds, Int.ediv_nonneg hst (by omega), hm0, hm1, hc0, by omega, hne⟩ (hk.trans Kp.upd_r)
      · refine ⟨_, rfl, r, _, 3, _, rfl, rfl, .inl (.inl hr1), atI_nat (j := 3) rfl, _, _, rfl, rfl, ?_⟩
        refine ⟨_, rfl, r, _, 3, 3, rfl, rfl, hr1, rfl, ?_⟩
        have hr2 : upd H1 r (.lst ([V.ref dl, .int st, .int mx, .int ct].set 3 (.int (ct + 1)))) r = some (.lst [.ref dl, .int st, .int mx, .int (ct + 1)]) := upd_same
        have hd2 : upd H1 r (.lst ([V.ref dl, .int st, .int mx, .int ct].set 3 (.int (ct + 1)))) dl = some (.lst (ds.map V.int)) := by rw [upd_ne (Ne.symm hne)]; exact hd1
        have hk2 : Kp r dl H (upd H1 r (.lst ([V.ref dl, .int st, .int mx, .int ct].set 3 (.int (ct + 1))))) := hk.trans Kp.upd_r
        show tSeq _ _ _ _ (upd H1 r (.lst ([V.ref dl, .int st, .int mx, .int ct].set 3 (.int (ct + 1)))))
        generalize upd H1 r (.lst ([V.ref dl, .int st, .int mx, .int ct].set 3 (.int (ct + 1)))) = H2 at hr2 hd2 hk2
        refine ⟨_, rfl, r, _, 2, _, rfl, rfl, .inl (.inl hr2), atI_nat (j := 2) rfl, _, _, rfl, rfl, _, rfl, r, _, 3, _, rfl, rfl, .inl (.inl hr2), atI_nat (j := 3) rfl, _, _, rfl, rfl, _, _, rfl, rfl, pow_sm (by omega) (by omega) (by decide) (by decide), _, _, rfl, rfl, ?_, ?_⟩
        · have c1 := cube_sm (x := ct + 1 + 3) (by omega) (by omega)
          exact wide_mul (a := 62) (b := 93) (by omega) c1 (by decide) (by decide) (by decide)
        · generalize hM : (mx + 7) * ((ct + 1 + 3) ^ Int.toNat 3) = M
          show gName 3 (.int ((mx + 7) * ((ct + 1 + 3) ^ Int.toNat 3))) _ _ _
          rw [hM]
          refine ⟨_, rfl, _, rfl, r, _, 3, _, rfl, rfl, .inl (.inl hr2), atI_nat (j := 3) rfl, _, _, rfl, rfl, .inl ⟨by decide, by decide⟩, _, _, rfl, rfl, _, _, rfl, rfl, ⟨by decide, by decide, by decide⟩, _, _, rfl, rfl, _, _, rfl, rfl, p61n, ?_⟩
          have f1 := fm (a := M + 1000081 * (ct + 1)) p61p
          rw [p61] at f1
          have e61 : (M + 1000081 * (ct + 1)).fmod ((2 : Int) ^ Int.toNat 61 - 1) = (M + 1000081 * (ct + 1)).fmod 2305843009213693951 := by rw [p61]
          show gName 3 (.int ((M + 1000081 * (ct + 1)).fmod ((2 : Int) ^ Int.toNat 61 - 1))) _ _ _
          rw [e61]
          generalize (M + 1000081 * (ct + 1)).fmod 2305843009213693951 = N at f1
          refine ⟨_, rfl, _, _, rfl, rfl, pow_sm f1.1 (by omega) (by decide) (by decide), _, _, rfl, rfl, ⟨by decide, by decide, by decide⟩, _, _, rfl, rfl, _, _, rfl, rfl, p18n, _, _, rfl, rfl, ⟨by decide, by decide⟩, _, rfl, _, _, rfl, rfl, hmn, ?_⟩
          have f2 := fm (a := (N ^ Int.toNat 5).fmod ((10 : Int) ^ Int.toNat 18 + 9) / 128) hmp
          exact q _ _ f2.1 f2.2 ⟨ds, st, mx, ct + 1, hr2, hd2, hds, hst, hm0, hm1, by omega, by omega, hne⟩ hk2
end
end Lw
namespace Lw
open PySem PySem.Spec L2 Lx
theorem scSource : FnScope ["script", "mix", "digits", "cell", "span"] ["script"] (defScope sLSource) := ⟨rfl, rfl, rfl, by decide +kernel, rfl, by decide +kernel, by decide +kernel⟩
def spSource (K : PySem.W.Frag) : Sp := fun vs H Q _ => ∃ (a : Addr) (ns : List Int), vs = [.ref a] ∧ SqL K H a (ns.map V.int) ∧ ns.length ≤ 63 ∧ ∀ H' r dl, Same H H' → H r = none → H dl = none → SrcAt H' r dl 0 → Q (.ref r) H'
section
variable {P : Program} {w : World} {K : PySem.W.Frag} {mg : Str → Option Value} {base : Heap}
theorem ok_source {f : Addr} {fd : FuncData} {k : Nat} (F : Fun K "_law_source" "_law_source" sLSource f fd) (mX : mg "max" = none) : FnOk P w K mg base CX0 (k + 1) f fd ["script"] (spSource K) := by
  refine F.ok scSource (fun vs H Q E h => ?_) (fun cdv A outer s H vs Q E hr h => ?_)
  · obtain ⟨a, ns, rfl, _⟩ := h
    rfl
  · obtain ⟨a, ns, rfl, hS, hlen, q⟩ := h
    refine ⟨_, pss_cons (ps_set (i := 1) scSource.nd rfl (.inl rfl) pe_int)
      (pss_cons (ps_set (i := 2) scSource.nd rfl (.inl rfl) (pe_lst pa_nil))
      (pss_cons (ps_for PassesOwn.never rfl (pi_list (pv 0)) (pg_name (i := 3) scSource.nd rfl (.inl rfl))
        (pss_cons (ps_set (i := 1) scSource.nd rfl (.inl rfl) (pe_op op_modN (pe_op op_add (pe_op op_mul (pv 1) pe_int) (pv 3)) (pe_op op_sub (pe_op op_pow pe_int pe_int) pe_int)))
        (pss_cons (ps_set (i := 4) scSource.nd rfl (.inl rfl) (pe_callB (call_max2 rfl) (by rfl) mX (by decide +kernel) (pa_cons (pv 3) (pa_cons (pe_op op_sub pe_int (pv 3)) pa_nil))))
        (pss_one (ps_if (pt_cmpR op_ge (pv 4) (pe_op op_pow pe_int pe_int) (nomark _)) (pss_one (ps_expr (pe_bm PySem.F.plainAttrs_list PySem.F.slot_list_append PySem.F.type_list_append mt_append (pv 2) (pa_cons (pe_op op_sub (pv 4) (pe_op op_pow pe_int pe_int)) pa_nil)))) pss_nil)))))
      (pss_one (ps_ret (pe_lst (pa_cons (pv 2) (pa_cons pe_int (pa_cons (pv 1) (pa_cons pe_int pa_nil))))))))), ?_⟩
    refine ⟨Nat.zero_le _, fun p np => ?_⟩
    refine ⟨_, rfl, a, rfl, ⟨_, (same_upd (o := .lst []) np).seq hS⟩, ?_⟩
    refine for_it (walk_list (xs := ns.map V.int)) (fun i σ H' => Same H H' ∧ ∃ (mx : Int) (ds : List Int) (y3 y4 : Option V), σ = [some (.ref a), some (.int mx), some (.ref p), y3, y4] ∧ H' p = some (.lst (ds.map V.int)) ∧ (∀ d ∈ ds, 0 ≤ d) ∧ 0 ≤ mx ∧ mx < 2305843009213693952 ∧ ds.length ≤ i)
      ⟨same_upd np, _, [], none, none, rfl, upd_same, (fun d hd => by cases hd), by decide, by decide, Nat.le_refl _⟩ (fun i σ H' _ hQ => hQ.1.seq hS) ?_ ?_
    · rintro i u H1' H1 H2 hi ⟨sm, mx, ds, y3, y4, rfl, hp, hds, hm0, hm1, hl⟩ ⟨rfl, hu⟩
      have hil : i < 63 := by
        rw [List.length_map] at hi
        omega
      have hz : ∃ z : Int, u = .int z := by
        obtain ⟨z, _, e⟩ := List.mem_map.mp (List.mem_of_getElem? hu)
        exact ⟨z, e.symm⟩
      obtain ⟨z, rfl⟩ := hz
      refine ⟨_, rfl, _, _, rfl, rfl, .inl ⟨by omega, by omega⟩, _, rfl, _, _, rfl, rfl, _, _, rfl, rfl, ⟨by decide, by decide, by decide⟩, _, _, rfl, rfl, _, _, rfl, rfl, p61n, ?_⟩
      have f1 := fm (a := mx * 1000033 + z) p61p
      rw [p61] at f1
      show gName 1 (.int ((mx * 1000033 + z).fmod ((2 : Int) ^ Int.toNat 61 - 1))) _ _ _
      rw [p61]
      refine ⟨_, rfl, _, rfl, _, _, rfl, rfl, _, _, rfl, ?_⟩
      generalize (mx * 1000033 + z).fmod 2305843009213693951 = N at f1
      show gName 4 (.int (if 0 - z > z then 0 - z else z)) _ _ _
      generalize (if 0 - z > z then 0 - z else z) = M
      refine ⟨_, rfl, _, _, rfl, rfl, ⟨by decide, by decide, by decide⟩, _, _, rfl, rfl, _, rfl, ite2 (fun c => ?_) (fun c => ?_)⟩
      · have c' : (1000000000000000000 : Int) ≤ M := by
          have := of_decide_eq_true c
          rw [p18] at this
          exact this
        refine ⟨_, rfl, .inl ⟨rfl, _, .inl (.inl hp)⟩, _, rfl, _, _, rfl, rfl, ⟨by decide, by decide, by decide⟩, _, _, rfl, rfl, ?_⟩
        refine ⟨p, _, _, rfl, rfl, hp, by rw [List.length_map, sizeLine_eq]; omega, ?_⟩
        refine ⟨Same.own sm np, N, ds ++ [M - 10 ^ Int.toNat 18], _, _, rfl, by rw [upd_same, List.map_append]; rfl, fun d hd => ?_, f1.1, by omega, by rw [List.length_append]; exact Nat.add_le_add_right hl 1⟩
        rcases List.mem_append.mp hd with h | h
        · exact hds d h
        · rw [List.mem_singleton.mp h, p18]
          omega
      · exact ⟨sm, N, ds, _, _, rfl, hp, hds, f1.1, by omega, by omega⟩
    · rintro σ H1 ⟨sm, mx, ds, y3, y4, rfl, hp, hds, hm0, hm1, hl⟩
      refine ⟨_, rfl, _, rfl, by show 4 ≤ sizeLine; decide, fun r nr => ?_⟩
      have s2 := same_upd (o := .lst [.ref p, .int 0, .int mx, .int 0]) nr
      exact q _ r p (sm.trans s2) (sm.free nr) np ⟨ds, 0, mx, 0, upd_same, s2 _ _ hp, hds, by decide, hm0, hm1, by decide, by decide, Ne.symm (ne_of_none hp nr)⟩
end
end Lw
namespace Lw
open PySem PySem.Spec L2 Lx
/-! ### data as the law compares it -/
theorem scSame : FnScope ["found", "due", "k"] ["found", "due"] (defScope sLSame) := ⟨rfl, rfl, rfl, by decide +kernel, rfl, by decide +kernel, by decide +kernel⟩
def spSame (K : PySem.W.Frag) (n : Nat) : Sp := fun vs H Q _ => ∃ x y d, vs = [x, y] ∧ Dq K H x d ∧ Dq K H y d ∧ d.depth < n ∧ wd d = true ∧ ∀ H', Same H H' → Q (.bl true) H'
structure SameF (mg : Str → Option Value) : Prop where
  isi : mg "isinstance" = none
  bool : mg "bool" = none
  int : mg "int" = none
  str : mg "str" = none
  list : mg "list" = none
  tuple : mg "tuple" = none
  len : mg "len" = none
  rng : mg "range" = none
section
variable {P : Program} {w : World} {K : PySem.W.Frag} {mg : Str → Option Value} {base : Heap}
theorem ok_same {f : Addr} {fd : FuncData} (F : Fun K "_law_same" "_law_same" sLSame f fd) (Z : SameF mg) (b : Binds K fd ["found", "due"] []) (g : mg "_law_same" = some (.ref f)) : ∀ n, FnOk P w K mg base CX0 (n + 1) f fd ["found", "due"] (spSame K n)
  | 0 => F.ok scSame (fun vs H Q E h => by obtain ⟨x, y, d, rfl, _⟩ := h; rfl) (fun cdv A outer s H vs Q E hr h => by
      obtain ⟨x, y, d, _, _, _, hd, _⟩ := h
      exact absurd hd (Nat.not_lt_zero _))
  | n + 1 => by
    have G := ok_same F Z b g n
    refine F.ok scSame (fun vs H Q E h => ?_) (fun cdv A outer s H vs Q E hr h => ?_)
    · obtain ⟨x, y, d, rfl, _⟩ := h
      rfl
    · obtain ⟨x, y, d, rfl, hx, hy, hd, hw, q⟩ := h
      refine ⟨_, pss_cons (ps_if (pt_cmp (pc_isN (pv 1))) (pss_one (ps_ret (pe_cmp (pc_isN (pv 0))))) pss_nil)
        (pss_cons (ps_if (pt_val (pe_callB call_isi (by rfl) Z.isi (by decide +kernel) (pa_cons (pv 1) (pa_cons (pe_bltn (v := .ty "bool") (by rfl) Z.bool (by decide +kernel) rfl) pa_nil)))) (pss_one (ps_ret (pe_and (pe_callB call_isi (by rfl) Z.isi (by decide +kernel) (pa_cons (pv 0) (pa_cons (pe_bltn (v := .ty "bool") (by rfl) Z.bool (by decide +kernel) rfl) pa_nil))) (pe_one (pe_cmpR op_eq (pv 0) (pv 1) (nomark _)))))) pss_nil)
        (pss_cons (ps_if (pt_val (pe_callB call_isi (by rfl) Z.isi (by decide +kernel) (pa_cons (pv 1) (pa_cons (pe_bltn (v := .ty "int") (by rfl) Z.int (by decide +kernel) rfl) pa_nil)))) (pss_one (ps_ret (pe_and (pe_callB call_isi (by rfl) Z.isi (by decide +kernel) (pa_cons (pv 0) (pa_cons (pe_bltn (v := .ty "int") (by rfl) Z.int (by decide +kernel) rfl) pa_nil))) (pe_and (pe_not (pe_callB call_isi (by rfl) Z.isi (by decide +kernel) (pa_cons (pv 0) (pa_cons (pe_bltn (v := .ty "bool") (by rfl) Z.bool (by decide +kernel) rfl) pa_nil)))) (pe_one (pe_cmpR op_eq (pv 0) (pv 1) (nomark _))))))) pss_nil)
        (pss_cons (ps_if (pt_val (pe_callB call_isi (by rfl) Z.isi (by decide +kernel) (pa_cons (pv 1) (pa_cons (pe_bltn (v := .ty "str") (by rfl) Z.str (by decide +kernel) rfl) pa_nil)))) (pss_one (ps_ret (pe_and (pe_callB call_isi (by rfl) Z.isi (by decide +kernel) (pa_cons (pv 0) (pa_cons (pe_bltn (v := .ty "str") (by rfl) Z.str (by decide +kernel) rfl) pa_nil))) (pe_one (pe_cmpR op_eq (pv 0) (pv 1) (nomark _)))))) pss_nil)
        (pss_cons (ps_if (pt_cmpR op_ne (pe_callB call_isi (by rfl) Z.isi (by decide +kernel) (pa_cons (pv 0) (pa_cons (pe_bltn (v := .ty "list") (by rfl) Z.list (by decide +kernel) rfl) pa_nil))) (pe_callB call_isi (by rfl) Z.isi (by decide +kernel) (pa_cons (pv 1) (pa_cons (pe_bltn (v := .ty "list") (by rfl) Z.list (by decide +kernel) rfl) pa_nil))) (nomark _)) (pss_one (ps_ret pe_bl)) pss_nil)
        (pss_cons (ps_if (PW.pt (pw_or (pt_cmpR op_ne (pe_callB call_isi (by rfl) Z.isi (by decide +kernel) (pa_cons (pv 0) (pa_cons (pe_bltn (v := .ty "tuple") (by rfl) Z.tuple (by decide +kernel) rfl) pa_nil))) (pe_callB call_isi (by rfl) Z.isi (by decide +kernel) (pa_cons (pv 1) (pa_cons (pe_bltn (v := .ty "tuple") (by rfl) Z.tuple (by decide +kernel) rfl) pa_nil))) (nomark _)) (pw_or1 (pt_cmpR op_ne (pe_callB call_len_seq (by rfl) Z.len PySem.boot_len (pa_cons (pv 0) pa_nil)) (pe_callB call_len_seq (by rfl) Z.len PySem.boot_len (pa_cons (pv 1) pa_nil)) (nomark _))))) (pss_one (ps_ret pe_bl)) pss_nil)
        (pss_one (ps_ret (pe_cmpR (op_eqD hr.units) (pe_lc (own := [("k", 2)]) (g := gName 2) rfl scSame.nd (pi_range1 rfl Z.rng (pa_cons (pe_callB call_len_seq (by rfl) Z.len PySem.boot_len (pa_cons (pv 1) pa_nil)) pa_nil)) (blkOk_by (own := [("k", 2)]) (N := ["found", "due", "k"]) (sc := defScope sLSame) (by decide +kernel))
            (fun _ _ _ _ _ => pg_name (i := 2) scSame.nd rfl (.inl rfl)) (fun _ _ _ _ _ => pts_one (pt_not (pt_val (pe_call G hr (by rfl) g F.kp b .nil pass0 (pa_cons (pe_ix (ix_any (K := K) rfl) (pv 0) (pv 2) (fun _ _ => rfl)) (pa_cons (pe_ix (ix_any (K := K) rfl) (pv 1) (pv 2) (fun _ _ => rfl)) pa_nil)))))) (fun _ _ _ _ _ => pv 2)) (pe_lst pa_nil) (nomark _))))))))), ?_⟩
      cases hx with
      | non =>
        cases hy
        refine ⟨_, rfl, _, rfl, iteT ⟨_, rfl, q _ (Same.refl H)⟩⟩
      | bl v =>
        cases hy
        refine ⟨_, rfl, _, rfl, iteF ⟨_, rfl, ⟨_, _, _, _, true, rfl, .ty _, (.base (.bl v)), kit_ty (by decide +kernel), ⟨_, rfl, iteT ?_⟩⟩⟩⟩
        refine ⟨_, rfl, ⟨_, _, _, _, true, rfl, .ty _, (.base (.bl v)), kit_ty (by decide +kernel), ⟨_, rfl, iteT ⟨_, rfl, _, rfl, rfl, ?_⟩⟩⟩⟩
        rw [decide_eq_true rfl]
        exact q _ (Same.refl H)
      | int i =>
        cases hy
        refine ⟨_, rfl, _, rfl, iteF ⟨_, rfl, ⟨_, _, _, _, false, rfl, .ty _, (.base (.int i)), kit_ty (by decide +kernel), ⟨_, rfl, iteF ?_⟩⟩⟩⟩
        refine ⟨_, rfl, ⟨_, _, _, _, true, rfl, .ty _, (.base (.int i)), kit_ty (by decide +kernel), ⟨_, rfl, iteT ?_⟩⟩⟩
        refine ⟨_, rfl, ⟨_, _, _, _, true, rfl, .ty _, (.base (.int i)), kit_ty (by decide +kernel), ⟨_, rfl, iteT ?_⟩⟩⟩
        refine ⟨_, rfl, ⟨_, _, _, _, false, rfl, .ty _, (.base (.int i)), kit_ty (by decide +kernel), ⟨_, rfl, _, rfl, iteT ⟨_, rfl, _, rfl, rfl, ?_⟩⟩⟩⟩
        rw [decide_eq_true rfl]
        exact q _ (Same.refl H)
      | str z =>
        cases hy
        refine ⟨_, rfl, _, rfl, iteF ⟨_, rfl, ⟨_, _, _, _, false, rfl, .ty _, (.base (.str z)), kit_ty (by decide +kernel), ⟨_, rfl, iteF ?_⟩⟩⟩⟩
        refine ⟨_, rfl, ⟨_, _, _, _, false, rfl, .ty _, (.base (.str z)), kit_ty (by decide +kernel), ⟨_, rfl, iteF ?_⟩⟩⟩
        refine ⟨_, rfl, ⟨_, _, _, _, true, rfl, .ty _, (.base (.str z)), kit_ty (by decide +kernel), ⟨_, rfl, iteT ?_⟩⟩⟩
        refine ⟨_, rfl, ⟨_, _, _, _, true, rfl, .ty _, (.base (.str z)), kit_ty (by decide +kernel), ⟨_, rfl, iteT ⟨_, rfl, _, rfl, rfl, ?_⟩⟩⟩⟩
        rw [decide_eq_true rfl]
        exact q _ (Same.refl H)
      | @lst a xs ds h1 h2 =>
        cases hy with
        | @lst a' xs' _ h1' h2' =>
          have hA : SqL K H a xs ∨ SqT K H a xs := .inl (.inl (.inl h1))
          have hA' : SqL K H a' xs' ∨ SqT K H a' xs' := .inl (.inl (.inl h1'))
          have hdep : PyData.depthAll ds < n := by simp only [PyData.depth] at hd; omega
          have hw1 : ds.length ≤ 5000 ∧ wdAll ds = true := by simpa only [wd, Bool.and_eq_true, decide_eq_true_eq] using hw
          refine ⟨_, rfl, _, rfl, iteF ⟨_, rfl, ⟨_, _, _, _, false, rfl, .ty _, (.base (.lst h1')), kit_ty (by decide +kernel), ⟨_, rfl, iteF ?_⟩⟩⟩⟩
          refine ⟨_, rfl, ⟨_, _, _, _, false, rfl, .ty _, (.base (.lst h1')), kit_ty (by decide +kernel), ⟨_, rfl, iteF ?_⟩⟩⟩
          refine ⟨_, rfl, ⟨_, _, _, _, false, rfl, .ty _, (.base (.lst h1')), kit_ty (by decide +kernel), ⟨_, rfl, iteF ?_⟩⟩⟩
          refine ⟨_, rfl, ⟨_, _, _, _, true, rfl, .ty _, (.base (.lst h1)), kit_ty (by decide +kernel), ⟨_, rfl, ⟨_, _, _, _, true, rfl, .ty _, (.base (.lst h1')), kit_ty (by decide +kernel), ⟨rfl, _, rfl, iteF ?_⟩⟩⟩⟩⟩
          refine ⟨_, rfl, ⟨_, _, _, _, false, rfl, .ty _, (.base (.lst h1)), kit_ty (by decide +kernel), ⟨_, rfl, ⟨_, _, _, _, false, rfl, .ty _, (.base (.lst h1')), kit_ty (by decide +kernel), ⟨rfl, _, rfl, iteF ?_⟩⟩⟩⟩⟩
          refine ⟨_, rfl, a, xs, rfl, hA, _, rfl, a', xs', rfl, hA', rfl, _, rfl, ?_⟩
          have hlen : xs.length = ds.length := DqAll.len h2
          have hlen' : xs'.length = ds.length := DqAll.len h2'
          rw [hlen, hlen', decide_eq_true rfl]
          refine iteF ⟨_, rfl, a', xs', rfl, hA', _, rfl, by omega, by omega, fun D nD => ?_⟩
          refine lc_it (walk_range (lo := 0) (n := ((xs'.length : Nat) : Int).toNat)) (fun i H' => Same H H' ∧ H' D = some (.lst [])) ⟨same_upd nD, upd_same⟩ (fun _ _ _ _ => trivial) ?_ ?_
          · rintro i u H1 H2 hi ⟨sm, hD⟩ ⟨rfl, rfl⟩
            have hi2 : i < ds.length := by omega
            obtain ⟨v, hv, dv⟩ := DqAll.get h2 (List.getElem?_eq_getElem hi2)
            obtain ⟨v', hv', dv'⟩ := DqAll.get h2' (List.getElem?_eq_getElem hi2)
            have hdm := depth_mem ds i _ (List.getElem?_eq_getElem hi2)
            refine ⟨rfl, _, rfl, _, rfl, ixA sm hA (Int.zero_add _) hv ⟨_, rfl, _, rfl, ixA sm hA' (Int.zero_add _) hv' ⟨v, v', _, rfl, dv.same sm, dv'.same sm, by omega, wd_get ds i _ hw1.2 (List.getElem?_eq_getElem hi2), fun H3 s3 => ⟨_, rfl, ?_⟩⟩⟩⟩
            exact ⟨sm.trans s3, s3 _ _ hD⟩
          · rintro H1 ⟨sm, hD⟩
            refine ⟨Nat.zero_le _, fun p np => ?_⟩
            have s2 := same_upd (o := .lst []) np
            exact ⟨.list [], .list [], .lst (.inl (.inl (s2 _ _ hD))) .nil, .lst (.inl (.inl upd_same)) .nil, by decide, by decide, q _ (sm.trans s2)⟩
      | @tup a xs ds h0 h1 h2 =>
        cases hy with
        | @tup a' xs' _ h0' h1' h2' =>
          have hA : SqL K H a xs ∨ SqT K H a xs := .inr h1
          have hA' : SqL K H a' xs' ∨ SqT K H a' xs' := .inr h1'
          have hdep : PyData.depthAll ds < n := by simp only [PyData.depth] at hd; omega
          have hw1 : ds.length ≤ 5000 ∧ wdAll ds = true := by simpa only [wd, Bool.and_eq_true, decide_eq_true_eq] using hw
          refine ⟨_, rfl, _, rfl, iteF ⟨_, rfl, ⟨_, _, _, _, false, rfl, .ty _, h0'.ty, kit_ty (by decide +kernel), ⟨_, rfl, iteF ?_⟩⟩⟩⟩
          refine ⟨_, rfl, ⟨_, _, _, _, false, rfl, .ty _, h0'.ty, kit_ty (by decide +kernel), ⟨_, rfl, iteF ?_⟩⟩⟩
          refine ⟨_, rfl, ⟨_, _, _, _, false, rfl, .ty _, h0'.ty, kit_ty (by decide +kernel), ⟨_, rfl, iteF ?_⟩⟩⟩
          refine ⟨_, rfl, ⟨_, _, _, _, false, rfl, .ty _, h0.ty, kit_ty (by decide +kernel), ⟨_, rfl, ⟨_, _, _, _, false, rfl, .ty _, h0'.ty, kit_ty (by decide +kernel), ⟨rfl, _, rfl, iteF ?_⟩⟩⟩⟩⟩
          refine ⟨_, rfl, ⟨_, _, _, _, true, rfl, .ty _, h0.ty, kit_ty (by decide +kernel), ⟨_, rfl, ⟨_, _, _, _, true, rfl, .ty _, h0'.ty, kit_ty (by decide +kernel), ⟨rfl, _, rfl, iteF ?_⟩⟩⟩⟩⟩
          refine ⟨_, rfl, a, xs, rfl, hA, _, rfl, a', xs', rfl, hA', rfl, _, rfl, ?_⟩
          have hlen : xs.length = ds.length := DqAll.len h2
          have hlen' : xs'.length = ds.length := DqAll.len h2'
          rw [hlen, hlen', decide_eq_true rfl]
          refine iteF ⟨_, rfl, a', xs', rfl, hA', _, rfl, by omega, by omega, fun D nD => ?_⟩
          refine lc_it (walk_range (lo := 0) (n := ((xs'.length : Nat) : Int).toNat)) (fun i H' => Same H H' ∧ H' D = some (.lst [])) ⟨same_upd nD, upd_same⟩ (fun _ _ _ _ => trivial) ?_ ?_
          · rintro i u H1 H2 hi ⟨sm, hD⟩ ⟨rfl, rfl⟩
            have hi2 : i < ds.length := by omega
            obtain ⟨v, hv, dv⟩ := DqAll.get h2 (List.getElem?_eq_getElem hi2)
            obtain ⟨v', hv', dv'⟩ := DqAll.get h2' (List.getElem?_eq_getElem hi2)
            have hdm := depth_mem ds i _ (List.getElem?_eq_getElem hi2)
            refine ⟨rfl, _, rfl, _, rfl, ixA sm hA (Int.zero_add _) hv ⟨_, rfl, _, rfl, ixA sm hA' (Int.zero_add _) hv' ⟨v, v', _, rfl, dv.same sm, dv'.same sm, by omega, wd_get ds i _ hw1.2 (List.getElem?_eq_getElem hi2), fun H3 s3 => ⟨_, rfl, ?_⟩⟩⟩⟩
            exact ⟨sm.trans s3, s3 _ _ hD⟩
          · rintro H1 ⟨sm, hD⟩
            refine ⟨Nat.zero_le _, fun p np => ?_⟩
            have s2 := same_upd (o := .lst []) np
            exact ⟨.list [], .list [], .lst (.inl (.inl (s2 _ _ hD))) .nil, .lst (.inl (.inl upd_same)) .nil, by decide, by decide, q _ (sm.trans s2)⟩
end
end Lw
namespace Lw
open PySem PySem.Spec L2 Lx
abbrev nDrawn : List Str := ["source", "far", "top", "numbers", "factor", "time", "one", "some", "spot"]
theorem scDrawn : FnScope nDrawn ["source", "far", "top"] (defScope sLDrawn) := ⟨rfl, rfl, rfl, by decide +kernel, rfl, by decide +kernel, by decide +kernel⟩
def FB (far top : Int) : Fm → Prop
  | .keep b a => b < far ∧ a < far
  | .lf b a k c => b < far ∧ a < far ∧ k ≤ top ∧ c < far
  | .cr b a k => b < far ∧ a < far ∧ k ≤ top
def spDrawn : Sp := fun vs H Q _ => ∃ (r dl : Addr) (n : Nat) (far top : Int), vs = [.ref r, .int far, .int top] ∧ SrcAt H r dl n ∧ n < 900000000 ∧ 4 ≤ far ∧ far < 2 ^ 97 ∧ 1 ≤ top ∧ top ≤ 1000000000 ∧
  ∀ (p : Addr) (f : Fm) (H' : Hp), H p = none → H' p = some (.tup f.vs) → f.Ok 100 → FB far top f → SrcAt H' r dl (n + 23) → Kp r dl H H' → Q (.ref p) H'
theorem Kp.lst {r dl : Addr} {H H' : Hp} {n : Nat} {D : Addr} {o : HO} (k : Kp r dl H H') (s : SrcAt H r dl n) (h : H D = some o) (ne : D ≠ r ∧ D ≠ dl) : H' D = some o := k _ _ ne.1 ne.2 h
theorem SrcAt.ne {H : Hp} {r dl p : Addr} {n : Nat} (s : SrcAt H r dl n) (h : H p = none) : p ≠ r ∧ p ≠ dl := by
  obtain ⟨_, _, _, _, q1, q2, _⟩ := s
  exact ⟨Ne.symm (ne_of_none q1 h), Ne.symm (ne_of_none q2 h)⟩
theorem Kp.own {r dl p : Addr} {H H' : Hp} {o : HO} (k : Kp r dl H H') (h : H p = none) : Kp r dl H (upd H' p o) := fun b u h1 h2 e => by
  rw [upd_ne (ne_of_none e h)]
  exact k b u h1 h2 e
theorem SrcAt.own {H : Hp} {r dl p : Addr} {n : Nat} {o : HO} (s : SrcAt H r dl n) (ne : p ≠ r ∧ p ≠ dl) : SrcAt (upd H p o) r dl n := by
  obtain ⟨ds, st, mx, ct, h1, h2, h3⟩ := s
  exact ⟨ds, st, mx, ct, by rw [upd_ne (Ne.symm ne.1)]; exact h1, by rw [upd_ne (Ne.symm ne.2)]; exact h2, h3⟩
section
variable {P : Program} {w : World} {K : PySem.W.Frag} {mg : Str → Option Value} {base : Heap}
theorem ok_drawn {f fD : Addr} {fd fdD : FuncData} {k : Nat} (F : Fun K "_law_drawn" "_law_drawn" sLDrawn f fd) (mR : mg "range" = none)
    (GD : FnOk P w K mg base CX0 k fD fdD ["source", "many"] spDraw) (kD : PySem.W.keepIn K (.ref fD) = true) (bD : Binds K fdD ["source", "many"] []) (gD : mg "_law_draw" = some (.ref fD)) :
    FnOk P w K mg base CX0 (k + 1) f fd ["source", "far", "top"] spDrawn := by
  refine F.ok scDrawn (fun vs H Q E h => ?_) (fun cdv A outer s H vs Q E hr h => ?_)
  · obtain ⟨r, dl, n, far, top, rfl, _⟩ := h
    rfl
  · obtain ⟨r, dl, n, far, top, rfl, hS, hn, hf0, hf1, ht0, ht1, q⟩ := h
    refine ⟨_, pss_cons (ps_setLc (i := 3) (own := [("spot", 8)]) (g := gName 8) (tt := tYes) rfl scDrawn.nd rfl rfl (sw_true rfl rfl rfl (by decide +kernel)) (pi_range1 rfl mR (pa_cons pe_int pa_nil)) (blkOk_by (own := [("spot", 8)]) (N := nDrawn) (sc := defScope sLDrawn) (by decide +kernel))
          (fun _ _ _ _ _ => pg_name (i := 8) scDrawn.nd rfl (.inl rfl)) (fun _ _ _ _ _ => pts_nil)
          (fun _ _ _ _ _ => pe_ix (ix_l (K := K) rfl) (pe_lst (pa_cons (pe_call GD hr (by rfl) gD kD bD .nil pass0 (pa_cons (pv 0) (pa_cons pe_int pa_nil))) (pa_cons (pe_call GD hr (by rfl) gD kD bD .nil pass0 (pa_cons (pv 0) (pa_cons (pv 1) pa_nil))) pa_nil))) (pe_call GD hr (by rfl) gD kD bD .nil pass0 (pa_cons (pv 0) (pa_cons pe_int pa_nil))) (fun _ _ => rfl)))
      (pss_cons (ps_set (i := 4) scDrawn.nd rfl (.inl rfl) pe_int)
      (pss_cons (ps_for PassesOwn.never rfl (pi_range1 rfl mR (pa_cons (pe_ix ix_list (pe_lst (pa_cons pe_int (pa_cons pe_int (pa_cons pe_int (pa_cons pe_int pa_nil))))) (pe_call GD hr (by rfl) gD kD bD .nil pass0 (pa_cons (pv 0) (pa_cons pe_int pa_nil))) (fun _ _ => rfl)) pa_nil)) (pg_name (i := 5) scDrawn.nd rfl (.inl rfl))
        (pss_cons (ps_set (i := 6) scDrawn.nd rfl (.inl rfl) (pe_ix ix_list (pe_lst (pa_cons pe_int (pa_cons pe_int (pa_cons pe_int (pa_cons pe_int (pa_cons pe_int (pa_cons pe_int (pa_cons pe_int (pa_cons pe_int pa_nil))))))))) (pe_call GD hr (by rfl) gD kD bD .nil pass0 (pa_cons (pv 0) (pa_cons pe_int pa_nil))) (fun _ _ => rfl)))
        (pss_one (ps_set (i := 4) scDrawn.nd rfl (.inl rfl) (pe_ifExp (pt_cmpR op_le (pe_op op_mul (pv 4) (pv 6)) (pv 2) (nomark _)) (pe_op op_mul (pv 4) (pv 6)) (pv 4))))))
      (pss_cons (ps_set (i := 7) scDrawn.nd rfl (.inl rfl) (pe_lst (pa_cons (pe_tup (pa_cons pe_str (pa_cons (pe_ix ix_list (pv 3) pe_int (fun _ _ => rfl)) (pa_cons (pe_ix ix_list (pv 3) pe_int (fun _ _ => rfl)) pa_nil)))) (pa_cons (pe_tup (pa_cons pe_str (pa_cons (pe_ix ix_list (pv 3) pe_int (fun _ _ => rfl)) (pa_cons (pe_ix ix_list (pv 3) pe_int (fun _ _ => rfl)) (pa_cons (pv 4) pa_nil))))) pa_nil))))
      (pss_one (ps_ret (pe_ix ix_list (pe_op op_cat (pv 7) (pe_lst (pa_cons (pe_tup (pa_cons pe_str (pa_cons (pe_ix ix_list (pv 3) pe_int (fun _ _ => rfl)) (pa_cons (pe_ix ix_list (pv 3) pe_int (fun _ _ => rfl)) (pa_cons (pv 4) (pa_cons (pe_ix ix_list (pv 3) pe_int (fun _ _ => rfl)) pa_nil)))))) pa_nil))) (pe_call GD hr (by rfl) gD kD bD .nil pass0 (pa_cons (pv 0) (pa_cons pe_int pa_nil))) (fun _ _ => rfl))))))), ?_⟩
    refine ⟨3, rfl, by decide, by decide, fun D nD => ?_⟩
    refine lc_it (walk_range (lo := 0) (n := 3)) (fun i H' => ∃ ns : List Int, H' D = some (.lst (ns.map V.int)) ∧ ns.length = i ∧ (∀ x ∈ ns, 0 ≤ x ∧ x < far) ∧ SrcAt H' r dl (n + 3 * i) ∧ Kp r dl H H') ⟨[], upd_same, rfl, (fun x hx => by cases hx), hS.own (hS.ne nD), (Kp.refl r dl H).own nD⟩ (fun _ _ _ _ => trivial) ?_ ?_
    · rintro i u H1 H2 hi ⟨ns, hD, hl, hns, hS1, hk1⟩ ⟨rfl, rfl⟩
      have hDn := hS.ne nD
      refine ⟨rfl, _, rfl, r, dl, _, 4, rfl, hS1, by omega, by decide, by decide, fun a H3 a0 a1 hS3 k3 => ⟨_, rfl, _, rfl, r, dl, _, far, rfl, hS3, by omega, by omega, far_sm hf0 hf1, fun b H4 b0 b1 hS4 k4 => ⟨by show 2 ≤ sizeLine; decide, fun L nL => ?_⟩⟩⟩
      have s5 := same_upd (o := .lst [.int a, .int b]) nL
      refine ⟨_, rfl, r, dl, _, 2, rfl, hS4.same s5, by omega, by decide, by decide, fun c H6 c0 c1 hS6 k6 => ?_⟩
      have hL6 : H6 L = some (.lst [.int a, .int b]) := k6 _ _ (hS4.ne nL).1 (hS4.ne nL).2 upd_same
      have hkk := ((k3.trans k4).trans (Kp.of s5)).trans k6
      have hD6 := hkk _ _ hDn.1 hDn.2 hD
      have pick : ∃ x : Int, atI [V.int a, .int b] c = some (.int x) ∧ 0 ≤ x ∧ x < far := by
        have : c = 0 ∨ c = 1 := by omega
        rcases this with rfl | rfl
        · exact ⟨a, rfl, a0, by omega⟩
        · exact ⟨b, rfl, b0, b1⟩
      obtain ⟨x, hx, x0, x1⟩ := pick
      refine ⟨L, _, c, _, rfl, rfl, .inl (.inl hL6), hx, _, hD6, by rw [List.length_map, sizeLine_eq]; omega, ns ++ [x], by rw [upd_same, List.map_append]; rfl, by rw [List.length_append, hl]; rfl, fun y hy => ?_, (hS6.mono (by omega)).own hDn, (hk1.trans hkk).own nD⟩
      rcases List.mem_append.mp hy with h | h
      · exact hns y h
      · rw [List.mem_singleton.mp h]
        exact ⟨x0, x1⟩
    · rintro H1 ⟨ns, hD, hl, hns, hS1, hk1⟩
      have hDn := hS.ne nD
      obtain ⟨x0, x1, x2, rfl⟩ : ∃ x0 x1 x2, ns = [x0, x1, x2] := by
        match ns, hl with
        | [a, b, c], _ => exact ⟨a, b, c, rfl⟩
      have e0 := hns x0 (by simp)
      have e1 := hns x1 (by simp)
      have e2 := hns x2 (by simp)
      replace hD : H1 D = some (.lst [.int x0, .int x1, .int x2]) := hD
      refine ⟨by show 4 ≤ sizeLine; decide, fun L nL => ?_⟩
      have s2 := same_upd (o := .lst [.int 0, .int 1, .int 3, .int 12]) nL
      refine ⟨_, rfl, r, dl, _, 4, rfl, hS1.same s2, by omega, by decide, by decide, fun c H2 c0 c1 hS2 k2 => ?_⟩
      have hL2 : H2 L = some (.lst [.int 0, .int 1, .int 3, .int 12]) := k2 _ _ (hS1.ne nL).1 (hS1.ne nL).2 upd_same
      have hk2 := (hk1.trans (Kp.of s2)).trans k2
      have hD2 := ((Kp.of s2).trans k2) _ _ hDn.1 hDn.2 hD
      have pick : ∃ t : Int, atI [V.int 0, .int 1, .int 3, .int 12] c = some (.int t) ∧ 0 ≤ t ∧ t ≤ 12 := by
        have : c = 0 ∨ c = 1 ∨ c = 2 ∨ c = 3 := by omega
        rcases this with rfl | rfl | rfl | rfl <;> exact ⟨_, rfl, by decide, by decide⟩
      obtain ⟨t, ht, t0, t1⟩ := pick
      refine ⟨L, _, c, _, rfl, rfl, .inl (.inl hL2), ht, t, rfl, by omega, by omega, ?_⟩
      refine for_range (lo := 0) (n := t.toNat) (fun i σ H' => ∃ (fac : Int) (y5 y6 : Option V), σ = [some (.ref r), some (.int far), some (.int top), some (.ref D), some (.int fac), y5, y6, none, none] ∧ 1 ≤ fac ∧ fac ≤ top ∧ SrcAt H' r dl (n + 10 + i) ∧ Kp r dl H H' ∧ H' D = some (.lst [.int x0, .int x1, .int x2])) ⟨1, none, none, rfl, by decide, ht0, hS2.mono (by omega), hk2, hD2⟩ ?_ ?_
      · rintro i σ H3 hi ⟨fac, y5, y6, rfl, f0, f1, hS3, hk3, hD3⟩
        refine ⟨by show 8 ≤ sizeLine; decide, fun M nM => ?_⟩
        have s4 := same_upd (o := .lst [.int 2, .int 2, .int 3, .int 5, .int 7, .int 11, .int 31, .int 997]) nM
        refine ⟨_, rfl, r, dl, _, 8, rfl, hS3.same s4, by omega, by decide, by decide, fun d H5 d0 d1 hS5 k5 => ?_⟩
        have hM5 : H5 M = some (.lst [.int 2, .int 2, .int 3, .int 5, .int 7, .int 11, .int 31, .int 997]) := k5 _ _ (hS3.ne nM).1 (hS3.ne nM).2 upd_same
        have pick : ∃ y : Int, atI [V.int 2, .int 2, .int 3, .int 5, .int 7, .int 11, .int 31, .int 997] d = some (.int y) ∧ 1 ≤ y ∧ y ≤ 997 := by
          have : d = 0 ∨ d = 1 ∨ d = 2 ∨ d = 3 ∨ d = 4 ∨ d = 5 ∨ d = 6 ∨ d = 7 := by omega
          rcases this with rfl | rfl | rfl | rfl | rfl | rfl | rfl | rfl <;> exact ⟨_, rfl, by decide, by decide⟩
        obtain ⟨y, hy, y0, y1⟩ := pick
        have hk5 := (hk3.trans (Kp.of s4)).trans k5
        have hD5 := ((Kp.of s4).trans k5) _ _ hDn.1 hDn.2 hD3
        have hm : 1 ≤ fac * y := by
          have := Int.mul_le_mul f0 y0 (by decide) (by omega)
          omega
        refine ⟨M, _, d, _, rfl, rfl, .inl (.inl hM5), hy, ?_⟩
        refine ⟨_, rfl, _, rfl, _, _, rfl, rfl, .inl ⟨by omega, by omega⟩, _, rfl, _, _, rfl, rfl, _, rfl, ite2 (fun cc => ?_) (fun cc => ?_)⟩
        · refine ⟨_, rfl, _, rfl, _, _, rfl, rfl, .inl ⟨by omega, by omega⟩, fac * y, _, _, rfl, hm, ?_, hS5.mono (by omega), hk5, hD5⟩
          have := of_decide_eq_true cc
          omega
        · exact ⟨_, rfl, fac, _, _, rfl, f0, f1, hS5.mono (by omega), hk5, hD5⟩
      · rintro σ H3 ⟨fac, y5, y6, rfl, f0, f1, hS3, hk3, hD3⟩
        have bnd : ∀ x : Int, 0 ≤ x → x < far → Sm 100 x := fun x h0 h1 => by
          have : x.natAbs < 2 ^ 97 := by omega
          exact Nat.lt_of_lt_of_le this (Nat.pow_le_pow_right (by decide) (by decide))
        have fsm : Sm 100 fac := by
          have : fac.natAbs < 2 ^ 30 := by
            have : (2 : Nat) ^ 30 = 1073741824 := by decide
            omega
          exact Nat.lt_of_lt_of_le this (Nat.pow_le_pow_right (by decide) (by decide))
        refine ⟨_, rfl, D, _, 0, _, rfl, rfl, .inl (.inl hD3), atI_nat (j := 0) rfl, _, rfl, D, _, 1, _, rfl, rfl, .inl (.inl hD3), atI_nat (j := 1) rfl, by show 3 ≤ sizeLine; decide, fun t1 nt1 => ?_⟩
        have s1 := same_upd (o := .tup (Fm.keep x0 x1).vs) nt1
        refine ⟨_, rfl, D, _, 0, _, rfl, rfl, .inl (.inl (s1 _ _ hD3)), atI_nat (j := 0) rfl, _, rfl, D, _, 1, _, rfl, rfl, .inl (.inl (s1 _ _ hD3)), atI_nat (j := 1) rfl, _, rfl, by show 4 ≤ sizeLine; decide, fun t2 nt2 => ?_⟩
        have s2 := same_upd (o := .tup (Fm.cr x0 x1 fac).vs) nt2
        refine ⟨by show 2 ≤ sizeLine; decide, fun l1 nl1 => ?_⟩
        have s3 := same_upd (o := .lst [.ref t1, .ref t2]) nl1
        refine ⟨_, rfl, _, rfl, D, _, 0, _, rfl, rfl, .inl (.inl (s3 _ _ (s2 _ _ (s1 _ _ hD3)))), atI_nat (j := 0) rfl, _, rfl, D, _, 1, _, rfl, rfl, .inl (.inl (s3 _ _ (s2 _ _ (s1 _ _ hD3)))), atI_nat (j := 1) rfl, _, rfl, _, rfl, D, _, 2, _, rfl, rfl, .inl (.inl (s3 _ _ (s2 _ _ (s1 _ _ hD3)))), atI_nat (j := 2) rfl, by show 5 ≤ sizeLine; decide, fun t3 nt3 => ?_⟩
        have s4 := same_upd (o := .tup (Fm.lf x0 x1 fac x2).vs) nt3
        refine ⟨by show 1 ≤ sizeLine; decide, fun l2 nl2 => ?_⟩
        have s5 := same_upd (o := .lst [.ref t3]) nl2
        refine ⟨l1, l2, _, _, rfl, rfl, s5 _ _ (s4 _ _ upd_same), upd_same, by show 3 ≤ sizeLine; decide, fun l3 nl3 => ?_⟩
        have s6 := same_upd (o := .lst [.ref t1, .ref t2, .ref t3]) nl3
        have sA := ((((s1.trans s2).trans s3).trans s4).trans s5).trans s6
        refine ⟨_, rfl, r, dl, _, 3, rfl, hS3.same sA, by omega, by decide, by decide, fun c H4 c0 c1 hS4 k4 => ?_⟩
        have hS6 := hS3.same ((((s1.trans s2).trans s3).trans s4).trans s5)
        have hl3 := k4 _ _ (hS6.ne nl3).1 (hS6.ne nl3).2 (upd_same (o := .lst [.ref t1, .ref t2, .ref t3]))
        have ht1 := k4 t1 (.tup (Fm.keep x0 x1).vs) (hS3.ne nt1).1 (hS3.ne nt1).2 (s6 _ _ (s5 _ _ (s4 _ _ (s3 _ _ (s2 _ _ upd_same)))))
        have ht2 := k4 t2 (.tup (Fm.cr x0 x1 fac).vs) ((hS3.same s1).ne nt2).1 ((hS3.same s1).ne nt2).2 (s6 _ _ (s5 _ _ (s4 _ _ (s3 _ _ upd_same))))
        have ht3 := k4 t3 (.tup (Fm.lf x0 x1 fac x2).vs) ((hS3.same ((s1.trans s2).trans s3)).ne nt3).1 ((hS3.same ((s1.trans s2).trans s3)).ne nt3).2 (s6 _ _ (s5 _ _ upd_same))
        have kA := hk3.trans ((Kp.of sA).trans k4)
        have : c = 0 ∨ c = 1 ∨ c = 2 := by omega
        rcases this with rfl | rfl | rfl
        · exact ⟨l3, _, 0, .ref t1, rfl, rfl, .inl (.inl hl3), rfl, q t1 (.keep x0 x1) H4 (hk3.free hS3 nt1) ht1 ⟨e0.1, e1.1, bnd _ e0.1 e0.2, bnd _ e1.1 e1.2⟩ ⟨e0.2, e1.2⟩ (hS4.mono (by omega)) kA⟩
        · exact ⟨l3, _, 1, .ref t2, rfl, rfl, .inl (.inl hl3), rfl, q t2 (.cr x0 x1 fac) H4 ((hk3.trans (Kp.of s1)).free (hS3.same s1) nt2) ht2 ⟨e0.1, e1.1, by omega, bnd _ e0.1 e0.2, bnd _ e1.1 e1.2, fsm⟩ ⟨e0.2, e1.2, f1⟩ (hS4.mono (by omega)) kA⟩
        · exact ⟨l3, _, 2, .ref t3, rfl, rfl, .inl (.inl hl3), rfl, q t3 (.lf x0 x1 fac x2) H4 ((hk3.trans (Kp.of ((s1.trans s2).trans s3))).free (hS3.same ((s1.trans s2).trans s3)) nt3) ht3 ⟨e0.1, e1.1, by omega, e2.1, bnd _ e0.1 e0.2, bnd _ e1.1 e1.2, fsm, bnd _ e2.1 e2.2⟩ ⟨e0.2, e1.2, f1, e2.2⟩ (hS4.mono (by omega)) kA⟩
end
end Lw
namespace Lw
open PySem PySem.Spec L2 Lx
theorem scLPr : FnScope ["source", "far", "one", "other", "way", "factor"] ["source"] (defScope sLPair) := ⟨rfl, rfl, rfl, by decide +kernel, rfl, by decide +kernel, by decide +kernel⟩
structure PrF (mg : Str → Option Value) : Prop where
  max : mg "max" = none
theorem FmAt.kp {K : PySem.W.Frag} {H H' : Hp} {r dl : Addr} {n : Nat} {x : V} {f : Fm} (s : SrcAt H r dl n) (k : Kp r dl H H') : FmAt K H x f → FmAt K H' x f := fun ⟨p, e, h⟩ => by
  obtain ⟨ds, st, mx, ct, h1, h2, _⟩ := s
  refine ⟨p, e, ?_⟩
  rcases h with (h | ⟨o, h⟩) | h
  · exact .inl (.inl (k _ _ (ne_of h h1 (by intro z; cases z)) (ne_of h h2 (by intro z; cases z)) h))
  · exact .inl (.inr ⟨o, k _ _ (ne_of h h1 (by intro z; cases z)) (ne_of h h2 (by intro z; cases z)) h⟩)
  · exact .inr h
def spLPr (K : PySem.W.Frag) : Sp := fun vs H Q _ => ∃ (r dl : Addr) (n : Nat), vs = [.ref r] ∧ SrcAt H r dl n ∧ n < 800000000 ∧ ∀ (t : Addr) (u v : V) (f g : Fm) H', H' t = some (.tup [u, v]) ∧ FmAt K H' u f ∧ FmAt K H' v g ∧ f.Ok 1000 ∧ g.Ok 1000 ∧ SrcAt H' r dl (n + 60) → Q (.ref t) H'
theorem pick_far {v : Int} (h0 : 0 ≤ v) (h1 : v < 4) : ∃ m : Int, atI [V.int 4, .int 60, .int 400, .int 1900] v = some (.int m) ∧ 4 ≤ m ∧ m ≤ 1900 := by
  have : v = 0 ∨ v = 1 ∨ v = 2 ∨ v = 3 := by omega
  rcases this with rfl | rfl | rfl | rfl
  · exact ⟨4, rfl, by decide, by decide⟩
  · exact ⟨60, rfl, by decide, by decide⟩
  · exact ⟨400, rfl, by decide, by decide⟩
  · exact ⟨1900, rfl, by decide, by decide⟩
theorem sm4 {x : Int} (h0 : 0 ≤ x) (h1 : x < 16) : Sm 4 x := by
  have : (2 : Nat) ^ 4 = 16 := by decide
  unfold Sm
  omega
section
variable {P : Program} {w : World} {K : PySem.W.Frag} {mg : Str → Option Value} {base : Heap}
theorem ok_lpr {f aD aR aJ : Addr} {fd dD dR dJ : FuncData} {k : Nat} (F : Fun K "_law_pair" "_law_pair" sLPair f fd) (Z : PrF mg)
    (cD : Cl P w K mg base k "_law_draw" ["source", "many"] spDraw aD dD)
    (cDr : Cl P w K mg base k "_law_drawn" ["source", "far", "top"] spDrawn aR dR)
    (cJ2 : Cl P w K mg base k "_law_joined" ["one", "other"] (spLJn K) aJ dJ) : FnOk P w K mg base CX0 (k + 1) f fd ["source"] (spLPr K) := by
  refine F.ok scLPr (fun vs H Q E h => ?_) (fun cdv A outer s H vs Q E hr h => ?_)
  · obtain ⟨r, dl, n, rfl, _⟩ := h
    rfl
  · obtain ⟨r, dl, n, rfl, hS, hn, q⟩ := h
    refine ⟨_, (pss_cons (ps_set (i := 1) scLPr.nd rfl (.inl rfl) (pe_ix ix_list (pe_lst (pa_cons pe_int (pa_cons pe_int (pa_cons pe_int (pa_cons pe_int pa_nil))))) (pe_call cD.G hr (by rfl) cD.g cD.kp cD.b .nil pass0 (pa_cons (pv 0) (pa_cons pe_int pa_nil))) (fun _ _ => rfl)))
      (pss_cons (ps_par (i := 2) (j := 3) rfl scLPr.nd rfl rfl (by decide) rfl rfl (pa_cons (pe_call cDr.G hr (by rfl) cDr.g cDr.kp cDr.b .nil pass0 (pa_cons (pv 0) (pa_cons (pv 1) (pa_cons pe_int pa_nil)))) (pa_cons (pe_call cDr.G hr (by rfl) cDr.g cDr.kp cDr.b .nil pass0 (pa_cons (pv 0) (pa_cons (pv 1) (pa_cons pe_int pa_nil)))) pa_nil)) rfl)
      (pss_cons (ps_set (i := 4) scLPr.nd rfl (.inl rfl) (pe_call cD.G hr (by rfl) cD.g cD.kp cD.b .nil pass0 (pa_cons (pv 0) (pa_cons pe_int pa_nil))))
      (pss_cons (ps_if (pt_cmpR op_lt (pv 4) pe_int (nomark _))
          (pss_one (ps_set (i := 3) scLPr.nd rfl (.inl rfl) (pe_call cJ2.G hr (by rfl) cJ2.g cJ2.kp cJ2.b .nil pass0 (pa_cons (pv 2) (pa_cons (pv 3) pa_nil))))) pss_nil)
      (pss_cons (ps_if (PW.pt (pw_and (pt_cmpR op_eq (pv 4) pe_int (nomark _)) (pw_and (pt_cmpR op_ne (pe_ix ix_tup (pv 2) pe_int (fun _ _ => rfl)) pe_str (nomark _)) (pw_and1 (pt_cmpR op_ne (pe_ix ix_tup (pv 3) pe_int (fun _ _ => rfl)) pe_str (nomark _))))))
          (pss_one (ps_set (i := 3) scLPr.nd rfl (.inl rfl) (pe_op op_catA (pe_tup (pa_cons (pe_ix ix_tup (pv 3) pe_int (fun _ _ => rfl)) (pa_cons (pe_ix ix_tup (pv 2) pe_int (fun _ _ => rfl)) (pa_cons (pe_ix ix_tup (pv 2) pe_int (fun _ _ => rfl)) (pa_cons (pe_op op_mulW (pe_ix ix_tup (pv 2) pe_int (fun _ _ => rfl)) (pe_ix ix_tup (pv 3) pe_int (fun _ _ => rfl))) pa_nil))))) (pe_slice sl_tup (pv 3) (po_some pe_int) po_none)))) pss_nil)
      (pss_cons (ps_if (PW.pt (pw_and (pt_cmpR op_gt (pv 4) pe_int (nomark _)) (pw_and1 (pt_cmpR op_eq (pe_ix ix_tup (pv 2) pe_int (fun _ _ => rfl)) pe_str (nomark _)))))
          (pss_cons (ps_set (i := 5) scLPr.nd rfl (.inl rfl) (pe_op op_mulW (pe_callB (call_max2 rfl) (by rfl) Z.max (by decide +kernel) (pa_cons pe_int (pa_cons (pe_op op_sub (pe_op op_add (pe_ix ix_tup (pv 2) pe_int (fun _ _ => rfl)) (pe_call cD.G hr (by rfl) cD.g cD.kp cD.b .nil pass0 (pa_cons (pv 0) (pa_cons pe_int pa_nil)))) pe_int) pa_nil))) (pe_op op_add pe_int (pe_call cD.G hr (by rfl) cD.g cD.kp cD.b .nil pass0 (pa_cons (pv 0) (pa_cons pe_int pa_nil))))))
          (pss_cons (ps_set (i := 3) scLPr.nd rfl (.inl rfl) (pe_tup (pa_cons pe_str (pa_cons (pe_ix ix_tup (pv 2) pe_int (fun _ _ => rfl)) (pa_cons (pe_ix ix_tup (pv 2) pe_int (fun _ _ => rfl)) (pa_cons (pe_op op_mulW (pe_ix ix_tup (pv 2) pe_int (fun _ _ => rfl)) (pv 5)) pa_nil))))))
          (pss_one (ps_if (pt_cmpR op_eq (pv 4) pe_int (nomark _))
              (pss_one (ps_set (i := 3) scLPr.nd rfl (.inl rfl) (pe_tup (pa_cons pe_str (pa_cons (pe_ix ix_tup (pv 2) pe_int (fun _ _ => rfl)) (pa_cons (pe_ix ix_tup (pv 2) pe_int (fun _ _ => rfl)) (pa_cons (pe_op op_mulW (pe_ix ix_tup (pv 2) pe_int (fun _ _ => rfl)) (pv 5)) (pa_cons (pe_call cD.G hr (by rfl) cD.g cD.kp cD.b .nil pass0 (pa_cons (pv 0) (pa_cons pe_int pa_nil))) pa_nil)))))))) pss_nil)))) pss_nil)
      (pss_one (ps_ret (pe_tup (pa_cons (pv 2) (pa_cons (pv 3) pa_nil))))))))))), ?_⟩
    have small : ∀ {x : Int}, 0 ≤ x → x < 1000 → x.natAbs < 2 ^ 4000 := fun {x} a b => Nat.lt_of_lt_of_le (show x.natAbs < 2 ^ 10 by
      have : (2 : Nat) ^ 10 = 1024 := by decide
      omega) (Nat.pow_le_pow_right (by decide) (by decide))
    refine ⟨by show 4 ≤ sizeLine; decide, fun L nL => ?_⟩
    have sL := same_upd (o := .lst [.int 4, .int 60, .int 400, .int 1900]) nL
    have hLn := hS.ne nL
    refine ⟨_, rfl, r, dl, n, 4, rfl, hS.same sL, by omega, by decide, by decide, fun v0 H1 v00 v01 hS1 k1 => ?_⟩
    obtain ⟨far, hfar, f0, f1⟩ := pick_far v00 v01
    refine ⟨L, _, v0, _, rfl, rfl, .inl (.inl (k1 _ _ hLn.1 hLn.2 upd_same)), hfar, ?_⟩
    dsimp only [gName, tNext, tSeq]
    have fb : far < 2 ^ 97 := by
      have : (2 : Int) ^ 97 = 158456325028528675187087900672 := by decide +kernel
      omega
    refine ⟨_, rfl, _, rfl, r, dl, _, far, 30000, rfl, hS1, by omega, f0, fb, by decide, by decide, fun p1 f H2 np1 hp1 of1 fb1 hS2 k2 => ?_⟩
    refine ⟨_, rfl, _, rfl, r, dl, _, far, 30000, rfl, hS2, by omega, f0, fb, by decide, by decide, fun p2 g H3 np2 hp2 of2 fb2 hS3 k3 => ?_⟩
    refine ⟨_, _, rfl, ?_⟩
    have hf3 : FmAt K H3 (.ref p1) f := FmAt.kp hS2 k3 ⟨p1, rfl, .inl (.inl hp1)⟩
    have hg3 : FmAt K H3 (.ref p2) g := ⟨p2, rfl, .inl (.inl hp2)⟩
    clear hp1 hp2 np1 np2 fb1 fb2 k2 k3 hS2 hS1 k1 hLn sL
    dsimp only [gName, tNext, tSeq]
    refine ⟨_, rfl, r, dl, _, 7, rfl, hS3, by omega, by decide, by decide, fun wy H4 w0 w1 hS4 k4 => ?_⟩
    have hf4 := FmAt.kp hS3 k4 hf3
    have hg4 := FmAt.kp hS3 k4 hg3
    replace hS4 := hS4.mono (show n + 1 + 23 + 23 + 1 ≤ n + 50 by omega)
    clear hf3 hg3 k4 hS3
    dsimp only [gName, tNext, tSeq]
    refine if_fin (fun σ H' => ∃ (v : V) (g' : Fm), σ = [some (.ref r), some (.int far), some (.ref p1), some v, some (.int wy), none] ∧ FmAt K H' (.ref p1) f ∧ FmAt K H' v g' ∧ g'.Ok 400 ∧ SrcAt H' r dl (n + 50)) (fun R hR => ?_) ?_
    · refine ⟨_, rfl, _, _, rfl, rfl, _, rfl, ite2 (fun c => ?_) (fun c => hR _ _ ⟨_, g, rfl, hf4, hg4, of2.mono (by decide), hS4⟩)⟩
      refine ⟨_, rfl, _, rfl, .ref p1, .ref p2, f, g, 100, rfl, hf4, hg4, of1, of2, by decide, fun v H5 s5 hv => hR _ _ ⟨v, _, rfl, hf4.same s5, hv, (both_ok (by decide) of1 of2).mono (by decide), hS4.same s5⟩⟩
    clear hf4 hg4 of2 hS4
    rintro σ H5 ⟨v, g, rfl, hf5, hg5, of2, hS5⟩
    obtain ⟨p3, rfl, hT3⟩ := hg5
    obtain ⟨_, e1, hT1⟩ := hf5
    cases e1
    dsimp only [gName, tNext, tSeq]
    refine if_fin (fun σ H' => ∃ (v : V) (g' : Fm), σ = [some (.ref r), some (.int far), some (.ref p1), some v, some (.int wy), none] ∧ SqT K H' p1 f.vs ∧ FmAt K H' v g' ∧ g'.Ok 1000 ∧ SrcAt H' r dl (n + 50)) (fun R hR => ?_) ?_
    · have no : R [some (.ref r), some (.int far), some (.ref p1), some (.ref p3), some (.int wy), none] H5 := hR _ _ ⟨_, g, rfl, hT1, ⟨p3, rfl, hT3⟩, of2.mono (by decide), hS5⟩
      refine ⟨_, rfl, rfl, _, rfl, ?_⟩
      by_cases h3 : wy = 3
      · rw [decide_eq_true (show V.int wy = V.int 3 by rw [h3])]
        refine iteT ⟨_, rfl, p1, _, 0, _, rfl, rfl, hT1, atI_nat (j := 0) f.vs0, rfl, _, rfl, ?_⟩
        cases f with
        | keep b a => exact iteF no
        | lf b a k c =>
          refine iteT ⟨_, rfl, p3, _, 0, _, rfl, rfl, hT3, atI_nat (j := 0) g.vs0, rfl, _, rfl, ?_⟩
          cases g with
          | keep b' a' => exact iteF no
          | lf b' a' k' c' =>
            refine iteT ?_
            refine ⟨_, rfl, p3, _, 0, .str "lf", rfl, rfl, hT3, atI_nat (j := 0) rfl, _, rfl, p1, _, 1, .int b, rfl, rfl, hT1, atI_nat (j := 1) rfl, _, rfl, p1, _, 2, .int a, rfl, rfl, hT1, atI_nat (j := 2) rfl, _, rfl, p1, _, 3, .int k, rfl, rfl, hT1, atI_nat (j := 3) rfl, _, rfl, p3, _, 3, .int k', rfl, rfl, hT3, atI_nat (j := 3) rfl, _, _, rfl, rfl, wide_mul (a := 100) (b := 400) of1.2.2.2.2.2.2.1 of2.2.2.2.2.2.2.1 (by decide) (by decide) (by decide), by show 4 ≤ sizeLine; decide, fun t nt => ?_⟩
            have s1 := same_upd (o := .tup [.str "lf", .int b, .int a, .int (k * k')]) nt
            have ht1 : upd H5 t (.tup [.str "lf", .int b, .int a, .int (k * k')]) t = some (.tup [.str "lf", .int b, .int a, .int (k * k')]) := upd_same
            revert s1 ht1
            generalize upd H5 t (.tup [.str "lf", .int b, .int a, .int (k * k')]) = H6
            intro s1 ht1
            refine ⟨_, rfl, 4, rfl, p3, _, rfl, sameT s1 hT3, fun z => absurd z.1 (show ¬ HT.sIx 5 0 (some 4) = 0 by decide), fun pc nc => ?_⟩
            have s2 := s1.trans (same_upd (o := .tup [.int c']) nc)
            have ht2 : SqT K (upd H6 pc (.tup [.int c'])) t [.str "lf", .int b, .int a, .int (k * k')] := .inl (.inl (by rw [upd_ne (ne_of_none ht1 nc)]; exact ht1))
            refine ⟨t, pc, _, [.int c'], rfl, rfl, ht2, .inl (.inl upd_same), by show 5 ≤ sizeLine; decide, (fun z => by cases z), fun _ z => ?_, fun _ z p6 n6 => ?_⟩
            · cases z
            · exact hR _ _ ⟨.ref p6, (.lf b a (k * k') c'), rfl, sameT (s2.trans (same_upd n6)) hT1, ⟨p6, rfl, .inl (.inl upd_same)⟩, ⟨of1.1, of1.2.1, Int.mul_pos of1.2.2.1 of2.2.2.1, of2.2.2.2.1, of1.2.2.2.2.1.mono (by decide), of1.2.2.2.2.2.1.mono (by decide), ((of1.2.2.2.2.2.2.1).mul of2.2.2.2.2.2.2.1).mono (by decide), (of2.2.2.2.2.2.2.2).mono (by decide)⟩, hS5.same (s2.trans (same_upd n6))⟩
          | cr b' a' k' =>
            refine iteT ?_
            refine ⟨_, rfl, p3, _, 0, .str "cr", rfl, rfl, hT3, atI_nat (j := 0) rfl, _, rfl, p1, _, 1, .int b, rfl, rfl, hT1, atI_nat (j := 1) rfl, _, rfl, p1, _, 2, .int a, rfl, rfl, hT1, atI_nat (j := 2) rfl, _, rfl, p1, _, 3, .int k, rfl, rfl, hT1, atI_nat (j := 3) rfl, _, rfl, p3, _, 3, .int k', rfl, rfl, hT3, atI_nat (j := 3) rfl, _, _, rfl, rfl, wide_mul (a := 100) (b := 400) of1.2.2.2.2.2.2.1 of2.2.2.2.2.2 (by decide) (by decide) (by decide), by show 4 ≤ sizeLine; decide, fun t nt => ?_⟩
            have s1 := same_upd (o := .tup [.str "cr", .int b, .int a, .int (k * k')]) nt
            have ht1 : upd H5 t (.tup [.str "cr", .int b, .int a, .int (k * k')]) t = some (.tup [.str "cr", .int b, .int a, .int (k * k')]) := upd_same
            revert s1 ht1
            generalize upd H5 t (.tup [.str "cr", .int b, .int a, .int (k * k')]) = H6
            intro s1 ht1
            refine ⟨_, rfl, 4, rfl, p3, _, rfl, sameT s1 hT3, fun z => absurd z.1 (show ¬ HT.sIx 4 0 (some 4) = 0 by decide), fun pc nc => ?_⟩
            have s2 := s1.trans (same_upd (o := .tup []) nc)
            have ht2 : SqT K (upd H6 pc (.tup [])) t [.str "cr", .int b, .int a, .int (k * k')] := .inl (.inl (by rw [upd_ne (ne_of_none ht1 nc)]; exact ht1))
            refine ⟨t, pc, _, [], rfl, rfl, ht2, .inl (.inl upd_same), by show 4 ≤ sizeLine; decide, (fun z => by cases z), fun _ z => ?_, fun _ z p6 n6 => ?_⟩
            · exact hR _ _ ⟨.ref t, (.cr b a (k * k')), rfl, sameT s2 hT1, ⟨t, rfl, ht2⟩, ⟨of1.1, of1.2.1, Int.mul_pos of1.2.2.1 of2.2.2.1, of1.2.2.2.2.1.mono (by decide), of1.2.2.2.2.2.1.mono (by decide), ((of1.2.2.2.2.2.2.1).mul of2.2.2.2.2.2).mono (by decide)⟩, hS5.same s2⟩
            · exact absurd rfl z
        | cr b a k =>
          refine iteT ⟨_, rfl, p3, _, 0, _, rfl, rfl, hT3, atI_nat (j := 0) g.vs0, rfl, _, rfl, ?_⟩
          cases g with
          | keep b' a' => exact iteF no
          | lf b' a' k' c' =>
            refine iteT ?_
            refine ⟨_, rfl, p3, _, 0, .str "lf", rfl, rfl, hT3, atI_nat (j := 0) rfl, _, rfl, p1, _, 1, .int b, rfl, rfl, hT1, atI_nat (j := 1) rfl, _, rfl, p1, _, 2, .int a, rfl, rfl, hT1, atI_nat (j := 2) rfl, _, rfl, p1, _, 3, .int k, rfl, rfl, hT1, atI_nat (j := 3) rfl, _, rfl, p3, _, 3, .int k', rfl, rfl, hT3, atI_nat (j := 3) rfl, _, _, rfl, rfl, wide_mul (a := 100) (b := 400) of1.2.2.2.2.2 of2.2.2.2.2.2.2.1 (by decide) (by decide) (by decide), by show 4 ≤ sizeLine; decide, fun t nt => ?_⟩
            have s1 := same_upd (o := .tup [.str "lf", .int b, .int a, .int (k * k')]) nt
            have ht1 : upd H5 t (.tup [.str "lf", .int b, .int a, .int (k * k')]) t = some (.tup [.str "lf", .int b, .int a, .int (k * k')]) := upd_same
            revert s1 ht1
            generalize upd H5 t (.tup [.str "lf", .int b, .int a, .int (k * k')]) = H6
            intro s1 ht1
            refine ⟨_, rfl, 4, rfl, p3, _, rfl, sameT s1 hT3, fun z => absurd z.1 (show ¬ HT.sIx 5 0 (some 4) = 0 by decide), fun pc nc => ?_⟩
            have s2 := s1.trans (same_upd (o := .tup [.int c']) nc)
            have ht2 : SqT K (upd H6 pc (.tup [.int c'])) t [.str "lf", .int b, .int a, .int (k * k')] := .inl (.inl (by rw [upd_ne (ne_of_none ht1 nc)]; exact ht1))
            refine ⟨t, pc, _, [.int c'], rfl, rfl, ht2, .inl (.inl upd_same), by show 5 ≤ sizeLine; decide, (fun z => by cases z), fun _ z => ?_, fun _ z p6 n6 => ?_⟩
            · cases z
            · exact hR _ _ ⟨.ref p6, (.lf b a (k * k') c'), rfl, sameT (s2.trans (same_upd n6)) hT1, ⟨p6, rfl, .inl (.inl upd_same)⟩, ⟨of1.1, of1.2.1, Int.mul_pos of1.2.2.1 of2.2.2.1, of2.2.2.2.1, of1.2.2.2.1.mono (by decide), of1.2.2.2.2.1.mono (by decide), ((of1.2.2.2.2.2).mul of2.2.2.2.2.2.2.1).mono (by decide), (of2.2.2.2.2.2.2.2).mono (by decide)⟩, hS5.same (s2.trans (same_upd n6))⟩
          | cr b' a' k' =>
            refine iteT ?_
            refine ⟨_, rfl, p3, _, 0, .str "cr", rfl, rfl, hT3, atI_nat (j := 0) rfl, _, rfl, p1, _, 1, .int b, rfl, rfl, hT1, atI_nat (j := 1) rfl, _, rfl, p1, _, 2, .int a, rfl, rfl, hT1, atI_nat (j := 2) rfl, _, rfl, p1, _, 3, .int k, rfl, rfl, hT1, atI_nat (j := 3) rfl, _, rfl, p3, _, 3, .int k', rfl, rfl, hT3, atI_nat (j := 3) rfl, _, _, rfl, rfl, wide_mul (a := 100) (b := 400) of1.2.2.2.2.2 of2.2.2.2.2.2 (by decide) (by decide) (by decide), by show 4 ≤ sizeLine; decide, fun t nt => ?_⟩
            have s1 := same_upd (o := .tup [.str "cr", .int b, .int a, .int (k * k')]) nt
            have ht1 : upd H5 t (.tup [.str "cr", .int b, .int a, .int (k * k')]) t = some (.tup [.str "cr", .int b, .int a, .int (k * k')]) := upd_same
            revert s1 ht1
            generalize upd H5 t (.tup [.str "cr", .int b, .int a, .int (k * k')]) = H6
            intro s1 ht1
            refine ⟨_, rfl, 4, rfl, p3, _, rfl, sameT s1 hT3, fun z => absurd z.1 (show ¬ HT.sIx 4 0 (some 4) = 0 by decide), fun pc nc => ?_⟩
            have s2 := s1.trans (same_upd (o := .tup []) nc)
            have ht2 : SqT K (upd H6 pc (.tup [])) t [.str "cr", .int b, .int a, .int (k * k')] := .inl (.inl (by rw [upd_ne (ne_of_none ht1 nc)]; exact ht1))
            refine ⟨t, pc, _, [], rfl, rfl, ht2, .inl (.inl upd_same), by show 4 ≤ sizeLine; decide, (fun z => by cases z), fun _ z => ?_, fun _ z p6 n6 => ?_⟩
            · exact hR _ _ ⟨.ref t, (.cr b a (k * k')), rfl, sameT s2 hT1, ⟨t, rfl, ht2⟩, ⟨of1.1, of1.2.1, Int.mul_pos of1.2.2.1 of2.2.2.1, of1.2.2.2.1.mono (by decide), of1.2.2.2.2.1.mono (by decide), ((of1.2.2.2.2.2).mul of2.2.2.2.2.2).mono (by decide)⟩, hS5.same s2⟩
            · exact absurd rfl z
      · rw [decide_eq_false (show ¬ V.int wy = V.int 3 from fun z => h3 (V.int.inj z))]
        exact iteF no
    clear hT3 of2 hT1 hS5
    rintro σ H6 ⟨v, g, rfl, hT1, hg6, of2, hS6⟩
    dsimp only [gName, tNext, tSeq]
    refine if_fin (fun σ H' => ∃ (v : V) (g' : Fm) (y5 : Option V), σ = [some (.ref r), some (.int far), some (.ref p1), some v, some (.int wy), y5] ∧ SqT K H' p1 f.vs ∧ FmAt K H' v g' ∧ g'.Ok 1000 ∧ SrcAt H' r dl (n + 60)) (fun R hR => ?_) ?_
    · have no : R [some (.ref r), some (.int far), some (.ref p1), some v, some (.int wy), none] H6 := hR _ _ ⟨v, g, none, rfl, hT1, hg6, of2, hS6.mono (by omega)⟩
      refine ⟨_, rfl, _, _, rfl, rfl, _, rfl, ite2 (fun c4 => ?_) (fun c4 => iteF no)⟩
      refine ⟨_, rfl, p1, _, 0, _, rfl, rfl, hT1, atI_nat (j := 0) f.vs0, rfl, _, rfl, ?_⟩
      cases f with
      | keep b a => exact iteF no
      | cr b a k => exact iteF no
      | lf b a k c =>
        obtain ⟨o1, o2, o3, o4, o5, o6, o7, o8⟩ := of1
        have fk : ∀ {H H' : Hp} {n : Nat}, SrcAt H r dl n → Kp r dl H H' → SqT K H p1 (Fm.lf b a k c).vs → SqT K H' p1 (Fm.lf b a k c).vs := fun {H H' n} s k h => by
          obtain ⟨_, e, h'⟩ := FmAt.kp s k ⟨p1, rfl, h⟩
          cases e
          exact h'
        refine iteT ⟨_, rfl, p1, _, 4, .int c, rfl, rfl, hT1, atI_nat (j := 4) rfl, _, rfl, r, dl, _, 4, rfl, hS6, by omega, by decide, by decide, fun v4 H7 v40 v41 hS7 k7 => ?_⟩
        have hT7 := fk hS6 k7 hT1
        refine ⟨_, _, rfl, rfl, _, _, rfl, rfl, _, _, rfl, _, rfl, r, dl, _, 12, rfl, hS7, by omega, by decide, by decide, fun v12 H8 w120 w121 hS8 k8 => ?_⟩
        have hT8 := fk hS7 k8 hT7
        have hm : 0 < (if c + v4 - 1 > 1 then c + v4 - 1 else 1) ∧ Sm 103 (if c + v4 - 1 > 1 then c + v4 - 1 else 1) := by
          have p103 : (2 : Nat) ^ 103 = 2 ^ 100 * 8 := Nat.pow_add 2 100 3
          have p1 : 1 ≤ 2 ^ 100 := Nat.one_le_two_pow
          unfold Sm at o8 ⊢
          rw [p103]
          generalize 2 ^ 100 = M at o8 p1
          split <;> omega
        generalize (if c + v4 - 1 > 1 then c + v4 - 1 else 1) = mm at hm
        have hx : 0 < 1 + v12 ∧ Sm 4 (1 + v12) := ⟨by omega, sm4 (by omega) (by omega)⟩
        refine ⟨_, _, rfl, rfl, _, _, rfl, rfl, wide_mul (a := 103) (b := 4) hm.2 hx.2 (by decide) (by decide) (by decide), ?_⟩
        have hF0 : 0 < mm * (1 + v12) := Int.mul_pos hm.1 hx.1
        have hFs : Sm 107 (mm * (1 + v12)) := hm.2.mul hx.2
        show tSeq _ _ _ [some (V.ref r), some (V.int far), some (V.ref p1), some v, some (V.int wy), some (V.int (mm * (1 + v12)))] H8
        generalize mm * (1 + v12) = fac at hF0 hFs
        have hkf : Sm 207 (k * fac) := o7.mul hFs
        have hkf0 : 0 < k * fac := Int.mul_pos o3 hF0
        refine ⟨_, rfl, p1, _, 1, .int b, rfl, rfl, hT8, atI_nat (j := 1) rfl, _, rfl, p1, _, 2, .int a, rfl, rfl, hT8, atI_nat (j := 2) rfl, _, rfl, p1, _, 3, .int k, rfl, rfl, hT8, atI_nat (j := 3) rfl, _, rfl, _, _, rfl, rfl, wide_mul (a := 100) (b := 107) o7 hFs (by decide) (by decide) (by decide), by show 4 ≤ sizeLine; decide, fun t nt => ?_⟩
        have s9 := same_upd (o := .tup [.str "cr", .int b, .int a, .int (k * fac)]) nt
        have ht9 : upd H8 t (.tup [.str "cr", .int b, .int a, .int (k * fac)]) t = some (.tup [.str "cr", .int b, .int a, .int (k * fac)]) := upd_same
        have hT9 := sameT s9 hT8
        have hS9 := hS8.same s9
        revert ht9 hT9 hS9
        generalize upd H8 t (.tup [.str "cr", .int b, .int a, .int (k * fac)]) = H9
        intro ht9 hT9 hS9
        dsimp only [gName, tNext, tSeq]
        refine ⟨_, rfl, rfl, _, rfl, ite2 (fun c6 => ?_) (fun c6 => hR _ _ ⟨.ref t, .cr b a (k * fac), _, rfl, hT9, ⟨t, rfl, .inl (.inl ht9)⟩, ⟨o1, o2, hkf0, o5.mono (by decide), o6.mono (by decide), hkf.mono (by decide)⟩, hS9.mono (by omega)⟩)⟩
        refine ⟨_, rfl, p1, _, 1, .int b, rfl, rfl, hT9, atI_nat (j := 1) rfl, _, rfl, p1, _, 2, .int a, rfl, rfl, hT9, atI_nat (j := 2) rfl, _, rfl, p1, _, 3, .int k, rfl, rfl, hT9, atI_nat (j := 3) rfl, _, rfl, _, _, rfl, rfl, wide_mul (a := 100) (b := 107) o7 hFs (by decide) (by decide) (by decide), _, rfl, r, dl, _, 9, rfl, hS9, by omega, by decide, by decide, fun v9 H10 v90 v91 hS10 k10 => ?_⟩
        have hT10 := fk hS9 k10 hT9
        refine ⟨by show 5 ≤ sizeLine; decide, fun t2 nt2 => hR _ _ ⟨.ref t2, .lf b a (k * fac) v9, _, rfl, sameT (same_upd nt2) hT10, ⟨t2, rfl, .inl (.inl upd_same)⟩, ⟨o1, o2, hkf0, v90, o5.mono (by decide), o6.mono (by decide), hkf.mono (by decide), ?_⟩, (hS10.same (same_upd nt2)).mono (by omega)⟩⟩
        exact (sm4 (by omega) (by omega)).mono (by decide)
    · rintro σ H7 ⟨v, g, y5, rfl, hT7, hg7, of3, hS7⟩
      refine ⟨_, rfl, _, rfl, by show 2 ≤ sizeLine; decide, fun t nt => ?_⟩
      have s8 := same_upd (o := .tup [.ref p1, v]) nt
      exact q t _ v f g _ ⟨upd_same, ⟨p1, rfl, sameT s8 hT7⟩, hg7.same s8, of1.mono (by decide), of3, hS7.same s8⟩
end
end Lw
namespace Lx
open PySem PySem.Spec L2
/-! ### a test against a written text puts a token out: what stands in its branches may replace in texts -/
def PTC (X : Cx) (e : Expr) (t : TT) : Prop :=
  ∀ (pins : List (Addr × Obj)) (s : Shared) (σ : St) (H : Hp) (Q : Bool → Hp → Prop), Inv X pins σ H s → t σ H Q → wpAny (model X.prog X.w) X.A (isTrue e X.env (eval e X.env)) (fun d s1 => 1 ≤ s1.toks ∧ TP X pins σ Q d s1) X.xe s
section
variable {X : Cx} {a c e : Expr} {ta te : TE} {tc : TT} {t u : TS} {A B : List Stmt} {x : Str} {j : Nat} {p p' pos pos' : Pos}
theorem ptc_cmp {op : CmpOp} {r : R2} (ho : OpR X (compareOp op) r) (ha : PE X a ta) (hm : behindInMarks op (.Constant (.str x) j p) = false) : PTC X (.Compare a [op] [.Constant (.str x) j p] pos) (tTest (tOp r ta (tC (.str x)))) := by
  intro pins s σ H Q I h
  refine wpAny_isTrue_Compare1 (thn (ha.run pins s σ H _ I h) fun v s1 ⟨y, H1, I1, r1, q1⟩ => Calls.Constant_str ?_) hm
  refine wpAny_mono (PySem.wpAny_toks_of (n := 1) (by show 1 ≤ s1.toks + 1; omega) (ho pins { s1 with toks := s1.toks + 1 } σ H1 y (.str x) v (.str x s1.toks) _ (I1.tok _) r1 ⟨_, rfl⟩ q1)) (fun c s3 q => ?_) fun _ _ z => z.2
  obtain ⟨hk, z, H3, I3, r3, k, e, q3⟩ := q
  subst e
  cases r3
  exact wpAny_truthy_bool ⟨hk, H3, I3, q3⟩
theorem ps_ifC (hc : PTC X c tc) (ha : PSsT X A t) (hb : PSsT X B u) : PS X (.If c A B pos) (tIfS tc t u) := by
  refine ⟨fun pins s σ H D I h => ?_⟩
  refine wpAny_If (thn (hc pins s σ H _ I h) fun d s1 q => ?_)
  obtain ⟨hk, H1, I1, q1⟩ := q
  cases d with
  | true => exact ha pins s1 σ H1 D hk I1 q1
  | false => exact hb pins s1 σ H1 D hk I1 q1
theorem pst_set {i : Nat} {y : Str} (hN : X.N.Nodup) (hi : X.N[i]? = some y) (hx : Loc X.env.scope y) (he : PET X e te) (hs : swapsWith e (some (.Name y pos')) pos.line X.env = pure false := by rfl) (hf : X.fn y = true ∨ X.env.scope.names.lookup y = some .local := by first | exact .inl rfl | exact .inr rfl | assumption) :
    PST X (.Assign [.Name y pos'] e pos) (tAsg te (gName i)) := by
  intro pins s σ H D h0 I h
  refine wpAny_Assign_Name (thn (he pins s σ H _ h0 I h) fun v s1 ⟨y, H1, I1, r1, q1⟩ => ?_) hs
  exact store_ok I1 hN hi hx r1 (fun s2 I2 => ⟨_, H1, I2, q1⟩) hf
end
/-! ### steps on texts -/
open PySem.StrLaws
def stepT (c : Nat) (l : List Nat) : List Nat := if c = 85 then replL [10] [94, 10] l else if c = 68 then replL [94, 10] [10] l else if c = 77 then replL [94] [10] l else replL [10] [94] l
def doneT (l cs : List Nat) : List Nat := cs.foldl (fun l c => stepT c l) l
theorem doneT_snoc (l cs : List Nat) (c : Nat) : doneT l (cs ++ [c]) = stepT c (doneT l cs) := by
  unfold doneT
  rw [List.foldl_append]
  rfl
theorem replS_len {y z : List Nat} (hz : z.length ≤ 2) : ∀ (l : List Nat) (s : Nat), (replS y z s l).length ≤ 2 * l.length
  | [], s => by cases s <;> simp [replS]
  | c :: r, 0 => by
    rw [replS]
    split
    · have := replS_len (y := y) hz r (y.length - 1)
      rw [List.length_append, List.length_cons]
      omega
    · have := replS_len (y := y) hz r 0
      rw [List.length_cons, List.length_cons]
      omega
  | c :: r, s + 1 => by
    rw [replS]
    have := replS_len (y := y) hz r s
    rw [List.length_cons]
    omega
theorem stepT_len (c : Nat) (l : List Nat) : (stepT c l).length ≤ 2 * l.length := by
  unfold stepT
  split
  · exact replS_len (by decide) l 0
  · split
    · exact replS_len (by decide) l 0
    · split <;> exact replS_len (by decide) l 0
theorem doneT_len (l : List Nat) : ∀ (k : Nat) (cs : List Nat), cs.length = k → (doneT l cs).length ≤ l.length * 2 ^ k
  | 0, cs, h => by
    rw [List.length_eq_zero_iff.mp h]
    show l.length ≤ l.length * 2 ^ 0
    omega
  | k + 1, cs, h => by
    rcases List.eq_nil_or_concat cs with rfl | ⟨ds, c, rfl⟩
    · cases h
    · have e : ds.length = k := by simpa using h
      rw [List.concat_eq_append, doneT_snoc, Nat.pow_succ]
      have h1 := stepT_len c (doneT l ds)
      have h2 := doneT_len l k ds e
      generalize 2 ^ k = m at h2 ⊢
      rw [← Nat.mul_assoc]
      omega
/-- the text of groups with these numbers of ^, and a rest -/
def up (n : Nat) : List Nat := List.replicate n 94
def spT (rows : List Nat) (rest : Nat) : List Nat := rows.flatMap (fun j => up j ++ [10]) ++ up rest
def unT (rows : List Nat) (rest : Nat) : Nat := rows.sum + rows.length + rest
theorem up_succ (n : Nat) : up (n + 1) = 94 :: up n := rfl
theorem spT_cons (j : Nat) (rows : List Nat) (rest : Nat) : spT (j :: rows) rest = up j ++ 10 :: spT rows rest := by
  unfold spT
  rw [List.flatMap_cons, List.append_assoc, List.append_assoc]
  rfl
theorem spT_len : ∀ (rows : List Nat) (rest : Nat), (spT rows rest).length = unT rows rest
  | [], rest => by simp [spT, unT, up]
  | j :: rows, rest => by
    have ih := spT_len rows rest
    rw [spT_cons, List.length_append, List.length_cons, ih]
    simp only [unT, up, List.length_replicate, List.sum_cons, List.length_cons]
    omega
/- U -/
theorem u_up (r : List Nat) : ∀ j, replL [10] [94, 10] (up j ++ r) = up j ++ replL [10] [94, 10] r
  | 0 => rfl
  | j + 1 => by
    rw [up_succ, List.cons_append, replL_miss (by simp), u_up r j]
    rfl
theorem up_snoc (j : Nat) (r : List Nat) : up j ++ 94 :: r = up (j + 1) ++ r := by
  unfold up
  rw [List.replicate_succ', List.append_assoc]
  rfl
theorem stepU : ∀ (rows : List Nat) (rest : Nat), replL [10] [94, 10] (spT rows rest) = spT (rows.map (· + 1)) rest
  | [], rest => by
    have := u_up [] rest
    rw [replL_nil, List.append_nil] at this
    simpa [spT] using this
  | j :: rows, rest => by
    rw [spT_cons, u_up, replL_hit (by simp) (by simp), List.map_cons, spT_cons]
    have ih := stepU rows rest
    show up j ++ ([94, 10] ++ replL [10] [94, 10] (spT rows rest)) = _
    rw [ih]
    exact up_snoc j _
/- D -/
theorem d_up : ∀ (j : Nat) (r : List Nat), replL [94, 10] [10] (up j ++ 10 :: r) = up (j - 1) ++ 10 :: replL [94, 10] [10] r
  | 0, r => by
    show replL [94, 10] [10] (10 :: r) = _
    rw [replL_miss (by simp)]
    rfl
  | 1, r => by
    show replL [94, 10] [10] (94 :: 10 :: r) = _
    rw [replL_hit (by simp) (by simp)]
    rfl
  | j + 2, r => by
    rw [up_succ, List.cons_append, replL_miss (by simp [up_succ]), d_up (j + 1) r]
    rfl
theorem d_rest : ∀ (n : Nat), replL [94, 10] [10] (up n) = up n
  | 0 => replL_nil
  | 1 => by
    show replL [94, 10] [10] [94] = [94]
    rw [replL_miss (by simp), replL_nil]
  | n + 2 => by
    rw [up_succ, replL_miss (by simp [up_succ]), d_rest (n + 1)]
theorem stepD : ∀ (rows : List Nat) (rest : Nat), replL [94, 10] [10] (spT rows rest) = spT (rows.map (· - 1)) rest
  | [], rest => by simpa [spT] using d_rest rest
  | j :: rows, rest => by rw [spT_cons, d_up, stepD rows rest, List.map_cons, spT_cons]
/- M, N -/
theorem m_up (r : List Nat) : ∀ j, replL [94] [10] (up j ++ r) = List.replicate j 10 ++ replL [94] [10] r
  | 0 => rfl
  | j + 1 => by
    rw [up_succ, List.cons_append, replL_hit (by simp) (by simp)]
    show [10] ++ replL [94] [10] (up j ++ r) = _
    rw [m_up r j]
    rfl
theorem m_all : ∀ (rows : List Nat) (rest : Nat), replL [94] [10] (spT rows rest) = List.replicate (unT rows rest) 10
  | [], rest => by
    have := m_up [] rest
    rw [replL_nil, List.append_nil] at this
    rw [List.append_nil] at this
    simpa [spT, unT] using this
  | j :: rows, rest => by
    rw [spT_cons, m_up, replL_miss (by simp), m_all rows rest]
    have e : unT (j :: rows) rest = j + (1 + unT rows rest) := by simp only [unT, List.sum_cons, List.length_cons]; omega
    rw [e, ← List.replicate_append_replicate, ← List.replicate_append_replicate (n := 1)]
    rfl
theorem spT_zeros : ∀ n, spT (List.replicate n 0) 0 = List.replicate n 10
  | 0 => rfl
  | n + 1 => by
    rw [List.replicate_succ, spT_cons, spT_zeros n]
    rfl
theorem stepM (rows : List Nat) (rest : Nat) : replL [94] [10] (spT rows rest) = spT (List.replicate (unT rows rest) 0) 0 := by rw [m_all, spT_zeros]
theorem n_up (r : List Nat) : ∀ j, replL [10] [94] (up j ++ r) = up j ++ replL [10] [94] r
  | 0 => rfl
  | j + 1 => by
    rw [up_succ, List.cons_append, replL_miss (by simp), n_up r j]
    rfl
theorem stepN : ∀ (rows : List Nat) (rest : Nat), replL [10] [94] (spT rows rest) = spT [] (unT rows rest)
  | [], rest => by
    have := n_up [] rest
    rw [replL_nil, List.append_nil] at this
    simpa [spT, unT] using this
  | j :: rows, rest => by
    have ih := stepN rows rest
    rw [spT_cons, n_up, replL_hit (by simp) (by simp)]
    show up j ++ ([94] ++ replL [10] [94] (spT rows rest)) = _
    rw [ih]
    have e : unT (j :: rows) rest = j + (1 + unT rows rest) := by simp only [unT, List.sum_cons, List.length_cons]; omega
    show up j ++ ([94] ++ up (unT rows rest)) = up (unT (j :: rows) rest)
    rw [e]
    unfold up
    rw [← List.replicate_append_replicate, ← List.replicate_append_replicate (n := 1)]
    rfl
/-! ### what a form makes of groups -/
/-- told by natural numbers -/
def sdRows (b a : Nat) (rows : List Nat) : List Nat := rows.map (fun j => (j - b) + a)
def saidT (f : Fm) (rows : List Nat) (rest : Nat) : List Nat := match f with
  | .keep b a => spT (sdRows b.toNat a.toNat rows) rest
  | .lf b a k c => spT (List.replicate (k.toNat * unT (sdRows b.toNat a.toNat rows) rest) c.toNat) 0
  | .cr b a k => spT [] (k.toNat * unT (sdRows b.toNat a.toNat rows) rest)
theorem unT_rep : ∀ (n c r : Nat), unT (List.replicate n c) r = n * (c + 1) + r
  | 0, c, r => by simp [unT]
  | n + 1, c, r => by
    have ih := unT_rep n c r
    rw [List.replicate_succ]
    have e : unT (c :: List.replicate n c) r = (c + 1) + unT (List.replicate n c) r := by simp only [unT, List.sum_cons, List.length_cons]; omega
    rw [e, ih, Nat.succ_mul]
    omega
theorem sd_up (b a : Nat) (rows : List Nat) : sdRows b (a + 1) rows = (sdRows b a rows).map (· + 1) := by
  unfold sdRows
  rw [List.map_map]
  exact List.map_congr_left fun j _ => by show j - b + (a + 1) = (j - b + a) + 1; omega
theorem sd_dn (b a : Nat) (rows : List Nat) : sdRows b a rows = (sdRows b (a + 1) rows).map (· - 1) := by
  unfold sdRows
  rw [List.map_map]
  exact List.map_congr_left fun j _ => by show j - b + a = (j - b + (a + 1)) - 1; omega
theorem sd_dn0 (b : Nat) (rows : List Nat) : sdRows (b + 1) 0 rows = (sdRows b 0 rows).map (· - 1) := by
  unfold sdRows
  rw [List.map_map]
  exact List.map_congr_left fun j _ => by show j - (b + 1) + 0 = (j - b + 0) - 1; omega
theorem sd_0 (rows : List Nat) : sdRows 0 0 rows = rows := by
  unfold sdRows
  exact (List.map_congr_left fun j _ => by show j - 0 + 0 = id j; show _ = j; omega).trans (List.map_id rows)
theorem natF {n : Nat} {f : Fm} (h : f.Ok n) : (∃ b a : Nat, f = .keep b a) ∨ (∃ b a k c : Nat, f = .lf b a k c) ∨ (∃ b a k : Nat, f = .cr b a k) := by
  cases f with
  | keep b a =>
    obtain ⟨b', rfl⟩ := Int.eq_ofNat_of_zero_le h.1
    obtain ⟨a', rfl⟩ := Int.eq_ofNat_of_zero_le h.2.1
    exact .inl ⟨_, _, rfl⟩
  | lf b a k c =>
    obtain ⟨b', rfl⟩ := Int.eq_ofNat_of_zero_le h.1
    obtain ⟨a', rfl⟩ := Int.eq_ofNat_of_zero_le h.2.1
    obtain ⟨k', rfl⟩ := Int.eq_ofNat_of_zero_le (Int.le_of_lt h.2.2.1)
    obtain ⟨c', rfl⟩ := Int.eq_ofNat_of_zero_le h.2.2.2.1
    exact .inr (.inl ⟨_, _, _, _, rfl⟩)
  | cr b a k =>
    obtain ⟨b', rfl⟩ := Int.eq_ofNat_of_zero_le h.1
    obtain ⟨a', rfl⟩ := Int.eq_ofNat_of_zero_le h.2.1
    obtain ⟨k', rfl⟩ := Int.eq_ofNat_of_zero_le (Int.le_of_lt h.2.2.1)
    exact .inr (.inr ⟨_, _, _, rfl⟩)
theorem mul1 (k c : Nat) : ((k : Int) * ((c : Int) + 1) * 1) = ((k * (c + 1) : Nat) : Int) := by
  rw [Int.mul_one, Int.natCast_mul]
  rfl
theorem af0 (c : Nat) (k : Int) (c' : Int) : Fm.after (.lf 0 0 k c') c = c := by
  unfold Fm.after Fm.b Fm.a
  dsimp only
  split <;> omega
theorem af0c (c : Nat) (k : Int) : Fm.after (.cr 0 0 k) c = c := by
  unfold Fm.after Fm.b Fm.a
  dsimp only
  split <;> omega
end Lx
namespace Lw
open PySem PySem.Spec L2 Lx
open PySem.StrLaws
theorem said_step {n : Nat} {f : Fm} (h : f.Ok n) {c : Nat} (hc : c ∈ steps.cps.toList) (rows : List Nat) (rest : Nat) : saidT (f.both (stepF c)) rows rest = stepT c (saidT f rows rest) := by
  have hc4 : c = 85 ∨ c = 68 ∨ c = 77 ∨ c = 78 := by
    have : c ∈ ([85, 68, 77, 78] : List Nat) := hc
    simpa using this
  rcases natF h with ⟨b, a, rfl⟩ | ⟨b, a, k, d, rfl⟩ | ⟨b, a, k, rfl⟩
  · rcases hc4 with rfl | rfl | rfl | rfl
    · have e : (Fm.keep b a).both (stepF 85) = .keep b ((a + 1 : Nat) : Int) := by
        show Fm.keep ((b : Int) + (if (0 : Int) - a > 0 then (0 : Int) - a else 0)) ((if (a : Int) - 0 > 0 then (a : Int) - 0 else 0) + 1) = _
        congr 1 <;> split <;> omega
      rw [e]
      show spT (sdRows (b : Int).toNat ((a + 1 : Nat) : Int).toNat rows) rest = replL [10] [94, 10] (spT (sdRows (b : Int).toNat (a : Int).toNat rows) rest)
      rw [Int.toNat_natCast, Int.toNat_natCast, Int.toNat_natCast, stepU, sd_up]
    · cases a with
      | zero =>
        have e : (Fm.keep b ((0 : Nat) : Int)).both (stepF 68) = .keep ((b + 1 : Nat) : Int) ((0 : Nat) : Int) := by
          show Fm.keep ((b : Int) + (if (1 : Int) - ((0 : Nat) : Int) > 0 then (1 : Int) - ((0 : Nat) : Int) else 0)) ((if ((0 : Nat) : Int) - 1 > 0 then ((0 : Nat) : Int) - 1 else 0) + 0) = _
          congr 1 <;> split <;> omega
        rw [e]
        show spT (sdRows ((b + 1 : Nat) : Int).toNat ((0 : Nat) : Int).toNat rows) rest = replL [94, 10] [10] (spT (sdRows (b : Int).toNat ((0 : Nat) : Int).toNat rows) rest)
        rw [Int.toNat_natCast, Int.toNat_natCast, Int.toNat_natCast, stepD, sd_dn0]
      | succ a =>
        have e : (Fm.keep b ((a + 1 : Nat) : Int)).both (stepF 68) = .keep b a := by
          show Fm.keep ((b : Int) + (if (1 : Int) - ((a + 1 : Nat) : Int) > 0 then (1 : Int) - ((a + 1 : Nat) : Int) else 0)) ((if ((a + 1 : Nat) : Int) - 1 > 0 then ((a + 1 : Nat) : Int) - 1 else 0) + 0) = _
          congr 1 <;> split <;> omega
        rw [e]
        show spT (sdRows (b : Int).toNat (a : Int).toNat rows) rest = replL [94, 10] [10] (spT (sdRows (b : Int).toNat ((a + 1 : Nat) : Int).toNat rows) rest)
        rw [Int.toNat_natCast, Int.toNat_natCast, Int.toNat_natCast, stepD, ← sd_dn]
    · have e : (Fm.keep b a).both (stepF 77) = .lf b a ((1 : Nat) : Int) ((0 : Nat) : Int) := by
        show Fm.lf ((b : Int) + (if (0 : Int) - a > 0 then (0 : Int) - a else 0)) ((if (a : Int) - 0 > 0 then (a : Int) - 0 else 0) + 0) 1 0 = _
        congr 1 <;> split <;> omega
      rw [e]
      show spT (List.replicate (((1 : Nat) : Int).toNat * unT (sdRows (b : Int).toNat (a : Int).toNat rows) rest) ((0 : Nat) : Int).toNat) 0 = replL [94] [10] (spT (sdRows (b : Int).toNat (a : Int).toNat rows) rest)
      rw [Int.toNat_natCast, Int.toNat_natCast, Int.toNat_natCast, Int.toNat_natCast, stepM, Nat.one_mul]
    · have e : (Fm.keep b a).both (stepF 78) = .cr b a ((1 : Nat) : Int) := by
        show Fm.cr ((b : Int) + (if (0 : Int) - a > 0 then (0 : Int) - a else 0)) ((if (a : Int) - 0 > 0 then (a : Int) - 0 else 0) + 0) 1 = _
        congr 1 <;> split <;> omega
      rw [e]
      show spT [] (((1 : Nat) : Int).toNat * unT (sdRows (b : Int).toNat (a : Int).toNat rows) rest) = replL [10] [94] (spT (sdRows (b : Int).toNat (a : Int).toNat rows) rest)
      rw [Int.toNat_natCast, Int.toNat_natCast, Int.toNat_natCast, stepN, Nat.one_mul]
  · rcases hc4 with rfl | rfl | rfl | rfl
    · have e : (Fm.lf b a k d).both (stepF 85) = .lf b a k ((d + 1 : Nat) : Int) := by
        show Fm.lf b a k ((if (d : Int) - 0 > 0 then (d : Int) - 0 else 0) + 1) = _
        congr 1 <;> split <;> omega
      rw [e]
      show spT (List.replicate ((k : Int).toNat * unT (sdRows (b : Int).toNat (a : Int).toNat rows) rest) ((d + 1 : Nat) : Int).toNat) 0 = replL [10] [94, 10] (spT (List.replicate ((k : Int).toNat * unT (sdRows (b : Int).toNat (a : Int).toNat rows) rest) (d : Int).toNat) 0)
      rw [stepU, List.map_replicate]
      simp only [Int.toNat_natCast]
    · have e : (Fm.lf b a k d).both (stepF 68) = .lf b a k ((d - 1 : Nat) : Int) := by
        show Fm.lf b a k ((if (d : Int) - 1 > 0 then (d : Int) - 1 else 0) + 0) = _
        congr 1 <;> split <;> omega
      rw [e]
      show spT (List.replicate ((k : Int).toNat * unT (sdRows (b : Int).toNat (a : Int).toNat rows) rest) ((d - 1 : Nat) : Int).toNat) 0 = replL [94, 10] [10] (spT (List.replicate ((k : Int).toNat * unT (sdRows (b : Int).toNat (a : Int).toNat rows) rest) (d : Int).toNat) 0)
      rw [stepD, List.map_replicate]
      simp only [Int.toNat_natCast]
    · have e : (Fm.lf b a k d).both (stepF 77) = .lf b a ((k * (d + 1) : Nat) : Int) ((0 : Nat) : Int) := by
        show Fm.lf b a ((k : Int) * (Fm.after (.lf 0 0 1 0) d + 1) * 1) 0 = _
        rw [af0, mul1]
        rfl
      rw [e]
      show spT (List.replicate (((k * (d + 1) : Nat) : Int).toNat * unT (sdRows (b : Int).toNat (a : Int).toNat rows) rest) ((0 : Nat) : Int).toNat) 0 = replL [94] [10] (spT (List.replicate ((k : Int).toNat * unT (sdRows (b : Int).toNat (a : Int).toNat rows) rest) (d : Int).toNat) 0)
      rw [stepM, unT_rep]
      simp only [Int.toNat_natCast, Nat.add_zero]
      rw [Nat.mul_right_comm]
    · have e : (Fm.lf b a k d).both (stepF 78) = .cr b a ((k * (d + 1) : Nat) : Int) := by
        show Fm.cr b a ((k : Int) * (Fm.after (.cr 0 0 1) d + 1) * 1) = _
        rw [af0c, mul1]
      rw [e]
      show spT [] (((k * (d + 1) : Nat) : Int).toNat * unT (sdRows (b : Int).toNat (a : Int).toNat rows) rest) = replL [10] [94] (spT (List.replicate ((k : Int).toNat * unT (sdRows (b : Int).toNat (a : Int).toNat rows) rest) (d : Int).toNat) 0)
      rw [stepN, unT_rep]
      simp only [Int.toNat_natCast, Nat.add_zero]
      rw [Nat.mul_right_comm]
  · have un0 : ∀ n, unT [] n = n := fun n => by simp [unT]
    rcases hc4 with rfl | rfl | rfl | rfl
    · show spT [] _ = replL [10] [94, 10] (spT [] _)
      rw [stepU]
      rfl
    · show spT [] _ = replL [94, 10] [10] (spT [] _)
      rw [stepD]
      rfl
    · have e : (Fm.cr b a k).both (stepF 77) = .lf b a k ((0 : Nat) : Int) := by
        show Fm.lf b a ((k : Int) * 1 * 1) 0 = _
        rw [Int.mul_one, Int.mul_one]
        rfl
      rw [e]
      show spT (List.replicate ((k : Int).toNat * unT (sdRows (b : Int).toNat (a : Int).toNat rows) rest) ((0 : Nat) : Int).toNat) 0 = replL [94] [10] (spT [] ((k : Int).toNat * unT (sdRows (b : Int).toNat (a : Int).toNat rows) rest))
      rw [stepM, un0]
      rfl
    · have e : (Fm.cr b a k).both (stepF 78) = .cr b a k := by
        show Fm.cr b a ((k : Int) * 1 * 1) = _
        rw [Int.mul_one, Int.mul_one]
      rw [e]
      show spT [] ((k : Int).toNat * unT (sdRows (b : Int).toNat (a : Int).toNat rows) rest) = replL [10] [94] (spT [] ((k : Int).toNat * unT (sdRows (b : Int).toNat (a : Int).toNat rows) rest))
      rw [stepN, un0]
theorem said_done (rows : List Nat) (rest : Nat) : ∀ (k : Nat) (cs : List Nat), cs.length = k → k ≤ 60 → (∀ c ∈ cs, c ∈ steps.cps.toList) → saidT (formL cs) rows rest = doneT (spT rows rest) cs
  | 0, cs, h, _, _ => by
    rw [List.length_eq_zero_iff.mp h]
    show spT (sdRows 0 0 rows) rest = spT rows rest
    rw [sd_0]
  | k + 1, cs, h, hk, hc => by
    rcases List.eq_nil_or_concat cs with rfl | ⟨ds, c, rfl⟩
    · cases h
    · have e : ds.length = k := by simpa using h
      rw [List.concat_eq_append] at hc ⊢
      have hd : ∀ c ∈ ds, c ∈ steps.cps.toList := fun c h => hc c (List.mem_append_left _ h)
      rw [formL_snoc, doneT_snoc, ← said_done rows rest k ds e (by omega) hd]
      exact said_step (formL_fls k ds e (by omega) hd).ok (hc c (by simp)) rows rest
/-! ### cutting such a text at its breaks -/
theorem spT_join : ∀ (rows : List Nat) (rest : Nat), spT rows rest = TL.joinL [10] (rows.map up ++ [up rest])
  | [], rest => rfl
  | j :: rows, rest => by
    rw [spT_cons, spT_join rows rest]
    cases rows with
    | nil => rfl
    | cons a r => rfl
theorem spT_cut (rows : List Nat) (rest : Nat) : TL.spl [10] 0 [] (spT rows rest) = rows.map up ++ [up rest] := by
  rw [spT_join]
  refine TL.spl_join (by simp) fun p hp => ?_
  have hu : ∀ n, (10 : Nat) ∉ up n := fun n h => by
    have := (List.mem_replicate.mp h).2
    omega
  rcases List.mem_append.mp hp with h | h
  · obtain ⟨n, _, rfl⟩ := List.mem_map.mp h
    exact hu n
  · rw [List.mem_singleton.mp h]
    exact hu _
/-- every text of ^ and breaks is one -/
theorem spT_of : ∀ l : List Nat, (∀ c ∈ l, c = 94 ∨ c = 10) → ∃ rows rest, l = spT rows rest
  | [], _ => ⟨[], 0, rfl⟩
  | c :: l, h => by
    obtain ⟨rows, rest, rfl⟩ := spT_of l fun d hd => h d (List.mem_cons_of_mem _ hd)
    rcases h c List.mem_cons_self with rfl | rfl
    · cases rows with
      | nil => exact ⟨[], rest + 1, rfl⟩
      | cons j rows => exact ⟨(j + 1) :: rows, rest, by rw [spT_cons, spT_cons]; rfl⟩
    · exact ⟨0 :: rows, rest, by rw [spT_cons]; rfl⟩
end Lw
/-! defs that are entered with a token out: their first statement may replace in a text -/
namespace Lx
open PySem PySem.Spec L2
open PyProof.Rows (AllBare IntsAre)
theorem PSsT.nox {X : Cx} {st : List Stmt} {t : TS} (h : PSsT X.nox st t) : PSsT X st t := fun pins s σ H D h0 I hw =>
  wpAny_mono (h pins s σ H D h0 (I.wish _) hw) (fun _ _ q => q.unwish) fun _ _ z => False.elim z
structure FnT (P : Program) (w : World) (K : PySem.W.Frag) (mg : Str → Option Value) (base : Heap) (CX : CXT) (k : Nat) (f : Addr) (fd : FuncData) (ps : List Str) (sp : Sp) : Prop where
  len : ∀ vs H Q E, sp vs H Q E → vs.length = ps.length
  run : ∀ (A : Around) (outer : List Env) (s : Shared) (H : Hp) (args : Args) (us : List Value) (vs : List V) (Q : VK) (E : XK), 1 ≤ s.toks → Room k A → Env0 P w K mg base A outer s H → BindsTo s fd args (ps.zip us) → Vals vs us → sp vs H Q E →
    codeAny (model P w) A (.call (.ref f) args) (CR CX outer P w H s Q E) s
section
variable {P : Program} {w : World} {K : PySem.W.Frag} {mg : Str → Option Value} {base : Heap} {CX : CXT}
theorem FnT.of {k : Nat} {f : Addr} {fd : FuncData} {ps : List Str} {sp : Sp} (F : FnOk P w K mg base CX k f fd ps sp) : FnT P w K mg base CX k f fd ps sp :=
  ⟨F.len, fun A outer s H args us vs Q E _ hr he hb hv hs => F.run A outer s H args us vs Q E hr he hb hv hs⟩
theorem FnT.mono {j k : Nat} {f : Addr} {fd : FuncData} {ps : List Str} {sp : Sp} (F : FnT P w K mg base CX j f fd ps sp) (h : j ≤ k) : FnT P w K mg base CX k f fd ps sp :=
  ⟨F.len, fun A outer s H args us vs Q E h0 hr => F.run A outer s H args us vs Q E h0 (hr.mono h)⟩
/-- a def's promise by its body -/
theorem okT {x qual : Str} {st : Stmt} {f : Addr} {fd : FuncData} {N ps : List Str} {k : Nat} {sp : Sp} (F : Fun K x qual st f fd) (S : FnScope N ps (defScope st)) (len : ∀ vs H Q E, sp vs H Q E → vs.length = ps.length)
    (hb : ∀ (cdv : Value) (A : Around) (outer : List Env) (s : Shared) (H : Hp) (vs : List V) (Q : VK) (E : XK), Room k (A.deeper (PyProof.Rows.envOfC qual (defScope st) s.heap.objs.size f cdv)) → sp vs H Q E →
      ∃ t, PSsT (cxOf CX P w K mg base N qual (defScope st) f cdv A outer s H E).nox (defBody st) t ∧ t { nx := fun _ H' => Q .non H', rt := Q } (start N vs) H) : FnT P w K mg base CX (k + 1) f fd ps sp := by
  obtain ⟨oc, od, kV, doc, pm, an, cdv, ct, osl, rfl, lk, hcd⟩ := F.ex
  refine ⟨len, fun A outer s H args us vs Q E h0 hr e0 hbd r hsp => ?_⟩
  have X : K.In s.heap := e0.mod.kin.keeps fun b o e => (e0.bs b o e).1
  have lim : s.heap.NoLimit := e0.mod.nolimit.keeps fun b o e => (e0.bs b o e).1
  refine codeAny_call_function hr.depth (X _ _ lk) rfl S.co S.gen rfl (PySem.W.codeRec_of X hcd) (hbd _ _ _ _ ?_)
  refine PySem.wpAny_with_toks h0 (wpAny_newFunctionEnv_cells S.kind (fun y hy => ?_) fun env he s1 x1 => fun ht1 => ?_)
  · obtain ⟨n, v⟩ := y
    rcases S.par n (List.of_mem_zip hy).1 with q | q
    · exact .inl q
    · exact .inr ⟨q, PySem.W.cellsFrom_some _ _ _ (.inl q)⟩
  · subst he
    refine ⟨lim.keeps x1.toInCall.keep, codeAny_func ?_⟩
    obtain ⟨t, ht, hq⟩ := hb cdv A outer s H vs Q E (hr.deeper _) hsp
    have I := inv_start (CX := CX) (E := E) S hr.hd e0 (len _ _ _ _ hsp) r x1
    refine wpAny_mono ((PSsT.nox ht) [] s1 (start N vs) H _ ht1 I hq) (fun fl s2 z => ?_) fun _ _ z => z
    rcases fl with _ | _ | _ | u
    all_goals first
      | (obtain ⟨_, _, _, q⟩ := z; exact q.elim)
      | (obtain ⟨σ2, H2, J, q⟩ := z; exact ⟨V.non, H2, J.os, J.bare, J.base, J.hok, rfl, q⟩)
      | (obtain ⟨v2, σ2, H2, J, rv, q⟩ := z; exact ⟨v2, H2, J.os, J.bare, J.base, J.hok, rv, q⟩)
end
section
variable {X : Cx} {CX : CXT} {k : Nat} {f : Addr} {fd : FuncData} {ps : List Str} {sp : Sp} {dvs : List V} {ds : List Value} {E : XK} {x : Str} {p pos : Pos} {e : Expr} {es : List Expr} {t : TA}
theorem run_fnT {pins : List (Addr × Obj)} {σ : St} {H : Hp} {s : Shared} {Q : VK} {us : List Value} {vs : List V} (F : FnT X.prog X.w X.K X.mg X.base CX k f fd ps sp) (h0 : 1 ≤ s.toks) (hr : Room k X.A) (hb : Binds X.K fd ps ds) (hd : Vals dvs ds) (hx : Passes CX X E)
    (I : Inv X pins σ H s) (r : Vals vs us) (h : sp (vs ++ dvs) H Q E) : wpAny (model X.prog X.w) X.A (call (.ref f) us) (EP X pins σ Q) X.xe s := by
  have r2 : Vals (vs ++ dvs) (us ++ ds) := r.append hd
  have hl : (us ++ ds).length = ps.length := by rw [← r2.length]; exact F.len _ _ _ _ h
  refine wpAny_call (codeAny_mono (F.run X.A X.stack s H ⟨us, []⟩ (us ++ ds) (vs ++ dvs) Q E h0 hr I.env0 (hb s us I.kIn hl) r2 h) fun r s' hq => ?_)
  cases r with
  | error e => exact hx pins σ H s e s' I hq
  | ok fl =>
    cases fl with
    | ret u => exact I.after hq
    | next => exact False.elim hq
    | brk => exact False.elim hq
    | cont => exact False.elim hq
theorem PAT.of {ta : TA} (h : PA X es ta) : PAT X es ta := fun pos pins s σ H Q _ I q => h.run pos pins s σ H Q I q
/-- f(e, ..), a token out -/
theorem pet_call (F : FnT X.prog X.w X.K X.mg X.base CX k f fd ps sp) (hr : Room k X.A) (hg : Gl X x) (hm : X.mg x = some (.ref f)) (hk : PySem.W.keepIn X.K (.ref f) = true) (hb : Binds X.K fd ps ds) (hd : Vals dvs ds) (hx : Passes CX X E)
    (ha : PAT X (e :: es) t) (hdb : (x == ("__debug__" : Str)) = false := by decide) (he : starEach (e :: es) X.env = (false, eval e X.env) :: starEach es X.env := by rfl) (hpl : (backTo pos (starEach es X.env)).any (·.1) = false := by rfl) :
    PET X (.Call (.Name x p) (e :: es) [] pos) (tCall sp dvs E t) := by
  intro pins s σ H Q h0 I h
  refine wpAny_Call_Name_kw (ld_glob I hg hm ?_ hdb)
  refine PySem.W.callWith_K (h₀ := X.base) I.ok.mod.kin hk (wpAny_mono (PySem.wpAny_toks_of h0 (ha pos pins s σ H _ h0 I h)) (fun us s1 q => ?_) fun _ _ z => z.2) he hpl
  obtain ⟨h1, vs, H1, I1, r, q⟩ := q
  exact ⟨I1.kIn, run_fnT F h1 hr hb hd hx I1 r q⟩
end
/-! ### loops in that mode -/
section
variable {X : Cx}
/-- what is walked over puts a token out -/
def PI1 (X : Cx) (tg iter : Expr) (wi : TI) : Prop :=
  ∀ (pins : List (Addr × Obj)) (s : Shared) (σ : St) (H : Hp) (R : It → Hp → Prop), Inv X pins σ H s → wi σ H R →
    wpAny (model X.prog X.w) X.A (eval iter X.env) (fun v s1 => 1 ≤ s1.toks ∧ wpAny (model X.prog X.w) X.A (pyIter v) (PIE X pins σ tg R) X.xe s1) X.xe s
theorem pit_of {tg iter : Expr} {wi : TI} (h : PI X tg iter wi) : PIT X tg iter wi := fun pins s σ H R _ I q => h.run pins s σ H R I q
theorem for_core {tg iter : Expr} {body : List Stmt} {g : TG} {tb : TS} {pos : Pos} {pins : List (Addr × Obj)} {s : Shared} {σ : St} {D : Ends} (hp : PassesOwn (model X.prog X.w) X.A X.env X.xe) (hc : X.calm = true) (hg : PG X tg g) (hb : PSsT X body tb)
    (hi : wpAny (model X.prog X.w) X.A (eval iter X.env) (fun v s1 => 1 ≤ s1.toks ∧ wpAny (model X.prog X.w) X.A (pyIter v) (PIE X pins σ tg fun J H1 => ∃ W : Nat → Nat → St → Hp → Prop, (∃ m, W 0 m σ H1) ∧ ∀ i m σ H, W i m σ H →
      (J.stop i H ∧ D.nx σ H) ∨ (J.go i H ∧ ∃ N : St → Hp → Prop, (∀ σ' H', N σ' H' → ∃ m', m' < m ∧ W (i + 1) m' σ' H') ∧ ∀ x H', J.yld i H x H' → g x σ H' fun σ2 H2 => tb { nx := N, rt := D.rt, bk := D.nx, ct := N } σ2 H2)) X.xe s1) X.xe s)
    (hs : ∀ x, foldedSetIterable iter X.env x = pure x := by intro _; rfl) : wpAny (model X.prog X.w) X.A (exec (.For tg iter body [] pos) X.env) (SP X pins D) X.xe s := by
  refine wpAny_For (thn hi fun v s1 h1 => ?_) hs
  obtain ⟨t1, h1⟩ := h1
  refine wpAny_mono (PySem.wpAny_toks_of t1 h1) (fun itv s2 h2 => ?_) fun _ _ z => z.2
  obtain ⟨t2, it, fp, tn, J, H2, e, I2, T, st2, f2, W, ⟨m0, w0⟩, turn⟩ := h2
  subst e
  have stat : ∀ {H' : Hp}, (∀ b ∈ fp, H' b = none) → ∀ b ∈ fp, FpOk X pins H' b := fun hn b hb => ⟨hn b hb, (f2 b hb).2⟩
  refine codeAny_forLoop_any (fun n s' => 1 ≤ s'.toks ∧ ∃ i σ' H', Inv X pins σ' H' s' ∧ tn i s'.heap ∧ (∀ b ∈ fp, H' b = none) ∧ W i n σ' H') ?_ m0 ⟨t2, 0, σ, H2, I2, st2, fun b hb => (f2 b hb).1, w0⟩
  rintro n s3 ⟨t3, i, σ3, H3, I3, st3, fr3, w3⟩
  rcases turn i n σ3 H3 w3 with ⟨stop, qn⟩ | ⟨go, N, hN, step⟩
  · refine wpAny_passesOwn hp (thn (T.done X rfl rfl rfl hc i pins s3 σ3 H3 X.xe I3 (stat fr3) st3 stop) fun r s4 ⟨hr, I4⟩ => ?_)
    subst hr
    exact wpAny_execs_nil ⟨σ3, H3, I4, qn⟩
  · refine wpAny_passesOwn hp (wpAny_mono (PySem.wpAny_toks_of t3 (T.item X rfl rfl rfl hc i pins s3 σ3 H3 X.xe I3 (stat fr3) st3 go)) (fun r s4 q4 => ?_) fun _ _ z => z.2)
    obtain ⟨t4, u, hr, h4⟩ := q4
    subst hr
    refine wpAny_passesOwn hp (wpAny_mono (PySem.wpAny_toks_of t4 h4) (fun _ s5 q5 => ?_) fun _ _ z => z.2)
    obtain ⟨t5, x, H5, I5, r5, y5, st5, fr5⟩ := q5
    have I5' := I5.pinned (stat fr5) (T.obj _ _ st5)
    refine wpAny_passesOwn hp (wpAny_mono (PySem.wpAny_toks_of t5 (hg.run _ s5 σ3 H5 x u _ I5' r5 (step x H5 y5))) (fun _ s6 q6 => ?_) fun _ _ z => z.2)
    obtain ⟨t6, σ6, H6, I6, q6⟩ := q6
    refine wpAny_passesOwn hp (wpAny_mono (PySem.wpAny_toks_of t6 (hb _ s6 σ6 H6 _ t6 I6 q6)) (fun f s7 q7 => ?_) fun _ _ z => z.2)
    obtain ⟨t7, q7⟩ := q7
    have again : ∀ {σ7 : St} {H7 : Hp}, Inv X (pins ++ pinsAt fp s5.heap) σ7 H7 s7 → N σ7 H7 → ∃ m, m < n ∧ 1 ≤ s7.toks ∧ ∃ i σ' H', Inv X pins σ' H' s7 ∧ tn i s7.heap ∧ (∀ b ∈ fp, H' b = none) ∧ W i m σ' H' := fun {σ7 H7} I7 n7 => by
      obtain ⟨m', hm, w7⟩ := hN σ7 H7 n7
      refine ⟨m', hm, t7, i + 1, σ7, H7, I7.unpinned, T.keep _ _ _ st5 fun b hb o e => (I7.pin (b, o) (List.mem_append_right _ (List.mem_append_right _ (mem_pinsAt hb e)))).1, fun b hb => ?_, w7⟩
      obtain ⟨o, e, d⟩ := T.obj _ _ st5 b hb
      exact (I7.pin (b, o) (List.mem_append_right _ (List.mem_append_right _ (mem_pinsAt hb e)))).2.1
    cases f with
    | next => obtain ⟨σ7, H7, I7, n7⟩ := q7; exact again I7 n7
    | cont => obtain ⟨σ7, H7, I7, n7⟩ := q7; exact again I7 n7
    | brk => obtain ⟨σ7, H7, I7, q7⟩ := q7; exact ⟨σ7, H7, I7.unpinned, q7⟩
    | ret v => obtain ⟨x7, σ7, H7, I7, r7, q7⟩ := q7; exact ⟨x7, σ7, H7, I7.unpinned, r7, q7⟩
/-- for, its body in that mode, a token out before it -/
theorem pst_forT {tg iter : Expr} {body : List Stmt} {wi : TI} {g : TG} {tb : TS} {pos : Pos} (hp : PassesOwn (model X.prog X.w) X.A X.env X.xe) (hc : X.calm = true) (hi : PIT X tg iter wi) (hg : PG X tg g) (hb : PSsT X body tb)
    (hs : ∀ x, foldedSetIterable iter X.env x = pure x := by intro _; rfl) : PST X (.For tg iter body [] pos) (tFor wi g tb) := by
  intro pins s σ H D h0 I h
  exact for_core hp hc hg hb (PySem.wpAny_toks_of h0 (hi pins s σ H _ h0 I h) |> fun z => wpAny_mono z (fun _ _ q => q) fun _ _ q => q.2) hs
/-- for, its body in that mode, where what is walked over puts a token out -/
theorem ps_for1 {tg iter : Expr} {body : List Stmt} {wi : TI} {g : TG} {tb : TS} {pos : Pos} (hp : PassesOwn (model X.prog X.w) X.A X.env X.xe) (hc : X.calm = true) (hi : PI1 X tg iter wi) (hg : PG X tg g) (hb : PSsT X body tb)
    (hs : ∀ x, foldedSetIterable iter X.env x = pure x := by intro _; rfl) : PS X (.For tg iter body [] pos) (tFor wi g tb) :=
  ⟨fun pins s σ H D I h => for_core hp hc hg hb (hi pins s σ H _ I h) hs⟩
/-- arguments of which the first puts a token out -/
def PA1 (X : Cx) (es : List Expr) (t : TA) : Prop :=
  ∀ (pos : Pos) (pins : List (Addr × Obj)) (s : Shared) (σ : St) (H : Hp) (Q : List V → Hp → Prop), Inv X pins σ H s → t σ H Q → wpAny (model X.prog X.w) X.A (spliced (backTo pos (starEach es X.env))) (fun us s1 => 1 ≤ s1.toks ∧ AP X pins σ Q us s1) X.xe s
/-- an expression that puts a token out -/
def PE1 (X : Cx) (e : Expr) (t : TE) : Prop :=
  ∀ (pins : List (Addr × Obj)) (s : Shared) (σ : St) (H : Hp) (Q : VK), Inv X pins σ H s → t σ H Q → wpAny (model X.prog X.w) X.A (eval e X.env) (fun v s1 => 1 ≤ s1.toks ∧ EP X pins σ Q v s1) X.xe s
theorem pe1_int {i : Int} {j : Nat} {pos : Pos} : PE1 X (.Constant (.int i) j pos) (tC (.int i)) := fun _ s _ H _ I h => wpAny_Constant_int ⟨by show 1 ≤ s.toks + 1; omega, .int i, H, I.tok _, ⟨_, rfl⟩, h⟩
theorem pe1_str {x : Str} {j : Nat} {pos : Pos} : PE1 X (.Constant (.str x) j pos) (tC (.str x)) := fun _ s _ H _ I h => Calls.Constant_str ⟨by show 1 ≤ s.toks + 1; omega, .str x, H, I.tok _, ⟨_, rfl⟩, h⟩
theorem pe1_op {e f : Expr} {te tf : TE} {op : Operator} {r : R2} {pos : Pos} (ho : OpR X (binaryOp op) r) (ha : PE1 X e te) (hb : PE X f tf) : PE1 X (.BinOp e op f pos) (tOp r te tf) := by
  intro pins s σ H Q I h
  refine wpAny_BinOp (thn (ha pins s σ H _ I h) fun v s1 q => ?_)
  obtain ⟨t1, x, H1, I1, r1, q1⟩ := q
  refine wpAny_mono (PySem.wpAny_toks_of t1 (hb.run pins s1 σ H1 _ I1 q1)) (fun u s2 q => ?_) fun _ _ z => z.2
  obtain ⟨t2, y, H2, I2, r2, q2⟩ := q
  exact wpAny_mono (PySem.wpAny_toks_of t2 (ho pins s2 σ H2 x y v u Q I2 r1 r2 q2)) (fun _ _ z => z) fun _ _ z => z.2
theorem pi1_range1 {tg a : Expr} {te : TE} {p pos : Pos} (hg : Gl X "range") (hm : X.mg "range" = none) (ha : PE1 X a te) (hs : starEach [a] X.env = [(false, eval a X.env)] := by rfl) : PI1 X tg (.Call (.Name "range" p) [a] [] pos) (iRng1 (tCons te tNil)) := by
  intro pins s σ H R I h
  refine PyProof.Rows.Call_ (ld_blt I hg hm PyProof.Rows.boot_range (PyProof.Rows.callWith_type1 ?_ hs rfl))
  rw [hs]
  show wpAny _ _ (spliced ((false, eval a X.env) :: backTo pos (starEach [] X.env))) _ _ s
  refine Calls.spliced_cons (thn (ha pins s σ H _ I h) fun u s1 q => Calls.spliced_nil ?_)
  obtain ⟨t1, x, H1, I1, r1, j, e, q1, q2, q⟩ := q
  cases e
  obtain ⟨t, rfl⟩ := r1
  exact wpAny_mono (PySem.wpAny_toks_of t1 (call_range_1 (range_it I1 (by omega) (by omega) q1 q2 (by simpa using q)))) (fun _ _ z => z) fun _ _ z => z.2
end
section
open PyProof.Rows
variable {X : Cx}
/-- x.split(sep), a token out -/
theorem pet_split {o e : Expr} {to te : TE} {apos pos : Pos} (ho : PET X o to) (he : PE X e te) (hs : starEach [e] X.env = [(false, eval e X.env)] := by rfl) (hbase : attributeBase o "split" X.env (eval o X.env) = eval o X.env := by rfl) (hline : (apos.endLine == pos.line) = true := by rfl) :
    PET X (.Call (.Attribute o "split" apos) [e] [] pos) (tM1 (fun x xs H Q => ∃ a b, x = .str a ∧ xs = [.str b] ∧ (b.length == 0) = false ∧ a.length + 2 ≤ sizeLine ∧ rNewStrs (Txt.split a b) H Q) to te) := by
  intro pins s σ H Q h0 I h
  refine PySem.Call_method1 hbase hs hline (thn (ho pins s σ H _ h0 I h) fun v s1 ⟨x, H1, I1, r1, q1⟩ => ?_)
  obtain ⟨⟨a, rfl⟩, q1⟩ := q1
  obtain ⟨t, rfl⟩ := _root_.id r1
  refine ⟨"str", _, F.plainAttrs_str, F.slot_str_split, F.type_str_split, typeIs_str _ _ _, (fun _ e => nomatch e), Calls.callWith_builtin rfl (Calls.evalArgs_plain (Calls.spliced_cons ?_))⟩
  exact thn (he.run pins s1 σ H1 _ I1 q1) fun u s2 ⟨y, H2, I2, r2, q2⟩ => Calls.spliced_nil (mt_split pins s2 σ H2 _ [y] _ [u] Q I2 r1 (.cons r2 .nil) q2)
/-- a, b = x, y with plain local names, a token out -/
theorem pst_par {i j : Nat} {x y : Str} {a b : Expr} {ta : TA} {px py pt : Pos} {pos : Pos} {kt k2 pt2} (hc : X.calm = true) (hN : X.N.Nodup) (hi : X.N[i]? = some x) (hj : X.N[j]? = some y) (hij : i ≠ j)
    (hx : X.env.scope.names.lookup x = some .local) (hy : X.env.scope.names.lookup y = some .local) (ha : PAT X [a, b] ta)
    (hw : swappedStores [.Tuple [.Name x px, .Name y py] kt pt] (.Tuple [a, b] k2 pt2) X.env = pure (some [x, y]))
    (hs : swapsWithSole [.Tuple [.Name x px, .Name y py] kt pt] (.Tuple [a, b] k2 pt2) pos.line X.env = pure false := by rfl) :
    PST X (.Assign [.Tuple [.Name x px, .Name y py] kt pt] (.Tuple [a, b] k2 pt2) pos) (tPar i j ta) := by
  intro pins s σ H D h0 I h
  rw [exec_Assign_arm]
  refine wpAny_bind (wpAny_standAt ?_)
  rw [hs]
  refine wpAny_bind (wpAny_pure ?_)
  rw [if_neg (by decide)]
  refine wpAny_bind (Tuple_ (thn (ha _ pins s σ H _ h0 I h) fun us s1 ⟨vs, H1, I1, r1, q1⟩ => ?_))
  obtain ⟨v, w, e1, q1⟩ := q1
  subst e1
  obtain ⟨u1, u2, rfl, rv, rw'⟩ : ∃ u1 u2, us = [u1, u2] ∧ RelV v u1 ∧ RelV w u2 := by
    cases r1 with
    | cons p q =>
      cases q with
      | cons p' q' =>
        cases q'
        exact ⟨_, _, rfl, p, p'⟩
  refine wpAny_newObj_type ?_ (by show 2 ≤ sizeLine; decide)
  have I2 : Inv X pins σ H1 { s1 with heap := s1.heap.push { cls := .type "tuple", data := .seq [u1, u2].toArray } } := I1.kept (t' := s1.toks) fun b o e => Heap.get?_push_of_some _ e
  rw [hw]
  refine wpAny_bind (wpAny_pure ?_)
  show wpAny (model X.prog X.w) X.A (do rule "assign.swapped-stores"; let items ← unpackItems (.ref s1.heap.objs.size) 2 none; assignInOrder [fun v => bindName X.env y v, fun v => bindName X.env x v] items.reverse; pure Flow.next) _ _ _
  refine wpAny_bind (wpAny_rule (wpAny_bind (unpackItems_tuple (items := #[u1, u2]) (I.ok.hd hc) (IsTup.new s1.heap _) fun h' hx' => ?_)))
  have I3 := I2.kept (h' := h') (t' := s1.toks) fun b o e => hx' b o (Nat.ne_of_lt (Heap.lt_size e)) e
  show wpAny _ _ (assignInOrder [fun v => bindName X.env y v, fun v => bindName X.env x v] [u2, u1] >>= fun _ => pure Flow.next) _ _ _
  refine wpAny_bind (assignInOrder_cons (wpAny_bindName (store_ok I3 hN hj (.inl hy) rw' (fun s2 I4 => ?_) (.inr hy))))
  refine assignInOrder_cons (wpAny_bindName (store_ok I4 hN hi (.inl hx) rv (fun s3 I5 => assignInOrder_nil (wpAny_pure ?_)) (.inr hx)))
  rw [List.set_comm _ _ (Ne.symm hij)] at I5
  exact ⟨_, H1, I5, q1⟩
end
/-! ### tests in that mode -/
section
open PyProof.Rows (isTrue_plain isTrue_not)
variable {X : Cx} {e c : Expr} {te : TE} {tc : TT} {A B : List Stmt} {t u : TS} {pos : Pos}
def PTT (X : Cx) (e : Expr) (t : TT) : Prop :=
  ∀ (pins : List (Addr × Obj)) (s : Shared) (σ : St) (H : Hp) (Q : Bool → Hp → Prop), 1 ≤ s.toks → Inv X pins σ H s → t σ H Q → wpAny (model X.prog X.w) X.A (isTrue e X.env (eval e X.env)) (TP X pins σ Q) X.xe s
theorem PTT.of (h : PT X c tc) : PTT X c tc := fun pins s σ H Q _ I q => h.run pins s σ H Q I q
theorem ptt_val (h : PET X e te) (he : ∀ whole, isTrue e X.env whole = (do let v ← whole; standAt e.pos; holding [v] (truthy v)) := by intro _; rfl) : PTT X e (tB te) := by
  intro pins s σ H Q h0 I hw
  refine isTrue_plain (thn (h pins s σ H _ h0 I hw) fun v s1 ⟨x, H1, I1, r1, q1⟩ => ?_) (he _)
  obtain ⟨d, rfl, q⟩ := q1
  cases r1
  exact wpAny_truthy_bool ⟨H1, I1, q⟩
theorem ptt_not (ha : PTT X c tc) : PTT X (.UnaryOp .Not c pos) (tNot tc) := by
  intro pins s σ H Q h0 I h
  exact isTrue_not (ha pins s σ H (fun c H1 => Q (!c) H1) h0 I h)
theorem pst_ifT (hc : PTT X c tc) (ha : PSsT X A t) (hb : PSsT X B u) : PST X (.If c A B pos) (tIfS tc t u) := by
  intro pins s σ H D h0 I h
  refine wpAny_If (wpAny_mono (PySem.wpAny_toks_of h0 (hc pins s σ H _ h0 I h)) (fun d s1 q => ?_) fun _ _ z => z.2)
  obtain ⟨hk, H1, I1, q1⟩ := q
  cases d with
  | true => exact ha pins s1 σ H1 D hk I1 q1
  | false => exact hb pins s1 σ H1 D hk I1 q1
end
/-! ### comparisons and `and` in that mode; statements that put a token out -/
section
variable {X : Cx} {a b e f : Expr} {ta tb te : TE} {rest : List Expr} {st : Stmt} {sts : List Stmt} {t u : TS} {pos : Pos}
theorem pet_cmpR {op : CmpOp} {r : R2} (ho : OpR X (compareOp op) r) (ha : PET X a ta) (hb : PET X b tb) (hm : behindInMarks op b = false) : PET X (.Compare a [op] [b] pos) (tOp r ta tb) := by
  intro pins s σ H Q h0 I h
  refine wpAny_Compare1 (wpAny_mono (PySem.wpAny_toks_of h0 (ha pins s σ H _ h0 I h)) (fun v s1 q => ?_) fun _ _ z => z.2) hm
  obtain ⟨h1, x, H1, I1, r1, q1⟩ := q
  exact thn (hb pins s1 σ H1 _ h1 I1 q1) fun u s2 ⟨y, H2, I2, r2, q2⟩ => ho pins s2 σ H2 x y v u Q I2 r1 r2 q2
theorem pet_one {op : BoolOp} (h : PET X a ta) : PET X (.BoolOp op [a] pos) ta := fun pins s σ H Q h0 I hw => PyProof.Rows.BoolOp_one (h pins s σ H Q h0 I hw)
theorem pet_and (ha : PET X a ta) (hb : PET X (.BoolOp .And (b :: rest) pos) tb) : PET X (.BoolOp .And (a :: b :: rest) pos) (tAndV ta tb) := by
  intro pins s σ H Q h0 I h
  refine PyProof.Rows.BoolOp_and (wpAny_mono (PySem.wpAny_toks_of h0 (ha pins s σ H _ h0 I h)) (fun v s1 q => ?_) fun _ _ z => z.2)
  obtain ⟨h1, x, H1, I1, r1, c, rfl, q1⟩ := q
  cases r1
  refine wpAny_truthy_bool ?_
  cases c with
  | true => exact hb pins s1 σ H1 Q h1 I1 q1
  | false => exact ⟨.bl false, H1, I1, rfl, q1⟩
/-- a test against a written number puts a token out -/
theorem ptc_cmpI {op : CmpOp} {r : R2} {x : Int} {j : Nat} {p : Pos} (ho : OpR X (compareOp op) r) (ha : PE X a ta) (hm : behindInMarks op (.Constant (.int x) j p) = false) : PTC X (.Compare a [op] [.Constant (.int x) j p] pos) (tTest (tOp r ta (tC (.int x)))) := by
  intro pins s σ H Q I h
  refine wpAny_isTrue_Compare1 (thn (ha.run pins s σ H _ I h) fun v s1 ⟨y, H1, I1, r1, q1⟩ => wpAny_Constant_int ?_) hm
  refine wpAny_mono (PySem.wpAny_toks_of (n := 1) (by show 1 ≤ s1.toks + 1; omega) (ho pins { s1 with toks := s1.toks + 1 } σ H1 y (.int x) v (.int x s1.toks) _ (I1.tok _) r1 ⟨_, rfl⟩ q1)) (fun c s3 q => ?_) fun _ _ z => z.2
  obtain ⟨hk, z, H3, I3, r3, k, e, q3⟩ := q
  subst e
  cases r3
  exact wpAny_truthy_bool ⟨hk, H3, I3, q3⟩
/-- a statement behind which a token is out -/
def PS1 (X : Cx) (st : Stmt) (t : TS) : Prop :=
  ∀ (pins : List (Addr × Obj)) (s : Shared) (σ : St) (H : Hp) (D : Ends), Inv X pins σ H s → t D σ H → wpAny (model X.prog X.w) X.A (exec st X.env) (fun fl s1 => 1 ≤ s1.toks ∧ SP X pins D fl s1) X.xe s
theorem pss_cons1 (h1 : PS1 X st t) (h2 : PSsT X sts u) : PSs X (st :: sts) (tSeq t u) := by
  refine ⟨fun pins s σ H D I h => ?_⟩
  refine wpAny_execs_cons (thn (h1 pins s σ H { D with nx := u D } I h) fun f s1 q => ?_)
  obtain ⟨hk, q⟩ := q
  cases f with
  | next =>
    obtain ⟨σ', H', I', q⟩ := q
    exact h2 pins s1 σ' H' D hk I' q
  | ret v => exact q
  | brk => exact q
  | cont => exact q
theorem ps1_set {i : Nat} {x : Str} {pos' : Pos} (hN : X.N.Nodup) (hi : X.N[i]? = some x) (hx : Loc X.env.scope x) (he : PE1 X e te) (hs : swapsWith e (some (.Name x pos')) pos.line X.env = pure false := by rfl) (hf : X.fn x = true ∨ X.env.scope.names.lookup x = some .local := by first | exact .inl rfl | exact .inr rfl | assumption) :
    PS1 X (.Assign [.Name x pos'] e pos) (tAsg te (gName i)) := by
  intro pins s σ H D I h
  refine wpAny_Assign_Name (thn (he pins s σ H _ I h) fun v s1 q => ?_) hs
  obtain ⟨h1, y, H1, I1, r1, q1⟩ := q
  refine wpAny_mono (PySem.wpAny_toks_of h1 (store_ok (Q := fun _ s2 => SP X pins D .next s2) I1 hN hi hx r1 (fun s2 I2 => ⟨_, H1, I2, q1⟩) hf)) (fun _ s2 q => ⟨q.1, q.2⟩) fun _ _ z => z.2
end
end Lx
namespace Lw
open PySem PySem.Spec L2 Lx
open PySem.StrLaws (replL replL_hit replL_miss replL_nil)
/-! ### a chain cut at its M and N -/
def dec : List Nat → List Nat × List (Nat × List Nat)
  | [] => ([], [])
  | c :: r => if c = 77 ∨ c = 78 then ([], (c, (dec r).1) :: (dec r).2) else (c :: (dec r).1, (dec r).2)
def ext (q : List (Nat × List Nat)) : List Nat := q.flatMap fun m => m.1 :: m.2
theorem ext_cons (m : Nat × List Nat) (q : List (Nat × List Nat)) : ext (m :: q) = m.1 :: (m.2 ++ ext q) := by
  unfold ext
  rw [List.flatMap_cons]
  rfl
theorem ext_app (p q : List (Nat × List Nat)) : ext (p ++ q) = ext p ++ ext q := by
  unfold ext
  rw [List.flatMap_append]
theorem dec_eq : ∀ cs : List Nat, cs = (dec cs).1 ++ ext (dec cs).2
  | [] => rfl
  | c :: r => by
    have ih := dec_eq r
    unfold dec
    split
    · rw [ext_cons]
      show c :: r = c :: ((dec r).1 ++ ext (dec r).2)
      rw [← ih]
    · show c :: r = c :: ((dec r).1 ++ ext (dec r).2)
      rw [← ih]
abbrev UD (c : Nat) : Prop := c = 85 ∨ c = 68
theorem dec_ok : ∀ cs : List Nat, (∀ c ∈ cs, c ∈ steps.cps.toList) → (∀ c ∈ (dec cs).1, UD c) ∧ ∀ m ∈ (dec cs).2, (m.1 = 77 ∨ m.1 = 78) ∧ ∀ c ∈ m.2, UD c
  | [], _ => ⟨(fun c h => (List.not_mem_nil h).elim), (fun c h => (List.not_mem_nil h).elim)⟩
  | c :: r, h => by
    have ih := dec_ok r fun d hd => h d (List.mem_cons_of_mem _ hd)
    have hc : c ∈ ([85, 68, 77, 78] : List Nat) := h c List.mem_cons_self
    simp only [List.mem_cons, List.not_mem_nil, or_false] at hc
    unfold dec
    split
    · rename_i hm
      refine ⟨(fun d hd => (List.not_mem_nil hd).elim), fun m hm' => ?_⟩
      rcases List.mem_cons.mp hm' with rfl | h'
      · exact ⟨hm, ih.1⟩
      · exact ih.2 m h'
    · rename_i hm
      refine ⟨fun d hd => ?_, ih.2⟩
      rcases List.mem_cons.mp hd with rfl | h'
      · show d = 85 ∨ d = 68
        omega
      · exact ih.1 d h'
theorem joinL_head (c : Nat) (p : List Nat) (q : List (List Nat)) : TL.joinL [77] ((c :: p) :: q) = c :: TL.joinL [77] (p :: q) := by
  cases q <;> rfl
theorem dec_join : ∀ cs : List Nat, (∀ c ∈ cs, c ∈ steps.cps.toList) → replL [78] [77] cs = TL.joinL [77] ((dec cs).1 :: (dec cs).2.map (·.2))
  | [], _ => replL_nil
  | c :: r, h => by
    have ih := dec_join r fun d hd => h d (List.mem_cons_of_mem _ hd)
    have hc : c ∈ ([85, 68, 77, 78] : List Nat) := h c List.mem_cons_self
    simp only [List.mem_cons, List.not_mem_nil, or_false] at hc
    unfold dec
    by_cases h78 : c = 78
    · subst h78
      rw [replL_hit (by simp) (by simp), if_pos (.inr rfl)]
      show [77] ++ replL [78] [77] r = [] ++ ([77] ++ TL.joinL [77] ((dec r).1 :: (dec r).2.map (·.2)))
      rw [ih]
      rfl
    · rw [replL_miss (by simp; omega)]
      by_cases h77 : c = 77
      · subst h77
        rw [if_pos (.inl rfl)]
        show 77 :: replL [78] [77] r = [] ++ ([77] ++ TL.joinL [77] ((dec r).1 :: (dec r).2.map (·.2)))
        rw [ih]
        rfl
      · rw [if_neg (by omega), ih]
        exact (joinL_head _ _ _).symm
theorem dec_cut (cs : List Nat) (h : ∀ c ∈ cs, c ∈ steps.cps.toList) : TL.spl [77] 0 [] (replL [78] [77] cs) = (dec cs).1 :: (dec cs).2.map (·.2) := by
  rw [dec_join cs h]
  have ok := dec_ok cs h
  refine TL.spl_join (by simp) fun p hp => ?_
  intro h77
  rcases List.mem_cons.mp hp with rfl | h'
  · have := ok.1 77 h77
    omega
  · obtain ⟨m, hm, rfl⟩ := List.mem_map.mp h'
    have := (ok.2 m hm).2 77 h77
    omega
/-! ### the form by heights -/
theorem ht_step {c : Nat} (hc : UD c) {lo hi : Int} (h1 : lo ≤ hi) (h2 : lo ≤ 0) {hi' lo' : Int} (e1 : hi' = hi + (if c = 68 then -1 else 1)) (e2 : lo' = if hi' < lo then hi' else lo) :
    (Fm.keep (0 - lo) (hi - lo)).both (stepF c) = .keep (0 - lo') (hi' - lo') ∧ lo' ≤ hi' ∧ lo' ≤ 0 := by
  rcases hc with rfl | rfl
  · rw [if_neg (by decide)] at e1
    rw [if_neg (by omega)] at e2
    subst e1 e2
    refine ⟨?_, by omega, h2⟩
    show Fm.keep (0 - lo' + (if 0 - (hi - lo') > 0 then 0 - (hi - lo') else 0)) ((if hi - lo' - 0 > 0 then hi - lo' - 0 else 0) + 1) = _
    congr 1 <;> split <;> omega
  · rw [if_pos rfl] at e1
    subst e1
    split at e2
    · subst e2
      refine ⟨?_, by omega, by omega⟩
      show Fm.keep (0 - lo + (if 1 - (hi - lo) > 0 then 1 - (hi - lo) else 0)) ((if hi - lo - 1 > 0 then hi - lo - 1 else 0) + 0) = _
      congr 1 <;> split <;> omega
    · subst e2
      refine ⟨?_, by omega, h2⟩
      show Fm.keep (0 - lo' + (if 1 - (hi - lo') > 0 then 1 - (hi - lo') else 0)) ((if hi - lo' - 1 > 0 then hi - lo' - 1 else 0) + 0) = _
      congr 1 <;> split <;> omega
theorem lf_ud {c : Nat} (hc : UD c) {b a k d : Int} (h0 : 0 ≤ d) {d' : Int} (e : d' = if d + (if c = 68 then -1 else 1) > 0 then d + (if c = 68 then -1 else 1) else 0) :
    (Fm.lf b a k d).both (stepF c) = .lf b a k d' ∧ 0 ≤ d' := by
  rcases hc with rfl | rfl
  · have e0 : (if (85 : Nat) = 68 then (-1 : Int) else 1) = 1 := if_neg (by decide)
    rw [e0, if_pos (by omega)] at e
    refine ⟨?_, by omega⟩
    show Fm.lf b a k ((if d - 0 > 0 then d - 0 else 0) + 1) = _
    congr 1
    split <;> omega
  · have e0 : (if (68 : Nat) = 68 then (-1 : Int) else 1) = -1 := if_pos rfl
    rw [e0] at e
    refine ⟨?_, by split at e <;> omega⟩
    show Fm.lf b a k ((if d - 1 > 0 then d - 1 else 0) + 0) = _
    congr 1
    split <;> split at e <;> omega
theorem cr_ud {b a k : Int} : ∀ p : List Nat, (∀ c ∈ p, UD c) → p.foldl (fun f c => f.both (stepF c)) (Fm.cr b a k) = .cr b a k
  | [], _ => rfl
  | c :: p, h => by
    have : (Fm.cr b a k).both (stepF c) = .cr b a k := by
      rcases h c List.mem_cons_self with rfl | rfl <;> rfl
    rw [List.foldl_cons, this]
    exact cr_ud p fun d hd => h d (List.mem_cons_of_mem _ hd)
theorem mn_keep {m : Nat} (hm : m = 77 ∨ m = 78) {b a : Int} (h : 0 ≤ a) : (Fm.keep b a).both (stepF m) = if m = 78 then .cr b a 1 else .lf b a 1 0 := by
  rcases hm with rfl | rfl
  · show Fm.lf (b + (if 0 - a > 0 then 0 - a else 0)) ((if a - 0 > 0 then a - 0 else 0) + 0) 1 0 = _
    rw [if_neg (by decide : ¬ (77 : Nat) = 78)]
    congr 1 <;> split <;> omega
  · show Fm.cr (b + (if 0 - a > 0 then 0 - a else 0)) ((if a - 0 > 0 then a - 0 else 0) + 0) 1 = _
    rw [if_pos (rfl : (78 : Nat) = 78)]
    congr 1 <;> split <;> omega
theorem mn_lf {m : Nat} (hm : m = 77 ∨ m = 78) {b a k d : Int} (h : 0 ≤ d) : (Fm.lf b a k d).both (stepF m) = if m = 78 then .cr b a (k * (d + 1)) else .lf b a (k * (d + 1)) 0 := by
  have e1 : ∀ k' c', Fm.after (.lf 0 0 k' c') d = d := fun k' c' => by
    unfold Fm.after Fm.b Fm.a
    dsimp only
    split <;> omega
  have e2 : ∀ k', Fm.after (.cr 0 0 k') d = d := fun k' => by
    unfold Fm.after Fm.b Fm.a
    dsimp only
    split <;> omega
  rcases hm with rfl | rfl
  · show Fm.lf b a (k * (Fm.after (.lf 0 0 1 0) d + 1) * 1) 0 = _
    rw [e1, Int.mul_one, if_neg (by decide : ¬ (77 : Nat) = 78)]
  · show Fm.cr b a (k * (Fm.after (.cr 0 0 1) d + 1) * 1) = _
    rw [e2, Int.mul_one, if_pos (rfl : (78 : Nat) = 78)]
theorem mn_cr {m : Nat} (hm : m = 77 ∨ m = 78) {b a k : Int} : (Fm.cr b a k).both (stepF m) = if m = 78 then .cr b a k else .lf b a k 0 := by
  rcases hm with rfl | rfl
  · show Fm.lf b a (k * 1 * 1) 0 = _
    rw [Int.mul_one, Int.mul_one, if_neg (by decide : ¬ (77 : Nat) = 78)]
  · show Fm.cr b a (k * 1 * 1) = _
    rw [Int.mul_one, Int.mul_one, if_pos (rfl : (78 : Nat) = 78)]
theorem formL_fleF : ∀ (k : Nat) (cs : List Nat), cs.length = k → k ≤ 7000 → (∀ c ∈ cs, c ∈ steps.cps.toList) → FLe k (formL cs)
  | 0, cs, h, _, _ => by
    rw [List.length_eq_zero_iff.mp h]
    exact ⟨by decide, by decide, by decide, by decide⟩
  | k + 1, cs, h, hk, hc => by
    rcases List.eq_nil_or_concat cs with rfl | ⟨ds, c, rfl⟩
    · cases h
    · have e : ds.length = k := by simpa using h
      rw [List.concat_eq_append] at hc ⊢
      rw [formL_snoc]
      exact FLe.step (by omega) (hc c (by simp)) (formL_fleF k ds e (by omega) fun d hd => hc d (List.mem_append_left _ hd))
end Lw
namespace Lw
open PySem PySem.Spec L2 Lx
theorem scLF : FnScope ["letters", "parts", "spot", "low", "high", "letter", "factor", "loose", "last", "part"] ["letters"] (defScope sLForm) := ⟨rfl, rfl, rfl, by decide +kernel, rfl, by decide +kernel, by decide +kernel⟩
def spLF (K : PySem.W.Frag) : Sp := fun vs H Q _ => ∃ x : Str, vs = [.str x] ∧ ChOk x ∧ x.cps.size ≤ 7000 ∧ ∀ v H', Same H H' → FmAt K H' v (formOf x) → Q v H'
structure LfF (mg : Str → Option Value) : Prop where
  int : mg "int" = none
  min : mg "min" = none
  len : mg "len" = none
  max : mg "max" = none
theorem sgn_eq {c d : Nat} {u : Str} (hu : u = ⟨#[d]⟩) : decide (V.str ⟨#[c]⟩ = V.str u) = decide (c = d) := by
  subst hu
  by_cases h : c = d
  · subst h
    rw [decide_eq_true rfl, decide_eq_true rfl]
  · rw [decide_eq_false h]
    refine decide_eq_false fun e => h ?_
    have := congrArg (fun s : Str => s.cps.toList) (V.str.inj e)
    exact (List.cons.inj this).1
def mkS (l : List Nat) : Str := ⟨l.toArray⟩
theorem mkS_len (l : List Nat) : (mkS l).length = l.length := List.size_toArray ..
theorem parts_eq {x : Str} (hx : ChOk x) : Txt.split (Txt.replace x "N" "M") "M" = ((dec x.cps.toList).1 :: (dec x.cps.toList).2.map (·.2)).map mkS := by
  refine TL.map_tl_inj ?_
  rw [TL.split_spl _ "M" (by decide) (TL.kind_ok (by decide +kernel))]
  have e : TL.tl (Txt.replace x "N" "M") = PySem.StrLaws.replL [78] [77] x.cps.toList := PySem.StrLaws.replace_list (y := "N") (by decide)
  rw [e]
  refine (dec_cut x.cps.toList hx).trans ?_
  rw [List.map_map]
  exact (List.map_id _).symm
theorem cutV_1 (v : V) (l : List V) : cutV (v :: l) (some 1) none = l := by
  unfold cutV HT.sIx
  simp only [List.length_cons]
  rw [if_neg (by decide)]
  have : min (1 : Int).toNat (l.length + 1) = 1 := by show min 1 _ = 1; omega
  rw [this]
  show (l).take (l.length + 1 - 1) = l
  exact List.take_of_length_le (by omega)
theorem pick2 (c : Nat) : atI [V.int 1, .int (-1)] (if decide (c = 68) = true then (1 : Int) else 0) = some (.int (if c = 68 then -1 else 1)) := by
  by_cases h : c = 68
  · rw [decide_eq_true h, if_pos rfl, if_pos h]
    rfl
  · rw [decide_eq_false h, if_neg (by decide), if_neg h]
    rfl
theorem pickD (c : Nat) : atI [V.int 1, .int (-1)] (if decide (V.str ⟨#[c]⟩ = V.str "D") = true then (1 : Int) else 0) = some (.int (if c = 68 then -1 else 1)) := by
  rw [sgn_eq (u := "D") (d := 68) rfl]
  exact pick2 c
theorem ext_pos {q : List (Nat × List Nat)} (h : 0 < q.length) : 0 < (ext q).length := by
  cases q with
  | nil => cases h
  | cons m q => rw [ext_cons]; exact Nat.succ_pos _
theorem ext_len : ∀ q : List (Nat × List Nat), q.length ≤ (ext q).length
  | [] => Nat.le_refl _
  | m :: q => by
    have := ext_len q
    rw [ext_cons, List.length_cons, List.length_cons, List.length_append]
    omega
theorem rep_zero (z : Str) : (rep z 0).cps.toList = [] := rep_list z 0
section
variable {P : Program} {w : World} {K : PySem.W.Frag} {mg : Str → Option Value} {base : Heap}
theorem ok_lform {f : Addr} {fd : FuncData} {k : Nat} (F : Fun K "_law_form" "_law_form" sLForm f fd) (Z : LfF mg) : FnT P w K mg base CX0 (k + 1) f fd ["letters"] (spLF K) := by
  refine okT F scLF (fun vs H Q E h => ?_) (fun cdv A outer s H vs Q E hr h => ?_)
  · obtain ⟨x, rfl, _⟩ := h
    rfl
  · obtain ⟨x, rfl, hx, hsz, q⟩ := h
    refine ⟨_, (psst_cons (pst_par (i := 1) (j := 2) rfl scLF.nd rfl rfl (by decide) rfl rfl (pat_cons (pet_split (CwR.pet_replC (pv 0)) pe_str) (PAT.of (pa_cons pe_int pa_nil))) rfl) (PSsT.of 
      (pss_cons (ps_asg (pe_tup (pa_cons pe_int (pa_cons pe_int pa_nil))) (pg_tup (by rfl) (pgs_cons (pg_name (i := 3) scLF.nd rfl (.inl rfl)) (pgs_cons (pg_name (i := 4) scLF.nd rfl (.inl rfl)) pgs_nil))))
      (pss_cons (ps_for PassesOwn.never rfl (pi_str (pe_ix ix_list (pv 1) pe_int (fun _ _ => rfl))) (pg_name (i := 5) scLF.nd rfl (.inl rfl))
          (pss_cons (ps_set (i := 4) scLF.nd rfl (.inl rfl) (pe_op op_add (pv 4) (pe_ix ix_list (pe_lst (pa_cons pe_int (pa_cons (pe_un un_neg pe_int) pa_nil))) (pe_callTy call_int1 (by rfl) Z.int (by decide +kernel) (pa_cons (pe_cmpR op_eq (pv 5) pe_str (nomark _)) pa_nil)) (fun _ _ => rfl))))
          (pss_one (ps_set (i := 3) scLF.nd rfl (.inl rfl) (pe_callB (call_min2 rfl) (by rfl) Z.min (by decide +kernel) (pa_cons (pv 3) (pa_cons (pv 4) pa_nil)))))))
      (pss_cons (ps_if (pt_cmpR op_eq (pe_callB call_len_seq (by rfl) Z.len PySem.boot_len (pa_cons (pv 1) pa_nil)) pe_int (nomark _))
          (pss_one (ps_ret (pe_tup (pa_cons pe_str (pa_cons (pe_op op_sub pe_int (pv 3)) (pa_cons (pe_op op_sub (pv 4) (pv 3)) pa_nil)))))) pss_nil)
      (pss_cons (ps_asg (pe_tup (pa_cons pe_int (pa_cons pe_bl (pa_cons pe_int pa_nil)))) (pg_tup (by rfl) (pgs_cons (pg_name (i := 6) scLF.nd rfl (.inl rfl)) (pgs_cons (pg_name (i := 7) scLF.nd rfl (.inl rfl)) (pgs_cons (pg_name (i := 8) scLF.nd rfl (.inl rfl)) pgs_nil)))))
      (pss_cons (ps_set (i := 2) scLF.nd rfl (.inl rfl) (pe_callB call_len_str (by rfl) Z.len PySem.boot_len (pa_cons (pe_ix ix_list (pv 1) pe_int (fun _ _ => rfl)) pa_nil)))
      (pss_cons (ps_for PassesOwn.never rfl (pi_list (pe_slice sl_list (pv 1) (po_some pe_int) po_none)) (pg_name (i := 9) scLF.nd rfl (.inl rfl))
          (pss_cons (ps_set (i := 7) scLF.nd rfl (.inl rfl) (pe_cmpR op_eq (pe_ix ix_str (pv 0) (pv 2) (fun _ _ => rfl)) pe_str (nomark _)))
          (pss_cons (ps_set (i := 8) scLF.nd rfl (.inl rfl) pe_int)
          (pss_cons (ps_for PassesOwn.never rfl (pi_str (pe_op op_repS (pv 9) (pe_callTy call_int1 (by rfl) Z.int (by decide +kernel) (pa_cons (pe_not (pv 7)) pa_nil)))) (pg_name (i := 5) scLF.nd rfl (.inl rfl))
              (pss_one (ps_set (i := 8) scLF.nd rfl (.inl rfl) (pe_callB (call_max2 rfl) (by rfl) Z.max (by decide +kernel) (pa_cons pe_int (pa_cons (pe_op op_add (pv 8) (pe_ix ix_list (pe_lst (pa_cons pe_int (pa_cons (pe_un un_neg pe_int) pa_nil))) (pe_callTy call_int1 (by rfl) Z.int (by decide +kernel) (pa_cons (pe_cmpR op_eq (pv 5) pe_str (nomark _)) pa_nil)) (fun _ _ => rfl))) pa_nil))))))
          (pss_cons (ps_set (i := 2) scLF.nd rfl (.inl rfl) (pe_op op_add (pe_op op_add (pv 2) pe_int) (pe_callB call_len_str (by rfl) Z.len PySem.boot_len (pa_cons (pv 9) pa_nil))))
          (pss_one (ps_if (pt_cmpR op_lt (pv 2) (pe_callB call_len_str (by rfl) Z.len PySem.boot_len (pa_cons (pv 0) pa_nil)) (nomark _))
              (pss_one (ps_set (i := 6) scLF.nd rfl (.inl rfl) (pe_op op_mulW (pv 6) (pe_op op_add (pv 8) pe_int)))) pss_nil)))))))
      (pss_cons (ps_if (pt_val (pv 7))
          (pss_one (ps_ret (pe_tup (pa_cons pe_str (pa_cons (pe_op op_sub pe_int (pv 3)) (pa_cons (pe_op op_sub (pv 4) (pv 3)) (pa_cons (pv 6) pa_nil))))))) pss_nil)
      (pss_one (ps_ret (pe_tup (pa_cons pe_str (pa_cons (pe_op op_sub pe_int (pv 3)) (pa_cons (pe_op op_sub (pv 4) (pv 3)) (pa_cons (pv 6) (pa_cons (pv 8) pa_nil))))))))))))))))), ?_⟩
    have hxl : x.cps.toList.length = x.cps.size := Array.length_toList ..
    refine ⟨_, rfl, x, rfl, ?_, ⟨_, rfl⟩, Txt.replace x "N" "M", "M", rfl, rfl, rfl, ?_, fun p np => ⟨_, _, rfl, ?_⟩⟩
    · show x.cps.size + (x.cps.size + 1) * 1 ≤ 16777216
      omega
    · have e : (Txt.replace x "N" "M").cps.toList = PySem.StrLaws.replL [78] [77] x.cps.toList := PySem.StrLaws.replace_list (y := "N") (by decide)
      have h1 := replS_len (y := [78]) (z := [77]) (by decide) x.cps.toList 0
      have h2 : (Txt.replace x "N" "M").cps.toList.length = (Txt.replace x "N" "M").length := Array.length_toList ..
      rw [← h2, e, sizeLine_eq]
      show (PySem.StrLaws.replS [78] [77] 0 x.cps.toList).length + 2 ≤ _
      omega
    rw [parts_eq hx]
    have hcs := dec_eq x.cps.toList
    obtain ⟨hp0, hq⟩ := dec_ok x.cps.toList hx
    generalize (dec x.cps.toList).1 = p0 at hcs hp0
    generalize (dec x.cps.toList).2 = qs at hcs hq
    have s1 := same_upd (o := .lst (((p0 :: qs.map (·.2)).map mkS).map V.str)) np
    have hP : upd H p (.lst (((p0 :: qs.map (·.2)).map mkS).map V.str)) p = some (.lst (V.str (mkS p0) :: qs.map fun m => V.str (mkS m.2))) := by
      rw [upd_same, List.map_cons, List.map_cons, List.map_map, List.map_map]
      rfl
    generalize upd H p (.lst (((p0 :: qs.map (·.2)).map mkS).map V.str)) = H1 at s1 hP
    clear np
    refine ⟨by show 2 ≤ sizeLine; decide, fun T nT => ⟨T, _, rfl, .inl (.inl upd_same), rfl, _, _, rfl, _, _, rfl, rfl, ?_⟩⟩
    have s2 := s1.trans (same_upd (o := .tup [.int 0, .int 0]) nT)
    replace hP := same_upd (o := .tup [.int 0, .int 0]) nT _ _ hP
    generalize upd H1 T (.tup [.int 0, .int 0]) = H2 at s2 hP
    clear nT s1
    have hlen0 : p0.length + (ext qs).length ≤ 7000 := by
      have := congrArg List.length hcs
      rw [List.length_append] at this
      omega
    refine ⟨_, rfl, p, _, 0, _, rfl, rfl, .inl (.inl hP), atI_nat (j := 0) rfl, mkS p0, rfl, ?_⟩
    refine for_it walk_str (fun i σ H' => Same H2 H' ∧ ∃ (lo hi : Int) (y5 : Option V), σ = [some (.str x), some (.ref p), some (.int 0), some (.int lo), some (.int hi), y5, none, none, none, none] ∧ lo ≤ hi ∧ lo ≤ 0 ∧ formL (p0.take i) = .keep (0 - lo) (hi - lo))
      ⟨Same.refl _, 0, 0, none, rfl, by decide, by decide, rfl⟩ (fun _ _ _ _ _ => trivial) ?_ ?_
    · rintro i u σ H3 H4 hi ⟨sm, lo, hi', y5, rfl, h1, h2, hf⟩ ⟨rfl, c, hc, rfl⟩
      have hc' : p0[i]? = some c := by
        have : (mkS p0).cps.toList[i]? = some c := by rw [Array.getElem?_toList]; exact hc
        exact this
      have hcu := hp0 c (List.mem_of_getElem? hc')
      have htk : p0.take (i + 1) = p0.take i ++ [c] := by
        rw [List.take_succ, hc']
        rfl
      refine ⟨_, rfl, 1, rfl, by show 2 ≤ sizeLine; decide, fun L nL => ?_⟩
      refine ⟨_, rfl, rfl, .inr ⟨_, rfl, ?_⟩⟩
      refine ⟨L, _, _, _, rfl, rfl, .inl (.inl upd_same), pickD c, _, _, rfl, rfl, ?_⟩
      refine ⟨_, rfl, _, rfl, _, _, rfl, ?_⟩
      obtain ⟨e1, e2, e3⟩ := ht_step hcu h1 h2 (hi' := hi' + (if c = 68 then -1 else 1)) rfl rfl
      refine ⟨sm.trans (same_upd nL), _, _, _, rfl, e2, e3, ?_⟩
      rw [htk, formL_snoc, hf]
      exact e1
    · rintro σ H3 ⟨sm3, lo, hi', y5, rfl, h1, h2, hf⟩
      have e0 : p0.take (mkS p0).cps.size = p0 := List.take_of_length_le (by show p0.length ≤ p0.toArray.size; rw [List.size_toArray]; exact Nat.le_refl _)
      rw [e0] at hf
      have s3 := s2.trans sm3
      have hP3 := sm3 _ _ hP
      refine ⟨_, rfl, p, _, rfl, .inl (.inl (.inl hP3)), rfl, _, rfl, ?_⟩
      cases qs with
      | nil =>
        refine iteT ⟨_, rfl, _, _, rfl, rfl, _, rfl, _, rfl, _, _, rfl, rfl, by show 3 ≤ sizeLine; decide, fun t nt => ?_⟩
        have s4 := same_upd (o := .tup (Fm.keep (0 - lo) (hi' - lo)).vs) nt
        refine q _ _ (s3.trans s4) ⟨t, rfl, .inl (.inl ?_)⟩
        have : formOf x = .keep (0 - lo) (hi' - lo) := by
          unfold formOf
          rw [hcs]
          show formL (p0 ++ []) = _
          rw [List.append_nil, hf]
        rw [this]
        exact upd_same
      | cons m0 qr =>
        generalize hqs : m0 :: qr = qs at *
        have hn0 : 0 < qs.length := by rw [← hqs]; exact Nat.succ_pos _
        have hn1 : decide (V.int ((V.str (mkS p0) :: qs.map fun m => V.str (mkS m.2)).length : Int) = V.int 1) = false := decide_eq_false fun e => by
          have := V.int.inj e
          rw [List.length_cons, List.length_map] at this
          omega
        rw [hn1]
        refine iteF ?_
        refine ⟨by show 3 ≤ sizeLine; decide, fun T2 n2 => ⟨T2, _, rfl, .inl (.inl upd_same), rfl, _, _, rfl, _, _, rfl, _, _, rfl, rfl, ?_⟩⟩
        have s4 := same_upd (o := .tup [.int 1, .bl false, .int 0]) n2
        have hP4 := s4 _ _ hP3
        replace s3 := s3.trans s4
        generalize upd H3 T2 (.tup [.int 1, .bl false, .int 0]) = H4 at s3 hP4
        clear s4 n2
        refine ⟨_, rfl, p, _, 0, _, rfl, rfl, .inl (.inl hP4), atI_nat (j := 0) rfl, mkS p0, rfl, by rw [mkS_len, sizeLine_eq]; omega, ?_⟩
        rw [mkS_len]
        refine ⟨_, rfl, 1, rfl, p, _, rfl, .inl (.inl hP4), fun p2 m2 => ?_⟩
        rw [cutV_1]
        have s5 := s3.trans (same_upd (o := .lst (qs.map fun m => V.str (mkS m.2))) m2)
        have hP5 : upd H4 p2 (.lst (qs.map fun m => V.str (mkS m.2))) p2 = _ := upd_same
        generalize upd H4 p2 (.lst (qs.map fun m => V.str (mkS m.2))) = H5 at s5 hP5
        clear m2 hP4 s3
        refine ⟨p2, rfl, ⟨_, .inl (.inl hP5)⟩, ?_⟩
        have hA0 : ∀ m, m = 77 ∨ m = 78 → (formL p0).both (stepF m) = if m = 78 then .cr (0 - lo) (hi' - lo) 1 else .lf (0 - lo) (hi' - lo) 1 0 := fun m hm => by
          rw [hf]
          exact mn_keep hm (by omega)
        refine for_it (walk_list (xs := qs.map fun m => V.str (mkS m.2))) (fun i σ H' => Same H5 H' ∧ ∃ (fac last : Int) (loose : Bool) (y5 y9 : Option V), σ = [some (.str x), some (.ref p), some (.int ((p0 ++ ext (qs.take i)).length : Nat)), some (.int lo), some (.int hi'), y5, some (.int fac), some (.bl loose), some (.int last), y9] ∧
            (i < qs.length → ∀ m, m = 77 ∨ m = 78 → (formL (p0 ++ ext (qs.take i))).both (stepF m) = if m = 78 then .cr (0 - lo) (hi' - lo) fac else .lf (0 - lo) (hi' - lo) fac 0) ∧
            (0 < i → i = qs.length → formL (p0 ++ ext (qs.take i)) = if loose = true then .cr (0 - lo) (hi' - lo) fac else .lf (0 - lo) (hi' - lo) fac last) ∧ Sm (13 * i + 1) fac)
          ⟨Same.refl _, 1, 0, false, y5, none, by rw [List.take_zero]; show _ = [_, _, some (V.int ((p0 ++ []).length : Nat)), _, _, _, _, _, _, _]; rw [List.append_nil]; rfl, fun _ m hm => by rw [List.take_zero]; show (formL (p0 ++ [])).both _ = _; rw [List.append_nil]; exact hA0 m hm, fun h => absurd h (Nat.lt_irrefl 0), by unfold Sm; decide⟩ (fun _ _ _ _ hQ => .inl (.inl (hQ.1 _ _ hP5))) ?_ ?_
        · rintro i u σ H6 H7 hi ⟨sm, fac, last, loose, y5, y9, rfl, hA, hB, hfac⟩ ⟨rfl, hu⟩
          rw [List.length_map] at hi
          have hri : qs[i]? = some qs[i] := List.getElem?_eq_getElem hi
          rw [List.getElem?_map, hri] at hu
          cases Option.some.inj hu
          have hmq := hq _ (List.mem_of_getElem? hri)
          have htk : qs.take (i + 1) = qs.take i ++ [qs[i]] := by
            rw [List.take_succ, hri]
            rfl
          have hdr : qs = qs.take i ++ (qs[i] :: qs.drop (i + 1)) := by
            rw [← List.drop_eq_getElem_cons hi, List.take_append_drop]
          generalize qs[i] = m at hri hmq htk hdr
          obtain ⟨m1, m2⟩ := m
          obtain ⟨hm1, hm2⟩ := hmq
          replace hA := hA hi
          have hpre : ext (qs.take (i + 1)) = ext (qs.take i) ++ (m1 :: m2) := by
            rw [htk, ext_app, ext_cons]
            show _ ++ (m1 :: (m2 ++ [])) = _
            rw [List.append_nil]
          have hwhole : x.cps.toList = (p0 ++ ext (qs.take i)) ++ (m1 :: (m2 ++ ext (qs.drop (i + 1)))) := by
            rw [hcs]
            conv => lhs; rw [hdr]
            rw [ext_app, ext_cons, List.append_assoc]
          have hok : ∀ l r, x.cps.toList = l ++ r → ∀ c ∈ l, c ∈ steps.cps.toList := fun l r e c hc => hx c (by rw [e]; exact List.mem_append_left _ hc)
          generalize hpi : p0 ++ ext (qs.take i) = pre at *
          have hlp : pre.length + (1 + (m2.length + (ext (qs.drop (i + 1))).length)) = x.cps.size := by
            have := congrArg List.length hwhole
            rw [List.length_append, List.length_cons, List.length_append] at this
            omega
          have hat : atI x.cps.toList (pre.length : Int) = some m1 := by
            refine atI_nat ?_
            rw [hwhole, List.getElem?_append_right (Nat.le_refl _), Nat.sub_self]
            rfl
          refine ⟨_, rfl, _, rfl, x, _, m1, rfl, rfl, by show x.cps.size ≤ sizeLine; rw [sizeLine_eq]; omega, hat, rfl, ?_⟩
          show gName 7 (.bl (decide (V.str ⟨#[m1]⟩ = V.str "N"))) _ _ _
          rw [sgn_eq (u := "N") (d := 78) rfl]
          obtain ⟨b, hb⟩ : ∃ b, decide (m1 = 78) = b := ⟨_, rfl⟩
          rw [hb]
          have hb2 : ∀ (f g : Fm), (if m1 = 78 then f else g) = if b = true then f else g := fun f g => by
            rw [← hb]
            by_cases h : m1 = 78
            · rw [if_pos h, decide_eq_true h, if_pos rfl]
            · rw [if_neg h, decide_eq_false h, if_neg (by decide)]
          have hwT : (rep (mkS m2) (if (!b) = true then (1 : Int) else 0).toNat).cps.toList = if b = true then [] else m2 := by
            cases b with
            | true => exact rep_zero _
            | false =>
              show (rep (mkS m2) 1).cps.toList = m2
              rw [rep_one]
              rfl
          have hl2 : m2.length ≤ 7000 := by omega
          refine ⟨_, rfl, _, rfl, _, rfl, .inr ⟨_, rfl, mkS m2, _, rfl, rfl, ?_, ?_, ?_, _, rfl, ?_⟩⟩
          · split <;> decide
          · split <;> decide
          · rw [mkS_len, sizeLine_eq]
            split
            · show m2.length * 1 ≤ _
              omega
            · show m2.length * 0 ≤ _
              omega
          generalize rep (mkS m2) (if (!b) = true then (1 : Int) else 0).toNat = tx at hwT
          have hm0 : formL (pre ++ [m1]) = if b = true then .cr (0 - lo) (hi' - lo) fac else .lf (0 - lo) (hi' - lo) fac 0 := by
            rw [formL_snoc, hA m1 hm1, hb2]
          refine for_it walk_str (fun j σ H' => Same H5 H' ∧ ∃ (d : Int) (y5 : Option V), σ = [some (.str x), some (.ref p), some (.int (pre.length : Nat)), some (.int lo), some (.int hi'), y5, some (.int fac), some (.bl b), some (.int d), some (.str (mkS m2))] ∧ 0 ≤ d ∧ (b = true → d = 0) ∧
              formL (pre ++ (m1 :: tx.cps.toList.take j)) = if b = true then .cr (0 - lo) (hi' - lo) fac else .lf (0 - lo) (hi' - lo) fac d)
            ⟨sm, 0, y5, rfl, by decide, fun _ => rfl, by rw [List.take_zero]; exact hm0⟩ (fun _ _ _ _ _ => trivial) ?_ ?_
          · rintro j u σ H8 H9 hj ⟨sm8, d, y5, rfl, hd0, hdb, hfd⟩ ⟨rfl, c, hc, rfl⟩
            have hc' : tx.cps.toList[j]? = some c := by rw [Array.getElem?_toList]; exact hc
            have htk2 : tx.cps.toList.take (j + 1) = tx.cps.toList.take j ++ [c] := by
              rw [List.take_succ, hc']
              rfl
            have hbf : b = false := by
              cases b with
              | false => rfl
              | true =>
                rw [hwT, if_pos rfl] at hc'
                cases hc'
            subst hbf
            have hcu : UD c := hm2 c (by
              have := List.mem_of_getElem? hc'
              rw [hwT] at this
              exact this)
            rw [if_neg (by decide)] at hfd
            obtain ⟨e1, e2⟩ := lf_ud hcu hd0 (b := 0 - lo) (a := hi' - lo) (k := fac) rfl
            refine ⟨_, rfl, 1, rfl, by show 2 ≤ sizeLine; decide, fun L nL => ?_⟩
            refine ⟨_, rfl, rfl, .inr ⟨_, rfl, ?_⟩⟩
            refine ⟨L, _, _, _, rfl, rfl, .inl (.inl upd_same), pickD c, _, _, rfl, rfl, _, _, rfl, ?_⟩
            refine ⟨sm8.trans (same_upd nL), _, _, rfl, e2, (fun h => by cases h), ?_⟩
            have : pre ++ (m1 :: (tx.cps.toList.take j ++ [c])) = (pre ++ (m1 :: tx.cps.toList.take j)) ++ [c] := by rw [List.append_assoc]; rfl
            rw [htk2, this, formL_snoc, hfd, if_neg (by decide)]
            exact e1
          · rintro σ H8 ⟨sm8, d, y5, rfl, hd0, hdb, hfd⟩
            have et : tx.cps.toList.take tx.cps.size = tx.cps.toList := List.take_of_length_le (by simp)
            rw [et, hwT] at hfd
            have hfull : formL (pre ++ (m1 :: m2)) = if b = true then .cr (0 - lo) (hi' - lo) fac else .lf (0 - lo) (hi' - lo) fac d := by
              cases b with
              | false =>
                rw [if_neg (by decide)] at hfd
                exact hfd
              | true =>
                rw [if_pos rfl] at hfd ⊢
                have e : pre ++ (m1 :: m2) = (pre ++ [m1]) ++ m2 := by rw [List.append_assoc]; rfl
                rw [if_pos rfl] at hfd
                rw [e]
                unfold formL
                rw [List.foldl_append]
                show m2.foldl _ (formL (pre ++ [m1])) = _
                rw [hfd]
                exact cr_ud m2 hm2
            have hnext : p0 ++ ext (qs.take (i + 1)) = pre ++ (m1 :: m2) := by rw [hpre, ← List.append_assoc, hpi]
            have hnl : (p0 ++ ext (qs.take (i + 1))).length = pre.length + 1 + m2.length := by
              rw [hnext, List.length_append, List.length_cons]
              omega
            have hspot : ((pre.length : Nat) : Int) + 1 + ((mkS m2).length : Int) = ((p0 ++ ext (qs.take (i + 1))).length : Nat) := by
              rw [mkS_len, hnl]
              omega
            have hdl : d ≤ 7000 := by
              have hokp := hok (pre ++ (m1 :: m2)) (ext (qs.drop (i + 1))) (by rw [hwhole, List.append_assoc]; rfl)
              have hfl := formL_fleF _ (pre ++ (m1 :: m2)) rfl (by rw [List.length_append, List.length_cons]; omega) hokp
              rw [hfull] at hfl
              cases b with
              | false =>
                rw [if_neg (by decide)] at hfl
                have := hfl.2.2.2.2.2.2.2
                rw [List.length_append, List.length_cons] at this
                omega
              | true =>
                have := hdb rfl
                omega
            refine ⟨_, rfl, _, _, rfl, rfl, _, rfl, mkS m2, rfl, by rw [mkS_len, sizeLine_eq]; omega, _, _, rfl, rfl, ?_⟩
            show gName 2 (.int (((pre.length : Nat) : Int) + 1 + ((mkS m2).length : Int))) _ _ _
            rw [hspot]
            refine ⟨_, rfl, _, rfl, x, rfl, by show x.cps.size ≤ sizeLine; rw [sizeLine_eq]; omega, _, _, rfl, rfl, _, rfl, ?_⟩
            by_cases hlast : i + 1 < qs.length
            · have hpos : 0 < (ext (qs.drop (i + 1))).length := ext_pos (by rw [List.length_drop]; omega)
              have hlt : decide (((p0 ++ ext (qs.take (i + 1))).length : Int) < (x.length : Int)) = true := decide_eq_true (by
                show ((p0 ++ ext (qs.take (i + 1))).length : Int) < (x.cps.size : Int)
                rw [hnl]
                omega)
              show (if decide (((p0 ++ ext (qs.take (i + 1))).length : Int) < (x.length : Int)) = true then _ else _)
              rw [hlt]
              have hql := ext_len qs
              refine iteT ⟨_, rfl, _, rfl, _, _, rfl, rfl, _, _, rfl, rfl, ?_, ?_⟩
              · exact wide_mul (a := 13 * i + 1) (b := 13) hfac (by omega) (by omega) (by decide) (by omega)
              · refine ⟨sm8, fac * (d + 1), d, b, _, _, rfl, fun _ m hm => ?_, fun _ e => absurd e (by omega), ?_⟩
                · rw [hnext, hfull]
                  cases b with
                  | false =>
                    rw [if_neg (by decide)]
                    exact mn_lf hm hd0
                  | true =>
                    have hd : d = 0 := hdb rfl
                    rw [if_pos rfl, hd, Int.zero_add, Int.mul_one]
                    exact mn_cr hm
                · have : Sm 13 (d + 1) := by unfold Sm; omega
                  have := hfac.mul this
                  exact this.mono (by omega)
            · have hlt : decide (((p0 ++ ext (qs.take (i + 1))).length : Int) < (x.length : Int)) = false := decide_eq_false (by
                show ¬ ((p0 ++ ext (qs.take (i + 1))).length : Int) < (x.cps.size : Int)
                have he : qs.drop (i + 1) = [] := List.drop_eq_nil_of_le (by omega)
                rw [he] at hlp
                have : (ext ([] : List (Nat × List Nat))).length = 0 := rfl
                rw [hnl]
                omega)
              show (if decide (((p0 ++ ext (qs.take (i + 1))).length : Int) < (x.length : Int)) = true then _ else _)
              rw [hlt]
              refine iteF ⟨sm8, fac, d, b, _, _, rfl, fun h => absurd h hlast, fun _ _ => ?_, hfac.mono (by omega)⟩
              rw [hnext]
              exact hfull
        · rintro σ H6 ⟨sm, fac, last, loose, y5, y9, rfl, hA, hB, hfac⟩
          rw [List.length_map] at hB
          have hB := hB hn0 rfl
          have hform : formOf x = if loose = true then .cr (0 - lo) (hi' - lo) fac else .lf (0 - lo) (hi' - lo) fac last := by
            rw [← hB, List.take_length, ← hcs]
            rfl
          refine ⟨_, rfl, _, rfl, ?_⟩
          cases loose with
          | true =>
            refine iteT ⟨_, rfl, _, _, rfl, rfl, _, rfl, _, rfl, _, _, rfl, rfl, _, rfl, by show 4 ≤ sizeLine; decide, fun t nt => ?_⟩
            refine q _ _ ((s5.trans sm).trans (same_upd nt)) ⟨t, rfl, .inl (.inl ?_)⟩
            rw [hform, if_pos rfl]
            exact upd_same
          | false =>
            refine iteF ⟨_, rfl, _, _, rfl, rfl, _, rfl, _, rfl, _, _, rfl, rfl, _, rfl, _, rfl, by show 5 ≤ sizeLine; decide, fun t nt => ?_⟩
            refine q _ _ ((s5.trans sm).trans (same_upd nt)) ⟨t, rfl, .inl (.inl ?_)⟩
            rw [hform, if_neg (by decide)]
            exact upd_same
end
end Lw
/-! tests with `and`, a token out -/
namespace Lx
open PySem PySem.Spec L2
open PyProof.Rows (isTrue_and isTrue_and_nil)
open CwR
section
variable {X : Cx} {a b e c : Expr} {ta tb te : TE} {tA tB' : TT} {rest : List Expr} {pos : Pos}
def PWT (X : Cx) (e : Expr) (t : TT) : Prop :=
  ∀ (whole : Sem Value) (pins : List (Addr × Obj)) (s : Shared) (σ : St) (H : Hp) (Q : Bool → Hp → Prop), 1 ≤ s.toks → Inv X pins σ H s → t σ H Q → wpAny (model X.prog X.w) X.A (isTrue e X.env whole) (TP X pins σ Q) X.xe s
theorem PWT.pt {t : TT} (h : PWT X e t) : PTT X e t := fun pins s σ H Q h0 I q => h _ pins s σ H Q h0 I q
theorem pwt_and1 (ha : PTT X a tA) : PWT X (.BoolOp .And [a] pos) tA := by
  intro wh pins s σ H Q h0 I h
  refine isTrue_and (thn (ha pins s σ H Q h0 I h) fun c s1 e => ?_)
  cases c with
  | true => exact isTrue_and_nil e
  | false => exact e
theorem pwt_and (ha : PTT X a tA) (hb : PWT X (.BoolOp .And (b :: rest) pos) tB') : PWT X (.BoolOp .And (a :: b :: rest) pos) (tAnd tA tB') := by
  intro wh pins s σ H Q h0 I h
  refine isTrue_and (wpAny_mono (PySem.wpAny_toks_of h0 (ha pins s σ H _ h0 I h)) (fun c s1 q => ?_) fun _ _ z => z.2)
  obtain ⟨h1, H1, I1, q1⟩ := q
  cases c with
  | true => exact hb wh pins s1 σ H1 Q h1 I1 q1
  | false => exact ⟨H1, I1, q1⟩
theorem ptt_cmpR {op : CmpOp} {r : R2} (ho : OpR X (compareOp op) r) (ha : PET X a ta) (hb : PE X b tb) (hm : behindInMarks op b = false) : PTT X (.Compare a [op] [b] pos) (tTest (tOp r ta tb)) := by
  intro pins s σ H Q h0 I h
  refine wpAny_isTrue_Compare1 (thn (ha pins s σ H _ h0 I h) fun v s1 ⟨x, H1, I1, r1, q1⟩ => thn (hb.run pins s1 σ H1 _ I1 q1) fun u s2 ⟨y, H2, I2, r2, q2⟩ =>
    thn (ho pins s2 σ H2 x y v u _ I2 r1 r2 q2) fun c s3 ⟨z, H3, I3, r3, k, e, q3⟩ => ?_) hm
  subst e
  cases r3
  exact wpAny_truthy_bool ⟨H3, I3, q3⟩
end
/-- two keywords in order -/
def g12 (α : Type) : List α → List α → List α
  | [], [a, b] => [a, b]
  | _, _ => []
theorem kb12 {K : PySem.W.Frag} {x qual : Str} {st : Stmt} {f : Addr} {fd : FuncData} {p1 p2 : Str} (F : Fun K x qual st f fd)
    (h : ∀ (kV doc pm : Value) (an : Option Addr) (cdv ct a b : Value), bindArgs (PySem.W.fnOf x qual (defArgs st) (defBody st) (defScope st) .none kV doc pm an cdv ct) ⟨[], [(p1, a), (p2, b)]⟩ = pure [(p1, a), (p2, b)]) : KBinds K fd [p1, p2] [p1, p2] (g12 Value) (g12 V) := by
  obtain ⟨oc, od, kV, doc, pm, an, cdv, ct, osl, rfl, lk, hcd⟩ := F.ex
  refine ⟨fun s us ws _ hl => ?_, fun {vs us zs ws} r1 r2 => ?_⟩
  · match us, ws, hl with
    | [], [a, b], _ => exact .of_eq (h kV doc pm an cdv ct a b)
    | [], [], hl => exact absurd hl (by simp [g12])
    | [], [_], hl => exact absurd hl (by simp [g12])
    | [], _ :: _ :: _ :: _, hl => exact absurd hl (by simp [g12])
    | _ :: _, _, hl => exact absurd hl (by simp [g12])
  · cases r1 with
    | cons _ _ => exact .nil
    | nil =>
      cases r2 with
      | nil => exact .nil
      | cons a t =>
        cases t with
        | nil => exact .nil
        | cons b t =>
          cases t with
          | nil => exact .cons a (.cons b .nil)
          | cons _ _ => exact .nil
end Lx
namespace Lw
open PySem PySem.Spec L2 Lx
open CwR
theorem scLaw : FnScope ["script", "source", "k", "turn", "one", "other", "due", "told"] ["script"] (defScope sLaw) := ⟨rfl, rfl, rfl, by decide +kernel, rfl, by decide +kernel, by decide +kernel⟩
structure LwF (mg : Str → Option Value) : Prop where
  range : mg "range" = none
  min : mg "min" = none
  len : mg "len" = none
structure ClT (P : Program) (w : World) (K : PySem.W.Frag) (mg : Str → Option Value) (base : Heap) (k : Nat) (nm : Str) (ps : List Str) (sp : Sp) (f : Addr) (fd : FuncData) : Prop where
  G : FnT P w K mg base CX0 k f fd ps sp
  kp : PySem.W.keepIn K (.ref f) = true
  b : Binds K fd ps []
  g : mg nm = some (.ref f)
def spLaw (K : PySem.W.Frag) : Sp := fun vs H Q _ => ∃ (a : Addr) (ns : List Int), vs = [.ref a] ∧ SqL K H a (ns.map V.int) ∧ ns.length ≤ 63 ∧ ∀ H', Q (.bl true) H'
theorem ok_nn {n : Nat} {f : Fm} (h : f.Ok n) : NN f := by
  cases f with
  | keep b a => exact ⟨h.1, h.2.1⟩
  | lf b a k c => exact ⟨h.1, h.2.1, h.2.2.1, h.2.2.2.1⟩
  | cr b a k => exact ⟨h.1, h.2.1, h.2.2.1⟩
theorem sm_low {f : Fm} (n : NN f) (h : SmB f) : LowB f 2001 := by
  cases f with
  | keep b a => exact ⟨n.1, n.2, by have h' : b + a ≤ 2000 := h; omega⟩
  | lf b a k c =>
    obtain ⟨n1, n2, n3, n4⟩ := n
    obtain ⟨h1, fs, hf, h2⟩ := h
    exact ⟨n1, n2, n4, fs, fun g hg => (hf.pm g hg).1, by rw [hf.prod]; omega, by omega⟩
  | cr b a k =>
    obtain ⟨n1, n2, n3⟩ := n
    obtain ⟨h1, fs, hf, h2⟩ := h
    exact ⟨n1, n2, fs, fun g hg => (hf.pm g hg).1, by rw [hf.prod]; omega, by omega⟩
theorem sm_k {f : Fm} (n : NN f) (h : SmB f) : 0 < kOf f ∧ kOf f ≤ 1000000000 := by
  cases f with
  | keep b a => exact ⟨show (0 : Int) < 1 by decide, show (1 : Int) ≤ 1000000000 by decide⟩
  | lf b a k c => exact ⟨n.2.2.1, h.1⟩
  | cr b a k => exact ⟨n.2.2, h.1⟩
theorem sm_kb {f : Fm} (n : NN f) (h : SmB f) : KB f := by
  have p60 : (2 : Int) ^ 60 = 1152921504606846976 := by decide +kernel
  cases f with
  | keep b a => exact trivial
  | lf b a k c => have := h.1; show k < 2 ^ 60; omega
  | cr b a k => have := h.1; show k < 2 ^ 60; omega
theorem sm_dv {f g : Fm} (nf : NN f) (ng : NN g) (sf : SmB f) (sg : SmB g) : Fm.isKeep f = false → (kOf g).fmod (kOf f) = 0 → (dvs (kOf g / kOf f)).length < 2000 := fun _ hm => by
  obtain ⟨f0, _⟩ := sm_k nf sf
  obtain ⟨g0, g1⟩ := sm_k ng sg
  have e := fmod_mul f0 hm
  have q0 : 0 < kOf g / kOf f := pos_r f0 (by rw [e]; exact g0)
  have q1 : kOf g / kOf f ≤ kOf g := Int.ediv_le_self _ (by omega)
  have e2 : kOf g / kOf f = ((kOf g / kOf f).toNat : Int) := by omega
  rw [e2]
  exact cnt_prod (by omega) (by omega)
def spRm (K : PySem.W.Frag) : Sp := fun vs H Q _ => ∃ (u v : V) (f g : Fm) (n : Nat), vs = [u, v] ∧ FmAt K H u f ∧ FmAt K H v g ∧ f.Ok n ∧ g.Ok n ∧ SmB f ∧ SmB g ∧ ∀ H' r, Same H H' → WayV f g r → Q r H'
theorem rm_imp {K : PySem.W.Frag} {vs : List V} {H : Hp} {Q : VK} {E : XK} (h : spRm K vs H Q E) : spRem K dvs vs H Q E := by
  obtain ⟨u, v, f, g, n, rfl, hu, hv, of, og, sf, sg, q⟩ := h
  have nf := ok_nn of
  have ng := ok_nn og
  have kg := sm_kb ng sg
  have hd := sm_dv nf ng sf sg
  refine ⟨u, v, f, g, n, rfl, hu, hv, of, og, nf, ng, sm_kb nf sf, kg, hd, btw_kb dvs_ok nf ng kg, btw_len hd, fun hne => ?_, fun H' s => ⟨fun e => q H' _ s (.inl ⟨rfl, e⟩), fun t ht => q H' _ s (.inr ⟨t, rfl, ht⟩)⟩⟩
  obtain ⟨w, hw, hl⟩ := btw_few dvs_ok (sm_low nf sf) (sm_low ng sg) hne
  exact ⟨w, hw, _, by decide, hl⟩
/-- a remainder leads, and is no long chain -/
theorem way_few {f g : Fm} {t : Str} (nf : NN f) (ng : NN g) (sf : SmB f) (sg : SmB g) (h : RemT (btw dvs f g) t.cps.toList) : ChOk t ∧ t.cps.size ≤ 7000 ∧ f.both (formOf t) = g := by
  have lf := sm_low nf sf
  have lg := sm_low ng sg
  obtain ⟨ot, hl⟩ := RemT.leads dvs_ok nf ng h
  have hne : btw dvs f g ≠ [] := fun e => by
    obtain ⟨s, ⟨w, hw, _⟩, _⟩ := h
    rw [e] at hw; cases hw
  obtain ⟨w, hw, lw⟩ := btw_few dvs_ok lf lg hne
  obtain ⟨cs, c1, c2, c3⟩ := low_chain lw
  obtain ⟨e1, _⟩ := btw_leads (fun q u a b => dvs_ok.of q u a b) nf ng hw
  refine ⟨ot, ?_, hl⟩
  have := RemT.min dvs_ok nf ng h (x := ⟨cs.toArray⟩) (fun c hc => c1 c (by simpa using hc)) (by
    show f.both (formL (cs.toArray).toList) = _
    rw [List.toList_toArray, c3]; exact e1)
  have e2 : (⟨cs.toArray⟩ : Str).cps.size = cs.length := by simp
  omega
theorem rem_keep {b a : Int} : RemT [.keep b a] (startL b a) := by
  refine ⟨b + a, ⟨_, List.mem_cons_self, [], rfl, rfl, rfl⟩, fun w hw fs _ => ?_, fun w hw fs _ _ h => ?_⟩
  · rcases List.mem_cons.mp hw with rfl | h
    · exact Int.le_refl _
    · exact nomatch h
  · rcases List.mem_cons.mp hw with rfl | h'
    · exact absurd h (List.lt_irrefl _)
    · exact nomatch h'
theorem way_ddd : WayV (.keep 0 2) (.keep 1 0) (.str "DDD") := .inr ⟨_, rfl, by
  have e : btw dvs (.keep 0 2) (.keep 1 0) = [.keep 3 0] := rfl
  rw [e]
  exact rem_keep⟩
theorem way_non : WayV (.cr 0 0 2) (.cr 0 0 2) (.str "") := .inr ⟨_, rfl, by
  have e : btw dvs (.cr 0 0 2) (.cr 0 0 2) = [.keep 0 0] := rfl
  rw [e]
  exact rem_keep⟩
theorem ok1 : (Fm.keep 0 2).Ok 2 := ⟨by decide, by decide, (show (_ : Nat) < _ by decide), (show (_ : Nat) < _ by decide)⟩
theorem ok2 : (Fm.keep 1 0).Ok 2 := ⟨by decide, by decide, (show (_ : Nat) < _ by decide), (show (_ : Nat) < _ by decide)⟩
theorem ok3 : (Fm.cr 0 0 2).Ok 2 := ⟨by decide, by decide, by decide, (show (_ : Nat) < _ by decide), (show (_ : Nat) < _ by decide), (show (_ : Nat) < _ by decide)⟩
theorem sm3 : SmB (.cr 0 0 2) := ⟨by decide, [2], ⟨fun p h => by rw [List.mem_singleton.mp h]; exact pm2, rfl, by decide⟩, by decide⟩
section
variable {P : Program} {w : World} {K : PySem.W.Frag} {mg : Str → Option Value} {base : Heap}
theorem ok_law {f aS aP aI aD aM aJ aW : Addr} {fd dS dP dI dD dM dJ dW : FuncData} {k : Nat} (F : Fun K "law" "law" sLaw f fd) (Z : LwF mg)
    (cSo : Cl P w K mg base k "_law_source" ["script"] (spSource K) aS dS)
    (cPr : Cl P w K mg base k "_law_pair" ["source"] (spLPr K) aP dP)
    (cIs : Cl P w K mg base k "_law_is_small" ["told"] (spLSm K) aI dI)
    (cDu : Cl P w K mg base k "_law_due" ["one", "other"] (spLDu K) aD dD)
    (cM : Cl P w K mg base k "remainder" ["first", "second"] (spRem K dvs) aM dM) (kcM : KBinds K dM ["first", "second"] ["first", "second"] (g12 Value) (g12 V))
    (cJ2 : Cl P w K mg base k "_law_joined" ["one", "other"] (spLJn K) aJ dJ)
    (cLf : ClT P w K mg base k "_law_form" ["letters"] (spLF K) aW dW) : FnOk P w K mg base CX0 (k + 1) f fd ["script"] (spLaw K) := by
  refine F.ok scLaw (fun vs H Q E h => ?_) (fun cdv A outer s H vs Q E hr h => ?_)
  · obtain ⟨a, ns, rfl, _⟩ := h
    rfl
  · obtain ⟨a, ns, rfl, hS, hlen, q⟩ := h
    refine ⟨_, (pss_cons (ps_set (i := 1) scLaw.nd rfl (.inl rfl) (pe_call cSo.G hr (by rfl) cSo.g cSo.kp cSo.b .nil pass0 (pa_cons (pv 0) pa_nil)))
      (pss_cons (ps_for1 PassesOwn.never rfl (pi1_range1 rfl Z.range (pe1_op op_add pe1_int (pe_callB (call_min2 rfl) (by rfl) Z.min (by decide +kernel) (pa_cons pe_int (pa_cons (pe_callB call_len_seq (by rfl) Z.len PySem.boot_len (pa_cons (pv 0) pa_nil)) pa_nil))))) (pg_name (i := 2) scLaw.nd rfl (.inl rfl))
          (psst_one (pst_forT PassesOwn.never rfl (pit_of (pi_range1 rfl Z.range (pa_cons pe_int pa_nil))) (pg_name (i := 3) scLaw.nd rfl (.inl rfl))
              (psst_cons (PST.of (ps_asg (pe_call cPr.G hr (by rfl) cPr.g cPr.kp cPr.b .nil pass0 (pa_cons (pv 1) pa_nil)) (pg_tup (by rfl) (pgs_cons (pg_name (i := 4) scLaw.nd rfl (.inl rfl)) (pgs_cons (pg_name (i := 5) scLaw.nd rfl (.inl rfl)) pgs_nil)))))
              (psst_one (pst_ifT (PTT.of (PW.pt (pw_and (pt_val (pe_call cIs.G hr (by rfl) cIs.g cIs.kp cIs.b .nil pass0 (pa_cons (pv 4) pa_nil))) (pw_and1 (pt_val (pe_call cIs.G hr (by rfl) cIs.g cIs.kp cIs.b .nil pass0 (pa_cons (pv 5) pa_nil)))))))
                  (psst_cons (PST.of (ps_par (i := 6) (j := 7) rfl scLaw.nd rfl rfl (by decide) rfl rfl (pa_cons (pe_call cDu.G hr (by rfl) cDu.g cDu.kp cDu.b .nil pass0 (pa_cons (pv 4) (pa_cons (pv 5) pa_nil))) (pa_cons (pe_call cM.G hr (by rfl) cM.g cM.kp cM.b .nil pass0 (pa_cons (pv 4) (pa_cons (pv 5) pa_nil))) pa_nil)) rfl))
                  (psst_cons (PST.of (ps_if (PW.pt (pw_or (pt_cmpR op_ne (pv 7) (pv 6) (nomark _)) (pw_or1 (pt_cmpR op_ne (pe_callK0 cM.G hr (by rfl) cM.g cM.kp kcM pass0 (pk_cons (pv 4) (pk_cons (pv 5) pk_nil))) (pv 6) (nomark _)))))
                      (pss_one (ps_ret pe_bl)) pss_nil))
                  (psst_one (pst_ifT (PWT.pt (pwt_and (PTT.of (pt_cmpR op_notN (pv 7) pe_non (nomark _))) (pwt_and1 (ptt_cmpR (op_neD hr.units) (pet_call (FnT.of cJ2.G) hr (by rfl) cJ2.g cJ2.kp cJ2.b .nil pass0 (pat_cons (PET.of (pv 4)) (pat_cons (pet_call cLf.G hr (by rfl) cLf.g cLf.kp cLf.b .nil pass0 (PAT.of (pa_cons (pv 7) pa_nil))) pat_nil))) (pv 5) (nomark _)))))
                      (PSsT.of (pss_one (ps_ret pe_bl))) psst_nil)))) psst_nil))))))
      (pss_one (ps_ret (pe_and (pe_cmpR op_eq (pe_call cM.G hr (by rfl) cM.g cM.kp cM.b .nil pass0 (pa_cons (pe_tup (pa_cons pe_str (pa_cons pe_int (pa_cons pe_int pa_nil)))) (pa_cons (pe_tup (pa_cons pe_str (pa_cons pe_int (pa_cons pe_int pa_nil)))) pa_nil))) pe_str (nomark _)) (pe_one (pe_cmpR op_eq (pe_call cM.G hr (by rfl) cM.g cM.kp cM.b .nil pass0 (pa_cons (pe_tup (pa_cons pe_str (pa_cons pe_int (pa_cons pe_int (pa_cons pe_int pa_nil))))) (pa_cons (pe_tup (pa_cons pe_str (pa_cons pe_int (pa_cons pe_int (pa_cons pe_int pa_nil))))) pa_nil))) pe_str (nomark _)))))))), ?_⟩
    refine ⟨.ref a, rfl, a, ns, rfl, hS, hlen, fun H1 r dl sm nr ndl hR => ?_⟩
    refine ⟨.ref a, rfl, a, _, rfl, .inl (sm.seq hS), 8, _, rfl, _, _, rfl, rfl, _, rfl, ?_, ?_, ?_⟩
    · split <;> omega
    · split <;> omega
    have hb : (3 + (if ((ns.map V.int).length : Int) < 8 then ((ns.map V.int).length : Int) else 8)).toNat ≤ 11 := by split <;> omega
    generalize (3 + (if ((ns.map V.int).length : Int) < 8 then ((ns.map V.int).length : Int) else 8)).toNat = laps at hb
    refine for_range (lo := 0) (n := laps) (fun i σ H' => ∃ y2 y3 y4 y5 y6 y7, σ = [some (.ref a), some (.ref r), y2, y3, y4, y5, y6, y7] ∧ SrcAt H' r dl (500 * i)) ⟨none, none, none, none, none, none, rfl, hR⟩ ?_ ?_
    · rintro i σ H2 hi ⟨y2, y3, y4, y5, y6, y7, rfl, hR2⟩
      refine ⟨6, rfl, by decide, by decide, ?_⟩
      refine for_range (lo := 0) (n := 6) (fun j σ H' => ∃ y2 y3 y4 y5 y6 y7, σ = [some (.ref a), some (.ref r), y2, y3, y4, y5, y6, y7] ∧ SrcAt H' r dl (500 * i + 60 * j)) ⟨_, _, _, _, _, _, rfl, hR2⟩ ?_ ?_
      · rintro j σ H3 hj ⟨y2, y3, y4, y5, y6, y7, rfl, hR3⟩
        refine ⟨_, rfl, r, dl, _, rfl, hR3, by omega, fun t u v f g H4 ⟨ht, hu, hv, of, og, hR4⟩ => ?_⟩
        have hRj := hR4.mono (show 500 * i + 60 * j + 60 ≤ 500 * i + 60 * (j + 1) by omega)
        refine ⟨t, _, rfl, .inl (.inl ht), rfl, _, _, rfl, _, _, rfl, rfl, ?_⟩
        clear ht hR3 hR4
        dsimp only [gName, tNext, tSeq]
        have nf := ok_nn of
        have ng := ok_nn og
        have stop : ∀ (H' : Hp) (z2 z3 z4 z5 z6 z7 : Option V), Same H4 H' → ∃ y2 y3 y4 y5 y6 y7, [some (V.ref a), some (V.ref r), z2, z3, z4, z5, z6, z7] = [some (.ref a), some (.ref r), y2, y3, y4, y5, y6, y7] ∧ SrcAt H' r dl (500 * i + 60 * (j + 1)) := fun H' z2 z3 z4 z5 z6 z7 s => ⟨_, _, _, _, _, _, rfl, hRj.same s⟩
        refine ⟨_, rfl, u, f, rfl, hu, nf, fun b1 H5 s5 hb1 => ⟨_, rfl, ?_⟩⟩
        cases b1 with
        | false => exact iteF (iteF (stop _ _ _ _ _ _ _ s5))
        | true =>
          refine iteT ⟨_, rfl, v, g, rfl, hv.same s5, ng, fun b2 H6 s6 hb2 => ⟨_, rfl, ?_⟩⟩
          have s46 := s5.trans s6
          cases b2 with
          | false => exact iteF (stop _ _ _ _ _ _ _ s46)
          | true =>
            have sf := hb1 rfl
            have sg := hb2 rfl
            refine iteT ?_
            dsimp only [gName, tNext, tSeq]
            refine ⟨_, rfl, _, rfl, u, v, f, g, rfl, hu.same s46, hv.same s46, nf, ng, sf, sg, fun due H7 s7 hdue => ⟨_, rfl, _, rfl, ?_⟩⟩
            have s47 := s46.trans s7
            dsimp only [tNil]
            refine rm_imp (K := K) (E := E0) ⟨u, v, f, g, 1000, rfl, hu.same s47, hv.same s47, of, og, sf, sg, fun H8 told s8 htold => ⟨_, _, rfl, ?_⟩⟩
            obtain rfl := hdue.uniq htold
            have s48 := s47.trans s8
            have sc : scal due due = true := by rcases hdue with ⟨rfl, _⟩ | ⟨_, rfl, _⟩ <;> rfl
            refine ⟨_, rfl, _, rfl, sc, _, rfl, ?_⟩
            rw [decide_eq_true (rfl : due = due)]
            refine iteF ⟨_, rfl, _, rfl, ?_⟩
            dsimp only [tNil]
            refine rm_imp (K := K) (E := E0) ⟨u, v, f, g, 1000, rfl, hu.same s48, hv.same s48, of, og, sf, sg, fun H9 tol2 s9 htol2 => ?_⟩
            obtain rfl := hdue.uniq htol2
            have s49 := s48.trans s9
            refine ⟨_, rfl, sc, _, rfl, ?_⟩
            rw [decide_eq_true (rfl : due = due)]
            refine iteF ?_
            dsimp only [gName, tNext, tSeq]
            refine ⟨_, rfl, rfl, _, rfl, ?_⟩
            rcases hdue with ⟨rfl, _⟩ | ⟨td, rfl, htd⟩
            · exact iteF (iteF (stop _ _ _ _ _ _ _ s49))
            · obtain ⟨och, osz, hl⟩ := way_few nf ng sf sg htd
              refine iteT ?_
              refine ⟨_, rfl, _, rfl, ?_⟩
              dsimp only [tNil]
              refine ⟨td, rfl, och, osz, fun ft H10 s10 hft => ?_⟩
              have s410 := s49.trans s10
              refine ⟨_, _, f, formOf td, 91001, rfl, hu.same s410, hft, of.mono (by decide), formOf_ok och osz, by decide, fun w2 H11 s11 hw2 => ?_⟩
              rw [hl] at hw2
              have s411 := s410.trans s11
              refine ⟨_, rfl, fdt g, fdt g, (fm_dq' hw2).dp, (fm_dq' (hv.same s411)).dp, fdt_shaped _, fdt_shaped _, _, rfl, ?_⟩
              rw [fdt_self]
              exact iteF (stop _ _ _ _ _ _ _ s411)
      · rintro σ H3 ⟨y2, y3, y4, y5, y6, y7, rfl, hR3⟩
        exact ⟨_, _, _, _, _, _, rfl, hR3.mono (by omega)⟩
    · rintro σ H3 ⟨y2, y3, y4, y5, y6, y7, rfl, hR3⟩
      refine ⟨by show 3 ≤ sizeLine; decide, fun t1 n1 => ⟨by show 3 ≤ sizeLine; decide, fun t2 n2 => ?_⟩⟩
      have a1 : FmAt K (upd (upd H3 t1 (.tup (Fm.keep 0 2).vs)) t2 (.tup (Fm.keep 1 0).vs)) (.ref t1) (.keep 0 2) := (show FmAt K (upd H3 t1 (.tup (Fm.keep 0 2).vs)) (.ref t1) (.keep 0 2) from ⟨t1, rfl, .inl (.inl upd_same)⟩).same (same_upd n2)
      have a2 : FmAt K (upd (upd H3 t1 (.tup (Fm.keep 0 2).vs)) t2 (.tup (Fm.keep 1 0).vs)) (.ref t2) (.keep 1 0) := ⟨t2, rfl, .inl (.inl upd_same)⟩
      dsimp only [tNil]
      refine rm_imp (K := K) (E := E0) ⟨.ref t1, .ref t2, .keep 0 2, .keep 1 0, 2, rfl, a1, a2, ok1, ok2, (show (0 : Int) + 2 ≤ 2000 by decide), (show (1 : Int) + 0 ≤ 2000 by decide), fun H4 r1 s1 hr1 => ?_⟩
      obtain rfl := way_ddd.uniq hr1
      refine ⟨rfl, _, rfl, ?_⟩
      refine iteT ⟨by show 4 ≤ sizeLine; decide, fun t3 n3 => ⟨by show 4 ≤ sizeLine; decide, fun t4 n4 => ?_⟩⟩
      have a3 : FmAt K (upd (upd H4 t3 (.tup (Fm.cr 0 0 2).vs)) t4 (.tup (Fm.cr 0 0 2).vs)) (.ref t3) (.cr 0 0 2) := (show FmAt K (upd H4 t3 (.tup (Fm.cr 0 0 2).vs)) (.ref t3) (.cr 0 0 2) from ⟨t3, rfl, .inl (.inl upd_same)⟩).same (same_upd n4)
      have a4 : FmAt K (upd (upd H4 t3 (.tup (Fm.cr 0 0 2).vs)) t4 (.tup (Fm.cr 0 0 2).vs)) (.ref t4) (.cr 0 0 2) := ⟨t4, rfl, .inl (.inl upd_same)⟩
      dsimp only [tNil]
      refine rm_imp (K := K) (E := E0) ⟨.ref t3, .ref t4, .cr 0 0 2, .cr 0 0 2, 2, rfl, a3, a4, ok3, ok3, sm3, sm3, fun H5 r2 s2 hr2 => ?_⟩
      obtain rfl := way_non.uniq hr2
      refine ⟨rfl, ?_⟩
      exact q _
end
end Lw
namespace Lw
open PySem PySem.Spec L2 Lx
theorem sz5 {n : Nat} (h : n ≤ 5) : n ≤ sizeLine := by
  rw [sizeLine_eq]; omega
theorem all_mk {P : Program} {w : World} {K : PySem.W.Frag} {h : Heap} {mg : Str → Option Value} {fa aL fIf fCf fPf fDv fPo fSo fHc fWf fRm fFt fFk fFe fFl fCb fLs fLd fLw fDr fLj fLp fLv fLk fLb fLc fLu fLi fLr fW : Addr} (X : K.In h) (G : h.Ns mainGlobals mg) (hfa : mg "law" = some (.ref fa))
    {ocIf kVIf docIf pmIf cdIf ctIf : Value} {odIf anIf : Option Addr} {oslIf : Array (Option Value)}
    {ocCf kVCf docCf pmCf cdCf ctCf : Value} {odCf anCf : Option Addr} {oslCf : Array (Option Value)}
    {ocPf kVPf docPf pmPf cdPf ctPf : Value} {odPf anPf : Option Addr} {oslPf : Array (Option Value)}
    {ocDv kVDv docDv pmDv cdDv ctDv : Value} {odDv anDv : Option Addr} {oslDv : Array (Option Value)}
    {ocPo kVPo docPo pmPo cdPo ctPo : Value} {odPo anPo : Option Addr} {oslPo : Array (Option Value)}
    {ocSo kVSo docSo pmSo cdSo ctSo : Value} {odSo anSo : Option Addr} {oslSo : Array (Option Value)}
    {ocHc kVHc docHc pmHc cdHc ctHc : Value} {odHc anHc : Option Addr} {oslHc : Array (Option Value)}
    {ocWf kVWf docWf pmWf cdWf ctWf : Value} {odWf anWf : Option Addr} {oslWf : Array (Option Value)}
    {ocRm kVRm docRm pmRm cdRm ctRm : Value} {odRm anRm : Option Addr} {oslRm : Array (Option Value)}
    {ocFt kVFt docFt pmFt cdFt ctFt : Value} {odFt anFt : Option Addr} {oslFt : Array (Option Value)}
    {ocFk kVFk docFk pmFk cdFk ctFk : Value} {odFk anFk : Option Addr} {oslFk : Array (Option Value)}
    {ocFe kVFe docFe pmFe cdFe ctFe : Value} {odFe anFe : Option Addr} {oslFe : Array (Option Value)}
    {ocFl kVFl docFl pmFl cdFl ctFl : Value} {odFl anFl : Option Addr} {oslFl : Array (Option Value)}
    {ocCb kVCb docCb pmCb cdCb ctCb : Value} {odCb anCb : Option Addr} {oslCb : Array (Option Value)}
    {ocLs kVLs docLs pmLs cdLs ctLs : Value} {odLs anLs : Option Addr} {oslLs : Array (Option Value)}
    {ocLd kVLd docLd pmLd cdLd ctLd : Value} {odLd anLd : Option Addr} {oslLd : Array (Option Value)}
    {ocLw kVLw docLw pmLw cdLw ctLw : Value} {odLw anLw : Option Addr} {oslLw : Array (Option Value)}
    {ocDr kVDr docDr pmDr cdDr ctDr : Value} {odDr anDr : Option Addr} {oslDr : Array (Option Value)}
    {ocLj kVLj docLj pmLj cdLj ctLj : Value} {odLj anLj : Option Addr} {oslLj : Array (Option Value)}
    {ocLp kVLp docLp pmLp cdLp ctLp : Value} {odLp anLp : Option Addr} {oslLp : Array (Option Value)}
    {ocLv kVLv docLv pmLv cdLv ctLv : Value} {odLv anLv : Option Addr} {oslLv : Array (Option Value)}
    {ocLk kVLk docLk pmLk cdLk ctLk : Value} {odLk anLk : Option Addr} {oslLk : Array (Option Value)}
    {ocLb kVLb docLb pmLb cdLb ctLb : Value} {odLb anLb : Option Addr} {oslLb : Array (Option Value)}
    {ocLc kVLc docLc pmLc cdLc ctLc : Value} {odLc anLc : Option Addr} {oslLc : Array (Option Value)}
    {ocLu kVLu docLu pmLu cdLu ctLu : Value} {odLu anLu : Option Addr} {oslLu : Array (Option Value)}
    {ocLi kVLi docLi pmLi cdLi ctLi : Value} {odLi anLi : Option Addr} {oslLi : Array (Option Value)}
    {ocLr kVLr docLr pmLr cdLr ctLr : Value} {odLr anLr : Option Addr} {oslLr : Array (Option Value)}
    {ocW kVW docW pmW cdW ctW : Value} {odW anW : Option Addr} {oslW : Array (Option Value)}
    {t3 t5 t4 : Tok} {esL : Array DictEntry} {nL : Nat}
    (aIf : PySem.W.nsIn K mainGlobals "is_form" = some (some (.ref fIf)))
    (lIf : K.lookup fIf = some ⟨ocIf, odIf, .func (PySem.W.fnOf "is_form" "is_form" (defArgs sIsForm) (defBody sIsForm) (defScope sIsForm) .none kVIf docIf pmIf anIf cdIf ctIf), oslIf⟩)
    (c_If : PySem.W.codeIn K cdIf "is_form" = true)
    (k_If : PySem.W.keepIn K (.ref fIf) = true)
    (aCf : PySem.W.nsIn K mainGlobals "check_form" = some (some (.ref fCf)))
    (lCf : K.lookup fCf = some ⟨ocCf, odCf, .func (PySem.W.fnOf "check_form" "check_form" (defArgs sChkForm) (defBody sChkForm) (defScope sChkForm) .none kVCf docCf pmCf anCf cdCf ctCf), oslCf⟩)
    (c_Cf : PySem.W.codeIn K cdCf "check_form" = true)
    (k_Cf : PySem.W.keepIn K (.ref fCf) = true)
    (aPf : PySem.W.nsIn K mainGlobals "prime_factors" = some (some (.ref fPf)))
    (lPf : K.lookup fPf = some ⟨ocPf, odPf, .func (PySem.W.fnOf "prime_factors" "prime_factors" (defArgs sPrimeFactors) (defBody sPrimeFactors) (defScope sPrimeFactors) .none kVPf docPf pmPf anPf cdPf ctPf), oslPf⟩)
    (c_Pf : PySem.W.codeIn K cdPf "prime_factors" = true)
    (k_Pf : PySem.W.keepIn K (.ref fPf) = true)
    (aDv : PySem.W.nsIn K mainGlobals "divisors" = some (some (.ref fDv)))
    (lDv : K.lookup fDv = some ⟨ocDv, odDv, .func (PySem.W.fnOf "divisors" "divisors" (defArgs sDivisors) (defBody sDivisors) (defScope sDivisors) .none kVDv docDv pmDv anDv cdDv ctDv), oslDv⟩)
    (c_Dv : PySem.W.codeIn K cdDv "divisors" = true)
    (k_Dv : PySem.W.keepIn K (.ref fDv) = true)
    (aPo : PySem.W.nsIn K mainGlobals "primes_of_form" = some (some (.ref fPo)))
    (lPo : K.lookup fPo = some ⟨ocPo, odPo, .func (PySem.W.fnOf "primes_of_form" "primes_of_form" (defArgs sPrimesOfForm) (defBody sPrimesOfForm) (defScope sPrimesOfForm) .none kVPo docPo pmPo anPo cdPo ctPo), oslPo⟩)
    (c_Po : PySem.W.codeIn K cdPo "primes_of_form" = true)
    (k_Po : PySem.W.keepIn K (.ref fPo) = true)
    (aSo : PySem.W.nsIn K mainGlobals "steps_of_form" = some (some (.ref fSo)))
    (lSo : K.lookup fSo = some ⟨ocSo, odSo, .func (PySem.W.fnOf "steps_of_form" "steps_of_form" (defArgs sStepsOfForm) (defBody sStepsOfForm) (defScope sStepsOfForm) .none kVSo docSo pmSo anSo cdSo ctSo), oslSo⟩)
    (c_So : PySem.W.codeIn K cdSo "steps_of_form" = true)
    (k_So : PySem.W.keepIn K (.ref fSo) = true)
    (aHc : PySem.W.nsIn K mainGlobals "shortest_chain" = some (some (.ref fHc)))
    (lHc : K.lookup fHc = some ⟨ocHc, odHc, .func (PySem.W.fnOf "shortest_chain" "shortest_chain" (defArgs sShortestChain) (defBody sShortestChain) (defScope sShortestChain) .none kVHc docHc pmHc anHc cdHc ctHc), oslHc⟩)
    (c_Hc : PySem.W.codeIn K cdHc "shortest_chain" = true)
    (k_Hc : PySem.W.keepIn K (.ref fHc) = true)
    (aWf : PySem.W.nsIn K mainGlobals "chain_with_factors" = some (some (.ref fWf)))
    (lWf : K.lookup fWf = some ⟨ocWf, odWf, .func (PySem.W.fnOf "chain_with_factors" "chain_with_factors" (defArgs sChainWithFactors) (defBody sChainWithFactors) (defScope sChainWithFactors) .none kVWf docWf pmWf anWf cdWf ctWf), oslWf⟩)
    (c_Wf : PySem.W.codeIn K cdWf "chain_with_factors" = true)
    (k_Wf : PySem.W.keepIn K (.ref fWf) = true)
    (aRm : PySem.W.nsIn K mainGlobals "remainder" = some (some (.ref fRm)))
    (lRm : K.lookup fRm = some ⟨ocRm, odRm, .func (PySem.W.fnOf "remainder" "remainder" (defArgs sRemainder) (defBody sRemainder) (defScope sRemainder) .none kVRm docRm pmRm anRm cdRm ctRm), oslRm⟩)
    (c_Rm : PySem.W.codeIn K cdRm "remainder" = true)
    (k_Rm : PySem.W.keepIn K (.ref fRm) = true)
    (aFt : PySem.W.nsIn K mainGlobals "forms_between" = some (some (.ref fFt)))
    (lFt : K.lookup fFt = some ⟨ocFt, odFt, .func (PySem.W.fnOf "forms_between" "forms_between" (defArgs sFormsBetween) (defBody sFormsBetween) (defScope sFormsBetween) .none kVFt docFt pmFt anFt cdFt ctFt), oslFt⟩)
    (c_Ft : PySem.W.codeIn K cdFt "forms_between" = true)
    (k_Ft : PySem.W.keepIn K (.ref fFt) = true)
    (aFk : PySem.W.nsIn K mainGlobals "forms_behind_keep" = some (some (.ref fFk)))
    (lFk : K.lookup fFk = some ⟨ocFk, odFk, .func (PySem.W.fnOf "forms_behind_keep" "forms_behind_keep" (defArgs sFormsBehindKeep) (defBody sFormsBehindKeep) (defScope sFormsBehindKeep) .none kVFk docFk pmFk anFk cdFk ctFk), oslFk⟩)
    (c_Fk : PySem.W.codeIn K cdFk "forms_behind_keep" = true)
    (k_Fk : PySem.W.keepIn K (.ref fFk) = true)
    (aFe : PySem.W.nsIn K mainGlobals "form_between_ends" = some (some (.ref fFe)))
    (lFe : K.lookup fFe = some ⟨ocFe, odFe, .func (PySem.W.fnOf "form_between_ends" "form_between_ends" (defArgs sFormBetweenEnds) (defBody sFormBetweenEnds) (defScope sFormBetweenEnds) .none kVFe docFe pmFe anFe cdFe ctFe), oslFe⟩)
    (c_Fe : PySem.W.codeIn K cdFe "form_between_ends" = true)
    (k_Fe : PySem.W.keepIn K (.ref fFe) = true)
    (aFl : PySem.W.nsIn K mainGlobals "forms_behind_lf" = some (some (.ref fFl)))
    (lFl : K.lookup fFl = some ⟨ocFl, odFl, .func (PySem.W.fnOf "forms_behind_lf" "forms_behind_lf" (defArgs sFormsBehindLf) (defBody sFormsBehindLf) (defScope sFormsBehindLf) .none kVFl docFl pmFl anFl cdFl ctFl), oslFl⟩)
    (c_Fl : PySem.W.codeIn K cdFl "forms_behind_lf" = true)
    (k_Fl : PySem.W.keepIn K (.ref fFl) = true)
    (aCb : PySem.W.nsIn K mainGlobals "changes_between" = some (some (.ref fCb)))
    (lCb : K.lookup fCb = some ⟨ocCb, odCb, .func (PySem.W.fnOf "changes_between" "changes_between" (defArgs sChangesBetween) (defBody sChangesBetween) (defScope sChangesBetween) .none kVCb docCb pmCb anCb cdCb ctCb), oslCb⟩)
    (c_Cb : PySem.W.codeIn K cdCb "changes_between" = true)
    (k_Cb : PySem.W.keepIn K (.ref fCb) = true)
    (aLs : PySem.W.nsIn K mainGlobals "_law_source" = some (some (.ref fLs)))
    (lLs : K.lookup fLs = some ⟨ocLs, odLs, .func (PySem.W.fnOf "_law_source" "_law_source" (defArgs sLSource) (defBody sLSource) (defScope sLSource) .none kVLs docLs pmLs anLs cdLs ctLs), oslLs⟩)
    (c_Ls : PySem.W.codeIn K cdLs "_law_source" = true)
    (k_Ls : PySem.W.keepIn K (.ref fLs) = true)
    (aLd : PySem.W.nsIn K mainGlobals "_law_draw" = some (some (.ref fLd)))
    (lLd : K.lookup fLd = some ⟨ocLd, odLd, .func (PySem.W.fnOf "_law_draw" "_law_draw" (defArgs sLDraw) (defBody sLDraw) (defScope sLDraw) .none kVLd docLd pmLd anLd cdLd ctLd), oslLd⟩)
    (c_Ld : PySem.W.codeIn K cdLd "_law_draw" = true)
    (k_Ld : PySem.W.keepIn K (.ref fLd) = true)
    (aLw : PySem.W.nsIn K mainGlobals "_law_form" = some (some (.ref fLw)))
    (lLw : K.lookup fLw = some ⟨ocLw, odLw, .func (PySem.W.fnOf "_law_form" "_law_form" (defArgs sLForm) (defBody sLForm) (defScope sLForm) .none kVLw docLw pmLw anLw cdLw ctLw), oslLw⟩)
    (c_Lw : PySem.W.codeIn K cdLw "_law_form" = true)
    (k_Lw : PySem.W.keepIn K (.ref fLw) = true)
    (aDr : PySem.W.nsIn K mainGlobals "_law_drawn" = some (some (.ref fDr)))
    (lDr : K.lookup fDr = some ⟨ocDr, odDr, .func (PySem.W.fnOf "_law_drawn" "_law_drawn" (defArgs sLDrawn) (defBody sLDrawn) (defScope sLDrawn) .none kVDr docDr pmDr anDr cdDr ctDr), oslDr⟩)
    (c_Dr : PySem.W.codeIn K cdDr "_law_drawn" = true)
    (k_Dr : PySem.W.keepIn K (.ref fDr) = true)
    (aLj : PySem.W.nsIn K mainGlobals "_law_joined" = some (some (.ref fLj)))
    (lLj : K.lookup fLj = some ⟨ocLj, odLj, .func (PySem.W.fnOf "_law_joined" "_law_joined" (defArgs sLJoined) (defBody sLJoined) (defScope sLJoined) .none kVLj docLj pmLj anLj cdLj ctLj), oslLj⟩)
    (c_Lj : PySem.W.codeIn K cdLj "_law_joined" = true)
    (k_Lj : PySem.W.keepIn K (.ref fLj) = true)
    (aLp : PySem.W.nsIn K mainGlobals "_law_primes" = some (some (.ref fLp)))
    (lLp : K.lookup fLp = some ⟨ocLp, odLp, .func (PySem.W.fnOf "_law_primes" "_law_primes" (defArgs sLPrimes) (defBody sLPrimes) (defScope sLPrimes) .none kVLp docLp pmLp anLp cdLp ctLp), oslLp⟩)
    (c_Lp : PySem.W.codeIn K cdLp "_law_primes" = true)
    (k_Lp : PySem.W.keepIn K (.ref fLp) = true)
    (aLv : PySem.W.nsIn K mainGlobals "_law_divisors" = some (some (.ref fLv)))
    (lLv : K.lookup fLv = some ⟨ocLv, odLv, .func (PySem.W.fnOf "_law_divisors" "_law_divisors" (defArgs sLDivisors) (defBody sLDivisors) (defScope sLDivisors) .none kVLv docLv pmLv anLv cdLv ctLv), oslLv⟩)
    (c_Lv : PySem.W.codeIn K cdLv "_law_divisors" = true)
    (k_Lv : PySem.W.keepIn K (.ref fLv) = true)
    (aLk : PySem.W.nsIn K mainGlobals "_law_factor_steps" = some (some (.ref fLk)))
    (lLk : K.lookup fLk = some ⟨ocLk, odLk, .func (PySem.W.fnOf "_law_factor_steps" "_law_factor_steps" (defArgs sLFactorSteps) (defBody sLFactorSteps) (defScope sLFactorSteps) .none kVLk docLk pmLk anLk cdLk ctLk), oslLk⟩)
    (c_Lk : PySem.W.codeIn K cdLk "_law_factor_steps" = true)
    (k_Lk : PySem.W.keepIn K (.ref fLk) = true)
    (aLb : PySem.W.nsIn K mainGlobals "_law_between" = some (some (.ref fLb)))
    (lLb : K.lookup fLb = some ⟨ocLb, odLb, .func (PySem.W.fnOf "_law_between" "_law_between" (defArgs sLBetween) (defBody sLBetween) (defScope sLBetween) .none kVLb docLb pmLb anLb cdLb ctLb), oslLb⟩)
    (c_Lb : PySem.W.codeIn K cdLb "_law_between" = true)
    (k_Lb : PySem.W.keepIn K (.ref fLb) = true)
    (aLc : PySem.W.nsIn K mainGlobals "_law_converted" = some (some (.ref fLc)))
    (lLc : K.lookup fLc = some ⟨ocLc, odLc, .func (PySem.W.fnOf "_law_converted" "_law_converted" (defArgs sLConverted) (defBody sLConverted) (defScope sLConverted) .none kVLc docLc pmLc anLc cdLc ctLc), oslLc⟩)
    (c_Lc : PySem.W.codeIn K cdLc "_law_converted" = true)
    (k_Lc : PySem.W.keepIn K (.ref fLc) = true)
    (aLu : PySem.W.nsIn K mainGlobals "_law_due" = some (some (.ref fLu)))
    (lLu : K.lookup fLu = some ⟨ocLu, odLu, .func (PySem.W.fnOf "_law_due" "_law_due" (defArgs sLDue) (defBody sLDue) (defScope sLDue) .none kVLu docLu pmLu anLu cdLu ctLu), oslLu⟩)
    (c_Lu : PySem.W.codeIn K cdLu "_law_due" = true)
    (k_Lu : PySem.W.keepIn K (.ref fLu) = true)
    (aLi : PySem.W.nsIn K mainGlobals "_law_is_small" = some (some (.ref fLi)))
    (lLi : K.lookup fLi = some ⟨ocLi, odLi, .func (PySem.W.fnOf "_law_is_small" "_law_is_small" (defArgs sLIsSmall) (defBody sLIsSmall) (defScope sLIsSmall) .none kVLi docLi pmLi anLi cdLi ctLi), oslLi⟩)
    (c_Li : PySem.W.codeIn K cdLi "_law_is_small" = true)
    (k_Li : PySem.W.keepIn K (.ref fLi) = true)
    (aLr : PySem.W.nsIn K mainGlobals "_law_pair" = some (some (.ref fLr)))
    (lLr : K.lookup fLr = some ⟨ocLr, odLr, .func (PySem.W.fnOf "_law_pair" "_law_pair" (defArgs sLPair) (defBody sLPair) (defScope sLPair) .none kVLr docLr pmLr anLr cdLr ctLr), oslLr⟩)
    (c_Lr : PySem.W.codeIn K cdLr "_law_pair" = true)
    (k_Lr : PySem.W.keepIn K (.ref fLr) = true)
    (aW : PySem.W.nsIn K mainGlobals "law" = some (some (.ref fW)))
    (lW : K.lookup fW = some ⟨ocW, odW, .func (PySem.W.fnOf "law" "law" (defArgs sLaw) (defBody sLaw) (defScope sLaw) .none kVW docW pmW anW cdW ctW), oslW⟩)
    (c_W : PySem.W.codeIn K cdW "law" = true)
    (k_W : PySem.W.keepIn K (.ref fW) = true)
    (z_abs : PySem.W.nsIn K mainGlobals "abs" = some none)
    (z_enumerate : PySem.W.nsIn K mainGlobals "enumerate" = some none)
    (z_int : PySem.W.nsIn K mainGlobals "int" = some none)
    (z_len : PySem.W.nsIn K mainGlobals "len" = some none)
    (z_max : PySem.W.nsIn K mainGlobals "max" = some none)
    (z_min : PySem.W.nsIn K mainGlobals "min" = some none)
    (z_range : PySem.W.nsIn K mainGlobals "range" = some none)
    (z_set : PySem.W.nsIn K mainGlobals "set" = some none)
    (z_sorted : PySem.W.nsIn K mainGlobals "sorted" = some none)
    (z_sum : PySem.W.nsIn K mainGlobals "sum" = some none)
    (gL : PySem.W.nsIn K mainGlobals "FORM_LENGTHS" = some (some (.ref aL)))
    (hL : K.lookup aL = some ⟨.type "dict", none, .dict esL nL, #[]⟩)
    (kL : PySem.W.KeysLit w.params esL.toList)
    (mL : (aL == sysModules) = false)
    (vL3 : PySem.W.nsIn K aL "keep" = some (some (.int 3 t3)))
    (vL5 : PySem.W.nsIn K aL "lf" = some (some (.int 5 t5)))
    (vL4 : PySem.W.nsIn K aL "cr" = some (some (.int 4 t4))) :
    ∃ fd : FuncData, (∀ (s : Shared) (v : Value), BindsTo s fd ⟨[v], []⟩ [("script", v)]) ∧ ∀ base : Heap, K.In base → base.Ns mainGlobals mg → FnG P w K mg base CX0 6 fa fd ["script"] (spLaw K) := by
  have e := hfa.symm.trans (PySem.W.mg_of X G aW)
  cases e
  have FIf := fun_mk (st := sIsForm) lIf c_If k_If
  have bIf := FIf.binds (ps := ["wanted"]) fun _ _ _ _ _ _ us hl => match us, hl with | [_], _ => rfl
  have gIf' := PySem.W.mg_of X G aIf
  have FCf := fun_mk (st := sChkForm) lCf c_Cf k_Cf
  have bCf := FCf.binds (ps := ["wanted"]) fun _ _ _ _ _ _ us hl => match us, hl with | [_], _ => rfl
  have gCf' := PySem.W.mg_of X G aCf
  have FPf := fun_mk (st := sPrimeFactors) lPf c_Pf k_Pf
  have bPf := FPf.binds (ps := ["k"]) fun _ _ _ _ _ _ us hl => match us, hl with | [_], _ => rfl
  have gPf' := PySem.W.mg_of X G aPf
  have FDv := fun_mk (st := sDivisors) lDv c_Dv k_Dv
  have bDv := FDv.binds (ps := ["k"]) fun _ _ _ _ _ _ us hl => match us, hl with | [_], _ => rfl
  have gDv' := PySem.W.mg_of X G aDv
  have FPo := fun_mk (st := sPrimesOfForm) lPo c_Po k_Po
  have bPo := FPo.binds (ps := ["wanted"]) fun _ _ _ _ _ _ us hl => match us, hl with | [_], _ => rfl
  have gPo' := PySem.W.mg_of X G aPo
  have FSo := fun_mk (st := sStepsOfForm) lSo c_So k_So
  have bSo := FSo.binds (ps := ["wanted"]) fun _ _ _ _ _ _ us hl => match us, hl with | [_], _ => rfl
  have gSo' := PySem.W.mg_of X G aSo
  have FHc := fun_mk (st := sShortestChain) lHc c_Hc k_Hc
  have bHc := FHc.binds (ps := ["wanted"]) fun _ _ _ _ _ _ us hl => match us, hl with | [_], _ => rfl
  have gHc' := PySem.W.mg_of X G aHc
  have FWf := fun_mk (st := sChainWithFactors) lWf c_Wf k_Wf
  have bWf := FWf.binds (ps := ["wanted", "factors"]) fun _ _ _ _ _ _ us hl => match us, hl with | [_, _], _ => rfl
  have gWf' := PySem.W.mg_of X G aWf
  have FRm := fun_mk (st := sRemainder) lRm c_Rm k_Rm
  have bRm := FRm.binds (ps := ["first", "second"]) fun _ _ _ _ _ _ us hl => match us, hl with | [_, _], _ => rfl
  have gRm' := PySem.W.mg_of X G aRm
  have FFt := fun_mk (st := sFormsBetween) lFt c_Ft k_Ft
  have bFt := FFt.binds (ps := ["first", "second"]) fun _ _ _ _ _ _ us hl => match us, hl with | [_, _], _ => rfl
  have gFt' := PySem.W.mg_of X G aFt
  have FFk := fun_mk (st := sFormsBehindKeep) lFk c_Fk k_Fk
  have bFk := FFk.binds (ps := ["first", "second"]) fun _ _ _ _ _ _ us hl => match us, hl with | [_, _], _ => rfl
  have gFk' := PySem.W.mg_of X G aFk
  have FFe := fun_mk (st := sFormBetweenEnds) lFe c_Fe k_Fe
  have bFe := FFe.binds (ps := ["first", "second"]) fun _ _ _ _ _ _ us hl => match us, hl with | [_, _], _ => rfl
  have gFe' := PySem.W.mg_of X G aFe
  have FFl := fun_mk (st := sFormsBehindLf) lFl c_Fl k_Fl
  have bFl := FFl.binds (ps := ["first", "second", "quotient"]) fun _ _ _ _ _ _ us hl => match us, hl with | [_, _, _], _ => rfl
  have gFl' := PySem.W.mg_of X G aFl
  have FCb := fun_mk (st := sChangesBetween) lCb c_Cb k_Cb
  have bCb := FCb.binds (ps := ["j", "wanted_j"]) fun _ _ _ _ _ _ us hl => match us, hl with | [_, _], _ => rfl
  have gCb' := PySem.W.mg_of X G aCb
  have FLs := fun_mk (st := sLSource) lLs c_Ls k_Ls
  have bLs := FLs.binds (ps := ["script"]) fun _ _ _ _ _ _ us hl => match us, hl with | [_], _ => rfl
  have gLs' := PySem.W.mg_of X G aLs
  have FLd := fun_mk (st := sLDraw) lLd c_Ld k_Ld
  have bLd := FLd.binds (ps := ["source", "many"]) fun _ _ _ _ _ _ us hl => match us, hl with | [_, _], _ => rfl
  have gLd' := PySem.W.mg_of X G aLd
  have FLw := fun_mk (st := sLForm) lLw c_Lw k_Lw
  have bLw := FLw.binds (ps := ["letters"]) fun _ _ _ _ _ _ us hl => match us, hl with | [_], _ => rfl
  have gLw' := PySem.W.mg_of X G aLw
  have FDr := fun_mk (st := sLDrawn) lDr c_Dr k_Dr
  have bDr := FDr.binds (ps := ["source", "far", "top"]) fun _ _ _ _ _ _ us hl => match us, hl with | [_, _, _], _ => rfl
  have gDr' := PySem.W.mg_of X G aDr
  have FLj := fun_mk (st := sLJoined) lLj c_Lj k_Lj
  have bLj := FLj.binds (ps := ["one", "other"]) fun _ _ _ _ _ _ us hl => match us, hl with | [_, _], _ => rfl
  have gLj' := PySem.W.mg_of X G aLj
  have FLp := fun_mk (st := sLPrimes) lLp c_Lp k_Lp
  have bLp := FLp.binds (ps := ["factor"]) fun _ _ _ _ _ _ us hl => match us, hl with | [_], _ => rfl
  have gLp' := PySem.W.mg_of X G aLp
  have FLv := fun_mk (st := sLDivisors) lLv c_Lv k_Lv
  have bLv := FLv.binds (ps := ["factor"]) fun _ _ _ _ _ _ us hl => match us, hl with | [_], _ => rfl
  have gLv' := PySem.W.mg_of X G aLv
  have FLk := fun_mk (st := sLFactorSteps) lLk c_Lk k_Lk
  have bLk := FLk.binds (ps := ["primes", "last"]) fun _ _ _ _ _ _ us hl => match us, hl with | [_, _], _ => rfl
  have gLk' := PySem.W.mg_of X G aLk
  have FLb := fun_mk (st := sLBetween) lLb c_Lb k_Lb
  have bLb := FLb.binds (ps := ["here", "there"]) fun _ _ _ _ _ _ us hl => match us, hl with | [_, _], _ => rfl
  have gLb' := PySem.W.mg_of X G aLb
  have FLc := fun_mk (st := sLConverted) lLc c_Lc k_Lc
  have bLc := FLc.binds (ps := ["here", "factor", "last"]) fun _ _ _ _ _ _ us hl => match us, hl with | [_, _, _], _ => rfl
  have gLc' := PySem.W.mg_of X G aLc
  have FLu := fun_mk (st := sLDue) lLu c_Lu k_Lu
  have bLu := FLu.binds (ps := ["one", "other"]) fun _ _ _ _ _ _ us hl => match us, hl with | [_, _], _ => rfl
  have gLu' := PySem.W.mg_of X G aLu
  have FLi := fun_mk (st := sLIsSmall) lLi c_Li k_Li
  have bLi := FLi.binds (ps := ["told"]) fun _ _ _ _ _ _ us hl => match us, hl with | [_], _ => rfl
  have gLi' := PySem.W.mg_of X G aLi
  have FLr := fun_mk (st := sLPair) lLr c_Lr k_Lr
  have bLr := FLr.binds (ps := ["source"]) fun _ _ _ _ _ _ us hl => match us, hl with | [_], _ => rfl
  have gLr' := PySem.W.mg_of X G aLr
  have FW := fun_mk (st := sLaw) lW c_W k_W
  have gW' := PySem.W.mg_of X G aW
  have m_abs := PySem.W.mg_none_of X G z_abs
  have m_enumerate := PySem.W.mg_none_of X G z_enumerate
  have m_int := PySem.W.mg_none_of X G z_int
  have m_len := PySem.W.mg_none_of X G z_len
  have m_max := PySem.W.mg_none_of X G z_max
  have m_min := PySem.W.mg_none_of X G z_min
  have m_range := PySem.W.mg_none_of X G z_range
  have m_set := PySem.W.mg_none_of X G z_set
  have m_sorted := PySem.W.mg_none_of X G z_sorted
  have m_sum := PySem.W.mg_none_of X G z_sum
  have TL : LenT K w mg aL := ⟨PySem.W.mg_of X G gL, ⟨_, _, hL, kL, mL⟩, ⟨_, vL3⟩, ⟨_, vL5⟩, ⟨_, vL4⟩⟩
  refine ⟨PySem.W.fnOf "law" "law" (defArgs sLaw) (defBody sLaw) (defScope sLaw) .none kVW docW pmW anW cdW ctW, fun s v => .of_eq rfl, fun base _ _ => ?_⟩
  have GIf : FnOk P w K mg base CX0 1 fIf _ ["wanted"] (spIsForm K) := ok_isForm FIf TL m_len m_min
  have GCf : FnOk P w K mg base CX0 2 fCf _ ["wanted"] (spChkForm K) := ok_chkForm FCf GIf k_If bIf gIf'
  have GPf : FnOk P w K mg base CX0 1 fPf _ ["k"] spPf := ok_pf FPf
  have GDv : FnOk P w K mg base CX0 2 fDv _ ["k"] (spDv dvs) := ok_dv FDv ⟨m_sorted, m_set⟩ ⟨GPf.mono (by decide), k_Pf, bPf, gPf'⟩
  have GPo : FnOk P w K mg base CX0 2 fPo _ ["wanted"] (spPof K) := ok_pof FPo ⟨GPf.mono (by decide), k_Pf, bPf, gPf'⟩
  have GSo : FnOk P w K mg base CX0 3 fSo _ ["wanted"] (spSof K) := ok_sof FSo ⟨m_sum⟩ ⟨GPo.mono (by decide), k_Po, bPo, gPo'⟩
  have GWf : FnOk P w K mg base CX0 1 fWf _ ["wanted", "factors"] (spCwf K) := ok_cwf FWf
  have GHc : FnOk P w K mg base CX0 3 fHc _ ["wanted"] (spShc K) := ok_shc FHc ⟨GCf.mono (by decide), k_Cf, bCf, gCf'⟩ ⟨GPo.mono (by decide), k_Po, bPo, gPo'⟩ ⟨GWf.mono (by decide), k_Wf, bWf, gWf'⟩
  have GCb : FnOk P w K mg base CX0 1 fCb _ ["j", "wanted_j"] spChg := ok_chg FCb ⟨m_max⟩
  have GFk : FnOk P w K mg base CX0 2 fFk _ ["first", "second"] (spFbk K) := ok_fbk FFk ⟨GCb.mono (by decide), k_Cb, bCb, gCb'⟩
  have GFe : FnOk P w K mg base CX0 2 fFe _ ["first", "second"] (spFbe K) := ok_fbe FFe ⟨GCb.mono (by decide), k_Cb, bCb, gCb'⟩
  have GFl : FnOk P w K mg base CX0 3 fFl _ ["first", "second", "quotient"] (spFbl K dvs) := ok_fbl FFl ⟨GDv.mono (by decide), k_Dv, bDv, gDv'⟩ ⟨GCb.mono (by decide), k_Cb, bCb, gCb'⟩
  have GFt : FnOk P w K mg base CX0 4 fFt _ ["first", "second"] (spFbt K dvs) := ok_fbt dvs_ok FFt ⟨GFk.mono (by decide), k_Fk, bFk, gFk'⟩ ⟨GFe.mono (by decide), k_Fe, bFe, gFe'⟩ ⟨GFl.mono (by decide), k_Fl, bFl, gFl'⟩
  have GRm : FnOk P w K mg base CX0 5 fRm _ ["first", "second"] (spRem K dvs) := ok_rem FRm ⟨m_min⟩ ⟨GCf.mono (by decide), k_Cf, bCf, gCf'⟩ ⟨GFt.mono (by decide), k_Ft, bFt, gFt'⟩ ⟨GSo.mono (by decide), k_So, bSo, gSo'⟩ ⟨GHc.mono (by decide), k_Hc, bHc, gHc'⟩
  have GLs : FnOk P w K mg base CX0 1 fLs _ ["script"] (spSource K) := ok_source FLs m_max
  have GLd : FnOk P w K mg base CX0 1 fLd _ ["source", "many"] spDraw := ok_draw FLd
  have GLw : FnT P w K mg base CX0 1 fLw _ ["letters"] (spLF K) := ok_lform FLw ⟨m_int, m_min, m_len, m_max⟩
  have GDr : FnOk P w K mg base CX0 2 fDr _ ["source", "far", "top"] spDrawn := ok_drawn FDr m_range GLd k_Ld bLd gLd'
  have GLj : FnOk P w K mg base CX0 1 fLj _ ["one", "other"] (spLJn K) := ok_ljn FLj ⟨m_max⟩
  have GLp : FnOk P w K mg base CX0 1 fLp _ ["factor"] spPf := ok_lprimes FLp
  have GLv : FnOk P w K mg base CX0 2 fLv _ ["factor"] (spDv dvs) := ok_ldv FLv ⟨m_sorted, m_set⟩ ⟨GLp.mono (by decide), k_Lp, bLp, gLp'⟩
  have GLk : FnOk P w K mg base CX0 1 fLk _ ["primes", "last"] spLFs := ok_lfs FLk ⟨m_enumerate, m_len⟩
  have GLb : FnOk P w K mg base CX0 1 fLb _ ["here", "there"] spLBt := ok_lbt FLb ⟨m_max⟩
  have GLc : FnOk P w K mg base CX0 3 fLc _ ["here", "factor", "last"] spLCv := ok_lcv FLc ⟨m_abs, m_sum, m_min⟩ ⟨GLv.mono (by decide), k_Lv, bLv, gLv'⟩ ⟨GLp.mono (by decide), k_Lp, bLp, gLp'⟩ ⟨GLb.mono (by decide), k_Lb, bLb, gLb'⟩ ⟨GLk.mono (by decide), k_Lk, bLk, gLk'⟩
  have GLu : FnOk P w K mg base CX0 4 fLu _ ["one", "other"] (spLDu K) := ok_ldu FLu ⟨m_sum⟩ ⟨GLp.mono (by decide), k_Lp, bLp, gLp'⟩ ⟨GLb.mono (by decide), k_Lb, bLb, gLb'⟩ ⟨GLk.mono (by decide), k_Lk, bLk, gLk'⟩ ⟨GLc.mono (by decide), k_Lc, bLc, gLc'⟩
  have GLi : FnOk P w K mg base CX0 2 fLi _ ["told"] (spLSm K) := ok_lsm FLi ⟨m_sum⟩ ⟨GLp.mono (by decide), k_Lp, bLp, gLp'⟩
  have GLr : FnOk P w K mg base CX0 3 fLr _ ["source"] (spLPr K) := ok_lpr FLr ⟨m_max⟩ ⟨GLd.mono (by decide), k_Ld, bLd, gLd'⟩ ⟨GDr.mono (by decide), k_Dr, bDr, gDr'⟩ ⟨GLj.mono (by decide), k_Lj, bLj, gLj'⟩
  have GW := ok_law FW ⟨m_range, m_min, m_len⟩ (k := 5) ⟨GLs.mono (by decide), k_Ls, bLs, gLs'⟩ ⟨GLr.mono (by decide), k_Lr, bLr, gLr'⟩ ⟨GLi.mono (by decide), k_Li, bLi, gLi'⟩ ⟨GLu.mono (by decide), k_Lu, bLu, gLu'⟩ ⟨GRm.mono (by decide), k_Rm, bRm, gRm'⟩ (kb12 FRm fun _ _ _ _ _ _ _ _ => rfl) ⟨GLj.mono (by decide), k_Lj, bLj, gLj'⟩ ⟨GLw.mono (by decide), k_Lw, bLw, gLw'⟩
  exact FnG.of GW
end Lw
open PySem PySem.W PyProof.Rows
set_option maxRecDepth 100000 in
set_option maxHeartbeats 0 in
theorem PySem.Challenge.cw_lineends_k34_great_remainders_holds : PySem.Challenge.rw_lineends_k34_great_remainders.Holds := by
  w_on; o_law; k_head; (case hw => w_witness2)
  k_fill
  refine Lx.endG (l := PySem.Challenge.rw_lineends_k34_great_remainders) (n := 63) (k := 6) (x := "script") (CX := fun _ => L2.CX0) (sp := fun w => Lw.spLaw _) rfl (by decide) rfl ⟨rfl, by decide, by decide⟩ (fun w h Y => PySem.W.kIn_of Y) ?F (fun _ _ a ns hl hS => ⟨a, ns, rfl, hS, hl, fun _ => rfl⟩) (fun _ _ _ _ _ h => h)
  case F =>
    intro w mg fa h KX G hmg
    refine' Lw.all_mk KX G hmg ?aIf ?lIf ?c_If ?k_If ?aCf ?lCf ?c_Cf ?k_Cf ?aPf ?lPf ?c_Pf ?k_Pf ?aDv ?lDv ?c_Dv ?k_Dv ?aPo ?lPo ?c_Po ?k_Po ?aSo ?lSo ?c_So ?k_So ?aHc ?lHc ?c_Hc ?k_Hc ?aWf ?lWf ?c_Wf ?k_Wf ?aRm ?lRm ?c_Rm ?k_Rm ?aFt ?lFt ?c_Ft ?k_Ft ?aFk ?lFk ?c_Fk ?k_Fk ?aFe ?lFe ?c_Fe ?k_Fe ?aFl ?lFl ?c_Fl ?k_Fl ?aCb ?lCb ?c_Cb ?k_Cb ?aLs ?lLs ?c_Ls ?k_Ls ?aLd ?lLd ?c_Ld ?k_Ld ?aLw ?lLw ?c_Lw ?k_Lw ?aDr ?lDr ?c_Dr ?k_Dr ?aLj ?lLj ?c_Lj ?k_Lj ?aLp ?lLp ?c_Lp ?k_Lp ?aLv ?lLv ?c_Lv ?k_Lv ?aLk ?lLk ?c_Lk ?k_Lk ?aLb ?lLb ?c_Lb ?k_Lb ?aLc ?lLc ?c_Lc ?k_Lc ?aLu ?lLu ?c_Lu ?k_Lu ?aLi ?lLi ?c_Li ?k_Li ?aLr ?lLr ?c_Lr ?k_Lr ?aW ?lW ?c_W ?k_W ?z_abs ?z_enumerate ?z_int ?z_len ?z_max ?z_min ?z_range ?z_set ?z_sorted ?z_sum ?gL ?hL ?kL ?mL ?vL3 ?vL5 ?vL4
    (case aIf => k_is)
    (case lIf => k_is)
    (case c_If => k_is)
    (case k_If => k_is)
    (case aCf => k_is)
    (case lCf => k_is)
    (case c_Cf => k_is)
    (case k_Cf => k_is)
    (case aPf => k_is)
    (case lPf => k_is)
    (case c_Pf => k_is)
    (case k_Pf => k_is)
    (case aDv => k_is)
    (case lDv => k_is)
    (case c_Dv => k_is)
    (case k_Dv => k_is)
    (case aPo => k_is)
    (case lPo => k_is)
    (case c_Po => k_is)
    (case k_Po => k_is)
    (case aSo => k_is)
    (case lSo => k_is)
    (case c_So => k_is)
    (case k_So => k_is)
    (case aHc => k_is)
    (case lHc => k_is)
    (case c_Hc => k_is)
    (case k_Hc => k_is)
    (case aWf => k_is)
    (case lWf => k_is)
    (case c_Wf => k_is)
    (case k_Wf => k_is)
    (case aRm => k_is)
    (case lRm => k_is)
    (case c_Rm => k_is)
    (case k_Rm => k_is)
    (case aFt => k_is)
    (case lFt => k_is)
    (case c_Ft => k_is)
    (case k_Ft => k_is)
    (case aFk => k_is)
    (case lFk => k_is)
    (case c_Fk => k_is)
    (case k_Fk => k_is)
    (case aFe => k_is)
    (case lFe => k_is)
    (case c_Fe => k_is)
    (case k_Fe => k_is)
    (case aFl => k_is)
    (case lFl => k_is)
    (case c_Fl => k_is)
    (case k_Fl => k_is)
    (case aCb => k_is)
    (case lCb => k_is)
    (case c_Cb => k_is)
    (case k_Cb => k_is)
    (case aLs => k_is)
    (case lLs => k_is)
    (case c_Ls => k_is)
    (case k_Ls => k_is)
    (case aLd => k_is)
    (case lLd => k_is)
    (case c_Ld => k_is)
    (case k_Ld => k_is)
    (case aLw => k_is)
    (case lLw => k_is)
    (case c_Lw => k_is)
    (case k_Lw => k_is)
    (case aDr => k_is)
    (case lDr => k_is)
    (case c_Dr => k_is)
    (case k_Dr => k_is)
    (case aLj => k_is)
    (case lLj => k_is)
    (case c_Lj => k_is)
    (case k_Lj => k_is)
    (case aLp => k_is)
    (case lLp => k_is)
    (case c_Lp => k_is)
    (case k_Lp => k_is)
    (case aLv => k_is)
    (case lLv => k_is)
    (case c_Lv => k_is)
    (case k_Lv => k_is)
    (case aLk => k_is)
    (case lLk => k_is)
    (case c_Lk => k_is)
    (case k_Lk => k_is)
    (case aLb => k_is)
    (case lLb => k_is)
    (case c_Lb => k_is)
    (case k_Lb => k_is)
    (case aLc => k_is)
    (case lLc => k_is)
    (case c_Lc => k_is)
    (case k_Lc => k_is)
    (case aLu => k_is)
    (case lLu => k_is)
    (case c_Lu => k_is)
    (case k_Lu => k_is)
    (case aLi => k_is)
    (case lLi => k_is)
    (case c_Li => k_is)
    (case k_Li => k_is)
    (case aLr => k_is)
    (case lLr => k_is)
    (case c_Lr => k_is)
    (case k_Lr => k_is)
    (case aW => k_is)
    (case lW => k_is)
    (case c_W => k_is)
    (case k_W => k_is)
    (case z_abs => k_is)
    (case z_enumerate => k_is)
    (case z_int => k_is)
    (case z_len => k_is)
    (case z_max => k_is)
    (case z_min => k_is)
    (case z_range => k_is)
    (case z_set => k_is)
    (case z_sorted => k_is)
    (case z_sum => k_is)
    (case gL => k_is)
    (case hL => k_is)
    (case kL => exact ⟨⟨_, _, rfl, rfl⟩, ⟨_, _, rfl, rfl⟩, ⟨_, _, rfl, rfl⟩, trivial⟩)
    (case mL => decide)
    (case vL3 => k_is)
    (case vL5 => k_is)
    (case vL4 => k_is)
