import PyProof.Rows.All
import Wide.All
import OpenK.AllK
import Wide.FinOn
import KE.KFromBytes
import KE.KExcSuper
import HandS.Base
import HandS.Call
import HandS.Exc
import HandS.Ends
import HandS.Words
import KE.KExcIs
import HandS.ForExc
import HandS.ForMost
import HandS.IsInst
import HandS.Walk
import HandS.TupAny
import HandS.More
import PyProof.WalkInts
import KE.GoesMore
import PyProof.EnumMake
import PyProof.EnumFor
import HandS.Wide
import HandS.WideMore
import PyProof.ReprBulk
import HandS.MakeKwOnly
import PyProof.StrOps2
import HandS.Dict
import HandS.ReplaceLit
import HandS.ReplaceList
import HandS.Replace
import HandS.NoneIn
import HandS.WordsExc
import HandS.SetFor
import HandS.Property
import HandS.List
import KE.KTupSum
import PySem.Challenge.RW_lineends_k43_hidden_chains_answer
set_option Elab.async false
set_option linter.all false
set_option maxRecDepth 100000
set_option maxHeartbeats 4000000
/-! An own error class over ValueError, called by position or by keyword: what it leaves. -/
namespace Lx
open PySem PySem.HandSPX
open PySem.W (Looks)
section
variable {M : Model} {prog : Program} {w : World} {A : Around} {E : Value → Shared → Prop} {R : Result → Shared → Prop}
variable {h : Heap} {gn : Array GenState} {dr : Drawn} {tk : Nat} {os : OsState}
variable {nm q : Str} {C N : Addr} {bs bm bmB : List Value} {hd : Bool} {sn : List Str} {sub : List Value} {ab : Bool} {col : Option Bool} {dd : Option Addr} {k0 k1 k2 k3 k5 : Option Value} {B nid iid : String}
/-- the maker's own check, with keywords -/
theorem newCheck (F : ExcBaseFacts B nid iid bmB) (hT : ∀ Y : String, bm.contains (.type Y) = bmB.contains (.type Y)) {pos : List Value} {kw : List (Str × Value)} {Q : Unit → Shared → Prop}
    (hC : h.get? C = some (excClassObj nm q C N bs bm hd sn sub ab col dd k0 k1 k2 k3 k5 nid)) (hq : Q () ⟨h, gn, dr, tk, os⟩) :
    wpAny M A (checkBuiltinCall nid ⟨.ref C :: pos, kw⟩) Q E ⟨h, gn, dr, tk, os⟩ := by
  have c0 : (Value.ref C :: bm).contains (.type B) = true := by
    rw [List.contains_cons, hT, F.hasB, Bool.or_true]
  have c1 := F.noStar
  simp only [checkBuiltinCall, F.newKind, F.newSplit, F.newRow]
  repeat (first
    | refine wpAny_loadPart_at hC ?_
    | (refine wpAny_isSubtype_exc hC ?_; rw [c0])
    | refine wpAny_staticBase_exc hC ?_
    | refine wpAny_madeBy_exc hC ?_
    | simp only [bne_self_eq_false, Bool.false_eq_true, if_false]
    | wp_step)
  exact hq
/-- the maker: the arguments by position alone are laid -/
theorem newMakes (F : ExcBaseFacts B nid iid bmB) (hT : ∀ Y : String, bm.contains (.type Y) = bmB.contains (.type Y)) {pos : List Value} {kw : List (Str × Value)}
    (hC : h.get? C = some (excClassObj nm q C N bs bm hd sn sub ab col dd k0 k1 k2 k3 k5 nid)) (hl : pos.length ≤ sizeLine)
    (hq : R (.ok (.ret (.ref (h.objs.size + 1)))) ⟨(h.push (W.kdv_tup pos)).push (excO C h.objs.size), gn, dr, tk, os⟩) :
    codeAny (model prog w) A (.builtin nid ⟨.ref C :: pos, kw⟩) R ⟨h, gn, dr, tk, os⟩ := by
  have e1 := F.ends
  have c0 : (Value.ref C :: bm).contains (.type B) = true := by
    rw [List.contains_cons, hT, F.hasB, Bool.or_true]
  have c1 : (Value.ref C :: bm).contains (.type "AttributeError") = false := by
    rw [List.contains_cons, hT, F.noAttr]; rfl
  have c2 : (Value.ref C :: bm).contains (.type "NameError") = false := by
    rw [List.contains_cons, hT, F.noName]; rfl
  refine codeAny_builtinAt F.entry ?_
  unfold Builtin.«BaseException.__new__»
  refine wpAt_bind ?_
  show wpAt _ _ _ (stack >>= _) _ _ _
  refine wpAt_bind (wpAt_stack fun p below => wpAt_of_wpAny ?_)
  wp_walk
  refine wpAt_of_wpAny ?_
  rw [F.owner]
  repeat (first
    | with_reducible refine wpAny_madeHere_exc F.canon hC ?_
    | with_reducible refine wpAny_loadPart_at hC ?_
    | (with_reducible refine wpAny_isSubtype_exc hC ?_; first | rw [c0] | rw [c1] | rw [c2])
    | wp_step)
  show R _ _
  rw [Heap.size_push]
  exact hq
/-- the class's call: the maker, then the class's own __init__ -/
theorem typeCalls (F : ExcBaseFacts B nid iid bmB) (hT : ∀ Y : String, bm.contains (.type Y) = bmB.contains (.type Y)) {pos : List Value} {kw : List (Str × Value)} {fI : Addr} {Q : Fin → Shared → Prop}
    (hC : h.get? C = some (excClassObj nm q C N bs bm hd sn sub ab col dd k0 k1 k2 k3 k5 nid))
    (hi : Looks (model prog w) h (typeLookup (.ref C) "__init__") (some (.ref fI))) (hb : ∀ self, Looks (model prog w) h (bindSpecial (.ref fI) self) (.ref fI, [self])) (hl : pos.length ≤ sizeLine)
    (hq : codeAny (model prog w) A (.call (.ref fI) ⟨.ref (h.objs.size + 1) :: pos, kw⟩)
      (fun r s' => match r with | .ok (.ret v) => v = .none ∧ Q (.done (.ret (.ref (h.objs.size + 1)))) s' | .ok _ => False | .error e => E e s')
      ⟨(h.push (W.kdv_tup pos)).push (excO C h.objs.size), gn, dr, tk, os⟩) :
    wpAny (model prog w) A (Builtin.«type.__call__» ⟨.ref C :: pos, kw⟩) Q E ⟨h, gn, dr, tk, os⟩ := by
  repeat (first | with_reducible refine wpAny_loadPart_at hC ?_ | with_reducible refine wpAny_madeBy_exc hC ?_ | wp_step)
  refine codeAny_call_builtin_code (Code.quiet_builtin _ F.quiet) (newCheck F hT hC ?_)
  refine newMakes F hT hC hl ?_
  show wpAny _ _ _ _ _ _
  have kp : ∀ b o, h.get? b = some o → ((h.push (W.kdv_tup pos)).push (excO C h.objs.size)).get? b = some o := fun b o e => Heap.get?_push_of_some _ (Heap.get?_push_of_some _ e)
  have hC1 := kp _ _ hC
  have hg : ((h.push (W.kdv_tup pos)).push (excO C h.objs.size)).get? (h.objs.size + 1) = some (excO C h.objs.size) := by heap_get
  have hs : (Value.ref C :: bm).contains (.ref C) = true := by simp
  have i1 := hi.keeps kp
  have b1 := (hb (.ref (h.objs.size + 1))).keeps kp
  unfold isInstance
  repeat (first | with_reducible refine wpAny_loadPart_at hg ?_ | (with_reducible refine wpAny_isSubtype_exc hC1 ?_; rw [hs]) | wp_step)
  show wpAny _ _ (typeLookup (.ref C) _) _ _ _
  refine i1.at ?_
  refine wpAny_holding (wpAny_bind (b1.at ?_))
  refine wpAny_bind (wpAny_call (codeAny_mono hq fun r s' z => ?_))
  rcases r with e | (v | _ | _ | _) <;> first | exact z | exact z.elim | skip
  obtain ⟨rfl, z⟩ := z
  first
    | exact wpAny_pure (wpAny_pure z)
    | (wp_walk; exact z)
end
end Lx
namespace Lx
open PySem PySem.HandSPX
open PySem.W (Looks)
open L2 (defArgs defBody defScope)
/-! ### the text of an error's __init__ -/
def inA (a b : Pos) : Arguments := { posonlyargs := [], args := [{ arg := "self", annotation := none, pos := a }, { arg := "value", annotation := none, pos := b }], vararg := none, kwonlyargs := [], kw_defaults := [], kwarg := none, defaults := [] }
def inB (msg : Str) (a b c d e f g i j k : Pos) : List Stmt :=
  [.Expr (.Call (.Attribute (.Call (.Name "super" a) [] [] b) "__init__" c) [.Constant (.str msg) 0 d] [] e) f, .Assign [.Attribute (.Name "self" g) "value" i] (.Name "value" j) k]
def SupCall (msg : Str) (a b c d e : Pos) : Prop := ∀ env : Env, ∃ pl : Sem Bool, eval (.Call (.Attribute (.Call (.Name "super" a) [] [] b) "__init__" c) [.Constant (.str msg) 0 d] [] e) env = (do
  let ov ← attributeBase (.Call (.Name "super" a) [] [] b) "__init__" env (eval (.Call (.Name "super" a) [] [] b) env)
  standAt c.atName
  let (f, first) ← holding [ov] (getMethod ov "__init__" pl)
  callWith e f first (backTo e (starEach [.Constant (.str msg) 0 d] env)) [])
def inS : Scope := { kind := .function, names := [(PySem.Str.ofString "self", .local), (PySem.Str.ofString "value", .local), (PySem.Str.ofString "__class__", .free), (PySem.Str.ofString "super", .globalImplicit)], isGenerator := false, isCoroutine := false, more := [] }
/-- what the written part says of the errors' own base, at L -/
structure LineC (K : PySem.W.Frag) (mg : Str → Option Value) (L : Addr) : Prop where
  gL : mg "LineError" = some (.ref L)
  cls : ∃ n q N bs sn sub ab col dd k0 k1 k2 k3 k5, K.lookup L = some (excClassObj n q L N bs HandSPX.veTail true sn sub ab col dd k0 k1 k2 k3 k5 "ValueError.__new__")
  ini : PySem.W.findIn K (.ref L) "__init__" = some (some (.builtin "ValueError.__init__"))
  ty : PySem.W.typeIn K (.ref L) = some (.type "type")
  exB : PySem.W.subIn K (.ref L) (.type "BaseException") = some true
  sup : PySem.W.nsIn K mainGlobals "super" = some none
  opq : PySem.W.nsIn K cStatics "thirdparty.any" = some none
  sp : PySem.W.specialIn K (.builtin "object.__class__") "__get__" = some (some (.builtin "getset_descriptor.__get__"))
  tk : PySem.W.takesIn K (.builtin "object.__class__") = some true
/-- what the written part says of an error class at C, whose base stands at L; st is the text of its __init__, qual that def's long name, nm the class's name -/
structure ErrC (K : PySem.W.Frag) (file : Str) (mg : Str → Option Value) (L : Addr) (nm qual : Str) (st : Stmt) (C : Addr) : Prop where
  gC : mg nm = some (.ref C)
  cls : ∃ n q N bs sn sub ab col dd k0 k1 k2 k3 k5, K.lookup C = some (excClassObj n q C N bs (.ref L :: HandSPX.veTail) true sn sub ab col dd k0 k1 k2 k3 k5 "ValueError.__new__")
  sa : PySem.W.findIn K (.ref C) "__setattr__" = some (some (.builtin "object.__setattr__"))
  ga : PySem.W.findIn K (.ref C) "__getattribute__" = some (some (.builtin "BaseException.__getattribute__"))
  gg : PySem.W.findIn K (.ref C) "__getattr__" = some none
  ca : PySem.W.findIn K (.ref C) "__class__" = some (some (.builtin "object.__class__"))
  nv : PySem.W.findIn K (.ref C) "value" = some none
  ty : PySem.W.typeIn K (.ref C) = some (.type "type")
  kp : PySem.W.keepIn K (.ref C) = true
  init : ∃ fI : Addr, PySem.W.findIn K (.ref C) "__init__" = some (some (.ref fI)) ∧ PySem.W.typeIn K (.ref fI) = some (.type "function") ∧
    ∃ (oc : Value) (od : Option Addr) (doc pm : Value) (an : Option Addr) (cc cda : Addr) (ct : Value) (osl : Array (Option Value)),
      K.lookup fI = some ⟨oc, od, .func (PySem.W.fnX "__init__" qual (defArgs st) (defBody st) (defScope st) [("__class__", cc)] .none .none doc pm an (.ref cda) ct), osl⟩ ∧ PySem.W.codeIn K (.ref cda) qual = true ∧
      (∃ (cl : Value) (cd : Option Addr) (vs : Array Value) (cs : Array (Option Value)) (tf : Tok), K.lookup cda = some ⟨cl, cd, .fields vs, cs⟩ ∧ vs[2]? = some (.str file tf)) ∧
      ∃ (cl : Value) (cd : Option Addr) (cs : Array (Option Value)), K.lookup cc = some ⟨cl, cd, .cell (some (.ref C)), cs⟩
  tA : ∃ a b, defArgs st = inA a b
  tB : ∃ msg a b c d e f g i j k, defBody st = inB msg a b c d e f g i j k ∧ SupCall msg a b c d e
  tS : defScope st = inS
theorem LineC.along {K : PySem.W.Frag} {mg : Str → Option Value} {L : Addr} (T : LineC K mg L) : PySem.W.alongIn K "__init__" (.ref L :: HandSPX.veTail) = some (some (.builtin "ValueError.__init__")) := by
  obtain ⟨n, q, N, bs, sn, sub, ab, col, dd, k0, k1, k2, k3, k5, hL⟩ := T.cls
  have e := T.ini
  simp only [PySem.W.findIn, hL] at e
  exact e
/-- the chain of classes above C -/
theorem ErrC.chain {K : PySem.W.Frag} {file : Str} {mg : Str → Option Value} {L C : Addr} {nm qual : Str} {st : Stmt} (T : ErrC K file mg L nm qual st C) : ∃ cd : ClassData, PySem.W.clsIn K C = some cd ∧ cd.mro = .ref C :: .ref L :: HandSPX.veTail ∧ cd.hasDict = true := by
  obtain ⟨n, q, N, bs, sn, sub, ab, col, dd, k0, k1, k2, k3, k5, hC⟩ := T.cls
  exact ⟨{ name := n, bases := bs, mro := .ref C :: .ref L :: HandSPX.veTail, ns := N, qualname := q, hasDict := true, slotNames := sn, subclasses := sub, abstract := ab, collection := col, hasDel := false }, by unfold PySem.W.clsIn; rw [hC] <;> rfl, rfl, rfl⟩
theorem ErrC.under {K : PySem.W.Frag} {file : Str} {mg : Str → Option Value} {L C : Addr} {nm qual : Str} {st : Stmt} (T : ErrC K file mg L nm qual st C) (b : Value) : PySem.W.mroIn K C b = some ((Value.ref C :: .ref L :: HandSPX.veTail).contains b) := by
  obtain ⟨cd, e1, e2, _⟩ := T.chain
  unfold PySem.W.mroIn
  rw [e1, Option.bind_some, e2]
  rfl
section
variable {prog : Program} {w : World} {A : Around} {E : Value → Shared → Prop} {R : Result → Shared → Prop} {M : Model}
variable {h : Heap} {gn : Array GenState} {dr : Drawn} {tk : Nat} {os : OsState}
variable {nm q : Str} {C N : Addr} {bs bm bmB : List Value} {hdt : Bool} {sn : List Str} {sub : List Value} {ab : Bool} {col : Option Bool} {dd : Option Addr} {k0 k1 k2 k3 k5 : Option Value} {B nid iid : String}
theorem tcCheck {pos : List Value} {kw : List (Str × Value)} {Q : Unit → Shared → Prop} (hC : h.get? C = some (excClassObj nm q C N bs bm hdt sn sub ab col dd k0 k1 k2 k3 k5 nid)) (hq : Q () ⟨h, gn, dr, tk, os⟩) :
    wpAny M A (checkBuiltinCall "type.__call__" ⟨.ref C :: pos, kw⟩) Q E ⟨h, gn, dr, tk, os⟩ := by
  have f3 := tc_sub
  have hT : (⟨h, gn, dr, tk, os⟩ : Shared).TypeIs (.ref C) "type" := ⟨_, hC, rfl⟩
  simp only [checkBuiltinCall, tc_kind, tc_split]
  repeat (any_goals (first | assumption | with_reducible refine wpAny_loadPart_at hC ?_ | with_reducible refine wpAny_onRaise ?_ | with_reducible refine wpAny_map ?_ | wp_step))
theorem clsCalls (F : ExcBaseFacts B nid iid bmB) (hT : ∀ Y : String, bm.contains (.type Y) = bmB.contains (.type Y)) {pos : List Value} {kw : List (Str × Value)} {fI : Addr}
    (hC : h.get? C = some (excClassObj nm q C N bs bm hdt sn sub ab col dd k0 k1 k2 k3 k5 nid))
    (hi : Looks (model prog w) h (typeLookup (.ref C) "__init__") (some (.ref fI))) (hb : ∀ self, Looks (model prog w) h (bindSpecial (.ref fI) self) (.ref fI, [self])) (hl : pos.length ≤ sizeLine)
    (hq : codeAny (model prog w) (A.under (.builtin "type.__call__" ⟨.ref C :: pos, kw⟩)) (.call (.ref fI) ⟨.ref (h.objs.size + 1) :: pos, kw⟩) (W.InitBack (h.objs.size + 1) R)
      ⟨(h.push (W.kdv_tup pos)).push (excO C h.objs.size), gn, dr, tk, os⟩) :
    codeAny (model prog w) A (.call (.ref C) ⟨pos, kw⟩) R ⟨h, gn, dr, tk, os⟩ := by
  have f1 := tc_lookup
  have f2 := tc_bind (.ref C)
  have hTy : (⟨h, gn, dr, tk, os⟩ : Shared).TypeIs (.ref C) "type" := ⟨_, hC, rfl⟩
  refine codeAny_of_tree ?_
  show wpAny _ _ (callAny (.ref C) _) _ _ _
  repeat (any_goals (first | assumption | with_reducible refine wpAny_loadPart_at hC ?_ | wp_step))
  refine ⟨rfl, ?_⟩
  refine codeAny_call_builtin_at (Code.quiet_builtin _ (by decide +kernel)) entry_typeCall (tcCheck hC (typeCalls F hT hC hi hb hl ?_))
  refine codeAny_mono hq fun r s' z => ?_
  rcases r with e | (v | _ | _ | _) <;> exact z
end
end Lx
namespace Lx
open PySem PySem.HandSPX
open PySem.W (Looks)
open L2 (defArgs defBody defScope)
/-- what __init__ leaves of a fresh error at x -/
structure InitLeft (h h' : Heap) (x C dx t1 : Addr) (v : Value) : Prop where
  keep : ∀ b o, b ≠ x → h.get? b = some o → h'.get? b = some o
  obj : h'.get? x = some { cls := .ref C, dict := some dx, data := .fields #[.ref t1, .none, .none, .none, .bool false, .none] }
  big : h.objs.size ≤ dx
  ne : dx ≠ x
  ns : h'.Ns1 dx (fun y => if y = "value" then some v else none)
/-- the two ways in which the value is handed over -/
inductive Hands (v : Value) : List Value → List (Str × Value) → Prop where
  | pos : Hands v [v] []
  | kw : Hands v [] [("value", v)]
section
variable {prog : Program} {w : World} {A : Around} {E : Value → Shared → Prop} {R : Result → Shared → Prop} {M : Model} {s : Shared}
variable {K : PySem.W.Frag} {mg mb : Str → Option Value} {nm qual : Str} {st : Stmt} {C L : Addr}
theorem initRuns (TL : LineC K mg L) (T : ErrC K prog.main.file mg L nm qual st C) {x t0 fI : Addr} {v : Value} {ps : List Value} {kw : List (Str × Value)} (hv : Hands v ps kw) (htop : (prog.main.scope.names.lookup ("super" : Str)).isSome = false)
    (hfI : PySem.W.findIn K (.ref C) "__init__" = some (some (.ref fI))) (X : K.In s.heap) (G : s.heap.Ns mainGlobals mg) (gs : mg "super" = none) (B : s.heap.Ns builtinsNs mb) (bs : mb "super" = some (.type "super"))
    (hlim : s.heap.NoLimit) (hnx : K.lookup x = none) (hx : s.heap.get? x = some (excO C t0)) (hroom : A.depth < recursionLimit)
    (hq : ∀ h' tk dx t1, InitLeft s.heap h' x C dx t1 v → R (.ok (.ret .none)) { s with heap := h', toks := tk }) :
    codeAny (model prog w) A (.call (.ref fI) ⟨.ref x :: ps, kw⟩) R s := by
  obtain ⟨n, q, N, bss, sn, sub, ab, col, dd, k0, k1, k2, k3, k5, hC⟩ := T.cls
  obtain ⟨bm, ebm⟩ : ∃ bm, bm = (Value.ref L :: HandSPX.veTail) := ⟨_, rfl⟩
  rw [← ebm] at hC
  have hbm : refsVE bm = true := by rw [ebm]; rfl
  have hal := TL.along
  rw [← ebm] at hal
  obtain ⟨f2, e2, tI, oc, od, doc, pm, an, cc, cda, ct, osl, ho, hcd, ⟨cl, cd, vs, cs, tf, hco, hvs⟩, cl2, cd2, cs2, hce⟩ := T.init
  rw [hfI] at e2
  obtain rfl : fI = f2 := Value.ref.inj (Option.some.inj (Option.some.inj e2))
  obtain ⟨a1, a2, eA⟩ := T.tA
  obtain ⟨msg, p0, p1, p2, p3, p4, p5, q1, q2, q3, q4, eB, hsc⟩ := T.tB
  rw [eA, eB, T.tS] at ho
  have hcl : PySem.W.clsIn K C = some { name := n, bases := bss, mro := .ref C :: bm, ns := N, qualname := q, hasDict := true, slotNames := sn, subclasses := sub, abstract := ab, collection := col, hasDel := false } := by
    unfold PySem.W.clsIn; rw [hC] <;> rfl
  have hcC : (Value.ref C :: bm).contains (.ref C) = true := by simp
  have hbase : ∀ Y : String, bm.contains (.type Y) = HandSPX.veTail.contains (.type Y) := fun Y => refsVE_contains Y bm hbm
  refine ks_codeAny_call_defAt (fd := PySem.W.fnX "__init__" qual (inA a1 a2) (inB msg p0 p1 p2 p3 p4 p5 q1 q2 q3 q4) inS [("__class__", cc)] .none .none doc pm an (.ref cda) ct) (body := inB msg p0 p1 p2 p3 p4 p5 q1 q2 q3 q4)
    (binds := [("self", .ref x), ("value", v)]) hroom (X _ _ ho) rfl hlim (PySem.W.codeRec_of X hcd) rfl ?_ (show ∀ y ∈ inS.names, y.2 ≠ .cell by decide) (by intro y hy; simp only [List.mem_cons, List.not_mem_nil, or_false] at hy; rcases hy with rfl | rfl <;> rfl) (fun h1 hns hk => ?_) rfl rfl rfl
  · cases hv with
    | pos => exact .of_eq (by first | rfl | with_unfolding_all rfl)
    | kw => exact .of_eq (by first | rfl | with_unfolding_all rfl)
  have X1 : K.In h1 := X.keeps hk
  have hx1 := hk _ _ hx
  have hC1 := X1 _ _ hC
  have hxC : x ≠ C := fun z => by
    rw [z] at hx1
    rw [hC1] at hx1
    cases hx1
  have hL : s.heap.objs.size ≠ x := Nat.ne_of_gt (Heap.lt_size hx)
  obtain ⟨pl, hpl⟩ := hsc (callEnv (PySem.W.fnX "__init__" qual (inA a1 a2) (inB msg p0 p1 p2 p3 p4 p5 q1 q2 q3 q4) inS [("__class__", cc)] .none .none doc pm an (.ref cda) ct) s.heap.objs.size fI)
  refine ks_wpAt_execs_cons (ks_wpAt_Expr_any (ks_wpAt_MethodCall (pl := pl) ?_ hpl))
  refine ks_wpAt_super_base (env := callEnv (PySem.W.fnX "__init__" qual (inA a1 a2) (inB msg p0 p1 p2 p3 p4 p5 q1 q2 q3 q4) inS [("__class__", cc)] .none .none doc pm an (.ref cda) ct) s.heap.objs.size fI) rfl rfl rfl rfl (X1 _ _ ho) rfl rfl rfl (X1 _ _ hco) rfl hvs (by simp) htop ?_
  refine PySem.W.ks_loadName_global rfl rfl (Calls.loadGlobal_builtin (mg := mg) (mb := mb) ?_ gs ?_ bs ⟨rfl, ?_⟩)
  · obtain ⟨o, es, ep, e, r⟩ := G
    exact ⟨o, es, ep, hk _ _ e, r⟩
  · obtain ⟨o, es, ep, e, r⟩ := B
    exact ⟨o, es, ep, hk _ _ e, r⟩
  refine wpAny_loadName_free rfl rfl (c := cc) rfl ⟨_, X1 _ _ hce, rfl⟩ ?_
  refine wpAny_loadName_local (m := fun y => ([("self", .ref x), ("value", v)] : List (Str × Value)).reverse.lookup y) rfl rfl hns rfl ?_
  refine ks_wpAny_isType_cls hC1 rfl ⟨rfl, ?_⟩
  refine ks_wpAny_call_super (C := C) hC1 rfl hx1 rfl (fun c e => by cases e) (PySem.W.looks_mroIn X1 (by unfold PySem.W.mroIn; rw [hcl, Option.bind_some, if_neg (by simp), hcC])) (fun h2 hso k2' => ?_)
  have X2 : K.In h2 := X1.keeps k2'
  have hx2 := k2' _ _ hx1
  have I2 : PySem.W.InstAt h2 x (excO C t0) C none := ⟨hx2, rfl, rfl, trivial⟩
  refine PySem.W.kxs_getMethod PySem.W.kxs_ValueError hso (PySem.W.looks_opaque X2 TL.opq) (l₀ := .ref C :: bm) (l := bm) (fun A' Q' E' s' k' q' => wpAny_bind ((PySem.W.looks_clsIn X2 hcl) A' _ E' s' k' (wpAny_pure q')))
    (by simp [List.dropWhile_cons]) X2 hal (I2.type.andThen (PySem.W.looks_mroIn X2 ((T.under _).trans (by rfl)))) hxC (by decide) ?_
  have k3 : ∀ b o, h2.get? b = some o → (h2.push (PySem.W.kxs_mw "ValueError.__init__" x)).get? b = some o := fun b o e => Heap.get?_push_of_some _ e
  have hu : (h2.push (PySem.W.kxs_mw "ValueError.__init__" x)).get? h2.objs.size = some (PySem.W.kxs_mw "ValueError.__init__" x) := Heap.get?_push_at rfl rfl
  refine PySem.W.kxs_callWith (i := "ValueError.__init__") (x := x) (by rfl) ?_
  refine Calls.evalArgs_plain ?_
  refine Calls.spliced_cons (wpAny_Constant_str (k := 0) (pos := p3) (Calls.spliced_nil ⟨hu, ?_⟩))
  have hone : ([.str msg s.toks] : List Value).length ≤ sizeLine := by rw [sizeLine_eq]; exact (by decide : 1 ≤ 16777216)
  refine wpAny_call (codeAny_of_tree ?_)
  show wpAny _ _ (callAny (.ref h2.objs.size) _) _ _ _
  simp only [callAny]
  refine wpAny_bind (wpAny_load hu ?_)
  simp only [PySem.W.kxs_mw, show (Value.type "method-wrapper" == Value.type "method" || Value.type "method-wrapper" == Value.type "builtin_function_or_method" || Value.type "method-wrapper" == Value.type "method-wrapper") = true by decide, if_true]
  refine PySem.W.KFB.if_so (by decide) ?_
  refine wpAny_bind (PySem.W.check_bound_init F.excBase_ValueError.toExcCallFacts (k3 _ _ (k2' _ _ hC1)) (k3 _ _ hx2) rfl ?_)
  refine wpAny_bind (wpAny_pure (wpAny_pure ?_))
  refine ⟨plainId_quiet F.excBase_ValueError.init.plain _, codeAny_builtin F.excBase_ValueError.initEntry ?_⟩
  refine PySem.W.exc_init_tree (cls := .ref C) (t0 := t0) (dv := none) (c2 := .none) (c3 := .none) (b4 := .bool false) (k3 _ _ hx2) (by rw [sizeLine_eq]; exact (by decide : 1 ≤ 16777216)) (fun h3 k4 hx3 _ => ?_)
  show wpAt _ _ _ (execs _ _) _ _ _
  have keep3 : ∀ b o, b ≠ x → h1.get? b = some o → h3.get? b = some o := fun b o hb e => k4 b o hb (k3 _ _ (k2' _ _ e))
  have hns3 : h3.Ns s.heap.objs.size (fun y => ([("self", .ref x), ("value", v)] : List (Str × Value)).reverse.lookup y) := by
    obtain ⟨o, es, ep, e, r⟩ := hns
    exact ⟨o, es, ep, keep3 _ _ hL e, r⟩
  have X3 : K.In h3 := fun a o e => keep3 a o (fun z => by
    rw [z, hnx] at e
    cases e) (X1 a o e)
  refine ks_wpAt_execs_cons (ks_wpAt_Assign_Attr ?_)
  refine wpAt_of_wpAny (wpAny_Name (wpAny_loadName_local rfl rfl hns3 rfl ?_))
  refine wpAny_Name (wpAny_loadName_local rfl rfl hns3 rfl ?_)
  refine PySem.W.set_plain X3 (ox := excO C _) (od := none) ⟨hx3, rfl, rfl, trivial⟩ T.sa ?_
  refine exc_osa X3 hx3 hcl (show refsVE (.ref C :: bm) = true from hbm) rfl T.nv (fun h4 tk4 dx k5 dn dne hx4 hn4 => ?_)
  refine wpAt_of_wpAny (wpAny_pure ?_)
  refine hq h4 tk4 dx _ ⟨fun b o hb e => k5 b o hb (keep3 b o hb (hk b o e)), hx4, Nat.le_trans (Nat.le_of_lt hns3.lt) dn, dne, hn4⟩
end
end Lx
namespace Lx
open PySem PySem.HandSPX
/-- a made error, at e, its own dict at d -/
structure ErrMade (h h' : Heap) (e C d : Addr) (v : Value) : Prop where
  keep : ∀ b o, h.get? b = some o → h'.get? b = some o
  ebig : h.objs.size ≤ e
  obj : ∃ t1 : Addr, h'.get? e = some { cls := .ref C, dict := some d, data := .fields #[.ref t1, .none, .none, .none, .bool false, .none] }
  dbig : h.objs.size ≤ d
  ne : d ≠ e
  ns : h'.Ns1 d (fun y => if y = "value" then some v else none)
section
variable {prog : Program} {w : World} {A : Around} {R : Result → Shared → Prop} {s : Shared}
variable {K : PySem.W.Frag} {mg mb : Str → Option Value} {nm qual : Str} {st : Stmt} {C L : Addr}
theorem errMade (TL : LineC K mg L) (T : ErrC K prog.main.file mg L nm qual st C) {v : Value} {ps : List Value} {kw : List (Str × Value)} (hv : Hands v ps kw) (htop : (prog.main.scope.names.lookup ("super" : Str)).isSome = false)
    (X : K.In s.heap) (G : s.heap.Ns mainGlobals mg) (gs : mg "super" = none) (B : s.heap.Ns builtinsNs mb) (bs : mb "super" = some (.type "super")) (hlim : s.heap.NoLimit) (hroom : A.depth + 1 < recursionLimit)
    (hq : ∀ h' tk e d, ErrMade s.heap h' e C d v → R (.ok (.ret (.ref e))) { s with heap := h', toks := tk }) : codeAny (model prog w) A (.call (.ref C) ⟨ps, kw⟩) R s := by
  obtain ⟨n, q, N, bss, sn, sub, ab, col, dd, k0, k1, k2, k3, k5, hC⟩ := T.cls
  obtain ⟨fI, iC, tI, _⟩ := T.init
  obtain ⟨hp, g, dr, tk, os⟩ := s
  have kp : ∀ b o, hp.get? b = some o → ((hp.push (W.kdv_tup ps)).push (excO C hp.objs.size)).get? b = some o := fun b o e => Heap.get?_push_of_some _ (Heap.get?_push_of_some _ e)
  have hget : ((hp.push (W.kdv_tup ps)).push (excO C hp.objs.size)).get? (hp.objs.size + 1) = some (excO C hp.objs.size) := by heap_get
  have hnx : K.lookup (hp.objs.size + 1) = none := by
    cases e : K.lookup (hp.objs.size + 1) with
    | none => rfl
    | some o =>
      have z : hp.get? (hp.objs.size + 1) = some o := X _ _ e
      exact absurd (Nat.lt_of_succ_lt (Heap.lt_size z)) (Nat.lt_irrefl _)
  have hl : ps.length ≤ sizeLine := by
    cases hv with
    | pos => rw [sizeLine_eq]; exact (by decide : 1 ≤ 16777216)
    | kw => exact Nat.zero_le _
  refine clsCalls F.excBase_ValueError (fun Y => refsVE_contains Y (.ref L :: HandSPX.veTail) (by rfl)) (X _ _ hC) (W.looks_findIn X iC) (fun self => W.bind_fn X self tI) hl ?_
  refine initRuns (s := ⟨(hp.push (W.kdv_tup ps)).push (excO C hp.objs.size), g, dr, tk, os⟩) TL T hv htop iC (X.keeps kp) ?_ gs ?_ bs (hlim.keeps kp) hnx hget ?_ fun h' tk' dx t1 I => ?_
  · obtain ⟨o, es, ep, e, r⟩ := G
    exact ⟨o, es, ep, kp _ _ e, r⟩
  · obtain ⟨o, es, ep, e, r⟩ := B
    exact ⟨o, es, ep, kp _ _ e, r⟩
  · show A.depth + 1 < recursionLimit
    exact hroom
  · have z : hp.objs.size + 1 + 1 ≤ dx := by
      first
        | (simpa only [Heap.size_push] using I.big)
        | (have q := I.big; rw [Heap.size_push, Heap.size_push] at q; exact q)
    refine ⟨rfl, hq h' tk' (hp.objs.size + 1) dx ⟨fun b o e => I.keep b o (Nat.ne_of_lt (Nat.lt_succ_of_lt (Heap.lt_size e))) (kp b o e), Nat.le_succ _, ⟨t1, I.obj⟩, (show hp.objs.size ≤ dx by omega), I.ne, I.ns⟩⟩
end
end Lx
namespace Lx
open PySem PySem.Spec L2
/-- at e: an error of the class at C, its own dict at d -/
def errO (e C d : Addr) : HO := .ext fun h => ∃ t1 : Addr, h.get? e = some ({ cls := .ref C, dict := some d, data := .fields #[.ref t1, .none, .none, .none, .bool false, .none] } : Obj)
theorem errO_ok {P : Program} {w : World} {H : Hp} {h : Heap} {e C d t1 : Addr} (he : h.get? e = some ({ cls := .ref C, dict := some d, data := .fields #[.ref t1, .none, .none, .none, .bool false, .none] } : Obj)) : ObjOk P w H h e (errO e C d) :=
  ⟨⟨t1, he⟩, ⟨_, he⟩, fun _ _ ⟨t, q⟩ k => ⟨t, k _ q⟩⟩
theorem errO_at {P : Program} {w : World} {H : Hp} {h : Heap} {e C d : Addr} (hok : HOk P w H h) (he : H e = some (errO e C d)) : ∃ t1 : Addr, h.get? e = some ({ cls := .ref C, dict := some d, data := .fields #[.ref t1, .none, .none, .none, .bool false, .none] } : Obj) := by
  have x : ObjOk P w H h e (.ext fun h => ∃ t1 : Addr, h.get? e = some ({ cls := .ref C, dict := some d, data := .fields #[.ref t1, .none, .none, .none, .bool false, .none] } : Obj)) := hok e _ he
  exact x.1
/-- the fields of a made error -/
abbrev vf (v : V) : List (Str × V) := [(("value" : Str), v)]
theorem relO_vf {v : V} {u : Value} (r : RelV v u) (f : Str) : RelO (List.lookup f (vf v)) (if f = "value" then some u else none) := by
  by_cases hw : f = "value"
  · subst hw
    rw [if_pos rfl]
    have q : List.lookup ("value" : Str) (vf v) = some v := by simp [List.lookup]
    rw [q]
    exact r
  · rw [if_neg hw]
    have qw : (f == ("value" : Str)) = false := by simpa using hw
    have q2 : List.lookup f (vf v) = none := by simp [List.lookup, qw]
    rw [q2]
    trivial
section
variable {X : Cx} {pins : List (Addr × Obj)} {σ : St} {H : Hp} {s : Shared}
/-- two new objects laid at once -/
theorem laid2 {h' : Heap} {d e : Addr} {o1 o2 : HO} {t' : Nat} (I : Inv X pins σ H s) (k : ∀ b u, s.heap.get? b = some u → h'.get? b = some u) (hd : s.heap.objs.size ≤ d) (he : s.heap.objs.size ≤ e)
    (ok1 : ObjOk X.prog X.w (upd (upd H d o1) e o2) h' d o1) (ok2 : ObjOk X.prog X.w (upd (upd H d o1) e o2) h' e o2) : Inv X pins σ (upd (upd H d o1) e o2) { s with heap := h', toks := t' } := by
  have nd : H d = none := I.hok.fresh hd
  have ne : H e = none := I.hok.fresh he
  have old : ∀ b o, H b = some o → upd (upd H d o1) e o2 b = some o := fun b o q => by
    rw [upd_ne (ne_of_none q ne), upd_ne (ne_of_none q nd)]
    exact q
  have lt : ∀ (b : Addr) (o : Obj), s.heap.get? b = some o → b ≠ d ∧ b ≠ e := fun b o q => ⟨Nat.ne_of_lt (Nat.lt_of_lt_of_le (Heap.lt_size q) hd), Nat.ne_of_lt (Nat.lt_of_lt_of_le (Heap.lt_size q) he)⟩
  refine I.un (t' := t') ⟨fun b o q _ _ _ => k b o q, fun b o q _ _ _ => ⟨o.slots, k b o q⟩, fun b o q n _ => ?_, fun b o q _ => ⟨o, k b o q⟩, fun b xs q => old _ _ q, fun b o u q => old _ _ q, fun b ps q => ⟨#[], by rw [old _ _ q]; simp⟩⟩ fun b o q => ?_
  · rw [upd_ne (lt b o q).2, upd_ne (lt b o q).1]
    exact n
  · by_cases h1 : b = e
    · subst h1
      rw [upd_same] at q
      cases q
      exact ok2
    · rw [upd_ne h1] at q
      by_cases h2 : b = d
      · subst h2
        rw [upd_same] at q
        cases q
        exact ok1
      · rw [upd_ne h2] at q
        exact (I.hok b o q).stay (fun c v _ z => k c v z) (fun c z => old _ _ z) fun c xs z => old _ _ z
end
/-- C(e), C(value=e): a new error and its dict -/
def tErr (C : Addr) (ta : TE) : TE := fun σ H Q => ta σ H fun v H1 => ∀ d e : Addr, H1 d = none → H1 e = none → d ≠ e → Q (.ref e) (upd (upd H1 d (.xd (vf v))) e (errO e C d))
/-- raise C(e) -/
def tErrR (C : Addr) (ta : TE) : St → Hp → XK → Prop := fun σ H Q => ta σ H fun v H1 => ∀ d : Addr, H1 d = none → Q (.ref C) (some d) (upd H1 d (.xd (vf v)))
section
variable {X : Cx} {C L : Addr} {nm qual : Str} {st : Stmt} {a : Expr} {ta : TE} {p pos kpos : Pos} {k : Nat}
theorem callErr {pins : List (Addr × Obj)} {σ : St} {H : Hp} {s : Shared} {R : Value → Shared → Prop} {E : Value → Shared → Prop} (TL : LineC X.K X.mg L) (T : ErrC X.K X.prog.main.file X.mg L nm qual st C) (hr : Room k X.A) (htop : (X.prog.main.scope.names.lookup ("super" : Str)).isSome = false) (gs : X.mg "super" = none)
    {v : Value} {ps : List Value} {kw : List (Str × Value)} (hv : Hands v ps kw) (I : Inv X pins σ H s)
    (hq : ∀ h' tk e d, ErrMade s.heap h' e C d v → R (.ref e) { s with heap := h', toks := tk }) : wpAny (model X.prog X.w) X.A (call (.ref C) ps kw) R E s := by
  obtain ⟨mb, hB, hb⟩ := I.mod.blt
  refine wpAny_call (errMade TL T hv htop I.kIn (I.mod.glob.keeps I.bk) gs (hB.keeps I.bk) ((hb _ (by decide)).trans (by decide +kernel)) I.nolimit (by have := hr.dp; omega) fun h' tk e d M => hq h' tk e d M)
theorem errEP {pins : List (Addr × Obj)} {σ : St} {H : Hp} {s : Shared} {h' : Heap} {tk : Nat} {e d : Addr} {v : V} {u : Value} {Q : VK} (I : Inv X pins σ H s) (r : RelV v u) (M : ErrMade s.heap h' e C d u)
    (q : ∀ d e : Addr, H d = none → H e = none → d ≠ e → Q (.ref e) (upd (upd H d (.xd (vf v))) e (errO e C d))) : EP X pins σ Q (.ref e) { s with heap := h', toks := tk } := by
  obtain ⟨t1, ho⟩ := M.obj
  exact ⟨.ref e, _, laid2 (o1 := .xd (vf v)) (o2 := errO e C d) I M.keep M.dbig M.ebig ⟨_, M.ns, fun f => relO_vf r f⟩ (errO_ok ho), rfl, q d e (I.hok.fresh M.dbig) (I.hok.fresh M.ebig) M.ne⟩
/-- C(e) as a value -/
theorem pe_err (TL : LineC X.K X.mg L) (T : ErrC X.K X.prog.main.file X.mg L nm qual st C) (hr : Room k X.A) (htop : (X.prog.main.scope.names.lookup ("super" : Str)).isSome = false) (gs : X.mg "super" = none) (hg : Gl X nm) (he : PE X a ta) (hdb : (nm == ("__debug__" : Str)) = false := by decide)
    (hs : starEach [a] X.env = (false, eval a X.env) :: starEach [] X.env := by rfl) (hpl : (backTo pos (starEach [] X.env)).any (·.1) = false := by rfl) : PE X (.Call (.Name nm p) [a] [] pos) (tErr C ta) := by
  refine ⟨fun pins s σ H Q I h => ?_⟩
  refine wpAny_Call_Name_kw (ld_glob I hg T.gC ?_ hdb)
  refine PySem.W.callWith_K (h₀ := X.base) I.ok.mod.kin T.kp ?_ hs hpl
  rw [hs]
  show wpAny _ _ (spliced ((false, eval a X.env) :: backTo pos (starEach [] X.env))) _ _ s
  refine Calls.spliced_cons (thn (he.run pins s σ H _ I h) fun u s1 ⟨v, H1, I1, r1, q1⟩ => ?_)
  refine Calls.spliced_nil ⟨I1.kIn, ?_⟩
  show wpAny _ _ (call (.ref C) [u]) _ _ _
  exact callErr TL T hr htop gs .pos I1 fun h' tk e d M => errEP I1 r1 M q1
/-- C(value=e) as a value -/
theorem pe_errK (TL : LineC X.K X.mg L) (T : ErrC X.K X.prog.main.file X.mg L nm qual st C) (hr : Room k X.A) (htop : (X.prog.main.scope.names.lookup ("super" : Str)).isSome = false) (gs : X.mg "super" = none) (hg : Gl X nm) (he : PE X a ta) (hdb : (nm == ("__debug__" : Str)) = false := by decide)
    (hall : (backToKw pos (keywordEach [⟨some "value", a, kpos⟩] X.env)).all (·.1.isSome) = true := by rfl) (hks : (backToKw pos (keywordEach [⟨some "value", a, kpos⟩] X.env)).filterMap (·.1) = [("value" : Str)] := by rfl)
    (hpl : ((backTo pos (starEach [] X.env)).any (·.1) || (backToKw pos (keywordEach [⟨some "value", a, kpos⟩] X.env)).any (·.1.isNone)) = false := by rfl) : PE X (.Call (.Name nm p) [] [⟨some "value", a, kpos⟩] pos) (tErr C ta) := by
  refine ⟨fun pins s σ H Q I h => ?_⟩
  refine wpAny_Call_Name_kw (ld_glob I hg T.gC ?_ hdb)
  refine PySem.W.callWith_KW0 (h₀ := X.base) I.ok.mod.kin T.kp hall ?_ hpl
  refine thn ((pk_cons he pk_nil).run pos pins s σ H (fun vs H1 => match vs with | [v] => ∀ d e : Addr, H1 d = none → H1 e = none → d ≠ e → Q (.ref e) (upd (upd H1 d (.xd (vf v))) e (errO e C d)) | _ => False) I h) fun us s1 ⟨vs, H1, I1, r1, q1⟩ => ⟨I1.kIn, ?_⟩
  rw [hks]
  cases r1 with
  | nil => exact q1.elim
  | cons rv rn =>
    cases rn with
    | nil => exact callErr TL T hr htop gs .kw I1 fun h' tk e d M => errEP I1 rv M q1
    | cons _ _ => exact q1.elim
/-- raise C(e): what makes the error -/
theorem pmk_err (TL : LineC X.K X.mg L) (T : ErrC X.K X.prog.main.file X.mg L nm qual st C) (hr : Room k X.A) (htop : (X.prog.main.scope.names.lookup ("super" : Str)).isSome = false) (gs : X.mg "super" = none) (hg : Gl X nm) (he : PE X a ta) (hdb : (nm == ("__debug__" : Str)) = false := by decide)
    (hs : starEach [a] X.env = (false, eval a X.env) :: starEach [] X.env := by rfl) (hpl : (backTo pos (starEach [] X.env)).any (·.1) = false := by rfl) : PMk X (.Call (.Name nm p) [a] [] pos) (tErrR C ta) := by
  intro pins s σ H Q I h
  refine wpAny_Call_Name_kw (ld_glob I hg T.gC ?_ hdb)
  refine PySem.W.callWith_K (h₀ := X.base) I.ok.mod.kin T.kp ?_ hs hpl
  rw [hs]
  show wpAny _ _ (spliced ((false, eval a X.env) :: backTo pos (starEach [] X.env))) _ _ s
  refine Calls.spliced_cons (thn (he.run pins s σ H _ I h) fun u s1 ⟨v, H1, I1, r1, q1⟩ => ?_)
  refine Calls.spliced_nil ⟨I1.kIn, ?_⟩
  show wpAny _ _ (call (.ref C) [u]) _ _ _
  refine callErr TL T hr htop gs .pos I1 fun h' tk e d M => ?_
  obtain ⟨t1, hoe⟩ := M.obj
  have hns := M.ns
  obtain ⟨G', g1, g2⟩ := restrict h' fun b => decide (b ≠ e)
  have gk : ∀ b, b ≠ e → G'.get? b = h'.get? b := fun b hb => g1 b (decide_eq_true hb)
  have ge : G'.get? e = none := g2 e (by simp)
  have old : ∀ b o, s1.heap.get? b = some o → G'.get? b = some o := fun b o q => (gk b (Nat.ne_of_lt (Nat.lt_of_lt_of_le (Heap.lt_size q) M.ebig))).trans (M.keep b o q)
  have ob : ObjOk X.prog X.w (upd H1 d (.xd (vf v))) G' d (.xd (vf v)) := ⟨_, hns.at (fun o q => (gk d M.ne).trans q), fun f => relO_vf r1 f⟩
  have J : Inv X pins σ (upd H1 d (.xd (vf v))) { s1 with heap := G', toks := tk } := I1.laid (t' := tk) old M.dbig ob
  have r : Raises X (.ref C) := raises_own ((T.under _).trans (by rfl)) T.ty
  refine ⟨e, _, _, { s1 with heap := G', toks := tk }, _, .ref C, some d, rfl, J, fun b o q => ?_, ge, hoe, ⟨rfl, rfl⟩, rfl, rfl, ?_, rfl, I1.bare, r, q1 d (I1.hok.fresh M.dbig)⟩
  · by_cases hb : b = e
    · have q' : G'.get? b = some o := q
      rw [hb, ge] at q'
      cases q'
    · exact (gk b hb).symm.trans q
  · rw [upd_ne (Ne.symm M.ne)]
    exact I1.hok.fresh M.ebig
/-- the error's class is asked for -/
theorem kitErr (TL : LineC X.K X.mg L) (T : ErrC X.K X.prog.main.file X.mg L nm qual st C) {x : Addr} {ox : Obj} {od : Option Obj} : PySem.W.KitX X.K (.ref x) (.ref C) (fun h => PySem.W.InstAt h x ox C od) := by
  obtain ⟨cd, e1, e2, e3⟩ := T.chain
  exact PySem.W.kitx_exc (by rw [e1]; rfl) T.ga T.gg ((T.under _).trans (by rfl)) T.ca TL.sp TL.tk ((T.under _).trans (by rfl))
/-- isinstance(e, c), e a made error, c a class of the program (at D) or a built-in one -/
def rIsErr (K : PySem.W.Frag) : List V → Hp → VK → Prop := fun xs H Q => ∃ (e C d : Addr) (v : V) (c : V) (u : Value) (b : Bool), xs = [.ref e, c] ∧ H e = some (errO e C d) ∧ H d = some (.xd (vf v)) ∧ ClsV c u ∧ PySem.W.kitOne K (.ref C) u = some b ∧
  (∃ (file : Str) (mg : Str → Option Value) (L : Addr) (nm qual : Str) (st : Stmt), LineC K mg L ∧ ErrC K file mg L nm qual st C) ∧ Q (.bl b) H
theorem call_isErr : CallR X (.builtin "isinstance") (rIsErr X.K) := by
  intro pins s σ H xs us Q I r h
  obtain ⟨e, C', d, v, c, u, b, rfl, he, hd, hc, hk, ⟨file, mg, L', nm', qual', st', TL, T⟩, q⟩ := h
  obtain ⟨u1, u2, rfl, r1, r2⟩ := vals2 r
  obtain rfl : u1 = Value.ref e := r1
  have e2 := hc.eq r2
  subst e2
  obtain ⟨t1, ho⟩ := errO_at I.hok he
  obtain ⟨mA, hns, _⟩ := (show ∃ mA, s.heap.Ns1 d mA ∧ ∀ f, RelO ((vf v).lookup f) (mA f) from I.hok d _ hd)
  obtain ⟨od, hod, _⟩ := lookIn_ns hns
  obtain ⟨cd, q1, q2, q3⟩ := T.chain
  have Z : PySem.W.KitX X.K (.ref e) (.ref C') (fun h => PySem.W.InstAt h e { cls := .ref C', dict := some d, data := .fields #[.ref t1, .none, .none, .none, .bool false, .none] } C' (some od)) :=
    PySem.W.kitx_exc (by rw [q1]; rfl) T.ga T.gg ((T.under _).trans (by rfl)) T.ca TL.sp TL.tk ((T.under _).trans (by rfl))
  exact PySem.W.kia_one Z I.kIn ⟨ho, rfl, rfl, hod⟩ hk (fun z => nomatch z) fun tk => ⟨.bl b, H, I.tok tk, rfl, q⟩
/-- e.value, e a made error -/
def tErrV (K : PySem.W.Frag) (te : TE) : TE := fun σ H Q => te σ H fun x H1 => ∃ (e C d : Addr) (v : V), x = .ref e ∧ H1 e = some (errO e C d) ∧ H1 d = some (.xd (vf v)) ∧
  (∃ (file : Str) (mg : Str → Option Value) (L : Addr) (nm qual : Str) (st : Stmt), LineC K mg L ∧ ErrC K file mg L nm qual st C) ∧ Q v H1
theorem pe_errV {e : Expr} {te : TE} (he : PE X e te) (hb : attributeBase e "value" X.env (eval e X.env) = eval e X.env := by rfl) : PE X (.Attribute e "value" pos) (tErrV X.K te) := by
  refine ⟨fun pins s σ H Q I h => ?_⟩
  refine attr_of hb (thn (he.run pins s σ H _ I h) fun u s1 hh => ?_)
  obtain ⟨x, H1, I1, rx, e', C', d, v, ex, hoe, hd, ⟨file, mg, L', nm', qual', st', TL, T⟩, q⟩ := hh
  subst ex
  obtain rfl : u = Value.ref e' := rx
  obtain ⟨t1, ho⟩ := errO_at I1.hok hoe
  obtain ⟨mA, hns, hr⟩ := (show ∃ mA, s1.heap.Ns1 d mA ∧ ∀ f, RelO ((vf v).lookup f) (mA f) from I1.hok d _ hd)
  obtain ⟨od, hod, hl⟩ := lookIn_ns hns
  have l : List.lookup ("value" : Str) (vf v) = some v := by simp [List.lookup]
  obtain ⟨u, hu, ru⟩ := RelO.some_of (v := v) (o := mA "value") (by rw [← l]; exact hr "value")
  have J : PySem.W.InstAt s1.heap e' { cls := .ref C', dict := some d, data := .fields #[.ref t1, .none, .none, .none, .bool false, .none] } C' (some od) := ⟨ho, rfl, rfl, hod⟩
  obtain ⟨cd, q1, q2, q3⟩ := T.chain
  have hdict : PySem.W.hasDictIn X.K C' = true := by
    unfold PySem.W.hasDictIn
    rw [q1]
    simpa using q3
  exact HandSPX.exc_get I1.kIn J T.ga T.gg ((T.under _).trans (by rfl)) (PySem.W.findObj_own hdict T.nv rfl (by rw [hl, hu])) (handed_of ru) ⟨v, H1, I1.tok _, ru, q⟩
end
end Lx
namespace Lx
open PySem PySem.Spec L2 PyProof.Rows
/-! ### min of a tuple of ints -/
section
variable {prog : Program} {w : World} {A : Around} {E : Value → Shared → Prop} {s : Shared} {l : Addr}
variable {its : List Value} {ns : List Int} {Q : Value → Shared → Prop}
theorem min_rawT (hh : A.handled = none) (hl : s.heap.IsTuple l its.toArray) (hi : IntsAre its ns) (hne : 0 < ns.length)
    (h : ∀ h' tk M t', (∀ b o, s.heap.get? b = some o → h'.get? b = some o) → M ∈ ns → (∀ a, a ∈ ns → M ≤ a) → Q (.int M t') { s with heap := h', toks := tk }) : wpAny (model prog w) A (call (.builtin "min") [.ref l]) Q E s := by
  obtain ⟨xs, e⟩ := hi.allInts.items
  have hn : numsOf (intItems xs).toList = ns := by rw [← e]; exact hi.numsOf
  rw [nums_intItems] at hn
  subst hn
  rw [e] at hl
  have hsz : 0 < xs.size := by simpa using hne
  have hlt : l < s.heap.objs.size := by obtain ⟨_, e, _⟩ := hl; exact Heap.lt_size e
  refine call_min_walk (wpAny_pyIter_tuple hl ?_)
  refine ⟨_, _, _, _, _, _, _, rfl, Walks.tuple (A := A.in1) hh _ l (Nat.ne_of_lt hlt) (intItems xs), ⟨⟨_, Heap.get?_push_size _ rfl, rfl, rfl⟩, hl.at fun o e => Heap.get?_push_of_some _ e⟩, fun b hb => ?_, by simpa [intItems] using hsz, CmpOf.ints_lt (numAt xs) (fun _ _ => intItems_at), fun v h' tk hP hk => ?_⟩
  · show b < (s.heap.push _).objs.size
    rw [Heap.size_push]
    rcases List.mem_cons.mp hb with rfl | hb
    · exact Nat.lt_succ_self _
    · rcases List.mem_cons.mp hb with rfl | hb
      · exact Nat.lt_succ_of_lt hlt
      · cases hb
  · obtain ⟨t, rfl⟩ := intItems_at hP
    obtain ⟨h1, h2⟩ := argBest_lt (numAt xs) (xs.size - 1)
    have hz : (intItems xs).size = xs.size := by simp [intItems]
    refine h h' tk _ t (fun b o e => hk b o (fun hm => Nat.lt_irrefl _ ((List.mem_singleton.mp hm) ▸ Heap.lt_size e)) (Heap.get?_push_of_some _ e)) ?_ fun a ha => ?_
    · rw [numAt_eq]; exact PySem.getD_mem (by rw [List.length_map, Array.length_toList, hz]; omega)
    · obtain ⟨j, hj, rfl⟩ := mem_getD ha
      rw [List.length_map, Array.length_toList] at hj
      rw [← numAt_eq, hz]; exact h2 j (by omega)
end
def rMinT (K : PySem.W.Frag) : List V → Hp → VK → Prop := fun vs H Q => ∃ (a : Addr) (ns : List Int), vs = [V.ref a] ∧ SqT K H a (ns.map V.int) ∧ 0 < ns.length ∧ ∀ m, m ∈ ns → (∀ y, y ∈ ns → m ≤ y) → Q (.int m) H
theorem call_minT {X : Cx} (hc : X.calm = true) : CallR X (.builtin "min") (rMinT X.K) := by
  intro pins s σ H vs us Q I r h
  obtain ⟨a, ns, rfl, hs, hne, q⟩ := h
  obtain ⟨its, rv, hl, _⟩ := I.tuple hs
  rw [Vals.ref1 r]
  exact min_rawT (I.ok.hd hc) (by obtain ⟨o, h1, h2, n, h3⟩ := hl; exact ⟨o, h1, h2, n, h3⟩) rv.ints hne fun h' tk m t' hk h1 h2 => ⟨.int _, H, I.kept hk, ⟨_, rfl⟩, q m h1 h2⟩
/-! ### get of a written dict -/
def tKGet (K : PySem.W.Frag) (w : World) (td ty : TE) : TE := fun σ H Q => td σ H fun x H1 => ∃ a es n, x = .ref a ∧ KDict K w a es n ∧ ty σ H1 fun y H2 => ∃ (z : Str) (r : Option Value) (v : V), y = .str z ∧ PySem.W.nsIn K a z = some r ∧ RelV v (r.getD .none) ∧ Q v H2
theorem pe_kget {X : Cx} {o e : Expr} {apos cpos : Pos} {td ty : TE} (ho : PE X o td) (he : PE X e ty) (m : M1 X o "get" apos e cpos) : PE X (.Call (.Attribute o "get" apos) [e] [] cpos) (tKGet X.K X.w td ty) := by
  refine ⟨fun pins s σ H Q I h => ?_⟩
  refine wpAny_Call_method m.base m.few m.line PySem.F.plainAttrs_dict PySem.F.slot_dict_get PySem.F.type_dict_get (thn (ho.run pins s σ H _ I h) fun u s1 ⟨x, H1, I1, rx, a, es, n, ex, D, q1⟩ => ?_)
  subst ex
  obtain rfl : u = Value.ref a := rx
  have hm1 := PySem.W.mapOf_K (prog := X.prog) (w := X.w) I1.kIn D.at_ D.lit
  refine ⟨hm1.typeIs, fun b q => ?_, ?_⟩
  · cases q
    exact ⟨_, I1.kIn _ _ D.at_, rfl⟩
  rw [m.trees]
  refine Calls.callWith_builtin rfl (Calls.evalArgs_plain (Calls.spliced_cons (thn (he.run pins s1 σ H1 _ I1 q1) fun iv s2 ⟨y, H2, I2, ry, z, r, v, ey, e, rv, q2⟩ => Calls.spliced_nil ?_)))
  subst ey
  obtain ⟨t, rfl⟩ := ry
  have hm2 := PySem.W.mapOf_K (prog := X.prog) (w := X.w) I2.kIn D.at_ D.lit
  refine call_meetsIn PySem.F.slot_dict_get hm2.typeIs PySem.F.entry_dict_get (PySem.F.args_dict_get_2 _ _) (meets_dict_get (strKind X.prog X.w) a (strKind_is X.prog X.w z t) D.low) ⟨_, hm2, ?_⟩
  rw [PySem.W.find_K D.at_ e]
  exact ⟨v, H2, I2.tok _, rv, q2⟩
end Lx
namespace Lx
open PySem PySem.Spec L2
/-! ### enumerate(text) -/
/-- each sign of x with its place, in a new pair -/
def Itx (x : Str) : It :=
  ⟨fun i _ => i < x.cps.size, fun i H v H' => ∃ T c, v = .ref T ∧ H T = none ∧ H' = upd H T (.tup [.int (i : Nat), .str ⟨#[c]⟩]) ∧ x.cps[i]? = some c, fun i _ => x.cps.size ≤ i⟩
theorem turn_enumS {P : Program} {w : World} {K : PySem.W.Frag} {elts : List Expr} {kk : Nat} {tpos : Pos} (x : Str) (t : Tok) (e it : Addr) :
    Turn P w K (.Tuple elts kk tpos) (Itx x) [e, it] e (fun i h => (∃ old, IsEnum h e it ((i : Nat) : Int) old) ∧ h.IsStrIter it (strIterType x) x t i ∧ e ≠ it ∧ i ≤ x.cps.size) where
  mem := by simp
  obj := fun i h st b hb => by
    obtain ⟨⟨old, he⟩, ⟨o, ho, hc, hd⟩, _, _⟩ := st
    have e' : b = e ∨ b = it := by simpa using hb
    rcases e' with z | z
    · rw [z]; exact ⟨_, he, fun v q => nomatch q⟩
    · rw [z]; exact ⟨o, ho, fun v q => by rw [hd] at q; cases q⟩
  keep := fun i h h' st k => by
    obtain ⟨⟨old, he⟩, ⟨o, ho, r⟩, hne, hle⟩ := st
    exact ⟨⟨old, k e (by simp) _ he⟩, ⟨o, k it (by simp) o ho, r⟩, hne, hle⟩
  item := by
    intro X hP hw hK hc i pins s σ H E I hf st hg
    subst hP hw hK
    obtain ⟨⟨old, he⟩, hit, hne, hle⟩ := st
    have hlt : i < x.cps.size := hg
    have hel : e < s.heap.objs.size := Heap.lt_size he
    have hil : it < s.heap.objs.size := by obtain ⟨_, q, _⟩ := hit; exact Heap.lt_size q
    refine wpAny_pyNext_enum_itemD (Draws.text (A := X.A.in1) (I.ok.hd hc) it x t) he hit hlt hne (by simpa using hne) fun u h' tk hP ho hit' hT hsz hk => ?_
    obtain ⟨c, tc, hcx, rfl⟩ := hP
    refine ⟨_, rfl, wpAny_letOwnedTupleGo_enum (s := { s with heap := h', toks := tk + 1 }) ho fun h'' he' sb => ?_⟩
    have hT2 : h''.get? s.heap.objs.size = some { cls := .type "tuple", data := .seq #[.int i tk, .str ⟨#[c]⟩ tc] } := (sb.2 _ (Nat.ne_of_gt hel)).trans hT
    have new : ObjOk X.prog X.w (upd H s.heap.objs.size (.tup [.int (i : Nat), .str ⟨#[c]⟩])) h'' s.heap.objs.size (.tup [.int (i : Nat), .str ⟨#[c]⟩]) :=
      ⟨by show 2 ≤ sizeLine; decide, [.int i tk, .str ⟨#[c]⟩ tc], .cons ⟨_, rfl⟩ (.cons ⟨_, rfl⟩ .nil), ⟨_, hT2, rfl, _, rfl⟩⟩
    have I1 : Inv X pins σ (upd H s.heap.objs.size (.tup [.int (i : Nat), .str ⟨#[c]⟩])) { s with heap := h'', toks := tk + 1 } :=
      I.turnedNew (ch := [e, it]) (fun b ob hb q => (sb.2 b (fun z => hb (by simp [z]))).trans (hk b ob (fun z => hb (by simp [z])) (fun z => hb (by simp [z])) q)) hf (Nat.le_refl _) new
    refine ⟨.ref s.heap.objs.size, _, I1, rfl, ⟨_, c, rfl, I.hok.fresh (Nat.le_refl _), rfl, hcx⟩, ⟨⟨.str ⟨#[c]⟩ tc, ?_⟩, ?_, hne, hlt⟩, fun b hb => ?_⟩
    · have e1 : ((i + 1 : Nat) : Int) = (i : Int) + 1 := by omega
      rw [e1]; exact he'
    · obtain ⟨o, ho2, r⟩ := hit'
      exact ⟨o, (sb.2 it (Ne.symm hne)).trans ho2, r⟩
    · have hb' : b < s.heap.objs.size := by
        have e' : b = e ∨ b = it := by simpa using hb
        rcases e' with z | z
        · rw [z]; exact hel
        · rw [z]; exact hil
      rw [upd_ne (Nat.ne_of_lt hb')]
      exact (hf b hb).1
  done := by
    intro X hP hw hK hc i pins s σ H E I hf st hg
    subst hP hw hK
    obtain ⟨⟨old, he⟩, hit, hne, hle⟩ := st
    obtain ⟨f0, f1, f2, f3, f4, f5⟩ := hf it (by simp)
    have e1 : i = x.cps.size := Nat.le_antisymm hle hg
    subst e1
    exact wpAny_pyNext_enum_endD (Draws.text (A := X.A.in1) (I.ok.hd hc) it x t) he hit fun h' eb => ⟨rfl, I.turned (t' := s.toks) (fun b o hb q => eb b o hb q) f0 f1 f3 f4 f5⟩
  self := fun A i s Q E st h => let ⟨⟨_, he⟩, _⟩ := st; PySem.wpAny_pyIter_enum he h
def iEnumS (ta : TA) : TI := fun σ H R => ta σ H fun vs H1 => ∃ x, vs = [.str x] ∧ R (Itx x) H1
theorem pi_enumS {X : Cx} {e : Expr} {ta : TA} {p pos tpos : Pos} {elts : List Expr} {kk : Nat} (hg : Gl X "enumerate") (hm : X.mg "enumerate" = none) (ha : PA X [e] ta) (hs : starEach [e] X.env = [(false, eval e X.env)] := by rfl) :
    PI X (.Tuple elts kk tpos) (.Call (.Name "enumerate" p) [e] [] pos) (iEnumS ta) := by
  refine ⟨fun pins s σ H R I h => ?_⟩
  refine PyProof.Rows.Call_ (ld_blt I hg hm PyProof.Rows.boot_enumerate (PyProof.Rows.callWith_type1 (thn (ha.run pos pins s σ H _ I h) fun us s1 ⟨vs, H1, I1, r1, q1⟩ => ?_) hs rfl))
  obtain ⟨x, ex, q⟩ := q1
  subst ex
  cases r1 with
  | cons r rr =>
    cases rr
    obtain ⟨t, rfl⟩ := r
    refine call_enumerate_str fun h' he hit hsz hk => PySem.wpAny_pyIter_enum he ?_
    have I2 : Inv X pins σ H1 { s1 with heap := h' } := I1.kept (t' := s1.toks) hk
    refine ⟨s1.heap.objs.size + 1, [s1.heap.objs.size + 1, s1.heap.objs.size], _, _, H1, rfl, I2, turn_enumS x t (s1.heap.objs.size + 1) s1.heap.objs.size, ⟨⟨.none, he⟩, hit, Nat.succ_ne_self _, Nat.zero_le _⟩, fun b hb => ?_, q⟩
    have e' : b = s1.heap.objs.size + 1 ∨ b = s1.heap.objs.size := by simpa using hb
    have hle : s1.heap.objs.size ≤ b := by
      rcases e' with z | z
      · rw [z]; exact Nat.le_add_right _ _
      · rw [z]; exact Nat.le_refl _
    exact I1.fpOk hle (I1.hok.fresh hle)
theorem walk_enumS {z : Str} : Walk (Itx z) z.cps.size (fun _ => True) (YPair (fun i => some (.int (i : Nat))) (fun i => z.cps[i]?.map fun c => V.str ⟨#[c]⟩)) :=
  ⟨fun _ _ hi _ => hi, fun _ _ => Nat.le_refl _, fun i H v H' _ _ y => by
    obtain ⟨T, c, h1, h2, h3, h4⟩ := y
    exact ⟨T, .int (i : Nat), .str ⟨#[c]⟩, h1, h2, h3, rfl, by simp [h4]⟩⟩
end Lx
namespace Lx
open PySem PySem.Spec L2
/-! ### sizes of numbers -/
def Sm (n : Nat) (x : Int) : Prop := x.natAbs < 2 ^ n
theorem Sm.mono {n m : Nat} {x : Int} (h : Sm n x) (k : n ≤ m) : Sm m x := Nat.lt_of_lt_of_le h (Nat.pow_le_pow_right (by decide) k)
theorem Sm.add {n : Nat} {x y : Int} (h : Sm n x) (k : Sm n y) : Sm (n + 1) (x + y) := by
  unfold Sm at *
  have := Nat.pow_succ 2 n
  omega
theorem Sm.mul {n m : Nat} {x y : Int} (h : Sm n x) (k : Sm m y) : Sm (n + m) (x * y) := by
  unfold Sm at *
  rw [Int.natAbs_mul, Nat.pow_add]
  exact Nat.mul_lt_mul'' h k
theorem Sm.of_le {n : Nat} {x y : Int} (h0 : 0 ≤ x) (h1 : x ≤ y) (k : Sm n y) : Sm n x := by
  unfold Sm at *
  omega
/-! ### forms -/
inductive Fm
  | keep (b a : Int)
  | lf (b a k c : Int)
  | cr (b a k : Int)
namespace Fm
def vs : Fm → List V
  | keep b a => [.str "keep", .int b, .int a]
  | lf b a k c => [.str "lf", .int b, .int a, .int k, .int c]
  | cr b a k => [.str "cr", .int b, .int a, .int k]
def nm : Fm → Str
  | keep _ _ => "keep"
  | lf _ _ _ _ => "lf"
  | cr _ _ _ => "cr"
def b : Fm → Int
  | keep b _ => b
  | lf b _ _ _ => b
  | cr b _ _ => b
def a : Fm → Int
  | keep _ a => a
  | lf _ a _ _ => a
  | cr _ a _ => a
/-- the number of ^ in front of a break with j of them -/
def after (f : Fm) (j : Int) : Int := (if j - f.b > 0 then j - f.b else 0) + f.a
def ahead (b' a' : Int) : Fm → Fm
  | keep _ _ => keep b' a'
  | lf _ _ k c => lf b' a' k c
  | cr _ _ k => cr b' a' k
def both : Fm → Fm → Fm
  | keep b a, g => ahead (b + (if g.b - a > 0 then g.b - a else 0)) ((if a - g.b > 0 then a - g.b else 0) + g.a) g
  | lf b a k c, keep b' a' => lf b a k (after (keep b' a') c)
  | cr b a k, keep _ _ => cr b a k
  | lf b a k c, lf b' a' k' c' => lf b a (k * (after (lf b' a' k' c') c + 1) * k') c'
  | lf b a k c, cr b' a' k' => cr b a (k * (after (cr b' a' k') c + 1) * k')
  | cr b a k, lf _ _ k' c' => lf b a (k * 1 * k') c'
  | cr b a k, cr _ _ k' => cr b a (k * 1 * k')
/-- a form, its numbers below 2 ^ n -/
def Ok (n : Nat) : Fm → Prop
  | keep b a => 0 ≤ b ∧ 0 ≤ a ∧ Sm n b ∧ Sm n a
  | lf b a k c => 0 ≤ b ∧ 0 ≤ a ∧ 0 < k ∧ 0 ≤ c ∧ Sm n b ∧ Sm n a ∧ Sm n k ∧ Sm n c
  | cr b a k => 0 ≤ b ∧ 0 ≤ a ∧ 0 < k ∧ Sm n b ∧ Sm n a ∧ Sm n k
def nums : Fm → List Int
  | keep b a => [b, a]
  | lf b a k c => [b, a, k, c]
  | cr b a k => [b, a, k]
theorem Ok.mono {n m : Nat} (h : n ≤ m) : ∀ {f : Fm}, Ok n f → Ok m f
  | keep _ _, ⟨h1, h2, h3, h4⟩ => ⟨h1, h2, h3.mono h, h4.mono h⟩
  | lf _ _ _ _, ⟨h1, h2, h3, h4, h5, h6, h7, h8⟩ => ⟨h1, h2, h3, h4, h5.mono h, h6.mono h, h7.mono h, h8.mono h⟩
  | cr _ _ _, ⟨h1, h2, h3, h4, h5, h6⟩ => ⟨h1, h2, h3, h4.mono h, h5.mono h, h6.mono h⟩
theorem Ok.b0 {n : Nat} : ∀ {f : Fm}, Ok n f → 0 ≤ f.b ∧ Sm n f.b
  | keep _ _, h => ⟨h.1, h.2.2.1⟩
  | lf _ _ _ _, h => ⟨h.1, h.2.2.2.2.1⟩
  | cr _ _ _, h => ⟨h.1, h.2.2.2.1⟩
theorem Ok.a0 {n : Nat} : ∀ {f : Fm}, Ok n f → 0 ≤ f.a ∧ Sm n f.a
  | keep _ _, h => ⟨h.2.1, h.2.2.2⟩
  | lf _ _ _ _, h => ⟨h.2.1, h.2.2.2.2.2.1⟩
  | cr _ _ _, h => ⟨h.2.1, h.2.2.2.2.1⟩
theorem after_ok {n : Nat} {f : Fm} (h : Ok n f) {j : Int} (h0 : 0 ≤ j) (hj : Sm n j) : 0 ≤ after f j ∧ Sm (n + 1) (after f j) := by
  have hb := h.b0
  have ha := h.a0
  unfold after
  unfold Sm at *
  have := Nat.pow_succ 2 n
  split <;> omega
theorem vs1 (f : Fm) : f.vs[1]? = some (.int f.b) := by cases f <;> rfl
theorem vs2 (f : Fm) : f.vs[2]? = some (.int f.a) := by cases f <;> rfl
theorem vs0 (f : Fm) : f.vs[0]? = some (.str f.nm) := by cases f <;> rfl
end Fm
def FmAt (K : PySem.W.Frag) (H : Hp) (x : V) (f : Fm) : Prop := ∃ p, x = .ref p ∧ SqT K H p f.vs
theorem sameT {K : PySem.W.Frag} {H H' : Hp} {a : Addr} {xs : List V} (e : Same H H') (h : SqT K H a xs) : SqT K H' a xs := by
  rcases h with (h | ⟨o, h⟩) | h
  · exact .inl (.inl (e _ _ h))
  · exact .inl (.inr ⟨o, e _ _ h⟩)
  · exact .inr h
theorem FmAt.same {K : PySem.W.Frag} {H H' : Hp} {x : V} {f : Fm} (e : Same H H') : FmAt K H x f → FmAt K H' x f := fun ⟨p, h1, h2⟩ => ⟨p, h1, sameT e h2⟩
/-! ### runs -/
/-- a group: a tuple that is tracked -/
def PrAt (H : Hp) (v : V) (x : Int × Int) : Prop := ∃ p, v = .ref p ∧ H p = some (.tup [.int x.1, .int x.2])
inductive Prs (K : PySem.W.Frag) (H : Hp) : List V → List (Int × Int) → Prop
  | nil : Prs K H [] []
  | cons {v : V} {vs : List V} {x : Int × Int} {xs : List (Int × Int)} : PrAt H v x → Prs K H vs xs → Prs K H (v :: vs) (x :: xs)
theorem Prs.same {K : PySem.W.Frag} {H H' : Hp} (e : Same H H') : ∀ {vs : List V} {gs : List (Int × Int)}, Prs K H vs gs → Prs K H' vs gs
  | _, _, .nil => .nil
  | _, _, .cons ⟨p, h1, h2⟩ t => .cons ⟨p, h1, e _ _ h2⟩ (t.same e)
theorem Prs.len {K : PySem.W.Frag} {H : Hp} : ∀ {vs : List V} {gs : List (Int × Int)}, Prs K H vs gs → vs.length = gs.length
  | _, _, .nil => rfl
  | _, _, .cons _ t => by rw [List.length_cons, List.length_cons, t.len]
theorem Prs.get {K : PySem.W.Frag} {H : Hp} : ∀ {vs : List V} {gs : List (Int × Int)}, Prs K H vs gs → ∀ {i : Nat} {v : V}, vs[i]? = some v → ∃ x, gs[i]? = some x ∧ PrAt H v x
  | _, _, .nil, i, v, h => by simp at h
  | _, _, .cons h1 t, 0, v, h => by
    have e := Option.some.inj h
    subst e
    exact ⟨_, rfl, h1⟩
  | _, _, .cons h1 t, i + 1, v, h => t.get (i := i) h
theorem Prs.append {K : PySem.W.Frag} {H : Hp} : ∀ {vs ws : List V} {gs hs : List (Int × Int)}, Prs K H vs gs → Prs K H ws hs → Prs K H (vs ++ ws) (gs ++ hs)
  | _, _, _, _, .nil, h => h
  | _, _, _, _, .cons a t, h => .cons a (t.append h)
def GsAt (K : PySem.W.Frag) (H : Hp) (l : Addr) (gs : List (Int × Int)) : Prop := ∃ xs, SqL K H l xs ∧ Prs K H xs gs
def RnAt (K : PySem.W.Frag) (H : Hp) (x : V) (l : Addr) (r : List (Int × Int) × Int) : Prop := ∃ p, x = .ref p ∧ SqT K H p [.ref l, .int r.2] ∧ GsAt K H l r.1
theorem GsAt.same {K : PySem.W.Frag} {H H' : Hp} {l : Addr} {gs : List (Int × Int)} (e : Same H H') : GsAt K H l gs → GsAt K H' l gs := fun ⟨xs, h1, h2⟩ => ⟨xs, e.seq h1, h2.same e⟩
theorem RnAt.same {K : PySem.W.Frag} {H H' : Hp} {x : V} {l : Addr} {r : List (Int × Int) × Int} (e : Same H H') : RnAt K H x l r → RnAt K H' x l r := fun ⟨p, h1, h2, h3⟩ => ⟨p, h1, sameT e h2, h3.same e⟩
/-- groups as the document wants them, numbers below 2 ^ n -/
def GsOk (n : Nat) (gs : List (Int × Int)) : Prop := ∀ (i : Nat) (x : Int × Int), gs[i]? = some x → 1 ≤ x.1 ∧ 0 ≤ x.2 ∧ Sm n x.1 ∧ Sm n x.2 ∧ ∀ y : Int × Int, gs[i + 1]? = some y → y.2 ≠ x.2
structure RnOk (n : Nat) (r : List (Int × Int) × Int) : Prop where
  gs : GsOk n r.1
  rest : 0 ≤ r.2 ∧ Sm n r.2
  len : r.1.length ≤ 1000
def addTo (acc : List (Int × Int)) (x : Int × Int) : List (Int × Int) := match acc.getLast? with
  | some y => if y.2 = x.2 then acc.dropLast ++ [(y.1 + x.1, x.2)] else acc ++ [x]
  | none => acc ++ [x]
def merged (gs : List (Int × Int)) : List (Int × Int) := gs.foldl addTo []
def moved (f : Fm) (gs : List (Int × Int)) : List (Int × Int) := gs.map fun x => (x.1, f.after x.2)
def total (gs : List (Int × Int)) : Int := (gs.map fun x => x.1 * (x.2 + 1)).sum
def units (r : List (Int × Int) × Int) (f : Fm) : Int := total (moved f r.1) + r.2
def runAfter (r : List (Int × Int) × Int) : Fm → List (Int × Int) × Int
  | .keep b a => (merged (moved (.keep b a) r.1), r.2)
  | .lf b a k c => if k * units r (.lf b a k c) = 0 then ([], 0) else ([(k * units r (.lf b a k c), c)], 0)
  | .cr b a k => ([], k * units r (.cr b a k))
end Lx
namespace Lw
open PySem PySem.Spec L2 Lx
def topS (i : Nat) : Stmt := PySem.Challenge.pw_lineends_k43_hidden_chains_answer.main.body.getD i (.Pass ⟨0, 0, 0, 0⟩)
abbrev sChkChain : Stmt := topS 12
abbrev sConvert : Stmt := topS 15
abbrev sTextAfterStep : Stmt := topS 16
abbrev sLPool : Stmt := topS 20
abbrev sLDraw : Stmt := topS 21
abbrev sLDone : Stmt := topS 22
abbrev sLChain : Stmt := topS 23
abbrev sLPiece : Stmt := topS 24
abbrev sLKind : Stmt := topS 25
abbrev sLMade : Stmt := topS 26
abbrev sLSpoilt : Stmt := topS 27
abbrev sLRight : Stmt := topS 28
abbrev sLaw : Stmt := topS 29
abbrev sHiddenChain___init__ : Stmt := inClass (topS 18) 0
abbrev sHiddenChain_ask : Stmt := inClass (topS 18) 1
abbrev sHiddenChain_questions : Stmt := inClass (topS 18) 2
end Lw
namespace Lx
open PySem PySem.Spec L2
/-! ### one form after another -/
theorem addTo_none (x : Int × Int) : addTo [] x = [x] := rfl
theorem addTo_end (a : List (Int × Int)) (y x : Int × Int) : addTo (a ++ [y]) x = if y.2 = x.2 then a ++ [(y.1 + x.1, x.2)] else a ++ [y] ++ [x] := by
  unfold addTo
  rw [List.getLast?_concat]
  simp
theorem ends {α : Type} : ∀ l : List α, l = [] ∨ ∃ a x, l = a ++ [x]
  | [] => .inl rfl
  | x :: l => by
    rcases ends l with rfl | ⟨a, y, rfl⟩
    · exact .inr ⟨[], x, rfl⟩
    · exact .inr ⟨x :: a, y, rfl⟩
theorem merged_snoc (xs : List (Int × Int)) (x : Int × Int) : merged (xs ++ [x]) = addTo (merged xs) x := by
  unfold merged
  rw [List.foldl_append]
  rfl
theorem addTo_addTo (a : List (Int × Int)) (m m' j : Int) : addTo (addTo a (m, j)) (m', j) = addTo a (m + m', j) := by
  rcases ends a with rfl | ⟨b, z, rfl⟩
  · show addTo ([] ++ [(m, j)]) (m', j) = [(m + m', j)]
    rw [addTo_end, if_pos rfl]
    rfl
  · rw [addTo_end, addTo_end]
    by_cases e : z.2 = j
    · rw [if_pos e, if_pos e, addTo_end, if_pos rfl, Int.add_assoc]
    · rw [if_neg e, if_neg e, addTo_end, if_pos rfl]
def on (h : Int → Int) (gs : List (Int × Int)) : List (Int × Int) := gs.map fun x => (x.1, h x.2)
theorem on_snoc (h : Int → Int) (a : List (Int × Int)) (x : Int × Int) : on h (a ++ [x]) = on h a ++ [(x.1, h x.2)] := by
  unfold on
  rw [List.map_append]
  rfl
theorem merged_on_addTo (h : Int → Int) (a : List (Int × Int)) (x : Int × Int) : merged (on h (addTo a x)) = addTo (merged (on h a)) (x.1, h x.2) := by
  rcases ends a with rfl | ⟨b, y, rfl⟩
  · rfl
  · rw [addTo_end]
    by_cases e : y.2 = x.2
    · rw [if_pos e, on_snoc, merged_snoc, on_snoc, merged_snoc, ← e, addTo_addTo]
    · rw [if_neg e, on_snoc, merged_snoc]
theorem merged_on (h : Int → Int) (n : Nat) : ∀ xs : List (Int × Int), xs.length = n → merged (on h (merged xs)) = merged (on h xs) := by
  induction n with
  | zero =>
    intro xs hx
    rw [List.eq_nil_of_length_eq_zero hx]
    rfl
  | succ n ih =>
    intro xs hx
    rcases ends xs with rfl | ⟨a, x, rfl⟩
    · rfl
    · rw [merged_snoc, merged_on_addTo, ih a (by simpa using hx), on_snoc, merged_snoc]
theorem total_snoc (a : List (Int × Int)) (x : Int × Int) : total (a ++ [x]) = total a + x.1 * (x.2 + 1) := by
  unfold total
  rw [List.map_append, List.sum_append]
  simp
theorem total_addTo (h : Int → Int) (a : List (Int × Int)) (x : Int × Int) : total (on h (addTo a x)) = total (on h a) + x.1 * (h x.2 + 1) := by
  rcases ends a with rfl | ⟨b, y, rfl⟩
  · show total ([] ++ [(x.1, h x.2)]) = total [] + _
    rw [total_snoc]
  · rw [addTo_end]
    by_cases e : y.2 = x.2
    · rw [if_pos e, on_snoc, total_snoc, on_snoc, total_snoc, e, Int.add_mul, Int.add_assoc]
    · rw [if_neg e, on_snoc, total_snoc]
theorem total_on (h : Int → Int) (n : Nat) : ∀ xs : List (Int × Int), xs.length = n → total (on h (merged xs)) = total (on h xs) := by
  induction n with
  | zero =>
    intro xs hx
    rw [List.eq_nil_of_length_eq_zero hx]
    rfl
  | succ n ih =>
    intro xs hx
    rcases ends xs with rfl | ⟨a, x, rfl⟩
    · rfl
    · rw [merged_snoc, total_addTo, ih a (by simpa using hx), on_snoc, total_snoc]
theorem moved_on (f : Fm) (gs : List (Int × Int)) : moved f gs = on f.after gs := rfl
theorem on_on (h h' : Int → Int) (gs : List (Int × Int)) : on h' (on h gs) = on (fun j => h' (h j)) gs := by
  unfold on
  rw [List.map_map]
  rfl
theorem posI (x : Int) : 0 ≤ (if x > 0 then x else 0) ∧ ((if x > 0 then x else 0) = x ∨ ((if x > 0 then x else 0) = 0 ∧ x ≤ 0)) := by
  by_cases h : x > 0
  · rw [if_pos h]; omega
  · rw [if_neg h]; omega
theorem after_both (b a : Int) (g : Fm) (j : Int) : g.after ((Fm.keep b a).after j) = ((Fm.keep b a).both g).after j := by
  have e : ∀ b' a' : Int, (if (if j - b > 0 then j - b else 0) + a - b' > 0 then (if j - b > 0 then j - b else 0) + a - b' else 0) + a' =
      (if j - (b + (if b' - a > 0 then b' - a else 0)) > 0 then j - (b + (if b' - a > 0 then b' - a else 0)) else 0) + ((if a - b' > 0 then a - b' else 0) + a') := by
    intro b' a'
    have p1 := posI (j - b)
    have p2 := posI (b' - a)
    have p3 := posI (a - b')
    generalize (if j - b > 0 then j - b else 0) = A at *
    generalize (if b' - a > 0 then b' - a else 0) = B at *
    generalize (if a - b' > 0 then a - b' else 0) = C at *
    have p4 := posI (A + a - b')
    have p5 := posI (j - (b + B))
    generalize (if A + a - b' > 0 then A + a - b' else 0) = D at *
    generalize (if j - (b + B) > 0 then j - (b + B) else 0) = E at *
    omega
  cases g with
  | keep b' a' => exact e b' a'
  | lf b' a' k c => exact e b' a'
  | cr b' a' k => exact e b' a'
theorem units_both (r : List (Int × Int) × Int) (b a : Int) (g : Fm) : units (runAfter r (.keep b a)) g = units r ((Fm.keep b a).both g) := by
  show total (moved g (merged (moved (.keep b a) r.1))) + r.2 = total (moved _ r.1) + r.2
  rw [moved_on, total_on _ _ _ rfl, moved_on, on_on, moved_on]
  have e : (fun j => g.after ((Fm.keep b a).after j)) = ((Fm.keep b a).both g).after := funext fun j => after_both b a g j
  rw [e]
theorem units_one (n c : Int) (g : Fm) : units ([(n, c)], 0) g = n * (g.after c + 1) := by
  show total ([] ++ [(n, g.after c)]) + 0 = _
  rw [total_snoc]
  show 0 + n * (g.after c + 1) + 0 = _
  omega
theorem units_none (n : Int) (g : Fm) : units ([], n) g = n := by
  show (0 : Int) + n = n
  omega
theorem runAfter_both (r : List (Int × Int) × Int) (f g : Fm) : runAfter (runAfter r f) g = runAfter r (f.both g) := by
  cases f with
  | keep b a =>
    have hu := units_both r b a g
    cases g with
    | keep b' a' =>
      show (merged (moved (.keep b' a') (merged (moved (.keep b a) r.1))), r.2) = (merged (moved _ r.1), r.2)
      rw [moved_on, merged_on _ _ _ rfl, moved_on, on_on, moved_on]
      have e : (fun j => (Fm.keep b' a').after ((Fm.keep b a).after j)) = ((Fm.keep b a).both (.keep b' a')).after := funext fun j => after_both b a _ j
      rw [e]
      rfl
    | lf b' a' k' c' =>
      show (if k' * units (runAfter r (.keep b a)) (.lf b' a' k' c') = 0 then (([] : List (Int × Int)), (0 : Int)) else ([(k' * units (runAfter r (.keep b a)) (.lf b' a' k' c'), c')], 0)) = _
      rw [hu]
      rfl
    | cr b' a' k' =>
      show (([] : List (Int × Int)), k' * units (runAfter r (.keep b a)) (.cr b' a' k')) = _
      rw [hu]
      rfl
  | lf b a k c =>
    by_cases z : k * units r (.lf b a k c) = 0
    · rw [show runAfter r (.lf b a k c) = ([], 0) from if_pos z]
      cases g with
      | keep b' a' =>
        show (([] : List (Int × Int)), (0 : Int)) = if k * units r (.lf b a k c) = 0 then ([], 0) else _
        rw [if_pos z]
      | lf b' a' k' c' =>
        have e : k * ((Fm.lf b' a' k' c').after c + 1) * k' * units r (.lf b a k c) = 0 := by
          rw [show k * ((Fm.lf b' a' k' c').after c + 1) * k' * units r (.lf b a k c) = ((Fm.lf b' a' k' c').after c + 1) * k' * (k * units r (.lf b a k c)) by
            simp only [Int.mul_assoc, Int.mul_comm, Int.mul_left_comm], z, Int.mul_zero]
        show (if k' * units ([], 0) (.lf b' a' k' c') = 0 then (([] : List (Int × Int)), (0 : Int)) else _) = if k * ((Fm.lf b' a' k' c').after c + 1) * k' * units r (.lf b a k c) = 0 then ([], 0) else _
        rw [units_none, Int.mul_zero, if_pos rfl, if_pos e]
      | cr b' a' k' =>
        have e : k * ((Fm.cr b' a' k').after c + 1) * k' * units r (.lf b a k c) = 0 := by
          rw [show k * ((Fm.cr b' a' k').after c + 1) * k' * units r (.lf b a k c) = ((Fm.cr b' a' k').after c + 1) * k' * (k * units r (.lf b a k c)) by
            simp only [Int.mul_assoc, Int.mul_comm, Int.mul_left_comm], z, Int.mul_zero]
        show (([] : List (Int × Int)), k' * units ([], 0) (.cr b' a' k')) = ([], k * ((Fm.cr b' a' k').after c + 1) * k' * units r (.lf b a k c))
        rw [units_none, Int.mul_zero, e]
    · rw [show runAfter r (.lf b a k c) = ([(k * units r (.lf b a k c), c)], 0) from if_neg z]
      cases g with
      | keep b' a' =>
        show (merged [(k * units r (.lf b a k c), (Fm.keep b' a').after c)], (0 : Int)) = if k * units r (.lf b a k c) = 0 then ([], 0) else ([(k * units r (.lf b a k c), (Fm.keep b' a').after c)], 0)
        rw [if_neg z]
        rfl
      | lf b' a' k' c' =>
        show (if k' * units ([(k * units r (.lf b a k c), c)], 0) (.lf b' a' k' c') = 0 then (([] : List (Int × Int)), (0 : Int)) else ([(k' * units ([(k * units r (.lf b a k c), c)], 0) (.lf b' a' k' c'), c')], 0)) =
          if k * ((Fm.lf b' a' k' c').after c + 1) * k' * units r (.lf b a k c) = 0 then ([], 0) else ([(k * ((Fm.lf b' a' k' c').after c + 1) * k' * units r (.lf b a k c), c')], 0)
        rw [units_one, show k' * (k * units r (.lf b a k c) * ((Fm.lf b' a' k' c').after c + 1)) = k * ((Fm.lf b' a' k' c').after c + 1) * k' * units r (.lf b a k c) by
          simp only [Int.mul_assoc, Int.mul_comm, Int.mul_left_comm]]
      | cr b' a' k' =>
        show (([] : List (Int × Int)), k' * units ([(k * units r (.lf b a k c), c)], 0) (.cr b' a' k')) = ([], k * ((Fm.cr b' a' k').after c + 1) * k' * units r (.lf b a k c))
        rw [units_one, show k' * (k * units r (.lf b a k c) * ((Fm.cr b' a' k').after c + 1)) = k * ((Fm.cr b' a' k').after c + 1) * k' * units r (.lf b a k c) by
          simp only [Int.mul_assoc, Int.mul_comm, Int.mul_left_comm]]
  | cr b a k =>
    cases g with
    | keep b' a' => rfl
    | lf b' a' k' c' =>
      show (if k' * units ([], k * units r (.cr b a k)) (.lf b' a' k' c') = 0 then (([] : List (Int × Int)), (0 : Int)) else ([(k' * units ([], k * units r (.cr b a k)) (.lf b' a' k' c'), c')], 0)) =
        if k * 1 * k' * units r (.cr b a k) = 0 then ([], 0) else ([(k * 1 * k' * units r (.cr b a k), c')], 0)
      rw [units_none, Int.mul_one, show k' * (k * units r (.cr b a k)) = k * k' * units r (.cr b a k) by simp only [Int.mul_assoc, Int.mul_comm, Int.mul_left_comm]]
    | cr b' a' k' =>
      show (([] : List (Int × Int)), k' * units ([], k * units r (.cr b a k)) (.cr b' a' k')) = ([], k * 1 * k' * units r (.cr b a k))
      rw [units_none, Int.mul_one, show k' * (k * units r (.cr b a k)) = k * k' * units r (.cr b a k) by simp only [Int.mul_assoc, Int.mul_comm, Int.mul_left_comm]]
end Lx
/-! promises of defs that are called where no repr is at work -/
namespace Lx
open PySem PySem.Spec L2
open PyProof.Rows (AllBare IntsAre)
/-- as FnOk, at callers in which no guarded call (a repr, a comparison) runs -/
structure FnG (P : Program) (w : World) (K : PySem.W.Frag) (mg : Str → Option Value) (base : Heap) (CX : CXT) (k : Nat) (f : Addr) (fd : FuncData) (ps : List Str) (sp : Sp) : Prop where
  len : ∀ vs H Q E, sp vs H Q E → vs.length = ps.length
  go : ∀ (A : Around) (outer : List Env) (s : Shared) (H : Hp) (args : Args) (us : List Value) (vs : List V) (Q : VK) (E : XK), Room k A → A.guards = some [] → Env0 P w K mg base A outer s H → BindsTo s fd args (ps.zip us) → Vals vs us → sp vs H Q E →
    codeAny (model P w) A (.call (.ref f) args) (CR CX outer P w H s Q E) s
section
variable {P : Program} {w : World} {K : PySem.W.Frag} {mg : Str → Option Value} {base : Heap} {CX : CXT}
theorem FnG.of {k : Nat} {f : Addr} {fd : FuncData} {ps : List Str} {sp : Sp} (F : FnOk P w K mg base CX k f fd ps sp) : FnG P w K mg base CX k f fd ps sp :=
  ⟨F.len, fun A outer s H args us vs Q E hr _ he hb hv hs => F.run A outer s H args us vs Q E hr he hb hv hs⟩
/-- a def's promise by its body -/
theorem okG {x qual : Str} {st : Stmt} {f : Addr} {fd : FuncData} {N ps : List Str} {k : Nat} {sp : Sp} (F : Fun K x qual st f fd) (S : FnScope N ps (defScope st)) (len : ∀ vs H Q E, sp vs H Q E → vs.length = ps.length)
    (hb : ∀ (cdv : Value) (A : Around) (outer : List Env) (s : Shared) (H : Hp) (vs : List V) (Q : VK) (E : XK), Room k (A.deeper (PyProof.Rows.envOfC qual (defScope st) s.heap.objs.size f cdv)) → A.guards = some [] → sp vs H Q E →
      ∃ t, PSs (cxOf CX P w K mg base N qual (defScope st) f cdv A outer s H E) (defBody st) t ∧ t { nx := fun _ H' => Q .non H', rt := Q } (start N vs) H) : FnG P w K mg base CX (k + 1) f fd ps sp := by
  obtain ⟨oc, od, kV, doc, pm, an, cdv, ct, osl, rfl, lk, hcd⟩ := F.ex
  refine ⟨len, fun A outer s H args us vs Q E hr hg e0 hbd r hsp => ?_⟩
  have X : K.In s.heap := e0.mod.kin.keeps fun b o e => (e0.bs b o e).1
  have lim : s.heap.NoLimit := e0.mod.nolimit.keeps fun b o e => (e0.bs b o e).1
  refine codeAny_call_function hr.depth (X _ _ lk) rfl S.co S.gen rfl (PySem.W.codeRec_of X hcd) (hbd _ _ _ _ ?_)
  refine wpAny_newFunctionEnv_cells S.kind (fun y hy => ?_) fun env he s1 x1 => ?_
  · obtain ⟨n, v⟩ := y
    rcases S.par n (List.of_mem_zip hy).1 with q | q
    · exact .inl q
    · exact .inr ⟨q, PySem.W.cellsFrom_some _ _ _ (.inl q)⟩
  · subst he
    refine ⟨lim.keeps x1.toInCall.keep, codeAny_func ?_⟩
    obtain ⟨t, ht, hq⟩ := hb cdv A outer s H vs Q E (hr.deeper _) hg hsp
    have I := inv_start (CX := CX) (E := E) S hr.hd e0 (len _ _ _ _ hsp) r x1
    refine wpAny_mono (ht.run [] s1 (start N vs) H _ I hq) (fun fl s2 z => ?_) fun _ _ z => z
    rcases fl with _ | _ | _ | u
    all_goals first
      | (obtain ⟨_, _, _, q⟩ := z; exact q.elim)
      | (obtain ⟨σ2, H2, J, q⟩ := z; exact ⟨V.non, H2, J.os, J.bare, J.base, J.hok, rfl, q⟩)
      | (obtain ⟨v2, σ2, H2, J, rv, q⟩ := z; exact ⟨v2, H2, J.os, J.bare, J.base, J.hok, rv, q⟩)
end
section
variable {X : Cx} {CX : CXT} {k : Nat} {f : Addr} {fd : FuncData} {ps : List Str} {sp : Sp} {dvs : List V} {ds : List Value} {E : XK} {x : Str} {p pos : Pos} {e : Expr} {es : List Expr} {t : TA}
/-- f(e, ..) -/
theorem pe_callG (F : FnG X.prog X.w X.K X.mg X.base CX k f fd ps sp) (hG : X.A.guards = some []) (hr : Room k X.A) (hg : Gl X x) (hm : X.mg x = some (.ref f)) (hk : PySem.W.keepIn X.K (.ref f) = true) (hb : Binds X.K fd ps ds) (hd : Vals dvs ds) (hx : Passes CX X E)
    (ha : PA X (e :: es) t) (hdb : (x == ("__debug__" : Str)) = false := by decide) (he : starEach (e :: es) X.env = (false, eval e X.env) :: starEach es X.env := by rfl) (hpl : (backTo pos (starEach es X.env)).any (·.1) = false := by rfl) :
    PE X (.Call (.Name x p) (e :: es) [] pos) (tCall sp dvs E t) := by
  refine ⟨fun pins s σ H Q I h => ?_⟩
  refine wpAny_Call_Name_kw (ld_glob I hg hm ?_ hdb)
  refine PySem.W.callWith_K (h₀ := X.base) I.ok.mod.kin hk (thn (ha.run pos pins s σ H _ I h) fun us s1 ⟨vs, H1, I1, r, q⟩ => ⟨I1.kIn, ?_⟩) he hpl
  have r2 : Vals (vs ++ dvs) (us ++ ds) := r.append hd
  have hl : (us ++ ds).length = ps.length := by rw [← r2.length]; exact F.len _ _ _ _ q
  show wpAny _ _ (call (.ref f) us) _ _ _
  refine wpAny_call (codeAny_mono (F.go X.A X.stack s1 H1 ⟨us, []⟩ (us ++ ds) (vs ++ dvs) Q E hr hG I1.env0 (hb s1 us I1.kIn hl) r2 q) fun res s' hq => ?_)
  rcases res with er | fl
  · exact hx pins σ H1 s1 er s' I1 hq
  · rcases fl with _ | _ | _ | u
    all_goals first
      | exact I1.after hq
      | exact False.elim hq
end
/-- the heap in which nothing but the script is told -/
def onlyAt (a : Addr) (o : Obj) (ns : List Int) : Hp := fun b => if b = a then some (.frz o (.lst (ns.map V.int))) else none
section
variable {P : Program} {w : World} {K : PySem.W.Frag} {mg mb : Str → Option Value} {CX : CXT} {k : Nat} {fa a : Addr} {fd : FuncData} {x : Str} {sp : Sp} {s : Shared} {vs : List Value} {ns : List Int}
/-- the law's call, from an abstract heap that tells of the script at most -/
theorem lawFrom (KX : K.In s.heap) (hns : s.heap.Ns mainGlobals mg) (hbl : s.heap.Ns builtinsNs mb) (hbb : ∀ x : Str, x ≠ "__name__" → mb x = bootBuiltins x) (hlim : s.heap.NoLimit) (hg : s.gens = #[]) {o : Obj} (ho : s.heap.get? a = some o) (hdict : ∀ es ep, o.data ≠ .dict es ep)
    (hr : Room k callerA) (F : ∀ base : Heap, K.In base → base.Ns mainGlobals mg → FnG P w K mg base CX k fa fd [x] sp) (hbind : ∀ (s : Shared) (u : Value), BindsTo s fd ⟨[u], []⟩ [(x, u)])
    (H : Hp) (hok : HOk P w H s.heap) (hA : ∀ b, H b ≠ none → b = a ∧ K.lookup a = none ∧ H a = some (.frz o (.lst (ns.map V.int)))) (hsp : sp [.ref a] H (fun v _ => v = .bl true) fun _ _ _ => False) (hCX : ∀ e s', CX [] H s (fun _ _ _ => False) e s' → False) :
    codeAny (model P w) callerA (.call (.ref fa) ⟨[.ref a], []⟩) (fun r s' => r = .ok (.ret (.bool true)) ∧ OldK s.heap s'.heap ∧ s'.os = s.os ∧ AllBare s'.gens) s := by
  have free : ∀ {b : Addr} {u : Obj}, s.heap.get? b = some u → (∃ es ep, u.data = .dict es ep) → H b = none := fun {b u} e ⟨es, ep, d⟩ => by
    cases q : H b with
    | none => rfl
    | some z =>
      obtain ⟨rfl, _, _⟩ := hA b (by rw [q]; simp)
      rw [ho] at e
      cases e
      exact (hdict es ep d).elim
  have nsK : ∀ {b : Addr} {m : Str → Option Value}, s.heap.Ns b m → (hidT s.heap H).Ns b m := fun {b m} ⟨u, es, ep, e, d, r⟩ => ⟨u, es, ep, hidT_get e (free e ⟨es, ep, d⟩), d, r⟩
  have kb : K.In (hidT s.heap H) := fun b u e => hidT_get (KX b u e) (by
    cases q : H b with
    | none => rfl
    | some z =>
      obtain ⟨rfl, q2, _⟩ := hA b (by rw [q]; simp)
      rw [q2] at e
      cases e)
  have hM : Mod K mg (hidT s.heap H) := ⟨kb, nsK hns, ⟨mb, nsK hbl, hbb⟩, let ⟨mc, h1, h2⟩ := hlim; ⟨mc, nsK h1, h2⟩⟩
  have e0 : Env0 P w K mg (hidT s.heap H) callerA [] s H := ⟨rfl, hM, fun b u e => of_hidT e, Nat.le_of_eq (hidT_size _ _), trivial, fun b hb => absurd (show b ∈ ([] : List Addr) from hb) (by simp), hok, .of_eq hg⟩
  refine codeAny_mono ((F _ kb (nsK hns)).go callerA [] s H ⟨[.ref a], []⟩ [.ref a] [.ref a] _ _ hr rfl e0 (hbind s (.ref a)) (.cons rfl .nil) hsp) fun r s' h => ?_
  rcases r with e | fl
  · exact (hCX e s' h).elim
  · rcases fl with _ | _ | _ | u
    all_goals first
      | exact False.elim h
      | skip
    obtain ⟨v, H', os, bare, un, hok', r', q⟩ := h
    obtain rfl : v = .bl true := q
    obtain rfl : u = Value.bool true := r'
    refine ⟨rfl, OldK.of_keep fun b u e => ?_, os, bare⟩
    cases q : H b with
    | none => exact un.keep b u e q (fun z => absurd (show b ∈ ([] : List Addr) from z) (by simp)) (by simp)
    | some z =>
      obtain ⟨rfl, _, q3⟩ := hA b (by rw [q]; simp)
      obtain ⟨e2, _⟩ := hok' b _ (un.frzs b o _ q3)
      rw [ho] at e
      cases e
      exact e2
theorem lawCall (KX : K.In s.heap) (hns : s.heap.Ns mainGlobals mg) (hbl : s.heap.Ns builtinsNs mb) (hbb : ∀ x : Str, x ≠ "__name__" → mb x = bootBuiltins x) (hlim : s.heap.NoLimit) (hg : s.gens = #[])
    (ha : s.heap.get? a = some { cls := .type "list", data := .seq vs.toArray }) (hi : IntsAre vs ns) (hl : ns.length ≤ sizeLine) (hr : Room k callerA)
    (F : ∀ base : Heap, K.In base → base.Ns mainGlobals mg → FnG P w K mg base CX k fa fd [x] sp) (hbind : ∀ (s : Shared) (u : Value), BindsTo s fd ⟨[u], []⟩ [(x, u)])
    (hsp : ∀ H : Hp, SqL K H a (ns.map V.int) → sp [.ref a] H (fun v _ => v = .bl true) fun _ _ _ => False) (hCX : ∀ H e s', CX [] H s (fun _ _ _ => False) e s' → False) :
    codeAny (model P w) callerA (.call (.ref fa) ⟨[.ref a], []⟩) (fun r s' => r = .ok (.ret (.bool true)) ∧ OldK s.heap s'.heap ∧ s'.os = s.os ∧ AllBare s'.gens) s := by
  have rv := vals_ints hi
  cases hk : K.lookup a with
  | some o =>
    have e := KX a o hk
    rw [ha] at e
    cases e
    refine lawFrom KX hns hbl hbb hlim hg ha (fun _ _ z => by cases z) hr F hbind (ns := ns) (fun _ => none) (fun b u z => by cases z) (fun b z => absurd rfl z) (hsp _ ?_) (hCX _)
    exact .inr ⟨_, vs.toArray, _, hk, rfl, rfl, rfl, by rw [List.size_toArray, hi.length]; exact hl, by simpa using rv⟩
  | none =>
    refine lawFrom KX hns hbl hbb hlim hg ha (fun _ _ z => by cases z) hr F hbind (ns := ns) (onlyAt a { cls := .type "list", data := .seq vs.toArray } ns) (fun b u z => ?_) (fun b z => ?_) (hsp _ (.inl (.inr ⟨_, if_pos rfl⟩))) (hCX _)
    · by_cases hb : b = a
      · have q := (if_pos hb).symm.trans z
        cases q
        subst hb
        exact ⟨ha, by rw [List.length_map]; exact hl, vs, _, rv, ha⟩
      · have q := (if_neg hb).symm.trans z
        cases q
    · by_cases hb : b = a
      · exact ⟨hb, hk, if_pos rfl⟩
      · exact absurd (if_neg hb) z
end
/-- the end of a law's row -/
theorem endG {l : PySem.W.OpenLaw} {n k : Nat} {q : Program} {loose : List Str} {XP : (Str → Option Value) → Heap → Prop} {YP : World → Heap → Prop} {d : DefRec} {K : Params → PySem.W.Frag} {CX : World → CXT} {sp : World → Sp} {x : Str}
    (hn : l.most = some n) (hn2 : n ≤ sizeLine) (hdf : d.params.defaults = []) (hr : Room k callerA) (hY : ∀ (w : World) (h : Heap), YP w h → (K w.params).In h)
    (F : ∀ (w : World) (mg : Str → Option Value) (fa : Addr) (h : Heap), (K w.params).In h → h.Ns mainGlobals mg → mg d.name = some (.ref fa) →
      ∃ fd : FuncData, (∀ (s : Shared) (u : Value), BindsTo s fd ⟨[u], []⟩ [(x, u)]) ∧ ∀ base : Heap, (K w.params).In base → base.Ns mainGlobals mg → FnG l.prog w (K w.params) mg base (CX w) k fa fd [x] (sp w))
    (hsp : ∀ (w : World) (H : Hp) (a : Addr) (ns : List Int), ns.length ≤ n → SqL (K w.params) H a (ns.map V.int) → sp w [.ref a] H (fun v _ => v = .bl true) fun _ _ _ => False)
    (hCX : ∀ (w : World) (H : Hp) (s : Shared) (e : Value) (s' : Shared), CX w [] H s (fun _ _ _ => False) e s' → False) : PySem.W.WalkO q loose XP YP l.row.toRowW d [] (fun f vs => PySem.call f vs) := by
  refine Att.attach_call hn hdf fun w s₀ s₁ mg mb fa o pm cd doc a vs ns G Y ho hd hcd hmg hobj hints hlen hg => ?_
  obtain ⟨fd, hb, hF⟩ := F w mg fa _ (hY w _ Y) G.T.g hmg
  exact lawCall (hY w _ Y) G.T.g G.T.b G.T.builtins G.T.nolimit hg hobj hints (Nat.le_trans hlen hn2) hr hF hb (fun H hS => hsp w H a ns hlen hS) fun H e s' => hCX w H s₁ e s'
end Lx
namespace Lx
open PySem PySem.Spec L2
/-! ### repr of data -/
structure Fit (d : PyData) : Prop where
  can : d.showable = true
  no : d.hasDict = false
  dep : d.depth ≤ 40
  len : d.shown.length ≤ sizeLine
/-- repr(x), x data -/
def rRepr (K : PySem.W.Frag) : List V → Hp → VK → Prop := fun xs H Q => ∃ x d, xs = [x] ∧ Dp K H x d ∧ Fit d ∧ Q (.str d.shown) H
theorem call_reprD {X : Cx} (hG : X.A.guards = some []) (hu : X.A.units + 64 < cLine) : CallR X (.builtin "repr") (rRepr X.K) := by
  intro pins s σ H xs us Q I r h
  obtain ⟨x, d, rfl, hd, F, q⟩ := h
  obtain ⟨u, rfl, r1⟩ := vals1 r
  obtain ⟨as, rd⟩ := Dp.reads I d x u hd r1
  have big : ∀ a : Addr, u = .ref a → wpAny (model X.prog X.w) X.A (call (.builtin "repr") [u]) (EP X pins σ Q) X.xe s := fun a e => by
    subst e
    exact repr_of_reads' rd F.can (PyData.noDict_hsm F.no) hG (by have := F.dep; omega) (fun _ _ e => e) (fun h' t tk kp => ⟨.str d.shown, H, I.kept (t' := tk) kp, ⟨t, rfl⟩, q⟩) F.len
  cases hd with
  | non =>
    cases r1
    exact P.repr_of_none ⟨.str _, H, I.tok _, ⟨_, rfl⟩, q⟩
  | bl b =>
    cases r1
    exact P.repr_of_bool ⟨.str _, H, I.tok _, ⟨_, rfl⟩, by cases b <;> exact q⟩
  | int i =>
    obtain ⟨t, rfl⟩ := r1
    exact P.repr_of_int (of_decide_eq_true F.can) ⟨.str _, H, I.tok _, ⟨_, rfl⟩, q⟩
  | str y =>
    obtain ⟨t, rfl⟩ := r1
    exact P.repr_of_str ⟨.str _, H, I.tok _, ⟨_, rfl⟩, q⟩ F.len
  | lst _ _ => exact big _ r1
  | tup _ _ => exact big _ r1
/-! ### which class is which -/
section
variable {K : PySem.W.Frag} {file : Str} {mg : Str → Option Value} {L C D : Addr} {nm qual nm2 qual2 : Str} {st st2 : Stmt}
theorem ErrC.some_ (T : ErrC K file mg L nm qual st C) : (PySem.W.clsIn K C).isSome = true := by
  obtain ⟨cd, e, _⟩ := T.chain
  rw [e]; rfl
theorem LineC.some_ (T : LineC K mg L) : (PySem.W.clsIn K L).isSome = true := by
  obtain ⟨n, q, N, bs, sn, sub, ab, col, dd, k0, k1, k2, k3, k5, hL⟩ := T.cls
  unfold PySem.W.clsIn
  rw [hL] <;> rfl
theorem kit_ref {b : Bool} (h1 : (PySem.W.clsIn K D).isSome = true) (h2 : PySem.W.typeIn K (.ref D) = some (.type "type")) (T : ErrC K file mg L nm qual st C) (h : (Value.ref C :: .ref L :: HandSPX.veTail).contains (.ref D) = b) : PySem.W.kitOne K (.ref C) (.ref D) = some b := by
  unfold PySem.W.kitOne
  by_cases e : C = D
  · subst e
    have z : (Value.ref C == Value.ref C) = true := by simp
    rw [if_pos z, ← h]
    simp
  · have z : ¬ (Value.ref C == Value.ref D) = true := by simpa using e
    rw [if_neg z]
    show (if ((PySem.W.clsIn K D).isSome && PySem.W.typeIn K (.ref D) == some (.type "type")) = true then PySem.W.subIn K (.ref C) (.ref D) else none) = some b
    rw [h1, h2, if_pos (by rfl)]
    exact (T.under _).trans (by rw [h])
theorem kit_err (T : ErrC K file mg L nm qual st C) (T2 : ErrC K file mg L nm2 qual2 st2 D) (hD : D ≠ L) : PySem.W.kitOne K (.ref C) (.ref D) = some (decide (C = D)) := by
  refine kit_ref T2.some_ T2.ty T ?_
  rw [List.contains_cons, List.contains_cons]
  have e1 : (Value.ref D == Value.ref L) = false := by simpa using hD
  have e2 : List.contains HandSPX.veTail (Value.ref D) = false := by rfl
  rw [e1, e2]
  by_cases e : C = D
  · subst e; simp
  · have z : (Value.ref D == Value.ref C) = false := by simpa using Ne.symm e
    rw [z, decide_eq_false e]; rfl
theorem kit_line (TL : LineC K mg L) (T : ErrC K file mg L nm qual st C) : PySem.W.kitOne K (.ref C) (.ref L) = some true := kit_ref TL.some_ TL.ty T (by simp)
theorem kit_ve (T : ErrC K file mg L nm qual st C) : PySem.W.kitOne K (.ref C) (.type "ValueError") = some true := by
  unfold PySem.W.kitOne
  rw [if_neg (by simp)]
  show (if PySem.W.kitMeta "ValueError" = true then PySem.W.subIn K (.ref C) (.type "ValueError") else none) = some true
  rw [if_pos (by decide +kernel)]
  exact (T.under _).trans (by rfl)
end
/-! ### data that repr can write -/
/-- ints below 2 ^ 400, texts of plain signs -/
def small : PyData → Bool
  | .none | .bool _ => true
  | .int i => decide (i.natAbs < 2 ^ 400)
  | .str x => x.cps.toList.all fun c => decide (c < 128)
  | .list xs | .tuple xs => smallAll xs
  | .dict _ => false
where smallAll : List PyData → Bool
  | [] => true
  | x :: xs => small x && smallAll xs
theorem int_log {i : Int} (h : i.natAbs < 2 ^ 400) : i.natAbs.log2 < 400 := PySem.Flt.log2_lt_of (by decide) h
theorem int_shown {i : Int} (h : i.natAbs < 2 ^ 400) : (PyData.shown (.int i)).length ≤ 401 := by
  have e := int_text_length_le (k := 400) (by decide) (int_log h)
  show (Str.ofString (toString i)).length ≤ 401
  rw [ofString_length]
  omega
mutual
theorem small_can : ∀ d : PyData, small d = true → d.showable = true
  | .none, _ => rfl
  | .bool _, _ => rfl
  | .int i, h => by
    have e := int_log (of_decide_eq_true (show decide (i.natAbs < 2 ^ 400) = true by simpa only [small] using h))
    simp only [PyData.showable]
    exact decide_eq_true (by omega)
  | .str _, _ => rfl
  | .list xs, h => by
    simp only [PyData.showable]
    exact small_canAll xs (by simpa only [small] using h)
  | .tuple xs, h => by
    simp only [PyData.showable]
    exact small_canAll xs (by simpa only [small] using h)
  | .dict _, h => by simp [small] at h
theorem small_canAll : ∀ xs : List PyData, small.smallAll xs = true → PyData.showableAll xs = true
  | [], _ => rfl
  | x :: xs, h => by
    have h' : small x = true ∧ small.smallAll xs = true := by simpa only [small.smallAll, Bool.and_eq_true] using h
    simp only [PyData.showableAll, Bool.and_eq_true]
    exact ⟨small_can x h'.1, small_canAll xs h'.2⟩
end
mutual
theorem small_no : ∀ d : PyData, small d = true → d.hasDict = false
  | .none, _ => rfl
  | .bool _, _ => rfl
  | .int i, h => rfl
  | .str _, _ => rfl
  | .list xs, h => by
    simp only [PyData.hasDict]
    exact small_noAll xs (by simpa only [small] using h)
  | .tuple xs, h => by
    simp only [PyData.hasDict]
    exact small_noAll xs (by simpa only [small] using h)
  | .dict _, h => by simp [small] at h
theorem small_noAll : ∀ xs : List PyData, small.smallAll xs = true → PyData.hasDictAll xs = false
  | [], _ => rfl
  | x :: xs, h => by
    have h' : small x = true ∧ small.smallAll xs = true := by simpa only [small.smallAll, Bool.and_eq_true] using h
    simp only [PyData.hasDictAll, Bool.or_eq_false_iff]
    exact ⟨small_no x h'.1, small_noAll xs h'.2⟩
end
mutual
theorem small_leaves : ∀ d : PyData, small d = true → d.leavesShort 401 = true
  | .none, _ => rfl
  | .bool _, _ => rfl
  | .int i, h => by
    have e := int_shown (of_decide_eq_true (show decide (i.natAbs < 2 ^ 400) = true by simpa only [small] using h))
    simp only [PyData.leavesShort]
    exact decide_eq_true e
  | .str x, h => by
    simp only [PyData.leavesShort, List.all_eq_true, decide_eq_true_eq]
    simp only [small, List.all_eq_true, decide_eq_true_eq] at h
    intro c hc
    exact Nat.lt_of_lt_of_le (h c hc) (by decide)
  | .list xs, h => by
    simp only [PyData.leavesShort]
    exact small_leavesAll xs (by simpa only [small] using h)
  | .tuple xs, h => by
    simp only [PyData.leavesShort]
    exact small_leavesAll xs (by simpa only [small] using h)
  | .dict _, h => by simp [small] at h
theorem small_leavesAll : ∀ xs : List PyData, small.smallAll xs = true → PyData.leavesShortAll 401 xs = true
  | [], _ => rfl
  | x :: xs, h => by
    have h' : small x = true ∧ small.smallAll xs = true := by simpa only [small.smallAll, Bool.and_eq_true] using h
    simp only [PyData.leavesShortAll, Bool.and_eq_true]
    exact ⟨small_leaves x h'.1, small_leavesAll xs h'.2⟩
end
theorem fit_small {d : PyData} (h : small d = true) (hd : d.depth ≤ 40) (hb : d.bulk ≤ 40000) : Fit d := by
  refine ⟨small_can d h, small_no d h, hd, ?_⟩
  have e := PyData.shown_le_bulk 401 (by decide) d (small_leaves d h)
  have e2 : (401 + 2) * d.bulk ≤ 403 * 40000 := Nat.mul_le_mul (by decide) hb
  rw [sizeLine_eq]
  omega
end Lx
namespace Lx
open PySem PySem.Spec L2 PyProof.Rows
/-! ### f(k = v, ..) of a def -/
section
variable {X : Cx} {CX : CXT} {k : Nat} {f : Addr} {fd : FuncData} {ps ks : List Str} {sp : Sp} {E : XK} {x : Str} {p pos : Pos} {kws : List Keyword} {tk : TA} {g : List Value → List Value → List Value} {gV : List V → List V → List V}
theorem pe_callK0 (F : FnOk X.prog X.w X.K X.mg X.base CX k f fd ps sp) (hr : Room k X.A) (hg : Gl X x) (hm : X.mg x = some (.ref f)) (hk : PySem.W.keepIn X.K (.ref f) = true) (hb : KBinds X.K fd ps ks g gV) (hx : Passes CX X E)
    (hkw : PK X kws tk) (hall : (backToKw pos (keywordEach kws X.env)).all (·.1.isSome) = true := by rfl) (hks : (backToKw pos (keywordEach kws X.env)).filterMap (·.1) = ks := by rfl)
    (hdb : (x == ("__debug__" : Str)) = false := by decide) (hpl : ((backTo pos (starEach [] X.env)).any (·.1) || (backToKw pos (keywordEach kws X.env)).any (·.1.isNone)) = false := by rfl) :
    PE X (.Call (.Name x p) [] kws pos) (tCallK sp gV E tNil tk) := by
  refine ⟨fun pins s σ H Q I h => ?_⟩
  refine wpAny_Call_Name_kw (ld_glob I hg hm ?_ hdb)
  refine PySem.W.callWith_KW0 (h₀ := X.base) I.ok.mod.kin hk hall ?_ hpl
  refine thn (hkw.run pos pins s σ H _ I h) fun ws s2 ⟨zs, H2, I2, rz, q2⟩ => ⟨I2.kIn, ?_⟩
  rw [hks]
  exact run_fnk (us := []) (vs := []) F hr hb hx I2 .nil rz q2
end
/-- two keywords, the second parameter's first -/
def g21 (α : Type) : List α → List α → List α
  | [], [a, b] => [b, a]
  | _, _ => []
def g1 (α : Type) : List α → List α → List α
  | [], [a] => [a]
  | _, _ => []
theorem kb21 {K : PySem.W.Frag} {x qual : Str} {st : Stmt} {f : Addr} {fd : FuncData} {p1 p2 : Str} (F : Fun K x qual st f fd)
    (h : ∀ (kV doc pm : Value) (an : Option Addr) (cdv ct a b : Value), bindArgs (PySem.W.fnOf x qual (defArgs st) (defBody st) (defScope st) .none kV doc pm an cdv ct) ⟨[], [(p2, a), (p1, b)]⟩ = pure [(p1, b), (p2, a)]) : KBinds K fd [p1, p2] [p2, p1] (g21 Value) (g21 V) := by
  obtain ⟨oc, od, kV, doc, pm, an, cdv, ct, osl, rfl, lk, hcd⟩ := F.ex
  refine ⟨fun s us ws _ hl => ?_, fun {vs us zs ws} r1 r2 => ?_⟩
  · match us, ws, hl with
    | [], [a, b], _ => exact .of_eq (h kV doc pm an cdv ct a b)
    | [], [], hl => exact absurd hl (by simp [g21])
    | [], [_], hl => exact absurd hl (by simp [g21])
    | [], _ :: _ :: _ :: _, hl => exact absurd hl (by simp [g21])
    | _ :: _, _, hl => exact absurd hl (by simp [g21])
  · cases r1 with
    | cons _ _ => exact .nil
    | nil =>
      cases r2 with
      | nil => exact .nil
      | cons a t =>
        cases t with
        | nil => exact .nil
        | cons b t =>
          cases t with
          | nil => exact .cons b (.cons a .nil)
          | cons _ _ => exact .nil
theorem kb1 {K : PySem.W.Frag} {x qual : Str} {st : Stmt} {f : Addr} {fd : FuncData} {p1 : Str} (F : Fun K x qual st f fd)
    (h : ∀ (kV doc pm : Value) (an : Option Addr) (cdv ct a : Value), bindArgs (PySem.W.fnOf x qual (defArgs st) (defBody st) (defScope st) .none kV doc pm an cdv ct) ⟨[], [(p1, a)]⟩ = pure [(p1, a)]) : KBinds K fd [p1] [p1] (g1 Value) (g1 V) := by
  obtain ⟨oc, od, kV, doc, pm, an, cdv, ct, osl, rfl, lk, hcd⟩ := F.ex
  refine ⟨fun s us ws _ hl => ?_, fun {vs us zs ws} r1 r2 => ?_⟩
  · match us, ws, hl with
    | [], [a], _ => exact .of_eq (h kV doc pm an cdv ct a)
    | [], [], hl => exact absurd hl (by simp [g1])
    | [], _ :: _ :: _, hl => exact absurd hl (by simp [g1])
    | _ :: _, _, hl => exact absurd hl (by simp [g1])
  · cases r1 with
    | cons _ _ => exact .nil
    | nil =>
      cases r2 with
      | nil => exact .nil
      | cons a t =>
        cases t with
        | nil => exact .cons a .nil
        | cons _ _ => exact .nil
end Lx
/-! texts repeated -/
namespace Lx
open PySem PySem.Spec L2
/-- the signs of a text, n times -/
def rep (x : Str) (n : Nat) : Str := ⟨((List.replicate n x.cps.toList).flatten).toArray⟩
theorem rep_list (x : Str) (n : Nat) : (rep x n).cps.toList = (List.replicate n x.cps.toList).flatten := rfl
theorem rep_len (x : Str) (n : Nat) : (rep x n).length = x.length * n := by
  show ((List.replicate n x.cps.toList).flatten).toArray.size = x.cps.size * n
  rw [List.size_toArray, List.length_flatten, List.map_replicate, List.sum_replicate_nat, Array.length_toList, Nat.mul_comm]
theorem rep_one (x : Str) : rep x 1 = x := by
  have e : (rep x 1).cps.toList = x.cps.toList := by simp [rep_list]
  exact Str.ext' (Array.toList_inj.mp e)
theorem rep_zero (x : Str) : rep x 0 = Str.empty := rfl
theorem fold_rep (a : Array Nat) : ∀ (n : Nat) (b : Array Nat), ((List.replicate n a).foldl (· ++ ·) b).toList = b.toList ++ (List.replicate n a.toList).flatten
  | 0, b => by simp
  | n + 1, b => by
    rw [List.replicate_succ, List.foldl_cons, fold_rep a n, List.replicate_succ, List.flatten_cons, Array.toList_append, List.append_assoc]
theorem rep_fold (x : Str) (n : Nat) : (⟨(List.replicate n x.cps).foldl (· ++ ·) #[]⟩ : Str) = rep x n := by
  have e : ((List.replicate n x.cps).foldl (· ++ ·) #[]).toList = (rep x n).cps.toList := by
    rw [fold_rep, rep_list]; rfl
  exact Str.ext' (Array.toList_inj.mp e)
theorem rep_empty (x : Str) (n : Nat) (h : x.length = 0) : rep x n = x := by
  have e : x.cps.toList = [] := List.eq_nil_of_length_eq_zero (by rw [Array.length_toList]; exact h)
  have e2 : (rep x n).cps.toList = x.cps.toList := by
    rw [rep_list, e]
    induction n with
    | zero => rfl
    | succ n ih => rw [List.replicate_succ, List.flatten_cons, ih]; rfl
  exact Str.ext' (Array.toList_inj.mp e2)
/-- text * k -/
def rRepS : R2 := fun x y H Q => ∃ (z : Str) (k : Int), x = .str z ∧ y = .int k ∧ 0 ≤ k ∧ k < 1000000000 ∧ z.length * k.toNat ≤ sizeLine ∧ Q (.str (rep z k.toNat)) H
theorem op_repS {X : Cx} : OpR X (binaryOp .Mult) rRepS := by
  intro pins s σ H x y v u Q I rx ry h
  obtain ⟨z, k, rfl, rfl, h0, h1, hz, q⟩ := h
  obtain ⟨t, rfl⟩ := rx
  obtain ⟨t', rfl⟩ := ry
  have hlong : PySem.Builtin.Str.tooLong (z.length * k.toNat) = false := by
    unfold PySem.Builtin.Str.tooLong
    exact decide_eq_false (by omega)
  refine P.mul_str (by rw [decide_eq_false (by omega), decide_eq_false (by omega)]; rfl) (fun hk _ => ?_) (fun _ _ => hlong) ?_
  · have e : (z.length : Int) * k ≤ 2 ^ 63 - 1 := by
      have e1 : (z.length : Int) * k = ((z.length * k.toNat : Nat) : Int) := by
        rw [Int.natCast_mul, Int.toNat_of_nonneg h0]
      have e2 : sizeLine ≤ 9223372036854775807 := by rw [sizeLine_eq]; decide
      rw [e1]
      omega
    have hkp : 0 < k := by omega
    have := Int.le_ediv_of_mul_le hkp e
    omega
  · by_cases hk : k < 1
    · rw [if_pos hk]
      have e : k.toNat = 0 := by omega
      rw [e, rep_zero] at q
      exact ⟨by decide, ⟨.str _, H, I.tok _, ⟨_, rfl⟩, q⟩⟩
    · rw [if_neg hk]
      by_cases h2 : (k == 1 || z.length == 0) = true
      · rw [if_pos h2]
        have e : rep z k.toNat = z := by
          rcases Bool.or_eq_true_iff.mp h2 with e | e
          · have e' : k.toNat = 1 := by have := beq_iff_eq.mp e; omega
            rw [e', rep_one]
          · exact rep_empty _ _ (beq_iff_eq.mp e)
        rw [e] at q
        exact ⟨.str _, H, I, ⟨_, rfl⟩, q⟩
      · rw [if_neg h2, rep_fold]
        exact ⟨by rw [rep_len]; exact hz, ⟨.str _, H, I.tok _, ⟨_, rfl⟩, q⟩⟩
end Lx
namespace Lw
open PySem PySem.Spec L2 Lx
theorem same_upd {H : Hp} {p : Addr} {o : HO} (h : H p = none) : Same H (upd H p o) := fun b x e => by
  rw [upd_ne (ne_of_none e h)]
  exact e
abbrev steps : Str := "UDMN"
def ChOk (x : Str) : Prop := ∀ c ∈ x.cps.toList, c ∈ steps.cps.toList
abbrev nothing : Fm := .keep 0 0
def stepF (c : Nat) : Fm := if c = 85 then .keep 0 1 else if c = 68 then .keep 1 0 else if c = 77 then .lf 0 0 1 0 else .cr 0 0 1
def formL (cs : List Nat) : Fm := cs.foldl (fun f c => f.both (stepF c)) nothing
def formOf (x : Str) : Fm := formL x.cps.toList
def FLe (L : Nat) : Fm → Prop
  | .keep b a => 0 ≤ b ∧ b ≤ L ∧ 0 ≤ a ∧ a ≤ L
  | .lf b a k c => 0 ≤ b ∧ b ≤ L ∧ 0 ≤ a ∧ a ≤ L ∧ 0 < k ∧ Sm (13 * L + 1) k ∧ 0 ≤ c ∧ c ≤ L
  | .cr b a k => 0 ≤ b ∧ b ≤ L ∧ 0 ≤ a ∧ a ≤ L ∧ 0 < k ∧ Sm (13 * L + 1) k
theorem sm_le {L : Nat} {x : Int} (h0 : 0 ≤ x) (h : x ≤ L) : Sm (13 * L + 1) x := by
  have h1 : L < 2 ^ L := Nat.lt_two_pow_self
  have h2 : 2 ^ L ≤ 2 ^ (13 * L + 1) := Nat.pow_le_pow_right (by decide) (by omega)
  unfold Sm
  omega
theorem FLe.ok {L : Nat} : ∀ {f : Fm}, FLe L f → f.Ok (13 * L + 1)
  | .keep _ _, ⟨h1, h2, h3, h4⟩ => ⟨h1, h3, sm_le h1 h2, sm_le h3 h4⟩
  | .lf _ _ _ _, ⟨h1, h2, h3, h4, h5, h6, h7, h8⟩ => ⟨h1, h3, h5, h7, sm_le h1 h2, sm_le h3 h4, h6, sm_le h7 h8⟩
  | .cr _ _ _, ⟨h1, h2, h3, h4, h5, h6⟩ => ⟨h1, h3, h5, sm_le h1 h2, sm_le h3 h4, h6⟩
theorem step_cases {c : Nat} (h : c ∈ steps.cps.toList) : stepF c = .keep 0 1 ∨ stepF c = .keep 1 0 ∨ stepF c = .lf 0 0 1 0 ∨ stepF c = .cr 0 0 1 := by
  unfold stepF
  split
  · exact .inl rfl
  · split
    · exact .inr (.inl rfl)
    · split
      · exact .inr (.inr (.inl rfl))
      · exact .inr (.inr (.inr rfl))
theorem sm_mul {L : Nat} {k x : Int} (hk : Sm (13 * L + 1) k) (h0 : 0 ≤ x) (h : x < 8192) : Sm (13 * (L + 1) + 1) (k * x * 1) := by
  have e : Sm 13 x := by
    unfold Sm
    have : (2 : Nat) ^ 13 = 8192 := by decide
    omega
  rw [Int.mul_one]
  exact (hk.mul e).mono (by omega)
theorem sm_up {L : Nat} {k : Int} (hk : Sm (13 * L + 1) k) : Sm (13 * (L + 1) + 1) k := hk.mono (by omega)
theorem pp (x : Int) : 0 ≤ (if x > 0 then x else 0) ∧ ((if x > 0 then x else 0) = x ∨ ((if x > 0 then x else 0) = 0 ∧ x ≤ 0)) := by
  by_cases h : x > 0
  · rw [if_pos h]; omega
  · rw [if_neg h]; omega
theorem FLe.step {L : Nat} (hL : L ≤ 7000) {c : Nat} (hc : c ∈ steps.cps.toList) {f : Fm} (h : FLe L f) : FLe (L + 1) (f.both (stepF c)) := by
  cases f with
  | keep b a =>
    obtain ⟨h1, h2, h3, h4⟩ := h
    have p1 := pp (0 - a)
    have p2 := pp (a - 0)
    have p3 := pp (1 - a)
    have p4 := pp (a - 1)
    have one : Sm (13 * (L + 1) + 1) 1 := sm_le (L := L + 1) (by decide) (by omega)
    rcases step_cases hc with e | e | e | e <;> rw [e] <;> simp only [Fm.both, Fm.ahead, Fm.b, Fm.a, FLe]
    · exact ⟨by omega, by omega, by omega, by omega⟩
    · exact ⟨by omega, by omega, by omega, by omega⟩
    · exact ⟨by omega, by omega, by omega, by omega, by decide, one, by decide, by omega⟩
    · exact ⟨by omega, by omega, by omega, by omega, by decide, one⟩
  | lf b a k d =>
    obtain ⟨h1, h2, h3, h4, h5, h6, h7, h8⟩ := h
    have p1 := pp (d - 0)
    have p2 := pp (d - 1)
    rcases step_cases hc with e | e | e | e <;> rw [e] <;> simp only [Fm.both, Fm.after, Fm.b, Fm.a, FLe]
    · exact ⟨h1, by omega, h3, by omega, h5, sm_up h6, by omega, by omega⟩
    · exact ⟨h1, by omega, h3, by omega, h5, sm_up h6, by omega, by omega⟩
    · refine ⟨h1, by omega, h3, by omega, ?_, sm_mul h6 (by omega) (by omega), by decide, by omega⟩
      rw [Int.mul_one]
      exact Int.mul_pos h5 (by omega)
    · refine ⟨h1, by omega, h3, by omega, ?_, sm_mul h6 (by omega) (by omega)⟩
      rw [Int.mul_one]
      exact Int.mul_pos h5 (by omega)
  | cr b a k =>
    obtain ⟨h1, h2, h3, h4, h5, h6⟩ := h
    rcases step_cases hc with e | e | e | e <;> rw [e] <;> simp only [Fm.both, FLe, Int.mul_one]
    · exact ⟨h1, by omega, h3, by omega, h5, sm_up h6⟩
    · exact ⟨h1, by omega, h3, by omega, h5, sm_up h6⟩
    · exact ⟨h1, by omega, h3, by omega, h5, sm_up h6, by decide, by omega⟩
    · exact ⟨h1, by omega, h3, by omega, h5, sm_up h6⟩
/-- the forms of the steps, and of no step -/
structure StepT (K : PySem.W.Frag) (w : World) (mg : Str → Option Value) (aN aS : Addr) : Prop where
  gN : mg "NOTHING" = some (.ref aN)
  n : ∀ H : Hp, FmAt K H (.ref aN) nothing
  gS : mg "STEP_FORMS" = some (.ref aS)
  s : ∀ c ∈ steps.cps.toList, ∃ v, KDct K w aS ⟨#[c]⟩ v ∧ ∀ H : Hp, FmAt K H v (stepF c)
theorem Same.own {H H' : Hp} {p : Addr} {o : HO} (s : Same H H') (n : H p = none) : Same H (upd H' p o) := fun b x e => by
  rw [upd_ne (ne_of_none e n)]
  exact s b x e
theorem SqT.lstUpd {K : PySem.W.Frag} {H : Hp} {a p : Addr} {xs ys : List V} {o : HO} (h : SqT K H a xs) (e : H p = some (.lst ys)) : SqT K (upd H p o) a xs := by
  have ne : ∀ o', H a = some o' → (∀ zs, o' ≠ .lst zs) → a ≠ p := fun o' h1 h2 z => by
    subst z
    rw [e] at h1
    exact h2 _ (Option.some.inj h1).symm
  rcases h with (h | ⟨q, h⟩) | h
  · exact .inl (.inl (by rw [upd_ne (ne _ h (fun zs z => by cases z))]; exact h))
  · exact .inl (.inr ⟨q, by rw [upd_ne (ne _ h (fun zs z => by cases z))]; exact h⟩)
  · exact .inr h
theorem Prs.lstUpd {K : PySem.W.Frag} {H : Hp} {p : Addr} {ys : List V} {o : HO} (e : H p = some (.lst ys)) : ∀ {vs : List V} {gs : List (Int × Int)}, Prs K H vs gs → Prs K (upd H p o) vs gs
  | _, _, .nil => .nil
  | _, _, .cons ⟨q, h1, h2⟩ t => .cons ⟨q, h1, by rw [upd_ne (ne_of h2 e (by intro z; cases z))]; exact h2⟩ (Prs.lstUpd e t)
theorem Prs.back {K : PySem.W.Frag} {H : Hp} : ∀ {vs : List V} {gs : List (Int × Int)} {x : Int × Int}, Prs K H vs (gs ++ [x]) → ∃ ws v, vs = ws ++ [v] ∧ Prs K H ws gs ∧ PrAt H v x
  | _, [], x, h => by
    cases h with
    | cons h1 t =>
      cases t
      exact ⟨[], _, rfl, .nil, h1⟩
  | _, g :: gs, x, h => by
    cases h with
    | cons h1 t =>
      obtain ⟨ws, v, rfl, a, b⟩ := Prs.back (gs := gs) t
      exact ⟨_ :: ws, v, rfl, .cons h1 a, b⟩
theorem snoc_or {α : Type} : ∀ l : List α, l = [] ∨ ∃ a x, l = a ++ [x]
  | [] => .inl rfl
  | x :: l => by
    rcases snoc_or l with rfl | ⟨a, y, rfl⟩
    · exact .inr ⟨[], x, rfl⟩
    · exact .inr ⟨x :: a, y, rfl⟩
theorem addTo_nil (x : Int × Int) : addTo [] x = [x] := rfl
theorem addTo_snoc (a : List (Int × Int)) (y x : Int × Int) : addTo (a ++ [y]) x = if y.2 = x.2 then a ++ [(y.1 + x.1, x.2)] else a ++ [y] ++ [x] := by
  unfold addTo
  rw [List.getLast?_concat]
  simp
theorem ixN_last {α : Type} (a : List α) (x : α) : ixN (a ++ [x]).length (-1) = some a.length := by
  unfold ixN
  simp
  omega
/-- numbers of groups that may be reckoned with -/
def RnSm (n : Nat) (r : List (Int × Int) × Int) : Prop := (∀ x ∈ r.1, 0 ≤ x.1 ∧ 0 ≤ x.2 ∧ Sm n x.1 ∧ Sm n x.2) ∧ 0 ≤ r.2 ∧ Sm n r.2 ∧ r.1.length ≤ 1000
theorem RnOk.sm {n : Nat} {r : List (Int × Int) × Int} (h : RnOk n r) : RnSm n r := ⟨fun x hx => by
  obtain ⟨i, hi⟩ := List.mem_iff_getElem?.mp hx
  obtain ⟨h1, h2, h3, h4, _⟩ := h.gs i x hi
  exact ⟨by omega, h2, h3, h4⟩, h.rest.1, h.rest.2, h.len⟩
theorem sum_mapV {gs : List (Int × Int)} {f : Fm} : ((gs.map fun x => x.1 * (f.after x.2 + 1))).sum = total (moved f gs) := by
  unfold total moved
  rw [List.map_map]
  rfl
theorem sum_sm {m : Nat} : ∀ (ts : List Int), (∀ t ∈ ts, 0 ≤ t ∧ Sm m t) → 0 ≤ ts.sum ∧ ts.sum ≤ ts.length * (2 ^ m : Nat)
  | [], _ => ⟨by decide, by simp⟩
  | t :: ts, h => by
    obtain ⟨h0, h1⟩ := h t (List.mem_cons_self ..)
    obtain ⟨i0, i1⟩ := sum_sm ts fun x hx => h x (List.mem_cons_of_mem _ hx)
    rw [List.sum_cons, List.length_cons]
    have e : ((ts.length + 1 : Nat) : Int) * (2 ^ m : Nat) = ts.length * (2 ^ m : Nat) + (2 ^ m : Nat) := by
      rw [Int.natCast_add, Int.add_mul]
      simp
    unfold Sm at h1
    rw [e]
    generalize ((ts.length : Nat) : Int) * (2 ^ m : Nat) = T at *
    generalize 2 ^ m = M at *
    omega
theorem units_ok {n : Nat} {r : List (Int × Int) × Int} {f : Fm} (h : RnSm n r) (hf : f.Ok n) : 0 ≤ units r f ∧ Sm (2 * n + 20) (units r f) := by
  have key : ∀ t ∈ (r.1.map fun x => x.1 * (f.after x.2 + 1)), 0 ≤ t ∧ Sm (2 * n + 4) t := by
    intro t ht
    obtain ⟨x, hx, rfl⟩ := List.mem_map.mp ht
    obtain ⟨x1, x2, x3, x4⟩ := h.1 x hx
    have hb := Fm.after_ok hf x2 x4
    have hb2 : Sm (n + 2) (f.after x.2 + 1) := hb.2.add (Nat.lt_of_lt_of_le (by decide : (1 : Int).natAbs < 2 ^ 1) (Nat.pow_le_pow_right (by decide) (by omega)))
    exact ⟨Int.mul_nonneg x1 (by have := hb.1; omega), (x3.mul hb2).mono (by omega)⟩
  obtain ⟨s0, s1⟩ := sum_sm _ key
  rw [sum_mapV] at s0 s1
  rw [List.length_map] at s1
  have hl := h.2.2.2
  have hr0 := h.2.1
  have hr1 : r.2.natAbs < 2 ^ n := h.2.2.1
  have e1 : (r.1.length : Int) * (2 ^ (2 * n + 4) : Nat) ≤ 1000 * (2 ^ (2 * n + 4) : Nat) := Int.mul_le_mul_of_nonneg_right (by omega) (Int.natCast_nonneg _)
  have e2 : 2 ^ (2 * n + 20) = 2 ^ (2 * n + 4) * 65536 := by rw [show 2 * n + 20 = (2 * n + 4) + 16 from rfl, Nat.pow_add]
  have e3 : 2 ^ n ≤ 2 ^ (2 * n + 4) := Nat.pow_le_pow_right (by decide) (by omega)
  unfold units Sm
  rw [e2]
  generalize total (moved f r.1) = T at *
  generalize (r.1.length : Int) * (2 ^ (2 * n + 4) : Nat) = U at *
  generalize 2 ^ (2 * n + 4) = M at *
  generalize 2 ^ n = N at *
  omega
/-- a run that has just been made -/
def NewRn (K : PySem.W.Frag) (H H' : Hp) (v : V) (r : List (Int × Int) × Int) : Prop :=
  ∃ p l xs, v = .ref p ∧ H p = none ∧ H l = none ∧ H' p = some (.tup [.ref l, .int r.2]) ∧ H' l = some (.lst xs) ∧ Prs K H' xs r.1
theorem RnSm.mono {n m : Nat} {r : List (Int × Int) × Int} (h : RnSm n r) (k : n ≤ m) : RnSm m r :=
  ⟨fun x hx => ⟨(h.1 x hx).1, (h.1 x hx).2.1, (h.1 x hx).2.2.1.mono k, (h.1 x hx).2.2.2.mono k⟩, h.2.1, h.2.2.1.mono k, h.2.2.2⟩
theorem NewRn.back {K : PySem.W.Frag} {H0 H H' : Hp} {v : V} {r : List (Int × Int) × Int} (s : Same H0 H) (h : NewRn K H H' v r) : NewRn K H0 H' v r := by
  obtain ⟨p, l, xs, h1, h2, h3, h4⟩ := h
  exact ⟨p, l, xs, h1, s.free h2, s.free h3, h4⟩
def CPowW (i j : Int) : Prop := 0 ≤ j ∧ j ≤ 64 ∧ i.natAbs < 2 ^ 200000
theorem op_powW {X : Cx} : OpR X (binaryOp .Pow) (rI CPowW fun i j => .int (i ^ j.toNat)) := opI fun i j _ _ _ _ _ hc q => by
  refine PyProof.Rows.pow_int hc.1 ?_ q
  have h1 := PySem.Flt.log2_lt_of (by decide : 0 < 200000) hc.2.2
  have h2 : Builtin.Int.intBits i ≤ i.natAbs.log2 + 1 := by
    unfold Builtin.Int.intBits
    split <;> omega
  have h3 : (Builtin.Int.intBits i : Int) ≤ 200000 := by omega
  have h4 := hc.2.1
  have h5 := hc.1
  have h6 : (Builtin.Int.intBits i : Int) * j ≤ 200000 * 64 := by
    refine Int.le_trans (Int.mul_le_mul_of_nonneg_right h3 h5) (Int.mul_le_mul_of_nonneg_left h4 (by decide))
  exact Int.le_trans h6 (by decide)
theorem fm {a b : Int} (hb : 0 < b) : 0 ≤ a.fmod b ∧ a.fmod b < b := by
  rw [Int.fmod_eq_emod_of_nonneg a (Int.le_of_lt hb)]
  exact ⟨Int.emod_nonneg a (by omega), Int.emod_lt_of_pos a hb⟩
theorem pow_sm {x : Int} (h0 : 0 ≤ x) (h : x < 2 ^ 200) {j : Int} (j0 : 0 ≤ j) (j1 : j ≤ 64) : CPowW x j := ⟨j0, j1, by
  have h1 : (x.natAbs : Int) < ((2 ^ 200 : Nat) : Int) := by
    rw [Int.natAbs_of_nonneg h0]
    exact h
  exact Nat.lt_of_lt_of_le (Int.ofNat_lt.mp h1) (Nat.pow_le_pow_right (by decide) (by decide))⟩
theorem cube_sm {x : Int} (h0 : 0 ≤ x) (h : x < 2147483648) : Sm 93 (x ^ Int.toNat 3) := by
  have e : x ^ Int.toNat 3 = x * x * x := by
    show x ^ 3 = _
    rw [Int.pow_succ, Int.pow_succ, Int.pow_succ, Int.pow_zero, Int.one_mul]
  have hx : Sm 31 x := by
    unfold Sm
    have : (2 : Nat) ^ 31 = 2147483648 := by decide
    omega
  rw [e]
  exact (hx.mul hx).mul hx
theorem p61 : (2 : Int) ^ Int.toNat 61 - 1 = 2305843009213693951 := by decide +kernel
theorem p61n : (2 : Int) ^ Int.toNat 61 - 1 ≠ 0 := by decide +kernel
theorem p61p : (0 : Int) < (2 : Int) ^ Int.toNat 61 - 1 := by decide +kernel
theorem p18n : (10 : Int) ^ Int.toNat 18 + 9 ≠ 0 := by decide +kernel
theorem while_fin {c : TT} {tb : TS} {D : Ends} {σ : St} {H : Hp} (Fin : St → Hp → Prop) (h : ∀ R : St → Hp → Prop, (∀ σ H, Fin σ H → R σ H) → tWhile c tb { D with nx := R } σ H) (hf : ∀ σ H, Fin σ H → D.nx σ H) : tWhile c tb D σ H := h D.nx hf
theorem dps {K : PySem.W.Frag} {H : Hp} : ∀ ds : List Int, DpAll K H (ds.map V.int) (ds.map PyData.int)
  | [] => .nil
  | d :: ds => .cons (.int d) (dps ds)
theorem shaped_ints (ds : List Int) : SeqAt.shaped (.list (ds.map .int)) = true := by
  have h1 : ∀ ds : List Int, PyData.canLayAll0 (ds.map .int) = true := fun ds => by
    induction ds with
    | nil => rfl
    | cons d ds ih => simp only [List.map_cons, PyData.canLayAll0, PyData.canLay0, ih, Bool.and_self]
  have h2 : ∀ ds : List Int, PyData.depthAll (ds.map .int) = 0 := fun ds => by
    induction ds with
    | nil => rfl
    | cons d ds ih => simp [PyData.depthAll, PyData.depth, ih]
  unfold SeqAt.shaped
  simp [PyData.canLay0, PyData.depth, h1, h2]
theorem p18 : (10 : Int) ^ Int.toNat 18 = 1000000000000000000 := by decide +kernel
def TT (K : PySem.W.Frag) (H : Hp) (a : Addr) : Prop := (∃ ys, H a = some (.tup ys)) ∨ (∃ o, K.lookup a = some o ∧ o.cls = .type "tuple") ∨ ∃ o ys, H a = some (.frz o (.tup ys))
mutual
inductive Dq (K : PySem.W.Frag) (H : Hp) : V → PyData → Prop
  | non : Dq K H .non .none
  | bl (b : Bool) : Dq K H (.bl b) (.bool b)
  | int (i : Int) : Dq K H (.int i) (.int i)
  | str (x : Str) : Dq K H (.str x) (.str x)
  | lst {a : Addr} {xs : List V} {ds : List PyData} : H a = some (.lst xs) → DqAll K H xs ds → Dq K H (.ref a) (.list ds)
  | tup {a : Addr} {xs : List V} {ds : List PyData} : TT K H a → SqT K H a xs → DqAll K H xs ds → Dq K H (.ref a) (.tuple ds)
inductive DqAll (K : PySem.W.Frag) (H : Hp) : List V → List PyData → Prop
  | nil : DqAll K H [] []
  | cons {v : V} {vs : List V} {d : PyData} {ds : List PyData} : Dq K H v d → DqAll K H vs ds → DqAll K H (v :: vs) (d :: ds)
end
theorem TT.ty {K : PySem.W.Frag} {H : Hp} {a : Addr} : TT K H a → TyX K H (.ref a) (.type "tuple")
  | .inl ⟨_, h⟩ => .base (.tup h)
  | .inr (.inl ⟨_, h, c⟩) => .kTuple h c
  | .inr (.inr ⟨_, _, h⟩) => .fTuple h
theorem SqT.tt {K : PySem.W.Frag} {H : Hp} {a : Addr} {xs : List V} : SqT K H a xs → TT K H a
  | .inl (.inl h) => .inl ⟨_, h⟩
  | .inl (.inr ⟨_, h⟩) => .inr (.inr ⟨_, _, h⟩)
  | .inr ⟨_, _, _, h, c, _⟩ => .inr (.inl ⟨_, h, c⟩)
theorem TT.same {K : PySem.W.Frag} {H H' : Hp} {a : Addr} (s : Same H H') : TT K H a → TT K H' a
  | .inl ⟨ys, h⟩ => .inl ⟨ys, s _ _ h⟩
  | .inr (.inl h) => .inr (.inl h)
  | .inr (.inr ⟨o, ys, h⟩) => .inr (.inr ⟨o, ys, s _ _ h⟩)
mutual
theorem Dq.same {K : PySem.W.Frag} {H H' : Hp} (s : Same H H') : ∀ {v : V} {d : PyData}, Dq K H v d → Dq K H' v d
  | _, _, .non => .non
  | _, _, .bl b => .bl b
  | _, _, .int i => .int i
  | _, _, .str x => .str x
  | _, _, .lst h t => .lst (s _ _ h) (DqAll.same s t)
  | _, _, .tup h1 h2 t => .tup (h1.same s) (sameT s h2) (DqAll.same s t)
theorem DqAll.same {K : PySem.W.Frag} {H H' : Hp} (s : Same H H') : ∀ {vs : List V} {ds : List PyData}, DqAll K H vs ds → DqAll K H' vs ds
  | _, _, .nil => .nil
  | _, _, .cons h t => .cons (Dq.same s h) (DqAll.same s t)
end
mutual
theorem Dq.dp {K : PySem.W.Frag} {H : Hp} : ∀ {v : V} {d : PyData}, Dq K H v d → Dp K H v d
  | _, _, .non => .non
  | _, _, .bl b => .bl b
  | _, _, .int i => .int i
  | _, _, .str x => .str x
  | _, _, .lst h t => .lst (.inl (.inl h)) (DqAll.dp t)
  | _, _, .tup _ h2 t => .tup h2 (DqAll.dp t)
theorem DqAll.dp {K : PySem.W.Frag} {H : Hp} : ∀ {vs : List V} {ds : List PyData}, DqAll K H vs ds → DpAll K H vs ds
  | _, _, .nil => .nil
  | _, _, .cons h t => .cons (Dq.dp h) (DqAll.dp t)
end
theorem DqAll.len {K : PySem.W.Frag} {H : Hp} : ∀ {vs : List V} {ds : List PyData}, DqAll K H vs ds → vs.length = ds.length
  | _, _, .nil => rfl
  | _, _, .cons _ t => by rw [List.length_cons, List.length_cons, DqAll.len t]
theorem DqAll.get {K : PySem.W.Frag} {H : Hp} : ∀ {vs : List V} {ds : List PyData}, DqAll K H vs ds → ∀ {i : Nat} {d : PyData}, ds[i]? = some d → ∃ v, vs[i]? = some v ∧ Dq K H v d
  | _, _, .nil, i, d, h => by simp at h
  | _, _, .cons h1 t, 0, d, h => by
    have e := Option.some.inj h
    subst e
    exact ⟨_, rfl, h1⟩
  | _, _, .cons h1 t, i + 1, d, h => DqAll.get t (i := i) h
mutual
def wd : PyData → Bool
  | .list xs | .tuple xs => decide (xs.length ≤ 5000) && wdAll xs
  | _ => true
def wdAll : List PyData → Bool
  | [] => true
  | x :: xs => wd x && wdAll xs
end
theorem wd_get : ∀ (xs : List PyData) (i : Nat) (x : PyData), wdAll xs = true → xs[i]? = some x → wd x = true
  | [], i, x, _, h => by simp at h
  | y :: ys, 0, x, h, e => by
    cases Option.some.inj e
    simp only [wdAll, Bool.and_eq_true] at h
    exact h.1
  | y :: ys, i + 1, x, h, e => by
    simp only [wdAll, Bool.and_eq_true] at h
    exact wd_get ys i x h.2 e
theorem depth_mem : ∀ (xs : List PyData) (i : Nat) (x : PyData), xs[i]? = some x → PyData.depth x ≤ PyData.depthAll xs := fun xs i x h => PyData.depth_le_depthAll xs x (List.mem_of_getElem? h)
def rIxA (K : PySem.W.Frag) : R2 := fun x y H Q => rIxL K x y H Q ∨ rIxT K x y H Q
theorem ix_any {X : Cx} {K : PySem.W.Frag} (h : X.K = K) : IxR X (rIxA K) := by
  subst h
  exact ix_list.or ix_tup
theorem ixA {K : PySem.W.Frag} {H H' : Hp} {a : Addr} {xs : List V} {j : Int} {i : Nat} {v : V} {Q : VK} (sm : Same H H') (h : SqL K H a xs ∨ SqT K H a xs) (e : j = i) (hv : xs[i]? = some v) (q : Q v H') : rIxA K (.ref a) (.int j) H' Q := by
  subst e
  rcases h with h | h
  · exact .inl ⟨a, xs, _, v, rfl, rfl, sm.seq h, atI_nat hv, q⟩
  · exact .inr ⟨a, xs, _, v, rfl, rfl, sameT sm h, atI_nat hv, q⟩
theorem ix_l {X : Cx} {K : PySem.W.Frag} (h : X.K = K) : IxR X (rIxL K) := by
  subst h
  exact ix_list
theorem far_sm {far : Int} (h0 : 4 ≤ far) (h : far < 2 ^ 97) : far.natAbs < 2 ^ 4000 := by
  have e : far.natAbs < 2 ^ 97 := by omega
  exact Nat.lt_of_lt_of_le e (Nat.pow_le_pow_right (by decide) (by decide))
def pd (gs : List (Int × Int)) : List PyData := gs.map fun x => .tuple [.int x.1, .int x.2]
theorem Prs.dp {K : PySem.W.Frag} {H : Hp} : ∀ {vs : List V} {gs : List (Int × Int)}, Prs K H vs gs → DpAll K H vs (pd gs)
  | _, _, .nil => .nil
  | _, _, .cons ⟨p, e, h⟩ t => by
    subst e
    exact .cons (.tup (.inl (.inl h)) (.cons (.int _) (.cons (.int _) .nil))) (Prs.dp t)
theorem pd_lay (gs : List (Int × Int)) : PyData.canLayAll0 (pd gs) = true := by
  unfold pd
  induction gs with
  | nil => rfl
  | cons g gs ih => simp only [List.map_cons, PyData.canLayAll0, PyData.canLay0, ih, Bool.and_self]
theorem pd_depth (gs : List (Int × Int)) : PyData.depthAll (pd gs) ≤ 1 := by
  unfold pd
  induction gs with
  | nil => simp [PyData.depthAll]
  | cons g gs ih =>
    simp only [List.map_cons, PyData.depthAll, PyData.depth]
    omega
theorem pd_shaped (gs : List (Int × Int)) : SeqAt.shaped (.list (pd gs)) = true := by
  have := pd_depth gs
  unfold SeqAt.shaped
  simp only [PyData.canLay0, pd_lay, PyData.depth, Bool.true_and]
  exact decide_eq_true (by omega)
theorem gsok_snoc {n : Nat} {gs : List (Int × Int)} {x : Int × Int} (h : GsOk n gs) (hl : ∀ a y, gs = a ++ [y] → y.2 ≠ x.2) (hx : 1 ≤ x.1 ∧ 0 ≤ x.2 ∧ Sm n x.1 ∧ Sm n x.2) : GsOk n (gs ++ [x]) := by
  intro i z hz
  by_cases hi : i < gs.length
  · rw [List.getElem?_append_left hi] at hz
    obtain ⟨h1, h2, h3, h4, h5⟩ := h i z hz
    refine ⟨h1, h2, h3, h4, fun y hy => ?_⟩
    by_cases hj : i + 1 < gs.length
    · rw [List.getElem?_append_left hj] at hy
      exact h5 y hy
    · have e : i + 1 = gs.length := by omega
      rw [e, List.getElem?_append_right (Nat.le_refl _), Nat.sub_self] at hy
      cases Option.some.inj hy
      rcases snoc_or gs with rfl | ⟨a, y', rfl⟩
      · simp at hi
      · have ea : i = a.length := by
          simp at e
          omega
        subst ea
        simp at hz
        subst hz
        exact Ne.symm (hl a y' rfl)
  · have hle : gs.length ≤ i := by omega
    rw [List.getElem?_append_right hle] at hz
    have e : i - gs.length = 0 := by
      have := (List.getElem?_eq_some_iff.mp hz).1
      simp at this
      omega
    rw [e] at hz
    cases Option.some.inj hz
    refine ⟨hx.1, hx.2.1, hx.2.2.1, hx.2.2.2, fun y hy => ?_⟩
    have := (List.getElem?_eq_some_iff.mp hy).1
    simp at this
    omega
def sameEnd (gs : List (Int × Int)) (j : Int) : Bool := match gs.getLast? with
  | some y => decide (y.2 = j)
  | none => false
theorem sameEnd_snoc (a : List (Int × Int)) (y : Int × Int) (j : Int) : sameEnd (a ++ [y]) j = decide (y.2 = j) := by
  unfold sameEnd
  rw [List.getLast?_concat]
theorem if_by {c : L2.TT} {A B : TS} {D : Ends} {σ : St} {H : Hp} (b : Bool) (R : Hp → Prop) (hc : ∀ K : Bool → Hp → Prop, (∀ H1, R H1 → K b H1) → c σ H K) (h : ∀ H1, R H1 → if b = true then A D σ H1 else B D σ H1) : tIfS c A B D σ H := hc _ h
theorem ix_t {X : Cx} {K : PySem.W.Frag} (h : X.K = K) : IxR X (rIxT K) := by
  subst h
  exact ix_tup
theorem gsok_front {n : Nat} {a : List (Int × Int)} {y : Int × Int} (h : GsOk n (a ++ [y])) : GsOk n a ∧ (∀ a' z, a = a' ++ [z] → z.2 ≠ y.2) ∧ 1 ≤ y.1 ∧ 0 ≤ y.2 := by
  refine ⟨fun i x hx => ?_, fun a' z e => ?_, ?_⟩
  · have hi := (List.getElem?_eq_some_iff.mp hx).1
    obtain ⟨h1, h2, h3, h4, h5⟩ := h i x (by rw [List.getElem?_append_left hi]; exact hx)
    refine ⟨h1, h2, h3, h4, fun w hw => ?_⟩
    have hi2 := (List.getElem?_eq_some_iff.mp hw).1
    exact h5 w (by rw [List.getElem?_append_left hi2]; exact hw)
  · subst e
    have := (h a'.length z (by simp)).2.2.2.2 y (by simp)
    exact fun q => this q.symm
  · have := h a.length y (by simp)
    exact ⟨this.1, this.2.1⟩
def MI (n t : Nat) (acc : List (Int × Int)) : Prop := GsOk (n + 11) acc ∧ (∀ x ∈ acc, x.1 ≤ (t : Int) * (2 ^ n : Nat)) ∧ acc.length ≤ t
theorem mi_sm {n t : Nat} {x : Int} (ht : t ≤ 1000) (h0 : 0 ≤ x) (h : x ≤ (t : Int) * (2 ^ n : Nat)) : Sm (n + 11) x := by
  have e : 2 ^ (n + 11) = 2 ^ n * 2048 := Nat.pow_add 2 n 11
  have e2 : (t : Int) * (2 ^ n : Nat) ≤ 1000 * (2 ^ n : Nat) := Int.mul_le_mul_of_nonneg_right (by omega) (Int.natCast_nonneg _)
  have e3 : 0 < 2 ^ n := Nat.two_pow_pos n
  unfold Sm
  rw [e]
  generalize (t : Int) * (2 ^ n : Nat) = T at *
  generalize 2 ^ n = M at *
  omega
theorem mi_step {n t : Nat} (ht : t < 1000) {acc : List (Int × Int)} {x : Int × Int} (h : MI n t acc) (x1 : 1 ≤ x.1) (x2 : Sm n x.1) (x3 : 0 ≤ x.2) (x4 : Sm (n + 1) x.2) : MI n (t + 1) (addTo acc x) := by
  obtain ⟨h1, h2, h3⟩ := h
  have hM : ((t + 1 : Nat) : Int) * (2 ^ n : Nat) = (t : Int) * (2 ^ n : Nat) + (2 ^ n : Nat) := by
    rw [Int.natCast_add, Int.add_mul]
    simp
  have hx : x.1 < (2 ^ n : Nat) := by
    unfold Sm at x2
    omega
  have ht0 : 0 ≤ (t : Int) * (2 ^ n : Nat) := Int.mul_nonneg (by omega) (Int.natCast_nonneg _)
  have up : ∀ y ∈ acc, y.1 ≤ ((t + 1 : Nat) : Int) * (2 ^ n : Nat) := fun y hy => by
    have := h2 y hy
    omega
  have xs : Sm (n + 11) x.1 := x2.mono (by omega)
  rcases snoc_or acc with rfl | ⟨a, y, rfl⟩
  · refine ⟨gsok_snoc (gs := []) (fun i z hz => by simp at hz) (fun a y e => by simp at e) ⟨x1, x3, xs, x4.mono (by omega)⟩, fun y hy => ?_, by show 1 ≤ t + 1; omega⟩
    have hy' : y = x := List.mem_singleton.mp hy
    rw [hy', hM]
    omega
  · rw [addTo_snoc]
    by_cases ey : y.2 = x.2
    · rw [if_pos ey]
      obtain ⟨g1, g2, g3, g4⟩ := gsok_front h1
      have hy1 := h2 y (by simp)
      have hs : y.1 + x.1 ≤ ((t + 1 : Nat) : Int) * (2 ^ n : Nat) := by omega
      refine ⟨gsok_snoc g1 (fun a' z e => by show z.2 ≠ x.2; rw [← ey]; exact g2 a' z e) ⟨by show 1 ≤ y.1 + x.1; omega, x3, mi_sm (t := t + 1) (by omega) (by show 0 ≤ y.1 + x.1; omega) hs, x4.mono (by omega)⟩, fun z hz => ?_, by simp only [List.length_append, List.length_cons, List.length_nil] at h3 ⊢; omega⟩
      rcases List.mem_append.mp hz with q | q
      · exact up z (List.mem_append.mpr (.inl q))
      · rw [List.mem_singleton.mp q]
        exact hs
    · rw [if_neg ey]
      refine ⟨gsok_snoc h1 (fun a' z e => by
        have := (List.append_inj' e rfl).2
        cases this
        exact ey) ⟨x1, x3, xs, x4.mono (by omega)⟩, fun z hz => ?_, by simp only [List.length_append, List.length_cons, List.length_nil] at h3 ⊢; omega⟩
      rcases List.mem_append.mp hz with q | q
      · exact up z q
      · rw [List.mem_singleton.mp q, hM]
        omega
theorem mi_fold {n : Nat} : ∀ (gs acc : List (Int × Int)) (t : Nat), t + gs.length ≤ 1000 → (∀ x ∈ gs, 1 ≤ x.1 ∧ Sm n x.1 ∧ 0 ≤ x.2 ∧ Sm (n + 1) x.2) → MI n t acc → MI n (t + gs.length) (gs.foldl addTo acc)
  | [], acc, t, _, _, h => h
  | g :: gs, acc, t, hl, hg, h => by
    have hl' : t + (gs.length + 1) ≤ 1000 := hl
    obtain ⟨g1, g2, g3, g4⟩ := hg g (List.mem_cons_self ..)
    have e := mi_fold gs (addTo acc g) (t + 1) (by omega) (fun x hx => hg x (List.mem_cons_of_mem _ hx)) (mi_step (by omega) h g1 g2 g3 g4)
    have e2 : t + 1 + gs.length = t + (g :: gs).length := by simp; omega
    rw [e2] at e
    exact e
theorem runAfter_ok {n : Nat} {r : List (Int × Int) × Int} {f : Fm} (h : RnOk n r) (hf : f.Ok n) : RnOk (3 * n + 40) (runAfter r f) := by
  have hu := units_ok (RnOk.sm h) hf
  cases f with
  | keep b a =>
    have m := mi_fold (n := n) (moved (.keep b a) r.1) [] 0 (by unfold moved; rw [List.length_map]; have := h.len; omega) (fun x hx => by
      obtain ⟨y, hy, rfl⟩ := List.mem_map.mp hx
      obtain ⟨i, hi⟩ := List.mem_iff_getElem?.mp hy
      obtain ⟨y1, y2, y3, y4, _⟩ := h.gs i y hi
      have := Fm.after_ok hf y2 y4
      exact ⟨y1, y3, this.1, this.2⟩) ⟨(fun i x hx => by simp at hx), (fun x hx => by cases hx), Nat.le_refl _⟩
    obtain ⟨m1, m2, m3⟩ := m
    refine ⟨fun i x hx => ?_, ⟨h.rest.1, h.rest.2.mono (by omega)⟩, ?_⟩
    · obtain ⟨q1, q2, q3, q4, q5⟩ := m1 i x hx
      exact ⟨q1, q2, q3.mono (by omega), q4.mono (by omega), q5⟩
    · have e : (moved (.keep b a) r.1).length = r.1.length := List.length_map ..
      have := h.len
      show (Lx.merged (moved (.keep b a) r.1)).length ≤ 1000
      unfold Lx.merged
      omega
  | lf b a k c =>
    by_cases z : k * units r (.lf b a k c) = 0
    · rw [show runAfter r (.lf b a k c) = ([], 0) from if_pos z]
      exact ⟨fun i x hx => by simp at hx, ⟨by decide, Nat.two_pow_pos _⟩, Nat.zero_le _⟩
    · rw [show runAfter r (.lf b a k c) = ([(k * units r (.lf b a k c), c)], 0) from if_neg z]
      have hp := Int.mul_nonneg (Int.le_of_lt hf.2.2.1) hu.1
      have hs := hf.2.2.2.2.2.2.1.mul hu.2
      exact ⟨gsok_snoc (gs := []) (fun i x hx => by simp at hx) (fun a y e => by simp at e) ⟨by show 1 ≤ k * units r (.lf b a k c); omega, hf.2.2.2.1, hs.mono (by omega), hf.2.2.2.2.2.2.2.mono (by omega)⟩, ⟨(by decide : (0 : Int) ≤ 0), Nat.two_pow_pos _⟩, by show 1 ≤ 1000; decide⟩
  | cr b a k =>
    have hs := hf.2.2.2.2.2.mul hu.2
    exact ⟨fun i x hx => by simp [runAfter] at hx, ⟨Int.mul_nonneg (Int.le_of_lt hf.2.2.1) hu.1, hs.mono (by omega)⟩, Nat.zero_le _⟩
theorem units_nothing {n : Nat} {r : List (Int × Int) × Int} (h : RnSm n r) : (r.1.map fun x => x.1 * (x.2 + 1)).sum + r.2 = units r nothing := by
  have e : moved nothing r.1 = r.1 := by
    unfold moved
    have : ∀ gs : List (Int × Int), (∀ x ∈ gs, 0 ≤ x.2) → gs.map (fun x => (x.1, nothing.after x.2)) = gs := by
      intro gs
      induction gs with
      | nil => intro _; rfl
      | cons g gs ih =>
        intro hg
        have h0 := hg g (List.mem_cons_self ..)
        have e0 : nothing.after g.2 = g.2 := by
          show (if g.2 - 0 > 0 then g.2 - 0 else 0) + 0 = g.2
          have := pp (g.2 - 0)
          omega
        rw [List.map_cons, ih fun x hx => hg x (List.mem_cons_of_mem _ hx), e0]
    exact this r.1 fun x hx => (h.1 x hx).2.1
  unfold units
  rw [e]
  rfl
def RnS (K : PySem.W.Frag) (H : Hp) (v : V) (l : Addr) (g : List (Int × Int) × Int) : Prop := ∃ p xs, v = .ref p ∧ H p = some (.tup [.ref l, .int g.2]) ∧ H l = some (.lst xs) ∧ Prs K H xs g.1
theorem NewRn.s {K : PySem.W.Frag} {H H' : Hp} {v : V} {g : List (Int × Int) × Int} : NewRn K H H' v g → ∃ l, H l = none ∧ RnS K H' v l g := fun ⟨p, l, xs, h1, h2, h3, h4, h5, h6⟩ => ⟨l, h3, p, xs, h1, h4, h5, h6⟩
theorem RnS.same {K : PySem.W.Frag} {H H' : Hp} {v : V} {l : Addr} {g : List (Int × Int) × Int} (s : Same H H') : RnS K H v l g → RnS K H' v l g := fun ⟨p, xs, h1, h2, h3, h4⟩ => ⟨p, xs, h1, s _ _ h2, s _ _ h3, h4.same s⟩
theorem RnS.rn {K : PySem.W.Frag} {H : Hp} {v : V} {l : Addr} {g : List (Int × Int) × Int} : RnS K H v l g → RnAt K H v l g := fun ⟨p, xs, h1, h2, h3, h4⟩ => ⟨p, h1, .inl (.inl h2), xs, .inl (.inl h3), h4⟩
theorem RnS.upd {K : PySem.W.Frag} {H : Hp} {v : V} {l l2 : Addr} {g : List (Int × Int) × Int} {ys : List V} {o : HO} (e : H l2 = some (.lst ys)) (ne : l ≠ l2) : RnS K H v l g → RnS K (upd H l2 o) v l g :=
  fun ⟨p, xs, h1, h2, h3, h4⟩ => ⟨p, xs, h1, by rw [upd_ne (ne_of h2 e (by intro z; cases z))]; exact h2, by rw [upd_ne ne]; exact h3, Prs.lstUpd e h4⟩
theorem RnS.ne {K : PySem.W.Frag} {H : Hp} {v : V} {l p : Addr} {g : List (Int × Int) × Int} (h : RnS K H v l g) (n : H p = none) : l ≠ p := by
  obtain ⟨_, _, _, _, h3, _⟩ := h
  exact ne_of_none h3 n
def rd (g : List (Int × Int) × Int) : PyData := .tuple [.list (pd g.1), .int g.2]
theorem Prs.dq {K : PySem.W.Frag} {H : Hp} : ∀ {vs : List V} {gs : List (Int × Int)}, Prs K H vs gs → DqAll K H vs (pd gs)
  | _, _, .nil => .nil
  | _, _, .cons ⟨p, e, h⟩ t => by
    subst e
    exact .cons (.tup (.inl ⟨_, h⟩) (.inl (.inl h)) (.cons (.int _) (.cons (.int _) .nil))) (Prs.dq t)
theorem RnS.dq {K : PySem.W.Frag} {H : Hp} {v : V} {l : Addr} {g : List (Int × Int) × Int} : RnS K H v l g → Dq K H v (rd g) := fun ⟨p, xs, h1, h2, h3, h4⟩ => by
  subst h1
  exact .tup (.inl ⟨_, h2⟩) (.inl (.inl h2)) (.cons (.lst h3 (Prs.dq h4)) (.cons (.int _) .nil))
def fdt : Fm → PyData
  | .keep b a => .tuple [.str "keep", .int b, .int a]
  | .lf b a k c => .tuple [.str "lf", .int b, .int a, .int k, .int c]
  | .cr b a k => .tuple [.str "cr", .int b, .int a, .int k]
theorem fm_dq {K : PySem.W.Frag} {H : Hp} {p : Addr} {f : Fm} (h : H p = some (.tup f.vs)) : Dq K H (.ref p) (fdt f) := by
  cases f with
  | keep b a => exact .tup (.inl ⟨_, h⟩) (.inl (.inl h)) (.cons (.str _) (.cons (.int _) (.cons (.int _) .nil)))
  | lf b a k c => exact .tup (.inl ⟨_, h⟩) (.inl (.inl h)) (.cons (.str _) (.cons (.int _) (.cons (.int _) (.cons (.int _) (.cons (.int _) .nil)))))
  | cr b a k => exact .tup (.inl ⟨_, h⟩) (.inl (.inl h)) (.cons (.str _) (.cons (.int _) (.cons (.int _) (.cons (.int _) .nil))))
theorem rd_shaped (g : List (Int × Int) × Int) : SeqAt.shaped (rd g) = true := by
  have := pd_depth g.1
  unfold SeqAt.shaped rd
  simp only [PyData.canLay0, PyData.canLayAll0, pd_lay, PyData.depth, PyData.depthAll, Bool.true_and, Bool.and_true]
  exact decide_eq_true (by omega)
theorem pd_wd (gs : List (Int × Int)) : wdAll (pd gs) = true := by
  unfold pd
  induction gs with
  | nil => rfl
  | cons g gs ih => simp only [List.map_cons, wdAll, wd, ih, Bool.and_true, List.length_cons, List.length_nil, Bool.and_self, decide_true]; exact decide_eq_true (by omega)
theorem rd_wd {g : List (Int × Int) × Int} (h : g.1.length ≤ 1000) : wd (rd g) = true := by
  have e : (pd g.1).length = g.1.length := List.length_map ..
  unfold rd
  simp only [wd, wdAll, pd_wd, List.length_cons, List.length_nil, Bool.and_true]
  rw [decide_eq_true (by omega : (pd g.1).length ≤ 5000)]
  simp
theorem rd_depth (g : List (Int × Int) × Int) : (rd g).depth ≤ 3 := by
  have := pd_depth g.1
  unfold rd
  simp only [PyData.depth, PyData.depthAll]
  omega
def shw (g : List (Int × Int) × Int) (f : Fm) : PyData := .list [rd g, fdt f]
theorem sm400 {x : Int} (h : Sm 100 x) : x.natAbs < 2 ^ 400 := Nat.lt_of_lt_of_le h (Nat.pow_le_pow_right (by decide) (by decide))
theorem pd_small : ∀ (gs : List (Int × Int)), (∀ x ∈ gs, Sm 100 x.1 ∧ Sm 100 x.2) → small.smallAll (pd gs) = true
  | [], _ => rfl
  | g :: gs, h => by
    have h1 := h g (List.mem_cons_self ..)
    have ih := pd_small gs fun x hx => h x (List.mem_cons_of_mem _ hx)
    unfold pd at ih ⊢
    simp only [List.map_cons, small.smallAll, small, ih, Bool.and_true]
    rw [decide_eq_true (sm400 h1.1), decide_eq_true (sm400 h1.2)]
    rfl
theorem pd_bulk (gs : List (Int × Int)) : PyData.bulkAll (pd gs) ≤ 20 * gs.length := by
  unfold pd
  induction gs with
  | nil => exact Nat.le_refl _
  | cons g gs ih =>
    simp only [List.map_cons, PyData.bulkAll, PyData.bulk, List.length_cons]
    omega
theorem fdt_small {f : Fm} (h : f.Ok 100) : small (fdt f) = true := by
  cases f with
  | keep b a =>
    obtain ⟨_, _, h1, h2⟩ := h
    simp only [fdt, small, small.smallAll]
    rw [decide_eq_true (sm400 h1), decide_eq_true (sm400 h2)]
    decide
  | lf b a k c =>
    obtain ⟨_, _, _, _, h1, h2, h3, h4⟩ := h
    simp only [fdt, small, small.smallAll]
    rw [decide_eq_true (sm400 h1), decide_eq_true (sm400 h2), decide_eq_true (sm400 h3), decide_eq_true (sm400 h4)]
    decide
  | cr b a k =>
    obtain ⟨_, _, _, h1, h2, h3⟩ := h
    simp only [fdt, small, small.smallAll]
    rw [decide_eq_true (sm400 h1), decide_eq_true (sm400 h2), decide_eq_true (sm400 h3)]
    decide
theorem shw_fit {g : List (Int × Int) × Int} {f : Fm} (h : RnOk 100 g) (hf : f.Ok 100) : Fit (shw g f) := by
  refine fit_small ?_ ?_ ?_
  · have e1 := pd_small g.1 fun x hx => by
      obtain ⟨i, hi⟩ := List.mem_iff_getElem?.mp hx
      exact ⟨(h.gs i x hi).2.2.1, (h.gs i x hi).2.2.2.1⟩
    unfold shw rd
    simp only [small, small.smallAll, e1, fdt_small hf, Bool.and_true, Bool.true_and]
    exact decide_eq_true (sm400 h.rest.2)
  · have e := rd_depth g
    have e2 : (fdt f).depth ≤ 1 := by cases f <;> simp [fdt, PyData.depth, PyData.depthAll]
    unfold shw
    simp only [PyData.depth, PyData.depthAll]
    omega
  · have e := pd_bulk g.1
    have e2 : (fdt f).bulk ≤ 200 := by cases f <;> (simp [fdt, PyData.bulk, PyData.bulkAll]; decide)
    have e3 := h.len
    unfold shw rd
    simp only [PyData.bulk, PyData.bulkAll]
    omega
/-- a def that is called by its name -/
structure Cl (P : Program) (w : World) (K : PySem.W.Frag) (mg : Str → Option Value) (base : Heap) (k : Nat) (nm : Str) (ps : List Str) (sp : Sp) (f : Addr) (fd : FuncData) : Prop where
  G : FnOk P w K mg base CX0 k f fd ps sp
  kp : PySem.W.keepIn K (.ref f) = true
  b : Binds K fd ps []
  g : mg nm = some (.ref f)
theorem upd_keep {H : Hp} {t l b : Addr} {o1 o2 o : HO} (nt : H t = none) (ne : b ≠ l) (h : H b = some o) : upd (upd H t o1) l o2 b = some o := by
  rw [upd_ne ne, upd_ne (ne_of_none h nt)]
  exact h
end Lw
namespace Lx
open PySem PySem.Spec L2
/-! ### data that repr can write -/
/-- ints below 2 ^ 400, texts of plain signs -/
def smallB (b : Nat) : PyData → Bool
  | .none | .bool _ => true
  | .int i => decide (i.natAbs < 2 ^ b)
  | .str x => x.cps.toList.all fun c => decide (c < 128)
  | .list xs | .tuple xs => smallAll xs
  | .dict _ => false
where smallAll : List PyData → Bool
  | [] => true
  | x :: xs => smallB b x && smallAll xs
theorem intB_log {b : Nat} (h0 : 0 < b) {i : Int} (h : i.natAbs < 2 ^ b) : i.natAbs.log2 < b := PySem.Flt.log2_lt_of h0 h
theorem intB_shown {b : Nat} (h0 : 0 < b) {i : Int} (h : i.natAbs < 2 ^ b) : (PyData.shown (.int i)).length ≤ b + 1 := by
  have e := int_text_length_le (k := b) h0 (intB_log h0 h)
  show (Str.ofString (toString i)).length ≤ b + 1
  rw [ofString_length]
  omega
mutual
theorem smallB_can {b : Nat} (h0 : 0 < b) (h1 : b ≤ 1900) : ∀ d : PyData, smallB b d = true → d.showable = true
  | .none, _ => rfl
  | .bool _, _ => rfl
  | .int i, h => by
    have e := intB_log h0 (of_decide_eq_true (show decide (i.natAbs < 2 ^ b) = true by simpa only [smallB] using h))
    simp only [PyData.showable]
    exact decide_eq_true (by omega)
  | .str _, _ => rfl
  | .list xs, h => by
    simp only [PyData.showable]
    exact smallB_canAll h0 h1 xs (by simpa only [smallB] using h)
  | .tuple xs, h => by
    simp only [PyData.showable]
    exact smallB_canAll h0 h1 xs (by simpa only [smallB] using h)
  | .dict _, h => by simp [smallB] at h
theorem smallB_canAll {b : Nat} (h0 : 0 < b) (h1 : b ≤ 1900) : ∀ xs : List PyData, smallB.smallAll b xs = true → PyData.showableAll xs = true
  | [], _ => rfl
  | x :: xs, h => by
    have h' : smallB b x = true ∧ smallB.smallAll b xs = true := by simpa only [smallB.smallAll, Bool.and_eq_true] using h
    simp only [PyData.showableAll, Bool.and_eq_true]
    exact ⟨smallB_can h0 h1 x h'.1, smallB_canAll h0 h1 xs h'.2⟩
end
mutual
theorem smallB_no {b : Nat} : ∀ d : PyData, smallB b d = true → d.hasDict = false
  | .none, _ => rfl
  | .bool _, _ => rfl
  | .int i, h => rfl
  | .str _, _ => rfl
  | .list xs, h => by
    simp only [PyData.hasDict]
    exact smallB_noAll xs (by simpa only [smallB] using h)
  | .tuple xs, h => by
    simp only [PyData.hasDict]
    exact smallB_noAll xs (by simpa only [smallB] using h)
  | .dict _, h => by simp [smallB] at h
theorem smallB_noAll {b : Nat} : ∀ xs : List PyData, smallB.smallAll b xs = true → PyData.hasDictAll xs = false
  | [], _ => rfl
  | x :: xs, h => by
    have h' : smallB b x = true ∧ smallB.smallAll b xs = true := by simpa only [smallB.smallAll, Bool.and_eq_true] using h
    simp only [PyData.hasDictAll, Bool.or_eq_false_iff]
    exact ⟨smallB_no x h'.1, smallB_noAll xs h'.2⟩
end
mutual
theorem smallB_leaves {b : Nat} (h0 : 0 < b) (h8 : 8 ≤ b) : ∀ d : PyData, smallB b d = true → d.leavesShort (b + 1) = true
  | .none, _ => rfl
  | .bool _, _ => rfl
  | .int i, h => by
    have e := intB_shown h0 (of_decide_eq_true (show decide (i.natAbs < 2 ^ b) = true by simpa only [smallB] using h))
    simp only [PyData.leavesShort]
    exact decide_eq_true e
  | .str x, h => by
    simp only [PyData.leavesShort, List.all_eq_true, decide_eq_true_eq]
    simp only [smallB, List.all_eq_true, decide_eq_true_eq] at h
    intro c hc
    exact Nat.lt_of_lt_of_le (h c hc) (by decide)
  | .list xs, h => by
    simp only [PyData.leavesShort]
    exact smallB_leavesAll h0 h8 xs (by simpa only [smallB] using h)
  | .tuple xs, h => by
    simp only [PyData.leavesShort]
    exact smallB_leavesAll h0 h8 xs (by simpa only [smallB] using h)
  | .dict _, h => by simp [smallB] at h
theorem smallB_leavesAll {b : Nat} (h0 : 0 < b) (h8 : 8 ≤ b) : ∀ xs : List PyData, smallB.smallAll b xs = true → PyData.leavesShortAll (b + 1) xs = true
  | [], _ => rfl
  | x :: xs, h => by
    have h' : smallB b x = true ∧ smallB.smallAll b xs = true := by simpa only [smallB.smallAll, Bool.and_eq_true] using h
    simp only [PyData.leavesShortAll, Bool.and_eq_true]
    exact ⟨smallB_leaves h0 h8 x h'.1, smallB_leavesAll h0 h8 xs h'.2⟩
end
theorem fit_b {b : Nat} {d : PyData} (h8 : 8 ≤ b) (h1 : b ≤ 1900) (h : smallB b d = true) (hd : d.depth ≤ 40) (hb : (b + 3) * d.bulk + (b + 1) ≤ 16777216) : Fit d := by
  refine ⟨smallB_can (by omega) h1 d h, smallB_no d h, hd, ?_⟩
  have e := PyData.shown_le_bulk (b + 1) (by omega) d (smallB_leaves (by omega) h8 d h)
  rw [sizeLine_eq]
  have e2 : (b + 1 + 2) * d.bulk = (b + 3) * d.bulk := rfl
  omega
end Lx
namespace Lw
open PySem PySem.Spec L2 Lx
/-! ### a chain step by step -/
def stepsL (r : List (Int × Int) × Int) (cs : List Nat) : List (Int × Int) × Int := cs.foldl (fun y c => runAfter y (stepF c)) r
theorem stepsL_snoc (r : List (Int × Int) × Int) (cs : List Nat) (c : Nat) : stepsL r (cs ++ [c]) = runAfter (stepsL r cs) (stepF c) := by
  unfold stepsL
  rw [List.foldl_append]
  rfl
theorem stepsL_append (r : List (Int × Int) × Int) (a b : List Nat) : stepsL r (a ++ b) = stepsL (stepsL r a) b := by
  unfold stepsL
  rw [List.foldl_append]
theorem formL_snoc (cs : List Nat) (c : Nat) : formL (cs ++ [c]) = (formL cs).both (stepF c) := by
  unfold formL
  rw [List.foldl_append]
  rfl
theorem merged_ok {n : Nat} (k : Nat) : ∀ gs : List (Int × Int), gs.length = k → GsOk n gs → Lx.merged gs = gs := by
  induction k with
  | zero =>
    intro gs h _
    rw [List.eq_nil_of_length_eq_zero h]
    rfl
  | succ k ih =>
    intro gs h hg
    rcases snoc_or gs with rfl | ⟨a, y, rfl⟩
    · rfl
    · obtain ⟨h1, h2, _⟩ := gsok_front hg
      rw [merged_snoc, ih a (by simpa using h) h1]
      rcases snoc_or a with rfl | ⟨b, z, rfl⟩
      · rfl
      · rw [addTo_snoc, if_neg (h2 b z rfl)]
theorem after_nothing {j : Int} (h : 0 ≤ j) : nothing.after j = j := by
  show (if j - 0 > 0 then j - 0 else 0) + 0 = j
  have := pp (j - 0)
  omega
theorem moved_nothing {gs : List (Int × Int)} (h : ∀ x ∈ gs, 0 ≤ x.2) : moved nothing gs = gs := by
  unfold moved
  induction gs with
  | nil => rfl
  | cons g gs ih =>
    rw [List.map_cons, ih fun x hx => h x (List.mem_cons_of_mem _ hx), after_nothing (h g (List.mem_cons_self ..))]
theorem runAfter_nothing {n : Nat} {r : List (Int × Int) × Int} (h : RnOk n r) : runAfter r nothing = r := by
  show (Lx.merged (moved nothing r.1), r.2) = r
  rw [moved_nothing (fun x hx => ((RnOk.sm h).1 x hx).2.1), merged_ok _ r.1 rfl h.gs]
theorem conv_form {n : Nat} {r : List (Int × Int) × Int} (h : RnOk n r) (k : Nat) : ∀ cs : List Nat, cs.length = k → runAfter r (formL cs) = stepsL r cs := by
  induction k with
  | zero =>
    intro cs e
    rw [List.eq_nil_of_length_eq_zero e]
    exact runAfter_nothing h
  | succ k ih =>
    intro cs e
    rcases snoc_or cs with rfl | ⟨a, c, rfl⟩
    · exact runAfter_nothing h
    · rw [formL_snoc, ← runAfter_both, ih a (by simpa using e), stepsL_snoc]
theorem conv_of {n : Nat} {r : List (Int × Int) × Int} (h : RnOk n r) (x : Str) : runAfter r (formOf x) = stepsL r x.cps.toList := conv_form h _ _ rfl
/-! ### forms of short chains -/
def FLs (L : Nat) : Fm → Prop
  | .keep b a => 0 ≤ b ∧ b ≤ L ∧ 0 ≤ a ∧ a ≤ L
  | .lf b a k c => 0 ≤ b ∧ b ≤ L ∧ 0 ≤ a ∧ a ≤ L ∧ 0 < k ∧ Sm (6 * L + 1) k ∧ 0 ≤ c ∧ c ≤ L
  | .cr b a k => 0 ≤ b ∧ b ≤ L ∧ 0 ≤ a ∧ a ≤ L ∧ 0 < k ∧ Sm (6 * L + 1) k
theorem sms_le {L : Nat} {x : Int} (h0 : 0 ≤ x) (h : x ≤ L) : Sm (6 * L + 1) x := by
  have h1 : L < 2 ^ L := Nat.lt_two_pow_self
  have h2 : 2 ^ L ≤ 2 ^ (6 * L + 1) := Nat.pow_le_pow_right (by decide) (by omega)
  unfold Sm
  omega
theorem FLs.ok {L : Nat} : ∀ {f : Fm}, FLs L f → f.Ok (6 * L + 1)
  | .keep _ _, ⟨h1, h2, h3, h4⟩ => ⟨h1, h3, sms_le h1 h2, sms_le h3 h4⟩
  | .lf _ _ _ _, ⟨h1, h2, h3, h4, h5, h6, h7, h8⟩ => ⟨h1, h3, h5, h7, sms_le h1 h2, sms_le h3 h4, h6, sms_le h7 h8⟩
  | .cr _ _ _, ⟨h1, h2, h3, h4, h5, h6⟩ => ⟨h1, h3, h5, sms_le h1 h2, sms_le h3 h4, h6⟩
theorem sms_mul {L : Nat} {k x : Int} (hk : Sm (6 * L + 1) k) (h0 : 0 ≤ x) (h : x < 64) : Sm (6 * (L + 1) + 1) (k * x * 1) := by
  have e : Sm 6 x := by
    unfold Sm
    have : (2 : Nat) ^ 6 = 64 := by decide
    omega
  rw [Int.mul_one]
  exact (hk.mul e).mono (by omega)
theorem sms_up {L : Nat} {k : Int} (hk : Sm (6 * L + 1) k) : Sm (6 * (L + 1) + 1) k := hk.mono (by omega)
theorem FLs.step {L : Nat} (hL : L ≤ 60) {c : Nat} (hc : c ∈ steps.cps.toList) {f : Fm} (h : FLs L f) : FLs (L + 1) (f.both (stepF c)) := by
  cases f with
  | keep b a =>
    obtain ⟨h1, h2, h3, h4⟩ := h
    have p1 := pp (0 - a)
    have p2 := pp (a - 0)
    have p3 := pp (1 - a)
    have p4 := pp (a - 1)
    have one : Sm (6 * (L + 1) + 1) 1 := sms_le (L := L + 1) (by decide) (by omega)
    rcases step_cases hc with e | e | e | e <;> rw [e] <;> simp only [Fm.both, Fm.ahead, Fm.b, Fm.a, FLs]
    · exact ⟨by omega, by omega, by omega, by omega⟩
    · exact ⟨by omega, by omega, by omega, by omega⟩
    · exact ⟨by omega, by omega, by omega, by omega, by decide, one, by decide, by omega⟩
    · exact ⟨by omega, by omega, by omega, by omega, by decide, one⟩
  | lf b a k d =>
    obtain ⟨h1, h2, h3, h4, h5, h6, h7, h8⟩ := h
    have p1 := pp (d - 0)
    have p2 := pp (d - 1)
    rcases step_cases hc with e | e | e | e <;> rw [e] <;> simp only [Fm.both, Fm.after, Fm.b, Fm.a, FLs]
    · exact ⟨h1, by omega, h3, by omega, h5, sms_up h6, by omega, by omega⟩
    · exact ⟨h1, by omega, h3, by omega, h5, sms_up h6, by omega, by omega⟩
    · refine ⟨h1, by omega, h3, by omega, ?_, sms_mul h6 (by omega) (by omega), by decide, by omega⟩
      rw [Int.mul_one]
      exact Int.mul_pos h5 (by omega)
    · refine ⟨h1, by omega, h3, by omega, ?_, sms_mul h6 (by omega) (by omega)⟩
      rw [Int.mul_one]
      exact Int.mul_pos h5 (by omega)
  | cr b a k =>
    obtain ⟨h1, h2, h3, h4, h5, h6⟩ := h
    rcases step_cases hc with e | e | e | e <;> rw [e] <;> simp only [Fm.both, FLs, Int.mul_one]
    · exact ⟨h1, by omega, h3, by omega, h5, sms_up h6⟩
    · exact ⟨h1, by omega, h3, by omega, h5, sms_up h6⟩
    · exact ⟨h1, by omega, h3, by omega, h5, sms_up h6, by decide, by omega⟩
    · exact ⟨h1, by omega, h3, by omega, h5, sms_up h6⟩
theorem formL_fls (k : Nat) : ∀ cs : List Nat, cs.length = k → k ≤ 61 → (∀ c ∈ cs, c ∈ steps.cps.toList) → FLs k (formL cs) := by
  induction k with
  | zero =>
    intro cs h _ _
    rw [List.eq_nil_of_length_eq_zero h]
    exact ⟨by decide, by decide, by decide, by decide⟩
  | succ k ih =>
    intro cs h hk hc
    rcases snoc_or cs with rfl | ⟨a, c, rfl⟩
    · simp at h
    · rw [formL_snoc]
      exact (ih a (by simpa using h) (by omega) fun d hd => hc d (List.mem_append.mpr (.inl hd))).step (by omega) (hc c (by simp))
/-! ### lengths -/
theorem addTo_len (a : List (Int × Int)) (x : Int × Int) : (addTo a x).length ≤ a.length + 1 := by
  rcases snoc_or a with rfl | ⟨b, y, rfl⟩
  · exact Nat.le_refl _
  · rw [addTo_snoc]
    split <;> simp
theorem fold_len : ∀ (gs acc : List (Int × Int)), (gs.foldl addTo acc).length ≤ acc.length + gs.length
  | [], acc => Nat.le_refl _
  | g :: gs, acc => by
    have h1 := fold_len gs (addTo acc g)
    have h2 := addTo_len acc g
    rw [List.foldl_cons, List.length_cons]
    omega
theorem runAfter_len (r : List (Int × Int) × Int) (f : Fm) : (runAfter r f).1.length ≤ max r.1.length 1 := by
  cases f with
  | keep b a =>
    have := fold_len (moved (.keep b a) r.1) []
    have e : (moved (.keep b a) r.1).length = r.1.length := List.length_map ..
    show (Lx.merged (moved (.keep b a) r.1)).length ≤ _
    unfold Lx.merged
    rw [e] at this
    simp at this
    omega
  | lf b a k c =>
    show (if k * units r (.lf b a k c) = 0 then (([] : List (Int × Int)), (0 : Int)) else ([(k * units r (.lf b a k c), c)], 0)).1.length ≤ _
    split
    · exact Nat.zero_le _
    · exact Nat.le_max_right ..
  | cr b a k => exact Nat.zero_le _
theorem _root_.Lx.RnOk.mono {n m : Nat} {r : List (Int × Int) × Int} (h : RnOk n r) (k : n ≤ m) : RnOk m r :=
  ⟨fun i x hx => let ⟨h1, h2, h3, h4, h5⟩ := h.gs i x hx; ⟨h1, h2, h3.mono k, h4.mono k, h5⟩, ⟨h.rest.1, h.rest.2.mono k⟩, h.len⟩
/-- a chain of at most sixty steps from a run with numbers below 2 ^ 361 -/
theorem stepsL_ok {n : Nat} {r : List (Int × Int) × Int} (h : RnOk n r) (hn : n ≤ 361) {cs : List Nat} (hl : cs.length ≤ 60) (hc : ∀ c ∈ cs, c ∈ steps.cps.toList) : RnOk 1123 (stepsL r cs) ∧ (stepsL r cs).1.length ≤ max r.1.length 1 := by
  rw [← conv_form h _ cs rfl]
  have f := (formL_fls _ cs rfl (by omega) hc).ok
  exact ⟨runAfter_ok (h.mono hn) (f.mono (by omega)), runAfter_len r _⟩
/-! ### runs that repr can write -/
theorem pd_smallB {b : Nat} : ∀ (gs : List (Int × Int)), (∀ x ∈ gs, Sm b x.1 ∧ Sm b x.2) → smallB.smallAll b (pd gs) = true
  | [], _ => rfl
  | g :: gs, h => by
    have h1 := h g (List.mem_cons_self ..)
    have ih := pd_smallB gs fun x hx => h x (List.mem_cons_of_mem _ hx)
    unfold pd at ih ⊢
    simp only [List.map_cons, smallB.smallAll, smallB, ih, Bool.and_true]
    rw [decide_eq_true (show g.1.natAbs < 2 ^ b from h1.1), decide_eq_true (show g.2.natAbs < 2 ^ b from h1.2)]
    rfl
theorem rd_smallB {b : Nat} {g : List (Int × Int) × Int} (h : RnOk b g) : smallB b (rd g) = true := by
  have e1 := pd_smallB (b := b) g.1 fun x hx => by
    obtain ⟨i, hi⟩ := List.mem_iff_getElem?.mp hx
    exact ⟨(h.gs i x hi).2.2.1, (h.gs i x hi).2.2.2.1⟩
  unfold rd
  simp only [smallB, smallB.smallAll, e1, Bool.and_true, Bool.true_and]
  exact decide_eq_true h.rest.2
theorem pd_bulk3 (gs : List (Int × Int)) : PyData.bulkAll (pd gs) = 3 * gs.length := by
  unfold pd
  induction gs with
  | nil => rfl
  | cons g gs ih =>
    simp only [List.map_cons, PyData.bulkAll, PyData.bulk, List.length_cons]
    omega
theorem rd_bulk (g : List (Int × Int) × Int) : (rd g).bulk = 3 * g.1.length + 2 := by
  have e := pd_bulk3 g.1
  unfold rd
  simp only [PyData.bulk, PyData.bulkAll]
  omega
theorem rd_fit {g : List (Int × Int) × Int} (h : RnOk 1123 g) (hl : g.1.length ≤ 1000) : Fit (rd g) := by
  have e := rd_bulk g
  have e2 := rd_depth g
  exact fit_b (b := 1123) (by decide) (by decide) (rd_smallB h) (by omega) (by omega)
theorem rd2_fit {g h : List (Int × Int) × Int} (h1 : RnOk 1123 g) (h2 : RnOk 1123 h) (hl : g.1.length ≤ 1000) (hl2 : h.1.length ≤ 1000) : Fit (.list [rd g, rd h]) := by
  have e := rd_bulk g
  have e' := rd_bulk h
  have e2 := rd_depth g
  have e2' := rd_depth h
  refine fit_b (b := 1123) (by decide) (by decide) ?_ ?_ ?_
  · simp only [smallB, smallB.smallAll, rd_smallB h1, rd_smallB h2, Bool.and_true]
  · simp only [PyData.depth, PyData.depthAll]
    omega
  · simp only [PyData.bulk, PyData.bulkAll]
    omega
theorem int_fit {x : Int} (h : Sm 1900 x) : Fit (.int x) := by
  refine fit_b (b := 1900) (by decide) (by decide) ?_ (by simp [PyData.depth]) (by simp [PyData.bulk])
  simp only [smallB]
  exact decide_eq_true h
end Lw
namespace Lw
open PySem PySem.Spec L2 Lx
theorem cutS_head (z : Str) (k : Nat) (h : k ≤ z.cps.size) : (cutS z none (some (k : Int))).cps.toList = z.cps.toList.take k := by
  unfold cutS
  have e : z.length = z.cps.size := rfl
  rw [e, HT.sIx_none, HT.sIx_nat, Nat.min_eq_left h]
  simp
theorem cutS_tail (z : Str) (k : Nat) (h : k ≤ z.cps.size) : (cutS z (some (k : Int)) none).cps.toList = z.cps.toList.drop k := by
  unfold cutS
  have e : z.length = z.cps.size := rfl
  rw [e, HT.sIx_none, HT.sIx_nat, Nat.min_eq_left h]
  simp
  exact List.take_of_length_le (by simp)
end Lw
namespace Lw
open PySem PySem.Spec L2 Lx
theorem units_size {g : List (Int × Int) × Int} {f : Fm} (h : RnOk 361 g) (hf : f.Ok 361) : Sm 1600 (units (runAfter g f) nothing) := by
  have hu := units_ok (RnOk.sm h) hf
  cases f with
  | keep b a =>
    rw [units_both]
    have e : (Fm.keep b a).both nothing = .keep b a := by
      have p1 := pp (0 - a)
      have p2 := pp (a - 0)
      have ha := hf.2.1
      show Fm.keep (b + (if 0 - a > 0 then 0 - a else 0)) ((if a - 0 > 0 then a - 0 else 0) + 0) = _
      congr 1 <;> omega
    rw [e]
    exact hu.2.mono (by decide)
  | lf b a k c =>
    by_cases z : k * units g (.lf b a k c) = 0
    · rw [show runAfter g (.lf b a k c) = ([], 0) from if_pos z]
      exact Nat.two_pow_pos _
    · rw [show runAfter g (.lf b a k c) = ([(k * units g (.lf b a k c), c)], 0) from if_neg z, units_one, after_nothing hf.2.2.2.1]
      have h1 := hf.2.2.2.2.2.2.1.mul hu.2
      have h2 : Sm 362 (c + 1) := hf.2.2.2.2.2.2.2.add (Nat.lt_of_lt_of_le (by decide : (1 : Int).natAbs < 2 ^ 1) (Nat.pow_le_pow_right (by decide) (by decide)))
      exact (h1.mul h2).mono (by decide)
  | cr b a k =>
    show Sm 1600 (units ([], k * units g (.cr b a k)) nothing)
    rw [units_none]
    exact (hf.2.2.2.2.2.mul hu.2).mono (by decide)
theorem stepsL_units {n : Nat} {r : List (Int × Int) × Int} (h : RnOk n r) (hn : n ≤ 361) {cs : List Nat} (hl : cs.length ≤ 60) (hc : ∀ c ∈ cs, c ∈ steps.cps.toList) : Sm 1900 (units (stepsL r cs) nothing) := by
  rw [← conv_form h _ cs rfl]
  have f := (formL_fls _ cs rfl (by omega) hc).ok
  exact (units_size (h.mono hn) (f.mono (by omega))).mono (by decide)
end Lw
namespace Lw
open PySem PySem.Spec L2 Lx
/-! ### a dict of draws -/
abbrev bagK (g : Addr) (l t b : Int) : List (Key × V) := [(.inr "great", .ref g), (.inr "left", .int l), (.inr "turn", .int t), (.inr "blend", .int b)]
theorem bag_put_left {g : Addr} {l t b x : Int} : putK (bagK g l t b) (.inr "left") (.int x) = bagK g x t b := by rfl
theorem bag_put_turn {g : Addr} {l t b x : Int} : putK (bagK g l t b) (.inr "turn") (.int x) = bagK g l x b := by rfl
theorem bag_great {g : Addr} {l t b : Int} : valV (bagK g l t b) (.inr "great") = some (.ref g) := by rfl
theorem bag_left {g : Addr} {l t b : Int} : valV (bagK g l t b) (.inr "left") = some (.int l) := by rfl
theorem bag_turn {g : Addr} {l t b : Int} : valV (bagK g l t b) (.inr "turn") = some (.int t) := by rfl
theorem bag_blend {g : Addr} {l t b : Int} : valV (bagK g l t b) (.inr "blend") = some (.int b) := by rfl
def BagAt (H : Hp) (r gl : Addr) (n : Nat) : Prop := ∃ (ds : List Int) (l t b : Int), H r = some (.dK (bagK gl l t b)) ∧ H gl = some (.lst (ds.map V.int)) ∧ (∀ d ∈ ds, 0 ≤ d) ∧ 0 ≤ l ∧ 0 ≤ t ∧ t ≤ n ∧ 0 ≤ b ∧ b < 2305843009213693952 ∧ r ≠ gl
theorem bag_get {H : Hp} {r gl : Addr} {l t b : Int} {k : Str} {v : V} (h : H r = some (.dK (bagK gl l t b))) (e : valV (bagK gl l t b) (.inr k) = some v) : DGet H r (.str k) (some v) := .inl ⟨_, .inr k, .inl h, rfl, e.symm⟩
/-- all but two addresses is as it was -/
def Kb (r gl : Addr) (H H' : Hp) : Prop := ∀ b o, b ≠ r → b ≠ gl → H b = some o → H' b = some o
theorem Kb.refl (r gl : Addr) (H : Hp) : Kb r gl H H := fun _ _ _ _ h => h
theorem Kb.trans {r gl : Addr} {H H1 H2 : Hp} (a : Kb r gl H H1) (b : Kb r gl H1 H2) : Kb r gl H H2 := fun c o h1 h2 h => b c o h1 h2 (a c o h1 h2 h)
theorem Kb.of {r gl : Addr} {H H' : Hp} (s : Same H H') : Kb r gl H H' := fun b o _ _ h => s b o h
theorem Kb.upd_r {r gl : Addr} {H : Hp} {o : HO} : Kb r gl H (upd H r o) := fun b u h1 h2 h => by rw [upd_ne h1]; exact h
theorem Kb.upd_g {r gl : Addr} {H : Hp} {o : HO} : Kb r gl H (upd H gl o) := fun b u h1 h2 h => by rw [upd_ne h2]; exact h
theorem Kb.own {r gl p : Addr} {H H' : Hp} {o : HO} (k : Kb r gl H H') (h : H p = none) : Kb r gl H (upd H' p o) := fun b u h1 h2 e => by
  rw [upd_ne (ne_of_none e h)]
  exact k b u h1 h2 e
theorem BagAt.same {H H' : Hp} {r gl : Addr} {n : Nat} (s : Same H H') : BagAt H r gl n → BagAt H' r gl n := fun ⟨ds, l, t, b, h1, h2, h3⟩ => ⟨ds, l, t, b, s _ _ h1, s _ _ h2, h3⟩
theorem BagAt.mono {H : Hp} {r gl : Addr} {n m : Nat} (k : n ≤ m) : BagAt H r gl n → BagAt H r gl m := fun ⟨ds, l, t, b, h1, h2, h3, h4, h5, h6, h7⟩ => ⟨ds, l, t, b, h1, h2, h3, h4, h5, by omega, h7⟩
theorem BagAt.ne {H : Hp} {r gl p : Addr} {n : Nat} (s : BagAt H r gl n) (h : H p = none) : p ≠ r ∧ p ≠ gl := by
  obtain ⟨_, _, _, _, q1, q2, _⟩ := s
  exact ⟨Ne.symm (ne_of_none q1 h), Ne.symm (ne_of_none q2 h)⟩
theorem BagAt.neT {H : Hp} {r gl p : Addr} {n : Nat} {xs : List V} (s : BagAt H r gl n) (h : H p = some (.tup xs)) : p ≠ r ∧ p ≠ gl := by
  obtain ⟨_, _, _, _, q1, q2, _⟩ := s
  exact ⟨ne_of h q1 (by intro z; cases z), ne_of h q2 (by intro z; cases z)⟩
theorem BagAt.own {H : Hp} {r gl p : Addr} {n : Nat} {o : HO} (s : BagAt H r gl n) (ne : p ≠ r ∧ p ≠ gl) : BagAt (upd H p o) r gl n := by
  obtain ⟨ds, l, t, b, h1, h2, h3⟩ := s
  exact ⟨ds, l, t, b, by rw [upd_ne (Ne.symm ne.1)]; exact h1, by rw [upd_ne (Ne.symm ne.2)]; exact h2, h3⟩
theorem Kb.free {r gl : Addr} {H H' : Hp} {n : Nat} (k : Kb r gl H H') (s : BagAt H' r gl n) {p : Addr} (h : H' p = none) : H p = none := by
  cases e : H p with
  | none => rfl
  | some o =>
    have := k p o (s.ne h).1 (s.ne h).2 e
    rw [h] at this
    cases this
theorem Prs.kb {K : PySem.W.Frag} {H H' : Hp} {r gl : Addr} {n : Nat} (s : BagAt H r gl n) (k : Kb r gl H H') : ∀ {vs : List V} {gs : List (Int × Int)}, Prs K H vs gs → Prs K H' vs gs
  | _, _, .nil => .nil
  | _, _, .cons ⟨p, e, h⟩ t => .cons ⟨p, e, k _ _ (s.neT h).1 (s.neT h).2 h⟩ (Prs.kb s k t)
theorem RnS.kb {K : PySem.W.Frag} {H H' : Hp} {v : V} {l r gl : Addr} {n : Nat} {g : List (Int × Int) × Int} (s : BagAt H r gl n) (k : Kb r gl H H') (ne : l ≠ r ∧ l ≠ gl) : RnS K H v l g → RnS K H' v l g :=
  fun ⟨p, xs, h1, h2, h3, h4⟩ => ⟨p, xs, h1, k _ _ (s.neT h2).1 (s.neT h2).2 h2, k _ _ ne.1 ne.2 h3, Prs.kb s k h4⟩
theorem if_fin {c : L2.TT} {A B : TS} {D : Ends} {σ : St} {H : Hp} (Fin : St → Hp → Prop) (h : ∀ R : St → Hp → Prop, (∀ σ H, Fin σ H → R σ H) → tIfS c A B { D with nx := R } σ H) (hf : ∀ σ H, Fin σ H → D.nx σ H) : tIfS c A B D σ H := h D.nx hf
/-! ### groups of which some may be empty, put together -/
/-- numbers that can be reckoned with -/
def GsSm (n : Nat) (gs : List (Int × Int)) : Prop := ∀ x ∈ gs, 0 ≤ x.1 ∧ 0 ≤ x.2 ∧ Sm n x.1 ∧ Sm n x.2
def reduced (gs : List (Int × Int)) : List (Int × Int) := Lx.merged (gs.filter fun x => decide (x.1 > 0))
theorem reduced_take {gs : List (Int × Int)} {i : Nat} {x : Int × Int} (h : gs[i]? = some x) : reduced (gs.take (i + 1)) = if x.1 > 0 then addTo (reduced (gs.take i)) x else reduced (gs.take i) := by
  unfold reduced
  rw [List.take_succ, h, List.filter_append]
  by_cases hx : x.1 > 0
  · have e : List.filter (fun x : Int × Int => decide (x.1 > 0)) (some x).toList = [x] := by simp [hx]
    rw [if_pos hx, e]
    unfold Lx.merged
    rw [List.foldl_append]
    rfl
  · have e : List.filter (fun x : Int × Int => decide (x.1 > 0)) (some x).toList = [] := by simp [hx]
    rw [if_neg hx, e, List.append_nil]
theorem reduced_all {gs : List (Int × Int)} (h : ∀ x ∈ gs, x.1 > 0) : reduced gs = Lx.merged gs := by
  unfold reduced
  rw [List.filter_eq_self.mpr fun x hx => decide_eq_true (h x hx)]
theorem reduced_ok {n : Nat} {gs : List (Int × Int)} (h : GsSm n gs) (hl : gs.length ≤ 1000) : GsOk (n + 11) (reduced gs) ∧ (reduced gs).length ≤ gs.length := by
  have hf : (gs.filter fun x => decide (x.1 > 0)).length ≤ gs.length := List.length_filter_le ..
  have m := mi_fold (n := n) (gs.filter fun x => decide (x.1 > 0)) [] 0 (by omega) (fun x hx => by
    obtain ⟨h1, h2⟩ := List.mem_filter.mp hx
    have h2 := of_decide_eq_true h2
    obtain ⟨q1, q2, q3, q4⟩ := h x h1
    exact ⟨by omega, q3, q2, q4.mono (by omega)⟩) ⟨(fun i x hx => by simp at hx), (fun x hx => by cases hx), Nat.le_refl _⟩
  obtain ⟨m1, m2, m3⟩ := m
  refine ⟨m1, ?_⟩
  have : (reduced gs).length ≤ 0 + (gs.filter fun x => decide (x.1 > 0)).length := m3
  omega
end Lw
namespace Lw
open PySem PySem.Spec L2 Lx
theorem wh3 : ∀ f : Fm, ¬ (HT.sIx f.vs.length 0 (some 3) = 0 ∧ HT.sIx f.vs.length f.vs.length none = f.vs.length)
  | .keep _ _ => show ¬ (HT.sIx 3 0 (some 3) = 0 ∧ HT.sIx 3 3 none = 3) by decide
  | .lf _ _ _ _ => show ¬ (HT.sIx 5 0 (some 3) = 0 ∧ HT.sIx 5 5 none = 5) by decide
  | .cr _ _ _ => show ¬ (HT.sIx 4 0 (some 3) = 0 ∧ HT.sIx 4 4 none = 4) by decide
theorem vs_len : ∀ f : Fm, f.vs.length ≤ 5
  | .keep _ _ => by show 3 ≤ 5; decide
  | .lf _ _ _ _ => Nat.le_refl 5
  | .cr _ _ _ => by show 4 ≤ 5; decide
def Fm.isKeep : Fm → Bool
  | .keep _ _ => true
  | _ => false
/-- units of one unit -/
def Fm.one : Fm → Fm → Int
  | .lf _ _ _ c, g => g.after c + 1
  | _, _ => 1
theorem nk_k {f : Fm} (h : Fm.isKeep f = false) : ∃ k, f.vs[3]? = some (.int k) := by
  cases f with
  | keep _ _ => cases h
  | lf _ _ k _ => exact ⟨k, rfl⟩
  | cr _ _ k => exact ⟨k, rfl⟩
theorem nk_ok {f : Fm} {n : Nat} {k : Int} (h : Fm.isKeep f = false) (o : f.Ok n) (e : f.vs[3]? = some (.int k)) : 0 < k ∧ Sm n k := by
  cases f with
  | keep _ _ => cases h
  | lf _ _ _ _ => cases e; exact ⟨o.2.2.1, o.2.2.2.2.2.2.1⟩
  | cr _ _ _ => cases e; exact ⟨o.2.2.1, o.2.2.2.2.2⟩
theorem nk_pos {f : Fm} {n : Nat} (h : Fm.isKeep f = false) (o : f.Ok n) : 0 < n := by
  obtain ⟨k, e⟩ := nk_k h
  have h1 := nk_ok h o e
  have h2 : k.natAbs < 2 ^ n := h1.2
  have h3 := h1.1
  rcases Nat.eq_zero_or_pos n with z | z
  · subst z
    omega
  · exact z
theorem one_ok {f g : Fm} {n : Nat} (h : Fm.isKeep f = false) (o : f.Ok n) (og : g.Ok n) : 0 < Fm.one f g ∧ Sm (n + 2) (Fm.one f g) := by
  have h4 : 2 ^ 2 ≤ 2 ^ (n + 2) := Nat.pow_le_pow_right (by decide) (by omega)
  cases f with
  | keep _ _ => cases h
  | lf b a k c =>
    have e := Fm.after_ok og o.2.2.2.1 o.2.2.2.2.2.2.2
    have e2 : 2 ^ (n + 2) = 2 ^ (n + 1) * 2 := Nat.pow_succ 2 (n + 1)
    have e3 : (g.after c).natAbs < 2 ^ (n + 1) := e.2
    have e4 := e.1
    have e5 : 1 ≤ 2 ^ (n + 1) := Nat.one_le_two_pow
    refine ⟨by show 0 < g.after c + 1; omega, ?_⟩
    show (g.after c + 1).natAbs < 2 ^ (n + 2)
    rw [e2]
    generalize 2 ^ (n + 1) = M at *
    omega
  | cr _ _ _ => exact ⟨(by decide : (0 : Int) < 1), Nat.lt_of_lt_of_le (by decide : (1 : Int).natAbs < 2 ^ 2) h4⟩
theorem wh4 : ∀ f : Fm, ¬ (HT.sIx f.vs.length 0 (some 4) = 0 ∧ HT.sIx f.vs.length f.vs.length none = f.vs.length)
  | .keep _ _ => show ¬ (HT.sIx 3 0 (some 4) = 0 ∧ HT.sIx 3 3 none = 3) by decide
  | .lf _ _ _ _ => show ¬ (HT.sIx 5 0 (some 4) = 0 ∧ HT.sIx 5 5 none = 5) by decide
  | .cr _ _ _ => show ¬ (HT.sIx 4 0 (some 4) = 0 ∧ HT.sIx 4 4 none = 4) by decide
/-- the run that a form which keeps no groups makes of so many units -/
def ofUnits (t : Int) : Fm → List (Int × Int) × Int
  | .keep _ _ => ([], 0)
  | .lf _ _ k c => if k * t = 0 then ([], 0) else ([(k * t, c)], 0)
  | .cr _ _ k => ([], k * t)
theorem runAfter_units {r : List (Int × Int) × Int} {f : Fm} (h : Fm.isKeep f = false) : runAfter r f = ofUnits (units r f) f := by
  cases f with
  | keep _ _ => cases h
  | lf _ _ _ _ => rfl
  | cr _ _ _ => rfl
/-- the lengths of forms by their words -/
structure LenT (K : PySem.W.Frag) (w : World) (mg : Str → Option Value) (aL : Addr) : Prop where
  g : mg "FORM_LENGTHS" = some (.ref aL)
  d : ∃ es n, KDict K w aL es n
  keep : ∃ t, PySem.W.nsIn K aL "keep" = some (some (.int 3 t))
  lf : ∃ t, PySem.W.nsIn K aL "lf" = some (some (.int 5 t))
  cr : ∃ t, PySem.W.nsIn K aL "cr" = some (some (.int 4 t))
theorem LenT.at {K : PySem.W.Frag} {w : World} {mg : Str → Option Value} {aL : Addr} (T : LenT K w mg aL) : ∀ f : Fm, ∃ t, PySem.W.nsIn K aL f.nm = some (some (.int f.vs.length t))
  | .keep _ _ => T.keep
  | .lf _ _ _ _ => T.lf
  | .cr _ _ _ => T.cr
theorem cut1 (f : Fm) : cutV f.vs (some 1) none = f.nums.map V.int := by cases f <;> rfl
theorem wh : ∀ f : Fm, ¬ (HT.sIx f.vs.length 0 (some 1) = 0 ∧ HT.sIx f.vs.length f.vs.length none = f.vs.length)
  | .keep _ _ => show ¬ (HT.sIx 3 0 (some 1) = 0 ∧ HT.sIx 3 3 none = 3) by decide
  | .lf _ _ _ _ => show ¬ (HT.sIx 5 0 (some 1) = 0 ∧ HT.sIx 5 5 none = 5) by decide
  | .cr _ _ _ => show ¬ (HT.sIx 4 0 (some 1) = 0 ∧ HT.sIx 4 4 none = 4) by decide
theorem np : ∀ f : Fm, 0 < f.nums.length
  | .keep _ _ => Nat.succ_pos _
  | .lf _ _ _ _ => Nat.succ_pos _
  | .cr _ _ _ => Nat.succ_pos _
theorem nums0 {f : Fm} {n : Nat} (h : f.Ok n) : ∀ x ∈ f.nums, 0 ≤ x := by
  intro x hx
  cases f with
  | keep b a =>
    obtain ⟨h1, h2, _⟩ := h
    simp only [Fm.nums, List.mem_cons, List.not_mem_nil, or_false] at hx
    rcases hx with rfl | rfl <;> assumption
  | lf b a k c =>
    obtain ⟨h1, h2, h3, h4, _⟩ := h
    simp only [Fm.nums, List.mem_cons, List.not_mem_nil, or_false] at hx
    rcases hx with rfl | rfl | rfl | rfl
    · exact h1
    · exact h2
    · omega
    · exact h4
  | cr b a k =>
    obtain ⟨h1, h2, h3, _⟩ := h
    simp only [Fm.nums, List.mem_cons, List.not_mem_nil, or_false] at hx
    rcases hx with rfl | rfl | rfl
    · exact h1
    · exact h2
    · omega
end Lw
namespace Lw
open PySem PySem.Spec L2 Lx
/-! ### equal data -/
theorem pd_eqv : ∀ (a b : List (Int × Int)), PyData.eqvAll (pd a) (pd b) = decide (a = b)
  | [], [] => rfl
  | [], _ :: _ => rfl
  | _ :: _, [] => rfl
  | x :: xs, y :: ys => by
    have ih := pd_eqv xs ys
    unfold pd at ih ⊢
    simp only [List.map_cons, PyData.eqvAll, PyData.eqv, Bool.and_true, ih]
    obtain ⟨x1, x2⟩ := x
    obtain ⟨y1, y2⟩ := y
    by_cases h1 : x1 = y1 <;> by_cases h2 : x2 = y2 <;> by_cases h3 : xs = ys <;> simp [h1, h2, h3]
theorem rd_eqv (a b : List (Int × Int) × Int) : PyData.eqv (rd a) (rd b) = decide (a = b) := by
  have h := pd_eqv a.1 b.1
  unfold rd
  simp only [PyData.eqv, PyData.eqvAll, h, Bool.and_true]
  obtain ⟨a1, a2⟩ := a
  obtain ⟨b1, b2⟩ := b
  by_cases h1 : a1 = b1 <;> by_cases h2 : a2 = b2 <;> simp [h1, h2]
theorem fm_dp {K : PySem.W.Frag} {H : Hp} {x : V} {f : Fm} : FmAt K H x f → Dp K H x (fdt f) := fun ⟨p, e, h⟩ => by
  subst e
  cases f with
  | keep b a => exact .tup h (.cons (.str _) (.cons (.int _) (.cons (.int _) .nil)))
  | lf b a k c => exact .tup h (.cons (.str _) (.cons (.int _) (.cons (.int _) (.cons (.int _) (.cons (.int _) .nil)))))
  | cr b a k => exact .tup h (.cons (.str _) (.cons (.int _) (.cons (.int _) (.cons (.int _) .nil))))
theorem fdt_shaped (f : Fm) : SeqAt.shaped (fdt f) = true := by
  cases f <;> (unfold SeqAt.shaped fdt; simp [PyData.canLay0, PyData.canLayAll0, PyData.depth, PyData.depthAll]; decide +kernel)
theorem fdt_eqv (f g : Fm) : PyData.eqv (fdt f) (fdt g) = true ↔ f = g := by
  cases f <;> cases g <;> simp [fdt, PyData.eqv, PyData.eqvAll] <;> decide
/-! ### runs in a list -/
inductive Rns (K : PySem.W.Frag) (H : Hp) : List V → List (List (Int × Int) × Int) → Prop
  | nil : Rns K H [] []
  | cons {v : V} {vs : List V} {r : List (Int × Int) × Int} {rs : List (List (Int × Int) × Int)} : (∃ l, RnS K H v l r) → Rns K H vs rs → Rns K H (v :: vs) (r :: rs)
theorem Rns.same {K : PySem.W.Frag} {H H' : Hp} (s : Same H H') : ∀ {vs rs}, Rns K H vs rs → Rns K H' vs rs
  | _, _, .nil => .nil
  | _, _, .cons ⟨l, h⟩ t => .cons ⟨l, h.same s⟩ (t.same s)
theorem Rns.len {K : PySem.W.Frag} {H : Hp} : ∀ {vs rs}, Rns K H vs rs → vs.length = rs.length
  | _, _, .nil => rfl
  | _, _, .cons _ t => by rw [List.length_cons, List.length_cons, t.len]
theorem Rns.get {K : PySem.W.Frag} {H : Hp} : ∀ {vs rs}, Rns K H vs rs → ∀ {i : Nat} {v : V}, vs[i]? = some v → ∃ r l, rs[i]? = some r ∧ RnS K H v l r
  | _, _, .nil, i, v, h => by simp at h
  | _, _, .cons ⟨l, h1⟩ t, 0, v, h => by
    have e := Option.some.inj h
    subst e
    exact ⟨_, l, rfl, h1⟩
  | _, _, .cons h1 t, i + 1, v, h => t.get (i := i) h
theorem Rns.append {K : PySem.W.Frag} {H : Hp} : ∀ {vs ws rs qs}, Rns K H vs rs → Rns K H ws qs → Rns K H (vs ++ ws) (rs ++ qs)
  | _, _, _, _, .nil, h => h
  | _, _, _, _, .cons a t, h => .cons a (t.append h)
/-! ### forms that do the same twice -/
def sizesOf (f : Fm) : List Int := [0, 1, f.b, f.a, f.b + f.a, 2 * f.nums.sum + 5]
def tests (f : Fm) : List (List (Int × Int) × Int) := [([], 1), ([], 3)] ++ (sizesOf f).map fun j => ([(1, j)], 0)
theorem tests_ok {n : Nat} {f : Fm} (h : f.Ok n) : ∀ r ∈ tests f, RnOk (n + 10) r := by
  have hb := h.b0
  have ha := h.a0
  have one : ∀ z : Int, 0 ≤ z → z ≤ 5 → Sm (n + 10) z := fun z h0 h1 => Nat.lt_of_lt_of_le (show z.natAbs < 2 ^ 10 by
    have : (2 : Nat) ^ 10 = 1024 := by decide
    omega) (Nat.pow_le_pow_right (by decide) (by omega))
  have hs : 0 ≤ f.nums.sum ∧ Sm (n + 3) f.nums.sum := by
    have pw : 2 ^ (n + 3) = 2 ^ n * 8 := Nat.pow_add 2 n 3
    cases f with
    | keep b a =>
      obtain ⟨h1, h2, h3, h4⟩ := h
      unfold Sm at *
      simp only [Fm.nums, List.sum_cons, List.sum_nil]
      rw [pw]
      generalize 2 ^ n = M at *
      omega
    | lf b a k c =>
      obtain ⟨h1, h2, h3, h4, h5, h6, h7, h8⟩ := h
      unfold Sm at *
      simp only [Fm.nums, List.sum_cons, List.sum_nil]
      rw [pw]
      generalize 2 ^ n = M at *
      omega
    | cr b a k =>
      obtain ⟨h1, h2, h3, h4, h5, h6⟩ := h
      unfold Sm at *
      simp only [Fm.nums, List.sum_cons, List.sum_nil]
      rw [pw]
      generalize 2 ^ n = M at *
      omega
  have r0 : ∀ e : Int, 0 ≤ e → e ≤ 5 → RnOk (n + 10) ([], e) := fun e e0 e1 => ⟨fun i x hx => by simp at hx, ⟨e0, one e e0 e1⟩, Nat.zero_le _⟩
  have r1 : ∀ j : Int, 0 ≤ j → Sm (n + 10) j → RnOk (n + 10) ([(1, j)], 0) := fun j j0 j1 => ⟨gsok_snoc (gs := []) (fun i x hx => by simp at hx) (fun a y e => by simp at e) ⟨by show (1 : Int) ≤ 1; decide, j0, one 1 (by decide) (by decide), j1⟩, ⟨(by decide : (0 : Int) ≤ 0), one 0 (by decide) (by decide)⟩, by show 1 ≤ 1000; decide⟩
  have m : ∀ {z : Int} {k : Nat}, k ≤ n + 10 → Sm k z → Sm (n + 10) z := fun h1 h2 => h2.mono h1
  have pw4 : Sm (n + 10) (2 * f.nums.sum + 5) := by
    have e : 2 ^ (n + 10) = 2 ^ (n + 3) * 128 := by rw [show n + 10 = (n + 3) + 7 from rfl, Nat.pow_add]
    have e1 : 1 ≤ 2 ^ (n + 3) := Nat.one_le_two_pow
    have h1 := hs.2
    unfold Sm at *
    rw [e]
    generalize 2 ^ (n + 3) = M at *
    omega
  intro r hr
  have hr' : r ∈ [([], 1), ([], 3), ([(1, 0)], 0), ([(1, 1)], 0), ([(1, f.b)], 0), ([(1, f.a)], 0), ([(1, f.b + f.a)], 0), ([(1, 2 * f.nums.sum + 5)], (0 : Int))] := hr
  simp only [List.mem_cons, List.not_mem_nil, or_false] at hr'
  rcases hr' with rfl | rfl | rfl | rfl | rfl | rfl | rfl | rfl
  · exact r0 1 (by decide) (by decide)
  · exact r0 3 (by decide) (by decide)
  · exact r1 0 (by decide) (one 0 (by decide) (by decide))
  · exact r1 1 (by decide) (one 1 (by decide) (by decide))
  · exact r1 _ hb.1 (m (by omega) hb.2)
  · exact r1 _ ha.1 (m (by omega) ha.2)
  · exact r1 _ (by omega) (m (by omega) (hb.2.add ha.2))
  · exact r1 _ (by have := hs.1; omega) pw4
theorem sum_ge {n : Nat} {f : Fm} (h : f.Ok n) : f.b ≤ f.nums.sum := by
  cases f with
  | keep b a =>
    obtain ⟨h1, h2, _⟩ := h
    simp only [Fm.nums, List.sum_cons, List.sum_nil, Fm.b]
    omega
  | lf b a k c =>
    obtain ⟨h1, h2, h3, h4, _⟩ := h
    simp only [Fm.nums, List.sum_cons, List.sum_nil, Fm.b]
    omega
  | cr b a k =>
    obtain ⟨h1, h2, h3, _⟩ := h
    simp only [Fm.nums, List.sum_cons, List.sum_nil, Fm.b]
    omega
theorem run1 (b a j : Int) : runAfter ([(1, j)], 0) (.keep b a) = ([(1, (Fm.keep b a).after j)], 0) := rfl
theorem twice {n : Nat} {f : Fm} (h : f.Ok n) : f.both f = f ↔ ∀ r ∈ tests f, runAfter (runAfter r f) f = runAfter r f := by
  constructor
  · intro e r _
    rw [runAfter_both, e]
  · intro ht
    have t1 := ht ([], 1) (by unfold tests; simp)
    rw [runAfter_both] at t1
    cases f with
    | keep b a =>
      have one : ∀ j : Int, (([(1, j)], 0) : List (Int × Int) × Int) ∈ tests (.keep b a) → ((Fm.keep b a).both (.keep b a)).after j = (Fm.keep b a).after j := fun j hj => by
        have e := ht _ hj
        rw [runAfter_both] at e
        have eb : (Fm.keep b a).both (.keep b a) = .keep (b + if b - a > 0 then b - a else 0) ((if a - b > 0 then a - b else 0) + a) := rfl
        rw [eb] at e ⊢
        rw [run1, run1] at e
        injection e with e1 e2
        injection e1 with e3 e4
        injection e3
      have s1 := one 0 (by unfold tests sizesOf; simp)
      have s2 := one (2 * (Fm.keep b a).nums.sum + 5) (by unfold tests sizesOf; simp)
      have hs := sum_ge h
      obtain ⟨b0, a0, _, _⟩ := h
      have p1 := pp (b - a)
      have p2 := pp (a - b)
      simp only [Fm.both, Fm.ahead, Fm.after, Fm.b, Fm.a, Fm.nums, List.sum_cons, List.sum_nil] at s1 s2 hs ⊢
      generalize (if b - a > 0 then b - a else 0) = A at *
      generalize (if a - b > 0 then a - b else 0) = B at *
      have p3 := pp (0 - (b + A))
      have p4 := pp (0 - b)
      have p5 := pp (2 * (b + (a + 0)) + 5 - (b + A))
      have p6 := pp (2 * (b + (a + 0)) + 5 - b)
      congr 1 <;> omega
    | lf b a k c =>
      obtain ⟨b0, a0, k0, c0, _⟩ := h
      have u0 : 0 ≤ (Fm.lf b a k c).after c := by
        have := pp (c - b)
        show 0 ≤ (if c - b > 0 then c - b else 0) + a
        omega
      have kk : 0 < k * ((Fm.lf b a k c).after c + 1) * k := Int.mul_pos (Int.mul_pos k0 (by omega)) k0
      have un : ∀ g : Fm, units ([], 1) g = 1 := fun g => units_none 1 g
      have e1 : runAfter ([], 1) (.lf b a k c) = ([(k, c)], 0) := by
        show (if k * units ([], 1) (.lf b a k c) = 0 then (([] : List (Int × Int)), (0 : Int)) else ([(k * units ([], 1) (.lf b a k c), c)], 0)) = _
        rw [un, Int.mul_one, if_neg (by omega)]
      have e2 : runAfter ([], 1) ((Fm.lf b a k c).both (.lf b a k c)) = ([(k * ((Fm.lf b a k c).after c + 1) * k, c)], 0) := by
        show (if (k * ((Fm.lf b a k c).after c + 1) * k) * units ([], 1) (.lf b a (k * ((Fm.lf b a k c).after c + 1) * k) c) = 0 then (([] : List (Int × Int)), (0 : Int)) else ([((k * ((Fm.lf b a k c).after c + 1) * k) * units ([], 1) (.lf b a (k * ((Fm.lf b a k c).after c + 1) * k) c), c)], 0)) = _
        rw [un, Int.mul_one, if_neg (by omega)]
      rw [e1, e2] at t1
      injection t1 with t2 t3
      injection t2 with t4 t5
      injection t4 with t6 t7
      show Fm.lf b a (k * ((Fm.lf b a k c).after c + 1) * k) c = _
      rw [t6]
    | cr b a k =>
      have un : ∀ g : Fm, units ([], 1) g = 1 := fun g => units_none 1 g
      have t2 : (([] : List (Int × Int)), (k * 1 * k) * units ([], 1) (.cr b a (k * 1 * k))) = ([], k * units ([], 1) (.cr b a k)) := t1
      rw [un, un, Int.mul_one, Int.mul_one k] at t2
      injection t2 with t3 t4
      show Fm.cr b a (k * 1 * k) = _
      rw [Int.mul_one, t4]
end Lw
namespace Lw
open PySem PySem.Spec L2 Lx
theorem fm_dq' {K : PySem.W.Frag} {H : Hp} {x : V} {f : Fm} : FmAt K H x f → Dq K H x (fdt f) := fun ⟨p, e, h⟩ => by
  subst e
  cases f with
  | keep b a => exact .tup (SqT.tt h) h (.cons (.str _) (.cons (.int _) (.cons (.int _) .nil)))
  | lf b a k c => exact .tup (SqT.tt h) h (.cons (.str _) (.cons (.int _) (.cons (.int _) (.cons (.int _) (.cons (.int _) .nil)))))
  | cr b a k => exact .tup (SqT.tt h) h (.cons (.str _) (.cons (.int _) (.cons (.int _) (.cons (.int _) .nil))))
theorem fdt_self (f : Fm) : PyData.eqv (fdt f) (fdt f) = true := (fdt_eqv f f).mpr rfl
/-! ### joined forms -/
theorem kk_assoc (b a b' a' b'' a'' : Int) (h1 : 0 ≤ a) (h2 : 0 ≤ b') (h3 : 0 ≤ a') (h4 : 0 ≤ b'') :
    (b + (if b' - a > 0 then b' - a else 0)) + (if b'' - ((if a - b' > 0 then a - b' else 0) + a') > 0 then b'' - ((if a - b' > 0 then a - b' else 0) + a') else 0) =
      b + (if (b' + (if b'' - a' > 0 then b'' - a' else 0)) - a > 0 then (b' + (if b'' - a' > 0 then b'' - a' else 0)) - a else 0) ∧
    (if ((if a - b' > 0 then a - b' else 0) + a') - b'' > 0 then ((if a - b' > 0 then a - b' else 0) + a') - b'' else 0) + a'' =
      (if a - (b' + (if b'' - a' > 0 then b'' - a' else 0)) > 0 then a - (b' + (if b'' - a' > 0 then b'' - a' else 0)) else 0) + ((if a' - b'' > 0 then a' - b'' else 0) + a'') := by
  have p1 := pp (b' - a)
  have p2 := pp (a - b')
  have p3 := pp (b'' - a')
  have p4 := pp (a' - b'')
  generalize (if b' - a > 0 then b' - a else 0) = A at *
  generalize (if a - b' > 0 then a - b' else 0) = B at *
  generalize (if b'' - a' > 0 then b'' - a' else 0) = C at *
  generalize (if a' - b'' > 0 then a' - b'' else 0) = D at *
  have p5 := pp (b'' - (B + a'))
  have p6 := pp (B + a' - b'')
  have p7 := pp (b' + C - a)
  have p8 := pp (a - (b' + C))
  generalize (if b'' - (B + a') > 0 then b'' - (B + a') else 0) = E at *
  generalize (if B + a' - b'' > 0 then B + a' - b'' else 0) = F at *
  generalize (if b' + C - a > 0 then b' + C - a else 0) = G at *
  generalize (if a - (b' + C) > 0 then a - (b' + C) else 0) = I at *
  constructor <;> omega
theorem both_assoc {n : Nat} {f g h : Fm} (of : f.Ok n) (og : g.Ok n) (oh : h.Ok n) : (f.both g).both h = f.both (g.both h) := by
  have fa := of.a0.1
  have gb := og.b0.1
  have ga := og.a0.1
  have hb := oh.b0.1
  cases f with
  | keep b a =>
    cases g with
    | keep b' a' =>
      have e := kk_assoc b a b' a' h.b h.a fa gb ga hb
      cases h with
      | keep b'' a'' =>
        show Fm.keep _ _ = Fm.keep _ _
        exact congr (congrArg Fm.keep e.1) e.2
      | lf b'' a'' k'' c'' =>
        show Fm.lf _ _ _ _ = Fm.lf _ _ _ _
        exact congrFun (congrFun (congr (congrArg Fm.lf e.1) e.2) k'') c''
      | cr b'' a'' k'' =>
        show Fm.cr _ _ _ = Fm.cr _ _ _
        exact congrFun (congr (congrArg Fm.cr e.1) e.2) k''
    | lf b' a' k' c' => cases h <;> rfl
    | cr b' a' k' => cases h <;> rfl
  | lf b a k c =>
    cases g with
    | keep b' a' =>
      have e := after_both b' a' h c
      cases h with
      | keep b'' a'' =>
        show Fm.lf b a k _ = Fm.lf b a k _
        exact congrArg (Fm.lf b a k) e
      | lf b'' a'' k'' c'' =>
        show Fm.lf b a (k * ((Fm.lf b'' a'' k'' c'').after ((Fm.keep b' a').after c) + 1) * k'') c'' = Fm.lf b a (k * (((Fm.keep b' a').both (.lf b'' a'' k'' c'')).after c + 1) * k'') c''
        rw [e]
      | cr b'' a'' k'' =>
        show Fm.cr b a (k * ((Fm.cr b'' a'' k'').after ((Fm.keep b' a').after c) + 1) * k'') = Fm.cr b a (k * (((Fm.keep b' a').both (.cr b'' a'' k'')).after c + 1) * k'')
        rw [e]
    | lf b' a' k' c' =>
      cases h with
      | keep b'' a'' => rfl
      | lf b'' a'' k'' c'' =>
        show Fm.lf b a (k * ((Fm.lf b' a' k' c').after c + 1) * k' * ((Fm.lf b'' a'' k'' c'').after c' + 1) * k'') c'' = Fm.lf b a (k * ((Fm.lf b' a' k' c').after c + 1) * (k' * ((Fm.lf b'' a'' k'' c'').after c' + 1) * k'')) c''
        rw [← Int.mul_assoc, ← Int.mul_assoc]
      | cr b'' a'' k'' =>
        show Fm.cr b a (k * ((Fm.lf b' a' k' c').after c + 1) * k' * ((Fm.cr b'' a'' k'').after c' + 1) * k'') = Fm.cr b a (k * ((Fm.lf b' a' k' c').after c + 1) * (k' * ((Fm.cr b'' a'' k'').after c' + 1) * k''))
        rw [← Int.mul_assoc, ← Int.mul_assoc]
    | cr b' a' k' =>
      cases h with
      | keep b'' a'' => rfl
      | lf b'' a'' k'' c'' =>
        show Fm.lf b a (k * ((Fm.cr b' a' k').after c + 1) * k' * 1 * k'') c'' = Fm.lf b a (k * ((Fm.cr b' a' k').after c + 1) * (k' * 1 * k'')) c''
        rw [← Int.mul_assoc, ← Int.mul_assoc]
      | cr b'' a'' k'' =>
        show Fm.cr b a (k * ((Fm.cr b' a' k').after c + 1) * k' * 1 * k'') = Fm.cr b a (k * ((Fm.cr b' a' k').after c + 1) * (k' * 1 * k''))
        rw [← Int.mul_assoc, ← Int.mul_assoc]
  | cr b a k =>
    cases g with
    | keep b' a' =>
      cases h <;> rfl
    | lf b' a' k' c' =>
      cases h with
      | keep b'' a'' => rfl
      | lf b'' a'' k'' c'' =>
        show Fm.lf b a (k * 1 * k' * ((Fm.lf b'' a'' k'' c'').after c' + 1) * k'') c'' = Fm.lf b a (k * 1 * (k' * ((Fm.lf b'' a'' k'' c'').after c' + 1) * k'')) c''
        rw [← Int.mul_assoc, ← Int.mul_assoc]
      | cr b'' a'' k'' =>
        show Fm.cr b a (k * 1 * k' * ((Fm.cr b'' a'' k'').after c' + 1) * k'') = Fm.cr b a (k * 1 * (k' * ((Fm.cr b'' a'' k'').after c' + 1) * k''))
        rw [← Int.mul_assoc, ← Int.mul_assoc]
    | cr b' a' k' =>
      cases h with
      | keep b'' a'' => rfl
      | lf b'' a'' k'' c'' =>
        show Fm.lf b a (k * 1 * k' * 1 * k'') c'' = Fm.lf b a (k * 1 * (k' * 1 * k'')) c''
        rw [← Int.mul_assoc, ← Int.mul_assoc]
      | cr b'' a'' k'' =>
        show Fm.cr b a (k * 1 * k' * 1 * k'') = Fm.cr b a (k * 1 * (k' * 1 * k''))
        rw [← Int.mul_assoc, ← Int.mul_assoc]
theorem both_nothing {n : Nat} {f : Fm} (of : f.Ok n) : f.both nothing = f := by
  have ha := of.a0.1
  cases f with
  | keep b a =>
    have p1 := pp (0 - a)
    have p2 := pp (a - 0)
    show Fm.keep (b + (if 0 - a > 0 then 0 - a else 0)) ((if a - 0 > 0 then a - 0 else 0) + 0) = _
    have ha' : 0 ≤ a := ha
    congr 1 <;> omega
  | lf b a k c =>
    show Fm.lf b a k (nothing.after c) = _
    rw [after_nothing of.2.2.2.1]
  | cr b a k => rfl
theorem nothing_both {n : Nat} {f : Fm} (of : f.Ok n) : nothing.both f = f := by
  have hb := of.b0.1
  have p1 := pp (f.b - 0)
  have p2 := pp (0 - f.b)
  have e1 : 0 + (if f.b - 0 > 0 then f.b - 0 else 0) = f.b := by omega
  have e2 : (if 0 - f.b > 0 then 0 - f.b else 0) + f.a = f.a := by omega
  have e : nothing.both f = Fm.ahead (0 + (if f.b - 0 > 0 then f.b - 0 else 0)) ((if 0 - f.b > 0 then 0 - f.b else 0) + f.a) f := rfl
  rw [e, e1, e2]
  cases f <;> rfl
theorem nothing_ok (n : Nat) : nothing.Ok n := ⟨by decide, by decide, Nat.two_pow_pos n, Nat.two_pow_pos n⟩
theorem both_ok {n : Nat} (hn : 0 < n) {f g : Fm} (of : f.Ok n) (og : g.Ok n) : (f.both g).Ok (3 * n + 3) := by
  have gb := og.b0
  have ga := og.a0
  have o1 : Sm n 1 := Nat.lt_of_lt_of_le (by decide : (1 : Int).natAbs < 2 ^ 1) (Nat.pow_le_pow_right (by decide) hn)
  cases f with
  | keep b a =>
    obtain ⟨b0, a0, sb, sa⟩ := of
    have p1 := pp (g.b - a)
    have p2 := pp (a - g.b)
    have hB : 0 ≤ b + (if g.b - a > 0 then g.b - a else 0) ∧ Sm (3 * n + 3) (b + (if g.b - a > 0 then g.b - a else 0)) := ⟨by omega, (Sm.of_le (by omega) (show b + (if g.b - a > 0 then g.b - a else 0) ≤ b + g.b by omega) (sb.add gb.2)).mono (by omega)⟩
    have hA : 0 ≤ (if a - g.b > 0 then a - g.b else 0) + g.a ∧ Sm (3 * n + 3) ((if a - g.b > 0 then a - g.b else 0) + g.a) := ⟨by omega, (Sm.of_le (by omega) (show (if a - g.b > 0 then a - g.b else 0) + g.a ≤ a + g.a by omega) (sa.add ga.2)).mono (by omega)⟩
    cases g with
    | keep b' a' => exact ⟨hB.1, hA.1, hB.2, hA.2⟩
    | lf b' a' k' c' =>
      obtain ⟨_, _, k0, c0, _, _, sk, sc⟩ := og
      exact ⟨hB.1, hA.1, k0, c0, hB.2, hA.2, sk.mono (by omega), sc.mono (by omega)⟩
    | cr b' a' k' =>
      obtain ⟨_, _, k0, _, _, sk⟩ := og
      exact ⟨hB.1, hA.1, k0, hB.2, hA.2, sk.mono (by omega)⟩
  | lf b a k c =>
    obtain ⟨b0, a0, k0, c0, sb, sa, sk, sc⟩ := of
    have hc := Fm.after_ok og c0 sc
    have hu : 0 < g.after c + 1 ∧ Sm (n + 2) (g.after c + 1) := ⟨by have := hc.1; omega, hc.2.add (o1.mono (Nat.le_succ n))⟩
    cases g with
    | keep b' a' => exact ⟨b0, a0, k0, hc.1, sb.mono (by omega), sa.mono (by omega), sk.mono (by omega), hc.2.mono (by omega)⟩
    | lf b' a' k' c' =>
      obtain ⟨_, _, k0', c0', _, _, sk', sc'⟩ := og
      exact ⟨b0, a0, Int.mul_pos (Int.mul_pos k0 hu.1) k0', c0', sb.mono (by omega), sa.mono (by omega), ((sk.mul hu.2).mul sk').mono (by omega), sc'.mono (by omega)⟩
    | cr b' a' k' =>
      obtain ⟨_, _, k0', _, _, sk'⟩ := og
      exact ⟨b0, a0, Int.mul_pos (Int.mul_pos k0 hu.1) k0', sb.mono (by omega), sa.mono (by omega), ((sk.mul hu.2).mul sk').mono (by omega)⟩
  | cr b a k =>
    obtain ⟨b0, a0, k0, sb, sa, sk⟩ := of
    cases g with
    | keep b' a' => exact ⟨b0, a0, k0, sb.mono (by omega), sa.mono (by omega), sk.mono (by omega)⟩
    | lf b' a' k' c' =>
      obtain ⟨_, _, k0', c0', _, _, sk', sc'⟩ := og
      exact ⟨b0, a0, Int.mul_pos (Int.mul_pos k0 (by decide)) k0', c0', sb.mono (by omega), sa.mono (by omega), ((sk.mul o1).mul sk').mono (by omega), sc'.mono (by omega)⟩
    | cr b' a' k' =>
      obtain ⟨_, _, k0', _, _, sk'⟩ := og
      exact ⟨b0, a0, Int.mul_pos (Int.mul_pos k0 (by decide)) k0', sb.mono (by omega), sa.mono (by omega), ((sk.mul o1).mul sk').mono (by omega)⟩
/-! ### a form many times -/
def fp (f : Fm) : Nat → Fm
  | 0 => nothing
  | n + 1 => (fp f n).both f
theorem fp_ok {m : Nat} {f : Fm} (h : f.Ok m) : ∀ n : Nat, ∃ k, (fp f n).Ok k
  | 0 => ⟨0, nothing_ok 0⟩
  | n + 1 => by
    obtain ⟨k, hk⟩ := fp_ok h n
    exact ⟨_, both_ok (n := max k m + 1) (by omega) (hk.mono (by omega)) (h.mono (by omega))⟩
theorem fp_one {m : Nat} {f : Fm} (h : f.Ok m) : fp f 1 = f := nothing_both h
theorem fp_add {m : Nat} {f : Fm} (h : f.Ok m) (i : Nat) : ∀ j : Nat, (fp f i).both (fp f j) = fp f (i + j)
  | 0 => by
    obtain ⟨k, hk⟩ := fp_ok h i
    exact both_nothing hk
  | j + 1 => by
    obtain ⟨k, hk⟩ := fp_ok h i
    obtain ⟨k', hk'⟩ := fp_ok h j
    show (fp f i).both ((fp f j).both f) = (fp f (i + j)).both f
    rw [← both_assoc (n := max (max k k') m) (hk.mono (by omega)) (hk'.mono (by omega)) (h.mono (by omega)), fp_add h i j]
theorem fp_keep {b a : Int} (b0 : 0 ≤ b) (a0 : 0 ≤ a) : ∀ n : Nat, ∃ B A, fp (.keep b a) n = .keep B A ∧ 0 ≤ B ∧ B ≤ n * b ∧ 0 ≤ A ∧ A ≤ n * a
  | 0 => ⟨0, 0, rfl, by decide, by simp, by decide, by simp⟩
  | n + 1 => by
    obtain ⟨B, A, e, h1, h2, h3, h4⟩ := fp_keep b0 a0 n
    have p1 := pp (b - A)
    have p2 := pp (A - b)
    refine ⟨B + (if b - A > 0 then b - A else 0), (if A - b > 0 then A - b else 0) + a, ?_, by omega, ?_, by omega, ?_⟩
    · show (fp (.keep b a) n).both (.keep b a) = _
      rw [e]
      rfl
    · rw [Int.natCast_add, Int.add_mul]
      simp only [Int.natCast_one, Int.one_mul]
      omega
    · rw [Int.natCast_add, Int.add_mul]
      simp only [Int.natCast_one, Int.one_mul]
      omega
theorem fp_lf {m : Nat} {b a k c : Int} (h : (Fm.lf b a k c).Ok m) (hm : 0 < m) : ∀ n : Nat, ∃ K, fp (.lf b a k c) (n + 1) = .lf b a K c ∧ 0 < K ∧ Sm ((n + 1) * (2 * m + 2)) K
  | 0 => ⟨k, fp_one h, h.2.2.1, h.2.2.2.2.2.2.1.mono (by omega)⟩
  | n + 1 => by
    obtain ⟨K, e, K0, K1⟩ := fp_lf h hm n
    have hc := Fm.after_ok h h.2.2.2.1 h.2.2.2.2.2.2.2
    have o1 : Sm m 1 := Nat.lt_of_lt_of_le (by decide : (1 : Int).natAbs < 2 ^ 1) (Nat.pow_le_pow_right (by decide) hm)
    have hu : 0 < (Fm.lf b a k c).after c + 1 ∧ Sm (m + 2) ((Fm.lf b a k c).after c + 1) := ⟨by have := hc.1; omega, hc.2.add (o1.mono (Nat.le_succ m))⟩
    refine ⟨K * ((Fm.lf b a k c).after c + 1) * k, ?_, Int.mul_pos (Int.mul_pos K0 hu.1) h.2.2.1, ((K1.mul hu.2).mul h.2.2.2.2.2.2.1).mono ?_⟩
    · show (fp (.lf b a k c) (n + 1)).both (.lf b a k c) = _
      rw [e]
      rfl
    · have : (n + 1 + 1) * (2 * m + 2) = (n + 1) * (2 * m + 2) + (2 * m + 2) := by rw [Nat.add_mul (n + 1) 1, Nat.one_mul]
      omega
theorem fp_cr {m : Nat} {b a k : Int} (h : (Fm.cr b a k).Ok m) (hm : 0 < m) : ∀ n : Nat, ∃ K, fp (.cr b a k) (n + 1) = .cr b a K ∧ 0 < K ∧ Sm ((n + 1) * (2 * m + 2)) K
  | 0 => ⟨k, fp_one h, h.2.2.1, h.2.2.2.2.2.mono (by omega)⟩
  | n + 1 => by
    obtain ⟨K, e, K0, K1⟩ := fp_cr h hm n
    have o1 : Sm m 1 := Nat.lt_of_lt_of_le (by decide : (1 : Int).natAbs < 2 ^ 1) (Nat.pow_le_pow_right (by decide) hm)
    refine ⟨K * 1 * k, ?_, Int.mul_pos (Int.mul_pos K0 (by decide)) h.2.2.1, ((K1.mul o1).mul h.2.2.2.2.2).mono ?_⟩
    · show (fp (.cr b a k) (n + 1)).both (.cr b a k) = _
      rw [e]
      rfl
    · have : (n + 1 + 1) * (2 * m + 2) = (n + 1) * (2 * m + 2) + (2 * m + 2) := by rw [Nat.add_mul (n + 1) 1, Nat.one_mul]
      omega
/-- how often a form may be repeated here -/
def Often (f : Fm) (n : Nat) : Prop := n ≤ 100 ∨ (Fm.isKeep f = true ∧ n ≤ 2 ^ 100)
theorem Often.le {f : Fm} {n m : Nat} (h : Often f n) (k : m ≤ n) : Often f m := by
  rcases h with h | ⟨h1, h2⟩
  · exact .inl (by omega)
  · exact .inr ⟨h1, Nat.le_trans k h2⟩
theorem fp_sm {m : Nat} {f : Fm} (h : f.Ok m) (hm : 0 < m) (hm2 : m ≤ 440) {n : Nat} (o : Often f n) : (fp f n).Ok 90000 := by
  cases f with
  | keep b a =>
    obtain ⟨b0, a0, sb, sa⟩ := h
    obtain ⟨B, A, e, h1, h2, h3, h4⟩ := fp_keep b0 a0 n
    have hn : n ≤ 2 ^ 100 := by
      rcases o with o | o
      · exact Nat.le_trans o (by decide +kernel)
      · exact o.2
    have sn : Sm 101 (n : Int) := by
      unfold Sm
      have : (2 : Nat) ^ 101 = 2 ^ 100 * 2 := Nat.pow_succ ..
      omega
    rw [e]
    exact ⟨h1, h3, (Sm.of_le h1 h2 (sn.mul sb)).mono (by omega), (Sm.of_le h3 h4 (sn.mul sa)).mono (by omega)⟩
  | lf b a k c =>
    have hn : n ≤ 100 := by
      rcases o with o | o
      · exact o
      · cases o.1
    cases n with
    | zero => exact nothing_ok _
    | succ n =>
      obtain ⟨K, e, K0, K1⟩ := fp_lf h hm n
      obtain ⟨b0, a0, k0, c0, sb, sa, sk, sc⟩ := h
      rw [e]
      have : (n + 1) * (2 * m + 2) ≤ 100 * 882 := Nat.mul_le_mul (by omega) (by omega)
      exact ⟨b0, a0, K0, c0, sb.mono (by omega), sa.mono (by omega), K1.mono (by omega), sc.mono (by omega)⟩
  | cr b a k =>
    have hn : n ≤ 100 := by
      rcases o with o | o
      · exact o
      · cases o.1
    cases n with
    | zero => exact nothing_ok _
    | succ n =>
      obtain ⟨K, e, K0, K1⟩ := fp_cr h hm n
      obtain ⟨b0, a0, k0, sb, sa, sk⟩ := h
      rw [e]
      have : (n + 1) * (2 * m + 2) ≤ 100 * 882 := Nat.mul_le_mul (by omega) (by omega)
      exact ⟨b0, a0, K0, sb.mono (by omega), sa.mono (by omega), K1.mono (by omega)⟩
end Lw
namespace Lw
open PySem PySem.Spec L2 Lx
/-! ### chains put together -/
theorem formL_fle (k : Nat) : ∀ cs : List Nat, cs.length = k → k ≤ 7000 → (∀ c ∈ cs, c ∈ steps.cps.toList) → FLe k (formL cs) := by
  induction k with
  | zero =>
    intro cs e _ _
    rw [List.eq_nil_of_length_eq_zero e]
    exact ⟨by decide, by decide, by decide, by decide⟩
  | succ k ih =>
    intro cs e hk hc
    rcases snoc_or cs with rfl | ⟨ds, c, rfl⟩
    · cases e
    · have ed : ds.length = k := by simpa using e
      have h := ih ds ed (by omega) fun x hx => hc x (List.mem_append.mpr (.inl hx))
      have e2 : formL (ds ++ [c]) = (formL ds).both (stepF c) := by unfold formL; rw [List.foldl_append]; rfl
      rw [e2]
      exact h.step (by omega) (hc c (by simp))
theorem step_ok {c : Nat} (h : c ∈ steps.cps.toList) {n : Nat} (hn : 0 < n) : (stepF c).Ok n := by
  have one : Sm n 1 := Nat.lt_of_lt_of_le (by decide : (1 : Int).natAbs < 2 ^ 1) (Nat.pow_le_pow_right (by decide) hn)
  have zer : Sm n 0 := Nat.two_pow_pos n
  rcases step_cases h with e | e | e | e <;> rw [e]
  · exact ⟨by decide, by decide, zer, one⟩
  · exact ⟨by decide, by decide, one, zer⟩
  · exact ⟨by decide, by decide, by decide, by decide, zer, zer, one, zer⟩
  · exact ⟨by decide, by decide, by decide, zer, zer, one⟩
theorem formL_app7 (a : List Nat) (ha : ∀ c ∈ a, c ∈ steps.cps.toList) (n : Nat) : ∀ b : List Nat, b.length = n → (∀ c ∈ b, c ∈ steps.cps.toList) → a.length + b.length ≤ 7000 → formL (a ++ b) = (formL a).both (formL b) := by
  induction n with
  | zero =>
    intro b e _ hl
    rw [List.eq_nil_of_length_eq_zero e, List.append_nil]
    exact (both_nothing (formL_fle _ a rfl (by omega) ha).ok).symm
  | succ n ih =>
    intro b e hb hl
    rcases snoc_or b with rfl | ⟨ds, c, rfl⟩
    · cases e
    · have ed : ds.length = n := by simpa using e
      have hd : ∀ x ∈ ds, x ∈ steps.cps.toList := fun x hx => hb x (List.mem_append.mpr (.inl hx))
      have hc := hb c (by simp)
      have hl2 : (ds ++ [c]).length = ds.length + 1 := by simp
      have e2 : ∀ xs : List Nat, formL (xs ++ [c]) = (formL xs).both (stepF c) := fun xs => by unfold formL; rw [List.foldl_append]; rfl
      rw [← List.append_assoc, e2, ih ds ed hd (by omega), e2]
      have oa := (formL_fle _ a rfl (by omega) ha).ok
      have ob := (formL_fle _ ds rfl (by omega) hd).ok
      refine both_assoc (n := 13 * 7000 + 1) (oa.mono (by omega)) (ob.mono (by omega)) (step_ok hc (by omega))
theorem formOf_app {x y : Str} (hx : ChOk x) (hy : ChOk y) (hl : x.cps.size + y.cps.size ≤ 7000) : formOf (x ++ y) = (formOf x).both (formOf y) := by
  have e : (x ++ y).cps.toList = x.cps.toList ++ y.cps.toList := Array.toList_append ..
  unfold formOf
  rw [e]
  exact formL_app7 _ hx _ _ rfl hy (by rw [Array.length_toList, Array.length_toList]; exact hl)
theorem ChOk.app {x y : Str} (hx : ChOk x) (hy : ChOk y) : ChOk (x ++ y) := fun c hc => by
  have e : (x ++ y).cps.toList = x.cps.toList ++ y.cps.toList := Array.toList_append ..
  rw [e] at hc
  rcases List.mem_append.mp hc with h | h
  · exact hx c h
  · exact hy c h
theorem app_sz (x y : Str) : (x ++ y).cps.size = x.cps.size + y.cps.size := Array.size_append ..
theorem formOf_fle {x : Str} (hx : ChOk x) (hl : x.cps.size ≤ 7000) : FLe x.cps.size (formOf x) := formL_fle _ _ (Array.length_toList ..) hl hx
theorem formOf_ok {x : Str} (hx : ChOk x) (hl : x.cps.size ≤ 7000) : (formOf x).Ok 91001 := (formOf_fle hx hl).ok.mono (by omega)
/-! ### copies by name -/
inductive Ents (K : PySem.W.Frag) (H : Hp) : List (Key × V) → List (Str × Str) → Prop
  | nil : Ents K H [] []
  | cons {kvs : List (Key × V)} {zs : List (Str × Str)} {v : V} {n z : Str} : FmAt K H v (formOf z) → Ents K H kvs zs → Ents K H ((.inr n, v) :: kvs) ((n, z) :: zs)
theorem Ents.same {K : PySem.W.Frag} {H H' : Hp} (s : ∀ v f, FmAt K H v f → FmAt K H' v f) : ∀ {kvs : List (Key × V)} {zs : List (Str × Str)}, Ents K H kvs zs → Ents K H' kvs zs
  | _, _, .nil => .nil
  | _, _, .cons h t => .cons (s _ _ h) (t.same s)
theorem Ents.len {K : PySem.W.Frag} {H : Hp} : ∀ {kvs : List (Key × V)} {zs : List (Str × Str)}, Ents K H kvs zs → kvs.length = zs.length
  | _, _, .nil => rfl
  | _, _, .cons _ t => by rw [List.length_cons, List.length_cons, t.len]
theorem Ents.get {K : PySem.W.Frag} {H : Hp} {n z : Str} : ∀ {kvs : List (Key × V)} {zs : List (Str × Str)}, Ents K H kvs zs → zs.lookup n = some z → ∃ v, valV kvs (.inr n) = some v ∧ FmAt K H v (formOf z)
  | _, _, .nil, e => by cases e
  | _, _, .cons (n := m) (z := y) (v := v) (kvs := kvs) (zs := zs) h t, e => by
    by_cases c : m = n
    · subst c
      rw [List.lookup_cons_self] at e
      cases e
      exact ⟨v, valV_pos rfl, h⟩
    · rw [List.lookup_cons, show (n == m) = false from beq_false_of_ne (Ne.symm c)] at e
      obtain ⟨u, h1, h2⟩ := Ents.get t e
      exact ⟨u, (valV_neg (fun z => c (Sum.inr.inj z))).trans h1, h2⟩
/-- in its place, or at the end -/
def putZ : List (Str × Str) → Str → Str → List (Str × Str)
  | [], n, z => [(n, z)]
  | (m, y) :: r, n, z => if m = n then (m, z) :: r else (m, y) :: putZ r n z
theorem putZ_len : ∀ (zs : List (Str × Str)) (n z : Str), (putZ zs n z).length ≤ zs.length + 1
  | [], _, _ => Nat.le_refl _
  | (m, y) :: r, n, z => by
    have := putZ_len r n z
    unfold putZ
    split
    · exact Nat.le_succ _
    · show _ + 1 ≤ _ + 1 + 1
      omega
theorem putZ_get (n z m : Str) : ∀ zs : List (Str × Str), (putZ zs n z).lookup m = if m = n then some z else zs.lookup m
  | [] => by
    show List.lookup m [(n, z)] = _
    rw [List.lookup_cons]
    by_cases c : m = n
    · subst c
      simp
    · rw [show (m == n) = false from beq_false_of_ne c, if_neg c]
  | (k, y) :: r => by
    unfold putZ
    by_cases c : k = n
    · subst c
      rw [if_pos rfl, List.lookup_cons, List.lookup_cons]
      by_cases d : m = k
      · subst d
        simp
      · rw [show (m == k) = false from beq_false_of_ne d, if_neg d]
    · rw [if_neg c, List.lookup_cons, List.lookup_cons, putZ_get n z m r]
      by_cases d : m = k
      · subst d
        rw [if_neg c]
        simp [c]
      · rw [show (m == k) = false from beq_false_of_ne d]
/-- no name twice -/
def NdZ (zs : List (Str × Str)) : Prop := (zs.map Prod.fst).Nodup
theorem map_same {kvs : List (Key × V)} {n : Str} {v : V} (h : ∀ kv ∈ kvs, kv.1 ≠ .inr n) : kvs.map (fun kv => if kv.1 = .inr n then (kv.1, v) else kv) = kvs := by
  induction kvs with
  | nil => rfl
  | cons p r ih =>
    rw [List.map_cons, ih fun kv hkv => h kv (List.mem_cons_of_mem _ hkv), if_neg (h p (List.mem_cons_self ..))]
theorem Ents.keys {K : PySem.W.Frag} {H : Hp} {n : Str} : ∀ {kvs : List (Key × V)} {zs : List (Str × Str)}, Ents K H kvs zs → n ∉ zs.map Prod.fst → ∀ kv ∈ kvs, kv.1 ≠ .inr n
  | _, _, .nil, _, kv, hkv => by cases hkv
  | _, _, .cons (n := m) h t, hn, kv, hkv => by
    rcases List.mem_cons.mp hkv with rfl | hkv
    · exact fun e => hn (List.mem_cons.mpr (.inl (Sum.inr.inj e).symm))
    · exact Ents.keys t (fun e => hn (List.mem_cons_of_mem _ e)) kv hkv
theorem Ents.put {K : PySem.W.Frag} {H : Hp} {n z : Str} {v : V} (hv : FmAt K H v (formOf z)) : ∀ {kvs : List (Key × V)} {zs : List (Str × Str)}, Ents K H kvs zs → NdZ zs → Ents K H (putK kvs (.inr n) v) (putZ zs n z)
  | _, _, .nil, _ => .cons hv .nil
  | _, _, .cons (n := m) (z := y) (v := u) (kvs := kvs) (zs := zs) h t, nd => by
    have nd' : m ∉ zs.map Prod.fst ∧ NdZ zs := List.nodup_cons.mp nd
    unfold putZ
    by_cases c : m = n
    · subst c
      have e : putK ((.inr m, u) :: kvs) (.inr m : Key) v = (.inr m, v) :: kvs := by
        unfold putK
        rw [if_pos (by simp), List.map_cons, if_pos rfl, map_same (t.keys nd'.1)]
      rw [e, if_pos rfl]
      exact .cons hv t
    · have ih := Ents.put (n := n) hv t nd'.2
      have cn : ¬ ((.inr m : Key) = .inr n) := fun e => c (Sum.inr.inj e)
      have e : putK ((.inr m, u) :: kvs) (.inr n : Key) v = (.inr m, u) :: putK kvs (.inr n) v := by
        unfold putK
        by_cases a : (kvs.any fun kv => decide (kv.1 = (.inr n : Key))) = true
        · rw [if_pos (by rw [List.any_cons, a]; simp), if_pos a, List.map_cons, if_neg cn]
        · rw [if_neg (by rw [List.any_cons, decide_eq_false cn]; simpa using a), if_neg a]
          rfl
      rw [e, if_neg c]
      exact .cons h ih
theorem putZ_mem {n z : Str} : ∀ {zs : List (Str × Str)} {m : Str}, m ∈ (putZ zs n z).map Prod.fst → m = n ∨ m ∈ zs.map Prod.fst
  | [], m, h => .inl (by simpa [putZ] using h)
  | (k, y) :: r, m, h => by
    unfold putZ at h
    by_cases c : k = n
    · rw [if_pos c] at h
      exact .inr h
    · rw [if_neg c] at h
      rcases List.mem_cons.mp h with rfl | h
      · exact .inr (List.mem_cons_self ..)
      · exact (putZ_mem h).imp id fun q => List.mem_cons_of_mem _ q
theorem putZ_nd {n z : Str} : ∀ {zs : List (Str × Str)}, NdZ zs → NdZ (putZ zs n z)
  | [], _ => by unfold NdZ putZ; simp
  | (k, y) :: r, h => by
    have h' : k ∉ r.map Prod.fst ∧ NdZ r := List.nodup_cons.mp h
    unfold putZ
    by_cases c : k = n
    · rw [if_pos c]
      exact h
    · rw [if_neg c]
      refine List.nodup_cons.mpr ⟨fun hm => ?_, putZ_nd h'.2⟩
      rcases putZ_mem hm with e | e
      · exact c e
      · exact h'.1 e
/-- chains that may be put together with k letters more -/
def ZOk (L : Nat) (zs : List (Str × Str)) : Prop := ∀ n z, zs.lookup n = some z → ChOk z ∧ z.cps.size ≤ L
theorem ZOk.put {L : Nat} {zs : List (Str × Str)} {n z : Str} (h : ZOk L zs) (hz : ChOk z) (hl : z.cps.size ≤ L) : ZOk L (putZ zs n z) := fun m y e => by
  rw [putZ_get] at e
  by_cases c : m = n
  · rw [if_pos c] at e
    cases e
    exact ⟨hz, hl⟩
  · rw [if_neg c] at e
    exact h m y e
theorem ZOk.mono {L L' : Nat} {zs : List (Str × Str)} (h : ZOk L zs) (k : L ≤ L') : ZOk L' zs := fun n z e => ⟨(h n z e).1, Nat.le_trans (h n z e).2 k⟩
/-- a depot stands at p, its dict at d -/
structure DepAt (K : PySem.W.Frag) (C : Addr) (H : Hp) (p d : Addr) (zs : List (Str × Str)) : Prop where
  ob : ∃ dx, H p = some (.ins C dx [("_forms", .ref d)])
  dc : ∃ kvs, H d = some (.dK kvs) ∧ Ents K H kvs zs
  nd : NdZ zs
theorem DepAt.same {K : PySem.W.Frag} {C : Addr} {H H' : Hp} {p d : Addr} {zs : List (Str × Str)} (s : Same H H') (h : DepAt K C H p d zs) : DepAt K C H' p d zs := by
  obtain ⟨⟨dx, h1⟩, ⟨kvs, h2, h3⟩, h4⟩ := h
  exact ⟨⟨dx, s _ _ h1⟩, ⟨kvs, s _ _ h2, h3.same fun v f hv => hv.same s⟩, h4⟩
/-- all but one address is as it was -/
def Kd (d : Addr) (H H' : Hp) : Prop := ∀ b o, b ≠ d → H b = some o → H' b = some o
theorem Kd.refl (d : Addr) (H : Hp) : Kd d H H := fun _ _ _ h => h
theorem Kd.trans {d : Addr} {H H1 H2 : Hp} (a : Kd d H H1) (b : Kd d H1 H2) : Kd d H H2 := fun c o h1 h => b c o h1 (a c o h1 h)
theorem Kd.of {d : Addr} {H H' : Hp} (s : Same H H') : Kd d H H' := fun b o _ h => s b o h
theorem FmAt.kd {K : PySem.W.Frag} {H H' : Hp} {d : Addr} {kvs : List (Key × V)} (hd : H d = some (.dK kvs)) (k : Kd d H H') {v : V} {f : Fm} : FmAt K H v f → FmAt K H' v f := fun ⟨p, h1, h2⟩ => ⟨p, h1, by
  rcases h2 with (h | ⟨o, h⟩) | h
  · exact .inl (.inl (k _ _ (ne_of h hd (by intro z; cases z)) h))
  · exact .inl (.inr ⟨o, k _ _ (ne_of h hd (by intro z; cases z)) h⟩)
  · exact .inr h⟩
end Lw
namespace Lw
open PySem PySem.Spec L2 Lx
theorem asgK {v : V} {g : TG} {D : Ends} {σ : St} {H : Hp} (h : g v σ H D.nx) : tAsg (tC v) g D σ H := h
theorem op_eqDK {X : Cx} {K : PySem.W.Frag} (hK : X.K = K) (hu : X.A.units + 64 < cLine) : OpR X (compareOp .Eq) (rEqD K) := by
  subst hK
  exact op_eqD hu
theorem op_neDK {X : Cx} {K : PySem.W.Frag} (hK : X.K = K) (hu : X.A.units + 64 < cLine) : OpR X (compareOp .NotEq) (rNeD K) := by
  subst hK
  exact op_neD hu
/-! ### a pool of draws: a list of three numbers -/
def PoolAt (H : Hp) (p : Addr) (n : Nat) : Prop := ∃ a m k : Int, H p = some (.lst [.int a, .int m, .int k]) ∧ 0 ≤ a ∧ 0 ≤ m ∧ m < 9223372036854775808 ∧ 0 ≤ k ∧ k ≤ n
theorem PoolAt.same {H H' : Hp} {p : Addr} {n : Nat} (s : Same H H') : PoolAt H p n → PoolAt H' p n := fun ⟨a, m, k, h, r⟩ => ⟨a, m, k, s _ _ h, r⟩
theorem PoolAt.mono {H : Hp} {p : Addr} {n m : Nat} (h : n ≤ m) : PoolAt H p n → PoolAt H p m := fun ⟨a, x, k, h1, h2, h3, h4, h5, h6⟩ => ⟨a, x, k, h1, h2, h3, h4, h5, by omega⟩
theorem PoolAt.ne {H : Hp} {p b : Addr} {n : Nat} (s : PoolAt H p n) (h : H b = none) : b ≠ p := by
  obtain ⟨_, _, _, q, _⟩ := s
  exact Ne.symm (ne_of_none q h)
theorem PoolAt.neT {H : Hp} {p b : Addr} {n : Nat} {xs : List V} (s : PoolAt H p n) (h : H b = some (.tup xs)) : b ≠ p := by
  obtain ⟨_, _, _, q, _⟩ := s
  exact ne_of h q (by intro z; cases z)
theorem PoolAt.own {H : Hp} {p b : Addr} {n : Nat} {o : HO} (s : PoolAt H p n) (ne : b ≠ p) : PoolAt (upd H b o) p n := by
  obtain ⟨a, m, k, h, r⟩ := s
  exact ⟨a, m, k, by rw [upd_ne (Ne.symm ne)]; exact h, r⟩
theorem Kd.put {d : Addr} {H : Hp} {o : HO} : Kd d H (upd H d o) := fun b u hb e => by rw [upd_ne hb]; exact e
theorem Kd.own {d b : Addr} {H H' : Hp} {o : HO} (k : Kd d H H') (h : H b = none) : Kd d H (upd H' b o) := fun c u hc e => by
  rw [upd_ne (ne_of_none e h)]
  exact k c u hc e
theorem Kd.freeP {d b : Addr} {H H' : Hp} {n : Nat} (k : Kd d H H') (s : PoolAt H' d n) (h : H' b = none) : H b = none := by
  cases e : H b with
  | none => rfl
  | some o =>
    have := k b o (s.ne h) e
    rw [h] at this
    cases this
theorem Prs.kd {K : PySem.W.Frag} {H H' : Hp} {d : Addr} {n : Nat} (s : PoolAt H d n) (k : Kd d H H') : ∀ {vs : List V} {gs : List (Int × Int)}, Prs K H vs gs → Prs K H' vs gs
  | _, _, .nil => .nil
  | _, _, .cons ⟨p, e, h⟩ t => .cons ⟨p, e, k _ _ (s.neT h) h⟩ (Prs.kd s k t)
theorem RnS.kd {K : PySem.W.Frag} {H H' : Hp} {v : V} {l d : Addr} {n : Nat} {g : List (Int × Int) × Int} (s : PoolAt H d n) (k : Kd d H H') (ne : l ≠ d) : RnS K H v l g → RnS K H' v l g :=
  fun ⟨p, xs, h1, h2, h3, h4⟩ => ⟨p, xs, h1, k _ _ (s.neT h2) h2, k _ _ ne h3, Prs.kd s k h4⟩
end Lw
namespace Lw
open PySem PySem.Spec L2 Lx
theorem scPool : FnScope ["script", "at", "cell"] ["script", "at"] (defScope sLPool) := ⟨rfl, rfl, rfl, by decide +kernel, rfl, by decide +kernel, by decide +kernel⟩
theorem scDraw : FnScope ["pool", "many", "drawn", "mixed"] ["pool", "many"] (defScope sLDraw) := ⟨rfl, rfl, rfl, by decide +kernel, rfl, by decide +kernel, by decide +kernel⟩
def spPool (K : PySem.W.Frag) : Sp := fun vs H Q _ => ∃ (a : Addr) (ns : List Int) (i : Nat), vs = [.ref a, .int (i : Int)] ∧ SqL K H a (ns.map V.int) ∧ ns.length ≤ 63 ∧ i ≤ 63 ∧ ∀ H' r, Same H H' → H r = none → PoolAt H' r 0 → Q (.ref r) H'
def spDraw : Sp := fun vs H Q _ => ∃ (r : Addr) (n : Nat) (m : Int), vs = [.ref r, .int m] ∧ PoolAt H r n ∧ n < 1000000000 ∧ 0 < m ∧ m.natAbs < 2 ^ 4000 ∧ ∀ v H', 0 ≤ v → v < m → PoolAt H' r (n + 1) → Kd r H H' → Q (.int v) H'
structure PlF (mg : Str → Option Value) : Prop where
  len : mg "len" = none
  max : mg "max" = none
  abs : mg "abs" = none
theorem n_m1 : (162259276829213363391578010288127 : Int) ≠ 0 := by decide
theorem n_m2 : (170141183460469231731687303715884105727 : Int) ≠ 0 := by decide
theorem n_61 : (2305843009213693951 : Int) ≠ 0 := by decide
section
variable {P : Program} {w : World} {K : PySem.W.Frag} {mg : Str → Option Value} {base : Heap}
theorem ok_pool {f : Addr} {fd : FuncData} {k : Nat} (F : Fun K "_law_pool" "_law_pool" sLPool f fd) (Z : PlF mg) : FnOk P w K mg base CX0 (k + 1) f fd ["script", "at"] (spPool K) := by
  refine F.ok scPool (fun vs H Q E h => ?_) (fun cdv A outer s H vs Q E hr h => ?_)
  · obtain ⟨a, ns, i, rfl, _⟩ := h
    rfl
  · obtain ⟨a, ns, i, rfl, hS, hlen, hi, q⟩ := h
    refine ⟨_, (pss_cons (ps_set (i := 2) scPool.nd rfl (.inl rfl) pe_int)
      (pss_cons (ps_if (pt_cmpR op_lt (pv 1) (pe_callB call_len_seq (by rfl) Z.len PySem.boot_len (pa_cons (pv 0) pa_nil)) (nomark _))
          (pss_one (ps_set (i := 2) scPool.nd rfl (.inl rfl) (pe_ix ix_list (pv 0) (pv 1) (fun _ _ => rfl)))) pss_nil)
      (pss_one (ps_ret (pe_lst (pa_cons (pe_callB (call_max2 rfl) (by rfl) Z.max (by decide +kernel) (pa_cons pe_int (pa_cons (pe_op op_sub (pe_callB call_abs (by rfl) Z.abs (by decide +kernel) (pa_cons (pv 2) pa_nil)) (pe_op op_pow pe_int pe_int)) pa_nil))) (pa_cons (pe_op op_add (pe_op op_modN (pv 2) pe_int) (pe_op op_mul pe_int (pe_op op_add (pv 1) pe_int))) (pa_cons pe_int pa_nil)))))))), ?_⟩
    refine asgK ?_
    dsimp only [gName, tNext, tSeq]
    refine if_fin (fun σ H1 => ∃ c : Int, σ = [some (.ref a), some (.int (i : Int)), some (.int c)] ∧ H1 = H) (fun R hR => ?_) (fun σ H1 hF => ?_)
    · refine ⟨_, rfl, _, rfl, a, _, rfl, .inl hS, _, _, rfl, rfl, _, rfl, ite2 (fun c => ?_) (fun c => ?_)⟩
      · have hl : i < (ns.map V.int).length := Int.ofNat_lt.mp (of_decide_eq_true c)
        refine ⟨_, rfl, _, rfl, a, _, _, _, rfl, rfl, hS, atI_nat (j := i) (List.getElem?_eq_getElem hl), ?_⟩
        rw [List.getElem_map]
        exact hR _ _ ⟨_, rfl, rfl⟩
      · exact hR _ _ ⟨0, rfl, rfl⟩
    · obtain ⟨c, rfl, rfl⟩ := hF
      have f1 := fm (a := c) (show (0 : Int) < 2305843009213693951 by decide)
      refine ⟨_, rfl, _, rfl, _, _, rfl, rfl, ⟨by decide, by decide, by decide⟩, _, _, rfl, rfl, _, _, rfl, ?_⟩
      refine ⟨_, rfl, _, _, rfl, rfl, n_61, _, rfl, _, _, rfl, rfl, _, _, rfl, rfl, .inl ⟨by decide, by decide⟩, _, _, rfl, rfl, by show 3 ≤ sizeLine; decide, fun r nr => ?_⟩
      exact q _ r (same_upd nr) nr ⟨_, _, _, upd_same, by split <;> omega, by omega, by omega, by decide, by decide⟩
theorem ok_draw {f : Addr} {fd : FuncData} {k : Nat} (F : Fun K "_law_draw" "_law_draw" sLDraw f fd) : FnOk P w K mg base CX0 (k + 1) f fd ["pool", "many"] spDraw := by
  refine F.ok scDraw (fun vs H Q E h => ?_) (fun cdv A outer s H vs Q E hr h => ?_)
  · obtain ⟨r, n, m, rfl, _⟩ := h
    rfl
  · obtain ⟨r, n, m, rfl, ⟨a, x, t, h1, h2, h3, h4, h5, h6⟩, hn, hm0, hm1, q⟩ := h
    refine ⟨_, (pss_cons (ps_if (pt_cmpR op_gt (pe_ix ix_list (pv 0) pe_int (fun _ _ => rfl)) pe_int (nomark _))
          (pss_cons (ps_set (i := 2) scDraw.nd rfl (.inl rfl) (pe_op op_modN (pe_ix ix_list (pv 0) pe_int (fun _ _ => rfl)) (pv 1)))
          (pss_cons (ps_asg (pe_op op_fdivW (pe_ix ix_list (pv 0) pe_int (fun _ _ => rfl)) (pv 1)) (pg_sub (pv 0) pe_int set_list))
          (pss_one (ps_ret (pv 2))))) pss_nil)
      (pss_cons (ps_asg (pe_op op_add (pe_ix ix_list (pv 0) pe_int (fun _ _ => rfl)) pe_int) (pg_sub (pv 0) pe_int set_list))
      (pss_cons (ps_set (i := 3) scDraw.nd rfl (.inl rfl) (pe_op op_modN (pe_op op_powW (pe_op op_add (pe_ix ix_list (pv 0) pe_int (fun _ _ => rfl)) (pe_op op_mul pe_int (pe_ix ix_list (pv 0) pe_int (fun _ _ => rfl)))) pe_int) pe_int))
      (pss_cons (ps_set (i := 3) scDraw.nd rfl (.inl rfl) (pe_op op_modN (pe_op op_powW (pe_op op_add (pv 3) (pe_op op_mul pe_int (pe_ix ix_list (pv 0) pe_int (fun _ _ => rfl)))) pe_int) pe_int))
      (pss_one (ps_ret (pe_op op_modN (pe_op op_fdiv (pv 3) pe_int) (pv 1)))))))), ?_⟩
    have hmn : m ≠ 0 := by omega
    dsimp only [gName, tNext, tSeq]
    refine if_fin (fun σ H1 => σ = [some (.ref r), some (.int m), none, none] ∧ H1 = H) (fun R hR => ?_) (fun σ H1 hF => ?_)
    · refine ⟨_, rfl, r, _, 0, _, rfl, rfl, .inl (.inl h1), atI_nat (j := 0) rfl, _, _, rfl, rfl, _, rfl, ite2 (fun c => ?_) (fun c => hR _ _ ⟨rfl, rfl⟩)⟩
      refine ⟨_, rfl, r, _, 0, _, rfl, rfl, .inl (.inl h1), atI_nat (j := 0) rfl, _, rfl, _, _, rfl, rfl, hmn, ?_⟩
      refine ⟨_, rfl, r, _, 0, _, rfl, rfl, .inl (.inl h1), atI_nat (j := 0) rfl, _, rfl, _, _, rfl, rfl, wide_div hm0 hm1 (by decide) (by decide), ?_⟩
      refine ⟨_, rfl, r, _, 0, 0, rfl, rfl, h1, rfl, ?_⟩
      refine ⟨_, rfl, ?_⟩
      have f1 := fm (a := a) hm0
      exact q _ _ f1.1 f1.2 ⟨a / m, x, t, upd_same, Int.ediv_nonneg h2 (by omega), h3, h4, h5, by omega⟩ Kd.put
    · obtain ⟨rfl, rfl⟩ := hF
      refine ⟨_, rfl, r, _, 2, _, rfl, rfl, .inl (.inl h1), atI_nat (j := 2) rfl, _, _, rfl, rfl, ?_⟩
      refine ⟨_, rfl, r, _, 2, 2, rfl, rfl, h1, rfl, ?_⟩
      have h7 : upd H1 r (.lst ([V.int a, .int x, .int t].set 2 (.int (t + 1)))) r = some (.lst [.int a, .int x, .int (t + 1)]) := upd_same
      have k7 : Kd r H1 (upd H1 r (.lst ([V.int a, .int x, .int t].set 2 (.int (t + 1))))) := Kd.put
      show tSeq _ _ _ _ (upd H1 r (.lst ([V.int a, .int x, .int t].set 2 (.int (t + 1)))))
      generalize upd H1 r (.lst ([V.int a, .int x, .int t].set 2 (.int (t + 1)))) = H2 at h7 k7
      refine ⟨_, rfl, r, _, 1, _, rfl, rfl, .inl (.inl h7), atI_nat (j := 1) rfl, _, rfl, r, _, 2, _, rfl, rfl, .inl (.inl h7), atI_nat (j := 2) rfl, _, _, rfl, rfl, .inl ⟨by decide, by decide⟩, _, _, rfl, rfl, _, _, rfl, rfl, pow_sm (by omega) (Int.lt_trans (show x + 15496739 * (t + 1) < 2 ^ 64 by omega) (by decide +kernel)) (by decide) (by decide), _, _, rfl, rfl, n_m1, ?_⟩
      have f1 := fm (a := (x + 15496739 * (t + 1)) ^ Int.toNat 3) (show (0 : Int) < 162259276829213363391578010288127 by decide)
      show gName 3 (V.int (((x + 15496739 * (t + 1)) ^ Int.toNat 3).fmod 162259276829213363391578010288127)) _ _ _
      generalize ((x + 15496739 * (t + 1)) ^ Int.toNat 3).fmod 162259276829213363391578010288127 = M at f1
      refine ⟨_, rfl, _, rfl, r, _, 2, _, rfl, rfl, .inl (.inl h7), atI_nat (j := 2) rfl, _, _, rfl, rfl, .inl ⟨by decide, by decide⟩, _, _, rfl, rfl, _, _, rfl, rfl, pow_sm (by omega) (Int.lt_trans (show M + 32455313 * (t + 1) < 2 ^ 128 by omega) (by decide +kernel)) (by decide) (by decide), _, _, rfl, rfl, n_m2, ?_⟩
      show gName 3 (V.int (((M + 32455313 * (t + 1)) ^ Int.toNat 5).fmod 170141183460469231731687303715884105727)) _ _ _
      generalize ((M + 32455313 * (t + 1)) ^ Int.toNat 5).fmod 170141183460469231731687303715884105727 = N
      refine ⟨_, rfl, _, _, rfl, rfl, ⟨by decide, by decide⟩, _, rfl, _, _, rfl, rfl, hmn, ?_⟩
      have f2 := fm (a := N / 1048576) hm0
      exact q _ _ f2.1 f2.2 ⟨a, x, t + 1, h7, h2, h3, h4, by omega, by omega⟩ k7
end
end Lw
namespace Lw
open PySem PySem.Spec L2 Lx
/-! ### products and sums of factors -/
def pr : List Nat → Nat
  | [] => 1
  | g :: gs => g * pr gs
theorem pr_app : ∀ a b : List Nat, pr (a ++ b) = pr a * pr b
  | [], b => (Nat.one_mul _).symm
  | g :: a, b => by
    show g * pr (a ++ b) = g * pr a * pr b
    rw [pr_app a b, Nat.mul_assoc]
theorem pr_snoc (a : List Nat) (g : Nat) : pr (a ++ [g]) = pr a * g := by
  rw [pr_app]
  show pr a * (g * 1) = _
  rw [Nat.mul_one]
/-- a prime -/
def Pm (p : Nat) : Prop := 2 ≤ p ∧ ∀ d, d ∣ p → d = 1 ∨ d = p
theorem Pm.dvd_mul {p a b : Nat} (hp : Pm p) (h : p ∣ a * b) : p ∣ a ∨ p ∣ b := by
  rcases hp.2 (Nat.gcd p a) (Nat.gcd_dvd_left p a) with h1 | h1
  · exact .inr (Nat.Coprime.dvd_of_dvd_mul_left h1 h)
  · exact .inl (h1 ▸ Nat.gcd_dvd_right p a)
theorem Pm.dvd_pr {p : Nat} (hp : Pm p) : ∀ {gs : List Nat}, p ∣ pr gs → ∃ a g b, gs = a ++ g :: b ∧ p ∣ g
  | [], h => by
    have := Nat.le_of_dvd (by decide) h
    have := hp.1
    show _
    exact absurd this (by change ¬ 2 ≤ p; show ¬ 2 ≤ p; have h1 : p ≤ 1 := ‹p ≤ pr []›; omega)
  | g :: gs, h => by
    rcases hp.dvd_mul h with h1 | h1
    · exact ⟨[], g, gs, rfl, h1⟩
    · obtain ⟨a, y, b, e, hy⟩ := hp.dvd_pr h1
      exact ⟨g :: a, y, b, by rw [e]; rfl, hy⟩
theorem pr_mid (a b : List Nat) (g : Nat) : pr (a ++ g :: b) = g * pr (a ++ b) := by
  rw [pr_app, pr_app]
  show pr a * (g * pr b) = _
  rw [← Nat.mul_assoc, Nat.mul_comm (pr a) g, Nat.mul_assoc]
theorem sum_mid (a b : List Nat) (g : Nat) : (a ++ g :: b).sum = g + (a ++ b).sum := by
  rw [List.sum_append, List.sum_append, List.sum_cons]
  omega
theorem pr_pos {gs : List Nat} (h : ∀ g ∈ gs, 2 ≤ g) : 0 < pr gs := by
  induction gs with
  | nil => exact Nat.one_pos
  | cons g gs ih => exact Nat.mul_pos (by have := h g (List.mem_cons_self ..); omega) (ih fun x hx => h x (List.mem_cons_of_mem _ hx))
/-- no way to write a product has a smaller sum than the one by primes -/
theorem min_sum : ∀ {fs : List Nat}, (∀ p ∈ fs, Pm p) → ∀ {gs : List Nat}, (∀ g ∈ gs, 2 ≤ g) → pr fs = pr gs → fs.sum ≤ gs.sum
  | [], _, gs, _, _ => Nat.zero_le _
  | p :: fs, hf, gs, hg, e => by
    have hp := hf p (List.mem_cons_self ..)
    obtain ⟨a, g, b, rfl, m, rfl⟩ := hp.dvd_pr (show p ∣ pr gs from ⟨pr fs, e.symm⟩)
    have hab : ∀ x ∈ a ++ b, 2 ≤ x := fun x hx => hg x (by
      rcases List.mem_append.mp hx with h | h
      · exact List.mem_append_left _ h
      · exact List.mem_append_right _ (List.mem_cons_of_mem _ h))
    have hg2 := hg (p * m) (by simp)
    have p0 : 0 < p := by have := hp.1; omega
    rw [pr_mid, Nat.mul_assoc] at e
    have e2 : pr fs = m * pr (a ++ b) := Nat.eq_of_mul_eq_mul_left p0 e
    rw [sum_mid, List.sum_cons]
    by_cases h1 : m = 1
    · subst h1
      rw [Nat.one_mul] at e2
      have := min_sum (fun q hq => hf q (List.mem_cons_of_mem _ hq)) hab e2
      omega
    · have hm : 2 ≤ m := by
        rcases m with _ | _ | m
        · rw [Nat.mul_zero] at hg2; omega
        · exact absurd rfl h1
        · omega
      have := min_sum (fun q hq => hf q (List.mem_cons_of_mem _ hq)) (gs := m :: (a ++ b)) (fun x hx => by
        rcases List.mem_cons.mp hx with rfl | h
        · exact hm
        · exact hab x h) e2
      rw [List.sum_cons] at this
      have : p + m ≤ p * m := by
        have h2 : 2 ≤ p := hp.1
        obtain ⟨x, rfl⟩ := Nat.exists_eq_add_of_le h2
        obtain ⟨y, rfl⟩ := Nat.exists_eq_add_of_le hm
        rw [Nat.add_mul, Nat.mul_add, Nat.mul_add]
        omega
      omega
/-! ### what one step makes of a form -/
theorem st_kU {b a : Int} (h : 0 ≤ a) : (Fm.keep b a).both (.keep 0 1) = .keep b (a + 1) := by
  show Fm.keep (b + (if 0 - a > 0 then 0 - a else 0)) ((if a - 0 > 0 then a - 0 else 0) + 1) = _
  congr 1 <;> split <;> omega
theorem st_kD {b a : Int} (h : 0 ≤ a) : (Fm.keep b a).both (.keep 1 0) = if a = 0 then .keep (b + 1) 0 else .keep b (a - 1) := by
  show Fm.keep (b + (if 1 - a > 0 then 1 - a else 0)) ((if a - 1 > 0 then a - 1 else 0) + 0) = _
  split <;> split <;> split <;> congr 1 <;> omega
theorem st_kM {b a : Int} (h : 0 ≤ a) : (Fm.keep b a).both (.lf 0 0 1 0) = .lf b a 1 0 := by
  show Fm.lf (b + (if 0 - a > 0 then 0 - a else 0)) ((if a - 0 > 0 then a - 0 else 0) + 0) 1 0 = _
  congr 1 <;> split <;> omega
theorem st_kN {b a : Int} (h : 0 ≤ a) : (Fm.keep b a).both (.cr 0 0 1) = .cr b a 1 := by
  show Fm.cr (b + (if 0 - a > 0 then 0 - a else 0)) ((if a - 0 > 0 then a - 0 else 0) + 0) 1 = _
  congr 1 <;> split <;> omega
theorem st_lU {b a k c : Int} (h : 0 ≤ c) : (Fm.lf b a k c).both (.keep 0 1) = .lf b a k (c + 1) := by
  show Fm.lf b a k ((if c - 0 > 0 then c - 0 else 0) + 1) = _
  congr 1
  split <;> omega
theorem st_lD {b a k c : Int} (h : 0 ≤ c) : (Fm.lf b a k c).both (.keep 1 0) = .lf b a k (if c - 1 > 0 then c - 1 else 0) := by
  show Fm.lf b a k ((if c - 1 > 0 then c - 1 else 0) + 0) = _
  rw [Int.add_zero]
theorem st_lM {b a k c : Int} (h : 0 ≤ c) : (Fm.lf b a k c).both (.lf 0 0 1 0) = .lf b a (k * (c + 1)) 0 := by
  have e1 : Fm.after (.lf 0 0 1 0) c = c := by
    unfold Fm.after Fm.b Fm.a
    dsimp only
    split <;> omega
  show Fm.lf b a (k * (Fm.after (.lf 0 0 1 0) c + 1) * 1) 0 = _
  rw [e1, Int.mul_one]
theorem st_lN {b a k c : Int} (h : 0 ≤ c) : (Fm.lf b a k c).both (.cr 0 0 1) = .cr b a (k * (c + 1)) := by
  have e1 : Fm.after (.cr 0 0 1) c = c := by
    unfold Fm.after Fm.b Fm.a
    dsimp only
    split <;> omega
  show Fm.cr b a (k * (Fm.after (.cr 0 0 1) c + 1) * 1) = _
  rw [e1, Int.mul_one]
theorem st_cM {b a k : Int} : (Fm.cr b a k).both (.lf 0 0 1 0) = .lf b a k 0 := by
  show Fm.lf b a (k * 1 * 1) 0 = _
  rw [Int.mul_one, Int.mul_one]
theorem st_cN {b a k : Int} : (Fm.cr b a k).both (.cr 0 0 1) = .cr b a k := by
  show Fm.cr b a (k * 1 * 1) = _
  rw [Int.mul_one, Int.mul_one]
/-! ### a chain has at least the fewest steps of its form -/
/-- a form that a chain of n steps may have -/
def LowB : Fm → Nat → Prop
  | .keep b a, n => 0 ≤ b ∧ 0 ≤ a ∧ b + a ≤ n
  | .lf b a k c, n => 0 ≤ b ∧ 0 ≤ a ∧ 0 ≤ c ∧ ∃ gs : List Nat, (∀ g ∈ gs, 2 ≤ g) ∧ (pr gs : Int) = k ∧ b + a + 1 + (gs.sum : Int) + c ≤ n
  | .cr b a k, n => 0 ≤ b ∧ 0 ≤ a ∧ ∃ gs : List Nat, (∀ g ∈ gs, 2 ≤ g) ∧ (pr gs : Int) = k ∧ b + a + 1 + (gs.sum : Int) ≤ n
theorem low_mul {k c : Int} {gs : List Nat} (hc : 0 ≤ c) (hg : ∀ g ∈ gs, 2 ≤ g) (hk : (pr gs : Int) = k) : ∃ hs : List Nat, (∀ g ∈ hs, 2 ≤ g) ∧ (pr hs : Int) = k * (c + 1) ∧ (hs.sum : Int) ≤ gs.sum + c + 1 := by
  by_cases h0 : c = 0
  · subst h0
    exact ⟨gs, hg, by rw [Int.zero_add, Int.mul_one]; exact hk, by omega⟩
  · obtain ⟨c, rfl⟩ := Int.eq_ofNat_of_zero_le hc
    refine ⟨gs ++ [c + 1], fun g h => ?_, ?_, ?_⟩
    · rcases List.mem_append.mp h with h | h
      · exact hg g h
      · rw [List.mem_singleton.mp h]; omega
    · rw [pr_snoc, Int.natCast_mul, hk]
      rfl
    · rw [List.sum_append]
      show ((gs.sum + (c + 1 + 0) : Nat) : Int) ≤ _
      omega
theorem low_step {f : Fm} {n : Nat} {c : Nat} (hc : c ∈ steps.cps.toList) (h : LowB f n) : LowB (f.both (stepF c)) (n + 1) := by
  rcases step_cases hc with e | e | e | e <;> rw [e]
  · cases f with
    | keep b a =>
      obtain ⟨h1, h2, h3⟩ := h
      rw [st_kU h2]
      exact ⟨h1, by omega, by omega⟩
    | lf b a k c =>
      obtain ⟨h1, h2, h3, gs, h4, h5, h6⟩ := h
      rw [st_lU h3]
      exact ⟨h1, h2, by omega, gs, h4, h5, by omega⟩
    | cr b a k =>
      obtain ⟨h1, h2, gs, h4, h5, h6⟩ := h
      exact ⟨h1, h2, gs, h4, h5, by omega⟩
  · cases f with
    | keep b a =>
      obtain ⟨h1, h2, h3⟩ := h
      rw [st_kD h2]
      split
      · exact ⟨by omega, by decide, by omega⟩
      · exact ⟨h1, by omega, by omega⟩
    | lf b a k c =>
      obtain ⟨h1, h2, h3, gs, h4, h5, h6⟩ := h
      rw [st_lD h3]
      refine ⟨h1, h2, by split <;> omega, gs, h4, h5, by split <;> omega⟩
    | cr b a k =>
      obtain ⟨h1, h2, gs, h4, h5, h6⟩ := h
      exact ⟨h1, h2, gs, h4, h5, by omega⟩
  · cases f with
    | keep b a =>
      obtain ⟨h1, h2, h3⟩ := h
      rw [st_kM h2]
      exact ⟨h1, h2, by decide, [], (fun g h => by cases h), rfl, by show b + a + 1 + 0 + 0 ≤ _; omega⟩
    | lf b a k c =>
      obtain ⟨h1, h2, h3, gs, h4, h5, h6⟩ := h
      rw [st_lM h3]
      obtain ⟨hs, q1, q2, q3⟩ := low_mul h3 h4 h5
      exact ⟨h1, h2, by decide, hs, q1, q2, by omega⟩
    | cr b a k =>
      obtain ⟨h1, h2, gs, h4, h5, h6⟩ := h
      rw [st_cM]
      exact ⟨h1, h2, by decide, gs, h4, h5, by omega⟩
  · cases f with
    | keep b a =>
      obtain ⟨h1, h2, h3⟩ := h
      rw [st_kN h2]
      exact ⟨h1, h2, [], (fun g h => by cases h), rfl, by show b + a + 1 + 0 ≤ _; omega⟩
    | lf b a k c =>
      obtain ⟨h1, h2, h3, gs, h4, h5, h6⟩ := h
      rw [st_lN h3]
      obtain ⟨hs, q1, q2, q3⟩ := low_mul h3 h4 h5
      exact ⟨h1, h2, hs, q1, q2, by omega⟩
    | cr b a k =>
      obtain ⟨h1, h2, gs, h4, h5, h6⟩ := h
      rw [st_cN]
      exact ⟨h1, h2, gs, h4, h5, by omega⟩
theorem low_form : ∀ (n : Nat) (cs : List Nat), cs.length = n → (∀ c ∈ cs, c ∈ steps.cps.toList) → LowB (formL cs) n
  | 0, cs, h, _ => by
    rw [List.length_eq_zero_iff.mp h]
    exact ⟨by decide, by decide, by decide⟩
  | n + 1, cs, h, hc => by
    rcases List.eq_nil_or_concat cs with rfl | ⟨ds, c, rfl⟩
    · cases h
    · rw [List.concat_eq_append] at h hc ⊢
      rw [formL_snoc]
      exact low_step (hc c (by simp)) (low_form n ds (by simpa using h) fun d hd => hc d (List.mem_append_left _ hd))
/-! ### steps of a form whose k is the product of primes -/
/-- the primes of a form -/
def Prim : Fm → List Nat → Prop
  | .keep _ _, fs => fs = []
  | .lf _ _ k _, fs => (∀ p ∈ fs, Pm p) ∧ (pr fs : Int) = k
  | .cr _ _ k, fs => (∀ p ∈ fs, Pm p) ∧ (pr fs : Int) = k
def stepsF : Fm → List Nat → Int
  | .keep b a, _ => b + a
  | .lf b a _ c, fs => b + a + 1 + (fs.sum : Int) + c
  | .cr b a _, fs => b + a + 1 + (fs.sum : Int)
theorem steps_le {f : Fm} {n : Nat} {fs : List Nat} (h : LowB f n) (hp : Prim f fs) : stepsF f fs ≤ n := by
  cases f with
  | keep b a => exact h.2.2
  | lf b a k c =>
    obtain ⟨h1, h2, h3, gs, h4, h5, h6⟩ := h
    have := min_sum hp.1 h4 (Int.ofNat_inj.mp (hp.2.trans h5.symm))
    show b + a + 1 + (fs.sum : Int) + c ≤ n
    omega
  | cr b a k =>
    obtain ⟨h1, h2, gs, h4, h5, h6⟩ := h
    have := min_sum hp.1 h4 (Int.ofNat_inj.mp (hp.2.trans h5.symm))
    show b + a + 1 + (fs.sum : Int) ≤ n
    omega
theorem steps_min {x : Str} (hx : ChOk x) {fs : List Nat} (hp : Prim (formOf x) fs) : stepsF (formOf x) fs ≤ x.cps.size := steps_le (low_form _ x.cps.toList (Array.length_toList ..) hx) hp
end Lw
namespace Lw
open PySem PySem.Spec L2 Lx
/-! ### the chain that a list of factors gives -/
def go (f : Fm) (cs : List Nat) : Fm := cs.foldl (fun f c => f.both (stepF c)) f
theorem go_app (f : Fm) (a b : List Nat) : go f (a ++ b) = go (go f a) b := List.foldl_append
theorem go_nothing (cs : List Nat) : go nothing cs = formL cs := rfl
theorem go_one (f : Fm) (c : Nat) : go f [c] = f.both (stepF c) := rfl
theorem go_D : ∀ (n : Nat) {b : Int}, go (.keep b 0) (List.replicate n 68) = .keep (b + n) 0
  | 0, b => by show Fm.keep b 0 = Fm.keep (b + 0) 0; rw [Int.add_zero]
  | n + 1, b => by
    show go ((Fm.keep b 0).both (.keep 1 0)) (List.replicate n 68) = _
    rw [st_kD (by decide), if_pos rfl, go_D n]
    congr 1
    omega
theorem go_kU : ∀ (n : Nat) {b a : Int}, 0 ≤ a → go (.keep b a) (List.replicate n 85) = .keep b (a + n)
  | 0, b, a, _ => by show Fm.keep b a = Fm.keep b (a + 0); rw [Int.add_zero]
  | n + 1, b, a, h => by
    show go ((Fm.keep b a).both (.keep 0 1)) (List.replicate n 85) = _
    rw [st_kU h, go_kU n (by omega)]
    congr 1
    omega
theorem go_lU : ∀ (n : Nat) {b a k c : Int}, 0 ≤ c → go (.lf b a k c) (List.replicate n 85) = .lf b a k (c + n)
  | 0, b, a, k, c, _ => by show Fm.lf b a k c = Fm.lf b a k (c + 0); rw [Int.add_zero]
  | n + 1, b, a, k, c, h => by
    show go ((Fm.lf b a k c).both (.keep 0 1)) (List.replicate n 85) = _
    rw [st_lU h, go_lU n (by omega)]
    congr 1
    omega
def seg (p : Nat) : List Nat := List.replicate (p - 1) 85 ++ [77]
def segs (gs : List Nat) : List Nat := gs.flatMap seg
theorem go_segs : ∀ (gs : List Nat), (∀ g ∈ gs, 1 ≤ g) → ∀ {b a k : Int}, go (.lf b a k 0) (segs gs) = .lf b a (k * (pr gs : Int)) 0
  | [], _, b, a, k => by show Fm.lf b a k 0 = Fm.lf b a (k * 1) 0; rw [Int.mul_one]
  | g :: gs, h, b, a, k => by
    have hg := h g (List.mem_cons_self ..)
    show go (.lf b a k 0) (seg g ++ segs gs) = _
    rw [go_app]
    have e : go (.lf b a k 0) (seg g) = .lf b a (k * (g : Int)) 0 := by
      unfold seg
      rw [go_app, go_lU _ (by decide)]
      show (Fm.lf b a k (0 + ((g - 1 : Nat) : Int))).both (.lf 0 0 1 0) = _
      rw [st_lM (by omega)]
      congr 2
      omega
    rw [e, go_segs gs fun x hx => h x (List.mem_cons_of_mem _ hx)]
    congr 1
    show k * (g : Int) * (pr gs : Int) = k * ((g * pr gs : Nat) : Int)
    rw [Int.natCast_mul, Int.mul_assoc]
def startL (b a : Int) : List Nat := List.replicate b.toNat 68 ++ List.replicate a.toNat 85
theorem go_start {b a : Int} (hb : 0 ≤ b) (ha : 0 ≤ a) : formL (startL b a) = .keep b a := by
  rw [← go_nothing]
  unfold startL
  rw [go_app, go_D, go_kU _ (by decide), Int.toNat_of_nonneg ha]
  congr 1 <;> omega
def shc : Fm → List Nat → List Nat
  | .keep b a, _ => startL b a
  | .lf b a _ c, gs => startL b a ++ (77 :: segs gs) ++ List.replicate c.toNat 85
  | .cr b a _, gs => startL b a ++ (77 :: segs gs).dropLast ++ [78]
theorem segs_snoc (gs : List Nat) (g : Nat) : 77 :: segs (gs ++ [g]) = (77 :: segs gs) ++ List.replicate (g - 1) 85 ++ [77] := by
  unfold segs
  rw [List.flatMap_append]
  show 77 :: (gs.flatMap seg ++ (seg g ++ [])) = _
  rw [List.append_nil]
  unfold seg
  simp
theorem drop_snoc (gs : List Nat) (g : Nat) : (77 :: segs (gs ++ [g])).dropLast = (77 :: segs gs) ++ List.replicate (g - 1) 85 := by
  rw [segs_snoc, List.dropLast_concat]
/-- factors of a form -/
def Fac : Fm → List Nat → Prop
  | .keep b a, _ => 0 ≤ b ∧ 0 ≤ a
  | .lf b a k c, gs => 0 ≤ b ∧ 0 ≤ a ∧ 0 ≤ c ∧ (∀ g ∈ gs, 2 ≤ g) ∧ (pr gs : Int) = k
  | .cr b a k, gs => 0 ≤ b ∧ 0 ≤ a ∧ (∀ g ∈ gs, 2 ≤ g) ∧ (pr gs : Int) = k
theorem shc_form {f : Fm} {gs : List Nat} (h : Fac f gs) : formL (shc f gs) = f := by
  have one : ∀ {l : List Nat}, (∀ g ∈ l, 2 ≤ g) → ∀ g ∈ l, 1 ≤ g := fun h g hg => by have := h g hg; omega
  cases f with
  | keep b a => exact go_start h.1 h.2
  | lf b a k c =>
    obtain ⟨h1, h2, h3, h4, h5⟩ := h
    unfold shc
    rw [← go_nothing, go_app, go_app, go_nothing, go_start h1 h2]
    show go (go ((Fm.keep b a).both (.lf 0 0 1 0)) (segs gs)) _ = _
    rw [st_kM h2, go_segs gs (one h4), go_lU _ (by decide), Int.one_mul, h5]
    congr 1
    omega
  | cr b a k =>
    obtain ⟨h1, h2, h4, h5⟩ := h
    unfold shc
    rw [← go_nothing, go_app, go_app, go_nothing, go_start h1 h2]
    rcases List.eq_nil_or_concat gs with rfl | ⟨ds, g, rfl⟩
    · show go (.keep b a) [78] = _
      show (Fm.keep b a).both (.cr 0 0 1) = _
      rw [st_kN h2, ← h5]
      rfl
    · rw [List.concat_eq_append] at h4 h5 ⊢
      have hg : 2 ≤ g := h4 g (by simp)
      rw [drop_snoc, go_app]
      show go (go (go ((Fm.keep b a).both (.lf 0 0 1 0)) (segs ds)) (List.replicate (g - 1) 85)) [78] = _
      rw [st_kM h2, go_segs ds (one fun x hx => h4 x (List.mem_append_left _ hx)), go_lU _ (by decide)]
      show (Fm.lf b a _ _).both (.cr 0 0 1) = _
      rw [st_lN (by omega), ← h5, pr_snoc]
      congr 1
      rw [Int.one_mul, Int.natCast_mul]
      congr 1
      omega
theorem segs_len : ∀ {gs : List Nat}, (∀ g ∈ gs, 1 ≤ g) → (segs gs).length = gs.sum
  | [], _ => rfl
  | g :: gs, h => by
    have hg := h g (List.mem_cons_self ..)
    have ih := segs_len fun x hx => h x (List.mem_cons_of_mem _ hx)
    show (seg g ++ segs gs).length = _
    rw [List.length_append, ih, List.sum_cons]
    unfold seg
    rw [List.length_append, List.length_replicate]
    show g - 1 + 1 + _ = _
    omega
theorem start_len {b a : Int} (hb : 0 ≤ b) (ha : 0 ≤ a) : ((startL b a).length : Int) = b + a := by
  unfold startL
  rw [List.length_append, List.length_replicate, List.length_replicate]
  omega
theorem shc_len {f : Fm} {gs : List Nat} (h : Fac f gs) : ((shc f gs).length : Int) = stepsF f gs := by
  have one : ∀ {l : List Nat}, (∀ g ∈ l, 2 ≤ g) → ∀ g ∈ l, 1 ≤ g := fun h g hg => by have := h g hg; omega
  cases f with
  | keep b a => exact start_len h.1 h.2
  | lf b a k c =>
    obtain ⟨h1, h2, h3, h4, h5⟩ := h
    have e1 := start_len h1 h2
    have e2 := segs_len (one h4)
    unfold shc
    rw [List.length_append, List.length_append, List.length_cons, List.length_replicate]
    show _ = b + a + 1 + (gs.sum : Int) + c
    omega
  | cr b a k =>
    obtain ⟨h1, h2, h4, h5⟩ := h
    have e1 := start_len h1 h2
    have e2 := segs_len (one h4)
    unfold shc
    rw [List.length_append, List.length_append, List.length_dropLast, List.length_cons]
    show ((((startL b a).length + ((segs gs).length + 1 - 1) + 1 : Nat)) : Int) = b + a + 1 + (gs.sum : Int)
    omega
theorem seg_ok {p c : Nat} (h : c ∈ seg p) : c = 85 ∨ c = 77 := by
  unfold seg at h
  rcases List.mem_append.mp h with h | h
  · exact .inl (List.mem_replicate.mp h).2
  · exact .inr (List.mem_singleton.mp h)
theorem segs_ok {gs : List Nat} {c : Nat} (h : c ∈ 77 :: segs gs) : c = 85 ∨ c = 77 := by
  rcases List.mem_cons.mp h with h | h
  · exact .inr h
  · obtain ⟨g, _, hg⟩ := List.mem_flatMap.mp h
    exact seg_ok hg
theorem start_ok {b a : Int} {c : Nat} (h : c ∈ startL b a) : c = 68 ∨ c = 85 := by
  unfold startL at h
  rcases List.mem_append.mp h with h | h
  · exact .inl (List.mem_replicate.mp h).2
  · exact .inr (List.mem_replicate.mp h).2
theorem steps_list : steps.cps.toList = [85, 68, 77, 78] := by decide
theorem shc_ok {f : Fm} {gs : List Nat} : ∀ c ∈ shc f gs, c ∈ steps.cps.toList := fun c h => by
  rw [steps_list]
  simp only [List.mem_cons, List.not_mem_nil, or_false]
  cases f with
  | keep b a => rcases start_ok h with h | h <;> omega
  | lf b a k d =>
    unfold shc at h
    rcases List.mem_append.mp h with h | h
    · rcases List.mem_append.mp h with h | h
      · rcases start_ok h with h | h <;> omega
      · rcases segs_ok h with h | h <;> omega
    · have := (List.mem_replicate.mp h).2
      omega
  | cr b a k =>
    unfold shc at h
    rcases List.mem_append.mp h with h | h
    · rcases List.mem_append.mp h with h | h
      · rcases start_ok h with h | h <;> omega
      · rcases segs_ok (List.dropLast_subset _ h) with h | h <;> omega
    · have := List.mem_singleton.mp h
      omega
/-- a form of at most n steps has a chain -/
theorem low_chain {f : Fm} {n : Nat} (h : LowB f n) : ∃ cs : List Nat, (∀ c ∈ cs, c ∈ steps.cps.toList) ∧ cs.length ≤ n ∧ formL cs = f := by
  have main : ∀ gs, Fac f gs → stepsF f gs ≤ n → ∃ cs : List Nat, (∀ c ∈ cs, c ∈ steps.cps.toList) ∧ cs.length ≤ n ∧ formL cs = f := fun gs hf hs =>
    ⟨shc f gs, shc_ok, by have := shc_len hf; omega, shc_form hf⟩
  cases f with
  | keep b a => exact main [] ⟨h.1, h.2.1⟩ h.2.2
  | lf b a k c =>
    obtain ⟨h1, h2, h3, gs, h4, h5, h6⟩ := h
    exact main gs ⟨h1, h2, h3, h4, h5⟩ h6
  | cr b a k =>
    obtain ⟨h1, h2, gs, h4, h5, h6⟩ := h
    exact main gs ⟨h1, h2, h4, h5⟩ h6
theorem low_mono {f : Fm} {n m : Nat} (h : LowB f n) (k : n ≤ m) : LowB f m := by
  cases f with
  | keep b a => exact ⟨h.1, h.2.1, by have := h.2.2; omega⟩
  | lf b a k' c =>
    obtain ⟨h1, h2, h3, gs, h4, h5, h6⟩ := h
    exact ⟨h1, h2, h3, gs, h4, h5, by omega⟩
  | cr b a k' =>
    obtain ⟨h1, h2, gs, h4, h5, h6⟩ := h
    exact ⟨h1, h2, gs, h4, h5, by omega⟩
theorem low_both {f g : Fm} {n m : Nat} (hf : LowB f n) (hg : LowB g m) (hn : n + m ≤ 7000) : LowB (f.both g) (n + m) := by
  obtain ⟨cs, c1, c2, rfl⟩ := low_chain hf
  obtain ⟨ds, d1, d2, rfl⟩ := low_chain hg
  have e : ∀ {l : List Nat}, (∀ c ∈ l, c ∈ steps.cps.toList) → ChOk ⟨l.toArray⟩ := fun h => h
  have := formOf_app (x := ⟨cs.toArray⟩) (y := ⟨ds.toArray⟩) (e c1) (e d1) (by show cs.length + ds.length ≤ 7000; omega)
  have h2 : formOf ((⟨cs.toArray⟩ : Str) ++ ⟨ds.toArray⟩) = formL (cs ++ ds) := by
    show formL (cs.toArray ++ ds.toArray).toList = _
    rw [Array.toList_append]
  have h3 : formL (cs ++ ds) = (formL cs).both (formL ds) := h2.symm.trans this
  rw [← h3]
  exact low_mono (low_form _ (cs ++ ds) rfl fun c hc => by
    rcases List.mem_append.mp hc with h | h
    · exact c1 c h
    · exact d1 c h) (by rw [List.length_append]; omega)
end Lw
namespace Lw
open PySem PySem.Spec L2 Lx
theorem scPChain : FnScope ["pool", "most", "found", "way", "turn"] ["pool", "most"] (defScope sLChain) := ⟨rfl, rfl, rfl, by decide +kernel, rfl, by decide +kernel, by decide +kernel⟩
def spPChain : Sp := fun vs H Q _ => ∃ (r : Addr) (n m : Nat), vs = [.ref r, .int m] ∧ PoolAt H r n ∧ n < 900000000 ∧ m ≤ 1000 ∧ ∀ (x : Str) H', ChOk x → x.cps.size ≤ m → PoolAt H' r (n + m + 3) → Kd r H H' → Q (.str x) H'
structure PcF (mg : Str → Option Value) : Prop where
  range : mg "range" = none
theorem pick_way {w : Int} (h0 : 0 ≤ w) (h1 : w < 3) : ∃ (z : Str) (m : Int), atI [V.str "UDMN", .str "UUDD", .str "UDUDUM"] w = some (.str z) ∧ atI [V.int 4, .int 4, .int 6] w = some (.int m) ∧ 0 < m ∧ m ≤ 6 ∧ z.length ≤ 6 ∧ ∀ v : Int, 0 ≤ v → v < m → ∃ c, atI z.cps.toList v = some c ∧ c ∈ steps.cps.toList := by
  have : w = 0 ∨ w = 1 ∨ w = 2 := by omega
  rcases this with rfl | rfl | rfl
  · refine ⟨"UDMN", 4, rfl, rfl, by decide, by decide, by decide, fun v v0 v1 => ?_⟩
    have : v = 0 ∨ v = 1 ∨ v = 2 ∨ v = 3 := by omega
    rcases this with rfl | rfl | rfl | rfl <;> exact ⟨_, rfl, by decide⟩
  · refine ⟨"UUDD", 4, rfl, rfl, by decide, by decide, by decide, fun v v0 v1 => ?_⟩
    have : v = 0 ∨ v = 1 ∨ v = 2 ∨ v = 3 := by omega
    rcases this with rfl | rfl | rfl | rfl <;> exact ⟨_, rfl, by decide⟩
  · refine ⟨"UDUDUM", 6, rfl, rfl, by decide, by decide, by decide, fun v v0 v1 => ?_⟩
    have : v = 0 ∨ v = 1 ∨ v = 2 ∨ v = 3 ∨ v = 4 ∨ v = 5 := by omega
    rcases this with rfl | rfl | rfl | rfl | rfl | rfl <;> exact ⟨_, rfl, by decide⟩
theorem chok_snoc {x : Str} (hx : ChOk x) {c : Nat} (hc : c ∈ steps.cps.toList) : ChOk (x ++ ⟨#[c]⟩) := fun d hd => by
  have e : (x ++ (⟨#[c]⟩ : Str)).cps.toList = x.cps.toList ++ [c] := Array.toList_append ..
  rw [e] at hd
  rcases List.mem_append.mp hd with h | h
  · exact hx d h
  · rw [List.mem_singleton.mp h]
    exact hc
theorem snoc_size (x : Str) (c : Nat) : (x ++ (⟨#[c]⟩ : Str)).cps.size = x.cps.size + 1 := Array.size_append ..
section
variable {P : Program} {w : World} {K : PySem.W.Frag} {mg : Str → Option Value} {base : Heap}
theorem ok_pchain {f aD : Addr} {fd dD : FuncData} {k : Nat} (F : Fun K "_law_chain" "_law_chain" sLChain f fd) (Z : PcF mg)
    (cD : Cl P w K mg base k "_law_draw" ["pool", "many"] spDraw aD dD) : FnOk P w K mg base CX0 (k + 1) f fd ["pool", "most"] spPChain := by
  refine F.ok scPChain (fun vs H Q E h => ?_) (fun cdv A outer s H vs Q E hr h => ?_)
  · obtain ⟨r, n, m, rfl, _⟩ := h
    rfl
  · obtain ⟨r, n, m, rfl, hS, hn, hm, q⟩ := h
    refine ⟨_, (pss_cons (ps_par (i := 2) (j := 3) rfl scPChain.nd rfl rfl (by decide) rfl rfl (pa_cons pe_str (pa_cons (pe_call cD.G hr (by rfl) cD.g cD.kp cD.b .nil pass0 (pa_cons (pv 0) (pa_cons pe_int pa_nil))) pa_nil)) rfl)
      (pss_cons (ps_for PassesOwn.never rfl (pi_range1 rfl Z.range (pa_cons (pe_call cD.G hr (by rfl) cD.g cD.kp cD.b .nil pass0 (pa_cons (pv 0) (pa_cons (pe_op op_add (pv 1) pe_int) pa_nil))) pa_nil)) (pg_name (i := 4) scPChain.nd rfl (.inl rfl))
          (pss_one (ps_set (i := 2) scPChain.nd rfl (.inl rfl) (pe_op op_add_str (pv 2) (pe_ix ix_str (pe_ix ix_list (pe_lst (pa_cons pe_str (pa_cons pe_str (pa_cons pe_str pa_nil)))) (pv 3) (fun _ _ => rfl)) (pe_call cD.G hr (by rfl) cD.g cD.kp cD.b .nil pass0 (pa_cons (pv 0) (pa_cons (pe_ix ix_list (pe_lst (pa_cons pe_int (pa_cons pe_int (pa_cons pe_int pa_nil)))) (pv 3) (fun _ _ => rfl)) pa_nil))) (fun _ _ => rfl))))))
      (pss_one (ps_ret (pv 2))))), ?_⟩
    have p10 : (2 : Nat) ^ 10 = 1024 := by decide
    have p40 : (2 : Nat) ^ 10 ≤ 2 ^ 4000 := Nat.pow_le_pow_right (by decide) (by decide)
    refine ⟨_, rfl, r, n, 3, rfl, hS, by omega, by decide, by decide, fun wy H1 w0 w1 hS1 k1 => ⟨_, _, rfl, ?_⟩⟩
    obtain ⟨z, mz, hz1, hz2, m0, m1, zl, hz⟩ := pick_way w0 w1
    dsimp only [gName, tNext, tSeq]
    refine ⟨_, rfl, _, rfl, _, _, rfl, rfl, r, _, (m : Int) + 1, rfl, hS1, by omega, by omega, ?_, fun cnt H2 c0 c1 hS2 k2 => ?_⟩
    · exact Nat.lt_of_lt_of_le (show ((m : Int) + 1).natAbs < 2 ^ 10 by omega) p40
    refine ⟨_, rfl, by omega, by omega, ?_⟩
    refine for_range (lo := 0) (n := cnt.toNat) (fun j σ H' => ∃ (x : Str) (y4 : Option V), σ = [some (.ref r), some (.int m), some (.str x), some (.int wy), y4] ∧ ChOk x ∧ x.cps.size = j ∧ PoolAt H' r (n + 2 + j) ∧ Kd r H H') ⟨"", none, rfl, (fun c hc => by have : c ∈ ([] : List Nat) := hc; cases this), rfl, hS2, k1.trans k2⟩ ?_ ?_
    · rintro j σ H3 hj ⟨x, y4, rfl, hx, hxl, hS3, k3⟩
      refine ⟨_, rfl, by show 3 ≤ sizeLine; decide, fun l1 n1 => ?_⟩
      have s1 := same_upd (o := .lst [.str "UDMN", .str "UUDD", .str "UDUDUM"]) n1
      refine ⟨_, rfl, l1, _, wy, _, rfl, rfl, .inl (.inl upd_same), hz1, ?_⟩
      refine ⟨_, rfl, by show 3 ≤ sizeLine; decide, fun l2 n2 => ?_⟩
      have s2 := s1.trans (same_upd (o := .lst [.int 4, .int 4, .int 6]) n2)
      refine ⟨_, rfl, l2, _, wy, _, rfl, rfl, .inl (.inl upd_same), hz2, r, _, mz, rfl, hS3.same s2, by omega, m0, ?_, fun v H5 v0 v1 hS5 k5 => ?_⟩
      · exact Nat.lt_of_lt_of_le (show mz.natAbs < 2 ^ 10 by omega) p40
      obtain ⟨c, hc, hcm⟩ := hz v v0 v1
      refine ⟨z, v, c, rfl, rfl, by rw [sizeLine_eq]; omega, hc, _, _, rfl, rfl, ?_, ?_⟩
      · rw [sizeLine_eq]
        show x.cps.size + 1 ≤ _
        omega
      · exact ⟨_, _, rfl, chok_snoc hx hcm, by rw [snoc_size]; omega, hS5.mono (by omega), (k3.trans (Kd.of s2)).trans k5⟩
    · rintro σ H3 ⟨x, y4, rfl, hx, hxl, hS3, k3⟩
      exact ⟨_, rfl, q x H3 hx (by omega) (hS3.mono (by omega)) k3⟩
end
end Lw
namespace Lw
open PySem PySem.Spec L2 Lx
theorem scPPiece : FnScope ["pool", "most", "many", "way", "signs", "turn"] ["pool", "most"] (defScope sLPiece) := ⟨rfl, rfl, rfl, by decide +kernel, rfl, by decide +kernel, by decide +kernel⟩
def spPPiece : Sp := fun vs H Q _ => ∃ (r : Addr) (n m : Nat), vs = [.ref r, .int m] ∧ PoolAt H r n ∧ n < 900000000 ∧ m ≤ 1000 ∧ ∀ (x : Str) H', x.cps.size ≤ m → PoolAt H' r (n + m + 4) → Kd r H H' → Q (.str x) H'
structure PiF (mg : Str → Option Value) : Prop where
  range : mg "range" = none
  len : mg "len" = none
theorem pick_sg {w : Int} (h0 : 0 ≤ w) (h1 : w < 3) : ∃ z : Str, atI [V.str "^\n", .str "^^^\n", .str "^\n\n\n"] w = some (.str z) ∧ 0 < z.length ∧ z.length ≤ 4 := by
  have : w = 0 ∨ w = 1 ∨ w = 2 := by omega
  rcases this with rfl | rfl | rfl
  · exact ⟨"^\n", rfl, by decide, by decide⟩
  · exact ⟨"^^^\n", rfl, by decide, by decide⟩
  · exact ⟨"^\n\n\n", rfl, by decide, by decide⟩
theorem at_str {z : Str} {v : Int} (h0 : 0 ≤ v) (h1 : v < z.length) : ∃ c, atI z.cps.toList v = some c := by
  have hj : v.toNat < z.cps.toList.length := by
    rw [Array.length_toList]
    have : (z.length : Int) = (z.cps.size : Nat) := rfl
    omega
  refine ⟨z.cps.toList[v.toNat], ?_⟩
  have := atI_nat (xs := z.cps.toList) (j := v.toNat) (List.getElem?_eq_getElem hj)
  rw [Int.toNat_of_nonneg h0] at this
  exact this
theorem joinP_len {l : List Str} (h : ∀ x ∈ l, x.length = 1) : (Txt.join "" l).cps.size = l.length := by
  have jn : ∀ ps : List (List Nat), TL.joinL [] ps = ps.flatten := fun ps => by
    induction ps with
    | nil => rfl
    | cons a r ih =>
      cases r with
      | nil => show a = _; simp
      | cons b r =>
        show a ++ ([] ++ TL.joinL [] (b :: r)) = _
        rw [ih, List.nil_append]
        rfl
  rw [← Array.length_toList, TL.join_eq]
  refine (congrArg List.length (TL.tl_join "" l)).trans ?_
  show (TL.joinL [] _).length = _
  rw [jn]
  induction l with
  | nil => rfl
  | cons x l ih =>
    rw [List.map_cons, List.flatten_cons, List.length_append, ih fun y hy => h y (List.mem_cons_of_mem _ hy), List.length_cons, ← TL.len_tl, h x (List.mem_cons_self ..)]
    omega
theorem lenP_one {l : List Str} (h : ∀ x ∈ l, x.length = 1) : (l.map (·.length)).sum = l.length := by
  induction l with
  | nil => rfl
  | cons x l ih =>
    rw [List.map_cons, List.sum_cons, ih fun y hy => h y (List.mem_cons_of_mem _ hy), h x (List.mem_cons_self ..), List.length_cons]
    omega
theorem cutS_most (x : Str) (m : Nat) : (cutS x none (some (m : Int))).cps.size ≤ m := by
  show (((x.cps.toList.drop (HT.sIx x.length 0 none)).take (HT.sIx x.length x.length (some (m : Int)) - HT.sIx x.length 0 none)).toArray).size ≤ m
  rw [HT.sIx_none, HT.sIx_nat, List.size_toArray, List.length_take]
  omega
section
variable {P : Program} {w : World} {K : PySem.W.Frag} {mg : Str → Option Value} {base : Heap}
theorem ok_ppiece {f aD : Addr} {fd dD : FuncData} {k : Nat} (F : Fun K "_law_piece" "_law_piece" sLPiece f fd) (Z : PiF mg)
    (cD : Cl P w K mg base k "_law_draw" ["pool", "many"] spDraw aD dD) : FnOk P w K mg base CX0 (k + 1) f fd ["pool", "most"] spPPiece := by
  refine F.ok scPPiece (fun vs H Q E h => ?_) (fun cdv A outer s H vs Q E hr h => ?_)
  · obtain ⟨r, n, m, rfl, _⟩ := h
    rfl
  · obtain ⟨r, n, m, rfl, hS, hn, hm, q⟩ := h
    refine ⟨_, (pss_cons (ps_par (i := 2) (j := 3) rfl scPPiece.nd rfl rfl (by decide) rfl rfl (pa_cons (pe_call cD.G hr (by rfl) cD.g cD.kp cD.b .nil pass0 (pa_cons (pv 0) (pa_cons (pe_op op_add (pv 1) pe_int) pa_nil))) (pa_cons (pe_call cD.G hr (by rfl) cD.g cD.kp cD.b .nil pass0 (pa_cons (pv 0) (pa_cons pe_int pa_nil))) pa_nil)) rfl)
      (pss_cons (ps_if (pt_cmpR op_eq (pv 3) pe_int (nomark _))
          (pss_one (ps_ret (pe_slice sl_str (pe_op op_add_str (pe_op op_repS (pe_op op_add_str (pe_op op_repS pe_str (pe_call cD.G hr (by rfl) cD.g cD.kp cD.b .nil pass0 (pa_cons (pv 0) (pa_cons pe_int pa_nil)))) pe_str) (pe_op op_fdiv (pv 2) pe_int)) (pe_op op_repS pe_str (pe_call cD.G hr (by rfl) cD.g cD.kp cD.b .nil pass0 (pa_cons (pv 0) (pa_cons (pe_op op_add (pe_op op_fdiv (pv 2) pe_int) pe_int) pa_nil))))) po_none (po_some (pv 1))))) pss_nil)
      (pss_cons (ps_set (i := 4) scPPiece.nd rfl (.inr rfl) (pe_ix ix_list (pe_lst (pa_cons pe_str (pa_cons pe_str (pa_cons pe_str pa_nil)))) (pe_op op_sub (pv 3) pe_int) (fun _ _ => rfl)))
      (pss_one (ps_ret (pe_join pe_str (pe_lc (own := [("turn", 5)]) (g := (gName 5)) (tt := tYes) rfl scPPiece.nd (pi_range1 rfl Z.range (pa_cons (pv 2) pa_nil)) (blkOk_by (own := [("turn", 5)]) (N := ["pool", "most", "many", "way", "signs", "turn"]) (sc := defScope sLPiece) (by decide +kernel)) (fun _ _ _ _ _ => (pg_name (i := 5) scPPiece.nd rfl (.inl rfl))) (fun _ _ _ _ _ => pts_nil) (fun _ _ _ _ _ => (pe_ix ix_str (pv 4) (pe_call cD.G hr (by rfl) cD.g cD.kp cD.b .nil pass0 (pa_cons (pv 0) (pa_cons (pe_callB call_len_str (by rfl) Z.len PySem.boot_len (pa_cons (pv 4) pa_nil)) pa_nil))) (fun _ _ => rfl)))))))))), ?_⟩
    have p10 : (2 : Nat) ^ 10 = 1024 := by decide
    have p40 : (2 : Nat) ^ 10 ≤ 2 ^ 4000 := Nat.pow_le_pow_right (by decide) (by decide)
    have sm : ∀ i : Int, 0 ≤ i → i ≤ 1001 → i.natAbs < 2 ^ 4000 := fun i h0 h1 => Nat.lt_of_lt_of_le (show i.natAbs < 2 ^ 10 by omega) p40
    have la : ∀ x y : Str, (x ++ y).length = x.length + y.length := fun x y => Array.size_append ..
    refine ⟨_, rfl, _, rfl, _, _, rfl, rfl, r, n, (m : Int) + 1, rfl, hS, by omega, by omega, sm _ (by omega) (by omega), fun many H1 c0 c1 hS1 k1 => ?_⟩
    refine ⟨_, rfl, r, _, 4, rfl, hS1, by omega, by decide, by decide, fun way H2 w0 w1 hS2 k2 => ?_⟩
    dsimp only [gName, tNext, tSeq]
    refine ⟨_, _, rfl, ?_⟩
    refine ⟨_, rfl, rfl, _, rfl, ite2 (fun cw => ?_) (fun cw => ?_)⟩
    · refine ⟨_, rfl, r, _, 4, rfl, hS2, by omega, by decide, by decide, fun v H3 v0 v1 hS3 k3 => ?_⟩
      refine ⟨"^", v, rfl, rfl, by omega, by omega, ?_, _, _, rfl, rfl, ?_, ?_⟩
      · rw [sizeLine_eq]
        show 1 * v.toNat ≤ _
        omega
      · have := rep_len "^" v.toNat
        rw [sizeLine_eq, this]
        show 1 * v.toNat + 1 ≤ _
        omega
      refine ⟨_, rfl, _, _, rfl, rfl, ⟨by decide, by decide⟩, ?_⟩
      have hq0 : 0 ≤ many / 4 := Int.ediv_nonneg c0 (by decide)
      have hq1 : many / 4 ≤ 250 := by omega
      have hlen1 : (rep "^" v.toNat ++ "\n").length ≤ 4 := by
        have := rep_len "^" v.toNat
        rw [la, this]
        show 1 * v.toNat + 1 ≤ _
        omega
      refine ⟨_, many / 4, rfl, rfl, hq0, by omega, ?_, ?_⟩
      · rw [sizeLine_eq]
        have := Nat.mul_le_mul hlen1 (show (many / 4).toNat ≤ 250 by omega)
        omega
      refine ⟨_, rfl, _, rfl, _, _, rfl, rfl, ⟨by decide, by decide⟩, _, _, rfl, rfl, r, _, many / 4 + 1, rfl, hS3, by omega, by omega, sm _ (by omega) (by omega), fun u H4 u0 u1 hS4 k4 => ?_⟩
      have hu := rep_len "^" u.toNat
      have hb2 := rep_len (rep "^" v.toNat ++ "\n") (many / 4).toNat
      have hm4 := Nat.mul_le_mul hlen1 (show (many / 4).toNat ≤ 250 by omega)
      have hu' : (rep "^" u.toNat).length ≤ 1001 := by
        rw [hu]
        show 1 * u.toNat ≤ _
        omega
      refine ⟨"^", u, rfl, rfl, u0, by omega, ?_, _, _, rfl, rfl, ?_, ?_⟩
      · rw [sizeLine_eq]
        show 1 * u.toNat ≤ _
        omega
      · rw [sizeLine_eq, hb2]
        omega
      refine ⟨_, rfl, (m : Int), rfl, _, rfl, ?_, ?_⟩
      · rw [la, hb2, sizeLine_eq]
        omega
      · exact q _ _ (cutS_most _ _) (hS4.mono (by omega)) (((k1.trans k2).trans k3).trans k4)
    · have cw' : ¬ way = 0 := fun e => cw (decide_eq_true (by rw [e]))
      obtain ⟨z, hz, z0, z4⟩ := pick_sg (w := way - 1) (by omega) (by omega)
      refine ⟨by show 3 ≤ sizeLine; decide, fun l1 n1 => ?_⟩
      have s3 := same_upd (o := .lst [.str "^\n", .str "^^^\n", .str "^\n\n\n"]) n1
      refine ⟨_, rfl, _, _, rfl, rfl, l1, _, _, _, rfl, rfl, .inl (.inl upd_same), hz, ?_⟩
      have hS3 := hS2.same s3
      have k3 := (k1.trans k2).trans (Kd.of s3)
      refine ⟨⟨"", rfl⟩, _, rfl, _, rfl, by omega, by omega, fun D nD => ?_⟩
      have hDr := hS3.ne nD
      have hDf : H D = none := Kd.freeP k3 hS3 nD
      refine lc_it (walk_range (lo := 0) (n := many.toNat)) (fun j H' => ∃ zs : List Str, H' D = some (.lst (zs.map V.str)) ∧ zs.length = j ∧ (∀ x ∈ zs, x.length = 1) ∧ PoolAt H' r (n + 2 + j) ∧ Kd r H H') ⟨[], upd_same, rfl, (fun x hx => by cases hx), hS3.own hDr, ?_⟩ (fun _ _ _ _ => trivial) ?_ ?_
      · exact k3.trans (Kd.of (same_upd nD))
      · rintro j u H3 H4 hj ⟨zs, hD, hl, hzs, hS4, hk⟩ ⟨rfl, rfl⟩
        refine ⟨rfl, _, rfl, _, rfl, _, rfl, z, rfl, by rw [sizeLine_eq]; omega, r, _, (z.length : Int), rfl, hS4, by omega, by omega, sm _ (by omega) (by omega), fun v H5 v0 v1 hS5 k5 => ?_⟩
        obtain ⟨c, hc⟩ := at_str v0 v1
        have hD5 := k5 _ _ hDr hD
        refine ⟨z, v, c, rfl, rfl, by rw [sizeLine_eq]; omega, hc, _, hD5, by rw [List.length_map, sizeLine_eq]; omega, zs ++ [⟨#[c]⟩], ?_, by rw [List.length_append, hl]; rfl, fun x hx => ?_, (hS5.own hDr).mono (by omega), ?_⟩
        · rw [upd_same, List.map_append]
          rfl
        · rcases List.mem_append.mp hx with h | h
          · exact hzs x h
          · rw [List.mem_singleton.mp h]
            rfl
        · exact (hk.trans k5).own hDf
      · rintro H3 ⟨zs, hD, hl, hzs, hS4, hk⟩
        have hls := lenP_one hzs
        have hlj := joinP_len hzs
        refine ⟨"", D, zs, rfl, rfl, .inl (.inl (.inl hD)), by rw [hls]; show _ + _ * 0 ≤ _; omega, q _ _ (by omega) (hS4.mono (by omega)) hk⟩
end
end Lw
namespace Lx
open PySem PySem.Spec L2
/-! ### a test against a written text puts a token out: what stands in its branches may replace in texts -/
def PTC (X : Cx) (e : Expr) (t : TT) : Prop :=
  ∀ (pins : List (Addr × Obj)) (s : Shared) (σ : St) (H : Hp) (Q : Bool → Hp → Prop), Inv X pins σ H s → t σ H Q → wpAny (model X.prog X.w) X.A (isTrue e X.env (eval e X.env)) (fun d s1 => 1 ≤ s1.toks ∧ TP X pins σ Q d s1) X.xe s
section
variable {X : Cx} {a c e : Expr} {ta te : TE} {tc : TT} {t u : TS} {A B : List Stmt} {x : Str} {j : Nat} {p p' pos pos' : Pos}
theorem ptc_cmp {op : CmpOp} {r : R2} (ho : OpR X (compareOp op) r) (ha : PE X a ta) (hm : behindInMarks op (.Constant (.str x) j p) = false) : PTC X (.Compare a [op] [.Constant (.str x) j p] pos) (tTest (tOp r ta (tC (.str x)))) := by
  intro pins s σ H Q I h
  refine wpAny_isTrue_Compare1 (thn (ha.run pins s σ H _ I h) fun v s1 ⟨y, H1, I1, r1, q1⟩ => Calls.Constant_str ?_) hm
  refine wpAny_mono (PySem.wpAny_toks_of (n := 1) (by show 1 ≤ s1.toks + 1; omega) (ho pins { s1 with toks := s1.toks + 1 } σ H1 y (.str x) v (.str x s1.toks) _ (I1.tok _) r1 ⟨_, rfl⟩ q1)) (fun c s3 q => ?_) fun _ _ z => z.2
  obtain ⟨hk, z, H3, I3, r3, k, e, q3⟩ := q
  subst e
  cases r3
  exact wpAny_truthy_bool ⟨hk, H3, I3, q3⟩
theorem ps_ifC (hc : PTC X c tc) (ha : PSsT X A t) (hb : PSsT X B u) : PS X (.If c A B pos) (tIfS tc t u) := by
  refine ⟨fun pins s σ H D I h => ?_⟩
  refine wpAny_If (thn (hc pins s σ H _ I h) fun d s1 q => ?_)
  obtain ⟨hk, H1, I1, q1⟩ := q
  cases d with
  | true => exact ha pins s1 σ H1 D hk I1 q1
  | false => exact hb pins s1 σ H1 D hk I1 q1
theorem pst_set {i : Nat} {y : Str} (hN : X.N.Nodup) (hi : X.N[i]? = some y) (hx : Loc X.env.scope y) (he : PET X e te) (hs : swapsWith e (some (.Name y pos')) pos.line X.env = pure false := by rfl) (hf : X.fn y = true ∨ X.env.scope.names.lookup y = some .local := by first | exact .inl rfl | exact .inr rfl | assumption) :
    PST X (.Assign [.Name y pos'] e pos) (tAsg te (gName i)) := by
  intro pins s σ H D h0 I h
  refine wpAny_Assign_Name (thn (he pins s σ H _ h0 I h) fun v s1 ⟨y, H1, I1, r1, q1⟩ => ?_) hs
  exact store_ok I1 hN hi hx r1 (fun s2 I2 => ⟨_, H1, I2, q1⟩) hf
end
/-! ### steps on texts -/
open PySem.StrLaws
def stepT (c : Nat) (l : List Nat) : List Nat := if c = 85 then replL [10] [94, 10] l else if c = 68 then replL [94, 10] [10] l else if c = 77 then replL [94] [10] l else replL [10] [94] l
def doneT (l cs : List Nat) : List Nat := cs.foldl (fun l c => stepT c l) l
theorem doneT_snoc (l cs : List Nat) (c : Nat) : doneT l (cs ++ [c]) = stepT c (doneT l cs) := by
  unfold doneT
  rw [List.foldl_append]
  rfl
theorem replS_len {y z : List Nat} (hz : z.length ≤ 2) : ∀ (l : List Nat) (s : Nat), (replS y z s l).length ≤ 2 * l.length
  | [], s => by cases s <;> simp [replS]
  | c :: r, 0 => by
    rw [replS]
    split
    · have := replS_len (y := y) hz r (y.length - 1)
      rw [List.length_append, List.length_cons]
      omega
    · have := replS_len (y := y) hz r 0
      rw [List.length_cons, List.length_cons]
      omega
  | c :: r, s + 1 => by
    rw [replS]
    have := replS_len (y := y) hz r s
    rw [List.length_cons]
    omega
theorem stepT_len (c : Nat) (l : List Nat) : (stepT c l).length ≤ 2 * l.length := by
  unfold stepT
  split
  · exact replS_len (by decide) l 0
  · split
    · exact replS_len (by decide) l 0
    · split <;> exact replS_len (by decide) l 0
theorem doneT_len (l : List Nat) : ∀ (k : Nat) (cs : List Nat), cs.length = k → (doneT l cs).length ≤ l.length * 2 ^ k
  | 0, cs, h => by
    rw [List.length_eq_zero_iff.mp h]
    show l.length ≤ l.length * 2 ^ 0
    omega
  | k + 1, cs, h => by
    rcases List.eq_nil_or_concat cs with rfl | ⟨ds, c, rfl⟩
    · cases h
    · have e : ds.length = k := by simpa using h
      rw [List.concat_eq_append, doneT_snoc, Nat.pow_succ]
      have h1 := stepT_len c (doneT l ds)
      have h2 := doneT_len l k ds e
      generalize 2 ^ k = m at h2 ⊢
      rw [← Nat.mul_assoc]
      omega
/-- the text of groups with these numbers of ^, and a rest -/
def up (n : Nat) : List Nat := List.replicate n 94
def spT (rows : List Nat) (rest : Nat) : List Nat := rows.flatMap (fun j => up j ++ [10]) ++ up rest
def unT (rows : List Nat) (rest : Nat) : Nat := rows.sum + rows.length + rest
theorem up_succ (n : Nat) : up (n + 1) = 94 :: up n := rfl
theorem spT_cons (j : Nat) (rows : List Nat) (rest : Nat) : spT (j :: rows) rest = up j ++ 10 :: spT rows rest := by
  unfold spT
  rw [List.flatMap_cons, List.append_assoc, List.append_assoc]
  rfl
theorem spT_len : ∀ (rows : List Nat) (rest : Nat), (spT rows rest).length = unT rows rest
  | [], rest => by simp [spT, unT, up]
  | j :: rows, rest => by
    have ih := spT_len rows rest
    rw [spT_cons, List.length_append, List.length_cons, ih]
    simp only [unT, up, List.length_replicate, List.sum_cons, List.length_cons]
    omega
/- U -/
theorem u_up (r : List Nat) : ∀ j, replL [10] [94, 10] (up j ++ r) = up j ++ replL [10] [94, 10] r
  | 0 => rfl
  | j + 1 => by
    rw [up_succ, List.cons_append, replL_miss (by simp), u_up r j]
    rfl
theorem up_snoc (j : Nat) (r : List Nat) : up j ++ 94 :: r = up (j + 1) ++ r := by
  unfold up
  rw [List.replicate_succ', List.append_assoc]
  rfl
theorem stepU : ∀ (rows : List Nat) (rest : Nat), replL [10] [94, 10] (spT rows rest) = spT (rows.map (· + 1)) rest
  | [], rest => by
    have := u_up [] rest
    rw [replL_nil, List.append_nil] at this
    simpa [spT] using this
  | j :: rows, rest => by
    rw [spT_cons, u_up, replL_hit (by simp) (by simp), List.map_cons, spT_cons]
    have ih := stepU rows rest
    show up j ++ ([94, 10] ++ replL [10] [94, 10] (spT rows rest)) = _
    rw [ih]
    exact up_snoc j _
/- D -/
theorem d_up : ∀ (j : Nat) (r : List Nat), replL [94, 10] [10] (up j ++ 10 :: r) = up (j - 1) ++ 10 :: replL [94, 10] [10] r
  | 0, r => by
    show replL [94, 10] [10] (10 :: r) = _
    rw [replL_miss (by simp)]
    rfl
  | 1, r => by
    show replL [94, 10] [10] (94 :: 10 :: r) = _
    rw [replL_hit (by simp) (by simp)]
    rfl
  | j + 2, r => by
    rw [up_succ, List.cons_append, replL_miss (by simp [up_succ]), d_up (j + 1) r]
    rfl
theorem d_rest : ∀ (n : Nat), replL [94, 10] [10] (up n) = up n
  | 0 => replL_nil
  | 1 => by
    show replL [94, 10] [10] [94] = [94]
    rw [replL_miss (by simp), replL_nil]
  | n + 2 => by
    rw [up_succ, replL_miss (by simp [up_succ]), d_rest (n + 1)]
theorem stepD : ∀ (rows : List Nat) (rest : Nat), replL [94, 10] [10] (spT rows rest) = spT (rows.map (· - 1)) rest
  | [], rest => by simpa [spT] using d_rest rest
  | j :: rows, rest => by rw [spT_cons, d_up, stepD rows rest, List.map_cons, spT_cons]
/- M, N -/
theorem m_up (r : List Nat) : ∀ j, replL [94] [10] (up j ++ r) = List.replicate j 10 ++ replL [94] [10] r
  | 0 => rfl
  | j + 1 => by
    rw [up_succ, List.cons_append, replL_hit (by simp) (by simp)]
    show [10] ++ replL [94] [10] (up j ++ r) = _
    rw [m_up r j]
    rfl
theorem m_all : ∀ (rows : List Nat) (rest : Nat), replL [94] [10] (spT rows rest) = List.replicate (unT rows rest) 10
  | [], rest => by
    have := m_up [] rest
    rw [replL_nil, List.append_nil] at this
    rw [List.append_nil] at this
    simpa [spT, unT] using this
  | j :: rows, rest => by
    rw [spT_cons, m_up, replL_miss (by simp), m_all rows rest]
    have e : unT (j :: rows) rest = j + (1 + unT rows rest) := by simp only [unT, List.sum_cons, List.length_cons]; omega
    rw [e, ← List.replicate_append_replicate, ← List.replicate_append_replicate (n := 1)]
    rfl
theorem spT_zeros : ∀ n, spT (List.replicate n 0) 0 = List.replicate n 10
  | 0 => rfl
  | n + 1 => by
    rw [List.replicate_succ, spT_cons, spT_zeros n]
    rfl
theorem stepM (rows : List Nat) (rest : Nat) : replL [94] [10] (spT rows rest) = spT (List.replicate (unT rows rest) 0) 0 := by rw [m_all, spT_zeros]
theorem n_up (r : List Nat) : ∀ j, replL [10] [94] (up j ++ r) = up j ++ replL [10] [94] r
  | 0 => rfl
  | j + 1 => by
    rw [up_succ, List.cons_append, replL_miss (by simp), n_up r j]
    rfl
theorem stepN : ∀ (rows : List Nat) (rest : Nat), replL [10] [94] (spT rows rest) = spT [] (unT rows rest)
  | [], rest => by
    have := n_up [] rest
    rw [replL_nil, List.append_nil] at this
    simpa [spT, unT] using this
  | j :: rows, rest => by
    have ih := stepN rows rest
    rw [spT_cons, n_up, replL_hit (by simp) (by simp)]
    show up j ++ ([94] ++ replL [10] [94] (spT rows rest)) = _
    rw [ih]
    have e : unT (j :: rows) rest = j + (1 + unT rows rest) := by simp only [unT, List.sum_cons, List.length_cons]; omega
    show up j ++ ([94] ++ up (unT rows rest)) = up (unT (j :: rows) rest)
    rw [e]
    unfold up
    rw [← List.replicate_append_replicate, ← List.replicate_append_replicate (n := 1)]
    rfl
/-! ### what a form makes of groups -/
/-- told by natural numbers -/
def sdRows (b a : Nat) (rows : List Nat) : List Nat := rows.map (fun j => (j - b) + a)
def saidT (f : Fm) (rows : List Nat) (rest : Nat) : List Nat := match f with
  | .keep b a => spT (sdRows b.toNat a.toNat rows) rest
  | .lf b a k c => spT (List.replicate (k.toNat * unT (sdRows b.toNat a.toNat rows) rest) c.toNat) 0
  | .cr b a k => spT [] (k.toNat * unT (sdRows b.toNat a.toNat rows) rest)
theorem unT_rep : ∀ (n c r : Nat), unT (List.replicate n c) r = n * (c + 1) + r
  | 0, c, r => by simp [unT]
  | n + 1, c, r => by
    have ih := unT_rep n c r
    rw [List.replicate_succ]
    have e : unT (c :: List.replicate n c) r = (c + 1) + unT (List.replicate n c) r := by simp only [unT, List.sum_cons, List.length_cons]; omega
    rw [e, ih, Nat.succ_mul]
    omega
theorem sd_up (b a : Nat) (rows : List Nat) : sdRows b (a + 1) rows = (sdRows b a rows).map (· + 1) := by
  unfold sdRows
  rw [List.map_map]
  exact List.map_congr_left fun j _ => by show j - b + (a + 1) = (j - b + a) + 1; omega
theorem sd_dn (b a : Nat) (rows : List Nat) : sdRows b a rows = (sdRows b (a + 1) rows).map (· - 1) := by
  unfold sdRows
  rw [List.map_map]
  exact List.map_congr_left fun j _ => by show j - b + a = (j - b + (a + 1)) - 1; omega
theorem sd_dn0 (b : Nat) (rows : List Nat) : sdRows (b + 1) 0 rows = (sdRows b 0 rows).map (· - 1) := by
  unfold sdRows
  rw [List.map_map]
  exact List.map_congr_left fun j _ => by show j - (b + 1) + 0 = (j - b + 0) - 1; omega
theorem sd_0 (rows : List Nat) : sdRows 0 0 rows = rows := by
  unfold sdRows
  exact (List.map_congr_left fun j _ => by show j - 0 + 0 = id j; show _ = j; omega).trans (List.map_id rows)
theorem natF {n : Nat} {f : Fm} (h : f.Ok n) : (∃ b a : Nat, f = .keep b a) ∨ (∃ b a k c : Nat, f = .lf b a k c) ∨ (∃ b a k : Nat, f = .cr b a k) := by
  cases f with
  | keep b a =>
    obtain ⟨b', rfl⟩ := Int.eq_ofNat_of_zero_le h.1
    obtain ⟨a', rfl⟩ := Int.eq_ofNat_of_zero_le h.2.1
    exact .inl ⟨_, _, rfl⟩
  | lf b a k c =>
    obtain ⟨b', rfl⟩ := Int.eq_ofNat_of_zero_le h.1
    obtain ⟨a', rfl⟩ := Int.eq_ofNat_of_zero_le h.2.1
    obtain ⟨k', rfl⟩ := Int.eq_ofNat_of_zero_le (Int.le_of_lt h.2.2.1)
    obtain ⟨c', rfl⟩ := Int.eq_ofNat_of_zero_le h.2.2.2.1
    exact .inr (.inl ⟨_, _, _, _, rfl⟩)
  | cr b a k =>
    obtain ⟨b', rfl⟩ := Int.eq_ofNat_of_zero_le h.1
    obtain ⟨a', rfl⟩ := Int.eq_ofNat_of_zero_le h.2.1
    obtain ⟨k', rfl⟩ := Int.eq_ofNat_of_zero_le (Int.le_of_lt h.2.2.1)
    exact .inr (.inr ⟨_, _, _, rfl⟩)
theorem mul1 (k c : Nat) : ((k : Int) * ((c : Int) + 1) * 1) = ((k * (c + 1) : Nat) : Int) := by
  rw [Int.mul_one, Int.natCast_mul]
  rfl
theorem af0 (c : Nat) (k : Int) (c' : Int) : Fm.after (.lf 0 0 k c') c = c := by
  unfold Fm.after Fm.b Fm.a
  dsimp only
  split <;> omega
theorem af0c (c : Nat) (k : Int) : Fm.after (.cr 0 0 k) c = c := by
  unfold Fm.after Fm.b Fm.a
  dsimp only
  split <;> omega
end Lx
namespace Lw
open PySem PySem.Spec L2 Lx
open PySem.StrLaws
theorem said_step {n : Nat} {f : Fm} (h : f.Ok n) {c : Nat} (hc : c ∈ steps.cps.toList) (rows : List Nat) (rest : Nat) : saidT (f.both (stepF c)) rows rest = stepT c (saidT f rows rest) := by
  have hc4 : c = 85 ∨ c = 68 ∨ c = 77 ∨ c = 78 := by
    have : c ∈ ([85, 68, 77, 78] : List Nat) := hc
    simpa using this
  rcases natF h with ⟨b, a, rfl⟩ | ⟨b, a, k, d, rfl⟩ | ⟨b, a, k, rfl⟩
  · rcases hc4 with rfl | rfl | rfl | rfl
    · have e : (Fm.keep b a).both (stepF 85) = .keep b ((a + 1 : Nat) : Int) := by
        show Fm.keep ((b : Int) + (if (0 : Int) - a > 0 then (0 : Int) - a else 0)) ((if (a : Int) - 0 > 0 then (a : Int) - 0 else 0) + 1) = _
        congr 1 <;> split <;> omega
      rw [e]
      show spT (sdRows (b : Int).toNat ((a + 1 : Nat) : Int).toNat rows) rest = replL [10] [94, 10] (spT (sdRows (b : Int).toNat (a : Int).toNat rows) rest)
      rw [Int.toNat_natCast, Int.toNat_natCast, Int.toNat_natCast, stepU, sd_up]
    · cases a with
      | zero =>
        have e : (Fm.keep b ((0 : Nat) : Int)).both (stepF 68) = .keep ((b + 1 : Nat) : Int) ((0 : Nat) : Int) := by
          show Fm.keep ((b : Int) + (if (1 : Int) - ((0 : Nat) : Int) > 0 then (1 : Int) - ((0 : Nat) : Int) else 0)) ((if ((0 : Nat) : Int) - 1 > 0 then ((0 : Nat) : Int) - 1 else 0) + 0) = _
          congr 1 <;> split <;> omega
        rw [e]
        show spT (sdRows ((b + 1 : Nat) : Int).toNat ((0 : Nat) : Int).toNat rows) rest = replL [94, 10] [10] (spT (sdRows (b : Int).toNat ((0 : Nat) : Int).toNat rows) rest)
        rw [Int.toNat_natCast, Int.toNat_natCast, Int.toNat_natCast, stepD, sd_dn0]
      | succ a =>
        have e : (Fm.keep b ((a + 1 : Nat) : Int)).both (stepF 68) = .keep b a := by
          show Fm.keep ((b : Int) + (if (1 : Int) - ((a + 1 : Nat) : Int) > 0 then (1 : Int) - ((a + 1 : Nat) : Int) else 0)) ((if ((a + 1 : Nat) : Int) - 1 > 0 then ((a + 1 : Nat) : Int) - 1 else 0) + 0) = _
          congr 1 <;> split <;> omega
        rw [e]
        show spT (sdRows (b : Int).toNat (a : Int).toNat rows) rest = replL [94, 10] [10] (spT (sdRows (b : Int).toNat ((a + 1 : Nat) : Int).toNat rows) rest)
        rw [Int.toNat_natCast, Int.toNat_natCast, Int.toNat_natCast, stepD, ← sd_dn]
    · have e : (Fm.keep b a).both (stepF 77) = .lf b a ((1 : Nat) : Int) ((0 : Nat) : Int) := by
        show Fm.lf ((b : Int) + (if (0 : Int) - a > 0 then (0 : Int) - a else 0)) ((if (a : Int) - 0 > 0 then (a : Int) - 0 else 0) + 0) 1 0 = _
        congr 1 <;> split <;> omega
      rw [e]
      show spT (List.replicate (((1 : Nat) : Int).toNat * unT (sdRows (b : Int).toNat (a : Int).toNat rows) rest) ((0 : Nat) : Int).toNat) 0 = replL [94] [10] (spT (sdRows (b : Int).toNat (a : Int).toNat rows) rest)
      rw [Int.toNat_natCast, Int.toNat_natCast, Int.toNat_natCast, Int.toNat_natCast, stepM, Nat.one_mul]
    · have e : (Fm.keep b a).both (stepF 78) = .cr b a ((1 : Nat) : Int) := by
        show Fm.cr ((b : Int) + (if (0 : Int) - a > 0 then (0 : Int) - a else 0)) ((if (a : Int) - 0 > 0 then (a : Int) - 0 else 0) + 0) 1 = _
        congr 1 <;> split <;> omega
      rw [e]
      show spT [] (((1 : Nat) : Int).toNat * unT (sdRows (b : Int).toNat (a : Int).toNat rows) rest) = replL [10] [94] (spT (sdRows (b : Int).toNat (a : Int).toNat rows) rest)
      rw [Int.toNat_natCast, Int.toNat_natCast, Int.toNat_natCast, stepN, Nat.one_mul]
  · rcases hc4 with rfl | rfl | rfl | rfl
    · have e : (Fm.lf b a k d).both (stepF 85) = .lf b a k ((d + 1 : Nat) : Int) := by
        show Fm.lf b a k ((if (d : Int) - 0 > 0 then (d : Int) - 0 else 0) + 1) = _
        congr 1 <;> split <;> omega
      rw [e]
      show spT (List.replicate ((k : Int).toNat * unT (sdRows (b : Int).toNat (a : Int).toNat rows) rest) ((d + 1 : Nat) : Int).toNat) 0 = replL [10] [94, 10] (spT (List.replicate ((k : Int).toNat * unT (sdRows (b : Int).toNat (a : Int).toNat rows) rest) (d : Int).toNat) 0)
      rw [stepU, List.map_replicate]
      simp only [Int.toNat_natCast]
    · have e : (Fm.lf b a k d).both (stepF 68) = .lf b a k ((d - 1 : Nat) : Int) := by
        show Fm.lf b a k ((if (d : Int) - 1 > 0 then (d : Int) - 1 else 0) + 0) = _
        congr 1 <;> split <;> omega
      rw [e]
      show spT (List.replicate ((k : Int).toNat * unT (sdRows (b : Int).toNat (a : Int).toNat rows) rest) ((d - 1 : Nat) : Int).toNat) 0 = replL [94, 10] [10] (spT (List.replicate ((k : Int).toNat * unT (sdRows (b : Int).toNat (a : Int).toNat rows) rest) (d : Int).toNat) 0)
      rw [stepD, List.map_replicate]
      simp only [Int.toNat_natCast]
    · have e : (Fm.lf b a k d).both (stepF 77) = .lf b a ((k * (d + 1) : Nat) : Int) ((0 : Nat) : Int) := by
        show Fm.lf b a ((k : Int) * (Fm.after (.lf 0 0 1 0) d + 1) * 1) 0 = _
        rw [af0, mul1]
        rfl
      rw [e]
      show spT (List.replicate (((k * (d + 1) : Nat) : Int).toNat * unT (sdRows (b : Int).toNat (a : Int).toNat rows) rest) ((0 : Nat) : Int).toNat) 0 = replL [94] [10] (spT (List.replicate ((k : Int).toNat * unT (sdRows (b : Int).toNat (a : Int).toNat rows) rest) (d : Int).toNat) 0)
      rw [stepM, unT_rep]
      simp only [Int.toNat_natCast, Nat.add_zero]
      rw [Nat.mul_right_comm]
    · have e : (Fm.lf b a k d).both (stepF 78) = .cr b a ((k * (d + 1) : Nat) : Int) := by
        show Fm.cr b a ((k : Int) * (Fm.after (.cr 0 0 1) d + 1) * 1) = _
        rw [af0c, mul1]
      rw [e]
      show spT [] (((k * (d + 1) : Nat) : Int).toNat * unT (sdRows (b : Int).toNat (a : Int).toNat rows) rest) = replL [10] [94] (spT (List.replicate ((k : Int).toNat * unT (sdRows (b : Int).toNat (a : Int).toNat rows) rest) (d : Int).toNat) 0)
      rw [stepN, unT_rep]
      simp only [Int.toNat_natCast, Nat.add_zero]
      rw [Nat.mul_right_comm]
  · have un0 : ∀ n, unT [] n = n := fun n => by simp [unT]
    rcases hc4 with rfl | rfl | rfl | rfl
    · show spT [] _ = replL [10] [94, 10] (spT [] _)
      rw [stepU]
      rfl
    · show spT [] _ = replL [94, 10] [10] (spT [] _)
      rw [stepD]
      rfl
    · have e : (Fm.cr b a k).both (stepF 77) = .lf b a k ((0 : Nat) : Int) := by
        show Fm.lf b a ((k : Int) * 1 * 1) 0 = _
        rw [Int.mul_one, Int.mul_one]
        rfl
      rw [e]
      show spT (List.replicate ((k : Int).toNat * unT (sdRows (b : Int).toNat (a : Int).toNat rows) rest) ((0 : Nat) : Int).toNat) 0 = replL [94] [10] (spT [] ((k : Int).toNat * unT (sdRows (b : Int).toNat (a : Int).toNat rows) rest))
      rw [stepM, un0]
      rfl
    · have e : (Fm.cr b a k).both (stepF 78) = .cr b a k := by
        show Fm.cr b a ((k : Int) * 1 * 1) = _
        rw [Int.mul_one, Int.mul_one]
      rw [e]
      show spT [] ((k : Int).toNat * unT (sdRows (b : Int).toNat (a : Int).toNat rows) rest) = replL [10] [94] (spT [] ((k : Int).toNat * unT (sdRows (b : Int).toNat (a : Int).toNat rows) rest))
      rw [stepN, un0]
theorem said_done (rows : List Nat) (rest : Nat) : ∀ (k : Nat) (cs : List Nat), cs.length = k → k ≤ 60 → (∀ c ∈ cs, c ∈ steps.cps.toList) → saidT (formL cs) rows rest = doneT (spT rows rest) cs
  | 0, cs, h, _, _ => by
    rw [List.length_eq_zero_iff.mp h]
    show spT (sdRows 0 0 rows) rest = spT rows rest
    rw [sd_0]
  | k + 1, cs, h, hk, hc => by
    rcases List.eq_nil_or_concat cs with rfl | ⟨ds, c, rfl⟩
    · cases h
    · have e : ds.length = k := by simpa using h
      rw [List.concat_eq_append] at hc ⊢
      have hd : ∀ c ∈ ds, c ∈ steps.cps.toList := fun c h => hc c (List.mem_append_left _ h)
      rw [formL_snoc, doneT_snoc, ← said_done rows rest k ds e (by omega) hd]
      exact said_step (formL_fls k ds e (by omega) hd).ok (hc c (by simp)) rows rest
/-! ### cutting such a text at its breaks -/
theorem spT_join : ∀ (rows : List Nat) (rest : Nat), spT rows rest = TL.joinL [10] (rows.map up ++ [up rest])
  | [], rest => rfl
  | j :: rows, rest => by
    rw [spT_cons, spT_join rows rest]
    cases rows with
    | nil => rfl
    | cons a r => rfl
theorem spT_cut (rows : List Nat) (rest : Nat) : TL.spl [10] 0 [] (spT rows rest) = rows.map up ++ [up rest] := by
  rw [spT_join]
  refine TL.spl_join (by simp) fun p hp => ?_
  have hu : ∀ n, (10 : Nat) ∉ up n := fun n h => by
    have := (List.mem_replicate.mp h).2
    omega
  rcases List.mem_append.mp hp with h | h
  · obtain ⟨n, _, rfl⟩ := List.mem_map.mp h
    exact hu n
  · rw [List.mem_singleton.mp h]
    exact hu _
/-- every text of ^ and breaks is one -/
theorem spT_of : ∀ l : List Nat, (∀ c ∈ l, c = 94 ∨ c = 10) → ∃ rows rest, l = spT rows rest
  | [], _ => ⟨[], 0, rfl⟩
  | c :: l, h => by
    obtain ⟨rows, rest, rfl⟩ := spT_of l fun d hd => h d (List.mem_cons_of_mem _ hd)
    rcases h c List.mem_cons_self with rfl | rfl
    · cases rows with
      | nil => exact ⟨[], rest + 1, rfl⟩
      | cons j rows => exact ⟨(j + 1) :: rows, rest, by rw [spT_cons, spT_cons]; rfl⟩
    · exact ⟨0 :: rows, rest, by rw [spT_cons]; rfl⟩
end Lw
namespace Lx
open PySem PySem.Spec L2
/-! ### a local name and just the value that it holds -/
section
variable {X : Cx} {pins : List (Addr × Obj)} {σ : St} {H : Hp} {s : Shared}
def Holds (X : Cx) (s : Shared) (x : Str) (u : Value) : Prop := ∃ m, s.heap.Ns X.env.locals m ∧ m x = some u
theorem store_raw {M : Model} {A : Around} {E : Value → Shared → Prop} {i : Nat} {x : Str} {v : V} {u : Value} {Q : Unit → Shared → Prop} (I : Inv X pins σ H s) (hN : X.N.Nodup) (hi : X.N[i]? = some x) (hk : X.env.scope.names.lookup x = some .local) (r : RelV v u)
    (h : ∀ s', Inv X pins (σ.set i (some v)) H s' → Holds X s' x u → (∀ y w, y ≠ x → Holds X s y w → Holds X s' y w) → Q () s') : wpAny M A (storeName X.env x u) Q E s := by
  obtain ⟨m, hn, hl⟩ := id I.loc
  have hcls : (X.env.scope.kind == .class || (X.env.scope.kind == .module && X.env.locals != X.env.globals)) = false := by rw [I.ok.kind]; rfl
  have hiσ : i < σ.length := by rw [I.len]; exact (List.getElem?_eq_some_iff.mp hi).1
  have cne := I.cne
  have tracked : ∀ {a : Addr} {h' : Heap}, (∃ o, s.heap.get? a = some o ∧ H a = none) → Heap.SameBut a s.heap h' → HOk X.prog X.w H h' := fun {a h'} ha hs b ob e => by
    obtain ⟨_, _, hfree⟩ := ha
    refine (I.hok b ob e).stay (fun c w' hc q => (hs.2 c ?_).trans q) (fun _ q => q) fun _ _ q => q
    rintro rfl
    rcases hc with rfl | hc
    · rw [hfree] at e; cases e
    · rw [hfree] at hc; cases hc
  refine wpAny_storeName_local hk hn (fun h' hn' hs => ?_) hcls
  obtain ⟨oL, _, _, hoL, _⟩ := id hn
  refine h _ ⟨I.ok, I.os, I.bare, ⟨fun b o e n hb hx => ?_, fun b o e n hb hx => ?_, I.base.free, fun b o e hx => ?_, I.base.tups, I.base.frzs, I.base.tbls⟩, ⟨_, hn', fun j y v' e1 e2 e3 => ?_⟩, fun y c e => ?_, I.free, I.freeC, fun p hp => ?_, tracked ⟨oL, hoL, I.free⟩ hs, by simpa using I.len⟩ ⟨_, hn', by simp⟩ fun y w hy ⟨m2, hm2, e2⟩ => ⟨_, hn', by
    have := Heap.Ns.agree hn hm2 y
    simp only [hy, if_false]
    rw [this, e2]⟩
  · exact (hs.2 b (Nat.ne_of_lt (Nat.lt_of_lt_of_le (Heap.lt_size e) I.ok.above))).trans (I.base.keep b o e n hb hx)
  · obtain ⟨sl, e1⟩ := I.base.slot b o e n hb hx
    exact ⟨sl, (hs.2 b (Nat.ne_of_lt (Nat.lt_of_lt_of_le (Heap.lt_size e) I.ok.above))).trans e1⟩
  · obtain ⟨o', e1⟩ := I.base.there b o e hx
    exact ⟨o', (hs.2 b (Nat.ne_of_lt (Nat.lt_of_lt_of_le (Heap.lt_size e) I.ok.above))).trans e1⟩
  · by_cases hj : j = i
    · subst hj
      rw [hi] at e1; cases e1
      rw [List.getElem?_set_self hiσ] at e2
      cases e2
      exact ⟨u, r, .inl ⟨hk, by simp⟩⟩
    · rw [List.getElem?_set_ne (Ne.symm hj)] at e2
      obtain ⟨u', r', q⟩ := hl j y v' e1 e2 e3
      refine ⟨u', r', ?_⟩
      rcases q with ⟨k, e⟩ | ⟨k, c, e, z⟩
      · refine .inl ⟨k, ?_⟩
        have : y ≠ x := fun e => hj (nodup_ix hN e1 (e ▸ hi))
        simp [this, e]
      · exact .inr ⟨k, c, e, z.sameBut hs (cne y c e)⟩
  · obtain ⟨w', z⟩ := I.cell y c e
    exact ⟨w', z.sameBut hs (cne y c e)⟩
  · obtain ⟨e, n, ne, nf, d⟩ := I.pin p hp
    exact ⟨(hs.2 p.1 ne).trans e, n, ne, nf, d⟩
theorem holds_name {x : Str} {u : Value} {pos : Pos} {Q E : Value → Shared → Prop} (I : Inv X pins σ H s) (hk : X.env.scope.names.lookup x = some .local) (h : Holds X s x u) (fin : Q u s)
    (hd : (x == ("__debug__" : Str)) = false := by decide) : wpAny (model X.prog X.w) X.A (eval (.Name x pos) X.env) Q E s := by
  obtain ⟨m, hn, hm⟩ := h
  exact wpAny_Name (wpAny_loadName_local I.ok.kind hk hn hm fin) hd
end
/-- a, b = e; return t.replace(a, b): e a written pair of texts -/
def tRepd (K : PySem.W.Frag) (it : Nat) (te : TE) : TS := fun D σ H => te σ H fun v H1 => ∃ a y z t u x, v = .ref a ∧ (∃ o n, K.lookup a = some o ∧ o.cls = .type "tuple" ∧ o.data = .seq #[.str y t, .str z u] n) ∧ t ≠ 0 ∧ u ≠ 0 ∧ t ≠ u ∧ (y == z) = false ∧
  σ[it]? = some (some (.str x)) ∧ x.length + (x.length + 1) * z.length ≤ 16777216 ∧ D.rt (.str (Txt.replace x y z)) H1
theorem pss_repd {X : Cx} {e : Expr} {te : TE} {it i0 i1 : Nat} {tx y0 y1 : Str} {p0 p1 p2 p3 p4 pt pos apos cpos rpos : Pos} {k0 : Nat} (hc : X.calm = true) (hN : X.N.Nodup) (ht : X.N[it]? = some tx) (h0 : X.N[i0]? = some y0) (h1 : X.N[i1]? = some y1) (n01 : y0 ≠ y1) (nt0 : it ≠ i0) (nt1 : it ≠ i1)
    (hvt : Vis X.env.scope tx) (hk0 : X.env.scope.names.lookup y0 = some .local) (hk1 : X.env.scope.names.lookup y1 = some .local) (he : PE X e te)
    (hs : swapsWithSole [.Tuple [.Name y0 p0, .Name y1 p1] k0 pt] e pos.line X.env = pure false := by rfl) (hw : swappedStores [.Tuple [.Name y0 p0, .Name y1 p1] k0 pt] e X.env = pure none := by rfl)
    (ha1 : (assignEach [.Tuple [.Name y0 p0, .Name y1 p1] k0 pt] X.env).map (·.2) = [assign (.Tuple [.Name y0 p0, .Name y1 p1] k0 pt) X.env] := by rfl)
    (hn : (assignEach [.Name y0 p0, .Name y1 p1] X.env).length = 2 := by rfl) (hst : (assignEach [.Name y0 p0, .Name y1 p1] X.env).findIdx? (·.1) = none := by rfl)
    (ha2 : (assignEach [.Name y0 p0, .Name y1 p1] X.env).map (·.2) = [assign (.Name y0 p0) X.env, assign (.Name y1 p1) X.env] := by rfl)
    (hst2 : starEach [.Name y0 p3, .Name y1 p4] X.env = [(false, eval (.Name y0 p3) X.env), (false, eval (.Name y1 p4) X.env)] := by rfl)
    (hbase : attributeBase (.Name tx p2) "replace" X.env (eval (.Name tx p2) X.env) = eval (.Name tx p2) X.env := by rfl) (hline : (apos.endLine == cpos.line) = true := by rfl)
    (hdt : (tx == ("__debug__" : Str)) = false := by decide) (hct : (tx == ("__classdict__" : Str)) = false := by decide) (hd0 : (y0 == ("__debug__" : Str)) = false := by decide) (hd1 : (y1 == ("__debug__" : Str)) = false := by decide) :
    PSs X [.Assign [.Tuple [.Name y0 p0, .Name y1 p1] k0 pt] e pos, .Return (some (.Call (.Attribute (.Name tx p2) "replace" apos) [.Name y0 p3, .Name y1 p4] [] cpos)) rpos] (tRepd X.K it te) := by
  refine ⟨fun pins s σ H D I h => ?_⟩
  refine wpAny_execs_cons (wpAny_Assign_stores (thn (he.run pins s σ H _ I h) fun v s1 ⟨vv, H1, I1, r1, a, y, z, t, u, x, ev, ⟨o, n, hl, ho, hd⟩, t0, u0, tu, yz, hx, hb, q⟩ => ?_) hs hw)
  subst ev
  obtain rfl : v = Value.ref a := r1
  rw [ha1]
  refine wpAny_mono (M := model X.prog X.w) (Q := fun _ s' => Inv X pins ((σ.set i0 (some (.str y))).set i1 (some (.str z))) H1 s' ∧ Holds X s' y0 (.str y t) ∧ Holds X s' y1 (.str z u)) ?_ (fun _ s2 q2 => ?_) fun _ _ z => z
  · refine PyProof.Rows.assign_Tuple_tuple (I1.ok.hd hc) ⟨o, I1.kIn _ _ hl, ho, n, hd⟩ hn hst fun h' hx2 => ?_
    have I2 : Inv X pins σ H1 { s1 with heap := h' } := I1.kept (t' := s1.toks) fun b o e => hx2 b o (Nat.ne_of_lt (Heap.lt_size e)) e
    rw [ha2]
    refine PyProof.Rows.assignInOrder_cons (wpAny_assign_Name (store_raw (v := .str y) I2 hN h0 hk0 ⟨t, rfl⟩ fun s3 I3 g3 _ => ?_))
    refine PyProof.Rows.assignInOrder_cons (wpAny_assign_Name (store_raw (v := .str z) I3 hN h1 hk1 ⟨u, rfl⟩ fun s4 I4 g4 k4 => ?_))
    exact PyProof.Rows.assignInOrder_nil ⟨I4, k4 _ _ n01 g3, g4⟩
  · obtain ⟨I2, g0, g1⟩ := q2
    refine wpAny_execs_cons (wpAny_Return_some (PySem.Call_method2 hbase hst2 hline (raw_name (v := .str x) ht hvt I2 ?_ (fun v r => ?_) hdt hct)))
    · rw [List.getElem?_set_ne (Ne.symm nt1), List.getElem?_set_ne (Ne.symm nt0)]
      exact hx
    · obtain ⟨tx', e⟩ := r
      subst e
      refine ⟨"str", _, F.plainAttrs_str, F.slot_str_replace, F.type_str_replace, typeIs_str _ _ _, (fun _ e => nomatch e), Calls.callWith_builtin rfl (Calls.evalArgs_plain (Calls.spliced_cons ?_))⟩
      refine holds_name I2 hk0 g0 ?_ hd0
      refine Calls.spliced_cons (holds_name I2 hk1 g1 ?_ hd1)
      refine Calls.spliced_nil ?_
      exact PySem.SC.replace t0 u0 tu yz hb fun t' k => ⟨.str (Txt.replace x y z), _, H1, I2.tok k, ⟨t', rfl⟩, q⟩
end Lx
namespace Lw
open PySem PySem.Spec L2 Lx
theorem scChkChain : FnScope ["chain", "index", "letter"] ["chain"] (defScope sChkChain) := ⟨rfl, rfl, rfl, by decide +kernel, rfl, by decide +kernel, by decide +kernel⟩
def spChkChain : Sp := fun vs H Q _ => ∃ x, vs = [.str x] ∧ ChOk x ∧ ∀ H', Same H H' → Q .non H'
section
variable {P : Program} {w : World} {K : PySem.W.Frag} {mg : Str → Option Value} {base : Heap} {aL aN aS : Addr}
theorem ok_chkChain {f : Addr} {fd : FuncData} {k : Nat} {tS : Tok} (F : Fun K "check_chain" "check_chain" sChkChain f fd) (mE : mg "enumerate" = none) (gS : mg "STEPS" = some (.str steps tS)) : FnOk P w K mg base CX0 (k + 1) f fd ["chain"] spChkChain := by
  refine F.ok scChkChain (fun vs H Q E h => ?_) (fun cdv A outer s H vs Q E hr h => ?_)
  · obtain ⟨x, rfl, _⟩ := h
    rfl
  · obtain ⟨x, rfl, hx, q⟩ := h
    refine ⟨_, pss_one (ps_for PassesOwn.never rfl (pi_enumS rfl mE (pa_cons (pv 0) pa_nil)) (pg_tup (by rfl) (pgs_cons (pg_name (i := 1) scChkChain.nd rfl (.inl rfl)) (pgs_cons (pg_name (i := 2) scChkChain.nd rfl (.inl rfl)) pgs_nil)))
        (pss_one (ps_if (pt_cmpR op_notIn_sign (pv 2) (pe_glob (v := .str steps) rfl gS ⟨_, rfl⟩) rfl) (pss_one ps_never) pss_nil))), ?_⟩
    refine ⟨_, rfl, x, rfl, ?_⟩
    refine for_it walk_enumS (fun i σ H' => Same H H' ∧ ∃ y1 y2, σ = [some (.str x), y1, y2]) ⟨Same.refl H, none, none, rfl⟩ (fun _ _ _ _ _ => trivial) ?_ ?_
    · rintro i v σ H1 H2 hi ⟨sm, y1, y2, rfl⟩ ⟨T, u1, u2, rfl, nT, rfl, h1, h2⟩
      cases Option.some.inj h1
      replace h2 : (x.cps[i]?).map (fun c => V.str ⟨#[c]⟩) = some u2 := h2
      cases e : x.cps[i]? with
      | none => rw [e] at h2; cases h2
      | some c =>
        rw [e] at h2
        cases Option.some.inj h2
        have hc : c ∈ steps.cps.toList := hx c (by rw [Array.mem_toList_iff]; exact Array.mem_of_getElem? e)
        have s2 := sm.trans (same_upd (o := .tup [.int (i : Nat), .str ⟨#[c]⟩]) nT)
        refine ⟨T, _, rfl, .inl (.inl upd_same), rfl, _, _, rfl, _, _, rfl, rfl, ?_⟩
        refine ⟨_, rfl, c, steps, rfl, rfl, _, rfl, ?_⟩
        rw [decide_eq_true hc]
        exact iteF ⟨s2, _, _, rfl⟩
    · rintro σ H1 ⟨sm, y1, y2, rfl⟩
      exact q _ sm
end
end Lw
namespace Lw
open PySem PySem.Spec L2 Lx
theorem scTas : FnScope ["text", "letter", "old", "new"] ["text", "letter"] (defScope sTextAfterStep) := ⟨rfl, rfl, rfl, by decide +kernel, rfl, by decide +kernel, by decide +kernel⟩
theorem scCvt : FnScope ["text", "chain", "letter"] ["text", "chain"] (defScope sConvert) := ⟨rfl, rfl, rfl, by decide +kernel, rfl, by decide +kernel, by decide +kernel⟩
/-- no text on the way is too long -/
def TB (l cs : List Nat) : Prop := ∀ i, (doneT l (cs.take i)).length ≤ 1000000
theorem tb_pow {l cs : List Nat} (h : l.length * 2 ^ cs.length ≤ 1000000) : TB l cs := fun i => by
  have h1 := doneT_len l _ (cs.take i) rfl
  have h2 : 2 ^ (cs.take i).length ≤ 2 ^ cs.length := Nat.pow_le_pow_right (by decide) (by rw [List.length_take]; omega)
  have h3 := Nat.mul_le_mul_left l.length h2
  omega
/-- the two texts of each step -/
structure RepT (K : PySem.W.Frag) (w : World) (mg : Str → Option Value) (aR : Addr) : Prop where
  g : mg "REPLACEMENTS" = some (.ref aR)
  s : ∀ c ∈ steps.cps.toList, ∃ a y z t u, KDct K w aR ⟨#[c]⟩ (.ref a) ∧ (∃ o n, K.lookup a = some o ∧ o.cls = .type "tuple" ∧ o.data = .seq #[.str y t, .str z u] n) ∧ t ≠ 0 ∧ u ≠ 0 ∧ t ≠ u ∧ (y == z) = false ∧ 1 ≤ y.length ∧ z.length ≤ 2 ∧ ∀ l, stepT c l = PySem.StrLaws.replL y.cps.toList z.cps.toList l
def spTas : Sp := fun vs H Q _ => ∃ (x : Str) (c : Nat), vs = [.str x, .str ⟨#[c]⟩] ∧ c ∈ steps.cps.toList ∧ x.cps.size ≤ 5000000 ∧ ∀ y : Str, y.cps.toList = stepT c x.cps.toList → Q (.str y) H
def spCvt : Sp := fun vs H Q _ => ∃ (x z : Str), vs = [.str x, .str z] ∧ ChOk z ∧ TB x.cps.toList z.cps.toList ∧ ∀ (y : Str) H', Same H H' → y.cps.toList = doneT x.cps.toList z.cps.toList → Q (.str y) H'
section
variable {P : Program} {w : World} {K : PySem.W.Frag} {mg : Str → Option Value} {base : Heap}
theorem ok_tas {f aR : Addr} {fd : FuncData} {k : Nat} (F : Fun K "text_after_step" "text_after_step" sTextAfterStep f fd) (T : RepT K w mg aR) : FnOk P w K mg base CX0 (k + 1) f fd ["text", "letter"] spTas := by
  refine F.ok scTas (fun vs H Q E h => ?_) (fun cdv A outer s H vs Q E hr h => ?_)
  · obtain ⟨x, c, rfl, _⟩ := h
    rfl
  · obtain ⟨x, c, rfl, hc, hl, q⟩ := h
    obtain ⟨a, y, z, t, u, hd, ho, t0, u0, tu, yz, y1, z2, e⟩ := T.s c hc
    refine ⟨_, pss_repd (it := 0) (i0 := 2) (i1 := 3) rfl scTas.nd rfl rfl rfl (by decide) (by decide) (by decide) (.inl rfl) rfl rfl (pe_ix ix_kdict (pe_glob (v := .ref aR) rfl T.g rfl) (pv 1) (fun _ _ => rfl)), ?_⟩
    refine ⟨_, rfl, aR, _, .ref a, rfl, rfl, hd, a, y, z, t, u, x, rfl, ho, t0, u0, tu, yz, rfl, ?_, ?_⟩
    · have h1 : x.length = x.cps.size := rfl
      have : (x.length + 1) * z.length ≤ (x.length + 1) * 2 := Nat.mul_le_mul_left _ z2
      omega
    · exact q _ (by rw [PySem.StrLaws.replace_list y1, e])
theorem ok_cvt {f aC aT : Addr} {fd dC dT : FuncData} {k : Nat} (F : Fun K "convert" "convert" sConvert f fd)
    (cC : Cl P w K mg base k "check_chain" ["chain"] spChkChain aC dC)
    (cT : Cl P w K mg base k "text_after_step" ["text", "letter"] spTas aT dT) : FnOk P w K mg base CX0 (k + 1) f fd ["text", "chain"] spCvt := by
  refine F.ok scCvt (fun vs H Q E h => ?_) (fun cdv A outer s H vs Q E hr h => ?_)
  · obtain ⟨x, z, rfl, _⟩ := h
    rfl
  · obtain ⟨x, z, rfl, hz, hb, q⟩ := h
    refine ⟨_, (pss_cons (ps_expr (pe_call cC.G hr (by rfl) cC.g cC.kp cC.b .nil pass0 (pa_cons (pv 1) pa_nil)))
      (pss_cons (ps_for PassesOwn.never rfl (pi_str (pv 1)) (pg_name (i := 2) scCvt.nd rfl (.inl rfl))
          (pss_one (ps_set (i := 0) scCvt.nd rfl (.inl rfl) (pe_call cT.G hr (by rfl) cT.g cT.kp cT.b .nil pass0 (pa_cons (pv 0) (pa_cons (pv 2) pa_nil))))))
      (pss_one (ps_ret (pv 0))))), ?_⟩
    refine ⟨_, rfl, z, rfl, hz, fun H1 s1 => ?_⟩
    refine ⟨_, rfl, z, rfl, ?_⟩
    refine for_it walk_str (fun i σ H' => Same H H' ∧ ∃ (y : Str) (y2 : Option V), σ = [some (.str y), some (.str z), y2] ∧ y.cps.toList = doneT x.cps.toList (z.cps.toList.take i))
      ⟨s1, x, none, rfl, rfl⟩ (fun _ _ _ _ _ => trivial) ?_ ?_
    · rintro i u σ H2 H3 hi ⟨sm, y, y2, rfl, hy⟩ ⟨rfl, c, hc, rfl⟩
      have hcm : c ∈ z.cps.toList := by rw [Array.mem_toList_iff]; exact Array.mem_of_getElem? hc
      have htk : z.cps.toList.take (i + 1) = z.cps.toList.take i ++ [c] := by
        rw [List.take_succ]
        have : z.cps.toList[i]? = some c := by rw [Array.getElem?_toList]; exact hc
        rw [this]
        rfl
      have hl := hb i
      rw [← hy, Array.length_toList] at hl
      refine ⟨_, rfl, _, rfl, y, c, rfl, hz c hcm, by omega, fun y' hy' => ⟨sm, y', _, rfl, ?_⟩⟩
      rw [htk, doneT_snoc, ← hy, hy']
    · rintro σ H2 ⟨sm, y, y2, rfl, hy⟩
      have e : z.cps.toList.take z.cps.size = z.cps.toList := List.take_of_length_le (by simp)
      rw [e] at hy
      exact ⟨_, rfl, q _ _ sm hy⟩
end
end Lw
namespace Lw
open PySem PySem.Spec L2 Lx
theorem scDone : FnScope ["line_here", "steps_here", "step"] ["line_here", "steps_here"] (defScope sLDone) := ⟨rfl, rfl, rfl, by decide +kernel, rfl, by decide +kernel, by decide +kernel⟩
def spDone : Sp := fun vs H Q _ => ∃ (x z : Str), vs = [.str x, .str z] ∧ ChOk z ∧ TB x.cps.toList z.cps.toList ∧ ∀ y : Str, y.cps.toList = doneT x.cps.toList z.cps.toList → Q (.str y) H
theorem ch_eq {c d : Nat} {u : Str} (hu : u = ⟨#[d]⟩) (h : decide (V.str ⟨#[c]⟩ = V.str u) = true) : c = d := by
  subst hu
  have := congrArg (fun s : Str => s.cps.toList) (V.str.inj (of_decide_eq_true h))
  exact (List.cons.inj this).1
theorem ch_ne {c d : Nat} {u : Str} (hu : u = ⟨#[d]⟩) (h : decide (V.str ⟨#[c]⟩ = V.str u) = false) : c ≠ d := by
  subst hu
  rintro rfl
  exact absurd rfl (of_decide_eq_false h)
section
variable {P : Program} {w : World} {K : PySem.W.Frag} {mg : Str → Option Value} {base : Heap}
theorem ok_done {f : Addr} {fd : FuncData} {k : Nat} (F : Fun K "_law_done" "_law_done" sLDone f fd) : FnOk P w K mg base CX0 (k + 1) f fd ["line_here", "steps_here"] spDone := by
  refine F.ok scDone (fun vs H Q E h => ?_) (fun cdv A outer s H vs Q E hr h => ?_)
  · obtain ⟨x, z, rfl, _⟩ := h
    rfl
  · obtain ⟨x, z, rfl, hz, hb, q⟩ := h
    refine ⟨_, pss_cons (ps_for PassesOwn.never rfl (pi_str (pv 1)) (pg_name (i := 2) scDone.nd rfl (.inl rfl))
        (pss_one (ps_ifC (ptc_cmp op_eq (pv 2) (nomark _)) (CwR.psst_one (pst_set (i := 0) scDone.nd rfl (.inl rfl) (CwR.pet_replC (pv 0))))
          (PSsT.of (pss_one (ps_ifC (ptc_cmp op_eq (pv 2) (nomark _)) (CwR.psst_one (pst_set (i := 0) scDone.nd rfl (.inl rfl) (CwR.pet_replC (pv 0))))
            (PSsT.of (pss_one (ps_ifC (ptc_cmp op_eq (pv 2) (nomark _)) (CwR.psst_one (pst_set (i := 0) scDone.nd rfl (.inl rfl) (CwR.pet_replC (pv 0))))
              (CwR.psst_one (pst_set (i := 0) scDone.nd rfl (.inl rfl) (CwR.pet_replC (pv 0)))))))))))))
      (pss_one (ps_ret (pv 0))), ?_⟩
    refine ⟨_, rfl, z, rfl, ?_⟩
    refine for_it walk_str (fun i σ H' => H' = H ∧ ∃ (y : Str) (y2 : Option V), σ = [some (.str y), some (.str z), y2] ∧ y.cps.toList = doneT x.cps.toList (z.cps.toList.take i))
      ⟨rfl, x, none, rfl, rfl⟩ (fun _ _ _ _ _ => trivial) ?_ ?_
    · rintro i u σ H1 H2 hi ⟨rfl, y, y2, rfl, hy⟩ ⟨rfl, c, hc, rfl⟩
      have hcm : c ∈ z.cps.toList := by rw [Array.mem_toList_iff]; exact Array.mem_of_getElem? hc
      have htk : z.cps.toList.take (i + 1) = z.cps.toList.take i ++ [c] := by
        rw [List.take_succ]
        have : z.cps.toList[i]? = some c := by rw [Array.getElem?_toList]; exact hc
        rw [this]
        rfl
      have hl : y.cps.size ≤ 1000000 := by
        have h1 := hb i
        rw [← hy, Array.length_toList] at h1
        exact h1
      have fin : ∀ (u v : Str) (d : Nat), (1 ≤ u.length) → v.length ≤ 2 → (∀ l, stepT d l = PySem.StrLaws.replL u.cps.toList v.cps.toList l) → c = d →
          y.length + (y.length + 1) * v.length ≤ 16777216 ∧ (Txt.replace y u v).cps.toList = doneT x.cps.toList (z.cps.toList.take (i + 1)) := by
        rintro u v d hu hv hd rfl
        refine ⟨?_, ?_⟩
        · have : (y.length + 1) * v.length ≤ (y.length + 1) * 2 := Nat.mul_le_mul_left _ hv
          have : y.length ≤ 1000000 := hl
          omega
        · rw [PySem.StrLaws.replace_list hu, htk, doneT_snoc, ← hy, hd]
      refine ⟨_, rfl, rfl, ?_⟩
      cases hU : decide (V.str ⟨#[c]⟩ = V.str "U") with
      | true =>
        obtain ⟨f1, f2⟩ := fin "\n" "^\n" 85 (by decide) (by decide) (fun l => rfl) (ch_eq rfl hU)
        exact ⟨_, rfl, iteT ⟨_, rfl, y, rfl, f1, rfl, _, _, rfl, f2⟩⟩
      | false =>
        refine ⟨_, rfl, iteF ⟨_, rfl, rfl, ?_⟩⟩
        cases hD : decide (V.str ⟨#[c]⟩ = V.str "D") with
        | true =>
          obtain ⟨f1, f2⟩ := fin "^\n" "\n" 68 (by decide) (by decide) (fun l => rfl) (ch_eq rfl hD)
          exact ⟨_, rfl, iteT ⟨_, rfl, y, rfl, f1, rfl, _, _, rfl, f2⟩⟩
        | false =>
          refine ⟨_, rfl, iteF ⟨_, rfl, rfl, ?_⟩⟩
          cases hM : decide (V.str ⟨#[c]⟩ = V.str "M") with
          | true =>
            obtain ⟨f1, f2⟩ := fin "^" "\n" 77 (by decide) (by decide) (fun l => rfl) (ch_eq rfl hM)
            exact ⟨_, rfl, iteT ⟨_, rfl, y, rfl, f1, rfl, _, _, rfl, f2⟩⟩
          | false =>
            have hN : c = 78 := by
              have h4 : c ∈ ([85, 68, 77, 78] : List Nat) := hz c hcm
              have n1 := ch_ne (d := 85) rfl hU
              have n2 := ch_ne (d := 68) rfl hD
              have n3 := ch_ne (d := 77) rfl hM
              simp only [List.mem_cons, List.not_mem_nil, or_false] at h4
              omega
            obtain ⟨f1, f2⟩ := fin "\n" "^" 78 (by decide) (by decide) (fun l => rfl) hN
            exact ⟨_, rfl, iteF ⟨_, rfl, y, rfl, f1, rfl, _, _, rfl, f2⟩⟩
    · rintro σ H1 ⟨rfl, y, y2, rfl, hy⟩
      have e : z.cps.toList.take z.cps.size = z.cps.toList := List.take_of_length_le (by simp)
      rw [e] at hy
      exact ⟨_, rfl, q _ hy⟩
end
end Lw
/-! try .. except X as e: the caught error is kept for what follows the clause. -/
namespace Lx
open PySem PySem.Spec L2
/-- at e: a caught error of the class at C, its own dict at d -/
def errX (e C d : Addr) : HO := .ext fun h => ∃ (o : Obj) (vs : Array Value), h.get? e = some o ∧ o.cls = .ref C ∧ o.dict = some d ∧ o.data = .fields vs
theorem errX_ok {P : Program} {w : World} {H : Hp} {h : Heap} {e C d : Addr} {o : Obj} {vs : Array Value} (he : h.get? e = some o) (h1 : o.cls = .ref C) (h2 : o.dict = some d) (h3 : o.data = .fields vs) : ObjOk P w H h e (errX e C d) :=
  ⟨⟨o, vs, he, h1, h2, h3⟩, ⟨_, he⟩, fun _ _ ⟨o, vs, a, b, c, d⟩ k => ⟨o, vs, k _ a, b, c, d⟩⟩
theorem errX_at {P : Program} {w : World} {H : Hp} {h : Heap} {e C d : Addr} (hok : HOk P w H h) (he : H e = some (errX e C d)) : ∃ (o : Obj) (vs : Array Value), h.get? e = some o ∧ o.cls = .ref C ∧ o.dict = some d ∧ o.data = .fields vs := by
  have x : ObjOk P w H h e (.ext fun h => ∃ (o : Obj) (vs : Array Value), h.get? e = some o ∧ o.cls = .ref C ∧ o.dict = some d ∧ o.data = .fields vs) := hok e _ he
  exact x.1
section
variable {X : Cx} {pins : List (Addr × Obj)} {σ : List (Option V)} {H : Hp} {s : Shared}
theorem know (I : Inv X pins σ H s) {a : Addr} {o : HO} (na : H a = none) (hn : X.s_0.heap.get? a = none) (nL : a ≠ X.env.locals) (nC : ∀ x c, X.env.cells.lookup x = some c → c ≠ a)
    (np : ∀ p ∈ X.pn ++ pins, p.1 ≠ a) (ok : ObjOk X.prog X.w (upd H a o) s.heap a o) : Inv X pins σ (upd H a o) s := by
  have ne : ∀ {b : Addr} {u : HO}, H b = some u → b ≠ a := fun {b u} q z => by rw [z, na] at q; cases q
  refine ⟨I.ok, I.os, I.bare, ⟨I.base.keep, I.base.slot, fun b o' e n hx => ?_, I.base.there, fun b xs q => ?_, fun b o' u q => ?_, fun b ps q => ?_⟩, I.loc, I.cell, ?_, fun x c e => ?_, fun p hp => ?_, fun b u e => ?_, I.len⟩
  · rw [upd_ne (fun z => by rw [z, hn] at e; cases e)]
    exact I.base.free b o' e n hx
  · have := I.base.tups b xs q
    rw [upd_ne (ne this)]; exact this
  · have := I.base.frzs b o' u q
    rw [upd_ne (ne this)]; exact this
  · obtain ⟨m, this⟩ := I.base.tbls b ps q
    exact ⟨m, by rw [upd_ne (ne this)]; exact this⟩
  · rw [upd_ne (Ne.symm nL)]; exact I.free
  · rw [upd_ne (nC x c e)]; exact I.freeC x c e
  · obtain ⟨e, n, r⟩ := I.pin p hp
    exact ⟨e, by rw [upd_ne (np p hp)]; exact n, r⟩
  · by_cases hb : b = a
    · subst hb
      rw [upd_same] at e
      cases e
      exact ok
    · rw [upd_ne hb] at e
      exact (I.hok b u e).stay (fun c v _ q => q) (fun c q => by rw [upd_ne (ne q)]; exact q) fun c xs q => by rw [upd_ne (ne q)]; exact q
theorem suiteK (I : Inv X pins σ H s) (a : Addr) : Inv (X.suite a (X.pn ++ pins)) [] σ H s :=
  ⟨I.ok.suite _ _, I.os, I.bare, I.base, I.loc, I.cell, I.free, I.freeC, fun p hp => I.pin p (by rw [List.append_nil] at hp; exact hp), I.hok, I.len⟩
theorem unsuiteK {a : Addr} {pn' : List (Addr × Obj)} (I : Inv (X.suite a (X.pn ++ pins)) pn' σ H s) (ok : X.Ok) : Inv X pins σ H s :=
  ⟨ok, I.os, I.bare, I.base, I.loc, I.cell, I.free, I.freeC, fun p hp => I.pin p (List.mem_append_left _ hp), I.hok, I.len⟩
end
/-- what the clause 'except x as n' wishes of an own error of the body: slot i is n's; the error is told -/
def wKp (K : PySem.W.Frag) (c : Value) (i : Nat) (ts : TS) (D : Ends) : WX := fun cls d σ H =>
  ∃ C dd : Addr, cls = .ref C ∧ d = some dd ∧ PySem.W.exmOne K cls c = some true ∧ ∀ a, H a = none →
    ts { nx := fun σ' H' => D.nx (σ'.set i none) H', rt := D.rt, bk := fun σ' H' => D.bk (σ'.set i none) H', ct := fun σ' H' => D.ct (σ'.set i none) H' } (σ.set i (some (.ref a))) (upd H a (errX a C dd))
section
variable {X : Cx} {x n : Str} {c : Value} {i : Nat} {body suite : List Stmt} {b₀ : Stmt} {np pos pos' : Pos} {tb : WX → TS} {ts : TS}
theorem ps_try_keep (hs : X.stack = X.env :: X.outer) (hf : X.env.frame = some X.env.locals) (hex : X.ex = []) (hN : X.N.Nodup) (hi : X.N[i]? = some n) (hln : X.env.kindOf n = some .local) (hc : Names X x c)
    (hb : ∀ (W : WX) (pn : List (Addr × Obj)) (xe : Value → Shared → Prop), Takes (X.tr pn xe) W → PassesOwn (model X.prog X.w) X.A X.env xe → PSs (X.tr pn xe) body (tb W))
    (hsu : ∀ (a : Addr) (pn : List (Addr × Obj)), PSs (X.suite a pn) (b₀ :: suite) ts) :
    PS X (.Try body [.ExceptHandler (some (.Name x np)) (some n) (b₀ :: suite) pos'] [] [] pos) (fun D σ H => tb (wKp X.K c i ts D) D σ H) := by
  refine ⟨fun pins s σ H D I h => ?_⟩
  have ok := I.ok
  have hfr : X.A.frames = some (X.env :: X.outer) := by rw [ok.frames, hs]
  have hloc : Loc X.env.scope n := .inl hln
  refine wpAny_Try_except ?_
  refine wpAny_mono ((hb (wKp X.K c i ts D) (X.pn ++ pins) (fun e s₁ => wpAny (model X.prog X.w) X.A (noteFrame e X.env) (fun _ s₂ => wpAny (model X.prog X.w) X.A (setFlight e none) (fun _ s₃ =>
    wpAny (model X.prog X.w) X.A (handleBy e X.env [.ExceptHandler (some (.Name x np)) (some n) (b₀ :: suite) pos']) (SP X pins D) X.xe s₃) X.xe s₂) X.xe s₁) (fun u s' xx => ?_) PassesOwn.looking).run [] s σ H D (I.toTry _) h) (fun f s1 hsp => ?_) (fun e s1 he => he)
  · obtain ⟨a, B, sI, pins', σ', H', cls, d, rfl, J', nb, up, sky, na, os, ag, C, dd, rfl, rfl, hb1, hyes⟩ := xx
    have J : Inv X pins σ' H' sI := J'.ofTry ok
    have sky' : Sky B (X.env :: X.outer) a (Zc (.ref C) (some dd)) X.env.locals s'.heap := by rw [← hs]; exact sky
    show wpAny (model X.prog X.w) X.A (noteFrame (.ref a) X.env) _ _ _
    refine Sky.land Zc.steady hfr hf sky' fun h3 fl3 up3 => ?_
    have J3 : Inv X pins σ' H' { s' with heap := h3 } := J.landed nb fl3.1 (up.trans up3) os ag
    obtain ⟨oe3, vs3, he3, hz3, hd3⟩ := fl3.there
    have notFr : ∀ {h : Heap} {o : Obj} {vs : Array Value}, h.FunFrames B (X.env :: X.outer) → h.get? a = some o → o.data = .fields vs → a ∉ frs (X.env :: X.outer) := fun {h o vs} ff e dd hm => by
      obtain ⟨_, o', e', hnf⟩ := ff.mem hm
      rw [e] at e'; cases e'
      exact hnf _ dd
    have nfr := notFr fl3.2.2.1 he3 hd3
    have nfr' : a ∉ frs X.stack := by rw [hs]; exact nfr
    have nB : B.get? a = none := fl3.2.1
    have nsI : ∀ o, sI.heap.get? a ≠ some o := fun o e => by
      have := nb a o e nfr'
      rw [nB] at this; cases this
    have nL : a ≠ X.env.locals := fun z => nfr (List.mem_filterMap.mpr ⟨X.env, List.mem_cons_self, by rw [hf, z]⟩)
    have n0 : X.s_0.heap.get? a = none := by
      cases e : X.s_0.heap.get? a with
      | none => rfl
      | some o =>
        obtain ⟨o', e'⟩ := J.base.there a o e (by rw [hex]; exact List.not_mem_nil)
        exact (nsI o' e').elim
    have np1 : ∀ p ∈ X.pn ++ pins, p.1 ≠ a := fun p hp z => nsI p.2 (by rw [← z]; exact (J.pin p hp).1)
    have S3 := suiteK J3 a
    refine wpAny_handleBy_cons (codeAny_handlers_test ?_) (by intro q; cases q)
    have LT : PySem.W.Looks (model X.prog X.w) h3 (typeOf (.ref a)) (.ref C) := fun A Q E s k q => wpAny_typeOf_ref (k _ _ he3) (by rw [hz3.1]; exact q)
    have LM := PySem.W.exm_one (M := model X.prog X.w) (J3.kIn) LT hb1
    have test : ∀ {Q : Value → Shared → Prop} {E : Value → Shared → Prop}, Q c { s' with heap := h3 } → wpAny (model X.prog X.w) (X.A.mark (some (.ref a))) (eval (.Name x np) X.env) Q E { s' with heap := h3 } := fun {Q E} q => by
      obtain ⟨hg, hdbg, hm | ⟨hm, hv, hnn⟩⟩ := hc
      · exact ld_glob (X := X.suite a (X.pn ++ pins)) S3 hg hm q hdbg
      · exact ld_blt (X := X.suite a (X.pn ++ pins)) S3 hg hm hv q hnn hdbg
    refine test (LM.here ?_)
    refine codeAny_handlers_suite_as ?_
    refine HandSPX.lands_againZ fl3 fun h4 fl4 up4 => ?_
    have J4 : Inv X pins σ' H' { s' with heap := h4 } := J.landed nb fl4.1 ((up.trans up3).trans up4) os ag
    obtain ⟨oe4, vs4, he4, hz4, hd4⟩ := fl4.there
    have K4 : Inv X pins σ' (upd H' a (errX a C dd)) { s' with heap := h4 } := know J4 na n0 nL (fun y c e z => by
      obtain ⟨v, o, ho, hdd⟩ := J4.cell y c e
      rw [z] at ho
      have ho' : h4.get? a = some o := ho
      rw [he4] at ho'
      cases ho'
      rw [hd4] at hdd
      cases hdd) np1 (errX_ok he4 hz4.1 hz4.2 hd4)
    have S4 := suiteK K4 a
    refine store_ok (X := X.suite a (X.pn ++ pins)) (v := .ref a) S4 hN hi hloc rfl (fun s5 S5 => ?_) (.inr hln)
    refine wpAny_mono ((hsu a (X.pn ++ pins)).run [] s5 _ _ _ S5 (hyes a na)) (fun f s6 hsp => ?_) (fun _ _ z => False.elim z)
    have end_ : ∀ {σ6 : St} {H6 : Hp} {Q : Shared → Prop}, Inv (X.suite a (X.pn ++ pins)) [] σ6 H6 s6 → (∀ s7, Inv X pins (σ6.set i none) H6 s7 → Q s7) →
        wpAny (model X.prog X.w) X.A (do bindName X.env n .none; unbindBehindTheSuite X.env n pos') (fun _ s7 => Q s7) X.xe s6 := fun {σ6 H6 Q} S6 hq => gone_ok (unsuiteK S6 ok) hN hi hln hq
    cases f with
    | next =>
      obtain ⟨σ6, H6, S6, q6⟩ := hsp
      exact end_ S6 fun s7 J7 => ⟨_, _, J7, q6⟩
    | brk =>
      obtain ⟨σ6, H6, S6, q6⟩ := hsp
      exact end_ S6 fun s7 J7 => ⟨_, _, J7, q6⟩
    | cont =>
      obtain ⟨σ6, H6, S6, q6⟩ := hsp
      exact end_ S6 fun s7 J7 => ⟨_, _, J7, q6⟩
    | ret u =>
      obtain ⟨v6, σ6, H6, S6, r6, q6⟩ := hsp
      exact end_ S6 fun s7 J7 => ⟨_, _, _, J7, r6, q6⟩
  · cases f with
    | next =>
      obtain ⟨σ', H', J', q⟩ := hsp
      exact wpAny_execs_nil ⟨σ', H', J'.ofTry ok, q⟩
    | brk =>
      obtain ⟨σ', H', J', q⟩ := hsp
      exact ⟨σ', H', J'.ofTry ok, q⟩
    | cont =>
      obtain ⟨σ', H', J', q⟩ := hsp
      exact ⟨σ', H', J'.ofTry ok, q⟩
    | ret u =>
      obtain ⟨v, σ', H', J', r, q⟩ := hsp
      exact ⟨v, σ', H', J'.ofTry ok, r, q⟩
end
section
variable {X : Cx} {pos : Pos}
/-- isinstance(e, c), e a caught error -/
def rIsX (K : PySem.W.Frag) : List V → Hp → VK → Prop := fun xs H Q => ∃ (e C d : Addr) (v : V) (c : V) (u : Value) (b : Bool), xs = [.ref e, c] ∧ H e = some (errX e C d) ∧ H d = some (.xd (vf v)) ∧ ClsV c u ∧ PySem.W.kitOne K (.ref C) u = some b ∧
  (∃ (file : Str) (mg : Str → Option Value) (L : Addr) (nm qual : Str) (st : Stmt), LineC K mg L ∧ ErrC K file mg L nm qual st C) ∧ Q (.bl b) H
theorem call_isX : CallR X (.builtin "isinstance") (rIsX X.K) := by
  intro pins s σ H xs us Q I r h
  obtain ⟨e, C', d, v, c, u, b, rfl, he, hd, hc, hk, ⟨file, mg, L', nm', qual', st', TL, T⟩, q⟩ := h
  obtain ⟨u1, u2, rfl, r1, r2⟩ := vals2 r
  obtain rfl : u1 = Value.ref e := r1
  have e2 := hc.eq r2
  subst e2
  obtain ⟨o, vs, ho, o1, o2, o3⟩ := errX_at I.hok he
  obtain ⟨mA, hns, _⟩ := (show ∃ mA, s.heap.Ns1 d mA ∧ ∀ f, RelO ((vf v).lookup f) (mA f) from I.hok d _ hd)
  obtain ⟨od, hod, _⟩ := lookIn_ns hns
  obtain ⟨cd, q1, q2, q3⟩ := T.chain
  obtain ⟨ocls, odict, odata, oslots⟩ := o
  simp only at o1 o2 o3
  subst o1 o2 o3
  have Z : PySem.W.KitX X.K (.ref e) (.ref C') (fun h => PySem.W.InstAt h e { cls := .ref C', dict := some d, data := .fields vs, slots := oslots } C' (some od)) :=
    PySem.W.kitx_exc (by rw [q1]; rfl) T.ga T.gg ((T.under _).trans (by rfl)) T.ca TL.sp TL.tk ((T.under _).trans (by rfl))
  exact PySem.W.kia_one Z I.kIn ⟨ho, rfl, rfl, hod⟩ hk (fun z => nomatch z) fun tk => ⟨.bl b, H, I.tok tk, rfl, q⟩
/-- e.value, e a caught error -/
def tErrXV (K : PySem.W.Frag) (te : TE) : TE := fun σ H Q => te σ H fun x H1 => ∃ (e C d : Addr) (v : V), x = .ref e ∧ H1 e = some (errX e C d) ∧ H1 d = some (.xd (vf v)) ∧
  (∃ (file : Str) (mg : Str → Option Value) (L : Addr) (nm qual : Str) (st : Stmt), LineC K mg L ∧ ErrC K file mg L nm qual st C) ∧ Q v H1
theorem pe_errXV {e : Expr} {te : TE} (he : PE X e te) (hb : attributeBase e "value" X.env (eval e X.env) = eval e X.env := by rfl) : PE X (.Attribute e "value" pos) (tErrXV X.K te) := by
  refine ⟨fun pins s σ H Q I h => ?_⟩
  refine attr_of hb (thn (he.run pins s σ H _ I h) fun u s1 hh => ?_)
  obtain ⟨x, H1, I1, rx, e', C', d, v, ex, hoe, hd, ⟨file, mg, L', nm', qual', st', TL, T⟩, q⟩ := hh
  subst ex
  obtain rfl : u = Value.ref e' := rx
  obtain ⟨o, vs, ho, o1, o2, o3⟩ := errX_at I1.hok hoe
  obtain ⟨mA, hns, hr⟩ := (show ∃ mA, s1.heap.Ns1 d mA ∧ ∀ f, RelO ((vf v).lookup f) (mA f) from I1.hok d _ hd)
  obtain ⟨od, hod, hl⟩ := lookIn_ns hns
  have l : List.lookup ("value" : Str) (vf v) = some v := by simp [List.lookup]
  obtain ⟨u, hu, ru⟩ := RelO.some_of (v := v) (o := mA "value") (by rw [← l]; exact hr "value")
  obtain ⟨ocls, odict, odata, oslots⟩ := o
  simp only at o1 o2 o3
  subst o1 o2 o3
  have J : PySem.W.InstAt s1.heap e' { cls := .ref C', dict := some d, data := .fields vs, slots := oslots } C' (some od) := ⟨ho, rfl, rfl, hod⟩
  obtain ⟨cd, q1, q2, q3⟩ := T.chain
  have hdict : PySem.W.hasDictIn X.K C' = true := by
    unfold PySem.W.hasDictIn
    rw [q1]
    simpa using q3
  exact HandSPX.exc_get I1.kIn J T.ga T.gg ((T.under _).trans (by rfl)) (PySem.W.findObj_own hdict T.nv rfl (by rw [hl, hu])) (handed_of ru) ⟨v, H1, I1.tok _, ru, q⟩
end
end Lx
/-! The eight error classes; classes whose __init__ raises, made by position and by name. -/
namespace Lx
open PySem PySem.Spec L2
/-- the eight classes and their base; ini i: the text of the i-th one's __init__ -/
structure ErrT (K : PySem.W.Frag) (file : Str) (mg : Str → Option Value) (L : Addr) (C : Nat → Addr) (ini : Nat → Stmt) : Prop where
  line : LineC K mg L
  e0 : ErrC K file mg L "InvalidChain" "InvalidChain.__init__" (ini 0) (C 0)
  e1 : ErrC K file mg L "InvalidRun" "InvalidRun.__init__" (ini 1) (C 1)
  e2 : ErrC K file mg L "InvalidForm" "InvalidForm.__init__" (ini 2) (C 2)
  e3 : ErrC K file mg L "InvalidNumber" "InvalidNumber.__init__" (ini 3) (C 3)
  e4 : ErrC K file mg L "InvalidPlace" "InvalidPlace.__init__" (ini 4) (C 4)
  e5 : ErrC K file mg L "UnknownName" "UnknownName.__init__" (ini 5) (C 5)
  e6 : ErrC K file mg L "NothingToUndo" "NothingToUndo.__init__" (ini 6) (C 6)
  e7 : ErrC K file mg L "Unreadable" "Unreadable.__init__" (ini 7) (C 7)
  inj : ∀ i j, i < 8 → j < 8 → C i = C j → i = j
  ne : ∀ i, i < 8 → C i ≠ L
section
variable {K : PySem.W.Frag} {file : Str} {mg : Str → Option Value} {L : Addr} {C : Nat → Addr} {ini : Nat → Stmt}
theorem ErrT.at (T : ErrT K file mg L C ini) : ∀ i, i < 8 → ∃ nm qual st, ErrC K file mg L nm qual st (C i)
  | 0, _ => ⟨_, _, _, T.e0⟩
  | 1, _ => ⟨_, _, _, T.e1⟩
  | 2, _ => ⟨_, _, _, T.e2⟩
  | 3, _ => ⟨_, _, _, T.e3⟩
  | 4, _ => ⟨_, _, _, T.e4⟩
  | 5, _ => ⟨_, _, _, T.e5⟩
  | 6, _ => ⟨_, _, _, T.e6⟩
  | 7, _ => ⟨_, _, _, T.e7⟩
  | n + 8, h => absurd h (by omega)
theorem ErrT.kit (T : ErrT K file mg L C ini) {i j : Nat} (hi : i < 8) (hj : j < 8) : PySem.W.kitOne K (.ref (C i)) (.ref (C j)) = some (decide (i = j)) := by
  obtain ⟨_, _, _, Ti⟩ := T.at i hi
  obtain ⟨_, _, _, Tj⟩ := T.at j hj
  rw [kit_err Ti Tj (T.ne j hj)]
  by_cases e : i = j
  · subst e; simp
  · have z : C i ≠ C j := fun q => e (T.inj i j hi hj q)
    rw [decide_eq_false e, decide_eq_false z]
theorem ErrT.kitL (T : ErrT K file mg L C ini) {i : Nat} (hi : i < 8) : PySem.W.kitOne K (.ref (C i)) (.ref L) = some true := by
  obtain ⟨_, _, _, Ti⟩ := T.at i hi
  exact kit_line T.line Ti
theorem ErrT.kitV (T : ErrT K file mg L C ini) {i : Nat} (hi : i < 8) : PySem.W.kitOne K (.ref (C i)) (.type "ValueError") = some true := by
  obtain ⟨_, _, _, Ti⟩ := T.at i hi
  exact kit_ve Ti
theorem ErrT.ex (T : ErrT K file mg L C ini) {i : Nat} (hi : i < 8) : ∃ (file : Str) (mg : Str → Option Value) (L : Addr) (nm qual : Str) (st : Stmt), LineC K mg L ∧ ErrC K file mg L nm qual st (C i) := by
  obtain ⟨_, _, _, Ti⟩ := T.at i hi
  exact ⟨_, _, _, _, _, _, T.line, Ti⟩
/-- except LineError -/
theorem ErrT.exm (T : ErrT K file mg L C ini) {i : Nat} (hi : i < 8) : PySem.W.exmOne K (.ref (C i)) (.ref L) = some true := by
  obtain ⟨_, _, _, Ti⟩ := T.at i hi
  unfold PySem.W.exmOne
  rw [T.line.exB, if_pos (by rfl)]
  have := kit_line T.line Ti
  unfold PySem.W.kitOne at this
  rw [if_neg (by simpa using T.ne i hi)] at this
  exact this
end
/-! ### list.count, flat items -/
section
variable {X : Cx}
theorem countP_eqU {x : V} : ∀ {xs : List V} {us : List Value}, Vals xs us → xs.all flatV = true → us.countP (eqU x) = xs.countP fun y => eqV y x
  | _, _, .nil, _ => rfl
  | y :: xs, u :: us, .cons r t, f => by
    rw [List.all_cons, Bool.and_eq_true] at f
    rw [List.countP_cons, List.countP_cons, countP_eqU t f.2, eqU_of r f.1]
def rCntF (K : PySem.W.Frag) : V → List V → Hp → VK → Prop := fun x xs H Q => ∃ (p : Addr) (ys : List V) (y : V), x = .ref p ∧ xs = [y] ∧ SqL K H p ys ∧ flatV y = true ∧ ys.all flatV = true ∧ Q (.int (ys.countP (fun z => eqV z y) : Nat)) H
theorem mt_countF : MtR X "list.count" (rCntF X.K) := by
  intro pins s σ H x xs v us Q I rx rxs h
  obtain ⟨p, ys, y, rfl, rfl, hs, fy, fys, q⟩ := h
  cases rx
  obtain ⟨u, rfl, ru⟩ := rxs.one
  obtain ⟨its, rv, ⟨⟨cls, dd, data, sl⟩, n, ho, hc, hdn, hd⟩, hlen⟩ := I.list hs
  simp only at hc hd
  subst hc hd
  refine call_meets PySem.F.slot_list_count ⟨_, ho, rfl⟩ PySem.F.entry_list_count (PySem.F.args_list_count_2 _ _)
    (SeqAt.list_countAt p its.toArray n dd sl u (eqU y)) ⟨ho, fun u' hu' => mem_eqAt ru fy rv fys u' (by simpa using hu'), ?_⟩
  have ec : its.toArray.toList.countP (eqU y) = ys.countP fun z => eqV z y := countP_eqU rv fys
  refine ⟨.int (ys.countP (fun z => eqV z y) : Nat), H, I.tok _, ⟨s.toks, ?_⟩, q⟩
  show Value.int ((its.toArray.toList.countP (eqU y) : Nat) : Int) s.toks = _
  rw [ec]
end
/-! ### C(e, ..), C(k = v) where __init__ may raise, at the slots -/
def tMakeS (C : Addr) (sp : Sp) (E : St → XK) (t : TA) : TE := fun σ H Q => t σ H fun vs H1 => ∀ x dx, H1 x = none → H1 dx = none → dx ≠ x →
  sp (.ref x :: vs) (upd (upd H1 dx (.own x)) x (.ins C dx [])) (fun v H2 => v = .non ∧ Q (.ref x) H2) (E σ)
def tMakeKS (C : Addr) (m : Nat) (sp : Sp) (gV : List V → List V → List V) (E : St → XK) (tk : TA) : TE := fun σ H Q => tk σ H fun zs H2 => zs.length = m ∧ ∀ x dx, H2 x = none → H2 dx = none → dx ≠ x →
  sp (gV [.ref x] zs) (upd (upd H2 dx (.own x)) x (.ins C dx [])) (fun v H3 => v = .non ∧ Q (.ref x) H3) (E σ)
section
variable {X : Cx} {CX : CXT} {k n : Nat} {f C : Addr} {fd : FuncData} {ps ks : List Str} {sp : Sp} {E : St → XK} {x : Str} {p pos : Pos} {e : Expr} {es : List Expr} {kws : List Keyword} {t tk : TA} {g : List Value → List Value → List Value} {gV : List V → List V → List V}
theorem run_makeS {pins : List (Addr × Obj)} {σ : St} {H : Hp} {s : Shared} {Q : VK} {us : List Value} {vs : List V} (M : Mk X.K C f) (F : FnOk X.prog X.w X.K X.mg X.base CX k f fd ps sp) (hr : Room (k + 1) X.A) (hb : Binds X.K fd ps [])
    (hx : PassesAt CX X σ (E σ)) (I : Inv X pins σ H s) (r : Vals vs us)
    (h : ∀ x dx, H x = none → H dx = none → dx ≠ x → sp (.ref x :: vs) (upd (upd H dx (.own x)) x (.ins C dx [])) (fun v H2 => v = .non ∧ Q (.ref x) H2) (E σ)) :
    wpAny (model X.prog X.w) X.A (call (.ref C) us) (EP X pins σ Q) X.xe s := by
  have hq := h (s.heap.objs.size + 1) s.heap.objs.size (I.hok.fresh (Nat.le_succ _)) (I.hok.fresh (Nat.le_refl _)) (Nat.ne_of_lt (Nat.lt_succ_self _))
  have I2 := Inv.made (C := C) I
  have r2 : Vals (V.ref (s.heap.objs.size + 1) :: vs) (Value.ref (s.heap.objs.size + 1) :: us) := .cons rfl r
  have hl : (Value.ref (s.heap.objs.size + 1) :: us ++ []).length = ps.length := by
    have e := r2.length
    rw [F.len _ _ _ _ hq] at e
    rw [List.append_nil]
    exact e.symm
  have b := hb _ (Value.ref (s.heap.objs.size + 1) :: us) I2.kIn hl
  rw [List.append_nil] at b
  refine wpAny_call (make_map (f := f) I.kIn M.makes M.init (beq_iff_eq.mp M.fn) (codeAny_mono (F.run _ X.stack _ _ ⟨Value.ref (s.heap.objs.size + 1) :: us, []⟩ (Value.ref (s.heap.objs.size + 1) :: us) _ _ (E σ) (hr.make C us [])
    (I2.env0.make C us []) b r2 hq) fun r s' hq' => ?_))
  cases r with
  | error e => exact hx pins _ _ e s' I2 hq'
  | ok fl =>
    cases fl with
    | ret u =>
      obtain ⟨v, H', I3, rv, ev, q3⟩ := I2.after hq'
      subst ev
      exact ⟨rv, ⟨V.ref (s.heap.objs.size + 1), H', I3, rfl, q3⟩⟩
    | next => exact False.elim hq'
    | brk => exact False.elim hq'
    | cont => exact False.elim hq'
theorem pe_makeS (M : Mk X.K C f) (F : FnOk X.prog X.w X.K X.mg X.base CX k f fd ps sp) (hr : Room (k + 1) X.A) (hg : Gl X x) (hm : X.mg x = some (.ref C)) (hb : Binds X.K fd ps []) (hx : ∀ σ, PassesAt CX X σ (E σ))
    (ha : PA X (e :: es) t) (hdb : (x == ("__debug__" : Str)) = false := by decide) (he : starEach (e :: es) X.env = (false, eval e X.env) :: starEach es X.env := by rfl) (hpl : (backTo pos (starEach es X.env)).any (·.1) = false := by rfl) :
    PE X (.Call (.Name x p) (e :: es) [] pos) (tMakeS C sp E t) := by
  refine ⟨fun pins s σ H Q I h => ?_⟩
  refine wpAny_Call_Name_kw (ld_glob I hg hm ?_ hdb)
  refine PySem.W.callWith_K (h₀ := X.base) I.ok.mod.kin M.kp (thn (ha.run pos pins s σ H _ I h) fun us s1 ⟨vs, H1, I1, r, q⟩ => ⟨I1.kIn, ?_⟩) he hpl
  exact run_makeS M F hr hb (hx σ) I1 r q
theorem run_makeKS {pins : List (Addr × Obj)} {σ : St} {H : Hp} {s : Shared} {Q : VK} {ws : List Value} {zs : List V} (M : Mk X.K C f) (F : FnOk X.prog X.w X.K X.mg X.base CX k f fd ps sp) (hr : Room (k + 1) X.A) (hb : KBn X.K fd ps 1 ks g gV)
    (hx : PassesAt CX X σ (E σ)) (I : Inv X pins σ H s) (rz : Vals zs ws) (l2 : zs.length = ks.length)
    (h : ∀ x dx, H x = none → H dx = none → dx ≠ x → sp (gV [.ref x] zs) (upd (upd H dx (.own x)) x (.ins C dx [])) (fun v H2 => v = .non ∧ Q (.ref x) H2) (E σ)) :
    wpAny (model X.prog X.w) X.A (call (.ref C) [] (ks.zip ws)) (EP X pins σ Q) X.xe s := by
  have hq := h (s.heap.objs.size + 1) s.heap.objs.size (I.hok.fresh (Nat.le_succ _)) (I.hok.fresh (Nat.le_refl _)) (Nat.ne_of_lt (Nat.lt_succ_self _))
  have I2 := Inv.made (C := C) I
  have r1 : Vals [V.ref (s.heap.objs.size + 1)] [Value.ref (s.heap.objs.size + 1)] := .cons rfl .nil
  have r2 := hb.rel r1 rz
  refine wpAny_call (make_map (f := f) I.kIn M.makes M.init (beq_iff_eq.mp M.fn) (codeAny_mono (F.run _ X.stack _ _ ⟨[Value.ref (s.heap.objs.size + 1)], ks.zip ws⟩ (g [Value.ref (s.heap.objs.size + 1)] ws) _ _ (E σ) (hr.make C [] (ks.zip ws))
    (I2.env0.make C [] (ks.zip ws)) (hb.to _ [Value.ref (s.heap.objs.size + 1)] ws I2.kIn rfl (rz.length.symm.trans l2)) r2 hq) fun r s' hq' => ?_))
  cases r with
  | error e => exact hx pins _ _ e s' I2 hq'
  | ok fl =>
    cases fl with
    | ret u =>
      obtain ⟨v, H', I3, rv, ev, q3⟩ := I2.after hq'
      subst ev
      exact ⟨rv, ⟨V.ref (s.heap.objs.size + 1), H', I3, rfl, q3⟩⟩
    | next => exact False.elim hq'
    | brk => exact False.elim hq'
    | cont => exact False.elim hq'
theorem pe_makeKS (M : Mk X.K C f) (F : FnOk X.prog X.w X.K X.mg X.base CX k f fd ps sp) (hr : Room (k + 1) X.A) (hg : Gl X x) (hm : X.mg x = some (.ref C)) (hb : KBn X.K fd ps 1 ks g gV) (hx : ∀ σ, PassesAt CX X σ (E σ)) (hkw : PK X kws tk)
    (hall : (backToKw pos (keywordEach kws X.env)).all (·.1.isSome) = true := by rfl) (hks : (backToKw pos (keywordEach kws X.env)).filterMap (·.1) = ks := by rfl) (hdb : (x == ("__debug__" : Str)) = false := by decide)
    (hpl : ((backTo pos (starEach [] X.env)).any (·.1) || (backToKw pos (keywordEach kws X.env)).any (·.1.isNone)) = false := by rfl) :
    PE X (.Call (.Name x p) [] kws pos) (tMakeKS C ks.length sp gV E tk) := by
  refine ⟨fun pins s σ H Q I h => ?_⟩
  refine wpAny_Call_Name_kw (ld_glob I hg hm ?_ hdb)
  refine PySem.W.callWith_KW0 (h₀ := X.base) I.ok.mod.kin M.kp hall ?_ hpl
  refine thn (hkw.run pos pins s σ H _ I h) fun ws s2 ⟨zs, H2, I2, rz, l2, q2⟩ => ⟨I2.kIn, ?_⟩
  rw [hks]
  exact run_makeKS M F hr hb (hx σ) I2 rz l2 q2
end
/-- self by position, the one argument by its name -/
def gSelf1 (α : Type) : List α → List α → List α
  | [a], [b] => [a, b]
  | _, _ => []
theorem kbSelf1 {K : PySem.W.Frag} {x qual : Str} {st : Stmt} {f : Addr} {fd : FuncData} {p1 p2 : Str} (F : Fun K x qual st f fd)
    (h : ∀ (kV doc pm : Value) (an : Option Addr) (cdv ct a b : Value), bindArgs (PySem.W.fnOf x qual (defArgs st) (defBody st) (defScope st) .none kV doc pm an cdv ct) ⟨[a], [(p2, b)]⟩ = pure [(p1, a), (p2, b)]) : KBn K fd [p1, p2] 1 [p2] (gSelf1 Value) (gSelf1 V) := by
  obtain ⟨oc, od, kV, doc, pm, an, cdv, ct, osl, rfl, lk, hcd⟩ := F.ex
  refine ⟨fun s us ws _ l1 l2 => ?_, fun {vs us zs ws} r1 r2 => ?_⟩
  · match us, ws, l1, l2 with
    | [a], [b], _, _ => exact .of_eq (h kV doc pm an cdv ct a b)
  · cases r1 with
    | nil => exact .nil
    | cons a t =>
      cases t with
      | cons _ _ => exact .nil
      | nil =>
        cases r2 with
        | nil => exact .nil
        | cons b t =>
          cases t with
          | nil => exact .cons a (.cons b .nil)
          | cons _ _ => exact .nil
end Lx
namespace Lw
open PySem PySem.Spec L2 Lx
/-- i: the first letter that is no step -/
def Bad (x : Str) (i : Nat) : Prop := (∃ c, x.cps[i]? = some c ∧ c ∉ steps.cps.toList) ∧ ∀ j, j < i → ∀ c, x.cps[j]? = some c → c ∈ steps.cps.toList
theorem chok_or (x : Str) : ChOk x ∨ ∃ i, Bad x i := by
  have go : ∀ (n : Nat), (∀ j, j < n → ∀ c, x.cps[j]? = some c → c ∈ steps.cps.toList) ∨ ∃ i, Bad x i := by
    intro n
    induction n with
    | zero => exact .inl fun j hj => absurd hj (Nat.not_lt_zero _)
    | succ n ih =>
      rcases ih with h | h
      · by_cases hc : ∀ c, x.cps[n]? = some c → c ∈ steps.cps.toList
        · refine .inl fun j hj c e => ?_
          by_cases hjn : j = n
          · subst hjn; exact hc c e
          · exact h j (by omega) c e
        · refine .inr ⟨n, ?_, h⟩
          cases e : x.cps[n]? with
          | none => exact absurd (fun c q => by rw [e] at q; cases q) hc
          | some c => exact ⟨c, rfl, fun hm => hc fun c' q => by rw [e] at q; cases q; exact hm⟩
      · exact .inr h
  rcases go x.cps.size with h | h
  · refine .inl fun c hc => ?_
    obtain ⟨j, hj, e⟩ := List.getElem_of_mem hc
    refine h j (by simpa using hj) c ?_
    rw [← Array.getElem?_toList, List.getElem?_eq_getElem hj, e]
  · exact .inr h
/-- the letters are looked at: none is wrong, or i is the first -/
def spChkE (C : Addr) : Sp := fun vs H Q E => ∃ x, vs = [.str x] ∧ (ChOk x → ∀ H', Same H H' → Q .non H') ∧ ∀ i, Bad x i → ∀ (H' : Hp) (d : Addr), Same H H' → H' d = some (.xd (vf (.int (i : Nat)))) → E (.ref C) (some d) H'
section
variable {P : Program} {w : World} {K : PySem.W.Frag} {mg : Str → Option Value} {base : Heap} {L : Addr} {C : Nat → Addr} {ini : Nat → Stmt}
theorem ok_chkE {f : Addr} {fd : FuncData} {k : Nat} {tS : Tok} (T : ErrT K P.main.file mg L C ini) (F : Fun K "check_chain" "check_chain" sChkChain f fd) (mE : mg "enumerate" = none) (gS : mg "STEPS" = some (.str steps tS))
    (ht : (P.main.scope.names.lookup ("super" : Str)).isSome = false) (gs : mg "super" = none) : FnOk P w K mg base (L2.CX P w) (k + 3) f fd ["chain"] (spChkE (C 0)) := by
  refine F.okX scChkChain (fun vs H Q E h => ?_) (fun cdv A outer s H vs Q E hr h => ?_)
  · obtain ⟨x, rfl, _⟩ := h
    rfl
  · obtain ⟨x, rfl, hgood, hbad⟩ := h
    have hr1 : Room 1 (A.deeper (PyProof.Rows.envOfC "check_chain" (defScope sChkChain) s.heap.objs.size f cdv)) := hr.mono (by omega)
    refine ⟨_, pss_one (ps_for (passes_of rfl) rfl (pi_enumS rfl mE (pa_cons (pv 0) pa_nil)) (pg_tup (by rfl) (pgs_cons (pg_name (i := 1) scChkChain.nd rfl (.inl rfl)) (pgs_cons (pg_name (i := 2) scChkChain.nd rfl (.inl rfl)) pgs_nil)))
        (pss_one (ps_if (pt_cmpR op_notIn_sign (pv 2) (pe_glob (v := .str steps) rfl gS ⟨_, rfl⟩) rfl) (pss_one (ps_raise rfl (takes_of rfl rfl rfl rfl) (pmk_err T.line T.e0 hr1 ht gs (by rfl) (pv 1)))) pss_nil))), ?_⟩
    refine ⟨_, rfl, x, rfl, ?_⟩
    refine for_it walk_enumS (fun i σ H' => Same H H' ∧ (∃ y1 y2, σ = [some (.str x), y1, y2]) ∧ ∀ j, j < i → ∀ c, x.cps[j]? = some c → c ∈ steps.cps.toList) ⟨Same.refl H, ⟨none, none, rfl⟩, fun j hj => absurd hj (Nat.not_lt_zero _)⟩ (fun _ _ _ _ _ => trivial) ?_ ?_
    · rintro i v σ H1 H2 hi ⟨sm, ⟨y1, y2, rfl⟩, hlow⟩ ⟨T', u1, u2, rfl, nT, rfl, h1, h2⟩
      cases Option.some.inj h1
      replace h2 : (x.cps[i]?).map (fun c => V.str ⟨#[c]⟩) = some u2 := h2
      cases e : x.cps[i]? with
      | none => rw [e] at h2; cases h2
      | some c =>
        rw [e] at h2
        cases Option.some.inj h2
        have s2 := sm.trans (same_upd (o := .tup [.int (i : Nat), .str ⟨#[c]⟩]) nT)
        refine ⟨T', _, rfl, .inl (.inl upd_same), rfl, _, _, rfl, _, _, rfl, rfl, ?_⟩
        refine ⟨_, rfl, c, steps, rfl, rfl, _, rfl, ?_⟩
        by_cases hc : c ∈ steps.cps.toList
        · rw [decide_eq_true hc]
          refine iteF ⟨s2, ⟨_, _, rfl⟩, fun j hj c' e' => ?_⟩
          by_cases hji : j = i
          · subst hji; rw [e] at e'; cases e'; exact hc
          · exact hlow j (by omega) c' e'
        · rw [decide_eq_false hc]
          refine iteT ⟨_, rfl, fun d nd => ?_⟩
          exact hbad i ⟨⟨c, e, hc⟩, hlow⟩ _ d (s2.trans (same_upd nd)) upd_same
    · rintro σ H1 ⟨sm, ⟨y1, y2, rfl⟩, hlow⟩
      refine hgood (fun c hc => ?_) H1 sm
      obtain ⟨j, hj, e⟩ := List.getElem_of_mem hc
      refine hlow j (by simpa using hj) c ?_
      rw [← Array.getElem?_toList, List.getElem?_eq_getElem hj, e]
end
end Lw
namespace Lw
open PySem PySem.Spec L2 Lx
/-- one address is as it was -/
def At1 (H H' : Hp) (a : Addr) : Prop := ∀ o, H a = some o → H' a = some o
theorem At1.of {H H' : Hp} (s : Same H H') (a : Addr) : At1 H H' a := fun o h => s a o h
theorem At1.trans {H H1 H2 : Hp} {a : Addr} (x : At1 H H1 a) (y : At1 H1 H2 a) : At1 H H2 a := fun o h => y o (x o h)
theorem Kb.at1 {r gl a : Addr} {H H' : Hp} (k : Kb r gl H H') (h1 : a ≠ r) (h2 : a ≠ gl) : At1 H H' a := fun o h => k a o h1 h2 h
theorem Kd.at1 {d a : Addr} {H H' : Hp} (k : Kd d H H') (h1 : a ≠ d) : At1 H H' a := fun o h => k a o h1 h
theorem BagAt.keep {H H' : Hp} {r gl : Addr} {n : Nat} (b : BagAt H r gl n) (k1 : At1 H H' r) (k2 : At1 H H' gl) : BagAt H' r gl n := by
  obtain ⟨ds, l, t, b', h1, h2, h3⟩ := b
  exact ⟨ds, l, t, b', k1 _ h1, k2 _ h2, h3⟩
theorem FmAt.keepT {K : PySem.W.Frag} {H H' : Hp} {v : V} {f : Fm} (h : FmAt K H v f) (k : ∀ b o, (∀ xs, o ≠ .lst xs) → (∀ kvs, o ≠ .dK kvs) → (∀ C dx fs, o ≠ .ins C dx fs) → H b = some o → H' b = some o) : FmAt K H' v f := by
  obtain ⟨p, h1, h2⟩ := h
  refine ⟨p, h1, ?_⟩
  rcases h2 with (h | ⟨o, h⟩) | h
  · exact .inl (.inl (k _ _ (fun _ z => by cases z) (fun _ z => by cases z) (fun _ _ _ z => by cases z) h))
  · exact .inl (.inr ⟨o, k _ _ (fun _ z => by cases z) (fun _ z => by cases z) (fun _ _ _ z => by cases z) h⟩)
  · exact .inr h
/-- a new object, and what its __init__ left -/
theorem same_made {H : Hp} {dx p : Addr} {u o : HO} (ndx : H dx = none) (np : H p = none) : Same H (upd (upd H dx u) p o) := fun b x e => by
  rw [upd_ne (ne_of_none e np), upd_ne (ne_of_none e ndx)]
  exact e
theorem same_ofKd {H H1 H' : Hp} {p : Addr} (s : Same H H1) (np : H p = none) (k : Kd p H1 H') : Same H H' := fun b o e => k b o (ne_of_none e np) (s b o e)
theorem cutS_to (z : Str) (k : Nat) : (cutS z none (some (k : Int))).cps.toList = z.cps.toList.take k := by
  have hl : z.cps.toList.length = z.length := Array.length_toList ..
  unfold cutS
  rw [HT.sIx_none, HT.sIx_nat]
  show (((z.cps.toList.drop 0).take (min k z.length - 0)).toArray).toList = _
  rw [List.drop_zero, Nat.sub_zero]
  by_cases h : k ≤ z.length
  · rw [Nat.min_eq_left h]
  · rw [Nat.min_eq_right (by omega), List.take_of_length_le (by omega : z.cps.toList.length ≤ z.length), List.take_of_length_le (by omega : z.cps.toList.length ≤ k)]
theorem cutS_from (z : Str) (k : Nat) : (cutS z (some (k : Int)) none).cps.toList = z.cps.toList.drop k := by
  have hl : z.cps.toList.length = z.length := Array.length_toList ..
  unfold cutS
  rw [HT.sIx_none, HT.sIx_nat]
  show (((z.cps.toList.drop (min k z.length)).take (z.length - min k z.length)).toArray).toList = _
  by_cases h : k ≤ z.length
  · rw [Nat.min_eq_left h, List.take_of_length_le (by rw [List.length_drop]; omega)]
  · rw [Nat.min_eq_right (by omega : z.length ≤ k), List.drop_of_length_le (by omega : z.cps.toList.length ≤ k), List.drop_of_length_le (by omega : z.cps.toList.length ≤ z.length)]
    simp
theorem str_ext {x y : Str} (h : x.cps.toList = y.cps.toList) : x = y := Str.ext' (Array.toList_inj.mp h)
end Lw
namespace Lw
open PySem PySem.Spec L2 Lx
theorem scSpoilt : FnScope ["pool", "steps_here", "found", "turn", "cut", "at", "letter"] ["pool", "steps_here"] (defScope sLSpoilt) := ⟨rfl, rfl, rfl, by decide +kernel, rfl, by decide +kernel, by decide +kernel⟩
def spSpoilt : Sp := fun vs H Q _ => ∃ (r : Addr) (n : Nat) (z : Str), vs = [.ref r, .str z] ∧ PoolAt H r n ∧ n < 900000000 ∧ z.cps.size ≤ 100 ∧ ∀ (y : Str) (i : Nat) (H' : Hp) (p : Addr), Bad y i → H' p = some (.lst [.str y, .int i]) → PoolAt H' r (n + 5) → Kd r H H' → Q (.ref p) H'
structure SpF (mg : Str → Option Value) : Prop where
  range : mg "range" = none
  len : mg "len" = none
  enumerate : mg "enumerate" = none
theorem bad_at {v : Int} (h0 : 0 ≤ v) (h1 : v < 8) : ∃ c, atI ("udmnX 0^" : Str).cps.toList v = some c ∧ c ∉ steps.cps.toList := by
  have : v = 0 ∨ v = 1 ∨ v = 2 ∨ v = 3 ∨ v = 4 ∨ v = 5 ∨ v = 6 ∨ v = 7 := by omega
  rcases this with rfl | rfl | rfl | rfl | rfl | rfl | rfl | rfl <;> exact ⟨_, rfl, by decide⟩
section
variable {P : Program} {w : World} {K : PySem.W.Frag} {mg : Str → Option Value} {base : Heap}
theorem ok_spoilt {f aD : Addr} {fd dD : FuncData} {k : Nat} (F : Fun K "_law_spoilt" "_law_spoilt" sLSpoilt f fd) (Z : SpF mg)
    (cD : Cl P w K mg base k "_law_draw" ["pool", "many"] spDraw aD dD) : FnOk P w K mg base CX0 (k + 1) f fd ["pool", "steps_here"] spSpoilt := by
  refine F.ok scSpoilt (fun vs H Q E h => ?_) (fun cdv A outer s H vs Q E hr h => ?_)
  · obtain ⟨r, n, z, rfl, _⟩ := h
    rfl
  · obtain ⟨r, n, z, rfl, hS, hn, hzl, q⟩ := h
    refine ⟨_, (pss_cons (ps_set (i := 2) scSpoilt.nd rfl (.inl rfl) (pv 1))
      (pss_cons (ps_for PassesOwn.never rfl (pi_range1 rfl Z.range (pa_cons (pe_op op_add pe_int (pe_call cD.G hr (by rfl) cD.g cD.kp cD.b .nil pass0 (pa_cons (pv 0) (pa_cons pe_int pa_nil)))) pa_nil)) (pg_name (i := 3) scSpoilt.nd rfl (.inl rfl))
          (pss_cons (ps_set (i := 4) scSpoilt.nd rfl (.inl rfl) (pe_call cD.G hr (by rfl) cD.g cD.kp cD.b .nil pass0 (pa_cons (pv 0) (pa_cons (pe_op op_add (pe_callB call_len_str (by rfl) Z.len PySem.boot_len (pa_cons (pv 2) pa_nil)) pe_int) pa_nil))))
          (pss_one (ps_set (i := 2) scSpoilt.nd rfl (.inl rfl) (pe_op op_add_str (pe_op op_add_str (pe_slice sl_str (pv 2) po_none (po_some (pv 4))) (pe_ix ix_str pe_str (pe_call cD.G hr (by rfl) cD.g cD.kp cD.b .nil pass0 (pa_cons (pv 0) (pa_cons pe_int pa_nil))) (fun _ _ => rfl))) (pe_slice sl_str (pv 2) (po_some (pv 4)) po_none))))))
      (pss_one (ps_ret (pe_lst (pa_cons (pv 2) (pa_cons (pe_ix ix_list (pe_lc (own := [("at", 5), ("letter", 6)]) (g := (gTup K 2 (gCons (gName 5) (gCons (gName 6) gNil)))) (tt := _) rfl scSpoilt.nd (pi_enumS rfl Z.enumerate (pa_cons (pv 2) pa_nil)) (blkOk_by (own := [("at", 5), ("letter", 6)]) (N := ["pool", "steps_here", "found", "turn", "cut", "at", "letter"]) (sc := defScope sLSpoilt) (by decide +kernel)) (fun _ _ _ _ _ => (pg_tup (by rfl) (pgs_cons (pg_name (i := 5) scSpoilt.nd rfl (.inl rfl)) (pgs_cons (pg_name (i := 6) scSpoilt.nd rfl (.inl rfl)) pgs_nil)))) (fun _ _ _ _ _ => (pts_one (pt_cmpR op_notIn_sign (pv 6) pe_str (by with_unfolding_all rfl)))) (fun _ _ _ _ _ => (pv 5))) pe_int (fun _ _ => rfl)) pa_nil))))))), ?_⟩
    have p10 : (2 : Nat) ^ 10 = 1024 := by decide
    have p40 : (2 : Nat) ^ 10 ≤ 2 ^ 4000 := Nat.pow_le_pow_right (by decide) (by decide)
    have sm : ∀ i : Int, 0 ≤ i → i ≤ 1001 → i.natAbs < 2 ^ 4000 := fun i h0 h1 => Nat.lt_of_lt_of_le (show i.natAbs < 2 ^ 10 by omega) p40
    refine ⟨_, rfl, _, rfl, r, n, 2, rfl, hS, by omega, by decide, by decide, fun v H1 v0 v1 hS1 k1 => ?_⟩
    refine ⟨_, _, rfl, rfl, _, rfl, by omega, by omega, ?_⟩
    refine for_range (lo := 0) (n := (1 + v).toNat) (fun j σ H' => ∃ (x : Str) (y3 y4 : Option V), σ = [some (.ref r), some (.str z), some (.str x), y3, y4, none, none] ∧ x.cps.size = z.cps.size + j ∧ (0 < j → ¬ ChOk x) ∧ PoolAt H' r (n + 1 + 2 * j) ∧ Kd r H H') ⟨z, none, none, rfl, rfl, fun h => absurd h (Nat.lt_irrefl _), hS1, k1⟩ ?_ ?_
    · rintro j σ H2 hj ⟨x, y3, y4, rfl, hxl, hbad, hS2, k2⟩
      have hxs : x.length ≤ 102 := by show x.cps.size ≤ 102; omega
      have hxL : x.length ≤ sizeLine := by rw [sizeLine_eq]; omega
      refine ⟨_, rfl, _, rfl, x, rfl, hxL, _, _, rfl, rfl, r, _, (x.length : Int) + 1, rfl, hS2, by omega, by omega, sm _ (by omega) (by omega), fun cut H3 c0 c1 hS3 k3 => ?_⟩
      obtain ⟨cn, rfl⟩ := Int.eq_ofNat_of_zero_le c0
      have t1 := cutS_to x cn
      have t2 := cutS_from x cn
      have l1 : (cutS x none (some (cn : Int))).length ≤ x.length := cutS_length _ _ _
      have l2 : (cutS x (some (cn : Int)) none).length ≤ x.length := cutS_length _ _ _
      refine ⟨_, rfl, _, rfl, (cn : Int), rfl, x, rfl, hxL, _, rfl, r, _, 8, rfl, hS3, by omega, by decide, by decide, fun u H4 u0 u1 hS4 k4 => ?_⟩
      obtain ⟨c, hc, hcm⟩ := bad_at u0 u1
      refine ⟨_, u, c, rfl, rfl, by show 8 ≤ sizeLine; decide, hc, _, _, rfl, rfl, ?_, _, rfl, _, rfl, (cn : Int), rfl, x, rfl, hxL, _, _, rfl, rfl, ?_, ?_⟩
      · rw [sizeLine_eq]
        show _ + 1 ≤ _
        omega
      · have e : (cutS x none (some (cn : Int)) ++ (⟨#[c]⟩ : Str)).length = (cutS x none (some (cn : Int))).length + 1 := Array.size_append ..
        rw [sizeLine_eq, e]
        omega
      have e : (cutS x none (some (cn : Int)) ++ (⟨#[c]⟩ : Str) ++ cutS x (some (cn : Int)) none).cps.toList = x.cps.toList.take cn ++ [c] ++ x.cps.toList.drop cn := by
        have e1 : ∀ a b : Str, (a ++ b).cps.toList = a.cps.toList ++ b.cps.toList := fun a b => Array.toList_append ..
        rw [e1, e1, t1, t2]
      refine ⟨_, _, _, rfl, ?_, fun _ hch => hcm (hch c ?_), hS4.mono (by omega), (k2.trans k3).trans k4⟩
      · rw [← Array.length_toList, e]
        simp only [List.length_append, List.length_take, List.length_drop, List.length_cons, List.length_nil, Array.length_toList]
        omega
      · rw [e]
        simp
    · rintro σ H2 ⟨x, y3, y4, rfl, hxl, hbad, hS2, k2⟩
      have hno : ¬ ChOk x := hbad (by omega)
      have hxL : x.cps.size ≤ 102 := by omega
      refine ⟨_, rfl, _, rfl, x, rfl, fun D nD => ?_⟩
      have hDr := hS2.ne nD
      have hDf : H D = none := Kd.freeP k2 hS2 nD
      refine lc_it walk_enumS (fun i H' => ∃ zs : List Int, H' D = some (.lst (zs.map V.int)) ∧ zs.length ≤ i ∧ ((zs = [] ∧ ∀ j, j < i → ∀ c, x.cps[j]? = some c → c ∈ steps.cps.toList) ∨ ∃ (i0 : Nat) (t : List Int), zs = (i0 : Int) :: t ∧ Bad x i0) ∧ PoolAt H' r (n + 5) ∧ Kd r H H') ⟨[], upd_same, Nat.le_refl _, .inl ⟨rfl, fun j hj => absurd hj (Nat.not_lt_zero _)⟩, (hS2.own hDr).mono (by omega), k2.own hDf⟩ (fun _ _ _ _ => trivial) ?_ ?_
      · rintro i u H3 H4 hi ⟨zs, hD, hl, hz, hS3, k3⟩ ⟨T', u1, u2, rfl, nT, rfl, h1, h2⟩
        cases Option.some.inj h1
        replace h2 : (x.cps[i]?).map (fun c => V.str ⟨#[c]⟩) = some u2 := h2
        cases e : x.cps[i]? with
        | none => rw [e] at h2; cases h2
        | some c =>
          rw [e] at h2
          cases Option.some.inj h2
          have s4 := same_upd (o := .tup [.int (i : Nat), .str ⟨#[c]⟩]) nT
          have hD4 := s4 _ _ hD
          have hS4 := hS3.same s4
          have k4 := k3.trans (Kd.of s4)
          refine ⟨T', _, rfl, .inl (.inl upd_same), rfl, _, _, rfl, _, _, rfl, rfl, rfl, _, rfl, c, steps, rfl, rfl, _, rfl, ?_⟩
          by_cases hc : c ∈ steps.cps.toList
          · rw [decide_eq_true hc]
            refine iteF ⟨zs, hD4, by omega, ?_, hS4, k4⟩
            rcases hz with ⟨hz, hg⟩ | hz
            · refine .inl ⟨hz, fun j hj c' e' => ?_⟩
              by_cases hji : j = i
              · subst hji; rw [e] at e'; cases e'; exact hc
              · exact hg j (by omega) c' e'
            · exact .inr hz
          · rw [decide_eq_false hc]
            refine iteT ⟨_, rfl, _, hD4, by rw [List.length_map, sizeLine_eq]; omega, zs ++ [(i : Int)], by rw [upd_same, List.map_append]; rfl, by rw [List.length_append]; show zs.length + 1 ≤ _; omega, ?_, hS4.own hDr, k4.own hDf⟩
            rcases hz with ⟨hz, hg⟩ | ⟨i0, t, hz, hb⟩
            · exact .inr ⟨i, [], by rw [hz]; rfl, ⟨c, e, hc⟩, hg⟩
            · exact .inr ⟨i0, t ++ [(i : Int)], by rw [hz]; rfl, hb⟩
      · rintro H3 ⟨zs, hD, hl, hz, hS3, k3⟩
        rcases hz with ⟨hz, hg⟩ | ⟨i0, t, hz, hb⟩
        · refine absurd (fun c hc => ?_) hno
          obtain ⟨j, hj, e⟩ := List.getElem_of_mem hc
          refine hg j (by simpa using hj) c ?_
          rw [← Array.getElem?_toList, List.getElem?_eq_getElem hj, e]
        · subst hz
          refine ⟨D, _, (0 : Int), _, rfl, rfl, .inl (.inl hD), atI_nat (j := 0) rfl, by show 2 ≤ sizeLine; decide, fun p np => ?_⟩
          exact q x i0 _ p hb upd_same (hS3.same (same_upd np)) (k3.trans (Kd.of (same_upd np)))
end
end Lw
namespace Lw
open PySem PySem.Spec L2 Lx
theorem scHI : FnScope ["self", "chain"] ["self", "chain"] (defScope sHiddenChain___init__) := ⟨rfl, rfl, rfl, by decide +kernel, rfl, by decide +kernel, by decide +kernel⟩
theorem scHA : FnScope ["self", "text", "answer"] ["self", "text"] (defScope sHiddenChain_ask) := ⟨rfl, rfl, rfl, by decide +kernel, rfl, by decide +kernel, by decide +kernel⟩
theorem scHQ : FnScope ["self"] ["self"] (defScope sHiddenChain_questions) := ⟨rfl, rfl, rfl, by decide +kernel, rfl, by decide +kernel, by decide +kernel⟩
structure HTxt (K : PySem.W.Frag) (mg : Str → Option Value) (C : Addr) : Prop where
  cl : Cls K C
  nC : NoAttr K C "_chain"
  nQ : NoAttr K C "_questions"
  mgC : mg "HiddenChain" = some (.ref C)
/-- a hidden chain that has answered n questions -/
def HcAt (C : Addr) (H : Hp) (p : Addr) (z : Str) (n : Nat) : Prop := ∃ dx, H p = some (.ins C dx [("_chain", .str z), ("_questions", .int n)])
theorem HcAt.same {C : Addr} {H H' : Hp} {p : Addr} {z : Str} {n : Nat} (s : Same H H') : HcAt C H p z n → HcAt C H' p z n := fun ⟨dx, h⟩ => ⟨dx, s _ _ h⟩
def spHInit (C : Addr) : Sp := fun vs H Q _ => ∃ (p dx : Addr) (z : Str), vs = [.ref p, .str z] ∧ H p = some (.ins C dx []) ∧ ChOk z ∧ ∀ H', HcAt C H' p z 0 → Kd p H H' → Q .non H'
def spAsk (C : Addr) : Sp := fun vs H Q _ => ∃ (p : Addr) (z x : Str) (n : Nat), vs = [.ref p, .str x] ∧ HcAt C H p z n ∧ ChOk z ∧ TB x.cps.toList z.cps.toList ∧ ∀ (y : Str) H', y.cps.toList = doneT x.cps.toList z.cps.toList → HcAt C H' p z (n + 1) → Kd p H H' → Q (.str y) H'
def spQst (C : Addr) : Sp := fun vs H Q _ => ∃ (p : Addr) (z : Str) (n : Nat), vs = [.ref p] ∧ HcAt C H p z n ∧ Q (.int n) H
/-- __init__, the chain right or wrong -/
def spHInitE (C CI : Addr) : Sp := fun vs H Q E => ∃ (p dx : Addr) (z : Str), vs = [.ref p, .str z] ∧ H p = some (.ins C dx []) ∧ (ChOk z → ∀ H', HcAt C H' p z 0 → Kd p H H' → Q .non H') ∧ ∀ i, Bad z i → ∀ (H' : Hp) (d : Addr), Same H H' → H' d = some (.xd (vf (.int (i : Nat)))) → E (.ref CI) (some d) H'
theorem app_lst (x y : Str) : (x ++ y).cps.toList = x.cps.toList ++ y.cps.toList := Array.toList_append ..
theorem Kd.sameAft {d : Addr} {H H1 H2 : Hp} (k : Kd d H H1) (s : Same H1 H2) : Kd d H H2 := fun b o hb e => s b o (k b o hb e)
section
variable {P : Program} {w : World} {K : PySem.W.Frag} {mg : Str → Option Value} {base : Heap}
theorem ok_hinit {f C aC : Addr} {fd dC : FuncData} {k : Nat} (F : Fun K "__init__" "HiddenChain.__init__" sHiddenChain___init__ f fd) (T : HTxt K mg C)
    (cC : Cl P w K mg base k "check_chain" ["chain"] spChkChain aC dC) : FnOk P w K mg base CX0 (k + 1) f fd ["self", "chain"] (spHInit C) := by
  refine F.ok scHI (fun vs H Q E h => ?_) (fun cdv A outer s H vs Q E hr h => ?_)
  · obtain ⟨p, dx, z, rfl, _⟩ := h
    rfl
  · obtain ⟨p, dx, z, rfl, hp, hz, q⟩ := h
    refine ⟨_, pss_cons (ps_expr (pe_call cC.G hr (by rfl) cC.g cC.kp cC.b .nil pass0 (pa_cons (pv 1) pa_nil))) (pss_cons (ps_fld (pv 0) (pv 1) rfl) (pss_one (ps_fld (pv 0) pe_int rfl))), ?_⟩
    refine ⟨_, rfl, z, rfl, hz, fun H1 s1 => ?_⟩
    refine ⟨_, rfl, _, rfl, p, C, dx, [], rfl, s1 _ _ hp, T.cl, T.nC, by show 0 < 1000; decide, ?_⟩
    refine ⟨_, rfl, p, C, dx, _, rfl, upd_same, T.cl, T.nQ, by show 1 < 1000; decide, ?_⟩
    refine q _ ⟨dx, upd_same⟩ fun b o hb e => ?_
    rw [upd_ne hb, upd_ne hb]
    exact s1 _ _ e
theorem ok_ask {f C aV : Addr} {fd dV : FuncData} {k : Nat} (F : Fun K "ask" "HiddenChain.ask" sHiddenChain_ask f fd) (T : HTxt K mg C)
    (cV : Cl P w K mg base k "convert" ["text", "chain"] spCvt aV dV) : FnOk P w K mg base CX0 (k + 1) f fd ["self", "text"] (spAsk C) := by
  refine F.ok scHA (fun vs H Q E h => ?_) (fun cdv A outer s H vs Q E hr h => ?_)
  · obtain ⟨p, z, x, n, rfl, _⟩ := h
    rfl
  · obtain ⟨p, z, x, n, rfl, ⟨dx, hp⟩, hz, hb, q⟩ := h
    refine ⟨_, pss_cons (ps_set (i := 2) scHA.nd rfl (.inl rfl) (pe_call cV.G hr (by rfl) cV.g cV.kp cV.b .nil pass0 (pa_cons (pv 1) (pa_cons (pe_fld (pv 0) rfl) pa_nil)))) (pss_cons (ps_fldaug (pv 0) pe_int in_add) (pss_one (ps_ret (pv 2)))), ?_⟩
    refine ⟨_, rfl, _, rfl, p, C, dx, _, _, rfl, hp, T.cl, T.nC, rfl, x, z, rfl, hz, hb, fun y H1 s1 hy => ?_⟩
    refine ⟨_, rfl, p, C, dx, _, .int n, rfl, s1 _ _ hp, T.cl, T.nQ, rfl, _, _, rfl, rfl, dx, _, s1 _ _ hp, by show 2 < 1000; decide, ?_⟩
    refine ⟨_, rfl, q y _ hy ⟨dx, upd_same⟩ fun b o hb e => ?_⟩
    rw [upd_ne hb]
    exact s1 _ _ e
theorem ok_qst {f C : Addr} {fd : FuncData} {k : Nat} (F : Fun K "questions" "HiddenChain.questions" sHiddenChain_questions f fd) (T : HTxt K mg C) : FnOk P w K mg base CX0 (k + 1) f fd ["self"] (spQst C) := by
  refine F.ok scHQ (fun vs H Q E h => ?_) (fun cdv A outer s H vs Q E hr h => ?_)
  · obtain ⟨p, z, n, rfl, _⟩ := h
    rfl
  · obtain ⟨p, z, n, rfl, ⟨dx, hp⟩, q⟩ := h
    exact ⟨_, pss_one (ps_ret (pe_fld (pv 0) rfl)), _, rfl, p, C, dx, _, _, rfl, hp, T.cl, T.nQ, rfl, q⟩
theorem ok_hinitE {f C CI aC : Addr} {fd dC : FuncData} {k : Nat} (F : Fun K "__init__" "HiddenChain.__init__" sHiddenChain___init__ f fd) (T : HTxt K mg C)
    (GC : FnOk P w K mg base (L2.CX P w) k aC dC ["chain"] (spChkE CI)) (bC : Binds K dC ["chain"] []) (mC : mg "check_chain" = some (.ref aC)) (kC : PySem.W.keepIn K (.ref aC) = true) : FnOk P w K mg base (L2.CX P w) (k + 1) f fd ["self", "chain"] (spHInitE C CI) := by
  refine F.okX scHI (fun vs H Q E h => ?_) (fun cdv A outer s H vs Q E hr h => ?_)
  · obtain ⟨p, dx, z, rfl, _⟩ := h
    rfl
  · obtain ⟨p, dx, z, rfl, hp, hgood, hbad⟩ := h
    refine ⟨_, pss_cons (ps_expr (pe_callS (E := WE fun cls d _ H => E cls d H) GC hr (by rfl) mC kC bC (fun σ => passAt (takes_of rfl rfl rfl rfl) σ) (pa_cons (pv 1) pa_nil))) (pss_cons (ps_fld (pv 0) (pv 1) rfl) (pss_one (ps_fld (pv 0) pe_int rfl))), ?_⟩
    refine ⟨_, rfl, z, rfl, fun hz H1 s1 => ?_, hbad⟩
    refine ⟨_, rfl, _, rfl, p, C, dx, [], rfl, s1 _ _ hp, T.cl, T.nC, by show 0 < 1000; decide, ?_⟩
    refine ⟨_, rfl, p, C, dx, _, rfl, upd_same, T.cl, T.nQ, by show 1 < 1000; decide, ?_⟩
    refine hgood hz _ ⟨dx, upd_same⟩ fun b o hb e => ?_
    rw [upd_ne hb, upd_ne hb]
    exact s1 _ _ e
end
end Lw
namespace Lw
open PySem PySem.Spec L2 Lx
theorem scKind : FnScope ["caught", "some"] ["caught"] (defScope sLKind) := ⟨rfl, rfl, rfl, by decide +kernel, rfl, by decide +kernel, by decide +kernel⟩
structure KdF (mg : Str → Option Value) : Prop where
  isi : mg "isinstance" = none
  ve : mg "ValueError" = none
/-- a caught error of the class number n, its value v -/
def CgAt (C : Nat → Addr) (H : Hp) (e : Addr) (n : Nat) (v : V) : Prop := ∃ d, H e = some (errX e (C n) d) ∧ H d = some (.xd (vf v))
def words8 : List Str := ["chain", "run", "form", "number", "place", "name", "undo", "read"]
def spKind (C : Nat → Addr) : Sp := fun vs H Q _ => ∃ (e : Addr) (n : Nat) (v : V), vs = [.ref e] ∧ n < 8 ∧ CgAt C H e n v ∧ ∀ H', Same H H' → ∀ z, words8[n]? = some z → Q (.str z) H'
theorem CgAt.same {C : Nat → Addr} {H H' : Hp} {e : Addr} {n : Nat} {v : V} (s : Same H H') : CgAt C H e n v → CgAt C H' e n v := fun ⟨d, a, b⟩ => ⟨d, s _ _ a, s _ _ b⟩
section
variable {P : Program} {w : World} {K : PySem.W.Frag} {mg : Str → Option Value} {base : Heap} {L : Addr} {C : Nat → Addr} {ini : Nat → Stmt}
theorem ok_kind {f : Addr} {fd : FuncData} {k : Nat} (T : ErrT K P.main.file mg L C ini) (F : Fun K "_law_kind" "_law_kind" sLKind f fd) (Z : KdF mg) : FnOk P w K mg base CX0 (k + 1) f fd ["caught"] (spKind C) := by
  refine F.ok scKind (fun vs H Q E h => ?_) (fun cdv A outer s H vs Q E hr h => ?_)
  · obtain ⟨e, n, v, rfl, _⟩ := h
    rfl
  · obtain ⟨e, n, v, rfl, hn, ⟨d, he, hd⟩, q⟩ := h
    refine ⟨_, (pss_cons (ps_set (i := 1) scKind.nd rfl (.inl rfl) (pe_lst (pa_cons (pe_callB call_isX (by rfl) Z.isi (by decide +kernel) (pa_cons (pv 0) (pa_cons (pe_glob (v := .ref (C 0)) rfl T.e0.gC rfl) pa_nil))) (pa_cons (pe_callB call_isX (by rfl) Z.isi (by decide +kernel) (pa_cons (pv 0) (pa_cons (pe_glob (v := .ref (C 1)) rfl T.e1.gC rfl) pa_nil))) (pa_cons (pe_callB call_isX (by rfl) Z.isi (by decide +kernel) (pa_cons (pv 0) (pa_cons (pe_glob (v := .ref (C 2)) rfl T.e2.gC rfl) pa_nil))) pa_nil)))))
      (pss_cons (ps_set (i := 1) scKind.nd rfl (.inl rfl) (pe_op op_cat (pv 1) (pe_lst (pa_cons (pe_callB call_isX (by rfl) Z.isi (by decide +kernel) (pa_cons (pv 0) (pa_cons (pe_glob (v := .ref (C 3)) rfl T.e3.gC rfl) pa_nil))) (pa_cons (pe_callB call_isX (by rfl) Z.isi (by decide +kernel) (pa_cons (pv 0) (pa_cons (pe_glob (v := .ref (C 4)) rfl T.e4.gC rfl) pa_nil))) (pa_cons (pe_callB call_isX (by rfl) Z.isi (by decide +kernel) (pa_cons (pv 0) (pa_cons (pe_glob (v := .ref (C 5)) rfl T.e5.gC rfl) pa_nil))) pa_nil))))))
      (pss_cons (ps_set (i := 1) scKind.nd rfl (.inl rfl) (pe_op op_cat (pv 1) (pe_lst (pa_cons (pe_callB call_isX (by rfl) Z.isi (by decide +kernel) (pa_cons (pv 0) (pa_cons (pe_glob (v := .ref (C 6)) rfl T.e6.gC rfl) pa_nil))) (pa_cons (pe_callB call_isX (by rfl) Z.isi (by decide +kernel) (pa_cons (pv 0) (pa_cons (pe_glob (v := .ref (C 7)) rfl T.e7.gC rfl) pa_nil))) pa_nil)))))
      (pss_cons (ps_if (PW.pt (pw_or (pt_not (pt_val (pe_callB call_isX (by rfl) Z.isi (by decide +kernel) (pa_cons (pv 0) (pa_cons (pe_glob (v := .ref L) rfl T.line.gL rfl) pa_nil))))) (pw_or (pt_not (pt_val (pe_callB call_isX (by rfl) Z.isi (by decide +kernel) (pa_cons (pv 0) (pa_cons (pe_bltn (v := .ty "ValueError") (by rfl) Z.ve (by decide +kernel) rfl) pa_nil))))) (pw_or1 (pt_cmpR op_ne (pe_bm PySem.F.plainAttrs_list PySem.F.slot_list_count PySem.F.type_list_count mt_countF (pv 1) (pa_cons pe_bl pa_nil)) pe_int (nomark _))))))
          (pss_one (ps_ret pe_str)) pss_nil)
      (pss_one (ps_ret (pe_ix ix_list (pe_lst (pa_cons pe_str (pa_cons pe_str (pa_cons pe_str (pa_cons pe_str (pa_cons pe_str (pa_cons pe_str (pa_cons pe_str (pa_cons pe_str pa_nil))))))))) (pe_bm PySem.F.plainAttrs_list PySem.F.slot_list_index PySem.F.type_list_index mt_index (pv 1) (pa_cons pe_bl pa_nil)) (fun _ _ => rfl)))))))), ?_⟩
    have ex := T.ex hn
    have h0 : H e = some (errX e (C n) d) ∧ H d = some (.xd (vf v)) := ⟨he, hd⟩
    refine ⟨_, rfl, e, C n, d, v, .ref (C 0), .ref (C 0), _, rfl, h0.1, h0.2, ClsV.own _, T.kit hn (by decide), ex, _, rfl, e, C n, d, v, .ref (C 1), .ref (C 1), _, rfl, h0.1, h0.2, ClsV.own _, T.kit hn (by decide), ex, _, rfl, e, C n, d, v, .ref (C 2), .ref (C 2), _, rfl, h0.1, h0.2, ClsV.own _, T.kit hn (by decide), ex, by show 3 ≤ sizeLine; decide, fun p1 n1 => ?_⟩
    have s1 : Same H (upd H p1 (.lst [.bl (decide (n = 0)), .bl (decide (n = 1)), .bl (decide (n = 2))])) := same_upd n1
    have h1 := And.intro (s1 _ _ he) (s1 _ _ hd)
    refine ⟨_, rfl, _, rfl, e, C n, d, v, .ref (C 3), .ref (C 3), _, rfl, h1.1, h1.2, ClsV.own _, T.kit hn (by decide), ex, _, rfl, e, C n, d, v, .ref (C 4), .ref (C 4), _, rfl, h1.1, h1.2, ClsV.own _, T.kit hn (by decide), ex, _, rfl, e, C n, d, v, .ref (C 5), .ref (C 5), _, rfl, h1.1, h1.2, ClsV.own _, T.kit hn (by decide), ex, by show 3 ≤ sizeLine; decide, fun p2 n2 => ?_⟩
    have s2 := s1.trans (same_upd (o := .lst [.bl (decide (n = 3)), .bl (decide (n = 4)), .bl (decide (n = 5))]) n2)
    refine ⟨p1, p2, [.bl (decide (n = 0)), .bl (decide (n = 1)), .bl (decide (n = 2))], [.bl (decide (n = 3)), .bl (decide (n = 4)), .bl (decide (n = 5))], rfl, rfl, by rw [upd_ne (ne_of_none upd_same n2)]; exact upd_same, upd_same, by show 6 ≤ sizeLine; decide, fun p3 n3 => ?_⟩
    have s3 := s2.trans (same_upd (o := .lst [.bl (decide (n = 0)), .bl (decide (n = 1)), .bl (decide (n = 2)), .bl (decide (n = 3)), .bl (decide (n = 4)), .bl (decide (n = 5))]) n3)
    have h3 := And.intro (s3 _ _ he) (s3 _ _ hd)
    refine ⟨_, rfl, _, rfl, e, C n, d, v, .ref (C 6), .ref (C 6), _, rfl, h3.1, h3.2, ClsV.own _, T.kit hn (by decide), ex, _, rfl, e, C n, d, v, .ref (C 7), .ref (C 7), _, rfl, h3.1, h3.2, ClsV.own _, T.kit hn (by decide), ex, by show 2 ≤ sizeLine; decide, fun p4 n4 => ?_⟩
    have s4 := s3.trans (same_upd (o := .lst [.bl (decide (n = 6)), .bl (decide (n = 7))]) n4)
    refine ⟨p3, p4, [.bl (decide (n = 0)), .bl (decide (n = 1)), .bl (decide (n = 2)), .bl (decide (n = 3)), .bl (decide (n = 4)), .bl (decide (n = 5))], [.bl (decide (n = 6)), .bl (decide (n = 7))], rfl, rfl, by rw [upd_ne (ne_of_none upd_same n4)]; exact upd_same, upd_same, by show 8 ≤ sizeLine; decide, fun p5 n5 => ?_⟩
    have s5 := s4.trans (same_upd (o := .lst [.bl (decide (n = 0)), .bl (decide (n = 1)), .bl (decide (n = 2)), .bl (decide (n = 3)), .bl (decide (n = 4)), .bl (decide (n = 5)), .bl (decide (n = 6)), .bl (decide (n = 7))]) n5)
    have h5 := And.intro (s5 _ _ he) (s5 _ _ hd)
    refine ⟨_, rfl, e, C n, d, v, .ref L, .ref L, true, rfl, h5.1, h5.2, .own L, T.kitL hn, ex, true, rfl, iteF ?_⟩
    refine ⟨_, rfl, e, C n, d, v, .ty "ValueError", .type "ValueError", true, rfl, h5.1, h5.2, .ty _, T.kitV hn, ex, true, rfl, iteF ?_⟩
    have h8 : upd (upd (upd (upd (upd H p1 (.lst [.bl (decide (n = 0)), .bl (decide (n = 1)), .bl (decide (n = 2))])) p2 (.lst [.bl (decide (n = 3)), .bl (decide (n = 4)), .bl (decide (n = 5))])) p3 (.lst ([.bl (decide (n = 0)), .bl (decide (n = 1)), .bl (decide (n = 2))] ++ [.bl (decide (n = 3)), .bl (decide (n = 4)), .bl (decide (n = 5))]))) p4 (.lst [.bl (decide (n = 6)), .bl (decide (n = 7))])) p5 (.lst ([.bl (decide (n = 0)), .bl (decide (n = 1)), .bl (decide (n = 2)), .bl (decide (n = 3)), .bl (decide (n = 4)), .bl (decide (n = 5))] ++ [.bl (decide (n = 6)), .bl (decide (n = 7))])) p5 = some (.lst [.bl (decide (n = 0)), .bl (decide (n = 1)), .bl (decide (n = 2)), .bl (decide (n = 3)), .bl (decide (n = 4)), .bl (decide (n = 5)), .bl (decide (n = 6)), .bl (decide (n = 7))]) := upd_same
    have h9 := fun (l : Addr) (o : HO) nl => (same_upd (o := o) (p := l) nl) p5 _ h8
    clear h0 h1 h3 h5 s1 s2 s3 s4 n1 n2 n3 n4 n5 ex he hd
    have hcases : n = 0 ∨ n = 1 ∨ n = 2 ∨ n = 3 ∨ n = 4 ∨ n = 5 ∨ n = 6 ∨ n = 7 := by omega
    rcases hcases with rfl | rfl | rfl | rfl | rfl | rfl | rfl | rfl
    · refine ⟨_, rfl, .inl ⟨rfl, _, .inl (.inl h8)⟩, p5, _, .bl true, rfl, rfl, .inl (.inl h8), rfl, rfl, rfl, _, rfl, iteF ⟨by show 8 ≤ sizeLine; decide, fun l nl => ?_⟩⟩
      refine ⟨_, rfl, .inl ⟨rfl, _, .inl (.inl (h9 l _ nl))⟩, p5, _, .bl true, 0, .bl true, rfl, rfl, .inl (.inl (h9 l _ nl)), rfl, rfl, rfl, rfl, ?_, l, _, ((0 : Nat) : Int), _, rfl, rfl, .inl (.inl upd_same), rfl, q _ (s5.trans (same_upd nl)) _ rfl⟩
      rintro m z' hm hz'
      exact absurd hm (Nat.not_lt_zero _)
    · refine ⟨_, rfl, .inl ⟨rfl, _, .inl (.inl h8)⟩, p5, _, .bl true, rfl, rfl, .inl (.inl h8), rfl, rfl, rfl, _, rfl, iteF ⟨by show 8 ≤ sizeLine; decide, fun l nl => ?_⟩⟩
      refine ⟨_, rfl, .inl ⟨rfl, _, .inl (.inl (h9 l _ nl))⟩, p5, _, .bl true, 1, .bl true, rfl, rfl, .inl (.inl (h9 l _ nl)), rfl, rfl, rfl, rfl, ?_, l, _, ((1 : Nat) : Int), _, rfl, rfl, .inl (.inl upd_same), rfl, q _ (s5.trans (same_upd nl)) _ rfl⟩
      rintro m z' hm hz'
      match m, hm with
      | 0, _ => cases hz'; rfl
      | m + 1, hm => exact absurd hm (by omega)
    · refine ⟨_, rfl, .inl ⟨rfl, _, .inl (.inl h8)⟩, p5, _, .bl true, rfl, rfl, .inl (.inl h8), rfl, rfl, rfl, _, rfl, iteF ⟨by show 8 ≤ sizeLine; decide, fun l nl => ?_⟩⟩
      refine ⟨_, rfl, .inl ⟨rfl, _, .inl (.inl (h9 l _ nl))⟩, p5, _, .bl true, 2, .bl true, rfl, rfl, .inl (.inl (h9 l _ nl)), rfl, rfl, rfl, rfl, ?_, l, _, ((2 : Nat) : Int), _, rfl, rfl, .inl (.inl upd_same), rfl, q _ (s5.trans (same_upd nl)) _ rfl⟩
      rintro m z' hm hz'
      match m, hm with
      | 0, _ => cases hz'; rfl
      | 1, _ => cases hz'; rfl
      | m + 2, hm => exact absurd hm (by omega)
    · refine ⟨_, rfl, .inl ⟨rfl, _, .inl (.inl h8)⟩, p5, _, .bl true, rfl, rfl, .inl (.inl h8), rfl, rfl, rfl, _, rfl, iteF ⟨by show 8 ≤ sizeLine; decide, fun l nl => ?_⟩⟩
      refine ⟨_, rfl, .inl ⟨rfl, _, .inl (.inl (h9 l _ nl))⟩, p5, _, .bl true, 3, .bl true, rfl, rfl, .inl (.inl (h9 l _ nl)), rfl, rfl, rfl, rfl, ?_, l, _, ((3 : Nat) : Int), _, rfl, rfl, .inl (.inl upd_same), rfl, q _ (s5.trans (same_upd nl)) _ rfl⟩
      rintro m z' hm hz'
      match m, hm with
      | 0, _ => cases hz'; rfl
      | 1, _ => cases hz'; rfl
      | 2, _ => cases hz'; rfl
      | m + 3, hm => exact absurd hm (by omega)
    · refine ⟨_, rfl, .inl ⟨rfl, _, .inl (.inl h8)⟩, p5, _, .bl true, rfl, rfl, .inl (.inl h8), rfl, rfl, rfl, _, rfl, iteF ⟨by show 8 ≤ sizeLine; decide, fun l nl => ?_⟩⟩
      refine ⟨_, rfl, .inl ⟨rfl, _, .inl (.inl (h9 l _ nl))⟩, p5, _, .bl true, 4, .bl true, rfl, rfl, .inl (.inl (h9 l _ nl)), rfl, rfl, rfl, rfl, ?_, l, _, ((4 : Nat) : Int), _, rfl, rfl, .inl (.inl upd_same), rfl, q _ (s5.trans (same_upd nl)) _ rfl⟩
      rintro m z' hm hz'
      match m, hm with
      | 0, _ => cases hz'; rfl
      | 1, _ => cases hz'; rfl
      | 2, _ => cases hz'; rfl
      | 3, _ => cases hz'; rfl
      | m + 4, hm => exact absurd hm (by omega)
    · refine ⟨_, rfl, .inl ⟨rfl, _, .inl (.inl h8)⟩, p5, _, .bl true, rfl, rfl, .inl (.inl h8), rfl, rfl, rfl, _, rfl, iteF ⟨by show 8 ≤ sizeLine; decide, fun l nl => ?_⟩⟩
      refine ⟨_, rfl, .inl ⟨rfl, _, .inl (.inl (h9 l _ nl))⟩, p5, _, .bl true, 5, .bl true, rfl, rfl, .inl (.inl (h9 l _ nl)), rfl, rfl, rfl, rfl, ?_, l, _, ((5 : Nat) : Int), _, rfl, rfl, .inl (.inl upd_same), rfl, q _ (s5.trans (same_upd nl)) _ rfl⟩
      rintro m z' hm hz'
      match m, hm with
      | 0, _ => cases hz'; rfl
      | 1, _ => cases hz'; rfl
      | 2, _ => cases hz'; rfl
      | 3, _ => cases hz'; rfl
      | 4, _ => cases hz'; rfl
      | m + 5, hm => exact absurd hm (by omega)
    · refine ⟨_, rfl, .inl ⟨rfl, _, .inl (.inl h8)⟩, p5, _, .bl true, rfl, rfl, .inl (.inl h8), rfl, rfl, rfl, _, rfl, iteF ⟨by show 8 ≤ sizeLine; decide, fun l nl => ?_⟩⟩
      refine ⟨_, rfl, .inl ⟨rfl, _, .inl (.inl (h9 l _ nl))⟩, p5, _, .bl true, 6, .bl true, rfl, rfl, .inl (.inl (h9 l _ nl)), rfl, rfl, rfl, rfl, ?_, l, _, ((6 : Nat) : Int), _, rfl, rfl, .inl (.inl upd_same), rfl, q _ (s5.trans (same_upd nl)) _ rfl⟩
      rintro m z' hm hz'
      match m, hm with
      | 0, _ => cases hz'; rfl
      | 1, _ => cases hz'; rfl
      | 2, _ => cases hz'; rfl
      | 3, _ => cases hz'; rfl
      | 4, _ => cases hz'; rfl
      | 5, _ => cases hz'; rfl
      | m + 6, hm => exact absurd hm (by omega)
    · refine ⟨_, rfl, .inl ⟨rfl, _, .inl (.inl h8)⟩, p5, _, .bl true, rfl, rfl, .inl (.inl h8), rfl, rfl, rfl, _, rfl, iteF ⟨by show 8 ≤ sizeLine; decide, fun l nl => ?_⟩⟩
      refine ⟨_, rfl, .inl ⟨rfl, _, .inl (.inl (h9 l _ nl))⟩, p5, _, .bl true, 7, .bl true, rfl, rfl, .inl (.inl (h9 l _ nl)), rfl, rfl, rfl, rfl, ?_, l, _, ((7 : Nat) : Int), _, rfl, rfl, .inl (.inl upd_same), rfl, q _ (s5.trans (same_upd nl)) _ rfl⟩
      rintro m z' hm hz'
      match m, hm with
      | 0, _ => cases hz'; rfl
      | 1, _ => cases hz'; rfl
      | 2, _ => cases hz'; rfl
      | 3, _ => cases hz'; rfl
      | 4, _ => cases hz'; rfl
      | 5, _ => cases hz'; rfl
      | 6, _ => cases hz'; rfl
      | m + 7, hm => exact absurd hm (by omega)
end
end Lw
namespace Lw
open PySem PySem.Spec L2 Lx
theorem scMade : FnScope ["steps_here", "by_name", "caught", "e"] ["steps_here", "by_name"] (defScope sLMade) := ⟨rfl, rfl, rfl, by decide +kernel, rfl, by decide +kernel, by decide +kernel⟩
def spMade : Sp := fun vs H Q _ => ∃ (z : Str) (b : Bool), vs = [.str z, .bl b] ∧ (ChOk z → ∀ H' p, Same H H' → H p = none → H' p = some (.lst [.str "none", .non]) → Q (.ref p) H') ∧
  ∀ i : Nat, Bad z i → ∀ H' p, Same H H' → H p = none → H' p = some (.lst [.str "chain", .int i]) → Q (.ref p) H'
section
variable {P : Program} {w : World} {K : PySem.W.Frag} {mg : Str → Option Value} {base : Heap} {L CH : Addr} {C : Nat → Addr} {ini : Nat → Stmt}
theorem made_same {H H' : Hp} {x dx : Addr} (hx : H x = none) (hd : H dx = none) (k : Kd x (upd (upd H dx (.own x)) x (.ins CH dx [])) H') : Same H H' := fun b o e => by
  have h1 := ne_of_none e hx
  have h2 := ne_of_none e hd
  exact k b o h1 (by rw [upd_ne h1, upd_ne h2]; exact e)
theorem ok_made {f fHi aK : Addr} {fd dHi dK : FuncData} {k : Nat} (T : ErrT K P.main.file mg L C ini) (F : Fun K "_law_made" "_law_made" sLMade f fd)
    (TH : HTxt K mg CH) (MkH : Mk K CH fHi) (GHi : FnOk P w K mg base (L2.CX P w) k fHi dHi ["self", "chain"] (spHInitE CH (C 0))) (bHi : Binds K dHi ["self", "chain"] []) (kHi : KBn K dHi ["self", "chain"] 1 ["chain"] (gSelf1 Value) (gSelf1 V))
    (cK : Cl P w K mg base (k + 1) "_law_kind" ["caught"] (spKind C) aK dK) : FnOk P w K mg base CX0 (k + 2) f fd ["steps_here", "by_name"] spMade := by
  refine F.ok scMade (fun vs H Q E h => ?_) (fun cdv A outer s H vs Q E hr h => ?_)
  · obtain ⟨z, b, rfl, _⟩ := h
    rfl
  · obtain ⟨z, b, rfl, hgood, hbad⟩ := h
    refine ⟨_, pss_cons (ps_set (i := 2) scMade.nd rfl (.inl rfl) pe_non)
      (pss_cons (ps_try_keep (i := 3) rfl rfl rfl scMade.nd rfl rfl ⟨rfl, by decide, .inl T.line.gL⟩
          (fun W pn xe tk hp => pss_one (ps_if (pt_val (pv 1))
            (pss_one (ps_expr (pe_makeKS (E := WE W) MkH GHi hr (by rfl) TH.mgC kHi (fun σ => passAt tk σ) (pk_cons (pv 0) pk_nil))))
            (pss_one (ps_expr (pe_makeS (E := WE W) MkH GHi hr (by rfl) TH.mgC bHi (fun σ => passAt tk σ) (pa_cons (pv 0) pa_nil))))))
          (fun a pn => pss_one (ps_set (i := 2) scMade.nd rfl (.inl rfl) (pv 3))))
      (pss_one (ps_ret (pe_ifExp (pt_cmpR op_isN (pv 2) pe_non (nomark _)) (pe_lst (pa_cons pe_str (pa_cons pe_non pa_nil)))
        (pe_lst (pa_cons (pe_call cK.G hr (by rfl) cK.g cK.kp cK.b .nil pass0 (pa_cons (pv 2) pa_nil)) (pa_cons (pe_errXV (pv 2)) pa_nil))))))), ?_⟩
    have good : ∀ (x dx : Addr), H x = none → H dx = none → ChOk z → ∀ H1, Kd x (upd (upd H dx (.own x)) x (.ins CH dx [])) H1 → ∀ p, H1 p = none → Q (.ref p) (upd H1 p (.lst [.str "none", .non])) := fun x dx hx hd hz H1 k1 p np => by
      have s1 := made_same hx hd k1
      exact hgood hz _ p (s1.trans (same_upd np)) (s1.free np) upd_same
    have bad : ∀ (x dx : Addr) (i : Nat), H x = none → H dx = none → Bad z i → ∀ (H1 : Hp) (d a : Addr), Same (upd (upd H dx (.own x)) x (.ins CH dx [])) H1 → H1 d = some (.xd (vf (.int (i : Nat)))) → H1 a = none →
        CgAt C (upd H1 a (errX a (C 0) d)) a 0 (.int (i : Nat)) ∧ ∀ H2, Same (upd H1 a (errX a (C 0) d)) H2 → ∀ p, H2 p = none → Q (.ref p) (upd H2 p (.lst [.str "chain", .int (i : Nat)])) := fun x dx i hx hd hb H1 d a s1 hd1 ha => by
      have s2 := made_same hx hd fun b o _ e => s1 b o e
      have s3 := s2.trans (same_upd (o := errX a (C 0) d) ha)
      refine ⟨⟨d, upd_same, (same_upd ha) _ _ hd1⟩, fun H2 s4 p np => ?_⟩
      exact hbad i hb _ p ((s3.trans s4).trans (same_upd np)) ((s3.trans s4).free np) upd_same
    dsimp only [gName, tNext, tSeq]
    cases b with
    | true =>
      refine ⟨_, rfl, true, rfl, ?_⟩
      refine ⟨_, rfl, rfl, fun x dx hx hd hne => ⟨x, dx, z, rfl, upd_same, fun hz H1 h1 k1 => ⟨rfl, ?_⟩, fun i hi H1 d s1 hd1 => ⟨C 0, d, rfl, rfl, T.exm (by decide), fun a ha => ?_⟩⟩⟩
      · refine ⟨_, rfl, rfl, _, rfl, iteT ⟨by show 2 ≤ sizeLine; decide, fun p np => good x dx hx hd hz H1 k1 p np⟩⟩
      · obtain ⟨g1, g2⟩ := bad x dx i hx hd hi H1 d a s1 hd1 ha
        refine ⟨_, rfl, ?_⟩
        refine ⟨_, rfl, rfl, _, rfl, iteF ?_⟩
        refine ⟨_, rfl, a, 0, _, rfl, by decide, g1, fun H2 s2 w hw => ?_⟩
        obtain ⟨d', e1, e2⟩ := g1.same s2
        cases Option.some.inj hw
        refine ⟨_, rfl, a, C 0, d', _, rfl, e1, e2, T.ex (by decide), by show 2 ≤ sizeLine; decide, fun p np => g2 H2 s2 p np⟩
    | false =>
      refine ⟨_, rfl, false, rfl, ?_⟩
      refine ⟨_, rfl, fun x dx hx hd hne => ⟨x, dx, z, rfl, upd_same, fun hz H1 h1 k1 => ⟨rfl, ?_⟩, fun i hi H1 d s1 hd1 => ⟨C 0, d, rfl, rfl, T.exm (by decide), fun a ha => ?_⟩⟩⟩
      · refine ⟨_, rfl, rfl, _, rfl, iteT ⟨by show 2 ≤ sizeLine; decide, fun p np => good x dx hx hd hz H1 k1 p np⟩⟩
      · obtain ⟨g1, g2⟩ := bad x dx i hx hd hi H1 d a s1 hd1 ha
        refine ⟨_, rfl, ?_⟩
        refine ⟨_, rfl, rfl, _, rfl, iteF ?_⟩
        refine ⟨_, rfl, a, 0, _, rfl, by decide, g1, fun H2 s2 w hw => ?_⟩
        obtain ⟨d', e1, e2⟩ := g1.same s2
        cases Option.some.inj hw
        refine ⟨_, rfl, a, C 0, d', _, rfl, e1, e2, T.ex (by decide), by show 2 ≤ sizeLine; decide, fun p np => g2 H2 s2 p np⟩
end
end Lw
/-! o.m(k = v) -/
namespace Lx
open PySem PySem.Spec L2
def tMethK (C : Addr) (m : Str) (sp : Sp) (gV : List V → List V → List V) (E : XK) (ta : TE) (tk : TA) : TE := fun σ H Q => ta σ H fun x H1 => ∃ a dx fs, x = .ref a ∧ H1 a = some (.ins C dx fs) ∧ fs.lookup m = none ∧ tk σ H1 fun zs H2 => sp (gV [.ref a] zs) H2 Q E
section
variable {X : Cx} {CX : CXT} {k : Nat} {f C : Addr} {fd : FuncData} {ps ks : List Str} {sp : Sp} {E : XK} {m : Str} {apos pos : Pos} {o : Expr} {kws : List Keyword} {ta : TE} {tk : TA} {g : List Value → List Value → List Value} {gV : List V → List V → List V}
theorem pe_methK0 {pl : Sem Bool} (he : PE X o ta) (c : Cls X.K C) (hm : Meth X.K C m f) (F : FnOk X.prog X.w X.K X.mg X.base CX k f fd ps sp) (hr : Room k X.A) (hb : KBinds X.K fd ps ks g gV) (hx : Passes CX X E) (hkw : PK X kws tk)
    (hall : (backToKw pos (keywordEach kws X.env)).all (·.1.isSome) = true := by rfl) (hks : (backToKw pos (keywordEach kws X.env)).filterMap (·.1) = ks := by rfl)
    (hpl : ((backTo pos (starEach [] X.env)).any (·.1) || (backToKw pos (keywordEach kws X.env)).any (·.1.isNone)) = false := by rfl)
    (ht : eval (.Call (.Attribute o m apos) [] kws pos) X.env = (do
      let ov ← eval o X.env
      standAt apos.atName
      let (f, first) ← holding [ov] (getMethod ov m pl)
      callWith pos f first (backTo pos (starEach [] X.env)) (backToKw pos (keywordEach kws X.env))) := by rfl) :
    PE X (.Call (.Attribute o m apos) [] kws pos) (tMethK C m sp gV E ta tk) := by
  refine ⟨fun pins s σ H Q I h => ?_⟩
  refine PySem.W.methodCall_KW (pl := pl) (thn (he.run pins s σ H _ I h) fun u s1 ⟨x, H1, I1, rx, a, dx, fs, ex, ea, l, q⟩ => ?_) ht
  subst ex
  obtain rfl : u = Value.ref a := rx
  refine getmeth_ok I1 ea c hm l ?_
  refine PySem.W.callWith_KW0 (first := [.ref a]) (h₀ := X.base) I.ok.mod.kin hm.kp hall ?_ hpl
  refine thn (hkw.run pos pins s1 σ H1 _ I1 q) fun ws s2 ⟨zs, H2, I2, rz, q2⟩ => ⟨I2.kIn, ?_⟩
  rw [hks]
  exact run_fnk (us := [.ref a]) (vs := [.ref a]) F hr hb hx I2 (.cons rfl .nil) rz q2
end
theorem kbSelfB {K : PySem.W.Frag} {x qual : Str} {st : Stmt} {f : Addr} {fd : FuncData} {p1 p2 : Str} (F : Fun K x qual st f fd)
    (h : ∀ (kV doc pm : Value) (an : Option Addr) (cdv ct a b : Value), bindArgs (PySem.W.fnOf x qual (defArgs st) (defBody st) (defScope st) .none kV doc pm an cdv ct) ⟨[a], [(p2, b)]⟩ = pure [(p1, a), (p2, b)]) : KBinds K fd [p1, p2] [p2] (gSelf1 Value) (gSelf1 V) := by
  have B := kbSelf1 F h
  obtain ⟨oc, od, kV, doc, pm, an, cdv, ct, osl, rfl, lk, hcd⟩ := F.ex
  refine ⟨fun s us ws hK hl => ?_, B.rel⟩
  match us, ws, hl with
  | [a], [b], _ => exact .of_eq (h kV doc pm an cdv ct a b)
  | [], _, hl => exact absurd hl (by simp [gSelf1])
  | [_], [], hl => exact absurd hl (by simp [gSelf1])
  | [_], _ :: _ :: _, hl => exact absurd hl (by simp [gSelf1])
  | _ :: _ :: _, _, hl => exact absurd hl (by simp [gSelf1])
end Lx
namespace Lw
open PySem PySem.Spec L2 Lx
theorem scRight : FnScope ["pool", "some", "secrets", "asked_here", "turn", "which", "line_here", "place", "by_name", "told", "bad", "wrong", "one"] ["pool"] (defScope sLRight) := ⟨rfl, rfl, rfl, by decide +kernel, rfl, by decide +kernel, by decide +kernel⟩
structure RgF (mg : Str → Option Value) : Prop where
  range : mg "range" = none
  int : mg "int" = none
def spRight : Sp := fun vs H Q _ => ∃ (r : Addr) (n : Nat), vs = [.ref r] ∧ PoolAt H r n ∧ n < 800000000 ∧ ∀ H', PoolAt H' r (n + 100000) → Kd r H H' → Q (.bl true) H'
theorem HcAt.keep {C : Addr} {H H' : Hp} {p : Addr} {z : Str} {n : Nat} (h : HcAt C H p z n) (k1 : At1 H H' p) : HcAt C H' p z n := by
  obtain ⟨dx, h⟩ := h
  exact ⟨dx, k1 _ h⟩
theorem PoolAt.keep {H H' : Hp} {r : Addr} {n : Nat} (h : PoolAt H r n) (k1 : At1 H H' r) : PoolAt H' r n := by
  obtain ⟨a, m, k, h, q⟩ := h
  exact ⟨a, m, k, k1 _ h, q⟩
theorem Bad.no {z : Str} {i : Nat} (h : Bad z i) (hc : ChOk z) : False := by
  obtain ⟨c, e, hn⟩ := h.1
  exact hn (hc c (by rw [Array.mem_toList_iff]; exact Array.mem_of_getElem? e))
theorem Bad.uniq {z : Str} {i j : Nat} (h : Bad z i) (q : Bad z j) : i = j := by
  obtain ⟨c, e, hn⟩ := h.1
  obtain ⟨d, e2, hn2⟩ := q.1
  rcases Nat.lt_trichotomy i j with l | l | l
  · exact (hn (q.2 i l c e)).elim
  · exact l
  · exact (hn2 (h.2 j l d e2)).elim
/-- the parts of _law_right at work -/
structure Fx (H0 : Hp) (r la ls lq p0 p1 : Addr) : Prop where
  a : la ≠ r
  s : ls ≠ r
  q : lq ≠ r
  p : p0 ≠ r
  p' : p1 ≠ r
  pp : p0 ≠ p1
  q0 : H0 lq = none
  p00 : H0 p0 = none
  p10 : H0 p1 = none
structure Rt (CH : Addr) (H0 : Hp) (r la ls lq p0 p1 : Addr) (z0 z1 : Str) (H' : Hp) (n a0 a1 : Nat) : Prop where
  po : PoolAt H' r n
  la : H' la = some (.lst [.str z0, .str z1])
  ls : H' ls = some (.lst [.ref p0, .ref p1])
  lq : H' lq = some (.lst [.int (a0 : Int), .int (a1 : Int)])
  h0 : HcAt CH H' p0 z0 a0
  h1 : HcAt CH H' p1 z1 a1
  kd : Kd r H0 H'
section
variable {CH : Addr} {H0 H' H2 : Hp} {r la ls lq p0 p1 : Addr} {z0 z1 : Str} {n m a0 a1 : Nat}
theorem ne_ins {H : Hp} {a p : Addr} {xs : List V} {z : Str} (h : H a = some (.lst xs)) (q : HcAt CH H p z n) : a ≠ p := by
  obtain ⟨dx, q⟩ := q
  rintro rfl
  rw [h] at q; cases q
theorem Rt.draw (F : Fx H0 r la ls lq p0 p1) (R : Rt CH H0 r la ls lq p0 p1 z0 z1 H' n a0 a1) (hp : PoolAt H2 r m) (k : Kd r H' H2) : Rt CH H0 r la ls lq p0 p1 z0 z1 H2 m a0 a1 :=
  ⟨hp, k _ _ F.a R.la, k _ _ F.s R.ls, k _ _ F.q R.lq, R.h0.keep (k.at1 F.p), R.h1.keep (k.at1 F.p'), R.kd.trans k⟩
theorem Rt.same (R : Rt CH H0 r la ls lq p0 p1 z0 z1 H' n a0 a1) (s : Same H' H2) : Rt CH H0 r la ls lq p0 p1 z0 z1 H2 n a0 a1 :=
  ⟨R.po.same s, s _ _ R.la, s _ _ R.ls, s _ _ R.lq, R.h0.same s, R.h1.same s, R.kd.sameAft s⟩
theorem Rt.mono (R : Rt CH H0 r la ls lq p0 p1 z0 z1 H' n a0 a1) (h : n ≤ m) : Rt CH H0 r la ls lq p0 p1 z0 z1 H' m a0 a1 :=
  ⟨R.po.mono h, R.la, R.ls, R.lq, R.h0, R.h1, R.kd⟩
/-- the first hidden chain answers, and the list of numbers is written -/
theorem Rt.ask0 (F : Fx H0 r la ls lq p0 p1) (R : Rt CH H0 r la ls lq p0 p1 z0 z1 H' n a0 a1) (h : HcAt CH H2 p0 z0 (a0 + 1)) (k : Kd p0 H' H2) : Rt CH H0 r la ls lq p0 p1 z0 z1 (upd H2 lq (.lst [.int ((a0 : Int) + 1), .int (a1 : Int)])) n (a0 + 1) a1 := by
  have e1 := ne_ins R.lq R.h0
  have e2 := ne_ins R.lq R.h1
  have e3 : la ≠ lq := fun e => by have := R.la; rw [e, R.lq] at this; cases this
  have e4 : ls ≠ lq := fun e => by have := R.ls; rw [e, R.lq] at this; cases this
  refine ⟨(R.po.keep (k.at1 (Ne.symm F.p))).own F.q, ?_, ?_, upd_same, ?_, ?_, fun b o hb e => ?_⟩
  · rw [upd_ne e3]; exact k _ _ (ne_ins R.la R.h0) R.la
  · rw [upd_ne e4]; exact k _ _ (ne_ins R.ls R.h0) R.ls
  · exact h.keep fun o q => by rw [upd_ne (Ne.symm e1)]; exact q
  · exact (R.h1.keep (k.at1 (Ne.symm F.pp))).keep fun o q => by rw [upd_ne (Ne.symm e2)]; exact q
  · rw [upd_ne (ne_of_none e F.q0)]
    exact k _ _ (ne_of_none e F.p00) (R.kd _ _ hb e)
theorem Rt.ask1 (F : Fx H0 r la ls lq p0 p1) (R : Rt CH H0 r la ls lq p0 p1 z0 z1 H' n a0 a1) (h : HcAt CH H2 p1 z1 (a1 + 1)) (k : Kd p1 H' H2) : Rt CH H0 r la ls lq p0 p1 z0 z1 (upd H2 lq (.lst [.int (a0 : Int), .int ((a1 : Int) + 1)])) n a0 (a1 + 1) := by
  have e1 := ne_ins R.lq R.h0
  have e2 := ne_ins R.lq R.h1
  have e3 : la ≠ lq := fun e => by have := R.la; rw [e, R.lq] at this; cases this
  have e4 : ls ≠ lq := fun e => by have := R.ls; rw [e, R.lq] at this; cases this
  refine ⟨(R.po.keep (k.at1 (Ne.symm F.p'))).own F.q, ?_, ?_, upd_same, ?_, ?_, fun b o hb e => ?_⟩
  · rw [upd_ne e3]; exact k _ _ (ne_ins R.la R.h1) R.la
  · rw [upd_ne e4]; exact k _ _ (ne_ins R.ls R.h1) R.ls
  · exact (R.h0.keep (k.at1 F.pp)).keep fun o q => by rw [upd_ne (Ne.symm e1)]; exact q
  · exact h.keep fun o q => by rw [upd_ne (Ne.symm e2)]; exact q
  · rw [upd_ne (ne_of_none e F.q0)]
    exact k _ _ (ne_of_none e F.p10) (R.kd _ _ hb e)
end
/-- which of the two is asked -/
theorem Rt.which {CH : Addr} {H0 H' : Hp} {r la ls lq p0 p1 : Addr} {z0 z1 : Str} {n a0 a1 : Nat} (F : Fx H0 r la ls lq p0 p1) (R : Rt CH H0 r la ls lq p0 p1 z0 z1 H' n a0 a1) (hz0 : ChOk z0) (hz1 : ChOk z1) (h0 : z0.cps.size ≤ 6) (h1 : z1.cps.size ≤ 6) {wh : Int} (w0 : 0 ≤ wh) (w1 : wh < 2) :
    ∃ (pw : Addr) (zw : Str) (aw i : Nat), atI [V.ref p0, .ref p1] wh = some (.ref pw) ∧ atI [V.str z0, .str z1] wh = some (.str zw) ∧ (∀ H2, HcAt CH H2 pw zw (aw + 1) → Kd pw H' H2 → H2 la = some (.lst [.str z0, .str z1]) ∧ H2 ls = some (.lst [.ref p0, .ref p1]) ∧ H2 lq = some (.lst [.int (a0 : Int), .int (a1 : Int)])) ∧
      atI [V.int (a0 : Int), .int (a1 : Int)] wh = some (.int (aw : Int)) ∧ ChOk zw ∧ zw.cps.size ≤ 6 ∧ HcAt CH H' pw zw aw ∧ ixN 2 wh = some i ∧
      ∀ H2, HcAt CH H2 pw zw (aw + 1) → Kd pw H' H2 → ∃ b0 b1 : Nat, [V.int (a0 : Int), .int (a1 : Int)].set i (.int ((aw : Int) + 1)) = [V.int (b0 : Int), .int (b1 : Int)] ∧ Rt CH H0 r la ls lq p0 p1 z0 z1 (upd H2 lq (.lst [.int (b0 : Int), .int (b1 : Int)])) n b0 b1 := by
  have : wh = 0 ∨ wh = 1 := by omega
  rcases this with rfl | rfl
  · refine ⟨p0, z0, a0, 0, rfl, rfl, fun H2 hc k => ⟨?_, ?_, ?_⟩, rfl, hz0, h0, R.h0, rfl, fun H2 hc k => ⟨a0 + 1, a1, by rw [Int.natCast_succ]; rfl, ?_⟩⟩
    · exact k _ _ (ne_ins R.la R.h0) R.la
    · exact k _ _ (ne_ins R.ls R.h0) R.ls
    · exact k _ _ (ne_ins R.lq R.h0) R.lq
    · have := R.ask0 F hc k
      rw [← Int.natCast_succ] at this
      exact this
  · refine ⟨p1, z1, a1, 1, rfl, rfl, fun H2 hc k => ⟨?_, ?_, ?_⟩, rfl, hz1, h1, R.h1, rfl, fun H2 hc k => ⟨a0, a1 + 1, by rw [Int.natCast_succ]; rfl, ?_⟩⟩
    · exact k _ _ (ne_ins R.la R.h1) R.la
    · exact k _ _ (ne_ins R.ls R.h1) R.ls
    · exact k _ _ (ne_ins R.lq R.h1) R.lq
    · have := R.ask1 F hc k
      rw [← Int.natCast_succ] at this
      exact this
section
variable {P : Program} {w : World} {K : PySem.W.Frag} {mg : Str → Option Value} {base : Heap}
theorem ok_right {f CH fHi fHa pQ gQ aD aC aI aN aS aM : Addr} {fd dHi dHa dQ dD dC dI dN dS dM : FuncData} {k : Nat} (F : Fun K "_law_right" "_law_right" sLRight f fd) (Z : RgF mg)
    (TH : HTxt K mg CH) (MkH : Mk K CH fHi) (GHi : FnOk P w K mg base CX0 k fHi dHi ["self", "chain"] (spHInit CH)) (bHi : Binds K dHi ["self", "chain"] []) (kHi : KBn K dHi ["self", "chain"] 1 ["chain"] (gSelf1 Value) (gSelf1 V))
    (mHa : Meth K CH "ask" fHa) (GHa : FnOk P w K mg base CX0 (k + 1) fHa dHa ["self", "text"] (spAsk CH)) (bHa : Binds K dHa ["self", "text"] []) (kHa : KBinds K dHa ["self", "text"] ["text"] (gSelf1 Value) (gSelf1 V))
    (pHq : PropOf K CH "questions" pQ gQ) (GHq : FnOk P w K mg base CX0 k gQ dQ ["self"] (spQst CH)) (bHq : Binds K dQ ["self"] [])
    (cD : Cl P w K mg base (k + 1) "_law_draw" ["pool", "many"] spDraw aD dD)
    (cC : Cl P w K mg base (k + 1) "_law_chain" ["pool", "most"] spPChain aC dC)
    (cI : Cl P w K mg base (k + 1) "_law_piece" ["pool", "most"] spPPiece aI dI)
    (cN : Cl P w K mg base (k + 1) "_law_done" ["line_here", "steps_here"] spDone aN dN)
    (cS : Cl P w K mg base (k + 1) "_law_spoilt" ["pool", "steps_here"] spSpoilt aS dS)
    (cM : Cl P w K mg base (k + 1) "_law_made" ["steps_here", "by_name"] spMade aM dM) : FnOk P w K mg base CX0 (k + 2) f fd ["pool"] spRight := by
  refine F.ok scRight (fun vs H Q E h => ?_) (fun cdv A outer s H vs Q E hr h => ?_)
  · obtain ⟨r, n, rfl, _⟩ := h
    rfl
  · obtain ⟨r, n, rfl, hS, hn, q⟩ := h
    refine ⟨_, (pss_cons (ps_set (i := 1) scRight.nd rfl (.inl rfl) (pe_lst (pa_cons (pe_call cC.G hr (by rfl) cC.g cC.kp cC.b .nil pass0 (pa_cons (pv 0) (pa_cons pe_int pa_nil))) (pa_cons (pe_call cC.G hr (by rfl) cC.g cC.kp cC.b .nil pass0 (pa_cons (pv 0) (pa_cons pe_int pa_nil))) pa_nil))))
      (pss_cons (ps_par (i := 2) (j := 3) rfl scRight.nd rfl rfl (by decide) rfl rfl (pa_cons (pe_lst (pa_cons (pe_make MkH GHi hr (by rfl) TH.mgC bHi .nil pass0 (pa_cons (pe_ix ix_list (pv 1) pe_int (fun _ _ => rfl)) pa_nil)) (pa_cons (pe_makeK0 MkH GHi hr (by rfl) TH.mgC kHi pass0 (pk_cons (pe_ix ix_list (pv 1) pe_int (fun _ _ => rfl)) pk_nil)) pa_nil))) (pa_cons (pe_lst (pa_cons pe_int (pa_cons pe_int pa_nil))) pa_nil)) rfl)
      (pss_cons (ps_for PassesOwn.never rfl (pi_range1 rfl Z.range (pa_cons (pe_call cD.G hr (by rfl) cD.g cD.kp cD.b .nil pass0 (pa_cons (pv 0) (pa_cons pe_int pa_nil))) pa_nil)) (pg_name (i := 4) scRight.nd rfl (.inl rfl))
          (pss_cons (ps_set (i := 5) scRight.nd rfl (.inl rfl) (pe_call cD.G hr (by rfl) cD.g cD.kp cD.b .nil pass0 (pa_cons (pv 0) (pa_cons pe_int pa_nil))))
          (pss_cons (ps_set (i := 6) scRight.nd rfl (.inl rfl) (pe_op op_add_str (pe_op op_add_str (pe_call cI.G hr (by rfl) cI.g cI.kp cI.b .nil pass0 (pa_cons (pv 0) (pa_cons pe_int pa_nil))) (pe_ix ix_list (pe_lst (pa_cons pe_str (pa_cons pe_str (pa_cons pe_str pa_nil)))) (pe_call cD.G hr (by rfl) cD.g cD.kp cD.b .nil pass0 (pa_cons (pv 0) (pa_cons pe_int pa_nil))) (fun _ _ => rfl))) (pe_call cI.G hr (by rfl) cI.g cI.kp cI.b .nil pass0 (pa_cons (pv 0) (pa_cons pe_int pa_nil)))))
          (pss_cons (ps_for PassesOwn.never rfl (pi_range1 rfl Z.range (pa_cons (pe_op op_mulW (pe_call cD.G hr (by rfl) cD.g cD.kp cD.b .nil pass0 (pa_cons (pv 0) (pa_cons pe_int pa_nil))) (pe_callTy call_int1 (by rfl) Z.int (by decide +kernel) (pa_cons (pe_cmpR op_eq (pv 4) pe_int (nomark _)) pa_nil))) pa_nil)) (pg_name (i := 7) scRight.nd rfl (.inl rfl))
              (pss_one (ps_set (i := 6) scRight.nd rfl (.inl rfl) (pe_op op_add_str (pe_op op_add_str (pv 6) (pe_call cI.G hr (by rfl) cI.g cI.kp cI.b .nil pass0 (pa_cons (pv 0) (pa_cons pe_int pa_nil)))) pe_str))))
          (pss_cons (ps_set (i := 8) scRight.nd rfl (.inl rfl) (pe_cmpR op_eq (pe_call cD.G hr (by rfl) cD.g cD.kp cD.b .nil pass0 (pa_cons (pv 0) (pa_cons pe_int pa_nil))) pe_int (nomark _)))
          (pss_cons (ps_set (i := 9) scRight.nd rfl (.inl rfl) (pe_ifExp (pt_val (pv 8)) (pe_methK0 (pe_ix ix_list (pv 2) (pv 5) (fun _ _ => rfl)) TH.cl mHa GHa hr kHa pass0 (pk_cons (pv 6) pk_nil)) (pe_meth (pe_ix ix_list (pv 2) (pv 5) (fun _ _ => rfl)) TH.cl mHa GHa hr bHa .nil pass0 (pa_cons (pv 6) pa_nil))))
          (pss_cons (ps_asg (pe_op op_add (pe_ix ix_list (pv 3) (pv 5) (fun _ _ => rfl)) pe_int) (pg_sub (pv 3) (pv 5) set_list))
          (pss_one (ps_if (PW.pt (pw_or (pt_cmpR op_ne (pv 9) (pe_call cN.G hr (by rfl) cN.g cN.kp cN.b .nil pass0 (pa_cons (pv 6) (pa_cons (pe_ix ix_list (pv 1) (pv 5) (fun _ _ => rfl)) pa_nil))) (nomark _)) (pw_or1 (pt_cmpR (op_neD hr.units) (pe_lc (own := [("one", 12)]) (g := (gName 12)) (tt := tYes) rfl scRight.nd (pi_list (pv 2)) (blkOk_by (own := [("one", 12)]) (N := ["pool", "some", "secrets", "asked_here", "turn", "which", "line_here", "place", "by_name", "told", "bad", "wrong", "one"]) (sc := defScope sLRight) (by decide +kernel)) (fun _ _ _ _ _ => (pg_name (i := 12) scRight.nd rfl (.inl rfl))) (fun _ _ _ _ _ => pts_nil) (fun _ _ _ _ _ => (pe_prop (pv 12) TH.cl pHq GHq hr bHq .nil pass0 rfl))) (pv 3) (nomark _)))))
              (pss_one (ps_ret pe_bl)) pss_nil)))))))))
      (pss_cons (ps_asg (pe_call cS.G hr (by rfl) cS.g cS.kp cS.b .nil pass0 (pa_cons (pv 0) (pa_cons (pe_ix ix_list (pv 1) pe_int (fun _ _ => rfl)) pa_nil))) (pg_unl (by rfl) (pgs_cons (pg_name (i := 10) scRight.nd rfl (.inl rfl)) (pgs_cons (pg_name (i := 11) scRight.nd rfl (.inl rfl)) pgs_nil))))
      (pss_cons (ps_if (pt_cmpR (op_neD hr.units) (pe_lst (pa_cons (pe_call cM.G hr (by rfl) cM.g cM.kp cM.b .nil pass0 (pa_cons (pv 10) (pa_cons pe_bl pa_nil))) (pa_cons (pe_call cM.G hr (by rfl) cM.g cM.kp cM.b .nil pass0 (pa_cons (pv 10) (pa_cons pe_bl pa_nil))) pa_nil))) (pe_op op_rep (pe_lst (pa_cons (pe_lst (pa_cons pe_str (pa_cons (pv 11) pa_nil))) pa_nil)) pe_int) (nomark _))
          (pss_one (ps_ret pe_bl)) pss_nil)
      (pss_one (ps_ret (pe_cmpR (op_eqD hr.units) (pe_call cM.G hr (by rfl) cM.g cM.kp cM.b .nil pass0 (pa_cons (pe_ix ix_list (pv 1) pe_int (fun _ _ => rfl)) (pa_cons pe_bl pa_nil))) (pe_lst (pa_cons pe_str (pa_cons pe_non pa_nil))) (nomark _))))))))), ?_⟩
    refine ⟨_, rfl, r, n, 6, rfl, hS, by omega, by decide, fun z0 H1 hz0 hl0 hS1 k1 => ?_⟩
    refine ⟨_, rfl, r, _, 6, rfl, hS1, by omega, by decide, fun z1 H2 hz1 hl1 hS2 k2 => ?_⟩
    refine ⟨by show 2 ≤ sizeLine; decide, fun la na => ?_⟩
    have s3 := same_upd (o := .lst [.str z0, .str z1]) na
    have hla : upd H2 la (.lst [.str z0, .str z1]) la = some (.lst [.str z0, .str z1]) := upd_same
    have kA := (k1.trans k2).sameAft s3
    have hS3 := hS2.same s3
    have nar := hS2.ne na
    revert hla hS3 kA
    generalize upd H2 la _ = H3
    intro hla kA hS3
    clear k1 k2 hS1 hS2 s3 na
    dsimp only [gName, tNext, tSeq]
    refine ⟨_, rfl, la, _, 0, _, rfl, rfl, .inl (.inl hla), atI_nat (j := 0) rfl, fun p0 dx0 np0 nd0 ne0 => ⟨p0, dx0, z0, rfl, upd_same, hz0, fun H4 C0 kd0 => ⟨rfl, ?_⟩⟩⟩
    have s4 := same_ofKd (same_made (u := .own p0) (o := .ins CH dx0 []) nd0 np0) np0 kd0
    have np0r := hS3.ne np0
    have hp00 : H p0 = none := kA.freeP hS3 np0
    have hla4 := s4 _ _ hla
    have hS4 := hS3.same s4
    have k4 := kA.sameAft s4
    clear kd0 nd0 ne0 np0 s4 hla hS3 kA
    refine ⟨_, rfl, la, _, 1, _, rfl, rfl, .inl (.inl hla4), atI_nat (j := 1) rfl, rfl, rfl, fun p1 dx1 np1 nd1 ne1 => ⟨p1, dx1, z1, rfl, upd_same, hz1, fun H5 C1 kd1 => ⟨rfl, ?_⟩⟩⟩
    have s5 := same_ofKd (same_made (u := .own p1) (o := .ins CH dx1 []) nd1 np1) np1 kd1
    have np1r := hS4.ne np1
    have hp10 : H p1 = none := k4.freeP hS4 np1
    have npp : p0 ≠ p1 := by
      rintro rfl
      obtain ⟨dx, e⟩ := C0
      rw [np1] at e; cases e
    have hla5 := s5 _ _ hla4
    have hS5 := hS4.same s5
    have k5 := k4.sameAft s5
    replace C0 := C0.same s5
    clear kd1 nd1 ne1 np1 s5 hla4 hS4 k4
    refine ⟨by show 2 ≤ sizeLine; decide, fun ls nls => ⟨by show 2 ≤ sizeLine; decide, fun lq nlq => ⟨_, _, rfl, ?_⟩⟩⟩
    have s6 := (same_upd (o := .lst [.ref p0, .ref p1]) nls)
    have s7 := (same_upd (o := .lst [.int ((0 : Nat) : Int), .int ((0 : Nat) : Int)]) nlq)
    have nlsr := hS5.ne nls
    have nlqr := (hS5.same s6).ne nlq
    have hlq0 : H lq = none := (k5.sameAft s6).freeP (hS5.same s6) nlq
    have F : Fx H r la ls lq p0 p1 := ⟨nar, nlsr, nlqr, np0r, np1r, npp, hlq0, hp00, hp10⟩
    have R : Rt CH H r la ls lq p0 p1 z0 z1 (upd (upd H5 ls (.lst [.ref p0, .ref p1])) lq (.lst [.int ((0 : Nat) : Int), .int ((0 : Nat) : Int)])) (n + 30) 0 0 :=
      ⟨((hS5.same s6).same s7).mono (by omega), s7 _ _ (s6 _ _ hla5), s7 _ _ upd_same, upd_same, (C0.same s6).same s7, (C1.same s6).same s7, (k5.sameAft s6).sameAft s7⟩
    revert R
    clear s6 s7 hla5 hS5 k5 C0 C1 hlq0 nar nlsr nlqr np0r np1r npp hp00 hp10
    show Rt CH H r la ls lq p0 p1 z0 z1 (upd (upd H5 ls (.lst [.ref p0, .ref p1])) lq (.lst [.int 0, .int 0])) (n + 30) 0 0 → _
    generalize upd (upd H5 ls (.lst [.ref p0, .ref p1])) lq (.lst [.int 0, .int 0]) = H6
    intro R
    have p10 : (2 : Nat) ^ 10 = 1024 := by decide
    have p40 : (2 : Nat) ^ 10 ≤ 2 ^ 4000 := Nat.pow_le_pow_right (by decide) (by decide)
    have la_ : ∀ x y : Str, (x ++ y).length = x.length + y.length := fun x y => Array.size_append ..
    dsimp only [gName, tNext, tSeq]
    refine ⟨_, rfl, r, _, 31, rfl, R.po, by omega, by decide, by decide, fun cnt H7 e0 e1 hp7 k7 => ?_⟩
    replace R := R.draw F hp7 k7
    refine ⟨_, rfl, by omega, by omega, ?_⟩
    refine for_range (lo := 0) (n := cnt.toNat) (fun j σ H' => ∃ (a0 a1 : Nat) (y4 y5 y6 y7 y8 y9 : Option V), σ = [some (.ref r), some (.ref la), some (.ref ls), some (.ref lq), y4, y5, y6, y7, y8, y9, none, none, none] ∧ Rt CH H r la ls lq p0 p1 z0 z1 H' (n + 31 + 2000 * j) a0 a1)
      ⟨0, 0, none, none, none, none, none, none, rfl, R⟩ ?_ ?_
    · rintro j σ H8 hj ⟨a0, a1, y4, y5, y6, y7, y8, y9, rfl, R⟩
      dsimp only [gName, tNext, tSeq]
      refine ⟨_, rfl, r, _, 2, rfl, R.po, by omega, by decide, by decide, fun wh H9 w0 w1 hp9 k9 => ?_⟩
      replace R := R.draw F hp9 k9
      refine ⟨_, rfl, r, _, 9, rfl, R.po, by omega, by decide, fun x1 H10 hx1 hp10 k10 => ?_⟩
      replace R := R.draw F hp10 k10
      refine ⟨by show 3 ≤ sizeLine; decide, fun l nl => ?_⟩
      have s11 := same_upd (o := .lst [.str "a", .str " ~", .str ""]) nl
      have nlr := R.po.ne nl
      replace R := R.same s11
      refine ⟨_, rfl, r, _, 3, rfl, R.po, by omega, by decide, by decide, fun c H12 c0 c1 hp12 k12 => ?_⟩
      replace R := R.draw F hp12 k12
      have pick : ∃ t : Str, atI [V.str "a", .str " ~", .str ""] c = some (.str t) ∧ t.length ≤ 2 := by
        have : c = 0 ∨ c = 1 ∨ c = 2 := by omega
        rcases this with rfl | rfl | rfl
        · exact ⟨"a", rfl, by decide⟩
        · exact ⟨" ~", rfl, by decide⟩
        · exact ⟨"", rfl, by decide⟩
      obtain ⟨t, ht, htl⟩ := pick
      refine ⟨l, _, c, _, rfl, rfl, .inl (.inl (k12 _ _ nlr upd_same)), ht, _, _, rfl, rfl, by show x1.cps.size + t.length ≤ _; rw [sizeLine_eq]; omega, ?_⟩
      refine ⟨_, rfl, r, _, 9, rfl, R.po, by omega, by decide, fun x2 H13 hx2 hp13 k13 => ?_⟩
      replace R := R.draw F hp13 k13
      have hxl : (x1 ++ t ++ x2).length ≤ 20 := by
        rw [la_, la_]
        have : x1.length = x1.cps.size := rfl
        have : x2.length = x2.cps.size := rfl
        omega
      refine ⟨_, _, rfl, rfl, by rw [← la_, sizeLine_eq]; omega, ?_⟩
      clear hp7 k7 hp9 k9 hp10 k10 s11 nlr nl hp12 k12 hp13 k13 ht c0 c1
      generalize x1 ++ t ++ x2 = x at hxl
      dsimp only [gName, tNext, tSeq]
      refine ⟨_, rfl, r, _, 30, rfl, R.po, by omega, by decide, by decide, fun d H14 d0 d1 hp14 k14 => ?_⟩
      replace R := R.draw F hp14 k14
      generalize hk : decide (V.int (0 + (j : Int)) = V.int 0) = kb
      have hm : ∃ i : Nat, d * (if kb = true then 1 else 0) = (i : Int) ∧ i ≤ 29 := by
        cases kb
        · exact ⟨0, by simp, by omega⟩
        · exact ⟨d.toNat, by simp; omega, by omega⟩
      obtain ⟨ct, hct, hct9⟩ := hm
      have l1 : d.natAbs.log2 < 64 := PySem.Flt.log2_lt_of (by decide) (by have : (2 : Nat) ^ 64 = 18446744073709551616 := by decide
                                                                           omega)
      have l2 : (if kb = true then (1 : Int) else 0).natAbs.log2 < 64 := PySem.Flt.log2_lt_of (by decide) (by have : (2 : Nat) ^ 64 = 18446744073709551616 := by decide
                                                                                                              split <;> omega)
      refine ⟨_, rfl, rfl, .inr ⟨_, rfl, _, _, rfl, rfl, ?_, ?_⟩⟩
      · rw [hk]
        show d.natAbs.log2 + (if kb = true then (1 : Int) else 0).natAbs.log2 < 1000000
        omega
      rw [hk]
      refine ⟨(ct : Int), by show [V.int (d * (if kb = true then 1 else 0))] = _; rw [hct], by omega, by omega, ?_⟩
      clear hk l1 l2 hct hp14 k14 d0 d1
      have hlt : ∀ m : Nat, m ≤ 2000 → n + 31 + 2000 * j + m < 800100000 := fun m hm => by omega
      refine for_range (lo := 0) (n := ((ct : Int)).toNat) (fun i σ H' => ∃ (x : Str) (y7 : Option V), σ = [some (.ref r), some (.ref la), some (.ref ls), some (.ref lq), some (.int (0 + (j : Int))), some (.int wh), some (.str x), y7, y8, y9, none, none, none] ∧ x.length ≤ 20 + 62 * i ∧ Rt CH H r la ls lq p0 p1 z0 z1 H' (n + 31 + 2000 * j + 29 + 64 * i) a0 a1)
        ⟨x, y7, rfl, hxl, R.mono (by omega)⟩ ?_ ?_
      · rintro i σ H15 hi ⟨x, y7, rfl, hxl, R⟩
        refine ⟨_, rfl, _, rfl, r, _, 60, rfl, R.po, by omega, by decide, fun xp H16 hxp hp16 k16 => ?_⟩
        replace R := R.draw F hp16 k16
        have e1 : (x ++ xp).length = x.length + xp.cps.size := la_ _ _
        refine ⟨_, _, rfl, rfl, by show x.length + xp.cps.size ≤ _; rw [sizeLine_eq]; omega, _, _, rfl, rfl, by rw [e1, sizeLine_eq]; show x.length + xp.cps.size + 2 ≤ _; omega, ?_⟩
        refine ⟨_, _, rfl, ?_, R.mono (by omega)⟩
        rw [la_, e1]
        show x.length + xp.cps.size + 2 ≤ _
        omega
      · rintro σ H15 ⟨x, y7, rfl, hxl, R⟩
        replace hxl : x.length ≤ 1818 := by omega
        replace R := R.mono (show n + 31 + 2000 * j + 29 + 64 * ((ct : Int)).toNat ≤ n + 31 + 2000 * j + 1990 by omega)
        dsimp only [gName, tNext, tSeq]
        refine ⟨_, rfl, r, _, 2, rfl, R.po, by omega, by decide, by decide, fun b H16 b0 b1 hp16 k16 => ?_⟩
        replace R := R.draw F hp16 k16
        refine ⟨rfl, ?_⟩
        generalize decide (V.int b = V.int 0) = bn
        clear hp16 k16 b0 b1
        obtain ⟨pw, zw, aw, ix, at1, at2, keepL, at3, hzw, hzl, hcw, hix, hnext⟩ := R.which F hz0 hz1 hl0 hl1 w0 w1
        obtain ⟨dxw, hpw⟩ := id hcw
        have tb : TB x.cps.toList zw.cps.toList := tb_pow (by
          rw [Array.length_toList, Array.length_toList]
          have h1 : 2 ^ zw.cps.size ≤ 2 ^ 6 := Nat.pow_le_pow_right (by decide) hzl
          have h2 : x.cps.size ≤ 1818 := hxl
          have := Nat.mul_le_mul h2 h1
          omega)
        dsimp only [gName, tNext, tSeq]
        refine ⟨_, rfl, bn, rfl, ?_⟩
        cases bn with
        | true =>
          refine ⟨_, rfl, _, rfl, ls, _, wh, _, rfl, rfl, .inl (.inl R.ls), at1, pw, dxw, _, rfl, hpw, rfl, _, rfl, pw, zw, x, aw, rfl, hcw, hzw, tb, fun y H17 hy hc17 k17 => ?_⟩
          obtain ⟨hla17, hls17, hlq17⟩ := keepL H17 hc17 k17
          obtain ⟨b0, b1, hset, R2⟩ := hnext H17 hc17 k17
          refine ⟨_, rfl, _, rfl, lq, _, wh, _, rfl, rfl, .inl (.inl hlq17), at3, _, _, rfl, rfl, _, rfl, _, rfl, lq, _, wh, ix, rfl, rfl, hlq17, hix, ?_⟩
          rw [hset]
          revert R2
          generalize upd H17 lq (.lst [.int (b0 : Int), .int (b1 : Int)]) = H18
          intro R2
          refine ⟨_, rfl, _, rfl, _, rfl, _, rfl, la, _, wh, _, rfl, rfl, .inl (.inl R2.la), at2, x, zw, rfl, hzw, tb, fun y2 hy2 => ?_⟩
          have ey : y = y2 := str_ext (hy.trans hy2.symm)
          subst ey
          refine ⟨rfl, _, rfl, ?_⟩
          rw [decide_eq_true rfl]
          refine iteF ⟨_, rfl, ls, rfl, ⟨_, .inl (.inl R2.ls)⟩, fun D nD => ?_⟩
          refine lc_it (walk_list (xs := [.ref p0, .ref p1])) (fun i H' => Same H18 H' ∧ H' D = some (.lst (([.int (b0 : Int), .int (b1 : Int)] : List V).take i))) ⟨same_upd nD, upd_same⟩ (fun i H' _ hQ => .inl (.inl (hQ.1 _ _ R2.ls))) ?_ ?_
          · rintro i u H19 H20 hi ⟨s4, hD⟩ ⟨rfl, hu⟩
            have hi2 : i = 0 ∨ i = 1 := by
              have : i < 2 := hi
              omega
            rcases hi2 with rfl | rfl
            · cases Option.some.inj hu
              have hc := R2.h0.same s4
              obtain ⟨dxq, hq⟩ := id hc
              exact ⟨rfl, _, rfl, p0, dxq, _, rfl, hq, p0, z0, b0, rfl, hc, _, hD, by show 0 < sizeLine; decide, Same.own s4 nD, upd_same⟩
            · cases Option.some.inj hu
              have hc := R2.h1.same s4
              obtain ⟨dxq, hq⟩ := id hc
              exact ⟨rfl, _, rfl, p1, dxq, _, rfl, hq, p1, z1, b1, rfl, hc, _, hD, by show 1 < sizeLine; decide, Same.own s4 nD, upd_same⟩
          · rintro H19 ⟨s4, hD⟩
            refine ⟨_, rfl, .list [.int b0, .int b1], .list [.int b0, .int b1], .lst (.inl (.inl hD)) (.cons (.int _) (.cons (.int _) .nil)), .lst (.inl (.inl (s4 _ _ R2.lq))) (.cons (.int _) (.cons (.int _) .nil)), rfl, rfl, _, rfl, ?_⟩
            rw [SeqAt.eqv_refl _ (by rfl)]
            exact iteF ⟨b0, b1, _, _, _, _, _, _, rfl, (R2.same s4).mono (by omega)⟩
        | false =>
          refine ⟨_, rfl, _, rfl, ls, _, wh, _, rfl, rfl, .inl (.inl R.ls), at1, pw, dxw, _, rfl, hpw, by rfl, _, rfl, pw, zw, x, aw, rfl, hcw, hzw, tb, fun y H17 hy hc17 k17 => ?_⟩
          obtain ⟨hla17, hls17, hlq17⟩ := keepL H17 hc17 k17
          obtain ⟨b0, b1, hset, R2⟩ := hnext H17 hc17 k17
          refine ⟨_, rfl, _, rfl, lq, _, wh, _, rfl, rfl, .inl (.inl hlq17), at3, _, _, rfl, rfl, _, rfl, _, rfl, lq, _, wh, ix, rfl, rfl, hlq17, hix, ?_⟩
          rw [hset]
          revert R2
          generalize upd H17 lq (.lst [.int (b0 : Int), .int (b1 : Int)]) = H18
          intro R2
          refine ⟨_, rfl, _, rfl, _, rfl, _, rfl, la, _, wh, _, rfl, rfl, .inl (.inl R2.la), at2, x, zw, rfl, hzw, tb, fun y2 hy2 => ?_⟩
          have ey : y = y2 := str_ext (hy.trans hy2.symm)
          subst ey
          refine ⟨rfl, _, rfl, ?_⟩
          rw [decide_eq_true rfl]
          refine iteF ⟨_, rfl, ls, rfl, ⟨_, .inl (.inl R2.ls)⟩, fun D nD => ?_⟩
          refine lc_it (walk_list (xs := [.ref p0, .ref p1])) (fun i H' => Same H18 H' ∧ H' D = some (.lst (([.int (b0 : Int), .int (b1 : Int)] : List V).take i))) ⟨same_upd nD, upd_same⟩ (fun i H' _ hQ => .inl (.inl (hQ.1 _ _ R2.ls))) ?_ ?_
          · rintro i u H19 H20 hi ⟨s4, hD⟩ ⟨rfl, hu⟩
            have hi2 : i = 0 ∨ i = 1 := by
              have : i < 2 := hi
              omega
            rcases hi2 with rfl | rfl
            · cases Option.some.inj hu
              have hc := R2.h0.same s4
              obtain ⟨dxq, hq⟩ := id hc
              exact ⟨rfl, _, rfl, p0, dxq, _, rfl, hq, p0, z0, b0, rfl, hc, _, hD, by show 0 < sizeLine; decide, Same.own s4 nD, upd_same⟩
            · cases Option.some.inj hu
              have hc := R2.h1.same s4
              obtain ⟨dxq, hq⟩ := id hc
              exact ⟨rfl, _, rfl, p1, dxq, _, rfl, hq, p1, z1, b1, rfl, hc, _, hD, by show 1 < sizeLine; decide, Same.own s4 nD, upd_same⟩
          · rintro H19 ⟨s4, hD⟩
            refine ⟨_, rfl, .list [.int b0, .int b1], .list [.int b0, .int b1], .lst (.inl (.inl hD)) (.cons (.int _) (.cons (.int _) .nil)), .lst (.inl (.inl (s4 _ _ R2.lq))) (.cons (.int _) (.cons (.int _) .nil)), rfl, rfl, _, rfl, ?_⟩
            rw [SeqAt.eqv_refl _ (by rfl)]
            exact iteF ⟨b0, b1, _, _, _, _, _, _, rfl, (R2.same s4).mono (by omega)⟩
    · rintro σ H8 ⟨a0, a1, y4, y5, y6, y7, y8, y9, rfl, R⟩
      dsimp only [gName, tNext, tSeq]
      refine ⟨_, rfl, _, rfl, la, _, 0, _, rfl, rfl, .inl (.inl R.la), atI_nat (j := 0) rfl, r, _, z0, rfl, R.po, by omega, by omega, fun bad i H9 D hbad hD hp9 k9 => ?_⟩
      replace R := (R.draw F hp9 k9).mono (show _ ≤ n + 90000 by omega)
      clear hp9 k9
      refine ⟨D, _, rfl, .inl (.inl hD), rfl, _, _, rfl, _, _, rfl, rfl, ?_⟩
      clear hD
      refine ⟨_, rfl, bad, false, rfl, fun hch => (hbad.no hch).elim, fun i' hb' H10 q1 s10 nq1 hq1 => ?_⟩
      cases hb'.uniq hbad
      refine ⟨_, rfl, bad, true, rfl, fun hch => (hbad.no hch).elim, fun i' hb'' H11 q2 s11 nq2 hq2 => ?_⟩
      cases hb''.uniq hbad
      refine ⟨by show 2 ≤ sizeLine; decide, fun l1 n1 => ?_⟩
      have s12 := same_upd (o := .lst [.ref q1, .ref q2]) n1
      refine ⟨_, rfl, by show 2 ≤ sizeLine; decide, fun t1 nt1 => ?_⟩
      have s13 := same_upd (o := .lst [.str "chain", .int (i : Nat)]) nt1
      refine ⟨by show 1 ≤ sizeLine; decide, fun t2 nt2 => ?_⟩
      have s14 := same_upd (o := .lst [.ref t1]) nt2
      refine ⟨t2, 2, _, rfl, rfl, upd_same, by decide, by decide, by show 1 * 2 ≤ sizeLine; decide, fun t3 nt3 => ?_⟩
      have s15 := same_upd (o := .lst [.ref t1, .ref t1]) nt3
      have c1 := s15 _ _ (s14 _ _ (s13 _ _ (s12 _ _ (s11 _ _ hq1))))
      have c2 := s15 _ _ (s14 _ _ (s13 _ _ (s12 _ _ hq2)))
      have c3 := s15 _ _ (s14 _ _ (s13 _ _ upd_same))
      have c4 := s15 _ _ (s14 _ _ upd_same)
      have R2 := ((((R.same s10).same s11).same s12).same s13)
      replace R2 := (R2.same s14).same s15
      have ce : ∀ {H' : Hp} {q : Addr}, H' q = some (.lst [.str "chain", .int (i : Nat)]) → Dp K H' (.ref q) (.list [.str "chain", .int i]) := fun h => .lst (.inl (.inl h)) (.cons (.str _) (.cons (.int _) .nil))
      have sh : SeqAt.shaped (.list [.list [.str "chain", .int i], .list [.str "chain", .int i]]) = true := by
        refine Bool.and_eq_true_iff.mpr ⟨?_, decide_eq_true ?_⟩
        · simp only [PyData.canLay0, PyData.canLayAll0, Bool.and_true, Bool.and_self]
          decide +kernel
        · simp [PyData.depth, PyData.depthAll]
      refine ⟨.list [.list [.str "chain", .int i], .list [.str "chain", .int i]], .list [.list [.str "chain", .int i], .list [.str "chain", .int i]], .lst (.inl (.inl c3)) (.cons (ce c1) (.cons (ce c2) .nil)), .lst (.inl (.inl upd_same)) (.cons (ce c4) (.cons (ce c4) .nil)), sh, sh, _, rfl, ?_⟩
      rw [SeqAt.eqv_refl _ (SeqAt.canLay_of_shaped sh)]
      refine iteF ?_
      refine ⟨_, rfl, la, _, 1, _, rfl, rfl, .inl (.inl R2.la), atI_nat (j := 1) rfl, z1, true, rfl, fun hch Hg q3 sg nq3 hq3 => ?_, fun i' hb3 => (hb3.no hz1).elim⟩
      refine ⟨by show 2 ≤ sizeLine; decide, fun l4 n4 => ?_⟩
      have s16 := same_upd (o := .lst [.str "none", .non]) n4
      refine ⟨.list [.str "none", .none], .list [.str "none", .none], .lst (.inl (.inl (s16 _ _ hq3))) (.cons (.str _) (.cons .non .nil)), .lst (.inl (.inl upd_same)) (.cons (.str _) (.cons .non .nil)), by decide +kernel, by decide +kernel, ?_⟩
      rw [SeqAt.eqv_refl _ (by decide +kernel)]
      have R3 := (R2.same sg).same s16
      exact q _ (R3.po.mono (by omega)) R3.kd
end
end Lw
namespace Lx
open PySem PySem.Spec L2 PyProof.Rows
/-! ### sum of a tuple of ints -/
def rSumT (K : PySem.W.Frag) : List V → Hp → VK → Prop := fun vs H Q => ∃ (a : Addr) (ns : List Int), vs = [V.ref a] ∧ SqT K H a (ns.map V.int) ∧ Q (.int ns.sum) H
theorem call_sumT {X : Cx} (hc : X.calm = true) : CallR X (.builtin "sum") (rSumT X.K) := by
  intro pins s σ H vs us Q I r h
  obtain ⟨a, ns, rfl, hs, q⟩ := h
  obtain ⟨its, rv, hl, _⟩ := I.tuple hs
  rw [Vals.ref1 r]
  have hi := rv.ints
  obtain ⟨xs, e⟩ := hi.allInts.items
  have hn : numsOf (intItems xs).toList = ns := by rw [← e]; exact hi.numsOf
  rw [nums_intItems] at hn
  have hl' : s.heap.IsTuple a (intItems xs) := by
    rw [← e]
    obtain ⟨o, h1, h2, n, h3⟩ := hl
    exact ⟨o, h1, h2, n, h3⟩
  refine PySem.W.ktm_sumG (I.ok.hd hc) hl' fun h' tk t' hk => ⟨.int _, H, I.kept hk, ⟨_, rfl⟩, ?_⟩
  rw [preSum_eq, List.take_of_length_le (by simp), hn]
  exact q
/-! ### a method of a tuple that is written where it is called -/
def tTupM (r : V → List V → Hp → VK → Prop) (t0 t : TA) : TE := fun σ H Q => t0 σ H fun ys H1 => ys.length ≤ sizeLine ∧ ∀ p, H1 p = none → t σ (upd H1 p (.tup ys)) fun xs H2 => r (.ref p) xs H2 Q
theorem pe_tupM {X : Cx} {es0 : List Expr} {x1} {tpos : Pos} {e : Expr} {es : List Expr} {t0 t : TA} {name : Str} {apos cpos : Pos} {id : String} {r : V → List V → Hp → VK → Prop} (pa : PlainAttrs "tuple") (slot : Slot "tuple" name id) (hty : typeOf (.builtin id) = pure (.type "method_descriptor")) (hm : MtR X id r) (h0 : PA X es0 t0) (ha : PA X (e :: es) t)
    (hbase : attributeBase (.Tuple es0 x1 tpos) name X.env (eval (.Tuple es0 x1 tpos) X.env) = eval (.Tuple es0 x1 tpos) X.env := by rfl)
    (hfew : ((backTo cpos (starEach (e :: es) X.env)).all (fun x => !x.1) && (backToKw cpos (keywordEach [] X.env)).all (fun x => x.1.isSome)
      && decide ((e :: es).length + ([] : List Keyword).length + (if ([] : List Keyword).isEmpty then 0 else 1) < 30)) = true := by rfl)
    (hline : (apos.endLine == cpos.line) = true := by rfl) (hs : starEach (e :: es) X.env = (false, eval e X.env) :: starEach es X.env := by rfl) (hplain : (backTo cpos (starEach es X.env)).any (·.1) = false := by rfl) :
    PE X (.Call (.Attribute (.Tuple es0 x1 tpos) name apos) (e :: es) [] cpos) (tTupM r t0 t) := by
  refine ⟨fun pins s σ H Q I h => ?_⟩
  refine wpAny_Call_method_late hbase hfew hline rfl ?_
  refine wpAny_Tuple_spliced (thn (h0.run tpos pins s σ H _ I h) fun us s1 ⟨xs, H1, I1, r1, z, q⟩ => ⟨by rw [← r1.length]; exact z, ?_⟩)
  have hf : H1 s1.heap.objs.size = none := I1.hok.fresh (Nat.le_refl _)
  have I2 := I1.laid (a := s1.heap.objs.size) (o := .tup xs) (h' := s1.heap.push { cls := .type "tuple", data := .seq us.toArray }) (t' := s1.toks) (fun b u e => Heap.get?_push_of_some _ e) (Nat.le_refl _) ⟨z, us, r1, ⟨_, Heap.get?_push_size _ rfl, rfl, _, rfl⟩⟩
  have hg : (s1.heap.push { cls := .type "tuple", data := .seq us.toArray }).get? s1.heap.objs.size = some { cls := .type "tuple", data := .seq us.toArray } := Heap.get?_push_size _ rfl
  refine ⟨"tuple", id, pa, slot, hty, ⟨_, hg, rfl⟩, fun a e => ?_, ?_⟩
  · cases e
    exact ⟨_, hg, rfl⟩
  · have hA := ha.run cpos pins _ σ _ _ I2 (q _ hf)
    rw [hs] at hA ⊢
    refine Calls.callWith_builtin (by show (false || (backTo cpos (starEach es X.env)).any (·.1)) = false; rw [hplain] <;> rfl) (Calls.evalArgs_plain ?_)
    exact thn hA fun us2 s2 ⟨vs, H2, I3, r2, q2⟩ => hm pins s2 σ H2 (.ref s1.heap.objs.size) vs (.ref s1.heap.objs.size) us2 Q I3 rfl r2 q2
end Lx
namespace Lw
open PySem PySem.Spec L2 Lx
abbrev sIni (i : Nat) : Stmt := inClass (topS (2 + i)) 0
theorem scLaw : FnScope ["script", "at", "pool", "turn"] ["script"] (defScope sLaw) := ⟨rfl, rfl, rfl, by decide +kernel, rfl, by decide +kernel, by decide +kernel⟩
structure LwF (mg : Str → Option Value) : Prop where
  range : mg "range" = none
  max : mg "max" = none
  min : mg "min" = none
  len : mg "len" = none
def spLaw (K : PySem.W.Frag) : Sp := fun vs H Q _ => ∃ (a : Addr) (ns : List Int), vs = [.ref a] ∧ SqL K H a (ns.map V.int) ∧ ns.length ≤ 63 ∧ ∀ H', Q (.bl true) H'
section
variable {P : Program} {w : World} {K : PySem.W.Frag} {mg : Str → Option Value} {base : Heap}
theorem ok_law {f CH fHi fHa aP aR : Addr} {fd dHi dHa dP dR : FuncData} {k : Nat} (F : Fun K "law" "law" sLaw f fd) (Z : LwF mg)
    (TH : HTxt K mg CH) (MkH : Mk K CH fHi) (GHi : FnOk P w K mg base CX0 k fHi dHi ["self", "chain"] (spHInit CH)) (bHi : Binds K dHi ["self", "chain"] [])
    (mHa : Meth K CH "ask" fHa) (GHa : FnOk P w K mg base CX0 (k + 1) fHa dHa ["self", "text"] (spAsk CH)) (bHa : Binds K dHa ["self", "text"] [])
    (cP : Cl P w K mg base (k + 1) "_law_pool" ["script", "at"] (spPool K) aP dP)
    (cR : Cl P w K mg base (k + 1) "_law_right" ["pool"] spRight aR dR) : FnOk P w K mg base CX0 (k + 2) f fd ["script"] (spLaw K) := by
  refine F.ok scLaw (fun vs H Q E h => ?_) (fun cdv A outer s H vs Q E hr h => ?_)
  · obtain ⟨a, ns, rfl, _⟩ := h
    rfl
  · obtain ⟨a, ns, rfl, hS, hlen, q⟩ := h
    refine ⟨_, (pss_cons (ps_for PassesOwn.never rfl (pi_range1 rfl Z.range (pa_cons (pe_callB (call_max2 rfl) (by rfl) Z.max (by decide +kernel) (pa_cons pe_int (pa_cons (pe_callB (call_min2 rfl) (by rfl) Z.min (by decide +kernel) (pa_cons pe_int (pa_cons (pe_callB call_len_seq (by rfl) Z.len PySem.boot_len (pa_cons (pv 0) pa_nil)) pa_nil))) pa_nil))) pa_nil)) (pg_name (i := 1) scLaw.nd rfl (.inl rfl))
          (pss_cons (ps_set (i := 2) scLaw.nd rfl (.inl rfl) (pe_call cP.G hr (by rfl) cP.g cP.kp cP.b .nil pass0 (pa_cons (pv 0) (pa_cons (pv 1) pa_nil))))
          (pss_one (ps_for PassesOwn.never rfl (pi_range1 rfl Z.range (pa_cons pe_int pa_nil)) (pg_name (i := 3) scLaw.nd rfl (.inl rfl))
              (pss_one (ps_if (pt_not (pt_val (pe_call cR.G hr (by rfl) cR.g cR.kp cR.b .nil pass0 (pa_cons (pv 2) pa_nil))))
                  (pss_one (ps_ret pe_bl)) pss_nil))))))
      (pss_one (ps_ret (pe_cmpR op_eq (pe_meth (pe_make MkH GHi hr (by rfl) TH.mgC bHi .nil pass0 (pa_cons pe_str pa_nil)) TH.cl mHa GHa hr bHa .nil pass0 (pa_cons pe_str pa_nil)) pe_str (nomark _))))), ?_⟩
    refine ⟨_, rfl, a, _, rfl, .inl hS, 8, _, rfl, 1, _, rfl, _, rfl, ?_, ?_, ?_⟩
    · split <;> split <;> omega
    · split <;> split <;> omega
    have hb : (if (if ((ns.map V.int).length : Int) < 8 then ((ns.map V.int).length : Int) else 8) > 1 then (if ((ns.map V.int).length : Int) < 8 then ((ns.map V.int).length : Int) else 8) else 1).toNat ≤ 8 := by split <;> split <;> omega
    generalize (if (if ((ns.map V.int).length : Int) < 8 then ((ns.map V.int).length : Int) else 8) > 1 then (if ((ns.map V.int).length : Int) < 8 then ((ns.map V.int).length : Int) else 8) else 1).toNat = laps at hb
    refine for_range (lo := 0) (n := laps) (fun i σ H' => ∃ y1 y2 y3, σ = [some (.ref a), y1, y2, y3] ∧ Same H H') ⟨none, none, none, rfl, Same.refl _⟩ ?_ ?_
    · rintro i σ H2 hi ⟨y1, y2, y3, rfl, s2⟩
      dsimp only [gName, tNext, tSeq]
      refine ⟨_, rfl, _, rfl, a, ns, i, by rw [Int.zero_add]; rfl, s2.seq hS, hlen, by omega, fun H3 r s3 nr hP => ?_⟩
      have s23 := s2.trans s3
      have nr0 : H r = none := s2.free nr
      dsimp only [gName, tNext, tSeq]
      refine ⟨2, rfl, by decide, by decide, ?_⟩
      refine for_range (lo := 0) (n := 2) (fun j σ H' => ∃ y3, σ = [some (.ref a), some (.int (0 + (i : Int))), some (.ref r), y3] ∧ PoolAt H' r (100000 * j) ∧ Same H H') ⟨y3, rfl, hP, s23⟩ ?_ ?_
      · rintro j σ H4 hj ⟨y3, rfl, hP4, s4⟩
        refine ⟨_, rfl, r, _, rfl, hP4, by omega, fun H5 hP5 k5 => ⟨_, rfl, ?_⟩⟩
        refine iteF ⟨_, rfl, hP5.mono (by omega), fun b o e => k5 b o (ne_of_none e nr0) (s4 b o e)⟩
      · rintro σ H4 ⟨y3, rfl, hP4, s4⟩
        exact ⟨_, _, _, rfl, s4⟩
    · rintro σ H2 ⟨y1, y2, y3, rfl, s2⟩
      have c2 : ChOk "UM" := fun c hc => by
        have h : c ∈ ([85, 77] : List Nat) := hc
        simp only [List.mem_cons, List.not_mem_nil, or_false] at h
        rcases h with rfl | rfl <;> decide
      dsimp only [gName, tNext, tSeq]
      refine fun x dx nx ndx nex => ⟨x, dx, "UM", rfl, upd_same, c2, fun H3 C0 k3 => ⟨rfl, ?_⟩⟩
      obtain ⟨dxq, hq⟩ := id C0
      refine ⟨x, dxq, _, rfl, hq, by rfl, x, "UM", "a", 0, rfl, C0, c2, tb_pow (by decide), fun y H4 hy C4 k4 => ?_⟩
      have ey : y = "a" := str_ext (hy.trans (by decide))
      subst ey
      refine ⟨rfl, ?_⟩
      rw [decide_eq_true rfl]
      exact q _
end
end Lw
namespace Lw
open PySem PySem.Spec L2 Lx
theorem getD_at {l : List Addr} {i : Nat} (h : i < l.length) : l.getD i 0 = l[i] := by
  rw [List.getD_eq_getElem?_getD, List.getElem?_eq_getElem h]; rfl
theorem sz5 {n : Nat} (h : n ≤ 5) : n ≤ sizeLine := by
  rw [sizeLine_eq]; omega
theorem all_mk {P : Program} {w : World} {K : PySem.W.Frag} {h : Heap} {mg : Str → Option Value} {fa eL e0 e1 e2 e3 e4 e5 e6 e7 ef0 ef1 ef2 ef3 ef4 ef5 ef6 ef7 CHiddenChain pHq aR rU rD rM rN fCc fTa fCt fHi fHa fHq fLp fLd fLc fDn fPi fKd fMd fSp fRt fW : Addr} (X : K.In h) (G : h.Ns mainGlobals mg) (hfa : mg "law" = some (.ref fa)) (ht : (P.main.scope.names.lookup ("super" : Str)).isSome = false)
    {xnL xqL : Str} {xNL : Addr} {xbsL : List Value} {xsnL : List Str} {xsubL : List Value} {xabL : Bool} {xcolL : Option Bool} {xddL : Option Addr} {xk0L xk1L xk2L xk3L xk5L : Option Value}
    {xn0 xq0 : Str} {xN0 : Addr} {xbs0 : List Value} {xsn0 : List Str} {xsub0 : List Value} {xab0 : Bool} {xcol0 : Option Bool} {xdd0 : Option Addr} {xka0 xkb0 xkc0 xkd0 xke0 : Option Value} {xoc0 xdoc0 xpm0 xct0 xcl0 xce0 : Value} {xod0 xan0 xcdx0 xcf0 : Option Addr} {xcc0 xcda0 : Addr} {xosl0 xcs0 xcg0 : Array (Option Value)} {xvs0 : Array Value} {xtf0 : Tok}
    {xn1 xq1 : Str} {xN1 : Addr} {xbs1 : List Value} {xsn1 : List Str} {xsub1 : List Value} {xab1 : Bool} {xcol1 : Option Bool} {xdd1 : Option Addr} {xka1 xkb1 xkc1 xkd1 xke1 : Option Value} {xoc1 xdoc1 xpm1 xct1 xcl1 xce1 : Value} {xod1 xan1 xcdx1 xcf1 : Option Addr} {xcc1 xcda1 : Addr} {xosl1 xcs1 xcg1 : Array (Option Value)} {xvs1 : Array Value} {xtf1 : Tok}
    {xn2 xq2 : Str} {xN2 : Addr} {xbs2 : List Value} {xsn2 : List Str} {xsub2 : List Value} {xab2 : Bool} {xcol2 : Option Bool} {xdd2 : Option Addr} {xka2 xkb2 xkc2 xkd2 xke2 : Option Value} {xoc2 xdoc2 xpm2 xct2 xcl2 xce2 : Value} {xod2 xan2 xcdx2 xcf2 : Option Addr} {xcc2 xcda2 : Addr} {xosl2 xcs2 xcg2 : Array (Option Value)} {xvs2 : Array Value} {xtf2 : Tok}
    {xn3 xq3 : Str} {xN3 : Addr} {xbs3 : List Value} {xsn3 : List Str} {xsub3 : List Value} {xab3 : Bool} {xcol3 : Option Bool} {xdd3 : Option Addr} {xka3 xkb3 xkc3 xkd3 xke3 : Option Value} {xoc3 xdoc3 xpm3 xct3 xcl3 xce3 : Value} {xod3 xan3 xcdx3 xcf3 : Option Addr} {xcc3 xcda3 : Addr} {xosl3 xcs3 xcg3 : Array (Option Value)} {xvs3 : Array Value} {xtf3 : Tok}
    {xn4 xq4 : Str} {xN4 : Addr} {xbs4 : List Value} {xsn4 : List Str} {xsub4 : List Value} {xab4 : Bool} {xcol4 : Option Bool} {xdd4 : Option Addr} {xka4 xkb4 xkc4 xkd4 xke4 : Option Value} {xoc4 xdoc4 xpm4 xct4 xcl4 xce4 : Value} {xod4 xan4 xcdx4 xcf4 : Option Addr} {xcc4 xcda4 : Addr} {xosl4 xcs4 xcg4 : Array (Option Value)} {xvs4 : Array Value} {xtf4 : Tok}
    {xn5 xq5 : Str} {xN5 : Addr} {xbs5 : List Value} {xsn5 : List Str} {xsub5 : List Value} {xab5 : Bool} {xcol5 : Option Bool} {xdd5 : Option Addr} {xka5 xkb5 xkc5 xkd5 xke5 : Option Value} {xoc5 xdoc5 xpm5 xct5 xcl5 xce5 : Value} {xod5 xan5 xcdx5 xcf5 : Option Addr} {xcc5 xcda5 : Addr} {xosl5 xcs5 xcg5 : Array (Option Value)} {xvs5 : Array Value} {xtf5 : Tok}
    {xn6 xq6 : Str} {xN6 : Addr} {xbs6 : List Value} {xsn6 : List Str} {xsub6 : List Value} {xab6 : Bool} {xcol6 : Option Bool} {xdd6 : Option Addr} {xka6 xkb6 xkc6 xkd6 xke6 : Option Value} {xoc6 xdoc6 xpm6 xct6 xcl6 xce6 : Value} {xod6 xan6 xcdx6 xcf6 : Option Addr} {xcc6 xcda6 : Addr} {xosl6 xcs6 xcg6 : Array (Option Value)} {xvs6 : Array Value} {xtf6 : Tok}
    {xn7 xq7 : Str} {xN7 : Addr} {xbs7 : List Value} {xsn7 : List Str} {xsub7 : List Value} {xab7 : Bool} {xcol7 : Option Bool} {xdd7 : Option Addr} {xka7 xkb7 xkc7 xkd7 xke7 : Option Value} {xoc7 xdoc7 xpm7 xct7 xcl7 xce7 : Value} {xod7 xan7 xcdx7 xcf7 : Option Addr} {xcc7 xcda7 : Addr} {xosl7 xcs7 xcg7 : Array (Option Value)} {xvs7 : Array Value} {xtf7 : Tok}
    {ocCc kVCc docCc pmCc cdCc ctCc : Value} {odCc anCc : Option Addr} {oslCc : Array (Option Value)}
    {ocTa kVTa docTa pmTa cdTa ctTa : Value} {odTa anTa : Option Addr} {oslTa : Array (Option Value)}
    {ocCt kVCt docCt pmCt cdCt ctCt : Value} {odCt anCt : Option Addr} {oslCt : Array (Option Value)}
    {ocHi kVHi docHi pmHi cdHi ctHi : Value} {odHi anHi : Option Addr} {oslHi : Array (Option Value)}
    {ocHa kVHa docHa pmHa cdHa ctHa : Value} {odHa anHa : Option Addr} {oslHa : Array (Option Value)}
    {ocHq kVHq docHq pmHq cdHq ctHq : Value} {odHq anHq : Option Addr} {oslHq : Array (Option Value)} {restHq : List Value}
    {ocLp kVLp docLp pmLp cdLp ctLp : Value} {odLp anLp : Option Addr} {oslLp : Array (Option Value)}
    {ocLd kVLd docLd pmLd cdLd ctLd : Value} {odLd anLd : Option Addr} {oslLd : Array (Option Value)}
    {ocLc kVLc docLc pmLc cdLc ctLc : Value} {odLc anLc : Option Addr} {oslLc : Array (Option Value)}
    {ocDn kVDn docDn pmDn cdDn ctDn : Value} {odDn anDn : Option Addr} {oslDn : Array (Option Value)}
    {ocPi kVPi docPi pmPi cdPi ctPi : Value} {odPi anPi : Option Addr} {oslPi : Array (Option Value)}
    {ocKd kVKd docKd pmKd cdKd ctKd : Value} {odKd anKd : Option Addr} {oslKd : Array (Option Value)}
    {ocMd kVMd docMd pmMd cdMd ctMd : Value} {odMd anMd : Option Addr} {oslMd : Array (Option Value)}
    {ocSp kVSp docSp pmSp cdSp ctSp : Value} {odSp anSp : Option Addr} {oslSp : Array (Option Value)}
    {ocRt kVRt docRt pmRt cdRt ctRt : Value} {odRt anRt : Option Addr} {oslRt : Array (Option Value)}
    {ocW kVW docW pmW cdW ctW : Value} {odW anW : Option Addr} {oslW : Array (Option Value)}
    {tS : Tok}
    {esR : Array DictEntry} {nR : Nat} {tRU0 tRU1 : Tok} {nRU : Nat} {odRU : Option Addr} {slRU : Array (Option Value)} {tRD0 tRD1 : Tok} {nRD : Nat} {odRD : Option Addr} {slRD : Array (Option Value)} {tRM0 tRM1 : Tok} {nRM : Nat} {odRM : Option Addr} {slRM : Array (Option Value)} {tRN0 tRN1 : Tok} {nRN : Nat} {odRN : Option Addr} {slRN : Array (Option Value)}
    (xaL : PySem.W.nsIn K mainGlobals "LineError" = some (some (.ref eL)))
    (xxL : K.lookup eL = some (excClassObj xnL xqL eL xNL xbsL HandSPX.veTail true xsnL xsubL xabL xcolL xddL xk0L xk1L xk2L xk3L xk5L "ValueError.__new__"))
    (xiL : PySem.W.findIn K (.ref eL) "__init__" = some (some (.builtin "ValueError.__init__")))
    (xtL : PySem.W.typeIn K (.ref eL) = some (.type "type"))
    (xeL : PySem.W.subIn K (.ref eL) (.type "BaseException") = some true)
    (xoq : PySem.W.nsIn K cStatics "thirdparty.any" = some none)
    (xsp : PySem.W.specialIn K (.builtin "object.__class__") "__get__" = some (some (.builtin "getset_descriptor.__get__")))
    (xtk : PySem.W.takesIn K (.builtin "object.__class__") = some true)
    (xsup : PySem.W.nsIn K mainGlobals "super" = some none)
    (xa0 : PySem.W.nsIn K mainGlobals "InvalidChain" = some (some (.ref e0)))
    (xx0 : K.lookup e0 = some (excClassObj xn0 xq0 e0 xN0 xbs0 (.ref eL :: HandSPX.veTail) true xsn0 xsub0 xab0 xcol0 xdd0 xka0 xkb0 xkc0 xkd0 xke0 "ValueError.__new__"))
    (xsa0 : PySem.W.findIn K (.ref e0) "__setattr__" = some (some (.builtin "object.__setattr__")))
    (xga0 : PySem.W.findIn K (.ref e0) "__getattribute__" = some (some (.builtin "BaseException.__getattribute__")))
    (xgg0 : PySem.W.findIn K (.ref e0) "__getattr__" = some none)
    (xca0 : PySem.W.findIn K (.ref e0) "__class__" = some (some (.builtin "object.__class__")))
    (xnv0 : PySem.W.findIn K (.ref e0) "value" = some none)
    (xty0 : PySem.W.typeIn K (.ref e0) = some (.type "type"))
    (xkp0 : PySem.W.keepIn K (.ref e0) = true)
    (xi0 : PySem.W.findIn K (.ref e0) "__init__" = some (some (.ref ef0)))
    (xt0 : PySem.W.typeIn K (.ref ef0) = some (.type "function"))
    (xl0 : K.lookup ef0 = some ⟨xoc0, xod0, .func (PySem.W.fnX "__init__" "InvalidChain.__init__" (defArgs (sIni 0)) (defBody (sIni 0)) (defScope (sIni 0)) [("__class__", xcc0)] .none .none xdoc0 xpm0 xan0 (.ref xcda0) xct0), xosl0⟩)
    (xcd0 : PySem.W.codeIn K (.ref xcda0) "InvalidChain.__init__" = true)
    (xv0 : K.lookup xcda0 = some ⟨xcl0, xcdx0, .fields xvs0, xcs0⟩)
    (xw0 : xvs0[2]? = some (.str P.main.file xtf0))
    (xce_0 : K.lookup xcc0 = some ⟨xce0, xcf0, .cell (some (.ref e0)), xcg0⟩)
    (xa1 : PySem.W.nsIn K mainGlobals "InvalidRun" = some (some (.ref e1)))
    (xx1 : K.lookup e1 = some (excClassObj xn1 xq1 e1 xN1 xbs1 (.ref eL :: HandSPX.veTail) true xsn1 xsub1 xab1 xcol1 xdd1 xka1 xkb1 xkc1 xkd1 xke1 "ValueError.__new__"))
    (xsa1 : PySem.W.findIn K (.ref e1) "__setattr__" = some (some (.builtin "object.__setattr__")))
    (xga1 : PySem.W.findIn K (.ref e1) "__getattribute__" = some (some (.builtin "BaseException.__getattribute__")))
    (xgg1 : PySem.W.findIn K (.ref e1) "__getattr__" = some none)
    (xca1 : PySem.W.findIn K (.ref e1) "__class__" = some (some (.builtin "object.__class__")))
    (xnv1 : PySem.W.findIn K (.ref e1) "value" = some none)
    (xty1 : PySem.W.typeIn K (.ref e1) = some (.type "type"))
    (xkp1 : PySem.W.keepIn K (.ref e1) = true)
    (xi1 : PySem.W.findIn K (.ref e1) "__init__" = some (some (.ref ef1)))
    (xt1 : PySem.W.typeIn K (.ref ef1) = some (.type "function"))
    (xl1 : K.lookup ef1 = some ⟨xoc1, xod1, .func (PySem.W.fnX "__init__" "InvalidRun.__init__" (defArgs (sIni 1)) (defBody (sIni 1)) (defScope (sIni 1)) [("__class__", xcc1)] .none .none xdoc1 xpm1 xan1 (.ref xcda1) xct1), xosl1⟩)
    (xcd1 : PySem.W.codeIn K (.ref xcda1) "InvalidRun.__init__" = true)
    (xv1 : K.lookup xcda1 = some ⟨xcl1, xcdx1, .fields xvs1, xcs1⟩)
    (xw1 : xvs1[2]? = some (.str P.main.file xtf1))
    (xce_1 : K.lookup xcc1 = some ⟨xce1, xcf1, .cell (some (.ref e1)), xcg1⟩)
    (xa2 : PySem.W.nsIn K mainGlobals "InvalidForm" = some (some (.ref e2)))
    (xx2 : K.lookup e2 = some (excClassObj xn2 xq2 e2 xN2 xbs2 (.ref eL :: HandSPX.veTail) true xsn2 xsub2 xab2 xcol2 xdd2 xka2 xkb2 xkc2 xkd2 xke2 "ValueError.__new__"))
    (xsa2 : PySem.W.findIn K (.ref e2) "__setattr__" = some (some (.builtin "object.__setattr__")))
    (xga2 : PySem.W.findIn K (.ref e2) "__getattribute__" = some (some (.builtin "BaseException.__getattribute__")))
    (xgg2 : PySem.W.findIn K (.ref e2) "__getattr__" = some none)
    (xca2 : PySem.W.findIn K (.ref e2) "__class__" = some (some (.builtin "object.__class__")))
    (xnv2 : PySem.W.findIn K (.ref e2) "value" = some none)
    (xty2 : PySem.W.typeIn K (.ref e2) = some (.type "type"))
    (xkp2 : PySem.W.keepIn K (.ref e2) = true)
    (xi2 : PySem.W.findIn K (.ref e2) "__init__" = some (some (.ref ef2)))
    (xt2 : PySem.W.typeIn K (.ref ef2) = some (.type "function"))
    (xl2 : K.lookup ef2 = some ⟨xoc2, xod2, .func (PySem.W.fnX "__init__" "InvalidForm.__init__" (defArgs (sIni 2)) (defBody (sIni 2)) (defScope (sIni 2)) [("__class__", xcc2)] .none .none xdoc2 xpm2 xan2 (.ref xcda2) xct2), xosl2⟩)
    (xcd2 : PySem.W.codeIn K (.ref xcda2) "InvalidForm.__init__" = true)
    (xv2 : K.lookup xcda2 = some ⟨xcl2, xcdx2, .fields xvs2, xcs2⟩)
    (xw2 : xvs2[2]? = some (.str P.main.file xtf2))
    (xce_2 : K.lookup xcc2 = some ⟨xce2, xcf2, .cell (some (.ref e2)), xcg2⟩)
    (xa3 : PySem.W.nsIn K mainGlobals "InvalidNumber" = some (some (.ref e3)))
    (xx3 : K.lookup e3 = some (excClassObj xn3 xq3 e3 xN3 xbs3 (.ref eL :: HandSPX.veTail) true xsn3 xsub3 xab3 xcol3 xdd3 xka3 xkb3 xkc3 xkd3 xke3 "ValueError.__new__"))
    (xsa3 : PySem.W.findIn K (.ref e3) "__setattr__" = some (some (.builtin "object.__setattr__")))
    (xga3 : PySem.W.findIn K (.ref e3) "__getattribute__" = some (some (.builtin "BaseException.__getattribute__")))
    (xgg3 : PySem.W.findIn K (.ref e3) "__getattr__" = some none)
    (xca3 : PySem.W.findIn K (.ref e3) "__class__" = some (some (.builtin "object.__class__")))
    (xnv3 : PySem.W.findIn K (.ref e3) "value" = some none)
    (xty3 : PySem.W.typeIn K (.ref e3) = some (.type "type"))
    (xkp3 : PySem.W.keepIn K (.ref e3) = true)
    (xi3 : PySem.W.findIn K (.ref e3) "__init__" = some (some (.ref ef3)))
    (xt3 : PySem.W.typeIn K (.ref ef3) = some (.type "function"))
    (xl3 : K.lookup ef3 = some ⟨xoc3, xod3, .func (PySem.W.fnX "__init__" "InvalidNumber.__init__" (defArgs (sIni 3)) (defBody (sIni 3)) (defScope (sIni 3)) [("__class__", xcc3)] .none .none xdoc3 xpm3 xan3 (.ref xcda3) xct3), xosl3⟩)
    (xcd3 : PySem.W.codeIn K (.ref xcda3) "InvalidNumber.__init__" = true)
    (xv3 : K.lookup xcda3 = some ⟨xcl3, xcdx3, .fields xvs3, xcs3⟩)
    (xw3 : xvs3[2]? = some (.str P.main.file xtf3))
    (xce_3 : K.lookup xcc3 = some ⟨xce3, xcf3, .cell (some (.ref e3)), xcg3⟩)
    (xa4 : PySem.W.nsIn K mainGlobals "InvalidPlace" = some (some (.ref e4)))
    (xx4 : K.lookup e4 = some (excClassObj xn4 xq4 e4 xN4 xbs4 (.ref eL :: HandSPX.veTail) true xsn4 xsub4 xab4 xcol4 xdd4 xka4 xkb4 xkc4 xkd4 xke4 "ValueError.__new__"))
    (xsa4 : PySem.W.findIn K (.ref e4) "__setattr__" = some (some (.builtin "object.__setattr__")))
    (xga4 : PySem.W.findIn K (.ref e4) "__getattribute__" = some (some (.builtin "BaseException.__getattribute__")))
    (xgg4 : PySem.W.findIn K (.ref e4) "__getattr__" = some none)
    (xca4 : PySem.W.findIn K (.ref e4) "__class__" = some (some (.builtin "object.__class__")))
    (xnv4 : PySem.W.findIn K (.ref e4) "value" = some none)
    (xty4 : PySem.W.typeIn K (.ref e4) = some (.type "type"))
    (xkp4 : PySem.W.keepIn K (.ref e4) = true)
    (xi4 : PySem.W.findIn K (.ref e4) "__init__" = some (some (.ref ef4)))
    (xt4 : PySem.W.typeIn K (.ref ef4) = some (.type "function"))
    (xl4 : K.lookup ef4 = some ⟨xoc4, xod4, .func (PySem.W.fnX "__init__" "InvalidPlace.__init__" (defArgs (sIni 4)) (defBody (sIni 4)) (defScope (sIni 4)) [("__class__", xcc4)] .none .none xdoc4 xpm4 xan4 (.ref xcda4) xct4), xosl4⟩)
    (xcd4 : PySem.W.codeIn K (.ref xcda4) "InvalidPlace.__init__" = true)
    (xv4 : K.lookup xcda4 = some ⟨xcl4, xcdx4, .fields xvs4, xcs4⟩)
    (xw4 : xvs4[2]? = some (.str P.main.file xtf4))
    (xce_4 : K.lookup xcc4 = some ⟨xce4, xcf4, .cell (some (.ref e4)), xcg4⟩)
    (xa5 : PySem.W.nsIn K mainGlobals "UnknownName" = some (some (.ref e5)))
    (xx5 : K.lookup e5 = some (excClassObj xn5 xq5 e5 xN5 xbs5 (.ref eL :: HandSPX.veTail) true xsn5 xsub5 xab5 xcol5 xdd5 xka5 xkb5 xkc5 xkd5 xke5 "ValueError.__new__"))
    (xsa5 : PySem.W.findIn K (.ref e5) "__setattr__" = some (some (.builtin "object.__setattr__")))
    (xga5 : PySem.W.findIn K (.ref e5) "__getattribute__" = some (some (.builtin "BaseException.__getattribute__")))
    (xgg5 : PySem.W.findIn K (.ref e5) "__getattr__" = some none)
    (xca5 : PySem.W.findIn K (.ref e5) "__class__" = some (some (.builtin "object.__class__")))
    (xnv5 : PySem.W.findIn K (.ref e5) "value" = some none)
    (xty5 : PySem.W.typeIn K (.ref e5) = some (.type "type"))
    (xkp5 : PySem.W.keepIn K (.ref e5) = true)
    (xi5 : PySem.W.findIn K (.ref e5) "__init__" = some (some (.ref ef5)))
    (xt5 : PySem.W.typeIn K (.ref ef5) = some (.type "function"))
    (xl5 : K.lookup ef5 = some ⟨xoc5, xod5, .func (PySem.W.fnX "__init__" "UnknownName.__init__" (defArgs (sIni 5)) (defBody (sIni 5)) (defScope (sIni 5)) [("__class__", xcc5)] .none .none xdoc5 xpm5 xan5 (.ref xcda5) xct5), xosl5⟩)
    (xcd5 : PySem.W.codeIn K (.ref xcda5) "UnknownName.__init__" = true)
    (xv5 : K.lookup xcda5 = some ⟨xcl5, xcdx5, .fields xvs5, xcs5⟩)
    (xw5 : xvs5[2]? = some (.str P.main.file xtf5))
    (xce_5 : K.lookup xcc5 = some ⟨xce5, xcf5, .cell (some (.ref e5)), xcg5⟩)
    (xa6 : PySem.W.nsIn K mainGlobals "NothingToUndo" = some (some (.ref e6)))
    (xx6 : K.lookup e6 = some (excClassObj xn6 xq6 e6 xN6 xbs6 (.ref eL :: HandSPX.veTail) true xsn6 xsub6 xab6 xcol6 xdd6 xka6 xkb6 xkc6 xkd6 xke6 "ValueError.__new__"))
    (xsa6 : PySem.W.findIn K (.ref e6) "__setattr__" = some (some (.builtin "object.__setattr__")))
    (xga6 : PySem.W.findIn K (.ref e6) "__getattribute__" = some (some (.builtin "BaseException.__getattribute__")))
    (xgg6 : PySem.W.findIn K (.ref e6) "__getattr__" = some none)
    (xca6 : PySem.W.findIn K (.ref e6) "__class__" = some (some (.builtin "object.__class__")))
    (xnv6 : PySem.W.findIn K (.ref e6) "value" = some none)
    (xty6 : PySem.W.typeIn K (.ref e6) = some (.type "type"))
    (xkp6 : PySem.W.keepIn K (.ref e6) = true)
    (xi6 : PySem.W.findIn K (.ref e6) "__init__" = some (some (.ref ef6)))
    (xt6 : PySem.W.typeIn K (.ref ef6) = some (.type "function"))
    (xl6 : K.lookup ef6 = some ⟨xoc6, xod6, .func (PySem.W.fnX "__init__" "NothingToUndo.__init__" (defArgs (sIni 6)) (defBody (sIni 6)) (defScope (sIni 6)) [("__class__", xcc6)] .none .none xdoc6 xpm6 xan6 (.ref xcda6) xct6), xosl6⟩)
    (xcd6 : PySem.W.codeIn K (.ref xcda6) "NothingToUndo.__init__" = true)
    (xv6 : K.lookup xcda6 = some ⟨xcl6, xcdx6, .fields xvs6, xcs6⟩)
    (xw6 : xvs6[2]? = some (.str P.main.file xtf6))
    (xce_6 : K.lookup xcc6 = some ⟨xce6, xcf6, .cell (some (.ref e6)), xcg6⟩)
    (xa7 : PySem.W.nsIn K mainGlobals "Unreadable" = some (some (.ref e7)))
    (xx7 : K.lookup e7 = some (excClassObj xn7 xq7 e7 xN7 xbs7 (.ref eL :: HandSPX.veTail) true xsn7 xsub7 xab7 xcol7 xdd7 xka7 xkb7 xkc7 xkd7 xke7 "ValueError.__new__"))
    (xsa7 : PySem.W.findIn K (.ref e7) "__setattr__" = some (some (.builtin "object.__setattr__")))
    (xga7 : PySem.W.findIn K (.ref e7) "__getattribute__" = some (some (.builtin "BaseException.__getattribute__")))
    (xgg7 : PySem.W.findIn K (.ref e7) "__getattr__" = some none)
    (xca7 : PySem.W.findIn K (.ref e7) "__class__" = some (some (.builtin "object.__class__")))
    (xnv7 : PySem.W.findIn K (.ref e7) "value" = some none)
    (xty7 : PySem.W.typeIn K (.ref e7) = some (.type "type"))
    (xkp7 : PySem.W.keepIn K (.ref e7) = true)
    (xi7 : PySem.W.findIn K (.ref e7) "__init__" = some (some (.ref ef7)))
    (xt7 : PySem.W.typeIn K (.ref ef7) = some (.type "function"))
    (xl7 : K.lookup ef7 = some ⟨xoc7, xod7, .func (PySem.W.fnX "__init__" "Unreadable.__init__" (defArgs (sIni 7)) (defBody (sIni 7)) (defScope (sIni 7)) [("__class__", xcc7)] .none .none xdoc7 xpm7 xan7 (.ref xcda7) xct7), xosl7⟩)
    (xcd7 : PySem.W.codeIn K (.ref xcda7) "Unreadable.__init__" = true)
    (xv7 : K.lookup xcda7 = some ⟨xcl7, xcdx7, .fields xvs7, xcs7⟩)
    (xw7 : xvs7[2]? = some (.str P.main.file xtf7))
    (xce_7 : K.lookup xcc7 = some ⟨xce7, xcf7, .cell (some (.ref e7)), xcg7⟩)
    (xnd : ([e0, e1, e2, e3, e4, e5, e6, e7] : List Addr).Nodup)
    (xnl : ∀ c ∈ ([e0, e1, e2, e3, e4, e5, e6, e7] : List Addr), c ≠ eL)
    (aCHiddenChain : PySem.W.nsIn K mainGlobals "HiddenChain" = some (some (.ref CHiddenChain)))
    (pgHiddenChain : PySem.W.plainGet K CHiddenChain Str.empty = true)
    (hdHiddenChain : PySem.W.hasDictIn K CHiddenChain = true)
    (poHiddenChain : PySem.W.plainOver K CHiddenChain = true)
    (mkHiddenChain : PySem.W.makesIn K CHiddenChain = true)
    (kcHiddenChain : PySem.W.keepIn K (.ref CHiddenChain) = true)
    (saHiddenChain : PySem.W.findIn K (.ref CHiddenChain) "__setattr__" = some (some (.builtin "object.__setattr__")))
    (n0HiddenChain : PySem.W.findIn K (.ref CHiddenChain) "_chain" = some none)
    (n1HiddenChain : PySem.W.findIn K (.ref CHiddenChain) "_questions" = some none)
    (aCc : PySem.W.nsIn K mainGlobals "check_chain" = some (some (.ref fCc)))
    (lCc : K.lookup fCc = some ⟨ocCc, odCc, .func (PySem.W.fnOf "check_chain" "check_chain" (defArgs sChkChain) (defBody sChkChain) (defScope sChkChain) .none kVCc docCc pmCc anCc cdCc ctCc), oslCc⟩)
    (c_Cc : PySem.W.codeIn K cdCc "check_chain" = true)
    (k_Cc : PySem.W.keepIn K (.ref fCc) = true)
    (aTa : PySem.W.nsIn K mainGlobals "text_after_step" = some (some (.ref fTa)))
    (lTa : K.lookup fTa = some ⟨ocTa, odTa, .func (PySem.W.fnOf "text_after_step" "text_after_step" (defArgs sTextAfterStep) (defBody sTextAfterStep) (defScope sTextAfterStep) .none kVTa docTa pmTa anTa cdTa ctTa), oslTa⟩)
    (c_Ta : PySem.W.codeIn K cdTa "text_after_step" = true)
    (k_Ta : PySem.W.keepIn K (.ref fTa) = true)
    (aCt : PySem.W.nsIn K mainGlobals "convert" = some (some (.ref fCt)))
    (lCt : K.lookup fCt = some ⟨ocCt, odCt, .func (PySem.W.fnOf "convert" "convert" (defArgs sConvert) (defBody sConvert) (defScope sConvert) .none kVCt docCt pmCt anCt cdCt ctCt), oslCt⟩)
    (c_Ct : PySem.W.codeIn K cdCt "convert" = true)
    (k_Ct : PySem.W.keepIn K (.ref fCt) = true)
    (aHi : PySem.W.findIn K (.ref CHiddenChain) "__init__" = some (some (.ref fHi)))
    (iHi : PySem.W.isFn K (.ref fHi) = true)
    (lHi : K.lookup fHi = some ⟨ocHi, odHi, .func (PySem.W.fnOf "__init__" "HiddenChain.__init__" (defArgs sHiddenChain___init__) (defBody sHiddenChain___init__) (defScope sHiddenChain___init__) .none kVHi docHi pmHi anHi cdHi ctHi), oslHi⟩)
    (c_Hi : PySem.W.codeIn K cdHi "HiddenChain.__init__" = true)
    (k_Hi : PySem.W.keepIn K (.ref fHi) = true)
    (aHa : PySem.W.findIn K (.ref CHiddenChain) "ask" = some (some (.ref fHa)))
    (iHa : PySem.W.isFn K (.ref fHa) = true)
    (lHa : K.lookup fHa = some ⟨ocHa, odHa, .func (PySem.W.fnOf "ask" "HiddenChain.ask" (defArgs sHiddenChain_ask) (defBody sHiddenChain_ask) (defScope sHiddenChain_ask) .none kVHa docHa pmHa anHa cdHa ctHa), oslHa⟩)
    (c_Ha : PySem.W.codeIn K cdHa "HiddenChain.ask" = true)
    (k_Ha : PySem.W.keepIn K (.ref fHa) = true)
    (paHq : PySem.W.findIn K (.ref CHiddenChain) "questions" = some (some (.ref pHq)))
    (pbHq : PySem.W.specialIn K (.ref pHq) "__get__" = some (some (.builtin "property.__get__")))
    (pcHq : PySem.W.takesIn K (.ref pHq) = some true)
    (pdHq : PySem.W.recIn K pHq "property" = some (.ref fHq :: restHq))
    (lHq : K.lookup fHq = some ⟨ocHq, odHq, .func (PySem.W.fnOf "questions" "HiddenChain.questions" (defArgs sHiddenChain_questions) (defBody sHiddenChain_questions) (defScope sHiddenChain_questions) .none kVHq docHq pmHq anHq cdHq ctHq), oslHq⟩)
    (c_Hq : PySem.W.codeIn K cdHq "HiddenChain.questions" = true)
    (k_Hq : PySem.W.keepIn K (.ref fHq) = true)
    (aLp : PySem.W.nsIn K mainGlobals "_law_pool" = some (some (.ref fLp)))
    (lLp : K.lookup fLp = some ⟨ocLp, odLp, .func (PySem.W.fnOf "_law_pool" "_law_pool" (defArgs sLPool) (defBody sLPool) (defScope sLPool) .none kVLp docLp pmLp anLp cdLp ctLp), oslLp⟩)
    (c_Lp : PySem.W.codeIn K cdLp "_law_pool" = true)
    (k_Lp : PySem.W.keepIn K (.ref fLp) = true)
    (aLd : PySem.W.nsIn K mainGlobals "_law_draw" = some (some (.ref fLd)))
    (lLd : K.lookup fLd = some ⟨ocLd, odLd, .func (PySem.W.fnOf "_law_draw" "_law_draw" (defArgs sLDraw) (defBody sLDraw) (defScope sLDraw) .none kVLd docLd pmLd anLd cdLd ctLd), oslLd⟩)
    (c_Ld : PySem.W.codeIn K cdLd "_law_draw" = true)
    (k_Ld : PySem.W.keepIn K (.ref fLd) = true)
    (aLc : PySem.W.nsIn K mainGlobals "_law_chain" = some (some (.ref fLc)))
    (lLc : K.lookup fLc = some ⟨ocLc, odLc, .func (PySem.W.fnOf "_law_chain" "_law_chain" (defArgs sLChain) (defBody sLChain) (defScope sLChain) .none kVLc docLc pmLc anLc cdLc ctLc), oslLc⟩)
    (c_Lc : PySem.W.codeIn K cdLc "_law_chain" = true)
    (k_Lc : PySem.W.keepIn K (.ref fLc) = true)
    (aDn : PySem.W.nsIn K mainGlobals "_law_done" = some (some (.ref fDn)))
    (lDn : K.lookup fDn = some ⟨ocDn, odDn, .func (PySem.W.fnOf "_law_done" "_law_done" (defArgs sLDone) (defBody sLDone) (defScope sLDone) .none kVDn docDn pmDn anDn cdDn ctDn), oslDn⟩)
    (c_Dn : PySem.W.codeIn K cdDn "_law_done" = true)
    (k_Dn : PySem.W.keepIn K (.ref fDn) = true)
    (aPi : PySem.W.nsIn K mainGlobals "_law_piece" = some (some (.ref fPi)))
    (lPi : K.lookup fPi = some ⟨ocPi, odPi, .func (PySem.W.fnOf "_law_piece" "_law_piece" (defArgs sLPiece) (defBody sLPiece) (defScope sLPiece) .none kVPi docPi pmPi anPi cdPi ctPi), oslPi⟩)
    (c_Pi : PySem.W.codeIn K cdPi "_law_piece" = true)
    (k_Pi : PySem.W.keepIn K (.ref fPi) = true)
    (aKd : PySem.W.nsIn K mainGlobals "_law_kind" = some (some (.ref fKd)))
    (lKd : K.lookup fKd = some ⟨ocKd, odKd, .func (PySem.W.fnOf "_law_kind" "_law_kind" (defArgs sLKind) (defBody sLKind) (defScope sLKind) .none kVKd docKd pmKd anKd cdKd ctKd), oslKd⟩)
    (c_Kd : PySem.W.codeIn K cdKd "_law_kind" = true)
    (k_Kd : PySem.W.keepIn K (.ref fKd) = true)
    (aMd : PySem.W.nsIn K mainGlobals "_law_made" = some (some (.ref fMd)))
    (lMd : K.lookup fMd = some ⟨ocMd, odMd, .func (PySem.W.fnOf "_law_made" "_law_made" (defArgs sLMade) (defBody sLMade) (defScope sLMade) .none kVMd docMd pmMd anMd cdMd ctMd), oslMd⟩)
    (c_Md : PySem.W.codeIn K cdMd "_law_made" = true)
    (k_Md : PySem.W.keepIn K (.ref fMd) = true)
    (aSp : PySem.W.nsIn K mainGlobals "_law_spoilt" = some (some (.ref fSp)))
    (lSp : K.lookup fSp = some ⟨ocSp, odSp, .func (PySem.W.fnOf "_law_spoilt" "_law_spoilt" (defArgs sLSpoilt) (defBody sLSpoilt) (defScope sLSpoilt) .none kVSp docSp pmSp anSp cdSp ctSp), oslSp⟩)
    (c_Sp : PySem.W.codeIn K cdSp "_law_spoilt" = true)
    (k_Sp : PySem.W.keepIn K (.ref fSp) = true)
    (aRt : PySem.W.nsIn K mainGlobals "_law_right" = some (some (.ref fRt)))
    (lRt : K.lookup fRt = some ⟨ocRt, odRt, .func (PySem.W.fnOf "_law_right" "_law_right" (defArgs sLRight) (defBody sLRight) (defScope sLRight) .none kVRt docRt pmRt anRt cdRt ctRt), oslRt⟩)
    (c_Rt : PySem.W.codeIn K cdRt "_law_right" = true)
    (k_Rt : PySem.W.keepIn K (.ref fRt) = true)
    (aW : PySem.W.nsIn K mainGlobals "law" = some (some (.ref fW)))
    (lW : K.lookup fW = some ⟨ocW, odW, .func (PySem.W.fnOf "law" "law" (defArgs sLaw) (defBody sLaw) (defScope sLaw) .none kVW docW pmW anW cdW ctW), oslW⟩)
    (c_W : PySem.W.codeIn K cdW "law" = true)
    (k_W : PySem.W.keepIn K (.ref fW) = true)
    (z_abs : PySem.W.nsIn K mainGlobals "abs" = some none)
    (z_enumerate : PySem.W.nsIn K mainGlobals "enumerate" = some none)
    (z_int : PySem.W.nsIn K mainGlobals "int" = some none)
    (z_len : PySem.W.nsIn K mainGlobals "len" = some none)
    (z_max : PySem.W.nsIn K mainGlobals "max" = some none)
    (z_min : PySem.W.nsIn K mainGlobals "min" = some none)
    (z_range : PySem.W.nsIn K mainGlobals "range" = some none)
    (z_isinstance : PySem.W.nsIn K mainGlobals "isinstance" = some none)
    (z_ValueError : PySem.W.nsIn K mainGlobals "ValueError" = some none)
    (gS : PySem.W.nsIn K mainGlobals "STEPS" = some (some (.str "UDMN" tS)))
    (gR : PySem.W.nsIn K mainGlobals "REPLACEMENTS" = some (some (.ref aR)))
    (hR : K.lookup aR = some ⟨.type "dict", none, .dict esR nR, #[]⟩)
    (kR : PySem.W.KeysLit w.params esR.toList)
    (rrU : PySem.W.nsIn K aR "U" = some (some (.ref rU)))
    (rhU : K.lookup rU = some ⟨.type "tuple", odRU, .seq #[.str "\n" tRU0, .str "^\n" tRU1] nRU, slRU⟩)
    (rzU : tRU0 ≠ 0 ∧ tRU1 ≠ 0 ∧ tRU0 ≠ tRU1)
    (rrD : PySem.W.nsIn K aR "D" = some (some (.ref rD)))
    (rhD : K.lookup rD = some ⟨.type "tuple", odRD, .seq #[.str "^\n" tRD0, .str "\n" tRD1] nRD, slRD⟩)
    (rzD : tRD0 ≠ 0 ∧ tRD1 ≠ 0 ∧ tRD0 ≠ tRD1)
    (rrM : PySem.W.nsIn K aR "M" = some (some (.ref rM)))
    (rhM : K.lookup rM = some ⟨.type "tuple", odRM, .seq #[.str "^" tRM0, .str "\n" tRM1] nRM, slRM⟩)
    (rzM : tRM0 ≠ 0 ∧ tRM1 ≠ 0 ∧ tRM0 ≠ tRM1)
    (rrN : PySem.W.nsIn K aR "N" = some (some (.ref rN)))
    (rhN : K.lookup rN = some ⟨.type "tuple", odRN, .seq #[.str "\n" tRN0, .str "^" tRN1] nRN, slRN⟩)
    (rzN : tRN0 ≠ 0 ∧ tRN1 ≠ 0 ∧ tRN0 ≠ tRN1) :
    ∃ fd : FuncData, (∀ (s : Shared) (v : Value), BindsTo s fd ⟨[v], []⟩ [("script", v)]) ∧ ∀ base : Heap, K.In base → base.Ns mainGlobals mg → FnG P w K mg base CX0 8 fa fd ["script"] (spLaw K) := by
  have e := hfa.symm.trans (PySem.W.mg_of X G aW)
  cases e
  have FCc := fun_mk (st := sChkChain) lCc c_Cc k_Cc
  have bCc := FCc.binds (ps := ["chain"]) fun _ _ _ _ _ _ us hl => match us, hl with | [_], _ => rfl
  have gCc' := PySem.W.mg_of X G aCc
  have FTa := fun_mk (st := sTextAfterStep) lTa c_Ta k_Ta
  have bTa := FTa.binds (ps := ["text", "letter"]) fun _ _ _ _ _ _ us hl => match us, hl with | [_, _], _ => rfl
  have gTa' := PySem.W.mg_of X G aTa
  have FCt := fun_mk (st := sConvert) lCt c_Ct k_Ct
  have bCt := FCt.binds (ps := ["text", "chain"]) fun _ _ _ _ _ _ us hl => match us, hl with | [_, _], _ => rfl
  have gCt' := PySem.W.mg_of X G aCt
  have FHi := fun_mk (st := sHiddenChain___init__) lHi c_Hi k_Hi
  have bHi := FHi.binds (ps := ["self", "chain"]) fun _ _ _ _ _ _ us hl => match us, hl with | [_, _], _ => rfl
  have FHa := fun_mk (st := sHiddenChain_ask) lHa c_Ha k_Ha
  have bHa := FHa.binds (ps := ["self", "text"]) fun _ _ _ _ _ _ us hl => match us, hl with | [_, _], _ => rfl
  have FHq := fun_mk (st := sHiddenChain_questions) lHq c_Hq k_Hq
  have bHq := FHq.binds (ps := ["self"]) fun _ _ _ _ _ _ us hl => match us, hl with | [_], _ => rfl
  have prHq : PropOf K CHiddenChain "questions" pHq fHq := ⟨paHq, pbHq, pcHq, ⟨_, pdHq⟩⟩
  have FLp := fun_mk (st := sLPool) lLp c_Lp k_Lp
  have bLp := FLp.binds (ps := ["script", "at"]) fun _ _ _ _ _ _ us hl => match us, hl with | [_, _], _ => rfl
  have gLp' := PySem.W.mg_of X G aLp
  have FLd := fun_mk (st := sLDraw) lLd c_Ld k_Ld
  have bLd := FLd.binds (ps := ["pool", "many"]) fun _ _ _ _ _ _ us hl => match us, hl with | [_, _], _ => rfl
  have gLd' := PySem.W.mg_of X G aLd
  have FLc := fun_mk (st := sLChain) lLc c_Lc k_Lc
  have bLc := FLc.binds (ps := ["pool", "most"]) fun _ _ _ _ _ _ us hl => match us, hl with | [_, _], _ => rfl
  have gLc' := PySem.W.mg_of X G aLc
  have FDn := fun_mk (st := sLDone) lDn c_Dn k_Dn
  have bDn := FDn.binds (ps := ["line_here", "steps_here"]) fun _ _ _ _ _ _ us hl => match us, hl with | [_, _], _ => rfl
  have gDn' := PySem.W.mg_of X G aDn
  have FPi := fun_mk (st := sLPiece) lPi c_Pi k_Pi
  have bPi := FPi.binds (ps := ["pool", "most"]) fun _ _ _ _ _ _ us hl => match us, hl with | [_, _], _ => rfl
  have gPi' := PySem.W.mg_of X G aPi
  have FKd := fun_mk (st := sLKind) lKd c_Kd k_Kd
  have bKd := FKd.binds (ps := ["caught"]) fun _ _ _ _ _ _ us hl => match us, hl with | [_], _ => rfl
  have gKd' := PySem.W.mg_of X G aKd
  have FMd := fun_mk (st := sLMade) lMd c_Md k_Md
  have bMd := FMd.binds (ps := ["steps_here", "by_name"]) fun _ _ _ _ _ _ us hl => match us, hl with | [_, _], _ => rfl
  have gMd' := PySem.W.mg_of X G aMd
  have FSp := fun_mk (st := sLSpoilt) lSp c_Sp k_Sp
  have bSp := FSp.binds (ps := ["pool", "steps_here"]) fun _ _ _ _ _ _ us hl => match us, hl with | [_, _], _ => rfl
  have gSp' := PySem.W.mg_of X G aSp
  have FRt := fun_mk (st := sLRight) lRt c_Rt k_Rt
  have bRt := FRt.binds (ps := ["pool"]) fun _ _ _ _ _ _ us hl => match us, hl with | [_], _ => rfl
  have gRt' := PySem.W.mg_of X G aRt
  have FW := fun_mk (st := sLaw) lW c_W k_W
  have gW' := PySem.W.mg_of X G aW
  have m_abs := PySem.W.mg_none_of X G z_abs
  have m_enumerate := PySem.W.mg_none_of X G z_enumerate
  have m_int := PySem.W.mg_none_of X G z_int
  have m_len := PySem.W.mg_none_of X G z_len
  have m_max := PySem.W.mg_none_of X G z_max
  have m_min := PySem.W.mg_none_of X G z_min
  have m_range := PySem.W.mg_none_of X G z_range
  have m_isinstance := PySem.W.mg_none_of X G z_isinstance
  have m_ValueError := PySem.W.mg_none_of X G z_ValueError
  have TLn : LineC K mg eL := { gL := PySem.W.mg_of X G xaL, cls := ⟨_, _, _, _, _, _, _, _, _, _, _, _, _, _, xxL⟩, ini := xiL, ty := xtL, exB := xeL, sup := xsup, opq := xoq, sp := xsp, tk := xtk }
  have m_super := PySem.W.mg_none_of X G xsup
  have TE0 : ErrC K P.main.file mg eL "InvalidChain" "InvalidChain.__init__" (sIni 0) e0 := { gC := PySem.W.mg_of X G xa0, cls := ⟨_, _, _, _, _, _, _, _, _, _, _, _, _, _, xx0⟩, sa := xsa0, ga := xga0, gg := xgg0, ca := xca0, nv := xnv0, ty := xty0, kp := xkp0, init := ⟨_, xi0, xt0, _, _, _, _, _, _, _, _, _, xl0, xcd0, ⟨_, _, _, _, _, xv0, xw0⟩, _, _, _, xce_0⟩, tA := ⟨_, _, rfl⟩, tB := ⟨_, _, _, _, _, _, _, _, _, _, _, rfl, fun env => ⟨_, rfl⟩⟩, tS := rfl }
  have TE1 : ErrC K P.main.file mg eL "InvalidRun" "InvalidRun.__init__" (sIni 1) e1 := { gC := PySem.W.mg_of X G xa1, cls := ⟨_, _, _, _, _, _, _, _, _, _, _, _, _, _, xx1⟩, sa := xsa1, ga := xga1, gg := xgg1, ca := xca1, nv := xnv1, ty := xty1, kp := xkp1, init := ⟨_, xi1, xt1, _, _, _, _, _, _, _, _, _, xl1, xcd1, ⟨_, _, _, _, _, xv1, xw1⟩, _, _, _, xce_1⟩, tA := ⟨_, _, rfl⟩, tB := ⟨_, _, _, _, _, _, _, _, _, _, _, rfl, fun env => ⟨_, rfl⟩⟩, tS := rfl }
  have TE2 : ErrC K P.main.file mg eL "InvalidForm" "InvalidForm.__init__" (sIni 2) e2 := { gC := PySem.W.mg_of X G xa2, cls := ⟨_, _, _, _, _, _, _, _, _, _, _, _, _, _, xx2⟩, sa := xsa2, ga := xga2, gg := xgg2, ca := xca2, nv := xnv2, ty := xty2, kp := xkp2, init := ⟨_, xi2, xt2, _, _, _, _, _, _, _, _, _, xl2, xcd2, ⟨_, _, _, _, _, xv2, xw2⟩, _, _, _, xce_2⟩, tA := ⟨_, _, rfl⟩, tB := ⟨_, _, _, _, _, _, _, _, _, _, _, rfl, fun env => ⟨_, rfl⟩⟩, tS := rfl }
  have TE3 : ErrC K P.main.file mg eL "InvalidNumber" "InvalidNumber.__init__" (sIni 3) e3 := { gC := PySem.W.mg_of X G xa3, cls := ⟨_, _, _, _, _, _, _, _, _, _, _, _, _, _, xx3⟩, sa := xsa3, ga := xga3, gg := xgg3, ca := xca3, nv := xnv3, ty := xty3, kp := xkp3, init := ⟨_, xi3, xt3, _, _, _, _, _, _, _, _, _, xl3, xcd3, ⟨_, _, _, _, _, xv3, xw3⟩, _, _, _, xce_3⟩, tA := ⟨_, _, rfl⟩, tB := ⟨_, _, _, _, _, _, _, _, _, _, _, rfl, fun env => ⟨_, rfl⟩⟩, tS := rfl }
  have TE4 : ErrC K P.main.file mg eL "InvalidPlace" "InvalidPlace.__init__" (sIni 4) e4 := { gC := PySem.W.mg_of X G xa4, cls := ⟨_, _, _, _, _, _, _, _, _, _, _, _, _, _, xx4⟩, sa := xsa4, ga := xga4, gg := xgg4, ca := xca4, nv := xnv4, ty := xty4, kp := xkp4, init := ⟨_, xi4, xt4, _, _, _, _, _, _, _, _, _, xl4, xcd4, ⟨_, _, _, _, _, xv4, xw4⟩, _, _, _, xce_4⟩, tA := ⟨_, _, rfl⟩, tB := ⟨_, _, _, _, _, _, _, _, _, _, _, rfl, fun env => ⟨_, rfl⟩⟩, tS := rfl }
  have TE5 : ErrC K P.main.file mg eL "UnknownName" "UnknownName.__init__" (sIni 5) e5 := { gC := PySem.W.mg_of X G xa5, cls := ⟨_, _, _, _, _, _, _, _, _, _, _, _, _, _, xx5⟩, sa := xsa5, ga := xga5, gg := xgg5, ca := xca5, nv := xnv5, ty := xty5, kp := xkp5, init := ⟨_, xi5, xt5, _, _, _, _, _, _, _, _, _, xl5, xcd5, ⟨_, _, _, _, _, xv5, xw5⟩, _, _, _, xce_5⟩, tA := ⟨_, _, rfl⟩, tB := ⟨_, _, _, _, _, _, _, _, _, _, _, rfl, fun env => ⟨_, rfl⟩⟩, tS := rfl }
  have TE6 : ErrC K P.main.file mg eL "NothingToUndo" "NothingToUndo.__init__" (sIni 6) e6 := { gC := PySem.W.mg_of X G xa6, cls := ⟨_, _, _, _, _, _, _, _, _, _, _, _, _, _, xx6⟩, sa := xsa6, ga := xga6, gg := xgg6, ca := xca6, nv := xnv6, ty := xty6, kp := xkp6, init := ⟨_, xi6, xt6, _, _, _, _, _, _, _, _, _, xl6, xcd6, ⟨_, _, _, _, _, xv6, xw6⟩, _, _, _, xce_6⟩, tA := ⟨_, _, rfl⟩, tB := ⟨_, _, _, _, _, _, _, _, _, _, _, rfl, fun env => ⟨_, rfl⟩⟩, tS := rfl }
  have TE7 : ErrC K P.main.file mg eL "Unreadable" "Unreadable.__init__" (sIni 7) e7 := { gC := PySem.W.mg_of X G xa7, cls := ⟨_, _, _, _, _, _, _, _, _, _, _, _, _, _, xx7⟩, sa := xsa7, ga := xga7, gg := xgg7, ca := xca7, nv := xnv7, ty := xty7, kp := xkp7, init := ⟨_, xi7, xt7, _, _, _, _, _, _, _, _, _, xl7, xcd7, ⟨_, _, _, _, _, xv7, xw7⟩, _, _, _, xce_7⟩, tA := ⟨_, _, rfl⟩, tB := ⟨_, _, _, _, _, _, _, _, _, _, _, rfl, fun env => ⟨_, rfl⟩⟩, tS := rfl }
  have TErr : ErrT K P.main.file mg eL (fun i => ([e0, e1, e2, e3, e4, e5, e6, e7] : List Addr).getD i 0) sIni := by
    refine ⟨TLn, TE0, TE1, TE2, TE3, TE4, TE5, TE6, TE7, fun i j hi hj e => ?_, fun i hi => ?_⟩
    · have hi' : i < ([e0, e1, e2, e3, e4, e5, e6, e7] : List Addr).length := hi
      have hj' : j < ([e0, e1, e2, e3, e4, e5, e6, e7] : List Addr).length := hj
      have e' : ([e0, e1, e2, e3, e4, e5, e6, e7] : List Addr)[i] = ([e0, e1, e2, e3, e4, e5, e6, e7] : List Addr)[j] := by
        have e1 : ([e0, e1, e2, e3, e4, e5, e6, e7] : List Addr).getD i 0 = ([e0, e1, e2, e3, e4, e5, e6, e7] : List Addr).getD j 0 := e
        rw [getD_at hi', getD_at hj'] at e1
        exact e1
      exact (List.getElem_inj xnd).mp e'
    · have hi' : i < ([e0, e1, e2, e3, e4, e5, e6, e7] : List Addr).length := hi
      show ([e0, e1, e2, e3, e4, e5, e6, e7] : List Addr).getD i 0 ≠ eL
      rw [getD_at hi']
      exact xnl _ (List.getElem_mem hi')
  have gSt := PySem.W.mg_of X G gS
  have TR : RepT K w mg aR := ⟨PySem.W.mg_of X G gR, fun c hc => by
    have hc' : c ∈ [85, 68, 77, 78] := hc
    simp only [List.mem_cons, List.not_mem_nil, or_false] at hc'
    rcases hc' with rfl | rfl | rfl | rfl
    · exact ⟨rU, "\n", "^\n", _, _, ⟨_, _, _, hR, kR, rrU, rfl⟩, ⟨_, _, rhU, rfl, rfl⟩, rzU.1, rzU.2.1, rzU.2.2, by decide, by decide, by decide, fun l => rfl⟩
    · exact ⟨rD, "^\n", "\n", _, _, ⟨_, _, _, hR, kR, rrD, rfl⟩, ⟨_, _, rhD, rfl, rfl⟩, rzD.1, rzD.2.1, rzD.2.2, by decide, by decide, by decide, fun l => rfl⟩
    · exact ⟨rM, "^", "\n", _, _, ⟨_, _, _, hR, kR, rrM, rfl⟩, ⟨_, _, rhM, rfl, rfl⟩, rzM.1, rzM.2.1, rzM.2.2, by decide, by decide, by decide, fun l => rfl⟩
    · exact ⟨rN, "\n", "^", _, _, ⟨_, _, _, hR, kR, rrN, rfl⟩, ⟨_, _, rhN, rfl, rfl⟩, rzN.1, rzN.2.1, rzN.2.2, by decide, by decide, by decide, fun l => rfl⟩⟩
  refine ⟨PySem.W.fnOf "law" "law" (defArgs sLaw) (defBody sLaw) (defScope sLaw) .none kVW docW pmW anW cdW ctW, fun s v => .of_eq rfl, fun base _ _ => ?_⟩
  have GCc : FnOk P w K mg base CX0 1 fCc _ ["chain"] spChkChain := ok_chkChain FCc m_enumerate gSt
  have GTa : FnOk P w K mg base CX0 1 fTa _ ["text", "letter"] spTas := ok_tas FTa TR
  have GCt : FnOk P w K mg base CX0 2 fCt _ ["text", "chain"] spCvt := ok_cvt FCt ⟨GCc.mono (by decide), k_Cc, bCc, gCc'⟩ ⟨GTa.mono (by decide), k_Ta, bTa, gTa'⟩
  have THC : HTxt K mg CHiddenChain := ⟨⟨pgHiddenChain, hdHiddenChain, poHiddenChain, saHiddenChain⟩, n0HiddenChain, n1HiddenChain, PySem.W.mg_of X G aCHiddenChain⟩
  have GHi : FnOk P w K mg base CX0 2 fHi _ ["self", "chain"] (spHInit CHiddenChain) := ok_hinit FHi THC ⟨GCc.mono (by decide), k_Cc, bCc, gCc'⟩
  have GHa : FnOk P w K mg base CX0 3 fHa _ ["self", "text"] (spAsk CHiddenChain) := ok_ask FHa THC ⟨GCt.mono (by decide), k_Ct, bCt, gCt'⟩
  have GHq : FnOk P w K mg base CX0 1 fHq _ ["self"] (spQst CHiddenChain) := ok_qst FHq THC
  have GLp : FnOk P w K mg base CX0 1 fLp _ ["script", "at"] (spPool K) := ok_pool FLp ⟨m_len, m_max, m_abs⟩
  have GLd : FnOk P w K mg base CX0 1 fLd _ ["pool", "many"] spDraw := ok_draw FLd
  have GLc : FnOk P w K mg base CX0 2 fLc _ ["pool", "most"] spPChain := ok_pchain FLc ⟨m_range⟩ ⟨GLd.mono (by decide), k_Ld, bLd, gLd'⟩
  have GDn : FnOk P w K mg base CX0 1 fDn _ ["line_here", "steps_here"] spDone := ok_done FDn
  have GPi : FnOk P w K mg base CX0 2 fPi _ ["pool", "most"] spPPiece := ok_ppiece FPi ⟨m_range, m_len⟩ ⟨GLd.mono (by decide), k_Ld, bLd, gLd'⟩
  have GKd : FnOk P w K mg base CX0 1 fKd _ ["caught"] (spKind (fun i => ([e0, e1, e2, e3, e4, e5, e6, e7] : List Addr).getD i 0)) := ok_kind TErr FKd ⟨m_isinstance, m_ValueError⟩
  have GCe : FnOk P w K mg base (L2.CX P w) 3 fCc _ ["chain"] (spChkE e0) := ok_chkE (k := 0) TErr FCc m_enumerate gSt ht m_super
  have GHe : FnOk P w K mg base (L2.CX P w) 4 fHi _ ["self", "chain"] (spHInitE CHiddenChain e0) := ok_hinitE FHi THC GCe bCc gCc' k_Cc
  have kHi := kbSelf1 (p1 := "self") (p2 := "chain") FHi fun _ _ _ _ _ _ _ _ => rfl
  have kHa := kbSelfB (p1 := "self") (p2 := "text") FHa fun _ _ _ _ _ _ _ _ => rfl
  have GMd : FnOk P w K mg base CX0 6 fMd _ ["steps_here", "by_name"] spMade := ok_made (k := 4) TErr FMd THC ⟨mkHiddenChain, aHi, iHi, kcHiddenChain⟩ GHe bHi kHi ⟨GKd.mono (by decide), k_Kd, bKd, gKd'⟩
  have GSp : FnOk P w K mg base CX0 2 fSp _ ["pool", "steps_here"] spSpoilt := ok_spoilt FSp ⟨m_range, m_len, m_enumerate⟩ ⟨GLd.mono (by decide), k_Ld, bLd, gLd'⟩
  have GRt : FnOk P w K mg base CX0 7 fRt _ ["pool"] spRight := ok_right (k := 5) FRt ⟨m_range, m_int⟩ THC ⟨mkHiddenChain, aHi, iHi, kcHiddenChain⟩ (GHi.mono (by decide)) bHi kHi ⟨aHa, iHa, k_Ha⟩ (GHa.mono (by decide)) bHa kHa prHq (GHq.mono (by decide)) bHq ⟨GLd.mono (by decide), k_Ld, bLd, gLd'⟩ ⟨GLc.mono (by decide), k_Lc, bLc, gLc'⟩ ⟨GPi.mono (by decide), k_Pi, bPi, gPi'⟩ ⟨GDn.mono (by decide), k_Dn, bDn, gDn'⟩ ⟨GSp.mono (by decide), k_Sp, bSp, gSp'⟩ ⟨GMd.mono (by decide), k_Md, bMd, gMd'⟩
  have GW := ok_law FW ⟨m_range, m_max, m_min, m_len⟩ (k := 6) THC ⟨mkHiddenChain, aHi, iHi, kcHiddenChain⟩ (GHi.mono (by decide)) bHi ⟨aHa, iHa, k_Ha⟩ (GHa.mono (by decide)) bHa ⟨GLp.mono (by decide), k_Lp, bLp, gLp'⟩ ⟨GRt.mono (by decide), k_Rt, bRt, gRt'⟩
  exact FnG.of GW
end Lw
open PySem PySem.W PyProof.Rows
set_option maxRecDepth 100000 in
set_option maxHeartbeats 0 in
theorem PySem.Challenge.cw_lineends_k43_hidden_chains_answer_holds : PySem.Challenge.rw_lineends_k43_hidden_chains_answer.Holds := by
  w_on; o_law; k_head; (case hw => w_witness2)
  k_fill
  refine Lx.endG (l := PySem.Challenge.rw_lineends_k43_hidden_chains_answer) (n := 63) (k := 8) (x := "script") (CX := fun _ => L2.CX0) (sp := fun w => Lw.spLaw _) rfl (by decide) rfl ⟨rfl, by decide, by decide⟩ (fun w h Y => PySem.W.kIn_of Y) ?F (fun _ _ a ns hl hS => ⟨a, ns, rfl, hS, hl, fun _ => rfl⟩) (fun _ _ _ _ _ h => h)
  case F =>
    intro w mg fa h KX G hmg
    refine' Lw.all_mk KX G hmg (by decide +kernel) ?xaL ?xxL ?xiL ?xtL ?xeL ?xoq ?xsp ?xtk ?xsup ?xa0 ?xx0 ?xsa0 ?xga0 ?xgg0 ?xca0 ?xnv0 ?xty0 ?xkp0 ?xi0 ?xt0 ?xl0 ?xcd0 ?xv0 ?xw0 ?xce_0 ?xa1 ?xx1 ?xsa1 ?xga1 ?xgg1 ?xca1 ?xnv1 ?xty1 ?xkp1 ?xi1 ?xt1 ?xl1 ?xcd1 ?xv1 ?xw1 ?xce_1 ?xa2 ?xx2 ?xsa2 ?xga2 ?xgg2 ?xca2 ?xnv2 ?xty2 ?xkp2 ?xi2 ?xt2 ?xl2 ?xcd2 ?xv2 ?xw2 ?xce_2 ?xa3 ?xx3 ?xsa3 ?xga3 ?xgg3 ?xca3 ?xnv3 ?xty3 ?xkp3 ?xi3 ?xt3 ?xl3 ?xcd3 ?xv3 ?xw3 ?xce_3 ?xa4 ?xx4 ?xsa4 ?xga4 ?xgg4 ?xca4 ?xnv4 ?xty4 ?xkp4 ?xi4 ?xt4 ?xl4 ?xcd4 ?xv4 ?xw4 ?xce_4 ?xa5 ?xx5 ?xsa5 ?xga5 ?xgg5 ?xca5 ?xnv5 ?xty5 ?xkp5 ?xi5 ?xt5 ?xl5 ?xcd5 ?xv5 ?xw5 ?xce_5 ?xa6 ?xx6 ?xsa6 ?xga6 ?xgg6 ?xca6 ?xnv6 ?xty6 ?xkp6 ?xi6 ?xt6 ?xl6 ?xcd6 ?xv6 ?xw6 ?xce_6 ?xa7 ?xx7 ?xsa7 ?xga7 ?xgg7 ?xca7 ?xnv7 ?xty7 ?xkp7 ?xi7 ?xt7 ?xl7 ?xcd7 ?xv7 ?xw7 ?xce_7 ?xnd ?xnl ?aCHiddenChain ?pgHiddenChain ?hdHiddenChain ?poHiddenChain ?mkHiddenChain ?kcHiddenChain ?saHiddenChain ?n0HiddenChain ?n1HiddenChain ?aCc ?lCc ?c_Cc ?k_Cc ?aTa ?lTa ?c_Ta ?k_Ta ?aCt ?lCt ?c_Ct ?k_Ct ?aHi ?iHi ?lHi ?c_Hi ?k_Hi ?aHa ?iHa ?lHa ?c_Ha ?k_Ha ?paHq ?pbHq ?pcHq ?pdHq ?lHq ?c_Hq ?k_Hq ?aLp ?lLp ?c_Lp ?k_Lp ?aLd ?lLd ?c_Ld ?k_Ld ?aLc ?lLc ?c_Lc ?k_Lc ?aDn ?lDn ?c_Dn ?k_Dn ?aPi ?lPi ?c_Pi ?k_Pi ?aKd ?lKd ?c_Kd ?k_Kd ?aMd ?lMd ?c_Md ?k_Md ?aSp ?lSp ?c_Sp ?k_Sp ?aRt ?lRt ?c_Rt ?k_Rt ?aW ?lW ?c_W ?k_W ?z_abs ?z_enumerate ?z_int ?z_len ?z_max ?z_min ?z_range ?z_isinstance ?z_ValueError ?gS ?gR ?hR ?kR ?rrU ?rhU ?rzU ?rrD ?rhD ?rzD ?rrM ?rhM ?rzM ?rrN ?rhN ?rzN
    (case xaL => k_is)
    (case xxL => k_is)
    (case xiL => k_is)
    (case xtL => k_is)
    (case xeL => k_is)
    (case xoq => k_is)
    (case xsp => k_is)
    (case xtk => k_is)
    (case xsup => k_is)
    (case xa0 => k_is)
    (case xx0 => k_is)
    (case xsa0 => k_is)
    (case xga0 => k_is)
    (case xgg0 => k_is)
    (case xca0 => k_is)
    (case xnv0 => k_is)
    (case xty0 => k_is)
    (case xkp0 => k_is)
    (case xi0 => k_is)
    (case xt0 => k_is)
    (case xl0 => k_is)
    (case xcd0 => k_is)
    (case xv0 => k_is)
    (case xw0 => rfl)
    (case xce_0 => k_is)
    (case xa1 => k_is)
    (case xx1 => k_is)
    (case xsa1 => k_is)
    (case xga1 => k_is)
    (case xgg1 => k_is)
    (case xca1 => k_is)
    (case xnv1 => k_is)
    (case xty1 => k_is)
    (case xkp1 => k_is)
    (case xi1 => k_is)
    (case xt1 => k_is)
    (case xl1 => k_is)
    (case xcd1 => k_is)
    (case xv1 => k_is)
    (case xw1 => rfl)
    (case xce_1 => k_is)
    (case xa2 => k_is)
    (case xx2 => k_is)
    (case xsa2 => k_is)
    (case xga2 => k_is)
    (case xgg2 => k_is)
    (case xca2 => k_is)
    (case xnv2 => k_is)
    (case xty2 => k_is)
    (case xkp2 => k_is)
    (case xi2 => k_is)
    (case xt2 => k_is)
    (case xl2 => k_is)
    (case xcd2 => k_is)
    (case xv2 => k_is)
    (case xw2 => rfl)
    (case xce_2 => k_is)
    (case xa3 => k_is)
    (case xx3 => k_is)
    (case xsa3 => k_is)
    (case xga3 => k_is)
    (case xgg3 => k_is)
    (case xca3 => k_is)
    (case xnv3 => k_is)
    (case xty3 => k_is)
    (case xkp3 => k_is)
    (case xi3 => k_is)
    (case xt3 => k_is)
    (case xl3 => k_is)
    (case xcd3 => k_is)
    (case xv3 => k_is)
    (case xw3 => rfl)
    (case xce_3 => k_is)
    (case xa4 => k_is)
    (case xx4 => k_is)
    (case xsa4 => k_is)
    (case xga4 => k_is)
    (case xgg4 => k_is)
    (case xca4 => k_is)
    (case xnv4 => k_is)
    (case xty4 => k_is)
    (case xkp4 => k_is)
    (case xi4 => k_is)
    (case xt4 => k_is)
    (case xl4 => k_is)
    (case xcd4 => k_is)
    (case xv4 => k_is)
    (case xw4 => rfl)
    (case xce_4 => k_is)
    (case xa5 => k_is)
    (case xx5 => k_is)
    (case xsa5 => k_is)
    (case xga5 => k_is)
    (case xgg5 => k_is)
    (case xca5 => k_is)
    (case xnv5 => k_is)
    (case xty5 => k_is)
    (case xkp5 => k_is)
    (case xi5 => k_is)
    (case xt5 => k_is)
    (case xl5 => k_is)
    (case xcd5 => k_is)
    (case xv5 => k_is)
    (case xw5 => rfl)
    (case xce_5 => k_is)
    (case xa6 => k_is)
    (case xx6 => k_is)
    (case xsa6 => k_is)
    (case xga6 => k_is)
    (case xgg6 => k_is)
    (case xca6 => k_is)
    (case xnv6 => k_is)
    (case xty6 => k_is)
    (case xkp6 => k_is)
    (case xi6 => k_is)
    (case xt6 => k_is)
    (case xl6 => k_is)
    (case xcd6 => k_is)
    (case xv6 => k_is)
    (case xw6 => rfl)
    (case xce_6 => k_is)
    (case xa7 => k_is)
    (case xx7 => k_is)
    (case xsa7 => k_is)
    (case xga7 => k_is)
    (case xgg7 => k_is)
    (case xca7 => k_is)
    (case xnv7 => k_is)
    (case xty7 => k_is)
    (case xkp7 => k_is)
    (case xi7 => k_is)
    (case xt7 => k_is)
    (case xl7 => k_is)
    (case xcd7 => k_is)
    (case xv7 => k_is)
    (case xw7 => rfl)
    (case xce_7 => k_is)
    (case xnd => decide)
    (case xnl => decide)
    (case aCHiddenChain => k_is)
    (case pgHiddenChain => k_is)
    (case hdHiddenChain => k_is)
    (case poHiddenChain => k_is)
    (case mkHiddenChain => k_is)
    (case kcHiddenChain => k_is)
    (case saHiddenChain => k_is)
    (case n0HiddenChain => k_is)
    (case n1HiddenChain => k_is)
    (case aCc => k_is)
    (case lCc => k_is)
    (case c_Cc => k_is)
    (case k_Cc => k_is)
    (case aTa => k_is)
    (case lTa => k_is)
    (case c_Ta => k_is)
    (case k_Ta => k_is)
    (case aCt => k_is)
    (case lCt => k_is)
    (case c_Ct => k_is)
    (case k_Ct => k_is)
    (case aHi => k_is)
    (case iHi => k_is)
    (case lHi => k_is)
    (case c_Hi => k_is)
    (case k_Hi => k_is)
    (case aHa => k_is)
    (case iHa => k_is)
    (case lHa => k_is)
    (case c_Ha => k_is)
    (case k_Ha => k_is)
    (case paHq => k_is)
    (case pbHq => k_is)
    (case pcHq => k_is)
    (case pdHq => k_is)
    (case lHq => k_is)
    (case c_Hq => k_is)
    (case k_Hq => k_is)
    (case aLp => k_is)
    (case lLp => k_is)
    (case c_Lp => k_is)
    (case k_Lp => k_is)
    (case aLd => k_is)
    (case lLd => k_is)
    (case c_Ld => k_is)
    (case k_Ld => k_is)
    (case aLc => k_is)
    (case lLc => k_is)
    (case c_Lc => k_is)
    (case k_Lc => k_is)
    (case aDn => k_is)
    (case lDn => k_is)
    (case c_Dn => k_is)
    (case k_Dn => k_is)
    (case aPi => k_is)
    (case lPi => k_is)
    (case c_Pi => k_is)
    (case k_Pi => k_is)
    (case aKd => k_is)
    (case lKd => k_is)
    (case c_Kd => k_is)
    (case k_Kd => k_is)
    (case aMd => k_is)
    (case lMd => k_is)
    (case c_Md => k_is)
    (case k_Md => k_is)
    (case aSp => k_is)
    (case lSp => k_is)
    (case c_Sp => k_is)
    (case k_Sp => k_is)
    (case aRt => k_is)
    (case lRt => k_is)
    (case c_Rt => k_is)
    (case k_Rt => k_is)
    (case aW => k_is)
    (case lW => k_is)
    (case c_W => k_is)
    (case k_W => k_is)
    (case z_abs => k_is)
    (case z_enumerate => k_is)
    (case z_int => k_is)
    (case z_len => k_is)
    (case z_max => k_is)
    (case z_min => k_is)
    (case z_range => k_is)
    (case z_isinstance => k_is)
    (case z_ValueError => k_is)
    (case gS => k_is)
    (case gR => k_is)
    (case hR => k_is)
    (case kR => exact ⟨⟨_, _, rfl, rfl⟩, ⟨_, _, rfl, rfl⟩, ⟨_, _, rfl, rfl⟩, ⟨_, _, rfl, rfl⟩, trivial⟩)
    (case rrU => k_is)
    (case rhU => k_is)
    (case rzU => decide)
    (case rrD => k_is)
    (case rhD => k_is)
    (case rzD => decide)
    (case rrM => k_is)
    (case rhM => k_is)
    (case rzM => decide)
    (case rrN => k_is)
    (case rhN => k_is)
    (case rzN => decide)
