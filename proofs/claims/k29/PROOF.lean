import PyProof.Rows.All
import Wide.All
import OpenK.AllK
import Wide.FinOn
import KE.KFromBytes
import KE.KExcSuper
import HandS.Base
import HandS.Call
import HandS.Exc
import HandS.Ends
import HandS.Words
import KE.KExcIs
import HandS.ForExc
import HandS.ForMost
import HandS.IsInst
import HandS.Walk
import HandS.TupAny
import HandS.More
import PyProof.WalkInts
import KE.GoesMore
import PyProof.EnumMake
import PyProof.EnumFor
import HandS.Wide
import HandS.WideMore
import PyProof.ReprBulk
import HandS.MakeKwOnly
import PyProof.StrOps2
import HandS.Dict
import HandS.WideBits
import HandS.WordsExc
import HandS.SetFor
import HandS.ExcIs
import HandS.ReplaceLit
import HandS.ReplaceList
import HandS.Style
import HandS.NoneIn
import KE.KTupSum
import HandS.Strs
import PySem.Challenge.RW_lineends_k29_characters_traced
set_option Elab.async false
set_option linter.all false
set_option maxRecDepth 100000
set_option maxHeartbeats 4000000
/-! An own error class over ValueError, called by position or by keyword: what it leaves. -/
namespace Lx
open PySem PySem.HandSPX
open PySem.W (Looks)
section
variable {M : Model} {prog : Program} {w : World} {A : Around} {E : Value → Shared → Prop} {R : Result → Shared → Prop}
variable {h : Heap} {gn : Array GenState} {dr : Drawn} {tk : Nat} {os : OsState}
variable {nm q : Str} {C N : Addr} {bs bm bmB : List Value} {hd : Bool} {sn : List Str} {sub : List Value} {ab : Bool} {col : Option Bool} {dd : Option Addr} {k0 k1 k2 k3 k5 : Option Value} {B nid iid : String}
/-- the maker's own check, with keywords -/
theorem newCheck (F : ExcBaseFacts B nid iid bmB) (hT : ∀ Y : String, bm.contains (.type Y) = bmB.contains (.type Y)) {pos : List Value} {kw : List (Str × Value)} {Q : Unit → Shared → Prop}
    (hC : h.get? C = some (excClassObj nm q C N bs bm hd sn sub ab col dd k0 k1 k2 k3 k5 nid)) (hq : Q () ⟨h, gn, dr, tk, os⟩) :
    wpAny M A (checkBuiltinCall nid ⟨.ref C :: pos, kw⟩) Q E ⟨h, gn, dr, tk, os⟩ := by
  have c0 : (Value.ref C :: bm).contains (.type B) = true := by
    rw [List.contains_cons, hT, F.hasB, Bool.or_true]
  have c1 := F.noStar
  simp only [checkBuiltinCall, F.newKind, F.newSplit, F.newRow]
  repeat (first
    | refine wpAny_loadPart_at hC ?_
    | (refine wpAny_isSubtype_exc hC ?_; rw [c0])
    | refine wpAny_staticBase_exc hC ?_
    | refine wpAny_madeBy_exc hC ?_
    | simp only [bne_self_eq_false, Bool.false_eq_true, if_false]
    | wp_step)
  exact hq
/-- the maker: the arguments by position alone are laid -/
theorem newMakes (F : ExcBaseFacts B nid iid bmB) (hT : ∀ Y : String, bm.contains (.type Y) = bmB.contains (.type Y)) {pos : List Value} {kw : List (Str × Value)}
    (hC : h.get? C = some (excClassObj nm q C N bs bm hd sn sub ab col dd k0 k1 k2 k3 k5 nid)) (hl : pos.length ≤ sizeLine)
    (hq : R (.ok (.ret (.ref (h.objs.size + 1)))) ⟨(h.push (W.kdv_tup pos)).push (excO C h.objs.size), gn, dr, tk, os⟩) :
    codeAny (model prog w) A (.builtin nid ⟨.ref C :: pos, kw⟩) R ⟨h, gn, dr, tk, os⟩ := by
  have e1 := F.ends
  have c0 : (Value.ref C :: bm).contains (.type B) = true := by
    rw [List.contains_cons, hT, F.hasB, Bool.or_true]
  have c1 : (Value.ref C :: bm).contains (.type "AttributeError") = false := by
    rw [List.contains_cons, hT, F.noAttr]; rfl
  have c2 : (Value.ref C :: bm).contains (.type "NameError") = false := by
    rw [List.contains_cons, hT, F.noName]; rfl
  refine codeAny_builtinAt F.entry ?_
  unfold Builtin.«BaseException.__new__»
  refine wpAt_bind ?_
  show wpAt _ _ _ (stack >>= _) _ _ _
  refine wpAt_bind (wpAt_stack fun p below => wpAt_of_wpAny ?_)
  wp_walk
  refine wpAt_of_wpAny ?_
  rw [F.owner]
  repeat (first
    | with_reducible refine wpAny_madeHere_exc F.canon hC ?_
    | with_reducible refine wpAny_loadPart_at hC ?_
    | (with_reducible refine wpAny_isSubtype_exc hC ?_; first | rw [c0] | rw [c1] | rw [c2])
    | wp_step)
  show R _ _
  rw [Heap.size_push]
  exact hq
/-- the class's call: the maker, then the class's own __init__ -/
theorem typeCalls (F : ExcBaseFacts B nid iid bmB) (hT : ∀ Y : String, bm.contains (.type Y) = bmB.contains (.type Y)) {pos : List Value} {kw : List (Str × Value)} {fI : Addr} {Q : Fin → Shared → Prop}
    (hC : h.get? C = some (excClassObj nm q C N bs bm hd sn sub ab col dd k0 k1 k2 k3 k5 nid))
    (hi : Looks (model prog w) h (typeLookup (.ref C) "__init__") (some (.ref fI))) (hb : ∀ self, Looks (model prog w) h (bindSpecial (.ref fI) self) (.ref fI, [self])) (hl : pos.length ≤ sizeLine)
    (hq : codeAny (model prog w) A (.call (.ref fI) ⟨.ref (h.objs.size + 1) :: pos, kw⟩)
      (fun r s' => match r with | .ok (.ret v) => v = .none ∧ Q (.done (.ret (.ref (h.objs.size + 1)))) s' | .ok _ => False | .error e => E e s')
      ⟨(h.push (W.kdv_tup pos)).push (excO C h.objs.size), gn, dr, tk, os⟩) :
    wpAny (model prog w) A (Builtin.«type.__call__» ⟨.ref C :: pos, kw⟩) Q E ⟨h, gn, dr, tk, os⟩ := by
  repeat (first | with_reducible refine wpAny_loadPart_at hC ?_ | with_reducible refine wpAny_madeBy_exc hC ?_ | wp_step)
  refine codeAny_call_builtin_code (Code.quiet_builtin _ F.quiet) (newCheck F hT hC ?_)
  refine newMakes F hT hC hl ?_
  show wpAny _ _ _ _ _ _
  have kp : ∀ b o, h.get? b = some o → ((h.push (W.kdv_tup pos)).push (excO C h.objs.size)).get? b = some o := fun b o e => Heap.get?_push_of_some _ (Heap.get?_push_of_some _ e)
  have hC1 := kp _ _ hC
  have hg : ((h.push (W.kdv_tup pos)).push (excO C h.objs.size)).get? (h.objs.size + 1) = some (excO C h.objs.size) := by heap_get
  have hs : (Value.ref C :: bm).contains (.ref C) = true := by simp
  have i1 := hi.keeps kp
  have b1 := (hb (.ref (h.objs.size + 1))).keeps kp
  unfold isInstance
  repeat (first | with_reducible refine wpAny_loadPart_at hg ?_ | (with_reducible refine wpAny_isSubtype_exc hC1 ?_; rw [hs]) | wp_step)
  show wpAny _ _ (typeLookup (.ref C) _) _ _ _
  refine i1.at ?_
  refine wpAny_holding (wpAny_bind (b1.at ?_))
  refine wpAny_bind (wpAny_call (codeAny_mono hq fun r s' z => ?_))
  rcases r with e | (v | _ | _ | _) <;> first | exact z | exact z.elim | skip
  obtain ⟨rfl, z⟩ := z
  first
    | exact wpAny_pure (wpAny_pure z)
    | (wp_walk; exact z)
end
end Lx
namespace Lx
open PySem PySem.HandSPX
open PySem.W (Looks)
open L2 (defArgs defBody defScope)
/-! ### the text of an error's __init__ -/
def inA (a b : Pos) : Arguments := { posonlyargs := [], args := [{ arg := "self", annotation := none, pos := a }, { arg := "value", annotation := none, pos := b }], vararg := none, kwonlyargs := [], kw_defaults := [], kwarg := none, defaults := [] }
def inB (msg : Str) (a b c d e f g i j k : Pos) : List Stmt :=
  [.Expr (.Call (.Attribute (.Call (.Name "super" a) [] [] b) "__init__" c) [.Constant (.str msg) 0 d] [] e) f, .Assign [.Attribute (.Name "self" g) "value" i] (.Name "value" j) k]
def SupCall (msg : Str) (a b c d e : Pos) : Prop := ∀ env : Env, ∃ pl : Sem Bool, eval (.Call (.Attribute (.Call (.Name "super" a) [] [] b) "__init__" c) [.Constant (.str msg) 0 d] [] e) env = (do
  let ov ← attributeBase (.Call (.Name "super" a) [] [] b) "__init__" env (eval (.Call (.Name "super" a) [] [] b) env)
  standAt c.atName
  let (f, first) ← holding [ov] (getMethod ov "__init__" pl)
  callWith e f first (backTo e (starEach [.Constant (.str msg) 0 d] env)) [])
def inS : Scope := { kind := .function, names := [(PySem.Str.ofString "self", .local), (PySem.Str.ofString "value", .local), (PySem.Str.ofString "__class__", .free), (PySem.Str.ofString "super", .globalImplicit)], isGenerator := false, isCoroutine := false, more := [] }
/-- what the written part says of the errors' own base, at L -/
structure LineC (K : PySem.W.Frag) (mg : Str → Option Value) (L : Addr) : Prop where
  gL : mg "LineError" = some (.ref L)
  cls : ∃ n q N bs sn sub ab col dd k0 k1 k2 k3 k5, K.lookup L = some (excClassObj n q L N bs HandSPX.veTail true sn sub ab col dd k0 k1 k2 k3 k5 "ValueError.__new__")
  ini : PySem.W.findIn K (.ref L) "__init__" = some (some (.builtin "ValueError.__init__"))
  ty : PySem.W.typeIn K (.ref L) = some (.type "type")
  exB : PySem.W.subIn K (.ref L) (.type "BaseException") = some true
  sup : PySem.W.nsIn K mainGlobals "super" = some none
  opq : PySem.W.nsIn K cStatics "thirdparty.any" = some none
  sp : PySem.W.specialIn K (.builtin "object.__class__") "__get__" = some (some (.builtin "getset_descriptor.__get__"))
  tk : PySem.W.takesIn K (.builtin "object.__class__") = some true
/-- what the written part says of an error class at C, whose base stands at L; st is the text of its __init__, qual that def's long name, nm the class's name -/
structure ErrC (K : PySem.W.Frag) (file : Str) (mg : Str → Option Value) (L : Addr) (nm qual : Str) (st : Stmt) (C : Addr) : Prop where
  gC : mg nm = some (.ref C)
  cls : ∃ n q N bs sn sub ab col dd k0 k1 k2 k3 k5, K.lookup C = some (excClassObj n q C N bs (.ref L :: HandSPX.veTail) true sn sub ab col dd k0 k1 k2 k3 k5 "ValueError.__new__")
  sa : PySem.W.findIn K (.ref C) "__setattr__" = some (some (.builtin "object.__setattr__"))
  ga : PySem.W.findIn K (.ref C) "__getattribute__" = some (some (.builtin "BaseException.__getattribute__"))
  gg : PySem.W.findIn K (.ref C) "__getattr__" = some none
  ca : PySem.W.findIn K (.ref C) "__class__" = some (some (.builtin "object.__class__"))
  nv : PySem.W.findIn K (.ref C) "value" = some none
  ty : PySem.W.typeIn K (.ref C) = some (.type "type")
  kp : PySem.W.keepIn K (.ref C) = true
  init : ∃ fI : Addr, PySem.W.findIn K (.ref C) "__init__" = some (some (.ref fI)) ∧ PySem.W.typeIn K (.ref fI) = some (.type "function") ∧
    ∃ (oc : Value) (od : Option Addr) (doc pm : Value) (an : Option Addr) (cc cda : Addr) (ct : Value) (osl : Array (Option Value)),
      K.lookup fI = some ⟨oc, od, .func (PySem.W.fnX "__init__" qual (defArgs st) (defBody st) (defScope st) [("__class__", cc)] .none .none doc pm an (.ref cda) ct), osl⟩ ∧ PySem.W.codeIn K (.ref cda) qual = true ∧
      (∃ (cl : Value) (cd : Option Addr) (vs : Array Value) (cs : Array (Option Value)) (tf : Tok), K.lookup cda = some ⟨cl, cd, .fields vs, cs⟩ ∧ vs[2]? = some (.str file tf)) ∧
      ∃ (cl : Value) (cd : Option Addr) (cs : Array (Option Value)), K.lookup cc = some ⟨cl, cd, .cell (some (.ref C)), cs⟩
  tA : ∃ a b, defArgs st = inA a b
  tB : ∃ msg a b c d e f g i j k, defBody st = inB msg a b c d e f g i j k ∧ SupCall msg a b c d e
  tS : defScope st = inS
theorem LineC.along {K : PySem.W.Frag} {mg : Str → Option Value} {L : Addr} (T : LineC K mg L) : PySem.W.alongIn K "__init__" (.ref L :: HandSPX.veTail) = some (some (.builtin "ValueError.__init__")) := by
  obtain ⟨n, q, N, bs, sn, sub, ab, col, dd, k0, k1, k2, k3, k5, hL⟩ := T.cls
  have e := T.ini
  simp only [PySem.W.findIn, hL] at e
  exact e
/-- the chain of classes above C -/
theorem ErrC.chain {K : PySem.W.Frag} {file : Str} {mg : Str → Option Value} {L C : Addr} {nm qual : Str} {st : Stmt} (T : ErrC K file mg L nm qual st C) : ∃ cd : ClassData, PySem.W.clsIn K C = some cd ∧ cd.mro = .ref C :: .ref L :: HandSPX.veTail ∧ cd.hasDict = true := by
  obtain ⟨n, q, N, bs, sn, sub, ab, col, dd, k0, k1, k2, k3, k5, hC⟩ := T.cls
  exact ⟨{ name := n, bases := bs, mro := .ref C :: .ref L :: HandSPX.veTail, ns := N, qualname := q, hasDict := true, slotNames := sn, subclasses := sub, abstract := ab, collection := col, hasDel := false }, by unfold PySem.W.clsIn; rw [hC] <;> rfl, rfl, rfl⟩
theorem ErrC.under {K : PySem.W.Frag} {file : Str} {mg : Str → Option Value} {L C : Addr} {nm qual : Str} {st : Stmt} (T : ErrC K file mg L nm qual st C) (b : Value) : PySem.W.mroIn K C b = some ((Value.ref C :: .ref L :: HandSPX.veTail).contains b) := by
  obtain ⟨cd, e1, e2, _⟩ := T.chain
  unfold PySem.W.mroIn
  rw [e1, Option.bind_some, e2]
  rfl
section
variable {prog : Program} {w : World} {A : Around} {E : Value → Shared → Prop} {R : Result → Shared → Prop} {M : Model}
variable {h : Heap} {gn : Array GenState} {dr : Drawn} {tk : Nat} {os : OsState}
variable {nm q : Str} {C N : Addr} {bs bm bmB : List Value} {hdt : Bool} {sn : List Str} {sub : List Value} {ab : Bool} {col : Option Bool} {dd : Option Addr} {k0 k1 k2 k3 k5 : Option Value} {B nid iid : String}
theorem tcCheck {pos : List Value} {kw : List (Str × Value)} {Q : Unit → Shared → Prop} (hC : h.get? C = some (excClassObj nm q C N bs bm hdt sn sub ab col dd k0 k1 k2 k3 k5 nid)) (hq : Q () ⟨h, gn, dr, tk, os⟩) :
    wpAny M A (checkBuiltinCall "type.__call__" ⟨.ref C :: pos, kw⟩) Q E ⟨h, gn, dr, tk, os⟩ := by
  have f3 := tc_sub
  have hT : (⟨h, gn, dr, tk, os⟩ : Shared).TypeIs (.ref C) "type" := ⟨_, hC, rfl⟩
  simp only [checkBuiltinCall, tc_kind, tc_split]
  repeat (any_goals (first | assumption | with_reducible refine wpAny_loadPart_at hC ?_ | with_reducible refine wpAny_onRaise ?_ | with_reducible refine wpAny_map ?_ | wp_step))
theorem clsCalls (F : ExcBaseFacts B nid iid bmB) (hT : ∀ Y : String, bm.contains (.type Y) = bmB.contains (.type Y)) {pos : List Value} {kw : List (Str × Value)} {fI : Addr}
    (hC : h.get? C = some (excClassObj nm q C N bs bm hdt sn sub ab col dd k0 k1 k2 k3 k5 nid))
    (hi : Looks (model prog w) h (typeLookup (.ref C) "__init__") (some (.ref fI))) (hb : ∀ self, Looks (model prog w) h (bindSpecial (.ref fI) self) (.ref fI, [self])) (hl : pos.length ≤ sizeLine)
    (hq : codeAny (model prog w) (A.under (.builtin "type.__call__" ⟨.ref C :: pos, kw⟩)) (.call (.ref fI) ⟨.ref (h.objs.size + 1) :: pos, kw⟩) (W.InitBack (h.objs.size + 1) R)
      ⟨(h.push (W.kdv_tup pos)).push (excO C h.objs.size), gn, dr, tk, os⟩) :
    codeAny (model prog w) A (.call (.ref C) ⟨pos, kw⟩) R ⟨h, gn, dr, tk, os⟩ := by
  have f1 := tc_lookup
  have f2 := tc_bind (.ref C)
  have hTy : (⟨h, gn, dr, tk, os⟩ : Shared).TypeIs (.ref C) "type" := ⟨_, hC, rfl⟩
  refine codeAny_of_tree ?_
  show wpAny _ _ (callAny (.ref C) _) _ _ _
  repeat (any_goals (first | assumption | with_reducible refine wpAny_loadPart_at hC ?_ | wp_step))
  refine ⟨rfl, ?_⟩
  refine codeAny_call_builtin_at (Code.quiet_builtin _ (by decide +kernel)) entry_typeCall (tcCheck hC (typeCalls F hT hC hi hb hl ?_))
  refine codeAny_mono hq fun r s' z => ?_
  rcases r with e | (v | _ | _ | _) <;> exact z
end
end Lx
namespace Lx
open PySem PySem.HandSPX
open PySem.W (Looks)
open L2 (defArgs defBody defScope)
/-- what __init__ leaves of a fresh error at x -/
structure InitLeft (h h' : Heap) (x C dx t1 : Addr) (v : Value) : Prop where
  keep : ∀ b o, b ≠ x → h.get? b = some o → h'.get? b = some o
  obj : h'.get? x = some { cls := .ref C, dict := some dx, data := .fields #[.ref t1, .none, .none, .none, .bool false, .none] }
  big : h.objs.size ≤ dx
  ne : dx ≠ x
  ns : h'.Ns1 dx (fun y => if y = "value" then some v else none)
/-- the two ways in which the value is handed over -/
inductive Hands (v : Value) : List Value → List (Str × Value) → Prop where
  | pos : Hands v [v] []
  | kw : Hands v [] [("value", v)]
section
variable {prog : Program} {w : World} {A : Around} {E : Value → Shared → Prop} {R : Result → Shared → Prop} {M : Model} {s : Shared}
variable {K : PySem.W.Frag} {mg mb : Str → Option Value} {nm qual : Str} {st : Stmt} {C L : Addr}
theorem initRuns (TL : LineC K mg L) (T : ErrC K prog.main.file mg L nm qual st C) {x t0 fI : Addr} {v : Value} {ps : List Value} {kw : List (Str × Value)} (hv : Hands v ps kw) (htop : (prog.main.scope.names.lookup ("super" : Str)).isSome = false)
    (hfI : PySem.W.findIn K (.ref C) "__init__" = some (some (.ref fI))) (X : K.In s.heap) (G : s.heap.Ns mainGlobals mg) (gs : mg "super" = none) (B : s.heap.Ns builtinsNs mb) (bs : mb "super" = some (.type "super"))
    (hlim : s.heap.NoLimit) (hnx : K.lookup x = none) (hx : s.heap.get? x = some (excO C t0)) (hroom : A.depth < recursionLimit)
    (hq : ∀ h' tk dx t1, InitLeft s.heap h' x C dx t1 v → R (.ok (.ret .none)) { s with heap := h', toks := tk }) :
    codeAny (model prog w) A (.call (.ref fI) ⟨.ref x :: ps, kw⟩) R s := by
  obtain ⟨n, q, N, bss, sn, sub, ab, col, dd, k0, k1, k2, k3, k5, hC⟩ := T.cls
  obtain ⟨bm, ebm⟩ : ∃ bm, bm = (Value.ref L :: HandSPX.veTail) := ⟨_, rfl⟩
  rw [← ebm] at hC
  have hbm : refsVE bm = true := by rw [ebm]; rfl
  have hal := TL.along
  rw [← ebm] at hal
  obtain ⟨f2, e2, tI, oc, od, doc, pm, an, cc, cda, ct, osl, ho, hcd, ⟨cl, cd, vs, cs, tf, hco, hvs⟩, cl2, cd2, cs2, hce⟩ := T.init
  rw [hfI] at e2
  obtain rfl : fI = f2 := Value.ref.inj (Option.some.inj (Option.some.inj e2))
  obtain ⟨a1, a2, eA⟩ := T.tA
  obtain ⟨msg, p0, p1, p2, p3, p4, p5, q1, q2, q3, q4, eB, hsc⟩ := T.tB
  rw [eA, eB, T.tS] at ho
  have hcl : PySem.W.clsIn K C = some { name := n, bases := bss, mro := .ref C :: bm, ns := N, qualname := q, hasDict := true, slotNames := sn, subclasses := sub, abstract := ab, collection := col, hasDel := false } := by
    unfold PySem.W.clsIn; rw [hC] <;> rfl
  have hcC : (Value.ref C :: bm).contains (.ref C) = true := by simp
  have hbase : ∀ Y : String, bm.contains (.type Y) = HandSPX.veTail.contains (.type Y) := fun Y => refsVE_contains Y bm hbm
  refine ks_codeAny_call_defAt (fd := PySem.W.fnX "__init__" qual (inA a1 a2) (inB msg p0 p1 p2 p3 p4 p5 q1 q2 q3 q4) inS [("__class__", cc)] .none .none doc pm an (.ref cda) ct) (body := inB msg p0 p1 p2 p3 p4 p5 q1 q2 q3 q4)
    (binds := [("self", .ref x), ("value", v)]) hroom (X _ _ ho) rfl hlim (PySem.W.codeRec_of X hcd) rfl ?_ (show ∀ y ∈ inS.names, y.2 ≠ .cell by decide) (by intro y hy; simp only [List.mem_cons, List.not_mem_nil, or_false] at hy; rcases hy with rfl | rfl <;> rfl) (fun h1 hns hk => ?_) rfl rfl rfl
  · cases hv with
    | pos => exact .of_eq (by first | rfl | with_unfolding_all rfl)
    | kw => exact .of_eq (by first | rfl | with_unfolding_all rfl)
  have X1 : K.In h1 := X.keeps hk
  have hx1 := hk _ _ hx
  have hC1 := X1 _ _ hC
  have hxC : x ≠ C := fun z => by
    rw [z] at hx1
    rw [hC1] at hx1
    cases hx1
  have hL : s.heap.objs.size ≠ x := Nat.ne_of_gt (Heap.lt_size hx)
  obtain ⟨pl, hpl⟩ := hsc (callEnv (PySem.W.fnX "__init__" qual (inA a1 a2) (inB msg p0 p1 p2 p3 p4 p5 q1 q2 q3 q4) inS [("__class__", cc)] .none .none doc pm an (.ref cda) ct) s.heap.objs.size fI)
  refine ks_wpAt_execs_cons (ks_wpAt_Expr_any (ks_wpAt_MethodCall (pl := pl) ?_ hpl))
  refine ks_wpAt_super_base (env := callEnv (PySem.W.fnX "__init__" qual (inA a1 a2) (inB msg p0 p1 p2 p3 p4 p5 q1 q2 q3 q4) inS [("__class__", cc)] .none .none doc pm an (.ref cda) ct) s.heap.objs.size fI) rfl rfl rfl rfl (X1 _ _ ho) rfl rfl rfl (X1 _ _ hco) rfl hvs (by simp) htop ?_
  refine PySem.W.ks_loadName_global rfl rfl (Calls.loadGlobal_builtin (mg := mg) (mb := mb) ?_ gs ?_ bs ⟨rfl, ?_⟩)
  · obtain ⟨o, es, ep, e, r⟩ := G
    exact ⟨o, es, ep, hk _ _ e, r⟩
  · obtain ⟨o, es, ep, e, r⟩ := B
    exact ⟨o, es, ep, hk _ _ e, r⟩
  refine wpAny_loadName_free rfl rfl (c := cc) rfl ⟨_, X1 _ _ hce, rfl⟩ ?_
  refine wpAny_loadName_local (m := fun y => ([("self", .ref x), ("value", v)] : List (Str × Value)).reverse.lookup y) rfl rfl hns rfl ?_
  refine ks_wpAny_isType_cls hC1 rfl ⟨rfl, ?_⟩
  refine ks_wpAny_call_super (C := C) hC1 rfl hx1 rfl (fun c e => by cases e) (PySem.W.looks_mroIn X1 (by unfold PySem.W.mroIn; rw [hcl, Option.bind_some, if_neg (by simp), hcC])) (fun h2 hso k2' => ?_)
  have X2 : K.In h2 := X1.keeps k2'
  have hx2 := k2' _ _ hx1
  have I2 : PySem.W.InstAt h2 x (excO C t0) C none := ⟨hx2, rfl, rfl, trivial⟩
  refine PySem.W.kxs_getMethod PySem.W.kxs_ValueError hso (PySem.W.looks_opaque X2 TL.opq) (l₀ := .ref C :: bm) (l := bm) (fun A' Q' E' s' k' q' => wpAny_bind ((PySem.W.looks_clsIn X2 hcl) A' _ E' s' k' (wpAny_pure q')))
    (by simp [List.dropWhile_cons]) X2 hal (I2.type.andThen (PySem.W.looks_mroIn X2 ((T.under _).trans (by rfl)))) hxC (by decide) ?_
  have k3 : ∀ b o, h2.get? b = some o → (h2.push (PySem.W.kxs_mw "ValueError.__init__" x)).get? b = some o := fun b o e => Heap.get?_push_of_some _ e
  have hu : (h2.push (PySem.W.kxs_mw "ValueError.__init__" x)).get? h2.objs.size = some (PySem.W.kxs_mw "ValueError.__init__" x) := Heap.get?_push_at rfl rfl
  refine PySem.W.kxs_callWith (i := "ValueError.__init__") (x := x) (by rfl) ?_
  refine Calls.evalArgs_plain ?_
  refine Calls.spliced_cons (wpAny_Constant_str (k := 0) (pos := p3) (Calls.spliced_nil ⟨hu, ?_⟩))
  have hone : ([.str msg s.toks] : List Value).length ≤ sizeLine := by rw [sizeLine_eq]; exact (by decide : 1 ≤ 16777216)
  refine wpAny_call (codeAny_of_tree ?_)
  show wpAny _ _ (callAny (.ref h2.objs.size) _) _ _ _
  simp only [callAny]
  refine wpAny_bind (wpAny_load hu ?_)
  simp only [PySem.W.kxs_mw, show (Value.type "method-wrapper" == Value.type "method" || Value.type "method-wrapper" == Value.type "builtin_function_or_method" || Value.type "method-wrapper" == Value.type "method-wrapper") = true by decide, if_true]
  refine PySem.W.KFB.if_so (by decide) ?_
  refine wpAny_bind (PySem.W.check_bound_init F.excBase_ValueError.toExcCallFacts (k3 _ _ (k2' _ _ hC1)) (k3 _ _ hx2) rfl ?_)
  refine wpAny_bind (wpAny_pure (wpAny_pure ?_))
  refine ⟨plainId_quiet F.excBase_ValueError.init.plain _, codeAny_builtin F.excBase_ValueError.initEntry ?_⟩
  refine PySem.W.exc_init_tree (cls := .ref C) (t0 := t0) (dv := none) (c2 := .none) (c3 := .none) (b4 := .bool false) (k3 _ _ hx2) (by rw [sizeLine_eq]; exact (by decide : 1 ≤ 16777216)) (fun h3 k4 hx3 _ => ?_)
  show wpAt _ _ _ (execs _ _) _ _ _
  have keep3 : ∀ b o, b ≠ x → h1.get? b = some o → h3.get? b = some o := fun b o hb e => k4 b o hb (k3 _ _ (k2' _ _ e))
  have hns3 : h3.Ns s.heap.objs.size (fun y => ([("self", .ref x), ("value", v)] : List (Str × Value)).reverse.lookup y) := by
    obtain ⟨o, es, ep, e, r⟩ := hns
    exact ⟨o, es, ep, keep3 _ _ hL e, r⟩
  have X3 : K.In h3 := fun a o e => keep3 a o (fun z => by
    rw [z, hnx] at e
    cases e) (X1 a o e)
  refine ks_wpAt_execs_cons (ks_wpAt_Assign_Attr ?_)
  refine wpAt_of_wpAny (wpAny_Name (wpAny_loadName_local rfl rfl hns3 rfl ?_))
  refine wpAny_Name (wpAny_loadName_local rfl rfl hns3 rfl ?_)
  refine PySem.W.set_plain X3 (ox := excO C _) (od := none) ⟨hx3, rfl, rfl, trivial⟩ T.sa ?_
  refine exc_osa X3 hx3 hcl (show refsVE (.ref C :: bm) = true from hbm) rfl T.nv (fun h4 tk4 dx k5 dn dne hx4 hn4 => ?_)
  refine wpAt_of_wpAny (wpAny_pure ?_)
  refine hq h4 tk4 dx _ ⟨fun b o hb e => k5 b o hb (keep3 b o hb (hk b o e)), hx4, Nat.le_trans (Nat.le_of_lt hns3.lt) dn, dne, hn4⟩
end
end Lx
namespace Lx
open PySem PySem.HandSPX
/-- a made error, at e, its own dict at d -/
structure ErrMade (h h' : Heap) (e C d : Addr) (v : Value) : Prop where
  keep : ∀ b o, h.get? b = some o → h'.get? b = some o
  ebig : h.objs.size ≤ e
  obj : ∃ t1 : Addr, h'.get? e = some { cls := .ref C, dict := some d, data := .fields #[.ref t1, .none, .none, .none, .bool false, .none] }
  dbig : h.objs.size ≤ d
  ne : d ≠ e
  ns : h'.Ns1 d (fun y => if y = "value" then some v else none)
section
variable {prog : Program} {w : World} {A : Around} {R : Result → Shared → Prop} {s : Shared}
variable {K : PySem.W.Frag} {mg mb : Str → Option Value} {nm qual : Str} {st : Stmt} {C L : Addr}
theorem errMade (TL : LineC K mg L) (T : ErrC K prog.main.file mg L nm qual st C) {v : Value} {ps : List Value} {kw : List (Str × Value)} (hv : Hands v ps kw) (htop : (prog.main.scope.names.lookup ("super" : Str)).isSome = false)
    (X : K.In s.heap) (G : s.heap.Ns mainGlobals mg) (gs : mg "super" = none) (B : s.heap.Ns builtinsNs mb) (bs : mb "super" = some (.type "super")) (hlim : s.heap.NoLimit) (hroom : A.depth + 1 < recursionLimit)
    (hq : ∀ h' tk e d, ErrMade s.heap h' e C d v → R (.ok (.ret (.ref e))) { s with heap := h', toks := tk }) : codeAny (model prog w) A (.call (.ref C) ⟨ps, kw⟩) R s := by
  obtain ⟨n, q, N, bss, sn, sub, ab, col, dd, k0, k1, k2, k3, k5, hC⟩ := T.cls
  obtain ⟨fI, iC, tI, _⟩ := T.init
  obtain ⟨hp, g, dr, tk, os⟩ := s
  have kp : ∀ b o, hp.get? b = some o → ((hp.push (W.kdv_tup ps)).push (excO C hp.objs.size)).get? b = some o := fun b o e => Heap.get?_push_of_some _ (Heap.get?_push_of_some _ e)
  have hget : ((hp.push (W.kdv_tup ps)).push (excO C hp.objs.size)).get? (hp.objs.size + 1) = some (excO C hp.objs.size) := by heap_get
  have hnx : K.lookup (hp.objs.size + 1) = none := by
    cases e : K.lookup (hp.objs.size + 1) with
    | none => rfl
    | some o =>
      have z : hp.get? (hp.objs.size + 1) = some o := X _ _ e
      exact absurd (Nat.lt_of_succ_lt (Heap.lt_size z)) (Nat.lt_irrefl _)
  have hl : ps.length ≤ sizeLine := by
    cases hv with
    | pos => rw [sizeLine_eq]; exact (by decide : 1 ≤ 16777216)
    | kw => exact Nat.zero_le _
  refine clsCalls F.excBase_ValueError (fun Y => refsVE_contains Y (.ref L :: HandSPX.veTail) (by rfl)) (X _ _ hC) (W.looks_findIn X iC) (fun self => W.bind_fn X self tI) hl ?_
  refine initRuns (s := ⟨(hp.push (W.kdv_tup ps)).push (excO C hp.objs.size), g, dr, tk, os⟩) TL T hv htop iC (X.keeps kp) ?_ gs ?_ bs (hlim.keeps kp) hnx hget ?_ fun h' tk' dx t1 I => ?_
  · obtain ⟨o, es, ep, e, r⟩ := G
    exact ⟨o, es, ep, kp _ _ e, r⟩
  · obtain ⟨o, es, ep, e, r⟩ := B
    exact ⟨o, es, ep, kp _ _ e, r⟩
  · show A.depth + 1 < recursionLimit
    exact hroom
  · have z : hp.objs.size + 1 + 1 ≤ dx := by
      first
        | (simpa only [Heap.size_push] using I.big)
        | (have q := I.big; rw [Heap.size_push, Heap.size_push] at q; exact q)
    refine ⟨rfl, hq h' tk' (hp.objs.size + 1) dx ⟨fun b o e => I.keep b o (Nat.ne_of_lt (Nat.lt_succ_of_lt (Heap.lt_size e))) (kp b o e), Nat.le_succ _, ⟨t1, I.obj⟩, (show hp.objs.size ≤ dx by omega), I.ne, I.ns⟩⟩
end
end Lx
namespace Lx
open PySem PySem.Spec L2
/-- at e: an error of the class at C, its own dict at d -/
def errO (e C d : Addr) : HO := .ext fun h => ∃ t1 : Addr, h.get? e = some ({ cls := .ref C, dict := some d, data := .fields #[.ref t1, .none, .none, .none, .bool false, .none] } : Obj)
theorem errO_ok {P : Program} {w : World} {H : Hp} {h : Heap} {e C d t1 : Addr} (he : h.get? e = some ({ cls := .ref C, dict := some d, data := .fields #[.ref t1, .none, .none, .none, .bool false, .none] } : Obj)) : ObjOk P w H h e (errO e C d) :=
  ⟨⟨t1, he⟩, ⟨_, he⟩, fun _ _ ⟨t, q⟩ k => ⟨t, k _ q⟩⟩
theorem errO_at {P : Program} {w : World} {H : Hp} {h : Heap} {e C d : Addr} (hok : HOk P w H h) (he : H e = some (errO e C d)) : ∃ t1 : Addr, h.get? e = some ({ cls := .ref C, dict := some d, data := .fields #[.ref t1, .none, .none, .none, .bool false, .none] } : Obj) := by
  have x : ObjOk P w H h e (.ext fun h => ∃ t1 : Addr, h.get? e = some ({ cls := .ref C, dict := some d, data := .fields #[.ref t1, .none, .none, .none, .bool false, .none] } : Obj)) := hok e _ he
  exact x.1
/-- the fields of a made error -/
abbrev vf (v : V) : List (Str × V) := [(("value" : Str), v)]
theorem relO_vf {v : V} {u : Value} (r : RelV v u) (f : Str) : RelO (List.lookup f (vf v)) (if f = "value" then some u else none) := by
  by_cases hw : f = "value"
  · subst hw
    rw [if_pos rfl]
    have q : List.lookup ("value" : Str) (vf v) = some v := by simp [List.lookup]
    rw [q]
    exact r
  · rw [if_neg hw]
    have qw : (f == ("value" : Str)) = false := by simpa using hw
    have q2 : List.lookup f (vf v) = none := by simp [List.lookup, qw]
    rw [q2]
    trivial
section
variable {X : Cx} {pins : List (Addr × Obj)} {σ : St} {H : Hp} {s : Shared}
/-- two new objects laid at once -/
theorem laid2 {h' : Heap} {d e : Addr} {o1 o2 : HO} {t' : Nat} (I : Inv X pins σ H s) (k : ∀ b u, s.heap.get? b = some u → h'.get? b = some u) (hd : s.heap.objs.size ≤ d) (he : s.heap.objs.size ≤ e)
    (ok1 : ObjOk X.prog X.w (upd (upd H d o1) e o2) h' d o1) (ok2 : ObjOk X.prog X.w (upd (upd H d o1) e o2) h' e o2) : Inv X pins σ (upd (upd H d o1) e o2) { s with heap := h', toks := t' } := by
  have nd : H d = none := I.hok.fresh hd
  have ne : H e = none := I.hok.fresh he
  have old : ∀ b o, H b = some o → upd (upd H d o1) e o2 b = some o := fun b o q => by
    rw [upd_ne (ne_of_none q ne), upd_ne (ne_of_none q nd)]
    exact q
  have lt : ∀ (b : Addr) (o : Obj), s.heap.get? b = some o → b ≠ d ∧ b ≠ e := fun b o q => ⟨Nat.ne_of_lt (Nat.lt_of_lt_of_le (Heap.lt_size q) hd), Nat.ne_of_lt (Nat.lt_of_lt_of_le (Heap.lt_size q) he)⟩
  refine I.un (t' := t') ⟨fun b o q _ _ _ => k b o q, fun b o q _ _ _ => ⟨o.slots, k b o q⟩, fun b o q n _ => ?_, fun b o q _ => ⟨o, k b o q⟩, fun b xs q => old _ _ q, fun b o u q => old _ _ q, fun b ps q => ⟨#[], by rw [old _ _ q]; simp⟩⟩ fun b o q => ?_
  · rw [upd_ne (lt b o q).2, upd_ne (lt b o q).1]
    exact n
  · by_cases h1 : b = e
    · subst h1
      rw [upd_same] at q
      cases q
      exact ok2
    · rw [upd_ne h1] at q
      by_cases h2 : b = d
      · subst h2
        rw [upd_same] at q
        cases q
        exact ok1
      · rw [upd_ne h2] at q
        exact (I.hok b o q).stay (fun c v _ z => k c v z) (fun c z => old _ _ z) fun c xs z => old _ _ z
end
/-- C(e), C(value=e): a new error and its dict -/
def tErr (C : Addr) (ta : TE) : TE := fun σ H Q => ta σ H fun v H1 => ∀ d e : Addr, H1 d = none → H1 e = none → d ≠ e → Q (.ref e) (upd (upd H1 d (.xd (vf v))) e (errO e C d))
/-- raise C(e) -/
def tErrR (C : Addr) (ta : TE) : St → Hp → XK → Prop := fun σ H Q => ta σ H fun v H1 => ∀ d : Addr, H1 d = none → Q (.ref C) (some d) (upd H1 d (.xd (vf v)))
section
variable {X : Cx} {C L : Addr} {nm qual : Str} {st : Stmt} {a : Expr} {ta : TE} {p pos kpos : Pos} {k : Nat}
theorem callErr {pins : List (Addr × Obj)} {σ : St} {H : Hp} {s : Shared} {R : Value → Shared → Prop} {E : Value → Shared → Prop} (TL : LineC X.K X.mg L) (T : ErrC X.K X.prog.main.file X.mg L nm qual st C) (hr : Room k X.A) (htop : (X.prog.main.scope.names.lookup ("super" : Str)).isSome = false) (gs : X.mg "super" = none)
    {v : Value} {ps : List Value} {kw : List (Str × Value)} (hv : Hands v ps kw) (I : Inv X pins σ H s)
    (hq : ∀ h' tk e d, ErrMade s.heap h' e C d v → R (.ref e) { s with heap := h', toks := tk }) : wpAny (model X.prog X.w) X.A (call (.ref C) ps kw) R E s := by
  obtain ⟨mb, hB, hb⟩ := I.mod.blt
  refine wpAny_call (errMade TL T hv htop I.kIn (I.mod.glob.keeps I.bk) gs (hB.keeps I.bk) ((hb _ (by decide)).trans (by decide +kernel)) I.nolimit (by have := hr.dp; omega) fun h' tk e d M => hq h' tk e d M)
theorem errEP {pins : List (Addr × Obj)} {σ : St} {H : Hp} {s : Shared} {h' : Heap} {tk : Nat} {e d : Addr} {v : V} {u : Value} {Q : VK} (I : Inv X pins σ H s) (r : RelV v u) (M : ErrMade s.heap h' e C d u)
    (q : ∀ d e : Addr, H d = none → H e = none → d ≠ e → Q (.ref e) (upd (upd H d (.xd (vf v))) e (errO e C d))) : EP X pins σ Q (.ref e) { s with heap := h', toks := tk } := by
  obtain ⟨t1, ho⟩ := M.obj
  exact ⟨.ref e, _, laid2 (o1 := .xd (vf v)) (o2 := errO e C d) I M.keep M.dbig M.ebig ⟨_, M.ns, fun f => relO_vf r f⟩ (errO_ok ho), rfl, q d e (I.hok.fresh M.dbig) (I.hok.fresh M.ebig) M.ne⟩
/-- C(e) as a value -/
theorem pe_err (TL : LineC X.K X.mg L) (T : ErrC X.K X.prog.main.file X.mg L nm qual st C) (hr : Room k X.A) (htop : (X.prog.main.scope.names.lookup ("super" : Str)).isSome = false) (gs : X.mg "super" = none) (hg : Gl X nm) (he : PE X a ta) (hdb : (nm == ("__debug__" : Str)) = false := by decide)
    (hs : starEach [a] X.env = (false, eval a X.env) :: starEach [] X.env := by rfl) (hpl : (backTo pos (starEach [] X.env)).any (·.1) = false := by rfl) : PE X (.Call (.Name nm p) [a] [] pos) (tErr C ta) := by
  refine ⟨fun pins s σ H Q I h => ?_⟩
  refine wpAny_Call_Name_kw (ld_glob I hg T.gC ?_ hdb)
  refine PySem.W.callWith_K (h₀ := X.base) I.ok.mod.kin T.kp ?_ hs hpl
  rw [hs]
  show wpAny _ _ (spliced ((false, eval a X.env) :: backTo pos (starEach [] X.env))) _ _ s
  refine Calls.spliced_cons (thn (he.run pins s σ H _ I h) fun u s1 ⟨v, H1, I1, r1, q1⟩ => ?_)
  refine Calls.spliced_nil ⟨I1.kIn, ?_⟩
  show wpAny _ _ (call (.ref C) [u]) _ _ _
  exact callErr TL T hr htop gs .pos I1 fun h' tk e d M => errEP I1 r1 M q1
/-- C(value=e) as a value -/
theorem pe_errK (TL : LineC X.K X.mg L) (T : ErrC X.K X.prog.main.file X.mg L nm qual st C) (hr : Room k X.A) (htop : (X.prog.main.scope.names.lookup ("super" : Str)).isSome = false) (gs : X.mg "super" = none) (hg : Gl X nm) (he : PE X a ta) (hdb : (nm == ("__debug__" : Str)) = false := by decide)
    (hall : (backToKw pos (keywordEach [⟨some "value", a, kpos⟩] X.env)).all (·.1.isSome) = true := by rfl) (hks : (backToKw pos (keywordEach [⟨some "value", a, kpos⟩] X.env)).filterMap (·.1) = [("value" : Str)] := by rfl)
    (hpl : ((backTo pos (starEach [] X.env)).any (·.1) || (backToKw pos (keywordEach [⟨some "value", a, kpos⟩] X.env)).any (·.1.isNone)) = false := by rfl) : PE X (.Call (.Name nm p) [] [⟨some "value", a, kpos⟩] pos) (tErr C ta) := by
  refine ⟨fun pins s σ H Q I h => ?_⟩
  refine wpAny_Call_Name_kw (ld_glob I hg T.gC ?_ hdb)
  refine PySem.W.callWith_KW0 (h₀ := X.base) I.ok.mod.kin T.kp hall ?_ hpl
  refine thn ((pk_cons he pk_nil).run pos pins s σ H (fun vs H1 => match vs with | [v] => ∀ d e : Addr, H1 d = none → H1 e = none → d ≠ e → Q (.ref e) (upd (upd H1 d (.xd (vf v))) e (errO e C d)) | _ => False) I h) fun us s1 ⟨vs, H1, I1, r1, q1⟩ => ⟨I1.kIn, ?_⟩
  rw [hks]
  cases r1 with
  | nil => exact q1.elim
  | cons rv rn =>
    cases rn with
    | nil => exact callErr TL T hr htop gs .kw I1 fun h' tk e d M => errEP I1 rv M q1
    | cons _ _ => exact q1.elim
/-- raise C(e): what makes the error -/
theorem pmk_err (TL : LineC X.K X.mg L) (T : ErrC X.K X.prog.main.file X.mg L nm qual st C) (hr : Room k X.A) (htop : (X.prog.main.scope.names.lookup ("super" : Str)).isSome = false) (gs : X.mg "super" = none) (hg : Gl X nm) (he : PE X a ta) (hdb : (nm == ("__debug__" : Str)) = false := by decide)
    (hs : starEach [a] X.env = (false, eval a X.env) :: starEach [] X.env := by rfl) (hpl : (backTo pos (starEach [] X.env)).any (·.1) = false := by rfl) : PMk X (.Call (.Name nm p) [a] [] pos) (tErrR C ta) := by
  intro pins s σ H Q I h
  refine wpAny_Call_Name_kw (ld_glob I hg T.gC ?_ hdb)
  refine PySem.W.callWith_K (h₀ := X.base) I.ok.mod.kin T.kp ?_ hs hpl
  rw [hs]
  show wpAny _ _ (spliced ((false, eval a X.env) :: backTo pos (starEach [] X.env))) _ _ s
  refine Calls.spliced_cons (thn (he.run pins s σ H _ I h) fun u s1 ⟨v, H1, I1, r1, q1⟩ => ?_)
  refine Calls.spliced_nil ⟨I1.kIn, ?_⟩
  show wpAny _ _ (call (.ref C) [u]) _ _ _
  refine callErr TL T hr htop gs .pos I1 fun h' tk e d M => ?_
  obtain ⟨t1, hoe⟩ := M.obj
  have hns := M.ns
  obtain ⟨G', g1, g2⟩ := restrict h' fun b => decide (b ≠ e)
  have gk : ∀ b, b ≠ e → G'.get? b = h'.get? b := fun b hb => g1 b (decide_eq_true hb)
  have ge : G'.get? e = none := g2 e (by simp)
  have old : ∀ b o, s1.heap.get? b = some o → G'.get? b = some o := fun b o q => (gk b (Nat.ne_of_lt (Nat.lt_of_lt_of_le (Heap.lt_size q) M.ebig))).trans (M.keep b o q)
  have ob : ObjOk X.prog X.w (upd H1 d (.xd (vf v))) G' d (.xd (vf v)) := ⟨_, hns.at (fun o q => (gk d M.ne).trans q), fun f => relO_vf r1 f⟩
  have J : Inv X pins σ (upd H1 d (.xd (vf v))) { s1 with heap := G', toks := tk } := I1.laid (t' := tk) old M.dbig ob
  have r : Raises X (.ref C) := raises_own ((T.under _).trans (by rfl)) T.ty
  refine ⟨e, _, _, { s1 with heap := G', toks := tk }, _, .ref C, some d, rfl, J, fun b o q => ?_, ge, hoe, ⟨rfl, rfl⟩, rfl, rfl, ?_, rfl, I1.bare, r, q1 d (I1.hok.fresh M.dbig)⟩
  · by_cases hb : b = e
    · have q' : G'.get? b = some o := q
      rw [hb, ge] at q'
      cases q'
    · exact (gk b hb).symm.trans q
  · rw [upd_ne (Ne.symm M.ne)]
    exact I1.hok.fresh M.ebig
/-- the error's class is asked for -/
theorem kitErr (TL : LineC X.K X.mg L) (T : ErrC X.K X.prog.main.file X.mg L nm qual st C) {x : Addr} {ox : Obj} {od : Option Obj} : PySem.W.KitX X.K (.ref x) (.ref C) (fun h => PySem.W.InstAt h x ox C od) := by
  obtain ⟨cd, e1, e2, e3⟩ := T.chain
  exact PySem.W.kitx_exc (by rw [e1]; rfl) T.ga T.gg ((T.under _).trans (by rfl)) T.ca TL.sp TL.tk ((T.under _).trans (by rfl))
/-- isinstance(e, c), e a made error, c a class of the program (at D) or a built-in one -/
def rIsErr (K : PySem.W.Frag) : List V → Hp → VK → Prop := fun xs H Q => ∃ (e C d : Addr) (v : V) (c : V) (u : Value) (b : Bool), xs = [.ref e, c] ∧ H e = some (errO e C d) ∧ H d = some (.xd (vf v)) ∧ ClsV c u ∧ PySem.W.kitOne K (.ref C) u = some b ∧
  (∃ (file : Str) (mg : Str → Option Value) (L : Addr) (nm qual : Str) (st : Stmt), LineC K mg L ∧ ErrC K file mg L nm qual st C) ∧ Q (.bl b) H
theorem call_isErr : CallR X (.builtin "isinstance") (rIsErr X.K) := by
  intro pins s σ H xs us Q I r h
  obtain ⟨e, C', d, v, c, u, b, rfl, he, hd, hc, hk, ⟨file, mg, L', nm', qual', st', TL, T⟩, q⟩ := h
  obtain ⟨u1, u2, rfl, r1, r2⟩ := vals2 r
  obtain rfl : u1 = Value.ref e := r1
  have e2 := hc.eq r2
  subst e2
  obtain ⟨t1, ho⟩ := errO_at I.hok he
  obtain ⟨mA, hns, _⟩ := (show ∃ mA, s.heap.Ns1 d mA ∧ ∀ f, RelO ((vf v).lookup f) (mA f) from I.hok d _ hd)
  obtain ⟨od, hod, _⟩ := lookIn_ns hns
  obtain ⟨cd, q1, q2, q3⟩ := T.chain
  have Z : PySem.W.KitX X.K (.ref e) (.ref C') (fun h => PySem.W.InstAt h e { cls := .ref C', dict := some d, data := .fields #[.ref t1, .none, .none, .none, .bool false, .none] } C' (some od)) :=
    PySem.W.kitx_exc (by rw [q1]; rfl) T.ga T.gg ((T.under _).trans (by rfl)) T.ca TL.sp TL.tk ((T.under _).trans (by rfl))
  exact PySem.W.kia_one Z I.kIn ⟨ho, rfl, rfl, hod⟩ hk (fun z => nomatch z) fun tk => ⟨.bl b, H, I.tok tk, rfl, q⟩
/-- e.value, e a made error -/
def tErrV (K : PySem.W.Frag) (te : TE) : TE := fun σ H Q => te σ H fun x H1 => ∃ (e C d : Addr) (v : V), x = .ref e ∧ H1 e = some (errO e C d) ∧ H1 d = some (.xd (vf v)) ∧
  (∃ (file : Str) (mg : Str → Option Value) (L : Addr) (nm qual : Str) (st : Stmt), LineC K mg L ∧ ErrC K file mg L nm qual st C) ∧ Q v H1
theorem pe_errV {e : Expr} {te : TE} (he : PE X e te) (hb : attributeBase e "value" X.env (eval e X.env) = eval e X.env := by rfl) : PE X (.Attribute e "value" pos) (tErrV X.K te) := by
  refine ⟨fun pins s σ H Q I h => ?_⟩
  refine attr_of hb (thn (he.run pins s σ H _ I h) fun u s1 hh => ?_)
  obtain ⟨x, H1, I1, rx, e', C', d, v, ex, hoe, hd, ⟨file, mg, L', nm', qual', st', TL, T⟩, q⟩ := hh
  subst ex
  obtain rfl : u = Value.ref e' := rx
  obtain ⟨t1, ho⟩ := errO_at I1.hok hoe
  obtain ⟨mA, hns, hr⟩ := (show ∃ mA, s1.heap.Ns1 d mA ∧ ∀ f, RelO ((vf v).lookup f) (mA f) from I1.hok d _ hd)
  obtain ⟨od, hod, hl⟩ := lookIn_ns hns
  have l : List.lookup ("value" : Str) (vf v) = some v := by simp [List.lookup]
  obtain ⟨u, hu, ru⟩ := RelO.some_of (v := v) (o := mA "value") (by rw [← l]; exact hr "value")
  have J : PySem.W.InstAt s1.heap e' { cls := .ref C', dict := some d, data := .fields #[.ref t1, .none, .none, .none, .bool false, .none] } C' (some od) := ⟨ho, rfl, rfl, hod⟩
  obtain ⟨cd, q1, q2, q3⟩ := T.chain
  have hdict : PySem.W.hasDictIn X.K C' = true := by
    unfold PySem.W.hasDictIn
    rw [q1]
    simpa using q3
  exact HandSPX.exc_get I1.kIn J T.ga T.gg ((T.under _).trans (by rfl)) (PySem.W.findObj_own hdict T.nv rfl (by rw [hl, hu])) (handed_of ru) ⟨v, H1, I1.tok _, ru, q⟩
end
end Lx
namespace Lx
open PySem PySem.Spec L2 PyProof.Rows
/-! ### min of a tuple of ints -/
section
variable {prog : Program} {w : World} {A : Around} {E : Value → Shared → Prop} {s : Shared} {l : Addr}
variable {its : List Value} {ns : List Int} {Q : Value → Shared → Prop}
theorem min_rawT (hh : A.handled = none) (hl : s.heap.IsTuple l its.toArray) (hi : IntsAre its ns) (hne : 0 < ns.length)
    (h : ∀ h' tk M t', (∀ b o, s.heap.get? b = some o → h'.get? b = some o) → M ∈ ns → (∀ a, a ∈ ns → M ≤ a) → Q (.int M t') { s with heap := h', toks := tk }) : wpAny (model prog w) A (call (.builtin "min") [.ref l]) Q E s := by
  obtain ⟨xs, e⟩ := hi.allInts.items
  have hn : numsOf (intItems xs).toList = ns := by rw [← e]; exact hi.numsOf
  rw [nums_intItems] at hn
  subst hn
  rw [e] at hl
  have hsz : 0 < xs.size := by simpa using hne
  have hlt : l < s.heap.objs.size := by obtain ⟨_, e, _⟩ := hl; exact Heap.lt_size e
  refine call_min_walk (wpAny_pyIter_tuple hl ?_)
  refine ⟨_, _, _, _, _, _, _, rfl, Walks.tuple (A := A.in1) hh _ l (Nat.ne_of_lt hlt) (intItems xs), ⟨⟨_, Heap.get?_push_size _ rfl, rfl, rfl⟩, hl.at fun o e => Heap.get?_push_of_some _ e⟩, fun b hb => ?_, by simpa [intItems] using hsz, CmpOf.ints_lt (numAt xs) (fun _ _ => intItems_at), fun v h' tk hP hk => ?_⟩
  · show b < (s.heap.push _).objs.size
    rw [Heap.size_push]
    rcases List.mem_cons.mp hb with rfl | hb
    · exact Nat.lt_succ_self _
    · rcases List.mem_cons.mp hb with rfl | hb
      · exact Nat.lt_succ_of_lt hlt
      · cases hb
  · obtain ⟨t, rfl⟩ := intItems_at hP
    obtain ⟨h1, h2⟩ := argBest_lt (numAt xs) (xs.size - 1)
    have hz : (intItems xs).size = xs.size := by simp [intItems]
    refine h h' tk _ t (fun b o e => hk b o (fun hm => Nat.lt_irrefl _ ((List.mem_singleton.mp hm) ▸ Heap.lt_size e)) (Heap.get?_push_of_some _ e)) ?_ fun a ha => ?_
    · rw [numAt_eq]; exact PySem.getD_mem (by rw [List.length_map, Array.length_toList, hz]; omega)
    · obtain ⟨j, hj, rfl⟩ := mem_getD ha
      rw [List.length_map, Array.length_toList] at hj
      rw [← numAt_eq, hz]; exact h2 j (by omega)
end
def rMinT (K : PySem.W.Frag) : List V → Hp → VK → Prop := fun vs H Q => ∃ (a : Addr) (ns : List Int), vs = [V.ref a] ∧ SqT K H a (ns.map V.int) ∧ 0 < ns.length ∧ ∀ m, m ∈ ns → (∀ y, y ∈ ns → m ≤ y) → Q (.int m) H
theorem call_minT {X : Cx} (hc : X.calm = true) : CallR X (.builtin "min") (rMinT X.K) := by
  intro pins s σ H vs us Q I r h
  obtain ⟨a, ns, rfl, hs, hne, q⟩ := h
  obtain ⟨its, rv, hl, _⟩ := I.tuple hs
  rw [Vals.ref1 r]
  exact min_rawT (I.ok.hd hc) (by obtain ⟨o, h1, h2, n, h3⟩ := hl; exact ⟨o, h1, h2, n, h3⟩) rv.ints hne fun h' tk m t' hk h1 h2 => ⟨.int _, H, I.kept hk, ⟨_, rfl⟩, q m h1 h2⟩
/-! ### get of a written dict -/
def tKGet (K : PySem.W.Frag) (w : World) (td ty : TE) : TE := fun σ H Q => td σ H fun x H1 => ∃ a es n, x = .ref a ∧ KDict K w a es n ∧ ty σ H1 fun y H2 => ∃ (z : Str) (r : Option Value) (v : V), y = .str z ∧ PySem.W.nsIn K a z = some r ∧ RelV v (r.getD .none) ∧ Q v H2
theorem pe_kget {X : Cx} {o e : Expr} {apos cpos : Pos} {td ty : TE} (ho : PE X o td) (he : PE X e ty) (m : M1 X o "get" apos e cpos) : PE X (.Call (.Attribute o "get" apos) [e] [] cpos) (tKGet X.K X.w td ty) := by
  refine ⟨fun pins s σ H Q I h => ?_⟩
  refine wpAny_Call_method m.base m.few m.line PySem.F.plainAttrs_dict PySem.F.slot_dict_get PySem.F.type_dict_get (thn (ho.run pins s σ H _ I h) fun u s1 ⟨x, H1, I1, rx, a, es, n, ex, D, q1⟩ => ?_)
  subst ex
  obtain rfl : u = Value.ref a := rx
  have hm1 := PySem.W.mapOf_K (prog := X.prog) (w := X.w) I1.kIn D.at_ D.lit
  refine ⟨hm1.typeIs, fun b q => ?_, ?_⟩
  · cases q
    exact ⟨_, I1.kIn _ _ D.at_, rfl⟩
  rw [m.trees]
  refine Calls.callWith_builtin rfl (Calls.evalArgs_plain (Calls.spliced_cons (thn (he.run pins s1 σ H1 _ I1 q1) fun iv s2 ⟨y, H2, I2, ry, z, r, v, ey, e, rv, q2⟩ => Calls.spliced_nil ?_)))
  subst ey
  obtain ⟨t, rfl⟩ := ry
  have hm2 := PySem.W.mapOf_K (prog := X.prog) (w := X.w) I2.kIn D.at_ D.lit
  refine call_meetsIn PySem.F.slot_dict_get hm2.typeIs PySem.F.entry_dict_get (PySem.F.args_dict_get_2 _ _) (meets_dict_get (strKind X.prog X.w) a (strKind_is X.prog X.w z t) D.low) ⟨_, hm2, ?_⟩
  rw [PySem.W.find_K D.at_ e]
  exact ⟨v, H2, I2.tok _, rv, q2⟩
end Lx
namespace Lx
open PySem PySem.Spec L2
/-! ### enumerate(text) -/
/-- each sign of x with its place, in a new pair -/
def Itx (x : Str) : It :=
  ⟨fun i _ => i < x.cps.size, fun i H v H' => ∃ T c, v = .ref T ∧ H T = none ∧ H' = upd H T (.tup [.int (i : Nat), .str ⟨#[c]⟩]) ∧ x.cps[i]? = some c, fun i _ => x.cps.size ≤ i⟩
theorem turn_enumS {P : Program} {w : World} {K : PySem.W.Frag} {elts : List Expr} {kk : Nat} {tpos : Pos} (x : Str) (t : Tok) (e it : Addr) :
    Turn P w K (.Tuple elts kk tpos) (Itx x) [e, it] e (fun i h => (∃ old, IsEnum h e it ((i : Nat) : Int) old) ∧ h.IsStrIter it (strIterType x) x t i ∧ e ≠ it ∧ i ≤ x.cps.size) where
  mem := by simp
  obj := fun i h st b hb => by
    obtain ⟨⟨old, he⟩, ⟨o, ho, hc, hd⟩, _, _⟩ := st
    have e' : b = e ∨ b = it := by simpa using hb
    rcases e' with z | z
    · rw [z]; exact ⟨_, he, fun v q => nomatch q⟩
    · rw [z]; exact ⟨o, ho, fun v q => by rw [hd] at q; cases q⟩
  keep := fun i h h' st k => by
    obtain ⟨⟨old, he⟩, ⟨o, ho, r⟩, hne, hle⟩ := st
    exact ⟨⟨old, k e (by simp) _ he⟩, ⟨o, k it (by simp) o ho, r⟩, hne, hle⟩
  item := by
    intro X hP hw hK hc i pins s σ H E I hf st hg
    subst hP hw hK
    obtain ⟨⟨old, he⟩, hit, hne, hle⟩ := st
    have hlt : i < x.cps.size := hg
    have hel : e < s.heap.objs.size := Heap.lt_size he
    have hil : it < s.heap.objs.size := by obtain ⟨_, q, _⟩ := hit; exact Heap.lt_size q
    refine wpAny_pyNext_enum_itemD (Draws.text (A := X.A.in1) (I.ok.hd hc) it x t) he hit hlt hne (by simpa using hne) fun u h' tk hP ho hit' hT hsz hk => ?_
    obtain ⟨c, tc, hcx, rfl⟩ := hP
    refine ⟨_, rfl, wpAny_letOwnedTupleGo_enum (s := { s with heap := h', toks := tk + 1 }) ho fun h'' he' sb => ?_⟩
    have hT2 : h''.get? s.heap.objs.size = some { cls := .type "tuple", data := .seq #[.int i tk, .str ⟨#[c]⟩ tc] } := (sb.2 _ (Nat.ne_of_gt hel)).trans hT
    have new : ObjOk X.prog X.w (upd H s.heap.objs.size (.tup [.int (i : Nat), .str ⟨#[c]⟩])) h'' s.heap.objs.size (.tup [.int (i : Nat), .str ⟨#[c]⟩]) :=
      ⟨by show 2 ≤ sizeLine; decide, [.int i tk, .str ⟨#[c]⟩ tc], .cons ⟨_, rfl⟩ (.cons ⟨_, rfl⟩ .nil), ⟨_, hT2, rfl, _, rfl⟩⟩
    have I1 : Inv X pins σ (upd H s.heap.objs.size (.tup [.int (i : Nat), .str ⟨#[c]⟩])) { s with heap := h'', toks := tk + 1 } :=
      I.turnedNew (ch := [e, it]) (fun b ob hb q => (sb.2 b (fun z => hb (by simp [z]))).trans (hk b ob (fun z => hb (by simp [z])) (fun z => hb (by simp [z])) q)) hf (Nat.le_refl _) new
    refine ⟨.ref s.heap.objs.size, _, I1, rfl, ⟨_, c, rfl, I.hok.fresh (Nat.le_refl _), rfl, hcx⟩, ⟨⟨.str ⟨#[c]⟩ tc, ?_⟩, ?_, hne, hlt⟩, fun b hb => ?_⟩
    · have e1 : ((i + 1 : Nat) : Int) = (i : Int) + 1 := by omega
      rw [e1]; exact he'
    · obtain ⟨o, ho2, r⟩ := hit'
      exact ⟨o, (sb.2 it (Ne.symm hne)).trans ho2, r⟩
    · have hb' : b < s.heap.objs.size := by
        have e' : b = e ∨ b = it := by simpa using hb
        rcases e' with z | z
        · rw [z]; exact hel
        · rw [z]; exact hil
      rw [upd_ne (Nat.ne_of_lt hb')]
      exact (hf b hb).1
  done := by
    intro X hP hw hK hc i pins s σ H E I hf st hg
    subst hP hw hK
    obtain ⟨⟨old, he⟩, hit, hne, hle⟩ := st
    obtain ⟨f0, f1, f2, f3, f4, f5⟩ := hf it (by simp)
    have e1 : i = x.cps.size := Nat.le_antisymm hle hg
    subst e1
    exact wpAny_pyNext_enum_endD (Draws.text (A := X.A.in1) (I.ok.hd hc) it x t) he hit fun h' eb => ⟨rfl, I.turned (t' := s.toks) (fun b o hb q => eb b o hb q) f0 f1 f3 f4 f5⟩
  self := fun A i s Q E st h => let ⟨⟨_, he⟩, _⟩ := st; PySem.wpAny_pyIter_enum he h
def iEnumS (ta : TA) : TI := fun σ H R => ta σ H fun vs H1 => ∃ x, vs = [.str x] ∧ R (Itx x) H1
theorem pi_enumS {X : Cx} {e : Expr} {ta : TA} {p pos tpos : Pos} {elts : List Expr} {kk : Nat} (hg : Gl X "enumerate") (hm : X.mg "enumerate" = none) (ha : PA X [e] ta) (hs : starEach [e] X.env = [(false, eval e X.env)] := by rfl) :
    PI X (.Tuple elts kk tpos) (.Call (.Name "enumerate" p) [e] [] pos) (iEnumS ta) := by
  refine ⟨fun pins s σ H R I h => ?_⟩
  refine PyProof.Rows.Call_ (ld_blt I hg hm PyProof.Rows.boot_enumerate (PyProof.Rows.callWith_type1 (thn (ha.run pos pins s σ H _ I h) fun us s1 ⟨vs, H1, I1, r1, q1⟩ => ?_) hs rfl))
  obtain ⟨x, ex, q⟩ := q1
  subst ex
  cases r1 with
  | cons r rr =>
    cases rr
    obtain ⟨t, rfl⟩ := r
    refine call_enumerate_str fun h' he hit hsz hk => PySem.wpAny_pyIter_enum he ?_
    have I2 : Inv X pins σ H1 { s1 with heap := h' } := I1.kept (t' := s1.toks) hk
    refine ⟨s1.heap.objs.size + 1, [s1.heap.objs.size + 1, s1.heap.objs.size], _, _, H1, rfl, I2, turn_enumS x t (s1.heap.objs.size + 1) s1.heap.objs.size, ⟨⟨.none, he⟩, hit, Nat.succ_ne_self _, Nat.zero_le _⟩, fun b hb => ?_, q⟩
    have e' : b = s1.heap.objs.size + 1 ∨ b = s1.heap.objs.size := by simpa using hb
    have hle : s1.heap.objs.size ≤ b := by
      rcases e' with z | z
      · rw [z]; exact Nat.le_add_right _ _
      · rw [z]; exact Nat.le_refl _
    exact I1.fpOk hle (I1.hok.fresh hle)
theorem walk_enumS {z : Str} : Walk (Itx z) z.cps.size (fun _ => True) (YPair (fun i => some (.int (i : Nat))) (fun i => z.cps[i]?.map fun c => V.str ⟨#[c]⟩)) :=
  ⟨fun _ _ hi _ => hi, fun _ _ => Nat.le_refl _, fun i H v H' _ _ y => by
    obtain ⟨T, c, h1, h2, h3, h4⟩ := y
    exact ⟨T, .int (i : Nat), .str ⟨#[c]⟩, h1, h2, h3, rfl, by simp [h4]⟩⟩
end Lx
namespace Lx
open PySem PySem.Spec L2
/-! ### sizes of numbers -/
def Sm (n : Nat) (x : Int) : Prop := x.natAbs < 2 ^ n
theorem Sm.mono {n m : Nat} {x : Int} (h : Sm n x) (k : n ≤ m) : Sm m x := Nat.lt_of_lt_of_le h (Nat.pow_le_pow_right (by decide) k)
theorem Sm.add {n : Nat} {x y : Int} (h : Sm n x) (k : Sm n y) : Sm (n + 1) (x + y) := by
  unfold Sm at *
  have := Nat.pow_succ 2 n
  omega
theorem Sm.mul {n m : Nat} {x y : Int} (h : Sm n x) (k : Sm m y) : Sm (n + m) (x * y) := by
  unfold Sm at *
  rw [Int.natAbs_mul, Nat.pow_add]
  exact Nat.mul_lt_mul'' h k
theorem Sm.of_le {n : Nat} {x y : Int} (h0 : 0 ≤ x) (h1 : x ≤ y) (k : Sm n y) : Sm n x := by
  unfold Sm at *
  omega
/-! ### forms -/
inductive Fm
  | keep (b a : Int)
  | lf (b a k c : Int)
  | cr (b a k : Int)
namespace Fm
def vs : Fm → List V
  | keep b a => [.str "keep", .int b, .int a]
  | lf b a k c => [.str "lf", .int b, .int a, .int k, .int c]
  | cr b a k => [.str "cr", .int b, .int a, .int k]
def nm : Fm → Str
  | keep _ _ => "keep"
  | lf _ _ _ _ => "lf"
  | cr _ _ _ => "cr"
def b : Fm → Int
  | keep b _ => b
  | lf b _ _ _ => b
  | cr b _ _ => b
def a : Fm → Int
  | keep _ a => a
  | lf _ a _ _ => a
  | cr _ a _ => a
/-- the number of ^ in front of a break with j of them -/
def after (f : Fm) (j : Int) : Int := (if j - f.b > 0 then j - f.b else 0) + f.a
def ahead (b' a' : Int) : Fm → Fm
  | keep _ _ => keep b' a'
  | lf _ _ k c => lf b' a' k c
  | cr _ _ k => cr b' a' k
def both : Fm → Fm → Fm
  | keep b a, g => ahead (b + (if g.b - a > 0 then g.b - a else 0)) ((if a - g.b > 0 then a - g.b else 0) + g.a) g
  | lf b a k c, keep b' a' => lf b a k (after (keep b' a') c)
  | cr b a k, keep _ _ => cr b a k
  | lf b a k c, lf b' a' k' c' => lf b a (k * (after (lf b' a' k' c') c + 1) * k') c'
  | lf b a k c, cr b' a' k' => cr b a (k * (after (cr b' a' k') c + 1) * k')
  | cr b a k, lf _ _ k' c' => lf b a (k * 1 * k') c'
  | cr b a k, cr _ _ k' => cr b a (k * 1 * k')
/-- a form, its numbers below 2 ^ n -/
def Ok (n : Nat) : Fm → Prop
  | keep b a => 0 ≤ b ∧ 0 ≤ a ∧ Sm n b ∧ Sm n a
  | lf b a k c => 0 ≤ b ∧ 0 ≤ a ∧ 0 < k ∧ 0 ≤ c ∧ Sm n b ∧ Sm n a ∧ Sm n k ∧ Sm n c
  | cr b a k => 0 ≤ b ∧ 0 ≤ a ∧ 0 < k ∧ Sm n b ∧ Sm n a ∧ Sm n k
def nums : Fm → List Int
  | keep b a => [b, a]
  | lf b a k c => [b, a, k, c]
  | cr b a k => [b, a, k]
theorem Ok.mono {n m : Nat} (h : n ≤ m) : ∀ {f : Fm}, Ok n f → Ok m f
  | keep _ _, ⟨h1, h2, h3, h4⟩ => ⟨h1, h2, h3.mono h, h4.mono h⟩
  | lf _ _ _ _, ⟨h1, h2, h3, h4, h5, h6, h7, h8⟩ => ⟨h1, h2, h3, h4, h5.mono h, h6.mono h, h7.mono h, h8.mono h⟩
  | cr _ _ _, ⟨h1, h2, h3, h4, h5, h6⟩ => ⟨h1, h2, h3, h4.mono h, h5.mono h, h6.mono h⟩
theorem Ok.b0 {n : Nat} : ∀ {f : Fm}, Ok n f → 0 ≤ f.b ∧ Sm n f.b
  | keep _ _, h => ⟨h.1, h.2.2.1⟩
  | lf _ _ _ _, h => ⟨h.1, h.2.2.2.2.1⟩
  | cr _ _ _, h => ⟨h.1, h.2.2.2.1⟩
theorem Ok.a0 {n : Nat} : ∀ {f : Fm}, Ok n f → 0 ≤ f.a ∧ Sm n f.a
  | keep _ _, h => ⟨h.2.1, h.2.2.2⟩
  | lf _ _ _ _, h => ⟨h.2.1, h.2.2.2.2.2.1⟩
  | cr _ _ _, h => ⟨h.2.1, h.2.2.2.2.1⟩
theorem after_ok {n : Nat} {f : Fm} (h : Ok n f) {j : Int} (h0 : 0 ≤ j) (hj : Sm n j) : 0 ≤ after f j ∧ Sm (n + 1) (after f j) := by
  have hb := h.b0
  have ha := h.a0
  unfold after
  unfold Sm at *
  have := Nat.pow_succ 2 n
  split <;> omega
theorem vs1 (f : Fm) : f.vs[1]? = some (.int f.b) := by cases f <;> rfl
theorem vs2 (f : Fm) : f.vs[2]? = some (.int f.a) := by cases f <;> rfl
theorem vs0 (f : Fm) : f.vs[0]? = some (.str f.nm) := by cases f <;> rfl
end Fm
def FmAt (K : PySem.W.Frag) (H : Hp) (x : V) (f : Fm) : Prop := ∃ p, x = .ref p ∧ SqT K H p f.vs
theorem sameT {K : PySem.W.Frag} {H H' : Hp} {a : Addr} {xs : List V} (e : Same H H') (h : SqT K H a xs) : SqT K H' a xs := by
  rcases h with (h | ⟨o, h⟩) | h
  · exact .inl (.inl (e _ _ h))
  · exact .inl (.inr ⟨o, e _ _ h⟩)
  · exact .inr h
theorem FmAt.same {K : PySem.W.Frag} {H H' : Hp} {x : V} {f : Fm} (e : Same H H') : FmAt K H x f → FmAt K H' x f := fun ⟨p, h1, h2⟩ => ⟨p, h1, sameT e h2⟩
/-! ### runs -/
/-- a group: a tuple that is tracked -/
def PrAt (H : Hp) (v : V) (x : Int × Int) : Prop := ∃ p, v = .ref p ∧ H p = some (.tup [.int x.1, .int x.2])
inductive Prs (K : PySem.W.Frag) (H : Hp) : List V → List (Int × Int) → Prop
  | nil : Prs K H [] []
  | cons {v : V} {vs : List V} {x : Int × Int} {xs : List (Int × Int)} : PrAt H v x → Prs K H vs xs → Prs K H (v :: vs) (x :: xs)
theorem Prs.same {K : PySem.W.Frag} {H H' : Hp} (e : Same H H') : ∀ {vs : List V} {gs : List (Int × Int)}, Prs K H vs gs → Prs K H' vs gs
  | _, _, .nil => .nil
  | _, _, .cons ⟨p, h1, h2⟩ t => .cons ⟨p, h1, e _ _ h2⟩ (t.same e)
theorem Prs.len {K : PySem.W.Frag} {H : Hp} : ∀ {vs : List V} {gs : List (Int × Int)}, Prs K H vs gs → vs.length = gs.length
  | _, _, .nil => rfl
  | _, _, .cons _ t => by rw [List.length_cons, List.length_cons, t.len]
theorem Prs.get {K : PySem.W.Frag} {H : Hp} : ∀ {vs : List V} {gs : List (Int × Int)}, Prs K H vs gs → ∀ {i : Nat} {v : V}, vs[i]? = some v → ∃ x, gs[i]? = some x ∧ PrAt H v x
  | _, _, .nil, i, v, h => by simp at h
  | _, _, .cons h1 t, 0, v, h => by
    have e := Option.some.inj h
    subst e
    exact ⟨_, rfl, h1⟩
  | _, _, .cons h1 t, i + 1, v, h => t.get (i := i) h
theorem Prs.append {K : PySem.W.Frag} {H : Hp} : ∀ {vs ws : List V} {gs hs : List (Int × Int)}, Prs K H vs gs → Prs K H ws hs → Prs K H (vs ++ ws) (gs ++ hs)
  | _, _, _, _, .nil, h => h
  | _, _, _, _, .cons a t, h => .cons a (t.append h)
def GsAt (K : PySem.W.Frag) (H : Hp) (l : Addr) (gs : List (Int × Int)) : Prop := ∃ xs, SqL K H l xs ∧ Prs K H xs gs
def RnAt (K : PySem.W.Frag) (H : Hp) (x : V) (l : Addr) (r : List (Int × Int) × Int) : Prop := ∃ p, x = .ref p ∧ SqT K H p [.ref l, .int r.2] ∧ GsAt K H l r.1
theorem GsAt.same {K : PySem.W.Frag} {H H' : Hp} {l : Addr} {gs : List (Int × Int)} (e : Same H H') : GsAt K H l gs → GsAt K H' l gs := fun ⟨xs, h1, h2⟩ => ⟨xs, e.seq h1, h2.same e⟩
theorem RnAt.same {K : PySem.W.Frag} {H H' : Hp} {x : V} {l : Addr} {r : List (Int × Int) × Int} (e : Same H H') : RnAt K H x l r → RnAt K H' x l r := fun ⟨p, h1, h2, h3⟩ => ⟨p, h1, sameT e h2, h3.same e⟩
/-- groups as the document wants them, numbers below 2 ^ n -/
def GsOk (n : Nat) (gs : List (Int × Int)) : Prop := ∀ (i : Nat) (x : Int × Int), gs[i]? = some x → 1 ≤ x.1 ∧ 0 ≤ x.2 ∧ Sm n x.1 ∧ Sm n x.2 ∧ ∀ y : Int × Int, gs[i + 1]? = some y → y.2 ≠ x.2
structure RnOk (n : Nat) (r : List (Int × Int) × Int) : Prop where
  gs : GsOk n r.1
  rest : 0 ≤ r.2 ∧ Sm n r.2
  len : r.1.length ≤ 1000
def addTo (acc : List (Int × Int)) (x : Int × Int) : List (Int × Int) := match acc.getLast? with
  | some y => if y.2 = x.2 then acc.dropLast ++ [(y.1 + x.1, x.2)] else acc ++ [x]
  | none => acc ++ [x]
def merged (gs : List (Int × Int)) : List (Int × Int) := gs.foldl addTo []
def moved (f : Fm) (gs : List (Int × Int)) : List (Int × Int) := gs.map fun x => (x.1, f.after x.2)
def total (gs : List (Int × Int)) : Int := (gs.map fun x => x.1 * (x.2 + 1)).sum
def units (r : List (Int × Int) × Int) (f : Fm) : Int := total (moved f r.1) + r.2
def runAfter (r : List (Int × Int) × Int) : Fm → List (Int × Int) × Int
  | .keep b a => (merged (moved (.keep b a) r.1), r.2)
  | .lf b a k c => if k * units r (.lf b a k c) = 0 then ([], 0) else ([(k * units r (.lf b a k c), c)], 0)
  | .cr b a k => ([], k * units r (.cr b a k))
end Lx
namespace Lw
open PySem PySem.Spec L2 Lx
def topS (i : Nat) : Stmt := PySem.Challenge.pw_lineends_k29_characters_traced.main.body.getD i (.Pass ⟨0, 0, 0, 0⟩)
abbrev sChkRun : Stmt := topS 7
abbrev sChkForm : Stmt := topS 8
abbrev sIsForm : Stmt := topS 9
abbrev sSigns : Stmt := topS 12
abbrev sUnits : Stmt := topS 13
abbrev sUog : Stmt := topS 14
abbrev sTrace : Stmt := topS 16
abbrev sOffspring : Stmt := topS 17
abbrev sCheckPlace : Stmt := topS 18
abbrev sCharactersOfUnit : Stmt := topS 19
abbrev sLengthsAfter : Stmt := topS 20
abbrev sLocated : Stmt := topS 21
abbrev sStartOf : Stmt := topS 22
abbrev sReturnsLeft : Stmt := topS 23
abbrev sOriginInGroup : Stmt := topS 24
abbrev sUnitsInGroup : Stmt := topS 25
abbrev sLBag : Stmt := topS 27
abbrev sLDraw : Stmt := topS 28
abbrev sLChain : Stmt := topS 29
abbrev sLReduced : Stmt := topS 30
abbrev sLRun : Stmt := topS 31
abbrev sLWanted : Stmt := topS 32
abbrev sLAnyWanted : Stmt := topS 33
abbrev sLUnits : Stmt := topS 34
abbrev sLAfter : Stmt := topS 35
abbrev sLSigns : Stmt := topS 36
abbrev sLStepped : Stmt := topS 37
abbrev sLIsRefused : Stmt := topS 38
abbrev sLRight : Stmt := topS 39
abbrev sLaw : Stmt := topS 40
end Lw
namespace Lx
open PySem PySem.Spec L2
/-! ### one form after another -/
theorem addTo_none (x : Int × Int) : addTo [] x = [x] := rfl
theorem addTo_end (a : List (Int × Int)) (y x : Int × Int) : addTo (a ++ [y]) x = if y.2 = x.2 then a ++ [(y.1 + x.1, x.2)] else a ++ [y] ++ [x] := by
  unfold addTo
  rw [List.getLast?_concat]
  simp
theorem ends {α : Type} : ∀ l : List α, l = [] ∨ ∃ a x, l = a ++ [x]
  | [] => .inl rfl
  | x :: l => by
    rcases ends l with rfl | ⟨a, y, rfl⟩
    · exact .inr ⟨[], x, rfl⟩
    · exact .inr ⟨x :: a, y, rfl⟩
theorem merged_snoc (xs : List (Int × Int)) (x : Int × Int) : merged (xs ++ [x]) = addTo (merged xs) x := by
  unfold merged
  rw [List.foldl_append]
  rfl
theorem addTo_addTo (a : List (Int × Int)) (m m' j : Int) : addTo (addTo a (m, j)) (m', j) = addTo a (m + m', j) := by
  rcases ends a with rfl | ⟨b, z, rfl⟩
  · show addTo ([] ++ [(m, j)]) (m', j) = [(m + m', j)]
    rw [addTo_end, if_pos rfl]
    rfl
  · rw [addTo_end, addTo_end]
    by_cases e : z.2 = j
    · rw [if_pos e, if_pos e, addTo_end, if_pos rfl, Int.add_assoc]
    · rw [if_neg e, if_neg e, addTo_end, if_pos rfl]
def on (h : Int → Int) (gs : List (Int × Int)) : List (Int × Int) := gs.map fun x => (x.1, h x.2)
theorem on_snoc (h : Int → Int) (a : List (Int × Int)) (x : Int × Int) : on h (a ++ [x]) = on h a ++ [(x.1, h x.2)] := by
  unfold on
  rw [List.map_append]
  rfl
theorem merged_on_addTo (h : Int → Int) (a : List (Int × Int)) (x : Int × Int) : merged (on h (addTo a x)) = addTo (merged (on h a)) (x.1, h x.2) := by
  rcases ends a with rfl | ⟨b, y, rfl⟩
  · rfl
  · rw [addTo_end]
    by_cases e : y.2 = x.2
    · rw [if_pos e, on_snoc, merged_snoc, on_snoc, merged_snoc, ← e, addTo_addTo]
    · rw [if_neg e, on_snoc, merged_snoc]
theorem merged_on (h : Int → Int) (n : Nat) : ∀ xs : List (Int × Int), xs.length = n → merged (on h (merged xs)) = merged (on h xs) := by
  induction n with
  | zero =>
    intro xs hx
    rw [List.eq_nil_of_length_eq_zero hx]
    rfl
  | succ n ih =>
    intro xs hx
    rcases ends xs with rfl | ⟨a, x, rfl⟩
    · rfl
    · rw [merged_snoc, merged_on_addTo, ih a (by simpa using hx), on_snoc, merged_snoc]
theorem total_snoc (a : List (Int × Int)) (x : Int × Int) : total (a ++ [x]) = total a + x.1 * (x.2 + 1) := by
  unfold total
  rw [List.map_append, List.sum_append]
  simp
theorem total_addTo (h : Int → Int) (a : List (Int × Int)) (x : Int × Int) : total (on h (addTo a x)) = total (on h a) + x.1 * (h x.2 + 1) := by
  rcases ends a with rfl | ⟨b, y, rfl⟩
  · show total ([] ++ [(x.1, h x.2)]) = total [] + _
    rw [total_snoc]
  · rw [addTo_end]
    by_cases e : y.2 = x.2
    · rw [if_pos e, on_snoc, total_snoc, on_snoc, total_snoc, e, Int.add_mul, Int.add_assoc]
    · rw [if_neg e, on_snoc, total_snoc]
theorem total_on (h : Int → Int) (n : Nat) : ∀ xs : List (Int × Int), xs.length = n → total (on h (merged xs)) = total (on h xs) := by
  induction n with
  | zero =>
    intro xs hx
    rw [List.eq_nil_of_length_eq_zero hx]
    rfl
  | succ n ih =>
    intro xs hx
    rcases ends xs with rfl | ⟨a, x, rfl⟩
    · rfl
    · rw [merged_snoc, total_addTo, ih a (by simpa using hx), on_snoc, total_snoc]
theorem moved_on (f : Fm) (gs : List (Int × Int)) : moved f gs = on f.after gs := rfl
theorem on_on (h h' : Int → Int) (gs : List (Int × Int)) : on h' (on h gs) = on (fun j => h' (h j)) gs := by
  unfold on
  rw [List.map_map]
  rfl
theorem posI (x : Int) : 0 ≤ (if x > 0 then x else 0) ∧ ((if x > 0 then x else 0) = x ∨ ((if x > 0 then x else 0) = 0 ∧ x ≤ 0)) := by
  by_cases h : x > 0
  · rw [if_pos h]; omega
  · rw [if_neg h]; omega
theorem after_both (b a : Int) (g : Fm) (j : Int) : g.after ((Fm.keep b a).after j) = ((Fm.keep b a).both g).after j := by
  have e : ∀ b' a' : Int, (if (if j - b > 0 then j - b else 0) + a - b' > 0 then (if j - b > 0 then j - b else 0) + a - b' else 0) + a' =
      (if j - (b + (if b' - a > 0 then b' - a else 0)) > 0 then j - (b + (if b' - a > 0 then b' - a else 0)) else 0) + ((if a - b' > 0 then a - b' else 0) + a') := by
    intro b' a'
    have p1 := posI (j - b)
    have p2 := posI (b' - a)
    have p3 := posI (a - b')
    generalize (if j - b > 0 then j - b else 0) = A at *
    generalize (if b' - a > 0 then b' - a else 0) = B at *
    generalize (if a - b' > 0 then a - b' else 0) = C at *
    have p4 := posI (A + a - b')
    have p5 := posI (j - (b + B))
    generalize (if A + a - b' > 0 then A + a - b' else 0) = D at *
    generalize (if j - (b + B) > 0 then j - (b + B) else 0) = E at *
    omega
  cases g with
  | keep b' a' => exact e b' a'
  | lf b' a' k c => exact e b' a'
  | cr b' a' k => exact e b' a'
theorem units_both (r : List (Int × Int) × Int) (b a : Int) (g : Fm) : units (runAfter r (.keep b a)) g = units r ((Fm.keep b a).both g) := by
  show total (moved g (merged (moved (.keep b a) r.1))) + r.2 = total (moved _ r.1) + r.2
  rw [moved_on, total_on _ _ _ rfl, moved_on, on_on, moved_on]
  have e : (fun j => g.after ((Fm.keep b a).after j)) = ((Fm.keep b a).both g).after := funext fun j => after_both b a g j
  rw [e]
theorem units_one (n c : Int) (g : Fm) : units ([(n, c)], 0) g = n * (g.after c + 1) := by
  show total ([] ++ [(n, g.after c)]) + 0 = _
  rw [total_snoc]
  show 0 + n * (g.after c + 1) + 0 = _
  omega
theorem units_none (n : Int) (g : Fm) : units ([], n) g = n := by
  show (0 : Int) + n = n
  omega
theorem runAfter_both (r : List (Int × Int) × Int) (f g : Fm) : runAfter (runAfter r f) g = runAfter r (f.both g) := by
  cases f with
  | keep b a =>
    have hu := units_both r b a g
    cases g with
    | keep b' a' =>
      show (merged (moved (.keep b' a') (merged (moved (.keep b a) r.1))), r.2) = (merged (moved _ r.1), r.2)
      rw [moved_on, merged_on _ _ _ rfl, moved_on, on_on, moved_on]
      have e : (fun j => (Fm.keep b' a').after ((Fm.keep b a).after j)) = ((Fm.keep b a).both (.keep b' a')).after := funext fun j => after_both b a _ j
      rw [e]
      rfl
    | lf b' a' k' c' =>
      show (if k' * units (runAfter r (.keep b a)) (.lf b' a' k' c') = 0 then (([] : List (Int × Int)), (0 : Int)) else ([(k' * units (runAfter r (.keep b a)) (.lf b' a' k' c'), c')], 0)) = _
      rw [hu]
      rfl
    | cr b' a' k' =>
      show (([] : List (Int × Int)), k' * units (runAfter r (.keep b a)) (.cr b' a' k')) = _
      rw [hu]
      rfl
  | lf b a k c =>
    by_cases z : k * units r (.lf b a k c) = 0
    · rw [show runAfter r (.lf b a k c) = ([], 0) from if_pos z]
      cases g with
      | keep b' a' =>
        show (([] : List (Int × Int)), (0 : Int)) = if k * units r (.lf b a k c) = 0 then ([], 0) else _
        rw [if_pos z]
      | lf b' a' k' c' =>
        have e : k * ((Fm.lf b' a' k' c').after c + 1) * k' * units r (.lf b a k c) = 0 := by
          rw [show k * ((Fm.lf b' a' k' c').after c + 1) * k' * units r (.lf b a k c) = ((Fm.lf b' a' k' c').after c + 1) * k' * (k * units r (.lf b a k c)) by
            simp only [Int.mul_assoc, Int.mul_comm, Int.mul_left_comm], z, Int.mul_zero]
        show (if k' * units ([], 0) (.lf b' a' k' c') = 0 then (([] : List (Int × Int)), (0 : Int)) else _) = if k * ((Fm.lf b' a' k' c').after c + 1) * k' * units r (.lf b a k c) = 0 then ([], 0) else _
        rw [units_none, Int.mul_zero, if_pos rfl, if_pos e]
      | cr b' a' k' =>
        have e : k * ((Fm.cr b' a' k').after c + 1) * k' * units r (.lf b a k c) = 0 := by
          rw [show k * ((Fm.cr b' a' k').after c + 1) * k' * units r (.lf b a k c) = ((Fm.cr b' a' k').after c + 1) * k' * (k * units r (.lf b a k c)) by
            simp only [Int.mul_assoc, Int.mul_comm, Int.mul_left_comm], z, Int.mul_zero]
        show (([] : List (Int × Int)), k' * units ([], 0) (.cr b' a' k')) = ([], k * ((Fm.cr b' a' k').after c + 1) * k' * units r (.lf b a k c))
        rw [units_none, Int.mul_zero, e]
    · rw [show runAfter r (.lf b a k c) = ([(k * units r (.lf b a k c), c)], 0) from if_neg z]
      cases g with
      | keep b' a' =>
        show (merged [(k * units r (.lf b a k c), (Fm.keep b' a').after c)], (0 : Int)) = if k * units r (.lf b a k c) = 0 then ([], 0) else ([(k * units r (.lf b a k c), (Fm.keep b' a').after c)], 0)
        rw [if_neg z]
        rfl
      | lf b' a' k' c' =>
        show (if k' * units ([(k * units r (.lf b a k c), c)], 0) (.lf b' a' k' c') = 0 then (([] : List (Int × Int)), (0 : Int)) else ([(k' * units ([(k * units r (.lf b a k c), c)], 0) (.lf b' a' k' c'), c')], 0)) =
          if k * ((Fm.lf b' a' k' c').after c + 1) * k' * units r (.lf b a k c) = 0 then ([], 0) else ([(k * ((Fm.lf b' a' k' c').after c + 1) * k' * units r (.lf b a k c), c')], 0)
        rw [units_one, show k' * (k * units r (.lf b a k c) * ((Fm.lf b' a' k' c').after c + 1)) = k * ((Fm.lf b' a' k' c').after c + 1) * k' * units r (.lf b a k c) by
          simp only [Int.mul_assoc, Int.mul_comm, Int.mul_left_comm]]
      | cr b' a' k' =>
        show (([] : List (Int × Int)), k' * units ([(k * units r (.lf b a k c), c)], 0) (.cr b' a' k')) = ([], k * ((Fm.cr b' a' k').after c + 1) * k' * units r (.lf b a k c))
        rw [units_one, show k' * (k * units r (.lf b a k c) * ((Fm.cr b' a' k').after c + 1)) = k * ((Fm.cr b' a' k').after c + 1) * k' * units r (.lf b a k c) by
          simp only [Int.mul_assoc, Int.mul_comm, Int.mul_left_comm]]
  | cr b a k =>
    cases g with
    | keep b' a' => rfl
    | lf b' a' k' c' =>
      show (if k' * units ([], k * units r (.cr b a k)) (.lf b' a' k' c') = 0 then (([] : List (Int × Int)), (0 : Int)) else ([(k' * units ([], k * units r (.cr b a k)) (.lf b' a' k' c'), c')], 0)) =
        if k * 1 * k' * units r (.cr b a k) = 0 then ([], 0) else ([(k * 1 * k' * units r (.cr b a k), c')], 0)
      rw [units_none, Int.mul_one, show k' * (k * units r (.cr b a k)) = k * k' * units r (.cr b a k) by simp only [Int.mul_assoc, Int.mul_comm, Int.mul_left_comm]]
    | cr b' a' k' =>
      show (([] : List (Int × Int)), k' * units ([], k * units r (.cr b a k)) (.cr b' a' k')) = ([], k * 1 * k' * units r (.cr b a k))
      rw [units_none, Int.mul_one, show k' * (k * units r (.cr b a k)) = k * k' * units r (.cr b a k) by simp only [Int.mul_assoc, Int.mul_comm, Int.mul_left_comm]]
end Lx
/-! promises of defs that are called where no repr is at work -/
namespace Lx
open PySem PySem.Spec L2
open PyProof.Rows (AllBare IntsAre)
/-- as FnOk, at callers in which no guarded call (a repr, a comparison) runs -/
structure FnG (P : Program) (w : World) (K : PySem.W.Frag) (mg : Str → Option Value) (base : Heap) (CX : CXT) (k : Nat) (f : Addr) (fd : FuncData) (ps : List Str) (sp : Sp) : Prop where
  len : ∀ vs H Q E, sp vs H Q E → vs.length = ps.length
  go : ∀ (A : Around) (outer : List Env) (s : Shared) (H : Hp) (args : Args) (us : List Value) (vs : List V) (Q : VK) (E : XK), Room k A → A.guards = some [] → Env0 P w K mg base A outer s H → BindsTo s fd args (ps.zip us) → Vals vs us → sp vs H Q E →
    codeAny (model P w) A (.call (.ref f) args) (CR CX outer P w H s Q E) s
section
variable {P : Program} {w : World} {K : PySem.W.Frag} {mg : Str → Option Value} {base : Heap} {CX : CXT}
theorem FnG.of {k : Nat} {f : Addr} {fd : FuncData} {ps : List Str} {sp : Sp} (F : FnOk P w K mg base CX k f fd ps sp) : FnG P w K mg base CX k f fd ps sp :=
  ⟨F.len, fun A outer s H args us vs Q E hr _ he hb hv hs => F.run A outer s H args us vs Q E hr he hb hv hs⟩
/-- a def's promise by its body -/
theorem okG {x qual : Str} {st : Stmt} {f : Addr} {fd : FuncData} {N ps : List Str} {k : Nat} {sp : Sp} (F : Fun K x qual st f fd) (S : FnScope N ps (defScope st)) (len : ∀ vs H Q E, sp vs H Q E → vs.length = ps.length)
    (hb : ∀ (cdv : Value) (A : Around) (outer : List Env) (s : Shared) (H : Hp) (vs : List V) (Q : VK) (E : XK), Room k (A.deeper (PyProof.Rows.envOfC qual (defScope st) s.heap.objs.size f cdv)) → A.guards = some [] → sp vs H Q E →
      ∃ t, PSs (cxOf CX P w K mg base N qual (defScope st) f cdv A outer s H E) (defBody st) t ∧ t { nx := fun _ H' => Q .non H', rt := Q } (start N vs) H) : FnG P w K mg base CX (k + 1) f fd ps sp := by
  obtain ⟨oc, od, kV, doc, pm, an, cdv, ct, osl, rfl, lk, hcd⟩ := F.ex
  refine ⟨len, fun A outer s H args us vs Q E hr hg e0 hbd r hsp => ?_⟩
  have X : K.In s.heap := e0.mod.kin.keeps fun b o e => (e0.bs b o e).1
  have lim : s.heap.NoLimit := e0.mod.nolimit.keeps fun b o e => (e0.bs b o e).1
  refine codeAny_call_function hr.depth (X _ _ lk) rfl S.co S.gen rfl (PySem.W.codeRec_of X hcd) (hbd _ _ _ _ ?_)
  refine wpAny_newFunctionEnv_cells S.kind (fun y hy => ?_) fun env he s1 x1 => ?_
  · obtain ⟨n, v⟩ := y
    rcases S.par n (List.of_mem_zip hy).1 with q | q
    · exact .inl q
    · exact .inr ⟨q, PySem.W.cellsFrom_some _ _ _ (.inl q)⟩
  · subst he
    refine ⟨lim.keeps x1.toInCall.keep, codeAny_func ?_⟩
    obtain ⟨t, ht, hq⟩ := hb cdv A outer s H vs Q E (hr.deeper _) hg hsp
    have I := inv_start (CX := CX) (E := E) S hr.hd e0 (len _ _ _ _ hsp) r x1
    refine wpAny_mono (ht.run [] s1 (start N vs) H _ I hq) (fun fl s2 z => ?_) fun _ _ z => z
    rcases fl with _ | _ | _ | u
    all_goals first
      | (obtain ⟨_, _, _, q⟩ := z; exact q.elim)
      | (obtain ⟨σ2, H2, J, q⟩ := z; exact ⟨V.non, H2, J.os, J.bare, J.base, J.hok, rfl, q⟩)
      | (obtain ⟨v2, σ2, H2, J, rv, q⟩ := z; exact ⟨v2, H2, J.os, J.bare, J.base, J.hok, rv, q⟩)
end
section
variable {X : Cx} {CX : CXT} {k : Nat} {f : Addr} {fd : FuncData} {ps : List Str} {sp : Sp} {dvs : List V} {ds : List Value} {E : XK} {x : Str} {p pos : Pos} {e : Expr} {es : List Expr} {t : TA}
/-- f(e, ..) -/
theorem pe_callG (F : FnG X.prog X.w X.K X.mg X.base CX k f fd ps sp) (hG : X.A.guards = some []) (hr : Room k X.A) (hg : Gl X x) (hm : X.mg x = some (.ref f)) (hk : PySem.W.keepIn X.K (.ref f) = true) (hb : Binds X.K fd ps ds) (hd : Vals dvs ds) (hx : Passes CX X E)
    (ha : PA X (e :: es) t) (hdb : (x == ("__debug__" : Str)) = false := by decide) (he : starEach (e :: es) X.env = (false, eval e X.env) :: starEach es X.env := by rfl) (hpl : (backTo pos (starEach es X.env)).any (·.1) = false := by rfl) :
    PE X (.Call (.Name x p) (e :: es) [] pos) (tCall sp dvs E t) := by
  refine ⟨fun pins s σ H Q I h => ?_⟩
  refine wpAny_Call_Name_kw (ld_glob I hg hm ?_ hdb)
  refine PySem.W.callWith_K (h₀ := X.base) I.ok.mod.kin hk (thn (ha.run pos pins s σ H _ I h) fun us s1 ⟨vs, H1, I1, r, q⟩ => ⟨I1.kIn, ?_⟩) he hpl
  have r2 : Vals (vs ++ dvs) (us ++ ds) := r.append hd
  have hl : (us ++ ds).length = ps.length := by rw [← r2.length]; exact F.len _ _ _ _ q
  show wpAny _ _ (call (.ref f) us) _ _ _
  refine wpAny_call (codeAny_mono (F.go X.A X.stack s1 H1 ⟨us, []⟩ (us ++ ds) (vs ++ dvs) Q E hr hG I1.env0 (hb s1 us I1.kIn hl) r2 q) fun res s' hq => ?_)
  rcases res with er | fl
  · exact hx pins σ H1 s1 er s' I1 hq
  · rcases fl with _ | _ | _ | u
    all_goals first
      | exact I1.after hq
      | exact False.elim hq
end
/-- the heap in which nothing but the script is told -/
def onlyAt (a : Addr) (o : Obj) (ns : List Int) : Hp := fun b => if b = a then some (.frz o (.lst (ns.map V.int))) else none
section
variable {P : Program} {w : World} {K : PySem.W.Frag} {mg mb : Str → Option Value} {CX : CXT} {k : Nat} {fa a : Addr} {fd : FuncData} {x : Str} {sp : Sp} {s : Shared} {vs : List Value} {ns : List Int}
/-- the law's call, from an abstract heap that tells of the script at most -/
theorem lawFrom (KX : K.In s.heap) (hns : s.heap.Ns mainGlobals mg) (hbl : s.heap.Ns builtinsNs mb) (hbb : ∀ x : Str, x ≠ "__name__" → mb x = bootBuiltins x) (hlim : s.heap.NoLimit) (hg : s.gens = #[]) {o : Obj} (ho : s.heap.get? a = some o) (hdict : ∀ es ep, o.data ≠ .dict es ep)
    (hr : Room k callerA) (F : ∀ base : Heap, K.In base → base.Ns mainGlobals mg → FnG P w K mg base CX k fa fd [x] sp) (hbind : ∀ (s : Shared) (u : Value), BindsTo s fd ⟨[u], []⟩ [(x, u)])
    (H : Hp) (hok : HOk P w H s.heap) (hA : ∀ b, H b ≠ none → b = a ∧ K.lookup a = none ∧ H a = some (.frz o (.lst (ns.map V.int)))) (hsp : sp [.ref a] H (fun v _ => v = .bl true) fun _ _ _ => False) (hCX : ∀ e s', CX [] H s (fun _ _ _ => False) e s' → False) :
    codeAny (model P w) callerA (.call (.ref fa) ⟨[.ref a], []⟩) (fun r s' => r = .ok (.ret (.bool true)) ∧ OldK s.heap s'.heap ∧ s'.os = s.os ∧ AllBare s'.gens) s := by
  have free : ∀ {b : Addr} {u : Obj}, s.heap.get? b = some u → (∃ es ep, u.data = .dict es ep) → H b = none := fun {b u} e ⟨es, ep, d⟩ => by
    cases q : H b with
    | none => rfl
    | some z =>
      obtain ⟨rfl, _, _⟩ := hA b (by rw [q]; simp)
      rw [ho] at e
      cases e
      exact (hdict es ep d).elim
  have nsK : ∀ {b : Addr} {m : Str → Option Value}, s.heap.Ns b m → (hidT s.heap H).Ns b m := fun {b m} ⟨u, es, ep, e, d, r⟩ => ⟨u, es, ep, hidT_get e (free e ⟨es, ep, d⟩), d, r⟩
  have kb : K.In (hidT s.heap H) := fun b u e => hidT_get (KX b u e) (by
    cases q : H b with
    | none => rfl
    | some z =>
      obtain ⟨rfl, q2, _⟩ := hA b (by rw [q]; simp)
      rw [q2] at e
      cases e)
  have hM : Mod K mg (hidT s.heap H) := ⟨kb, nsK hns, ⟨mb, nsK hbl, hbb⟩, let ⟨mc, h1, h2⟩ := hlim; ⟨mc, nsK h1, h2⟩⟩
  have e0 : Env0 P w K mg (hidT s.heap H) callerA [] s H := ⟨rfl, hM, fun b u e => of_hidT e, Nat.le_of_eq (hidT_size _ _), trivial, fun b hb => absurd (show b ∈ ([] : List Addr) from hb) (by simp), hok, .of_eq hg⟩
  refine codeAny_mono ((F _ kb (nsK hns)).go callerA [] s H ⟨[.ref a], []⟩ [.ref a] [.ref a] _ _ hr rfl e0 (hbind s (.ref a)) (.cons rfl .nil) hsp) fun r s' h => ?_
  rcases r with e | fl
  · exact (hCX e s' h).elim
  · rcases fl with _ | _ | _ | u
    all_goals first
      | exact False.elim h
      | skip
    obtain ⟨v, H', os, bare, un, hok', r', q⟩ := h
    obtain rfl : v = .bl true := q
    obtain rfl : u = Value.bool true := r'
    refine ⟨rfl, OldK.of_keep fun b u e => ?_, os, bare⟩
    cases q : H b with
    | none => exact un.keep b u e q (fun z => absurd (show b ∈ ([] : List Addr) from z) (by simp)) (by simp)
    | some z =>
      obtain ⟨rfl, _, q3⟩ := hA b (by rw [q]; simp)
      obtain ⟨e2, _⟩ := hok' b _ (un.frzs b o _ q3)
      rw [ho] at e
      cases e
      exact e2
theorem lawCall (KX : K.In s.heap) (hns : s.heap.Ns mainGlobals mg) (hbl : s.heap.Ns builtinsNs mb) (hbb : ∀ x : Str, x ≠ "__name__" → mb x = bootBuiltins x) (hlim : s.heap.NoLimit) (hg : s.gens = #[])
    (ha : s.heap.get? a = some { cls := .type "list", data := .seq vs.toArray }) (hi : IntsAre vs ns) (hl : ns.length ≤ sizeLine) (hr : Room k callerA)
    (F : ∀ base : Heap, K.In base → base.Ns mainGlobals mg → FnG P w K mg base CX k fa fd [x] sp) (hbind : ∀ (s : Shared) (u : Value), BindsTo s fd ⟨[u], []⟩ [(x, u)])
    (hsp : ∀ H : Hp, SqL K H a (ns.map V.int) → sp [.ref a] H (fun v _ => v = .bl true) fun _ _ _ => False) (hCX : ∀ H e s', CX [] H s (fun _ _ _ => False) e s' → False) :
    codeAny (model P w) callerA (.call (.ref fa) ⟨[.ref a], []⟩) (fun r s' => r = .ok (.ret (.bool true)) ∧ OldK s.heap s'.heap ∧ s'.os = s.os ∧ AllBare s'.gens) s := by
  have rv := vals_ints hi
  cases hk : K.lookup a with
  | some o =>
    have e := KX a o hk
    rw [ha] at e
    cases e
    refine lawFrom KX hns hbl hbb hlim hg ha (fun _ _ z => by cases z) hr F hbind (ns := ns) (fun _ => none) (fun b u z => by cases z) (fun b z => absurd rfl z) (hsp _ ?_) (hCX _)
    exact .inr ⟨_, vs.toArray, _, hk, rfl, rfl, rfl, by rw [List.size_toArray, hi.length]; exact hl, by simpa using rv⟩
  | none =>
    refine lawFrom KX hns hbl hbb hlim hg ha (fun _ _ z => by cases z) hr F hbind (ns := ns) (onlyAt a { cls := .type "list", data := .seq vs.toArray } ns) (fun b u z => ?_) (fun b z => ?_) (hsp _ (.inl (.inr ⟨_, if_pos rfl⟩))) (hCX _)
    · by_cases hb : b = a
      · have q := (if_pos hb).symm.trans z
        cases q
        subst hb
        exact ⟨ha, by rw [List.length_map]; exact hl, vs, _, rv, ha⟩
      · have q := (if_neg hb).symm.trans z
        cases q
    · by_cases hb : b = a
      · exact ⟨hb, hk, if_pos rfl⟩
      · exact absurd (if_neg hb) z
end
/-- the end of a law's row -/
theorem endG {l : PySem.W.OpenLaw} {n k : Nat} {q : Program} {loose : List Str} {XP : (Str → Option Value) → Heap → Prop} {YP : World → Heap → Prop} {d : DefRec} {K : Params → PySem.W.Frag} {CX : World → CXT} {sp : World → Sp} {x : Str}
    (hn : l.most = some n) (hn2 : n ≤ sizeLine) (hdf : d.params.defaults = []) (hr : Room k callerA) (hY : ∀ (w : World) (h : Heap), YP w h → (K w.params).In h)
    (F : ∀ (w : World) (mg : Str → Option Value) (fa : Addr) (h : Heap), (K w.params).In h → h.Ns mainGlobals mg → mg d.name = some (.ref fa) →
      ∃ fd : FuncData, (∀ (s : Shared) (u : Value), BindsTo s fd ⟨[u], []⟩ [(x, u)]) ∧ ∀ base : Heap, (K w.params).In base → base.Ns mainGlobals mg → FnG l.prog w (K w.params) mg base (CX w) k fa fd [x] (sp w))
    (hsp : ∀ (w : World) (H : Hp) (a : Addr) (ns : List Int), ns.length ≤ n → SqL (K w.params) H a (ns.map V.int) → sp w [.ref a] H (fun v _ => v = .bl true) fun _ _ _ => False)
    (hCX : ∀ (w : World) (H : Hp) (s : Shared) (e : Value) (s' : Shared), CX w [] H s (fun _ _ _ => False) e s' → False) : PySem.W.WalkO q loose XP YP l.row.toRowW d [] (fun f vs => PySem.call f vs) := by
  refine Att.attach_call hn hdf fun w s₀ s₁ mg mb fa o pm cd doc a vs ns G Y ho hd hcd hmg hobj hints hlen hg => ?_
  obtain ⟨fd, hb, hF⟩ := F w mg fa _ (hY w _ Y) G.T.g hmg
  exact lawCall (hY w _ Y) G.T.g G.T.b G.T.builtins G.T.nolimit hg hobj hints (Nat.le_trans hlen hn2) hr hF hb (fun H hS => hsp w H a ns hlen hS) fun H e s' => hCX w H s₁ e s'
end Lx
namespace Lx
open PySem PySem.Spec L2
/-! ### repr of data -/
structure Fit (d : PyData) : Prop where
  can : d.showable = true
  no : d.hasDict = false
  dep : d.depth ≤ 40
  len : d.shown.length ≤ sizeLine
/-- repr(x), x data -/
def rRepr (K : PySem.W.Frag) : List V → Hp → VK → Prop := fun xs H Q => ∃ x d, xs = [x] ∧ Dp K H x d ∧ Fit d ∧ Q (.str d.shown) H
theorem call_reprD {X : Cx} (hG : X.A.guards = some []) (hu : X.A.units + 64 < cLine) : CallR X (.builtin "repr") (rRepr X.K) := by
  intro pins s σ H xs us Q I r h
  obtain ⟨x, d, rfl, hd, F, q⟩ := h
  obtain ⟨u, rfl, r1⟩ := vals1 r
  obtain ⟨as, rd⟩ := Dp.reads I d x u hd r1
  have big : ∀ a : Addr, u = .ref a → wpAny (model X.prog X.w) X.A (call (.builtin "repr") [u]) (EP X pins σ Q) X.xe s := fun a e => by
    subst e
    exact repr_of_reads' rd F.can (PyData.noDict_hsm F.no) hG (by have := F.dep; omega) (fun _ _ e => e) (fun h' t tk kp => ⟨.str d.shown, H, I.kept (t' := tk) kp, ⟨t, rfl⟩, q⟩) F.len
  cases hd with
  | non =>
    cases r1
    exact P.repr_of_none ⟨.str _, H, I.tok _, ⟨_, rfl⟩, q⟩
  | bl b =>
    cases r1
    exact P.repr_of_bool ⟨.str _, H, I.tok _, ⟨_, rfl⟩, by cases b <;> exact q⟩
  | int i =>
    obtain ⟨t, rfl⟩ := r1
    exact P.repr_of_int (of_decide_eq_true F.can) ⟨.str _, H, I.tok _, ⟨_, rfl⟩, q⟩
  | str y =>
    obtain ⟨t, rfl⟩ := r1
    exact P.repr_of_str ⟨.str _, H, I.tok _, ⟨_, rfl⟩, q⟩ F.len
  | lst _ _ => exact big _ r1
  | tup _ _ => exact big _ r1
/-! ### which class is which -/
section
variable {K : PySem.W.Frag} {file : Str} {mg : Str → Option Value} {L C D : Addr} {nm qual nm2 qual2 : Str} {st st2 : Stmt}
theorem ErrC.some_ (T : ErrC K file mg L nm qual st C) : (PySem.W.clsIn K C).isSome = true := by
  obtain ⟨cd, e, _⟩ := T.chain
  rw [e]; rfl
theorem LineC.some_ (T : LineC K mg L) : (PySem.W.clsIn K L).isSome = true := by
  obtain ⟨n, q, N, bs, sn, sub, ab, col, dd, k0, k1, k2, k3, k5, hL⟩ := T.cls
  unfold PySem.W.clsIn
  rw [hL] <;> rfl
theorem kit_ref {b : Bool} (h1 : (PySem.W.clsIn K D).isSome = true) (h2 : PySem.W.typeIn K (.ref D) = some (.type "type")) (T : ErrC K file mg L nm qual st C) (h : (Value.ref C :: .ref L :: HandSPX.veTail).contains (.ref D) = b) : PySem.W.kitOne K (.ref C) (.ref D) = some b := by
  unfold PySem.W.kitOne
  by_cases e : C = D
  · subst e
    have z : (Value.ref C == Value.ref C) = true := by simp
    rw [if_pos z, ← h]
    simp
  · have z : ¬ (Value.ref C == Value.ref D) = true := by simpa using e
    rw [if_neg z]
    show (if ((PySem.W.clsIn K D).isSome && PySem.W.typeIn K (.ref D) == some (.type "type")) = true then PySem.W.subIn K (.ref C) (.ref D) else none) = some b
    rw [h1, h2, if_pos (by rfl)]
    exact (T.under _).trans (by rw [h])
theorem kit_err (T : ErrC K file mg L nm qual st C) (T2 : ErrC K file mg L nm2 qual2 st2 D) (hD : D ≠ L) : PySem.W.kitOne K (.ref C) (.ref D) = some (decide (C = D)) := by
  refine kit_ref T2.some_ T2.ty T ?_
  rw [List.contains_cons, List.contains_cons]
  have e1 : (Value.ref D == Value.ref L) = false := by simpa using hD
  have e2 : List.contains HandSPX.veTail (Value.ref D) = false := by rfl
  rw [e1, e2]
  by_cases e : C = D
  · subst e; simp
  · have z : (Value.ref D == Value.ref C) = false := by simpa using Ne.symm e
    rw [z, decide_eq_false e]; rfl
theorem kit_line (TL : LineC K mg L) (T : ErrC K file mg L nm qual st C) : PySem.W.kitOne K (.ref C) (.ref L) = some true := kit_ref TL.some_ TL.ty T (by simp)
theorem kit_ve (T : ErrC K file mg L nm qual st C) : PySem.W.kitOne K (.ref C) (.type "ValueError") = some true := by
  unfold PySem.W.kitOne
  rw [if_neg (by simp)]
  show (if PySem.W.kitMeta "ValueError" = true then PySem.W.subIn K (.ref C) (.type "ValueError") else none) = some true
  rw [if_pos (by decide +kernel)]
  exact (T.under _).trans (by rfl)
end
/-! ### data that repr can write -/
/-- ints below 2 ^ 400, texts of plain signs -/
def small : PyData → Bool
  | .none | .bool _ => true
  | .int i => decide (i.natAbs < 2 ^ 400)
  | .str x => x.cps.toList.all fun c => decide (c < 128)
  | .list xs | .tuple xs => smallAll xs
  | .dict _ => false
where smallAll : List PyData → Bool
  | [] => true
  | x :: xs => small x && smallAll xs
theorem int_log {i : Int} (h : i.natAbs < 2 ^ 400) : i.natAbs.log2 < 400 := PySem.Flt.log2_lt_of (by decide) h
theorem int_shown {i : Int} (h : i.natAbs < 2 ^ 400) : (PyData.shown (.int i)).length ≤ 401 := by
  have e := int_text_length_le (k := 400) (by decide) (int_log h)
  show (Str.ofString (toString i)).length ≤ 401
  rw [ofString_length]
  omega
mutual
theorem small_can : ∀ d : PyData, small d = true → d.showable = true
  | .none, _ => rfl
  | .bool _, _ => rfl
  | .int i, h => by
    have e := int_log (of_decide_eq_true (show decide (i.natAbs < 2 ^ 400) = true by simpa only [small] using h))
    simp only [PyData.showable]
    exact decide_eq_true (by omega)
  | .str _, _ => rfl
  | .list xs, h => by
    simp only [PyData.showable]
    exact small_canAll xs (by simpa only [small] using h)
  | .tuple xs, h => by
    simp only [PyData.showable]
    exact small_canAll xs (by simpa only [small] using h)
  | .dict _, h => by simp [small] at h
theorem small_canAll : ∀ xs : List PyData, small.smallAll xs = true → PyData.showableAll xs = true
  | [], _ => rfl
  | x :: xs, h => by
    have h' : small x = true ∧ small.smallAll xs = true := by simpa only [small.smallAll, Bool.and_eq_true] using h
    simp only [PyData.showableAll, Bool.and_eq_true]
    exact ⟨small_can x h'.1, small_canAll xs h'.2⟩
end
mutual
theorem small_no : ∀ d : PyData, small d = true → d.hasDict = false
  | .none, _ => rfl
  | .bool _, _ => rfl
  | .int i, h => rfl
  | .str _, _ => rfl
  | .list xs, h => by
    simp only [PyData.hasDict]
    exact small_noAll xs (by simpa only [small] using h)
  | .tuple xs, h => by
    simp only [PyData.hasDict]
    exact small_noAll xs (by simpa only [small] using h)
  | .dict _, h => by simp [small] at h
theorem small_noAll : ∀ xs : List PyData, small.smallAll xs = true → PyData.hasDictAll xs = false
  | [], _ => rfl
  | x :: xs, h => by
    have h' : small x = true ∧ small.smallAll xs = true := by simpa only [small.smallAll, Bool.and_eq_true] using h
    simp only [PyData.hasDictAll, Bool.or_eq_false_iff]
    exact ⟨small_no x h'.1, small_noAll xs h'.2⟩
end
mutual
theorem small_leaves : ∀ d : PyData, small d = true → d.leavesShort 401 = true
  | .none, _ => rfl
  | .bool _, _ => rfl
  | .int i, h => by
    have e := int_shown (of_decide_eq_true (show decide (i.natAbs < 2 ^ 400) = true by simpa only [small] using h))
    simp only [PyData.leavesShort]
    exact decide_eq_true e
  | .str x, h => by
    simp only [PyData.leavesShort, List.all_eq_true, decide_eq_true_eq]
    simp only [small, List.all_eq_true, decide_eq_true_eq] at h
    intro c hc
    exact Nat.lt_of_lt_of_le (h c hc) (by decide)
  | .list xs, h => by
    simp only [PyData.leavesShort]
    exact small_leavesAll xs (by simpa only [small] using h)
  | .tuple xs, h => by
    simp only [PyData.leavesShort]
    exact small_leavesAll xs (by simpa only [small] using h)
  | .dict _, h => by simp [small] at h
theorem small_leavesAll : ∀ xs : List PyData, small.smallAll xs = true → PyData.leavesShortAll 401 xs = true
  | [], _ => rfl
  | x :: xs, h => by
    have h' : small x = true ∧ small.smallAll xs = true := by simpa only [small.smallAll, Bool.and_eq_true] using h
    simp only [PyData.leavesShortAll, Bool.and_eq_true]
    exact ⟨small_leaves x h'.1, small_leavesAll xs h'.2⟩
end
theorem fit_small {d : PyData} (h : small d = true) (hd : d.depth ≤ 40) (hb : d.bulk ≤ 40000) : Fit d := by
  refine ⟨small_can d h, small_no d h, hd, ?_⟩
  have e := PyData.shown_le_bulk 401 (by decide) d (small_leaves d h)
  have e2 : (401 + 2) * d.bulk ≤ 403 * 40000 := Nat.mul_le_mul (by decide) hb
  rw [sizeLine_eq]
  omega
end Lx
namespace Lx
open PySem PySem.Spec L2 PyProof.Rows
/-! ### f(k = v, ..) of a def -/
section
variable {X : Cx} {CX : CXT} {k : Nat} {f : Addr} {fd : FuncData} {ps ks : List Str} {sp : Sp} {E : XK} {x : Str} {p pos : Pos} {kws : List Keyword} {tk : TA} {g : List Value → List Value → List Value} {gV : List V → List V → List V}
theorem pe_callK0 (F : FnOk X.prog X.w X.K X.mg X.base CX k f fd ps sp) (hr : Room k X.A) (hg : Gl X x) (hm : X.mg x = some (.ref f)) (hk : PySem.W.keepIn X.K (.ref f) = true) (hb : KBinds X.K fd ps ks g gV) (hx : Passes CX X E)
    (hkw : PK X kws tk) (hall : (backToKw pos (keywordEach kws X.env)).all (·.1.isSome) = true := by rfl) (hks : (backToKw pos (keywordEach kws X.env)).filterMap (·.1) = ks := by rfl)
    (hdb : (x == ("__debug__" : Str)) = false := by decide) (hpl : ((backTo pos (starEach [] X.env)).any (·.1) || (backToKw pos (keywordEach kws X.env)).any (·.1.isNone)) = false := by rfl) :
    PE X (.Call (.Name x p) [] kws pos) (tCallK sp gV E tNil tk) := by
  refine ⟨fun pins s σ H Q I h => ?_⟩
  refine wpAny_Call_Name_kw (ld_glob I hg hm ?_ hdb)
  refine PySem.W.callWith_KW0 (h₀ := X.base) I.ok.mod.kin hk hall ?_ hpl
  refine thn (hkw.run pos pins s σ H _ I h) fun ws s2 ⟨zs, H2, I2, rz, q2⟩ => ⟨I2.kIn, ?_⟩
  rw [hks]
  exact run_fnk (us := []) (vs := []) F hr hb hx I2 .nil rz q2
end
/-- two keywords, the second parameter's first -/
def g21 (α : Type) : List α → List α → List α
  | [], [a, b] => [b, a]
  | _, _ => []
def g1 (α : Type) : List α → List α → List α
  | [], [a] => [a]
  | _, _ => []
theorem kb21 {K : PySem.W.Frag} {x qual : Str} {st : Stmt} {f : Addr} {fd : FuncData} {p1 p2 : Str} (F : Fun K x qual st f fd)
    (h : ∀ (kV doc pm : Value) (an : Option Addr) (cdv ct a b : Value), bindArgs (PySem.W.fnOf x qual (defArgs st) (defBody st) (defScope st) .none kV doc pm an cdv ct) ⟨[], [(p2, a), (p1, b)]⟩ = pure [(p1, b), (p2, a)]) : KBinds K fd [p1, p2] [p2, p1] (g21 Value) (g21 V) := by
  obtain ⟨oc, od, kV, doc, pm, an, cdv, ct, osl, rfl, lk, hcd⟩ := F.ex
  refine ⟨fun s us ws _ hl => ?_, fun {vs us zs ws} r1 r2 => ?_⟩
  · match us, ws, hl with
    | [], [a, b], _ => exact .of_eq (h kV doc pm an cdv ct a b)
    | [], [], hl => exact absurd hl (by simp [g21])
    | [], [_], hl => exact absurd hl (by simp [g21])
    | [], _ :: _ :: _ :: _, hl => exact absurd hl (by simp [g21])
    | _ :: _, _, hl => exact absurd hl (by simp [g21])
  · cases r1 with
    | cons _ _ => exact .nil
    | nil =>
      cases r2 with
      | nil => exact .nil
      | cons a t =>
        cases t with
        | nil => exact .nil
        | cons b t =>
          cases t with
          | nil => exact .cons b (.cons a .nil)
          | cons _ _ => exact .nil
theorem kb1 {K : PySem.W.Frag} {x qual : Str} {st : Stmt} {f : Addr} {fd : FuncData} {p1 : Str} (F : Fun K x qual st f fd)
    (h : ∀ (kV doc pm : Value) (an : Option Addr) (cdv ct a : Value), bindArgs (PySem.W.fnOf x qual (defArgs st) (defBody st) (defScope st) .none kV doc pm an cdv ct) ⟨[], [(p1, a)]⟩ = pure [(p1, a)]) : KBinds K fd [p1] [p1] (g1 Value) (g1 V) := by
  obtain ⟨oc, od, kV, doc, pm, an, cdv, ct, osl, rfl, lk, hcd⟩ := F.ex
  refine ⟨fun s us ws _ hl => ?_, fun {vs us zs ws} r1 r2 => ?_⟩
  · match us, ws, hl with
    | [], [a], _ => exact .of_eq (h kV doc pm an cdv ct a)
    | [], [], hl => exact absurd hl (by simp [g1])
    | [], _ :: _ :: _, hl => exact absurd hl (by simp [g1])
    | _ :: _, _, hl => exact absurd hl (by simp [g1])
  · cases r1 with
    | cons _ _ => exact .nil
    | nil =>
      cases r2 with
      | nil => exact .nil
      | cons a t =>
        cases t with
        | nil => exact .cons a .nil
        | cons _ _ => exact .nil
end Lx
/-! texts repeated -/
namespace Lx
open PySem PySem.Spec L2
/-- the signs of a text, n times -/
def rep (x : Str) (n : Nat) : Str := ⟨((List.replicate n x.cps.toList).flatten).toArray⟩
theorem rep_list (x : Str) (n : Nat) : (rep x n).cps.toList = (List.replicate n x.cps.toList).flatten := rfl
theorem rep_len (x : Str) (n : Nat) : (rep x n).length = x.length * n := by
  show ((List.replicate n x.cps.toList).flatten).toArray.size = x.cps.size * n
  rw [List.size_toArray, List.length_flatten, List.map_replicate, List.sum_replicate_nat, Array.length_toList, Nat.mul_comm]
theorem rep_one (x : Str) : rep x 1 = x := by
  have e : (rep x 1).cps.toList = x.cps.toList := by simp [rep_list]
  exact Str.ext' (Array.toList_inj.mp e)
theorem rep_zero (x : Str) : rep x 0 = Str.empty := rfl
theorem fold_rep (a : Array Nat) : ∀ (n : Nat) (b : Array Nat), ((List.replicate n a).foldl (· ++ ·) b).toList = b.toList ++ (List.replicate n a.toList).flatten
  | 0, b => by simp
  | n + 1, b => by
    rw [List.replicate_succ, List.foldl_cons, fold_rep a n, List.replicate_succ, List.flatten_cons, Array.toList_append, List.append_assoc]
theorem rep_fold (x : Str) (n : Nat) : (⟨(List.replicate n x.cps).foldl (· ++ ·) #[]⟩ : Str) = rep x n := by
  have e : ((List.replicate n x.cps).foldl (· ++ ·) #[]).toList = (rep x n).cps.toList := by
    rw [fold_rep, rep_list]; rfl
  exact Str.ext' (Array.toList_inj.mp e)
theorem rep_empty (x : Str) (n : Nat) (h : x.length = 0) : rep x n = x := by
  have e : x.cps.toList = [] := List.eq_nil_of_length_eq_zero (by rw [Array.length_toList]; exact h)
  have e2 : (rep x n).cps.toList = x.cps.toList := by
    rw [rep_list, e]
    induction n with
    | zero => rfl
    | succ n ih => rw [List.replicate_succ, List.flatten_cons, ih]; rfl
  exact Str.ext' (Array.toList_inj.mp e2)
/-- text * k -/
def rRepS : R2 := fun x y H Q => ∃ (z : Str) (k : Int), x = .str z ∧ y = .int k ∧ 0 ≤ k ∧ k < 1000000000 ∧ z.length * k.toNat ≤ sizeLine ∧ Q (.str (rep z k.toNat)) H
theorem op_repS {X : Cx} : OpR X (binaryOp .Mult) rRepS := by
  intro pins s σ H x y v u Q I rx ry h
  obtain ⟨z, k, rfl, rfl, h0, h1, hz, q⟩ := h
  obtain ⟨t, rfl⟩ := rx
  obtain ⟨t', rfl⟩ := ry
  have hlong : PySem.Builtin.Str.tooLong (z.length * k.toNat) = false := by
    unfold PySem.Builtin.Str.tooLong
    exact decide_eq_false (by omega)
  refine P.mul_str (by rw [decide_eq_false (by omega), decide_eq_false (by omega)]; rfl) (fun hk _ => ?_) (fun _ _ => hlong) ?_
  · have e : (z.length : Int) * k ≤ 2 ^ 63 - 1 := by
      have e1 : (z.length : Int) * k = ((z.length * k.toNat : Nat) : Int) := by
        rw [Int.natCast_mul, Int.toNat_of_nonneg h0]
      have e2 : sizeLine ≤ 9223372036854775807 := by rw [sizeLine_eq]; decide
      rw [e1]
      omega
    have hkp : 0 < k := by omega
    have := Int.le_ediv_of_mul_le hkp e
    omega
  · by_cases hk : k < 1
    · rw [if_pos hk]
      have e : k.toNat = 0 := by omega
      rw [e, rep_zero] at q
      exact ⟨by decide, ⟨.str _, H, I.tok _, ⟨_, rfl⟩, q⟩⟩
    · rw [if_neg hk]
      by_cases h2 : (k == 1 || z.length == 0) = true
      · rw [if_pos h2]
        have e : rep z k.toNat = z := by
          rcases Bool.or_eq_true_iff.mp h2 with e | e
          · have e' : k.toNat = 1 := by have := beq_iff_eq.mp e; omega
            rw [e', rep_one]
          · exact rep_empty _ _ (beq_iff_eq.mp e)
        rw [e] at q
        exact ⟨.str _, H, I, ⟨_, rfl⟩, q⟩
      · rw [if_neg h2, rep_fold]
        exact ⟨by rw [rep_len]; exact hz, ⟨.str _, H, I.tok _, ⟨_, rfl⟩, q⟩⟩
end Lx
namespace Lw
open PySem PySem.Spec L2 Lx
theorem same_upd {H : Hp} {p : Addr} {o : HO} (h : H p = none) : Same H (upd H p o) := fun b x e => by
  rw [upd_ne (ne_of_none e h)]
  exact e
abbrev steps : Str := "UDMN"
def ChOk (x : Str) : Prop := ∀ c ∈ x.cps.toList, c ∈ steps.cps.toList
abbrev nothing : Fm := .keep 0 0
def stepF (c : Nat) : Fm := if c = 85 then .keep 0 1 else if c = 68 then .keep 1 0 else if c = 77 then .lf 0 0 1 0 else .cr 0 0 1
def formL (cs : List Nat) : Fm := cs.foldl (fun f c => f.both (stepF c)) nothing
def formOf (x : Str) : Fm := formL x.cps.toList
def FLe (L : Nat) : Fm → Prop
  | .keep b a => 0 ≤ b ∧ b ≤ L ∧ 0 ≤ a ∧ a ≤ L
  | .lf b a k c => 0 ≤ b ∧ b ≤ L ∧ 0 ≤ a ∧ a ≤ L ∧ 0 < k ∧ Sm (13 * L + 1) k ∧ 0 ≤ c ∧ c ≤ L
  | .cr b a k => 0 ≤ b ∧ b ≤ L ∧ 0 ≤ a ∧ a ≤ L ∧ 0 < k ∧ Sm (13 * L + 1) k
theorem sm_le {L : Nat} {x : Int} (h0 : 0 ≤ x) (h : x ≤ L) : Sm (13 * L + 1) x := by
  have h1 : L < 2 ^ L := Nat.lt_two_pow_self
  have h2 : 2 ^ L ≤ 2 ^ (13 * L + 1) := Nat.pow_le_pow_right (by decide) (by omega)
  unfold Sm
  omega
theorem FLe.ok {L : Nat} : ∀ {f : Fm}, FLe L f → f.Ok (13 * L + 1)
  | .keep _ _, ⟨h1, h2, h3, h4⟩ => ⟨h1, h3, sm_le h1 h2, sm_le h3 h4⟩
  | .lf _ _ _ _, ⟨h1, h2, h3, h4, h5, h6, h7, h8⟩ => ⟨h1, h3, h5, h7, sm_le h1 h2, sm_le h3 h4, h6, sm_le h7 h8⟩
  | .cr _ _ _, ⟨h1, h2, h3, h4, h5, h6⟩ => ⟨h1, h3, h5, sm_le h1 h2, sm_le h3 h4, h6⟩
theorem step_cases {c : Nat} (h : c ∈ steps.cps.toList) : stepF c = .keep 0 1 ∨ stepF c = .keep 1 0 ∨ stepF c = .lf 0 0 1 0 ∨ stepF c = .cr 0 0 1 := by
  unfold stepF
  split
  · exact .inl rfl
  · split
    · exact .inr (.inl rfl)
    · split
      · exact .inr (.inr (.inl rfl))
      · exact .inr (.inr (.inr rfl))
theorem sm_mul {L : Nat} {k x : Int} (hk : Sm (13 * L + 1) k) (h0 : 0 ≤ x) (h : x < 8192) : Sm (13 * (L + 1) + 1) (k * x * 1) := by
  have e : Sm 13 x := by
    unfold Sm
    have : (2 : Nat) ^ 13 = 8192 := by decide
    omega
  rw [Int.mul_one]
  exact (hk.mul e).mono (by omega)
theorem sm_up {L : Nat} {k : Int} (hk : Sm (13 * L + 1) k) : Sm (13 * (L + 1) + 1) k := hk.mono (by omega)
theorem pp (x : Int) : 0 ≤ (if x > 0 then x else 0) ∧ ((if x > 0 then x else 0) = x ∨ ((if x > 0 then x else 0) = 0 ∧ x ≤ 0)) := by
  by_cases h : x > 0
  · rw [if_pos h]; omega
  · rw [if_neg h]; omega
theorem FLe.step {L : Nat} (hL : L ≤ 7000) {c : Nat} (hc : c ∈ steps.cps.toList) {f : Fm} (h : FLe L f) : FLe (L + 1) (f.both (stepF c)) := by
  cases f with
  | keep b a =>
    obtain ⟨h1, h2, h3, h4⟩ := h
    have p1 := pp (0 - a)
    have p2 := pp (a - 0)
    have p3 := pp (1 - a)
    have p4 := pp (a - 1)
    have one : Sm (13 * (L + 1) + 1) 1 := sm_le (L := L + 1) (by decide) (by omega)
    rcases step_cases hc with e | e | e | e <;> rw [e] <;> simp only [Fm.both, Fm.ahead, Fm.b, Fm.a, FLe]
    · exact ⟨by omega, by omega, by omega, by omega⟩
    · exact ⟨by omega, by omega, by omega, by omega⟩
    · exact ⟨by omega, by omega, by omega, by omega, by decide, one, by decide, by omega⟩
    · exact ⟨by omega, by omega, by omega, by omega, by decide, one⟩
  | lf b a k d =>
    obtain ⟨h1, h2, h3, h4, h5, h6, h7, h8⟩ := h
    have p1 := pp (d - 0)
    have p2 := pp (d - 1)
    rcases step_cases hc with e | e | e | e <;> rw [e] <;> simp only [Fm.both, Fm.after, Fm.b, Fm.a, FLe]
    · exact ⟨h1, by omega, h3, by omega, h5, sm_up h6, by omega, by omega⟩
    · exact ⟨h1, by omega, h3, by omega, h5, sm_up h6, by omega, by omega⟩
    · refine ⟨h1, by omega, h3, by omega, ?_, sm_mul h6 (by omega) (by omega), by decide, by omega⟩
      rw [Int.mul_one]
      exact Int.mul_pos h5 (by omega)
    · refine ⟨h1, by omega, h3, by omega, ?_, sm_mul h6 (by omega) (by omega)⟩
      rw [Int.mul_one]
      exact Int.mul_pos h5 (by omega)
  | cr b a k =>
    obtain ⟨h1, h2, h3, h4, h5, h6⟩ := h
    rcases step_cases hc with e | e | e | e <;> rw [e] <;> simp only [Fm.both, FLe, Int.mul_one]
    · exact ⟨h1, by omega, h3, by omega, h5, sm_up h6⟩
    · exact ⟨h1, by omega, h3, by omega, h5, sm_up h6⟩
    · exact ⟨h1, by omega, h3, by omega, h5, sm_up h6, by decide, by omega⟩
    · exact ⟨h1, by omega, h3, by omega, h5, sm_up h6⟩
/-- the forms of the steps, and of no step -/
structure StepT (K : PySem.W.Frag) (w : World) (mg : Str → Option Value) (aN aS : Addr) : Prop where
  gN : mg "NOTHING" = some (.ref aN)
  n : ∀ H : Hp, FmAt K H (.ref aN) nothing
  gS : mg "STEP_FORMS" = some (.ref aS)
  s : ∀ c ∈ steps.cps.toList, ∃ v, KDct K w aS ⟨#[c]⟩ v ∧ ∀ H : Hp, FmAt K H v (stepF c)
theorem Same.own {H H' : Hp} {p : Addr} {o : HO} (s : Same H H') (n : H p = none) : Same H (upd H' p o) := fun b x e => by
  rw [upd_ne (ne_of_none e n)]
  exact s b x e
theorem SqT.lstUpd {K : PySem.W.Frag} {H : Hp} {a p : Addr} {xs ys : List V} {o : HO} (h : SqT K H a xs) (e : H p = some (.lst ys)) : SqT K (upd H p o) a xs := by
  have ne : ∀ o', H a = some o' → (∀ zs, o' ≠ .lst zs) → a ≠ p := fun o' h1 h2 z => by
    subst z
    rw [e] at h1
    exact h2 _ (Option.some.inj h1).symm
  rcases h with (h | ⟨q, h⟩) | h
  · exact .inl (.inl (by rw [upd_ne (ne _ h (fun zs z => by cases z))]; exact h))
  · exact .inl (.inr ⟨q, by rw [upd_ne (ne _ h (fun zs z => by cases z))]; exact h⟩)
  · exact .inr h
theorem Prs.lstUpd {K : PySem.W.Frag} {H : Hp} {p : Addr} {ys : List V} {o : HO} (e : H p = some (.lst ys)) : ∀ {vs : List V} {gs : List (Int × Int)}, Prs K H vs gs → Prs K (upd H p o) vs gs
  | _, _, .nil => .nil
  | _, _, .cons ⟨q, h1, h2⟩ t => .cons ⟨q, h1, by rw [upd_ne (ne_of h2 e (by intro z; cases z))]; exact h2⟩ (Prs.lstUpd e t)
theorem Prs.back {K : PySem.W.Frag} {H : Hp} : ∀ {vs : List V} {gs : List (Int × Int)} {x : Int × Int}, Prs K H vs (gs ++ [x]) → ∃ ws v, vs = ws ++ [v] ∧ Prs K H ws gs ∧ PrAt H v x
  | _, [], x, h => by
    cases h with
    | cons h1 t =>
      cases t
      exact ⟨[], _, rfl, .nil, h1⟩
  | _, g :: gs, x, h => by
    cases h with
    | cons h1 t =>
      obtain ⟨ws, v, rfl, a, b⟩ := Prs.back (gs := gs) t
      exact ⟨_ :: ws, v, rfl, .cons h1 a, b⟩
theorem snoc_or {α : Type} : ∀ l : List α, l = [] ∨ ∃ a x, l = a ++ [x]
  | [] => .inl rfl
  | x :: l => by
    rcases snoc_or l with rfl | ⟨a, y, rfl⟩
    · exact .inr ⟨[], x, rfl⟩
    · exact .inr ⟨x :: a, y, rfl⟩
theorem addTo_nil (x : Int × Int) : addTo [] x = [x] := rfl
theorem addTo_snoc (a : List (Int × Int)) (y x : Int × Int) : addTo (a ++ [y]) x = if y.2 = x.2 then a ++ [(y.1 + x.1, x.2)] else a ++ [y] ++ [x] := by
  unfold addTo
  rw [List.getLast?_concat]
  simp
theorem ixN_last {α : Type} (a : List α) (x : α) : ixN (a ++ [x]).length (-1) = some a.length := by
  unfold ixN
  simp
  omega
/-- numbers of groups that may be reckoned with -/
def RnSm (n : Nat) (r : List (Int × Int) × Int) : Prop := (∀ x ∈ r.1, 0 ≤ x.1 ∧ 0 ≤ x.2 ∧ Sm n x.1 ∧ Sm n x.2) ∧ 0 ≤ r.2 ∧ Sm n r.2 ∧ r.1.length ≤ 1000
theorem RnOk.sm {n : Nat} {r : List (Int × Int) × Int} (h : RnOk n r) : RnSm n r := ⟨fun x hx => by
  obtain ⟨i, hi⟩ := List.mem_iff_getElem?.mp hx
  obtain ⟨h1, h2, h3, h4, _⟩ := h.gs i x hi
  exact ⟨by omega, h2, h3, h4⟩, h.rest.1, h.rest.2, h.len⟩
theorem sum_mapV {gs : List (Int × Int)} {f : Fm} : ((gs.map fun x => x.1 * (f.after x.2 + 1))).sum = total (moved f gs) := by
  unfold total moved
  rw [List.map_map]
  rfl
theorem sum_sm {m : Nat} : ∀ (ts : List Int), (∀ t ∈ ts, 0 ≤ t ∧ Sm m t) → 0 ≤ ts.sum ∧ ts.sum ≤ ts.length * (2 ^ m : Nat)
  | [], _ => ⟨by decide, by simp⟩
  | t :: ts, h => by
    obtain ⟨h0, h1⟩ := h t (List.mem_cons_self ..)
    obtain ⟨i0, i1⟩ := sum_sm ts fun x hx => h x (List.mem_cons_of_mem _ hx)
    rw [List.sum_cons, List.length_cons]
    have e : ((ts.length + 1 : Nat) : Int) * (2 ^ m : Nat) = ts.length * (2 ^ m : Nat) + (2 ^ m : Nat) := by
      rw [Int.natCast_add, Int.add_mul]
      simp
    unfold Sm at h1
    rw [e]
    generalize ((ts.length : Nat) : Int) * (2 ^ m : Nat) = T at *
    generalize 2 ^ m = M at *
    omega
theorem units_ok {n : Nat} {r : List (Int × Int) × Int} {f : Fm} (h : RnSm n r) (hf : f.Ok n) : 0 ≤ units r f ∧ Sm (2 * n + 20) (units r f) := by
  have key : ∀ t ∈ (r.1.map fun x => x.1 * (f.after x.2 + 1)), 0 ≤ t ∧ Sm (2 * n + 4) t := by
    intro t ht
    obtain ⟨x, hx, rfl⟩ := List.mem_map.mp ht
    obtain ⟨x1, x2, x3, x4⟩ := h.1 x hx
    have hb := Fm.after_ok hf x2 x4
    have hb2 : Sm (n + 2) (f.after x.2 + 1) := hb.2.add (Nat.lt_of_lt_of_le (by decide : (1 : Int).natAbs < 2 ^ 1) (Nat.pow_le_pow_right (by decide) (by omega)))
    exact ⟨Int.mul_nonneg x1 (by have := hb.1; omega), (x3.mul hb2).mono (by omega)⟩
  obtain ⟨s0, s1⟩ := sum_sm _ key
  rw [sum_mapV] at s0 s1
  rw [List.length_map] at s1
  have hl := h.2.2.2
  have hr0 := h.2.1
  have hr1 : r.2.natAbs < 2 ^ n := h.2.2.1
  have e1 : (r.1.length : Int) * (2 ^ (2 * n + 4) : Nat) ≤ 1000 * (2 ^ (2 * n + 4) : Nat) := Int.mul_le_mul_of_nonneg_right (by omega) (Int.natCast_nonneg _)
  have e2 : 2 ^ (2 * n + 20) = 2 ^ (2 * n + 4) * 65536 := by rw [show 2 * n + 20 = (2 * n + 4) + 16 from rfl, Nat.pow_add]
  have e3 : 2 ^ n ≤ 2 ^ (2 * n + 4) := Nat.pow_le_pow_right (by decide) (by omega)
  unfold units Sm
  rw [e2]
  generalize total (moved f r.1) = T at *
  generalize (r.1.length : Int) * (2 ^ (2 * n + 4) : Nat) = U at *
  generalize 2 ^ (2 * n + 4) = M at *
  generalize 2 ^ n = N at *
  omega
/-- a run that has just been made -/
def NewRn (K : PySem.W.Frag) (H H' : Hp) (v : V) (r : List (Int × Int) × Int) : Prop :=
  ∃ p l xs, v = .ref p ∧ H p = none ∧ H l = none ∧ H' p = some (.tup [.ref l, .int r.2]) ∧ H' l = some (.lst xs) ∧ Prs K H' xs r.1
theorem RnSm.mono {n m : Nat} {r : List (Int × Int) × Int} (h : RnSm n r) (k : n ≤ m) : RnSm m r :=
  ⟨fun x hx => ⟨(h.1 x hx).1, (h.1 x hx).2.1, (h.1 x hx).2.2.1.mono k, (h.1 x hx).2.2.2.mono k⟩, h.2.1, h.2.2.1.mono k, h.2.2.2⟩
theorem NewRn.back {K : PySem.W.Frag} {H0 H H' : Hp} {v : V} {r : List (Int × Int) × Int} (s : Same H0 H) (h : NewRn K H H' v r) : NewRn K H0 H' v r := by
  obtain ⟨p, l, xs, h1, h2, h3, h4⟩ := h
  exact ⟨p, l, xs, h1, s.free h2, s.free h3, h4⟩
def CPowW (i j : Int) : Prop := 0 ≤ j ∧ j ≤ 64 ∧ i.natAbs < 2 ^ 200000
theorem op_powW {X : Cx} : OpR X (binaryOp .Pow) (rI CPowW fun i j => .int (i ^ j.toNat)) := opI fun i j _ _ _ _ _ hc q => by
  refine PyProof.Rows.pow_int hc.1 ?_ q
  have h1 := PySem.Flt.log2_lt_of (by decide : 0 < 200000) hc.2.2
  have h2 : Builtin.Int.intBits i ≤ i.natAbs.log2 + 1 := by
    unfold Builtin.Int.intBits
    split <;> omega
  have h3 : (Builtin.Int.intBits i : Int) ≤ 200000 := by omega
  have h4 := hc.2.1
  have h5 := hc.1
  have h6 : (Builtin.Int.intBits i : Int) * j ≤ 200000 * 64 := by
    refine Int.le_trans (Int.mul_le_mul_of_nonneg_right h3 h5) (Int.mul_le_mul_of_nonneg_left h4 (by decide))
  exact Int.le_trans h6 (by decide)
theorem fm {a b : Int} (hb : 0 < b) : 0 ≤ a.fmod b ∧ a.fmod b < b := by
  rw [Int.fmod_eq_emod_of_nonneg a (Int.le_of_lt hb)]
  exact ⟨Int.emod_nonneg a (by omega), Int.emod_lt_of_pos a hb⟩
theorem pow_sm {x : Int} (h0 : 0 ≤ x) (h : x < 2 ^ 200) {j : Int} (j0 : 0 ≤ j) (j1 : j ≤ 64) : CPowW x j := ⟨j0, j1, by
  have h1 : (x.natAbs : Int) < ((2 ^ 200 : Nat) : Int) := by
    rw [Int.natAbs_of_nonneg h0]
    exact h
  exact Nat.lt_of_lt_of_le (Int.ofNat_lt.mp h1) (Nat.pow_le_pow_right (by decide) (by decide))⟩
theorem cube_sm {x : Int} (h0 : 0 ≤ x) (h : x < 2147483648) : Sm 93 (x ^ Int.toNat 3) := by
  have e : x ^ Int.toNat 3 = x * x * x := by
    show x ^ 3 = _
    rw [Int.pow_succ, Int.pow_succ, Int.pow_succ, Int.pow_zero, Int.one_mul]
  have hx : Sm 31 x := by
    unfold Sm
    have : (2 : Nat) ^ 31 = 2147483648 := by decide
    omega
  rw [e]
  exact (hx.mul hx).mul hx
theorem p61 : (2 : Int) ^ Int.toNat 61 - 1 = 2305843009213693951 := by decide +kernel
theorem p61n : (2 : Int) ^ Int.toNat 61 - 1 ≠ 0 := by decide +kernel
theorem p61p : (0 : Int) < (2 : Int) ^ Int.toNat 61 - 1 := by decide +kernel
theorem p18n : (10 : Int) ^ Int.toNat 18 + 9 ≠ 0 := by decide +kernel
theorem while_fin {c : TT} {tb : TS} {D : Ends} {σ : St} {H : Hp} (Fin : St → Hp → Prop) (h : ∀ R : St → Hp → Prop, (∀ σ H, Fin σ H → R σ H) → tWhile c tb { D with nx := R } σ H) (hf : ∀ σ H, Fin σ H → D.nx σ H) : tWhile c tb D σ H := h D.nx hf
theorem dps {K : PySem.W.Frag} {H : Hp} : ∀ ds : List Int, DpAll K H (ds.map V.int) (ds.map PyData.int)
  | [] => .nil
  | d :: ds => .cons (.int d) (dps ds)
theorem shaped_ints (ds : List Int) : SeqAt.shaped (.list (ds.map .int)) = true := by
  have h1 : ∀ ds : List Int, PyData.canLayAll0 (ds.map .int) = true := fun ds => by
    induction ds with
    | nil => rfl
    | cons d ds ih => simp only [List.map_cons, PyData.canLayAll0, PyData.canLay0, ih, Bool.and_self]
  have h2 : ∀ ds : List Int, PyData.depthAll (ds.map .int) = 0 := fun ds => by
    induction ds with
    | nil => rfl
    | cons d ds ih => simp [PyData.depthAll, PyData.depth, ih]
  unfold SeqAt.shaped
  simp [PyData.canLay0, PyData.depth, h1, h2]
theorem p18 : (10 : Int) ^ Int.toNat 18 = 1000000000000000000 := by decide +kernel
def TT (K : PySem.W.Frag) (H : Hp) (a : Addr) : Prop := (∃ ys, H a = some (.tup ys)) ∨ (∃ o, K.lookup a = some o ∧ o.cls = .type "tuple") ∨ ∃ o ys, H a = some (.frz o (.tup ys))
mutual
inductive Dq (K : PySem.W.Frag) (H : Hp) : V → PyData → Prop
  | non : Dq K H .non .none
  | bl (b : Bool) : Dq K H (.bl b) (.bool b)
  | int (i : Int) : Dq K H (.int i) (.int i)
  | str (x : Str) : Dq K H (.str x) (.str x)
  | lst {a : Addr} {xs : List V} {ds : List PyData} : H a = some (.lst xs) → DqAll K H xs ds → Dq K H (.ref a) (.list ds)
  | tup {a : Addr} {xs : List V} {ds : List PyData} : TT K H a → SqT K H a xs → DqAll K H xs ds → Dq K H (.ref a) (.tuple ds)
inductive DqAll (K : PySem.W.Frag) (H : Hp) : List V → List PyData → Prop
  | nil : DqAll K H [] []
  | cons {v : V} {vs : List V} {d : PyData} {ds : List PyData} : Dq K H v d → DqAll K H vs ds → DqAll K H (v :: vs) (d :: ds)
end
theorem TT.ty {K : PySem.W.Frag} {H : Hp} {a : Addr} : TT K H a → TyX K H (.ref a) (.type "tuple")
  | .inl ⟨_, h⟩ => .base (.tup h)
  | .inr (.inl ⟨_, h, c⟩) => .kTuple h c
  | .inr (.inr ⟨_, _, h⟩) => .fTuple h
theorem SqT.tt {K : PySem.W.Frag} {H : Hp} {a : Addr} {xs : List V} : SqT K H a xs → TT K H a
  | .inl (.inl h) => .inl ⟨_, h⟩
  | .inl (.inr ⟨_, h⟩) => .inr (.inr ⟨_, _, h⟩)
  | .inr ⟨_, _, _, h, c, _⟩ => .inr (.inl ⟨_, h, c⟩)
theorem TT.same {K : PySem.W.Frag} {H H' : Hp} {a : Addr} (s : Same H H') : TT K H a → TT K H' a
  | .inl ⟨ys, h⟩ => .inl ⟨ys, s _ _ h⟩
  | .inr (.inl h) => .inr (.inl h)
  | .inr (.inr ⟨o, ys, h⟩) => .inr (.inr ⟨o, ys, s _ _ h⟩)
mutual
theorem Dq.same {K : PySem.W.Frag} {H H' : Hp} (s : Same H H') : ∀ {v : V} {d : PyData}, Dq K H v d → Dq K H' v d
  | _, _, .non => .non
  | _, _, .bl b => .bl b
  | _, _, .int i => .int i
  | _, _, .str x => .str x
  | _, _, .lst h t => .lst (s _ _ h) (DqAll.same s t)
  | _, _, .tup h1 h2 t => .tup (h1.same s) (sameT s h2) (DqAll.same s t)
theorem DqAll.same {K : PySem.W.Frag} {H H' : Hp} (s : Same H H') : ∀ {vs : List V} {ds : List PyData}, DqAll K H vs ds → DqAll K H' vs ds
  | _, _, .nil => .nil
  | _, _, .cons h t => .cons (Dq.same s h) (DqAll.same s t)
end
mutual
theorem Dq.dp {K : PySem.W.Frag} {H : Hp} : ∀ {v : V} {d : PyData}, Dq K H v d → Dp K H v d
  | _, _, .non => .non
  | _, _, .bl b => .bl b
  | _, _, .int i => .int i
  | _, _, .str x => .str x
  | _, _, .lst h t => .lst (.inl (.inl h)) (DqAll.dp t)
  | _, _, .tup _ h2 t => .tup h2 (DqAll.dp t)
theorem DqAll.dp {K : PySem.W.Frag} {H : Hp} : ∀ {vs : List V} {ds : List PyData}, DqAll K H vs ds → DpAll K H vs ds
  | _, _, .nil => .nil
  | _, _, .cons h t => .cons (Dq.dp h) (DqAll.dp t)
end
theorem DqAll.len {K : PySem.W.Frag} {H : Hp} : ∀ {vs : List V} {ds : List PyData}, DqAll K H vs ds → vs.length = ds.length
  | _, _, .nil => rfl
  | _, _, .cons _ t => by rw [List.length_cons, List.length_cons, DqAll.len t]
theorem DqAll.get {K : PySem.W.Frag} {H : Hp} : ∀ {vs : List V} {ds : List PyData}, DqAll K H vs ds → ∀ {i : Nat} {d : PyData}, ds[i]? = some d → ∃ v, vs[i]? = some v ∧ Dq K H v d
  | _, _, .nil, i, d, h => by simp at h
  | _, _, .cons h1 t, 0, d, h => by
    have e := Option.some.inj h
    subst e
    exact ⟨_, rfl, h1⟩
  | _, _, .cons h1 t, i + 1, d, h => DqAll.get t (i := i) h
mutual
def wd : PyData → Bool
  | .list xs | .tuple xs => decide (xs.length ≤ 5000) && wdAll xs
  | _ => true
def wdAll : List PyData → Bool
  | [] => true
  | x :: xs => wd x && wdAll xs
end
theorem wd_get : ∀ (xs : List PyData) (i : Nat) (x : PyData), wdAll xs = true → xs[i]? = some x → wd x = true
  | [], i, x, _, h => by simp at h
  | y :: ys, 0, x, h, e => by
    cases Option.some.inj e
    simp only [wdAll, Bool.and_eq_true] at h
    exact h.1
  | y :: ys, i + 1, x, h, e => by
    simp only [wdAll, Bool.and_eq_true] at h
    exact wd_get ys i x h.2 e
theorem depth_mem : ∀ (xs : List PyData) (i : Nat) (x : PyData), xs[i]? = some x → PyData.depth x ≤ PyData.depthAll xs := fun xs i x h => PyData.depth_le_depthAll xs x (List.mem_of_getElem? h)
def rIxA (K : PySem.W.Frag) : R2 := fun x y H Q => rIxL K x y H Q ∨ rIxT K x y H Q
theorem ix_any {X : Cx} {K : PySem.W.Frag} (h : X.K = K) : IxR X (rIxA K) := by
  subst h
  exact ix_list.or ix_tup
theorem ixA {K : PySem.W.Frag} {H H' : Hp} {a : Addr} {xs : List V} {j : Int} {i : Nat} {v : V} {Q : VK} (sm : Same H H') (h : SqL K H a xs ∨ SqT K H a xs) (e : j = i) (hv : xs[i]? = some v) (q : Q v H') : rIxA K (.ref a) (.int j) H' Q := by
  subst e
  rcases h with h | h
  · exact .inl ⟨a, xs, _, v, rfl, rfl, sm.seq h, atI_nat hv, q⟩
  · exact .inr ⟨a, xs, _, v, rfl, rfl, sameT sm h, atI_nat hv, q⟩
theorem ix_l {X : Cx} {K : PySem.W.Frag} (h : X.K = K) : IxR X (rIxL K) := by
  subst h
  exact ix_list
theorem far_sm {far : Int} (h0 : 4 ≤ far) (h : far < 2 ^ 97) : far.natAbs < 2 ^ 4000 := by
  have e : far.natAbs < 2 ^ 97 := by omega
  exact Nat.lt_of_lt_of_le e (Nat.pow_le_pow_right (by decide) (by decide))
def pd (gs : List (Int × Int)) : List PyData := gs.map fun x => .tuple [.int x.1, .int x.2]
theorem Prs.dp {K : PySem.W.Frag} {H : Hp} : ∀ {vs : List V} {gs : List (Int × Int)}, Prs K H vs gs → DpAll K H vs (pd gs)
  | _, _, .nil => .nil
  | _, _, .cons ⟨p, e, h⟩ t => by
    subst e
    exact .cons (.tup (.inl (.inl h)) (.cons (.int _) (.cons (.int _) .nil))) (Prs.dp t)
theorem pd_lay (gs : List (Int × Int)) : PyData.canLayAll0 (pd gs) = true := by
  unfold pd
  induction gs with
  | nil => rfl
  | cons g gs ih => simp only [List.map_cons, PyData.canLayAll0, PyData.canLay0, ih, Bool.and_self]
theorem pd_depth (gs : List (Int × Int)) : PyData.depthAll (pd gs) ≤ 1 := by
  unfold pd
  induction gs with
  | nil => simp [PyData.depthAll]
  | cons g gs ih =>
    simp only [List.map_cons, PyData.depthAll, PyData.depth]
    omega
theorem pd_shaped (gs : List (Int × Int)) : SeqAt.shaped (.list (pd gs)) = true := by
  have := pd_depth gs
  unfold SeqAt.shaped
  simp only [PyData.canLay0, pd_lay, PyData.depth, Bool.true_and]
  exact decide_eq_true (by omega)
theorem gsok_snoc {n : Nat} {gs : List (Int × Int)} {x : Int × Int} (h : GsOk n gs) (hl : ∀ a y, gs = a ++ [y] → y.2 ≠ x.2) (hx : 1 ≤ x.1 ∧ 0 ≤ x.2 ∧ Sm n x.1 ∧ Sm n x.2) : GsOk n (gs ++ [x]) := by
  intro i z hz
  by_cases hi : i < gs.length
  · rw [List.getElem?_append_left hi] at hz
    obtain ⟨h1, h2, h3, h4, h5⟩ := h i z hz
    refine ⟨h1, h2, h3, h4, fun y hy => ?_⟩
    by_cases hj : i + 1 < gs.length
    · rw [List.getElem?_append_left hj] at hy
      exact h5 y hy
    · have e : i + 1 = gs.length := by omega
      rw [e, List.getElem?_append_right (Nat.le_refl _), Nat.sub_self] at hy
      cases Option.some.inj hy
      rcases snoc_or gs with rfl | ⟨a, y', rfl⟩
      · simp at hi
      · have ea : i = a.length := by
          simp at e
          omega
        subst ea
        simp at hz
        subst hz
        exact Ne.symm (hl a y' rfl)
  · have hle : gs.length ≤ i := by omega
    rw [List.getElem?_append_right hle] at hz
    have e : i - gs.length = 0 := by
      have := (List.getElem?_eq_some_iff.mp hz).1
      simp at this
      omega
    rw [e] at hz
    cases Option.some.inj hz
    refine ⟨hx.1, hx.2.1, hx.2.2.1, hx.2.2.2, fun y hy => ?_⟩
    have := (List.getElem?_eq_some_iff.mp hy).1
    simp at this
    omega
def sameEnd (gs : List (Int × Int)) (j : Int) : Bool := match gs.getLast? with
  | some y => decide (y.2 = j)
  | none => false
theorem sameEnd_snoc (a : List (Int × Int)) (y : Int × Int) (j : Int) : sameEnd (a ++ [y]) j = decide (y.2 = j) := by
  unfold sameEnd
  rw [List.getLast?_concat]
theorem if_by {c : L2.TT} {A B : TS} {D : Ends} {σ : St} {H : Hp} (b : Bool) (R : Hp → Prop) (hc : ∀ K : Bool → Hp → Prop, (∀ H1, R H1 → K b H1) → c σ H K) (h : ∀ H1, R H1 → if b = true then A D σ H1 else B D σ H1) : tIfS c A B D σ H := hc _ h
theorem ix_t {X : Cx} {K : PySem.W.Frag} (h : X.K = K) : IxR X (rIxT K) := by
  subst h
  exact ix_tup
theorem gsok_front {n : Nat} {a : List (Int × Int)} {y : Int × Int} (h : GsOk n (a ++ [y])) : GsOk n a ∧ (∀ a' z, a = a' ++ [z] → z.2 ≠ y.2) ∧ 1 ≤ y.1 ∧ 0 ≤ y.2 := by
  refine ⟨fun i x hx => ?_, fun a' z e => ?_, ?_⟩
  · have hi := (List.getElem?_eq_some_iff.mp hx).1
    obtain ⟨h1, h2, h3, h4, h5⟩ := h i x (by rw [List.getElem?_append_left hi]; exact hx)
    refine ⟨h1, h2, h3, h4, fun w hw => ?_⟩
    have hi2 := (List.getElem?_eq_some_iff.mp hw).1
    exact h5 w (by rw [List.getElem?_append_left hi2]; exact hw)
  · subst e
    have := (h a'.length z (by simp)).2.2.2.2 y (by simp)
    exact fun q => this q.symm
  · have := h a.length y (by simp)
    exact ⟨this.1, this.2.1⟩
def MI (n t : Nat) (acc : List (Int × Int)) : Prop := GsOk (n + 11) acc ∧ (∀ x ∈ acc, x.1 ≤ (t : Int) * (2 ^ n : Nat)) ∧ acc.length ≤ t
theorem mi_sm {n t : Nat} {x : Int} (ht : t ≤ 1000) (h0 : 0 ≤ x) (h : x ≤ (t : Int) * (2 ^ n : Nat)) : Sm (n + 11) x := by
  have e : 2 ^ (n + 11) = 2 ^ n * 2048 := Nat.pow_add 2 n 11
  have e2 : (t : Int) * (2 ^ n : Nat) ≤ 1000 * (2 ^ n : Nat) := Int.mul_le_mul_of_nonneg_right (by omega) (Int.natCast_nonneg _)
  have e3 : 0 < 2 ^ n := Nat.two_pow_pos n
  unfold Sm
  rw [e]
  generalize (t : Int) * (2 ^ n : Nat) = T at *
  generalize 2 ^ n = M at *
  omega
theorem mi_step {n t : Nat} (ht : t < 1000) {acc : List (Int × Int)} {x : Int × Int} (h : MI n t acc) (x1 : 1 ≤ x.1) (x2 : Sm n x.1) (x3 : 0 ≤ x.2) (x4 : Sm (n + 1) x.2) : MI n (t + 1) (addTo acc x) := by
  obtain ⟨h1, h2, h3⟩ := h
  have hM : ((t + 1 : Nat) : Int) * (2 ^ n : Nat) = (t : Int) * (2 ^ n : Nat) + (2 ^ n : Nat) := by
    rw [Int.natCast_add, Int.add_mul]
    simp
  have hx : x.1 < (2 ^ n : Nat) := by
    unfold Sm at x2
    omega
  have ht0 : 0 ≤ (t : Int) * (2 ^ n : Nat) := Int.mul_nonneg (by omega) (Int.natCast_nonneg _)
  have up : ∀ y ∈ acc, y.1 ≤ ((t + 1 : Nat) : Int) * (2 ^ n : Nat) := fun y hy => by
    have := h2 y hy
    omega
  have xs : Sm (n + 11) x.1 := x2.mono (by omega)
  rcases snoc_or acc with rfl | ⟨a, y, rfl⟩
  · refine ⟨gsok_snoc (gs := []) (fun i z hz => by simp at hz) (fun a y e => by simp at e) ⟨x1, x3, xs, x4.mono (by omega)⟩, fun y hy => ?_, by show 1 ≤ t + 1; omega⟩
    have hy' : y = x := List.mem_singleton.mp hy
    rw [hy', hM]
    omega
  · rw [addTo_snoc]
    by_cases ey : y.2 = x.2
    · rw [if_pos ey]
      obtain ⟨g1, g2, g3, g4⟩ := gsok_front h1
      have hy1 := h2 y (by simp)
      have hs : y.1 + x.1 ≤ ((t + 1 : Nat) : Int) * (2 ^ n : Nat) := by omega
      refine ⟨gsok_snoc g1 (fun a' z e => by show z.2 ≠ x.2; rw [← ey]; exact g2 a' z e) ⟨by show 1 ≤ y.1 + x.1; omega, x3, mi_sm (t := t + 1) (by omega) (by show 0 ≤ y.1 + x.1; omega) hs, x4.mono (by omega)⟩, fun z hz => ?_, by simp only [List.length_append, List.length_cons, List.length_nil] at h3 ⊢; omega⟩
      rcases List.mem_append.mp hz with q | q
      · exact up z (List.mem_append.mpr (.inl q))
      · rw [List.mem_singleton.mp q]
        exact hs
    · rw [if_neg ey]
      refine ⟨gsok_snoc h1 (fun a' z e => by
        have := (List.append_inj' e rfl).2
        cases this
        exact ey) ⟨x1, x3, xs, x4.mono (by omega)⟩, fun z hz => ?_, by simp only [List.length_append, List.length_cons, List.length_nil] at h3 ⊢; omega⟩
      rcases List.mem_append.mp hz with q | q
      · exact up z q
      · rw [List.mem_singleton.mp q, hM]
        omega
theorem mi_fold {n : Nat} : ∀ (gs acc : List (Int × Int)) (t : Nat), t + gs.length ≤ 1000 → (∀ x ∈ gs, 1 ≤ x.1 ∧ Sm n x.1 ∧ 0 ≤ x.2 ∧ Sm (n + 1) x.2) → MI n t acc → MI n (t + gs.length) (gs.foldl addTo acc)
  | [], acc, t, _, _, h => h
  | g :: gs, acc, t, hl, hg, h => by
    have hl' : t + (gs.length + 1) ≤ 1000 := hl
    obtain ⟨g1, g2, g3, g4⟩ := hg g (List.mem_cons_self ..)
    have e := mi_fold gs (addTo acc g) (t + 1) (by omega) (fun x hx => hg x (List.mem_cons_of_mem _ hx)) (mi_step (by omega) h g1 g2 g3 g4)
    have e2 : t + 1 + gs.length = t + (g :: gs).length := by simp; omega
    rw [e2] at e
    exact e
theorem runAfter_ok {n : Nat} {r : List (Int × Int) × Int} {f : Fm} (h : RnOk n r) (hf : f.Ok n) : RnOk (3 * n + 40) (runAfter r f) := by
  have hu := units_ok (RnOk.sm h) hf
  cases f with
  | keep b a =>
    have m := mi_fold (n := n) (moved (.keep b a) r.1) [] 0 (by unfold moved; rw [List.length_map]; have := h.len; omega) (fun x hx => by
      obtain ⟨y, hy, rfl⟩ := List.mem_map.mp hx
      obtain ⟨i, hi⟩ := List.mem_iff_getElem?.mp hy
      obtain ⟨y1, y2, y3, y4, _⟩ := h.gs i y hi
      have := Fm.after_ok hf y2 y4
      exact ⟨y1, y3, this.1, this.2⟩) ⟨(fun i x hx => by simp at hx), (fun x hx => by cases hx), Nat.le_refl _⟩
    obtain ⟨m1, m2, m3⟩ := m
    refine ⟨fun i x hx => ?_, ⟨h.rest.1, h.rest.2.mono (by omega)⟩, ?_⟩
    · obtain ⟨q1, q2, q3, q4, q5⟩ := m1 i x hx
      exact ⟨q1, q2, q3.mono (by omega), q4.mono (by omega), q5⟩
    · have e : (moved (.keep b a) r.1).length = r.1.length := List.length_map ..
      have := h.len
      show (Lx.merged (moved (.keep b a) r.1)).length ≤ 1000
      unfold Lx.merged
      omega
  | lf b a k c =>
    by_cases z : k * units r (.lf b a k c) = 0
    · rw [show runAfter r (.lf b a k c) = ([], 0) from if_pos z]
      exact ⟨fun i x hx => by simp at hx, ⟨by decide, Nat.two_pow_pos _⟩, Nat.zero_le _⟩
    · rw [show runAfter r (.lf b a k c) = ([(k * units r (.lf b a k c), c)], 0) from if_neg z]
      have hp := Int.mul_nonneg (Int.le_of_lt hf.2.2.1) hu.1
      have hs := hf.2.2.2.2.2.2.1.mul hu.2
      exact ⟨gsok_snoc (gs := []) (fun i x hx => by simp at hx) (fun a y e => by simp at e) ⟨by show 1 ≤ k * units r (.lf b a k c); omega, hf.2.2.2.1, hs.mono (by omega), hf.2.2.2.2.2.2.2.mono (by omega)⟩, ⟨(by decide : (0 : Int) ≤ 0), Nat.two_pow_pos _⟩, by show 1 ≤ 1000; decide⟩
  | cr b a k =>
    have hs := hf.2.2.2.2.2.mul hu.2
    exact ⟨fun i x hx => by simp [runAfter] at hx, ⟨Int.mul_nonneg (Int.le_of_lt hf.2.2.1) hu.1, hs.mono (by omega)⟩, Nat.zero_le _⟩
theorem units_nothing {n : Nat} {r : List (Int × Int) × Int} (h : RnSm n r) : (r.1.map fun x => x.1 * (x.2 + 1)).sum + r.2 = units r nothing := by
  have e : moved nothing r.1 = r.1 := by
    unfold moved
    have : ∀ gs : List (Int × Int), (∀ x ∈ gs, 0 ≤ x.2) → gs.map (fun x => (x.1, nothing.after x.2)) = gs := by
      intro gs
      induction gs with
      | nil => intro _; rfl
      | cons g gs ih =>
        intro hg
        have h0 := hg g (List.mem_cons_self ..)
        have e0 : nothing.after g.2 = g.2 := by
          show (if g.2 - 0 > 0 then g.2 - 0 else 0) + 0 = g.2
          have := pp (g.2 - 0)
          omega
        rw [List.map_cons, ih fun x hx => hg x (List.mem_cons_of_mem _ hx), e0]
    exact this r.1 fun x hx => (h.1 x hx).2.1
  unfold units
  rw [e]
  rfl
def RnS (K : PySem.W.Frag) (H : Hp) (v : V) (l : Addr) (g : List (Int × Int) × Int) : Prop := ∃ p xs, v = .ref p ∧ H p = some (.tup [.ref l, .int g.2]) ∧ H l = some (.lst xs) ∧ Prs K H xs g.1
theorem NewRn.s {K : PySem.W.Frag} {H H' : Hp} {v : V} {g : List (Int × Int) × Int} : NewRn K H H' v g → ∃ l, H l = none ∧ RnS K H' v l g := fun ⟨p, l, xs, h1, h2, h3, h4, h5, h6⟩ => ⟨l, h3, p, xs, h1, h4, h5, h6⟩
theorem RnS.same {K : PySem.W.Frag} {H H' : Hp} {v : V} {l : Addr} {g : List (Int × Int) × Int} (s : Same H H') : RnS K H v l g → RnS K H' v l g := fun ⟨p, xs, h1, h2, h3, h4⟩ => ⟨p, xs, h1, s _ _ h2, s _ _ h3, h4.same s⟩
theorem RnS.rn {K : PySem.W.Frag} {H : Hp} {v : V} {l : Addr} {g : List (Int × Int) × Int} : RnS K H v l g → RnAt K H v l g := fun ⟨p, xs, h1, h2, h3, h4⟩ => ⟨p, h1, .inl (.inl h2), xs, .inl (.inl h3), h4⟩
theorem RnS.upd {K : PySem.W.Frag} {H : Hp} {v : V} {l l2 : Addr} {g : List (Int × Int) × Int} {ys : List V} {o : HO} (e : H l2 = some (.lst ys)) (ne : l ≠ l2) : RnS K H v l g → RnS K (upd H l2 o) v l g :=
  fun ⟨p, xs, h1, h2, h3, h4⟩ => ⟨p, xs, h1, by rw [upd_ne (ne_of h2 e (by intro z; cases z))]; exact h2, by rw [upd_ne ne]; exact h3, Prs.lstUpd e h4⟩
theorem RnS.ne {K : PySem.W.Frag} {H : Hp} {v : V} {l p : Addr} {g : List (Int × Int) × Int} (h : RnS K H v l g) (n : H p = none) : l ≠ p := by
  obtain ⟨_, _, _, _, h3, _⟩ := h
  exact ne_of_none h3 n
def rd (g : List (Int × Int) × Int) : PyData := .tuple [.list (pd g.1), .int g.2]
theorem Prs.dq {K : PySem.W.Frag} {H : Hp} : ∀ {vs : List V} {gs : List (Int × Int)}, Prs K H vs gs → DqAll K H vs (pd gs)
  | _, _, .nil => .nil
  | _, _, .cons ⟨p, e, h⟩ t => by
    subst e
    exact .cons (.tup (.inl ⟨_, h⟩) (.inl (.inl h)) (.cons (.int _) (.cons (.int _) .nil))) (Prs.dq t)
theorem RnS.dq {K : PySem.W.Frag} {H : Hp} {v : V} {l : Addr} {g : List (Int × Int) × Int} : RnS K H v l g → Dq K H v (rd g) := fun ⟨p, xs, h1, h2, h3, h4⟩ => by
  subst h1
  exact .tup (.inl ⟨_, h2⟩) (.inl (.inl h2)) (.cons (.lst h3 (Prs.dq h4)) (.cons (.int _) .nil))
def fdt : Fm → PyData
  | .keep b a => .tuple [.str "keep", .int b, .int a]
  | .lf b a k c => .tuple [.str "lf", .int b, .int a, .int k, .int c]
  | .cr b a k => .tuple [.str "cr", .int b, .int a, .int k]
theorem fm_dq {K : PySem.W.Frag} {H : Hp} {p : Addr} {f : Fm} (h : H p = some (.tup f.vs)) : Dq K H (.ref p) (fdt f) := by
  cases f with
  | keep b a => exact .tup (.inl ⟨_, h⟩) (.inl (.inl h)) (.cons (.str _) (.cons (.int _) (.cons (.int _) .nil)))
  | lf b a k c => exact .tup (.inl ⟨_, h⟩) (.inl (.inl h)) (.cons (.str _) (.cons (.int _) (.cons (.int _) (.cons (.int _) (.cons (.int _) .nil)))))
  | cr b a k => exact .tup (.inl ⟨_, h⟩) (.inl (.inl h)) (.cons (.str _) (.cons (.int _) (.cons (.int _) (.cons (.int _) .nil))))
theorem rd_shaped (g : List (Int × Int) × Int) : SeqAt.shaped (rd g) = true := by
  have := pd_depth g.1
  unfold SeqAt.shaped rd
  simp only [PyData.canLay0, PyData.canLayAll0, pd_lay, PyData.depth, PyData.depthAll, Bool.true_and, Bool.and_true]
  exact decide_eq_true (by omega)
theorem pd_wd (gs : List (Int × Int)) : wdAll (pd gs) = true := by
  unfold pd
  induction gs with
  | nil => rfl
  | cons g gs ih => simp only [List.map_cons, wdAll, wd, ih, Bool.and_true, List.length_cons, List.length_nil, Bool.and_self, decide_true]; exact decide_eq_true (by omega)
theorem rd_wd {g : List (Int × Int) × Int} (h : g.1.length ≤ 1000) : wd (rd g) = true := by
  have e : (pd g.1).length = g.1.length := List.length_map ..
  unfold rd
  simp only [wd, wdAll, pd_wd, List.length_cons, List.length_nil, Bool.and_true]
  rw [decide_eq_true (by omega : (pd g.1).length ≤ 5000)]
  simp
theorem rd_depth (g : List (Int × Int) × Int) : (rd g).depth ≤ 3 := by
  have := pd_depth g.1
  unfold rd
  simp only [PyData.depth, PyData.depthAll]
  omega
def shw (g : List (Int × Int) × Int) (f : Fm) : PyData := .list [rd g, fdt f]
theorem sm400 {x : Int} (h : Sm 100 x) : x.natAbs < 2 ^ 400 := Nat.lt_of_lt_of_le h (Nat.pow_le_pow_right (by decide) (by decide))
theorem pd_small : ∀ (gs : List (Int × Int)), (∀ x ∈ gs, Sm 100 x.1 ∧ Sm 100 x.2) → small.smallAll (pd gs) = true
  | [], _ => rfl
  | g :: gs, h => by
    have h1 := h g (List.mem_cons_self ..)
    have ih := pd_small gs fun x hx => h x (List.mem_cons_of_mem _ hx)
    unfold pd at ih ⊢
    simp only [List.map_cons, small.smallAll, small, ih, Bool.and_true]
    rw [decide_eq_true (sm400 h1.1), decide_eq_true (sm400 h1.2)]
    rfl
theorem pd_bulk (gs : List (Int × Int)) : PyData.bulkAll (pd gs) ≤ 20 * gs.length := by
  unfold pd
  induction gs with
  | nil => exact Nat.le_refl _
  | cons g gs ih =>
    simp only [List.map_cons, PyData.bulkAll, PyData.bulk, List.length_cons]
    omega
theorem fdt_small {f : Fm} (h : f.Ok 100) : small (fdt f) = true := by
  cases f with
  | keep b a =>
    obtain ⟨_, _, h1, h2⟩ := h
    simp only [fdt, small, small.smallAll]
    rw [decide_eq_true (sm400 h1), decide_eq_true (sm400 h2)]
    decide
  | lf b a k c =>
    obtain ⟨_, _, _, _, h1, h2, h3, h4⟩ := h
    simp only [fdt, small, small.smallAll]
    rw [decide_eq_true (sm400 h1), decide_eq_true (sm400 h2), decide_eq_true (sm400 h3), decide_eq_true (sm400 h4)]
    decide
  | cr b a k =>
    obtain ⟨_, _, _, h1, h2, h3⟩ := h
    simp only [fdt, small, small.smallAll]
    rw [decide_eq_true (sm400 h1), decide_eq_true (sm400 h2), decide_eq_true (sm400 h3)]
    decide
theorem shw_fit {g : List (Int × Int) × Int} {f : Fm} (h : RnOk 100 g) (hf : f.Ok 100) : Fit (shw g f) := by
  refine fit_small ?_ ?_ ?_
  · have e1 := pd_small g.1 fun x hx => by
      obtain ⟨i, hi⟩ := List.mem_iff_getElem?.mp hx
      exact ⟨(h.gs i x hi).2.2.1, (h.gs i x hi).2.2.2.1⟩
    unfold shw rd
    simp only [small, small.smallAll, e1, fdt_small hf, Bool.and_true, Bool.true_and]
    exact decide_eq_true (sm400 h.rest.2)
  · have e := rd_depth g
    have e2 : (fdt f).depth ≤ 1 := by cases f <;> simp [fdt, PyData.depth, PyData.depthAll]
    unfold shw
    simp only [PyData.depth, PyData.depthAll]
    omega
  · have e := pd_bulk g.1
    have e2 : (fdt f).bulk ≤ 200 := by cases f <;> (simp [fdt, PyData.bulk, PyData.bulkAll]; decide)
    have e3 := h.len
    unfold shw rd
    simp only [PyData.bulk, PyData.bulkAll]
    omega
/-- a def that is called by its name -/
structure Cl (P : Program) (w : World) (K : PySem.W.Frag) (mg : Str → Option Value) (base : Heap) (k : Nat) (nm : Str) (ps : List Str) (sp : Sp) (f : Addr) (fd : FuncData) : Prop where
  G : FnOk P w K mg base CX0 k f fd ps sp
  kp : PySem.W.keepIn K (.ref f) = true
  b : Binds K fd ps []
  g : mg nm = some (.ref f)
theorem upd_keep {H : Hp} {t l b : Addr} {o1 o2 o : HO} (nt : H t = none) (ne : b ≠ l) (h : H b = some o) : upd (upd H t o1) l o2 b = some o := by
  rw [upd_ne ne, upd_ne (ne_of_none h nt)]
  exact h
end Lw
namespace Lw
open PySem PySem.Spec L2 Lx
theorem wh3 : ∀ f : Fm, ¬ (HT.sIx f.vs.length 0 (some 3) = 0 ∧ HT.sIx f.vs.length f.vs.length none = f.vs.length)
  | .keep _ _ => show ¬ (HT.sIx 3 0 (some 3) = 0 ∧ HT.sIx 3 3 none = 3) by decide
  | .lf _ _ _ _ => show ¬ (HT.sIx 5 0 (some 3) = 0 ∧ HT.sIx 5 5 none = 5) by decide
  | .cr _ _ _ => show ¬ (HT.sIx 4 0 (some 3) = 0 ∧ HT.sIx 4 4 none = 4) by decide
theorem vs_len : ∀ f : Fm, f.vs.length ≤ 5
  | .keep _ _ => by show 3 ≤ 5; decide
  | .lf _ _ _ _ => Nat.le_refl 5
  | .cr _ _ _ => by show 4 ≤ 5; decide
def Fm.isKeep : Fm → Bool
  | .keep _ _ => true
  | _ => false
/-- units of one unit -/
def Fm.one : Fm → Fm → Int
  | .lf _ _ _ c, g => g.after c + 1
  | _, _ => 1
theorem nk_k {f : Fm} (h : Fm.isKeep f = false) : ∃ k, f.vs[3]? = some (.int k) := by
  cases f with
  | keep _ _ => cases h
  | lf _ _ k _ => exact ⟨k, rfl⟩
  | cr _ _ k => exact ⟨k, rfl⟩
theorem nk_ok {f : Fm} {n : Nat} {k : Int} (h : Fm.isKeep f = false) (o : f.Ok n) (e : f.vs[3]? = some (.int k)) : 0 < k ∧ Sm n k := by
  cases f with
  | keep _ _ => cases h
  | lf _ _ _ _ => cases e; exact ⟨o.2.2.1, o.2.2.2.2.2.2.1⟩
  | cr _ _ _ => cases e; exact ⟨o.2.2.1, o.2.2.2.2.2⟩
theorem nk_pos {f : Fm} {n : Nat} (h : Fm.isKeep f = false) (o : f.Ok n) : 0 < n := by
  obtain ⟨k, e⟩ := nk_k h
  have h1 := nk_ok h o e
  have h2 : k.natAbs < 2 ^ n := h1.2
  have h3 := h1.1
  rcases Nat.eq_zero_or_pos n with z | z
  · subst z
    omega
  · exact z
theorem one_ok {f g : Fm} {n : Nat} (h : Fm.isKeep f = false) (o : f.Ok n) (og : g.Ok n) : 0 < Fm.one f g ∧ Sm (n + 2) (Fm.one f g) := by
  have h4 : 2 ^ 2 ≤ 2 ^ (n + 2) := Nat.pow_le_pow_right (by decide) (by omega)
  cases f with
  | keep _ _ => cases h
  | lf b a k c =>
    have e := Fm.after_ok og o.2.2.2.1 o.2.2.2.2.2.2.2
    have e2 : 2 ^ (n + 2) = 2 ^ (n + 1) * 2 := Nat.pow_succ 2 (n + 1)
    have e3 : (g.after c).natAbs < 2 ^ (n + 1) := e.2
    have e4 := e.1
    have e5 : 1 ≤ 2 ^ (n + 1) := Nat.one_le_two_pow
    refine ⟨by show 0 < g.after c + 1; omega, ?_⟩
    show (g.after c + 1).natAbs < 2 ^ (n + 2)
    rw [e2]
    generalize 2 ^ (n + 1) = M at *
    omega
  | cr _ _ _ => exact ⟨(by decide : (0 : Int) < 1), Nat.lt_of_lt_of_le (by decide : (1 : Int).natAbs < 2 ^ 2) h4⟩
theorem wh4 : ∀ f : Fm, ¬ (HT.sIx f.vs.length 0 (some 4) = 0 ∧ HT.sIx f.vs.length f.vs.length none = f.vs.length)
  | .keep _ _ => show ¬ (HT.sIx 3 0 (some 4) = 0 ∧ HT.sIx 3 3 none = 3) by decide
  | .lf _ _ _ _ => show ¬ (HT.sIx 5 0 (some 4) = 0 ∧ HT.sIx 5 5 none = 5) by decide
  | .cr _ _ _ => show ¬ (HT.sIx 4 0 (some 4) = 0 ∧ HT.sIx 4 4 none = 4) by decide
/-- the run that a form which keeps no groups makes of so many units -/
def ofUnits (t : Int) : Fm → List (Int × Int) × Int
  | .keep _ _ => ([], 0)
  | .lf _ _ k c => if k * t = 0 then ([], 0) else ([(k * t, c)], 0)
  | .cr _ _ k => ([], k * t)
theorem runAfter_units {r : List (Int × Int) × Int} {f : Fm} (h : Fm.isKeep f = false) : runAfter r f = ofUnits (units r f) f := by
  cases f with
  | keep _ _ => cases h
  | lf _ _ _ _ => rfl
  | cr _ _ _ => rfl
/-- the lengths of forms by their words -/
structure LenT (K : PySem.W.Frag) (w : World) (mg : Str → Option Value) (aL : Addr) : Prop where
  g : mg "FORM_LENGTHS" = some (.ref aL)
  d : ∃ es n, KDict K w aL es n
  keep : ∃ t, PySem.W.nsIn K aL "keep" = some (some (.int 3 t))
  lf : ∃ t, PySem.W.nsIn K aL "lf" = some (some (.int 5 t))
  cr : ∃ t, PySem.W.nsIn K aL "cr" = some (some (.int 4 t))
theorem LenT.at {K : PySem.W.Frag} {w : World} {mg : Str → Option Value} {aL : Addr} (T : LenT K w mg aL) : ∀ f : Fm, ∃ t, PySem.W.nsIn K aL f.nm = some (some (.int f.vs.length t))
  | .keep _ _ => T.keep
  | .lf _ _ _ _ => T.lf
  | .cr _ _ _ => T.cr
theorem cut1 (f : Fm) : cutV f.vs (some 1) none = f.nums.map V.int := by cases f <;> rfl
theorem wh : ∀ f : Fm, ¬ (HT.sIx f.vs.length 0 (some 1) = 0 ∧ HT.sIx f.vs.length f.vs.length none = f.vs.length)
  | .keep _ _ => show ¬ (HT.sIx 3 0 (some 1) = 0 ∧ HT.sIx 3 3 none = 3) by decide
  | .lf _ _ _ _ => show ¬ (HT.sIx 5 0 (some 1) = 0 ∧ HT.sIx 5 5 none = 5) by decide
  | .cr _ _ _ => show ¬ (HT.sIx 4 0 (some 1) = 0 ∧ HT.sIx 4 4 none = 4) by decide
theorem np : ∀ f : Fm, 0 < f.nums.length
  | .keep _ _ => Nat.succ_pos _
  | .lf _ _ _ _ => Nat.succ_pos _
  | .cr _ _ _ => Nat.succ_pos _
theorem nums0 {f : Fm} {n : Nat} (h : f.Ok n) : ∀ x ∈ f.nums, 0 ≤ x := by
  intro x hx
  cases f with
  | keep b a =>
    obtain ⟨h1, h2, _⟩ := h
    simp only [Fm.nums, List.mem_cons, List.not_mem_nil, or_false] at hx
    rcases hx with rfl | rfl <;> assumption
  | lf b a k c =>
    obtain ⟨h1, h2, h3, h4, _⟩ := h
    simp only [Fm.nums, List.mem_cons, List.not_mem_nil, or_false] at hx
    rcases hx with rfl | rfl | rfl | rfl
    · exact h1
    · exact h2
    · omega
    · exact h4
  | cr b a k =>
    obtain ⟨h1, h2, h3, _⟩ := h
    simp only [Fm.nums, List.mem_cons, List.not_mem_nil, or_false] at hx
    rcases hx with rfl | rfl | rfl
    · exact h1
    · exact h2
    · omega
end Lw
namespace Lw
open PySem PySem.Spec L2 Lx
/-! ### where characters go: the groups written out one by one -/
def expand (gs : List (Int × Int)) : List Int := gs.flatMap fun x => List.replicate x.1.toNat x.2
/-- the returns of a group with j of them that are left -/
def lft (f : Fm) (j : Int) : Int := if j - f.b > 0 then j - f.b else 0
theorem after_lft (f : Fm) (j : Int) : f.after j = lft f j + f.a := rfl
theorem lft_0 (f : Fm) (j : Int) : 0 ≤ lft f j := (pp _).1
theorem lft_le {f : Fm} {j : Int} (h : 0 ≤ j) (hb : 0 ≤ f.b) : lft f j ≤ j := by
  unfold lft
  split <;> omega
/-- how many units stem from the first x characters -/
def U (f : Fm) : List Int → Int → Int
  | [], x => x
  | j :: js, x => if x ≤ j then min x (lft f j) else f.after j + 1 + U f js (x - j - 1)
def szL (js : List Int) : Int := (js.map fun j => j + 1).sum
def unL (f : Fm) (js : List Int) : Int := (js.map fun j => f.after j + 1).sum
theorem szL_cons (j : Int) (js : List Int) : szL (j :: js) = j + 1 + szL js := by unfold szL; rw [List.map_cons, List.sum_cons]
theorem unL_cons (f : Fm) (j : Int) (js : List Int) : unL f (j :: js) = f.after j + 1 + unL f js := by unfold unL; rw [List.map_cons, List.sum_cons]
theorem szL_app (a b : List Int) : szL (a ++ b) = szL a + szL b := by unfold szL; rw [List.map_append, List.sum_append]
theorem unL_app (f : Fm) (a b : List Int) : unL f (a ++ b) = unL f a + unL f b := by unfold unL; rw [List.map_append, List.sum_append]
theorem szL_0 : ∀ {js : List Int}, (∀ j ∈ js, 0 ≤ j) → 0 ≤ szL js
  | [], _ => Int.le_refl _
  | j :: js, h => by
    rw [szL_cons]
    have := h j (List.mem_cons_self ..)
    have := szL_0 fun x hx => h x (List.mem_cons_of_mem _ hx)
    omega
theorem unL_0 {f : Fm} (ha : 0 ≤ f.a) : ∀ {js : List Int}, 0 ≤ unL f js
  | [] => Int.le_refl _
  | j :: js => by
    rw [unL_cons, after_lft]
    have := lft_0 f j
    have := unL_0 ha (js := js)
    omega
theorem U_app {f : Fm} {bs : List Int} {y : Int} (hy : 0 ≤ y) : ∀ {as : List Int}, (∀ j ∈ as, 0 ≤ j) → U f (as ++ bs) (szL as + y) = unL f as + U f bs y
  | [], _ => by
    show U f bs (0 + y) = 0 + U f bs y
    rw [Int.zero_add, Int.zero_add]
  | j :: as, h => by
    have h0 := szL_0 fun x hx => h x (List.mem_cons_of_mem _ hx)
    rw [szL_cons, unL_cons, List.cons_append]
    show (if j + 1 + szL as + y ≤ j then _ else f.after j + 1 + U f (as ++ bs) (j + 1 + szL as + y - j - 1)) = _
    rw [if_neg (by omega), show j + 1 + szL as + y - j - 1 = szL as + y by omega, U_app hy fun x hx => h x (List.mem_cons_of_mem _ hx)]
    omega
theorem U_end {f : Fm} {js : List Int} {y : Int} (hy : 0 ≤ y) (h : ∀ j ∈ js, 0 ≤ j) : U f js (szL js + y) = unL f js + y := by
  have := U_app (f := f) (bs := []) hy h
  rw [List.append_nil] at this
  exact this
theorem U_nn {f : Fm} (ha : 0 ≤ f.a) : ∀ {js : List Int} {x : Int}, 0 ≤ x → 0 ≤ U f js x
  | [], x, h => h
  | j :: js, x, h => by
    show 0 ≤ if x ≤ j then min x (lft f j) else f.after j + 1 + U f js (x - j - 1)
    have := lft_0 f j
    by_cases c : x ≤ j
    · rw [if_pos c]
      omega
    · rw [if_neg c, after_lft]
      have := U_nn ha (js := js) (x := x - j - 1) (by omega)
      omega
theorem U_mono {f : Fm} (ha : 0 ≤ f.a) : ∀ {js : List Int} {x y : Int}, 0 ≤ x → x ≤ y → U f js x ≤ U f js y
  | [], x, y, _, h => h
  | j :: js, x, y, h0, h => by
    show (if x ≤ j then min x (lft f j) else f.after j + 1 + U f js (x - j - 1)) ≤ (if y ≤ j then min y (lft f j) else f.after j + 1 + U f js (y - j - 1))
    by_cases c : y ≤ j
    · rw [if_pos c, if_pos (by omega)]
      omega
    · rw [if_neg c]
      by_cases d : x ≤ j
      · rw [if_pos d, after_lft]
        have := U_nn ha (js := js) (x := y - j - 1) (by omega)
        omega
      · rw [if_neg d]
        have := U_mono ha (js := js) (x := x - j - 1) (y := y - j - 1) (by omega) (by omega)
        omega
theorem U_zero {f : Fm} : ∀ {js : List Int}, (∀ j ∈ js, 0 ≤ j) → U f js 0 = 0
  | [], _ => rfl
  | j :: js, h => by
    show (if (0 : Int) ≤ j then min 0 (lft f j) else _) = 0
    rw [if_pos (h j (List.mem_cons_self ..))]
    have := lft_0 f j
    omega
/-- one form after the other that keeps the groups -/
theorem U_both {b a : Int} {g : Fm} (hb : 0 ≤ b) (ha : 0 ≤ a) (gb : 0 ≤ g.b) : ∀ {js : List Int} {x : Int}, (∀ j ∈ js, 0 ≤ j) → 0 ≤ x →
    U ((Fm.keep b a).both g) js x = U g (js.map (Fm.keep b a).after) (U (Fm.keep b a) js x)
  | [], x, _, _ => rfl
  | j :: js, x, h, h0 => by
    have hj := h j (List.mem_cons_self ..)
    have hab := after_both b a g j
    have eb : ((Fm.keep b a).both g).b = b + (if g.b - a > 0 then g.b - a else 0) := by cases g <;> rfl
    show (if x ≤ j then min x (lft ((Fm.keep b a).both g) j) else ((Fm.keep b a).both g).after j + 1 + U ((Fm.keep b a).both g) js (x - j - 1)) =
      (if U (Fm.keep b a) (j :: js) x ≤ (Fm.keep b a).after j then min (U (Fm.keep b a) (j :: js) x) (lft g ((Fm.keep b a).after j)) else g.after ((Fm.keep b a).after j) + 1 + U g (js.map (Fm.keep b a).after) (U (Fm.keep b a) (j :: js) x - (Fm.keep b a).after j - 1))
    by_cases c : x ≤ j
    · have e : U (Fm.keep b a) (j :: js) x = min x (lft (Fm.keep b a) j) := if_pos c
      rw [e, if_pos c]
      have l0 := lft_0 (Fm.keep b a) j
      rw [if_pos (by rw [after_lft]; show _ ≤ _ + a; omega)]
      have e1 : lft ((Fm.keep b a).both g) j = (if j - (b + (if g.b - a > 0 then g.b - a else 0)) > 0 then j - (b + (if g.b - a > 0 then g.b - a else 0)) else 0) := by unfold lft; rw [eb]
      have e2 : lft g ((Fm.keep b a).after j) = (if (if j - b > 0 then j - b else 0) + a - g.b > 0 then (if j - b > 0 then j - b else 0) + a - g.b else 0) := rfl
      have e3 : lft (Fm.keep b a) j = (if j - b > 0 then j - b else 0) := rfl
      rw [e1, e2, e3]
      have p1 := pp (j - (b + if g.b - a > 0 then g.b - a else 0))
      have p2 := pp (g.b - a)
      have p3 := pp (j - b)
      have p4 := pp ((if j - b > 0 then j - b else 0) + a - g.b)
      omega
    · have e : U (Fm.keep b a) (j :: js) x = (Fm.keep b a).after j + 1 + U (Fm.keep b a) js (x - j - 1) := if_neg c
      have n0 := U_nn (f := Fm.keep b a) ha (js := js) (x := x - j - 1) (by omega)
      rw [e, if_neg c, if_neg (by omega), hab, show (Fm.keep b a).after j + 1 + U (Fm.keep b a) js (x - j - 1) - (Fm.keep b a).after j - 1 = U (Fm.keep b a) js (x - j - 1) by omega,
        U_both hb ha gb (fun x hx => h x (List.mem_cons_of_mem _ hx)) (by omega : 0 ≤ x - j - 1)]
/-! ### groups and what they are written out -/
theorem expand_app (a b : List (Int × Int)) : expand (a ++ b) = expand a ++ expand b := List.flatMap_append ..
theorem expand_mem {gs : List (Int × Int)} {j : Int} (h : j ∈ expand gs) : ∃ x ∈ gs, x.2 = j := by
  obtain ⟨x, hx, hj⟩ := List.mem_flatMap.mp h
  exact ⟨x, hx, (List.mem_replicate.mp hj).2.symm⟩
theorem sum_rep (n : Nat) (y : Int) : (List.replicate n y).sum = n * y := by
  induction n with
  | zero => simp
  | succ n ih =>
    rw [List.replicate_succ, List.sum_cons, ih, Int.natCast_add, Int.add_mul]
    omega
theorem szL_expand : ∀ {gs : List (Int × Int)}, (∀ x ∈ gs, 0 ≤ x.1) → szL (expand gs) = total gs
  | [], _ => rfl
  | x :: gs, h => by
    have h0 := h x (List.mem_cons_self ..)
    have ih := szL_expand fun y hy => h y (List.mem_cons_of_mem _ hy)
    have e : expand (x :: gs) = List.replicate x.1.toNat x.2 ++ expand gs := rfl
    rw [e, szL_app, ih]
    unfold szL total
    rw [List.map_replicate, sum_rep, List.map_cons, List.sum_cons, Int.toNat_of_nonneg h0]
theorem unL_expand {f : Fm} : ∀ {gs : List (Int × Int)}, (∀ x ∈ gs, 0 ≤ x.1) → unL f (expand gs) = total (moved f gs)
  | [], _ => rfl
  | x :: gs, h => by
    have h0 := h x (List.mem_cons_self ..)
    have ih := unL_expand (f := f) fun y hy => h y (List.mem_cons_of_mem _ hy)
    have e : expand (x :: gs) = List.replicate x.1.toNat x.2 ++ expand gs := rfl
    have e2 : moved f (x :: gs) = (x.1, f.after x.2) :: moved f gs := rfl
    rw [e, unL_app, ih, e2]
    unfold unL total
    rw [List.map_replicate, sum_rep, List.map_cons, List.sum_cons, Int.toNat_of_nonneg h0]
theorem expand_addTo {acc : List (Int × Int)} {x : Int × Int} (ha : ∀ y ∈ acc, 0 ≤ y.1) (hx : 0 ≤ x.1) : expand (addTo acc x) = expand acc ++ List.replicate x.1.toNat x.2 := by
  have one : ∀ y : Int × Int, expand [y] = List.replicate y.1.toNat y.2 := fun y => by show List.replicate _ _ ++ [] = _; rw [List.append_nil]
  rcases snoc_or acc with rfl | ⟨a, y, rfl⟩
  · rw [addTo_nil, one]
    rfl
  · have hy : 0 ≤ y.1 := ha y (by simp)
    rw [addTo_snoc]
    by_cases c : y.2 = x.2
    · rw [if_pos c, expand_app, expand_app, one, one, List.append_assoc]
      congr 1
      rw [c, List.replicate_append_replicate]
      show List.replicate (y.1 + x.1).toNat x.2 = _
      congr 1
      omega
    · rw [if_neg c, expand_app, one]
theorem expand_fold : ∀ (gs acc : List (Int × Int)), (∀ y ∈ acc, 0 ≤ y.1) → (∀ y ∈ gs, 0 ≤ y.1) → expand (gs.foldl addTo acc) = expand acc ++ expand gs
  | [], acc, _, _ => by show expand acc = expand acc ++ []; rw [List.append_nil]
  | x :: gs, acc, ha, hg => by
    have hx := hg x (List.mem_cons_self ..)
    rw [List.foldl_cons, expand_fold gs (addTo acc x) (fun y hy => ?_) fun y hy => hg y (List.mem_cons_of_mem _ hy), expand_addTo ha hx, List.append_assoc]
    · rfl
    · rcases snoc_or acc with rfl | ⟨a, z, rfl⟩
      · rw [addTo_nil] at hy
        rw [List.mem_singleton.mp hy]
        exact hx
      · have hz : 0 ≤ z.1 := ha z (by simp)
        rw [addTo_snoc] at hy
        by_cases c : z.2 = x.2
        · rw [if_pos c] at hy
          rcases List.mem_append.mp hy with q | q
          · exact ha y (List.mem_append.mpr (.inl q))
          · rw [List.mem_singleton.mp q]
            show 0 ≤ z.1 + x.1
            omega
        · rw [if_neg c] at hy
          rcases List.mem_append.mp hy with q | q
          · exact ha y q
          · rw [List.mem_singleton.mp q]
            exact hx
theorem expand_merged {gs : List (Int × Int)} (h : ∀ y ∈ gs, 0 ≤ y.1) : expand (Lx.merged gs) = expand gs := expand_fold gs [] (fun y hy => by cases hy) h
theorem expand_moved (f : Fm) : ∀ gs : List (Int × Int), expand (moved f gs) = (expand gs).map f.after
  | [] => rfl
  | x :: gs => by
    have e : expand (x :: gs) = List.replicate x.1.toNat x.2 ++ expand gs := rfl
    have e2 : moved f (x :: gs) = (x.1, f.after x.2) :: moved f gs := rfl
    have e3 : expand ((x.1, f.after x.2) :: moved f gs) = List.replicate x.1.toNat (f.after x.2) ++ expand (moved f gs) := rfl
    rw [e2, e3, e, List.map_append, List.map_replicate, expand_moved f gs]
theorem expand_at {gs : List (Int × Int)} {at' : Nat} {x : Int × Int} {n : Nat} (h : gs[at']? = some x) (hn : n < x.1.toNat) : ∃ rest, expand gs = expand (gs.take at') ++ List.replicate n x.2 ++ (x.2 :: rest) ∧ ∀ j ∈ rest, j ∈ expand gs := by
  have hl := (List.getElem?_eq_some_iff.mp h).1
  have e0 : gs = gs.take at' ++ x :: gs.drop (at' + 1) := by
    have e1 : gs.drop at' = x :: gs.drop (at' + 1) := by
      rw [List.drop_eq_getElem_cons hl]
      congr 1
      exact (List.getElem?_eq_some_iff.mp h).2
    rw [← e1, List.take_append_drop]
  have e2 : expand gs = expand (gs.take at') ++ (List.replicate x.1.toNat x.2 ++ expand (gs.drop (at' + 1))) := by
    conv => lhs; rw [e0]
    rw [expand_app]
    rfl
  have e3 : List.replicate x.1.toNat x.2 = List.replicate n x.2 ++ x.2 :: List.replicate (x.1.toNat - n - 1) x.2 := by
    rw [← List.replicate_succ, List.replicate_append_replicate]
    congr 1
    omega
  refine ⟨List.replicate (x.1.toNat - n - 1) x.2 ++ expand (gs.drop (at' + 1)), ?_, fun j hj => ?_⟩
  · rw [e2, e3]
    simp [List.append_assoc]
  · rw [e2, e3]
    rcases List.mem_append.mp hj with q | q
    · simp only [List.mem_append, List.mem_cons]
      exact .inr (.inl (.inr (.inr q)))
    · simp only [List.mem_append, List.mem_cons]
      exact .inr (.inr q)
/-- units before a place of a group -/
theorem U_at {f : Fm} {gs : List (Int × Int)} {at' : Nat} {x : Int × Int} {n : Int} (h : gs[at']? = some x) (hg : ∀ y ∈ gs, 0 ≤ y.1 ∧ 0 ≤ y.2) (n0 : 0 ≤ n) (hn : n < x.1) :
    (∀ y, 0 ≤ y → y ≤ x.2 → U f (expand gs) (total (gs.take at') + n * (x.2 + 1) + y) = total (moved f (gs.take at')) + n * (f.after x.2 + 1) + min y (lft f x.2)) ∧
    U f (expand gs) (total (gs.take at') + n * (x.2 + 1) + x.2 + 1) = total (moved f (gs.take at')) + n * (f.after x.2 + 1) + (f.after x.2 + 1) := by
  have hx := hg x (List.mem_of_getElem? h)
  obtain ⟨rest, e, hr⟩ := expand_at (n := n.toNat) h (by omega)
  have hnn : ((n.toNat : Nat) : Int) = n := Int.toNat_of_nonneg n0
  have t1 : ∀ y ∈ gs.take at', 0 ≤ y.1 := fun y hy => (hg y (List.mem_of_mem_take hy)).1
  have hpos : ∀ j ∈ expand (gs.take at') ++ List.replicate n.toNat x.2, 0 ≤ j := fun j hj => by
    rcases List.mem_append.mp hj with q | q
    · obtain ⟨y, hy, rfl⟩ := expand_mem q
      exact (hg y (List.mem_of_mem_take hy)).2
    · rw [(List.mem_replicate.mp q).2]
      exact hx.2
  have hrest : ∀ j ∈ rest, 0 ≤ j := fun j hj => by
    obtain ⟨y, hy, rfl⟩ := expand_mem (hr j hj)
    exact (hg y hy).2
  have s1 : szL (expand (gs.take at') ++ List.replicate n.toNat x.2) = total (gs.take at') + n * (x.2 + 1) := by
    rw [szL_app, szL_expand t1]
    unfold szL
    rw [List.map_replicate, sum_rep, hnn]
  have u1 : unL f (expand (gs.take at') ++ List.replicate n.toNat x.2) = total (moved f (gs.take at')) + n * (f.after x.2 + 1) := by
    rw [unL_app, unL_expand t1]
    unfold unL
    rw [List.map_replicate, sum_rep, hnn]
  constructor
  · intro y y0 y1
    rw [e, ← s1, U_app y0 hpos, u1]
    show _ + (if y ≤ x.2 then min y (lft f x.2) else _) = _
    rw [if_pos y1]
  · rw [e, ← s1, Int.add_assoc, U_app (by omega) hpos, u1]
    show _ + (if x.2 + 1 ≤ x.2 then _ else f.after x.2 + 1 + U f rest (x.2 + 1 - x.2 - 1)) = _
    rw [if_neg (by omega), show x.2 + 1 - x.2 - 1 = 0 by omega, U_zero hrest, Int.add_zero]
theorem U_rest {f : Fm} {gs : List (Int × Int)} {y : Int} (hg : ∀ y ∈ gs, 0 ≤ y.1 ∧ 0 ≤ y.2) (y0 : 0 ≤ y) : U f (expand gs) (total gs + y) = total (moved f gs) + y := by
  have h1 : ∀ x ∈ gs, 0 ≤ x.1 := fun x hx => (hg x hx).1
  rw [← szL_expand h1, ← unL_expand h1]
  refine U_end y0 fun j hj => ?_
  obtain ⟨z, hz, rfl⟩ := expand_mem hj
  exact (hg z hz).2
end Lw
namespace Lw
open PySem PySem.Spec L2 Lx
def width : Fm → Int
  | .keep _ _ => 1
  | .lf _ _ k c => k * (c + 1)
  | .cr _ _ k => k
def size1 (r : List (Int × Int) × Int) : Int := total r.1 + r.2
theorem U_ba {f g : Fm} (hb : f.b = g.b) (ha : f.a = g.a) : ∀ (js : List Int) (x : Int), U f js x = U g js x
  | [], x => rfl
  | j :: js, x => by
    have e1 : lft f j = lft g j := by unfold lft; rw [hb]
    have e2 : f.after j = g.after j := by rw [after_lft, after_lft, e1, ha]
    show (if x ≤ j then min x (lft f j) else f.after j + 1 + U f js (x - j - 1)) = (if x ≤ j then min x (lft g j) else g.after j + 1 + U g js (x - j - 1))
    rw [e1, e2, U_ba hb ha js]
theorem U_rep {f : Fm} {c : Int} (hc : 0 ≤ c) {n N : Nat} (h : n ≤ N) : U f (List.replicate N c) ((n : Int) * (c + 1)) = n * (f.after c + 1) := by
  have e : List.replicate N c = List.replicate n c ++ List.replicate (N - n) c := by
    rw [List.replicate_append_replicate]
    congr 1
    omega
  have hp : ∀ k : Nat, ∀ j ∈ List.replicate k c, 0 ≤ j := fun k j hj => by
    rw [(List.mem_replicate.mp hj).2]
    exact hc
  have s1 : szL (List.replicate n c) = (n : Int) * (c + 1) := by unfold szL; rw [List.map_replicate, sum_rep]
  have u1 : unL f (List.replicate n c) = (n : Int) * (f.after c + 1) := by unfold unL; rw [List.map_replicate, sum_rep]
  have h0 := U_app (f := f) (bs := List.replicate (N - n) c) (Int.le_refl 0) (hp n)
  rw [s1, u1, U_zero (hp _), Int.add_zero, Int.add_zero, ← e] at h0
  exact h0
theorem expand_lf {r : List (Int × Int) × Int} {b a k c : Int} : expand (runAfter r (.lf b a k c)).1 = List.replicate (k * units r (.lf b a k c)).toNat c := by
  show expand (if k * units r (.lf b a k c) = 0 then (([] : List (Int × Int)), (0 : Int)) else ([(k * units r (.lf b a k c), c)], 0)).1 = _
  by_cases z : k * units r (.lf b a k c) = 0
  · rw [if_pos z, z]
    rfl
  · rw [if_neg z]
    show List.replicate _ _ ++ [] = _
    rw [List.append_nil]
theorem pos_js {n : Nat} {r : List (Int × Int) × Int} (h : RnOk n r) : ∀ j ∈ expand r.1, 0 ≤ j := fun j hj => by
  obtain ⟨z, hz, rfl⟩ := expand_mem hj
  exact ((RnOk.sm h).1 z hz).2.1
theorem size_U {n : Nat} {f : Fm} {r : List (Int × Int) × Int} (h : RnOk n r) : U f (expand r.1) (size1 r) = units r f := U_rest (fun y hy => ⟨((RnOk.sm h).1 y hy).1, ((RnOk.sm h).1 y hy).2.1⟩) h.rest.1
/-- one form after the other: the places go one way -/
theorem comp {n : Nat} {r : List (Int × Int) × Int} {f g : Fm} (h : RnOk n r) (hf : f.Ok n) (hg : g.Ok n) {p : Int} (h0 : 0 ≤ p) (h1 : p ≤ size1 r) :
    width (f.both g) * U (f.both g) (expand r.1) p = width g * U g (expand (runAfter r f).1) (width f * U f (expand r.1) p) := by
  have hu0 := U_nn (f := f) hf.a0.1 (js := expand r.1) h0
  have hu1 := U_mono (f := f) hf.a0.1 (js := expand r.1) h0 h1
  rw [size_U h] at hu1
  cases f with
  | keep b a =>
    have e1 : width ((Fm.keep b a).both g) = width g := by cases g <;> rfl
    have e2 : expand (runAfter r (.keep b a)).1 = (expand r.1).map (Fm.keep b a).after := by
      show expand (Lx.merged (moved (.keep b a) r.1)) = _
      rw [expand_merged fun y hy => ?_, expand_moved]
      obtain ⟨x, hx, rfl⟩ := List.mem_map.mp hy
      exact ((RnOk.sm h).1 x hx).1
    rw [e1, e2, U_both hf.1 hf.2.1 hg.b0.1 (pos_js h) h0]
    show _ = width g * U g _ (1 * U (Fm.keep b a) (expand r.1) p)
    rw [Int.one_mul]
  | lf b a k c =>
    rw [expand_lf]
    generalize hu : U (Fm.lf b a k c) (expand r.1) p = u at hu0 hu1
    have hk := hf.2.2.1
    have hc := hf.2.2.2.1
    have hku0 : 0 ≤ k * u := Int.mul_nonneg (Int.le_of_lt hk) hu0
    have hku1 : k * u ≤ k * units r (.lf b a k c) := Int.mul_le_mul_of_nonneg_left hu1 (Int.le_of_lt hk)
    have e : width (Fm.lf b a k c) * u = ((k * u).toNat : Int) * (c + 1) := by
      show k * (c + 1) * u = _
      rw [Int.toNat_of_nonneg hku0, Int.mul_right_comm]
    rw [e, U_rep hc (by omega), Int.toNat_of_nonneg hku0]
    cases g with
    | keep b' a' =>
      have e2 : U ((Fm.lf b a k c).both (.keep b' a')) (expand r.1) p = u := by rw [← hu]; exact U_ba (f := (Fm.lf b a k c).both (.keep b' a')) (g := Fm.lf b a k c) rfl rfl _ _
      rw [e2]
      show k * (Fm.after (.keep b' a') c + 1) * u = 1 * (k * u * (Fm.after (.keep b' a') c + 1))
      rw [Int.one_mul, Int.mul_right_comm]
    | lf b' a' k' c' =>
      have e2 : U ((Fm.lf b a k c).both (.lf b' a' k' c')) (expand r.1) p = u := by rw [← hu]; exact U_ba (f := (Fm.lf b a k c).both (.lf b' a' k' c')) (g := Fm.lf b a k c) rfl rfl _ _
      rw [e2]
      show k * (Fm.after (.lf b' a' k' c') c + 1) * k' * (c' + 1) * u = k' * (c' + 1) * (k * u * (Fm.after (.lf b' a' k' c') c + 1))
      generalize Fm.after (.lf b' a' k' c') c + 1 = A
      generalize c' + 1 = C
      simp only [Int.mul_comm, Int.mul_left_comm, Int.mul_assoc]
    | cr b' a' k' =>
      have e2 : U ((Fm.lf b a k c).both (.cr b' a' k')) (expand r.1) p = u := by rw [← hu]; exact U_ba (f := (Fm.lf b a k c).both (.cr b' a' k')) (g := Fm.lf b a k c) rfl rfl _ _
      rw [e2]
      show k * (Fm.after (.cr b' a' k') c + 1) * k' * u = k' * (k * u * (Fm.after (.cr b' a' k') c + 1))
      generalize Fm.after (.cr b' a' k') c + 1 = A
      simp only [Int.mul_comm, Int.mul_left_comm, Int.mul_assoc]
  | cr b a k =>
    generalize hu : U (Fm.cr b a k) (expand r.1) p = u at hu0 hu1
    show _ = width g * (k * u)
    cases g with
    | keep b' a' =>
      have e2 : U ((Fm.cr b a k).both (.keep b' a')) (expand r.1) p = u := by rw [← hu]; exact U_ba (f := (Fm.cr b a k).both (.keep b' a')) (g := Fm.cr b a k) rfl rfl _ _
      rw [e2]
      show k * u = 1 * (k * u)
      rw [Int.one_mul]
    | lf b' a' k' c' =>
      have e2 : U ((Fm.cr b a k).both (.lf b' a' k' c')) (expand r.1) p = u := by rw [← hu]; exact U_ba (f := (Fm.cr b a k).both (.lf b' a' k' c')) (g := Fm.cr b a k) rfl rfl _ _
      rw [e2]
      show k * 1 * k' * (c' + 1) * u = k' * (c' + 1) * (k * u)
      generalize c' + 1 = C
      simp only [Int.mul_comm, Int.mul_left_comm, Int.mul_assoc, Int.mul_one, Int.one_mul]
    | cr b' a' k' =>
      have e2 : U ((Fm.cr b a k).both (.cr b' a' k')) (expand r.1) p = u := by rw [← hu]; exact U_ba (f := (Fm.cr b a k).both (.cr b' a' k')) (g := Fm.cr b a k) rfl rfl _ _
      rw [e2]
      show k * 1 * k' * u = k' * (k * u)
      simp only [Int.mul_comm, Int.mul_left_comm, Int.mul_assoc, Int.mul_one, Int.one_mul]
theorem U_lt {f : Fm} (ha : 0 ≤ f.a) {js : List Int} {W : Int} (hW : 0 < W) {p p' : Int} (h0 : 0 ≤ p) (h : W * U f js p' < W * U f js p) : p' < p := by
  refine Int.lt_of_not_ge fun hh => ?_
  have := U_mono ha (js := js) h0 hh
  have := Int.mul_le_mul_of_nonneg_left this (Int.le_of_lt hW)
  omega
theorem tra_uniq {f : Fm} (ha : 0 ≤ f.a) {js : List Int} {W : Int} (hW : 0 < W) {q p p' : Int} (h0 : 0 ≤ p) (h0' : 0 ≤ p') (h1 : W * U f js p ≤ q) (h2 : q < W * U f js (p + 1)) (h1' : W * U f js p' ≤ q) (h2' : q < W * U f js (p' + 1)) : p = p' := by
  have a := U_lt (js := js) ha hW (p := p + 1) (p' := p') (by omega) (by omega)
  have b := U_lt (js := js) ha hW (p := p' + 1) (p' := p) (by omega) (by omega)
  omega
end Lw
namespace Lx
open PySem PySem.Spec L2
/-! ### data that repr can write -/
/-- ints below 2 ^ 400, texts of plain signs -/
def smallB (b : Nat) : PyData → Bool
  | .none | .bool _ => true
  | .int i => decide (i.natAbs < 2 ^ b)
  | .str x => x.cps.toList.all fun c => decide (c < 128)
  | .list xs | .tuple xs => smallAll xs
  | .dict _ => false
where smallAll : List PyData → Bool
  | [] => true
  | x :: xs => smallB b x && smallAll xs
theorem intB_log {b : Nat} (h0 : 0 < b) {i : Int} (h : i.natAbs < 2 ^ b) : i.natAbs.log2 < b := PySem.Flt.log2_lt_of h0 h
theorem intB_shown {b : Nat} (h0 : 0 < b) {i : Int} (h : i.natAbs < 2 ^ b) : (PyData.shown (.int i)).length ≤ b + 1 := by
  have e := int_text_length_le (k := b) h0 (intB_log h0 h)
  show (Str.ofString (toString i)).length ≤ b + 1
  rw [ofString_length]
  omega
mutual
theorem smallB_can {b : Nat} (h0 : 0 < b) (h1 : b ≤ 1900) : ∀ d : PyData, smallB b d = true → d.showable = true
  | .none, _ => rfl
  | .bool _, _ => rfl
  | .int i, h => by
    have e := intB_log h0 (of_decide_eq_true (show decide (i.natAbs < 2 ^ b) = true by simpa only [smallB] using h))
    simp only [PyData.showable]
    exact decide_eq_true (by omega)
  | .str _, _ => rfl
  | .list xs, h => by
    simp only [PyData.showable]
    exact smallB_canAll h0 h1 xs (by simpa only [smallB] using h)
  | .tuple xs, h => by
    simp only [PyData.showable]
    exact smallB_canAll h0 h1 xs (by simpa only [smallB] using h)
  | .dict _, h => by simp [smallB] at h
theorem smallB_canAll {b : Nat} (h0 : 0 < b) (h1 : b ≤ 1900) : ∀ xs : List PyData, smallB.smallAll b xs = true → PyData.showableAll xs = true
  | [], _ => rfl
  | x :: xs, h => by
    have h' : smallB b x = true ∧ smallB.smallAll b xs = true := by simpa only [smallB.smallAll, Bool.and_eq_true] using h
    simp only [PyData.showableAll, Bool.and_eq_true]
    exact ⟨smallB_can h0 h1 x h'.1, smallB_canAll h0 h1 xs h'.2⟩
end
mutual
theorem smallB_no {b : Nat} : ∀ d : PyData, smallB b d = true → d.hasDict = false
  | .none, _ => rfl
  | .bool _, _ => rfl
  | .int i, h => rfl
  | .str _, _ => rfl
  | .list xs, h => by
    simp only [PyData.hasDict]
    exact smallB_noAll xs (by simpa only [smallB] using h)
  | .tuple xs, h => by
    simp only [PyData.hasDict]
    exact smallB_noAll xs (by simpa only [smallB] using h)
  | .dict _, h => by simp [smallB] at h
theorem smallB_noAll {b : Nat} : ∀ xs : List PyData, smallB.smallAll b xs = true → PyData.hasDictAll xs = false
  | [], _ => rfl
  | x :: xs, h => by
    have h' : smallB b x = true ∧ smallB.smallAll b xs = true := by simpa only [smallB.smallAll, Bool.and_eq_true] using h
    simp only [PyData.hasDictAll, Bool.or_eq_false_iff]
    exact ⟨smallB_no x h'.1, smallB_noAll xs h'.2⟩
end
mutual
theorem smallB_leaves {b : Nat} (h0 : 0 < b) (h8 : 8 ≤ b) : ∀ d : PyData, smallB b d = true → d.leavesShort (b + 1) = true
  | .none, _ => rfl
  | .bool _, _ => rfl
  | .int i, h => by
    have e := intB_shown h0 (of_decide_eq_true (show decide (i.natAbs < 2 ^ b) = true by simpa only [smallB] using h))
    simp only [PyData.leavesShort]
    exact decide_eq_true e
  | .str x, h => by
    simp only [PyData.leavesShort, List.all_eq_true, decide_eq_true_eq]
    simp only [smallB, List.all_eq_true, decide_eq_true_eq] at h
    intro c hc
    exact Nat.lt_of_lt_of_le (h c hc) (by decide)
  | .list xs, h => by
    simp only [PyData.leavesShort]
    exact smallB_leavesAll h0 h8 xs (by simpa only [smallB] using h)
  | .tuple xs, h => by
    simp only [PyData.leavesShort]
    exact smallB_leavesAll h0 h8 xs (by simpa only [smallB] using h)
  | .dict _, h => by simp [smallB] at h
theorem smallB_leavesAll {b : Nat} (h0 : 0 < b) (h8 : 8 ≤ b) : ∀ xs : List PyData, smallB.smallAll b xs = true → PyData.leavesShortAll (b + 1) xs = true
  | [], _ => rfl
  | x :: xs, h => by
    have h' : smallB b x = true ∧ smallB.smallAll b xs = true := by simpa only [smallB.smallAll, Bool.and_eq_true] using h
    simp only [PyData.leavesShortAll, Bool.and_eq_true]
    exact ⟨smallB_leaves h0 h8 x h'.1, smallB_leavesAll h0 h8 xs h'.2⟩
end
theorem fit_b {b : Nat} {d : PyData} (h8 : 8 ≤ b) (h1 : b ≤ 1900) (h : smallB b d = true) (hd : d.depth ≤ 40) (hb : (b + 3) * d.bulk + (b + 1) ≤ 16777216) : Fit d := by
  refine ⟨smallB_can (by omega) h1 d h, smallB_no d h, hd, ?_⟩
  have e := PyData.shown_le_bulk (b + 1) (by omega) d (smallB_leaves (by omega) h8 d h)
  rw [sizeLine_eq]
  have e2 : (b + 1 + 2) * d.bulk = (b + 3) * d.bulk := rfl
  omega
end Lx
namespace Lw
open PySem PySem.Spec L2 Lx
/-! ### a chain step by step -/
def stepsL (r : List (Int × Int) × Int) (cs : List Nat) : List (Int × Int) × Int := cs.foldl (fun y c => runAfter y (stepF c)) r
theorem stepsL_snoc (r : List (Int × Int) × Int) (cs : List Nat) (c : Nat) : stepsL r (cs ++ [c]) = runAfter (stepsL r cs) (stepF c) := by
  unfold stepsL
  rw [List.foldl_append]
  rfl
theorem stepsL_append (r : List (Int × Int) × Int) (a b : List Nat) : stepsL r (a ++ b) = stepsL (stepsL r a) b := by
  unfold stepsL
  rw [List.foldl_append]
theorem formL_snoc (cs : List Nat) (c : Nat) : formL (cs ++ [c]) = (formL cs).both (stepF c) := by
  unfold formL
  rw [List.foldl_append]
  rfl
theorem merged_ok {n : Nat} (k : Nat) : ∀ gs : List (Int × Int), gs.length = k → GsOk n gs → Lx.merged gs = gs := by
  induction k with
  | zero =>
    intro gs h _
    rw [List.eq_nil_of_length_eq_zero h]
    rfl
  | succ k ih =>
    intro gs h hg
    rcases snoc_or gs with rfl | ⟨a, y, rfl⟩
    · rfl
    · obtain ⟨h1, h2, _⟩ := gsok_front hg
      rw [merged_snoc, ih a (by simpa using h) h1]
      rcases snoc_or a with rfl | ⟨b, z, rfl⟩
      · rfl
      · rw [addTo_snoc, if_neg (h2 b z rfl)]
theorem after_nothing {j : Int} (h : 0 ≤ j) : nothing.after j = j := by
  show (if j - 0 > 0 then j - 0 else 0) + 0 = j
  have := pp (j - 0)
  omega
theorem moved_nothing {gs : List (Int × Int)} (h : ∀ x ∈ gs, 0 ≤ x.2) : moved nothing gs = gs := by
  unfold moved
  induction gs with
  | nil => rfl
  | cons g gs ih =>
    rw [List.map_cons, ih fun x hx => h x (List.mem_cons_of_mem _ hx), after_nothing (h g (List.mem_cons_self ..))]
theorem runAfter_nothing {n : Nat} {r : List (Int × Int) × Int} (h : RnOk n r) : runAfter r nothing = r := by
  show (Lx.merged (moved nothing r.1), r.2) = r
  rw [moved_nothing (fun x hx => ((RnOk.sm h).1 x hx).2.1), merged_ok _ r.1 rfl h.gs]
theorem conv_form {n : Nat} {r : List (Int × Int) × Int} (h : RnOk n r) (k : Nat) : ∀ cs : List Nat, cs.length = k → runAfter r (formL cs) = stepsL r cs := by
  induction k with
  | zero =>
    intro cs e
    rw [List.eq_nil_of_length_eq_zero e]
    exact runAfter_nothing h
  | succ k ih =>
    intro cs e
    rcases snoc_or cs with rfl | ⟨a, c, rfl⟩
    · exact runAfter_nothing h
    · rw [formL_snoc, ← runAfter_both, ih a (by simpa using e), stepsL_snoc]
theorem conv_of {n : Nat} {r : List (Int × Int) × Int} (h : RnOk n r) (x : Str) : runAfter r (formOf x) = stepsL r x.cps.toList := conv_form h _ _ rfl
/-! ### forms of short chains -/
def FLs (L : Nat) : Fm → Prop
  | .keep b a => 0 ≤ b ∧ b ≤ L ∧ 0 ≤ a ∧ a ≤ L
  | .lf b a k c => 0 ≤ b ∧ b ≤ L ∧ 0 ≤ a ∧ a ≤ L ∧ 0 < k ∧ Sm (6 * L + 1) k ∧ 0 ≤ c ∧ c ≤ L
  | .cr b a k => 0 ≤ b ∧ b ≤ L ∧ 0 ≤ a ∧ a ≤ L ∧ 0 < k ∧ Sm (6 * L + 1) k
theorem sms_le {L : Nat} {x : Int} (h0 : 0 ≤ x) (h : x ≤ L) : Sm (6 * L + 1) x := by
  have h1 : L < 2 ^ L := Nat.lt_two_pow_self
  have h2 : 2 ^ L ≤ 2 ^ (6 * L + 1) := Nat.pow_le_pow_right (by decide) (by omega)
  unfold Sm
  omega
theorem FLs.ok {L : Nat} : ∀ {f : Fm}, FLs L f → f.Ok (6 * L + 1)
  | .keep _ _, ⟨h1, h2, h3, h4⟩ => ⟨h1, h3, sms_le h1 h2, sms_le h3 h4⟩
  | .lf _ _ _ _, ⟨h1, h2, h3, h4, h5, h6, h7, h8⟩ => ⟨h1, h3, h5, h7, sms_le h1 h2, sms_le h3 h4, h6, sms_le h7 h8⟩
  | .cr _ _ _, ⟨h1, h2, h3, h4, h5, h6⟩ => ⟨h1, h3, h5, sms_le h1 h2, sms_le h3 h4, h6⟩
theorem sms_mul {L : Nat} {k x : Int} (hk : Sm (6 * L + 1) k) (h0 : 0 ≤ x) (h : x < 64) : Sm (6 * (L + 1) + 1) (k * x * 1) := by
  have e : Sm 6 x := by
    unfold Sm
    have : (2 : Nat) ^ 6 = 64 := by decide
    omega
  rw [Int.mul_one]
  exact (hk.mul e).mono (by omega)
theorem sms_up {L : Nat} {k : Int} (hk : Sm (6 * L + 1) k) : Sm (6 * (L + 1) + 1) k := hk.mono (by omega)
theorem FLs.step {L : Nat} (hL : L ≤ 60) {c : Nat} (hc : c ∈ steps.cps.toList) {f : Fm} (h : FLs L f) : FLs (L + 1) (f.both (stepF c)) := by
  cases f with
  | keep b a =>
    obtain ⟨h1, h2, h3, h4⟩ := h
    have p1 := pp (0 - a)
    have p2 := pp (a - 0)
    have p3 := pp (1 - a)
    have p4 := pp (a - 1)
    have one : Sm (6 * (L + 1) + 1) 1 := sms_le (L := L + 1) (by decide) (by omega)
    rcases step_cases hc with e | e | e | e <;> rw [e] <;> simp only [Fm.both, Fm.ahead, Fm.b, Fm.a, FLs]
    · exact ⟨by omega, by omega, by omega, by omega⟩
    · exact ⟨by omega, by omega, by omega, by omega⟩
    · exact ⟨by omega, by omega, by omega, by omega, by decide, one, by decide, by omega⟩
    · exact ⟨by omega, by omega, by omega, by omega, by decide, one⟩
  | lf b a k d =>
    obtain ⟨h1, h2, h3, h4, h5, h6, h7, h8⟩ := h
    have p1 := pp (d - 0)
    have p2 := pp (d - 1)
    rcases step_cases hc with e | e | e | e <;> rw [e] <;> simp only [Fm.both, Fm.after, Fm.b, Fm.a, FLs]
    · exact ⟨h1, by omega, h3, by omega, h5, sms_up h6, by omega, by omega⟩
    · exact ⟨h1, by omega, h3, by omega, h5, sms_up h6, by omega, by omega⟩
    · refine ⟨h1, by omega, h3, by omega, ?_, sms_mul h6 (by omega) (by omega), by decide, by omega⟩
      rw [Int.mul_one]
      exact Int.mul_pos h5 (by omega)
    · refine ⟨h1, by omega, h3, by omega, ?_, sms_mul h6 (by omega) (by omega)⟩
      rw [Int.mul_one]
      exact Int.mul_pos h5 (by omega)
  | cr b a k =>
    obtain ⟨h1, h2, h3, h4, h5, h6⟩ := h
    rcases step_cases hc with e | e | e | e <;> rw [e] <;> simp only [Fm.both, FLs, Int.mul_one]
    · exact ⟨h1, by omega, h3, by omega, h5, sms_up h6⟩
    · exact ⟨h1, by omega, h3, by omega, h5, sms_up h6⟩
    · exact ⟨h1, by omega, h3, by omega, h5, sms_up h6, by decide, by omega⟩
    · exact ⟨h1, by omega, h3, by omega, h5, sms_up h6⟩
theorem formL_fls (k : Nat) : ∀ cs : List Nat, cs.length = k → k ≤ 61 → (∀ c ∈ cs, c ∈ steps.cps.toList) → FLs k (formL cs) := by
  induction k with
  | zero =>
    intro cs h _ _
    rw [List.eq_nil_of_length_eq_zero h]
    exact ⟨by decide, by decide, by decide, by decide⟩
  | succ k ih =>
    intro cs h hk hc
    rcases snoc_or cs with rfl | ⟨a, c, rfl⟩
    · simp at h
    · rw [formL_snoc]
      exact (ih a (by simpa using h) (by omega) fun d hd => hc d (List.mem_append.mpr (.inl hd))).step (by omega) (hc c (by simp))
/-! ### lengths -/
theorem addTo_len (a : List (Int × Int)) (x : Int × Int) : (addTo a x).length ≤ a.length + 1 := by
  rcases snoc_or a with rfl | ⟨b, y, rfl⟩
  · exact Nat.le_refl _
  · rw [addTo_snoc]
    split <;> simp
theorem fold_len : ∀ (gs acc : List (Int × Int)), (gs.foldl addTo acc).length ≤ acc.length + gs.length
  | [], acc => Nat.le_refl _
  | g :: gs, acc => by
    have h1 := fold_len gs (addTo acc g)
    have h2 := addTo_len acc g
    rw [List.foldl_cons, List.length_cons]
    omega
theorem runAfter_len (r : List (Int × Int) × Int) (f : Fm) : (runAfter r f).1.length ≤ max r.1.length 1 := by
  cases f with
  | keep b a =>
    have := fold_len (moved (.keep b a) r.1) []
    have e : (moved (.keep b a) r.1).length = r.1.length := List.length_map ..
    show (Lx.merged (moved (.keep b a) r.1)).length ≤ _
    unfold Lx.merged
    rw [e] at this
    simp at this
    omega
  | lf b a k c =>
    show (if k * units r (.lf b a k c) = 0 then (([] : List (Int × Int)), (0 : Int)) else ([(k * units r (.lf b a k c), c)], 0)).1.length ≤ _
    split
    · exact Nat.zero_le _
    · exact Nat.le_max_right ..
  | cr b a k => exact Nat.zero_le _
theorem _root_.Lx.RnOk.mono {n m : Nat} {r : List (Int × Int) × Int} (h : RnOk n r) (k : n ≤ m) : RnOk m r :=
  ⟨fun i x hx => let ⟨h1, h2, h3, h4, h5⟩ := h.gs i x hx; ⟨h1, h2, h3.mono k, h4.mono k, h5⟩, ⟨h.rest.1, h.rest.2.mono k⟩, h.len⟩
/-- a chain of at most sixty steps from a run with numbers below 2 ^ 361 -/
theorem stepsL_ok {n : Nat} {r : List (Int × Int) × Int} (h : RnOk n r) (hn : n ≤ 361) {cs : List Nat} (hl : cs.length ≤ 60) (hc : ∀ c ∈ cs, c ∈ steps.cps.toList) : RnOk 1123 (stepsL r cs) ∧ (stepsL r cs).1.length ≤ max r.1.length 1 := by
  rw [← conv_form h _ cs rfl]
  have f := (formL_fls _ cs rfl (by omega) hc).ok
  exact ⟨runAfter_ok (h.mono hn) (f.mono (by omega)), runAfter_len r _⟩
/-! ### runs that repr can write -/
theorem pd_smallB {b : Nat} : ∀ (gs : List (Int × Int)), (∀ x ∈ gs, Sm b x.1 ∧ Sm b x.2) → smallB.smallAll b (pd gs) = true
  | [], _ => rfl
  | g :: gs, h => by
    have h1 := h g (List.mem_cons_self ..)
    have ih := pd_smallB gs fun x hx => h x (List.mem_cons_of_mem _ hx)
    unfold pd at ih ⊢
    simp only [List.map_cons, smallB.smallAll, smallB, ih, Bool.and_true]
    rw [decide_eq_true (show g.1.natAbs < 2 ^ b from h1.1), decide_eq_true (show g.2.natAbs < 2 ^ b from h1.2)]
    rfl
theorem rd_smallB {b : Nat} {g : List (Int × Int) × Int} (h : RnOk b g) : smallB b (rd g) = true := by
  have e1 := pd_smallB (b := b) g.1 fun x hx => by
    obtain ⟨i, hi⟩ := List.mem_iff_getElem?.mp hx
    exact ⟨(h.gs i x hi).2.2.1, (h.gs i x hi).2.2.2.1⟩
  unfold rd
  simp only [smallB, smallB.smallAll, e1, Bool.and_true, Bool.true_and]
  exact decide_eq_true h.rest.2
theorem pd_bulk3 (gs : List (Int × Int)) : PyData.bulkAll (pd gs) = 3 * gs.length := by
  unfold pd
  induction gs with
  | nil => rfl
  | cons g gs ih =>
    simp only [List.map_cons, PyData.bulkAll, PyData.bulk, List.length_cons]
    omega
theorem rd_bulk (g : List (Int × Int) × Int) : (rd g).bulk = 3 * g.1.length + 2 := by
  have e := pd_bulk3 g.1
  unfold rd
  simp only [PyData.bulk, PyData.bulkAll]
  omega
theorem rd_fit {g : List (Int × Int) × Int} (h : RnOk 1123 g) (hl : g.1.length ≤ 1000) : Fit (rd g) := by
  have e := rd_bulk g
  have e2 := rd_depth g
  exact fit_b (b := 1123) (by decide) (by decide) (rd_smallB h) (by omega) (by omega)
theorem rd2_fit {g h : List (Int × Int) × Int} (h1 : RnOk 1123 g) (h2 : RnOk 1123 h) (hl : g.1.length ≤ 1000) (hl2 : h.1.length ≤ 1000) : Fit (.list [rd g, rd h]) := by
  have e := rd_bulk g
  have e' := rd_bulk h
  have e2 := rd_depth g
  have e2' := rd_depth h
  refine fit_b (b := 1123) (by decide) (by decide) ?_ ?_ ?_
  · simp only [smallB, smallB.smallAll, rd_smallB h1, rd_smallB h2, Bool.and_true]
  · simp only [PyData.depth, PyData.depthAll]
    omega
  · simp only [PyData.bulk, PyData.bulkAll]
    omega
theorem int_fit {x : Int} (h : Sm 1900 x) : Fit (.int x) := by
  refine fit_b (b := 1900) (by decide) (by decide) ?_ (by simp [PyData.depth]) (by simp [PyData.bulk])
  simp only [smallB]
  exact decide_eq_true h
end Lw
namespace Lw
open PySem PySem.Spec L2 Lx
theorem cutS_head (z : Str) (k : Nat) (h : k ≤ z.cps.size) : (cutS z none (some (k : Int))).cps.toList = z.cps.toList.take k := by
  unfold cutS
  have e : z.length = z.cps.size := rfl
  rw [e, HT.sIx_none, HT.sIx_nat, Nat.min_eq_left h]
  simp
theorem cutS_tail (z : Str) (k : Nat) (h : k ≤ z.cps.size) : (cutS z (some (k : Int)) none).cps.toList = z.cps.toList.drop k := by
  unfold cutS
  have e : z.length = z.cps.size := rfl
  rw [e, HT.sIx_none, HT.sIx_nat, Nat.min_eq_left h]
  simp
  exact List.take_of_length_le (by simp)
end Lw
namespace Lw
open PySem PySem.Spec L2 Lx
theorem units_size {g : List (Int × Int) × Int} {f : Fm} (h : RnOk 361 g) (hf : f.Ok 361) : Sm 1600 (units (runAfter g f) nothing) := by
  have hu := units_ok (RnOk.sm h) hf
  cases f with
  | keep b a =>
    rw [units_both]
    have e : (Fm.keep b a).both nothing = .keep b a := by
      have p1 := pp (0 - a)
      have p2 := pp (a - 0)
      have ha := hf.2.1
      show Fm.keep (b + (if 0 - a > 0 then 0 - a else 0)) ((if a - 0 > 0 then a - 0 else 0) + 0) = _
      congr 1 <;> omega
    rw [e]
    exact hu.2.mono (by decide)
  | lf b a k c =>
    by_cases z : k * units g (.lf b a k c) = 0
    · rw [show runAfter g (.lf b a k c) = ([], 0) from if_pos z]
      exact Nat.two_pow_pos _
    · rw [show runAfter g (.lf b a k c) = ([(k * units g (.lf b a k c), c)], 0) from if_neg z, units_one, after_nothing hf.2.2.2.1]
      have h1 := hf.2.2.2.2.2.2.1.mul hu.2
      have h2 : Sm 362 (c + 1) := hf.2.2.2.2.2.2.2.add (Nat.lt_of_lt_of_le (by decide : (1 : Int).natAbs < 2 ^ 1) (Nat.pow_le_pow_right (by decide) (by decide)))
      exact (h1.mul h2).mono (by decide)
  | cr b a k =>
    show Sm 1600 (units ([], k * units g (.cr b a k)) nothing)
    rw [units_none]
    exact (hf.2.2.2.2.2.mul hu.2).mono (by decide)
theorem stepsL_units {n : Nat} {r : List (Int × Int) × Int} (h : RnOk n r) (hn : n ≤ 361) {cs : List Nat} (hl : cs.length ≤ 60) (hc : ∀ c ∈ cs, c ∈ steps.cps.toList) : Sm 1900 (units (stepsL r cs) nothing) := by
  rw [← conv_form h _ cs rfl]
  have f := (formL_fls _ cs rfl (by omega) hc).ok
  exact (units_size (h.mono hn) (f.mono (by omega))).mono (by decide)
end Lw
namespace Lw
open PySem PySem.Spec L2 Lx
/-! ### a dict of draws -/
abbrev bagK (g : Addr) (l t b : Int) : List (Key × V) := [(.inr "great", .ref g), (.inr "left", .int l), (.inr "turn", .int t), (.inr "blend", .int b)]
theorem bag_put_left {g : Addr} {l t b x : Int} : putK (bagK g l t b) (.inr "left") (.int x) = bagK g x t b := by rfl
theorem bag_put_turn {g : Addr} {l t b x : Int} : putK (bagK g l t b) (.inr "turn") (.int x) = bagK g l x b := by rfl
theorem bag_great {g : Addr} {l t b : Int} : valV (bagK g l t b) (.inr "great") = some (.ref g) := by rfl
theorem bag_left {g : Addr} {l t b : Int} : valV (bagK g l t b) (.inr "left") = some (.int l) := by rfl
theorem bag_turn {g : Addr} {l t b : Int} : valV (bagK g l t b) (.inr "turn") = some (.int t) := by rfl
theorem bag_blend {g : Addr} {l t b : Int} : valV (bagK g l t b) (.inr "blend") = some (.int b) := by rfl
def BagAt (H : Hp) (r gl : Addr) (n : Nat) : Prop := ∃ (ds : List Int) (l t b : Int), H r = some (.dK (bagK gl l t b)) ∧ H gl = some (.lst (ds.map V.int)) ∧ (∀ d ∈ ds, 0 ≤ d) ∧ 0 ≤ l ∧ 0 ≤ t ∧ t ≤ n ∧ 0 ≤ b ∧ b < 2305843009213693952 ∧ r ≠ gl
theorem bag_get {H : Hp} {r gl : Addr} {l t b : Int} {k : Str} {v : V} (h : H r = some (.dK (bagK gl l t b))) (e : valV (bagK gl l t b) (.inr k) = some v) : DGet H r (.str k) (some v) := .inl ⟨_, .inr k, .inl h, rfl, e.symm⟩
/-- all but two addresses is as it was -/
def Kb (r gl : Addr) (H H' : Hp) : Prop := ∀ b o, b ≠ r → b ≠ gl → H b = some o → H' b = some o
theorem Kb.refl (r gl : Addr) (H : Hp) : Kb r gl H H := fun _ _ _ _ h => h
theorem Kb.trans {r gl : Addr} {H H1 H2 : Hp} (a : Kb r gl H H1) (b : Kb r gl H1 H2) : Kb r gl H H2 := fun c o h1 h2 h => b c o h1 h2 (a c o h1 h2 h)
theorem Kb.of {r gl : Addr} {H H' : Hp} (s : Same H H') : Kb r gl H H' := fun b o _ _ h => s b o h
theorem Kb.upd_r {r gl : Addr} {H : Hp} {o : HO} : Kb r gl H (upd H r o) := fun b u h1 h2 h => by rw [upd_ne h1]; exact h
theorem Kb.upd_g {r gl : Addr} {H : Hp} {o : HO} : Kb r gl H (upd H gl o) := fun b u h1 h2 h => by rw [upd_ne h2]; exact h
theorem Kb.own {r gl p : Addr} {H H' : Hp} {o : HO} (k : Kb r gl H H') (h : H p = none) : Kb r gl H (upd H' p o) := fun b u h1 h2 e => by
  rw [upd_ne (ne_of_none e h)]
  exact k b u h1 h2 e
theorem BagAt.same {H H' : Hp} {r gl : Addr} {n : Nat} (s : Same H H') : BagAt H r gl n → BagAt H' r gl n := fun ⟨ds, l, t, b, h1, h2, h3⟩ => ⟨ds, l, t, b, s _ _ h1, s _ _ h2, h3⟩
theorem BagAt.mono {H : Hp} {r gl : Addr} {n m : Nat} (k : n ≤ m) : BagAt H r gl n → BagAt H r gl m := fun ⟨ds, l, t, b, h1, h2, h3, h4, h5, h6, h7⟩ => ⟨ds, l, t, b, h1, h2, h3, h4, h5, by omega, h7⟩
theorem BagAt.ne {H : Hp} {r gl p : Addr} {n : Nat} (s : BagAt H r gl n) (h : H p = none) : p ≠ r ∧ p ≠ gl := by
  obtain ⟨_, _, _, _, q1, q2, _⟩ := s
  exact ⟨Ne.symm (ne_of_none q1 h), Ne.symm (ne_of_none q2 h)⟩
theorem BagAt.neT {H : Hp} {r gl p : Addr} {n : Nat} {xs : List V} (s : BagAt H r gl n) (h : H p = some (.tup xs)) : p ≠ r ∧ p ≠ gl := by
  obtain ⟨_, _, _, _, q1, q2, _⟩ := s
  exact ⟨ne_of h q1 (by intro z; cases z), ne_of h q2 (by intro z; cases z)⟩
theorem BagAt.own {H : Hp} {r gl p : Addr} {n : Nat} {o : HO} (s : BagAt H r gl n) (ne : p ≠ r ∧ p ≠ gl) : BagAt (upd H p o) r gl n := by
  obtain ⟨ds, l, t, b, h1, h2, h3⟩ := s
  exact ⟨ds, l, t, b, by rw [upd_ne (Ne.symm ne.1)]; exact h1, by rw [upd_ne (Ne.symm ne.2)]; exact h2, h3⟩
theorem Kb.free {r gl : Addr} {H H' : Hp} {n : Nat} (k : Kb r gl H H') (s : BagAt H' r gl n) {p : Addr} (h : H' p = none) : H p = none := by
  cases e : H p with
  | none => rfl
  | some o =>
    have := k p o (s.ne h).1 (s.ne h).2 e
    rw [h] at this
    cases this
theorem Prs.kb {K : PySem.W.Frag} {H H' : Hp} {r gl : Addr} {n : Nat} (s : BagAt H r gl n) (k : Kb r gl H H') : ∀ {vs : List V} {gs : List (Int × Int)}, Prs K H vs gs → Prs K H' vs gs
  | _, _, .nil => .nil
  | _, _, .cons ⟨p, e, h⟩ t => .cons ⟨p, e, k _ _ (s.neT h).1 (s.neT h).2 h⟩ (Prs.kb s k t)
theorem RnS.kb {K : PySem.W.Frag} {H H' : Hp} {v : V} {l r gl : Addr} {n : Nat} {g : List (Int × Int) × Int} (s : BagAt H r gl n) (k : Kb r gl H H') (ne : l ≠ r ∧ l ≠ gl) : RnS K H v l g → RnS K H' v l g :=
  fun ⟨p, xs, h1, h2, h3, h4⟩ => ⟨p, xs, h1, k _ _ (s.neT h2).1 (s.neT h2).2 h2, k _ _ ne.1 ne.2 h3, Prs.kb s k h4⟩
theorem if_fin {c : L2.TT} {A B : TS} {D : Ends} {σ : St} {H : Hp} (Fin : St → Hp → Prop) (h : ∀ R : St → Hp → Prop, (∀ σ H, Fin σ H → R σ H) → tIfS c A B { D with nx := R } σ H) (hf : ∀ σ H, Fin σ H → D.nx σ H) : tIfS c A B D σ H := h D.nx hf
/-! ### groups of which some may be empty, put together -/
/-- numbers that can be reckoned with -/
def GsSm (n : Nat) (gs : List (Int × Int)) : Prop := ∀ x ∈ gs, 0 ≤ x.1 ∧ 0 ≤ x.2 ∧ Sm n x.1 ∧ Sm n x.2
def reduced (gs : List (Int × Int)) : List (Int × Int) := Lx.merged (gs.filter fun x => decide (x.1 > 0))
theorem reduced_take {gs : List (Int × Int)} {i : Nat} {x : Int × Int} (h : gs[i]? = some x) : reduced (gs.take (i + 1)) = if x.1 > 0 then addTo (reduced (gs.take i)) x else reduced (gs.take i) := by
  unfold reduced
  rw [List.take_succ, h, List.filter_append]
  by_cases hx : x.1 > 0
  · have e : List.filter (fun x : Int × Int => decide (x.1 > 0)) (some x).toList = [x] := by simp [hx]
    rw [if_pos hx, e]
    unfold Lx.merged
    rw [List.foldl_append]
    rfl
  · have e : List.filter (fun x : Int × Int => decide (x.1 > 0)) (some x).toList = [] := by simp [hx]
    rw [if_neg hx, e, List.append_nil]
theorem reduced_all {gs : List (Int × Int)} (h : ∀ x ∈ gs, x.1 > 0) : reduced gs = Lx.merged gs := by
  unfold reduced
  rw [List.filter_eq_self.mpr fun x hx => decide_eq_true (h x hx)]
theorem reduced_ok {n : Nat} {gs : List (Int × Int)} (h : GsSm n gs) (hl : gs.length ≤ 1000) : GsOk (n + 11) (reduced gs) ∧ (reduced gs).length ≤ gs.length := by
  have hf : (gs.filter fun x => decide (x.1 > 0)).length ≤ gs.length := List.length_filter_le ..
  have m := mi_fold (n := n) (gs.filter fun x => decide (x.1 > 0)) [] 0 (by omega) (fun x hx => by
    obtain ⟨h1, h2⟩ := List.mem_filter.mp hx
    have h2 := of_decide_eq_true h2
    obtain ⟨q1, q2, q3, q4⟩ := h x h1
    exact ⟨by omega, q3, q2, q4.mono (by omega)⟩) ⟨(fun i x hx => by simp at hx), (fun x hx => by cases hx), Nat.le_refl _⟩
  obtain ⟨m1, m2, m3⟩ := m
  refine ⟨m1, ?_⟩
  have : (reduced gs).length ≤ 0 + (gs.filter fun x => decide (x.1 > 0)).length := m3
  omega
end Lw
namespace Lw
open PySem PySem.Spec L2 Lx
theorem scChkRun : FnScope ["run", "groups", "rest", "before", "index", "many", "j"] ["run"] (defScope sChkRun) := ⟨rfl, rfl, rfl, by decide +kernel, rfl, by decide +kernel, by decide +kernel⟩
def spChkRun (K : PySem.W.Frag) : Sp := fun vs H Q _ => ∃ x l r n, vs = [x] ∧ RnAt K H x l r ∧ RnOk n r ∧ ∀ H', Same H H' → Q .non H'
section
variable {P : Program} {w : World} {K : PySem.W.Frag} {mg : Str → Option Value} {base : Heap} {aL aN aS : Addr}
theorem ok_chkRun {f : Addr} {fd : FuncData} {k : Nat} (F : Fun K "check_run" "check_run" sChkRun f fd) (mE : mg "enumerate" = none) : FnOk P w K mg base CX0 (k + 1) f fd ["run"] (spChkRun K) := by
  refine F.ok scChkRun (fun vs H Q E h => ?_) (fun cdv A outer s H vs Q E hr h => ?_)
  · obtain ⟨x, l, r, n, rfl, _⟩ := h
    rfl
  · obtain ⟨_, l, r, n, rfl, ⟨p, rfl, hT, xs, hL, hP⟩, ho, q⟩ := h
    refine ⟨_, pss_cons (ps_asg (pv 0) (pg_tup (by rfl) (pgs_cons (pg_name (i := 1) scChkRun.nd rfl (.inl rfl)) (pgs_cons (pg_name (i := 2) scChkRun.nd rfl (.inl rfl)) pgs_nil))))
      (pss_cons (ps_set (i := 3) scChkRun.nd rfl (.inl rfl) pe_non)
      (pss_cons (ps_for PassesOwn.never rfl (pi_enum rfl mE (pa_cons (pv 1) pa_nil)) (pg_tup (by rfl) (pgs_cons (pg_name (i := 4) scChkRun.nd rfl (.inl rfl)) (pgs_cons (pg_tup (by rfl) (pgs_cons (pg_name (i := 5) scChkRun.nd rfl (.inl rfl)) (pgs_cons (pg_name (i := 6) scChkRun.nd rfl (.inl rfl)) pgs_nil))) pgs_nil)))
        (pss_cons (ps_if (PW.pt (pw_or (pt_cmpR op_lt (pv 5) pe_int (nomark _)) (pw_or (pt_cmpR op_lt (pv 6) pe_int (nomark _)) (pw_or1 (pt_cmpR op_eq (pv 6) (pv 3) (nomark _)))))) (pss_one ps_never) pss_nil)
        (pss_one (ps_set (i := 3) scChkRun.nd rfl (.inl rfl) (pv 6)))))
      (pss_one (ps_if (pt_cmpR op_lt (pv 2) pe_int (nomark _)) (pss_one ps_never) pss_nil)))), ?_⟩
    refine ⟨_, rfl, p, _, rfl, hT, rfl, _, _, rfl, _, _, rfl, rfl, ?_⟩
    refine ⟨_, rfl, l, xs, rfl, hL, ?_⟩
    refine for_it (walk_enum (xs := xs)) (fun i σ H' => Same H H' ∧ ∃ bf y4 y5 y6, σ = [some (.ref p), some (.ref l), some (.int r.2), some bf, y4, y5, y6] ∧ (i = 0 → bf = .non) ∧ ∀ i' x, i = i' + 1 → r.1[i']? = some x → bf = .int x.2)
      ⟨Same.refl H, .non, none, none, none, rfl, fun _ => rfl, fun _ _ e => by cases e⟩ (fun i σ H' _ hP => hP.1.seq hL) ?_ ?_
    · rintro i v σ H1 H2 hi ⟨sm, bf, y4, y5, y6, rfl, hb0, hb1⟩ ⟨T, u1, u2, rfl, nT, rfl, h1, h2⟩
      cases Option.some.inj h1
      obtain ⟨x, hx, p2, rfl, hp2'⟩ := hP.get h2
      have hp2 : SqT K H p2 [.int x.1, .int x.2] := .inl (.inl hp2')
      have s2 := sm.trans (same_upd (o := .tup [.int (i : Nat), .ref p2]) nT)
      obtain ⟨o1, o2, _, _, o5⟩ := ho.gs i x hx
      refine ⟨T, _, rfl, .inl (.inl upd_same), rfl, _, _, rfl, _, _, rfl, p2, _, rfl, sameT s2 hp2, rfl, _, _, rfl, _, _, rfl, rfl, rfl, ?_⟩
      refine ⟨_, rfl, _, _, rfl, rfl, _, rfl, ?_⟩
      rw [decide_eq_false (by omega : ¬ x.1 < 1)]
      refine iteF ⟨_, rfl, _, _, rfl, rfl, _, rfl, ?_⟩
      rw [decide_eq_false (by omega : ¬ x.2 < 0)]
      refine iteF ⟨_, rfl, _, rfl, ?_⟩
      have hne : scal (.int x.2) bf = true ∧ ¬ (V.int x.2 = bf) := by
        cases i with
        | zero =>
          cases hb0 rfl
          exact ⟨rfl, by intro z; cases z⟩
        | succ i' =>
          have hlt : i' < r.1.length := by
            have := (List.getElem?_eq_some_iff.mp hx).1
            omega
          have e := hb1 i' _ rfl (List.getElem?_eq_getElem hlt)
          subst e
          refine ⟨rfl, fun z => ?_⟩
          exact (ho.gs i' _ (List.getElem?_eq_getElem hlt)).2.2.2.2 x hx (V.int.inj z)
      refine ⟨hne.1, _, rfl, ?_⟩
      rw [decide_eq_false hne.2]
      refine iteF ⟨_, rfl, s2, _, _, _, _, rfl, (fun e => by cases e), fun i' x' e hx' => ?_⟩
      cases Nat.succ.inj e
      rw [hx] at hx'
      cases hx'
      rfl
    · rintro σ H1 ⟨sm, bf, y4, y5, y6, rfl, _⟩
      refine ⟨_, rfl, _, _, rfl, rfl, _, rfl, ?_⟩
      rw [decide_eq_false (by have := ho.rest.1; omega : ¬ r.2 < 0)]
      exact iteF (q _ sm)
end
end Lw
namespace Lw
open PySem PySem.Spec L2 Lx
theorem scIsForm : FnScope ["wanted"] ["wanted"] (defScope sIsForm) := ⟨rfl, rfl, rfl, by decide +kernel, rfl, by decide +kernel, by decide +kernel⟩
theorem scChkForm : FnScope ["wanted"] ["wanted"] (defScope sChkForm) := ⟨rfl, rfl, rfl, by decide +kernel, rfl, by decide +kernel, by decide +kernel⟩
def spIsForm (K : PySem.W.Frag) : Sp := fun vs H Q _ => ∃ x f n, vs = [x] ∧ FmAt K H x f ∧ f.Ok n ∧ ∀ H', Same H H' → Q (.bl true) H'
def spChkForm (K : PySem.W.Frag) : Sp := fun vs H Q _ => ∃ x f n, vs = [x] ∧ FmAt K H x f ∧ f.Ok n ∧ ∀ H', Same H H' → Q .non H'
section
variable {P : Program} {w : World} {K : PySem.W.Frag} {mg : Str → Option Value} {base : Heap} {aL aN aS : Addr}
theorem ok_isForm {f : Addr} {fd : FuncData} {k : Nat} (F : Fun K "is_form" "is_form" sIsForm f fd) (T : LenT K w mg aL) (mL : mg "len" = none) (mM : mg "min" = none) : FnOk P w K mg base CX0 (k + 1) f fd ["wanted"] (spIsForm K) := by
  refine F.ok scIsForm (fun vs H Q E h => ?_) (fun cdv A outer s H vs Q E hr h => ?_)
  · obtain ⟨x, f, n, rfl, _⟩ := h
    rfl
  · obtain ⟨_, f, n, rfl, ⟨p, rfl, hT⟩, ho, q⟩ := h
    refine ⟨_, pss_cons (ps_if (PW.pt (pw_or (pt_not (pt_truth (pv 0) (fun _ => rfl))) (pw_or1 (pt_cmpR op_ne (pe_kget (pe_glob (v := .ref aL) rfl T.g rfl) (pe_ix ix_tup (pv 0) pe_int (fun _ _ => rfl)) ⟨rfl, rfl, rfl, rfl⟩) (pe_callB call_len_seq (by rfl) mL PySem.boot_len (pa_cons (pv 0) pa_nil)) (nomark _))))) (pss_one (ps_ret pe_bl)) pss_nil)
      (pss_cons (ps_if (pt_cmpR op_lt (pe_callB (call_minT rfl) (by rfl) mM (by decide +kernel) (pa_cons (pe_slice sl_tup (pv 0) (po_some pe_int) po_none) pa_nil)) pe_int (nomark _)) (pss_one (ps_ret pe_bl)) pss_nil)
      (pss_one (ps_ret (pe_or (pe_cmpR op_eq (pe_ix ix_tup (pv 0) pe_int (fun _ _ => rfl)) pe_str (nomark _)) (pe_one (pe_cmpR op_gt (pe_ix ix_tup (pv 0) pe_int (fun _ _ => rfl)) pe_int (nomark _))))))), ?_⟩
    obtain ⟨es, dn, D⟩ := T.d
    obtain ⟨t, ht⟩ := T.at f
    have hne : f.vs.isEmpty = false := by cases f <;> rfl
    refine ⟨_, rfl, true, .inr (.inl ⟨f.vs, hT, by rw [hne]; rfl⟩), iteF ?_⟩
    refine ⟨aL, es, dn, rfl, D, _, rfl, p, _, 0, _, rfl, rfl, hT, atI_nat (j := 0) f.vs0, f.nm, _, .int f.vs.length, rfl, ht, ⟨t, rfl⟩, ?_⟩
    refine ⟨_, rfl, p, f.vs, rfl, .inr hT, ?_⟩
    refine ⟨rfl, _, rfl, ?_⟩
    rw [decide_eq_true rfl]
    refine iteF ?_
    refine ⟨_, rfl, 1, rfl, p, f.vs, rfl, hT, wh f, fun p2 n2 => ?_⟩
    rw [cut1]
    have s2 := same_upd (o := .tup (f.nums.map V.int)) n2
    refine ⟨p2, f.nums, rfl, .inl (.inl upd_same), np f, fun m hm _ => ?_⟩
    refine ⟨_, _, rfl, rfl, _, rfl, ?_⟩
    rw [decide_eq_false (by have := nums0 ho m hm; omega : ¬ m < 0)]
    refine iteF ?_
    refine ⟨_, rfl, p, _, 0, _, rfl, rfl, sameT s2 hT, atI_nat (j := 0) f.vs0, rfl, _, rfl, ?_⟩
    cases f with
    | keep b a => exact iteT (q _ s2)
    | lf b a k c =>
      refine iteF ⟨_, rfl, p, _, 3, .int k, rfl, rfl, sameT s2 hT, atI_nat (j := 3) rfl, _, _, rfl, rfl, ?_⟩
      show Q (.bl (decide (0 < k))) _
      rw [decide_eq_true (by have := ho.2.2.1; omega : 0 < k)]
      exact q _ s2
    | cr b a k =>
      refine iteF ⟨_, rfl, p, _, 3, .int k, rfl, rfl, sameT s2 hT, atI_nat (j := 3) rfl, _, _, rfl, rfl, ?_⟩
      show Q (.bl (decide (0 < k))) _
      rw [decide_eq_true (by have := ho.2.2.1; omega : 0 < k)]
      exact q _ s2
theorem ok_chkForm {f fI : Addr} {fd fdI : FuncData} {k : Nat} (F : Fun K "check_form" "check_form" sChkForm f fd) (GI : FnOk P w K mg base CX0 k fI fdI ["wanted"] (spIsForm K)) (kI : PySem.W.keepIn K (.ref fI) = true) (bI : Binds K fdI ["wanted"] []) (gI : mg "is_form" = some (.ref fI)) :
    FnOk P w K mg base CX0 (k + 1) f fd ["wanted"] (spChkForm K) := by
  refine F.ok scChkForm (fun vs H Q E h => ?_) (fun cdv A outer s H vs Q E hr h => ?_)
  · obtain ⟨x, f, n, rfl, _⟩ := h
    rfl
  · obtain ⟨x, f, n, rfl, hf, ho, q⟩ := h
    refine ⟨_, pss_one (ps_if (pt_not (pt_val (pe_call GI hr (by rfl) gI kI bI .nil pass0 (pa_cons (pv 0) pa_nil)))) (pss_one ps_never) pss_nil), ?_⟩
    refine ⟨_, rfl, x, f, n, rfl, hf, ho, fun H' sm => ?_⟩
    exact ⟨_, rfl, iteF (q _ sm)⟩
end
end Lw
namespace Lw
open PySem PySem.Spec L2 Lx
theorem scSigns : FnScope ["j", "wanted"] ["j", "wanted"] (defScope sSigns) := ⟨rfl, rfl, rfl, by decide +kernel, rfl, by decide +kernel, by decide +kernel⟩
theorem scUog : FnScope ["j", "wanted"] ["j", "wanted"] (defScope sUog) := ⟨rfl, rfl, rfl, by decide +kernel, rfl, by decide +kernel, by decide +kernel⟩
def spUog (K : PySem.W.Frag) : Sp := fun vs H Q _ => ∃ j x f, vs = [.int j, x] ∧ FmAt K H x f ∧ Q (.int (f.after j + 1)) H
def spSigns (K : PySem.W.Frag) : Sp := fun vs H Q _ => ∃ j x f, vs = [.int j, x] ∧ FmAt K H x f ∧ Q (.int (f.after j)) H
section
variable {P : Program} {w : World} {K : PySem.W.Frag} {mg : Str → Option Value} {base : Heap} {aL aN aS : Addr}
theorem ok_signs {f : Addr} {fd : FuncData} {k : Nat} (F : Fun K "signs_after" "signs_after" sSigns f fd) (mX : mg "max" = none) : FnOk P w K mg base CX0 (k + 1) f fd ["j", "wanted"] (spSigns K) := by
  refine F.ok scSigns (fun vs H Q E h => ?_) (fun cdv A outer s H vs Q E hr h => ?_)
  · obtain ⟨j, x, f, rfl, _⟩ := h
    rfl
  · obtain ⟨j, _, f, rfl, ⟨p, rfl, hT⟩, q⟩ := h
    refine ⟨_, pss_one (ps_ret (pe_op op_add (pe_callB (call_max2 rfl) (by rfl) mX (by decide +kernel) (pa_cons pe_int (pa_cons (pe_op op_sub (pv 0) (pe_ix ix_tup (pv 1) pe_int (fun _ _ => rfl))) pa_nil))) (pe_ix ix_tup (pv 1) pe_int (fun _ _ => rfl)))), ?_⟩
    refine ⟨_, rfl, _, rfl, p, _, 1, _, rfl, rfl, hT, atI_nat (j := 1) f.vs1, _, _, rfl, rfl, _, _, rfl, _, rfl, p, _, 2, _, rfl, rfl, hT, atI_nat (j := 2) f.vs2, _, _, rfl, rfl, q⟩
theorem ok_uog {f fS : Addr} {fd fdS : FuncData} {k : Nat} (F : Fun K "units_of_group" "units_of_group" sUog f fd) (GS : FnOk P w K mg base CX0 k fS fdS ["j", "wanted"] (spSigns K)) (kS : PySem.W.keepIn K (.ref fS) = true) (bS : Binds K fdS ["j", "wanted"] []) (gS : mg "signs_after" = some (.ref fS)) :
    FnOk P w K mg base CX0 (k + 1) f fd ["j", "wanted"] (spUog K) := by
  refine F.ok scUog (fun vs H Q E h => ?_) (fun cdv A outer s H vs Q E hr h => ?_)
  · obtain ⟨j, x, f, rfl, _⟩ := h
    rfl
  · obtain ⟨j, x, f, rfl, hx, q⟩ := h
    refine ⟨_, pss_one (ps_ret (pe_op op_add (pe_call GS hr (by rfl) gS kS bS .nil pass0 (pa_cons (pv 0) (pa_cons (pv 1) pa_nil))) pe_int)), ?_⟩
    exact ⟨_, rfl, _, rfl, j, x, f, rfl, hx, _, _, rfl, rfl, q⟩
end
end Lw
namespace Lw
open PySem PySem.Spec L2 Lx
abbrev nUnits : List Str := ["run", "wanted", "groups", "rest", "many", "j"]
theorem scUnits : FnScope nUnits ["run", "wanted"] (defScope sUnits) := ⟨rfl, rfl, rfl, by decide +kernel, rfl, by decide +kernel, by decide +kernel⟩
def spUnits (K : PySem.W.Frag) : Sp := fun vs H Q _ => ∃ x l r y f n, vs = [x, y] ∧ RnAt K H x l r ∧ FmAt K H y f ∧ RnSm n r ∧ f.Ok n ∧ n ≤ 100000 ∧ ∀ H', Same H H' → Q (.int (units r f)) H'
section
variable {P : Program} {w : World} {K : PySem.W.Frag} {mg : Str → Option Value} {base : Heap} {aL aN aS : Addr}
theorem ok_units {f fS : Addr} {fd fdS : FuncData} {k : Nat} (F : Fun K "units" "units" sUnits f fd) (GS : FnOk P w K mg base CX0 k fS fdS ["j", "wanted"] (spUog K)) (kS : PySem.W.keepIn K (.ref fS) = true) (bS : Binds K fdS ["j", "wanted"] []) (gS : mg "units_of_group" = some (.ref fS)) (mS : mg "sum" = none) :
    FnOk P w K mg base CX0 (k + 1) f fd ["run", "wanted"] (spUnits K) := by
  refine F.ok scUnits (fun vs H Q E h => ?_) (fun cdv A outer s H vs Q E hr h => ?_)
  · obtain ⟨x, l, r, y, f, n, rfl, _⟩ := h
    rfl
  · obtain ⟨_, l, r, y, f, n, rfl, ⟨p, rfl, hT, xs, hL, hP⟩, hy, hs, hf, hn, q⟩ := h
    refine ⟨_, pss_cons (ps_asg (pv 0) (pg_tup (by rfl) (pgs_cons (pg_name (i := 2) scUnits.nd rfl (.inl rfl)) (pgs_cons (pg_name (i := 3) scUnits.nd rfl (.inl rfl)) pgs_nil))))
      (pss_one (ps_ret (pe_op op_add (pe_callB (cr_sum rfl) (by rfl) mS (by decide +kernel) (pa_cons (pe_lc (own := [("many", 4), ("j", 5)]) (g := gTup K 2 (gCons (gName 4) (gCons (gName 5) gNil))) (tt := tYes) rfl scUnits.nd (pi_list (pv 2)) (blkOk_by (own := [("many", 4), ("j", 5)]) (N := nUnits) (sc := defScope sUnits) (by decide +kernel))
          (fun _ _ _ _ _ => pg_tup (by rfl) (pgs_cons (pg_name (i := 4) scUnits.nd rfl (.inl rfl)) (pgs_cons (pg_name (i := 5) scUnits.nd rfl (.inl rfl)) pgs_nil))) (fun _ _ _ _ _ => pts_nil)
          (fun _ _ _ _ _ => pe_op op_mulW (pv 4) (pe_call GS hr (by rfl) gS kS bS .nil pass0 (pa_cons (pv 5) (pa_cons (pv 1) pa_nil))))) pa_nil)) (pv 3)))), ?_⟩
    refine ⟨_, rfl, p, _, rfl, hT, rfl, _, _, rfl, _, _, rfl, rfl, ?_⟩
    refine ⟨_, rfl, l, rfl, ⟨_, hL⟩, fun D nD => ?_⟩
    refine lc_it (walk_list (xs := xs)) (fun i H' => Same H H' ∧ H' D = some (.lst (((r.1.take i).map fun x => x.1 * (f.after x.2 + 1)).map V.int))) ⟨same_upd nD, upd_same⟩ (fun i H' _ hQ => hQ.1.seq hL) ?_ ?_
    · rintro i u H1 H2 hi ⟨sm, hD⟩ ⟨rfl, hu⟩
      obtain ⟨x, hx, a, rfl, ha'⟩ := hP.get hu
      have ha : SqT K H a [.int x.1, .int x.2] := .inl (.inl ha')
      have hxm := List.mem_of_getElem? hx
      obtain ⟨x1, x2, x3, x4⟩ := hs.1 x hxm
      have hb := Fm.after_ok (hf.mono (Nat.le_succ n)) x2 (x4.mono (Nat.le_succ n))
      have hb2 : Sm (n + 3) (f.after x.2 + 1) := hb.2.add (Nat.lt_of_lt_of_le (by decide : (1 : Int).natAbs < 2 ^ 1) (Nat.pow_le_pow_right (by decide) (by omega)))
      refine ⟨a, _, rfl, sameT sm ha, rfl, _, _, rfl, _, _, rfl, rfl, rfl, ?_⟩
      refine ⟨_, rfl, _, rfl, _, rfl, x.2, y, f, rfl, hy.same sm, _, _, rfl, rfl, wide_mul (x3.mono (Nat.le_succ n)) hb2 (by omega) (by omega) (by omega), ?_⟩
      refine ⟨_, hD, ?_, Same.own sm nD, ?_⟩
      · have := hs.2.2.2
        rw [List.length_map, List.length_map, List.length_take, sizeLine_eq]
        omega
      · rw [upd_same, List.take_succ, hx, List.map_append, List.map_append]
        rfl
    · rintro H1 ⟨sm, hD⟩
      rw [List.take_of_length_le (by rw [← hP.len]; exact Nat.le_refl _)] at hD
      refine ⟨D, _, rfl, .inl (.inl hD), _, rfl, _, _, rfl, rfl, ?_⟩
      rw [sum_mapV]
      exact q _ sm
end
end Lw
namespace Lw
open PySem PySem.Spec L2 Lx
theorem scChp : FnScope ["place", "total"] ["place", "total"] (defScope sCheckPlace) := ⟨rfl, rfl, rfl, by decide +kernel, rfl, by decide +kernel, by decide +kernel⟩
theorem scWid : FnScope ["wanted"] ["wanted"] (defScope sCharactersOfUnit) := ⟨rfl, rfl, rfl, by decide +kernel, rfl, by decide +kernel, by decide +kernel⟩
theorem scLen : FnScope ["groups", "wanted", "_", "j"] ["groups", "wanted"] (defScope sLengthsAfter) := ⟨rfl, rfl, rfl, by decide +kernel, rfl, by decide +kernel, by decide +kernel⟩
theorem scLoc : FnScope ["groups", "lengths", "place", "at", "many", "_", "number", "inside"] ["groups", "lengths", "place"] (defScope sLocated) := ⟨rfl, rfl, rfl, by decide +kernel, rfl, by decide +kernel, by decide +kernel⟩
theorem scSta : FnScope ["groups", "lengths", "at", "number", "before", "length", "many", "_"] ["groups", "lengths", "at", "number"] (defScope sStartOf) := ⟨rfl, rfl, rfl, by decide +kernel, rfl, by decide +kernel, by decide +kernel⟩
theorem scRet : FnScope ["j", "wanted"] ["j", "wanted"] (defScope sReturnsLeft) := ⟨rfl, rfl, rfl, by decide +kernel, rfl, by decide +kernel, by decide +kernel⟩
theorem scOri : FnScope ["j", "wanted", "unit"] ["j", "wanted", "unit"] (defScope sOriginInGroup) := ⟨rfl, rfl, rfl, by decide +kernel, rfl, by decide +kernel, by decide +kernel⟩
theorem scUig : FnScope ["j", "wanted", "place", "left"] ["j", "wanted", "place"] (defScope sUnitsInGroup) := ⟨rfl, rfl, rfl, by decide +kernel, rfl, by decide +kernel, by decide +kernel⟩
theorem scTra : FnScope ["run", "wanted", "place", "width", "groups", "_", "at", "number", "inside", "start"] ["run", "wanted", "place"] (defScope sTrace) := ⟨rfl, rfl, rfl, by decide +kernel, rfl, by decide +kernel, by decide +kernel⟩
theorem scOff : FnScope ["run", "wanted", "place", "groups", "_", "at", "number", "inside", "first", "last", "start", "width"] ["run", "wanted", "place"] (defScope sOffspring) := ⟨rfl, rfl, rfl, by decide +kernel, rfl, by decide +kernel, by decide +kernel⟩
def lens (f : Fm) (gs : List (Int × Int)) : List Int := (gs.map fun x => f.after x.2 + 1) ++ [0]
def GOk (n : Nat) (gs : List (Int × Int)) : Prop := (∀ x ∈ gs, 0 ≤ x.1 ∧ 0 ≤ x.2 ∧ Sm n x.1 ∧ Sm n x.2) ∧ gs.length ≤ 1000
def Loc (f : Fm) (gs : List (Int × Int)) (place : Int) (at' : Nat) (num ins : Int) : Prop :=
  (∃ x, gs[at']? = some x ∧ 0 ≤ num ∧ num < x.1 ∧ 0 ≤ ins ∧ ins < f.after x.2 + 1 ∧ place = total (moved f (gs.take at')) + num * (f.after x.2 + 1) + ins) ∨
  (at' = gs.length ∧ num = 0 ∧ 0 ≤ ins ∧ place = total (moved f gs) + ins)
def spChp : Sp := fun vs H Q _ => ∃ p t : Int, vs = [.int p, .int t] ∧ 0 ≤ p ∧ p < t ∧ Q .non H
def spWid (K : PySem.W.Frag) : Sp := fun vs H Q _ => ∃ y f n, vs = [y] ∧ FmAt K H y f ∧ f.Ok n ∧ 0 < n ∧ n ≤ 4000 ∧ Q (.int (width f)) H
def spLens (K : PySem.W.Frag) : Sp := fun vs H Q _ => ∃ l y gs f, vs = [.ref l, y] ∧ GsAt K H l gs ∧ FmAt K H y f ∧ gs.length ≤ 1000 ∧ ∀ p H', Same H H' → H' p = some (.lst ((lens f gs).map V.int)) → Q (.ref p) H'
def spLoc (K : PySem.W.Frag) : Sp := fun vs H Q _ => ∃ l q0 place gs f n, vs = [.ref l, .ref q0, .int place] ∧ GsAt K H l gs ∧ H q0 = some (.lst ((lens f gs).map V.int)) ∧ GOk n gs ∧ f.Ok n ∧ 0 < n ∧ n ≤ 2000 ∧ 0 ≤ place ∧
  ∀ (t : Addr) (H' : Hp) (at' : Nat) (num ins : Int), Same H H' → H' t = some (.tup [.int at', .int num, .int ins]) → Loc f gs place at' num ins → Q (.ref t) H'
def spSta (K : PySem.W.Frag) : Sp := fun vs H Q _ => ∃ (l q0 : Addr) (at' : Nat) (num : Int) (gs : List (Int × Int)) (f : Fm) (n : Nat) (ln : Int), vs = [.ref l, .ref q0, .int at', .int num] ∧ GsAt K H l gs ∧ H q0 = some (.lst ((lens f gs).map V.int)) ∧ GOk n gs ∧ f.Ok n ∧ 0 < n ∧ n ≤ 2000 ∧ (lens f gs)[at']? = some ln ∧ Sm n num ∧
  ∀ H', Same H H' → Q (.int (total (moved f (gs.take at')) + num * ln)) H'
def spRet (K : PySem.W.Frag) : Sp := fun vs H Q _ => ∃ j y f, vs = [.int j, y] ∧ FmAt K H y f ∧ Q (.int (lft f j)) H
def spOri (K : PySem.W.Frag) : Sp := fun vs H Q _ => ∃ j y f u, vs = [.int j, y, .int u] ∧ FmAt K H y f ∧ Q (.int (if u < lft f j then u else j)) H
def spUig (K : PySem.W.Frag) : Sp := fun vs H Q _ => ∃ j y f p, vs = [.int j, y, .int p] ∧ FmAt K H y f ∧ ∀ (t : Addr) (H' : Hp), Same H H' → H' t = some (.tup [.int (if p = j then lft f j else p), .int (if p = j then lft f j + f.a else (if lft f j - 1 < p then lft f j - 1 else p))]) → Q (.ref t) H'
structure MxF (mg : Str → Option Value) : Prop where
  max : mg "max" = none
structure MnF (mg : Str → Option Value) : Prop where
  min : mg "min" = none
structure LoF (mg : Str → Option Value) : Prop where
  enumerate : mg "enumerate" = none
  divmod : mg "divmod" = none
  len : mg "len" = none
structure StF (mg : Str → Option Value) : Prop where
  zip : mg "zip" = none
  sum : mg "sum" = none
structure LeF (mg : Str → Option Value) : Prop where
  len : mg "len" = none
theorem lens_at {f : Fm} {gs : List (Int × Int)} {i : Nat} {x : Int × Int} (h : gs[i]? = some x) : (lens f gs)[i]? = some (f.after x.2 + 1) := by
  have hl := (List.getElem?_eq_some_iff.mp h).1
  unfold lens
  rw [List.getElem?_append_left (by rw [List.length_map]; exact hl), List.getElem?_map, h]
  rfl
theorem lens_end {f : Fm} {gs : List (Int × Int)} : (lens f gs)[gs.length]? = some 0 := by
  unfold lens
  rw [List.getElem?_append_right (by rw [List.length_map]; exact Nat.le_refl _), List.length_map, Nat.sub_self]
  rfl
theorem lens_len {f : Fm} {gs : List (Int × Int)} : (lens f gs).length = gs.length + 1 := by
  unfold lens
  rw [List.length_append, List.length_map]
  rfl
theorem GOk.take {n : Nat} {gs : List (Int × Int)} (h : GOk n gs) (i : Nat) : GOk n (gs.take i) := ⟨fun x hx => h.1 x (List.mem_of_mem_take hx), by
  have := h.2
  rw [List.length_take]
  omega⟩
theorem tot_take {f : Fm} {gs : List (Int × Int)} {i : Nat} {x : Int × Int} (h : gs[i]? = some x) : total (moved f (gs.take (i + 1))) = total (moved f (gs.take i)) + x.1 * (f.after x.2 + 1) := by
  have e : moved f (gs.take (i + 1)) = moved f (gs.take i) ++ [(x.1, f.after x.2)] := by
    unfold moved
    rw [List.take_succ, h, List.map_append]
    rfl
  rw [e, total_snoc]
theorem ln_ok {n : Nat} {f : Fm} {x : Int × Int} (hf : f.Ok n) (h0 : 0 ≤ x.2) (h1 : Sm n x.2) : 1 ≤ f.after x.2 + 1 ∧ Sm (n + 2) (f.after x.2 + 1) := by
  have hb := Fm.after_ok hf h0 h1
  have hb2 : Sm (n + 2) (f.after x.2 + 1) := hb.2.add (Nat.lt_of_lt_of_le (by decide : (1 : Int).natAbs < 2 ^ 1) (Nat.pow_le_pow_right (by decide) (by omega)))
  exact ⟨by omega, hb2⟩
theorem cutV_take (xs : List V) (k : Nat) : cutV xs none (some (k : Int)) = xs.take k := by
  unfold cutV
  rw [HT.sIx_nat, HT.sIx_none, List.drop_zero, Nat.sub_zero, ← List.take_eq_take_min]
/-- of a place: where it stems from, what stems from it -/
def spTra (K : PySem.W.Frag) : Sp := fun vs H Q _ => ∃ x y l r f n place, vs = [x, y, .int place] ∧ RnAt K H x l r ∧ FmAt K H y f ∧ RnOk n r ∧ f.Ok n ∧ 0 < n ∧ n ≤ 2000 ∧ 0 ≤ place ∧ place < width f * units r f ∧
  ∀ (H' : Hp) (p : Int), Same H H' → 0 ≤ p → p < size1 r → width f * U f (expand r.1) p ≤ place → place < width f * U f (expand r.1) (p + 1) → Q (.int p) H'
def spOff (K : PySem.W.Frag) : Sp := fun vs H Q _ => ∃ x y l r f n place, vs = [x, y, .int place] ∧ RnAt K H x l r ∧ FmAt K H y f ∧ RnOk n r ∧ f.Ok n ∧ 0 < n ∧ n ≤ 2000 ∧ 0 ≤ place ∧ place < size1 r ∧
  (U f (expand r.1) place = U f (expand r.1) (place + 1) → ∀ H', Same H H' → Q .non H') ∧
  (U f (expand r.1) place < U f (expand r.1) (place + 1) → ∀ (H' : Hp) (t : Addr), Same H H' → H t = none → H' t = some (.tup [.int (width f * U f (expand r.1) place), .int (width f * U f (expand r.1) (place + 1) - 1)]) → Q (.ref t) H')
theorem width_pos {n : Nat} {f : Fm} (h : f.Ok n) : 0 < width f := by
  cases f with
  | keep b a => exact Int.zero_lt_one
  | lf b a k c => exact Int.mul_pos h.2.2.1 (by have := h.2.2.2.1; omega)
  | cr b a k => exact h.2.2.1
theorem width_sm {n : Nat} {f : Fm} (h : f.Ok n) (h0 : 0 < n) : Sm (2 * n + 1) (width f) := by
  cases f with
  | keep b a => exact Nat.lt_of_lt_of_le (by decide : (1 : Int).natAbs < 2 ^ 1) (Nat.pow_le_pow_right (by decide) (by omega))
  | lf b a k c =>
    have h1 : Sm (n + 1) (c + 1) := h.2.2.2.2.2.2.2.add (Nat.lt_of_lt_of_le (by decide : (1 : Int).natAbs < 2 ^ 1) (Nat.pow_le_pow_right (by decide) (by omega)))
    exact (h.2.2.2.2.2.2.1.mul h1).mono (by omega)
  | cr b a k => exact h.2.2.2.2.2.mono (by omega)
theorem RnOk.g {n : Nat} {r : List (Int × Int) × Int} (h : RnOk n r) : GOk n r.1 := ⟨(RnOk.sm h).1, h.len⟩
theorem nothing_moved {n : Nat} {gs : List (Int × Int)} (h : GOk n gs) : moved nothing gs = gs := moved_nothing fun x hx => (h.1 x hx).2.1
/-- the place of the run for a place of the result -/
theorem loc_trace {n : Nat} {f : Fm} {r : List (Int × Int) × Int} (h : RnOk n r) (hf : f.Ok n) {u : Int} {at' : Nat} {num ins : Int} (hl : Loc f r.1 u at' num ins) (hu : u < units r f) :
    (∀ x, r.1[at']? = some x → 0 ≤ total (r.1.take at') + num * (x.2 + 1) + (if ins < lft f x.2 then ins else x.2) ∧
      U f (expand r.1) (total (r.1.take at') + num * (x.2 + 1) + (if ins < lft f x.2 then ins else x.2)) ≤ u ∧
      u < U f (expand r.1) (total (r.1.take at') + num * (x.2 + 1) + (if ins < lft f x.2 then ins else x.2) + 1)) ∧
    (at' = r.1.length → 0 ≤ total r.1 + ins ∧ total r.1 + ins < size1 r ∧ U f (expand r.1) (total r.1 + ins) = u ∧ U f (expand r.1) (total r.1 + ins + 1) = u + 1) := by
  have hg : ∀ y ∈ r.1, 0 ≤ y.1 ∧ 0 ≤ y.2 := fun y hy => ⟨((RnOk.g h).1 y hy).1, ((RnOk.g h).1 y hy).2.1⟩
  have tot0 : ∀ gs : List (Int × Int), (∀ y ∈ gs, 0 ≤ y.1 ∧ 0 ≤ y.2) → 0 ≤ total gs := fun gs hh => by
    rw [← szL_expand fun y hy => (hh y hy).1]
    refine szL_0 fun j hj => ?_
    obtain ⟨z, hz, rfl⟩ := expand_mem hj
    exact (hh z hz).2
  rcases hl with ⟨x, hx, n0, n1, i0, i1, e⟩ | ⟨e1, e2, i0, e3⟩
  · refine ⟨fun x' hx' => ?_, fun hh => ?_⟩
    · rw [hx] at hx'
      cases hx'
      obtain ⟨a1, a2⟩ := U_at (f := f) hx hg n0 n1
      have x2 := (hg x (List.mem_of_getElem? hx)).2
      have l0 := lft_0 f x.2
      have l1 := lft_le (f := f) x2 hf.b0.1
      have t0 := tot0 (r.1.take at') fun y hy => hg y (List.mem_of_mem_take hy)
      have m0 : 0 ≤ num * (x.2 + 1) := Int.mul_nonneg n0 (by omega)
      by_cases c : ins < lft f x.2
      · rw [if_pos c, a1 ins i0 (by omega), Int.add_assoc (total (r.1.take at') + num * (x.2 + 1)) ins 1, a1 (ins + 1) (by omega) (by omega)]
        refine ⟨by omega, by omega, by omega⟩
      · rw [if_neg c, a1 x.2 x2 (Int.le_refl _), a2]
        refine ⟨by omega, by omega, by omega⟩
    · have := (List.getElem?_eq_some_iff.mp hx).1
      omega
  · refine ⟨fun x hx => ?_, fun _ => ?_⟩
    · have := (List.getElem?_eq_some_iff.mp hx).1
      omega
    · have t0 := tot0 r.1 hg
      have hlt : ins < r.2 := by
        unfold units at hu
        omega
      rw [U_rest hg i0, Int.add_assoc, U_rest hg (by omega)]
      refine ⟨by omega, by show _ < total r.1 + r.2; omega, by omega, by omega⟩
theorem size_end {n : Nat} {f : Fm} {r : List (Int × Int) × Int} (h : RnOk n r) : U f (expand r.1) (size1 r) = units r f := U_rest (fun y hy => ⟨((RnOk.g h).1 y hy).1, ((RnOk.g h).1 y hy).2.1⟩) h.rest.1
/-- a place that has more units behind it than the whole is none -/
theorem lt_size {n : Nat} {f : Fm} {r : List (Int × Int) × Int} (h : RnOk n r) (hf : f.Ok n) {p u : Int} (hp : 0 ≤ p) (hu : u < units r f) (h1 : U f (expand r.1) p ≤ u) : p < size1 r := by
  refine Int.lt_of_not_ge fun hh => ?_
  have t0 : 0 ≤ size1 r := by
    rw [show size1 r = szL (expand r.1) + r.2 by rw [szL_expand fun x hx => ((RnOk.g h).1 x hx).1]; rfl]
    have := szL_0 (js := expand r.1) fun j hj => by
      obtain ⟨z, hz, rfl⟩ := expand_mem hj
      exact ((RnOk.g h).1 z hz).2.1
    have := h.rest.1
    omega
  have := U_mono (f := f) hf.a0.1 (js := expand r.1) t0 hh
  rw [size_end h] at this
  omega
section
variable {P : Program} {w : World} {K : PySem.W.Frag} {mg : Str → Option Value} {base : Heap}
theorem ok_chp {f : Addr} {fd : FuncData} {k : Nat} (F : Fun K "check_place" "check_place" sCheckPlace f fd) : FnOk P w K mg base CX0 (k + 1) f fd ["place", "total"] spChp := by
  refine F.ok scChp (fun vs H Q E h => ?_) (fun cdv A outer s H vs Q E hr h => ?_)
  · obtain ⟨p, t, rfl, _⟩ := h
    rfl
  · obtain ⟨p, t, rfl, h0, h1, q⟩ := h
    refine ⟨_, (pss_one (ps_if (PW.pt (pw_or (pt_cmpR op_lt (pv 0) pe_int (nomark _)) (pw_or1 (pt_cmpR op_ge (pv 0) (pv 1) (nomark _)))))
          (pss_one ps_never) pss_nil)), ?_⟩
    refine ⟨_, rfl, _, _, rfl, rfl, _, rfl, ?_⟩
    rw [decide_eq_false (by omega : ¬ p < 0)]
    refine iteF ⟨_, rfl, _, rfl, _, _, rfl, rfl, _, rfl, ?_⟩
    rw [decide_eq_false (by omega : ¬ t ≤ p)]
    exact iteF q
theorem ok_wid {f : Addr} {fd : FuncData} {k : Nat} (F : Fun K "characters_of_unit" "characters_of_unit" sCharactersOfUnit f fd) : FnOk P w K mg base CX0 (k + 1) f fd ["wanted"] (spWid K) := by
  refine F.ok scWid (fun vs H Q E h => ?_) (fun cdv A outer s H vs Q E hr h => ?_)
  · obtain ⟨y, f, n, rfl, _⟩ := h
    rfl
  · obtain ⟨_, f, n, rfl, ⟨p, rfl, hT⟩, hf, hn0, hn, q⟩ := h
    refine ⟨_, (pss_cons (ps_if (pt_cmpR op_eq (pe_ix ix_tup (pv 0) pe_int (fun _ _ => rfl)) pe_str (nomark _))
          (pss_one (ps_ret pe_int)) pss_nil)
      (pss_cons (ps_if (pt_cmpR op_eq (pe_ix ix_tup (pv 0) pe_int (fun _ _ => rfl)) pe_str (nomark _))
          (pss_one (ps_ret (pe_ix ix_tup (pv 0) pe_int (fun _ _ => rfl)))) pss_nil)
      (pss_one (ps_ret (pe_op op_mulW (pe_ix ix_tup (pv 0) pe_int (fun _ _ => rfl)) (pe_op op_add (pe_ix ix_tup (pv 0) pe_int (fun _ _ => rfl)) pe_int)))))), ?_⟩
    refine ⟨_, rfl, p, _, 0, _, rfl, rfl, hT, atI_nat (j := 0) f.vs0, rfl, _, rfl, ?_⟩
    cases f with
    | keep b a => exact iteT q
    | cr b a k' => exact iteF ⟨_, rfl, p, _, 0, _, rfl, rfl, hT, atI_nat (j := 0) rfl, rfl, _, rfl, iteT ⟨_, rfl, p, _, 3, _, rfl, rfl, hT, atI_nat (j := 3) rfl, q⟩⟩
    | lf b a k' c =>
      have h1 : Sm (n + 1) (c + 1) := hf.2.2.2.2.2.2.2.add (Nat.lt_of_lt_of_le (by decide : (1 : Int).natAbs < 2 ^ 1) (Nat.pow_le_pow_right (by decide) (by omega)))
      exact iteF ⟨_, rfl, p, _, 0, _, rfl, rfl, hT, atI_nat (j := 0) rfl, rfl, _, rfl, iteF ⟨_, rfl, p, _, 3, _, rfl, rfl, hT, atI_nat (j := 3) rfl, _, rfl, p, _, 4, _, rfl, rfl, hT, atI_nat (j := 4) rfl, _, _, rfl, rfl, _, _, rfl, rfl, wide_mul hf.2.2.2.2.2.2.1 h1 hn0 (by omega) (by omega), q⟩⟩
theorem ok_lens {f aU : Addr} {fd dU : FuncData} {k : Nat} (F : Fun K "lengths_after" "lengths_after" sLengthsAfter f fd)
    (cU : Cl P w K mg base k "units_of_group" ["j", "wanted"] (spUog K) aU dU) : FnOk P w K mg base CX0 (k + 1) f fd ["groups", "wanted"] (spLens K) := by
  refine F.ok scLen (fun vs H Q E h => ?_) (fun cdv A outer s H vs Q E hr h => ?_)
  · obtain ⟨l, y, gs, f, rfl, _⟩ := h
    rfl
  · obtain ⟨l, y, gs, f, rfl, ⟨xs, hL, hP⟩, hy, hl, q⟩ := h
    refine ⟨_, (pss_one (ps_ret (pe_op op_cat (pe_lc (own := [("_", 2), ("j", 3)]) (g := (gTup K 2 (gCons (gName 2) (gCons (gName 3) gNil)))) (tt := tYes) rfl scLen.nd (pi_list (pv 0)) (blkOk_by (own := [("_", 2), ("j", 3)]) (N := ["groups", "wanted", "_", "j"]) (sc := defScope sLengthsAfter) (by decide +kernel)) (fun _ _ _ _ _ => (pg_tup (by rfl) (pgs_cons (pg_name (i := 2) scLen.nd rfl (.inl rfl)) (pgs_cons (pg_name (i := 3) scLen.nd rfl (.inl rfl)) pgs_nil)))) (fun _ _ _ _ _ => pts_nil) (fun _ _ _ _ _ => (pe_call cU.G hr (by rfl) cU.g cU.kp cU.b .nil pass0 (pa_cons (pv 3) (pa_cons (pv 1) pa_nil))))) (pe_lst (pa_cons pe_int pa_nil))))), ?_⟩
    refine ⟨_, rfl, l, rfl, ⟨_, hL⟩, fun D nD => ?_⟩
    refine lc_it (walk_list (xs := xs)) (fun i H' => Same H H' ∧ H' D = some (.lst (((gs.take i).map fun x => f.after x.2 + 1).map V.int))) ⟨same_upd nD, upd_same⟩ (fun i H' _ hQ => hQ.1.seq hL) ?_ ?_
    · rintro i u H1 H2 hi ⟨sm, hD⟩ ⟨rfl, hu⟩
      obtain ⟨x, hx, a, rfl, ha'⟩ := hP.get hu
      have ha : SqT K H a [.int x.1, .int x.2] := .inl (.inl ha')
      refine ⟨a, _, rfl, sameT sm ha, rfl, _, _, rfl, _, _, rfl, rfl, rfl, ?_⟩
      refine ⟨_, rfl, _, rfl, x.2, y, f, rfl, hy.same sm, ?_⟩
      refine ⟨_, hD, ?_, Same.own sm nD, ?_⟩
      · rw [List.length_map, List.length_map, List.length_take, sizeLine_eq]
        omega
      · rw [upd_same, List.take_succ, hx, List.map_append, List.map_append]
        rfl
    · rintro H1 ⟨sm, hD⟩
      rw [List.take_of_length_le (by rw [← hP.len]; exact Nat.le_refl _)] at hD
      refine ⟨by show 1 ≤ sizeLine; decide, fun p2 n2 => ?_⟩
      have s2 := same_upd (o := .lst [.int 0]) n2
      refine ⟨D, p2, _, _, rfl, rfl, s2 _ _ hD, upd_same, by rw [List.length_map, List.length_map, sizeLine_eq]; show _ + 1 ≤ _; omega, fun p3 n3 => ?_⟩
      refine q _ _ ((sm.trans s2).trans (same_upd n3)) ?_
      rw [upd_same]
      unfold lens
      rw [List.map_append]
      rfl
theorem ok_loc {f : Addr} {fd : FuncData} {k : Nat} (F : Fun K "located" "located" sLocated f fd) (Z : LoF mg) : FnOk P w K mg base CX0 (k + 1) f fd ["groups", "lengths", "place"] (spLoc K) := by
  refine F.ok scLoc (fun vs H Q E h => ?_) (fun cdv A outer s H vs Q E hr h => ?_)
  · obtain ⟨l, q0, place, gs, f, n, rfl, _⟩ := h
    rfl
  · obtain ⟨l, q0, place, gs, f, n, rfl, ⟨xs, hL, hP⟩, hq0, hg, hf, hn0, hn, hp0, q⟩ := h
    refine ⟨_, (pss_cons (ps_for PassesOwn.never rfl (pi_enum rfl Z.enumerate (pa_cons (pv 0) pa_nil)) (pg_tup (by rfl) (pgs_cons (pg_name (i := 3) scLoc.nd rfl (.inl rfl)) (pgs_cons (pg_tup (by rfl) (pgs_cons (pg_name (i := 4) scLoc.nd rfl (.inl rfl)) (pgs_cons (pg_name (i := 5) scLoc.nd rfl (.inl rfl)) pgs_nil))) pgs_nil)))
          (pss_cons (ps_if (pt_cmpR op_lt (pv 2) (pe_op op_mulW (pv 4) (pe_ix ix_list (pv 1) (pv 3) (fun _ _ => rfl))) (nomark _))
              (pss_cons (ps_asg (pe_callB call_divmodW (by rfl) Z.divmod (by decide +kernel) (pa_cons (pv 2) (pa_cons (pe_ix ix_list (pv 1) (pv 3) (fun _ _ => rfl)) pa_nil))) (pg_tup (by rfl) (pgs_cons (pg_name (i := 6) scLoc.nd rfl (.inl rfl)) (pgs_cons (pg_name (i := 7) scLoc.nd rfl (.inl rfl)) pgs_nil))))
              (pss_one (ps_ret (pe_tup (pa_cons (pv 3) (pa_cons (pv 6) (pa_cons (pv 7) pa_nil))))))) pss_nil)
          (pss_one (ps_aug (i := 2) scLoc.nd rfl (.inl rfl) (pe_op op_mulW (pv 4) (pe_ix ix_list (pv 1) (pv 3) (fun _ _ => rfl))) ip_sub))))
      (pss_one (ps_ret (pe_tup (pa_cons (pe_callB call_len_seq (by rfl) Z.len PySem.boot_len (pa_cons (pv 0) pa_nil)) (pa_cons pe_int (pa_cons (pv 2) pa_nil))))))), ?_⟩
    refine ⟨_, rfl, l, xs, rfl, hL, ?_⟩
    refine for_it (walk_enum (xs := xs)) (fun i σ H' => Same H H' ∧ ∃ y3 y4 y5 y6 y7, σ = [some (.ref l), some (.ref q0), some (.int (place - total (moved f (gs.take i)))), y3, y4, y5, y6, y7] ∧ 0 ≤ place - total (moved f (gs.take i)))
      ⟨Same.refl H, none, none, none, none, none, by show [_, _, some (V.int place), _, _, _, _, _] = _; rw [show place - total (moved f (gs.take 0)) = place by show place - 0 = place; omega], by show 0 ≤ place - 0; omega⟩ (fun i σ H' _ hP => hP.1.seq hL) ?_ ?_
    · rintro i v σ H1 H2 hi ⟨sm, y3, y4, y5, y6, y7, rfl, h0⟩ ⟨T, u1, u2, rfl, nT, rfl, h1, h2⟩
      cases Option.some.inj h1
      obtain ⟨x, hx, p2, rfl, hp2'⟩ := hP.get h2
      have hp2 : SqT K H p2 [.int x.1, .int x.2] := .inl (.inl hp2')
      have s2 := sm.trans (same_upd (o := .tup [.int (i : Nat), .ref p2]) nT)
      obtain ⟨o1, o2, o3, o4⟩ := hg.1 x (List.mem_of_getElem? hx)
      obtain ⟨l1, l2⟩ := ln_ok hf o2 o4
      have ht := tot_take (f := f) hx
      have hq2 := s2 _ _ hq0
      have hln : ((lens f gs).map V.int)[i]? = some (V.int (f.after x.2 + 1)) := by rw [List.getElem?_map, lens_at hx]; rfl
      have hmul : CMulW x.1 (f.after x.2 + 1) := wide_mul o3 l2 hn0 (by omega) (by omega)
      refine ⟨T, _, rfl, .inl (.inl upd_same), rfl, _, _, rfl, _, _, rfl, p2, _, rfl, sameT s2 hp2, rfl, _, _, rfl, _, _, rfl, rfl, rfl, ?_⟩
      refine ⟨_, rfl, _, rfl, _, rfl, _, rfl, q0, _, i, _, rfl, rfl, .inl (.inl hq2), atI_nat hln, _, _, rfl, rfl, hmul, _, _, rfl, rfl, _, rfl, ?_⟩
      generalize hpl : place - total (moved f (gs.take i)) = pl at h0
      generalize hlne : f.after x.2 + 1 = ln at *
      refine ite2 (fun c => ?_) (fun c => ?_)
      · have c' : pl < x.1 * ln := of_decide_eq_true c
        have hd : CDivP pl ln := ⟨by omega, PyProof.noPylong_of_log2 (Nat.lt_of_lt_of_le (PySem.Flt.log2_lt_of (by omega : 0 < n + 2) l2) (by omega))⟩
        refine ⟨_, rfl, _, rfl, _, rfl, q0, _, i, _, rfl, rfl, .inl (.inl hq2), atI_nat hln, _, _, rfl, hd, fun t nt => ?_⟩
        have s3 := s2.trans (same_upd (o := .tup [.int (pl / ln), .int (pl % ln)]) nt)
        refine ⟨t, _, rfl, .inl (.inl upd_same), rfl, _, _, rfl, _, _, rfl, rfl, ?_⟩
        refine ⟨_, rfl, _, rfl, _, rfl, by show 3 ≤ sizeLine; decide, fun t2 nt2 => ?_⟩
        refine q _ _ i (pl / ln) (pl % ln) (s3.trans (same_upd nt2)) upd_same (.inl ⟨x, hx, Int.ediv_nonneg h0 (by omega), Int.ediv_lt_of_lt_mul (by omega) c', Int.emod_nonneg _ (by omega), ?_, ?_⟩)
        · rw [hlne]
          exact Int.emod_lt_of_pos _ (by omega)
        · have := Int.mul_ediv_add_emod pl ln
          rw [hlne]
          rw [Int.mul_comm] at this
          omega
      · have c' : ¬ pl < x.1 * ln := fun h => c (decide_eq_true h)
        refine ⟨_, rfl, _, rfl, _, rfl, _, rfl, q0, _, i, _, rfl, rfl, .inl (.inl hq2), atI_nat hln, _, _, rfl, rfl, hmul, _, _, rfl, rfl, ?_⟩
        refine ⟨s2, some (.int (i : Nat)), some (.int x.1), some (.int x.2), y6, y7, ?_, by omega⟩
        show [_, _, some (V.int (pl - x.1 * ln)), _, _, _, _, _] = _
        rw [show place - total (moved f (gs.take (i + 1))) = pl - x.1 * ln by omega]
    · rintro σ H1 ⟨sm, y3, y4, y5, y6, y7, rfl, h0⟩
      have htk : gs.take xs.length = gs := List.take_of_length_le (by rw [← hP.len]; exact Nat.le_refl _)
      rw [htk] at h0 ⊢
      refine ⟨_, rfl, l, _, rfl, .inl (sm.seq hL), _, rfl, by show 3 ≤ sizeLine; decide, fun t nt => ?_⟩
      refine q _ _ gs.length 0 _ (sm.trans (same_upd nt)) ?_ (.inr ⟨rfl, rfl, h0, by omega⟩)
      rw [upd_same, hP.len]
theorem ok_sta {f : Addr} {fd : FuncData} {k : Nat} (F : Fun K "start_of" "start_of" sStartOf f fd) (Z : StF mg) : FnOk P w K mg base CX0 (k + 1) f fd ["groups", "lengths", "at", "number"] (spSta K) := by
  refine F.ok scSta (fun vs H Q E h => ?_) (fun cdv A outer s H vs Q E hr h => ?_)
  · obtain ⟨l, q0, at', num, gs, f, n, ln, rfl, _⟩ := h
    rfl
  · obtain ⟨l, q0, at', num, gs, f, n, ln, rfl, ⟨xs, hL, hP⟩, hq0, hg, hf, hn0, hn, hln, hnum, q⟩ := h
    refine ⟨_, (pss_cons (ps_setLc (i := 4) (own := [("length", 5), ("many", 6), ("_", 7)]) (g := (gTup K 2 (gCons (gTup K 2 (gCons (gName 6) (gCons (gName 7) gNil))) (gCons (gName 5) gNil)))) (tt := tYes) rfl scSta.nd rfl rfl (sw_true rfl rfl rfl (by decide +kernel)) (pi_zip (by rfl) Z.zip (pa_cons (pv 0) (pa_cons (pv 1) pa_nil))) (blkOk_by (own := [("length", 5), ("many", 6), ("_", 7)]) (N := ["groups", "lengths", "at", "number", "before", "length", "many", "_"]) (sc := defScope sStartOf) (by decide +kernel)) (fun _ _ _ _ _ => (pg_tup (by rfl) (pgs_cons (pg_tup (by rfl) (pgs_cons (pg_name (i := 6) scSta.nd rfl (.inl rfl)) (pgs_cons (pg_name (i := 7) scSta.nd rfl (.inl rfl)) pgs_nil))) (pgs_cons (pg_name (i := 5) scSta.nd rfl (.inl rfl)) pgs_nil)))) (fun _ _ _ _ _ => pts_nil) (fun _ _ _ _ _ => (pe_op op_mulW (pv 6) (pv 5))))
      (pss_one (ps_ret (pe_op op_add (pe_callB (cr_sum rfl) (by rfl) Z.sum (by decide +kernel) (pa_cons (pe_slice sl_list (pv 4) po_none (po_some (pv 2))) pa_nil)) (pe_op op_mulW (pv 3) (pe_ix ix_list (pv 1) (pv 2) (fun _ _ => rfl))))))), ?_⟩
    have hlen : xs.length = gs.length := hP.len
    refine ⟨_, rfl, _, rfl, l, q0, _, _, rfl, hL, .inl (.inl hq0), fun D nD => ?_⟩
    refine lc_it (walk_zip (n := xs.length) (xs := xs) (ys := (lens f gs).map V.int) (by rw [List.length_map, lens_len]; omega)) (fun i H' => Same H H' ∧ H' D = some (.lst (((gs.take i).map fun x => x.1 * (f.after x.2 + 1)).map V.int))) ⟨same_upd nD, upd_same⟩ (fun i H' _ hQ => ⟨hQ.1.seq hL, .inl (.inl (hQ.1 _ _ hq0))⟩) ?_ ?_
    · rintro i u H1 H2 hi ⟨sm, hD⟩ ⟨T, u1, u2, rfl, nT, rfl, h1, h2⟩
      obtain ⟨x, hx, p2, rfl, hp2'⟩ := hP.get h1
      replace h2 : ((lens f gs).map V.int)[i]? = some u2 := h2
      rw [List.getElem?_map, lens_at hx] at h2
      cases Option.some.inj h2
      obtain ⟨o1, o2, o3, o4⟩ := hg.1 x (List.mem_of_getElem? hx)
      obtain ⟨l1, l2⟩ := ln_ok hf o2 o4
      have s2 := sm.trans (same_upd (o := .tup [.ref p2, .int (f.after x.2 + 1)]) nT)
      have hp2 : SqT K H p2 [.int x.1, .int x.2] := .inl (.inl hp2')
      refine ⟨T, _, rfl, .inl (.inl upd_same), rfl, _, _, rfl, p2, _, rfl, sameT s2 hp2, rfl, _, _, rfl, _, _, rfl, rfl, _, _, rfl, rfl, rfl, ?_⟩
      refine ⟨_, rfl, _, rfl, _, _, rfl, rfl, wide_mul o3 l2 hn0 (by omega) (by omega), ?_⟩
      refine ⟨_, same_upd nT _ _ hD, ?_, Same.own s2 nD, ?_⟩
      · have := hg.2
        rw [List.length_map, List.length_map, List.length_take, sizeLine_eq]
        omega
      · rw [upd_same, List.take_succ, hx, List.map_append, List.map_append]
        rfl
    · rintro H1 ⟨sm, hD⟩
      rw [List.take_of_length_le (by rw [← hP.len]; exact Nat.le_refl _)] at hD
      refine ⟨_, rfl, _, rfl, (at' : Int), rfl, D, _, rfl, .inl (.inl hD), fun p np => ?_⟩
      have s2 := sm.trans (same_upd (o := .lst (cutV ((gs.map fun x => x.1 * (f.after x.2 + 1)).map V.int) none (some (at' : Int)))) np)
      have hpp : upd H1 p (.lst (cutV ((gs.map fun x => x.1 * (f.after x.2 + 1)).map V.int) none (some (at' : Int)))) p = some (.lst (((gs.take at').map fun x => x.1 * (f.after x.2 + 1)).map V.int)) := by
        rw [upd_same, cutV_take, ← List.map_take, ← List.map_take]
      have hsm : Sm (n + 2) ln := by
        rcases Nat.lt_or_ge at' gs.length with hlt | hge
        · have hx := List.getElem?_eq_getElem hlt
          rw [lens_at hx] at hln
          cases Option.some.inj hln
          obtain ⟨o1, o2, o3, o4⟩ := hg.1 _ (List.mem_of_getElem? hx)
          exact (ln_ok hf o2 o4).2
        · have hl2 := (List.getElem?_eq_some_iff.mp hln).1
          rw [lens_len] at hl2
          have : at' = gs.length := by omega
          subst this
          rw [lens_end] at hln
          cases Option.some.inj hln
          exact Nat.two_pow_pos _
      refine ⟨p, _, rfl, .inl (.inl hpp), ?_⟩
      refine ⟨_, rfl, _, rfl, _, rfl, q0, _, at', _, rfl, rfl, .inl (.inl (s2 _ _ hq0)), atI_nat (j := at') (by rw [List.getElem?_map, hln]; rfl), _, _, rfl, rfl, wide_mul hnum hsm hn0 (by omega) (by omega), _, _, rfl, rfl, ?_⟩
      rw [sum_mapV]
      exact q _ s2
theorem ok_ret {f : Addr} {fd : FuncData} {k : Nat} (F : Fun K "returns_left" "returns_left" sReturnsLeft f fd) (Z : MxF mg) : FnOk P w K mg base CX0 (k + 1) f fd ["j", "wanted"] (spRet K) := by
  refine F.ok scRet (fun vs H Q E h => ?_) (fun cdv A outer s H vs Q E hr h => ?_)
  · obtain ⟨j, y, f, rfl, _⟩ := h
    rfl
  · obtain ⟨j, _, f, rfl, ⟨p, rfl, hT⟩, q⟩ := h
    refine ⟨_, (pss_one (ps_ret (pe_callB (call_max2 rfl) (by rfl) Z.max (by decide +kernel) (pa_cons pe_int (pa_cons (pe_op op_sub (pv 0) (pe_ix ix_tup (pv 1) pe_int (fun _ _ => rfl))) pa_nil))))), ?_⟩
    exact ⟨_, rfl, _, rfl, p, _, 1, _, rfl, rfl, hT, atI_nat (j := 1) f.vs1, _, _, rfl, rfl, _, _, rfl, q⟩
theorem ok_ori {f aR : Addr} {fd dR : FuncData} {k : Nat} (F : Fun K "origin_in_group" "origin_in_group" sOriginInGroup f fd)
    (cR : Cl P w K mg base k "returns_left" ["j", "wanted"] (spRet K) aR dR) : FnOk P w K mg base CX0 (k + 1) f fd ["j", "wanted", "unit"] (spOri K) := by
  refine F.ok scOri (fun vs H Q E h => ?_) (fun cdv A outer s H vs Q E hr h => ?_)
  · obtain ⟨j, y, f, u, rfl, _⟩ := h
    rfl
  · obtain ⟨j, y, f, u, rfl, hy, q⟩ := h
    refine ⟨_, (pss_one (ps_ret (pe_ifExp (pt_cmpR op_lt (pv 2) (pe_call cR.G hr (by rfl) cR.g cR.kp cR.b .nil pass0 (pa_cons (pv 0) (pa_cons (pv 1) pa_nil))) (nomark _)) (pv 2) (pv 0)))), ?_⟩
    refine ⟨_, rfl, _, rfl, _, rfl, j, y, f, rfl, hy, _, _, rfl, rfl, _, rfl, ite2 (fun c => ?_) (fun c => ?_)⟩
    · rw [if_pos (of_decide_eq_true c)] at q
      exact ⟨_, rfl, q⟩
    · rw [if_neg (fun h => c (decide_eq_true h))] at q
      exact ⟨_, rfl, q⟩
theorem ok_uig {f aR : Addr} {fd dR : FuncData} {k : Nat} (F : Fun K "units_in_group" "units_in_group" sUnitsInGroup f fd) (Z : MnF mg)
    (cR : Cl P w K mg base k "returns_left" ["j", "wanted"] (spRet K) aR dR) : FnOk P w K mg base CX0 (k + 1) f fd ["j", "wanted", "place"] (spUig K) := by
  refine F.ok scUig (fun vs H Q E h => ?_) (fun cdv A outer s H vs Q E hr h => ?_)
  · obtain ⟨j, y, f, p, rfl, _⟩ := h
    rfl
  · obtain ⟨j, _, f, p, rfl, ⟨a, rfl, hT⟩, q⟩ := h
    refine ⟨_, (pss_cons (ps_set (i := 3) scUig.nd rfl (.inl rfl) (pe_call cR.G hr (by rfl) cR.g cR.kp cR.b .nil pass0 (pa_cons (pv 0) (pa_cons (pv 1) pa_nil))))
      (pss_cons (ps_if (pt_cmpR op_eq (pv 2) (pv 0) (nomark _))
          (pss_one (ps_ret (pe_tup (pa_cons (pv 3) (pa_cons (pe_op op_add (pv 3) (pe_ix ix_tup (pv 1) pe_int (fun _ _ => rfl))) pa_nil))))) pss_nil)
      (pss_one (ps_ret (pe_tup (pa_cons (pv 2) (pa_cons (pe_callB (call_min2 rfl) (by rfl) Z.min (by decide +kernel) (pa_cons (pv 2) (pa_cons (pe_op op_sub (pv 3) pe_int) pa_nil))) pa_nil))))))), ?_⟩
    refine ⟨_, rfl, _, rfl, j, _, f, rfl, ⟨a, rfl, hT⟩, ?_⟩
    refine ⟨_, rfl, _, rfl, rfl, _, rfl, ?_⟩
    by_cases c : p = j
    · subst c
      rw [decide_eq_true rfl]
      refine iteT ⟨_, rfl, _, rfl, _, rfl, a, _, 2, _, rfl, rfl, hT, atI_nat (j := 2) f.vs2, _, _, rfl, rfl, by show 2 ≤ sizeLine; decide, fun t nt => ?_⟩
      rw [if_pos rfl, if_pos rfl] at q
      exact q _ _ (same_upd nt) upd_same
    · rw [decide_eq_false (fun h => c (V.int.inj h))]
      refine iteF ⟨_, rfl, _, rfl, _, rfl, _, _, rfl, rfl, _, _, rfl, by show 2 ≤ sizeLine; decide, fun t nt => ?_⟩
      rw [if_neg c, if_neg c] at q
      exact q _ _ (same_upd nt) upd_same
end
end Lw
namespace Lw
open PySem PySem.Spec L2 Lx
theorem nothing_after {j : Int} (h : 0 ≤ j) : nothing.after j = j := by
  show (if j - 0 > 0 then j - 0 else 0) + 0 = j
  have := pp (j - 0)
  omega
theorem nothing_okT (n : Nat) : nothing.Ok n := ⟨by decide, by decide, Nat.two_pow_pos _, Nat.two_pow_pos _⟩
theorem size_nothing {n : Nat} {r : List (Int × Int) × Int} (h : RnOk n r) : units r nothing = size1 r := (units_nothing (RnOk.sm h)).symm
theorem Loc.le {f : Fm} {gs : List (Int × Int)} {u : Int} {at' : Nat} {num ins : Int} (h : Loc f gs u at' num ins) : at' ≤ gs.length := by
  rcases h with ⟨x, hx, _⟩ | ⟨e, _⟩
  · have := (List.getElem?_eq_some_iff.mp hx).1
    omega
  · omega
theorem Loc.num {n : Nat} {f : Fm} {gs : List (Int × Int)} {u : Int} {at' : Nat} {num ins : Int} (hg : GOk n gs) (h : Loc f gs u at' num ins) : Sm n num := by
  rcases h with ⟨x, hx, n0, n1, _⟩ | ⟨_, e, _⟩
  · exact Sm.of_le n0 (Int.le_of_lt n1) (hg.1 x (List.mem_of_getElem? hx)).2.2.1
  · rw [e]
    exact Nat.two_pow_pos _
/-- units of a place, by where it is located -/
theorem loc_off {n : Nat} {f : Fm} {r : List (Int × Int) × Int} (h : RnOk n r) (hf : f.Ok n) {p : Int} {at' : Nat} {num ins : Int} (hl : Loc nothing r.1 p at' num ins) :
    (∀ x, r.1[at']? = some x → ∀ S, S = total (moved f (r.1.take at')) + num * (f.after x.2 + 1) → ∀ a b, a = (if ins = x.2 then lft f x.2 else ins) → b = (if ins = x.2 then lft f x.2 + f.a else (if lft f x.2 - 1 < ins then lft f x.2 - 1 else ins)) →
      (a ≤ b → U f (expand r.1) p = S + a ∧ U f (expand r.1) (p + 1) = S + b + 1) ∧ (b < a → U f (expand r.1) p = U f (expand r.1) (p + 1))) ∧
    (at' = r.1.length → num = 0 ∧ U f (expand r.1) p = total (moved f r.1) + ins ∧ U f (expand r.1) (p + 1) = total (moved f r.1) + ins + 1) := by
  have hg : ∀ y ∈ r.1, 0 ≤ y.1 ∧ 0 ≤ y.2 := fun y hy => ⟨((RnOk.g h).1 y hy).1, ((RnOk.g h).1 y hy).2.1⟩
  rcases hl with ⟨x, hx, n0, n1, i0, i1, e⟩ | ⟨e1, e2, i0, e3⟩
  · refine ⟨fun x' hx' S eS a b ea eb => ?_, fun hh => ?_⟩
    · rw [hx] at hx'
      cases hx'
      have x2 := (hg x (List.mem_of_getElem? hx)).2
      rw [nothing_moved ((RnOk.g h).take at'), nothing_after x2] at e
      rw [nothing_after x2] at i1
      obtain ⟨a1, a2⟩ := U_at (f := f) hx hg n0 n1
      have l0 := lft_0 f x.2
      have l1 := lft_le (f := f) x2 hf.b0.1
      have fa := hf.a0.1
      by_cases c : ins = x.2
      · rw [if_pos c] at ea eb
        subst c
        rw [e, a1 x.2 x2 (Int.le_refl _), a2, after_lft]
        rw [after_lft] at eS
        refine ⟨fun _ => ⟨by omega, by omega⟩, fun hh => by omega⟩
      · rw [if_neg c] at ea eb
        have b1 := a1 ins i0 (by omega)
        have b2 := a1 (ins + 1) (by omega) (by omega)
        rw [← Int.add_assoc] at b2
        rw [e, b1, b2]
        by_cases d : lft f x.2 - 1 < ins
        · rw [if_pos d] at eb
          refine ⟨fun hh => by omega, fun _ => by omega⟩
        · rw [if_neg d] at eb
          refine ⟨fun _ => ⟨by omega, by omega⟩, fun hh => by omega⟩
    · have := (List.getElem?_eq_some_iff.mp hx).1
      omega
  · refine ⟨fun x hx => ?_, fun _ => ?_⟩
    · have := (List.getElem?_eq_some_iff.mp hx).1
      omega
    · rw [nothing_moved (RnOk.g h)] at e3
      subst e3
      rw [U_rest hg i0, Int.add_assoc (total r.1), U_rest hg (by omega)]
      refine ⟨e2, rfl, by omega⟩
section
variable {P : Program} {w : World} {K : PySem.W.Frag} {mg : Str → Option Value} {base : Heap}
theorem ok_tra {f aN aR aF aW aP aU aL aA aS aO : Addr} {fd dR dF dW dP dU dL dA dS dO : FuncData} {k : Nat} (F : Fun K "trace" "trace" sTrace f fd) (Z : LeF mg)
    (gN : mg "NOTHING" = some (.ref aN)) (tN : ∀ H : Hp, FmAt K H (.ref aN) nothing)
    (cR : Cl P w K mg base k "check_run" ["run"] (spChkRun K) aR dR)
    (cF : Cl P w K mg base k "check_form" ["wanted"] (spChkForm K) aF dF)
    (cW : Cl P w K mg base k "characters_of_unit" ["wanted"] (spWid K) aW dW)
    (cP : Cl P w K mg base k "check_place" ["place", "total"] spChp aP dP)
    (cU : Cl P w K mg base k "units" ["run", "wanted"] (spUnits K) aU dU)
    (cL : Cl P w K mg base k "located" ["groups", "lengths", "place"] (spLoc K) aL dL)
    (cA : Cl P w K mg base k "lengths_after" ["groups", "wanted"] (spLens K) aA dA)
    (cS : Cl P w K mg base k "start_of" ["groups", "lengths", "at", "number"] (spSta K) aS dS)
    (cO : Cl P w K mg base k "origin_in_group" ["j", "wanted", "unit"] (spOri K) aO dO) : FnOk P w K mg base CX0 (k + 1) f fd ["run", "wanted", "place"] (spTra K) := by
  refine F.ok scTra (fun vs H Q E h => ?_) (fun cdv A outer s H vs Q E hr h => ?_)
  · obtain ⟨x, y, l, r, f, n, place, rfl, _⟩ := h
    rfl
  · obtain ⟨x, y, l, r, f, n, place, rfl, hx, hy, ho, hf, hn0, hn, p0, p1, q⟩ := h
    refine ⟨_, (pss_cons (ps_expr (pe_call cR.G hr (by rfl) cR.g cR.kp cR.b .nil pass0 (pa_cons (pv 0) pa_nil)))
      (pss_cons (ps_expr (pe_call cF.G hr (by rfl) cF.g cF.kp cF.b .nil pass0 (pa_cons (pv 1) pa_nil)))
      (pss_cons (ps_set (i := 3) scTra.nd rfl (.inl rfl) (pe_call cW.G hr (by rfl) cW.g cW.kp cW.b .nil pass0 (pa_cons (pv 1) pa_nil)))
      (pss_cons (ps_expr (pe_call cP.G hr (by rfl) cP.g cP.kp cP.b .nil pass0 (pa_cons (pv 2) (pa_cons (pe_op op_mulW (pe_call cU.G hr (by rfl) cU.g cU.kp cU.b .nil pass0 (pa_cons (pv 0) (pa_cons (pv 1) pa_nil))) (pv 3)) pa_nil))))
      (pss_cons (ps_asg (pv 0) (pg_tup (by rfl) (pgs_cons (pg_name (i := 4) scTra.nd rfl (.inl rfl)) (pgs_cons (pg_name (i := 5) scTra.nd rfl (.inl rfl)) pgs_nil))))
      (pss_cons (ps_asg (pe_call cL.G hr (by rfl) cL.g cL.kp cL.b .nil pass0 (pa_cons (pv 4) (pa_cons (pe_call cA.G hr (by rfl) cA.g cA.kp cA.b .nil pass0 (pa_cons (pv 4) (pa_cons (pv 1) pa_nil))) (pa_cons (pe_op op_fdivW (pv 2) (pv 3)) pa_nil)))) (pg_tup (by rfl) (pgs_cons (pg_name (i := 6) scTra.nd rfl (.inl rfl)) (pgs_cons (pg_name (i := 7) scTra.nd rfl (.inl rfl)) (pgs_cons (pg_name (i := 8) scTra.nd rfl (.inl rfl)) pgs_nil)))))
      (pss_cons (ps_set (i := 9) scTra.nd rfl (.inl rfl) (pe_call cS.G hr (by rfl) cS.g cS.kp cS.b .nil pass0 (pa_cons (pv 4) (pa_cons (pe_call cA.G hr (by rfl) cA.g cA.kp cA.b .nil pass0 (pa_cons (pv 4) (pa_cons (pe_glob (v := .ref aN) rfl gN rfl) pa_nil))) (pa_cons (pv 6) (pa_cons (pv 7) pa_nil))))))
      (pss_cons (ps_if (pt_cmpR op_lt (pv 6) (pe_callB call_len_seq (by rfl) Z.len PySem.boot_len (pa_cons (pv 4) pa_nil)) (nomark _))
          (pss_one (ps_ret (pe_op op_add (pv 9) (pe_call cO.G hr (by rfl) cO.g cO.kp cO.b .nil pass0 (pa_cons (pe_ix ix_tup (pe_ix ix_list (pv 4) (pv 6) (fun _ _ => rfl)) pe_int (fun _ _ => rfl)) (pa_cons (pv 1) (pa_cons (pv 8) pa_nil))))))) pss_nil)
      (pss_one (ps_ret (pe_op op_add (pv 9) (pv 8)))))))))))), ?_⟩
    have hu := units_ok (RnOk.sm ho) hf
    have hw := width_sm hf hn0
    have hw0 := width_pos hf
    have hg := RnOk.g ho
    refine ⟨_, rfl, x, l, r, n, rfl, hx, ho, fun H1 s1 => ⟨_, rfl, y, f, n, rfl, hy.same s1, hf, fun H2 s2 => ?_⟩⟩
    have s12 := s1.trans s2
    refine ⟨_, rfl, y, f, n, rfl, hy.same s12, hf, hn0, by omega, ?_⟩
    refine ⟨_, rfl, _, rfl, _, rfl, x, l, r, y, f, n, rfl, hx.same s12, hy.same s12, RnOk.sm ho, hf, by omega, fun H3 s3 => ?_⟩
    refine ⟨_, rfl, _, _, rfl, rfl, wide_mul hu.2 hw (by omega) (by omega) (by omega), _, _, rfl, p0, by rw [Int.mul_comm]; exact p1, ?_⟩
    have sA := s12.trans s3
    obtain ⟨p, rfl, hT, xs, hL, hP⟩ := hx.same sA
    have hGs : GsAt K H3 l r.1 := ⟨xs, hL, hP⟩
    refine ⟨_, rfl, p, _, rfl, hT, rfl, _, _, rfl, _, _, rfl, rfl, ?_⟩
    refine ⟨_, rfl, _, rfl, _, rfl, l, y, r.1, f, rfl, hGs, hy.same sA, ho.len, fun q0 H4 s4 hq0 => ?_⟩
    refine ⟨_, rfl, _, rfl, _, _, rfl, rfl, wide_div hw0 hw (by omega) (by omega), ?_⟩
    refine ⟨l, q0, _, r.1, f, n, rfl, hGs.same s4, hq0, hg, hf, hn0, hn, Int.ediv_nonneg p0 (by omega), fun t H5 at' num ins s5 ht hloc => ?_⟩
    refine ⟨t, _, rfl, .inl (.inl ht), rfl, _, _, rfl, _, _, rfl, _, _, rfl, rfl, ?_⟩
    have s45 := s4.trans s5
    refine ⟨_, rfl, _, rfl, l, .ref aN, r.1, nothing, rfl, hGs.same s45, tN _, ho.len, fun q1 H6 s6 hq1 => ?_⟩
    have s456 := s45.trans s6
    have hud : place / width f < units r f := Int.ediv_lt_of_lt_mul hw0 (by rw [Int.mul_comm]; exact p1)
    obtain ⟨t1, t2⟩ := loc_trace ho hf hloc hud
    have huw : width f * (place / width f) ≤ place ∧ place < width f * (place / width f + 1) := by
      have h1 := Int.mul_ediv_add_emod place (width f)
      have h2 := Int.emod_nonneg place (show width f ≠ 0 by omega)
      have h3 := Int.emod_lt_of_pos place hw0
      rw [Int.mul_add, Int.mul_one]
      omega
    have fin : ∀ H' pp, Same H3 H' → 0 ≤ pp → U f (expand r.1) pp ≤ place / width f → place / width f < U f (expand r.1) (pp + 1) → Q (.int pp) H' := fun H' pp s b0 b1 b2 =>
      q _ _ (sA.trans s) b0 (lt_size ho hf b0 hud b1) (Int.le_trans (Int.mul_le_mul_of_nonneg_left b1 (by omega)) huw.1) (Int.lt_of_lt_of_le huw.2 (Int.mul_le_mul_of_nonneg_left (by omega) (by omega)))
    rcases Nat.lt_or_ge at' r.1.length with hlt | hge
    · have hxx := List.getElem?_eq_getElem hlt
      generalize r.1[at'] = z at hxx
      have z2 := (hg.1 z (List.mem_of_getElem? hxx)).2.1
      refine ⟨_, rfl, _, rfl, l, q1, at', num, r.1, nothing, n, z.2 + 1, rfl, hGs.same s456, hq1, hg, nothing_okT n, hn0, hn, by rw [lens_at hxx, nothing_after z2], hloc.num hg, fun H7 s7 => ?_⟩
      rw [nothing_moved (hg.take at')]
      have sB := s456.trans s7
      obtain ⟨xs7, hL7, hP7⟩ := hGs.same sB
      refine ⟨_, rfl, _, rfl, l, _, rfl, .inl hL7, _, _, rfl, rfl, _, rfl, ?_⟩
      rw [decide_eq_true (by have := hP7.len; omega : (at' : Int) < (xs7.length : Int))]
      refine iteT ?_
      have hv : at' < xs7.length := by rw [hP7.len]; exact hlt
      obtain ⟨z', hz', ap, eap, hap⟩ := hP7.get (List.getElem?_eq_getElem hv)
      rw [hxx] at hz'
      cases hz'
      refine ⟨_, rfl, _, rfl, _, rfl, l, _, at', _, rfl, rfl, hL7, atI_nat (j := at') (List.getElem?_eq_getElem hv), ?_⟩
      rw [eap]
      refine ⟨ap, _, 1, _, rfl, rfl, .inl (.inl hap), atI_nat (j := 1) rfl, _, rfl, _, rfl, z.2, y, f, ins, rfl, (hy.same sA).same sB, _, _, rfl, rfl, ?_⟩
      obtain ⟨b0, b1, b2⟩ := t1 z hxx
      exact fin _ _ sB b0 b1 b2
    · have he : at' = r.1.length := by
        have := hloc.le
        omega
      subst he
      obtain ⟨b0, _, b1, b2⟩ := t2 rfl
      have hnum : num = 0 := by
        rcases hloc with ⟨x, hx, _⟩ | ⟨_, e, _⟩
        · have := (List.getElem?_eq_some_iff.mp hx).1
          omega
        · exact e
      refine ⟨_, rfl, _, rfl, l, q1, r.1.length, num, r.1, nothing, n, 0, rfl, hGs.same s456, hq1, hg, nothing_okT n, hn0, hn, lens_end, hloc.num hg, fun H7 s7 => ?_⟩
      rw [nothing_moved (hg.take _), List.take_length, Int.mul_zero, Int.add_zero]
      have sB := s456.trans s7
      obtain ⟨xs7, hL7, hP7⟩ := hGs.same sB
      refine ⟨_, rfl, _, rfl, l, _, rfl, .inl hL7, _, _, rfl, rfl, _, rfl, ?_⟩
      rw [decide_eq_false (by have := hP7.len; omega : ¬ ((r.1.length : Nat) : Int) < (xs7.length : Int))]
      refine iteF ⟨_, rfl, _, rfl, _, _, rfl, rfl, ?_⟩
      exact fin _ _ sB b0 (by omega) (by omega)
end
end Lw
namespace Lw
open PySem PySem.Spec L2 Lx
theorem U_sm {n : Nat} {f : Fm} {r : List (Int × Int) × Int} (h : RnOk n r) (hf : f.Ok n) {p : Int} (h0 : 0 ≤ p) (h1 : p ≤ size1 r) : 0 ≤ U f (expand r.1) p ∧ Sm (2 * n + 20) (U f (expand r.1) p) := by
  have a := U_nn (f := f) hf.a0.1 (js := expand r.1) h0
  have b := U_mono (f := f) hf.a0.1 (js := expand r.1) h0 h1
  rw [size_end h] at b
  exact ⟨a, Sm.of_le a b (units_ok (RnOk.sm h) hf).2⟩
section
variable {P : Program} {w : World} {K : PySem.W.Frag} {mg : Str → Option Value} {base : Heap}
theorem ok_off {f aN aR aF aW aP aU aL aA aS aG : Addr} {fd dR dF dW dP dU dL dA dS dG : FuncData} {k : Nat} (F : Fun K "offspring" "offspring" sOffspring f fd) (Z : LeF mg)
    (gN : mg "NOTHING" = some (.ref aN)) (tN : ∀ H : Hp, FmAt K H (.ref aN) nothing)
    (cR : Cl P w K mg base k "check_run" ["run"] (spChkRun K) aR dR)
    (cF : Cl P w K mg base k "check_form" ["wanted"] (spChkForm K) aF dF)
    (cW : Cl P w K mg base k "characters_of_unit" ["wanted"] (spWid K) aW dW)
    (cP : Cl P w K mg base k "check_place" ["place", "total"] spChp aP dP)
    (cU : Cl P w K mg base k "units" ["run", "wanted"] (spUnits K) aU dU)
    (cL : Cl P w K mg base k "located" ["groups", "lengths", "place"] (spLoc K) aL dL)
    (cA : Cl P w K mg base k "lengths_after" ["groups", "wanted"] (spLens K) aA dA)
    (cS : Cl P w K mg base k "start_of" ["groups", "lengths", "at", "number"] (spSta K) aS dS)
    (cG : Cl P w K mg base k "units_in_group" ["j", "wanted", "place"] (spUig K) aG dG) : FnOk P w K mg base CX0 (k + 1) f fd ["run", "wanted", "place"] (spOff K) := by
  refine F.ok scOff (fun vs H Q E h => ?_) (fun cdv A outer s H vs Q E hr h => ?_)
  · obtain ⟨x, y, l, r, f, n, place, rfl, _⟩ := h
    rfl
  · obtain ⟨x, y, l, r, f, n, place, rfl, hx, hy, ho, hf, hn0, hn, p0, p1, qn, qt⟩ := h
    refine ⟨_, (pss_cons (ps_expr (pe_call cR.G hr (by rfl) cR.g cR.kp cR.b .nil pass0 (pa_cons (pv 0) pa_nil)))
      (pss_cons (ps_expr (pe_call cF.G hr (by rfl) cF.g cF.kp cF.b .nil pass0 (pa_cons (pv 1) pa_nil)))
      (pss_cons (ps_expr (pe_call cP.G hr (by rfl) cP.g cP.kp cP.b .nil pass0 (pa_cons (pv 2) (pa_cons (pe_call cU.G hr (by rfl) cU.g cU.kp cU.b .nil pass0 (pa_cons (pv 0) (pa_cons (pe_glob (v := .ref aN) rfl gN rfl) pa_nil))) pa_nil))))
      (pss_cons (ps_asg (pv 0) (pg_tup (by rfl) (pgs_cons (pg_name (i := 3) scOff.nd rfl (.inl rfl)) (pgs_cons (pg_name (i := 4) scOff.nd rfl (.inl rfl)) pgs_nil))))
      (pss_cons (ps_asg (pe_call cL.G hr (by rfl) cL.g cL.kp cL.b .nil pass0 (pa_cons (pv 3) (pa_cons (pe_call cA.G hr (by rfl) cA.g cA.kp cA.b .nil pass0 (pa_cons (pv 3) (pa_cons (pe_glob (v := .ref aN) rfl gN rfl) pa_nil))) (pa_cons (pv 2) pa_nil)))) (pg_tup (by rfl) (pgs_cons (pg_name (i := 5) scOff.nd rfl (.inl rfl)) (pgs_cons (pg_name (i := 6) scOff.nd rfl (.inl rfl)) (pgs_cons (pg_name (i := 7) scOff.nd rfl (.inl rfl)) pgs_nil)))))
      (pss_cons (ps_par (i := 8) (j := 9) rfl scOff.nd rfl rfl (by decide) rfl rfl (pa_cons (pv 7) (pa_cons (pv 7) pa_nil)) rfl)
      (pss_cons (ps_if (pt_cmpR op_lt (pv 5) (pe_callB call_len_seq (by rfl) Z.len PySem.boot_len (pa_cons (pv 3) pa_nil)) (nomark _))
          (pss_one (ps_asg (pe_call cG.G hr (by rfl) cG.g cG.kp cG.b .nil pass0 (pa_cons (pe_ix ix_tup (pe_ix ix_list (pv 3) (pv 5) (fun _ _ => rfl)) pe_int (fun _ _ => rfl)) (pa_cons (pv 1) (pa_cons (pv 7) pa_nil)))) (pg_tup (by rfl) (pgs_cons (pg_name (i := 8) scOff.nd rfl (.inl rfl)) (pgs_cons (pg_name (i := 9) scOff.nd rfl (.inl rfl)) pgs_nil))))) pss_nil)
      (pss_cons (ps_if (pt_cmpR op_gt (pv 8) (pv 9) (nomark _))
          (pss_one (ps_ret pe_non)) pss_nil)
      (pss_cons (ps_set (i := 10) scOff.nd rfl (.inl rfl) (pe_call cS.G hr (by rfl) cS.g cS.kp cS.b .nil pass0 (pa_cons (pv 3) (pa_cons (pe_call cA.G hr (by rfl) cA.g cA.kp cA.b .nil pass0 (pa_cons (pv 3) (pa_cons (pv 1) pa_nil))) (pa_cons (pv 5) (pa_cons (pv 6) pa_nil))))))
      (pss_cons (ps_set (i := 11) scOff.nd rfl (.inl rfl) (pe_call cW.G hr (by rfl) cW.g cW.kp cW.b .nil pass0 (pa_cons (pv 1) pa_nil)))
      (pss_one (ps_ret (pe_tup (pa_cons (pe_op op_mulW (pe_op op_add (pv 10) (pv 8)) (pv 11)) (pa_cons (pe_op op_sub (pe_op op_mulW (pe_op op_add (pe_op op_add (pv 10) (pv 9)) pe_int) (pv 11)) pe_int) pa_nil))))))))))))))), ?_⟩
    have hw := width_sm hf hn0
    have hw0 := width_pos hf
    have hg := RnOk.g ho
    refine ⟨_, rfl, x, l, r, n, rfl, hx, ho, fun H1 s1 => ⟨_, rfl, y, f, n, rfl, hy.same s1, hf, fun H2 s2 => ?_⟩⟩
    have s12 := s1.trans s2
    refine ⟨_, rfl, _, rfl, x, l, r, .ref aN, nothing, n, rfl, hx.same s12, tN _, RnOk.sm ho, nothing_okT n, by omega, fun H3 s3 => ?_⟩
    rw [size_nothing ho]
    refine ⟨_, _, rfl, p0, p1, ?_⟩
    have sA := s12.trans s3
    obtain ⟨p, rfl, hT, xs, hL, hP⟩ := hx.same sA
    have hGs : GsAt K H3 l r.1 := ⟨xs, hL, hP⟩
    refine ⟨_, rfl, p, _, rfl, hT, rfl, _, _, rfl, _, _, rfl, rfl, ?_⟩
    refine ⟨_, rfl, _, rfl, l, .ref aN, r.1, nothing, rfl, hGs, tN _, ho.len, fun q0 H4 s4 hq0 => ?_⟩
    refine ⟨_, rfl, l, q0, _, r.1, nothing, n, rfl, hGs.same s4, hq0, hg, nothing_okT n, hn0, hn, p0, fun t H5 at' num ins s5 ht hloc => ?_⟩
    refine ⟨t, _, rfl, .inl (.inl ht), rfl, _, _, rfl, _, _, rfl, _, _, rfl, rfl, ?_⟩
    have s45 := s4.trans s5
    refine ⟨_, rfl, _, rfl, _, _, rfl, ?_⟩
    obtain ⟨o1, o2⟩ := loc_off ho hf hloc
    obtain ⟨xs5, hL5, hP5⟩ := hGs.same s45
    have hle := hloc.le
    have hlen5 := hP5.len
    -- the start of the group
    have hS : ∃ ln S, (lens f r.1)[at']? = some ln ∧ S = total (moved f (r.1.take at')) + num * ln ∧ (∀ x, r.1[at']? = some x → ln = f.after x.2 + 1) ∧ (at' = r.1.length → S = total (moved f r.1)) := by
      rcases Nat.lt_or_ge at' r.1.length with hlt | hge
      · refine ⟨_, _, lens_at (List.getElem?_eq_getElem hlt), rfl, fun x hx => ?_, fun h => by omega⟩
        rw [List.getElem?_eq_getElem hlt] at hx
        cases hx
        rfl
      · have he : at' = r.1.length := by omega
        subst he
        refine ⟨0, _, lens_end, rfl, fun x hx => ?_, fun _ => ?_⟩
        · have := (List.getElem?_eq_some_iff.mp hx).1
          omega
        · rw [List.take_length, Int.mul_zero, Int.add_zero]
    obtain ⟨ln, S, hln, hSe, hS1, hS2⟩ := hS
    dsimp only [gName, tNext, tSeq]
    refine if_fin (fun σ H1 => ∃ a b : Int, Same H5 H1 ∧ σ = [some (.ref p), some y, some (.int place), some (.ref l), some (.int r.2), some (.int at'), some (.int num), some (.int ins), some (.int a), some (.int b), none, none] ∧
      (a ≤ b → U f (expand r.1) place = S + a ∧ U f (expand r.1) (place + 1) = S + b + 1) ∧ (b < a → U f (expand r.1) place = U f (expand r.1) (place + 1))) (fun R hR => ?_) (fun σ H6 hF => ?_)
    · refine ⟨_, rfl, _, rfl, l, _, rfl, .inl hL5, _, _, rfl, rfl, _, rfl, ?_⟩
      rcases Nat.lt_or_ge at' r.1.length with hlt | hge
      · have hxx := List.getElem?_eq_getElem hlt
        generalize r.1[at'] = z at hxx
        rw [decide_eq_true (by omega : (at' : Int) < (xs5.length : Int))]
        refine iteT ?_
        have hv : at' < xs5.length := by omega
        obtain ⟨z', hz', ap, eap, hap⟩ := hP5.get (List.getElem?_eq_getElem hv)
        rw [hxx] at hz'
        cases hz'
        refine ⟨_, rfl, _, rfl, l, _, at', _, rfl, rfl, hL5, atI_nat (j := at') (List.getElem?_eq_getElem hv), ?_⟩
        rw [eap]
        refine ⟨ap, _, 1, _, rfl, rfl, .inl (.inl hap), atI_nat (j := 1) rfl, _, rfl, _, rfl, z.2, y, f, ins, rfl, (hy.same sA).same s45, fun t2 H6 s6 ht2 => ?_⟩
        refine ⟨t2, _, rfl, .inl (.inl ht2), rfl, _, _, rfl, _, _, rfl, rfl, ?_⟩
        obtain ⟨c1, c2⟩ := o1 z hxx S (by rw [hSe, hS1 z hxx]) _ _ rfl rfl
        exact hR _ _ ⟨_, _, s6, rfl, c1, c2⟩
      · have he : at' = r.1.length := by omega
        rw [decide_eq_false (by omega : ¬ (at' : Int) < (xs5.length : Int))]
        obtain ⟨c1, c2, c3⟩ := o2 he
        refine iteF (hR _ _ ⟨ins, ins, Same.refl _, rfl, fun _ => ⟨?_, ?_⟩, fun h => by omega⟩)
        · rw [c2, hS2 he]
        · rw [c3, hS2 he]
    · obtain ⟨a, b, s6, rfl, c1, c2⟩ := hF
      dsimp only
      have s46 := s45.trans s6
      have sB := sA.trans s46
      refine ⟨_, rfl, _, rfl, _, _, rfl, rfl, _, rfl, ite2 (fun c => ?_) (fun c => ?_)⟩
      · exact qn (c2 (of_decide_eq_true c)) _ sB
      · have hab : a ≤ b := Int.le_of_not_gt fun h => c (decide_eq_true h)
        obtain ⟨d1, d2⟩ := c1 hab
        refine ⟨_, rfl, _, rfl, _, rfl, l, y, r.1, f, rfl, hGs.same s46, hy.same sB, ho.len, fun q1 H7 s7 hq1 => ?_⟩
        refine ⟨_, rfl, _, rfl, l, q1, at', num, r.1, f, n, ln, rfl, (hGs.same s46).same s7, hq1, hg, hf, hn0, hn, hln, hloc.num hg, fun H8 s8 => ?_⟩
        rw [← hSe]
        have sC := (sB.trans s7).trans s8
        refine ⟨_, rfl, y, f, n, rfl, hy.same sC, hf, hn0, by omega, ?_⟩
        obtain ⟨u0, u1⟩ := U_sm ho hf (p := place) p0 (by omega)
        obtain ⟨v0, v1⟩ := U_sm ho hf (p := place + 1) (by omega) (by omega)
        rw [d1] at u1
        rw [d2] at v1
        refine ⟨_, rfl, _, rfl, _, _, rfl, rfl, _, rfl, _, _, rfl, rfl, wide_mul u1 hw (by omega) (by omega) (by omega), _, rfl, _, rfl, _, _, rfl, rfl, _, _, rfl, rfl, _, rfl, _, _, rfl, rfl, wide_mul v1 hw (by omega) (by omega) (by omega), _, _, rfl, rfl, by show 2 ≤ sizeLine; decide, fun t9 n9 => ?_⟩
        refine qt (by omega) _ t9 (sC.trans (same_upd n9)) (sC.free n9) ?_
        rw [upd_same, d1, d2, Int.mul_comm (width f), Int.mul_comm (width f)]
end
end Lw
/-! try .. except X as e: the caught error is kept for what follows the clause. -/
namespace Lx
open PySem PySem.Spec L2
/-- at e: a caught error of the class at C, its own dict at d -/
def errX (e C d : Addr) : HO := .ext fun h => ∃ (o : Obj) (vs : Array Value), h.get? e = some o ∧ o.cls = .ref C ∧ o.dict = some d ∧ o.data = .fields vs
theorem errX_ok {P : Program} {w : World} {H : Hp} {h : Heap} {e C d : Addr} {o : Obj} {vs : Array Value} (he : h.get? e = some o) (h1 : o.cls = .ref C) (h2 : o.dict = some d) (h3 : o.data = .fields vs) : ObjOk P w H h e (errX e C d) :=
  ⟨⟨o, vs, he, h1, h2, h3⟩, ⟨_, he⟩, fun _ _ ⟨o, vs, a, b, c, d⟩ k => ⟨o, vs, k _ a, b, c, d⟩⟩
theorem errX_at {P : Program} {w : World} {H : Hp} {h : Heap} {e C d : Addr} (hok : HOk P w H h) (he : H e = some (errX e C d)) : ∃ (o : Obj) (vs : Array Value), h.get? e = some o ∧ o.cls = .ref C ∧ o.dict = some d ∧ o.data = .fields vs := by
  have x : ObjOk P w H h e (.ext fun h => ∃ (o : Obj) (vs : Array Value), h.get? e = some o ∧ o.cls = .ref C ∧ o.dict = some d ∧ o.data = .fields vs) := hok e _ he
  exact x.1
section
variable {X : Cx} {pins : List (Addr × Obj)} {σ : List (Option V)} {H : Hp} {s : Shared}
theorem know (I : Inv X pins σ H s) {a : Addr} {o : HO} (na : H a = none) (hn : X.s_0.heap.get? a = none) (nL : a ≠ X.env.locals) (nC : ∀ x c, X.env.cells.lookup x = some c → c ≠ a)
    (np : ∀ p ∈ X.pn ++ pins, p.1 ≠ a) (ok : ObjOk X.prog X.w (upd H a o) s.heap a o) : Inv X pins σ (upd H a o) s := by
  have ne : ∀ {b : Addr} {u : HO}, H b = some u → b ≠ a := fun {b u} q z => by rw [z, na] at q; cases q
  refine ⟨I.ok, I.os, I.bare, ⟨I.base.keep, I.base.slot, fun b o' e n hx => ?_, I.base.there, fun b xs q => ?_, fun b o' u q => ?_, fun b ps q => ?_⟩, I.loc, I.cell, ?_, fun x c e => ?_, fun p hp => ?_, fun b u e => ?_, I.len⟩
  · rw [upd_ne (fun z => by rw [z, hn] at e; cases e)]
    exact I.base.free b o' e n hx
  · have := I.base.tups b xs q
    rw [upd_ne (ne this)]; exact this
  · have := I.base.frzs b o' u q
    rw [upd_ne (ne this)]; exact this
  · obtain ⟨m, this⟩ := I.base.tbls b ps q
    exact ⟨m, by rw [upd_ne (ne this)]; exact this⟩
  · rw [upd_ne (Ne.symm nL)]; exact I.free
  · rw [upd_ne (nC x c e)]; exact I.freeC x c e
  · obtain ⟨e, n, r⟩ := I.pin p hp
    exact ⟨e, by rw [upd_ne (np p hp)]; exact n, r⟩
  · by_cases hb : b = a
    · subst hb
      rw [upd_same] at e
      cases e
      exact ok
    · rw [upd_ne hb] at e
      exact (I.hok b u e).stay (fun c v _ q => q) (fun c q => by rw [upd_ne (ne q)]; exact q) fun c xs q => by rw [upd_ne (ne q)]; exact q
theorem suiteK (I : Inv X pins σ H s) (a : Addr) : Inv (X.suite a (X.pn ++ pins)) [] σ H s :=
  ⟨I.ok.suite _ _, I.os, I.bare, I.base, I.loc, I.cell, I.free, I.freeC, fun p hp => I.pin p (by rw [List.append_nil] at hp; exact hp), I.hok, I.len⟩
theorem unsuiteK {a : Addr} {pn' : List (Addr × Obj)} (I : Inv (X.suite a (X.pn ++ pins)) pn' σ H s) (ok : X.Ok) : Inv X pins σ H s :=
  ⟨ok, I.os, I.bare, I.base, I.loc, I.cell, I.free, I.freeC, fun p hp => I.pin p (List.mem_append_left _ hp), I.hok, I.len⟩
end
/-- what the clause 'except x as n' wishes of an own error of the body: slot i is n's; the error is told -/
def wKp (K : PySem.W.Frag) (c : Value) (i : Nat) (ts : TS) (D : Ends) : WX := fun cls d σ H =>
  ∃ C dd : Addr, cls = .ref C ∧ d = some dd ∧ PySem.W.exmOne K cls c = some true ∧ ∀ a, H a = none →
    ts { nx := fun σ' H' => D.nx (σ'.set i none) H', rt := D.rt, bk := fun σ' H' => D.bk (σ'.set i none) H', ct := fun σ' H' => D.ct (σ'.set i none) H' } (σ.set i (some (.ref a))) (upd H a (errX a C dd))
section
variable {X : Cx} {x n : Str} {c : Value} {i : Nat} {body suite : List Stmt} {b₀ : Stmt} {np pos pos' : Pos} {tb : WX → TS} {ts : TS}
theorem ps_try_keep (hs : X.stack = X.env :: X.outer) (hf : X.env.frame = some X.env.locals) (hex : X.ex = []) (hN : X.N.Nodup) (hi : X.N[i]? = some n) (hln : X.env.kindOf n = some .local) (hc : Names X x c)
    (hb : ∀ (W : WX) (pn : List (Addr × Obj)) (xe : Value → Shared → Prop), Takes (X.tr pn xe) W → PassesOwn (model X.prog X.w) X.A X.env xe → PSs (X.tr pn xe) body (tb W))
    (hsu : ∀ (a : Addr) (pn : List (Addr × Obj)), PSs (X.suite a pn) (b₀ :: suite) ts) :
    PS X (.Try body [.ExceptHandler (some (.Name x np)) (some n) (b₀ :: suite) pos'] [] [] pos) (fun D σ H => tb (wKp X.K c i ts D) D σ H) := by
  refine ⟨fun pins s σ H D I h => ?_⟩
  have ok := I.ok
  have hfr : X.A.frames = some (X.env :: X.outer) := by rw [ok.frames, hs]
  have hloc : Loc X.env.scope n := .inl hln
  refine wpAny_Try_except ?_
  refine wpAny_mono ((hb (wKp X.K c i ts D) (X.pn ++ pins) (fun e s₁ => wpAny (model X.prog X.w) X.A (noteFrame e X.env) (fun _ s₂ => wpAny (model X.prog X.w) X.A (setFlight e none) (fun _ s₃ =>
    wpAny (model X.prog X.w) X.A (handleBy e X.env [.ExceptHandler (some (.Name x np)) (some n) (b₀ :: suite) pos']) (SP X pins D) X.xe s₃) X.xe s₂) X.xe s₁) (fun u s' xx => ?_) PassesOwn.looking).run [] s σ H D (I.toTry _) h) (fun f s1 hsp => ?_) (fun e s1 he => he)
  · obtain ⟨a, B, sI, pins', σ', H', cls, d, rfl, J', nb, up, sky, na, os, ag, C, dd, rfl, rfl, hb1, hyes⟩ := xx
    have J : Inv X pins σ' H' sI := J'.ofTry ok
    have sky' : Sky B (X.env :: X.outer) a (Zc (.ref C) (some dd)) X.env.locals s'.heap := by rw [← hs]; exact sky
    show wpAny (model X.prog X.w) X.A (noteFrame (.ref a) X.env) _ _ _
    refine Sky.land Zc.steady hfr hf sky' fun h3 fl3 up3 => ?_
    have J3 : Inv X pins σ' H' { s' with heap := h3 } := J.landed nb fl3.1 (up.trans up3) os ag
    obtain ⟨oe3, vs3, he3, hz3, hd3⟩ := fl3.there
    have notFr : ∀ {h : Heap} {o : Obj} {vs : Array Value}, h.FunFrames B (X.env :: X.outer) → h.get? a = some o → o.data = .fields vs → a ∉ frs (X.env :: X.outer) := fun {h o vs} ff e dd hm => by
      obtain ⟨_, o', e', hnf⟩ := ff.mem hm
      rw [e] at e'; cases e'
      exact hnf _ dd
    have nfr := notFr fl3.2.2.1 he3 hd3
    have nfr' : a ∉ frs X.stack := by rw [hs]; exact nfr
    have nB : B.get? a = none := fl3.2.1
    have nsI : ∀ o, sI.heap.get? a ≠ some o := fun o e => by
      have := nb a o e nfr'
      rw [nB] at this; cases this
    have nL : a ≠ X.env.locals := fun z => nfr (List.mem_filterMap.mpr ⟨X.env, List.mem_cons_self, by rw [hf, z]⟩)
    have n0 : X.s_0.heap.get? a = none := by
      cases e : X.s_0.heap.get? a with
      | none => rfl
      | some o =>
        obtain ⟨o', e'⟩ := J.base.there a o e (by rw [hex]; exact List.not_mem_nil)
        exact (nsI o' e').elim
    have np1 : ∀ p ∈ X.pn ++ pins, p.1 ≠ a := fun p hp z => nsI p.2 (by rw [← z]; exact (J.pin p hp).1)
    have S3 := suiteK J3 a
    refine wpAny_handleBy_cons (codeAny_handlers_test ?_) (by intro q; cases q)
    have LT : PySem.W.Looks (model X.prog X.w) h3 (typeOf (.ref a)) (.ref C) := fun A Q E s k q => wpAny_typeOf_ref (k _ _ he3) (by rw [hz3.1]; exact q)
    have LM := PySem.W.exm_one (M := model X.prog X.w) (J3.kIn) LT hb1
    have test : ∀ {Q : Value → Shared → Prop} {E : Value → Shared → Prop}, Q c { s' with heap := h3 } → wpAny (model X.prog X.w) (X.A.mark (some (.ref a))) (eval (.Name x np) X.env) Q E { s' with heap := h3 } := fun {Q E} q => by
      obtain ⟨hg, hdbg, hm | ⟨hm, hv, hnn⟩⟩ := hc
      · exact ld_glob (X := X.suite a (X.pn ++ pins)) S3 hg hm q hdbg
      · exact ld_blt (X := X.suite a (X.pn ++ pins)) S3 hg hm hv q hnn hdbg
    refine test (LM.here ?_)
    refine codeAny_handlers_suite_as ?_
    refine HandSPX.lands_againZ fl3 fun h4 fl4 up4 => ?_
    have J4 : Inv X pins σ' H' { s' with heap := h4 } := J.landed nb fl4.1 ((up.trans up3).trans up4) os ag
    obtain ⟨oe4, vs4, he4, hz4, hd4⟩ := fl4.there
    have K4 : Inv X pins σ' (upd H' a (errX a C dd)) { s' with heap := h4 } := know J4 na n0 nL (fun y c e z => by
      obtain ⟨v, o, ho, hdd⟩ := J4.cell y c e
      rw [z] at ho
      have ho' : h4.get? a = some o := ho
      rw [he4] at ho'
      cases ho'
      rw [hd4] at hdd
      cases hdd) np1 (errX_ok he4 hz4.1 hz4.2 hd4)
    have S4 := suiteK K4 a
    refine store_ok (X := X.suite a (X.pn ++ pins)) (v := .ref a) S4 hN hi hloc rfl (fun s5 S5 => ?_) (.inr hln)
    refine wpAny_mono ((hsu a (X.pn ++ pins)).run [] s5 _ _ _ S5 (hyes a na)) (fun f s6 hsp => ?_) (fun _ _ z => False.elim z)
    have end_ : ∀ {σ6 : St} {H6 : Hp} {Q : Shared → Prop}, Inv (X.suite a (X.pn ++ pins)) [] σ6 H6 s6 → (∀ s7, Inv X pins (σ6.set i none) H6 s7 → Q s7) →
        wpAny (model X.prog X.w) X.A (do bindName X.env n .none; unbindBehindTheSuite X.env n pos') (fun _ s7 => Q s7) X.xe s6 := fun {σ6 H6 Q} S6 hq => gone_ok (unsuiteK S6 ok) hN hi hln hq
    cases f with
    | next =>
      obtain ⟨σ6, H6, S6, q6⟩ := hsp
      exact end_ S6 fun s7 J7 => ⟨_, _, J7, q6⟩
    | brk =>
      obtain ⟨σ6, H6, S6, q6⟩ := hsp
      exact end_ S6 fun s7 J7 => ⟨_, _, J7, q6⟩
    | cont =>
      obtain ⟨σ6, H6, S6, q6⟩ := hsp
      exact end_ S6 fun s7 J7 => ⟨_, _, J7, q6⟩
    | ret u =>
      obtain ⟨v6, σ6, H6, S6, r6, q6⟩ := hsp
      exact end_ S6 fun s7 J7 => ⟨_, _, _, J7, r6, q6⟩
  · cases f with
    | next =>
      obtain ⟨σ', H', J', q⟩ := hsp
      exact wpAny_execs_nil ⟨σ', H', J'.ofTry ok, q⟩
    | brk =>
      obtain ⟨σ', H', J', q⟩ := hsp
      exact ⟨σ', H', J'.ofTry ok, q⟩
    | cont =>
      obtain ⟨σ', H', J', q⟩ := hsp
      exact ⟨σ', H', J'.ofTry ok, q⟩
    | ret u =>
      obtain ⟨v, σ', H', J', r, q⟩ := hsp
      exact ⟨v, σ', H', J'.ofTry ok, r, q⟩
end
section
variable {X : Cx} {pos : Pos}
/-- isinstance(e, c), e a caught error -/
def rIsX (K : PySem.W.Frag) : List V → Hp → VK → Prop := fun xs H Q => ∃ (e C d : Addr) (v : V) (c : V) (u : Value) (b : Bool), xs = [.ref e, c] ∧ H e = some (errX e C d) ∧ H d = some (.xd (vf v)) ∧ ClsV c u ∧ PySem.W.kitOne K (.ref C) u = some b ∧
  (∃ (file : Str) (mg : Str → Option Value) (L : Addr) (nm qual : Str) (st : Stmt), LineC K mg L ∧ ErrC K file mg L nm qual st C) ∧ Q (.bl b) H
theorem call_isX : CallR X (.builtin "isinstance") (rIsX X.K) := by
  intro pins s σ H xs us Q I r h
  obtain ⟨e, C', d, v, c, u, b, rfl, he, hd, hc, hk, ⟨file, mg, L', nm', qual', st', TL, T⟩, q⟩ := h
  obtain ⟨u1, u2, rfl, r1, r2⟩ := vals2 r
  obtain rfl : u1 = Value.ref e := r1
  have e2 := hc.eq r2
  subst e2
  obtain ⟨o, vs, ho, o1, o2, o3⟩ := errX_at I.hok he
  obtain ⟨mA, hns, _⟩ := (show ∃ mA, s.heap.Ns1 d mA ∧ ∀ f, RelO ((vf v).lookup f) (mA f) from I.hok d _ hd)
  obtain ⟨od, hod, _⟩ := lookIn_ns hns
  obtain ⟨cd, q1, q2, q3⟩ := T.chain
  obtain ⟨ocls, odict, odata, oslots⟩ := o
  simp only at o1 o2 o3
  subst o1 o2 o3
  have Z : PySem.W.KitX X.K (.ref e) (.ref C') (fun h => PySem.W.InstAt h e { cls := .ref C', dict := some d, data := .fields vs, slots := oslots } C' (some od)) :=
    PySem.W.kitx_exc (by rw [q1]; rfl) T.ga T.gg ((T.under _).trans (by rfl)) T.ca TL.sp TL.tk ((T.under _).trans (by rfl))
  exact PySem.W.kia_one Z I.kIn ⟨ho, rfl, rfl, hod⟩ hk (fun z => nomatch z) fun tk => ⟨.bl b, H, I.tok tk, rfl, q⟩
/-- e.value, e a caught error -/
def tErrXV (K : PySem.W.Frag) (te : TE) : TE := fun σ H Q => te σ H fun x H1 => ∃ (e C d : Addr) (v : V), x = .ref e ∧ H1 e = some (errX e C d) ∧ H1 d = some (.xd (vf v)) ∧
  (∃ (file : Str) (mg : Str → Option Value) (L : Addr) (nm qual : Str) (st : Stmt), LineC K mg L ∧ ErrC K file mg L nm qual st C) ∧ Q v H1
theorem pe_errXV {e : Expr} {te : TE} (he : PE X e te) (hb : attributeBase e "value" X.env (eval e X.env) = eval e X.env := by rfl) : PE X (.Attribute e "value" pos) (tErrXV X.K te) := by
  refine ⟨fun pins s σ H Q I h => ?_⟩
  refine attr_of hb (thn (he.run pins s σ H _ I h) fun u s1 hh => ?_)
  obtain ⟨x, H1, I1, rx, e', C', d, v, ex, hoe, hd, ⟨file, mg, L', nm', qual', st', TL, T⟩, q⟩ := hh
  subst ex
  obtain rfl : u = Value.ref e' := rx
  obtain ⟨o, vs, ho, o1, o2, o3⟩ := errX_at I1.hok hoe
  obtain ⟨mA, hns, hr⟩ := (show ∃ mA, s1.heap.Ns1 d mA ∧ ∀ f, RelO ((vf v).lookup f) (mA f) from I1.hok d _ hd)
  obtain ⟨od, hod, hl⟩ := lookIn_ns hns
  have l : List.lookup ("value" : Str) (vf v) = some v := by simp [List.lookup]
  obtain ⟨u, hu, ru⟩ := RelO.some_of (v := v) (o := mA "value") (by rw [← l]; exact hr "value")
  obtain ⟨ocls, odict, odata, oslots⟩ := o
  simp only at o1 o2 o3
  subst o1 o2 o3
  have J : PySem.W.InstAt s1.heap e' { cls := .ref C', dict := some d, data := .fields vs, slots := oslots } C' (some od) := ⟨ho, rfl, rfl, hod⟩
  obtain ⟨cd, q1, q2, q3⟩ := T.chain
  have hdict : PySem.W.hasDictIn X.K C' = true := by
    unfold PySem.W.hasDictIn
    rw [q1]
    simpa using q3
  exact HandSPX.exc_get I1.kIn J T.ga T.gg ((T.under _).trans (by rfl)) (PySem.W.findObj_own hdict T.nv rfl (by rw [hl, hu])) (handed_of ru) ⟨v, H1, I1.tok _, ru, q⟩
end
end Lx
/-! The eight error classes; classes whose __init__ raises, made by position and by name. -/
namespace Lx
open PySem PySem.Spec L2
/-- the eight classes and their base; ini i: the text of the i-th one's __init__ -/
structure ErrT (K : PySem.W.Frag) (file : Str) (mg : Str → Option Value) (L : Addr) (C : Nat → Addr) (ini : Nat → Stmt) : Prop where
  line : LineC K mg L
  e0 : ErrC K file mg L "InvalidChain" "InvalidChain.__init__" (ini 0) (C 0)
  e1 : ErrC K file mg L "InvalidRun" "InvalidRun.__init__" (ini 1) (C 1)
  e2 : ErrC K file mg L "InvalidForm" "InvalidForm.__init__" (ini 2) (C 2)
  e3 : ErrC K file mg L "InvalidNumber" "InvalidNumber.__init__" (ini 3) (C 3)
  e4 : ErrC K file mg L "InvalidPlace" "InvalidPlace.__init__" (ini 4) (C 4)
  e5 : ErrC K file mg L "UnknownName" "UnknownName.__init__" (ini 5) (C 5)
  e6 : ErrC K file mg L "NothingToUndo" "NothingToUndo.__init__" (ini 6) (C 6)
  e7 : ErrC K file mg L "Unreadable" "Unreadable.__init__" (ini 7) (C 7)
  inj : ∀ i j, i < 8 → j < 8 → C i = C j → i = j
  ne : ∀ i, i < 8 → C i ≠ L
section
variable {K : PySem.W.Frag} {file : Str} {mg : Str → Option Value} {L : Addr} {C : Nat → Addr} {ini : Nat → Stmt}
theorem ErrT.at (T : ErrT K file mg L C ini) : ∀ i, i < 8 → ∃ nm qual st, ErrC K file mg L nm qual st (C i)
  | 0, _ => ⟨_, _, _, T.e0⟩
  | 1, _ => ⟨_, _, _, T.e1⟩
  | 2, _ => ⟨_, _, _, T.e2⟩
  | 3, _ => ⟨_, _, _, T.e3⟩
  | 4, _ => ⟨_, _, _, T.e4⟩
  | 5, _ => ⟨_, _, _, T.e5⟩
  | 6, _ => ⟨_, _, _, T.e6⟩
  | 7, _ => ⟨_, _, _, T.e7⟩
  | n + 8, h => absurd h (by omega)
theorem ErrT.kit (T : ErrT K file mg L C ini) {i j : Nat} (hi : i < 8) (hj : j < 8) : PySem.W.kitOne K (.ref (C i)) (.ref (C j)) = some (decide (i = j)) := by
  obtain ⟨_, _, _, Ti⟩ := T.at i hi
  obtain ⟨_, _, _, Tj⟩ := T.at j hj
  rw [kit_err Ti Tj (T.ne j hj)]
  by_cases e : i = j
  · subst e; simp
  · have z : C i ≠ C j := fun q => e (T.inj i j hi hj q)
    rw [decide_eq_false e, decide_eq_false z]
theorem ErrT.kitL (T : ErrT K file mg L C ini) {i : Nat} (hi : i < 8) : PySem.W.kitOne K (.ref (C i)) (.ref L) = some true := by
  obtain ⟨_, _, _, Ti⟩ := T.at i hi
  exact kit_line T.line Ti
theorem ErrT.kitV (T : ErrT K file mg L C ini) {i : Nat} (hi : i < 8) : PySem.W.kitOne K (.ref (C i)) (.type "ValueError") = some true := by
  obtain ⟨_, _, _, Ti⟩ := T.at i hi
  exact kit_ve Ti
theorem ErrT.ex (T : ErrT K file mg L C ini) {i : Nat} (hi : i < 8) : ∃ (file : Str) (mg : Str → Option Value) (L : Addr) (nm qual : Str) (st : Stmt), LineC K mg L ∧ ErrC K file mg L nm qual st (C i) := by
  obtain ⟨_, _, _, Ti⟩ := T.at i hi
  exact ⟨_, _, _, _, _, _, T.line, Ti⟩
/-- except LineError -/
theorem ErrT.exm (T : ErrT K file mg L C ini) {i : Nat} (hi : i < 8) : PySem.W.exmOne K (.ref (C i)) (.ref L) = some true := by
  obtain ⟨_, _, _, Ti⟩ := T.at i hi
  unfold PySem.W.exmOne
  rw [T.line.exB, if_pos (by rfl)]
  have := kit_line T.line Ti
  unfold PySem.W.kitOne at this
  rw [if_neg (by simpa using T.ne i hi)] at this
  exact this
end
/-! ### list.count, flat items -/
section
variable {X : Cx}
theorem countP_eqU {x : V} : ∀ {xs : List V} {us : List Value}, Vals xs us → xs.all flatV = true → us.countP (eqU x) = xs.countP fun y => eqV y x
  | _, _, .nil, _ => rfl
  | y :: xs, u :: us, .cons r t, f => by
    rw [List.all_cons, Bool.and_eq_true] at f
    rw [List.countP_cons, List.countP_cons, countP_eqU t f.2, eqU_of r f.1]
def rCntF (K : PySem.W.Frag) : V → List V → Hp → VK → Prop := fun x xs H Q => ∃ (p : Addr) (ys : List V) (y : V), x = .ref p ∧ xs = [y] ∧ SqL K H p ys ∧ flatV y = true ∧ ys.all flatV = true ∧ Q (.int (ys.countP (fun z => eqV z y) : Nat)) H
theorem mt_countF : MtR X "list.count" (rCntF X.K) := by
  intro pins s σ H x xs v us Q I rx rxs h
  obtain ⟨p, ys, y, rfl, rfl, hs, fy, fys, q⟩ := h
  cases rx
  obtain ⟨u, rfl, ru⟩ := rxs.one
  obtain ⟨its, rv, ⟨⟨cls, dd, data, sl⟩, n, ho, hc, hdn, hd⟩, hlen⟩ := I.list hs
  simp only at hc hd
  subst hc hd
  refine call_meets PySem.F.slot_list_count ⟨_, ho, rfl⟩ PySem.F.entry_list_count (PySem.F.args_list_count_2 _ _)
    (SeqAt.list_countAt p its.toArray n dd sl u (eqU y)) ⟨ho, fun u' hu' => mem_eqAt ru fy rv fys u' (by simpa using hu'), ?_⟩
  have ec : its.toArray.toList.countP (eqU y) = ys.countP fun z => eqV z y := countP_eqU rv fys
  refine ⟨.int (ys.countP (fun z => eqV z y) : Nat), H, I.tok _, ⟨s.toks, ?_⟩, q⟩
  show Value.int ((its.toArray.toList.countP (eqU y) : Nat) : Int) s.toks = _
  rw [ec]
end
/-! ### C(e, ..), C(k = v) where __init__ may raise, at the slots -/
def tMakeS (C : Addr) (sp : Sp) (E : St → XK) (t : TA) : TE := fun σ H Q => t σ H fun vs H1 => ∀ x dx, H1 x = none → H1 dx = none → dx ≠ x →
  sp (.ref x :: vs) (upd (upd H1 dx (.own x)) x (.ins C dx [])) (fun v H2 => v = .non ∧ Q (.ref x) H2) (E σ)
def tMakeKS (C : Addr) (m : Nat) (sp : Sp) (gV : List V → List V → List V) (E : St → XK) (tk : TA) : TE := fun σ H Q => tk σ H fun zs H2 => zs.length = m ∧ ∀ x dx, H2 x = none → H2 dx = none → dx ≠ x →
  sp (gV [.ref x] zs) (upd (upd H2 dx (.own x)) x (.ins C dx [])) (fun v H3 => v = .non ∧ Q (.ref x) H3) (E σ)
section
variable {X : Cx} {CX : CXT} {k n : Nat} {f C : Addr} {fd : FuncData} {ps ks : List Str} {sp : Sp} {E : St → XK} {x : Str} {p pos : Pos} {e : Expr} {es : List Expr} {kws : List Keyword} {t tk : TA} {g : List Value → List Value → List Value} {gV : List V → List V → List V}
theorem run_makeS {pins : List (Addr × Obj)} {σ : St} {H : Hp} {s : Shared} {Q : VK} {us : List Value} {vs : List V} (M : Mk X.K C f) (F : FnOk X.prog X.w X.K X.mg X.base CX k f fd ps sp) (hr : Room (k + 1) X.A) (hb : Binds X.K fd ps [])
    (hx : PassesAt CX X σ (E σ)) (I : Inv X pins σ H s) (r : Vals vs us)
    (h : ∀ x dx, H x = none → H dx = none → dx ≠ x → sp (.ref x :: vs) (upd (upd H dx (.own x)) x (.ins C dx [])) (fun v H2 => v = .non ∧ Q (.ref x) H2) (E σ)) :
    wpAny (model X.prog X.w) X.A (call (.ref C) us) (EP X pins σ Q) X.xe s := by
  have hq := h (s.heap.objs.size + 1) s.heap.objs.size (I.hok.fresh (Nat.le_succ _)) (I.hok.fresh (Nat.le_refl _)) (Nat.ne_of_lt (Nat.lt_succ_self _))
  have I2 := Inv.made (C := C) I
  have r2 : Vals (V.ref (s.heap.objs.size + 1) :: vs) (Value.ref (s.heap.objs.size + 1) :: us) := .cons rfl r
  have hl : (Value.ref (s.heap.objs.size + 1) :: us ++ []).length = ps.length := by
    have e := r2.length
    rw [F.len _ _ _ _ hq] at e
    rw [List.append_nil]
    exact e.symm
  have b := hb _ (Value.ref (s.heap.objs.size + 1) :: us) I2.kIn hl
  rw [List.append_nil] at b
  refine wpAny_call (make_map (f := f) I.kIn M.makes M.init (beq_iff_eq.mp M.fn) (codeAny_mono (F.run _ X.stack _ _ ⟨Value.ref (s.heap.objs.size + 1) :: us, []⟩ (Value.ref (s.heap.objs.size + 1) :: us) _ _ (E σ) (hr.make C us [])
    (I2.env0.make C us []) b r2 hq) fun r s' hq' => ?_))
  cases r with
  | error e => exact hx pins _ _ e s' I2 hq'
  | ok fl =>
    cases fl with
    | ret u =>
      obtain ⟨v, H', I3, rv, ev, q3⟩ := I2.after hq'
      subst ev
      exact ⟨rv, ⟨V.ref (s.heap.objs.size + 1), H', I3, rfl, q3⟩⟩
    | next => exact False.elim hq'
    | brk => exact False.elim hq'
    | cont => exact False.elim hq'
theorem pe_makeS (M : Mk X.K C f) (F : FnOk X.prog X.w X.K X.mg X.base CX k f fd ps sp) (hr : Room (k + 1) X.A) (hg : Gl X x) (hm : X.mg x = some (.ref C)) (hb : Binds X.K fd ps []) (hx : ∀ σ, PassesAt CX X σ (E σ))
    (ha : PA X (e :: es) t) (hdb : (x == ("__debug__" : Str)) = false := by decide) (he : starEach (e :: es) X.env = (false, eval e X.env) :: starEach es X.env := by rfl) (hpl : (backTo pos (starEach es X.env)).any (·.1) = false := by rfl) :
    PE X (.Call (.Name x p) (e :: es) [] pos) (tMakeS C sp E t) := by
  refine ⟨fun pins s σ H Q I h => ?_⟩
  refine wpAny_Call_Name_kw (ld_glob I hg hm ?_ hdb)
  refine PySem.W.callWith_K (h₀ := X.base) I.ok.mod.kin M.kp (thn (ha.run pos pins s σ H _ I h) fun us s1 ⟨vs, H1, I1, r, q⟩ => ⟨I1.kIn, ?_⟩) he hpl
  exact run_makeS M F hr hb (hx σ) I1 r q
theorem run_makeKS {pins : List (Addr × Obj)} {σ : St} {H : Hp} {s : Shared} {Q : VK} {ws : List Value} {zs : List V} (M : Mk X.K C f) (F : FnOk X.prog X.w X.K X.mg X.base CX k f fd ps sp) (hr : Room (k + 1) X.A) (hb : KBn X.K fd ps 1 ks g gV)
    (hx : PassesAt CX X σ (E σ)) (I : Inv X pins σ H s) (rz : Vals zs ws) (l2 : zs.length = ks.length)
    (h : ∀ x dx, H x = none → H dx = none → dx ≠ x → sp (gV [.ref x] zs) (upd (upd H dx (.own x)) x (.ins C dx [])) (fun v H2 => v = .non ∧ Q (.ref x) H2) (E σ)) :
    wpAny (model X.prog X.w) X.A (call (.ref C) [] (ks.zip ws)) (EP X pins σ Q) X.xe s := by
  have hq := h (s.heap.objs.size + 1) s.heap.objs.size (I.hok.fresh (Nat.le_succ _)) (I.hok.fresh (Nat.le_refl _)) (Nat.ne_of_lt (Nat.lt_succ_self _))
  have I2 := Inv.made (C := C) I
  have r1 : Vals [V.ref (s.heap.objs.size + 1)] [Value.ref (s.heap.objs.size + 1)] := .cons rfl .nil
  have r2 := hb.rel r1 rz
  refine wpAny_call (make_map (f := f) I.kIn M.makes M.init (beq_iff_eq.mp M.fn) (codeAny_mono (F.run _ X.stack _ _ ⟨[Value.ref (s.heap.objs.size + 1)], ks.zip ws⟩ (g [Value.ref (s.heap.objs.size + 1)] ws) _ _ (E σ) (hr.make C [] (ks.zip ws))
    (I2.env0.make C [] (ks.zip ws)) (hb.to _ [Value.ref (s.heap.objs.size + 1)] ws I2.kIn rfl (rz.length.symm.trans l2)) r2 hq) fun r s' hq' => ?_))
  cases r with
  | error e => exact hx pins _ _ e s' I2 hq'
  | ok fl =>
    cases fl with
    | ret u =>
      obtain ⟨v, H', I3, rv, ev, q3⟩ := I2.after hq'
      subst ev
      exact ⟨rv, ⟨V.ref (s.heap.objs.size + 1), H', I3, rfl, q3⟩⟩
    | next => exact False.elim hq'
    | brk => exact False.elim hq'
    | cont => exact False.elim hq'
theorem pe_makeKS (M : Mk X.K C f) (F : FnOk X.prog X.w X.K X.mg X.base CX k f fd ps sp) (hr : Room (k + 1) X.A) (hg : Gl X x) (hm : X.mg x = some (.ref C)) (hb : KBn X.K fd ps 1 ks g gV) (hx : ∀ σ, PassesAt CX X σ (E σ)) (hkw : PK X kws tk)
    (hall : (backToKw pos (keywordEach kws X.env)).all (·.1.isSome) = true := by rfl) (hks : (backToKw pos (keywordEach kws X.env)).filterMap (·.1) = ks := by rfl) (hdb : (x == ("__debug__" : Str)) = false := by decide)
    (hpl : ((backTo pos (starEach [] X.env)).any (·.1) || (backToKw pos (keywordEach kws X.env)).any (·.1.isNone)) = false := by rfl) :
    PE X (.Call (.Name x p) [] kws pos) (tMakeKS C ks.length sp gV E tk) := by
  refine ⟨fun pins s σ H Q I h => ?_⟩
  refine wpAny_Call_Name_kw (ld_glob I hg hm ?_ hdb)
  refine PySem.W.callWith_KW0 (h₀ := X.base) I.ok.mod.kin M.kp hall ?_ hpl
  refine thn (hkw.run pos pins s σ H _ I h) fun ws s2 ⟨zs, H2, I2, rz, l2, q2⟩ => ⟨I2.kIn, ?_⟩
  rw [hks]
  exact run_makeKS M F hr hb (hx σ) I2 rz l2 q2
end
/-- self by position, the one argument by its name -/
def gSelf1 (α : Type) : List α → List α → List α
  | [a], [b] => [a, b]
  | _, _ => []
theorem kbSelf1 {K : PySem.W.Frag} {x qual : Str} {st : Stmt} {f : Addr} {fd : FuncData} {p1 p2 : Str} (F : Fun K x qual st f fd)
    (h : ∀ (kV doc pm : Value) (an : Option Addr) (cdv ct a b : Value), bindArgs (PySem.W.fnOf x qual (defArgs st) (defBody st) (defScope st) .none kV doc pm an cdv ct) ⟨[a], [(p2, b)]⟩ = pure [(p1, a), (p2, b)]) : KBn K fd [p1, p2] 1 [p2] (gSelf1 Value) (gSelf1 V) := by
  obtain ⟨oc, od, kV, doc, pm, an, cdv, ct, osl, rfl, lk, hcd⟩ := F.ex
  refine ⟨fun s us ws _ l1 l2 => ?_, fun {vs us zs ws} r1 r2 => ?_⟩
  · match us, ws, l1, l2 with
    | [a], [b], _, _ => exact .of_eq (h kV doc pm an cdv ct a b)
  · cases r1 with
    | nil => exact .nil
    | cons a t =>
      cases t with
      | cons _ _ => exact .nil
      | nil =>
        cases r2 with
        | nil => exact .nil
        | cons b t =>
          cases t with
          | nil => exact .cons a (.cons b .nil)
          | cons _ _ => exact .nil
end Lx
/-! e.value where an error is handled: the fragment said outright -/
namespace Lx
open PySem PySem.Spec L2
theorem pe_errXVK {X : Cx} {pos : Pos} {K : PySem.W.Frag} {e : Expr} {te : TE} (hK : X.K = K) (he : PE X e te) (hb : attributeBase e "value" X.env (eval e X.env) = eval e X.env := by rfl) : PE X (.Attribute e "value" pos) (tErrXV K te) := by
  subst hK
  exact pe_errXV he hb
theorem call_isXK {X : Cx} {K : PySem.W.Frag} (hK : X.K = K) : CallR X (.builtin "isinstance") (rIsX K) := by
  subst hK
  exact call_isX
end Lx
/-! signs with their stems, step by step -/
namespace Lw
open PySem PySem.Spec L2 Lx
abbrev SgS := List (Nat × Nat)
def headNot10 : SgS → Bool
  | [] => true
  | u :: _ => u.1 != 10
/-- what one step makes of signs with their stems -/
def stpS (c : Nat) : SgS → SgS
  | [] => []
  | u :: r => (if c = 85 ∧ u.1 = 10 then [(94, u.2), (10, u.2)] else if c = 77 then [(10, u.2)] else if c = 78 then [(94, u.2)] else if c ≠ 68 ∨ u.1 = 10 ∨ headNot10 r = true then [u] else []) ++ stpS c r
/-- elementwise steps -/
theorem stp_each {c : Nat} (hc : c ≠ 68) (g : Nat × Nat → SgS) (hg : ∀ u, g u = if c = 85 ∧ u.1 = 10 then [(94, u.2), (10, u.2)] else if c = 77 then [(10, u.2)] else if c = 78 then [(94, u.2)] else [u]) : ∀ l : SgS, stpS c l = l.flatMap g
  | [] => rfl
  | u :: r => by
    show (if _ then _ else if _ then _ else if _ then _ else if _ then _ else _) ++ stpS c r = _
    rw [stp_each hc g hg r, List.flatMap_cons, hg u, if_pos (show c ≠ 68 ∨ u.1 = 10 ∨ headNot10 r = true from .inl hc)]
theorem stpU (l : SgS) : stpS 85 l = l.flatMap fun u => if u.1 = 10 then [(94, u.2), (10, u.2)] else [u] := by
  refine stp_each (by decide) _ (fun u => ?_) l
  by_cases h : u.1 = 10
  · rw [if_pos h, if_pos ⟨rfl, h⟩]
  · rw [if_neg h, if_neg fun z => h z.2]; rfl
theorem stpM (l : SgS) : stpS 77 l = l.flatMap fun u => [(10, u.2)] := stp_each (by decide) _ (fun u => rfl) l
theorem stpN (l : SgS) : stpS 78 l = l.flatMap fun u => [(94, u.2)] := stp_each (by decide) _ (fun u => rfl) l
/-- a break and the signs in front of it -/
theorem stpD_blk (s : Nat) (r : SgS) : ∀ a : SgS, (∀ u ∈ a, u.1 = 94) → stpS 68 (a ++ (10, s) :: r) = a.dropLast ++ (10, s) :: stpS 68 r
  | [], _ => rfl
  | [u], h => by
    have hu := h u List.mem_cons_self
    show (if _ then _ else if _ then _ else if _ then _ else if (68 : Nat) ≠ 68 ∨ u.1 = 10 ∨ headNot10 ((10, s) :: r) = true then [u] else []) ++ stpS 68 ((10, s) :: r) = _
    rw [if_neg (by simp), if_neg (by decide), if_neg (by decide), if_neg (by rintro (z | z | z); exact z rfl; omega; cases z)]
    rfl
  | u :: v :: a, h => by
    have hu := h u List.mem_cons_self
    have hv := h v (List.mem_cons_of_mem _ List.mem_cons_self)
    have ih := stpD_blk s r (v :: a) fun x hx => h x (List.mem_cons_of_mem _ hx)
    show (if _ then _ else if _ then _ else if _ then _ else if (68 : Nat) ≠ 68 ∨ u.1 = 10 ∨ headNot10 ((v :: a) ++ (10, s) :: r) = true then [u] else []) ++ stpS 68 ((v :: a) ++ (10, s) :: r) = _
    rw [if_neg (by simp), if_neg (by decide), if_neg (by decide), if_pos (.inr (.inr (by show (v.1 != 10) = true; rw [hv]; rfl))), ih]
    rfl
theorem hh : ∀ a : SgS, (∀ u ∈ a, u.1 = 94) → headNot10 a = true
  | [], _ => rfl
  | v :: a, h => by
    show (v.1 != 10) = true
    rw [h v List.mem_cons_self]
    rfl
theorem stpD_up : ∀ a : SgS, (∀ u ∈ a, u.1 = 94) → stpS 68 a = a
  | [], _ => rfl
  | u :: a, h => by
    have hu := h u List.mem_cons_self
    have ih := stpD_up a fun x hx => h x (List.mem_cons_of_mem _ hx)
    show (if _ then _ else if _ then _ else if _ then _ else if (68 : Nat) ≠ 68 ∨ u.1 = 10 ∨ headNot10 a = true then [u] else []) ++ stpS 68 a = _
    rw [if_neg (by simp), if_neg (by decide), if_neg (by decide), if_pos (.inr (.inr (hh a fun x hx => h x (List.mem_cons_of_mem _ hx)))), ih]
    rfl
/-- the first signs of a group, with their own stems -/
def own (s n : Nat) : SgS := (List.range n).map fun i => (94, s + i)
/-- what a form that keeps the groups makes -/
def lay (b a : Nat) : List Nat → Nat → Nat → SgS
  | [], s, rest => own s rest
  | j :: js, s, rest => (own s (j - b) ++ List.replicate a (94, s + j)) ++ (10, s + j) :: lay b a js (s + j + 1) rest
/-- the stems of the units, each k times -/
def stemsW (k : Nat) (l : SgS) : List Nat := l.flatMap fun u => List.replicate k u.2
def blk (c st : Nat) : SgS := List.replicate c (94, st) ++ [(10, st)]
/-- what a form makes of the groups js and the rest -/
def layF (js : List Nat) (rest : Nat) : Fm → SgS
  | .keep b a => lay b.toNat a.toNat js 0 rest
  | .lf b a k c => (stemsW k.toNat (lay b.toNat a.toNat js 0 rest)).flatMap (blk c.toNat)
  | .cr b a k => (stemsW k.toNat (lay b.toNat a.toNat js 0 rest)).map fun st => (94, st)
theorem own_94 {s n : Nat} : ∀ u ∈ own s n, u.1 = 94 := fun u hu => by
  obtain ⟨i, _, rfl⟩ := List.mem_map.mp hu
  rfl
theorem lay_U (b a : Nat) : ∀ (js : List Nat) (s rest : Nat), stpS 85 (lay b a js s rest) = lay b (a + 1) js s rest := by
  have up : ∀ l : SgS, (∀ u ∈ l, u.1 = 94) → (l.flatMap fun u => if u.1 = 10 then [(94, u.2), (10, u.2)] else [u]) = l := fun l h => by
    induction l with
    | nil => rfl
    | cons u l ih =>
      rw [List.flatMap_cons, ih fun x hx => h x (List.mem_cons_of_mem _ hx), if_neg (by have := h u List.mem_cons_self; omega)]
      rfl
  intro js
  induction js with
  | nil =>
    intro s rest
    rw [stpU]
    exact up _ own_94
  | cons j js ih =>
    intro s rest
    have ih := ih (s + j + 1) rest
    rw [stpU] at ih ⊢
    show List.flatMap _ ((own s (j - b) ++ List.replicate a (94, s + j)) ++ (10, s + j) :: lay b a js (s + j + 1) rest) = _
    rw [List.flatMap_append, List.flatMap_cons, ih, up _ fun u hu => by
      rcases List.mem_append.mp hu with h | h
      · exact own_94 u h
      · rw [(List.mem_replicate.mp h).2]]
    show _ = (own s (j - b) ++ List.replicate (a + 1) (94, s + j)) ++ (10, s + j) :: _
    rw [List.replicate_succ', if_pos rfl]
    simp only [List.append_assoc, List.cons_append, List.nil_append]
theorem lay_D (b a : Nat) : ∀ (js : List Nat) (s rest : Nat), stpS 68 (lay b a js s rest) = lay (if a = 0 then b + 1 else b) (a - 1) js s rest := by
  intro js
  induction js with
  | nil =>
    intro s rest
    exact stpD_up _ own_94
  | cons j js ih =>
    intro s rest
    show stpS 68 ((own s (j - b) ++ List.replicate a (94, s + j)) ++ (10, s + j) :: lay b a js (s + j + 1) rest) = _
    rw [stpD_blk _ _ _ fun u hu => by
      rcases List.mem_append.mp hu with h | h
      · exact own_94 u h
      · rw [(List.mem_replicate.mp h).2], ih (s + j + 1) rest]
    show _ = (own s (j - (if a = 0 then b + 1 else b)) ++ List.replicate (a - 1) (94, s + j)) ++ (10, s + j) :: _
    congr 1
    cases a with
    | zero =>
      rw [if_pos rfl]
      simp only [List.replicate_zero, List.append_nil, Nat.zero_sub]
      unfold own
      rw [← List.map_dropLast]
      congr 1
      cases e : j - b with
      | zero => rw [show j - (b + 1) = 0 by omega]; rfl
      | succ n =>
        rw [show j - (b + 1) = n by omega, List.range_succ, List.dropLast_concat]
    | succ a =>
      rw [if_neg (by omega), List.replicate_succ', ← List.append_assoc, List.dropLast_concat]
      rfl
theorem blk_U (c : Nat) (ws : List Nat) : stpS 85 (ws.flatMap (blk c)) = ws.flatMap (blk (c + 1)) := by
  rw [stpU, List.flatMap_assoc]
  congr 1
  funext st
  unfold blk
  rw [List.flatMap_append, List.replicate_succ']
  have : ∀ n : Nat, (List.replicate n ((94, st) : Nat × Nat)).flatMap (fun u => if u.1 = 10 then [(94, u.2), (10, u.2)] else [u]) = List.replicate n (94, st) := fun n => by
    induction n with
    | zero => rfl
    | succ n ih => rw [List.replicate_succ, List.flatMap_cons, ih]; rfl
  rw [this]
  simp
theorem blk_D (c : Nat) : ∀ ws : List Nat, stpS 68 (ws.flatMap (blk c)) = ws.flatMap (blk (c - 1))
  | [] => rfl
  | st :: ws => by
    rw [List.flatMap_cons, List.flatMap_cons]
    show stpS 68 ((List.replicate c (94, st) ++ [(10, st)]) ++ _) = _
    rw [List.append_assoc]
    show stpS 68 (List.replicate c (94, st) ++ (10, st) :: ws.flatMap (blk c)) = _
    rw [stpD_blk _ _ _ fun u hu => by rw [(List.mem_replicate.mp hu).2], blk_D c ws]
    show _ = (List.replicate (c - 1) (94, st) ++ [(10, st)]) ++ _
    rw [List.dropLast_replicate, List.append_assoc]
    rfl
theorem stems_mul (k m : Nat) (l : SgS) : (stemsW k l).flatMap (fun st => List.replicate m st) = stemsW (k * m) l := by
  unfold stemsW
  rw [List.flatMap_assoc]
  congr 1
  funext u
  induction k with
  | zero => simp
  | succ k ih => rw [List.replicate_succ, List.flatMap_cons, ih, Nat.succ_mul, Nat.add_comm, ← List.replicate_append_replicate]
theorem blk_M (c : Nat) (ws : List Nat) : stpS 77 (ws.flatMap (blk c)) = (ws.flatMap fun st => List.replicate (c + 1) st).flatMap (blk 0) := by
  rw [stpM, List.flatMap_assoc, List.flatMap_assoc]
  congr 1
  funext st
  unfold blk
  rw [List.flatMap_append, List.replicate_succ', List.flatMap_append]
  congr 1
  induction c with
  | zero => rfl
  | succ c ih => rw [List.replicate_succ, List.replicate_succ, List.flatMap_cons, List.flatMap_cons, ih]; rfl
theorem blk_N (c : Nat) (ws : List Nat) : stpS 78 (ws.flatMap (blk c)) = (ws.flatMap fun st => List.replicate (c + 1) st).map fun st => (94, st) := by
  rw [stpN, List.flatMap_assoc, List.map_flatMap]
  congr 1
  funext st
  unfold blk
  rw [List.flatMap_append, List.replicate_succ', List.map_append, List.map_replicate]
  congr 1
  induction c with
  | zero => rfl
  | succ c ih => rw [List.replicate_succ, List.flatMap_cons, ih]; rfl
theorem lay_stems1 (l : SgS) : stemsW 1 l = l.map (·.2) := by
  unfold stemsW
  induction l with
  | nil => rfl
  | cons u l ih => rw [List.flatMap_cons, ih]; rfl
def FNn : Fm → Prop
  | .keep b a => 0 ≤ b ∧ 0 ≤ a
  | .lf b a k c => 0 ≤ b ∧ 0 ≤ a ∧ 0 ≤ k ∧ 0 ≤ c
  | .cr b a k => 0 ≤ b ∧ 0 ≤ a ∧ 0 ≤ k
/-- THE STEP: what the step makes of what the form made is what both make -/
theorem lay_step (js : List Nat) (rest : Nat) {f : Fm} (h : FNn f) {c : Nat} (hc : c = 85 ∨ c = 68 ∨ c = 77 ∨ c = 78) : stpS c (layF js rest f) = layF js rest (f.both (stepF c)) ∧ FNn (f.both (stepF c)) := by
  have sU : stepF 85 = .keep 0 1 := rfl
  have sD : stepF 68 = .keep 1 0 := rfl
  have sM : stepF 77 = .lf 0 0 1 0 := rfl
  have sN : stepF 78 = .cr 0 0 1 := rfl
  cases f with
  | keep b a =>
    obtain ⟨hb, ha⟩ := h
    rcases hc with rfl | rfl | rfl | rfl
    · rw [sU]
      have e : (Fm.keep b a).both (.keep 0 1) = .keep b (a + 1) := by
        show Fm.keep (b + (if (0 : Int) - a > 0 then 0 - a else 0)) ((if a - 0 > 0 then a - 0 else 0) + 1) = _
        congr 1 <;> split <;> omega
      rw [e]
      refine ⟨?_, hb, by omega⟩
      show stpS 85 (lay _ _ _ _ _) = lay _ (a + 1).toNat _ _ _
      rw [lay_U, show (a + 1).toNat = a.toNat + 1 by omega]
    · rw [sD]
      have e : (Fm.keep b a).both (.keep 1 0) = .keep (if a = 0 then b + 1 else b) (if a = 0 then 0 else a - 1) := by
        show Fm.keep (b + (if (1 : Int) - a > 0 then 1 - a else 0)) ((if a - 1 > 0 then a - 1 else 0) + 0) = _
        congr 1 <;> split <;> split <;> omega
      rw [e]
      refine ⟨?_, by split <;> omega, by split <;> omega⟩
      show stpS 68 (lay _ _ _ _ _) = lay _ _ _ _ _
      rw [lay_D]
      by_cases z : a = 0
      · rw [if_pos z, if_pos z, if_pos (by omega), show (b + 1).toNat = b.toNat + 1 by omega, show a.toNat - 1 = 0 by omega]; rfl
      · rw [if_neg z, if_neg z, if_neg (by omega), show (a - 1).toNat = a.toNat - 1 by omega]
    · rw [sM]
      have e : (Fm.keep b a).both (.lf 0 0 1 0) = .lf b a 1 0 := by
        show Fm.lf (b + (if (0 : Int) - a > 0 then 0 - a else 0)) ((if a - 0 > 0 then a - 0 else 0) + 0) 1 0 = _
        congr 1 <;> split <;> omega
      rw [e]
      refine ⟨?_, hb, ha, by decide, by decide⟩
      show stpS 77 (lay _ _ _ _ _) = (stemsW 1 (lay _ _ _ _ _)).flatMap (blk 0)
      rw [stpM, lay_stems1, List.flatMap_map]
      rfl
    · rw [sN]
      have e : (Fm.keep b a).both (.cr 0 0 1) = .cr b a 1 := by
        show Fm.cr (b + (if (0 : Int) - a > 0 then 0 - a else 0)) ((if a - 0 > 0 then a - 0 else 0) + 0) 1 = _
        congr 1 <;> split <;> omega
      rw [e]
      refine ⟨?_, hb, ha, by decide⟩
      show stpS 78 (lay _ _ _ _ _) = (stemsW 1 (lay _ _ _ _ _)).map _
      rw [stpN, lay_stems1, List.map_map, List.map_eq_flatMap]
      rfl
  | lf b a k c0 =>
    obtain ⟨hb, ha, hk, h0⟩ := h
    rcases hc with rfl | rfl | rfl | rfl
    · rw [sU]
      have e : (Fm.lf b a k c0).both (.keep 0 1) = .lf b a k (c0 + 1) := by
        show Fm.lf b a k ((if c0 - 0 > 0 then c0 - 0 else 0) + 1) = _
        congr 1; split <;> omega
      rw [e]
      refine ⟨?_, hb, ha, hk, by omega⟩
      show stpS 85 (List.flatMap _ _) = List.flatMap (blk (c0 + 1).toNat) _
      rw [blk_U, show (c0 + 1).toNat = c0.toNat + 1 by omega]
    · rw [sD]
      have e : (Fm.lf b a k c0).both (.keep 1 0) = .lf b a k (if c0 - 1 > 0 then c0 - 1 else 0) := by
        show Fm.lf b a k ((if c0 - 1 > 0 then c0 - 1 else 0) + 0) = _
        rw [Int.add_zero]
      rw [e]
      refine ⟨?_, hb, ha, hk, by split <;> omega⟩
      show stpS 68 (List.flatMap _ _) = List.flatMap (blk (if c0 - 1 > 0 then c0 - 1 else 0).toNat) _
      rw [blk_D, show (if c0 - 1 > 0 then c0 - 1 else 0).toNat = c0.toNat - 1 by split <;> omega]
    · rw [sM]
      have e : (Fm.lf b a k c0).both (.lf 0 0 1 0) = .lf b a (k * (c0 + 1)) 0 := by
        show Fm.lf b a (k * ((if c0 - 0 > 0 then c0 - 0 else 0) + 0 + 1) * 1) 0 = _
        rw [Int.mul_one, show (if c0 - 0 > 0 then c0 - 0 else 0) + 0 = c0 by split <;> omega]
      rw [e]
      refine ⟨?_, hb, ha, Int.mul_nonneg hk (by omega), by decide⟩
      show stpS 77 (List.flatMap _ _) = List.flatMap (blk 0) (stemsW (k * (c0 + 1)).toNat _)
      rw [blk_M, stems_mul, Int.toNat_mul hk (by omega), show (c0 + 1).toNat = c0.toNat + 1 by omega]
    · rw [sN]
      have e : (Fm.lf b a k c0).both (.cr 0 0 1) = .cr b a (k * (c0 + 1)) := by
        show Fm.cr b a (k * ((if c0 - 0 > 0 then c0 - 0 else 0) + 0 + 1) * 1) = _
        rw [Int.mul_one, show (if c0 - 0 > 0 then c0 - 0 else 0) + 0 = c0 by split <;> omega]
      rw [e]
      refine ⟨?_, hb, ha, Int.mul_nonneg hk (by omega)⟩
      show stpS 78 (List.flatMap _ _) = List.map _ (stemsW (k * (c0 + 1)).toNat _)
      rw [blk_N, stems_mul, Int.toNat_mul hk (by omega), show (c0 + 1).toNat = c0.toNat + 1 by omega]
  | cr b a k =>
    obtain ⟨hb, ha, hk⟩ := h
    have h94 : ∀ ws : List Nat, ∀ u ∈ ws.map fun st => ((94, st) : Nat × Nat), u.1 = 94 := fun ws u hu => by
      obtain ⟨_, _, rfl⟩ := List.mem_map.mp hu
      rfl
    rcases hc with rfl | rfl | rfl | rfl
    · refine ⟨?_, hb, ha, hk⟩
      show stpS 85 (List.map _ _) = List.map _ _
      rw [stpU]
      generalize stemsW _ _ = ws
      induction ws with
      | nil => rfl
      | cons w ws ih => rw [List.map_cons, List.flatMap_cons, ih]; rfl
    · refine ⟨?_, hb, ha, hk⟩
      exact stpD_up _ (h94 _)
    · rw [sM]
      have e : (Fm.cr b a k).both (.lf 0 0 1 0) = .lf b a k 0 := by
        show Fm.lf b a (k * 1 * 1) 0 = _
        rw [Int.mul_one, Int.mul_one]
      rw [e]
      refine ⟨?_, hb, ha, hk, by decide⟩
      show stpS 77 (List.map _ _) = List.flatMap (blk 0) _
      rw [stpM, List.flatMap_map]
      rfl
    · rw [sN]
      have e : (Fm.cr b a k).both (.cr 0 0 1) = .cr b a k := by
        show Fm.cr b a (k * 1 * 1) = _
        rw [Int.mul_one, Int.mul_one]
      rw [e]
      refine ⟨?_, hb, ha, hk⟩
      show stpS 78 (List.map _ _) = List.map _ _
      rw [stpN]
      generalize stemsW _ _ = ws
      induction ws with
      | nil => rfl
      | cons w ws ih => rw [List.map_cons, List.flatMap_cons, ih]; rfl
end Lw
namespace Lw
open PySem PySem.Spec L2 Lx
/-! ### the parts that stem from the places, and the places from which nothing stems -/
def iota (s : Int) (n : Nat) : List Int := (List.range n).map fun i : Nat => s + (i : Int)
theorem iota_succ (s : Int) (n : Nat) : iota s (n + 1) = iota s n ++ [s + n] := by
  unfold iota
  rw [List.range_succ, List.map_append]
  rfl
theorem iota_app (s : Int) (m : Nat) : ∀ n : Nat, iota s (m + n) = iota s m ++ iota (s + m) n
  | 0 => by show iota s m = iota s m ++ []; rw [List.append_nil]
  | n + 1 => by
    rw [← Nat.add_assoc, iota_succ, iota_app s m n, iota_succ, List.append_assoc]
    congr 3
    show s + ((m + n : Nat) : Int) = s + m + n
    omega
theorem iota_len (s : Int) (n : Nat) : (iota s n).length = n := by unfold iota; rw [List.length_map, List.length_range]
theorem iota_mem {s x : Int} {n : Nat} (h : x ∈ iota s n) : s ≤ x ∧ x < s + n := by
  obtain ⟨i, hi, rfl⟩ := List.mem_map.mp h
  have := List.mem_range.mp hi
  omega
/-- what is left of the parts of the first n places -/
def keptL (L : Int → Int) : Nat → List (Int × Int)
  | 0 => []
  | n + 1 => if L n < L (n + 1) then keptL L n ++ [(L n, L (n + 1) - 1)] else keptL L n
def Cov (ks : List (Int × Int)) (x : Int) : Prop := (ks = [] ∧ x = 0) ∨ ∃ fr la, ks = fr ++ [la] ∧ ks.map Prod.fst = 0 :: fr.map (fun y => y.2 + 1) ∧ la.2 = x - 1
theorem kept_cov {L : Int → Int} (h0 : L 0 = 0) (hm : ∀ n : Nat, L n ≤ L (n + 1)) : ∀ n : Nat, Cov (keptL L n) (L n)
  | 0 => .inl ⟨rfl, h0⟩
  | n + 1 => by
    have ih := kept_cov h0 hm n
    show Cov (if L n < L (n + 1) then keptL L n ++ [(L n, L (n + 1) - 1)] else keptL L n) (L ((n + 1 : Nat) : Int))
    have ec : ((n + 1 : Nat) : Int) = (n : Int) + 1 := by omega
    rw [ec]
    by_cases c : L n < L (n + 1)
    · rw [if_pos c]
      rcases ih with ⟨e1, e2⟩ | ⟨fr, la, e1, e2, e3⟩
      · refine .inr ⟨[], (L n, L (n + 1) - 1), by rw [e1], ?_, rfl⟩
        rw [e1, e2]
        rfl
      · refine .inr ⟨keptL L n, (L n, L (n + 1) - 1), rfl, ?_, rfl⟩
        rw [List.map_append, e2, e1, List.map_append]
        show (0 :: fr.map fun y => y.2 + 1) ++ [L n] = 0 :: (fr.map (fun y => y.2 + 1) ++ [la.2 + 1])
        rw [e3, show L n - 1 + 1 = L n by omega]
        rfl
    · rw [if_neg c]
      have := hm n
      rw [show L (n + 1) = L n by omega]
      exact ih
/-- places from which nothing stems, group by group -/
def lostL (f : Fm) : List Int → Int → List Int
  | [], _ => []
  | j :: js, s => iota (s + lft f j) (j - lft f j).toNat ++ lostL f js (s + j + 1)
theorem lostL_app (f : Fm) : ∀ (as bs : List Int) (s : Int), lostL f (as ++ bs) s = lostL f as s ++ lostL f bs (s + szL as)
  | [], bs, s => by
    show lostL f bs s = [] ++ lostL f bs (s + 0)
    rw [List.nil_append, Int.add_zero]
  | j :: as, bs, s => by
    show iota _ _ ++ lostL f (as ++ bs) (s + j + 1) = (iota _ _ ++ lostL f as (s + j + 1)) ++ lostL f bs (s + szL (j :: as))
    rw [lostL_app f as bs (s + j + 1), List.append_assoc, szL_cons]
    congr 3
    omega
theorem filter_all {s : Int} {n : Nat} {P : Int → Bool} (h : ∀ x, s ≤ x → x < s + n → P x = true) : (iota s n).filter P = iota s n := List.filter_eq_self.mpr fun x hx => by
  obtain ⟨h1, h2⟩ := iota_mem hx
  exact h x h1 h2
theorem filter_none {s : Int} {n : Nat} {P : Int → Bool} (h : ∀ x, s ≤ x → x < s + n → P x = false) : (iota s n).filter P = [] := List.filter_eq_nil_iff.mpr fun x hx => by
  obtain ⟨h1, h2⟩ := iota_mem hx
  rw [h x h1 h2]
  decide
/-- the same, place by place -/
theorem lost_filter {f : Fm} (hb : 0 ≤ f.b) (ha : 0 ≤ f.a) (rest : Nat) : ∀ (js : List Int) (s : Int), (∀ j ∈ js, 0 ≤ j) →
    (iota s ((szL js).toNat + rest)).filter (fun p => decide (U f js (p - s) = U f js (p - s + 1))) = lostL f js s
  | [], s, _ => by
    refine filter_none fun x h1 h2 => decide_eq_false ?_
    show ¬ x - s = x - s + 1
    omega
  | j :: js, s, h => by
    have hj := h j (List.mem_cons_self ..)
    have hjs := szL_0 fun x hx => h x (List.mem_cons_of_mem _ hx)
    have l0 := lft_0 f j
    have l1 := lft_le (f := f) hj hb
    have ih := lost_filter hb ha rest js (s + j + 1) fun x hx => h x (List.mem_cons_of_mem _ hx)
    have en : (szL (j :: js)).toNat + rest = (lft f j).toNat + ((j - lft f j).toNat + (1 + ((szL js).toNat + rest))) := by
      rw [szL_cons]
      omega
    have e1 : s + ((lft f j).toNat : Int) = s + lft f j := by omega
    have e2 : s + lft f j + ((j - lft f j).toNat : Int) = s + j := by omega
    rw [en, iota_app, e1, iota_app, e2, iota_app]
    have e3 : s + j + ((1 : Nat) : Int) = s + j + 1 := by omega
    rw [e3, List.filter_append, List.filter_append, List.filter_append]
    have val : ∀ p, 0 ≤ p → p ≤ j → U f (j :: js) p = min p (lft f j) := fun p _ h2 => if_pos h2
    have p1 : (iota s (lft f j).toNat).filter (fun p => decide (U f (j :: js) (p - s) = U f (j :: js) (p - s + 1))) = [] := filter_none fun x h1 h2 => decide_eq_false (by
      rw [val _ (by omega) (by omega), val _ (by omega) (by omega)]
      omega)
    have p2 : (iota (s + lft f j) (j - lft f j).toNat).filter (fun p => decide (U f (j :: js) (p - s) = U f (j :: js) (p - s + 1))) = iota (s + lft f j) (j - lft f j).toNat := filter_all fun x h1 h2 => decide_eq_true (by
      rw [val _ (by omega) (by omega), val _ (by omega) (by omega)]
      omega)
    have p3 : (iota (s + j) 1).filter (fun p => decide (U f (j :: js) (p - s) = U f (j :: js) (p - s + 1))) = [] := filter_none fun x h1 h2 => decide_eq_false (by
      have ex : x - s = j := by omega
      rw [ex, val _ hj (Int.le_refl _)]
      show ¬ min j (lft f j) = (if j + 1 ≤ j then _ else f.after j + 1 + U f js (j + 1 - j - 1))
      rw [if_neg (by omega), after_lft]
      have := U_nn (f := f) ha (js := js) (x := j + 1 - j - 1) (by omega)
      omega)
    have p4 : (iota (s + j + 1) ((szL js).toNat + rest)).filter (fun p => decide (U f (j :: js) (p - s) = U f (j :: js) (p - s + 1))) = lostL f js (s + j + 1) := by
      rw [← ih]
      refine List.filter_congr fun x hx => ?_
      obtain ⟨h1, h2⟩ := iota_mem hx
      have a1 : U f (j :: js) (x - s) = f.after j + 1 + U f js (x - (s + j + 1)) := by
        show (if x - s ≤ j then _ else f.after j + 1 + U f js (x - s - j - 1)) = _
        rw [if_neg (by omega), show x - s - j - 1 = x - (s + j + 1) by omega]
      have a2 : U f (j :: js) (x - s + 1) = f.after j + 1 + U f js (x - (s + j + 1) + 1) := by
        show (if x - s + 1 ≤ j then _ else f.after j + 1 + U f js (x - s + 1 - j - 1)) = _
        rw [if_neg (by omega), show x - s + 1 - j - 1 = x - (s + j + 1) + 1 by omega]
      rw [a1, a2]
      by_cases c : U f js (x - (s + j + 1)) = U f js (x - (s + j + 1) + 1)
      · rw [decide_eq_true c, decide_eq_true (by omega)]
      · rw [decide_eq_false c, decide_eq_false (by omega)]
    rw [p1, p2, p3, p4]
    rfl
end Lw
namespace Lx
open PySem PySem.Spec L2
/-! ### a test against a written text puts a token out: what stands in its branches may replace in texts -/
def PTC (X : Cx) (e : Expr) (t : TT) : Prop :=
  ∀ (pins : List (Addr × Obj)) (s : Shared) (σ : St) (H : Hp) (Q : Bool → Hp → Prop), Inv X pins σ H s → t σ H Q → wpAny (model X.prog X.w) X.A (isTrue e X.env (eval e X.env)) (fun d s1 => 1 ≤ s1.toks ∧ TP X pins σ Q d s1) X.xe s
section
variable {X : Cx} {a c e : Expr} {ta te : TE} {tc : TT} {t u : TS} {A B : List Stmt} {x : Str} {j : Nat} {p p' pos pos' : Pos}
theorem ptc_cmp {op : CmpOp} {r : R2} (ho : OpR X (compareOp op) r) (ha : PE X a ta) (hm : behindInMarks op (.Constant (.str x) j p) = false) : PTC X (.Compare a [op] [.Constant (.str x) j p] pos) (tTest (tOp r ta (tC (.str x)))) := by
  intro pins s σ H Q I h
  refine wpAny_isTrue_Compare1 (thn (ha.run pins s σ H _ I h) fun v s1 ⟨y, H1, I1, r1, q1⟩ => Calls.Constant_str ?_) hm
  refine wpAny_mono (PySem.wpAny_toks_of (n := 1) (by show 1 ≤ s1.toks + 1; omega) (ho pins { s1 with toks := s1.toks + 1 } σ H1 y (.str x) v (.str x s1.toks) _ (I1.tok _) r1 ⟨_, rfl⟩ q1)) (fun c s3 q => ?_) fun _ _ z => z.2
  obtain ⟨hk, z, H3, I3, r3, k, e, q3⟩ := q
  subst e
  cases r3
  exact wpAny_truthy_bool ⟨hk, H3, I3, q3⟩
theorem ps_ifC (hc : PTC X c tc) (ha : PSsT X A t) (hb : PSsT X B u) : PS X (.If c A B pos) (tIfS tc t u) := by
  refine ⟨fun pins s σ H D I h => ?_⟩
  refine wpAny_If (thn (hc pins s σ H _ I h) fun d s1 q => ?_)
  obtain ⟨hk, H1, I1, q1⟩ := q
  cases d with
  | true => exact ha pins s1 σ H1 D hk I1 q1
  | false => exact hb pins s1 σ H1 D hk I1 q1
theorem pst_set {i : Nat} {y : Str} (hN : X.N.Nodup) (hi : X.N[i]? = some y) (hx : Loc X.env.scope y) (he : PET X e te) (hs : swapsWith e (some (.Name y pos')) pos.line X.env = pure false := by rfl) (hf : X.fn y = true ∨ X.env.scope.names.lookup y = some .local := by first | exact .inl rfl | exact .inr rfl | assumption) :
    PST X (.Assign [.Name y pos'] e pos) (tAsg te (gName i)) := by
  intro pins s σ H D h0 I h
  refine wpAny_Assign_Name (thn (he pins s σ H _ h0 I h) fun v s1 ⟨y, H1, I1, r1, q1⟩ => ?_) hs
  exact store_ok I1 hN hi hx r1 (fun s2 I2 => ⟨_, H1, I2, q1⟩) hf
end
/-! ### steps on texts -/
open PySem.StrLaws
def stepT (c : Nat) (l : List Nat) : List Nat := if c = 85 then replL [10] [94, 10] l else if c = 68 then replL [94, 10] [10] l else if c = 77 then replL [94] [10] l else replL [10] [94] l
def doneT (l cs : List Nat) : List Nat := cs.foldl (fun l c => stepT c l) l
theorem doneT_snoc (l cs : List Nat) (c : Nat) : doneT l (cs ++ [c]) = stepT c (doneT l cs) := by
  unfold doneT
  rw [List.foldl_append]
  rfl
theorem replS_len {y z : List Nat} (hz : z.length ≤ 2) : ∀ (l : List Nat) (s : Nat), (replS y z s l).length ≤ 2 * l.length
  | [], s => by cases s <;> simp [replS]
  | c :: r, 0 => by
    rw [replS]
    split
    · have := replS_len (y := y) hz r (y.length - 1)
      rw [List.length_append, List.length_cons]
      omega
    · have := replS_len (y := y) hz r 0
      rw [List.length_cons, List.length_cons]
      omega
  | c :: r, s + 1 => by
    rw [replS]
    have := replS_len (y := y) hz r s
    rw [List.length_cons]
    omega
theorem stepT_len (c : Nat) (l : List Nat) : (stepT c l).length ≤ 2 * l.length := by
  unfold stepT
  split
  · exact replS_len (by decide) l 0
  · split
    · exact replS_len (by decide) l 0
    · split <;> exact replS_len (by decide) l 0
theorem doneT_len (l : List Nat) : ∀ (k : Nat) (cs : List Nat), cs.length = k → (doneT l cs).length ≤ l.length * 2 ^ k
  | 0, cs, h => by
    rw [List.length_eq_zero_iff.mp h]
    show l.length ≤ l.length * 2 ^ 0
    omega
  | k + 1, cs, h => by
    rcases List.eq_nil_or_concat cs with rfl | ⟨ds, c, rfl⟩
    · cases h
    · have e : ds.length = k := by simpa using h
      rw [List.concat_eq_append, doneT_snoc, Nat.pow_succ]
      have h1 := stepT_len c (doneT l ds)
      have h2 := doneT_len l k ds e
      generalize 2 ^ k = m at h2 ⊢
      rw [← Nat.mul_assoc]
      omega
/-- the text of groups with these numbers of ^, and a rest -/
def up (n : Nat) : List Nat := List.replicate n 94
def spT (rows : List Nat) (rest : Nat) : List Nat := rows.flatMap (fun j => up j ++ [10]) ++ up rest
def unT (rows : List Nat) (rest : Nat) : Nat := rows.sum + rows.length + rest
theorem up_succ (n : Nat) : up (n + 1) = 94 :: up n := rfl
theorem spT_cons (j : Nat) (rows : List Nat) (rest : Nat) : spT (j :: rows) rest = up j ++ 10 :: spT rows rest := by
  unfold spT
  rw [List.flatMap_cons, List.append_assoc, List.append_assoc]
  rfl
theorem spT_len : ∀ (rows : List Nat) (rest : Nat), (spT rows rest).length = unT rows rest
  | [], rest => by simp [spT, unT, up]
  | j :: rows, rest => by
    have ih := spT_len rows rest
    rw [spT_cons, List.length_append, List.length_cons, ih]
    simp only [unT, up, List.length_replicate, List.sum_cons, List.length_cons]
    omega
/- U -/
theorem u_up (r : List Nat) : ∀ j, replL [10] [94, 10] (up j ++ r) = up j ++ replL [10] [94, 10] r
  | 0 => rfl
  | j + 1 => by
    rw [up_succ, List.cons_append, replL_miss (by simp), u_up r j]
    rfl
theorem up_snoc (j : Nat) (r : List Nat) : up j ++ 94 :: r = up (j + 1) ++ r := by
  unfold up
  rw [List.replicate_succ', List.append_assoc]
  rfl
theorem stepU : ∀ (rows : List Nat) (rest : Nat), replL [10] [94, 10] (spT rows rest) = spT (rows.map (· + 1)) rest
  | [], rest => by
    have := u_up [] rest
    rw [replL_nil, List.append_nil] at this
    simpa [spT] using this
  | j :: rows, rest => by
    rw [spT_cons, u_up, replL_hit (by simp) (by simp), List.map_cons, spT_cons]
    have ih := stepU rows rest
    show up j ++ ([94, 10] ++ replL [10] [94, 10] (spT rows rest)) = _
    rw [ih]
    exact up_snoc j _
/- D -/
theorem d_up : ∀ (j : Nat) (r : List Nat), replL [94, 10] [10] (up j ++ 10 :: r) = up (j - 1) ++ 10 :: replL [94, 10] [10] r
  | 0, r => by
    show replL [94, 10] [10] (10 :: r) = _
    rw [replL_miss (by simp)]
    rfl
  | 1, r => by
    show replL [94, 10] [10] (94 :: 10 :: r) = _
    rw [replL_hit (by simp) (by simp)]
    rfl
  | j + 2, r => by
    rw [up_succ, List.cons_append, replL_miss (by simp [up_succ]), d_up (j + 1) r]
    rfl
theorem d_rest : ∀ (n : Nat), replL [94, 10] [10] (up n) = up n
  | 0 => replL_nil
  | 1 => by
    show replL [94, 10] [10] [94] = [94]
    rw [replL_miss (by simp), replL_nil]
  | n + 2 => by
    rw [up_succ, replL_miss (by simp [up_succ]), d_rest (n + 1)]
theorem stepD : ∀ (rows : List Nat) (rest : Nat), replL [94, 10] [10] (spT rows rest) = spT (rows.map (· - 1)) rest
  | [], rest => by simpa [spT] using d_rest rest
  | j :: rows, rest => by rw [spT_cons, d_up, stepD rows rest, List.map_cons, spT_cons]
/- M, N -/
theorem m_up (r : List Nat) : ∀ j, replL [94] [10] (up j ++ r) = List.replicate j 10 ++ replL [94] [10] r
  | 0 => rfl
  | j + 1 => by
    rw [up_succ, List.cons_append, replL_hit (by simp) (by simp)]
    show [10] ++ replL [94] [10] (up j ++ r) = _
    rw [m_up r j]
    rfl
theorem m_all : ∀ (rows : List Nat) (rest : Nat), replL [94] [10] (spT rows rest) = List.replicate (unT rows rest) 10
  | [], rest => by
    have := m_up [] rest
    rw [replL_nil, List.append_nil] at this
    rw [List.append_nil] at this
    simpa [spT, unT] using this
  | j :: rows, rest => by
    rw [spT_cons, m_up, replL_miss (by simp), m_all rows rest]
    have e : unT (j :: rows) rest = j + (1 + unT rows rest) := by simp only [unT, List.sum_cons, List.length_cons]; omega
    rw [e, ← List.replicate_append_replicate, ← List.replicate_append_replicate (n := 1)]
    rfl
theorem spT_zeros : ∀ n, spT (List.replicate n 0) 0 = List.replicate n 10
  | 0 => rfl
  | n + 1 => by
    rw [List.replicate_succ, spT_cons, spT_zeros n]
    rfl
theorem stepM (rows : List Nat) (rest : Nat) : replL [94] [10] (spT rows rest) = spT (List.replicate (unT rows rest) 0) 0 := by rw [m_all, spT_zeros]
theorem n_up (r : List Nat) : ∀ j, replL [10] [94] (up j ++ r) = up j ++ replL [10] [94] r
  | 0 => rfl
  | j + 1 => by
    rw [up_succ, List.cons_append, replL_miss (by simp), n_up r j]
    rfl
theorem stepN : ∀ (rows : List Nat) (rest : Nat), replL [10] [94] (spT rows rest) = spT [] (unT rows rest)
  | [], rest => by
    have := n_up [] rest
    rw [replL_nil, List.append_nil] at this
    simpa [spT, unT] using this
  | j :: rows, rest => by
    have ih := stepN rows rest
    rw [spT_cons, n_up, replL_hit (by simp) (by simp)]
    show up j ++ ([94] ++ replL [10] [94] (spT rows rest)) = _
    rw [ih]
    have e : unT (j :: rows) rest = j + (1 + unT rows rest) := by simp only [unT, List.sum_cons, List.length_cons]; omega
    show up j ++ ([94] ++ up (unT rows rest)) = up (unT (j :: rows) rest)
    rw [e]
    unfold up
    rw [← List.replicate_append_replicate, ← List.replicate_append_replicate (n := 1)]
    rfl
/-! ### what a form makes of groups -/
/-- told by natural numbers -/
def sdRows (b a : Nat) (rows : List Nat) : List Nat := rows.map (fun j => (j - b) + a)
def saidT (f : Fm) (rows : List Nat) (rest : Nat) : List Nat := match f with
  | .keep b a => spT (sdRows b.toNat a.toNat rows) rest
  | .lf b a k c => spT (List.replicate (k.toNat * unT (sdRows b.toNat a.toNat rows) rest) c.toNat) 0
  | .cr b a k => spT [] (k.toNat * unT (sdRows b.toNat a.toNat rows) rest)
theorem unT_rep : ∀ (n c r : Nat), unT (List.replicate n c) r = n * (c + 1) + r
  | 0, c, r => by simp [unT]
  | n + 1, c, r => by
    have ih := unT_rep n c r
    rw [List.replicate_succ]
    have e : unT (c :: List.replicate n c) r = (c + 1) + unT (List.replicate n c) r := by simp only [unT, List.sum_cons, List.length_cons]; omega
    rw [e, ih, Nat.succ_mul]
    omega
theorem sd_up (b a : Nat) (rows : List Nat) : sdRows b (a + 1) rows = (sdRows b a rows).map (· + 1) := by
  unfold sdRows
  rw [List.map_map]
  exact List.map_congr_left fun j _ => by show j - b + (a + 1) = (j - b + a) + 1; omega
theorem sd_dn (b a : Nat) (rows : List Nat) : sdRows b a rows = (sdRows b (a + 1) rows).map (· - 1) := by
  unfold sdRows
  rw [List.map_map]
  exact List.map_congr_left fun j _ => by show j - b + a = (j - b + (a + 1)) - 1; omega
theorem sd_dn0 (b : Nat) (rows : List Nat) : sdRows (b + 1) 0 rows = (sdRows b 0 rows).map (· - 1) := by
  unfold sdRows
  rw [List.map_map]
  exact List.map_congr_left fun j _ => by show j - (b + 1) + 0 = (j - b + 0) - 1; omega
theorem sd_0 (rows : List Nat) : sdRows 0 0 rows = rows := by
  unfold sdRows
  exact (List.map_congr_left fun j _ => by show j - 0 + 0 = id j; show _ = j; omega).trans (List.map_id rows)
theorem natF {n : Nat} {f : Fm} (h : f.Ok n) : (∃ b a : Nat, f = .keep b a) ∨ (∃ b a k c : Nat, f = .lf b a k c) ∨ (∃ b a k : Nat, f = .cr b a k) := by
  cases f with
  | keep b a =>
    obtain ⟨b', rfl⟩ := Int.eq_ofNat_of_zero_le h.1
    obtain ⟨a', rfl⟩ := Int.eq_ofNat_of_zero_le h.2.1
    exact .inl ⟨_, _, rfl⟩
  | lf b a k c =>
    obtain ⟨b', rfl⟩ := Int.eq_ofNat_of_zero_le h.1
    obtain ⟨a', rfl⟩ := Int.eq_ofNat_of_zero_le h.2.1
    obtain ⟨k', rfl⟩ := Int.eq_ofNat_of_zero_le (Int.le_of_lt h.2.2.1)
    obtain ⟨c', rfl⟩ := Int.eq_ofNat_of_zero_le h.2.2.2.1
    exact .inr (.inl ⟨_, _, _, _, rfl⟩)
  | cr b a k =>
    obtain ⟨b', rfl⟩ := Int.eq_ofNat_of_zero_le h.1
    obtain ⟨a', rfl⟩ := Int.eq_ofNat_of_zero_le h.2.1
    obtain ⟨k', rfl⟩ := Int.eq_ofNat_of_zero_le (Int.le_of_lt h.2.2.1)
    exact .inr (.inr ⟨_, _, _, rfl⟩)
theorem mul1 (k c : Nat) : ((k : Int) * ((c : Int) + 1) * 1) = ((k * (c + 1) : Nat) : Int) := by
  rw [Int.mul_one, Int.natCast_mul]
  rfl
theorem af0 (c : Nat) (k : Int) (c' : Int) : Fm.after (.lf 0 0 k c') c = c := by
  unfold Fm.after Fm.b Fm.a
  dsimp only
  split <;> omega
theorem af0c (c : Nat) (k : Int) : Fm.after (.cr 0 0 k) c = c := by
  unfold Fm.after Fm.b Fm.a
  dsimp only
  split <;> omega
end Lx
namespace Lw
open PySem PySem.Spec L2 Lx
open PySem.StrLaws
theorem said_step {n : Nat} {f : Fm} (h : f.Ok n) {c : Nat} (hc : c ∈ steps.cps.toList) (rows : List Nat) (rest : Nat) : saidT (f.both (stepF c)) rows rest = stepT c (saidT f rows rest) := by
  have hc4 : c = 85 ∨ c = 68 ∨ c = 77 ∨ c = 78 := by
    have : c ∈ ([85, 68, 77, 78] : List Nat) := hc
    simpa using this
  rcases natF h with ⟨b, a, rfl⟩ | ⟨b, a, k, d, rfl⟩ | ⟨b, a, k, rfl⟩
  · rcases hc4 with rfl | rfl | rfl | rfl
    · have e : (Fm.keep b a).both (stepF 85) = .keep b ((a + 1 : Nat) : Int) := by
        show Fm.keep ((b : Int) + (if (0 : Int) - a > 0 then (0 : Int) - a else 0)) ((if (a : Int) - 0 > 0 then (a : Int) - 0 else 0) + 1) = _
        congr 1 <;> split <;> omega
      rw [e]
      show spT (sdRows (b : Int).toNat ((a + 1 : Nat) : Int).toNat rows) rest = replL [10] [94, 10] (spT (sdRows (b : Int).toNat (a : Int).toNat rows) rest)
      rw [Int.toNat_natCast, Int.toNat_natCast, Int.toNat_natCast, stepU, sd_up]
    · cases a with
      | zero =>
        have e : (Fm.keep b ((0 : Nat) : Int)).both (stepF 68) = .keep ((b + 1 : Nat) : Int) ((0 : Nat) : Int) := by
          show Fm.keep ((b : Int) + (if (1 : Int) - ((0 : Nat) : Int) > 0 then (1 : Int) - ((0 : Nat) : Int) else 0)) ((if ((0 : Nat) : Int) - 1 > 0 then ((0 : Nat) : Int) - 1 else 0) + 0) = _
          congr 1 <;> split <;> omega
        rw [e]
        show spT (sdRows ((b + 1 : Nat) : Int).toNat ((0 : Nat) : Int).toNat rows) rest = replL [94, 10] [10] (spT (sdRows (b : Int).toNat ((0 : Nat) : Int).toNat rows) rest)
        rw [Int.toNat_natCast, Int.toNat_natCast, Int.toNat_natCast, stepD, sd_dn0]
      | succ a =>
        have e : (Fm.keep b ((a + 1 : Nat) : Int)).both (stepF 68) = .keep b a := by
          show Fm.keep ((b : Int) + (if (1 : Int) - ((a + 1 : Nat) : Int) > 0 then (1 : Int) - ((a + 1 : Nat) : Int) else 0)) ((if ((a + 1 : Nat) : Int) - 1 > 0 then ((a + 1 : Nat) : Int) - 1 else 0) + 0) = _
          congr 1 <;> split <;> omega
        rw [e]
        show spT (sdRows (b : Int).toNat (a : Int).toNat rows) rest = replL [94, 10] [10] (spT (sdRows (b : Int).toNat ((a + 1 : Nat) : Int).toNat rows) rest)
        rw [Int.toNat_natCast, Int.toNat_natCast, Int.toNat_natCast, stepD, ← sd_dn]
    · have e : (Fm.keep b a).both (stepF 77) = .lf b a ((1 : Nat) : Int) ((0 : Nat) : Int) := by
        show Fm.lf ((b : Int) + (if (0 : Int) - a > 0 then (0 : Int) - a else 0)) ((if (a : Int) - 0 > 0 then (a : Int) - 0 else 0) + 0) 1 0 = _
        congr 1 <;> split <;> omega
      rw [e]
      show spT (List.replicate (((1 : Nat) : Int).toNat * unT (sdRows (b : Int).toNat (a : Int).toNat rows) rest) ((0 : Nat) : Int).toNat) 0 = replL [94] [10] (spT (sdRows (b : Int).toNat (a : Int).toNat rows) rest)
      rw [Int.toNat_natCast, Int.toNat_natCast, Int.toNat_natCast, Int.toNat_natCast, stepM, Nat.one_mul]
    · have e : (Fm.keep b a).both (stepF 78) = .cr b a ((1 : Nat) : Int) := by
        show Fm.cr ((b : Int) + (if (0 : Int) - a > 0 then (0 : Int) - a else 0)) ((if (a : Int) - 0 > 0 then (a : Int) - 0 else 0) + 0) 1 = _
        congr 1 <;> split <;> omega
      rw [e]
      show spT [] (((1 : Nat) : Int).toNat * unT (sdRows (b : Int).toNat (a : Int).toNat rows) rest) = replL [10] [94] (spT (sdRows (b : Int).toNat (a : Int).toNat rows) rest)
      rw [Int.toNat_natCast, Int.toNat_natCast, Int.toNat_natCast, stepN, Nat.one_mul]
  · rcases hc4 with rfl | rfl | rfl | rfl
    · have e : (Fm.lf b a k d).both (stepF 85) = .lf b a k ((d + 1 : Nat) : Int) := by
        show Fm.lf b a k ((if (d : Int) - 0 > 0 then (d : Int) - 0 else 0) + 1) = _
        congr 1 <;> split <;> omega
      rw [e]
      show spT (List.replicate ((k : Int).toNat * unT (sdRows (b : Int).toNat (a : Int).toNat rows) rest) ((d + 1 : Nat) : Int).toNat) 0 = replL [10] [94, 10] (spT (List.replicate ((k : Int).toNat * unT (sdRows (b : Int).toNat (a : Int).toNat rows) rest) (d : Int).toNat) 0)
      rw [stepU, List.map_replicate]
      simp only [Int.toNat_natCast]
    · have e : (Fm.lf b a k d).both (stepF 68) = .lf b a k ((d - 1 : Nat) : Int) := by
        show Fm.lf b a k ((if (d : Int) - 1 > 0 then (d : Int) - 1 else 0) + 0) = _
        congr 1 <;> split <;> omega
      rw [e]
      show spT (List.replicate ((k : Int).toNat * unT (sdRows (b : Int).toNat (a : Int).toNat rows) rest) ((d - 1 : Nat) : Int).toNat) 0 = replL [94, 10] [10] (spT (List.replicate ((k : Int).toNat * unT (sdRows (b : Int).toNat (a : Int).toNat rows) rest) (d : Int).toNat) 0)
      rw [stepD, List.map_replicate]
      simp only [Int.toNat_natCast]
    · have e : (Fm.lf b a k d).both (stepF 77) = .lf b a ((k * (d + 1) : Nat) : Int) ((0 : Nat) : Int) := by
        show Fm.lf b a ((k : Int) * (Fm.after (.lf 0 0 1 0) d + 1) * 1) 0 = _
        rw [af0, mul1]
        rfl
      rw [e]
      show spT (List.replicate (((k * (d + 1) : Nat) : Int).toNat * unT (sdRows (b : Int).toNat (a : Int).toNat rows) rest) ((0 : Nat) : Int).toNat) 0 = replL [94] [10] (spT (List.replicate ((k : Int).toNat * unT (sdRows (b : Int).toNat (a : Int).toNat rows) rest) (d : Int).toNat) 0)
      rw [stepM, unT_rep]
      simp only [Int.toNat_natCast, Nat.add_zero]
      rw [Nat.mul_right_comm]
    · have e : (Fm.lf b a k d).both (stepF 78) = .cr b a ((k * (d + 1) : Nat) : Int) := by
        show Fm.cr b a ((k : Int) * (Fm.after (.cr 0 0 1) d + 1) * 1) = _
        rw [af0c, mul1]
      rw [e]
      show spT [] (((k * (d + 1) : Nat) : Int).toNat * unT (sdRows (b : Int).toNat (a : Int).toNat rows) rest) = replL [10] [94] (spT (List.replicate ((k : Int).toNat * unT (sdRows (b : Int).toNat (a : Int).toNat rows) rest) (d : Int).toNat) 0)
      rw [stepN, unT_rep]
      simp only [Int.toNat_natCast, Nat.add_zero]
      rw [Nat.mul_right_comm]
  · have un0 : ∀ n, unT [] n = n := fun n => by simp [unT]
    rcases hc4 with rfl | rfl | rfl | rfl
    · show spT [] _ = replL [10] [94, 10] (spT [] _)
      rw [stepU]
      rfl
    · show spT [] _ = replL [94, 10] [10] (spT [] _)
      rw [stepD]
      rfl
    · have e : (Fm.cr b a k).both (stepF 77) = .lf b a k ((0 : Nat) : Int) := by
        show Fm.lf b a ((k : Int) * 1 * 1) 0 = _
        rw [Int.mul_one, Int.mul_one]
        rfl
      rw [e]
      show spT (List.replicate ((k : Int).toNat * unT (sdRows (b : Int).toNat (a : Int).toNat rows) rest) ((0 : Nat) : Int).toNat) 0 = replL [94] [10] (spT [] ((k : Int).toNat * unT (sdRows (b : Int).toNat (a : Int).toNat rows) rest))
      rw [stepM, un0]
      rfl
    · have e : (Fm.cr b a k).both (stepF 78) = .cr b a k := by
        show Fm.cr b a ((k : Int) * 1 * 1) = _
        rw [Int.mul_one, Int.mul_one]
      rw [e]
      show spT [] ((k : Int).toNat * unT (sdRows (b : Int).toNat (a : Int).toNat rows) rest) = replL [10] [94] (spT [] ((k : Int).toNat * unT (sdRows (b : Int).toNat (a : Int).toNat rows) rest))
      rw [stepN, un0]
theorem said_done (rows : List Nat) (rest : Nat) : ∀ (k : Nat) (cs : List Nat), cs.length = k → k ≤ 60 → (∀ c ∈ cs, c ∈ steps.cps.toList) → saidT (formL cs) rows rest = doneT (spT rows rest) cs
  | 0, cs, h, _, _ => by
    rw [List.length_eq_zero_iff.mp h]
    show spT (sdRows 0 0 rows) rest = spT rows rest
    rw [sd_0]
  | k + 1, cs, h, hk, hc => by
    rcases List.eq_nil_or_concat cs with rfl | ⟨ds, c, rfl⟩
    · cases h
    · have e : ds.length = k := by simpa using h
      rw [List.concat_eq_append] at hc ⊢
      have hd : ∀ c ∈ ds, c ∈ steps.cps.toList := fun c h => hc c (List.mem_append_left _ h)
      rw [formL_snoc, doneT_snoc, ← said_done rows rest k ds e (by omega) hd]
      exact said_step (formL_fls k ds e (by omega) hd).ok (hc c (by simp)) rows rest
/-! ### cutting such a text at its breaks -/
theorem spT_join : ∀ (rows : List Nat) (rest : Nat), spT rows rest = TL.joinL [10] (rows.map up ++ [up rest])
  | [], rest => rfl
  | j :: rows, rest => by
    rw [spT_cons, spT_join rows rest]
    cases rows with
    | nil => rfl
    | cons a r => rfl
theorem spT_cut (rows : List Nat) (rest : Nat) : TL.spl [10] 0 [] (spT rows rest) = rows.map up ++ [up rest] := by
  rw [spT_join]
  refine TL.spl_join (by simp) fun p hp => ?_
  have hu : ∀ n, (10 : Nat) ∉ up n := fun n h => by
    have := (List.mem_replicate.mp h).2
    omega
  rcases List.mem_append.mp hp with h | h
  · obtain ⟨n, _, rfl⟩ := List.mem_map.mp h
    exact hu n
  · rw [List.mem_singleton.mp h]
    exact hu _
/-- every text of ^ and breaks is one -/
theorem spT_of : ∀ l : List Nat, (∀ c ∈ l, c = 94 ∨ c = 10) → ∃ rows rest, l = spT rows rest
  | [], _ => ⟨[], 0, rfl⟩
  | c :: l, h => by
    obtain ⟨rows, rest, rfl⟩ := spT_of l fun d hd => h d (List.mem_cons_of_mem _ hd)
    rcases h c List.mem_cons_self with rfl | rfl
    · cases rows with
      | nil => exact ⟨[], rest + 1, rfl⟩
      | cons j rows => exact ⟨(j + 1) :: rows, rest, by rw [spT_cons, spT_cons]; rfl⟩
    · exact ⟨0 :: rows, rest, by rw [spT_cons]; rfl⟩
end Lw
/-! three runs between letters tell a form -/
namespace Lw
open PySem PySem.Spec L2 Lx
open PySem.StrLaws
/-- a letter that is no sign of a break -/
abbrev Sep (e : Nat) : Prop := e ≠ 94 ∧ e ≠ 10
theorem repl1_sep {y e : Nat} {z : List Nat} (he : e ≠ y) (r : List Nat) : ∀ l, replL [y] z (l ++ e :: r) = replL [y] z l ++ e :: replL [y] z r
  | [] => by
    rw [replL_nil]
    show replL [y] z (e :: r) = e :: replL [y] z r
    exact replL_miss (by simpa using he)
  | c :: l => by
    have ih := repl1_sep (z := z) he r l
    by_cases h : c = y
    · subst h
      rw [List.cons_append, replL_hit (by simp) (by simp), replL_hit (by simp) (by simp)]
      show z ++ replL [c] z (l ++ e :: r) = z ++ replL [c] z l ++ _
      rw [ih, List.append_assoc]
    · rw [List.cons_append, replL_miss (by simpa using h), replL_miss (by simpa using h), ih]
      rfl
theorem repl2_sep {e : Nat} (he : Sep e) (r : List Nat) : ∀ (n : Nat) (l : List Nat), l.length ≤ n → replL [94, 10] [10] (l ++ e :: r) = replL [94, 10] [10] l ++ e :: replL [94, 10] [10] r
  | _, [], _ => by
    rw [replL_nil]
    show replL [94, 10] [10] (e :: r) = e :: replL [94, 10] [10] r
    exact replL_miss (by
      intro h
      have h1 : ([94, 10] : List Nat).length = 2 := rfl
      cases r with
      | nil => simp at h
      | cons a r => simp at h; exact he.1 h.1)
  | 0, c :: l, h => by simp at h
  | n + 1, [c], _ => by
    have m1 : replL [94, 10] [10] [c] = [c] := by rw [replL_miss (by simp), replL_nil]
    have m0 : replL [94, 10] [10] (e :: r) = e :: replL [94, 10] [10] r := repl2_sep he r 0 [] (Nat.le_refl _)
    rw [m1]
    show replL [94, 10] [10] (c :: e :: r) = _
    rw [replL_miss (by simp; intro _; exact he.2), m0]
    rfl
  | n + 1, c :: d :: l, h => by
    by_cases hh : c = 94 ∧ d = 10
    · obtain ⟨rfl, rfl⟩ := hh
      have ih := repl2_sep he r n l (by simp at h; omega)
      rw [List.cons_append, List.cons_append, replL_hit (by simp) (by simp), replL_hit (by simp) (by simp)]
      show [10] ++ replL [94, 10] [10] (l ++ e :: r) = [10] ++ replL [94, 10] [10] l ++ _
      rw [ih, List.append_assoc]
    · have ih := repl2_sep he r n (d :: l) (by simp at h ⊢; omega)
      rw [List.cons_append, replL_miss (by simp; intro h1 h2; exact hh ⟨h1, h2⟩), replL_miss (by simp; intro h1 h2; exact hh ⟨h1, h2⟩), ih]
      rfl
theorem stepT_sep {e : Nat} (he : Sep e) (c : Nat) (l r : List Nat) : stepT c (l ++ e :: r) = stepT c l ++ e :: stepT c r := by
  unfold stepT
  split
  · exact repl1_sep he.2 r l
  · split
    · exact repl2_sep he r _ l (Nat.le_refl _)
    · split
      · exact repl1_sep he.1 r l
      · exact repl1_sep he.2 r l
theorem doneT_sep {e : Nat} (he : Sep e) (cs : List Nat) : ∀ l r : List Nat, doneT (l ++ e :: r) cs = doneT l cs ++ e :: doneT r cs := by
  induction cs with
  | nil => exact fun _ _ => rfl
  | cons c cs ih =>
    intro l r
    show doneT (stepT c (l ++ e :: r)) cs = doneT (stepT c l) cs ++ e :: doneT (stepT c r) cs
    rw [stepT_sep he, ih]
theorem doneT_nil : ∀ cs : List Nat, doneT [] cs = []
  | [] => rfl
  | c :: cs => by
    have : stepT c [] = [] := by
      unfold stepT
      split
      · exact replL_nil
      · split
        · exact replL_nil
        · split <;> exact replL_nil
    show doneT (stepT c []) cs = []
    rw [this, doneT_nil cs]
/-- the text of three runs between letters -/
def tst (n : Nat) : List Nat := 97 :: (spT [] 1 ++ 98 :: (spT [0] 0 ++ 99 :: (spT [n] 0 ++ [100])))
theorem tst_done (n : Nat) (cs : List Nat) : doneT (tst n) cs = 97 :: (doneT (spT [] 1) cs ++ 98 :: (doneT (spT [0] 0) cs ++ 99 :: (doneT (spT [n] 0) cs ++ [100]))) := by
  have h1 : doneT (tst n) cs = doneT [] cs ++ 97 :: doneT (spT [] 1 ++ 98 :: (spT [0] 0 ++ 99 :: (spT [n] 0 ++ [100]))) cs := doneT_sep (by decide) cs [] _
  rw [h1, doneT_nil, doneT_sep (by decide), doneT_sep (by decide)]
  have h2 : doneT (spT [n] 0 ++ [100]) cs = doneT (spT [n] 0) cs ++ 100 :: doneT [] cs := doneT_sep (by decide) cs _ []
  rw [h2, doneT_nil]
  rfl
theorem sep_cut {e : Nat} : ∀ {a a' r r' : List Nat}, e ∉ a → e ∉ a' → a ++ e :: r = a' ++ e :: r' → a = a' ∧ r = r'
  | [], [], r, r', _, _, h => ⟨rfl, (List.cons.inj h).2⟩
  | [], c :: a', r, r', _, h2, h => absurd ((List.cons.inj h).1 ▸ List.mem_cons_self) h2
  | c :: a, [], r, r', h1, _, h => absurd ((List.cons.inj h).1 ▸ List.mem_cons_self) h1
  | c :: a, d :: a', r, r', h1, h2, h => by
    obtain ⟨e1, e2⟩ := List.cons.inj h
    obtain ⟨i1, i2⟩ := sep_cut (fun z => h1 (List.mem_cons_of_mem _ z)) (fun z => h2 (List.mem_cons_of_mem _ z)) e2
    exact ⟨by rw [e1, i1], i2⟩
theorem spT_mem {rows : List Nat} {rest e : Nat} (he : Sep e) : e ∉ spT rows rest := by
  intro h
  have up' : ∀ n, e ∉ up n := fun n h => he.1 (List.mem_replicate.mp h).2
  rcases List.mem_append.mp h with h | h
  · obtain ⟨j, _, h⟩ := List.mem_flatMap.mp h
    rcases List.mem_append.mp h with h | h
    · exact up' _ h
    · exact he.2 (List.mem_singleton.mp h)
  · exact up' _ h
theorem up_inj {a b : Nat} (h : up a = up b) : a = b := by
  have := congrArg List.length h
  simpa [up] using this
theorem map_up_inj : ∀ {a b : List Nat}, a.map up = b.map up → a = b
  | [], [], _ => rfl
  | [], _ :: _, h => by simp at h
  | _ :: _, [], h => by simp at h
  | x :: a, y :: b, h => by
    rw [List.map_cons, List.map_cons] at h
    obtain ⟨h1, h2⟩ := List.cons.inj h
    rw [up_inj h1, map_up_inj h2]
theorem spT_inj {rows rows' : List Nat} {rest rest' : Nat} (h : spT rows rest = spT rows' rest') : rows = rows' ∧ rest = rest' := by
  have h1 := congrArg (TL.spl [10] 0 []) h
  rw [spT_cut, spT_cut] at h1
  have h2 : ([rows ++ [rest]].flatten).map up = ([rows' ++ [rest']].flatten).map up := by simpa using h1
  have h3 := map_up_inj h2
  have h4 : rows ++ [rest] = rows' ++ [rest'] := by simpa using h3
  have := List.append_inj' h4 rfl
  exact ⟨this.1, (List.cons.inj this.2).1⟩
theorem mul_inj {k a b : Nat} (hk : 0 < k) (h : k * a = k * b) : a = b := Nat.eq_of_mul_eq_mul_left hk h
theorem rep_inj {k k' c c' : Nat} (hk : 0 < k) (h : List.replicate k c = List.replicate k' c') : k = k' ∧ c = c' := by
  have h1 := congrArg List.length h
  rw [List.length_replicate, List.length_replicate] at h1
  subst h1
  cases k with
  | zero => cases hk
  | succ k =>
    rw [List.replicate_succ, List.replicate_succ] at h
    exact ⟨rfl, (List.cons.inj h).1⟩
/-- what a form makes of the three runs -/
theorem said_keep (b a n : Nat) : saidT (.keep b a) [] 1 = spT [] 1 ∧ saidT (.keep b a) [0] 0 = spT [a] 0 ∧ saidT (.keep b a) [n] 0 = spT [n - b + a] 0 := by
  refine ⟨rfl, ?_, ?_⟩
  · show spT [0 - (b : Int).toNat + (a : Int).toNat] 0 = _
    rw [Int.toNat_natCast, Int.toNat_natCast, Nat.zero_sub, Nat.zero_add]
  · show spT [n - (b : Int).toNat + (a : Int).toNat] 0 = _
    rw [Int.toNat_natCast, Int.toNat_natCast]
theorem unT_one (j : Nat) : unT [j] 0 = j + 1 := by simp [unT]
theorem said_lf (b a k c n : Nat) : saidT (.lf b a k c) [] 1 = spT (List.replicate (k * 1) c) 0 ∧ saidT (.lf b a k c) [0] 0 = spT (List.replicate (k * (a + 1)) c) 0 ∧ saidT (.lf b a k c) [n] 0 = spT (List.replicate (k * (n - b + a + 1)) c) 0 := by
  refine ⟨?_, ?_, ?_⟩
  · show spT (List.replicate ((k : Int).toNat * unT [] 1) (c : Int).toNat) 0 = _
    rw [Int.toNat_natCast, Int.toNat_natCast]
    rfl
  · show spT (List.replicate ((k : Int).toNat * unT [0 - (b : Int).toNat + (a : Int).toNat] 0) (c : Int).toNat) 0 = _
    rw [Int.toNat_natCast, Int.toNat_natCast, Int.toNat_natCast, Int.toNat_natCast, Nat.zero_sub, Nat.zero_add, unT_one]
  · show spT (List.replicate ((k : Int).toNat * unT [n - (b : Int).toNat + (a : Int).toNat] 0) (c : Int).toNat) 0 = _
    rw [Int.toNat_natCast, Int.toNat_natCast, Int.toNat_natCast, Int.toNat_natCast, unT_one]
theorem said_cr (b a k n : Nat) : saidT (.cr b a k) [] 1 = spT [] (k * 1) ∧ saidT (.cr b a k) [0] 0 = spT [] (k * (a + 1)) ∧ saidT (.cr b a k) [n] 0 = spT [] (k * (n - b + a + 1)) := by
  refine ⟨?_, ?_, ?_⟩
  · show spT [] ((k : Int).toNat * unT [] 1) = _
    rw [Int.toNat_natCast]
    rfl
  · show spT [] ((k : Int).toNat * unT [0 - (b : Int).toNat + (a : Int).toNat] 0) = _
    rw [Int.toNat_natCast, Int.toNat_natCast, Int.toNat_natCast, Nat.zero_sub, Nat.zero_add, unT_one]
  · show spT [] ((k : Int).toNat * unT [n - (b : Int).toNat + (a : Int).toNat] 0) = _
    rw [Int.toNat_natCast, Int.toNat_natCast, Int.toNat_natCast, unT_one]
theorem said_tell {m : Nat} {f g : Fm} (hf : f.Ok m) (hg : g.Ok m) {n : Nat} (bf : f.b ≤ n) (bg : g.b ≤ n)
    (h1 : saidT f [] 1 = saidT g [] 1) (h2 : saidT f [0] 0 = saidT g [0] 0) (h3 : saidT f [n] 0 = saidT g [n] 0) : f = g := by
  rcases natF hf with ⟨b, a, rfl⟩ | ⟨b, a, k, c, rfl⟩ | ⟨b, a, k, rfl⟩ <;> rcases natF hg with ⟨b', a', rfl⟩ | ⟨b', a', k', c', rfl⟩ | ⟨b', a', k', rfl⟩
  · obtain ⟨-, e2, e3⟩ := said_keep b a n
    obtain ⟨-, e2', e3'⟩ := said_keep b' a' n
    rw [e2, e2'] at h2
    rw [e3, e3'] at h3
    have q2 := (List.cons.inj (spT_inj h2).1).1
    have q3 := (List.cons.inj (spT_inj h3).1).1
    have p1 : (b : Int) ≤ n := bf
    have p2 : (b' : Int) ≤ n := bg
    have : b = b' := by omega
    rw [this, q2]
  · obtain ⟨e1, -, -⟩ := said_keep b a n
    obtain ⟨e1', -, -⟩ := said_lf b' a' k' c' n
    rw [e1, e1'] at h1
    have := (spT_inj h1).2
    omega
  · obtain ⟨-, e2, -⟩ := said_keep b a n
    obtain ⟨-, e2', -⟩ := said_cr b' a' k' n
    rw [e2, e2'] at h2
    cases (spT_inj h2).1
  · obtain ⟨e1, -, -⟩ := said_lf b a k c n
    obtain ⟨e1', -, -⟩ := said_keep b' a' n
    rw [e1, e1'] at h1
    have := (spT_inj h1).2
    omega
  · obtain ⟨e1, e2, e3⟩ := said_lf b a k c n
    obtain ⟨e1', e2', e3'⟩ := said_lf b' a' k' c' n
    rw [e1, e1'] at h1
    rw [e2, e2'] at h2
    rw [e3, e3'] at h3
    have hk : 0 < k := by have := hf.2.2.1; omega
    obtain ⟨q1, qc⟩ := rep_inj (by omega) (spT_inj h1).1
    have qk : k = k' := by omega
    subst qk
    have q2 := (rep_inj (Nat.mul_pos hk (Nat.succ_pos _)) (spT_inj h2).1).1
    have q3 := (rep_inj (Nat.mul_pos hk (Nat.succ_pos _)) (spT_inj h3).1).1
    have qa := mul_inj hk q2
    have qb := mul_inj hk q3
    have p1 : (b : Int) ≤ n := bf
    have p2 : (b' : Int) ≤ n := bg
    have ea : a = a' := by omega
    have eb : b = b' := by omega
    rw [ea, eb, qc]
  · obtain ⟨e1, -, -⟩ := said_lf b a k c n
    obtain ⟨e1', -, -⟩ := said_cr b' a' k' n
    rw [e1, e1'] at h1
    have hk : 0 < k' := by have := hg.2.2.1; omega
    have := (spT_inj h1).2
    omega
  · obtain ⟨-, e2, -⟩ := said_cr b a k n
    obtain ⟨-, e2', -⟩ := said_keep b' a' n
    rw [e2, e2'] at h2
    cases (spT_inj h2).1
  · obtain ⟨e1, -, -⟩ := said_cr b a k n
    obtain ⟨e1', -, -⟩ := said_lf b' a' k' c' n
    rw [e1, e1'] at h1
    have hk : 0 < k := by have := hf.2.2.1; omega
    have := (spT_inj h1).2
    omega
  · obtain ⟨e1, e2, e3⟩ := said_cr b a k n
    obtain ⟨e1', e2', e3'⟩ := said_cr b' a' k' n
    rw [e1, e1'] at h1
    rw [e2, e2'] at h2
    rw [e3, e3'] at h3
    have hk : 0 < k := by have := hf.2.2.1; omega
    have qk : k = k' := by have := (spT_inj h1).2; omega
    subst qk
    have qa := mul_inj hk (spT_inj h2).2
    have qb := mul_inj hk (spT_inj h3).2
    have p1 : (b : Int) ≤ n := bf
    have p2 : (b' : Int) ≤ n := bg
    have ea : a = a' := by omega
    have eb : b = b' := by omega
    rw [ea, eb]
end Lw
namespace Lw
open PySem PySem.Spec L2 Lx
/-! ### equal data -/
theorem pd_eqv : ∀ (a b : List (Int × Int)), PyData.eqvAll (pd a) (pd b) = decide (a = b)
  | [], [] => rfl
  | [], _ :: _ => rfl
  | _ :: _, [] => rfl
  | x :: xs, y :: ys => by
    have ih := pd_eqv xs ys
    unfold pd at ih ⊢
    simp only [List.map_cons, PyData.eqvAll, PyData.eqv, Bool.and_true, ih]
    obtain ⟨x1, x2⟩ := x
    obtain ⟨y1, y2⟩ := y
    by_cases h1 : x1 = y1 <;> by_cases h2 : x2 = y2 <;> by_cases h3 : xs = ys <;> simp [h1, h2, h3]
theorem rd_eqv (a b : List (Int × Int) × Int) : PyData.eqv (rd a) (rd b) = decide (a = b) := by
  have h := pd_eqv a.1 b.1
  unfold rd
  simp only [PyData.eqv, PyData.eqvAll, h, Bool.and_true]
  obtain ⟨a1, a2⟩ := a
  obtain ⟨b1, b2⟩ := b
  by_cases h1 : a1 = b1 <;> by_cases h2 : a2 = b2 <;> simp [h1, h2]
theorem fm_dp {K : PySem.W.Frag} {H : Hp} {x : V} {f : Fm} : FmAt K H x f → Dp K H x (fdt f) := fun ⟨p, e, h⟩ => by
  subst e
  cases f with
  | keep b a => exact .tup h (.cons (.str _) (.cons (.int _) (.cons (.int _) .nil)))
  | lf b a k c => exact .tup h (.cons (.str _) (.cons (.int _) (.cons (.int _) (.cons (.int _) (.cons (.int _) .nil)))))
  | cr b a k => exact .tup h (.cons (.str _) (.cons (.int _) (.cons (.int _) (.cons (.int _) .nil))))
theorem fdt_shaped (f : Fm) : SeqAt.shaped (fdt f) = true := by
  cases f <;> (unfold SeqAt.shaped fdt; simp [PyData.canLay0, PyData.canLayAll0, PyData.depth, PyData.depthAll]; decide +kernel)
theorem fdt_eqv (f g : Fm) : PyData.eqv (fdt f) (fdt g) = true ↔ f = g := by
  cases f <;> cases g <;> simp [fdt, PyData.eqv, PyData.eqvAll] <;> decide
/-! ### runs in a list -/
inductive Rns (K : PySem.W.Frag) (H : Hp) : List V → List (List (Int × Int) × Int) → Prop
  | nil : Rns K H [] []
  | cons {v : V} {vs : List V} {r : List (Int × Int) × Int} {rs : List (List (Int × Int) × Int)} : (∃ l, RnS K H v l r) → Rns K H vs rs → Rns K H (v :: vs) (r :: rs)
theorem Rns.same {K : PySem.W.Frag} {H H' : Hp} (s : Same H H') : ∀ {vs rs}, Rns K H vs rs → Rns K H' vs rs
  | _, _, .nil => .nil
  | _, _, .cons ⟨l, h⟩ t => .cons ⟨l, h.same s⟩ (t.same s)
theorem Rns.len {K : PySem.W.Frag} {H : Hp} : ∀ {vs rs}, Rns K H vs rs → vs.length = rs.length
  | _, _, .nil => rfl
  | _, _, .cons _ t => by rw [List.length_cons, List.length_cons, t.len]
theorem Rns.get {K : PySem.W.Frag} {H : Hp} : ∀ {vs rs}, Rns K H vs rs → ∀ {i : Nat} {v : V}, vs[i]? = some v → ∃ r l, rs[i]? = some r ∧ RnS K H v l r
  | _, _, .nil, i, v, h => by simp at h
  | _, _, .cons ⟨l, h1⟩ t, 0, v, h => by
    have e := Option.some.inj h
    subst e
    exact ⟨_, l, rfl, h1⟩
  | _, _, .cons h1 t, i + 1, v, h => t.get (i := i) h
theorem Rns.append {K : PySem.W.Frag} {H : Hp} : ∀ {vs ws rs qs}, Rns K H vs rs → Rns K H ws qs → Rns K H (vs ++ ws) (rs ++ qs)
  | _, _, _, _, .nil, h => h
  | _, _, _, _, .cons a t, h => .cons a (t.append h)
/-! ### forms that do the same twice -/
def sizesOf (f : Fm) : List Int := [0, 1, f.b, f.a, f.b + f.a, 2 * f.nums.sum + 5]
def tests (f : Fm) : List (List (Int × Int) × Int) := [([], 1), ([], 3)] ++ (sizesOf f).map fun j => ([(1, j)], 0)
theorem tests_ok {n : Nat} {f : Fm} (h : f.Ok n) : ∀ r ∈ tests f, RnOk (n + 10) r := by
  have hb := h.b0
  have ha := h.a0
  have one : ∀ z : Int, 0 ≤ z → z ≤ 5 → Sm (n + 10) z := fun z h0 h1 => Nat.lt_of_lt_of_le (show z.natAbs < 2 ^ 10 by
    have : (2 : Nat) ^ 10 = 1024 := by decide
    omega) (Nat.pow_le_pow_right (by decide) (by omega))
  have hs : 0 ≤ f.nums.sum ∧ Sm (n + 3) f.nums.sum := by
    have pw : 2 ^ (n + 3) = 2 ^ n * 8 := Nat.pow_add 2 n 3
    cases f with
    | keep b a =>
      obtain ⟨h1, h2, h3, h4⟩ := h
      unfold Sm at *
      simp only [Fm.nums, List.sum_cons, List.sum_nil]
      rw [pw]
      generalize 2 ^ n = M at *
      omega
    | lf b a k c =>
      obtain ⟨h1, h2, h3, h4, h5, h6, h7, h8⟩ := h
      unfold Sm at *
      simp only [Fm.nums, List.sum_cons, List.sum_nil]
      rw [pw]
      generalize 2 ^ n = M at *
      omega
    | cr b a k =>
      obtain ⟨h1, h2, h3, h4, h5, h6⟩ := h
      unfold Sm at *
      simp only [Fm.nums, List.sum_cons, List.sum_nil]
      rw [pw]
      generalize 2 ^ n = M at *
      omega
  have r0 : ∀ e : Int, 0 ≤ e → e ≤ 5 → RnOk (n + 10) ([], e) := fun e e0 e1 => ⟨fun i x hx => by simp at hx, ⟨e0, one e e0 e1⟩, Nat.zero_le _⟩
  have r1 : ∀ j : Int, 0 ≤ j → Sm (n + 10) j → RnOk (n + 10) ([(1, j)], 0) := fun j j0 j1 => ⟨gsok_snoc (gs := []) (fun i x hx => by simp at hx) (fun a y e => by simp at e) ⟨by show (1 : Int) ≤ 1; decide, j0, one 1 (by decide) (by decide), j1⟩, ⟨(by decide : (0 : Int) ≤ 0), one 0 (by decide) (by decide)⟩, by show 1 ≤ 1000; decide⟩
  have m : ∀ {z : Int} {k : Nat}, k ≤ n + 10 → Sm k z → Sm (n + 10) z := fun h1 h2 => h2.mono h1
  have pw4 : Sm (n + 10) (2 * f.nums.sum + 5) := by
    have e : 2 ^ (n + 10) = 2 ^ (n + 3) * 128 := by rw [show n + 10 = (n + 3) + 7 from rfl, Nat.pow_add]
    have e1 : 1 ≤ 2 ^ (n + 3) := Nat.one_le_two_pow
    have h1 := hs.2
    unfold Sm at *
    rw [e]
    generalize 2 ^ (n + 3) = M at *
    omega
  intro r hr
  have hr' : r ∈ [([], 1), ([], 3), ([(1, 0)], 0), ([(1, 1)], 0), ([(1, f.b)], 0), ([(1, f.a)], 0), ([(1, f.b + f.a)], 0), ([(1, 2 * f.nums.sum + 5)], (0 : Int))] := hr
  simp only [List.mem_cons, List.not_mem_nil, or_false] at hr'
  rcases hr' with rfl | rfl | rfl | rfl | rfl | rfl | rfl | rfl
  · exact r0 1 (by decide) (by decide)
  · exact r0 3 (by decide) (by decide)
  · exact r1 0 (by decide) (one 0 (by decide) (by decide))
  · exact r1 1 (by decide) (one 1 (by decide) (by decide))
  · exact r1 _ hb.1 (m (by omega) hb.2)
  · exact r1 _ ha.1 (m (by omega) ha.2)
  · exact r1 _ (by omega) (m (by omega) (hb.2.add ha.2))
  · exact r1 _ (by have := hs.1; omega) pw4
theorem sum_ge {n : Nat} {f : Fm} (h : f.Ok n) : f.b ≤ f.nums.sum := by
  cases f with
  | keep b a =>
    obtain ⟨h1, h2, _⟩ := h
    simp only [Fm.nums, List.sum_cons, List.sum_nil, Fm.b]
    omega
  | lf b a k c =>
    obtain ⟨h1, h2, h3, h4, _⟩ := h
    simp only [Fm.nums, List.sum_cons, List.sum_nil, Fm.b]
    omega
  | cr b a k =>
    obtain ⟨h1, h2, h3, _⟩ := h
    simp only [Fm.nums, List.sum_cons, List.sum_nil, Fm.b]
    omega
theorem run1 (b a j : Int) : runAfter ([(1, j)], 0) (.keep b a) = ([(1, (Fm.keep b a).after j)], 0) := rfl
theorem twice {n : Nat} {f : Fm} (h : f.Ok n) : f.both f = f ↔ ∀ r ∈ tests f, runAfter (runAfter r f) f = runAfter r f := by
  constructor
  · intro e r _
    rw [runAfter_both, e]
  · intro ht
    have t1 := ht ([], 1) (by unfold tests; simp)
    rw [runAfter_both] at t1
    cases f with
    | keep b a =>
      have one : ∀ j : Int, (([(1, j)], 0) : List (Int × Int) × Int) ∈ tests (.keep b a) → ((Fm.keep b a).both (.keep b a)).after j = (Fm.keep b a).after j := fun j hj => by
        have e := ht _ hj
        rw [runAfter_both] at e
        have eb : (Fm.keep b a).both (.keep b a) = .keep (b + if b - a > 0 then b - a else 0) ((if a - b > 0 then a - b else 0) + a) := rfl
        rw [eb] at e ⊢
        rw [run1, run1] at e
        injection e with e1 e2
        injection e1 with e3 e4
        injection e3
      have s1 := one 0 (by unfold tests sizesOf; simp)
      have s2 := one (2 * (Fm.keep b a).nums.sum + 5) (by unfold tests sizesOf; simp)
      have hs := sum_ge h
      obtain ⟨b0, a0, _, _⟩ := h
      have p1 := pp (b - a)
      have p2 := pp (a - b)
      simp only [Fm.both, Fm.ahead, Fm.after, Fm.b, Fm.a, Fm.nums, List.sum_cons, List.sum_nil] at s1 s2 hs ⊢
      generalize (if b - a > 0 then b - a else 0) = A at *
      generalize (if a - b > 0 then a - b else 0) = B at *
      have p3 := pp (0 - (b + A))
      have p4 := pp (0 - b)
      have p5 := pp (2 * (b + (a + 0)) + 5 - (b + A))
      have p6 := pp (2 * (b + (a + 0)) + 5 - b)
      congr 1 <;> omega
    | lf b a k c =>
      obtain ⟨b0, a0, k0, c0, _⟩ := h
      have u0 : 0 ≤ (Fm.lf b a k c).after c := by
        have := pp (c - b)
        show 0 ≤ (if c - b > 0 then c - b else 0) + a
        omega
      have kk : 0 < k * ((Fm.lf b a k c).after c + 1) * k := Int.mul_pos (Int.mul_pos k0 (by omega)) k0
      have un : ∀ g : Fm, units ([], 1) g = 1 := fun g => units_none 1 g
      have e1 : runAfter ([], 1) (.lf b a k c) = ([(k, c)], 0) := by
        show (if k * units ([], 1) (.lf b a k c) = 0 then (([] : List (Int × Int)), (0 : Int)) else ([(k * units ([], 1) (.lf b a k c), c)], 0)) = _
        rw [un, Int.mul_one, if_neg (by omega)]
      have e2 : runAfter ([], 1) ((Fm.lf b a k c).both (.lf b a k c)) = ([(k * ((Fm.lf b a k c).after c + 1) * k, c)], 0) := by
        show (if (k * ((Fm.lf b a k c).after c + 1) * k) * units ([], 1) (.lf b a (k * ((Fm.lf b a k c).after c + 1) * k) c) = 0 then (([] : List (Int × Int)), (0 : Int)) else ([((k * ((Fm.lf b a k c).after c + 1) * k) * units ([], 1) (.lf b a (k * ((Fm.lf b a k c).after c + 1) * k) c), c)], 0)) = _
        rw [un, Int.mul_one, if_neg (by omega)]
      rw [e1, e2] at t1
      injection t1 with t2 t3
      injection t2 with t4 t5
      injection t4 with t6 t7
      show Fm.lf b a (k * ((Fm.lf b a k c).after c + 1) * k) c = _
      rw [t6]
    | cr b a k =>
      have un : ∀ g : Fm, units ([], 1) g = 1 := fun g => units_none 1 g
      have t2 : (([] : List (Int × Int)), (k * 1 * k) * units ([], 1) (.cr b a (k * 1 * k))) = ([], k * units ([], 1) (.cr b a k)) := t1
      rw [un, un, Int.mul_one, Int.mul_one k] at t2
      injection t2 with t3 t4
      show Fm.cr b a (k * 1 * k) = _
      rw [Int.mul_one, t4]
end Lw
namespace Lw
open PySem PySem.Spec L2 Lx
/-! ### the runs of a text -/
abbrev Rn := List (Int × Int) × Int
/-- the run with these groups, one by one, and a rest -/
def rnT (rows : List Nat) (rest : Nat) : Rn := (Lx.merged (rows.map fun n : Nat => ((1 : Int), (n : Int))), (rest : Int))
def spc (c : Nat) : Nat := if c = 94 ∨ c = 10 then c else 32
def rowsOf (l : List Nat) : List Nat := ((TL.spl [10] 0 [] l).dropLast).map List.length
def restOf (l : List Nat) : Nat := ((TL.spl [10] 0 [] l).getLast?.getD []).length
theorem rowsOf_spT (rows : List Nat) (rest : Nat) : rowsOf (spT rows rest) = rows := by
  unfold rowsOf
  rw [spT_cut, List.dropLast_concat, List.map_map]
  have : (List.length ∘ up) = id := funext fun n => by simp [up]
  rw [this, List.map_id]
theorem restOf_spT (rows : List Nat) (rest : Nat) : restOf (spT rows rest) = rest := by
  unfold restOf
  rw [spT_cut, List.getLast?_concat]
  simp [up]
/-- the run of a text of signs alone -/
def rpT (l : List Nat) : Rn := rnT (rowsOf l) (restOf l)
theorem rpT_spT (rows : List Nat) (rest : Nat) : rpT (spT rows rest) = rnT rows rest := by
  unfold rpT
  rw [rowsOf_spT, restOf_spT]
def piecesT (l : List Nat) : List (List Nat) := (TL.spl [32] 0 [] (l.map spc)).filter fun p => !p.isEmpty
def runsT (l : List Nat) : List Rn := (piecesT l).map rpT
def Signs (l : List Nat) : Prop := ∀ c ∈ l, c = 94 ∨ c = 10
theorem spT_signs (rows : List Nat) (rest : Nat) : Signs (spT rows rest) := fun c hc => by
  unfold spT at hc
  rcases List.mem_append.mp hc with h | h
  · obtain ⟨j, _, h⟩ := List.mem_flatMap.mp h
    rcases List.mem_append.mp h with h | h
    · exact .inl (List.mem_replicate.mp h).2
    · exact .inr (List.mem_singleton.mp h)
  · exact .inl (List.mem_replicate.mp h).2
theorem map_spc {l : List Nat} (h : Signs l) : l.map spc = l := by
  induction l with
  | nil => rfl
  | cons c l ih =>
    rw [List.map_cons, ih fun d hd => h d (List.mem_cons_of_mem _ hd)]
    unfold spc
    rw [if_pos (h c (List.mem_cons_self ..))]
theorem not32 {l : List Nat} (h : Signs l) : 32 ∉ l := fun z => by rcases h 32 z with e | e <;> cases e
theorem spl32 {l : List Nat} (h : Signs l) {e : Nat} (he : Sep e) (r : List Nat) : TL.spl [32] 0 [] ((l ++ e :: r).map spc) = l :: TL.spl [32] 0 [] (r.map spc) := by
  have e1 : spc e = 32 := by
    unfold spc
    rw [if_neg (by rcases he with ⟨a, b⟩; omega)]
  rw [List.map_append, List.map_cons, map_spc h, e1]
  have := TL.spl_part1 (s := 32) (S := []) (p := l) (rest := r.map spc) (acc := []) (not32 h)
  rw [List.nil_append] at this
  exact this
theorem spl32_last {l : List Nat} (h : Signs l) : TL.spl [32] 0 [] (l.map spc) = [l] := by
  rw [map_spc h]
  have := TL.spl_last1 (s := 32) (S := []) (p := l) (acc := []) (not32 h)
  rw [List.nil_append] at this
  exact this
theorem pieces_cons {l : List Nat} (h : Signs l) {e : Nat} (he : Sep e) (r : List Nat) : piecesT (l ++ e :: r) = (if l = [] then [] else [l]) ++ piecesT r := by
  unfold piecesT
  rw [spl32 h he]
  cases l with
  | nil => rfl
  | cons c l => rfl
theorem pieces_last {l : List Nat} (h : Signs l) : piecesT l = if l = [] then [] else [l] := by
  unfold piecesT
  rw [spl32_last h]
  cases l with
  | nil => rfl
  | cons c l => rfl
/-- a text is runs between other letters -/
theorem cut_text : ∀ l : List Nat, ∃ a : List Nat, Signs a ∧ (l = a ∨ ∃ e r, Sep e ∧ l = a ++ e :: r ∧ r.length < l.length)
  | [] => ⟨[], (fun c h => by cases h), .inl rfl⟩
  | c :: l => by
    by_cases h : c = 94 ∨ c = 10
    · obtain ⟨a, ha, h2⟩ := cut_text l
      refine ⟨c :: a, fun d hd => ?_, ?_⟩
      · rcases List.mem_cons.mp hd with rfl | hd
        · exact h
        · exact ha d hd
      · rcases h2 with rfl | ⟨e, r, he, rfl, hl⟩
        · exact .inl rfl
        · exact .inr ⟨e, r, he, rfl, by rw [List.length_cons]; omega⟩
    · exact ⟨[], (fun d hd => by cases hd), .inr ⟨c, l, ⟨fun z => h (.inl z), fun z => h (.inr z)⟩, rfl, by rw [List.length_cons]; omega⟩⟩
theorem piece_ok : ∀ (n : Nat) (l : List Nat), l.length ≤ n → ∀ p ∈ piecesT l, Signs p ∧ p ≠ [] ∧ p.length ≤ l.length
  | n, l, hn, p, hp => by
    obtain ⟨a, ha, h | ⟨e, r, he, h, hl⟩⟩ := cut_text l
    · rw [h] at hp ⊢
      rw [pieces_last ha] at hp
      by_cases c : a = []
      · rw [if_pos c] at hp; cases hp
      · rw [if_neg c] at hp
        rw [List.mem_singleton.mp hp]
        exact ⟨ha, c, Nat.le_refl _⟩
    · cases n with
      | zero => omega
      | succ n =>
        have ih := piece_ok n r (by omega)
        rw [h, pieces_cons ha he] at hp
        have hle : l.length = a.length + (r.length + 1) := by rw [h, List.length_append, List.length_cons]
        rcases List.mem_append.mp hp with hp | hp
        · by_cases c : a = []
          · rw [if_pos c] at hp; cases hp
          · rw [if_neg c] at hp
            rw [List.mem_singleton.mp hp]
            exact ⟨ha, c, by omega⟩
        · obtain ⟨h1, h2, h3⟩ := ih p hp
          exact ⟨h1, h2, by omega⟩
theorem spl_len (S : List Nat) : ∀ (l : List Nat) (k : Nat) (acc : List Nat), (TL.spl S k acc l).length ≤ l.length + 1
  | [], k, acc => by rw [TL.spl_nil]; simp
  | c :: l, 0, acc => by
    by_cases h : TL.pre S (c :: l) = true
    · rw [TL.spl_hit h, List.length_cons, List.length_cons]
      have := spl_len S l (S.length - 1) []
      omega
    · rw [TL.spl_miss (by simpa using h), List.length_cons]
      have := spl_len S l 0 (acc ++ [c])
      omega
  | c :: l, k + 1, acc => by
    show (TL.spl S k acc l).length ≤ _
    rw [List.length_cons]
    have := spl_len S l k acc
    omega
theorem rows_small {rows : List Nat} {rest : Nat} : rows.length ≤ (spT rows rest).length ∧ rest ≤ (spT rows rest).length ∧ ∀ n ∈ rows, n ≤ (spT rows rest).length := by
  have ms : ∀ {l : List Nat} {n : Nat}, n ∈ l → n ≤ l.sum := fun {l n} h => by
    induction l with
    | nil => cases h
    | cons a l ih =>
      rw [List.sum_cons]
      rcases List.mem_cons.mp h with rfl | h
      · omega
      · have := ih h
        omega
  rw [spT_len]
  unfold unT
  exact ⟨by omega, by omega, fun n h => by have := ms h; omega⟩
/-- the truth of e, K said outright -/
def tTruK (K : PySem.W.Frag) (ta : TE) : L2.TT := fun σ H Q => ta σ H fun x H' => ∃ k, TruV K x H' k ∧ Q k H'
theorem pt_truthK {X : Cx} {K : PySem.W.Frag} {a : Expr} {ta : TE} (hK : X.K = K) (ha : PE X a ta) (he : ∀ whole, isTrue a X.env whole = (do let v ← whole; standAt a.pos; holding [v] (truthy v))) :
    PT X a (tTruK K ta) := by
  subst hK
  exact pt_truth ha he
/-! ### lists of runs, a list apart -/
inductive RnsD (K : PySem.W.Frag) (H : Hp) (D : Addr) : List V → List Rn → Prop
  | nil : RnsD K H D [] []
  | cons {v : V} {vs : List V} {r : Rn} {rs : List Rn} : (∃ l, l ≠ D ∧ RnS K H v l r) → RnsD K H D vs rs → RnsD K H D (v :: vs) (r :: rs)
theorem RnsD.same {K : PySem.W.Frag} {H H' : Hp} {D : Addr} (s : Same H H') : ∀ {vs rs}, RnsD K H D vs rs → RnsD K H' D vs rs
  | _, _, .nil => .nil
  | _, _, .cons ⟨l, n, h⟩ t => .cons ⟨l, n, h.same s⟩ (t.same s)
theorem RnsD.lstUpd {K : PySem.W.Frag} {H : Hp} {D : Addr} {ys : List V} {o : HO} (e : H D = some (.lst ys)) : ∀ {vs rs}, RnsD K H D vs rs → RnsD K (upd H D o) D vs rs
  | _, _, .nil => .nil
  | _, _, .cons ⟨l, n, h⟩ t => .cons ⟨l, n, h.upd e n⟩ (RnsD.lstUpd e t)
theorem RnsD.append {K : PySem.W.Frag} {H : Hp} {D : Addr} : ∀ {vs ws rs qs}, RnsD K H D vs rs → RnsD K H D ws qs → RnsD K H D (vs ++ ws) (rs ++ qs)
  | _, _, _, _, .nil, h => h
  | _, _, _, _, .cons a t, h => .cons a (t.append h)
theorem RnsD.rns {K : PySem.W.Frag} {H : Hp} {D : Addr} : ∀ {vs rs}, RnsD K H D vs rs → Rns K H vs rs
  | _, _, .nil => .nil
  | _, _, .cons ⟨l, _, h⟩ t => .cons ⟨l, h⟩ t.rns
theorem RnsD.len {K : PySem.W.Frag} {H : Hp} {D : Addr} {vs rs} (h : RnsD K H D vs rs) : vs.length = rs.length := h.rns.len
end Lw
/-! a run written as a text -/
namespace Lw
open PySem PySem.Spec L2 Lx
def splT (r : List (Int × Int) × Int) : List Nat := (r.1.flatMap fun x => (List.replicate x.1.toNat (Lx.up x.2.toNat ++ [10])).flatten) ++ Lx.up r.2.toNat
def splOk (r : List (Int × Int) × Int) : Prop := (∀ x ∈ r.1, 1 ≤ x.1 ∧ 0 ≤ x.2) ∧ 0 ≤ r.2
def rowT (x : Int × Int) : Str := rep (rep "^" x.2.toNat ++ "\n") x.1.toNat
theorem repUp (n : Nat) : (rep "^" n).cps.toList = Lx.up n := by
  rw [rep_list]
  show (List.replicate n [94]).flatten = _
  induction n with
  | zero => rfl
  | succ n ih =>
    rw [List.replicate_succ, List.flatten_cons, ih]
    rfl
theorem rowT_list (x : Int × Int) : (rowT x).cps.toList = (List.replicate x.1.toNat (Lx.up x.2.toNat ++ [10])).flatten := by
  unfold rowT
  rw [rep_list, show (rep "^" x.2.toNat ++ "\n" : Str).cps.toList = (rep "^" x.2.toNat).cps.toList ++ ("\n" : Str).cps.toList from Array.toList_append .., repUp]
  rfl
theorem row_len (x : Int × Int) (h : 0 ≤ x.2) (h1 : 0 ≤ x.1) : (((List.replicate x.1.toNat (Lx.up x.2.toNat ++ [10])).flatten).length : Int) = x.1 * (x.2 + 1) := by
  have e1 : (Lx.up x.2.toNat ++ [10]).length = x.2.toNat + 1 := by
    rw [List.length_append]
    show (List.replicate _ _).length + 1 = _
    rw [List.length_replicate]
  have e2 : (List.replicate x.1.toNat (Lx.up x.2.toNat ++ [10])).flatten.length = x.1.toNat * (x.2.toNat + 1) := by
    generalize x.1.toNat = m
    induction m with
    | zero => simp
    | succ m ih2 => rw [List.replicate_succ, List.flatten_cons, List.length_append, ih2, e1, Nat.succ_mul]; omega
  rw [e2, Int.natCast_mul, Int.natCast_add, Int.toNat_of_nonneg h1, Int.toNat_of_nonneg h]
  rfl
theorem rows_len : ∀ gs : List (Int × Int), (∀ x ∈ gs, 1 ≤ x.1 ∧ 0 ≤ x.2) → ((gs.flatMap fun x => (List.replicate x.1.toNat (Lx.up x.2.toNat ++ [10])).flatten).length : Int) = total gs
  | [], _ => rfl
  | g :: gs, h => by
    obtain ⟨g1, g2⟩ := h g List.mem_cons_self
    have ih := rows_len gs fun x hx => h x (List.mem_cons_of_mem _ hx)
    unfold total at ih ⊢
    rw [List.flatMap_cons, List.length_append, Int.natCast_add, ih, List.map_cons, List.sum_cons, row_len g g2 (by omega)]
theorem splT_len {r : List (Int × Int) × Int} (h : splOk r) : ((splT r).length : Int) = total r.1 + r.2 := by
  unfold splT
  rw [List.length_append, Int.natCast_add, rows_len _ h.1]
  congr 1
  show ((List.replicate _ _).length : Int) = _
  rw [List.length_replicate, Int.toNat_of_nonneg h.2]
theorem up_signs (n : Nat) : Signs (Lx.up n) := fun c hc => .inl (List.mem_replicate.mp hc).2
theorem splT_signs (r : List (Int × Int) × Int) : Signs (splT r) := fun c hc => by
  unfold splT at hc
  rcases List.mem_append.mp hc with h | h
  · obtain ⟨x, _, h⟩ := List.mem_flatMap.mp h
    obtain ⟨l, hl, h⟩ := List.mem_flatten.mp h
    rw [(List.mem_replicate.mp hl).2] at h
    rcases List.mem_append.mp h with h | h
    · exact up_signs _ c h
    · exact .inr (List.mem_singleton.mp h)
  · exact up_signs _ c h
theorem row_le {gs : List (Int × Int)} {x : Int × Int} (h : x ∈ gs) : ((List.replicate x.1.toNat (Lx.up x.2.toNat ++ [10])).flatten).length ≤ (gs.flatMap fun x => (List.replicate x.1.toNat (Lx.up x.2.toNat ++ [10])).flatten).length := by
  induction gs with
  | nil => cases h
  | cons g gs ih =>
    rw [List.flatMap_cons, List.length_append]
    rcases List.mem_cons.mp h with rfl | h
    · omega
    · have := ih h; omega
theorem gs_le : ∀ gs : List (Int × Int), (∀ y ∈ gs, 1 ≤ y.1) → gs.length ≤ (gs.flatMap fun x => (List.replicate x.1.toNat (Lx.up x.2.toNat ++ [10])).flatten).length := fun gs => by
  induction gs with
  | nil => intro _; exact Nat.le_refl _
  | cons g gs ih =>
    intro h
    have h1 := ih fun y hy => h y (List.mem_cons_of_mem _ hy)
    have h2 := h g List.mem_cons_self
    obtain ⟨n, hn⟩ : ∃ n, g.1.toNat = n + 1 := ⟨g.1.toNat - 1, by omega⟩
    rw [List.flatMap_cons, List.length_append, List.length_cons, hn, List.replicate_succ, List.flatten_cons, List.length_append, List.length_append]
    show _ ≤ _ + 1 + _ + _
    omega
theorem join_flat (ps : List Str) : (Txt.join "" ps).cps.toList = ps.flatMap fun x => x.cps.toList := by
  have jn : ∀ ps : List (List Nat), TL.joinL [] ps = ps.flatten := fun ps => by
    induction ps with
    | nil => rfl
    | cons a r ih =>
      cases r with
      | nil => show a = _; simp
      | cons b r =>
        show a ++ ([] ++ TL.joinL [] (b :: r)) = _
        rw [ih, List.nil_append]
        rfl
  rw [TL.join_eq]
  refine (TL.tl_join "" ps).trans ?_
  show TL.joinL [] _ = _
  rw [jn, List.flatMap_def]
theorem join_rows (gs : List (Int × Int)) : (Txt.join "" (gs.map rowT)).cps.toList = gs.flatMap fun x => (List.replicate x.1.toNat (Lx.up x.2.toNat ++ [10])).flatten := by
  rw [join_flat, List.flatMap_map]
  congr 1
  funext x
  exact rowT_list x
/-- the signs with their places -/
def idxS : Nat → List Nat → List (Nat × Nat)
  | _, [] => []
  | s, c :: cs => (c, s) :: idxS (s + 1) cs
theorem idxS_len : ∀ (cs : List Nat) (s : Nat), (idxS s cs).length = cs.length
  | [], _ => rfl
  | c :: cs, s => by
    show (idxS (s + 1) cs).length + 1 = _
    rw [idxS_len cs]
    rfl
theorem idxS_get : ∀ (cs : List Nat) (s i : Nat), (idxS s cs)[i]? = cs[i]?.map fun c => (c, s + i)
  | [], _, _ => rfl
  | c :: cs, s, 0 => rfl
  | c :: cs, s, i + 1 => by
    show (idxS (s + 1) cs)[i]? = (cs[i]?).map _
    rw [idxS_get cs (s + 1) i]
    congr 1
    funext d
    rw [show s + 1 + i = s + (i + 1) by omega]
theorem idxS_app : ∀ (a b : List Nat) (s : Nat), idxS s (a ++ b) = idxS s a ++ idxS (s + a.length) b
  | [], b, s => rfl
  | c :: a, b, s => by
    show (c, s) :: idxS (s + 1) (a ++ b) = (c, s) :: (idxS (s + 1) a ++ _)
    rw [idxS_app a b (s + 1), List.length_cons, show s + 1 + a.length = s + (a.length + 1) by omega]
theorem idxS_take : ∀ (cs : List Nat) (s n : Nat), (idxS s cs).take n = idxS s (cs.take n)
  | [], s, n => by cases n <;> rfl
  | c :: cs, s, 0 => rfl
  | c :: cs, s, n + 1 => by
    show (c, s) :: (idxS (s + 1) cs).take n = (c, s) :: idxS (s + 1) (cs.take n)
    rw [idxS_take cs]
theorem idxS_fst : ∀ (cs : List Nat) (s : Nat), (idxS s cs).map (·.1) = cs
  | [], _ => rfl
  | c :: cs, s => by
    show c :: (idxS (s + 1) cs).map _ = _
    rw [idxS_fst cs]
theorem idxS_up : ∀ (n s : Nat), idxS s (Lx.up n) = (List.range n).map fun i => (94, s + i)
  | 0, s => rfl
  | n + 1, s => by
    show (94, s) :: idxS (s + 1) (Lx.up n) = _
    rw [idxS_up n, List.range_succ_eq_map, List.map_cons, List.map_map]
    congr 1
    refine List.map_congr_left fun i _ => ?_
    show (94, s + 1 + i) = (94, s + (i + 1))
    rw [show s + 1 + i = s + (i + 1) by omega]
end Lw
/-! the stems of what a form makes -/
namespace Lw
open PySem PySem.Spec L2 Lx
/-- each place p as often as its part is long -/
def spread (L : Nat → Nat) (n : Nat) : List Nat := (List.range n).flatMap fun p => List.replicate (L (p + 1) - L p) p
theorem spread_succ (L : Nat → Nat) (n : Nat) : spread L (n + 1) = spread L n ++ List.replicate (L (n + 1) - L n) n := by
  unfold spread
  rw [List.range_succ, List.flatMap_append, List.flatMap_singleton]
theorem L_mono {L : Nat → Nat} (hm : ∀ n, L n ≤ L (n + 1)) : ∀ {a b : Nat}, a ≤ b → L a ≤ L b := fun {a b} h => by
  induction b with
  | zero => rw [Nat.le_zero.mp h]; exact Nat.le_refl _
  | succ b ih =>
    rcases Nat.lt_or_ge a (b + 1) with h2 | h2
    · exact Nat.le_trans (ih (by omega)) (hm b)
    · rw [show a = b + 1 by omega]; exact Nat.le_refl _
theorem spread_len {L : Nat → Nat} (h0 : L 0 = 0) (hm : ∀ n, L n ≤ L (n + 1)) : ∀ n, (spread L n).length = L n
  | 0 => h0.symm
  | n + 1 => by
    have := hm n
    rw [spread_succ, List.length_append, spread_len h0 hm n, List.length_replicate]
    omega
theorem spread_at {L : Nat → Nat} (h0 : L 0 = 0) (hm : ∀ n, L n ≤ L (n + 1)) {p x : Nat} (h1 : L p ≤ x) (h2 : x < L (p + 1)) : ∀ n, p < n → (spread L n)[x]? = some p
  | 0, h => by omega
  | n + 1, h => by
    have hl := spread_len h0 hm n
    rw [spread_succ]
    rcases Nat.lt_or_ge p n with hp | hp
    · have := L_mono hm (a := p + 1) (b := n) (by omega)
      rw [List.getElem?_append_left (by omega)]
      exact spread_at h0 hm h1 h2 n hp
    · have e : p = n := by omega
      subst e
      rw [List.getElem?_append_right (by omega), hl, List.getElem?_replicate, if_pos (by omega)]
theorem spread_find {L : Nat → Nat} (h0 : L 0 = 0) (hm : ∀ n, L n ≤ L (n + 1)) {x : Nat} : ∀ {n : Nat}, x < L n → ∃ p, p < n ∧ L p ≤ x ∧ x < L (p + 1)
  | 0, h => by omega
  | n + 1, h => by
    rcases Nat.lt_or_ge x (L n) with h1 | h1
    · obtain ⟨p, hp, h2⟩ := spread_find h0 hm h1
      exact ⟨p, by omega, h2⟩
    · exact ⟨n, by omega, h1, h⟩
theorem spread_eq {L : Nat → Nat} (h0 : L 0 = 0) (hm : ∀ n, L n ≤ L (n + 1)) {p x y n : Nat} (hn : x < L n) (hy : (spread L n)[x]? = some y) : y = p ↔ (L p ≤ x ∧ x < L (p + 1)) := by
  obtain ⟨q, hq, h1, h2⟩ := spread_find h0 hm hn
  have e := spread_at h0 hm h1 h2 n hq
  have e2 : y = q := Option.some.inj (hy.symm.trans e)
  rw [e2]
  constructor
  · rintro rfl; exact ⟨h1, h2⟩
  · rintro ⟨h3, h4⟩
    rcases Nat.lt_trichotomy q p with h | h | h
    · have := L_mono hm (a := q + 1) (b := p) (by omega); omega
    · exact h
    · have := L_mono hm (a := p + 1) (b := q) (by omega); omega
/-- the numbers of a stretch -/
theorem range_cut0 (lo hi : Nat) : ∀ n : Nat, (List.range n).filter (fun x => decide (lo ≤ x ∧ x < hi)) = List.range' lo (min hi n - lo)
  | 0 => by rw [Nat.min_zero, Nat.zero_sub]; rfl
  | n + 1 => by
    rw [List.range_succ, List.filter_append, range_cut0 lo hi n]
    by_cases h : lo ≤ n ∧ n < hi
    · rw [List.filter_cons, if_pos (decide_eq_true h), show min hi (n + 1) - lo = (min hi n - lo) + 1 by omega, List.range'_concat, show lo + 1 * (min hi n - lo) = n by omega]
      rfl
    · rw [List.filter_cons, if_neg (by rw [decide_eq_false h]; decide), show min hi (n + 1) - lo = min hi n - lo by omega]
      exact List.append_nil _
def szN : List Nat → Nat
  | [] => 0
  | j :: js => j + 1 + szN js
def uN (b a : Nat) : List Nat → Nat → Nat
  | [], x => x
  | j :: js, x => if x ≤ j then min x (j - b) else (j - b) + a + 1 + uN b a js (x - j - 1)
theorem uN_0 (b a : Nat) : ∀ js : List Nat, uN b a js 0 = 0
  | [] => rfl
  | j :: js => by
    show (if 0 ≤ j then min 0 (j - b) else _) = 0
    rw [if_pos (Nat.zero_le _), Nat.zero_min]
theorem uN_mono (b a : Nat) : ∀ (js : List Nat) (x : Nat), uN b a js x ≤ uN b a js (x + 1)
  | [], x => Nat.le_succ x
  | j :: js, x => by
    show (if x ≤ j then min x (j - b) else _) ≤ (if x + 1 ≤ j then min (x + 1) (j - b) else (j - b) + a + 1 + uN b a js (x + 1 - j - 1))
    by_cases h1 : x + 1 ≤ j
    · rw [if_pos h1, if_pos (by omega)]; omega
    · rw [if_neg h1]
      by_cases h2 : x ≤ j
      · rw [if_pos h2]; omega
      · rw [if_neg h2, show x + 1 - j - 1 = (x - j - 1) + 1 by omega]
        have := uN_mono b a js (x - j - 1)
        omega
theorem lay_stems (b a : Nat) : ∀ (js : List Nat) (s rest : Nat), (lay b a js s rest).map (·.2) = (List.range (szN js + rest)).flatMap fun p => List.replicate (uN b a js (p + 1) - uN b a js p) (s + p)
  | [], s, rest => by
    show (own s rest).map _ = (List.range (0 + rest)).flatMap fun p => List.replicate (p + 1 - p) (s + p)
    unfold own
    rw [List.map_map, Nat.zero_add, List.map_eq_flatMap]
    congr 1
    funext p
    rw [show p + 1 - p = 1 by omega]
    rfl
  | j :: js, s, rest => by
    have ih := lay_stems b a js (s + j + 1) rest
    show ((own s (j - b) ++ List.replicate a (94, s + j)) ++ (10, s + j) :: lay b a js (s + j + 1) rest : SgS).map (·.2) = (List.range ((j + 1 + szN js) + rest)).flatMap _
    rw [List.map_append, List.map_cons, ih, show (j + 1 + szN js) + rest = (j + 1) + (szN js + rest) by omega]
    clear ih
    generalize szN js + rest = n
    rw [show List.range (j + 1 + n) = List.range (j + 1) ++ (List.range n).map (fun x => j + 1 + x) from List.range_add, List.flatMap_append, List.flatMap_map, List.range_succ, List.flatMap_append, List.flatMap_singleton]
    have e1 : (List.range j).flatMap (fun p => List.replicate (uN b a (j :: js) (p + 1) - uN b a (j :: js) p) (s + p)) = (own s (j - b)).map (·.2) := by
      have e0 : List.range j = List.range (j - b) ++ (List.range (j - (j - b))).map (fun x => (j - b) + x) := by
        rw [← List.range_add, show (j - b) + (j - (j - b)) = j by omega]
      have e2 : (List.range j).flatMap (fun p => List.replicate (uN b a (j :: js) (p + 1) - uN b a (j :: js) p) (s + p)) = (List.range j).flatMap (fun p => if p < j - b then [s + p] else []) := by
        rw [List.flatMap_def, List.flatMap_def]
        congr 1
        refine List.map_congr_left fun p hp => ?_
        have hp' := List.mem_range.mp hp
        show List.replicate ((if p + 1 ≤ j then min (p + 1) (j - b) else _) - (if p ≤ j then min p (j - b) else _)) (s + p) = _
        rw [if_pos (by omega), if_pos (by omega)]
        by_cases h : p < j - b
        · rw [if_pos h, show min (p + 1) (j - b) - min p (j - b) = 1 by omega]; rfl
        · rw [if_neg h, show min (p + 1) (j - b) - min p (j - b) = 0 by omega]; rfl
      rw [e2, e0, List.flatMap_append, List.flatMap_map]
      have e3 : (List.range (j - b)).flatMap (fun p => if p < j - b then [s + p] else []) = (own s (j - b)).map (·.2) := by
        unfold own
        rw [List.map_map, List.map_eq_flatMap, List.flatMap_def, List.flatMap_def]
        congr 1
        refine List.map_congr_left fun p hp => ?_
        rw [if_pos (List.mem_range.mp hp)]
        rfl
      have e4 : (List.range (j - (j - b))).flatMap (fun p => if (j - b) + p < j - b then [s + ((j - b) + p)] else []) = [] := by
        rw [List.flatMap_eq_nil_iff]
        intro p _
        rw [if_neg (by omega)]
      rw [e3, e4, List.append_nil]
    rw [e1]
    have e5 : uN b a (j :: js) (j + 1) - uN b a (j :: js) j = a + 1 := by
      show (if j + 1 ≤ j then _ else (j - b) + a + 1 + uN b a js (j + 1 - j - 1)) - (if j ≤ j then min j (j - b) else _) = _
      rw [if_neg (by omega), if_pos (Nat.le_refl _), show j + 1 - j - 1 = 0 by omega, uN_0]
      omega
    rw [e5, List.map_append, List.map_replicate, List.replicate_succ']
    have e6 : ∀ q, uN b a (j :: js) ((j + 1) + q + 1) - uN b a (j :: js) ((j + 1) + q) = uN b a js (q + 1) - uN b a js q := fun q => by
      show (if j + 1 + q + 1 ≤ j then _ else (j - b) + a + 1 + uN b a js (j + 1 + q + 1 - j - 1)) - (if j + 1 + q ≤ j then _ else (j - b) + a + 1 + uN b a js (j + 1 + q - j - 1)) = _
      rw [if_neg (by omega), if_neg (by omega), show j + 1 + q + 1 - j - 1 = q + 1 by omega, show j + 1 + q - j - 1 = q by omega]
      omega
    simp only [List.append_assoc, List.cons_append, List.nil_append]
    congr 3
    rw [List.flatMap_def, List.flatMap_def]
    congr 1
    refine List.map_congr_left fun q _ => ?_
    rw [e6, show s + (j + 1 + q) = s + j + 1 + q by omega]
theorem rep_rep (m k p : Nat) : (List.replicate m p).flatMap (fun st => List.replicate k st) = List.replicate (k * m) p := by
  induction m with
  | zero => rfl
  | succ m ih => rw [List.replicate_succ, List.flatMap_cons, ih, Nat.mul_succ, Nat.add_comm, ← List.replicate_append_replicate]
/-- where the units of the first places end -/
def Ln (f : Fm) (js : List Nat) (p : Nat) : Nat := (width f).toNat * uN f.b.toNat f.a.toNat js p
theorem Ln_0 (f : Fm) (js : List Nat) : Ln f js 0 = 0 := by unfold Ln; rw [uN_0, Nat.mul_zero]
theorem Ln_mono (f : Fm) (js : List Nat) (n : Nat) : Ln f js n ≤ Ln f js (n + 1) := Nat.mul_le_mul_left _ (uN_mono _ _ _ _)
theorem stemsW_spread (k b a : Nat) (js : List Nat) (rest : Nat) : stemsW k (lay b a js 0 rest) = spread (fun p => k * uN b a js p) (szN js + rest) := by
  have e : stemsW k (lay b a js 0 rest) = ((lay b a js 0 rest).map (·.2)).flatMap fun st => List.replicate k st := by
    unfold stemsW
    rw [List.flatMap_map]
  rw [e, lay_stems, List.flatMap_assoc]
  unfold spread
  rw [List.flatMap_def, List.flatMap_def]
  congr 1
  refine List.map_congr_left fun p _ => ?_
  rw [rep_rep, Nat.zero_add, Nat.mul_sub]
theorem layF_stems (js : List Nat) (rest : Nat) {f : Fm} (h : FNn f) : (layF js rest f).map (·.2) = spread (Ln f js) (szN js + rest) := by
  cases f with
  | keep b a =>
    show (lay _ _ _ _ _).map _ = _
    rw [← lay_stems1, stemsW_spread]
    rfl
  | lf b a k c =>
    obtain ⟨_, _, hk, h0⟩ := h
    show (List.flatMap _ _).map _ = _
    rw [List.map_flatMap]
    have e : (fun st => (blk c.toNat st).map (·.2)) = fun st => List.replicate (c + 1).toNat st := by
      funext st
      unfold blk
      rw [List.map_append, List.map_replicate, show (c + 1).toNat = c.toNat + 1 by omega, List.replicate_succ']
      rfl
    rw [e, stems_mul, stemsW_spread, ← Int.toNat_mul hk (by omega)]
    rfl
  | cr b a k =>
    show (List.map _ _).map _ = _
    rw [List.map_map]
    show (stemsW _ _).map id = _
    rw [List.map_id, stemsW_spread]
    rfl
theorem uN_U {f : Fm} (hb : 0 ≤ f.b) (ha : 0 ≤ f.a) : ∀ (js : List Nat) (x : Nat), U f (js.map fun j : Nat => (j : Int)) (x : Int) = (uN f.b.toNat f.a.toNat js x : Nat)
  | [], x => rfl
  | j :: js, x => by
    have hl : lft f (j : Int) = ((j - f.b.toNat : Nat) : Int) := by
      unfold lft
      split <;> omega
    show (if (x : Int) ≤ (j : Int) then min (x : Int) (lft f j) else f.after j + 1 + U f (js.map fun j : Nat => (j : Int)) ((x : Int) - j - 1)) = ((if x ≤ j then min x (j - f.b.toNat) else (j - f.b.toNat) + f.a.toNat + 1 + uN f.b.toNat f.a.toNat js (x - j - 1) : Nat) : Int)
    by_cases h : x ≤ j
    · rw [if_pos h, if_pos (by omega), hl]
      omega
    · rw [if_neg h, if_neg (by omega), after_lft, hl, show (x : Int) - j - 1 = ((x - j - 1 : Nat) : Int) by omega, uN_U hb ha js (x - j - 1)]
      omega
theorem width_nn {f : Fm} (h : FNn f) : 0 ≤ width f := by
  cases f with
  | keep b a => exact Int.zero_le_ofNat 1
  | lf b a k c => exact Int.mul_nonneg h.2.2.1 (by have := h.2.2.2; omega)
  | cr b a k => exact h.2.2
theorem FNn.ba {f : Fm} (h : FNn f) : 0 ≤ f.b ∧ 0 ≤ f.a := by
  cases f with
  | keep b a => exact h
  | lf b a k c => exact ⟨h.1, h.2.1⟩
  | cr b a k => exact ⟨h.1, h.2.1⟩
theorem Ln_U {f : Fm} (h : FNn f) (js : List Nat) (x : Nat) : width f * U f (js.map fun j : Nat => (j : Int)) (x : Int) = (Ln f js x : Nat) := by
  rw [uN_U h.ba.1 h.ba.2]
  unfold Ln
  rw [Int.natCast_mul, Int.toNat_of_nonneg (width_nn h)]
theorem lay_idx : ∀ (js : List Nat) (s rest : Nat), lay 0 0 js s rest = idxS s (spT js rest)
  | [], s, rest => by
    show own s rest = idxS s (spT [] rest)
    rw [show spT [] rest = Lx.up rest from rfl, idxS_up]
    rfl
  | j :: js, s, rest => by
    have hl : (Lx.up j).length = j := List.length_replicate ..
    show (own s (j - 0) ++ List.replicate 0 (94, s + j)) ++ (10, s + j) :: lay 0 0 js (s + j + 1) rest = _
    rw [spT_cons, idxS_app, idxS_up, hl, lay_idx js (s + j + 1) rest, Nat.sub_zero, List.replicate_zero, List.append_nil]
    rfl
theorem szN_len : ∀ (js : List Nat) (rest : Nat), szN js + rest = (spT js rest).length
  | [], rest => by
    show 0 + rest = (Lx.up rest).length
    rw [Nat.zero_add]
    exact (List.length_replicate ..).symm
  | j :: js, rest => by
    have hl : (Lx.up j).length = j := List.length_replicate ..
    rw [spT_cons, List.length_append, List.length_cons, ← szN_len js rest, hl]
    show j + 1 + szN js + rest = _
    omega
end Lw
namespace Lw
open PySem PySem.Spec L2 Lx
theorem fm_dq' {K : PySem.W.Frag} {H : Hp} {x : V} {f : Fm} : FmAt K H x f → Dq K H x (fdt f) := fun ⟨p, e, h⟩ => by
  subst e
  cases f with
  | keep b a => exact .tup (SqT.tt h) h (.cons (.str _) (.cons (.int _) (.cons (.int _) .nil)))
  | lf b a k c => exact .tup (SqT.tt h) h (.cons (.str _) (.cons (.int _) (.cons (.int _) (.cons (.int _) (.cons (.int _) .nil)))))
  | cr b a k => exact .tup (SqT.tt h) h (.cons (.str _) (.cons (.int _) (.cons (.int _) (.cons (.int _) .nil))))
theorem fdt_self (f : Fm) : PyData.eqv (fdt f) (fdt f) = true := (fdt_eqv f f).mpr rfl
/-! ### joined forms -/
theorem kk_assoc (b a b' a' b'' a'' : Int) (h1 : 0 ≤ a) (h2 : 0 ≤ b') (h3 : 0 ≤ a') (h4 : 0 ≤ b'') :
    (b + (if b' - a > 0 then b' - a else 0)) + (if b'' - ((if a - b' > 0 then a - b' else 0) + a') > 0 then b'' - ((if a - b' > 0 then a - b' else 0) + a') else 0) =
      b + (if (b' + (if b'' - a' > 0 then b'' - a' else 0)) - a > 0 then (b' + (if b'' - a' > 0 then b'' - a' else 0)) - a else 0) ∧
    (if ((if a - b' > 0 then a - b' else 0) + a') - b'' > 0 then ((if a - b' > 0 then a - b' else 0) + a') - b'' else 0) + a'' =
      (if a - (b' + (if b'' - a' > 0 then b'' - a' else 0)) > 0 then a - (b' + (if b'' - a' > 0 then b'' - a' else 0)) else 0) + ((if a' - b'' > 0 then a' - b'' else 0) + a'') := by
  have p1 := pp (b' - a)
  have p2 := pp (a - b')
  have p3 := pp (b'' - a')
  have p4 := pp (a' - b'')
  generalize (if b' - a > 0 then b' - a else 0) = A at *
  generalize (if a - b' > 0 then a - b' else 0) = B at *
  generalize (if b'' - a' > 0 then b'' - a' else 0) = C at *
  generalize (if a' - b'' > 0 then a' - b'' else 0) = D at *
  have p5 := pp (b'' - (B + a'))
  have p6 := pp (B + a' - b'')
  have p7 := pp (b' + C - a)
  have p8 := pp (a - (b' + C))
  generalize (if b'' - (B + a') > 0 then b'' - (B + a') else 0) = E at *
  generalize (if B + a' - b'' > 0 then B + a' - b'' else 0) = F at *
  generalize (if b' + C - a > 0 then b' + C - a else 0) = G at *
  generalize (if a - (b' + C) > 0 then a - (b' + C) else 0) = I at *
  constructor <;> omega
theorem both_assoc {n : Nat} {f g h : Fm} (of : f.Ok n) (og : g.Ok n) (oh : h.Ok n) : (f.both g).both h = f.both (g.both h) := by
  have fa := of.a0.1
  have gb := og.b0.1
  have ga := og.a0.1
  have hb := oh.b0.1
  cases f with
  | keep b a =>
    cases g with
    | keep b' a' =>
      have e := kk_assoc b a b' a' h.b h.a fa gb ga hb
      cases h with
      | keep b'' a'' =>
        show Fm.keep _ _ = Fm.keep _ _
        exact congr (congrArg Fm.keep e.1) e.2
      | lf b'' a'' k'' c'' =>
        show Fm.lf _ _ _ _ = Fm.lf _ _ _ _
        exact congrFun (congrFun (congr (congrArg Fm.lf e.1) e.2) k'') c''
      | cr b'' a'' k'' =>
        show Fm.cr _ _ _ = Fm.cr _ _ _
        exact congrFun (congr (congrArg Fm.cr e.1) e.2) k''
    | lf b' a' k' c' => cases h <;> rfl
    | cr b' a' k' => cases h <;> rfl
  | lf b a k c =>
    cases g with
    | keep b' a' =>
      have e := after_both b' a' h c
      cases h with
      | keep b'' a'' =>
        show Fm.lf b a k _ = Fm.lf b a k _
        exact congrArg (Fm.lf b a k) e
      | lf b'' a'' k'' c'' =>
        show Fm.lf b a (k * ((Fm.lf b'' a'' k'' c'').after ((Fm.keep b' a').after c) + 1) * k'') c'' = Fm.lf b a (k * (((Fm.keep b' a').both (.lf b'' a'' k'' c'')).after c + 1) * k'') c''
        rw [e]
      | cr b'' a'' k'' =>
        show Fm.cr b a (k * ((Fm.cr b'' a'' k'').after ((Fm.keep b' a').after c) + 1) * k'') = Fm.cr b a (k * (((Fm.keep b' a').both (.cr b'' a'' k'')).after c + 1) * k'')
        rw [e]
    | lf b' a' k' c' =>
      cases h with
      | keep b'' a'' => rfl
      | lf b'' a'' k'' c'' =>
        show Fm.lf b a (k * ((Fm.lf b' a' k' c').after c + 1) * k' * ((Fm.lf b'' a'' k'' c'').after c' + 1) * k'') c'' = Fm.lf b a (k * ((Fm.lf b' a' k' c').after c + 1) * (k' * ((Fm.lf b'' a'' k'' c'').after c' + 1) * k'')) c''
        rw [← Int.mul_assoc, ← Int.mul_assoc]
      | cr b'' a'' k'' =>
        show Fm.cr b a (k * ((Fm.lf b' a' k' c').after c + 1) * k' * ((Fm.cr b'' a'' k'').after c' + 1) * k'') = Fm.cr b a (k * ((Fm.lf b' a' k' c').after c + 1) * (k' * ((Fm.cr b'' a'' k'').after c' + 1) * k''))
        rw [← Int.mul_assoc, ← Int.mul_assoc]
    | cr b' a' k' =>
      cases h with
      | keep b'' a'' => rfl
      | lf b'' a'' k'' c'' =>
        show Fm.lf b a (k * ((Fm.cr b' a' k').after c + 1) * k' * 1 * k'') c'' = Fm.lf b a (k * ((Fm.cr b' a' k').after c + 1) * (k' * 1 * k'')) c''
        rw [← Int.mul_assoc, ← Int.mul_assoc]
      | cr b'' a'' k'' =>
        show Fm.cr b a (k * ((Fm.cr b' a' k').after c + 1) * k' * 1 * k'') = Fm.cr b a (k * ((Fm.cr b' a' k').after c + 1) * (k' * 1 * k''))
        rw [← Int.mul_assoc, ← Int.mul_assoc]
  | cr b a k =>
    cases g with
    | keep b' a' =>
      cases h <;> rfl
    | lf b' a' k' c' =>
      cases h with
      | keep b'' a'' => rfl
      | lf b'' a'' k'' c'' =>
        show Fm.lf b a (k * 1 * k' * ((Fm.lf b'' a'' k'' c'').after c' + 1) * k'') c'' = Fm.lf b a (k * 1 * (k' * ((Fm.lf b'' a'' k'' c'').after c' + 1) * k'')) c''
        rw [← Int.mul_assoc, ← Int.mul_assoc]
      | cr b'' a'' k'' =>
        show Fm.cr b a (k * 1 * k' * ((Fm.cr b'' a'' k'').after c' + 1) * k'') = Fm.cr b a (k * 1 * (k' * ((Fm.cr b'' a'' k'').after c' + 1) * k''))
        rw [← Int.mul_assoc, ← Int.mul_assoc]
    | cr b' a' k' =>
      cases h with
      | keep b'' a'' => rfl
      | lf b'' a'' k'' c'' =>
        show Fm.lf b a (k * 1 * k' * 1 * k'') c'' = Fm.lf b a (k * 1 * (k' * 1 * k'')) c''
        rw [← Int.mul_assoc, ← Int.mul_assoc]
      | cr b'' a'' k'' =>
        show Fm.cr b a (k * 1 * k' * 1 * k'') = Fm.cr b a (k * 1 * (k' * 1 * k''))
        rw [← Int.mul_assoc, ← Int.mul_assoc]
theorem both_nothing {n : Nat} {f : Fm} (of : f.Ok n) : f.both nothing = f := by
  have ha := of.a0.1
  cases f with
  | keep b a =>
    have p1 := pp (0 - a)
    have p2 := pp (a - 0)
    show Fm.keep (b + (if 0 - a > 0 then 0 - a else 0)) ((if a - 0 > 0 then a - 0 else 0) + 0) = _
    have ha' : 0 ≤ a := ha
    congr 1 <;> omega
  | lf b a k c =>
    show Fm.lf b a k (nothing.after c) = _
    rw [after_nothing of.2.2.2.1]
  | cr b a k => rfl
theorem nothing_both {n : Nat} {f : Fm} (of : f.Ok n) : nothing.both f = f := by
  have hb := of.b0.1
  have p1 := pp (f.b - 0)
  have p2 := pp (0 - f.b)
  have e1 : 0 + (if f.b - 0 > 0 then f.b - 0 else 0) = f.b := by omega
  have e2 : (if 0 - f.b > 0 then 0 - f.b else 0) + f.a = f.a := by omega
  have e : nothing.both f = Fm.ahead (0 + (if f.b - 0 > 0 then f.b - 0 else 0)) ((if 0 - f.b > 0 then 0 - f.b else 0) + f.a) f := rfl
  rw [e, e1, e2]
  cases f <;> rfl
theorem nothing_ok (n : Nat) : nothing.Ok n := ⟨by decide, by decide, Nat.two_pow_pos n, Nat.two_pow_pos n⟩
theorem both_ok {n : Nat} (hn : 0 < n) {f g : Fm} (of : f.Ok n) (og : g.Ok n) : (f.both g).Ok (3 * n + 3) := by
  have gb := og.b0
  have ga := og.a0
  have o1 : Sm n 1 := Nat.lt_of_lt_of_le (by decide : (1 : Int).natAbs < 2 ^ 1) (Nat.pow_le_pow_right (by decide) hn)
  cases f with
  | keep b a =>
    obtain ⟨b0, a0, sb, sa⟩ := of
    have p1 := pp (g.b - a)
    have p2 := pp (a - g.b)
    have hB : 0 ≤ b + (if g.b - a > 0 then g.b - a else 0) ∧ Sm (3 * n + 3) (b + (if g.b - a > 0 then g.b - a else 0)) := ⟨by omega, (Sm.of_le (by omega) (show b + (if g.b - a > 0 then g.b - a else 0) ≤ b + g.b by omega) (sb.add gb.2)).mono (by omega)⟩
    have hA : 0 ≤ (if a - g.b > 0 then a - g.b else 0) + g.a ∧ Sm (3 * n + 3) ((if a - g.b > 0 then a - g.b else 0) + g.a) := ⟨by omega, (Sm.of_le (by omega) (show (if a - g.b > 0 then a - g.b else 0) + g.a ≤ a + g.a by omega) (sa.add ga.2)).mono (by omega)⟩
    cases g with
    | keep b' a' => exact ⟨hB.1, hA.1, hB.2, hA.2⟩
    | lf b' a' k' c' =>
      obtain ⟨_, _, k0, c0, _, _, sk, sc⟩ := og
      exact ⟨hB.1, hA.1, k0, c0, hB.2, hA.2, sk.mono (by omega), sc.mono (by omega)⟩
    | cr b' a' k' =>
      obtain ⟨_, _, k0, _, _, sk⟩ := og
      exact ⟨hB.1, hA.1, k0, hB.2, hA.2, sk.mono (by omega)⟩
  | lf b a k c =>
    obtain ⟨b0, a0, k0, c0, sb, sa, sk, sc⟩ := of
    have hc := Fm.after_ok og c0 sc
    have hu : 0 < g.after c + 1 ∧ Sm (n + 2) (g.after c + 1) := ⟨by have := hc.1; omega, hc.2.add (o1.mono (Nat.le_succ n))⟩
    cases g with
    | keep b' a' => exact ⟨b0, a0, k0, hc.1, sb.mono (by omega), sa.mono (by omega), sk.mono (by omega), hc.2.mono (by omega)⟩
    | lf b' a' k' c' =>
      obtain ⟨_, _, k0', c0', _, _, sk', sc'⟩ := og
      exact ⟨b0, a0, Int.mul_pos (Int.mul_pos k0 hu.1) k0', c0', sb.mono (by omega), sa.mono (by omega), ((sk.mul hu.2).mul sk').mono (by omega), sc'.mono (by omega)⟩
    | cr b' a' k' =>
      obtain ⟨_, _, k0', _, _, sk'⟩ := og
      exact ⟨b0, a0, Int.mul_pos (Int.mul_pos k0 hu.1) k0', sb.mono (by omega), sa.mono (by omega), ((sk.mul hu.2).mul sk').mono (by omega)⟩
  | cr b a k =>
    obtain ⟨b0, a0, k0, sb, sa, sk⟩ := of
    cases g with
    | keep b' a' => exact ⟨b0, a0, k0, sb.mono (by omega), sa.mono (by omega), sk.mono (by omega)⟩
    | lf b' a' k' c' =>
      obtain ⟨_, _, k0', c0', _, _, sk', sc'⟩ := og
      exact ⟨b0, a0, Int.mul_pos (Int.mul_pos k0 (by decide)) k0', c0', sb.mono (by omega), sa.mono (by omega), ((sk.mul o1).mul sk').mono (by omega), sc'.mono (by omega)⟩
    | cr b' a' k' =>
      obtain ⟨_, _, k0', _, _, sk'⟩ := og
      exact ⟨b0, a0, Int.mul_pos (Int.mul_pos k0 (by decide)) k0', sb.mono (by omega), sa.mono (by omega), ((sk.mul o1).mul sk').mono (by omega)⟩
/-! ### a form many times -/
def fp (f : Fm) : Nat → Fm
  | 0 => nothing
  | n + 1 => (fp f n).both f
theorem fp_ok {m : Nat} {f : Fm} (h : f.Ok m) : ∀ n : Nat, ∃ k, (fp f n).Ok k
  | 0 => ⟨0, nothing_ok 0⟩
  | n + 1 => by
    obtain ⟨k, hk⟩ := fp_ok h n
    exact ⟨_, both_ok (n := max k m + 1) (by omega) (hk.mono (by omega)) (h.mono (by omega))⟩
theorem fp_one {m : Nat} {f : Fm} (h : f.Ok m) : fp f 1 = f := nothing_both h
theorem fp_add {m : Nat} {f : Fm} (h : f.Ok m) (i : Nat) : ∀ j : Nat, (fp f i).both (fp f j) = fp f (i + j)
  | 0 => by
    obtain ⟨k, hk⟩ := fp_ok h i
    exact both_nothing hk
  | j + 1 => by
    obtain ⟨k, hk⟩ := fp_ok h i
    obtain ⟨k', hk'⟩ := fp_ok h j
    show (fp f i).both ((fp f j).both f) = (fp f (i + j)).both f
    rw [← both_assoc (n := max (max k k') m) (hk.mono (by omega)) (hk'.mono (by omega)) (h.mono (by omega)), fp_add h i j]
theorem fp_keep {b a : Int} (b0 : 0 ≤ b) (a0 : 0 ≤ a) : ∀ n : Nat, ∃ B A, fp (.keep b a) n = .keep B A ∧ 0 ≤ B ∧ B ≤ n * b ∧ 0 ≤ A ∧ A ≤ n * a
  | 0 => ⟨0, 0, rfl, by decide, by simp, by decide, by simp⟩
  | n + 1 => by
    obtain ⟨B, A, e, h1, h2, h3, h4⟩ := fp_keep b0 a0 n
    have p1 := pp (b - A)
    have p2 := pp (A - b)
    refine ⟨B + (if b - A > 0 then b - A else 0), (if A - b > 0 then A - b else 0) + a, ?_, by omega, ?_, by omega, ?_⟩
    · show (fp (.keep b a) n).both (.keep b a) = _
      rw [e]
      rfl
    · rw [Int.natCast_add, Int.add_mul]
      simp only [Int.natCast_one, Int.one_mul]
      omega
    · rw [Int.natCast_add, Int.add_mul]
      simp only [Int.natCast_one, Int.one_mul]
      omega
theorem fp_lf {m : Nat} {b a k c : Int} (h : (Fm.lf b a k c).Ok m) (hm : 0 < m) : ∀ n : Nat, ∃ K, fp (.lf b a k c) (n + 1) = .lf b a K c ∧ 0 < K ∧ Sm ((n + 1) * (2 * m + 2)) K
  | 0 => ⟨k, fp_one h, h.2.2.1, h.2.2.2.2.2.2.1.mono (by omega)⟩
  | n + 1 => by
    obtain ⟨K, e, K0, K1⟩ := fp_lf h hm n
    have hc := Fm.after_ok h h.2.2.2.1 h.2.2.2.2.2.2.2
    have o1 : Sm m 1 := Nat.lt_of_lt_of_le (by decide : (1 : Int).natAbs < 2 ^ 1) (Nat.pow_le_pow_right (by decide) hm)
    have hu : 0 < (Fm.lf b a k c).after c + 1 ∧ Sm (m + 2) ((Fm.lf b a k c).after c + 1) := ⟨by have := hc.1; omega, hc.2.add (o1.mono (Nat.le_succ m))⟩
    refine ⟨K * ((Fm.lf b a k c).after c + 1) * k, ?_, Int.mul_pos (Int.mul_pos K0 hu.1) h.2.2.1, ((K1.mul hu.2).mul h.2.2.2.2.2.2.1).mono ?_⟩
    · show (fp (.lf b a k c) (n + 1)).both (.lf b a k c) = _
      rw [e]
      rfl
    · have : (n + 1 + 1) * (2 * m + 2) = (n + 1) * (2 * m + 2) + (2 * m + 2) := by rw [Nat.add_mul (n + 1) 1, Nat.one_mul]
      omega
theorem fp_cr {m : Nat} {b a k : Int} (h : (Fm.cr b a k).Ok m) (hm : 0 < m) : ∀ n : Nat, ∃ K, fp (.cr b a k) (n + 1) = .cr b a K ∧ 0 < K ∧ Sm ((n + 1) * (2 * m + 2)) K
  | 0 => ⟨k, fp_one h, h.2.2.1, h.2.2.2.2.2.mono (by omega)⟩
  | n + 1 => by
    obtain ⟨K, e, K0, K1⟩ := fp_cr h hm n
    have o1 : Sm m 1 := Nat.lt_of_lt_of_le (by decide : (1 : Int).natAbs < 2 ^ 1) (Nat.pow_le_pow_right (by decide) hm)
    refine ⟨K * 1 * k, ?_, Int.mul_pos (Int.mul_pos K0 (by decide)) h.2.2.1, ((K1.mul o1).mul h.2.2.2.2.2).mono ?_⟩
    · show (fp (.cr b a k) (n + 1)).both (.cr b a k) = _
      rw [e]
      rfl
    · have : (n + 1 + 1) * (2 * m + 2) = (n + 1) * (2 * m + 2) + (2 * m + 2) := by rw [Nat.add_mul (n + 1) 1, Nat.one_mul]
      omega
/-- how often a form may be repeated here -/
def Often (f : Fm) (n : Nat) : Prop := n ≤ 100 ∨ (Fm.isKeep f = true ∧ n ≤ 2 ^ 100)
theorem Often.le {f : Fm} {n m : Nat} (h : Often f n) (k : m ≤ n) : Often f m := by
  rcases h with h | ⟨h1, h2⟩
  · exact .inl (by omega)
  · exact .inr ⟨h1, Nat.le_trans k h2⟩
theorem fp_sm {m : Nat} {f : Fm} (h : f.Ok m) (hm : 0 < m) (hm2 : m ≤ 440) {n : Nat} (o : Often f n) : (fp f n).Ok 90000 := by
  cases f with
  | keep b a =>
    obtain ⟨b0, a0, sb, sa⟩ := h
    obtain ⟨B, A, e, h1, h2, h3, h4⟩ := fp_keep b0 a0 n
    have hn : n ≤ 2 ^ 100 := by
      rcases o with o | o
      · exact Nat.le_trans o (by decide +kernel)
      · exact o.2
    have sn : Sm 101 (n : Int) := by
      unfold Sm
      have : (2 : Nat) ^ 101 = 2 ^ 100 * 2 := Nat.pow_succ ..
      omega
    rw [e]
    exact ⟨h1, h3, (Sm.of_le h1 h2 (sn.mul sb)).mono (by omega), (Sm.of_le h3 h4 (sn.mul sa)).mono (by omega)⟩
  | lf b a k c =>
    have hn : n ≤ 100 := by
      rcases o with o | o
      · exact o
      · cases o.1
    cases n with
    | zero => exact nothing_ok _
    | succ n =>
      obtain ⟨K, e, K0, K1⟩ := fp_lf h hm n
      obtain ⟨b0, a0, k0, c0, sb, sa, sk, sc⟩ := h
      rw [e]
      have : (n + 1) * (2 * m + 2) ≤ 100 * 882 := Nat.mul_le_mul (by omega) (by omega)
      exact ⟨b0, a0, K0, c0, sb.mono (by omega), sa.mono (by omega), K1.mono (by omega), sc.mono (by omega)⟩
  | cr b a k =>
    have hn : n ≤ 100 := by
      rcases o with o | o
      · exact o
      · cases o.1
    cases n with
    | zero => exact nothing_ok _
    | succ n =>
      obtain ⟨K, e, K0, K1⟩ := fp_cr h hm n
      obtain ⟨b0, a0, k0, sb, sa, sk⟩ := h
      rw [e]
      have : (n + 1) * (2 * m + 2) ≤ 100 * 882 := Nat.mul_le_mul (by omega) (by omega)
      exact ⟨b0, a0, K0, sb.mono (by omega), sa.mono (by omega), K1.mono (by omega)⟩
end Lw
namespace Lw
open PySem PySem.Spec L2 Lx
/-! ### products and sums of factors -/
def pr : List Nat → Nat
  | [] => 1
  | g :: gs => g * pr gs
theorem pr_app : ∀ a b : List Nat, pr (a ++ b) = pr a * pr b
  | [], b => (Nat.one_mul _).symm
  | g :: a, b => by
    show g * pr (a ++ b) = g * pr a * pr b
    rw [pr_app a b, Nat.mul_assoc]
theorem pr_snoc (a : List Nat) (g : Nat) : pr (a ++ [g]) = pr a * g := by
  rw [pr_app]
  show pr a * (g * 1) = _
  rw [Nat.mul_one]
/-- a prime -/
def Pm (p : Nat) : Prop := 2 ≤ p ∧ ∀ d, d ∣ p → d = 1 ∨ d = p
theorem Pm.dvd_mul {p a b : Nat} (hp : Pm p) (h : p ∣ a * b) : p ∣ a ∨ p ∣ b := by
  rcases hp.2 (Nat.gcd p a) (Nat.gcd_dvd_left p a) with h1 | h1
  · exact .inr (Nat.Coprime.dvd_of_dvd_mul_left h1 h)
  · exact .inl (h1 ▸ Nat.gcd_dvd_right p a)
theorem Pm.dvd_pr {p : Nat} (hp : Pm p) : ∀ {gs : List Nat}, p ∣ pr gs → ∃ a g b, gs = a ++ g :: b ∧ p ∣ g
  | [], h => by
    have := Nat.le_of_dvd (by decide) h
    have := hp.1
    show _
    exact absurd this (by change ¬ 2 ≤ p; show ¬ 2 ≤ p; have h1 : p ≤ 1 := ‹p ≤ pr []›; omega)
  | g :: gs, h => by
    rcases hp.dvd_mul h with h1 | h1
    · exact ⟨[], g, gs, rfl, h1⟩
    · obtain ⟨a, y, b, e, hy⟩ := hp.dvd_pr h1
      exact ⟨g :: a, y, b, by rw [e]; rfl, hy⟩
theorem pr_mid (a b : List Nat) (g : Nat) : pr (a ++ g :: b) = g * pr (a ++ b) := by
  rw [pr_app, pr_app]
  show pr a * (g * pr b) = _
  rw [← Nat.mul_assoc, Nat.mul_comm (pr a) g, Nat.mul_assoc]
theorem sum_mid (a b : List Nat) (g : Nat) : (a ++ g :: b).sum = g + (a ++ b).sum := by
  rw [List.sum_append, List.sum_append, List.sum_cons]
  omega
theorem pr_pos {gs : List Nat} (h : ∀ g ∈ gs, 2 ≤ g) : 0 < pr gs := by
  induction gs with
  | nil => exact Nat.one_pos
  | cons g gs ih => exact Nat.mul_pos (by have := h g (List.mem_cons_self ..); omega) (ih fun x hx => h x (List.mem_cons_of_mem _ hx))
/-- no way to write a product has a smaller sum than the one by primes -/
theorem min_sum : ∀ {fs : List Nat}, (∀ p ∈ fs, Pm p) → ∀ {gs : List Nat}, (∀ g ∈ gs, 2 ≤ g) → pr fs = pr gs → fs.sum ≤ gs.sum
  | [], _, gs, _, _ => Nat.zero_le _
  | p :: fs, hf, gs, hg, e => by
    have hp := hf p (List.mem_cons_self ..)
    obtain ⟨a, g, b, rfl, m, rfl⟩ := hp.dvd_pr (show p ∣ pr gs from ⟨pr fs, e.symm⟩)
    have hab : ∀ x ∈ a ++ b, 2 ≤ x := fun x hx => hg x (by
      rcases List.mem_append.mp hx with h | h
      · exact List.mem_append_left _ h
      · exact List.mem_append_right _ (List.mem_cons_of_mem _ h))
    have hg2 := hg (p * m) (by simp)
    have p0 : 0 < p := by have := hp.1; omega
    rw [pr_mid, Nat.mul_assoc] at e
    have e2 : pr fs = m * pr (a ++ b) := Nat.eq_of_mul_eq_mul_left p0 e
    rw [sum_mid, List.sum_cons]
    by_cases h1 : m = 1
    · subst h1
      rw [Nat.one_mul] at e2
      have := min_sum (fun q hq => hf q (List.mem_cons_of_mem _ hq)) hab e2
      omega
    · have hm : 2 ≤ m := by
        rcases m with _ | _ | m
        · rw [Nat.mul_zero] at hg2; omega
        · exact absurd rfl h1
        · omega
      have := min_sum (fun q hq => hf q (List.mem_cons_of_mem _ hq)) (gs := m :: (a ++ b)) (fun x hx => by
        rcases List.mem_cons.mp hx with rfl | h
        · exact hm
        · exact hab x h) e2
      rw [List.sum_cons] at this
      have : p + m ≤ p * m := by
        have h2 : 2 ≤ p := hp.1
        obtain ⟨x, rfl⟩ := Nat.exists_eq_add_of_le h2
        obtain ⟨y, rfl⟩ := Nat.exists_eq_add_of_le hm
        rw [Nat.add_mul, Nat.mul_add, Nat.mul_add]
        omega
      omega
/-! ### what one step makes of a form -/
theorem st_kU {b a : Int} (h : 0 ≤ a) : (Fm.keep b a).both (.keep 0 1) = .keep b (a + 1) := by
  show Fm.keep (b + (if 0 - a > 0 then 0 - a else 0)) ((if a - 0 > 0 then a - 0 else 0) + 1) = _
  congr 1 <;> split <;> omega
theorem st_kD {b a : Int} (h : 0 ≤ a) : (Fm.keep b a).both (.keep 1 0) = if a = 0 then .keep (b + 1) 0 else .keep b (a - 1) := by
  show Fm.keep (b + (if 1 - a > 0 then 1 - a else 0)) ((if a - 1 > 0 then a - 1 else 0) + 0) = _
  split <;> split <;> split <;> congr 1 <;> omega
theorem st_kM {b a : Int} (h : 0 ≤ a) : (Fm.keep b a).both (.lf 0 0 1 0) = .lf b a 1 0 := by
  show Fm.lf (b + (if 0 - a > 0 then 0 - a else 0)) ((if a - 0 > 0 then a - 0 else 0) + 0) 1 0 = _
  congr 1 <;> split <;> omega
theorem st_kN {b a : Int} (h : 0 ≤ a) : (Fm.keep b a).both (.cr 0 0 1) = .cr b a 1 := by
  show Fm.cr (b + (if 0 - a > 0 then 0 - a else 0)) ((if a - 0 > 0 then a - 0 else 0) + 0) 1 = _
  congr 1 <;> split <;> omega
theorem st_lU {b a k c : Int} (h : 0 ≤ c) : (Fm.lf b a k c).both (.keep 0 1) = .lf b a k (c + 1) := by
  show Fm.lf b a k ((if c - 0 > 0 then c - 0 else 0) + 1) = _
  congr 1
  split <;> omega
theorem st_lD {b a k c : Int} (h : 0 ≤ c) : (Fm.lf b a k c).both (.keep 1 0) = .lf b a k (if c - 1 > 0 then c - 1 else 0) := by
  show Fm.lf b a k ((if c - 1 > 0 then c - 1 else 0) + 0) = _
  rw [Int.add_zero]
theorem st_lM {b a k c : Int} (h : 0 ≤ c) : (Fm.lf b a k c).both (.lf 0 0 1 0) = .lf b a (k * (c + 1)) 0 := by
  have e1 : Fm.after (.lf 0 0 1 0) c = c := by
    unfold Fm.after Fm.b Fm.a
    dsimp only
    split <;> omega
  show Fm.lf b a (k * (Fm.after (.lf 0 0 1 0) c + 1) * 1) 0 = _
  rw [e1, Int.mul_one]
theorem st_lN {b a k c : Int} (h : 0 ≤ c) : (Fm.lf b a k c).both (.cr 0 0 1) = .cr b a (k * (c + 1)) := by
  have e1 : Fm.after (.cr 0 0 1) c = c := by
    unfold Fm.after Fm.b Fm.a
    dsimp only
    split <;> omega
  show Fm.cr b a (k * (Fm.after (.cr 0 0 1) c + 1) * 1) = _
  rw [e1, Int.mul_one]
theorem st_cM {b a k : Int} : (Fm.cr b a k).both (.lf 0 0 1 0) = .lf b a k 0 := by
  show Fm.lf b a (k * 1 * 1) 0 = _
  rw [Int.mul_one, Int.mul_one]
theorem st_cN {b a k : Int} : (Fm.cr b a k).both (.cr 0 0 1) = .cr b a k := by
  show Fm.cr b a (k * 1 * 1) = _
  rw [Int.mul_one, Int.mul_one]
/-! ### a chain has at least the fewest steps of its form -/
/-- a form that a chain of n steps may have -/
def LowB : Fm → Nat → Prop
  | .keep b a, n => 0 ≤ b ∧ 0 ≤ a ∧ b + a ≤ n
  | .lf b a k c, n => 0 ≤ b ∧ 0 ≤ a ∧ 0 ≤ c ∧ ∃ gs : List Nat, (∀ g ∈ gs, 2 ≤ g) ∧ (pr gs : Int) = k ∧ b + a + 1 + (gs.sum : Int) + c ≤ n
  | .cr b a k, n => 0 ≤ b ∧ 0 ≤ a ∧ ∃ gs : List Nat, (∀ g ∈ gs, 2 ≤ g) ∧ (pr gs : Int) = k ∧ b + a + 1 + (gs.sum : Int) ≤ n
theorem low_mul {k c : Int} {gs : List Nat} (hc : 0 ≤ c) (hg : ∀ g ∈ gs, 2 ≤ g) (hk : (pr gs : Int) = k) : ∃ hs : List Nat, (∀ g ∈ hs, 2 ≤ g) ∧ (pr hs : Int) = k * (c + 1) ∧ (hs.sum : Int) ≤ gs.sum + c + 1 := by
  by_cases h0 : c = 0
  · subst h0
    exact ⟨gs, hg, by rw [Int.zero_add, Int.mul_one]; exact hk, by omega⟩
  · obtain ⟨c, rfl⟩ := Int.eq_ofNat_of_zero_le hc
    refine ⟨gs ++ [c + 1], fun g h => ?_, ?_, ?_⟩
    · rcases List.mem_append.mp h with h | h
      · exact hg g h
      · rw [List.mem_singleton.mp h]; omega
    · rw [pr_snoc, Int.natCast_mul, hk]
      rfl
    · rw [List.sum_append]
      show ((gs.sum + (c + 1 + 0) : Nat) : Int) ≤ _
      omega
theorem low_step {f : Fm} {n : Nat} {c : Nat} (hc : c ∈ steps.cps.toList) (h : LowB f n) : LowB (f.both (stepF c)) (n + 1) := by
  rcases step_cases hc with e | e | e | e <;> rw [e]
  · cases f with
    | keep b a =>
      obtain ⟨h1, h2, h3⟩ := h
      rw [st_kU h2]
      exact ⟨h1, by omega, by omega⟩
    | lf b a k c =>
      obtain ⟨h1, h2, h3, gs, h4, h5, h6⟩ := h
      rw [st_lU h3]
      exact ⟨h1, h2, by omega, gs, h4, h5, by omega⟩
    | cr b a k =>
      obtain ⟨h1, h2, gs, h4, h5, h6⟩ := h
      exact ⟨h1, h2, gs, h4, h5, by omega⟩
  · cases f with
    | keep b a =>
      obtain ⟨h1, h2, h3⟩ := h
      rw [st_kD h2]
      split
      · exact ⟨by omega, by decide, by omega⟩
      · exact ⟨h1, by omega, by omega⟩
    | lf b a k c =>
      obtain ⟨h1, h2, h3, gs, h4, h5, h6⟩ := h
      rw [st_lD h3]
      refine ⟨h1, h2, by split <;> omega, gs, h4, h5, by split <;> omega⟩
    | cr b a k =>
      obtain ⟨h1, h2, gs, h4, h5, h6⟩ := h
      exact ⟨h1, h2, gs, h4, h5, by omega⟩
  · cases f with
    | keep b a =>
      obtain ⟨h1, h2, h3⟩ := h
      rw [st_kM h2]
      exact ⟨h1, h2, by decide, [], (fun g h => by cases h), rfl, by show b + a + 1 + 0 + 0 ≤ _; omega⟩
    | lf b a k c =>
      obtain ⟨h1, h2, h3, gs, h4, h5, h6⟩ := h
      rw [st_lM h3]
      obtain ⟨hs, q1, q2, q3⟩ := low_mul h3 h4 h5
      exact ⟨h1, h2, by decide, hs, q1, q2, by omega⟩
    | cr b a k =>
      obtain ⟨h1, h2, gs, h4, h5, h6⟩ := h
      rw [st_cM]
      exact ⟨h1, h2, by decide, gs, h4, h5, by omega⟩
  · cases f with
    | keep b a =>
      obtain ⟨h1, h2, h3⟩ := h
      rw [st_kN h2]
      exact ⟨h1, h2, [], (fun g h => by cases h), rfl, by show b + a + 1 + 0 ≤ _; omega⟩
    | lf b a k c =>
      obtain ⟨h1, h2, h3, gs, h4, h5, h6⟩ := h
      rw [st_lN h3]
      obtain ⟨hs, q1, q2, q3⟩ := low_mul h3 h4 h5
      exact ⟨h1, h2, hs, q1, q2, by omega⟩
    | cr b a k =>
      obtain ⟨h1, h2, gs, h4, h5, h6⟩ := h
      rw [st_cN]
      exact ⟨h1, h2, gs, h4, h5, by omega⟩
theorem low_form : ∀ (n : Nat) (cs : List Nat), cs.length = n → (∀ c ∈ cs, c ∈ steps.cps.toList) → LowB (formL cs) n
  | 0, cs, h, _ => by
    rw [List.length_eq_zero_iff.mp h]
    exact ⟨by decide, by decide, by decide⟩
  | n + 1, cs, h, hc => by
    rcases List.eq_nil_or_concat cs with rfl | ⟨ds, c, rfl⟩
    · cases h
    · rw [List.concat_eq_append] at h hc ⊢
      rw [formL_snoc]
      exact low_step (hc c (by simp)) (low_form n ds (by simpa using h) fun d hd => hc d (List.mem_append_left _ hd))
/-! ### steps of a form whose k is the product of primes -/
/-- the primes of a form -/
def Prim : Fm → List Nat → Prop
  | .keep _ _, fs => fs = []
  | .lf _ _ k _, fs => (∀ p ∈ fs, Pm p) ∧ (pr fs : Int) = k
  | .cr _ _ k, fs => (∀ p ∈ fs, Pm p) ∧ (pr fs : Int) = k
def stepsF : Fm → List Nat → Int
  | .keep b a, _ => b + a
  | .lf b a _ c, fs => b + a + 1 + (fs.sum : Int) + c
  | .cr b a _, fs => b + a + 1 + (fs.sum : Int)
theorem steps_le {f : Fm} {n : Nat} {fs : List Nat} (h : LowB f n) (hp : Prim f fs) : stepsF f fs ≤ n := by
  cases f with
  | keep b a => exact h.2.2
  | lf b a k c =>
    obtain ⟨h1, h2, h3, gs, h4, h5, h6⟩ := h
    have := min_sum hp.1 h4 (Int.ofNat_inj.mp (hp.2.trans h5.symm))
    show b + a + 1 + (fs.sum : Int) + c ≤ n
    omega
  | cr b a k =>
    obtain ⟨h1, h2, gs, h4, h5, h6⟩ := h
    have := min_sum hp.1 h4 (Int.ofNat_inj.mp (hp.2.trans h5.symm))
    show b + a + 1 + (fs.sum : Int) ≤ n
    omega
theorem steps_min {x : Str} (hx : ChOk x) {fs : List Nat} (hp : Prim (formOf x) fs) : stepsF (formOf x) fs ≤ x.cps.size := steps_le (low_form _ x.cps.toList (Array.length_toList ..) hx) hp
end Lw
namespace Lw
open PySem PySem.Spec L2 Lx
/-! ### chains put together -/
theorem formL_fle (k : Nat) : ∀ cs : List Nat, cs.length = k → k ≤ 7000 → (∀ c ∈ cs, c ∈ steps.cps.toList) → FLe k (formL cs) := by
  induction k with
  | zero =>
    intro cs e _ _
    rw [List.eq_nil_of_length_eq_zero e]
    exact ⟨by decide, by decide, by decide, by decide⟩
  | succ k ih =>
    intro cs e hk hc
    rcases snoc_or cs with rfl | ⟨ds, c, rfl⟩
    · cases e
    · have ed : ds.length = k := by simpa using e
      have h := ih ds ed (by omega) fun x hx => hc x (List.mem_append.mpr (.inl hx))
      have e2 : formL (ds ++ [c]) = (formL ds).both (stepF c) := by unfold formL; rw [List.foldl_append]; rfl
      rw [e2]
      exact h.step (by omega) (hc c (by simp))
theorem step_ok {c : Nat} (h : c ∈ steps.cps.toList) {n : Nat} (hn : 0 < n) : (stepF c).Ok n := by
  have one : Sm n 1 := Nat.lt_of_lt_of_le (by decide : (1 : Int).natAbs < 2 ^ 1) (Nat.pow_le_pow_right (by decide) hn)
  have zer : Sm n 0 := Nat.two_pow_pos n
  rcases step_cases h with e | e | e | e <;> rw [e]
  · exact ⟨by decide, by decide, zer, one⟩
  · exact ⟨by decide, by decide, one, zer⟩
  · exact ⟨by decide, by decide, by decide, by decide, zer, zer, one, zer⟩
  · exact ⟨by decide, by decide, by decide, zer, zer, one⟩
theorem formL_app7 (a : List Nat) (ha : ∀ c ∈ a, c ∈ steps.cps.toList) (n : Nat) : ∀ b : List Nat, b.length = n → (∀ c ∈ b, c ∈ steps.cps.toList) → a.length + b.length ≤ 7000 → formL (a ++ b) = (formL a).both (formL b) := by
  induction n with
  | zero =>
    intro b e _ hl
    rw [List.eq_nil_of_length_eq_zero e, List.append_nil]
    exact (both_nothing (formL_fle _ a rfl (by omega) ha).ok).symm
  | succ n ih =>
    intro b e hb hl
    rcases snoc_or b with rfl | ⟨ds, c, rfl⟩
    · cases e
    · have ed : ds.length = n := by simpa using e
      have hd : ∀ x ∈ ds, x ∈ steps.cps.toList := fun x hx => hb x (List.mem_append.mpr (.inl hx))
      have hc := hb c (by simp)
      have hl2 : (ds ++ [c]).length = ds.length + 1 := by simp
      have e2 : ∀ xs : List Nat, formL (xs ++ [c]) = (formL xs).both (stepF c) := fun xs => by unfold formL; rw [List.foldl_append]; rfl
      rw [← List.append_assoc, e2, ih ds ed hd (by omega), e2]
      have oa := (formL_fle _ a rfl (by omega) ha).ok
      have ob := (formL_fle _ ds rfl (by omega) hd).ok
      refine both_assoc (n := 13 * 7000 + 1) (oa.mono (by omega)) (ob.mono (by omega)) (step_ok hc (by omega))
theorem formOf_app {x y : Str} (hx : ChOk x) (hy : ChOk y) (hl : x.cps.size + y.cps.size ≤ 7000) : formOf (x ++ y) = (formOf x).both (formOf y) := by
  have e : (x ++ y).cps.toList = x.cps.toList ++ y.cps.toList := Array.toList_append ..
  unfold formOf
  rw [e]
  exact formL_app7 _ hx _ _ rfl hy (by rw [Array.length_toList, Array.length_toList]; exact hl)
theorem ChOk.app {x y : Str} (hx : ChOk x) (hy : ChOk y) : ChOk (x ++ y) := fun c hc => by
  have e : (x ++ y).cps.toList = x.cps.toList ++ y.cps.toList := Array.toList_append ..
  rw [e] at hc
  rcases List.mem_append.mp hc with h | h
  · exact hx c h
  · exact hy c h
theorem app_sz (x y : Str) : (x ++ y).cps.size = x.cps.size + y.cps.size := Array.size_append ..
theorem formOf_fle {x : Str} (hx : ChOk x) (hl : x.cps.size ≤ 7000) : FLe x.cps.size (formOf x) := formL_fle _ _ (Array.length_toList ..) hl hx
theorem formOf_ok {x : Str} (hx : ChOk x) (hl : x.cps.size ≤ 7000) : (formOf x).Ok 91001 := (formOf_fle hx hl).ok.mono (by omega)
/-! ### copies by name -/
inductive Ents (K : PySem.W.Frag) (H : Hp) : List (Key × V) → List (Str × Str) → Prop
  | nil : Ents K H [] []
  | cons {kvs : List (Key × V)} {zs : List (Str × Str)} {v : V} {n z : Str} : FmAt K H v (formOf z) → Ents K H kvs zs → Ents K H ((.inr n, v) :: kvs) ((n, z) :: zs)
theorem Ents.same {K : PySem.W.Frag} {H H' : Hp} (s : ∀ v f, FmAt K H v f → FmAt K H' v f) : ∀ {kvs : List (Key × V)} {zs : List (Str × Str)}, Ents K H kvs zs → Ents K H' kvs zs
  | _, _, .nil => .nil
  | _, _, .cons h t => .cons (s _ _ h) (t.same s)
theorem Ents.len {K : PySem.W.Frag} {H : Hp} : ∀ {kvs : List (Key × V)} {zs : List (Str × Str)}, Ents K H kvs zs → kvs.length = zs.length
  | _, _, .nil => rfl
  | _, _, .cons _ t => by rw [List.length_cons, List.length_cons, t.len]
theorem Ents.get {K : PySem.W.Frag} {H : Hp} {n z : Str} : ∀ {kvs : List (Key × V)} {zs : List (Str × Str)}, Ents K H kvs zs → zs.lookup n = some z → ∃ v, valV kvs (.inr n) = some v ∧ FmAt K H v (formOf z)
  | _, _, .nil, e => by cases e
  | _, _, .cons (n := m) (z := y) (v := v) (kvs := kvs) (zs := zs) h t, e => by
    by_cases c : m = n
    · subst c
      rw [List.lookup_cons_self] at e
      cases e
      exact ⟨v, valV_pos rfl, h⟩
    · rw [List.lookup_cons, show (n == m) = false from beq_false_of_ne (Ne.symm c)] at e
      obtain ⟨u, h1, h2⟩ := Ents.get t e
      exact ⟨u, (valV_neg (fun z => c (Sum.inr.inj z))).trans h1, h2⟩
/-- in its place, or at the end -/
def putZ : List (Str × Str) → Str → Str → List (Str × Str)
  | [], n, z => [(n, z)]
  | (m, y) :: r, n, z => if m = n then (m, z) :: r else (m, y) :: putZ r n z
theorem putZ_len : ∀ (zs : List (Str × Str)) (n z : Str), (putZ zs n z).length ≤ zs.length + 1
  | [], _, _ => Nat.le_refl _
  | (m, y) :: r, n, z => by
    have := putZ_len r n z
    unfold putZ
    split
    · exact Nat.le_succ _
    · show _ + 1 ≤ _ + 1 + 1
      omega
theorem putZ_get (n z m : Str) : ∀ zs : List (Str × Str), (putZ zs n z).lookup m = if m = n then some z else zs.lookup m
  | [] => by
    show List.lookup m [(n, z)] = _
    rw [List.lookup_cons]
    by_cases c : m = n
    · subst c
      simp
    · rw [show (m == n) = false from beq_false_of_ne c, if_neg c]
  | (k, y) :: r => by
    unfold putZ
    by_cases c : k = n
    · subst c
      rw [if_pos rfl, List.lookup_cons, List.lookup_cons]
      by_cases d : m = k
      · subst d
        simp
      · rw [show (m == k) = false from beq_false_of_ne d, if_neg d]
    · rw [if_neg c, List.lookup_cons, List.lookup_cons, putZ_get n z m r]
      by_cases d : m = k
      · subst d
        rw [if_neg c]
        simp [c]
      · rw [show (m == k) = false from beq_false_of_ne d]
/-- no name twice -/
def NdZ (zs : List (Str × Str)) : Prop := (zs.map Prod.fst).Nodup
theorem map_same {kvs : List (Key × V)} {n : Str} {v : V} (h : ∀ kv ∈ kvs, kv.1 ≠ .inr n) : kvs.map (fun kv => if kv.1 = .inr n then (kv.1, v) else kv) = kvs := by
  induction kvs with
  | nil => rfl
  | cons p r ih =>
    rw [List.map_cons, ih fun kv hkv => h kv (List.mem_cons_of_mem _ hkv), if_neg (h p (List.mem_cons_self ..))]
theorem Ents.keys {K : PySem.W.Frag} {H : Hp} {n : Str} : ∀ {kvs : List (Key × V)} {zs : List (Str × Str)}, Ents K H kvs zs → n ∉ zs.map Prod.fst → ∀ kv ∈ kvs, kv.1 ≠ .inr n
  | _, _, .nil, _, kv, hkv => by cases hkv
  | _, _, .cons (n := m) h t, hn, kv, hkv => by
    rcases List.mem_cons.mp hkv with rfl | hkv
    · exact fun e => hn (List.mem_cons.mpr (.inl (Sum.inr.inj e).symm))
    · exact Ents.keys t (fun e => hn (List.mem_cons_of_mem _ e)) kv hkv
theorem Ents.put {K : PySem.W.Frag} {H : Hp} {n z : Str} {v : V} (hv : FmAt K H v (formOf z)) : ∀ {kvs : List (Key × V)} {zs : List (Str × Str)}, Ents K H kvs zs → NdZ zs → Ents K H (putK kvs (.inr n) v) (putZ zs n z)
  | _, _, .nil, _ => .cons hv .nil
  | _, _, .cons (n := m) (z := y) (v := u) (kvs := kvs) (zs := zs) h t, nd => by
    have nd' : m ∉ zs.map Prod.fst ∧ NdZ zs := List.nodup_cons.mp nd
    unfold putZ
    by_cases c : m = n
    · subst c
      have e : putK ((.inr m, u) :: kvs) (.inr m : Key) v = (.inr m, v) :: kvs := by
        unfold putK
        rw [if_pos (by simp), List.map_cons, if_pos rfl, map_same (t.keys nd'.1)]
      rw [e, if_pos rfl]
      exact .cons hv t
    · have ih := Ents.put (n := n) hv t nd'.2
      have cn : ¬ ((.inr m : Key) = .inr n) := fun e => c (Sum.inr.inj e)
      have e : putK ((.inr m, u) :: kvs) (.inr n : Key) v = (.inr m, u) :: putK kvs (.inr n) v := by
        unfold putK
        by_cases a : (kvs.any fun kv => decide (kv.1 = (.inr n : Key))) = true
        · rw [if_pos (by rw [List.any_cons, a]; simp), if_pos a, List.map_cons, if_neg cn]
        · rw [if_neg (by rw [List.any_cons, decide_eq_false cn]; simpa using a), if_neg a]
          rfl
      rw [e, if_neg c]
      exact .cons h ih
theorem putZ_mem {n z : Str} : ∀ {zs : List (Str × Str)} {m : Str}, m ∈ (putZ zs n z).map Prod.fst → m = n ∨ m ∈ zs.map Prod.fst
  | [], m, h => .inl (by simpa [putZ] using h)
  | (k, y) :: r, m, h => by
    unfold putZ at h
    by_cases c : k = n
    · rw [if_pos c] at h
      exact .inr h
    · rw [if_neg c] at h
      rcases List.mem_cons.mp h with rfl | h
      · exact .inr (List.mem_cons_self ..)
      · exact (putZ_mem h).imp id fun q => List.mem_cons_of_mem _ q
theorem putZ_nd {n z : Str} : ∀ {zs : List (Str × Str)}, NdZ zs → NdZ (putZ zs n z)
  | [], _ => by unfold NdZ putZ; simp
  | (k, y) :: r, h => by
    have h' : k ∉ r.map Prod.fst ∧ NdZ r := List.nodup_cons.mp h
    unfold putZ
    by_cases c : k = n
    · rw [if_pos c]
      exact h
    · rw [if_neg c]
      refine List.nodup_cons.mpr ⟨fun hm => ?_, putZ_nd h'.2⟩
      rcases putZ_mem hm with e | e
      · exact c e
      · exact h'.1 e
/-- chains that may be put together with k letters more -/
def ZOk (L : Nat) (zs : List (Str × Str)) : Prop := ∀ n z, zs.lookup n = some z → ChOk z ∧ z.cps.size ≤ L
theorem ZOk.put {L : Nat} {zs : List (Str × Str)} {n z : Str} (h : ZOk L zs) (hz : ChOk z) (hl : z.cps.size ≤ L) : ZOk L (putZ zs n z) := fun m y e => by
  rw [putZ_get] at e
  by_cases c : m = n
  · rw [if_pos c] at e
    cases e
    exact ⟨hz, hl⟩
  · rw [if_neg c] at e
    exact h m y e
theorem ZOk.mono {L L' : Nat} {zs : List (Str × Str)} (h : ZOk L zs) (k : L ≤ L') : ZOk L' zs := fun n z e => ⟨(h n z e).1, Nat.le_trans (h n z e).2 k⟩
/-- a depot stands at p, its dict at d -/
structure DepAt (K : PySem.W.Frag) (C : Addr) (H : Hp) (p d : Addr) (zs : List (Str × Str)) : Prop where
  ob : ∃ dx, H p = some (.ins C dx [("_forms", .ref d)])
  dc : ∃ kvs, H d = some (.dK kvs) ∧ Ents K H kvs zs
  nd : NdZ zs
theorem DepAt.same {K : PySem.W.Frag} {C : Addr} {H H' : Hp} {p d : Addr} {zs : List (Str × Str)} (s : Same H H') (h : DepAt K C H p d zs) : DepAt K C H' p d zs := by
  obtain ⟨⟨dx, h1⟩, ⟨kvs, h2, h3⟩, h4⟩ := h
  exact ⟨⟨dx, s _ _ h1⟩, ⟨kvs, s _ _ h2, h3.same fun v f hv => hv.same s⟩, h4⟩
/-- all but one address is as it was -/
def Kd (d : Addr) (H H' : Hp) : Prop := ∀ b o, b ≠ d → H b = some o → H' b = some o
theorem Kd.refl (d : Addr) (H : Hp) : Kd d H H := fun _ _ _ h => h
theorem Kd.trans {d : Addr} {H H1 H2 : Hp} (a : Kd d H H1) (b : Kd d H1 H2) : Kd d H H2 := fun c o h1 h => b c o h1 (a c o h1 h)
theorem Kd.of {d : Addr} {H H' : Hp} (s : Same H H') : Kd d H H' := fun b o _ h => s b o h
theorem FmAt.kd {K : PySem.W.Frag} {H H' : Hp} {d : Addr} {kvs : List (Key × V)} (hd : H d = some (.dK kvs)) (k : Kd d H H') {v : V} {f : Fm} : FmAt K H v f → FmAt K H' v f := fun ⟨p, h1, h2⟩ => ⟨p, h1, by
  rcases h2 with (h | ⟨o, h⟩) | h
  · exact .inl (.inl (k _ _ (ne_of h hd (by intro z; cases z)) h))
  · exact .inl (.inr ⟨o, k _ _ (ne_of h hd (by intro z; cases z)) h⟩)
  · exact .inr h⟩
end Lw
namespace Lw
open PySem PySem.Spec L2 Lx
/-! ### the chain that a list of factors gives -/
def go (f : Fm) (cs : List Nat) : Fm := cs.foldl (fun f c => f.both (stepF c)) f
theorem go_app (f : Fm) (a b : List Nat) : go f (a ++ b) = go (go f a) b := List.foldl_append
theorem go_nothing (cs : List Nat) : go nothing cs = formL cs := rfl
theorem go_one (f : Fm) (c : Nat) : go f [c] = f.both (stepF c) := rfl
theorem go_D : ∀ (n : Nat) {b : Int}, go (.keep b 0) (List.replicate n 68) = .keep (b + n) 0
  | 0, b => by show Fm.keep b 0 = Fm.keep (b + 0) 0; rw [Int.add_zero]
  | n + 1, b => by
    show go ((Fm.keep b 0).both (.keep 1 0)) (List.replicate n 68) = _
    rw [st_kD (by decide), if_pos rfl, go_D n]
    congr 1
    omega
theorem go_kU : ∀ (n : Nat) {b a : Int}, 0 ≤ a → go (.keep b a) (List.replicate n 85) = .keep b (a + n)
  | 0, b, a, _ => by show Fm.keep b a = Fm.keep b (a + 0); rw [Int.add_zero]
  | n + 1, b, a, h => by
    show go ((Fm.keep b a).both (.keep 0 1)) (List.replicate n 85) = _
    rw [st_kU h, go_kU n (by omega)]
    congr 1
    omega
theorem go_lU : ∀ (n : Nat) {b a k c : Int}, 0 ≤ c → go (.lf b a k c) (List.replicate n 85) = .lf b a k (c + n)
  | 0, b, a, k, c, _ => by show Fm.lf b a k c = Fm.lf b a k (c + 0); rw [Int.add_zero]
  | n + 1, b, a, k, c, h => by
    show go ((Fm.lf b a k c).both (.keep 0 1)) (List.replicate n 85) = _
    rw [st_lU h, go_lU n (by omega)]
    congr 1
    omega
def seg (p : Nat) : List Nat := List.replicate (p - 1) 85 ++ [77]
def segs (gs : List Nat) : List Nat := gs.flatMap seg
theorem go_segs : ∀ (gs : List Nat), (∀ g ∈ gs, 1 ≤ g) → ∀ {b a k : Int}, go (.lf b a k 0) (segs gs) = .lf b a (k * (pr gs : Int)) 0
  | [], _, b, a, k => by show Fm.lf b a k 0 = Fm.lf b a (k * 1) 0; rw [Int.mul_one]
  | g :: gs, h, b, a, k => by
    have hg := h g (List.mem_cons_self ..)
    show go (.lf b a k 0) (seg g ++ segs gs) = _
    rw [go_app]
    have e : go (.lf b a k 0) (seg g) = .lf b a (k * (g : Int)) 0 := by
      unfold seg
      rw [go_app, go_lU _ (by decide)]
      show (Fm.lf b a k (0 + ((g - 1 : Nat) : Int))).both (.lf 0 0 1 0) = _
      rw [st_lM (by omega)]
      congr 2
      omega
    rw [e, go_segs gs fun x hx => h x (List.mem_cons_of_mem _ hx)]
    congr 1
    show k * (g : Int) * (pr gs : Int) = k * ((g * pr gs : Nat) : Int)
    rw [Int.natCast_mul, Int.mul_assoc]
def startL (b a : Int) : List Nat := List.replicate b.toNat 68 ++ List.replicate a.toNat 85
theorem go_start {b a : Int} (hb : 0 ≤ b) (ha : 0 ≤ a) : formL (startL b a) = .keep b a := by
  rw [← go_nothing]
  unfold startL
  rw [go_app, go_D, go_kU _ (by decide), Int.toNat_of_nonneg ha]
  congr 1 <;> omega
def shc : Fm → List Nat → List Nat
  | .keep b a, _ => startL b a
  | .lf b a _ c, gs => startL b a ++ (77 :: segs gs) ++ List.replicate c.toNat 85
  | .cr b a _, gs => startL b a ++ (77 :: segs gs).dropLast ++ [78]
theorem segs_snoc (gs : List Nat) (g : Nat) : 77 :: segs (gs ++ [g]) = (77 :: segs gs) ++ List.replicate (g - 1) 85 ++ [77] := by
  unfold segs
  rw [List.flatMap_append]
  show 77 :: (gs.flatMap seg ++ (seg g ++ [])) = _
  rw [List.append_nil]
  unfold seg
  simp
theorem drop_snoc (gs : List Nat) (g : Nat) : (77 :: segs (gs ++ [g])).dropLast = (77 :: segs gs) ++ List.replicate (g - 1) 85 := by
  rw [segs_snoc, List.dropLast_concat]
/-- factors of a form -/
def Fac : Fm → List Nat → Prop
  | .keep b a, _ => 0 ≤ b ∧ 0 ≤ a
  | .lf b a k c, gs => 0 ≤ b ∧ 0 ≤ a ∧ 0 ≤ c ∧ (∀ g ∈ gs, 2 ≤ g) ∧ (pr gs : Int) = k
  | .cr b a k, gs => 0 ≤ b ∧ 0 ≤ a ∧ (∀ g ∈ gs, 2 ≤ g) ∧ (pr gs : Int) = k
theorem shc_form {f : Fm} {gs : List Nat} (h : Fac f gs) : formL (shc f gs) = f := by
  have one : ∀ {l : List Nat}, (∀ g ∈ l, 2 ≤ g) → ∀ g ∈ l, 1 ≤ g := fun h g hg => by have := h g hg; omega
  cases f with
  | keep b a => exact go_start h.1 h.2
  | lf b a k c =>
    obtain ⟨h1, h2, h3, h4, h5⟩ := h
    unfold shc
    rw [← go_nothing, go_app, go_app, go_nothing, go_start h1 h2]
    show go (go ((Fm.keep b a).both (.lf 0 0 1 0)) (segs gs)) _ = _
    rw [st_kM h2, go_segs gs (one h4), go_lU _ (by decide), Int.one_mul, h5]
    congr 1
    omega
  | cr b a k =>
    obtain ⟨h1, h2, h4, h5⟩ := h
    unfold shc
    rw [← go_nothing, go_app, go_app, go_nothing, go_start h1 h2]
    rcases List.eq_nil_or_concat gs with rfl | ⟨ds, g, rfl⟩
    · show go (.keep b a) [78] = _
      show (Fm.keep b a).both (.cr 0 0 1) = _
      rw [st_kN h2, ← h5]
      rfl
    · rw [List.concat_eq_append] at h4 h5 ⊢
      have hg : 2 ≤ g := h4 g (by simp)
      rw [drop_snoc, go_app]
      show go (go (go ((Fm.keep b a).both (.lf 0 0 1 0)) (segs ds)) (List.replicate (g - 1) 85)) [78] = _
      rw [st_kM h2, go_segs ds (one fun x hx => h4 x (List.mem_append_left _ hx)), go_lU _ (by decide)]
      show (Fm.lf b a _ _).both (.cr 0 0 1) = _
      rw [st_lN (by omega), ← h5, pr_snoc]
      congr 1
      rw [Int.one_mul, Int.natCast_mul]
      congr 1
      omega
theorem segs_len : ∀ {gs : List Nat}, (∀ g ∈ gs, 1 ≤ g) → (segs gs).length = gs.sum
  | [], _ => rfl
  | g :: gs, h => by
    have hg := h g (List.mem_cons_self ..)
    have ih := segs_len fun x hx => h x (List.mem_cons_of_mem _ hx)
    show (seg g ++ segs gs).length = _
    rw [List.length_append, ih, List.sum_cons]
    unfold seg
    rw [List.length_append, List.length_replicate]
    show g - 1 + 1 + _ = _
    omega
theorem start_len {b a : Int} (hb : 0 ≤ b) (ha : 0 ≤ a) : ((startL b a).length : Int) = b + a := by
  unfold startL
  rw [List.length_append, List.length_replicate, List.length_replicate]
  omega
theorem shc_len {f : Fm} {gs : List Nat} (h : Fac f gs) : ((shc f gs).length : Int) = stepsF f gs := by
  have one : ∀ {l : List Nat}, (∀ g ∈ l, 2 ≤ g) → ∀ g ∈ l, 1 ≤ g := fun h g hg => by have := h g hg; omega
  cases f with
  | keep b a => exact start_len h.1 h.2
  | lf b a k c =>
    obtain ⟨h1, h2, h3, h4, h5⟩ := h
    have e1 := start_len h1 h2
    have e2 := segs_len (one h4)
    unfold shc
    rw [List.length_append, List.length_append, List.length_cons, List.length_replicate]
    show _ = b + a + 1 + (gs.sum : Int) + c
    omega
  | cr b a k =>
    obtain ⟨h1, h2, h4, h5⟩ := h
    have e1 := start_len h1 h2
    have e2 := segs_len (one h4)
    unfold shc
    rw [List.length_append, List.length_append, List.length_dropLast, List.length_cons]
    show ((((startL b a).length + ((segs gs).length + 1 - 1) + 1 : Nat)) : Int) = b + a + 1 + (gs.sum : Int)
    omega
theorem seg_ok {p c : Nat} (h : c ∈ seg p) : c = 85 ∨ c = 77 := by
  unfold seg at h
  rcases List.mem_append.mp h with h | h
  · exact .inl (List.mem_replicate.mp h).2
  · exact .inr (List.mem_singleton.mp h)
theorem segs_ok {gs : List Nat} {c : Nat} (h : c ∈ 77 :: segs gs) : c = 85 ∨ c = 77 := by
  rcases List.mem_cons.mp h with h | h
  · exact .inr h
  · obtain ⟨g, _, hg⟩ := List.mem_flatMap.mp h
    exact seg_ok hg
theorem start_ok {b a : Int} {c : Nat} (h : c ∈ startL b a) : c = 68 ∨ c = 85 := by
  unfold startL at h
  rcases List.mem_append.mp h with h | h
  · exact .inl (List.mem_replicate.mp h).2
  · exact .inr (List.mem_replicate.mp h).2
theorem steps_list : steps.cps.toList = [85, 68, 77, 78] := by decide
theorem shc_ok {f : Fm} {gs : List Nat} : ∀ c ∈ shc f gs, c ∈ steps.cps.toList := fun c h => by
  rw [steps_list]
  simp only [List.mem_cons, List.not_mem_nil, or_false]
  cases f with
  | keep b a => rcases start_ok h with h | h <;> omega
  | lf b a k d =>
    unfold shc at h
    rcases List.mem_append.mp h with h | h
    · rcases List.mem_append.mp h with h | h
      · rcases start_ok h with h | h <;> omega
      · rcases segs_ok h with h | h <;> omega
    · have := (List.mem_replicate.mp h).2
      omega
  | cr b a k =>
    unfold shc at h
    rcases List.mem_append.mp h with h | h
    · rcases List.mem_append.mp h with h | h
      · rcases start_ok h with h | h <;> omega
      · rcases segs_ok (List.dropLast_subset _ h) with h | h <;> omega
    · have := List.mem_singleton.mp h
      omega
/-- a form of at most n steps has a chain -/
theorem low_chain {f : Fm} {n : Nat} (h : LowB f n) : ∃ cs : List Nat, (∀ c ∈ cs, c ∈ steps.cps.toList) ∧ cs.length ≤ n ∧ formL cs = f := by
  have main : ∀ gs, Fac f gs → stepsF f gs ≤ n → ∃ cs : List Nat, (∀ c ∈ cs, c ∈ steps.cps.toList) ∧ cs.length ≤ n ∧ formL cs = f := fun gs hf hs =>
    ⟨shc f gs, shc_ok, by have := shc_len hf; omega, shc_form hf⟩
  cases f with
  | keep b a => exact main [] ⟨h.1, h.2.1⟩ h.2.2
  | lf b a k c =>
    obtain ⟨h1, h2, h3, gs, h4, h5, h6⟩ := h
    exact main gs ⟨h1, h2, h3, h4, h5⟩ h6
  | cr b a k =>
    obtain ⟨h1, h2, gs, h4, h5, h6⟩ := h
    exact main gs ⟨h1, h2, h4, h5⟩ h6
theorem low_mono {f : Fm} {n m : Nat} (h : LowB f n) (k : n ≤ m) : LowB f m := by
  cases f with
  | keep b a => exact ⟨h.1, h.2.1, by have := h.2.2; omega⟩
  | lf b a k' c =>
    obtain ⟨h1, h2, h3, gs, h4, h5, h6⟩ := h
    exact ⟨h1, h2, h3, gs, h4, h5, by omega⟩
  | cr b a k' =>
    obtain ⟨h1, h2, gs, h4, h5, h6⟩ := h
    exact ⟨h1, h2, gs, h4, h5, by omega⟩
theorem low_both {f g : Fm} {n m : Nat} (hf : LowB f n) (hg : LowB g m) (hn : n + m ≤ 7000) : LowB (f.both g) (n + m) := by
  obtain ⟨cs, c1, c2, rfl⟩ := low_chain hf
  obtain ⟨ds, d1, d2, rfl⟩ := low_chain hg
  have e : ∀ {l : List Nat}, (∀ c ∈ l, c ∈ steps.cps.toList) → ChOk ⟨l.toArray⟩ := fun h => h
  have := formOf_app (x := ⟨cs.toArray⟩) (y := ⟨ds.toArray⟩) (e c1) (e d1) (by show cs.length + ds.length ≤ 7000; omega)
  have h2 : formOf ((⟨cs.toArray⟩ : Str) ++ ⟨ds.toArray⟩) = formL (cs ++ ds) := by
    show formL (cs.toArray ++ ds.toArray).toList = _
    rw [Array.toList_append]
  have h3 : formL (cs ++ ds) = (formL cs).both (formL ds) := h2.symm.trans this
  rw [← h3]
  exact low_mono (low_form _ (cs ++ ds) rfl fun c hc => by
    rcases List.mem_append.mp hc with h | h
    · exact c1 c h
    · exact d1 c h) (by rw [List.length_append]; omega)
end Lw
namespace Lw
open PySem PySem.Spec L2 Lx
/-! ### how much longer a form makes a text -/
def wt : Fm → Nat
  | .keep _ a => a.toNat + 1
  | .lf _ a k c => (a.toNat + 1) * (k.toNat * (c.toNat + 1))
  | .cr _ a k => (a.toNat + 1) * k.toNat
theorem sd_wt (b a : Nat) : ∀ (rows : List Nat) (rest : Nat), unT (sdRows b a rows) rest ≤ unT rows rest * (a + 1)
  | [], rest => by
    show unT [] rest ≤ _
    exact Nat.le_mul_of_pos_right _ (Nat.succ_pos _)
  | j :: rows, rest => by
    have ih := sd_wt b a rows rest
    have e1 : unT (sdRows b a (j :: rows)) rest = (j - b + a + 1) + unT (sdRows b a rows) rest := by
      unfold unT sdRows
      rw [List.map_cons, List.sum_cons, List.length_cons]
      omega
    have e2 : unT (j :: rows) rest = (j + 1) + unT rows rest := by
      unfold unT
      rw [List.sum_cons, List.length_cons]
      omega
    rw [e1, e2, Nat.add_mul]
    have h : j - b + a + 1 ≤ (j + 1) * (a + 1) := by
      have : j * 1 ≤ j * (a + 1) := Nat.mul_le_mul_left _ (by omega)
      rw [Nat.add_mul]
      omega
    omega
theorem said_wt {m : Nat} {f : Fm} (hf : f.Ok m) (rows : List Nat) (rest : Nat) : (saidT f rows rest).length ≤ unT rows rest * wt f := by
  rcases natF hf with ⟨b, a, rfl⟩ | ⟨b, a, k, c, rfl⟩ | ⟨b, a, k, rfl⟩
  · show (spT (sdRows b a rows) rest).length ≤ unT rows rest * (a + 1)
    rw [spT_len]
    exact sd_wt b a rows rest
  · show (spT (List.replicate (k * unT (sdRows b a rows) rest) c) 0).length ≤ unT rows rest * ((a + 1) * (k * (c + 1)))
    rw [spT_len, unT_rep, Nat.add_zero, ← Nat.mul_assoc, Nat.mul_comm k, Nat.mul_assoc]
    exact Nat.mul_le_mul_right _ (sd_wt b a rows rest)
  · show (spT [] (k * unT (sdRows b a rows) rest)).length ≤ unT rows rest * ((a + 1) * k)
    rw [spT_len, ← Nat.mul_assoc, Nat.mul_comm k]
    have : unT [] (unT (sdRows b a rows) rest * k) = unT (sdRows b a rows) rest * k := by simp [unT]
    rw [this]
    exact Nat.mul_le_mul_right _ (sd_wt b a rows rest)
theorem wt_pos {m : Nat} {f : Fm} (hf : f.Ok m) : 1 ≤ wt f := by
  rcases natF hf with ⟨b, a, rfl⟩ | ⟨b, a, k, c, rfl⟩ | ⟨b, a, k, rfl⟩
  · exact Nat.succ_pos _
  · have hk : 0 < k := by have := hf.2.2.1; omega
    exact Nat.mul_pos (Nat.succ_pos _) (Nat.mul_pos hk (Nat.succ_pos _))
  · have hk : 0 < k := by have := hf.2.2.1; omega
    exact Nat.mul_pos (Nat.succ_pos _) hk
theorem done_wt {cs : List Nat} (hl : cs.length ≤ 60) (hc : ∀ c ∈ cs, c ∈ steps.cps.toList) : ∀ (n : Nat) (l : List Nat), l.length ≤ n → (doneT l cs).length ≤ l.length * wt (formL cs)
  | n, l, hn => by
    have hok := (formL_fle _ cs rfl (by omega) hc).ok
    have w1 := wt_pos hok
    have key : ∀ a : List Nat, Signs a → (doneT a cs).length ≤ a.length * wt (formL cs) := fun a ha => by
      obtain ⟨rows, rest, rfl⟩ := spT_of a ha
      rw [← said_done rows rest _ cs rfl hl hc, spT_len]
      exact said_wt hok rows rest
    obtain ⟨a, ha, h | ⟨e, r, he, h, hlt⟩⟩ := cut_text l
    · rw [h]
      exact key a ha
    · cases n with
      | zero => omega
      | succ n =>
        have ih := done_wt hl hc n r (by omega)
        rw [h, doneT_sep he, List.length_append, List.length_cons, List.length_append, List.length_cons, Nat.add_mul, Nat.succ_mul]
        have := key a ha
        omega
end Lw
namespace Lw
open PySem PySem.Spec L2 Lx
/-! ### a form told by three runs -/
theorem merged_rep (c : Int) : ∀ k : Nat, Lx.merged (List.replicate k ((1 : Int), c)) = if k = 0 then [] else [((k : Int), c)]
  | 0 => rfl
  | k + 1 => by
    rw [List.replicate_succ', merged_snoc, merged_rep c k, if_neg (Nat.succ_ne_zero k)]
    by_cases h : k = 0
    · subst h
      rfl
    · rw [if_neg h]
      show addTo ([] ++ [((k : Int), c)]) (1, c) = _
      rw [addTo_end, if_pos rfl]
      show [((k : Int) + 1, c)] = _
      rw [Int.natCast_succ]
def rowP (rows : List Nat) : List (Int × Int) := rows.map fun n : Nat => ((1 : Int), (n : Int))
theorem total_rows : ∀ rows : List Nat, total (rowP rows) = ((rows.sum + rows.length : Nat) : Int)
  | [] => rfl
  | n :: rows => by
    have ih := total_rows rows
    unfold total rowP at ih ⊢
    rw [List.map_cons, List.map_cons, List.sum_cons, ih, List.sum_cons, List.length_cons]
    show 1 * ((n : Int) + 1) + _ = _
    omega
theorem units_rnT (rows : List Nat) (rest : Nat) : units (rnT rows rest) nothing = (unT rows rest : Int) := by
  show total (moved nothing (Lx.merged (rowP rows))) + (rest : Int) = _
  rw [moved_on, total_on _ _ _ rfl, ← moved_on, moved_nothing (gs := rowP rows) fun x hx => by
    obtain ⟨n, _, rfl⟩ := List.mem_map.mp hx
    exact Int.natCast_nonneg n, total_rows]
  unfold unT
  omega
theorem rnT_rep (k c : Nat) : rnT (List.replicate k c) 0 = (if k = 0 then [] else [((k : Int), (c : Int))], 0) := by
  unfold rnT
  rw [List.map_replicate, merged_rep]
  rfl
theorem rn_none (k : Nat) {n : Nat} (h : k < 2 ^ n) : RnOk n (rnT [] k) := ⟨fun i x hx => by
  have : ([] : List (Int × Int))[i]? = some x := hx
  simp at this, ⟨Int.natCast_nonneg _, by unfold Sm rnT; show (k : Int).natAbs < _; omega⟩, by show 0 ≤ 1000; decide⟩
theorem rn_some {k c n : Nat} (hk : k < 2 ^ n) (hc : c < 2 ^ n) : RnOk n (rnT (List.replicate k c) 0) := by
  rw [rnT_rep]
  by_cases h : k = 0
  · rw [if_pos h]
    refine ⟨fun i x hx => ?_, ⟨Int.le_refl _, Nat.two_pow_pos n⟩, by show 0 ≤ 1000; decide⟩
    have : ([] : List (Int × Int))[i]? = some x := hx
    simp at this
  · rw [if_neg h]
    refine ⟨fun i x hx => ?_, ⟨Int.le_refl _, Nat.two_pow_pos n⟩, by show 1 ≤ 1000; decide⟩
    cases i with
    | zero =>
      cases Option.some.inj hx
      refine ⟨by omega, Int.natCast_nonneg _, by unfold Sm; omega, by unfold Sm; omega, fun y hy => ?_⟩
      have : ([] : List (Int × Int))[0]? = some y := hy
      simp at this
    | succ i =>
      have : ([] : List (Int × Int))[i]? = some x := hx
      simp at this
/-- the form that is read off two runs and two numbers -/
def fwF (r r2 : Rn) (b a : Int) : Fm := match r.1 with
  | (k, c) :: _ => .lf b a k c
  | [] => if r2.1 = [] then .cr b a r.2 else .keep b a
theorem find_ok {m L : Nat} {f : Fm} (hf : f.Ok m) (hb : f.b ≤ L) (l1 : (saidT f [] 1).length ≤ 1000000) (l2 : (saidT f [0] 0).length ≤ 1000000) (l3 : (saidT f [L] 0).length ≤ 1000000) :
    RnOk 20 (rpT (saidT f [] 1)) ∧ RnOk 20 (rpT (saidT f [0] 0)) ∧ RnOk 20 (rpT (saidT f [L] 0)) ∧
    ∃ u : Nat, 0 < u ∧ u ≤ 1000000 ∧ units (rpT (saidT f [] 1)) nothing = (u : Int) ∧ 0 ≤ units (rpT (saidT f [0] 0)) nothing ∧ 0 ≤ units (rpT (saidT f [L] 0)) nothing ∧
    units (rpT (saidT f [0] 0)) nothing ≤ 1000000 ∧ units (rpT (saidT f [L] 0)) nothing ≤ 1000000 ∧
    units (rpT (saidT f [0] 0)) nothing / (u : Int) - 1 = f.a ∧ (L : Int) + f.a + 1 - units (rpT (saidT f [L] 0)) nothing / (u : Int) = f.b ∧
    fwF (rpT (saidT f [] 1)) (rpT (saidT f [0] 0)) f.b f.a = f := by
  have p20 : (2 : Nat) ^ 20 = 1048576 := by decide
  have ediv : ∀ k x : Nat, 0 < k → ((k * x : Nat) : Int) / (k : Int) = (x : Int) := fun k x h => by
    rw [Int.natCast_mul, Int.mul_ediv_cancel_left _ (by omega)]
  rcases natF hf with ⟨b, a, rfl⟩ | ⟨b, a, k, c, rfl⟩ | ⟨b, a, k, rfl⟩
  · obtain ⟨e1, e2, e3⟩ := said_keep b a L
    rw [e1, spT_len] at l1
    rw [e2, spT_len, unT_one] at l2
    rw [e3, spT_len, unT_one] at l3
    have hb' : (b : Int) ≤ L := hb
    rw [e1, e2, e3, rpT_spT, rpT_spT, rpT_spT, units_rnT, units_rnT, units_rnT, unT_one, unT_one]
    refine ⟨rn_none 1 (by decide), ?_, ?_, 1, by decide, by decide, rfl, by omega, by omega, by omega, by omega, ?_, ?_, ?_⟩
    · exact rn_some (k := 1) (c := a) (by decide) (by omega)
    · exact rn_some (k := 1) (c := L - b + a) (by decide) (by omega)
    · show _ = (a : Int)
      rw [Int.natCast_one, Int.ediv_one]
      omega
    · show _ = (b : Int)
      rw [Int.natCast_one, Int.ediv_one]
      show (L : Int) + (a : Int) + 1 - _ = _
      omega
    · rfl
  · obtain ⟨e1, e2, e3⟩ := said_lf b a k c L
    have hk : 0 < k := by have := hf.2.2.1; omega
    rw [e1, spT_len, unT_rep] at l1
    rw [e2, spT_len, unT_rep] at l2
    rw [e3, spT_len, unT_rep] at l3
    have hb' : (b : Int) ≤ L := hb
    rw [e1, e2, e3, rpT_spT, rpT_spT, rpT_spT, units_rnT, units_rnT, units_rnT, unT_rep, unT_rep, unT_rep]
    have m1 : k * 1 ≤ k * 1 * (c + 1) := Nat.le_mul_of_pos_right _ (by omega)
    have m2 : k * (a + 1) ≤ k * (a + 1) * (c + 1) := Nat.le_mul_of_pos_right _ (by omega)
    have m3 : k * (L - b + a + 1) ≤ k * (L - b + a + 1) * (c + 1) := Nat.le_mul_of_pos_right _ (by omega)
    have mc : c + 1 ≤ k * 1 * (c + 1) := Nat.le_mul_of_pos_left _ (by omega)
    have q2 : k * (a + 1) * (c + 1) + 0 = k * 1 * (c + 1) * (a + 1) := by
      rw [Nat.add_zero, Nat.mul_one, Nat.mul_assoc, Nat.mul_comm (a + 1), ← Nat.mul_assoc]
    have q3 : k * (L - b + a + 1) * (c + 1) + 0 = k * 1 * (c + 1) * (L - b + a + 1) := by
      rw [Nat.add_zero, Nat.mul_one, Nat.mul_assoc, Nat.mul_comm (L - b + a + 1), ← Nat.mul_assoc]
    have u0 : 0 < k * 1 * (c + 1) := by omega
    refine ⟨rn_some (by omega) (by omega), rn_some (by omega) (by omega), rn_some (by omega) (by omega), k * 1 * (c + 1), u0, by omega, by rw [Nat.add_zero], by omega, by omega, by omega, by omega, ?_, ?_, ?_⟩
    · show _ = (a : Int)
      rw [q2, ediv _ _ u0]
      omega
    · show (L : Int) + (a : Int) + 1 - _ = (b : Int)
      rw [q3, ediv _ _ u0]
      omega
    · rw [rnT_rep, if_neg (by omega)]
      show Fm.lf b a ((k * 1 : Nat) : Int) c = _
      rw [Nat.mul_one]
  · obtain ⟨e1, e2, e3⟩ := said_cr b a k L
    have hk : 0 < k := by have := hf.2.2.1; omega
    rw [e1, spT_len] at l1
    rw [e2, spT_len] at l2
    rw [e3, spT_len] at l3
    have un : ∀ x : Nat, unT [] x = x := fun x => by simp [unT]
    rw [un] at l1 l2 l3
    have hb' : (b : Int) ≤ L := hb
    rw [e1, e2, e3, rpT_spT, rpT_spT, rpT_spT, units_rnT, units_rnT, units_rnT, un, un, un]
    refine ⟨rn_none _ (by omega), rn_none _ (by omega), rn_none _ (by omega), k * 1, by omega, by omega, rfl, by omega, by omega, by omega, by omega, ?_, ?_, ?_⟩
    · show _ = (a : Int)
      rw [Nat.mul_one, ediv _ _ hk]
      omega
    · show (L : Int) + (a : Int) + 1 - _ = (b : Int)
      rw [Nat.mul_one, ediv _ _ hk]
      omega
    · show Fm.cr b a ((k * 1 : Nat) : Int) = _
      rw [Nat.mul_one]
/-- the question: a return, a newline, and a group -/
def qT (L : Nat) : List Nat := spT [] 1 ++ 32 :: (spT [0] 0 ++ 32 :: spT [L] 0)
theorem sep32 : Sep 32 := ⟨by decide, by decide⟩
theorem qT_done (L : Nat) (cs : List Nat) : doneT (qT L) cs = doneT (spT [] 1) cs ++ 32 :: (doneT (spT [0] 0) cs ++ 32 :: doneT (spT [L] 0) cs) := by
  unfold qT
  rw [doneT_sep sep32, doneT_sep sep32]
theorem qT_len (L : Nat) : (qT L).length = L + 5 := by
  unfold qT
  rw [List.length_append, List.length_cons, List.length_append, List.length_cons, spT_len, spT_len, spT_len]
  simp [unT]
  omega
theorem said_signs (f : Fm) (rows : List Nat) (rest : Nat) : Signs (saidT f rows rest) := by
  cases f <;> exact spT_signs _ _
theorem said_ne {m : Nat} {f : Fm} (hf : f.Ok m) {rows : List Nat} {rest : Nat} (h : 0 < unT rows rest) : saidT f rows rest ≠ [] := fun z => by
  have hl : (saidT f rows rest).length = 0 := by rw [z]; rfl
  have pos : ∀ b a : Nat, 0 < unT (sdRows b a rows) rest := fun b a => by
    unfold unT sdRows at *
    rw [List.length_map]
    cases rows with
    | nil => simp at h ⊢; omega
    | cons r rows => rw [List.length_cons]; omega
  rcases natF hf with ⟨b, a, rfl⟩ | ⟨b, a, k, c, rfl⟩ | ⟨b, a, k, rfl⟩
  · have := pos b a
    change (spT (sdRows b a rows) rest).length = 0 at hl
    rw [spT_len] at hl
    omega
  · have hk : 0 < k := by have := hf.2.2.1; omega
    have := Nat.mul_pos hk (pos b a)
    change (spT (List.replicate (k * unT (sdRows b a rows) rest) c) 0).length = 0 at hl
    rw [spT_len, unT_rep] at hl
    have h2 : k * unT (sdRows b a rows) rest ≤ k * unT (sdRows b a rows) rest * (c + 1) := Nat.le_mul_of_pos_right _ (by omega)
    omega
  · have hk : 0 < k := by have := hf.2.2.1; omega
    have := Nat.mul_pos hk (pos b a)
    change (spT [] (k * unT (sdRows b a rows) rest)).length = 0 at hl
    rw [spT_len] at hl
    simp [unT] at hl this
    omega
theorem runs_q {m L : Nat} {f : Fm} (hf : f.Ok m) : runsT (saidT f [] 1 ++ 32 :: (saidT f [0] 0 ++ 32 :: saidT f [L] 0)) = [rpT (saidT f [] 1), rpT (saidT f [0] 0), rpT (saidT f [L] 0)] := by
  unfold runsT
  rw [pieces_cons (said_signs f [] 1) sep32, pieces_cons (said_signs f [0] 0) sep32, pieces_last (said_signs f [L] 0), if_neg (said_ne hf (by decide)), if_neg (said_ne hf (by decide)), if_neg (said_ne hf (by simp [unT]))]
  rfl
end Lw
namespace Lw
open PySem PySem.Spec L2 Lx
/-! ### the prime factors in ascending order -/
structure IsPf (k : Nat) (fs : List Nat) : Prop where
  pm : ∀ p ∈ fs, Pm p
  prod : pr fs = k
  up : fs.Pairwise (· ≤ ·)
theorem Pm.eq {p q : Nat} (hp : Pm p) (hq : Pm q) (h : p ∣ q) : p = q := by
  rcases hq.2 p h with h1 | h1
  · have := hp.1; omega
  · exact h1
theorem Pm.mem {p : Nat} (hp : Pm p) {fs : List Nat} (hf : ∀ q ∈ fs, Pm q) (h : p ∣ pr fs) : p ∈ fs := by
  obtain ⟨a, g, b, rfl, hg⟩ := hp.dvd_pr h
  have := hp.eq (hf g (by simp)) hg
  subst this
  simp
theorem IsPf.uniq : ∀ {fs gs : List Nat} {k : Nat}, IsPf k fs → IsPf k gs → fs = gs
  | [], [], _, _, _ => rfl
  | [], g :: gs, k, hf, hg => by
    have h1 := (hg.pm g (List.mem_cons_self ..)).1
    have h2 : g * pr gs = 1 := hg.prod.trans hf.prod.symm
    have h3 := pr_pos fun x hx => (hg.pm x (List.mem_cons_of_mem _ hx)).1
    have := Nat.mul_le_mul h1 h3
    omega
  | f :: fs, [], k, hf, hg => by
    have h1 := (hf.pm f (List.mem_cons_self ..)).1
    have h2 : f * pr fs = 1 := hf.prod.trans hg.prod.symm
    have h3 := pr_pos fun x hx => (hf.pm x (List.mem_cons_of_mem _ hx)).1
    have := Nat.mul_le_mul h1 h3
    omega
  | f :: fs, g :: gs, k, hf, hg => by
    have pf := hf.pm f (List.mem_cons_self ..)
    have pg := hg.pm g (List.mem_cons_self ..)
    have e : pr (f :: fs) = pr (g :: gs) := hf.prod.trans hg.prod.symm
    have m1 := pf.mem hg.pm (by rw [← e]; exact ⟨pr fs, rfl⟩)
    have m2 := pg.mem hf.pm (by rw [e]; exact ⟨pr gs, rfl⟩)
    have le1 : g ≤ f := by
      rcases List.mem_cons.mp m1 with h | h
      · omega
      · exact (List.pairwise_cons.mp hg.up).1 f h
    have le2 : f ≤ g := by
      rcases List.mem_cons.mp m2 with h | h
      · omega
      · exact (List.pairwise_cons.mp hf.up).1 g h
    have : f = g := by omega
    subst this
    have e2 : pr fs = pr gs := Nat.eq_of_mul_eq_mul_left (by have := pf.1; omega) e
    have := IsPf.uniq (fs := fs) (gs := gs) (k := pr gs) ⟨fun p h => hf.pm p (List.mem_cons_of_mem _ h), e2, (List.pairwise_cons.mp hf.up).2⟩ ⟨fun p h => hg.pm p (List.mem_cons_of_mem _ h), rfl, (List.pairwise_cons.mp hg.up).2⟩
    rw [this]
/-! ### forms between two forms -/
def wba : Fm → Int → Int → Fm
  | .keep _ _, b, a => .keep b a
  | .lf _ _ k c, b, a => .lf b a k c
  | .cr _ _ k, b, a => .cr b a k
def ch1 (j w : Int) : Int := if j - w > 0 then j - w else 0
def btw (dv : Int → List Int) : Fm → Fm → List Fm
  | .keep b a, g => if g.b < b then [] else if g.b > b then [wba g (a + g.b - b) g.a] else [wba g (ch1 a g.a) (ch1 g.a a)]
  | .lf _ _ _ _, .keep _ _ => []
  | .cr _ _ _, .keep _ _ => []
  | .lf b a k c, .lf b' a' k' c' => if b = b' ∧ a = a' ∧ k'.fmod k = 0 then (if k' / k = 1 then [.keep (ch1 c c') (ch1 c' c)] else (dv (k' / k)).map fun u => .lf (ch1 c (u - 1)) (ch1 (u - 1) c) (k' / k / u) c') else []
  | .lf b a k c, .cr b' a' k' => if b = b' ∧ a = a' ∧ k'.fmod k = 0 then (dv (k' / k)).map fun u => .cr (ch1 c (u - 1)) (ch1 (u - 1) c) (k' / k / u) else []
  | .cr b a k, .cr b' a' k' => if b = b' ∧ a = a' ∧ k'.fmod k = 0 then (if k' / k = 1 then [.keep 0 0] else [.cr 0 0 (k' / k)]) else []
  | .cr b a k, .lf b' a' k' c' => if b = b' ∧ a = a' ∧ k'.fmod k = 0 then [.lf 0 0 (k' / k) c'] else []
theorem btw_k {dv : Int → List Int} {b a : Int} {g : Fm} : btw dv (.keep b a) g = if g.b < b then [] else if g.b > b then [wba g (a + g.b - b) g.a] else [wba g (ch1 a g.a) (ch1 g.a a)] := by cases g <;> rfl
theorem btw_ll {dv : Int → List Int} {b a k c b' a' k' c' : Int} : btw dv (.lf b a k c) (.lf b' a' k' c') = if b = b' ∧ a = a' ∧ k'.fmod k = 0 then (if k' / k = 1 then [.keep (ch1 c c') (ch1 c' c)] else (dv (k' / k)).map fun u => .lf (ch1 c (u - 1)) (ch1 (u - 1) c) (k' / k / u) c') else [] := rfl
theorem btw_lc {dv : Int → List Int} {b a k c b' a' k' : Int} : btw dv (.lf b a k c) (.cr b' a' k') = if b = b' ∧ a = a' ∧ k'.fmod k = 0 then (dv (k' / k)).map fun u => .cr (ch1 c (u - 1)) (ch1 (u - 1) c) (k' / k / u) else [] := rfl
theorem btw_cc {dv : Int → List Int} {b a k b' a' k' : Int} : btw dv (.cr b a k) (.cr b' a' k') = if b = b' ∧ a = a' ∧ k'.fmod k = 0 then (if k' / k = 1 then [.keep 0 0] else [.cr 0 0 (k' / k)]) else [] := rfl
theorem btw_cl {dv : Int → List Int} {b a k b' a' k' c' : Int} : btw dv (.cr b a k) (.lf b' a' k' c') = if b = b' ∧ a = a' ∧ k'.fmod k = 0 then [.lf 0 0 (k' / k) c'] else [] := rfl
/-- numbers that are not negative, k positive -/
def NN : Fm → Prop
  | .keep b a => 0 ≤ b ∧ 0 ≤ a
  | .lf b a k c => 0 ≤ b ∧ 0 ≤ a ∧ 0 < k ∧ 0 ≤ c
  | .cr b a k => 0 ≤ b ∧ 0 ≤ a ∧ 0 < k
theorem low_nn {f : Fm} {n : Nat} (h : LowB f n) : NN f := by
  cases f with
  | keep b a => exact ⟨h.1, h.2.1⟩
  | lf b a k c =>
    obtain ⟨h1, h2, h3, gs, h4, h5, h6⟩ := h
    exact ⟨h1, h2, by have := pr_pos h4; omega, h3⟩
  | cr b a k =>
    obtain ⟨h1, h2, gs, h4, h5, h6⟩ := h
    exact ⟨h1, h2, by have := pr_pos h4; omega⟩
theorem ch1_le {j w : Int} : 0 ≤ ch1 j w ∧ (j ≤ w → ch1 j w = 0) ∧ (w ≤ j → ch1 j w = j - w) := by
  unfold ch1
  refine ⟨by split <;> omega, fun h => by split <;> omega, fun h => by split <;> omega⟩
theorem mul_div_l {k x : Int} (h : 0 < k) : k * x / k = x := Int.mul_ediv_cancel_left x (by omega)
theorem fmod_l {k x : Int} (h : 0 < k) : (k * x).fmod k = 0 := by
  rw [Int.fmod_eq_emod_of_nonneg _ (Int.le_of_lt h)]
  exact Int.mul_emod_right k x
/-- after c: what a form makes of the returns -/
theorem aft_lf {hb ha k d c : Int} : Fm.after (.lf hb ha k d) c = (if c - hb > 0 then c - hb else 0) + ha := rfl
theorem aft_cr {hb ha k c : Int} : Fm.after (.cr hb ha k) c = (if c - hb > 0 then c - hb else 0) + ha := rfl
/-- to every form that leads from f to g there is one of the list with as few steps -/
theorem btw_min {dv : Int → List Int} (hdv : ∀ q u : Int, 0 < u → 0 < q → u ∣ q → u ∈ dv q) {f h : Fm} {n : Nat} (hf : NN f) (hh : LowB h n) : ∃ w ∈ btw dv f (f.both h), LowB w n := by
  cases f with
  | keep b a =>
    obtain ⟨f1, f2⟩ := hf
    have eb : ((Fm.keep b a).both h).b = b + ch1 h.b a := by cases h <;> rfl
    have ea : ((Fm.keep b a).both h).a = ch1 a h.b + h.a := by cases h <;> rfl
    have ew : ∀ t p, wba ((Fm.keep b a).both h) t p = wba h t p := fun t p => by cases h <;> rfl
    have hn := low_nn hh
    have h1 : 0 ≤ h.b ∧ 0 ≤ h.a := by cases h <;> exact ⟨hn.1, by first | exact hn.2 | exact hn.2.1⟩
    have fin : ∀ t p : Int, 0 ≤ t → 0 ≤ p → t + p ≤ h.b + h.a → LowB (wba h t p) n := fun t p t0 p0 hs => by
      cases h with
      | keep hb' ha' => exact ⟨t0, p0, by have := hh.2.2; have hs' : t + p ≤ hb' + ha' := hs; omega⟩
      | lf hb' ha' k c =>
        obtain ⟨q1, q2, q3, gs, q4, q5, q6⟩ := hh
        have hs' : t + p ≤ hb' + ha' := hs
        exact ⟨t0, p0, q3, gs, q4, q5, by omega⟩
      | cr hb' ha' k =>
        obtain ⟨q1, q2, gs, q4, q5, q6⟩ := hh
        have hs' : t + p ≤ hb' + ha' := hs
        exact ⟨t0, p0, gs, q4, q5, by omega⟩
    obtain ⟨c0, c1, c2⟩ := @ch1_le h.b a
    obtain ⟨d0, d1, d2⟩ := @ch1_le a h.b
    rw [btw_k]
    rw [eb, ea, if_neg (by omega)]
    by_cases hc : h.b > a
    · have e1 := c2 (by omega)
      have e2 := d1 (by omega)
      rw [if_pos (by omega)]
      refine ⟨_, List.mem_singleton.mpr rfl, ?_⟩
      rw [ew]
      exact fin _ _ (by omega) (by omega) (by omega)
    · have e1 := c1 (by omega)
      have e2 := d2 (by omega)
      rw [if_neg (by omega)]
      refine ⟨_, List.mem_singleton.mpr rfl, ?_⟩
      rw [ew, e2]
      unfold ch1
      exact fin _ _ (by split <;> omega) (by split <;> omega) (by split <;> split <;> omega)
  | lf b a k c =>
    obtain ⟨f1, f2, f3, f4⟩ := hf
    cases h with
    | keep hb ha =>
      obtain ⟨q1, q2, q3⟩ := hh
      have e : (Fm.lf b a k c).both (.keep hb ha) = .lf b a k ((if c - hb > 0 then c - hb else 0) + ha) := rfl
      rw [e]
      rw [btw_ll]
      have e2 : k / k = 1 := Int.ediv_self (by omega)
      have e3 : k.fmod k = 0 := by have := fmod_l (x := 1) f3; rwa [Int.mul_one] at this
      rw [if_pos ⟨rfl, rfl, e3⟩, if_pos e2]
      refine ⟨_, List.mem_singleton.mpr rfl, ?_⟩
      unfold ch1
      exact ⟨by split <;> split <;> omega, by split <;> split <;> omega, by split <;> split <;> split <;> omega⟩
    | lf hb ha hk hc =>
      obtain ⟨q1, q2, q3, gs, q4, q5, q6⟩ := hh
      have hk0 : 0 < hk := by have := pr_pos q4; omega
      have hu0 : 0 ≤ (if c - hb > 0 then c - hb else 0) + ha := by split <;> omega
      have e : (Fm.lf b a k c).both (.lf hb ha hk hc) = .lf b a (k * ((if c - hb > 0 then c - hb else 0) + ha + 1) * hk) hc := rfl
      rw [e]
      generalize hu : (if c - hb > 0 then c - hb else 0) + ha = u at hu0
      rw [btw_ll]
      rw [Int.mul_assoc, if_pos ⟨rfl, rfl, fmod_l f3⟩, mul_div_l f3]
      by_cases hq : (u + 1) * hk = 1
      · rw [if_pos hq]
        refine ⟨_, List.mem_singleton.mpr rfl, ?_⟩
        have hu1 : u = 0 := by
          have : (u + 1) * 1 ≤ (u + 1) * hk := Int.mul_le_mul_of_nonneg_left (by omega) (by omega)
          omega
        unfold ch1
        refine ⟨by split <;> omega, by split <;> omega, ?_⟩
        split at hu <;> split <;> split <;> omega
      · rw [if_neg hq]
        refine ⟨_, List.mem_map.mpr ⟨u + 1, hdv _ _ (by omega) (Int.mul_pos (by omega) hk0) ⟨hk, rfl⟩, rfl⟩, ?_⟩
        rw [mul_div_l (by omega)]
        unfold ch1
        refine ⟨by split <;> omega, by split <;> omega, q3, gs, q4, q5, ?_⟩
        split at hu <;> split <;> split <;> omega
    | cr hb ha hk =>
      obtain ⟨q1, q2, gs, q4, q5, q6⟩ := hh
      have hk0 : 0 < hk := by have := pr_pos q4; omega
      have hu0 : 0 ≤ (if c - hb > 0 then c - hb else 0) + ha := by split <;> omega
      have e : (Fm.lf b a k c).both (.cr hb ha hk) = .cr b a (k * ((if c - hb > 0 then c - hb else 0) + ha + 1) * hk) := rfl
      rw [e]
      generalize hu : (if c - hb > 0 then c - hb else 0) + ha = u at hu0
      rw [btw_lc]
      rw [Int.mul_assoc, if_pos ⟨rfl, rfl, fmod_l f3⟩, mul_div_l f3]
      refine ⟨_, List.mem_map.mpr ⟨u + 1, hdv _ _ (by omega) (Int.mul_pos (by omega) hk0) ⟨hk, rfl⟩, rfl⟩, ?_⟩
      rw [mul_div_l (by omega)]
      unfold ch1
      refine ⟨by split <;> omega, by split <;> omega, gs, q4, q5, ?_⟩
      split at hu <;> split <;> split <;> omega
  | cr b a k =>
    obtain ⟨f1, f2, f3⟩ := hf
    cases h with
    | keep hb ha =>
      have e : (Fm.cr b a k).both (.keep hb ha) = .cr b a k := rfl
      rw [e]
      rw [btw_cc]
      have e2 : k / k = 1 := Int.ediv_self (by omega)
      have e3 : k.fmod k = 0 := by have := fmod_l (x := 1) f3; rwa [Int.mul_one] at this
      rw [if_pos ⟨rfl, rfl, e3⟩, if_pos e2]
      exact ⟨_, List.mem_singleton.mpr rfl, by decide, by decide, by omega⟩
    | lf hb ha hk hc =>
      obtain ⟨q1, q2, q3, gs, q4, q5, q6⟩ := hh
      have e : (Fm.cr b a k).both (.lf hb ha hk hc) = .lf b a (k * 1 * hk) hc := rfl
      rw [e]
      rw [btw_cl]
      rw [Int.mul_one, if_pos ⟨rfl, rfl, fmod_l f3⟩, mul_div_l f3]
      exact ⟨_, List.mem_singleton.mpr rfl, by decide, by decide, q3, gs, q4, q5, by omega⟩
    | cr hb ha hk =>
      obtain ⟨q1, q2, gs, q4, q5, q6⟩ := hh
      have e : (Fm.cr b a k).both (.cr hb ha hk) = .cr b a (k * 1 * hk) := rfl
      rw [e]
      rw [btw_cc]
      rw [Int.mul_one, if_pos ⟨rfl, rfl, fmod_l f3⟩, mul_div_l f3]
      by_cases hq : hk = 1
      · rw [if_pos hq]
        exact ⟨_, List.mem_singleton.mpr rfl, by decide, by decide, by omega⟩
      · rw [if_neg hq]
        exact ⟨_, List.mem_singleton.mpr rfl, by decide, by decide, gs, q4, q5, by omega⟩
theorem pos_r {a b : Int} (ha : 0 < a) (h : 0 < a * b) : 0 < b := by
  rcases Int.lt_or_le 0 b with h1 | h1
  · exact h1
  · have := Int.mul_le_mul_of_nonneg_left h1 (Int.le_of_lt ha)
    rw [Int.mul_zero] at this
    omega
theorem fmod_mul {k k' : Int} (hk : 0 < k) (h : k'.fmod k = 0) : k * (k' / k) = k' := by
  rw [Int.fmod_eq_emod_of_nonneg _ (Int.le_of_lt hk)] at h
  exact Int.mul_ediv_cancel' (Int.dvd_of_emod_eq_zero h)
/-- every form of the list leads from f to g -/
theorem btw_leads {dv : Int → List Int} (hdv : ∀ q u : Int, 0 < q → u ∈ dv q → 0 < u ∧ u ∣ q) {f g w : Fm} (hf : NN f) (hg : NN g) (hw : w ∈ btw dv f g) : f.both w = g ∧ NN w := by
  cases f with
  | keep b a =>
    obtain ⟨f1, f2⟩ := hf
    rw [btw_k] at hw
    have g1 : 0 ≤ g.b ∧ 0 ≤ g.a := by cases g <;> exact ⟨hg.1, by first | exact hg.2 | exact hg.2.1⟩
    have nw : ∀ t p : Int, 0 ≤ t → 0 ≤ p → NN (wba g t p) := fun t p t0 p0 => by
      cases g with
      | keep => exact ⟨t0, p0⟩
      | lf => exact ⟨t0, p0, hg.2.2.1, hg.2.2.2⟩
      | cr => exact ⟨t0, p0, hg.2.2⟩
    have ew : ∀ t p : Int, b + (if t - a > 0 then t - a else 0) = g.b → (if a - t > 0 then a - t else 0) + p = g.a → (Fm.keep b a).both (wba g t p) = g := fun t p e1 e2 => by
      cases g with
      | keep b' a' =>
        show Fm.keep (b + (if t - a > 0 then t - a else 0)) ((if a - t > 0 then a - t else 0) + p) = _
        rw [e1, e2]
        rfl
      | lf b' a' k c =>
        show Fm.lf (b + (if t - a > 0 then t - a else 0)) ((if a - t > 0 then a - t else 0) + p) k c = _
        rw [e1, e2]
        rfl
      | cr b' a' k =>
        show Fm.cr (b + (if t - a > 0 then t - a else 0)) ((if a - t > 0 then a - t else 0) + p) k = _
        rw [e1, e2]
        rfl
    split at hw
    · cases hw
    · split at hw
      · rw [List.mem_singleton.mp hw]
        exact ⟨ew _ _ (by split <;> omega) (by split <;> omega), nw _ _ (by omega) (by omega)⟩
      · rw [List.mem_singleton.mp hw]
        unfold ch1
        exact ⟨ew _ _ (by split <;> split <;> omega) (by split <;> split <;> split <;> omega), nw _ _ (by split <;> omega) (by split <;> omega)⟩
  | lf b a k c =>
    obtain ⟨f1, f2, f3, f4⟩ := hf
    have eu : ∀ u : Int, 0 < u → (if c - ch1 c (u - 1) > 0 then c - ch1 c (u - 1) else 0) + ch1 (u - 1) c + 1 = u := fun u hu => by
      unfold ch1
      split <;> split <;> split <;> omega
    have n1 : ∀ x y : Int, 0 ≤ ch1 x y := fun x y => ch1_le.1
    cases g with
    | keep b' a' => cases hw
    | lf b' a' k' c' =>
      obtain ⟨g1, g2, g3, g4⟩ := hg
      rw [btw_ll] at hw
      split at hw
      · rename_i hc
        obtain ⟨rfl, rfl, hk⟩ := hc
        have ek := fmod_mul f3 hk
        split at hw
        · rename_i hq
          rw [hq, Int.mul_one] at ek
          subst ek
          rw [List.mem_singleton.mp hw]
          refine ⟨?_, n1 _ _, n1 _ _⟩
          show Fm.lf b a k ((if c - ch1 c c' > 0 then c - ch1 c c' else 0) + ch1 c' c) = _
          congr 1
          unfold ch1
          split <;> split <;> split <;> omega
        · obtain ⟨u, hu, rfl⟩ := List.mem_map.mp hw
          have q0 : 0 < k' / k := by
            rw [← ek] at g3
            exact pos_r f3 g3
          obtain ⟨u0, x, hx⟩ := hdv _ u q0 hu
          have x0 : 0 < x := by
            rw [hx] at q0
            exact pos_r u0 q0
          rw [hx, mul_div_l u0]
          refine ⟨?_, n1 _ _, n1 _ _, x0, g4⟩
          show Fm.lf b a (k * ((if c - ch1 c (u - 1) > 0 then c - ch1 c (u - 1) else 0) + ch1 (u - 1) c + 1) * x) c' = _
          rw [eu u u0, Int.mul_assoc, ← hx, ek]
      · cases hw
    | cr b' a' k' =>
      obtain ⟨g1, g2, g3⟩ := hg
      rw [btw_lc] at hw
      split at hw
      · rename_i hc
        obtain ⟨rfl, rfl, hk⟩ := hc
        have ek := fmod_mul f3 hk
        obtain ⟨u, hu, rfl⟩ := List.mem_map.mp hw
        have q0 : 0 < k' / k := by
          rw [← ek] at g3
          exact pos_r f3 g3
        obtain ⟨u0, x, hx⟩ := hdv _ u q0 hu
        have x0 : 0 < x := by
          rw [hx] at q0
          exact pos_r u0 q0
        rw [hx, mul_div_l u0]
        refine ⟨?_, n1 _ _, n1 _ _, x0⟩
        show Fm.cr b a (k * ((if c - ch1 c (u - 1) > 0 then c - ch1 c (u - 1) else 0) + ch1 (u - 1) c + 1) * x) = _
        rw [eu u u0, Int.mul_assoc, ← hx, ek]
      · cases hw
  | cr b a k =>
    obtain ⟨f1, f2, f3⟩ := hf
    cases g with
    | keep b' a' => cases hw
    | lf b' a' k' c' =>
      obtain ⟨g1, g2, g3, g4⟩ := hg
      rw [btw_cl] at hw
      split at hw
      · rename_i hc
        obtain ⟨rfl, rfl, hk⟩ := hc
        have ek := fmod_mul f3 hk
        have q0 : 0 < k' / k := by
          rw [← ek] at g3
          exact pos_r f3 g3
        rw [List.mem_singleton.mp hw]
        refine ⟨?_, by decide, by decide, q0, g4⟩
        show Fm.lf b a (k * 1 * (k' / k)) c' = _
        rw [Int.mul_one, ek]
      · cases hw
    | cr b' a' k' =>
      obtain ⟨g1, g2, g3⟩ := hg
      rw [btw_cc] at hw
      split at hw
      · rename_i hc
        obtain ⟨rfl, rfl, hk⟩ := hc
        have ek := fmod_mul f3 hk
        have q0 : 0 < k' / k := by
          rw [← ek] at g3
          exact pos_r f3 g3
        split at hw
        · rename_i hq
          rw [hq, Int.mul_one] at ek
          subst ek
          rw [List.mem_singleton.mp hw]
          exact ⟨rfl, by decide, by decide⟩
        · rw [List.mem_singleton.mp hw]
          refine ⟨?_, by decide, by decide, q0⟩
          show Fm.cr b a (k * 1 * (k' / k)) = _
          rw [Int.mul_one, ek]
      · cases hw
end Lw
/-! texts, runs and forms: what a chain of any length makes -/
namespace Lw
open PySem PySem.Spec L2 Lx
open PySem.StrLaws
theorem said_done7 (rows : List Nat) (rest : Nat) : ∀ (k : Nat) (cs : List Nat), cs.length = k → k ≤ 7000 → (∀ c ∈ cs, c ∈ steps.cps.toList) → saidT (formL cs) rows rest = doneT (spT rows rest) cs
  | 0, cs, h, _, _ => by
    rw [List.length_eq_zero_iff.mp h]
    show spT (sdRows 0 0 rows) rest = spT rows rest
    rw [sd_0]
  | k + 1, cs, h, hk, hc => by
    rcases List.eq_nil_or_concat cs with rfl | ⟨ds, c, rfl⟩
    · cases h
    · have e : ds.length = k := by simpa using h
      rw [List.concat_eq_append] at hc ⊢
      have hd : ∀ c ∈ ds, c ∈ steps.cps.toList := fun c h => hc c (List.mem_append_left _ h)
      rw [formL_snoc, doneT_snoc, ← said_done7 rows rest k ds e (by omega) hd]
      exact said_step (formL_fle k ds e (by omega) hd).ok (hc c (by simp)) rows rest
/-- chains of one form make the same of every text -/
theorem done_same7 {cs cs' : List Nat} (h : formL cs = formL cs') (hl : cs.length ≤ 7000) (hl' : cs'.length ≤ 7000) (hc : ∀ c ∈ cs, c ∈ steps.cps.toList) (hc' : ∀ c ∈ cs', c ∈ steps.cps.toList) : ∀ (n : Nat) (l : List Nat), l.length ≤ n → doneT l cs = doneT l cs' := by
  have one : ∀ a, Signs a → doneT a cs = doneT a cs' := fun a ha => by
    obtain ⟨rows, rest, rfl⟩ := spT_of a ha
    rw [← said_done7 rows rest _ cs rfl hl hc, ← said_done7 rows rest _ cs' rfl hl' hc', h]
  intro n
  induction n with
  | zero =>
    intro l hn
    obtain rfl := List.length_eq_zero_iff.mp (Nat.le_zero.mp hn)
    rw [doneT_nil, doneT_nil]
  | succ n ih =>
    intro l hn
    obtain ⟨a, ha, rfl | ⟨e, r, he, rfl, hr⟩⟩ := cut_text l
    · exact one _ ha
    · rw [doneT_sep he, doneT_sep he, one a ha, ih r (by omega)]
theorem after_nat (b a j : Nat) (f : Fm) (hb : f.b = b) (ha : f.a = a) : f.after (j : Int) = ((j - b + a : Nat) : Int) := by
  unfold Fm.after
  rw [hb, ha]
  split <;> omega
theorem on_rows (b a : Nat) (f : Fm) (hb : f.b = b) (ha : f.a = a) (rows : List Nat) : on f.after (rowP rows) = rowP (sdRows b a rows) := by
  unfold on rowP sdRows
  rw [List.map_map, List.map_map]
  refine List.map_congr_left fun j _ => ?_
  show ((1 : Int), f.after (j : Int)) = _
  rw [after_nat b a j f hb ha]
  rfl
theorem units_rows (b a : Nat) (f : Fm) (hb : f.b = b) (ha : f.a = a) (rows : List Nat) (rest : Nat) : units (rnT rows rest) f = (unT (sdRows b a rows) rest : Int) := by
  show total (moved f (Lx.merged (rowP rows))) + (rest : Int) = _
  rw [moved_on, total_on _ _ _ rfl, on_rows b a f hb ha, total_rows]
  unfold unT
  omega
/-- the run of what a form makes of a text -/
theorem rp_after {m : Nat} {f : Fm} (hf : f.Ok m) (rows : List Nat) (rest : Nat) : rpT (saidT f rows rest) = runAfter (rnT rows rest) f := by
  rcases natF hf with ⟨b, a, rfl⟩ | ⟨b, a, k, c, rfl⟩ | ⟨b, a, k, rfl⟩
  · show rpT (spT (sdRows b a rows) rest) = (Lx.merged (moved (.keep b a) (Lx.merged (rowP rows))), (rest : Int))
    rw [rpT_spT, moved_on, merged_on _ _ _ rfl, on_rows b a (.keep b a) rfl rfl]
    rfl
  · show rpT (spT (List.replicate (k * unT (sdRows b a rows) rest) c) 0) = if (k : Int) * units (rnT rows rest) (.lf b a k c) = 0 then ([], 0) else ([((k : Int) * units (rnT rows rest) (.lf b a k c), (c : Int))], 0)
    rw [rpT_spT, rnT_rep, units_rows b a (.lf b a k c) rfl rfl, ← Int.natCast_mul]
    by_cases h : k * unT (sdRows b a rows) rest = 0
    · rw [if_pos h, if_pos (by rw [h]; rfl)]
    · rw [if_neg h, if_neg (by omega)]
  · show rpT (spT [] (k * unT (sdRows b a rows) rest)) = ([], (k : Int) * units (rnT rows rest) (.cr b a k))
    rw [rpT_spT, units_rows b a (.cr b a k) rfl rfl, ← Int.natCast_mul]
    rfl
theorem spT_nil {rows : List Nat} {rest : Nat} (h : spT rows rest ≠ []) : 0 < unT rows rest := Nat.pos_of_ne_zero fun z => h (List.eq_nil_of_length_eq_zero (by rw [spT_len]; exact z))
/-- the runs of what a chain makes of a text -/
theorem runs_done {cs : List Nat} (hl : cs.length ≤ 7000) (hc : ∀ c ∈ cs, c ∈ steps.cps.toList) : ∀ (n : Nat) (l : List Nat), l.length ≤ n → runsT (doneT l cs) = (runsT l).map fun r => runAfter r (formL cs) := by
  have hok := (formL_fle _ cs rfl hl hc).ok
  have one : ∀ a, Signs a → Signs (doneT a cs) ∧ (doneT a cs = [] ↔ a = []) ∧ rpT (doneT a cs) = runAfter (rpT a) (formL cs) := fun a ha => by
    obtain ⟨rows, rest, rfl⟩ := spT_of a ha
    refine ⟨?_, ⟨fun h => ?_, fun h => by rw [h, doneT_nil]⟩, ?_⟩
    · rw [← said_done7 rows rest _ cs rfl hl hc]
      exact said_signs _ _ _
    · refine Classical.byContradiction fun z => ?_
      rw [← said_done7 rows rest _ cs rfl hl hc] at h
      exact said_ne hok (spT_nil z) h
    · rw [← said_done7 rows rest _ cs rfl hl hc, rp_after hok, rpT_spT]
  have pc : ∀ a, Signs a → (if doneT a cs = [] then [] else [doneT a cs]).map rpT = ((if a = [] then [] else [a]).map rpT).map fun r => runAfter r (formL cs) := fun a ha => by
    obtain ⟨_, h2, h3⟩ := one a ha
    by_cases h : a = []
    · rw [if_pos h, if_pos (h2.mpr h)]; rfl
    · rw [if_neg h, if_neg (fun z => h (h2.mp z))]
      show [rpT (doneT a cs)] = [runAfter (rpT a) (formL cs)]
      rw [h3]
  intro n
  induction n with
  | zero =>
    intro l hn
    obtain rfl := List.length_eq_zero_iff.mp (Nat.le_zero.mp hn)
    rw [doneT_nil]
    rfl
  | succ n ih =>
    intro l hn
    obtain ⟨a, ha, rfl | ⟨e, r, he, rfl, hr⟩⟩ := cut_text l
    · unfold runsT
      rw [pieces_last ha, pieces_last (one _ ha).1]
      exact pc _ ha
    · have ih2 := ih r (by omega)
      unfold runsT at ih2 ⊢
      rw [doneT_sep he, pieces_cons ha he, pieces_cons (one _ ha).1 he, List.map_append, List.map_append, List.map_append, ih2, pc a ha]
theorem rn_ok {rows : List Nat} {rest : Nat} (h : (spT rows rest).length ≤ 500) : RnOk 40 (rnT rows rest) := by
  obtain ⟨rl, rs, rn⟩ := @rows_small rows rest
  have sm : ∀ {x : Nat} {k : Nat}, x ≤ 500 → 20 ≤ k → Sm k (x : Int) := fun {x k} hx hk => by
    have h1 : (2 : Nat) ^ 20 ≤ 2 ^ k := Nat.pow_le_pow_right (by decide) hk
    have h2 : (2 : Nat) ^ 20 = 1048576 := by decide
    unfold Sm
    rw [Int.natAbs_natCast]
    omega
  have el : (rowP rows).length = rows.length := List.length_map _
  have m := mi_fold (n := 20) (rowP rows) [] 0 (by omega) (fun x hx => by
    obtain ⟨j, hj, rfl⟩ := List.mem_map.mp hx
    exact ⟨Int.le_refl _, sm (x := 1) (by decide) (by decide), Int.natCast_nonneg _, sm (by have := rn j hj; omega) (by decide)⟩) ⟨(fun i x hx => by simp at hx), (fun x hx => by cases hx), Nat.le_refl _⟩
  obtain ⟨m1, m2, m3⟩ := m
  refine ⟨fun i x hx => ?_, ⟨Int.natCast_nonneg _, sm (by omega) (by decide)⟩, ?_⟩
  · obtain ⟨q1, q2, q3, q4, q5⟩ := m1 i x hx
    exact ⟨q1, q2, q3.mono (by decide), q4.mono (by decide), q5⟩
  · show (Lx.merged (rowP rows)).length ≤ 1000
    unfold Lx.merged
    omega
theorem runs_ok {l : List Nat} (h : l.length ≤ 500) : (∀ r ∈ runsT l, RnOk 40 r) ∧ (runsT l).length ≤ 501 := by
  refine ⟨fun r hr => ?_, ?_⟩
  · obtain ⟨p, hp, rfl⟩ := List.mem_map.mp hr
    obtain ⟨h1, _, h3⟩ := piece_ok _ l (Nat.le_refl _) p hp
    obtain ⟨rows, rest, rfl⟩ := spT_of p h1
    rw [rpT_spT]
    exact rn_ok (by omega)
  · unfold runsT piecesT
    rw [List.length_map]
    have := List.length_filter_le (fun p : List Nat => !p.isEmpty) (TL.spl [32] 0 [] (l.map spc))
    have := spl_len [32] (l.map spc) 0 []
    rw [List.length_map] at this
    omega
/-! how long texts become on the way -/
theorem step_grow {c : Nat} (hc : c = 85 ∨ c = 77 ∨ c = 78) : ∀ (n : Nat) (l : List Nat), l.length ≤ n → l.length ≤ (stepT c l).length := by
  have one : ∀ a, Signs a → a.length ≤ (stepT c a).length := fun a ha => by
    obtain ⟨rows, rest, rfl⟩ := spT_of a ha
    rcases hc with rfl | rfl | rfl
    · show _ ≤ (replL [10] [94, 10] (spT rows rest)).length
      rw [stepU, spT_len, spT_len]
      unfold unT
      have : ∀ rs : List Nat, rs.sum ≤ (rs.map (· + 1)).sum := fun rs => by
        induction rs with
        | nil => exact Nat.le_refl _
        | cons r rs ih => rw [List.map_cons, List.sum_cons, List.sum_cons]; omega
      have := this rows
      rw [List.length_map]
      omega
    · show _ ≤ (replL [94] [10] (spT rows rest)).length
      rw [stepM, spT_len, spT_len, unT_rep]
      omega
    · show _ ≤ (replL [10] [94] (spT rows rest)).length
      rw [stepN, spT_len, spT_len]
      simp [unT]
  intro n
  induction n with
  | zero => intro l hn; omega
  | succ n ih =>
    intro l hn
    obtain ⟨a, ha, rfl | ⟨e, r, he, rfl, hr⟩⟩ := cut_text l
    · exact one _ ha
    · have i1 := ih r (by omega)
      have i2 := one a ha
      rw [stepT_sep he, List.length_append, List.length_append, List.length_cons, List.length_cons]
      omega
theorem step_shrink : ∀ (n : Nat) (l : List Nat), l.length ≤ n → (stepT 68 l).length ≤ l.length := by
  have one : ∀ a, Signs a → (stepT 68 a).length ≤ a.length := fun a ha => by
    obtain ⟨rows, rest, rfl⟩ := spT_of a ha
    show (replL [94, 10] [10] (spT rows rest)).length ≤ _
    rw [stepD, spT_len, spT_len]
    unfold unT
    have : ∀ rs : List Nat, (rs.map (· - 1)).sum ≤ rs.sum := fun rs => by
      induction rs with
      | nil => exact Nat.le_refl _
      | cons r rs ih => rw [List.map_cons, List.sum_cons, List.sum_cons]; omega
    have := this rows
    rw [List.length_map]
    omega
  intro n
  induction n with
  | zero =>
    intro l hn
    obtain rfl := List.length_eq_zero_iff.mp (Nat.le_zero.mp hn)
    exact one [] (fun c h => by cases h)
  | succ n ih =>
    intro l hn
    obtain ⟨a, ha, rfl | ⟨e, r, he, rfl, hr⟩⟩ := cut_text l
    · exact one _ ha
    · have i1 := ih r (by omega)
      have i2 := one a ha
      rw [stepT_sep he, List.length_append, List.length_append, List.length_cons, List.length_cons]
      omega
theorem done_app7 (l a b : List Nat) : doneT (doneT l a) b = doneT l (a ++ b) := by
  unfold doneT; rw [List.foldl_append]
theorem done_grow : ∀ (es : List Nat), (∀ c ∈ es, c = 85 ∨ c = 77 ∨ c = 78) → ∀ l, l.length ≤ (doneT l es).length
  | [], _, l => Nat.le_refl _
  | e :: es, h, l => by
    have h1 := step_grow (h e (List.mem_cons_self ..)) _ l (Nat.le_refl _)
    have h2 := done_grow es (fun c hc => h c (List.mem_cons_of_mem _ hc)) (stepT e l)
    show _ ≤ (doneT (stepT e l) es).length
    omega
theorem done_shrink : ∀ (d : Nat) (l : List Nat), (doneT l (List.replicate d 68)).length ≤ l.length
  | 0, l => Nat.le_refl _
  | d + 1, l => by
    have h1 := step_shrink _ l (Nat.le_refl _)
    have h2 := done_shrink d (stepT 68 l)
    show (doneT (stepT 68 l) (List.replicate d 68)).length ≤ _
    omega
/-- first D, then no D: no text on the way is longer than the first or the last -/
theorem way_len {d : Nat} {es : List Nat} (h : ∀ c ∈ es, c = 85 ∨ c = 77 ∨ c = 78) (l : List Nat) (i : Nat) : (doneT l ((List.replicate d 68 ++ es).take i)).length ≤ max l.length (doneT l (List.replicate d 68 ++ es)).length := by
  by_cases hi : i ≤ d
  · rw [List.take_append_of_le_length (by rw [List.length_replicate]; exact hi), List.take_replicate]
    have := done_shrink (min i d) l
    omega
  · have e1 : (List.replicate d 68 ++ es).take i = List.replicate d 68 ++ es.take (i - d) := by
      rw [List.take_append, List.length_replicate, List.take_of_length_le (by rw [List.length_replicate]; omega)]
    have e2 : List.replicate d 68 ++ es = (List.replicate d 68 ++ es.take (i - d)) ++ es.drop (i - d) := by
      rw [List.append_assoc, List.take_append_drop]
    have := done_grow (es.drop (i - d)) (fun c hc => h c (List.mem_of_mem_drop hc)) (doneT l (List.replicate d 68 ++ es.take (i - d)))
    rw [done_app7, ← e2] at this
    rw [e1]
    omega
theorem shc_shape (w : Fm) (fs : List Nat) : ∃ (d : Nat) (es : List Nat), shc w fs = List.replicate d 68 ++ es ∧ ∀ c ∈ es, c = 85 ∨ c = 77 ∨ c = 78 := by
  cases w with
  | keep b a =>
    refine ⟨b.toNat, List.replicate a.toNat 85, rfl, fun c hc => .inl (List.mem_replicate.mp hc).2⟩
  | lf b a k c =>
    refine ⟨b.toNat, List.replicate a.toNat 85 ++ ((77 :: segs fs) ++ List.replicate c.toNat 85), ?_, fun e he => ?_⟩
    · unfold shc startL
      simp only [List.append_assoc]
    · rcases List.mem_append.mp he with h | h
      · exact .inl (List.mem_replicate.mp h).2
      · rcases List.mem_append.mp h with h | h
        · rcases segs_ok h with h | h
          · exact .inl h
          · exact .inr (.inl h)
        · exact .inl (List.mem_replicate.mp h).2
  | cr b a k =>
    refine ⟨b.toNat, List.replicate a.toNat 85 ++ ((77 :: segs fs).dropLast ++ [78]), ?_, fun e he => ?_⟩
    · unfold shc startL
      simp only [List.append_assoc]
    · rcases List.mem_append.mp he with h | h
      · exact .inl (List.mem_replicate.mp h).2
      · rcases List.mem_append.mp h with h | h
        · rcases segs_ok (List.dropLast_subset _ h) with h | h
          · exact .inl h
          · exact .inr (.inl h)
        · exact .inr (.inr (List.mem_singleton.mp h))
/-! how much longer a chain makes a text -/
theorem cube_le7 : ∀ x : Nat, x ^ 3 ≤ 3 ^ x
  | 0 => by decide
  | 1 => by decide
  | 2 => by decide
  | 3 => by decide
  | x + 4 => by
    have ih := cube_le7 (x + 3)
    have h := Nat.pow_le_pow_left (show 3 * (x + 4) ≤ 4 * (x + 3) by omega) 3
    rw [Nat.mul_pow, Nat.mul_pow, show (3 : Nat) ^ 3 = 27 from rfl, show (4 : Nat) ^ 3 = 64 from rfl] at h
    have e2 : 3 ^ (x + 4) = 3 ^ (x + 3) * 3 := Nat.pow_succ ..
    omega
theorem pr_cube7 : ∀ gs : List Nat, pr gs ^ 3 ≤ 3 ^ gs.sum
  | [] => by decide
  | g :: gs => by
    show (g * pr gs) ^ 3 ≤ _
    rw [Nat.mul_pow, List.sum_cons, Nat.pow_add]
    exact Nat.mul_le_mul (cube_le7 g) (pr_cube7 gs)
theorem wt_cube7 {f : Fm} {n : Nat} (h : LowB f n) : wt f ^ 3 ≤ 3 ^ (n + 1) := by
  cases f with
  | keep b a =>
    obtain ⟨h1, h2, h3⟩ := h
    show (a.toNat + 1) ^ 3 ≤ _
    refine Nat.le_trans (cube_le7 _) (Nat.pow_le_pow_right (by decide) ?_)
    omega
  | lf b a k c =>
    obtain ⟨h1, h2, h3, gs, hg, e, h4⟩ := h
    have ek : k.toNat = pr gs := by omega
    show ((a.toNat + 1) * (k.toNat * (c.toNat + 1))) ^ 3 ≤ _
    rw [Nat.mul_pow, Nat.mul_pow, ek]
    have := Nat.mul_le_mul (cube_le7 (a.toNat + 1)) (Nat.mul_le_mul (pr_cube7 gs) (cube_le7 (c.toNat + 1)))
    rw [← Nat.pow_add, ← Nat.pow_add] at this
    refine Nat.le_trans this (Nat.pow_le_pow_right (by decide) ?_)
    omega
  | cr b a k =>
    obtain ⟨h1, h2, gs, hg, e, h4⟩ := h
    have ek : k.toNat = pr gs := by omega
    show ((a.toNat + 1) * k.toNat) ^ 3 ≤ _
    rw [Nat.mul_pow, ek]
    have := Nat.mul_le_mul (cube_le7 (a.toNat + 1)) (pr_cube7 gs)
    rw [← Nat.pow_add] at this
    refine Nat.le_trans this (Nat.pow_le_pow_right (by decide) ?_)
    omega
theorem wt_20 {cs : List Nat} (hl : cs.length ≤ 20) (hc : ∀ c ∈ cs, c ∈ steps.cps.toList) : wt (formL cs) ≤ 2188 := by
  have h1 := wt_cube7 (low_form _ cs rfl hc)
  have h2 : (3 : Nat) ^ (cs.length + 1) ≤ 3 ^ 21 := Nat.pow_le_pow_right (by decide) (by omega)
  refine Classical.byContradiction fun z => ?_
  have h3 : 2189 ^ 3 ≤ wt (formL cs) ^ 3 := Nat.pow_le_pow_left (by omega) 3
  have h4 : (3 : Nat) ^ 21 < 2189 ^ 3 := by decide
  omega
theorem len_20 {cs : List Nat} (hl : cs.length ≤ 20) (hc : ∀ c ∈ cs, c ∈ steps.cps.toList) {l : List Nat} (h : l.length ≤ 60) : (doneT l cs).length ≤ 131280 := by
  have a := done_wt (by omega) hc _ l (Nat.le_refl _)
  have := Nat.mul_le_mul h (wt_20 hl hc)
  omega
/-! three runs between letters -/
def apL : List Nat := spT [] 1 ++ 120 :: (spT [0] 0 ++ 121 :: spT [20] 0)
theorem ap_tell {cs cs' : List Nat} (hl : cs.length ≤ 20) (hl' : cs'.length ≤ 20) (hc : ∀ c ∈ cs, c ∈ steps.cps.toList) (hc' : ∀ c ∈ cs', c ∈ steps.cps.toList) (h : doneT apL cs = doneT apL cs') : formL cs = formL cs' := by
  have s120 : Sep 120 := ⟨by decide, by decide⟩
  have s121 : Sep 121 := ⟨by decide, by decide⟩
  unfold apL at h
  rw [doneT_sep s120, doneT_sep s120, doneT_sep s121, doneT_sep s121] at h
  have sd := fun rows rest => said_done7 rows rest _ cs rfl (by omega) hc
  have sd' := fun rows rest => said_done7 rows rest _ cs' rfl (by omega) hc'
  rw [← sd, ← sd, ← sd, ← sd', ← sd', ← sd'] at h
  have ns : ∀ (f : Fm) rows rest e, Sep e → e ∉ saidT f rows rest := fun f rows rest e he hm => by
    rcases said_signs f rows rest e hm with z | z
    · exact he.1 z
    · exact he.2 z
  obtain ⟨h1, h⟩ := sep_cut (ns _ _ _ 120 s120) (ns _ _ _ 120 s120) h
  obtain ⟨h2, h3⟩ := sep_cut (ns _ _ _ 121 s121) (ns _ _ _ 121 s121) h
  have fl := formL_fle _ cs rfl (by omega) hc
  have fl' := formL_fle _ cs' rfl (by omega) hc'
  have b1 : ∀ {g : Fm} {m : Nat}, FLe m g → m ≤ 20 → g.b ≤ 20 := fun {g m} hg hm => by
    cases g with
    | keep b a => obtain ⟨_, h, _⟩ := hg; show b ≤ 20; omega
    | lf b a k c => obtain ⟨_, h, _⟩ := hg; show b ≤ 20; omega
    | cr b a k => obtain ⟨_, h, _⟩ := hg; show b ≤ 20; omega
  exact said_tell (fl.ok.mono (show _ ≤ 100001 by omega)) (fl'.ok.mono (by omega)) (b1 fl hl) (b1 fl' hl') h1 h2 h3
/-! runs as data -/
theorem Rns.dq {K : PySem.W.Frag} {H : Hp} : ∀ {vs rs}, Rns K H vs rs → DqAll K H vs (rs.map rd)
  | _, _, .nil => .nil
  | _, _, .cons ⟨l, h⟩ t => .cons h.dq (Rns.dq t)
theorem rds_shaped (rs : List (List (Int × Int) × Int)) : SeqAt.shaped (.list (rs.map rd)) = true := by
  have h1 : PyData.canLayAll0 (rs.map rd) = true := by
    induction rs with
    | nil => rfl
    | cons r rs ih =>
      have h0 : PyData.canLay0 (rd r) = true := by
        have := pd_lay r.1
        unfold rd
        simp only [PyData.canLay0, PyData.canLayAll0, this, Bool.and_true]
      simp only [List.map_cons, PyData.canLayAll0, ih, h0, Bool.and_self]
  have h2 : PyData.depthAll (rs.map rd) ≤ 3 := by
    induction rs with
    | nil => exact Nat.zero_le _
    | cons r rs ih =>
      have := rd_depth r
      simp only [List.map_cons, PyData.depthAll]
      have i2 := ih (by
        simp only [List.map_cons, PyData.canLayAll0, Bool.and_eq_true] at h1
        exact h1.2)
      omega
  unfold SeqAt.shaped
  simp only [PyData.canLay0, h1, PyData.depth, Bool.true_and]
  exact decide_eq_true (by omega)
theorem rds_eqv : ∀ (a b : List (List (Int × Int) × Int)), PyData.eqv (.list (a.map rd)) (.list (b.map rd)) = true ↔ a = b
  | [], [] => by simp [PyData.eqv, PyData.eqvAll]
  | [], _ :: _ => by simp [PyData.eqv, PyData.eqvAll]
  | _ :: _, [] => by simp [PyData.eqv, PyData.eqvAll]
  | x :: xs, y :: ys => by
    have ih := rds_eqv xs ys
    simp only [PyData.eqv] at ih
    simp only [List.map_cons, PyData.eqv, PyData.eqvAll, Bool.and_eq_true, ih, rd_eqv, decide_eq_true_iff, List.cons.injEq]
end Lw
namespace Lw
open PySem PySem.Spec L2 Lx
/-- one address is as it was -/
def At1 (H H' : Hp) (a : Addr) : Prop := ∀ o, H a = some o → H' a = some o
theorem At1.of {H H' : Hp} (s : Same H H') (a : Addr) : At1 H H' a := fun o h => s a o h
theorem At1.trans {H H1 H2 : Hp} {a : Addr} (x : At1 H H1 a) (y : At1 H1 H2 a) : At1 H H2 a := fun o h => y o (x o h)
theorem Kb.at1 {r gl a : Addr} {H H' : Hp} (k : Kb r gl H H') (h1 : a ≠ r) (h2 : a ≠ gl) : At1 H H' a := fun o h => k a o h1 h2 h
theorem Kd.at1 {d a : Addr} {H H' : Hp} (k : Kd d H H') (h1 : a ≠ d) : At1 H H' a := fun o h => k a o h1 h
theorem BagAt.keep {H H' : Hp} {r gl : Addr} {n : Nat} (b : BagAt H r gl n) (k1 : At1 H H' r) (k2 : At1 H H' gl) : BagAt H' r gl n := by
  obtain ⟨ds, l, t, b', h1, h2, h3⟩ := b
  exact ⟨ds, l, t, b', k1 _ h1, k2 _ h2, h3⟩
theorem FmAt.keepT {K : PySem.W.Frag} {H H' : Hp} {v : V} {f : Fm} (h : FmAt K H v f) (k : ∀ b o, (∀ xs, o ≠ .lst xs) → (∀ kvs, o ≠ .dK kvs) → (∀ C dx fs, o ≠ .ins C dx fs) → H b = some o → H' b = some o) : FmAt K H' v f := by
  obtain ⟨p, h1, h2⟩ := h
  refine ⟨p, h1, ?_⟩
  rcases h2 with (h | ⟨o, h⟩) | h
  · exact .inl (.inl (k _ _ (fun _ z => by cases z) (fun _ z => by cases z) (fun _ _ _ z => by cases z) h))
  · exact .inl (.inr ⟨o, k _ _ (fun _ z => by cases z) (fun _ z => by cases z) (fun _ _ _ z => by cases z) h⟩)
  · exact .inr h
/-- a new object, and what its __init__ left -/
theorem same_made {H : Hp} {dx p : Addr} {u o : HO} (ndx : H dx = none) (np : H p = none) : Same H (upd (upd H dx u) p o) := fun b x e => by
  rw [upd_ne (ne_of_none e np), upd_ne (ne_of_none e ndx)]
  exact e
theorem same_ofKd {H H1 H' : Hp} {p : Addr} (s : Same H H1) (np : H p = none) (k : Kd p H1 H') : Same H H' := fun b o e => k b o (ne_of_none e np) (s b o e)
theorem cutS_to (z : Str) (k : Nat) : (cutS z none (some (k : Int))).cps.toList = z.cps.toList.take k := by
  have hl : z.cps.toList.length = z.length := Array.length_toList ..
  unfold cutS
  rw [HT.sIx_none, HT.sIx_nat]
  show (((z.cps.toList.drop 0).take (min k z.length - 0)).toArray).toList = _
  rw [List.drop_zero, Nat.sub_zero]
  by_cases h : k ≤ z.length
  · rw [Nat.min_eq_left h]
  · rw [Nat.min_eq_right (by omega), List.take_of_length_le (by omega : z.cps.toList.length ≤ z.length), List.take_of_length_le (by omega : z.cps.toList.length ≤ k)]
theorem cutS_from (z : Str) (k : Nat) : (cutS z (some (k : Int)) none).cps.toList = z.cps.toList.drop k := by
  have hl : z.cps.toList.length = z.length := Array.length_toList ..
  unfold cutS
  rw [HT.sIx_none, HT.sIx_nat]
  show (((z.cps.toList.drop (min k z.length)).take (z.length - min k z.length)).toArray).toList = _
  by_cases h : k ≤ z.length
  · rw [Nat.min_eq_left h, List.take_of_length_le (by rw [List.length_drop]; omega)]
  · rw [Nat.min_eq_right (by omega : z.length ≤ k), List.drop_of_length_le (by omega : z.cps.toList.length ≤ k), List.drop_of_length_le (by omega : z.cps.toList.length ≤ z.length)]
    simp
theorem str_ext {x y : Str} (h : x.cps.toList = y.cps.toList) : x = y := Str.ext' (Array.toList_inj.mp h)
end Lw
namespace Lw
open PySem PySem.Spec L2 Lx
/-- a sign with its stem: a tuple -/
def SgAt (H : Hp) (v : V) (u : Nat × Nat) : Prop := ∃ p, v = .ref p ∧ H p = some (.tup [.str ⟨#[u.1]⟩, .int (u.2 : Nat)])
inductive Sgs (H : Hp) : List V → SgS → Prop
  | nil : Sgs H [] []
  | cons {v : V} {vs : List V} {u : Nat × Nat} {us : SgS} : SgAt H v u → Sgs H vs us → Sgs H (v :: vs) (u :: us)
theorem Sgs.same {H H' : Hp} (s : Same H H') : ∀ {vs : List V} {us : SgS}, Sgs H vs us → Sgs H' vs us
  | _, _, .nil => .nil
  | _, _, .cons ⟨p, e, h⟩ t => .cons ⟨p, e, s _ _ h⟩ (t.same s)
theorem Sgs.len {H : Hp} : ∀ {vs : List V} {us : SgS}, Sgs H vs us → vs.length = us.length
  | _, _, .nil => rfl
  | _, _, .cons _ t => by rw [List.length_cons, List.length_cons, t.len]
theorem Sgs.get {H : Hp} : ∀ {vs : List V} {us : SgS}, Sgs H vs us → ∀ {i : Nat} {v : V}, vs[i]? = some v → ∃ u, us[i]? = some u ∧ SgAt H v u
  | _, _, .nil, i, v, h => by simp at h
  | _, _, .cons h1 t, 0, v, h => by cases Option.some.inj h; exact ⟨_, rfl, h1⟩
  | _, _, .cons h1 t, i + 1, v, h => t.get (i := i) h
theorem Sgs.append {H : Hp} : ∀ {vs ws : List V} {us qs : SgS}, Sgs H vs us → Sgs H ws qs → Sgs H (vs ++ ws) (us ++ qs)
  | _, _, _, _, .nil, h => h
  | _, _, _, _, .cons a t, h => .cons a (t.append h)
theorem Sgs.take {H : Hp} : ∀ {vs : List V} {us : SgS} (n : Nat), Sgs H vs us → Sgs H (vs.take n) (us.take n)
  | _, _, 0, _ => .nil
  | _, _, n + 1, .nil => .nil
  | _, _, n + 1, .cons a t => .cons a (t.take n)
theorem SgAt.lstUpd {H : Hp} {l : Addr} {ys : List V} {o : HO} (e : H l = some (.lst ys)) {v : V} {u : Nat × Nat} : SgAt H v u → SgAt (upd H l o) v u := fun ⟨p, h1, h2⟩ => ⟨p, h1, by rw [upd_ne (ne_of h2 e (by intro z; cases z))]; exact h2⟩
theorem Sgs.lstUpd {H : Hp} {l : Addr} {ys : List V} {o : HO} (e : H l = some (.lst ys)) : ∀ {vs : List V} {us : SgS}, Sgs H vs us → Sgs (upd H l o) vs us
  | _, _, .nil => .nil
  | _, _, .cons a t => .cons (a.lstUpd e) (t.lstUpd e)
theorem Sgs.kb {H H' : Hp} {r gl : Addr} {n : Nat} (s : BagAt H r gl n) (k : Kb r gl H H') : ∀ {vs : List V} {us : SgS}, Sgs H vs us → Sgs H' vs us
  | _, _, .nil => .nil
  | _, _, .cons ⟨p, e, h⟩ t => .cons ⟨p, e, k _ _ (s.neT h).1 (s.neT h).2 h⟩ (t.kb s k)
theorem scSg : FnScope ["run_now", "text_now", "at", "many", "j"] ["run_now"] (defScope sLSigns) := ⟨rfl, rfl, rfl, by decide +kernel, rfl, by decide +kernel, by decide +kernel⟩
theorem scStp : FnScope ["signs", "step", "found", "at", "sign", "stem"] ["signs", "step"] (defScope sLStepped) := ⟨rfl, rfl, rfl, by decide +kernel, rfl, by decide +kernel, by decide +kernel⟩
structure RlF (mg : Str → Option Value) : Prop where
  range : mg "range" = none
  len : mg "len" = none
def spSg (K : PySem.W.Frag) : Sp := fun vs H Q _ => ∃ x l r, vs = [x] ∧ RnAt K H x l r ∧ splOk r ∧ (splT r).length ≤ 1000 ∧ ∀ (p : Addr) (us : List V) H', Same H H' → H p = none → H' p = some (.lst us) → Sgs H' us (idxS 0 (splT r)) → Q (.ref p) H'
def spStp : Sp := fun vs H Q _ => ∃ (l : Addr) (ws : List V) (us : SgS) (c : Nat), vs = [.ref l, .str ⟨#[c]⟩] ∧ H l = some (.lst ws) ∧ Sgs H ws us ∧ us.length ≤ 400 ∧ (c = 85 ∨ c = 68 ∨ c = 77 ∨ c = 78) ∧ (∀ u ∈ us, u.1 = 94 ∨ u.1 = 10) ∧
  ∀ (p : Addr) (zs : List V) H', Same H H' → H p = none → H' p = some (.lst zs) → Sgs H' zs (stpS c us) → Q (.ref p) H'
section
variable {P : Program} {w : World} {K : PySem.W.Frag} {mg : Str → Option Value} {base : Heap}
theorem ok_signs29 {f : Addr} {fd : FuncData} {k : Nat} (F : Fun K "_law_signs" "_law_signs" sLSigns f fd) (Z : RlF mg) : FnOk P w K mg base CX0 (k + 1) f fd ["run_now"] (spSg K) := by
  refine F.ok scSg (fun vs H Q E h => ?_) (fun cdv A outer s H vs Q E hr h => ?_)
  · obtain ⟨x, l, r, rfl, _⟩ := h
    rfl
  · obtain ⟨_, l, r, rfl, ⟨p, rfl, hT, xs, hL, hP⟩, hg, hsz, q⟩ := h
    refine ⟨_, (pss_cons (ps_set (i := 1) scSg.nd rfl (.inr rfl) (pe_op op_add_str (pe_join pe_str (pe_lc (own := [("many", 3), ("j", 4)]) (g := (gTup K 2 (gCons (gName 3) (gCons (gName 4) gNil)))) (tt := tYes) rfl scSg.nd (pi_list (pe_ix ix_tup (pv 0) pe_int (fun _ _ => rfl))) (blkOk_by (own := [("many", 3), ("j", 4)]) (N := ["run_now", "text_now", "at", "many", "j"]) (sc := defScope sLSigns) (by decide +kernel)) (fun _ _ _ _ _ => (pg_tup (by rfl) (pgs_cons (pg_name (i := 3) scSg.nd rfl (.inl rfl)) (pgs_cons (pg_name (i := 4) scSg.nd rfl (.inl rfl)) pgs_nil)))) (fun _ _ _ _ _ => pts_nil) (fun _ _ _ _ _ => (pe_op op_repS (pe_op op_add_str (pe_op op_repS pe_str (pv 4)) pe_str) (pv 3))))) (pe_op op_repS pe_str (pe_ix ix_tup (pv 0) pe_int (fun _ _ => rfl)))))
      (pss_one (ps_ret (pe_lc (own := [("at", 2)]) (g := (gName 2)) (tt := tYes) rfl scSg.nd (pi_range1 rfl Z.range (pa_cons (pe_callB call_len_str (by rfl) Z.len PySem.boot_len (pa_cons (pv 1) pa_nil)) pa_nil)) (blkOk_by (own := [("at", 2)]) (N := ["run_now", "text_now", "at", "many", "j"]) (sc := defScope sLSigns) (by decide +kernel)) (fun _ _ _ _ _ => (pg_name (i := 2) scSg.nd rfl (.inl rfl))) (fun _ _ _ _ _ => pts_nil) (fun _ _ _ _ _ => (pe_tup (pa_cons (pe_ix ix_str (pv 1) (pv 2) (fun _ _ => rfl)) (pa_cons (pv 2) pa_nil)))))))), ?_⟩
    dsimp only [gName, tNext, tSeq]
    have hxl := hP.len
    have hsz2 := hsz
    unfold splT at hsz2
    have ulen : (Lx.up r.2.toNat).length = r.2.toNat := List.length_replicate ..
    rw [List.length_append, ulen] at hsz2
    have g2 := hg.2
    have hgl := gs_le r.1 fun y hy => (hg.1 y hy).1
    refine ⟨⟨"", rfl⟩, _, rfl, p, _, 0, _, rfl, rfl, hT, atI_nat (j := 0) rfl, l, rfl, ⟨xs, hL⟩, fun D nD => ?_⟩
    refine lc_it (walk_list (xs := xs)) (fun j H' => Same H H' ∧ H' D = some (.lst (((r.1.take j).map rowT).map V.str))) ⟨same_upd nD, upd_same⟩ (fun j H' _ hQ => hQ.1.seq hL) ?_ ?_
    · rintro j u H1 H1' hj ⟨sm, hD⟩ ⟨rfl, hu⟩
      obtain ⟨x, hx, a, rfl, ha⟩ := (hP.same sm).get hu
      have hxm := List.mem_of_getElem? hx
      obtain ⟨x1, x2⟩ := hg.1 x hxm
      have hrow := row_le hxm
      have hrl := row_len x x2 (by omega)
      refine ⟨a, _, rfl, .inl (.inl ha), rfl, _, _, rfl, _, _, rfl, rfl, rfl, ?_⟩
      have l1 : (rep "^" x.2.toNat ++ "\n" : Str).length = x.2.toNat + 1 := by
        rw [show (rep "^" x.2.toNat ++ "\n" : Str).length = (rep "^" x.2.toNat).length + ("\n" : Str).length from Array.size_append .., rep_len]
        show 1 * x.2.toNat + 1 = _
        omega
      have l2 : (rowT x).length = (x.2.toNat + 1) * x.1.toNat := by
        unfold rowT
        rw [rep_len, l1]
      have l3 : (rowT x).cps.toList.length = (rowT x).length := Array.length_toList ..
      rw [rowT_list] at l3
      have l4 : (x.2.toNat + 1) * x.1.toNat ≤ 1000 := by omega
      have l5 : x.2.toNat + 1 ≤ 1000 := Nat.le_trans (Nat.le_mul_of_pos_right _ (by omega)) l4
      have l6 : x.1.toNat ≤ 1000 := Nat.le_trans (Nat.le_mul_of_pos_left _ (by omega)) l4
      have hjl : j < r.1.length := (List.getElem?_eq_some_iff.mp hx).1
      refine ⟨_, rfl, "^", x.2, rfl, rfl, x2, by omega, by rw [sizeLine_eq]; show 1 * x.2.toNat ≤ _; omega, _, _, rfl, rfl, by rw [rep_len, sizeLine_eq]; show 1 * x.2.toNat + 1 ≤ _; omega, _, rfl, _, x.1, rfl, rfl, by omega, by omega, by rw [l1, sizeLine_eq]; omega, _, hD, by rw [List.length_map, List.length_map, List.length_take, sizeLine_eq]; omega, Same.own sm nD, ?_⟩
      rw [upd_same, List.take_succ, hx, List.map_append, List.map_append]
      rfl
    · rintro H1 ⟨sm, hD⟩
      rw [hxl, List.take_length] at hD
      have hjoin := join_rows r.1
      have hfm : ((r.1.map rowT).map (·.length)).sum = (r.1.flatMap fun x => (List.replicate x.1.toNat (Lx.up x.2.toNat ++ [10])).flatten).length := by
        rw [List.length_flatMap, List.map_map]
        congr 1
        refine List.map_congr_left fun y _ => ?_
        rw [← rowT_list]
        exact (Array.length_toList ..).symm
      have hjl : (Txt.join "" (r.1.map rowT)).length = (r.1.flatMap fun x => (List.replicate x.1.toNat (Lx.up x.2.toNat ++ [10])).flatten).length := by
        rw [← hjoin]
        exact (Array.length_toList ..).symm
      refine ⟨"", D, r.1.map rowT, rfl, rfl, .inl (.inl (.inl hD)), by rw [hfm]; show _ + _ * 0 ≤ _; omega, ?_⟩
      refine ⟨_, rfl, p, _, 1, _, rfl, rfl, sameT sm hT, atI_nat (j := 1) rfl, "^", r.2, rfl, rfl, g2, by omega, by rw [sizeLine_eq]; show 1 * r.2.toNat ≤ _; omega, _, _, rfl, rfl, by rw [hjl, rep_len, sizeLine_eq]; show _ + 1 * r.2.toNat ≤ _; omega, ?_⟩
      have htx : (Txt.join "" (r.1.map rowT) ++ rep "^" r.2.toNat).cps.toList = splT r := by
        rw [show (Txt.join "" (r.1.map rowT) ++ rep "^" r.2.toNat).cps.toList = (Txt.join "" (r.1.map rowT)).cps.toList ++ (rep "^" r.2.toNat).cps.toList from Array.toList_append .., hjoin, repUp]
        rfl
      generalize Txt.join "" (r.1.map rowT) ++ rep "^" r.2.toNat = x at htx
      dsimp only [gName, tNext, tSeq]
      have hxs : x.length ≤ 1000 := by
        have : x.cps.toList.length = x.length := Array.length_toList ..
        rw [htx] at this
        omega
      refine ⟨_, rfl, x, rfl, by rw [sizeLine_eq]; omega, _, rfl, by omega, by omega, fun D2 nD2 => ?_⟩
      rw [Int.toNat_natCast]
      have hxl2 : x.length = (splT r).length := by rw [← htx]; exact (Array.length_toList ..).symm
      refine lc_it (walk_range (lo := 0) (n := x.length)) (fun j H' => Same H1 H' ∧ ∃ us, H' D2 = some (.lst us) ∧ Sgs H' us (idxS 0 ((splT r).take j))) ⟨same_upd nD2, [], upd_same, .nil⟩ (fun _ _ _ _ => trivial) ?_ ?_
      · rintro j u H2 H3 hj ⟨sm2, us, hD2, hus⟩ ⟨rfl, rfl⟩
        have e0 : (0 : Int) + (j : Int) = (j : Int) := Int.zero_add _
        show gName 2 (V.int (0 + (j : Int))) _ _ _
        rw [e0]
        have hcj : j < (splT r).length := by omega
        have hc := List.getElem?_eq_getElem hcj
        generalize (splT r)[j] = c at hc
        have hul := hus.len
        rw [idxS_len, List.length_take] at hul
        refine ⟨rfl, _, rfl, _, rfl, x, (j : Int), c, rfl, rfl, by rw [sizeLine_eq]; omega, atI_nat (by rw [htx]; exact hc), _, rfl, by show 2 ≤ sizeLine; decide, fun t nt => ?_⟩
        have st := same_upd (o := .tup [.str ⟨#[c]⟩, .int (j : Int)]) nt
        refine ⟨us, st _ _ hD2, by rw [sizeLine_eq]; omega, Same.own (sm2.trans st) nD2, us ++ [.ref t], upd_same, ?_⟩
        rw [List.take_succ, hc, idxS_app]
        refine Sgs.lstUpd (st _ _ hD2) ((hus.same st).append (.cons ⟨t, rfl, ?_⟩ .nil))
        rw [upd_same]
        show _ = some (HO.tup [V.str ⟨#[c]⟩, V.int ((0 + (List.take j (splT r)).length : Nat) : Int)])
        rw [List.length_take, show 0 + min j (splT r).length = j by omega]
      · rintro H2 ⟨sm2, us, hD2, hus⟩
        rw [List.take_of_length_le (by omega)] at hus
        exact q D2 us H2 (sm.trans sm2) (sm.free nD2) hD2 hus
/-- what a sign becomes -/
def emS (c : Nat) (u : Nat × Nat) (r : SgS) : SgS := if c = 85 ∧ u.1 = 10 then [(94, u.2), (10, u.2)] else if c = 77 then [(10, u.2)] else if c = 78 then [(94, u.2)] else if c ≠ 68 ∨ u.1 = 10 ∨ headNot10 r = true then [u] else []
theorem dstr (a b : Nat) : decide (V.str ⟨#[a]⟩ = V.str ⟨#[b]⟩) = decide (a = b) := by
  by_cases h : a = b
  · rw [h, decide_eq_true rfl, decide_eq_true rfl]
  · rw [decide_eq_false h, decide_eq_false fun z => h ?_]
    have := Array.mk.inj (Str.mk.inj (V.str.inj z))
    exact (List.cons.inj this).1
theorem ok_stepped {f : Addr} {fd : FuncData} {k : Nat} (F : Fun K "_law_stepped" "_law_stepped" sLStepped f fd) (Z : RlF mg) : FnOk P w K mg base CX0 (k + 1) f fd ["signs", "step"] spStp := by
  refine F.ok scStp (fun vs H Q E h => ?_) (fun cdv A outer s H vs Q E hr h => ?_)
  · obtain ⟨l, ws, us, c, rfl, _⟩ := h
    rfl
  · obtain ⟨l, ws, us, c, rfl, hl, hw, hlen, hc, hsg, q⟩ := h
    refine ⟨_, (pss_cons (ps_set (i := 2) scStp.nd rfl (.inl rfl) (pe_lst pa_nil))
      (pss_cons (ps_for PassesOwn.never rfl (pi_range1 rfl Z.range (pa_cons (pe_callB call_len_seq (by rfl) Z.len PySem.boot_len (pa_cons (pv 0) pa_nil)) pa_nil)) (pg_name (i := 3) scStp.nd rfl (.inl rfl))
          (pss_cons (ps_asg (pe_ix ix_list (pv 0) (pv 3) (fun _ _ => rfl)) (pg_tup (by rfl) (pgs_cons (pg_name (i := 4) scStp.nd rfl (.inl rfl)) (pgs_cons (pg_name (i := 5) scStp.nd rfl (.inl rfl)) pgs_nil))))
          (pss_one (ps_if (PW.pt (pw_and (pt_cmpR op_eq (pv 1) pe_str (nomark _)) (pw_and1 (pt_cmpR op_eq (pv 4) pe_str (nomark _)))))
              (pss_one (ps_expr (pe_bm PySem.F.plainAttrs_list PySem.F.slot_list_extend PySem.F.type_list_extend mt_extend (pv 2) (pa_cons (pe_lst (pa_cons (pe_tup (pa_cons pe_str (pa_cons (pv 5) pa_nil))) (pa_cons (pe_tup (pa_cons pe_str (pa_cons (pv 5) pa_nil))) pa_nil))) pa_nil))))
              (pss_one (ps_if (pt_cmpR op_eq (pv 1) pe_str (nomark _))
                  (pss_one (ps_expr (pe_bm PySem.F.plainAttrs_list PySem.F.slot_list_append PySem.F.type_list_append mt_append (pv 2) (pa_cons (pe_tup (pa_cons pe_str (pa_cons (pv 5) pa_nil))) pa_nil))))
                  (pss_one (ps_if (pt_cmpR op_eq (pv 1) pe_str (nomark _))
                      (pss_one (ps_expr (pe_bm PySem.F.plainAttrs_list PySem.F.slot_list_append PySem.F.type_list_append mt_append (pv 2) (pa_cons (pe_tup (pa_cons pe_str (pa_cons (pv 5) pa_nil))) pa_nil))))
                      (pss_one (ps_if (PW.pt (pw_or (pt_cmpR op_ne (pv 1) pe_str (nomark _)) (pw_or (pt_cmpR op_eq (pv 4) pe_str (nomark _)) (pw_or (pt_cmpR op_eq (pe_op op_add (pv 3) pe_int) (pe_callB call_len_seq (by rfl) Z.len PySem.boot_len (pa_cons (pv 0) pa_nil)) (nomark _)) (pw_or1 (pt_cmpR op_ne (pe_ix ix_tup (pe_ix ix_list (pv 0) (pe_op op_add (pv 3) pe_int) (fun _ _ => rfl)) pe_int (fun _ _ => rfl)) pe_str (nomark _)))))))
                          (pss_one (ps_expr (pe_bm PySem.F.plainAttrs_list PySem.F.slot_list_append PySem.F.type_list_append mt_append (pv 2) (pa_cons (pe_tup (pa_cons (pv 4) (pa_cons (pv 5) pa_nil))) pa_nil)))) pss_nil))))))))))
      (pss_one (ps_ret (pv 2))))), ?_⟩
    dsimp only [gName, tNext, tSeq]
    refine ⟨by show 0 ≤ sizeLine; omega, fun p np => ?_⟩
    have s0 := same_upd (o := .lst []) np
    have hp0 : upd H p (.lst []) p = _ := upd_same
    generalize upd H p (.lst []) = H1 at s0 hp0
    have hwl := hw.len
    refine ⟨_, rfl, l, ws, rfl, .inl (.inl (.inl (s0 _ _ hl))), _, rfl, by omega, by omega, ?_⟩
    rw [Int.toNat_natCast]
    refine for_range (lo := 0) (n := ws.length) (fun i σ H' => ∃ y3 y4 y5 A zs, σ = [some (.ref l), some (.str ⟨#[c]⟩), some (.ref p), y3, y4, y5] ∧ Same H H' ∧ H' p = some (.lst zs) ∧ Sgs H' zs A ∧ A ++ stpS c (us.drop i) = stpS c us ∧ zs.length ≤ 2 * i) ⟨_, _, _, [], [], rfl, s0, hp0, .nil, rfl, Nat.le_refl _⟩ ?_ ?_
    · rintro i σ H2 hi ⟨y3, y4, y5, A, zs, rfl, sm, hp, hz, hA, hzl⟩
      have e0 : (0 : Int) + (i : Int) = (i : Int) := Int.zero_add _
      show gName 3 (V.int (0 + (i : Int))) _ _ _
      rw [e0]
      have hv := List.getElem?_eq_getElem hi
      generalize ws[i] = v at hv
      obtain ⟨u, hu, q0, rfl, hq0⟩ := (hw.same sm).get hv
      have hdr : us.drop i = u :: us.drop (i + 1) := by
        have hlt := (List.getElem?_eq_some_iff.mp hu).1
        rw [List.drop_eq_getElem_cons hlt, (List.getElem?_eq_some_iff.mp hu).2]
      rw [hdr] at hA
      replace hA : A ++ (emS c u (us.drop (i + 1)) ++ stpS c (us.drop (i + 1))) = stpS c us := hA
      have hu1 := hsg u (List.mem_of_getElem? hu)
      have fin : ∀ (em : SgS) (zs' : List V) H', emS c u (us.drop (i + 1)) = em → em.length ≤ 2 → Same H H' → H' p = some (.lst (zs ++ zs')) → Sgs H' (zs ++ zs') (A ++ em) → ∃ y3 y4 y5 A zs, ([some (V.ref l), some (V.str ⟨#[c]⟩), some (V.ref p), some (V.int i), some (V.str ⟨#[u.1]⟩), some (V.int (u.2 : Nat))] : St) = [some (.ref l), some (.str ⟨#[c]⟩), some (.ref p), y3, y4, y5] ∧ Same H H' ∧ H' p = some (.lst zs) ∧ Sgs H' zs A ∧ A ++ stpS c (us.drop (i + 1)) = stpS c us ∧ zs.length ≤ 2 * (i + 1) := fun em zs' H' e1 e2 s1 h1 h2 => by
        subst e1
        have l1 := h2.len
        have l2 := hz.len
        rw [List.length_append] at l1
        exact ⟨_, _, _, _, _, rfl, s1, h1, h2, by rw [List.append_assoc]; exact hA, by rw [List.length_append] at l1 ⊢; omega⟩
      dsimp only [gName, tNext, tSeq]
      refine ⟨_, rfl, _, rfl, l, ws, _, _, rfl, rfl, .inl (.inl (sm _ _ hl)), atI_nat hv, q0, _, rfl, .inl (.inl hq0), rfl, _, _, rfl, _, _, rfl, rfl, ?_⟩
      have one : ∀ (d : Nat), emS c u (us.drop (i + 1)) = [(d, u.2)] → ∀ t, H2 t = none → _ := fun d e t nt => by
        have st := same_upd (o := .tup [.str ⟨#[d]⟩, .int (u.2 : Nat)]) nt
        exact fin [(d, u.2)] [.ref t] (upd (upd H2 t (.tup [.str ⟨#[d]⟩, .int (u.2 : Nat)])) p (.lst (zs ++ [.ref t]))) e (Nat.le_succ 1) (Same.own (sm.trans st) np) upd_same (Sgs.lstUpd (st _ _ hp) ((hz.same st).append (.cons ⟨t, rfl, upd_same⟩ .nil)))
      have ap : ∀ (t : Addr) (o : HO), H2 t = none → upd H2 t o p = some (.lst zs) := fun t o nt => same_upd nt _ _ hp
      refine ⟨_, rfl, rfl, _, rfl, ?_⟩
      have eU : ∀ a : Nat, decide (V.str ⟨#[a]⟩ = V.str "U") = decide (a = 85) := fun a => dstr a 85
      have eM : ∀ a : Nat, decide (V.str ⟨#[a]⟩ = V.str "M") = decide (a = 77) := fun a => dstr a 77
      have eN : ∀ a : Nat, decide (V.str ⟨#[a]⟩ = V.str "N") = decide (a = 78) := fun a => dstr a 78
      have eD : ∀ a : Nat, decide (V.str ⟨#[a]⟩ = V.str "D") = decide (a = 68) := fun a => dstr a 68
      have eL : ∀ a : Nat, decide (V.str ⟨#[a]⟩ = V.str "\n") = decide (a = 10) := fun a => dstr a 10
      rcases hc with rfl | rfl | rfl | rfl
      · rw [eU, decide_eq_true rfl]
        refine iteT ?_
        refine ⟨_, rfl, rfl, _, rfl, ?_⟩
        rw [eL]
        rcases hu1 with h94 | h10
        · rw [decide_eq_false (by omega)]
          refine iteF ?_
          refine ⟨_, rfl, rfl, _, rfl, ?_⟩
          rw [eM, decide_eq_false (by decide)]
          refine iteF ?_
          refine ⟨_, rfl, rfl, _, rfl, ?_⟩
          rw [eN, decide_eq_false (by decide)]
          refine iteF ?_
          refine ⟨_, rfl, rfl, _, rfl, ?_⟩
          rw [eD, decide_eq_false (by decide)]
          refine iteT ?_
          refine ⟨_, rfl, .inl ⟨rfl, _, .inl (.inl hp)⟩, _, rfl, _, rfl, by show 2 ≤ sizeLine; decide, fun t nt => ⟨p, zs, .ref t, rfl, rfl, ap t _ nt, by rw [sizeLine_eq]; omega, one u.1 (by unfold emS; rw [if_neg (by omega), if_neg (by decide), if_neg (by decide), if_pos (.inl (by decide))]) t nt⟩⟩
        · rw [decide_eq_true h10]
          refine iteT ?_
          refine ⟨_, rfl, .inl ⟨rfl, _, .inl (.inl hp)⟩, _, rfl, by show 2 ≤ sizeLine; decide, fun t1 nt1 => ?_⟩
          refine ⟨_, rfl, by show 2 ≤ sizeLine; decide, fun t2 nt2 => ?_⟩
          refine ⟨by show 2 ≤ sizeLine; decide, fun q1 nq1 => ?_⟩
          have st1 := same_upd (o := .tup [.str "^", .int (u.2 : Nat)]) nt1
          have f1 : upd H2 t1 (.tup [.str "^", .int (u.2 : Nat)]) t1 = _ := upd_same
          generalize upd H2 t1 (.tup [.str "^", .int (u.2 : Nat)]) = H3 at st1 f1 nt2 nq1 ⊢
          have st2 := same_upd (o := .tup [.str "\n", .int (u.2 : Nat)]) nt2
          have f2 : upd H3 t2 (.tup [.str "\n", .int (u.2 : Nat)]) t2 = _ := upd_same
          generalize upd H3 t2 (.tup [.str "\n", .int (u.2 : Nat)]) = H4 at st2 f2 nq1 ⊢
          have st3 := same_upd (o := .lst [V.ref t1, .ref t2]) nq1
          have f3 : upd H4 q1 (.lst [V.ref t1, .ref t2]) q1 = _ := upd_same
          generalize upd H4 q1 (.lst [V.ref t1, .ref t2]) = H5 at st3 f3 ⊢
          have sAll := (st1.trans st2).trans st3
          refine ⟨p, q1, zs, _, rfl, rfl, sAll _ _ hp, f3, by rw [sizeLine_eq]; show zs.length + 2 ≤ _; omega, ?_⟩
          refine fin [(94, u.2), (10, u.2)] [.ref t1, .ref t2] _ (by unfold emS; rw [if_pos ⟨rfl, h10⟩]) (Nat.le_refl 2) (Same.own (sm.trans sAll) np) upd_same (Sgs.lstUpd (sAll _ _ hp) ((hz.same sAll).append (.cons ⟨t1, rfl, ?_⟩ (.cons ⟨t2, rfl, ?_⟩ .nil))))
          · exact st3 _ _ (st2 _ _ f1)
          · exact st3 _ _ f2
      · rw [eU, decide_eq_false (by decide)]
        refine iteF ?_
        refine ⟨_, rfl, rfl, _, rfl, ?_⟩
        rw [eM, decide_eq_false (by decide)]
        refine iteF ?_
        refine ⟨_, rfl, rfl, _, rfl, ?_⟩
        rw [eN, decide_eq_false (by decide)]
        refine iteF ?_
        refine ⟨_, rfl, rfl, _, rfl, ?_⟩
        rw [eD, decide_eq_true rfl]
        refine iteF ?_
        refine ⟨_, rfl, rfl, _, rfl, ?_⟩
        rw [eL]
        rcases hu1 with h94 | h10
        · rw [decide_eq_false (by omega)]
          refine iteF ?_
          refine ⟨_, rfl, _, _, rfl, rfl, _, rfl, l, ws, rfl, .inl (.inl (.inl (sm _ _ hl))), rfl, _, rfl, ?_⟩
          by_cases hend : i + 1 = ws.length
          · rw [decide_eq_true (show V.int _ = V.int _ from congrArg V.int (by omega))]
            refine iteT ?_
            refine ⟨_, rfl, .inl ⟨rfl, _, .inl (.inl hp)⟩, _, rfl, _, rfl, by show 2 ≤ sizeLine; decide, fun t nt => ⟨p, zs, .ref t, rfl, rfl, ap t _ nt, by rw [sizeLine_eq]; omega, one u.1 (by unfold emS; rw [if_neg (by omega), if_neg (by decide), if_neg (by decide), if_pos (.inr (.inr (by rw [List.drop_of_length_le (by omega)]; rfl)))]) t nt⟩⟩
          · rw [decide_eq_false (fun z => hend (by have := V.int.inj z; omega))]
            refine iteF ?_
            have hi2 : i + 1 < ws.length := by omega
            have hv2 := List.getElem?_eq_getElem hi2
            generalize ws[i + 1] = v2 at hv2
            obtain ⟨u2, hu2, q2, rfl, hq2⟩ := (hw.same sm).get hv2
            have hu2' := hsg u2 (List.mem_of_getElem? hu2)
            have hdr2 : headNot10 (us.drop (i + 1)) = (u2.1 != 10) := by
              have hlt := (List.getElem?_eq_some_iff.mp hu2).1
              rw [List.drop_eq_getElem_cons hlt, (List.getElem?_eq_some_iff.mp hu2).2]
              rfl
            refine ⟨_, rfl, _, rfl, _, _, rfl, rfl, l, ws, _, _, rfl, rfl, .inl (.inl (sm _ _ hl)), atI_nat (j := i + 1) hv2, q2, _, 0, _, rfl, rfl, .inl (.inl hq2), atI_nat (j := 0) rfl, rfl, _, rfl, ?_⟩
            rw [eL]
            rcases hu2' with g94 | g10
            · rw [decide_eq_false (by omega)]
              refine iteT ?_
              refine ⟨_, rfl, .inl ⟨rfl, _, .inl (.inl hp)⟩, _, rfl, _, rfl, by show 2 ≤ sizeLine; decide, fun t nt => ⟨p, zs, .ref t, rfl, rfl, ap t _ nt, by rw [sizeLine_eq]; omega, one u.1 (by unfold emS; rw [if_neg (by omega), if_neg (by decide), if_neg (by decide), if_pos (.inr (.inr (by rw [hdr2, g94]; rfl)))]) t nt⟩⟩
            · rw [decide_eq_true g10]
              refine iteF ?_
              refine fin [] [] _ (by unfold emS; rw [if_neg (by omega), if_neg (by decide), if_neg (by decide), if_neg (by rintro (z | z | z); exact z rfl; omega; rw [hdr2, g10] at z; cases z)]) (Nat.zero_le 2) sm (by rw [List.append_nil]; exact hp) (by rw [List.append_nil, List.append_nil]; exact hz)
        · rw [decide_eq_true h10]
          refine iteT ?_
          refine ⟨_, rfl, .inl ⟨rfl, _, .inl (.inl hp)⟩, _, rfl, _, rfl, by show 2 ≤ sizeLine; decide, fun t nt => ⟨p, zs, .ref t, rfl, rfl, ap t _ nt, by rw [sizeLine_eq]; omega, one u.1 (by unfold emS; rw [if_neg (fun z => absurd z.1 (by decide)), if_neg (by decide), if_neg (by decide), if_pos (.inr (.inl h10))]) t nt⟩⟩
      · rw [eU, decide_eq_false (by decide)]
        refine iteF ?_
        refine ⟨_, rfl, rfl, _, rfl, ?_⟩
        rw [eM, decide_eq_true rfl]
        refine iteT ?_
        refine ⟨_, rfl, .inl ⟨rfl, _, .inl (.inl hp)⟩, _, rfl, by show 2 ≤ sizeLine; decide, fun t nt => ⟨p, zs, .ref t, rfl, rfl, ap t _ nt, by rw [sizeLine_eq]; omega, one 10 (by unfold emS; rw [if_neg (fun z => absurd z.1 (by decide)), if_pos rfl]) t nt⟩⟩
      · rw [eU, decide_eq_false (by decide)]
        refine iteF ?_
        refine ⟨_, rfl, rfl, _, rfl, ?_⟩
        rw [eM, decide_eq_false (by decide)]
        refine iteF ?_
        refine ⟨_, rfl, rfl, _, rfl, ?_⟩
        rw [eN, decide_eq_true rfl]
        refine iteT ?_
        refine ⟨_, rfl, .inl ⟨rfl, _, .inl (.inl hp)⟩, _, rfl, by show 2 ≤ sizeLine; decide, fun t nt => ⟨p, zs, .ref t, rfl, rfl, ap t _ nt, by rw [sizeLine_eq]; omega, one 94 (by unfold emS; rw [if_neg (fun z => absurd z.1 (by decide)), if_neg (by decide), if_pos rfl]) t nt⟩⟩
    · rintro σ H2 ⟨y3, y4, y5, A, zs, rfl, sm, hp, hz, hA, hzl⟩
      refine ⟨_, rfl, q p zs H2 sm np hp ?_⟩
      rw [List.drop_of_length_le (by omega)] at hA
      replace hA : A ++ [] = stpS c us := hA
      rw [List.append_nil] at hA
      rw [← hA]
      exact hz
end
end Lw
namespace Lw
open PySem PySem.Spec L2 Lx
theorem scRf : FnScope ["which", "run_now", "shape", "at", "e"] ["which", "run_now", "shape", "at"] (defScope sLIsRefused) := ⟨rfl, rfl, rfl, by decide +kernel, rfl, by decide +kernel, by decide +kernel⟩
def spChpE (C : Addr) : Sp := fun vs H Q E => ∃ p t : Int, vs = [.int p, .int t] ∧ (p < 0 ∨ t ≤ p) ∧ ∀ (H' : Hp) (d : Addr), Same H H' → H' d = some (.xd (vf (.int p))) → E (.ref C) (some d) H'
def spTraE (K : PySem.W.Frag) (C : Addr) : Sp := fun vs H Q E => ∃ x y l r f n place, vs = [x, y, .int place] ∧ RnAt K H x l r ∧ FmAt K H y f ∧ RnOk n r ∧ f.Ok n ∧ 0 < n ∧ n ≤ 2000 ∧ (place < 0 ∨ width f * units r f ≤ place) ∧ ∀ (H' : Hp) (d : Addr), Same H H' → H' d = some (.xd (vf (.int place))) → E (.ref C) (some d) H'
def spOffE (K : PySem.W.Frag) (C : Addr) : Sp := fun vs H Q E => ∃ x y l r f n place, vs = [x, y, .int place] ∧ RnAt K H x l r ∧ FmAt K H y f ∧ RnOk n r ∧ f.Ok n ∧ 0 < n ∧ n ≤ 2000 ∧ (place < 0 ∨ size1 r ≤ place) ∧ ∀ (H' : Hp) (d : Addr), Same H H' → H' d = some (.xd (vf (.int place))) → E (.ref C) (some d) H'
def spRf (K : PySem.W.Frag) : Sp := fun vs H Q _ => ∃ wh x y l r f n place, vs = [.int wh, x, y, .int place] ∧ RnAt K H x l r ∧ FmAt K H y f ∧ RnOk n r ∧ f.Ok n ∧ 0 < n ∧ n ≤ 2000 ∧ (place < 0 ∨ (wh = 0 ∧ width f * units r f ≤ place) ∨ (wh ≠ 0 ∧ size1 r ≤ place)) ∧ ∀ H', Same H H' → Q (.bl true) H'
section
variable {P : Program} {w : World} {K : PySem.W.Frag} {mg : Str → Option Value} {base : Heap} {L C : Addr} {st : Stmt}
theorem ok_chpE {f : Addr} {fd : FuncData} {k : Nat} (TL : LineC K mg L) (T : ErrC K P.main.file mg L "InvalidPlace" "InvalidPlace.__init__" st C) (F : Fun K "check_place" "check_place" sCheckPlace f fd)
    (ht : (P.main.scope.names.lookup ("super" : Str)).isSome = false) (gs : mg "super" = none) : FnOk P w K mg base (L2.CX P w) (k + 3) f fd ["place", "total"] (spChpE C) := by
  refine F.okX scChp (fun vs H Q E h => ?_) (fun cdv A outer s H vs Q E hr h => ?_)
  · obtain ⟨p, t, rfl, _⟩ := h
    rfl
  · obtain ⟨p, t, rfl, hb, q⟩ := h
    have hr1 : Room 1 (A.deeper (PyProof.Rows.envOfC "check_place" (defScope sCheckPlace) s.heap.objs.size f cdv)) := hr.mono (by omega)
    refine ⟨_, pss_one (ps_if (PW.pt (pw_or (pt_cmpR op_lt (pv 0) pe_int (nomark _)) (pw_or1 (pt_cmpR op_ge (pv 0) (pv 1) (nomark _))))) (pss_one (ps_raise rfl (takes_of rfl rfl rfl rfl) (pmk_err TL T hr1 ht gs (by rfl) (pv 0)))) pss_nil), ?_⟩
    refine ⟨_, rfl, _, _, rfl, rfl, _, rfl, ?_⟩
    by_cases h0 : p < 0
    · rw [decide_eq_true h0]
      exact iteT ⟨_, rfl, fun d nd => q _ d (same_upd nd) upd_same⟩
    · rw [decide_eq_false h0]
      refine iteF ⟨_, rfl, _, rfl, _, _, rfl, rfl, _, rfl, ?_⟩
      rw [decide_eq_true (by omega : p ≥ t)]
      exact iteT ⟨_, rfl, fun d nd => q _ d (same_upd nd) upd_same⟩
theorem ok_traE {f aR aF aW aP aU : Addr} {fd dR dF dW dP dU : FuncData} {k : Nat} (F : Fun K "trace" "trace" sTrace f fd)
    (cR : Cl P w K mg base k "check_run" ["run"] (spChkRun K) aR dR)
    (cF : Cl P w K mg base k "check_form" ["wanted"] (spChkForm K) aF dF)
    (cW : Cl P w K mg base k "characters_of_unit" ["wanted"] (spWid K) aW dW)
    (GP : FnOk P w K mg base (L2.CX P w) k aP dP ["place", "total"] (spChpE C)) (bP : Binds K dP ["place", "total"] []) (gP : mg "check_place" = some (.ref aP)) (kP : PySem.W.keepIn K (.ref aP) = true)
    (cU : Cl P w K mg base k "units" ["run", "wanted"] (spUnits K) aU dU) : FnOk P w K mg base (L2.CX P w) (k + 1) f fd ["run", "wanted", "place"] (spTraE K C) := by
  refine F.okX scTra (fun vs H Q E h => ?_) (fun cdv A outer s H vs Q E hr h => ?_)
  · obtain ⟨x, y, l, r, f, n, place, rfl, _⟩ := h
    rfl
  · obtain ⟨x, y, l, r, f, n, place, rfl, hx, hy, ho, hf, hn0, hn, hb, q⟩ := h
    refine ⟨_, (pss_cons (ps_expr (pe_call cR.G hr (by rfl) cR.g cR.kp cR.b .nil pass0 (pa_cons (pv 0) pa_nil)))
      (pss_cons (ps_expr (pe_call cF.G hr (by rfl) cF.g cF.kp cF.b .nil pass0 (pa_cons (pv 1) pa_nil)))
      (pss_cons (ps_set (i := 3) scTra.nd rfl (.inl rfl) (pe_call cW.G hr (by rfl) cW.g cW.kp cW.b .nil pass0 (pa_cons (pv 1) pa_nil)))
      (pss_cons (ps_expr (pe_callS (E := WE fun cls d _ H => E cls d H) GP hr (by rfl) gP kP bP (fun σ => passAt (takes_of rfl rfl rfl rfl) σ) (pa_cons (pv 2) (pa_cons (pe_op op_mulW (pe_call cU.G hr (by rfl) cU.g cU.kp cU.b .nil pass0 (pa_cons (pv 0) (pa_cons (pv 1) pa_nil))) (pv 3)) pa_nil)))) pss_never)))), ?_⟩
    have hu := units_ok (RnOk.sm ho) hf
    have hw := width_sm hf hn0
    refine ⟨_, rfl, x, l, r, n, rfl, hx, ho, fun H1 s1 => ⟨_, rfl, y, f, n, rfl, hy.same s1, hf, fun H2 s2 => ?_⟩⟩
    have s12 := s1.trans s2
    refine ⟨_, rfl, y, f, n, rfl, hy.same s12, hf, hn0, by omega, ?_⟩
    refine ⟨_, rfl, _, rfl, _, rfl, x, l, r, y, f, n, rfl, hx.same s12, hy.same s12, RnOk.sm ho, hf, by omega, fun H3 s3 => ?_⟩
    refine ⟨_, rfl, _, _, rfl, rfl, wide_mul hu.2 hw (by omega) (by omega) (by omega), place, _, rfl, by rw [Int.mul_comm]; exact hb, fun H' d s hd => q H' d ((s12.trans s3).trans s) hd⟩
theorem ok_offE {f aN aR aF aP aU : Addr} {fd dR dF dP dU : FuncData} {k : Nat} (F : Fun K "offspring" "offspring" sOffspring f fd)
    (gN : mg "NOTHING" = some (.ref aN)) (tN : ∀ H : Hp, FmAt K H (.ref aN) nothing)
    (cR : Cl P w K mg base k "check_run" ["run"] (spChkRun K) aR dR)
    (cF : Cl P w K mg base k "check_form" ["wanted"] (spChkForm K) aF dF)
    (GP : FnOk P w K mg base (L2.CX P w) k aP dP ["place", "total"] (spChpE C)) (bP : Binds K dP ["place", "total"] []) (gP : mg "check_place" = some (.ref aP)) (kP : PySem.W.keepIn K (.ref aP) = true)
    (cU : Cl P w K mg base k "units" ["run", "wanted"] (spUnits K) aU dU) : FnOk P w K mg base (L2.CX P w) (k + 1) f fd ["run", "wanted", "place"] (spOffE K C) := by
  refine F.okX scOff (fun vs H Q E h => ?_) (fun cdv A outer s H vs Q E hr h => ?_)
  · obtain ⟨x, y, l, r, f, n, place, rfl, _⟩ := h
    rfl
  · obtain ⟨x, y, l, r, f, n, place, rfl, hx, hy, ho, hf, hn0, hn, hb, q⟩ := h
    refine ⟨_, (pss_cons (ps_expr (pe_call cR.G hr (by rfl) cR.g cR.kp cR.b .nil pass0 (pa_cons (pv 0) pa_nil)))
      (pss_cons (ps_expr (pe_call cF.G hr (by rfl) cF.g cF.kp cF.b .nil pass0 (pa_cons (pv 1) pa_nil)))
      (pss_cons (ps_expr (pe_callS (E := WE fun cls d _ H => E cls d H) GP hr (by rfl) gP kP bP (fun σ => passAt (takes_of rfl rfl rfl rfl) σ) (pa_cons (pv 2) (pa_cons (pe_call cU.G hr (by rfl) cU.g cU.kp cU.b .nil pass0 (pa_cons (pv 0) (pa_cons (pe_glob (v := .ref aN) rfl gN rfl) pa_nil))) pa_nil)))) pss_never))), ?_⟩
    refine ⟨_, rfl, x, l, r, n, rfl, hx, ho, fun H1 s1 => ⟨_, rfl, y, f, n, rfl, hy.same s1, hf, fun H2 s2 => ?_⟩⟩
    have s12 := s1.trans s2
    refine ⟨_, rfl, _, rfl, x, l, r, .ref aN, nothing, n, rfl, hx.same s12, tN _, RnOk.sm ho, nothing_okT n, by omega, fun H3 s3 => ?_⟩
    rw [size_nothing ho]
    exact ⟨place, _, rfl, hb, fun H' d s hd => q H' d ((s12.trans s3).trans s) hd⟩
theorem ok_rf {f aT aO : Addr} {fd dT dO : FuncData} {k : Nat} (TL : LineC K mg L) (T : ErrC K P.main.file mg L "InvalidPlace" "InvalidPlace.__init__" st C) (hself : PySem.W.exmOne K (.ref C) (.ref C) = some true) (F : Fun K "_law_is_refused" "_law_is_refused" sLIsRefused f fd)
    (GT : FnOk P w K mg base (L2.CX P w) k aT dT ["run", "wanted", "place"] (spTraE K C)) (bT : Binds K dT ["run", "wanted", "place"] []) (gT : mg "trace" = some (.ref aT)) (kT : PySem.W.keepIn K (.ref aT) = true)
    (GO : FnOk P w K mg base (L2.CX P w) k aO dO ["run", "wanted", "place"] (spOffE K C)) (bO : Binds K dO ["run", "wanted", "place"] []) (gO : mg "offspring" = some (.ref aO)) (kO : PySem.W.keepIn K (.ref aO) = true) :
    FnOk P w K mg base CX0 (k + 1) f fd ["which", "run_now", "shape", "at"] (spRf K) := by
  refine F.ok scRf (fun vs H Q E h => ?_) (fun cdv A outer s H vs Q E hr h => ?_)
  · obtain ⟨wh, x, y, l, r, f, n, place, rfl, _⟩ := h
    rfl
  · obtain ⟨wh, x, y, l, r, f, n, place, rfl, hx, hy, ho, hf, hn0, hn, hb, q⟩ := h
    refine ⟨_, pss_cons (ps_try_keep (i := 4) rfl rfl rfl scRf.nd rfl rfl ⟨rfl, by decide, .inl T.gC⟩
          (fun W pn xe tk hp => pss_one (ps_if (pt_cmpR op_eq (pv 0) pe_int (nomark _))
            (pss_one (ps_expr (pe_callS (E := WE W) GT hr (by rfl) gT kT bT (fun σ => passAt tk σ) (pa_cons (pv 1) (pa_cons (pv 2) (pa_cons (pv 3) pa_nil))))))
            (pss_one (ps_expr (pe_callS (E := WE W) GO hr (by rfl) gO kO bO (fun σ => passAt tk σ) (pa_cons (pv 1) (pa_cons (pv 2) (pa_cons (pv 3) pa_nil))))))))
          (fun a pn => pss_one (ps_ret (pe_cmpR op_eq (pe_errXVK (K := K) rfl (pv 4)) (pv 3) (nomark _)))))
      (pss_one (ps_ret pe_bl)), ?_⟩
    refine ⟨_, rfl, rfl, _, rfl, ?_⟩
    by_cases hw : wh = 0
    · subst hw
      rw [decide_eq_true rfl]
      refine iteT ⟨_, rfl, _, rfl, _, rfl, x, y, l, r, f, n, place, rfl, hx, hy, ho, hf, hn0, hn, by omega, fun H1 d s1 hd1 => ⟨C, d, rfl, rfl, hself, fun a ha => ?_⟩⟩
      have s2 := s1.trans (same_upd (o := errX a C d) ha)
      refine ⟨_, rfl, a, C, d, .int place, rfl, upd_same, by rw [upd_ne (ne_of_none hd1 ha)]; exact hd1, ⟨_, _, _, _, _, _, TL, T⟩, _, rfl, rfl, ?_⟩
      rw [decide_eq_true rfl]
      exact q _ s2
    · rw [decide_eq_false fun z => hw (V.int.inj z)]
      refine iteF ⟨_, rfl, _, rfl, _, rfl, x, y, l, r, f, n, place, rfl, hx, hy, ho, hf, hn0, hn, by omega, fun H1 d s1 hd1 => ⟨C, d, rfl, rfl, hself, fun a ha => ?_⟩⟩
      have s2 := s1.trans (same_upd (o := errX a C d) ha)
      refine ⟨_, rfl, a, C, d, .int place, rfl, upd_same, by rw [upd_ne (ne_of_none hd1 ha)]; exact hd1, ⟨_, _, _, _, _, _, TL, T⟩, _, rfl, rfl, ?_⟩
      rw [decide_eq_true rfl]
      exact q _ s2
end
end Lw
namespace Lw
open PySem PySem.Spec L2 Lx
theorem asgK {v : V} {g : TG} {D : Ends} {σ : St} {H : Hp} (h : g v σ H D.nx) : tAsg (tC v) g D σ H := h
theorem op_eqDK {X : Cx} {K : PySem.W.Frag} (hK : X.K = K) (hu : X.A.units + 64 < cLine) : OpR X (compareOp .Eq) (rEqD K) := by
  subst hK
  exact op_eqD hu
theorem op_neDK {X : Cx} {K : PySem.W.Frag} (hK : X.K = K) (hu : X.A.units + 64 < cLine) : OpR X (compareOp .NotEq) (rNeD K) := by
  subst hK
  exact op_neD hu
/-! ### a pool of draws: a list of three numbers -/
def PoolAt (H : Hp) (p : Addr) (n : Nat) : Prop := ∃ a m k : Int, H p = some (.lst [.int a, .int m, .int k]) ∧ 0 ≤ a ∧ 0 ≤ m ∧ m < 9223372036854775808 ∧ 0 ≤ k ∧ k ≤ n
theorem PoolAt.same {H H' : Hp} {p : Addr} {n : Nat} (s : Same H H') : PoolAt H p n → PoolAt H' p n := fun ⟨a, m, k, h, r⟩ => ⟨a, m, k, s _ _ h, r⟩
theorem PoolAt.mono {H : Hp} {p : Addr} {n m : Nat} (h : n ≤ m) : PoolAt H p n → PoolAt H p m := fun ⟨a, x, k, h1, h2, h3, h4, h5, h6⟩ => ⟨a, x, k, h1, h2, h3, h4, h5, by omega⟩
theorem PoolAt.ne {H : Hp} {p b : Addr} {n : Nat} (s : PoolAt H p n) (h : H b = none) : b ≠ p := by
  obtain ⟨_, _, _, q, _⟩ := s
  exact Ne.symm (ne_of_none q h)
theorem PoolAt.neT {H : Hp} {p b : Addr} {n : Nat} {xs : List V} (s : PoolAt H p n) (h : H b = some (.tup xs)) : b ≠ p := by
  obtain ⟨_, _, _, q, _⟩ := s
  exact ne_of h q (by intro z; cases z)
theorem PoolAt.own {H : Hp} {p b : Addr} {n : Nat} {o : HO} (s : PoolAt H p n) (ne : b ≠ p) : PoolAt (upd H b o) p n := by
  obtain ⟨a, m, k, h, r⟩ := s
  exact ⟨a, m, k, by rw [upd_ne (Ne.symm ne)]; exact h, r⟩
theorem Kd.put {d : Addr} {H : Hp} {o : HO} : Kd d H (upd H d o) := fun b u hb e => by rw [upd_ne hb]; exact e
theorem Kd.own {d b : Addr} {H H' : Hp} {o : HO} (k : Kd d H H') (h : H b = none) : Kd d H (upd H' b o) := fun c u hc e => by
  rw [upd_ne (ne_of_none e h)]
  exact k c u hc e
theorem Kd.freeP {d b : Addr} {H H' : Hp} {n : Nat} (k : Kd d H H') (s : PoolAt H' d n) (h : H' b = none) : H b = none := by
  cases e : H b with
  | none => rfl
  | some o =>
    have := k b o (s.ne h) e
    rw [h] at this
    cases this
theorem Prs.kd {K : PySem.W.Frag} {H H' : Hp} {d : Addr} {n : Nat} (s : PoolAt H d n) (k : Kd d H H') : ∀ {vs : List V} {gs : List (Int × Int)}, Prs K H vs gs → Prs K H' vs gs
  | _, _, .nil => .nil
  | _, _, .cons ⟨p, e, h⟩ t => .cons ⟨p, e, k _ _ (s.neT h) h⟩ (Prs.kd s k t)
theorem RnS.kd {K : PySem.W.Frag} {H H' : Hp} {v : V} {l d : Addr} {n : Nat} {g : List (Int × Int) × Int} (s : PoolAt H d n) (k : Kd d H H') (ne : l ≠ d) : RnS K H v l g → RnS K H' v l g :=
  fun ⟨p, xs, h1, h2, h3, h4⟩ => ⟨p, xs, h1, k _ _ (s.neT h2) h2, k _ _ ne h3, Prs.kd s k h4⟩
end Lw
/-! three keywords, the last parameter's first; operators that are read in one of two ways -/
namespace Lx
open PySem PySem.Spec L2
def g321 (α : Type) : List α → List α → List α
  | [], [a, b, c] => [c, b, a]
  | _, _ => []
theorem kb321 {K : PySem.W.Frag} {x qual : Str} {st : Stmt} {f : Addr} {fd : FuncData} {p1 p2 p3 : Str} (F : Fun K x qual st f fd)
    (h : ∀ (kV doc pm : Value) (an : Option Addr) (cdv ct a b c : Value), bindArgs (PySem.W.fnOf x qual (defArgs st) (defBody st) (defScope st) .none kV doc pm an cdv ct) ⟨[], [(p3, a), (p2, b), (p1, c)]⟩ = pure [(p1, c), (p2, b), (p3, a)]) : KBinds K fd [p1, p2, p3] [p3, p2, p1] (g321 Value) (g321 V) := by
  obtain ⟨oc, od, kV, doc, pm, an, cdv, ct, osl, rfl, lk, hcd⟩ := F.ex
  refine ⟨fun s us ws _ hl => ?_, fun {vs us zs ws} r1 r2 => ?_⟩
  · match us, ws, hl with
    | [], [a, b, c], _ => exact .of_eq (h kV doc pm an cdv ct a b c)
    | [], [], hl => exact absurd hl (by simp [g321])
    | [], [_], hl => exact absurd hl (by simp [g321])
    | [], [_, _], hl => exact absurd hl (by simp [g321])
    | [], _ :: _ :: _ :: _ :: _, hl => exact absurd hl (by simp [g321])
    | _ :: _, _, hl => exact absurd hl (by simp [g321])
  · cases r1 with
    | cons _ _ => exact .nil
    | nil =>
      cases r2 with
      | nil => exact .nil
      | cons a t =>
        cases t with
        | nil => exact .nil
        | cons b t =>
          cases t with
          | nil => exact .nil
          | cons c t =>
            cases t with
            | nil => exact .cons c (.cons b (.cons a .nil))
            | cons _ _ => exact .nil
/-- read in one of two ways -/
theorem op_either {X : Cx} {op : CmpOp} {r r' : R2} (h : OpR X (compareOp op) r) (h' : OpR X (compareOp op) r') : OpR X (compareOp op) (fun x y H Q => r x y H Q ∨ r' x y H Q) := by
  intro pins s σ H x y v u Q I rx ry hq
  rcases hq with hq | hq
  · exact h pins s σ H x y v u Q I rx ry hq
  · exact h' pins s σ H x y v u Q I rx ry hq
end Lx
namespace Lw
open PySem PySem.Spec L2 Lx
theorem scRi : FnScope ["run_now", "shape", "stems", "many", "at", "spot", "places", "due"] ["run_now", "shape", "stems", "many"] (defScope sLRight) := ⟨rfl, rfl, rfl, by decide +kernel, rfl, by decide +kernel, by decide +kernel⟩
/-- the stems of a form's characters, the run's groups one by one in js -/
def spRi (K : PySem.W.Frag) : Sp := fun vs H Q _ => ∃ (x y : V) (l q : Addr) (r : List (Int × Int) × Int) (f : Fm) (n : Nat) (js : List Nat) (rest : Nat), vs = [x, y, .ref q, .int ((szN js + rest : Nat) : Int)] ∧ RnAt K H x l r ∧ FmAt K H y f ∧ RnOk n r ∧ f.Ok n ∧ FNn f ∧ 0 < n ∧ n ≤ 2000 ∧
  expand r.1 = js.map (fun j : Nat => (j : Int)) ∧ size1 r = ((szN js + rest : Nat) : Int) ∧ Ln f js (szN js + rest) ≤ 1000 ∧ szN js + rest ≤ 1000 ∧ width f * units r f = (Ln f js (szN js + rest) : Nat) ∧
  H q = some (.lst ((spread (Ln f js) (szN js + rest)).map fun p : Nat => V.int p)) ∧ ∀ H', Same H H' → Q (.bl true) H'
section
variable {P : Program} {w : World} {K : PySem.W.Frag} {mg : Str → Option Value} {base : Heap}
theorem ok_ri {f aT aO : Addr} {fd dT dO : FuncData} {k : Nat} (F : Fun K "_law_right" "_law_right" sLRight f fd) (Z : RlF mg)
    (cT : Cl P w K mg base k "trace" ["run", "wanted", "place"] (spTra K) aT dT) (kcT : KBinds K dT ["run", "wanted", "place"] ["place", "wanted", "run"] (g321 Value) (g321 V))
    (cO : Cl P w K mg base k "offspring" ["run", "wanted", "place"] (spOff K) aO dO) (kcO : KBinds K dO ["run", "wanted", "place"] ["place", "wanted", "run"] (g321 Value) (g321 V)) :
    FnOk P w K mg base CX0 (k + 1) f fd ["run_now", "shape", "stems", "many"] (spRi K) := by
  refine F.ok scRi (fun vs H Q E h => ?_) (fun cdv A outer s H vs Q E hr h => ?_)
  · obtain ⟨x, y, l, q, r, f, n, js, rest, rfl, _⟩ := h
    rfl
  · obtain ⟨x, y, l, q, r, f, n, js, rest, rfl, hx, hy, ho, hf, hnn, hn0, hn, hex, hsz, hL, hS, hW, hq, q'⟩ := h
    refine ⟨_, (pss_cons (ps_for PassesOwn.never rfl (pi_range1 rfl Z.range (pa_cons (pe_callB call_len_seq (by rfl) Z.len PySem.boot_len (pa_cons (pv 2) pa_nil)) pa_nil)) (pg_name (i := 4) scRi.nd rfl (.inl rfl))
          (pss_cons (ps_if (pt_cmpR op_ne (pe_call cT.G hr (by rfl) cT.g cT.kp cT.b .nil pass0 (pa_cons (pv 0) (pa_cons (pv 1) (pa_cons (pv 4) pa_nil)))) (pe_ix ix_list (pv 2) (pv 4) (fun _ _ => rfl)) (nomark _))
              (pss_one (ps_ret pe_bl)) pss_nil)
          (pss_one (ps_if (pt_cmpR op_ne (pe_callK0 cT.G hr (by rfl) cT.g cT.kp kcT pass0 (pk_cons (pv 4) (pk_cons (pv 1) (pk_cons (pv 0) pk_nil)))) (pe_ix ix_list (pv 2) (pv 4) (fun _ _ => rfl)) (nomark _))
              (pss_one (ps_ret pe_bl)) pss_nil))))
      (pss_cons (ps_for PassesOwn.never rfl (pi_range1 rfl Z.range (pa_cons (pv 3) pa_nil)) (pg_name (i := 5) scRi.nd rfl (.inr rfl))
          (pss_cons (ps_setLc (i := 6) (own := [("at", 4)]) (g := (gName 4)) (tt := _) rfl scRi.nd rfl rfl (sw_true rfl rfl rfl (by decide +kernel)) (pi_range1 rfl Z.range (pa_cons (pe_callB call_len_seq (by rfl) Z.len PySem.boot_len (pa_cons (pv 2) pa_nil)) pa_nil)) (blkOk_by (own := [("at", 4)]) (N := ["run_now", "shape", "stems", "many", "at", "spot", "places", "due"]) (sc := defScope sLRight) (by decide +kernel)) (fun _ _ _ _ _ => (pg_name (i := 4) scRi.nd rfl (.inl rfl))) (fun _ _ _ _ _ => (pts_one (pt_cmpR op_eq (pe_ix (ix_l (K := K) rfl) (pv 2) (pv 4) (fun _ _ => rfl)) (pv 5) (nomark _)))) (fun _ _ _ _ _ => (pv 4)))
          (pss_cons (ps_set (i := 7) scRi.nd rfl (.inl rfl) pe_non)
          (pss_cons (ps_if (pt_cmpR op_gt (pe_callB call_len_seq (by rfl) Z.len PySem.boot_len (pa_cons (pv 6) pa_nil)) pe_int (nomark _))
              (pss_one (ps_set (i := 7) scRi.nd rfl (.inl rfl) (pe_tup (pa_cons (pe_ix ix_list (pv 6) pe_int (fun _ _ => rfl)) (pa_cons (pe_ix ix_list (pv 6) (pe_un un_neg pe_int) (fun _ _ => rfl)) pa_nil))))) pss_nil)
          (pss_cons (ps_if (pt_cmpR (op_either (op_neD hr.units) op_ne) (pe_call cO.G hr (by rfl) cO.g cO.kp cO.b .nil pass0 (pa_cons (pv 0) (pa_cons (pv 1) (pa_cons (pv 5) pa_nil)))) (pv 7) (nomark _))
              (pss_one (ps_ret pe_bl)) pss_nil)
          (pss_one (ps_if (pt_cmpR (op_either (op_neD hr.units) op_ne) (pe_callK0 cO.G hr (by rfl) cO.g cO.kp kcO pass0 (pk_cons (pv 5) (pk_cons (pv 1) (pk_cons (pv 0) pk_nil)))) (pv 7) (nomark _))
              (pss_one (ps_ret pe_bl)) pss_nil)))))))
      (pss_one (ps_ret pe_bl)))), ?_⟩
    have h0 := Ln_0 f js
    have hm := Ln_mono f js
    have hLU := Ln_U hnn js
    generalize hN : szN js + rest = N at *
    generalize hLd : Ln f js = Lf at *
    have hlen : ((spread Lf N).map fun p : Nat => V.int p).length = Lf N := by rw [List.length_map, spread_len h0 hm]
    generalize hsp : (spread Lf N).map (fun p : Nat => V.int p) = zs at *
    dsimp only [gName, tNext, tSeq]
    have tra : ∀ (i p' : Nat) (p : Int), i < Lf N → 0 ≤ p → width f * U f (expand r.1) p ≤ (i : Int) → (i : Int) < width f * U f (expand r.1) (p + 1) → zs[i]? = some (.int p) := fun i p' p hi hp h1 h2 => by
      obtain ⟨pn, rfl⟩ := Int.eq_ofNat_of_zero_le hp
      rw [hex] at h1 h2
      rw [hLU] at h1
      rw [show ((pn : Int) + 1) = ((pn + 1 : Nat) : Int) by omega, hLU] at h2
      have hpN : pn < N := by
        rcases Nat.lt_or_ge pn N with h | h
        · exact h
        · have := L_mono hm h; omega
      rw [← hsp, List.getElem?_map, spread_at h0 hm (p := pn) (by omega) (by omega) N hpN]
      rfl
    refine ⟨_, rfl, q, zs, rfl, .inl (.inl (.inl hq)), _, rfl, by omega, by omega, ?_⟩
    rw [Int.toNat_natCast, hlen]
    refine for_range (lo := 0) (n := Lf N) (fun i σ H' => ∃ y4, σ = [some x, some y, some (.ref q), some (.int (N : Int)), y4, none, none, none] ∧ Same H H') ⟨_, rfl, Same.refl _⟩ ?_ ?_
    · rintro i σ H1 hi ⟨y4, rfl, sm⟩
      have e0 : (0 : Int) + (i : Int) = (i : Int) := Int.zero_add _
      show gName 4 (V.int (0 + (i : Int))) _ _ _
      rw [e0]
      dsimp only [gName, tNext, tSeq]
      refine ⟨_, rfl, _, rfl, _, rfl, x, y, l, r, f, n, (i : Int), rfl, hx.same sm, hy.same sm, ho, hf, hn0, hn, by omega, by rw [hW]; omega, fun H2 p s2 hp hps h1 h2 => ?_⟩
      have hz := tra i 0 p hi hp h1 h2
      refine ⟨_, rfl, _, rfl, q, zs, (i : Int), _, rfl, rfl, .inl (.inl ((sm.trans s2) _ _ hq)), atI_nat hz, rfl, _, rfl, ?_⟩
      rw [decide_eq_true rfl]
      refine iteF ?_
      have sm2 := sm.trans s2
      refine ⟨_, rfl, _, rfl, _, rfl, x, y, l, r, f, n, (i : Int), rfl, hx.same sm2, hy.same sm2, ho, hf, hn0, hn, by omega, by rw [hW]; omega, fun H3 p s3 hp hps h1 h2 => ?_⟩
      have hz := tra i 0 p hi hp h1 h2
      refine ⟨_, rfl, _, rfl, q, zs, (i : Int), _, rfl, rfl, .inl (.inl ((sm2.trans s3) _ _ hq)), atI_nat hz, rfl, _, rfl, ?_⟩
      rw [decide_eq_true rfl]
      exact iteF ⟨_, rfl, sm2.trans s3⟩
    · rintro σ H1 ⟨y4, rfl, sm⟩
      dsimp only [gName, tNext, tSeq]
      refine ⟨_, rfl, _, rfl, by omega, by omega, ?_⟩
      rw [Int.toNat_natCast]
      refine for_range (lo := 0) (n := N) (fun i σ H' => ∃ y4 y5 y6 y7, σ = [some x, some y, some (.ref q), some (.int (N : Int)), y4, y5, y6, y7] ∧ Same H H') ⟨_, _, _, _, rfl, sm⟩ ?_ ?_
      · rintro i σ H2 hi ⟨y4, y5, y6, y7, rfl, sm⟩
        have e0 : (0 : Int) + (i : Int) = (i : Int) := Int.zero_add _
        show gName 5 (V.int (0 + (i : Int))) _ _ _
        rw [e0]
        dsimp only [gName, tNext, tSeq]
        have hq2 := sm _ _ hq
        refine ⟨_, rfl, q, zs, rfl, .inl (.inl (.inl hq2)), _, rfl, by omega, by omega, fun D nD => ?_⟩
        rw [Int.toNat_natCast, hlen]
        refine lc_it (walk_range (lo := 0) (n := Lf N)) (fun j H' => Same H2 H' ∧ H' D = some (.lst (((List.range j).filter fun x => decide (Lf i ≤ x ∧ x < Lf (i + 1))).map fun p : Nat => V.int p))) ⟨same_upd nD, upd_same⟩ (fun _ _ _ _ => trivial) ?_ ?_
        · rintro j u H3 H4 hj ⟨sm2, hD⟩ ⟨rfl, rfl⟩
          have e1 : (0 : Int) + (j : Int) = (j : Int) := Int.zero_add _
          show gName 4 (V.int (0 + (j : Int))) _ _ _
          rw [e1]
          have hsl := spread_len h0 hm N
          have hjs : j < (spread Lf N).length := by omega
          have hjv := List.getElem?_eq_getElem hjs
          generalize (spread Lf N)[j] = v at hjv
          have hzv : zs[j]? = some (.int v) := by rw [← hsp, List.getElem?_map, hjv]; rfl
          have hiff := spread_eq h0 hm (p := i) hj hjv
          have hcnt : ((List.range j).filter fun x => decide (Lf i ≤ x ∧ x < Lf (i + 1))).length ≤ 1000 := by
            have := List.length_filter_le (fun x => decide (Lf i ≤ x ∧ x < Lf (i + 1))) (List.range j)
            rw [List.length_range] at this
            omega
          refine ⟨rfl, _, rfl, _, rfl, q, zs, (j : Int), _, rfl, rfl, .inl (.inl (sm2 _ _ hq2)), atI_nat hzv, _, rfl, rfl, _, rfl, ?_⟩
          rw [List.range_succ, List.filter_append, List.map_append]
          by_cases hv : v = i
          · rw [decide_eq_true (show V.int _ = V.int _ from congrArg V.int (by omega))]
            refine iteT ⟨_, rfl, _, hD, by rw [List.length_map, sizeLine_eq]; omega, Same.own sm2 nD, ?_⟩
            rw [upd_same, List.filter_cons, if_pos (decide_eq_true (hiff.mp hv))]
            rfl
          · rw [decide_eq_false fun z => hv (by have := V.int.inj z; omega)]
            refine iteF ⟨sm2, ?_⟩
            rw [List.filter_cons, if_neg (fun z => hv (hiff.mpr (of_decide_eq_true z)))]
            show _ = some (HO.lst (_ ++ []))
            rw [List.append_nil]
            exact hD
        · rintro H3 ⟨sm2, hD⟩
          have hLi : Lf (i + 1) ≤ Lf N := L_mono hm hi
          rw [range_cut0, Nat.min_eq_left hLi] at hD
          have hLi0 := hm i
          have hU0 : width f * U f (expand r.1) (i : Int) = (Lf i : Nat) := by rw [hex]; exact hLU i
          have hU1 : width f * U f (expand r.1) ((i : Int) + 1) = (Lf (i + 1) : Nat) := by rw [hex, show ((i : Int) + 1) = ((i + 1 : Nat) : Int) by omega]; exact hLU (i + 1)
          have hw0 := width_pos hf
          dsimp only [gName, tNext, tSeq]
          have sm3 := sm.trans sm2
          have hdl : ((List.range' (Lf i) (Lf (i + 1) - Lf i)).map fun p : Nat => V.int p).length = Lf (i + 1) - Lf i := by rw [List.length_map, List.length_range']
          refine ⟨_, rfl, D, _, rfl, .inl (.inl (.inl hD)), _, _, rfl, rfl, _, rfl, ?_⟩
          rw [hdl]
          by_cases hlt : Lf i < Lf (i + 1)
          · have hne : U f (expand r.1) (i : Int) ≠ U f (expand r.1) ((i : Int) + 1) := fun e => by
              rw [e, hU1] at hU0
              omega
            have hfirst : ((List.range' (Lf i) (Lf (i + 1) - Lf i)).map fun p : Nat => V.int p)[0]? = some (.int (Lf i : Nat)) := by
              rw [List.getElem?_map, List.getElem?_range' (by omega)]
              rfl
            have hlast : (List.range' (Lf i) (Lf (i + 1) - Lf i)).map (fun p : Nat => V.int p) = (List.range' (Lf i) (Lf (i + 1) - Lf i - 1)).map (fun p : Nat => V.int p) ++ [V.int ((Lf (i + 1) - 1 : Nat) : Int)] := by
              rw [show Lf (i + 1) - Lf i = (Lf (i + 1) - Lf i - 1) + 1 by omega, List.range'_concat, List.map_append, show Lf i + 1 * (Lf (i + 1) - Lf i - 1) = Lf (i + 1) - 1 by omega, show Lf (i + 1) - Lf i - 1 + 1 - 1 = Lf (i + 1) - Lf i - 1 by omega]
              rfl
            rw [decide_eq_true (by omega : (0 : Int) < ((Lf (i + 1) - Lf i : Nat) : Int))]
            refine iteT ?_
            refine ⟨_, rfl, D, _, 0, _, rfl, rfl, .inl (.inl hD), atI_nat (j := 0) hfirst, ?_⟩
            rw [hlast] at hD
            refine ⟨_, rfl, (1 : Int), rfl, D, _, (-1 : Int), _, rfl, rfl, .inl (.inl hD), atI_last _ _, by show 2 ≤ sizeLine; decide, fun t nt => ?_⟩
            have st := same_upd (o := .tup [.int (Lf i : Nat), .int ((Lf (i + 1) - 1 : Nat) : Int)]) nt
            have ht0 : upd H3 t (.tup [.int (Lf i : Nat), .int ((Lf (i + 1) - 1 : Nat) : Int)]) t = _ := upd_same
            generalize upd H3 t (.tup [.int (Lf i : Nat), .int ((Lf (i + 1) - 1 : Nat) : Int)]) = H4 at st ht0
            have sm4 := sm3.trans st
            dsimp only [gName, tNext, tSeq]
            have dt : ∀ (H5 : Hp) (t : Addr), H5 t = some (.tup [.int (Lf i : Nat), .int ((Lf (i + 1) - 1 : Nat) : Int)]) → Dq K H5 (.ref t) (.tuple [.int (Lf i : Nat), .int ((Lf (i + 1) - 1 : Nat) : Int)]) := fun H5 t h => .tup (.inl ⟨_, h⟩) (.inl (.inl h)) (.cons (.int _) (.cons (.int _) .nil))
            have sh : SeqAt.shaped (.tuple [.int (Lf i : Nat), .int ((Lf (i + 1) - 1 : Nat) : Int)]) = true := by
              unfold SeqAt.shaped
              simp [PyData.canLay0, PyData.canLayAll0, PyData.depth, PyData.depthAll]
            have ev : PyData.eqv (.tuple [.int (Lf i : Nat), .int ((Lf (i + 1) - 1 : Nat) : Int)]) (.tuple [.int (Lf i : Nat), .int ((Lf (i + 1) - 1 : Nat) : Int)]) = true := SeqAt.eqv_refl _ (SeqAt.canLay_of_shaped sh)
            have eH : (HO.tup [.int (width f * U f (expand r.1) (i : Int)), .int (width f * U f (expand r.1) ((i : Int) + 1) - 1)]) = .tup [.int (Lf i : Nat), .int ((Lf (i + 1) - 1 : Nat) : Int)] := by
              rw [hU0, hU1, show ((Lf (i + 1) : Nat) : Int) - 1 = ((Lf (i + 1) - 1 : Nat) : Int) by omega]
            refine ⟨_, rfl, _, rfl, _, rfl, x, y, l, r, f, n, (i : Int), rfl, hx.same sm4, hy.same sm4, ho, hf, hn0, hn, by omega, by omega, fun e => absurd e hne, fun _ H5 t5 s5 n5 h5 => ?_⟩
            rw [eH] at h5
            refine ⟨_, rfl, .inl ⟨_, _, (dt H5 t5 h5).dp, (dt H5 t (s5 _ _ ht0)).dp, sh, sh, _, rfl, ?_⟩⟩
            rw [ev]
            refine iteF ?_
            have sm5 := sm4.trans s5
            refine ⟨_, rfl, _, rfl, _, rfl, x, y, l, r, f, n, (i : Int), rfl, hx.same sm5, hy.same sm5, ho, hf, hn0, hn, by omega, by omega, fun e => absurd e hne, fun _ H6 t6 s6 n6 h6 => ?_⟩
            rw [eH] at h6
            refine ⟨_, rfl, .inl ⟨_, _, (dt H6 t6 h6).dp, (dt H6 t (s6 _ _ (s5 _ _ ht0))).dp, sh, sh, _, rfl, ?_⟩⟩
            rw [ev]
            exact iteF ⟨_, _, _, _, rfl, sm5.trans s6⟩
          · have he : U f (expand r.1) (i : Int) = U f (expand r.1) ((i : Int) + 1) := Int.eq_of_mul_eq_mul_left (show width f ≠ 0 by omega) (by rw [hU0, hU1]; omega)
            rw [decide_eq_false (by omega : ¬ (0 : Int) < ((Lf (i + 1) - Lf i : Nat) : Int))]
            refine iteF ?_
            refine ⟨_, rfl, _, rfl, _, rfl, x, y, l, r, f, n, (i : Int), rfl, hx.same sm3, hy.same sm3, ho, hf, hn0, hn, by omega, by omega, fun _ H5 s5 => ?_, fun h => absurd he (by omega)⟩
            refine ⟨_, rfl, .inr ⟨rfl, _, rfl, ?_⟩⟩
            rw [decide_eq_true rfl]
            refine iteF ?_
            have sm5 := sm3.trans s5
            refine ⟨_, rfl, _, rfl, _, rfl, x, y, l, r, f, n, (i : Int), rfl, hx.same sm5, hy.same sm5, ho, hf, hn0, hn, by omega, by omega, fun _ H6 s6 => ?_, fun h => absurd he (by omega)⟩
            refine ⟨_, rfl, .inr ⟨rfl, _, rfl, ?_⟩⟩
            rw [decide_eq_true rfl]
            exact iteF ⟨_, _, _, _, rfl, sm5.trans s6⟩
      · rintro σ H2 ⟨y4, y5, y6, y7, rfl, sm⟩
        exact q' _ sm
end
end Lw
namespace Lw
open PySem PySem.Spec L2 Lx
theorem scBag : FnScope ["script", "blend", "great", "cell"] ["script"] (defScope sLBag) := ⟨rfl, rfl, rfl, by decide +kernel, rfl, by decide +kernel, by decide +kernel⟩
theorem scDraw : FnScope ["bag", "many", "drawn", "turn", "mixed"] ["bag", "many"] (defScope sLDraw) := ⟨rfl, rfl, rfl, by decide +kernel, rfl, by decide +kernel, by decide +kernel⟩
def spBag (K : PySem.W.Frag) : Sp := fun vs H Q _ => ∃ (a : Addr) (ns : List Int), vs = [.ref a] ∧ SqL K H a (ns.map V.int) ∧ ns.length ≤ 63 ∧ ∀ H' r gl, Same H H' → H r = none → H gl = none → BagAt H' r gl 0 → Q (.ref r) H'
def spDraw : Sp := fun vs H Q _ => ∃ (r gl : Addr) (n : Nat) (m : Int), vs = [.ref r, .int m] ∧ BagAt H r gl n ∧ n < 1000000000 ∧ 0 < m ∧ m.natAbs < 2 ^ 4000 ∧ ∀ v H', 0 ≤ v → v < m → BagAt H' r gl (n + 1) → Kb r gl H H' → Q (.int v) H'
structure BgF (mg : Str → Option Value) : Prop where
  abs : mg "abs" = none
structure DrF (mg : Str → Option Value) : Prop where
  len : mg "len" = none
theorem n_61 : (2305843009213693951 : Int) ≠ 0 := by decide
section
variable {P : Program} {w : World} {K : PySem.W.Frag} {mg : Str → Option Value} {base : Heap}
theorem ok_bag {f : Addr} {fd : FuncData} {k : Nat} (F : Fun K "_law_bag" "_law_bag" sLBag f fd) (Z : BgF mg) : FnOk P w K mg base CX0 (k + 1) f fd ["script"] (spBag K) := by
  refine F.ok scBag (fun vs H Q E h => ?_) (fun cdv A outer s H vs Q E hr h => ?_)
  · obtain ⟨a, ns, rfl, _⟩ := h
    rfl
  · obtain ⟨a, ns, rfl, hS, hlen, q⟩ := h
    refine ⟨_, (pss_cons (ps_par (i := 1) (j := 2) rfl scBag.nd rfl rfl (by decide) rfl rfl (pa_cons pe_int (pa_cons (pe_lst pa_nil) pa_nil)) rfl)
      (pss_cons (ps_for PassesOwn.never rfl (pi_list (pv 0)) (pg_name (i := 3) scBag.nd rfl (.inl rfl))
          (pss_cons (ps_set (i := 1) scBag.nd rfl (.inl rfl) (pe_op op_modN (pe_op op_add (pe_op op_mul (pv 1) pe_int) (pv 3)) pe_int))
          (pss_one (ps_if (pt_cmpR op_ge (pe_callB call_abs (by rfl) Z.abs (by decide +kernel) (pa_cons (pv 3) pa_nil)) (pe_op op_pow pe_int pe_int) (nomark _))
              (pss_one (ps_expr (pe_bm PySem.F.plainAttrs_list PySem.F.slot_list_append PySem.F.type_list_append mt_append (pv 2) (pa_cons (pe_callB call_abs (by rfl) Z.abs (by decide +kernel) (pa_cons (pv 3) pa_nil)) pa_nil)))) pss_nil))))
      (pss_one (ps_ret (pe_disp (pps_cons pe_str (pv 2) (pps_cons pe_str pe_int (pps_cons pe_str pe_int (pps_cons pe_str (pv 1) pps_nil)))) (by rfl) (by rfl) (fun z => by cases z) (by decide)))))), ?_⟩
    refine ⟨Nat.zero_le _, fun gl ngl => ?_⟩
    have s0 := same_upd (o := .lst []) ngl
    refine ⟨_, _, rfl, ?_⟩
    refine ⟨_, rfl, a, rfl, ⟨_, s0.seq hS⟩, ?_⟩
    refine for_it (walk_list (xs := ns.map V.int)) (fun i σ H' => Same H H' ∧ ∃ (b : Int) (ds : List Int) (y3 : Option V), σ = [some (.ref a), some (.int b), some (.ref gl), y3] ∧ H' gl = some (.lst (ds.map V.int)) ∧ (∀ d ∈ ds, 0 ≤ d) ∧ 0 ≤ b ∧ b < 2305843009213693952 ∧ ds.length ≤ i)
      ⟨s0, 11, [], none, rfl, upd_same, (fun d hd => by cases hd), by decide, by decide, Nat.le_refl _⟩ (fun i σ H' _ hQ => hQ.1.seq hS) ?_ ?_
    · rintro i u σ H1 H2 hi ⟨sm, b, ds, y3, rfl, hp, hds, hb0, hb1, hl⟩ ⟨rfl, hu⟩
      obtain ⟨z, rfl⟩ : ∃ z : Int, u = .int z := by
        obtain ⟨z, _, e⟩ := List.mem_map.mp (List.mem_of_getElem? hu)
        exact ⟨z, e.symm⟩
      have f1 := fm (a := b * 1000003 + z) (show (0 : Int) < 2305843009213693951 by decide)
      refine ⟨_, rfl, _, _, rfl, rfl, .inl ⟨by omega, by omega⟩, _, rfl, _, _, rfl, rfl, _, _, rfl, rfl, n_61, ?_⟩
      refine ⟨_, rfl, _, rfl, _, _, rfl, rfl, ⟨by decide, by decide, by decide⟩, _, _, rfl, rfl, _, rfl, ite2 (fun c => ?_) (fun c => ?_)⟩
      · refine ⟨_, rfl, .inl ⟨rfl, _, .inl (.inl hp)⟩, _, rfl, _, rfl, ?_⟩
        refine ⟨gl, _, _, rfl, rfl, hp, by rw [List.length_map, sizeLine_eq]; have : (ns.map V.int).length = ns.length := List.length_map ..; omega, ?_⟩
        refine ⟨Same.own sm ngl, _, ds ++ [if z < 0 then -z else z], _, rfl, by rw [upd_same, List.map_append]; rfl, fun d hd => ?_, f1.1, by omega, by rw [List.length_append]; exact Nat.add_le_add_right hl 1⟩
        rcases List.mem_append.mp hd with h | h
        · exact hds d h
        · rw [List.mem_singleton.mp h]
          split <;> omega
      · exact ⟨sm, _, ds, _, rfl, hp, hds, f1.1, by omega, by omega⟩
    · rintro σ H1 ⟨sm, b, ds, y3, rfl, hp, hds, hb0, hb1, hl⟩
      refine fun r nr => ?_
      have s1 := same_upd (o := .dK []) nr
      refine ⟨_, rfl, _, rfl, upd_same, [(.inr "great", .ref gl), (.inr "left", .int 0), (.inr "turn", .int 0), (.inr "blend", .int b)], rfl, (show 4 ≤ 15 by decide), ?_⟩
      have hne : r ≠ gl := Ne.symm (ne_of_none hp nr)
      refine q _ r gl (Same.own (sm.trans s1) (sm.free nr)) (sm.free nr) ngl ⟨ds, 0, 0, b, upd_same, ?_, hds, by decide, by decide, by decide, hb0, hb1, hne⟩
      rw [upd_ne (Ne.symm hne)]
      exact s1 _ _ hp
theorem ok_draw {f : Addr} {fd : FuncData} {k : Nat} (F : Fun K "_law_draw" "_law_draw" sLDraw f fd) (Z : DrF mg) : FnOk P w K mg base CX0 (k + 1) f fd ["bag", "many"] spDraw := by
  refine F.ok scDraw (fun vs H Q E h => ?_) (fun cdv A outer s H vs Q E hr h => ?_)
  · obtain ⟨r, gl, n, m, rfl, _⟩ := h
    rfl
  · obtain ⟨r, gl, n, m, rfl, ⟨ds, l, t, b, h1, h2, h3, h4, h5, h6, h7, h8, h9⟩, hn, hm0, hm1, q⟩ := h
    refine ⟨_, (pss_cons (ps_if (PW.pt (pw_and (pt_cmpR op_lt (pe_dget (hu_of hr) (pv 0) pe_str (fun _ _ => rfl)) (pv 1) (nomark _)) (pw_and1 (pt_cmpR op_gt (pe_callB call_len_seq (by rfl) Z.len PySem.boot_len (pa_cons (pe_dget (hu_of hr) (pv 0) pe_str (fun _ _ => rfl)) pa_nil)) pe_int (nomark _)))))
          (pss_one (ps_dput (hu_of hr) (pv 0) pe_str (pe_bm PySem.F.plainAttrs_list PySem.F.slot_list_pop PySem.F.type_list_pop mt_popAt (pe_dget (hu_of hr) (pv 0) pe_str (fun _ _ => rfl)) (pa_cons pe_int pa_nil)) rfl)) pss_nil)
      (pss_cons (ps_if (pt_cmpR op_ge (pe_dget (hu_of hr) (pv 0) pe_str (fun _ _ => rfl)) (pv 1) (nomark _))
          (pss_cons (ps_set (i := 2) scDraw.nd rfl (.inl rfl) (pe_op op_modN (pe_dget (hu_of hr) (pv 0) pe_str (fun _ _ => rfl)) (pv 1)))
          (pss_cons (ps_dput (hu_of hr) (pv 0) pe_str (pe_op op_fdivW (pe_dget (hu_of hr) (pv 0) pe_str (fun _ _ => rfl)) (pv 1)) rfl)
          (pss_one (ps_ret (pv 2))))) pss_nil)
      (pss_cons (ps_daug (hu_of hr) (pv 0) pe_str pe_int in_add (fun _ _ _ => rfl))
      (pss_cons (ps_set (i := 3) scDraw.nd rfl (.inl rfl) (pe_dget (hu_of hr) (pv 0) pe_str (fun _ _ => rfl)))
      (pss_cons (ps_set (i := 4) scDraw.nd rfl (.inl rfl) (pe_op op_add (pe_op op_mulW (pe_op op_add (pe_dget (hu_of hr) (pv 0) pe_str (fun _ _ => rfl)) (pe_op op_mul pe_int (pv 3))) (pe_op op_powW (pe_op op_add (pv 3) pe_int) pe_int)) (pe_op op_mul pe_int (pv 3))))
      (pss_one (ps_ret (pe_op op_modN (pe_op op_fdiv (pe_op op_modN (pe_op op_powW (pe_op op_modN (pv 4) pe_int) pe_int) (pe_op op_add (pe_op op_pow pe_int pe_int) pe_int)) pe_int) (pv 1))))))))), ?_⟩
    have hmn : m ≠ 0 := by omega
    refine if_fin (fun σ H1 => ∃ (ds : List Int) (l : Int), σ = [some (.ref r), some (.int m), none, none, none] ∧ Kb r gl H H1 ∧ H1 r = some (.dK (bagK gl l t b)) ∧ H1 gl = some (.lst (ds.map V.int)) ∧ (∀ d ∈ ds, 0 ≤ d) ∧ 0 ≤ l) (fun R hR => ?_) (fun σ H1 hF => ?_)
    · refine ⟨_, rfl, r, _, rfl, bag_get h1 bag_left, _, rfl, _, _, rfl, rfl, _, rfl, ?_⟩
      by_cases c : l < m
      · rw [decide_eq_true c]
        refine iteT ⟨_, rfl, r, _, rfl, bag_get h1 bag_great, gl, _, rfl, .inl (.inl (.inl h2)), _, _, rfl, rfl, _, rfl, ?_⟩
        cases ds with
        | nil => exact iteF (hR _ _ ⟨[], l, rfl, Kb.refl r gl H, h1, h2, h3, h4⟩)
        | cons d ds =>
          rw [decide_eq_true (show ((((d :: ds).map V.int).length : Nat) : Int) > 0 by rw [List.length_map, List.length_cons]; omega)]
          refine iteT ?_
          refine ⟨_, rfl, r, _, rfl, bag_get h1 bag_great, .inl ⟨rfl, _, .inl (.inl h2)⟩, ?_⟩
          refine ⟨gl, (d :: ds).map V.int, 0, 0, .int d, rfl, rfl, h2, by decide, by decide, PySem.seqIndex_of (by decide) (by simp), rfl, ?_⟩
          have hr2 : upd H gl (.lst (((d :: ds).map V.int).eraseIdx 0)) r = some (.dK (bagK gl l t b)) := by rw [upd_ne h9]; exact h1
          refine ⟨_, rfl, r, _, rfl, DPut.k (k := .inr "left") hr2 (show 4 < sizeLine by decide), hR _ _ ⟨ds, d, rfl, Kb.upd_g.trans Kb.upd_r, upd_same, ?_, fun x hx => h3 x (List.mem_cons_of_mem _ hx), h3 d (List.mem_cons_self ..)⟩⟩
          rw [upd_ne (Ne.symm h9)]
          exact upd_same
      · rw [decide_eq_false c]
        exact iteF (hR _ _ ⟨ds, l, rfl, Kb.refl r gl H, h1, h2, h3, h4⟩)
    · obtain ⟨ds, l, rfl, hk, h1, h2, h3, h4⟩ := hF
      refine ⟨_, rfl, r, _, rfl, bag_get h1 bag_left, _, rfl, _, _, rfl, rfl, _, rfl, ite2 (fun c => ?_) (fun c => ?_)⟩
      · refine ⟨_, rfl, r, _, rfl, bag_get h1 bag_left, _, rfl, _, _, rfl, rfl, hmn, ?_⟩
        refine ⟨_, rfl, r, _, rfl, bag_get h1 bag_left, _, rfl, _, _, rfl, rfl, wide_div hm0 hm1 (by decide) (by decide), ?_⟩
        refine ⟨_, rfl, r, _, rfl, DPut.k (k := .inr "left") h1 (show 4 < sizeLine by decide), ?_⟩
        refine ⟨_, rfl, ?_⟩
        have f1 := fm (a := l) hm0
        refine q _ _ f1.1 f1.2 ⟨ds, l / m, t, b, upd_same, ?_, h3, Int.ediv_nonneg h4 (by omega), h5, by omega, h7, h8, h9⟩ (hk.trans Kb.upd_r)
        rw [upd_ne (Ne.symm h9)]
        exact h2
      · refine ⟨_, rfl, r, _, rfl, bag_get h1 bag_turn, _, _, rfl, rfl, _, DPut.k (k := .inr "turn") h1 (show 4 < sizeLine by decide), ?_⟩
        have hr2 : upd H1 r (.dK (putK (bagK gl l t b) (.inr "turn") (.int (t + 1)))) r = some (.dK (bagK gl l (t + 1) b)) := upd_same
        have hg2 : upd H1 r (.dK (putK (bagK gl l t b) (.inr "turn") (.int (t + 1)))) gl = some (.lst (ds.map V.int)) := by rw [upd_ne (Ne.symm h9)]; exact h2
        have hk2 : Kb r gl H (upd H1 r (.dK (putK (bagK gl l t b) (.inr "turn") (.int (t + 1))))) := hk.trans Kb.upd_r
        dsimp only
        generalize upd H1 r (.dK (putK (bagK gl l t b) (.inr "turn") (.int (t + 1)))) = H2 at hr2 hg2 hk2
        refine ⟨_, rfl, r, _, rfl, bag_get hr2 bag_turn, ?_⟩
        refine ⟨_, rfl, r, _, rfl, bag_get hr2 bag_blend, _, rfl, _, _, rfl, rfl, .inl ⟨by decide, by decide⟩, _, _, rfl, rfl, _, rfl, _, _, rfl, rfl, _, _, rfl, rfl, pow_sm (by omega) (by omega) (by decide) (by decide), _, _, rfl, rfl, ?_, ?_⟩
        · have e : (t + 1 + 29) ^ Int.toNat 2 = (t + 1 + 29) * (t + 1 + 29) := by
            show (t + 1 + 29) ^ 2 = _
            rw [Int.pow_succ, Int.pow_succ, Int.pow_zero, Int.one_mul]
          have hx : Sm 32 (t + 1 + 29) := by
            unfold Sm
            have : (2 : Nat) ^ 32 = 4294967296 := by decide
            omega
          have := hx.mul hx
          rw [← e] at this
          exact wide_mul (a := 63) (b := 64) (by have : (2 : Nat) ^ 63 = 9223372036854775808 := by decide
                                                 omega) this (by decide) (by decide) (by decide)
        · have f1 := fun a : Int => fm (a := a) (show (0 : Int) < 2305843009213693951 by decide)
          refine ⟨_, rfl, _, _, rfl, rfl, .inl ⟨by decide, by decide⟩, _, _, rfl, rfl, ?_⟩
          refine ⟨_, rfl, _, _, rfl, rfl, n_61, ?_⟩
          refine ⟨_, _, rfl, rfl, pow_sm (f1 _).1 (Int.lt_trans (f1 _).2 (by decide)) (by decide) (by decide), _, _, rfl, rfl, ⟨by decide, by decide, by decide⟩, _, _, rfl, rfl, _, _, rfl, rfl, p18n, _, _, rfl, rfl, ⟨by decide, by decide⟩, _, rfl, _, _, rfl, rfl, hmn, ?_⟩
          exact q _ _ (fm hm0).1 (fm hm0).2 ⟨ds, l, t + 1, b, hr2, hg2, h3, h4, by omega, by omega, h7, h8, h9⟩ hk2
end
end Lw
namespace Lw
open PySem PySem.Spec L2 Lx
theorem scReduced : FnScope ["row", "found", "many", "size_now"] ["row"] (defScope sLReduced) := ⟨rfl, rfl, rfl, by decide +kernel, rfl, by decide +kernel, by decide +kernel⟩
theorem scLUnits : FnScope ["run_now", "b", "a", "many", "j"] ["run_now", "b", "a"] (defScope sLUnits) := ⟨rfl, rfl, rfl, by decide +kernel, rfl, by decide +kernel, by decide +kernel⟩
def spReduced (K : PySem.W.Frag) : Sp := fun vs H Q _ => ∃ l gs, vs = [.ref l] ∧ GsAt K H l gs ∧ gs.length ≤ 1000 ∧ ∀ p H' xs, H p = none → Same H H' → H' p = some (.lst xs) → Prs K H' xs (reduced gs) → Q (.ref p) H'
def spLUnits (K : PySem.W.Frag) : Sp := fun vs H Q _ => ∃ x l r b a n, vs = [x, .int b, .int a] ∧ RnAt K H x l r ∧ RnSm n r ∧ (Fm.keep b a).Ok n ∧ n ≤ 100000 ∧ ∀ H', Same H H' → Q (.int (units r (.keep b a))) H'
structure ReF (mg : Str → Option Value) : Prop where
  len : mg "len" = none
structure UnF (mg : Str → Option Value) : Prop where
  sum : mg "sum" = none
  max : mg "max" = none
section
variable {P : Program} {w : World} {K : PySem.W.Frag} {mg : Str → Option Value} {base : Heap}
theorem ok_reduced {f : Addr} {fd : FuncData} {k : Nat} (F : Fun K "_law_reduced" "_law_reduced" sLReduced f fd) (Z : ReF mg) : FnOk P w K mg base CX0 (k + 1) f fd ["row"] (spReduced K) := by
  refine F.ok scReduced (fun vs H Q E h => ?_) (fun cdv A outer s H vs Q E hr h => ?_)
  · obtain ⟨l, gs, rfl, _⟩ := h
    rfl
  · obtain ⟨l, gs, rfl, ⟨xs, hL, hP⟩, hlen, q⟩ := h
    refine ⟨_, (pss_cons (ps_set (i := 1) scReduced.nd rfl (.inl rfl) (pe_lst pa_nil))
      (pss_cons (ps_for PassesOwn.never rfl (pi_list (pv 0)) (pg_tup (by rfl) (pgs_cons (pg_name (i := 2) scReduced.nd rfl (.inl rfl)) (pgs_cons (pg_name (i := 3) scReduced.nd rfl (.inl rfl)) pgs_nil)))
          (pss_one (ps_if (PW.pt (pw_and (pt_cmpR op_gt (pv 2) pe_int (nomark _)) (pw_and (pt_cmpR op_gt (pe_callB call_len_seq (by rfl) Z.len PySem.boot_len (pa_cons (pv 1) pa_nil)) pe_int (nomark _)) (pw_and1 (pt_cmpR op_eq (pe_ix ix_tup (pe_ix ix_list (pv 1) (pe_un un_neg pe_int) (fun _ _ => rfl)) pe_int (fun _ _ => rfl)) (pv 3) (nomark _))))))
              (pss_one (ps_asg (pe_tup (pa_cons (pe_op op_add (pe_ix ix_tup (pe_ix ix_list (pv 1) (pe_un un_neg pe_int) (fun _ _ => rfl)) pe_int (fun _ _ => rfl)) (pv 2)) (pa_cons (pv 3) pa_nil))) (pg_sub (pv 1) (pe_un un_neg pe_int) set_list)))
              (pss_one (ps_if (pt_cmpR op_gt (pv 2) pe_int (nomark _))
                  (pss_one (ps_expr (pe_bm PySem.F.plainAttrs_list PySem.F.slot_list_append PySem.F.type_list_append mt_append (pv 1) (pa_cons (pe_tup (pa_cons (pv 2) (pa_cons (pv 3) pa_nil))) pa_nil)))) pss_nil)))))
      (pss_one (ps_ret (pv 1))))), ?_⟩
    refine ⟨Nat.zero_le _, fun p np => ?_⟩
    refine ⟨_, rfl, l, rfl, ⟨_, (same_upd (o := .lst []) np).seq hL⟩, ?_⟩
    refine for_it (walk_list (xs := xs)) (fun i σ H' => Same H H' ∧ ∃ y2 y3 zs, σ = [some (.ref l), some (.ref p), y2, y3] ∧ H' p = some (.lst zs) ∧ Prs K H' zs (reduced (gs.take i)) ∧ zs.length ≤ i)
      ⟨same_upd np, none, none, [], rfl, upd_same, .nil, Nat.le_refl _⟩ (fun i σ H' _ hQ => hQ.1.seq hL) ?_ ?_
    · rintro i u σ H1 H2 hi ⟨sm, y2, y3, zs, rfl, hp, hz, hzl⟩ ⟨rfl, hu⟩
      obtain ⟨x, hx, a, rfl, ha'⟩ := hP.get hu
      have ha : SqT K H2 a [.int x.1, .int x.2] := .inl (.inl (sm _ _ ha'))
      have htk := reduced_take hx
      have hxl := hP.len
      have app : ∀ t, H2 t = none → x.1 > 0 → addTo (reduced (gs.take i)) x = reduced (gs.take i) ++ [x] →
          Same H (upd (upd H2 t (.tup [.int x.1, .int x.2])) p (.lst (zs ++ [.ref t]))) ∧ (upd (upd H2 t (.tup [.int x.1, .int x.2])) p (.lst (zs ++ [.ref t]))) p = some (.lst (zs ++ [.ref t])) ∧
          Prs K (upd (upd H2 t (.tup [.int x.1, .int x.2])) p (.lst (zs ++ [.ref t]))) (zs ++ [.ref t]) (reduced (gs.take (i + 1))) ∧ (zs ++ [V.ref t]).length ≤ i + 1 := fun t nt x1 e => by
        have s1 := same_upd (o := .tup [.int x.1, .int x.2]) nt
        refine ⟨Same.own (sm.trans s1) np, upd_same, ?_, by rw [List.length_append]; exact Nat.add_le_add_right hzl 1⟩
        rw [htk, if_pos x1, e]
        exact Prs.lstUpd (s1 _ _ hp) ((hz.same s1).append (.cons ⟨t, rfl, upd_same⟩ .nil))
      refine ⟨a, _, rfl, ha, rfl, _, _, rfl, _, _, rfl, rfl, ?_⟩
      by_cases x1 : x.1 > 0
      · refine ⟨_, rfl, _, _, rfl, rfl, _, rfl, ?_⟩
        rw [decide_eq_true x1]
        refine iteT ⟨_, rfl, p, _, rfl, .inl (.inl (.inl hp)), _, _, rfl, rfl, _, rfl, ?_⟩
        rcases snoc_or (reduced (gs.take i)) with e0 | ⟨as, y, e0⟩
        · have hz0 : zs = [] := by
            have := hz.len
            rw [e0] at this
            exact List.eq_nil_of_length_eq_zero this
          have app' := app
          subst hz0
          refine iteF (iteF ?_)
          refine ⟨_, rfl, _, _, rfl, rfl, _, rfl, ?_⟩
          rw [decide_eq_true x1]
          refine iteT ⟨_, rfl, .inl ⟨rfl, _, .inl (.inl hp)⟩, _, rfl, _, rfl, by show 2 ≤ sizeLine; decide, fun t nt => ?_⟩
          refine ⟨p, [], .ref t, rfl, rfl, same_upd nt _ _ hp, by rw [sizeLine_eq]; decide, ?_⟩
          obtain ⟨r1, r2, r3, r4⟩ := app t nt x1 (by rw [e0]; rfl)
          exact ⟨r1, _, _, _, rfl, r2, r3, r4⟩
        · rw [e0] at hz
          obtain ⟨ws, v, rfl, hw, a2, rfl, ha2'⟩ := Prs.back hz
          have ha2 : SqT K H2 a2 [.int y.1, .int y.2] := .inl (.inl ha2')
          rw [decide_eq_true (show (((ws ++ [V.ref a2]).length : Nat) : Int) > 0 by simp)]
          refine iteT ⟨_, rfl, 1, rfl, p, _, -1, _, rfl, rfl, .inl (.inl hp), atI_last ws (.ref a2), a2, _, 1, _, rfl, rfl, ha2, atI_nat (j := 1) rfl, _, rfl, rfl, _, rfl, ?_⟩
          by_cases ej : y.2 = x.2
          · rw [decide_eq_true (by rw [ej])]
            refine iteT ?_
            refine ⟨_, rfl, 1, rfl, p, _, -1, _, rfl, rfl, .inl (.inl hp), atI_last ws (.ref a2), a2, _, 0, _, rfl, rfl, ha2, atI_nat (j := 0) rfl, _, rfl, _, _, rfl, rfl, _, rfl, by show 2 ≤ sizeLine; decide, fun t nt => ?_⟩
            have s1 := same_upd (o := .tup [.int (y.1 + x.1), .int x.2]) nt
            refine ⟨_, rfl, 1, rfl, p, _, -1, _, rfl, rfl, s1 _ _ hp, ixN_last ws (.ref a2), ?_⟩
            have eset : (ws ++ [V.ref a2]).set ws.length (.ref t) = ws ++ [V.ref t] := by simp
            rw [eset]
            refine ⟨Same.own (sm.trans s1) np, _, _, ws ++ [.ref t], rfl, upd_same, ?_, ?_⟩
            · rw [htk, if_pos x1, e0, addTo_snoc, if_pos ej]
              exact Prs.lstUpd (s1 _ _ hp) ((hw.same s1).append (.cons ⟨t, rfl, upd_same⟩ .nil))
            · simp only [List.length_append, List.length_cons, List.length_nil] at hzl ⊢
              omega
          · rw [decide_eq_false (fun z => ej (V.int.inj z))]
            refine iteF ?_
            refine ⟨_, rfl, _, _, rfl, rfl, _, rfl, ?_⟩
            rw [decide_eq_true x1]
            refine iteT ⟨_, rfl, .inl ⟨rfl, _, .inl (.inl hp)⟩, _, rfl, _, rfl, by show 2 ≤ sizeLine; decide, fun t nt => ?_⟩
            refine ⟨p, _, .ref t, rfl, rfl, same_upd nt _ _ hp, by rw [sizeLine_eq]; simp only [List.length_append, List.length_cons, List.length_nil] at hzl ⊢; have := hP.len; omega, ?_⟩
            obtain ⟨r1, r2, r3, r4⟩ := app t nt x1 (by rw [e0, addTo_snoc, if_neg ej])
            exact ⟨r1, _, _, _, rfl, r2, r3, r4⟩
      · refine ⟨_, rfl, _, _, rfl, rfl, _, rfl, ?_⟩
        rw [decide_eq_false x1]
        refine iteF (iteF ⟨_, rfl, _, _, rfl, rfl, _, rfl, ?_⟩)
        rw [decide_eq_false x1]
        refine iteF ⟨sm, _, _, zs, rfl, hp, ?_, by omega⟩
        rw [htk, if_neg x1]
        exact hz
    · rintro σ H1 ⟨sm, y2, y3, zs, rfl, hp, hz, hzl⟩
      rw [List.take_of_length_le (by rw [← hP.len]; exact Nat.le_refl _)] at hz
      exact ⟨_, rfl, q p H1 zs np sm hp hz⟩
theorem ok_lunits {f : Addr} {fd : FuncData} {k : Nat} (F : Fun K "_law_units" "_law_units" sLUnits f fd) (Z : UnF mg) : FnOk P w K mg base CX0 (k + 1) f fd ["run_now", "b", "a"] (spLUnits K) := by
  refine F.ok scLUnits (fun vs H Q E h => ?_) (fun cdv A outer s H vs Q E hr h => ?_)
  · obtain ⟨x, l, r, b, a, n, rfl, _⟩ := h
    rfl
  · obtain ⟨_, l, r, b, a, n, rfl, ⟨p, rfl, hT, xs, hL, hP⟩, hs, hf, hn, q⟩ := h
    refine ⟨_, (pss_one (ps_ret (pe_op op_add (pe_callB (cr_sum rfl) (by rfl) Z.sum (by decide +kernel) (pa_cons (pe_lc (own := [("many", 3), ("j", 4)]) (g := (gTup K 2 (gCons (gName 3) (gCons (gName 4) gNil)))) (tt := tYes) rfl scLUnits.nd (pi_list (pe_ix ix_tup (pv 0) pe_int (fun _ _ => rfl))) (blkOk_by (own := [("many", 3), ("j", 4)]) (N := ["run_now", "b", "a", "many", "j"]) (sc := defScope sLUnits) (by decide +kernel)) (fun _ _ _ _ _ => (pg_tup (by rfl) (pgs_cons (pg_name (i := 3) scLUnits.nd rfl (.inl rfl)) (pgs_cons (pg_name (i := 4) scLUnits.nd rfl (.inl rfl)) pgs_nil)))) (fun _ _ _ _ _ => pts_nil) (fun _ _ _ _ _ => (pe_op op_mulW (pv 3) (pe_op op_add (pe_op op_add (pe_callB (call_max2 rfl) (by rfl) Z.max (by decide +kernel) (pa_cons pe_int (pa_cons (pe_op op_sub (pv 4) (pv 1)) pa_nil))) (pv 2)) pe_int)))) pa_nil)) (pe_ix ix_tup (pv 0) pe_int (fun _ _ => rfl))))), ?_⟩
    refine ⟨_, rfl, p, _, 0, _, rfl, rfl, hT, atI_nat (j := 0) rfl, l, rfl, ⟨_, hL⟩, fun D nD => ?_⟩
    refine lc_it (walk_list (xs := xs)) (fun i H' => Same H H' ∧ H' D = some (.lst (((r.1.take i).map fun x => x.1 * ((Fm.keep b a).after x.2 + 1)).map V.int))) ⟨same_upd nD, upd_same⟩ (fun i H' _ hQ => hQ.1.seq hL) ?_ ?_
    · rintro i u H1 H2 hi ⟨sm, hD⟩ ⟨rfl, hu⟩
      obtain ⟨x, hx, ap, rfl, ha'⟩ := hP.get hu
      obtain ⟨x1, x2, x3, x4⟩ := hs.1 x (List.mem_of_getElem? hx)
      have hb := Fm.after_ok (hf.mono (Nat.le_succ n)) x2 (x4.mono (Nat.le_succ n))
      have hb2 : Sm (n + 3) ((Fm.keep b a).after x.2 + 1) := hb.2.add (Nat.lt_of_lt_of_le (by decide : (1 : Int).natAbs < 2 ^ 1) (Nat.pow_le_pow_right (by decide) (by omega)))
      refine ⟨ap, _, rfl, .inl (.inl (sm _ _ ha')), rfl, _, _, rfl, _, _, rfl, rfl, rfl, ?_⟩
      refine ⟨_, rfl, _, rfl, _, rfl, _, _, rfl, rfl, _, _, rfl, _, rfl, _, _, rfl, rfl, _, _, rfl, rfl, _, _, rfl, rfl, wide_mul (x3.mono (Nat.le_succ n)) hb2 (by omega) (by omega) (by omega), ?_⟩
      refine ⟨_, hD, ?_, Same.own sm nD, ?_⟩
      · have := hs.2.2.2
        rw [List.length_map, List.length_map, List.length_take, sizeLine_eq]
        omega
      · rw [upd_same, List.take_succ, hx, List.map_append, List.map_append]
        rfl
    · rintro H1 ⟨sm, hD⟩
      rw [List.take_of_length_le (by rw [← hP.len]; exact Nat.le_refl _)] at hD
      refine ⟨D, _, rfl, .inl (.inl hD), _, rfl, p, _, 1, _, rfl, rfl, sameT sm hT, atI_nat (j := 1) rfl, _, _, rfl, rfl, ?_⟩
      rw [sum_mapV]
      exact q _ sm
end
end Lw
namespace Lw
open PySem PySem.Spec L2 Lx
theorem scAfter : FnScope ["run_now", "shape", "units_v", "many", "j"] ["run_now", "shape"] (defScope sLAfter) := ⟨rfl, rfl, rfl, by decide +kernel, rfl, by decide +kernel, by decide +kernel⟩
theorem scRun : FnScope ["bag", "tuples", "most", "wide", "row", "at"] ["bag", "tuples", "most", "wide"] (defScope sLRun) := ⟨rfl, rfl, rfl, by decide +kernel, rfl, by decide +kernel, by decide +kernel⟩
theorem scAny : FnScope ["bag", "far", "b", "a", "k", "c", "at"] ["bag", "far"] (defScope sLAnyWanted) := ⟨rfl, rfl, rfl, by decide +kernel, rfl, by decide +kernel, by decide +kernel⟩
def spLAfter (K : PySem.W.Frag) : Sp := fun vs H Q _ => ∃ x l r y f n, vs = [x, y] ∧ RnAt K H x l r ∧ FmAt K H y f ∧ RnOk n r ∧ f.Ok n ∧ 0 < n ∧ n ≤ 100000 ∧ ∀ v H', Same H H' → NewRn K H H' v (runAfter r f) → Q v H'
abbrev big : Int := 1000000000000000000000000000000
def spRun (K : PySem.W.Frag) : Sp := fun vs H Q _ => ∃ (r gl : Addr) (n tup : Nat) (most wide : Int), vs = [.ref r, .int tup, .int most, .int wide] ∧ BagAt H r gl n ∧ n < 900000000 ∧ tup ≤ 100 ∧ 0 < most ∧ most ≤ big ∧ 0 < wide ∧ wide ≤ big ∧
  ∀ (v : V) (g : List (Int × Int) × Int) (H' : Hp), NewRn K H H' v g → RnOk 111 g → g.1.length ≤ tup → BagAt H' r gl (n + 3 + 2 * tup) → Kb r gl H H' → Q v H'
def spAny : Sp := fun vs H Q _ => ∃ (r gl : Addr) (n : Nat) (far : Int), vs = [.ref r, .int far] ∧ BagAt H r gl n ∧ n < 900000000 ∧ 0 < far ∧ far ≤ big ∧
  ∀ (p : Addr) (f : Fm) (H' : Hp), H p = none → H' p = some (.tup f.vs) → f.Ok 101 → (∀ x ∈ f.nums, x ≤ max far 4) → BagAt H' r gl (n + 9) → Kb r gl H H' → Q (.ref p) H'
structure AfF (mg : Str → Option Value) : Prop where
  max : mg "max" = none
structure RuF (mg : Str → Option Value) : Prop where
  range : mg "range" = none
theorem nm2 {b a y : Int} (h1 : b ≤ y) (h2 : a ≤ y) : ∀ x ∈ (Fm.keep b a).nums, x ≤ y := fun x hx => by
  simp only [Fm.nums, List.mem_cons, List.not_mem_nil, or_false] at hx
  omega
theorem nm3 {b a k y : Int} (h1 : b ≤ y) (h2 : a ≤ y) (h3 : k ≤ y) : ∀ x ∈ (Fm.cr b a k).nums, x ≤ y := fun x hx => by
  simp only [Fm.nums, List.mem_cons, List.not_mem_nil, or_false] at hx
  omega
theorem nm4 {b a k c y : Int} (h1 : b ≤ y) (h2 : a ≤ y) (h3 : k ≤ y) (h4 : c ≤ y) : ∀ x ∈ (Fm.lf b a k c).nums, x ≤ y := fun x hx => by
  simp only [Fm.nums, List.mem_cons, List.not_mem_nil, or_false] at hx
  omega
theorem big_sm {x : Int} (h0 : 0 ≤ x) (h1 : x ≤ big) : Sm 100 x := by
  have : (2 : Nat) ^ 100 = 1267650600228229401496703205376 := by decide +kernel
  have h2 : x ≤ 1000000000000000000000000000000 := h1
  unfold Sm
  omega
theorem big_40 {x : Int} (h0 : 0 < x) (h1 : x ≤ big) : x.natAbs < 2 ^ 4000 := Nat.lt_of_lt_of_le (big_sm (Int.le_of_lt h0) h1) (Nat.pow_le_pow_right (by decide) (by decide))
theorem moved_sm {n : Nat} {r : List (Int × Int) × Int} {f : Fm} (h : RnSm n r) (hf : f.Ok n) : GsSm (n + 1) (moved f r.1) ∧ (moved f r.1).length ≤ 1000 := by
  refine ⟨fun x hx => ?_, by unfold moved; rw [List.length_map]; exact h.2.2.2⟩
  obtain ⟨y, hy, rfl⟩ := List.mem_map.mp hx
  obtain ⟨y1, y2, y3, y4⟩ := h.1 y hy
  have := Fm.after_ok hf y2 y4
  exact ⟨y1, this.1, y3.mono (Nat.le_succ n), this.2⟩
section
variable {P : Program} {w : World} {K : PySem.W.Frag} {mg : Str → Option Value} {base : Heap}
theorem ok_lafter {f aR aN : Addr} {fd dR dN : FuncData} {k : Nat} (F : Fun K "_law_after" "_law_after" sLAfter f fd) (Z : AfF mg)
    (cR : Cl P w K mg base k "_law_reduced" ["row"] (spReduced K) aR dR)
    (cN : Cl P w K mg base k "_law_units" ["run_now", "b", "a"] (spLUnits K) aN dN) : FnOk P w K mg base CX0 (k + 1) f fd ["run_now", "shape"] (spLAfter K) := by
  refine F.ok scAfter (fun vs H Q E h => ?_) (fun cdv A outer s H vs Q E hr h => ?_)
  · obtain ⟨x, l, r, y, f, n, rfl, _⟩ := h
    rfl
  · obtain ⟨_, l, r, _, f, n, rfl, ⟨p, rfl, hT, xs, hL, hP⟩, ⟨yp, rfl, hY⟩, ho, hf, hn0, hn, q⟩ := h
    have hs := RnOk.sm ho
    refine ⟨_, (pss_cons (ps_if (pt_cmpR op_eq (pe_ix ix_tup (pv 1) pe_int (fun _ _ => rfl)) pe_str (nomark _))
          (pss_one (ps_ret (pe_tup (pa_cons (pe_call cR.G hr (by rfl) cR.g cR.kp cR.b .nil pass0 (pa_cons (pe_lc (own := [("many", 3), ("j", 4)]) (g := (gTup K 2 (gCons (gName 3) (gCons (gName 4) gNil)))) (tt := tYes) rfl scAfter.nd (pi_list (pe_ix ix_tup (pv 0) pe_int (fun _ _ => rfl))) (blkOk_by (own := [("many", 3), ("j", 4)]) (N := ["run_now", "shape", "units_v", "many", "j"]) (sc := defScope sLAfter) (by decide +kernel)) (fun _ _ _ _ _ => (pg_tup (by rfl) (pgs_cons (pg_name (i := 3) scAfter.nd rfl (.inl rfl)) (pgs_cons (pg_name (i := 4) scAfter.nd rfl (.inl rfl)) pgs_nil)))) (fun _ _ _ _ _ => pts_nil) (fun _ _ _ _ _ => (pe_tup (pa_cons (pv 3) (pa_cons (pe_op op_add (pe_callB (call_max2 rfl) (by rfl) Z.max (by decide +kernel) (pa_cons pe_int (pa_cons (pe_op op_sub (pv 4) (pe_ix (ix_t (K := K) rfl) (pv 1) pe_int (fun _ _ => rfl))) pa_nil))) (pe_ix (ix_t (K := K) rfl) (pv 1) pe_int (fun _ _ => rfl))) pa_nil))))) pa_nil)) (pa_cons (pe_ix ix_tup (pv 0) pe_int (fun _ _ => rfl)) pa_nil))))) pss_nil)
      (pss_cons (ps_set (i := 2) scAfter.nd rfl (.inl rfl) (pe_call cN.G hr (by rfl) cN.g cN.kp cN.b .nil pass0 (pa_cons (pv 0) (pa_cons (pe_ix ix_tup (pv 1) pe_int (fun _ _ => rfl)) (pa_cons (pe_ix ix_tup (pv 1) pe_int (fun _ _ => rfl)) pa_nil)))))
      (pss_cons (ps_if (pt_cmpR op_eq (pe_ix ix_tup (pv 1) pe_int (fun _ _ => rfl)) pe_str (nomark _))
          (pss_one (ps_ret (pe_tup (pa_cons (pe_call cR.G hr (by rfl) cR.g cR.kp cR.b .nil pass0 (pa_cons (pe_lst (pa_cons (pe_tup (pa_cons (pe_op op_mulW (pv 2) (pe_ix ix_tup (pv 1) pe_int (fun _ _ => rfl))) (pa_cons (pe_ix ix_tup (pv 1) pe_int (fun _ _ => rfl)) pa_nil))) pa_nil)) pa_nil)) (pa_cons pe_int pa_nil))))) pss_nil)
      (pss_one (ps_ret (pe_tup (pa_cons (pe_lst pa_nil) (pa_cons (pe_op op_mulW (pv 2) (pe_ix ix_tup (pv 1) pe_int (fun _ _ => rfl))) pa_nil)))))))), ?_⟩
    refine ⟨_, rfl, yp, _, 0, _, rfl, rfl, hY, atI_nat (j := 0) f.vs0, rfl, _, rfl, ?_⟩
    have hu := units_ok hs hf
    have hfk : (Fm.keep f.b f.a).Ok n := ⟨hf.b0.1, hf.a0.1, hf.b0.2, hf.a0.2⟩
    have huk : units r (.keep f.b f.a) = units r f := by cases f <;> rfl
    by_cases hk : Fm.isKeep f = true
    · have hnm : decide (V.str f.nm = V.str "keep") = true := by
        cases f with
        | keep b a => rfl
        | _ => cases hk
      rw [hnm]
      refine iteT ?_
      refine ⟨_, rfl, p, _, 0, _, rfl, rfl, hT, atI_nat (j := 0) rfl, l, rfl, ⟨_, hL⟩, fun D nD => ?_⟩
      refine lc_it (walk_list (xs := xs)) (fun i H' => Same H H' ∧ ∃ zs, H' D = some (.lst zs) ∧ Prs K H' zs (moved f (r.1.take i))) ⟨same_upd nD, [], upd_same, .nil⟩ (fun i H' _ hQ => hQ.1.seq hL) ?_ ?_
      · rintro i u H1 H2 hi ⟨sm, zs, hD, hz⟩ ⟨rfl, hu⟩
        obtain ⟨x, hx, ap, rfl, ha'⟩ := hP.get hu
        have hY2 := sameT sm hY
        refine ⟨ap, _, rfl, .inl (.inl (sm _ _ ha')), rfl, _, _, rfl, _, _, rfl, rfl, rfl, ?_⟩
        refine ⟨_, rfl, _, rfl, _, rfl, yp, _, 1, _, rfl, rfl, hY2, atI_nat (j := 1) f.vs1, _, _, rfl, rfl, _, _, rfl, _, rfl, yp, _, 2, _, rfl, rfl, hY2, atI_nat (j := 2) f.vs2, _, _, rfl, rfl, by show 2 ≤ sizeLine; decide, fun t nt => ?_⟩
        have s1 := same_upd (o := .tup [.int x.1, .int (f.after x.2)]) nt
        have hzl : zs.length ≤ 1000 := by
          have e1 := hz.len
          have e2 := hs.2.2.2
          unfold moved at e1
          rw [List.length_map, List.length_take] at e1
          omega
        refine ⟨zs, s1 _ _ hD, by rw [sizeLine_eq]; omega, Same.own (sm.trans s1) nD, _, upd_same, ?_⟩
        have e : moved f (r.1.take (i + 1)) = moved f (r.1.take i) ++ [(x.1, f.after x.2)] := by
          unfold moved
          rw [List.take_succ, hx, List.map_append]
          rfl
        rw [e]
        exact Prs.lstUpd (s1 _ _ hD) ((hz.same s1).append (.cons ⟨t, rfl, upd_same⟩ .nil))
      · rintro H1 ⟨sm, zs, hD, hz⟩
        rw [List.take_of_length_le (by rw [← hP.len]; exact Nat.le_refl _)] at hz
        refine ⟨D, _, rfl, ⟨zs, .inl (.inl hD), hz⟩, (moved_sm hs hf).2, fun p2 H2 ws np2 s2 hp2 hw => ?_⟩
        have hpos : ∀ x ∈ moved f r.1, x.1 > 0 := fun x hx => by
          obtain ⟨y, hy, rfl⟩ := List.mem_map.mp hx
          obtain ⟨i, hi⟩ := List.mem_iff_getElem?.mp hy
          have := (ho.gs i y hi).1
          show y.1 > 0
          omega
        rw [reduced_all hpos] at hw
        refine ⟨_, rfl, p, _, 1, _, rfl, rfl, sameT (sm.trans s2) hT, atI_nat (j := 1) rfl, by show 2 ≤ sizeLine; decide, fun t nt => ?_⟩
        have s3 := same_upd (o := .tup [.ref p2, .int r.2]) nt
        cases f with
        | keep b a => exact q _ _ ((sm.trans s2).trans s3) ⟨t, p2, ws, rfl, (sm.trans s2).free nt, sm.free np2, upd_same, s3 _ _ hp2, hw.same s3⟩
        | _ => cases hk
    · have hk' : Fm.isKeep f = false := by simpa using hk
      have hnm : decide (V.str f.nm = V.str "keep") = false := by
        cases f with
        | keep b a => cases hk'
        | _ => rfl
      rw [hnm]
      refine iteF ⟨_, rfl, _, rfl, yp, _, 1, _, rfl, rfl, hY, atI_nat (j := 1) f.vs1, _, rfl, yp, _, 2, _, rfl, rfl, hY, atI_nat (j := 2) f.vs2, ?_⟩
      refine ⟨.ref p, l, r, f.b, f.a, n, rfl, ⟨p, rfl, hT, xs, hL, hP⟩, hs, hfk, hn, fun H1 sm => ?_⟩
      rw [huk]
      refine ⟨_, rfl, yp, _, 0, _, rfl, rfl, sameT sm hY, atI_nat (j := 0) f.vs0, rfl, _, rfl, ?_⟩
      cases f with
      | keep b a => cases hk'
      | cr b a k' =>
        refine iteF ⟨Nat.zero_le _, fun p2 np2 => ?_⟩
        have s3 := same_upd (o := .lst []) np2
        refine ⟨_, rfl, _, rfl, yp, _, 3, _, rfl, rfl, sameT (sm.trans s3) hY, atI_nat (j := 3) rfl, _, _, rfl, rfl, wide_mul hu.2 hf.2.2.2.2.2 (by omega) hn0 (by omega), by show 2 ≤ sizeLine; decide, fun t nt => ?_⟩
        have s4 := same_upd (o := .tup [.ref p2, .int (units r (.cr b a k') * k')]) nt
        refine q _ _ ((sm.trans s3).trans s4) ⟨t, p2, [], rfl, (sm.trans s3).free nt, sm.free np2, ?_, s4 _ _ upd_same, .nil⟩
        refine upd_same.trans ?_
        show some (HO.tup [V.ref p2, V.int (units r (.cr b a k') * k')]) = some (HO.tup [V.ref p2, V.int (k' * units r (.cr b a k'))])
        rw [Int.mul_comm]
      | lf b a k' c =>
        refine iteT ⟨_, rfl, _, rfl, yp, _, 3, _, rfl, rfl, sameT sm hY, atI_nat (j := 3) rfl, _, _, rfl, rfl, wide_mul hu.2 hf.2.2.2.2.2.2.1 (by omega) hn0 (by omega), _, rfl, yp, _, 4, _, rfl, rfl, sameT sm hY, atI_nat (j := 4) rfl, by show 2 ≤ sizeLine; decide, fun g ng => ⟨by show 1 ≤ sizeLine; decide, fun l2 nl2 => ?_⟩⟩
        have s3 := same_upd (o := .tup [.int (units r (.lf b a k' c) * k'), .int c]) ng
        have s4 := same_upd (o := .lst [.ref g]) nl2
        refine ⟨l2, [(units r (.lf b a k' c) * k', c)], rfl, ⟨[.ref g], .inl (.inl upd_same), .cons ⟨g, rfl, s4 _ _ upd_same⟩ .nil⟩, by show 1 ≤ 1000; decide, fun p3 H3 ws np3 s5 hp3 hw => ?_⟩
        refine ⟨by show 2 ≤ sizeLine; decide, fun t nt => ?_⟩
        have s6 := same_upd (o := .tup [.ref p3, .int 0]) nt
        have sA := (sm.trans s3).trans s4
        have e : runAfter r (.lf b a k' c) = (reduced [(units r (.lf b a k' c) * k', c)], 0) := by
          have hp := Int.mul_nonneg hu.1 (Int.le_of_lt hf.2.2.1)
          show (if k' * units r (.lf b a k' c) = 0 then (([] : List (Int × Int)), (0 : Int)) else ([(k' * units r (.lf b a k' c), c)], 0)) = _
          rw [Int.mul_comm] at hp ⊢
          by_cases z : k' * units r (.lf b a k' c) = 0
          · rw [if_pos (by rw [Int.mul_comm]; exact z)]
            unfold reduced
            rw [Int.mul_comm (units r (.lf b a k' c)) k', z]
            rfl
          · rw [if_neg (by rw [Int.mul_comm]; exact z)]
            have hgt : k' * units r (.lf b a k' c) > 0 := by omega
            rw [Int.mul_comm (units r (.lf b a k' c)) k', reduced_all (fun x hx => by rw [List.mem_singleton.mp hx]; exact hgt)]
            rfl
        refine q _ _ ((sA.trans s5).trans s6) ?_
        rw [e]
        exact ⟨t, p3, ws, rfl, (sA.trans s5).free nt, sA.free np3, upd_same, s6 _ _ hp3, hw.same s6⟩
theorem ok_run {f aR aD : Addr} {fd dR dD : FuncData} {k : Nat} (F : Fun K "_law_run" "_law_run" sLRun f fd) (Z : RuF mg)
    (cR : Cl P w K mg base k "_law_reduced" ["row"] (spReduced K) aR dR)
    (cD : Cl P w K mg base k "_law_draw" ["bag", "many"] spDraw aD dD) : FnOk P w K mg base CX0 (k + 1) f fd ["bag", "tuples", "most", "wide"] (spRun K) := by
  refine F.ok scRun (fun vs H Q E h => ?_) (fun cdv A outer s H vs Q E hr h => ?_)
  · obtain ⟨r, gl, n, tup, most, wide, rfl, _⟩ := h
    rfl
  · obtain ⟨r, gl, n, tup, most, wide, rfl, hS, hn, ht, m0, m1, w0, w1, q⟩ := h
    refine ⟨_, (pss_cons (ps_setLc (i := 4) (own := [("at", 5)]) (g := (gName 5)) (tt := tYes) rfl scRun.nd rfl rfl (sw_true rfl rfl rfl (by decide +kernel)) (pi_range1 rfl Z.range (pa_cons (pe_call cD.G hr (by rfl) cD.g cD.kp cD.b .nil pass0 (pa_cons (pv 0) (pa_cons (pe_op op_add (pv 1) pe_int) pa_nil))) pa_nil)) (blkOk_by (own := [("at", 5)]) (N := ["bag", "tuples", "most", "wide", "row", "at"]) (sc := defScope sLRun) (by decide +kernel)) (fun _ _ _ _ _ => (pg_name (i := 5) scRun.nd rfl (.inl rfl))) (fun _ _ _ _ _ => pts_nil) (fun _ _ _ _ _ => (pe_tup (pa_cons (pe_op op_add pe_int (pe_call cD.G hr (by rfl) cD.g cD.kp cD.b .nil pass0 (pa_cons (pv 0) (pa_cons (pv 2) pa_nil)))) (pa_cons (pe_call cD.G hr (by rfl) cD.g cD.kp cD.b .nil pass0 (pa_cons (pv 0) (pa_cons (pv 3) pa_nil))) pa_nil)))))
      (pss_one (ps_ret (pe_tup (pa_cons (pe_call cR.G hr (by rfl) cR.g cR.kp cR.b .nil pass0 (pa_cons (pv 4) pa_nil)) (pa_cons (pe_call cD.G hr (by rfl) cD.g cD.kp cD.b .nil pass0 (pa_cons (pv 0) (pa_cons (pe_ix ix_tup (pe_tup (pa_cons pe_int (pa_cons (pv 3) (pa_cons (pv 2) pa_nil)))) (pe_call cD.G hr (by rfl) cD.g cD.kp cD.b .nil pass0 (pa_cons (pv 0) (pa_cons pe_int pa_nil))) (fun _ _ => rfl)) pa_nil))) pa_nil)))))), ?_⟩
    refine ⟨_, rfl, _, rfl, _, _, rfl, rfl, r, gl, n, (tup : Int) + 1, rfl, hS, by omega, by omega, ?_, fun cnt H1 c0 c1 hS1 k1 => ?_⟩
    · exact Nat.lt_of_lt_of_le (show ((tup : Int) + 1).natAbs < 2 ^ 7 by omega) (Nat.pow_le_pow_right (by decide) (by decide))
    refine ⟨_, rfl, by omega, by omega, fun D nD => ?_⟩
    have hDr := hS1.ne nD
    refine lc_it (walk_range (lo := 0) (n := cnt.toNat)) (fun j H' => ∃ zs gs, H' D = some (.lst zs) ∧ Prs K H' zs gs ∧ gs.length = j ∧ GsSm 100 gs ∧ BagAt H' r gl (n + 1 + 2 * j) ∧ Kb r gl H H') ⟨[], [], upd_same, .nil, rfl, (fun x hx => by cases hx), hS1.own hDr, k1.own ((Kb.free k1 hS1 nD))⟩ (fun _ _ _ _ => trivial) ?_ ?_
    · rintro j u H2 H3 hj ⟨zs, gs, hD, hz, hl, hg, hS2, hk2⟩ ⟨rfl, rfl⟩
      refine ⟨rfl, _, rfl, _, rfl, r, gl, _, most, rfl, hS2, by omega, m0, big_40 m0 m1, fun v H4 v0 v1 hS4 k4 => ⟨_, _, rfl, rfl, _, rfl, _, rfl, r, gl, _, wide, rfl, hS4, by omega, w0, big_40 w0 w1, fun v' H5 v0' v1' hS5 k5 => ?_⟩⟩
      refine ⟨by show 2 ≤ sizeLine; decide, fun t nt => ?_⟩
      have s6 := same_upd (o := .tup [.int (1 + v), .int v']) nt
      have kk := k4.trans k5
      have hD5 := s6 _ _ (kk _ _ hDr.1 hDr.2 hD)
      have hz5 := (Prs.kb hS2 kk hz).same s6
      have hlen := hz.len
      refine ⟨zs, hD5, by rw [sizeLine_eq]; omega, zs ++ [.ref t], gs ++ [(1 + v, v')], upd_same, Prs.lstUpd hD5 (hz5.append (.cons ⟨t, rfl, upd_same⟩ .nil)), by rw [List.length_append, hl]; rfl, fun x hx => ?_, ((hS5.same s6).own hDr).mono (by omega), ((hk2.trans kk).trans (Kb.of s6)).own (Kb.free k1 hS1 nD)⟩
      rcases List.mem_append.mp hx with h | h
      · exact hg x h
      · rw [List.mem_singleton.mp h]
        exact ⟨by show 0 ≤ 1 + v; omega, v0', big_sm (by show 0 ≤ 1 + v; omega) (by show 1 + v ≤ big; omega), big_sm v0' (by show v' ≤ big; omega)⟩
    · rintro H2 ⟨zs, gs, hD, hz, hl, hg, hS2, hk2⟩
      have hgl : gs.length ≤ tup := by omega
      obtain ⟨g1, g2⟩ := reduced_ok hg (by omega)
      refine ⟨_, rfl, D, gs, rfl, ⟨zs, .inl (.inl hD), hz⟩, by omega, fun p H3 xs np s3 hp hx => ?_⟩
      have hS3 := hS2.same s3
      have hpr := hS2.ne np
      refine ⟨_, rfl, _, rfl, _, rfl, by show 3 ≤ sizeLine; decide, fun T nT => ?_⟩
      have s4 := same_upd (o := .tup [.int 1, .int wide, .int most]) nT
      refine ⟨_, rfl, r, gl, _, 3, rfl, hS3.same s4, by omega, by decide, by decide, fun c H5 c0 c1 hS5 k5 => ?_⟩
      have hTr : T ≠ r ∧ T ≠ gl := hS3.ne nT
      have hT5 : H5 T = some (.tup [.int 1, .int wide, .int most]) := k5 _ _ hTr.1 hTr.2 upd_same
      have pick : ∃ x : Int, atI [V.int 1, .int wide, .int most] c = some (.int x) ∧ 0 < x ∧ x ≤ big := by
        have : c = 0 ∨ c = 1 ∨ c = 2 := by omega
        rcases this with rfl | rfl | rfl
        · exact ⟨1, rfl, by decide, by decide⟩
        · exact ⟨wide, rfl, w0, w1⟩
        · exact ⟨most, rfl, m0, m1⟩
      obtain ⟨x, hx', x0, x1⟩ := pick
      refine ⟨T, _, c, _, rfl, rfl, .inl (.inl hT5), hx', r, gl, _, x, rfl, hS5, by omega, x0, big_40 x0 x1, fun rest H6 e0 e1 hS6 k6 => ?_⟩
      have kk := ((Kb.of s4).trans k5).trans k6
      refine ⟨by show 2 ≤ sizeLine; decide, fun t nt => ?_⟩
      have s7 := same_upd (o := .tup [.ref p, .int rest]) nt
      have k06 : Kb r gl H H6 := (hk2.trans (Kb.of s3)).trans kk
      have np0 : H p = none := Kb.free hk2 hS2 np
      exact q _ (reduced gs, rest) _ ⟨t, p, xs, rfl, Kb.free k06 hS6 nt, np0, upd_same, s7 _ _ (kk _ _ hpr.1 hpr.2 hp), (Prs.kb hS3 kk hx).same s7⟩ ⟨g1, ⟨e0, (big_sm e0 (by omega)).mono (by decide)⟩, by show (reduced gs).length ≤ 1000; omega⟩ (by show (reduced gs).length ≤ tup; omega) ((hS6.same s7).mono (by omega)) (k06.trans (Kb.of s7))
theorem ok_any {f aD : Addr} {fd dD : FuncData} {k : Nat} (F : Fun K "_law_any_wanted" "_law_any_wanted" sLAnyWanted f fd) (Z : RuF mg)
    (cD : Cl P w K mg base k "_law_draw" ["bag", "many"] spDraw aD dD) : FnOk P w K mg base CX0 (k + 1) f fd ["bag", "far"] spAny := by
  refine F.ok scAny (fun vs H Q E h => ?_) (fun cdv A outer s H vs Q E hr h => ?_)
  · obtain ⟨r, gl, n, far, rfl, _⟩ := h
    rfl
  · obtain ⟨r, gl, n, far, rfl, hS, hn, f0, f1, q⟩ := h
    refine ⟨_, (pss_cons (ps_asg (pe_lc (own := [("at", 6)]) (g := (gName 6)) (tt := tYes) rfl scAny.nd (pi_range1 rfl Z.range (pa_cons pe_int pa_nil)) (blkOk_by (own := [("at", 6)]) (N := ["bag", "far", "b", "a", "k", "c", "at"]) (sc := defScope sLAnyWanted) (by decide +kernel)) (fun _ _ _ _ _ => (pg_name (i := 6) scAny.nd rfl (.inl rfl))) (fun _ _ _ _ _ => pts_nil) (fun _ _ _ _ _ => (pe_call cD.G hr (by rfl) cD.g cD.kp cD.b .nil pass0 (pa_cons (pv 0) (pa_cons (pe_ix (ix_t (K := K) rfl) (pe_tup (pa_cons pe_int (pa_cons (pv 1) pa_nil))) (pe_op op_fdiv (pe_call cD.G hr (by rfl) cD.g cD.kp cD.b .nil pass0 (pa_cons (pv 0) (pa_cons pe_int pa_nil))) pe_int) (fun _ _ => rfl)) pa_nil))))) (pg_unl (by rfl) (pgs_cons (pg_name (i := 2) scAny.nd rfl (.inl rfl)) (pgs_cons (pg_name (i := 3) scAny.nd rfl (.inl rfl)) (pgs_cons (pg_name (i := 4) scAny.nd rfl (.inl rfl)) (pgs_cons (pg_name (i := 5) scAny.nd rfl (.inl rfl)) pgs_nil))))))
      (pss_one (ps_ret (pe_ix ix_tup (pe_tup (pa_cons (pe_tup (pa_cons pe_str (pa_cons (pv 2) (pa_cons (pv 3) pa_nil)))) (pa_cons (pe_tup (pa_cons pe_str (pa_cons (pv 2) (pa_cons (pv 3) (pa_cons (pe_op op_add (pv 4) pe_int) (pa_cons (pv 5) pa_nil)))))) (pa_cons (pe_tup (pa_cons pe_str (pa_cons (pv 2) (pa_cons (pv 3) (pa_cons (pe_op op_add (pv 4) pe_int) pa_nil))))) pa_nil)))) (pe_call cD.G hr (by rfl) cD.g cD.kp cD.b .nil pass0 (pa_cons (pv 0) (pa_cons pe_int pa_nil))) (fun _ _ => rfl))))), ?_⟩
    refine ⟨4, rfl, by decide, by decide, fun D nD => ?_⟩
    have hDr := hS.ne nD
    refine lc_it (walk_range (lo := 0) (n := 4)) (fun j H' => ∃ ns : List Int, H' D = some (.lst (ns.map V.int)) ∧ ns.length = j ∧ (∀ x ∈ ns, 0 ≤ x ∧ x ≤ big ∧ x < max far 4) ∧ BagAt H' r gl (n + 2 * j) ∧ Kb r gl H H') ⟨[], upd_same, rfl, (fun x hx => by cases hx), hS.own hDr, (Kb.refl r gl H).own nD⟩ (fun _ _ _ _ => trivial) ?_ ?_
    · rintro j u H2 H3 hj ⟨ns, hD, hl, hns, hS2, hk2⟩ ⟨rfl, rfl⟩
      refine ⟨rfl, _, rfl, _, rfl, by show 2 ≤ sizeLine; decide, fun T nT => ?_⟩
      have s4 := same_upd (o := .tup [.int 4, .int far]) nT
      refine ⟨_, rfl, r, gl, _, 3, rfl, hS2.same s4, by omega, by decide, by decide, fun c H5 c0 c1 hS5 k5 => ?_⟩
      have hTr := hS2.ne nT
      have hT5 : H5 T = some (.tup [.int 4, .int far]) := k5 _ _ hTr.1 hTr.2 upd_same
      refine ⟨_, _, rfl, rfl, ⟨by decide, by decide⟩, ?_⟩
      have pick : ∃ x : Int, atI [V.int 4, .int far] (c / 2) = some (.int x) ∧ 0 < x ∧ x ≤ big ∧ x ≤ max far 4 := by
        have : c = 0 ∨ c = 1 ∨ c = 2 := by omega
        rcases this with rfl | rfl | rfl
        · exact ⟨4, rfl, by decide, by decide, by omega⟩
        · exact ⟨4, rfl, by decide, by decide, by omega⟩
        · exact ⟨far, rfl, f0, f1, by omega⟩
      obtain ⟨x, hx', x0, x1, x2⟩ := pick
      refine ⟨T, _, _, _, rfl, rfl, .inl (.inl hT5), hx', r, gl, _, x, rfl, hS5, by omega, x0, big_40 x0 x1, fun v H6 e0 e1 hS6 k6 => ?_⟩
      have kk := ((Kb.of s4).trans k5).trans k6
      have hD6 := kk _ _ hDr.1 hDr.2 hD
      refine ⟨_, hD6, by rw [List.length_map, sizeLine_eq]; omega, ns ++ [v], by rw [upd_same, List.map_append]; rfl, by rw [List.length_append, hl]; rfl, fun y hy => ?_, (hS6.own hDr).mono (by omega), (hk2.trans kk).own nD⟩
      rcases List.mem_append.mp hy with h | h
      · exact hns y h
      · rw [List.mem_singleton.mp h]
        exact ⟨e0, by omega, by omega⟩
    · rintro H2 ⟨ns, hD, hl, hns, hS2, hk2⟩
      match ns, hl with
      | [b, a, kk, c], _ =>
        have hb := hns b (by simp)
        have ha := hns a (by simp)
        have hkk := hns kk (by simp)
        have hc := hns c (by simp)
        refine ⟨D, _, rfl, .inl (.inl hD), rfl, _, _, rfl, _, _, rfl, _, _, rfl, _, _, rfl, rfl, ?_⟩
        refine ⟨_, rfl, _, rfl, by show 3 ≤ sizeLine; decide, fun t1 n1 => ?_⟩
        refine ⟨_, rfl, _, rfl, _, rfl, _, _, rfl, rfl, _, rfl, by show 5 ≤ sizeLine; decide, fun t2 n2 => ?_⟩
        refine ⟨_, rfl, _, rfl, _, rfl, _, _, rfl, rfl, by show 4 ≤ sizeLine; decide, fun t3 n3 => ?_⟩
        refine ⟨by show 3 ≤ sizeLine; decide, fun T nT => ?_⟩
        have s1 := same_upd (o := .tup (Fm.keep b a).vs) n1
        have s2 := same_upd (o := .tup (Fm.lf b a (kk + 1) c).vs) n2
        have s3 := same_upd (o := .tup (Fm.cr b a (kk + 1)).vs) n3
        have s4 := same_upd (o := .tup [.ref t1, .ref t2, .ref t3]) nT
        have sA := ((s1.trans s2).trans s3).trans s4
        refine ⟨_, rfl, r, gl, _, 3, rfl, hS2.same sA, by omega, by decide, by decide, fun v H3 v0 v1 hS3 k3 => ?_⟩
        have hTr : T ≠ r ∧ T ≠ gl := (hS2.same ((s1.trans s2).trans s3)).ne nT
        have hT3 : H3 T = some (.tup [.ref t1, .ref t2, .ref t3]) := k3 _ _ hTr.1 hTr.2 upd_same
        have hSA := hS2.same sA
        have h1 := s4 _ _ (s3 _ _ (s2 _ _ (upd_same : upd H2 t1 (.tup (Fm.keep b a).vs) t1 = _)))
        have h2 := s4 _ _ (s3 _ _ (upd_same : upd (upd H2 t1 (.tup (Fm.keep b a).vs)) t2 (.tup (Fm.lf b a (kk + 1) c).vs) t2 = _))
        have h3 := s4 _ _ (upd_same : upd (upd (upd H2 t1 (.tup (Fm.keep b a).vs)) t2 (.tup (Fm.lf b a (kk + 1) c).vs)) t3 (.tup (Fm.cr b a (kk + 1)).vs) t3 = _)
        have hk3 : Kb r gl H H3 := (hk2.trans (Kb.of sA)).trans k3
        have nD0 : ∀ p, H2 p = none → H p = none := fun p => Kb.free hk2 hS2
        have pick : ∃ (p : Addr) (f : Fm), atI [V.ref t1, .ref t2, .ref t3] v = some (.ref p) ∧ H3 p = some (.tup f.vs) ∧ H p = none ∧ f.Ok 101 ∧ ∀ x ∈ f.nums, x ≤ max far 4 := by
          have : v = 0 ∨ v = 1 ∨ v = 2 := by omega
          have sb := (big_sm hb.1 hb.2.1).mono (by decide : 100 ≤ 101)
          have sa := (big_sm ha.1 ha.2.1).mono (by decide : 100 ≤ 101)
          have sc := (big_sm hc.1 hc.2.1).mono (by decide : 100 ≤ 101)
          have sk : Sm 101 (kk + 1) := (big_sm hkk.1 hkk.2.1).add (Nat.lt_of_lt_of_le (by decide : (1 : Int).natAbs < 2 ^ 1) (Nat.pow_le_pow_right (by decide) (by decide)))
          rcases this with rfl | rfl | rfl
          · exact ⟨t1, .keep b a, rfl, k3 _ _ (hSA.neT h1).1 (hSA.neT h1).2 h1, nD0 _ n1, ⟨hb.1, ha.1, sb, sa⟩, nm2 (by omega) (by omega)⟩
          · exact ⟨t2, .lf b a (kk + 1) c, rfl, k3 _ _ (hSA.neT h2).1 (hSA.neT h2).2 h2, nD0 _ (s1.free n2), ⟨hb.1, ha.1, by omega, hc.1, sb, sa, sk, sc⟩, nm4 (by omega) (by omega) (by omega) (by omega)⟩
          · exact ⟨t3, .cr b a (kk + 1), rfl, k3 _ _ (hSA.neT h3).1 (hSA.neT h3).2 h3, nD0 _ ((s1.trans s2).free n3), ⟨hb.1, ha.1, by omega, sb, sa, sk⟩, nm3 (by omega) (by omega) (by omega)⟩
        obtain ⟨p, f, hp, hpt, hn0, hf, hfx⟩ := pick
        exact ⟨T, _, v, _, rfl, rfl, .inl (.inl hT3), hp, q p f H3 hn0 hpt hf hfx (hS3.mono (by omega)) hk3⟩
end
end Lw
namespace Lw
open PySem PySem.Spec L2 Lx
def spRun2 (K : PySem.W.Frag) : Sp := fun vs H Q _ => ∃ (r gl : Addr) (n tup : Nat) (most wide : Int), vs = [.ref r, .int tup, .int most, .int wide] ∧ BagAt H r gl n ∧ n < 900000000 ∧ tup ≤ 100 ∧ 0 < most ∧ most ≤ big ∧ 0 < wide ∧ wide ≤ big ∧
  ∀ (v : V) (g : List (Int × Int) × Int) (H' : Hp), NewRn K H H' v g → RnOk 111 g → g.1.length ≤ tup → total g.1 ≤ tup * (most * wide) → g.2 ≤ most + wide → BagAt H' r gl (n + 3 + 2 * tup) → Kb r gl H H' → Q v H'
theorem tot_le {M : Int} (hM : 0 ≤ M) : ∀ {gs : List (Int × Int)}, (∀ x ∈ gs, x.1 * (x.2 + 1) ≤ M) → total gs ≤ gs.length * M
  | [], _ => by show (0 : Int) ≤ ((0 : Nat) : Int) * M; rw [Int.natCast_zero, Int.zero_mul]; exact Int.le_refl _
  | x :: gs, h => by
    have h0 := h x (List.mem_cons_self ..)
    have ih := tot_le hM fun y hy => h y (List.mem_cons_of_mem _ hy)
    show x.1 * (x.2 + 1) + total gs ≤ ((gs.length + 1 : Nat) : Int) * M
    rw [Int.natCast_add, Int.add_mul]
    show _ ≤ _ + 1 * M
    omega
theorem tot_red {most wide : Int} {gs : List (Int × Int)} {tup : Nat} (h : ∀ x ∈ gs, 1 ≤ x.1 ∧ x.1 ≤ most ∧ 0 ≤ x.2 ∧ x.2 < wide) (hl : gs.length ≤ tup) (hmw : 0 ≤ most * wide) : total (reduced gs) ≤ tup * (most * wide) := by
  have e1 : reduced gs = Lx.merged gs := reduced_all fun x hx => by have := (h x hx).1; omega
  have e2 : total (reduced gs) = total gs := by
    rw [e1]
    have e := total_on (fun j => j) gs.length gs rfl
    have e3 : ∀ xs : List (Int × Int), on (fun j => j) xs = xs := fun xs => by
      unfold on
      exact List.map_id xs
    rw [e3, e3] at e
    exact e
  rw [e2]
  have hM := hmw
  refine Int.le_trans (tot_le hM fun x hx => ?_) (Int.mul_le_mul_of_nonneg_right (by omega) hM)
  obtain ⟨x1, x2, x3, x4⟩ := h x hx
  exact Int.mul_le_mul x2 (by omega) (by omega) (by omega)
section
variable {P : Program} {w : World} {K : PySem.W.Frag} {mg : Str → Option Value} {base : Heap}
theorem ok_run2 {f aR aD : Addr} {fd dR dD : FuncData} {k : Nat} (F : Fun K "_law_run" "_law_run" sLRun f fd) (Z : RuF mg)
    (cR : Cl P w K mg base k "_law_reduced" ["row"] (spReduced K) aR dR)
    (cD : Cl P w K mg base k "_law_draw" ["bag", "many"] spDraw aD dD) : FnOk P w K mg base CX0 (k + 1) f fd ["bag", "tuples", "most", "wide"] (spRun2 K) := by
  refine F.ok scRun (fun vs H Q E h => ?_) (fun cdv A outer s H vs Q E hr h => ?_)
  · obtain ⟨r, gl, n, tup, most, wide, rfl, _⟩ := h
    rfl
  · obtain ⟨r, gl, n, tup, most, wide, rfl, hS, hn, ht, m0, m1, w0, w1, q⟩ := h
    refine ⟨_, (pss_cons (ps_setLc (i := 4) (own := [("at", 5)]) (g := (gName 5)) (tt := tYes) rfl scRun.nd rfl rfl (sw_true rfl rfl rfl (by decide +kernel)) (pi_range1 rfl Z.range (pa_cons (pe_call cD.G hr (by rfl) cD.g cD.kp cD.b .nil pass0 (pa_cons (pv 0) (pa_cons (pe_op op_add (pv 1) pe_int) pa_nil))) pa_nil)) (blkOk_by (own := [("at", 5)]) (N := ["bag", "tuples", "most", "wide", "row", "at"]) (sc := defScope sLRun) (by decide +kernel)) (fun _ _ _ _ _ => (pg_name (i := 5) scRun.nd rfl (.inl rfl))) (fun _ _ _ _ _ => pts_nil) (fun _ _ _ _ _ => (pe_tup (pa_cons (pe_op op_add pe_int (pe_call cD.G hr (by rfl) cD.g cD.kp cD.b .nil pass0 (pa_cons (pv 0) (pa_cons (pv 2) pa_nil)))) (pa_cons (pe_call cD.G hr (by rfl) cD.g cD.kp cD.b .nil pass0 (pa_cons (pv 0) (pa_cons (pv 3) pa_nil))) pa_nil)))))
      (pss_one (ps_ret (pe_tup (pa_cons (pe_call cR.G hr (by rfl) cR.g cR.kp cR.b .nil pass0 (pa_cons (pv 4) pa_nil)) (pa_cons (pe_call cD.G hr (by rfl) cD.g cD.kp cD.b .nil pass0 (pa_cons (pv 0) (pa_cons (pe_ix ix_tup (pe_tup (pa_cons pe_int (pa_cons (pv 3) (pa_cons (pv 2) pa_nil)))) (pe_call cD.G hr (by rfl) cD.g cD.kp cD.b .nil pass0 (pa_cons (pv 0) (pa_cons pe_int pa_nil))) (fun _ _ => rfl)) pa_nil))) pa_nil)))))), ?_⟩
    refine ⟨_, rfl, _, rfl, _, _, rfl, rfl, r, gl, n, (tup : Int) + 1, rfl, hS, by omega, by omega, ?_, fun cnt H1 c0 c1 hS1 k1 => ?_⟩
    · exact Nat.lt_of_lt_of_le (show ((tup : Int) + 1).natAbs < 2 ^ 7 by omega) (Nat.pow_le_pow_right (by decide) (by decide))
    refine ⟨_, rfl, by omega, by omega, fun D nD => ?_⟩
    have hDr := hS1.ne nD
    refine lc_it (walk_range (lo := 0) (n := cnt.toNat)) (fun j H' => ∃ zs gs, H' D = some (.lst zs) ∧ Prs K H' zs gs ∧ gs.length = j ∧ GsSm 100 gs ∧ (∀ x ∈ gs, 1 ≤ x.1 ∧ x.1 ≤ most ∧ 0 ≤ x.2 ∧ x.2 < wide) ∧ BagAt H' r gl (n + 1 + 2 * j) ∧ Kb r gl H H') ⟨[], [], upd_same, .nil, rfl, (fun x hx => by cases hx), (fun x hx => by cases hx), hS1.own hDr, k1.own ((Kb.free k1 hS1 nD))⟩ (fun _ _ _ _ => trivial) ?_ ?_
    · rintro j u H2 H3 hj ⟨zs, gs, hD, hz, hl, hg, hgb, hS2, hk2⟩ ⟨rfl, rfl⟩
      refine ⟨rfl, _, rfl, _, rfl, r, gl, _, most, rfl, hS2, by omega, m0, big_40 m0 m1, fun v H4 v0 v1 hS4 k4 => ⟨_, _, rfl, rfl, _, rfl, _, rfl, r, gl, _, wide, rfl, hS4, by omega, w0, big_40 w0 w1, fun v' H5 v0' v1' hS5 k5 => ?_⟩⟩
      refine ⟨by show 2 ≤ sizeLine; decide, fun t nt => ?_⟩
      have s6 := same_upd (o := .tup [.int (1 + v), .int v']) nt
      have kk := k4.trans k5
      have hD5 := s6 _ _ (kk _ _ hDr.1 hDr.2 hD)
      have hz5 := (Prs.kb hS2 kk hz).same s6
      have hlen := hz.len
      refine ⟨zs, hD5, by rw [sizeLine_eq]; omega, zs ++ [.ref t], gs ++ [(1 + v, v')], upd_same, Prs.lstUpd hD5 (hz5.append (.cons ⟨t, rfl, upd_same⟩ .nil)), by rw [List.length_append, hl]; rfl, fun x hx => ?_, fun x hx => ?_, ((hS5.same s6).own hDr).mono (by omega), ((hk2.trans kk).trans (Kb.of s6)).own (Kb.free k1 hS1 nD)⟩
      · rcases List.mem_append.mp hx with h | h
        · exact hg x h
        · rw [List.mem_singleton.mp h]
          exact ⟨by show 0 ≤ 1 + v; omega, v0', big_sm (by show 0 ≤ 1 + v; omega) (by show 1 + v ≤ big; omega), big_sm v0' (by show v' ≤ big; omega)⟩
      · rcases List.mem_append.mp hx with h | h
        · exact hgb x h
        · rw [List.mem_singleton.mp h]
          exact ⟨by show 1 ≤ 1 + v; omega, by show 1 + v ≤ most; omega, v0', v1'⟩
    · rintro H2 ⟨zs, gs, hD, hz, hl, hg, hgb, hS2, hk2⟩
      have hgl : gs.length ≤ tup := by omega
      obtain ⟨g1, g2⟩ := reduced_ok hg (by omega)
      refine ⟨_, rfl, D, gs, rfl, ⟨zs, .inl (.inl hD), hz⟩, by omega, fun p H3 xs np s3 hp hx => ?_⟩
      have hS3 := hS2.same s3
      have hpr := hS2.ne np
      refine ⟨_, rfl, _, rfl, _, rfl, by show 3 ≤ sizeLine; decide, fun T nT => ?_⟩
      have s4 := same_upd (o := .tup [.int 1, .int wide, .int most]) nT
      refine ⟨_, rfl, r, gl, _, 3, rfl, hS3.same s4, by omega, by decide, by decide, fun c H5 c0 c1 hS5 k5 => ?_⟩
      have hTr : T ≠ r ∧ T ≠ gl := hS3.ne nT
      have hT5 : H5 T = some (.tup [.int 1, .int wide, .int most]) := k5 _ _ hTr.1 hTr.2 upd_same
      have pick : ∃ x : Int, atI [V.int 1, .int wide, .int most] c = some (.int x) ∧ 0 < x ∧ x ≤ big ∧ x ≤ most + wide := by
        have : c = 0 ∨ c = 1 ∨ c = 2 := by omega
        rcases this with rfl | rfl | rfl
        · exact ⟨1, rfl, by decide, by decide, by omega⟩
        · exact ⟨wide, rfl, w0, w1, by omega⟩
        · exact ⟨most, rfl, m0, m1, by omega⟩
      obtain ⟨x, hx', x0, x1, x2⟩ := pick
      refine ⟨T, _, c, _, rfl, rfl, .inl (.inl hT5), hx', r, gl, _, x, rfl, hS5, by omega, x0, big_40 x0 x1, fun rest H6 e0 e1 hS6 k6 => ?_⟩
      have kk := ((Kb.of s4).trans k5).trans k6
      refine ⟨by show 2 ≤ sizeLine; decide, fun t nt => ?_⟩
      have s7 := same_upd (o := .tup [.ref p, .int rest]) nt
      have k06 : Kb r gl H H6 := (hk2.trans (Kb.of s3)).trans kk
      have np0 : H p = none := Kb.free hk2 hS2 np
      exact q _ (reduced gs, rest) _ ⟨t, p, xs, rfl, Kb.free k06 hS6 nt, np0, upd_same, s7 _ _ (kk _ _ hpr.1 hpr.2 hp), (Prs.kb hS3 kk hx).same s7⟩ ⟨g1, ⟨e0, (big_sm e0 (by omega)).mono (by decide)⟩, by show (reduced gs).length ≤ 1000; omega⟩ (by show (reduced gs).length ≤ tup; omega) (tot_red hgb (by omega) (Int.mul_nonneg (by omega) (by omega))) (by show rest ≤ most + wide; omega) ((hS6.same s7).mono (by omega)) (k06.trans (Kb.of s7))
end
end Lw
namespace Lx
open PySem PySem.Spec L2 PyProof.Rows
/-! ### sum of a tuple of ints -/
def rSumT (K : PySem.W.Frag) : List V → Hp → VK → Prop := fun vs H Q => ∃ (a : Addr) (ns : List Int), vs = [V.ref a] ∧ SqT K H a (ns.map V.int) ∧ Q (.int ns.sum) H
theorem call_sumT {X : Cx} (hc : X.calm = true) : CallR X (.builtin "sum") (rSumT X.K) := by
  intro pins s σ H vs us Q I r h
  obtain ⟨a, ns, rfl, hs, q⟩ := h
  obtain ⟨its, rv, hl, _⟩ := I.tuple hs
  rw [Vals.ref1 r]
  have hi := rv.ints
  obtain ⟨xs, e⟩ := hi.allInts.items
  have hn : numsOf (intItems xs).toList = ns := by rw [← e]; exact hi.numsOf
  rw [nums_intItems] at hn
  have hl' : s.heap.IsTuple a (intItems xs) := by
    rw [← e]
    obtain ⟨o, h1, h2, n, h3⟩ := hl
    exact ⟨o, h1, h2, n, h3⟩
  refine PySem.W.ktm_sumG (I.ok.hd hc) hl' fun h' tk t' hk => ⟨.int _, H, I.kept hk, ⟨_, rfl⟩, ?_⟩
  rw [preSum_eq, List.take_of_length_le (by simp), hn]
  exact q
/-! ### a method of a tuple that is written where it is called -/
def tTupM (r : V → List V → Hp → VK → Prop) (t0 t : TA) : TE := fun σ H Q => t0 σ H fun ys H1 => ys.length ≤ sizeLine ∧ ∀ p, H1 p = none → t σ (upd H1 p (.tup ys)) fun xs H2 => r (.ref p) xs H2 Q
theorem pe_tupM {X : Cx} {es0 : List Expr} {x1} {tpos : Pos} {e : Expr} {es : List Expr} {t0 t : TA} {name : Str} {apos cpos : Pos} {id : String} {r : V → List V → Hp → VK → Prop} (pa : PlainAttrs "tuple") (slot : Slot "tuple" name id) (hty : typeOf (.builtin id) = pure (.type "method_descriptor")) (hm : MtR X id r) (h0 : PA X es0 t0) (ha : PA X (e :: es) t)
    (hbase : attributeBase (.Tuple es0 x1 tpos) name X.env (eval (.Tuple es0 x1 tpos) X.env) = eval (.Tuple es0 x1 tpos) X.env := by rfl)
    (hfew : ((backTo cpos (starEach (e :: es) X.env)).all (fun x => !x.1) && (backToKw cpos (keywordEach [] X.env)).all (fun x => x.1.isSome)
      && decide ((e :: es).length + ([] : List Keyword).length + (if ([] : List Keyword).isEmpty then 0 else 1) < 30)) = true := by rfl)
    (hline : (apos.endLine == cpos.line) = true := by rfl) (hs : starEach (e :: es) X.env = (false, eval e X.env) :: starEach es X.env := by rfl) (hplain : (backTo cpos (starEach es X.env)).any (·.1) = false := by rfl) :
    PE X (.Call (.Attribute (.Tuple es0 x1 tpos) name apos) (e :: es) [] cpos) (tTupM r t0 t) := by
  refine ⟨fun pins s σ H Q I h => ?_⟩
  refine wpAny_Call_method_late hbase hfew hline rfl ?_
  refine wpAny_Tuple_spliced (thn (h0.run tpos pins s σ H _ I h) fun us s1 ⟨xs, H1, I1, r1, z, q⟩ => ⟨by rw [← r1.length]; exact z, ?_⟩)
  have hf : H1 s1.heap.objs.size = none := I1.hok.fresh (Nat.le_refl _)
  have I2 := I1.laid (a := s1.heap.objs.size) (o := .tup xs) (h' := s1.heap.push { cls := .type "tuple", data := .seq us.toArray }) (t' := s1.toks) (fun b u e => Heap.get?_push_of_some _ e) (Nat.le_refl _) ⟨z, us, r1, ⟨_, Heap.get?_push_size _ rfl, rfl, _, rfl⟩⟩
  have hg : (s1.heap.push { cls := .type "tuple", data := .seq us.toArray }).get? s1.heap.objs.size = some { cls := .type "tuple", data := .seq us.toArray } := Heap.get?_push_size _ rfl
  refine ⟨"tuple", id, pa, slot, hty, ⟨_, hg, rfl⟩, fun a e => ?_, ?_⟩
  · cases e
    exact ⟨_, hg, rfl⟩
  · have hA := ha.run cpos pins _ σ _ _ I2 (q _ hf)
    rw [hs] at hA ⊢
    refine Calls.callWith_builtin (by show (false || (backTo cpos (starEach es X.env)).any (·.1)) = false; rw [hplain] <;> rfl) (Calls.evalArgs_plain ?_)
    exact thn hA fun us2 s2 ⟨vs, H2, I3, r2, q2⟩ => hm pins s2 σ H2 (.ref s1.heap.objs.size) vs (.ref s1.heap.objs.size) us2 Q I3 rfl r2 q2
end Lx
namespace Lw
open PySem PySem.Spec L2 Lx
theorem scChain : FnScope ["bag", "most", "found"] ["bag", "most"] (defScope sLChain) := ⟨rfl, rfl, rfl, by decide +kernel, rfl, by decide +kernel, by decide +kernel⟩
theorem scWanted : FnScope ["chain_now", "kind", "b", "a", "k", "c", "sign"] ["chain_now"] (defScope sLWanted) := ⟨rfl, rfl, rfl, by decide +kernel, rfl, by decide +kernel, by decide +kernel⟩
def spChain : Sp := fun vs H Q _ => ∃ (r gl : Addr) (n m : Nat), vs = [.ref r, .int m] ∧ BagAt H r gl n ∧ n < 900000000 ∧ m ≤ 100 ∧ ∀ x H', ChOk x → x.cps.size ≤ m → BagAt H' r gl (n + 3 * m + 7) → Kb r gl H H' → Q (.str x) H'
structure ChF (mg : Str → Option Value) : Prop where
  len : mg "len" = none
theorem step_at {v : Int} (h0 : 0 ≤ v) (h1 : v < 6) : ∃ i : Int, atI [V.int 0, .int 0, .int 1, .int 1, .int 2, .int 3] v = some (.int i) ∧ 0 ≤ i ∧ i < 4 := by
  have : v = 0 ∨ v = 1 ∨ v = 2 ∨ v = 3 ∨ v = 4 ∨ v = 5 := by omega
  rcases this with rfl | rfl | rfl | rfl | rfl | rfl <;> exact ⟨_, rfl, by decide, by decide⟩
theorem steps_at {i : Int} (h0 : 0 ≤ i) (h1 : i < 4) : ∃ c, atI steps.cps.toList i = some c ∧ c ∈ steps.cps.toList := by
  have : i = 0 ∨ i = 1 ∨ i = 2 ∨ i = 3 := by omega
  rcases this with rfl | rfl | rfl | rfl <;> exact ⟨_, rfl, by decide⟩
theorem app_size (x y : Str) : (x ++ y).cps.size = x.cps.size + y.cps.size := Array.size_append ..
theorem app_list (x y : Str) : (x ++ y).cps.toList = x.cps.toList ++ y.cps.toList := Array.toList_append ..
theorem rep_ch {c : Nat} {k : Nat} {d : Nat} (h : d ∈ (rep (⟨#[c]⟩ : Str) k).cps.toList) : d = c := by
  rw [rep_list] at h
  obtain ⟨l, hl, hdl⟩ := List.mem_flatten.mp h
  obtain ⟨_, rfl⟩ := List.mem_replicate.mp hl
  simpa using hdl
section
variable {P : Program} {w : World} {K : PySem.W.Frag} {mg : Str → Option Value} {base : Heap}
theorem ok_chain {f aD : Addr} {fd dD : FuncData} {k : Nat} (F : Fun K "_law_chain" "_law_chain" sLChain f fd) (Z : ChF mg)
    (cD : Cl P w K mg base k "_law_draw" ["bag", "many"] spDraw aD dD) : FnOk P w K mg base CX0 (k + 1) f fd ["bag", "most"] spChain := by
  refine F.ok scChain (fun vs H Q E h => ?_) (fun cdv A outer s H vs Q E hr h => ?_)
  · obtain ⟨r, gl, n, m, rfl, _⟩ := h
    rfl
  · obtain ⟨r, gl, n, m, rfl, hS, hn, hm, q⟩ := h
    refine ⟨_, (pss_cons (ps_set (i := 2) scChain.nd rfl (.inl rfl) pe_str)
      (pss_cons (ps_while PassesOwn.never (PW.pt (pw_and (pt_cmpR op_lt (pe_callB call_len_str (by rfl) Z.len PySem.boot_len (pa_cons (pv 2) pa_nil)) (pv 1) (nomark _)) (pw_and1 (pt_cmpR op_gt (pe_call cD.G hr (by rfl) cD.g cD.kp cD.b .nil pass0 (pa_cons (pv 0) (pa_cons pe_int pa_nil))) pe_int (nomark _)))))
          (pss_one (ps_set (i := 2) scChain.nd rfl (.inl rfl) (pe_op op_add_str (pv 2) (pe_op op_repS (pe_ix ix_str pe_str (pe_ix ix_tup (pe_tup (pa_cons pe_int (pa_cons pe_int (pa_cons pe_int (pa_cons pe_int (pa_cons pe_int (pa_cons pe_int pa_nil))))))) (pe_call cD.G hr (by rfl) cD.g cD.kp cD.b .nil pass0 (pa_cons (pv 0) (pa_cons pe_int pa_nil))) (fun _ _ => rfl)) (fun _ _ => rfl)) (pe_op op_add pe_int (pe_call cD.G hr (by rfl) cD.g cD.kp cD.b .nil pass0 (pa_cons (pv 0) (pa_cons pe_int pa_nil)))))))))
      (pss_one (ps_ret (pe_slice sl_str (pv 2) po_none (po_some (pv 1))))))), ?_⟩
    refine while_fin (fun σ H1 => ∃ x, σ = [some (.ref r), some (.int m), some (.str x)] ∧ ChOk x ∧ x.cps.size ≤ m + 2 ∧ BagAt H1 r gl (n + 3 * m + 7) ∧ Kb r gl H H1) (fun R hR => ?_) (fun σ H1 hF => ?_)
    · refine ⟨fun mm σ H1 => ∃ x, σ = [some (.ref r), some (.int m), some (.str x)] ∧ mm = m + 2 - x.cps.size ∧ ChOk x ∧ x.cps.size ≤ m + 2 ∧ BagAt H1 r gl (n + 3 * x.cps.size) ∧ Kb r gl H H1, ⟨_, "", rfl, rfl, by unfold ChOk; decide, by show 0 ≤ m + 2; omega, hS, Kb.refl r gl H⟩, ?_⟩
      rintro mm σ H1 ⟨x, rfl, rfl, hx, hxl, hS1, hk1⟩
      refine ⟨_, rfl, x, rfl, by show x.cps.size ≤ sizeLine; rw [sizeLine_eq]; omega, _, rfl, _, _, rfl, rfl, _, rfl, ?_⟩
      by_cases c : (x.length : Int) < (m : Int)
      · rw [decide_eq_true c]
        have hlt : x.cps.size < m := by
          have : x.length = x.cps.size := rfl
          omega
        refine iteT ⟨_, rfl, r, gl, _, 8, rfl, hS1, by omega, by decide, by decide, fun d H2 d0 d1 hS2 k2 => ?_⟩
        refine ⟨_, _, rfl, rfl, _, rfl, ite2 (fun c2 => ?_) (fun c2 => ?_)⟩
        · refine ⟨fun σ' H' => ∃ x', σ' = [some (.ref r), some (.int m), some (.str x')] ∧ x.cps.size < x'.cps.size ∧ ChOk x' ∧ x'.cps.size ≤ m + 2 ∧ BagAt H' r gl (n + 3 * x'.cps.size) ∧ Kb r gl H H', fun σ' H' ⟨x', e, hlt', rest⟩ => ⟨m + 2 - x'.cps.size, by omega, x', e, rfl, rest⟩, ?_⟩
          refine ⟨_, rfl, by show 6 ≤ sizeLine; decide, fun T nT => ?_⟩
          have s3 := same_upd (o := .tup [.int 0, .int 0, .int 1, .int 1, .int 2, .int 3]) nT
          refine ⟨_, rfl, r, gl, _, 6, rfl, hS2.same s3, by omega, by decide, by decide, fun v H4 v0 v1 hS4 k4 => ?_⟩
          have hTr := hS2.ne nT
          have hT4 : H4 T = some (.tup [.int 0, .int 0, .int 1, .int 1, .int 2, .int 3]) := k4 _ _ hTr.1 hTr.2 upd_same
          obtain ⟨i, hi, i0, i1⟩ := step_at v0 v1
          obtain ⟨ch, hch, hcm⟩ := steps_at i0 i1
          refine ⟨T, _, v, _, rfl, rfl, .inl (.inl hT4), hi, _, _, ch, rfl, rfl, by show 4 ≤ sizeLine; decide, hch, ?_⟩
          refine ⟨_, rfl, r, gl, _, 3, rfl, hS4, by omega, by decide, by decide, fun u H5 u0 u1 hS5 k5 => ?_⟩
          have hrl : (rep (⟨#[ch]⟩ : Str) (1 + u).toNat).cps.size = 1 * (1 + u).toNat := rep_len _ _
          refine ⟨_, _, rfl, rfl, _, _, rfl, rfl, by omega, by omega, by show 1 * (1 + u).toNat ≤ sizeLine; rw [sizeLine_eq]; omega, _, _, rfl, rfl, by show x.cps.size + (rep (⟨#[ch]⟩ : Str) (1 + u).toNat).cps.size ≤ sizeLine; rw [hrl, sizeLine_eq]; omega, ?_⟩
          have hsz : (x ++ rep (⟨#[ch]⟩ : Str) (1 + u).toNat).cps.size = x.cps.size + (1 + u).toNat := by rw [app_size, hrl, Nat.one_mul]
          refine ⟨_, rfl, by rw [hsz]; omega, fun d hd => ?_, by rw [hsz]; omega, hS5.mono (by rw [hsz]; omega), ((hk1.trans k2).trans (Kb.of s3)).trans (k4.trans k5)⟩
          rw [app_list] at hd
          rcases List.mem_append.mp hd with h | h
          · exact hx d h
          · rw [rep_ch h]
            exact hcm
        · exact hR _ _ ⟨x, rfl, hx, hxl, hS2.mono (by omega), hk1.trans k2⟩
      · rw [decide_eq_false c]
        exact iteF (hR _ _ ⟨x, rfl, hx, hxl, hS1.mono (by omega), hk1⟩)
    · obtain ⟨x, rfl, hx, hxl, hS1, hk1⟩ := hF
      refine ⟨_, rfl, _, rfl, (m : Int), rfl, x, rfl, by show x.cps.size ≤ sizeLine; rw [sizeLine_eq]; omega, ?_⟩
      refine q _ _ (fun d hd => ?_) ?_ hS1 hk1
      · have hd' : d ∈ ((x.cps.toList.drop (HT.sIx x.length 0 none)).take (HT.sIx x.length x.length (some (m : Int)) - HT.sIx x.length 0 none)) := by simpa [cutS] using hd
        exact hx d (List.mem_of_mem_drop (List.mem_of_mem_take hd'))
      · show (((x.cps.toList.drop (HT.sIx x.length 0 none)).take (HT.sIx x.length x.length (some (m : Int)) - HT.sIx x.length 0 none)).toArray).size ≤ m
        rw [HT.sIx_none, HT.sIx_nat, List.size_toArray, List.length_take]
        omega
def spWantedF : Sp := fun vs H Q _ => ∃ (x : Str), vs = [.str x] ∧ ChOk x ∧ x.cps.size ≤ 60 ∧ ∀ (p : Addr) (H' : Hp), Same H H' → H p = none → H' p = some (.tup (formOf x).vs) → Q (.ref p) H'
structure WaF (mg : Str → Option Value) : Prop where
  int : mg "int" = none
  max : mg "max" = none
def WI (i : Nat) (kd : Str) (b a k c : Int) : Prop := (kd = "keep" ∨ kd = "lf" ∨ kd = "cr") ∧ 0 ≤ b ∧ b ≤ i ∧ 0 ≤ a ∧ a ≤ i ∧ 0 < k ∧ Sm (6 * i + 1) k ∧ 0 ≤ c ∧ c ≤ i
/-- the numbers on the way are those of the form -/
def WR (kd : Str) (b a k c : Int) (f : Fm) : Prop := (kd = "keep" ∧ f = .keep b a ∧ k = 1 ∧ c = 0) ∨ (kd = "lf" ∧ f = .lf b a k c) ∨ (kd = "cr" ∧ f = .cr b a k)
theorem chq {c d : Nat} {u : Str} (hu : u = ⟨#[d]⟩) (h : decide (V.str ⟨#[c]⟩ = V.str u) = true) : c = d := by
  subst hu
  have := congrArg (fun s : Str => s.cps.toList) (V.str.inj (of_decide_eq_true h))
  exact (List.cons.inj this).1
theorem chn {c d : Nat} {u : Str} (hu : u = ⟨#[d]⟩) (h : ¬ decide (V.str ⟨#[c]⟩ = V.str u) = true) : c ≠ d := by
  subst hu
  rintro rfl
  exact h (decide_eq_true rfl)
theorem dec_ch {c d : Nat} {u : Str} (hu : u = ⟨#[d]⟩) : decide (V.str ⟨#[c]⟩ = V.str u) = decide (c = d) := by
  by_cases e : c = d
  · subst e; subst hu; simp
  · rw [decide_eq_false e]
    exact decide_eq_false fun h => e (chq (u := u) hu (decide_eq_true h))
theorem pick2 {s1 s2 : Str} {b : Bool} : atI [V.str s1, .str s2] (if b = true then (1 : Int) else 0) = some (.str (if b = true then s2 else s1)) := by cases b <;> rfl
theorem pick2i {i j : Int} {b : Bool} : atI [V.int i, .int j] (if b = true then (1 : Int) else 0) = some (.int (if b = true then j else i)) := by cases b <;> rfl
theorem ok_wantedF {f : Addr} {fd : FuncData} {k : Nat} (F : Fun K "_law_wanted" "_law_wanted" sLWanted f fd) (Z : WaF mg) : FnOk P w K mg base CX0 (k + 1) f fd ["chain_now"] spWantedF := by
  refine F.ok scWanted (fun vs H Q E h => ?_) (fun cdv A outer s H vs Q E hr h => ?_)
  · obtain ⟨x, rfl, _⟩ := h
    rfl
  · obtain ⟨x, rfl, hx, hxl, q⟩ := h
    refine ⟨_, (pss_cons (ps_asg (pe_tup (pa_cons pe_str (pa_cons pe_int (pa_cons pe_int (pa_cons pe_int (pa_cons pe_int pa_nil)))))) (pg_tup (by rfl) (pgs_cons (pg_name (i := 1) scWanted.nd rfl (.inl rfl)) (pgs_cons (pg_name (i := 2) scWanted.nd rfl (.inl rfl)) (pgs_cons (pg_name (i := 3) scWanted.nd rfl (.inl rfl)) (pgs_cons (pg_name (i := 4) scWanted.nd rfl (.inl rfl)) (pgs_cons (pg_name (i := 5) scWanted.nd rfl (.inl rfl)) pgs_nil)))))))
      (pss_cons (ps_for PassesOwn.never rfl (pi_str (pv 0)) (pg_name (i := 6) scWanted.nd rfl (.inl rfl))
          (pss_one (ps_if (PW.pt (pw_and (pt_cmpR op_eq (pv 1) pe_str (nomark _)) (pw_and1 (pt_cmpR op_eq (pv 6) pe_str (nomark _)))))
              (pss_one (ps_aug (i := 3) scWanted.nd rfl (.inl rfl) pe_int ip_add))
              (pss_one (ps_if (PW.pt (pw_and (pt_cmpR op_eq (pv 1) pe_str (nomark _)) (pw_and1 (pt_cmpR op_eq (pv 6) pe_str (nomark _)))))
                  (pss_one (ps_par (i := 2) (j := 3) rfl scWanted.nd rfl rfl (by decide) rfl rfl (pa_cons (pe_op op_add (pv 2) (pe_callTy call_int1 (by rfl) Z.int (by decide +kernel) (pa_cons (pe_cmpR op_eq (pv 3) pe_int (nomark _)) pa_nil))) (pa_cons (pe_callB (call_max2 rfl) (by rfl) Z.max (by decide +kernel) (pa_cons pe_int (pa_cons (pe_op op_sub (pv 3) pe_int) pa_nil))) pa_nil)) rfl))
                  (pss_one (ps_if (pt_cmpR op_eq (pv 1) pe_str (nomark _))
                      (pss_one (ps_set (i := 1) scWanted.nd rfl (.inl rfl) (pe_ix ix_tup (pe_tup (pa_cons pe_str (pa_cons pe_str pa_nil))) (pe_callTy call_int1 (by rfl) Z.int (by decide +kernel) (pa_cons (pe_cmpR op_eq (pv 6) pe_str (nomark _)) pa_nil)) (fun _ _ => rfl))))
                      (pss_one (ps_if (PW.pt (pw_and (pt_cmpR op_eq (pv 1) pe_str (nomark _)) (pw_and1 (pt_cmpR op_in_sign (pv 6) pe_str (by with_unfolding_all rfl)))))
                          (pss_one (ps_set (i := 5) scWanted.nd rfl (.inl rfl) (pe_callB (call_max2 rfl) (by rfl) Z.max (by decide +kernel) (pa_cons pe_int (pa_cons (pe_op op_add (pv 5) (pe_ix ix_tup (pe_tup (pa_cons pe_int (pa_cons (pe_un un_neg pe_int) pa_nil))) (pe_callTy call_int1 (by rfl) Z.int (by decide +kernel) (pa_cons (pe_cmpR op_eq (pv 6) pe_str (nomark _)) pa_nil)) (fun _ _ => rfl))) pa_nil)))))
                          (pss_one (ps_if (pt_cmpR op_eq (pv 1) pe_str (nomark _))
                              (pss_one (ps_par3 (i := 1) (j := 4) (l := 5) rfl scWanted.nd rfl rfl rfl (by decide) (by decide) (by decide) rfl rfl rfl (pa_cons (pe_ix ix_tup (pe_tup (pa_cons pe_str (pa_cons pe_str pa_nil))) (pe_callTy call_int1 (by rfl) Z.int (by decide +kernel) (pa_cons (pe_cmpR op_eq (pv 6) pe_str (nomark _)) pa_nil)) (fun _ _ => rfl)) (pa_cons (pe_op op_mulW (pv 4) (pe_op op_add (pv 5) pe_int)) (pa_cons pe_int pa_nil))) rfl))
                              (pss_one (ps_if (pt_cmpR op_eq (pv 6) pe_str (nomark _))
                                  (pss_one (ps_asg (pe_tup (pa_cons pe_str (pa_cons pe_int pa_nil))) (pg_tup (by rfl) (pgs_cons (pg_name (i := 1) scWanted.nd rfl (.inl rfl)) (pgs_cons (pg_name (i := 5) scWanted.nd rfl (.inl rfl)) pgs_nil))))) pss_nil)))))))))))))
      (pss_one (ps_ret (pe_ix ix_tup (pe_tup (pa_cons (pe_tup (pa_cons pe_str (pa_cons (pv 2) (pa_cons (pv 3) pa_nil)))) (pa_cons (pe_tup (pa_cons pe_str (pa_cons (pv 2) (pa_cons (pv 3) (pa_cons (pv 4) (pa_cons (pv 5) pa_nil)))))) (pa_cons (pe_tup (pa_cons pe_str (pa_cons (pv 2) (pa_cons (pv 3) (pa_cons (pv 4) pa_nil))))) pa_nil)))) (pe_tupM PySem.F.plainAttrs_tuple PySem.F.slot_tuple_index PySem.F.type_tuple_index mt_tup_index (pa_cons pe_str (pa_cons pe_str (pa_cons pe_str pa_nil))) (pa_cons (pv 1) pa_nil)) (fun _ _ => rfl)))))), ?_⟩
    refine ⟨by show 5 ≤ sizeLine; decide, fun t0 n0 => ?_⟩
    have s0 := same_upd (o := .tup [.str "keep", .int 0, .int 0, .int 1, .int 0]) n0
    refine ⟨t0, _, rfl, .inl (.inl upd_same), rfl, _, _, rfl, _, _, rfl, _, _, rfl, _, _, rfl, _, _, rfl, rfl, ?_⟩
    refine ⟨_, rfl, x, rfl, ?_⟩
    refine for_it walk_str (fun i σ H' => Same H H' ∧ ∃ kd b a kk c y6, σ = [some (.str x), some (.str kd), some (.int b), some (.int a), some (.int kk), some (.int c), y6] ∧ WI i kd b a kk c ∧ WR kd b a kk c (formL (x.cps.toList.take i)))
      ⟨s0, "keep", 0, 0, 1, 0, none, rfl, ⟨.inl rfl, by decide, by decide, by decide, by decide, by decide, by unfold Sm; decide, by decide, by decide⟩, .inl ⟨rfl, rfl, rfl, rfl⟩⟩ (fun _ _ _ _ _ => trivial) ?_ ?_
    · rintro i u σ H1 H2 hi ⟨sm, kd, b, a, kk, c, y6, rfl, ⟨hkd, b0, b1, a0, a1, k0, k1, c0, c1⟩, hr⟩ ⟨rfl, ch, hch, rfl⟩
      have ku := sms_up k1
      have hcl : x.cps.toList[i]? = some ch := by rw [Array.getElem?_toList]; exact hch
      have htk : formL (x.cps.toList.take (i + 1)) = (formL (x.cps.toList.take i)).both (stepF ch) := by
        rw [List.take_succ, hcl]
        exact formL_snoc _ _
      have h4 : ch ∈ ([85, 68, 77, 78] : List Nat) := hx ch (List.mem_of_getElem? hcl)
      rw [htk]
      clear htk hcl hch
      generalize formL (x.cps.toList.take i) = f at hr
      simp only [List.mem_cons, List.not_mem_nil, or_false] at h4
      have kU : stepF 85 = .keep 0 1 := rfl
      have kD : stepF 68 = .keep 1 0 := rfl
      have kM : stepF 77 = .lf 0 0 1 0 := rfl
      have kN : stepF 78 = .cr 0 0 1 := rfl
      rcases hr with ⟨rfl, rfl, rfl, rfl⟩ | ⟨rfl, rfl⟩ | ⟨rfl, rfl⟩
      · rcases h4 with rfl | rfl | rfl | rfl
        · exact ⟨_, rfl, rfl, _, rfl, iteT ⟨_, rfl, rfl, _, rfl, iteT ⟨_, rfl, _, _, rfl, rfl, sm, _, _, _, _, _, _, rfl, ⟨.inl rfl, b0, by omega, by show 0 ≤ a + 1; omega, by show a + 1 ≤ ((i + 1 : Nat) : Int); omega, k0, ku, c0, by omega⟩, .inl ⟨rfl, by rw [kU, st_kU a0], rfl, rfl⟩⟩⟩⟩
        · refine ⟨_, rfl, rfl, _, rfl, iteT ⟨_, rfl, rfl, _, rfl, iteF ⟨_, rfl, rfl, _, rfl, iteT ⟨_, rfl, rfl, _, rfl, iteT ?_⟩⟩⟩⟩
          refine ⟨_, rfl, _, rfl, rfl, .inr ⟨_, rfl, _, _, rfl, rfl, _, rfl, _, _, rfl, rfl, _, _, rfl, _, _, rfl, sm, _, _, _, _, _, _, rfl, ⟨.inl rfl, ?_, ?_, ?_, ?_, k0, ku, c0, by omega⟩, .inl ⟨rfl, ?_, rfl, rfl⟩⟩⟩
          · split <;> omega
          · split <;> omega
          · split <;> omega
          · split <;> omega
          · rw [kD, st_kD a0]
            by_cases ha : a = 0
            · subst ha
              rfl
            · rw [if_neg ha]
              rw [decide_eq_false (show ¬ V.int a = V.int 0 from fun z => ha (V.int.inj z)), if_neg (by decide : ¬ (false = true)), Int.add_zero]
              by_cases h1 : a - 1 > 0
              · rw [if_pos h1]
              · rw [if_neg h1, show a - 1 = 0 by omega]
        · refine ⟨_, rfl, rfl, _, rfl, iteT ⟨_, rfl, rfl, _, rfl, iteF ⟨_, rfl, rfl, _, rfl, iteT ⟨_, rfl, rfl, _, rfl, iteF ⟨_, rfl, rfl, _, rfl, iteT ?_⟩⟩⟩⟩⟩
          refine ⟨by show 2 ≤ sizeLine; decide, fun T nT => ⟨_, rfl, rfl, .inr ⟨_, rfl, T, _, _, _, rfl, rfl, .inl (.inl upd_same), pick2, ?_⟩⟩⟩
          exact ⟨sm.trans (same_upd nT), _, _, _, _, _, _, rfl, ⟨.inr (.inl rfl), b0, by omega, a0, by omega, k0, ku, c0, by omega⟩, .inr (.inl ⟨rfl, by rw [kM, st_kM a0]⟩)⟩
        · refine ⟨_, rfl, rfl, _, rfl, iteT ⟨_, rfl, rfl, _, rfl, iteF ⟨_, rfl, rfl, _, rfl, iteT ⟨_, rfl, rfl, _, rfl, iteF ⟨_, rfl, rfl, _, rfl, iteT ?_⟩⟩⟩⟩⟩
          refine ⟨by show 2 ≤ sizeLine; decide, fun T nT => ⟨_, rfl, rfl, .inr ⟨_, rfl, T, _, _, _, rfl, rfl, .inl (.inl upd_same), pick2, ?_⟩⟩⟩
          exact ⟨sm.trans (same_upd nT), _, _, _, _, _, _, rfl, ⟨.inr (.inr rfl), b0, by omega, a0, by omega, k0, ku, c0, by omega⟩, .inr (.inr ⟨rfl, by rw [kN, st_kN a0]⟩)⟩
      · refine ⟨_, rfl, rfl, _, rfl, iteF (iteF ⟨_, rfl, rfl, _, rfl, iteF (iteF ⟨_, rfl, rfl, _, rfl, iteF ?_⟩)⟩)⟩
        have hc6 : (c + 1).natAbs < 2 ^ 6 := by
          have : (2 : Nat) ^ 6 = 64 := by decide
          have : i < 60 := by omega
          omega
        rcases h4 with rfl | rfl | rfl | rfl
        · refine ⟨_, rfl, rfl, _, rfl, iteT ⟨_, rfl, 85, "UD", rfl, rfl, _, rfl, iteT ?_⟩⟩
          refine ⟨_, rfl, 1, rfl, by show 2 ≤ sizeLine; decide, fun T nT => ⟨_, rfl, rfl, .inr ⟨_, rfl, T, _, _, _, rfl, rfl, .inl (.inl upd_same), pick2i, _, _, rfl, rfl, _, _, rfl, ?_⟩⟩⟩
          refine ⟨sm.trans (same_upd nT), _, _, _, _, _, _, rfl, ⟨.inr (.inl rfl), b0, by omega, a0, by omega, k0, ku, ?_, ?_⟩, .inr (.inl ⟨rfl, ?_⟩)⟩
          · split <;> split <;> omega
          · split <;> split <;> omega
          · rw [kU, st_lU c0]
            rw [decide_eq_false (by decide : ¬ V.str ⟨#[85]⟩ = V.str "D"), if_neg (by decide : ¬ (false = true)), if_pos (by omega)]
        · refine ⟨_, rfl, rfl, _, rfl, iteT ⟨_, rfl, 68, "UD", rfl, rfl, _, rfl, iteT ?_⟩⟩
          refine ⟨_, rfl, 1, rfl, by show 2 ≤ sizeLine; decide, fun T nT => ⟨_, rfl, rfl, .inr ⟨_, rfl, T, _, _, _, rfl, rfl, .inl (.inl upd_same), pick2i, _, _, rfl, rfl, _, _, rfl, ?_⟩⟩⟩
          refine ⟨sm.trans (same_upd nT), _, _, _, _, _, _, rfl, ⟨.inr (.inl rfl), b0, by omega, a0, by omega, k0, ku, ?_, ?_⟩, .inr (.inl ⟨rfl, ?_⟩)⟩
          · split <;> split <;> omega
          · split <;> split <;> omega
          · rw [kD, st_lD c0]
            rw [decide_eq_true (show V.str ⟨#[68]⟩ = V.str (Str.ofString "D") from rfl), if_pos rfl, ← Int.sub_eq_add_neg]
        · refine ⟨_, rfl, rfl, _, rfl, iteT ⟨_, rfl, 77, "UD", rfl, rfl, _, rfl, iteF ?_⟩⟩
          refine ⟨_, rfl, rfl, _, rfl, iteT ⟨by show 2 ≤ sizeLine; decide, fun T nT => ⟨_, rfl, rfl, .inr ⟨_, rfl, T, _, _, _, rfl, rfl, .inl (.inl upd_same), pick2, ?_⟩⟩⟩⟩
          refine ⟨_, rfl, _, rfl, _, _, rfl, rfl, _, _, rfl, rfl, wide_mul k1 hc6 (by omega) (by decide) (by omega), _, _, _, rfl, ?_⟩
          exact ⟨sm.trans (same_upd nT), _, _, _, _, _, _, rfl, ⟨.inr (.inl rfl), b0, by omega, a0, by omega, Int.mul_pos k0 (by omega), (k1.mul (show Sm 6 (c + 1) from hc6)).mono (by omega), by decide, by omega⟩, .inr (.inl ⟨rfl, by rw [kM, st_lM c0]⟩)⟩
        · refine ⟨_, rfl, rfl, _, rfl, iteT ⟨_, rfl, 78, "UD", rfl, rfl, _, rfl, iteF ?_⟩⟩
          refine ⟨_, rfl, rfl, _, rfl, iteT ⟨by show 2 ≤ sizeLine; decide, fun T nT => ⟨_, rfl, rfl, .inr ⟨_, rfl, T, _, _, _, rfl, rfl, .inl (.inl upd_same), pick2, ?_⟩⟩⟩⟩
          refine ⟨_, rfl, _, rfl, _, _, rfl, rfl, _, _, rfl, rfl, wide_mul k1 hc6 (by omega) (by decide) (by omega), _, _, _, rfl, ?_⟩
          exact ⟨sm.trans (same_upd nT), _, _, _, _, _, _, rfl, ⟨.inr (.inr rfl), b0, by omega, a0, by omega, Int.mul_pos k0 (by omega), (k1.mul (show Sm 6 (c + 1) from hc6)).mono (by omega), by decide, by omega⟩, .inr (.inr ⟨rfl, by rw [kN, st_lN c0]⟩)⟩
      · refine ⟨_, rfl, rfl, _, rfl, iteF (iteF ⟨_, rfl, rfl, _, rfl, iteF (iteF ⟨_, rfl, rfl, _, rfl, iteF ?_⟩)⟩)⟩
        refine ⟨_, rfl, rfl, _, rfl, iteF (iteF ⟨_, rfl, rfl, _, rfl, iteF ?_⟩)⟩
        have stay : ∀ g : Fm, (Fm.cr b a kk).both g = .cr b a kk → WR "cr" b a kk c ((Fm.cr b a kk).both g) := fun g e => .inr (.inr ⟨rfl, e⟩)
        rcases h4 with rfl | rfl | rfl | rfl
        · exact ⟨_, rfl, rfl, _, rfl, iteF ⟨sm, _, _, _, _, _, _, rfl, ⟨.inr (.inr rfl), b0, by omega, a0, by omega, k0, ku, c0, by omega⟩, stay _ rfl⟩⟩
        · exact ⟨_, rfl, rfl, _, rfl, iteF ⟨sm, _, _, _, _, _, _, rfl, ⟨.inr (.inr rfl), b0, by omega, a0, by omega, k0, ku, c0, by omega⟩, stay _ rfl⟩⟩
        · refine ⟨_, rfl, rfl, _, rfl, iteT ⟨by show 2 ≤ sizeLine; decide, fun T nT => ⟨T, _, rfl, .inl (.inl upd_same), rfl, _, _, rfl, _, _, rfl, rfl, ?_⟩⟩⟩
          exact ⟨sm.trans (same_upd nT), _, _, _, _, _, _, rfl, ⟨.inr (.inl rfl), b0, by omega, a0, by omega, k0, ku, by decide, by omega⟩, .inr (.inl ⟨rfl, by rw [kM, st_cM]⟩)⟩
        · exact ⟨_, rfl, rfl, _, rfl, iteF ⟨sm, _, _, _, _, _, _, rfl, ⟨.inr (.inr rfl), b0, by omega, a0, by omega, k0, ku, c0, by omega⟩, stay _ (by rw [kN, st_cN])⟩⟩
    · rintro σ H1 ⟨sm, kd, b, a, kk, c, y6, rfl, ⟨hkd, b0, b1, a0, a1, k0, k1, c0, c1⟩, hr⟩
      rw [List.take_of_length_le (by simp)] at hr
      replace hr : WR kd b a kk c (formOf x) := hr
      refine ⟨_, rfl, _, rfl, by show 3 ≤ sizeLine; decide, fun t1 n1 => ?_⟩
      refine ⟨_, rfl, _, rfl, _, rfl, _, rfl, by show 5 ≤ sizeLine; decide, fun t2 n2 => ?_⟩
      refine ⟨_, rfl, _, rfl, _, rfl, by show 4 ≤ sizeLine; decide, fun t3 n3 => ?_⟩
      refine ⟨by show 3 ≤ sizeLine; decide, fun T nT => ?_⟩
      refine ⟨by show 3 ≤ sizeLine; decide, fun T2 nT2 => ?_⟩
      have s1 := same_upd (o := .tup (Fm.keep b a).vs) n1
      have s2 := same_upd (o := .tup (Fm.lf b a kk c).vs) n2
      have s3 := same_upd (o := .tup (Fm.cr b a kk).vs) n3
      have s4 := same_upd (o := .tup [.ref t1, .ref t2, .ref t3]) nT
      have s5 := same_upd (o := .tup [.str "keep", .str "lf", .str "cr"]) nT2
      have h1 := s5 _ _ (s4 _ _ (s3 _ _ (s2 _ _ (upd_same : upd H1 t1 (.tup (Fm.keep b a).vs) t1 = _))))
      have h2 := s5 _ _ (s4 _ _ (s3 _ _ (upd_same : upd (upd H1 t1 (.tup (Fm.keep b a).vs)) t2 (.tup (Fm.lf b a kk c).vs) t2 = _)))
      have h3 := s5 _ _ (s4 _ _ (upd_same : upd (upd (upd H1 t1 (.tup (Fm.keep b a).vs)) t2 (.tup (Fm.lf b a kk c).vs)) t3 (.tup (Fm.cr b a kk).vs) t3 = _))
      have hT := s5 _ _ (upd_same : upd (upd (upd (upd H1 t1 (.tup (Fm.keep b a).vs)) t2 (.tup (Fm.lf b a kk c).vs)) t3 (.tup (Fm.cr b a kk).vs)) T (.tup [.ref t1, .ref t2, .ref t3]) T = _)
      have sA := (((s1.trans s2).trans s3).trans s4).trans s5
      have sb : Sm 400 b := (sms_le (L := 60) b0 (by omega)).mono (by decide)
      have sa : Sm 400 a := (sms_le (L := 60) a0 (by omega)).mono (by decide)
      have sc : Sm 400 c := (sms_le (L := 60) c0 (by omega)).mono (by decide)
      have sk : Sm 400 kk := k1.mono (by omega)
      have n10 : H t1 = none := sm.free n1
      have n20 : H t2 = none := (sm.trans s1).free n2
      have n30 : H t3 = none := ((sm.trans s1).trans s2).free n3
      refine ⟨_, rfl, ?_⟩
      rcases hr with ⟨rfl, hf, -, -⟩ | ⟨rfl, hf⟩ | ⟨rfl, hf⟩
      · refine ⟨T2, ["keep", "lf", "cr"], "keep", 0, rfl, rfl, .inl (.inl upd_same), rfl, fun m hm => absurd hm (by omega), ?_⟩
        exact ⟨T, _, _, _, rfl, rfl, .inl (.inl hT), atI_nat (j := 0) rfl, q t1 _ (sm.trans sA) n10 (by rw [hf]; exact h1)⟩
      · refine ⟨T2, ["keep", "lf", "cr"], "lf", 1, rfl, rfl, .inl (.inl upd_same), rfl, fun m hm => ?_, ?_⟩
        · have : m = 0 := by omega
          subst this
          decide
        · exact ⟨T, _, _, _, rfl, rfl, .inl (.inl hT), atI_nat (j := 1) rfl, q t2 _ (sm.trans sA) n20 (by rw [hf]; exact h2)⟩
      · refine ⟨T2, ["keep", "lf", "cr"], "cr", 2, rfl, rfl, .inl (.inl upd_same), rfl, fun m hm => ?_, ?_⟩
        · have : m = 0 ∨ m = 1 := by omega
          rcases this with rfl | rfl <;> decide
        · exact ⟨T, _, _, _, rfl, rfl, .inl (.inl hT), atI_nat (j := 2) rfl, q t3 _ (sm.trans sA) n30 (by rw [hf]; exact h3)⟩
end
end Lw
/-! a dict by names whose values are told by the chains of a depot -/
namespace Lw
open PySem PySem.Spec L2 Lx
def entG (g : Str → V) (zs : List (Str × Str)) : List (Key × V) := zs.map fun q => (Sum.inr q.1, g q.2)
theorem entG_len (g : Str → V) (zs : List (Str × Str)) : (entG g zs).length = zs.length := List.length_map _
theorem entG_fst (g : Str → V) (zs : List (Str × Str)) : (entG g zs).map (·.1) = (zs.map Prod.fst).map Sum.inr := by
  unfold entG
  rw [List.map_map, List.map_map]
  rfl
theorem entG_get {g : Str → V} {n z : Str} : ∀ {zs : List (Str × Str)}, zs.lookup n = some z → valV (entG g zs) (.inr n) = some (g z)
  | [], e => by cases e
  | (m, y) :: zs, e => by
    by_cases c : m = n
    · subst c
      rw [List.lookup_cons_self] at e
      cases e
      exact valV_pos rfl
    · rw [List.lookup_cons, show (n == m) = false from beq_false_of_ne (Ne.symm c)] at e
      exact (valV_neg (fun z => c (Sum.inr.inj z))).trans (entG_get e)
theorem entG_keys {g : Str → V} {n : Str} {zs : List (Str × Str)} (h : n ∉ zs.map Prod.fst) : ∀ kv ∈ entG g zs, kv.1 ≠ .inr n := fun kv hkv e => by
  obtain ⟨q, hq, rfl⟩ := List.mem_map.mp hkv
  exact h (List.mem_map.mpr ⟨q, hq, Sum.inr.inj e⟩)
theorem entG_put {g : Str → V} {n z : Str} : ∀ {zs : List (Str × Str)}, NdZ zs → putK (entG g zs) (.inr n) (g z) = entG g (putZ zs n z)
  | [], _ => rfl
  | (m, y) :: zs, nd => by
    have nd' : m ∉ zs.map Prod.fst ∧ NdZ zs := List.nodup_cons.mp nd
    unfold putZ
    by_cases c : m = n
    · subst c
      rw [if_pos rfl]
      show putK ((.inr m, g y) :: entG g zs) (.inr m : Key) (g z) = (.inr m, g z) :: entG g zs
      unfold putK
      rw [if_pos (by simp), List.map_cons, if_pos rfl, map_same (entG_keys nd'.1)]
    · have ih := entG_put (g := g) (n := n) (z := z) nd'.2
      have cn : ¬ ((.inr m : Key) = .inr n) := fun e => c (Sum.inr.inj e)
      rw [if_neg c]
      show putK ((.inr m, g y) :: entG g zs) (.inr n : Key) (g z) = (.inr m, g y) :: entG g (putZ zs n z)
      rw [← ih]
      unfold putK
      by_cases a : ((entG g zs).any fun kv => decide (kv.1 = (.inr n : Key))) = true
      · rw [if_pos (by rw [List.any_cons, a]; simp), if_pos a, List.map_cons, if_neg cn]
      · rw [if_neg (by rw [List.any_cons, decide_eq_false cn]; simpa using a), if_neg a]
        rfl
theorem entG_at {g : Str → V} {zs : List (Str × Str)} {i : Nat} {k : Key} {v : V} (e : (entG g zs)[i]? = some (k, v)) : ∃ n z, zs[i]? = some (n, z) ∧ k = .inr n ∧ v = g z := by
  unfold entG at e
  rw [List.getElem?_map] at e
  obtain ⟨⟨n, z⟩, h1, h2⟩ := Option.map_eq_some_iff.mp e
  cases h2
  exact ⟨n, z, h1, rfl, rfl⟩
theorem ndz_look {n z : Str} : ∀ {zs : List (Str × Str)}, NdZ zs → ∀ {i : Nat}, zs[i]? = some (n, z) → zs.lookup n = some z
  | [], _, i, e => by simp at e
  | (m, y) :: r, nd, 0, e => by
    cases Option.some.inj e
    exact List.lookup_cons_self
  | (m, y) :: r, nd, i + 1, e => by
    have h' : m ∉ r.map Prod.fst ∧ NdZ r := List.nodup_cons.mp nd
    have e' : r[i]? = some (n, z) := e
    have hm : n ∈ r.map Prod.fst := List.mem_map.mpr ⟨(n, z), List.mem_of_getElem? e', rfl⟩
    have ne : n ≠ m := fun q => h'.1 (q ▸ hm)
    rw [List.lookup_cons, show (n == m) = false from beq_false_of_ne ne]
    exact ndz_look h'.2 e'
end Lw
namespace Lw
open PySem PySem.Spec L2 Lx
theorem scLaw : FnScope ["script", "bag", "turn", "run_now", "signs", "done", "now", "step", "later", "cut", "row", "groups_now", "shape", "handed", "stems", "which", "many", "part", "sign", "stem", "at"] ["script"] (defScope sLaw) := ⟨rfl, rfl, rfl, by decide +kernel, rfl, by decide +kernel, by decide +kernel⟩
structure LwF (mg : Str → Option Value) : Prop where
  range : mg "range" = none
  min : mg "min" = none
  len : mg "len" = none
  list : mg "list" = none
def upW (n : Nat) : Str := ⟨(Lx.up n).toArray⟩
theorem upW_len (n : Nat) : (upW n).length = n := by
  show (Lx.up n).toArray.size = n
  simp [Lx.up]
theorem pieces10 {x : Str} {rows : List Nat} {rest : Nat} (h : x.cps.toList = spT rows rest) : Txt.split x "\n" = rows.map upW ++ [upW rest] := by
  refine TL.map_tl_inj ?_
  rw [TL.split_spl x "\n" (by decide) (TL.kind_ok (by decide +kernel))]
  have e : TL.spl (TL.tl "\n") 0 [] (TL.tl x) = rows.map Lx.up ++ [Lx.up rest] := by
    show TL.spl [10] 0 [] x.cps.toList = _
    rw [h, spT_cut]
  rw [e, List.map_append, List.map_map]
  rfl
theorem cutV_back (ys : List V) (z : V) : cutV (ys ++ [z]) none (some (-1)) = ys := by
  unfold cutV HT.sIx
  rw [List.length_append, List.length_singleton]
  simp only [List.drop_zero, Nat.sub_zero]
  rw [if_pos (by decide)]
  have : ((-1 : Int) + ((ys.length + 1 : Nat) : Int)).toNat = ys.length := by omega
  rw [this, List.take_left]
theorem lay_sg (b a : Nat) : ∀ (js : List Nat) (s rest : Nat), ∀ u ∈ lay b a js s rest, u.1 = 94 ∨ u.1 = 10
  | [], s, rest, u, hu => .inl (own_94 u hu)
  | j :: js, s, rest, u, hu => by
    replace hu : u ∈ (own s (j - b) ++ List.replicate a (94, s + j)) ++ (10, s + j) :: lay b a js (s + j + 1) rest := hu
    rcases List.mem_append.mp hu with h | h
    · rcases List.mem_append.mp h with h | h
      · exact .inl (own_94 u h)
      · rw [(List.mem_replicate.mp h).2]; exact .inl rfl
    · rcases List.mem_cons.mp h with h | h
      · rw [h]; exact .inr rfl
      · exact lay_sg b a js _ rest u h
theorem layF_sg (js : List Nat) (rest : Nat) (f : Fm) : ∀ u ∈ layF js rest f, u.1 = 94 ∨ u.1 = 10 := fun u hu => by
  cases f with
  | keep b a => exact lay_sg _ _ _ _ _ u hu
  | lf b a k c =>
    obtain ⟨st, _, h⟩ := List.mem_flatMap.mp hu
    unfold blk at h
    rcases List.mem_append.mp h with h | h
    · rw [(List.mem_replicate.mp h).2]; exact .inl rfl
    · rw [List.mem_singleton.mp h]; exact .inr rfl
  | cr b a k =>
    obtain ⟨st, _, rfl⟩ := List.mem_map.mp hu
    exact .inl rfl
theorem szL_N (js : List Nat) : szL (js.map fun j : Nat => (j : Int)) = (szN js : Nat) := by
  induction js with
  | nil => rfl
  | cons j js ih =>
    rw [List.map_cons, szL_cons, ih]
    show (j : Int) + 1 + (szN js : Nat) = ((j + 1 + szN js : Nat) : Int)
    omega
theorem expand_rowP (rows : List Nat) : expand (rowP rows) = rows.map fun j : Nat => (j : Int) := by
  induction rows with
  | nil => rfl
  | cons j js ih =>
    show List.replicate (1 : Int).toNat (j : Int) ++ expand (rowP js) = _
    rw [ih]
    rfl
theorem rowP_pos (rows : List Nat) : ∀ x ∈ rowP rows, x.1 > 0 ∧ 0 ≤ x.1 := fun x hx => by
  obtain ⟨j, _, rfl⟩ := List.mem_map.mp hx
  exact ⟨(by show (1 : Int) > 0; decide), (by show (0 : Int) ≤ 1; decide)⟩
/-- what is to be known of the run made of a text's rows -/
theorem run_facts {rows : List Nat} {rest : Nat} (hl : (spT rows rest).length ≤ 400) {f : Fm} (hf : FNn f) (hlen : (layF rows rest f).length ≤ 400) : RnOk 40 (rnT rows rest) ∧ reduced (rowP rows) = (rnT rows rest).1 ∧ expand (rnT rows rest).1 = rows.map (fun j : Nat => (j : Int)) ∧ size1 (rnT rows rest) = ((szN rows + rest : Nat) : Int) ∧
    Ln f rows (szN rows + rest) = (layF rows rest f).length ∧ width f * units (rnT rows rest) f = (Ln f rows (szN rows + rest) : Nat) ∧ szN rows + rest ≤ 400 := by
  have h1 := rn_ok (rows := rows) (rest := rest) (by omega)
  have h2 : reduced (rowP rows) = (rnT rows rest).1 := reduced_all fun x hx => (rowP_pos rows x hx).1
  have h3 : expand (rnT rows rest).1 = rows.map fun j : Nat => (j : Int) := (expand_merged fun y hy => (rowP_pos rows y hy).2).trans (expand_rowP rows)
  have h4 : size1 (rnT rows rest) = ((szN rows + rest : Nat) : Int) := by
    unfold size1
    rw [← szL_expand fun x hx => ((RnOk.sm h1).1 x hx).1, h3, szL_N]
    show (szN rows : Int) + (rest : Int) = _
    omega
  have h5 : Ln f rows (szN rows + rest) = (layF rows rest f).length := by
    have := congrArg List.length (layF_stems rows rest hf)
    rw [List.length_map, spread_len (Ln_0 f rows) (Ln_mono f rows)] at this
    exact this.symm
  refine ⟨h1, h2, h3, h4, h5, ?_, by rw [szN_len]; exact hl⟩
  rw [← size_end h1, h3, h4]
  exact Ln_U hf rows _
def spLaw (K : PySem.W.Frag) : Sp := fun vs H Q _ => ∃ (a : Addr) (ns : List Int), vs = [.ref a] ∧ SqL K H a (ns.map V.int) ∧ ns.length ≤ 63 ∧ ∀ H', Q (.bl true) H'
section
variable {P : Program} {w : World} {K : PySem.W.Frag} {mg : Str → Option Value} {base : Heap}
theorem ok_law {f aB aU aS aC aP aR aX aY aF : Addr} {fd dB dU dS dC dP dR dX dY dF : FuncData} {k : Nat} (F : Fun K "law" "law" sLaw f fd) (Z : LwF mg)
    (cB : Cl P w K mg base k "_law_bag" ["script"] (spBag K) aB dB)
    (cU : Cl P w K mg base k "_law_run" ["bag", "tuples", "most", "wide"] (spRun2 K) aU dU)
    (cS : Cl P w K mg base k "_law_signs" ["run_now"] (spSg K) aS dS)
    (cC : Cl P w K mg base k "_law_chain" ["bag", "most"] spChain aC dC)
    (cP : Cl P w K mg base k "_law_stepped" ["signs", "step"] spStp aP dP)
    (cR : Cl P w K mg base k "_law_reduced" ["row"] (spReduced K) aR dR)
    (cX : Cl P w K mg base k "_law_wanted" ["chain_now"] spWantedF aX dX)
    (cRi : Cl P w K mg base k "_law_right" ["run_now", "shape", "stems", "many"] (spRi K) aY dY)
    (cF : Cl P w K mg base k "_law_is_refused" ["which", "run_now", "shape", "at"] (spRf K) aF dF) : FnOk P w K mg base CX0 (k + 1) f fd ["script"] (spLaw K) := by
  refine F.ok scLaw (fun vs H Q E h => ?_) (fun cdv A outer s H vs Q E hr h => ?_)
  · obtain ⟨a, ns, rfl, _⟩ := h
    rfl
  · obtain ⟨a, ns, rfl, hS, hlen, q⟩ := h
    refine ⟨_, (pss_cons (ps_set (i := 1) scLaw.nd rfl (.inl rfl) (pe_call cB.G hr (by rfl) cB.g cB.kp cB.b .nil pass0 (pa_cons (pv 0) pa_nil)))
      (pss_cons (ps_for PassesOwn.never rfl (pi_range1 rfl Z.range (pa_cons (pe_op op_add pe_int (pe_callB (call_min2 rfl) (by rfl) Z.min (by decide +kernel) (pa_cons pe_int (pa_cons (pe_callB call_len_seq (by rfl) Z.len PySem.boot_len (pa_cons (pv 0) pa_nil)) pa_nil)))) pa_nil)) (pg_name (i := 2) scLaw.nd rfl (.inl rfl))
          (pss_cons (ps_set (i := 3) scLaw.nd rfl (.inl rfl) (pe_call cU.G hr (by rfl) cU.g cU.kp cU.b .nil pass0 (pa_cons (pv 1) (pa_cons pe_int (pa_cons pe_int (pa_cons pe_int pa_nil))))))
          (pss_cons (ps_set (i := 4) scLaw.nd rfl (.inl rfl) (pe_slice sl_list (pe_call cS.G hr (by rfl) cS.g cS.kp cS.b .nil pass0 (pa_cons (pv 3) pa_nil)) po_none (po_some pe_int)))
          (pss_cons (ps_par (i := 5) (j := 6) rfl scLaw.nd rfl rfl (by decide) rfl rfl (pa_cons pe_str (pa_cons (pv 4) pa_nil)) rfl)
          (pss_cons (ps_for PassesOwn.never rfl (pi_str (pe_call cC.G hr (by rfl) cC.g cC.kp cC.b .nil pass0 (pa_cons (pv 1) (pa_cons pe_int pa_nil)))) (pg_name (i := 7) scLaw.nd rfl (.inl rfl))
              (pss_cons (ps_set (i := 8) scLaw.nd rfl (.inl rfl) (pe_call cP.G hr (by rfl) cP.g cP.kp cP.b .nil pass0 (pa_cons (pv 6) (pa_cons (pv 7) pa_nil))))
              (pss_one (ps_if (pt_cmpR op_le (pe_callB call_len_seq (by rfl) Z.len PySem.boot_len (pa_cons (pv 8) pa_nil)) pe_int (nomark _))
                  (pss_one (ps_par (i := 5) (j := 6) rfl scLaw.nd rfl rfl (by decide) rfl rfl (pa_cons (pe_op op_add_str (pv 5) (pv 7)) (pa_cons (pv 8) pa_nil)) rfl)) pss_nil))))
          (pss_cons (ps_set (i := 9) scLaw.nd rfl (.inl rfl) (pe_join pe_str (pe_lc (own := [("sign", 18), ("at", 20)]) (g := (gTup K 2 (gCons (gName 18) (gCons (gName 20) gNil)))) (tt := tYes) rfl scLaw.nd (pi_list (pv 4)) (blkOk_by (own := [("sign", 18), ("at", 20)]) (N := ["script", "bag", "turn", "run_now", "signs", "done", "now", "step", "later", "cut", "row", "groups_now", "shape", "handed", "stems", "which", "many", "part", "sign", "stem", "at"]) (sc := defScope sLaw) (by decide +kernel)) (fun _ _ _ _ _ => (pg_tup (by rfl) (pgs_cons (pg_name (i := 18) scLaw.nd rfl (.inl rfl)) (pgs_cons (pg_name (i := 20) scLaw.nd rfl (.inl rfl)) pgs_nil)))) (fun _ _ _ _ _ => pts_nil) (fun _ _ _ _ _ => (pv 18)))))
          (pss_cons (ps_set (i := 10) scLaw.nd rfl (.inl rfl) (pe_split (pv 9) pe_str))
          (pss_cons (ps_setLc (i := 11) (own := [("part", 17)]) (g := (gName 17)) (tt := tYes) rfl scLaw.nd rfl rfl (sw_true rfl rfl rfl (by decide +kernel)) (pi_list (pe_slice sl_list (pv 10) po_none (po_some (pe_un un_neg pe_int)))) (blkOk_by (own := [("part", 17)]) (N := ["script", "bag", "turn", "run_now", "signs", "done", "now", "step", "later", "cut", "row", "groups_now", "shape", "handed", "stems", "which", "many", "part", "sign", "stem", "at"]) (sc := defScope sLaw) (by decide +kernel)) (fun _ _ _ _ _ => (pg_name (i := 17) scLaw.nd rfl (.inl rfl))) (fun _ _ _ _ _ => pts_nil) (fun _ _ _ _ _ => (pe_tup (pa_cons pe_int (pa_cons (pe_callB call_len_str (by rfl) Z.len PySem.boot_len (pa_cons (pv 17) pa_nil)) pa_nil)))))
          (pss_cons (ps_set (i := 3) scLaw.nd rfl (.inl rfl) (pe_tup (pa_cons (pe_call cR.G hr (by rfl) cR.g cR.kp cR.b .nil pass0 (pa_cons (pv 11) pa_nil)) (pa_cons (pe_callB call_len_str (by rfl) Z.len PySem.boot_len (pa_cons (pe_ix ix_list (pv 10) (pe_un un_neg pe_int) (fun _ _ => rfl)) pa_nil)) pa_nil))))
          (pss_cons (ps_par (i := 12) (j := 13) rfl scLaw.nd rfl rfl (by decide) rfl rfl (pa_cons (pe_call cX.G hr (by rfl) cX.g cX.kp cX.b .nil pass0 (pa_cons (pv 5) pa_nil)) (pa_cons (pe_tup (pa_cons (pe_callTy call_list_of (by rfl) Z.list (by decide +kernel) (pa_cons (pe_ix ix_tup (pv 3) pe_int (fun _ _ => rfl)) pa_nil)) (pa_cons (pe_ix ix_tup (pv 3) pe_int (fun _ _ => rfl)) pa_nil))) pa_nil)) rfl)
          (pss_cons (ps_setLc (i := 14) (own := [("sign", 18), ("stem", 19)]) (g := (gTup K 2 (gCons (gName 18) (gCons (gName 19) gNil)))) (tt := tYes) rfl scLaw.nd rfl rfl (sw_true rfl rfl rfl (by decide +kernel)) (pi_list (pv 6)) (blkOk_by (own := [("sign", 18), ("stem", 19)]) (N := ["script", "bag", "turn", "run_now", "signs", "done", "now", "step", "later", "cut", "row", "groups_now", "shape", "handed", "stems", "which", "many", "part", "sign", "stem", "at"]) (sc := defScope sLaw) (by decide +kernel)) (fun _ _ _ _ _ => (pg_tup (by rfl) (pgs_cons (pg_name (i := 18) scLaw.nd rfl (.inl rfl)) (pgs_cons (pg_name (i := 19) scLaw.nd rfl (.inl rfl)) pgs_nil)))) (fun _ _ _ _ _ => pts_nil) (fun _ _ _ _ _ => (pv 19)))
          (pss_cons (ps_if (pt_not (pt_val (pe_call cRi.G hr (by rfl) cRi.g cRi.kp cRi.b .nil pass0 (pa_cons (pv 13) (pa_cons (pv 12) (pa_cons (pv 14) (pa_cons (pe_callB call_len_seq (by rfl) Z.len PySem.boot_len (pa_cons (pv 4) pa_nil)) pa_nil)))))))
              (pss_one (ps_ret pe_bl)) pss_nil)
          (pss_cons (ps_if (pt_cmpR (op_neD hr.units) (pv 13) (pv 3) (nomark _))
              (pss_one (ps_ret pe_bl)) pss_nil)
          (pss_one (ps_for PassesOwn.never rfl (pi_range1 rfl Z.range (pa_cons pe_int pa_nil)) (pg_name (i := 15) scLaw.nd rfl (.inl rfl))
              (pss_cons (ps_if (pt_not (pt_val (pe_call cF.G hr (by rfl) cF.g cF.kp cF.b .nil pass0 (pa_cons (pv 15) (pa_cons (pv 3) (pa_cons (pv 12) (pa_cons (pe_un un_neg pe_int) pa_nil)))))))
                  (pss_one (ps_ret pe_bl)) pss_nil)
              (pss_cons (ps_set (i := 16) scLaw.nd rfl (.inl rfl) (pe_ix ix_tup (pe_tup (pa_cons (pe_callB call_len_seq (by rfl) Z.len PySem.boot_len (pa_cons (pv 6) pa_nil)) (pa_cons (pe_callB call_len_seq (by rfl) Z.len PySem.boot_len (pa_cons (pv 4) pa_nil)) pa_nil))) (pv 15) (fun _ _ => rfl)))
              (pss_one (ps_if (pt_not (pt_val (pe_call cF.G hr (by rfl) cF.g cF.kp cF.b .nil pass0 (pa_cons (pv 15) (pa_cons (pv 3) (pa_cons (pv 12) (pa_cons (pv 16) pa_nil)))))))
                  (pss_one (ps_ret pe_bl)) pss_nil)))))))))))))))))))
      (pss_one (ps_ret pe_bl)))), ?_⟩
    refine ⟨.ref a, rfl, a, ns, rfl, hS, hlen, fun H1 r gl sm nr ngl hR => ?_⟩
    dsimp only [gName, tNext, tSeq]
    refine ⟨.ref a, rfl, a, _, rfl, .inl (sm.seq hS), 8, _, rfl, _, _, rfl, rfl, _, rfl, ?_, ?_, ?_⟩
    · split <;> omega
    · split <;> omega
    have hb : (4 + (if ((ns.map V.int).length : Int) < 8 then ((ns.map V.int).length : Int) else 8)).toNat ≤ 12 := by split <;> omega
    generalize (4 + (if ((ns.map V.int).length : Int) < 8 then ((ns.map V.int).length : Int) else 8)).toNat = laps at hb
    refine for_range (lo := 0) (n := laps) (fun i σ H' => ∃ y2 y3 y4 y5 y6 y7 y8 y9 y10 y11 y12 y13 y14 y15 y16, σ = [some (.ref a), some (.ref r), y2, y3, y4, y5, y6, y7, y8, y9, y10, y11, y12, y13, y14, y15, y16, none, none, none, none] ∧ BagAt H' r gl (1000 * i)) ⟨_, _, _, _, _, _, _, _, _, _, _, _, _, _, _, rfl, hR⟩ ?_ ?_
    · rintro i σ H2 hi ⟨y2, y3, y4, y5, y6, y7, y8, y9, y10, y11, y12, y13, y14, y15, y16, rfl, hR2⟩
      have hN : 1000 * i ≤ 30000 := by omega
      have goalN : ∀ m, m ≤ 1000 * i + 1000 → m ≤ 1000 * (i + 1) := fun m h => by omega
      generalize 1000 * i = N at hR2 hN goalN
      dsimp only [gName, tNext, tSeq]
      -- run_now
      refine ⟨_, rfl, r, gl, _, 3, 2, 4, rfl, hR2, by omega, by decide, by decide, by decide, by decide, by decide, fun x g H8 hnew hgo hgl hgt hgr hR8 k8 => ?_⟩
      obtain ⟨l, nl, hx⟩ := hnew.s
      have hspl : splOk g := ⟨fun x hx => by
        obtain ⟨j, hj⟩ := List.mem_iff_getElem?.mp hx
        have := hgo.gs j x hj
        exact ⟨this.1, this.2.1⟩, hgo.rest.1⟩
      have hsl : (splT g).length ≤ 30 := by
        have h1 : total g.1 ≤ 24 := hgt
        have h2 : g.2 ≤ 6 := hgr
        have := splT_len hspl
        omega
      -- signs
      refine ⟨_, rfl, x, l, g, rfl, hx.rn, hspl, by omega, fun p us H9 s9 np hp hus => ?_⟩
      have hul := hus.len
      rw [idxS_len] at hul
      have hR9 := hR8.same s9
      refine ⟨(12 : Int), rfl, p, us, rfl, .inl (.inl hp), fun D nD => ?_⟩
      have hD1 : cutV us none (some (12 : Int)) = us.take 12 := cutV_take us 12
      rw [hD1]
      have hsD := hus.take 12
      rw [idxS_take] at hsD
      have sD := same_upd (o := .lst (us.take 12)) nD
      have hD : upd H9 D (.lst (us.take 12)) D = _ := upd_same
      replace hsD := hsD.same sD
      have hR10 := hR9.same sD
      have hDr := hR9.ne nD
      generalize upd H9 D (.lst (us.take 12)) = H10 at sD hD hsD hR10
      generalize us.take 12 = ds at hD hsD
      have hcs : Signs ((splT g).take 12) := fun c hc => splT_signs g c (List.mem_of_mem_take hc)
      have hcl : ((splT g).take 12).length ≤ 12 := by rw [List.length_take]; omega
      generalize (splT g).take 12 = cs at hsD hcs hcl
      obtain ⟨rows, rest, rfl⟩ := spT_of cs hcs
      dsimp only [gName, tNext, tSeq]
      refine ⟨_, rfl, _, _, rfl, ?_⟩
      refine ⟨_, rfl, r, gl, _, 12, rfl, hR10, by omega, by decide, fun z H14 hz hzl hR14 k14 => ⟨z, rfl, ?_⟩⟩
      have hD14 := k14 _ _ hDr.1 hDr.2 hD
      have hsD14 := hsD.kb hR10 k14
      have hdl := hsD.len
      rw [idxS_len] at hdl
      have hlay0 : layF rows rest nothing = idxS 0 (spT rows rest) := lay_idx rows 0 rest
      refine for_it walk_str (fun j σ H' => ∃ (dn : Str) (pn : Addr) (vs : List V) (y7 y8 : Option V), σ = [some (.ref a), some (.ref r), some (.int (0 + (i : Int))), some x, some (.ref D), some (.str dn), some (.ref pn), y7, y8, y9, y10, y11, y12, y13, y14, y15, y16, none, none, none, none] ∧ Same H14 H' ∧ ChOk dn ∧ dn.cps.size ≤ j ∧ H' pn = some (.lst vs) ∧ Sgs H' vs (layF rows rest (formOf dn)) ∧ FNn (formOf dn) ∧ vs.length ≤ 400)
        ⟨"", D, ds, y7, y8, rfl, Same.refl _, (fun c hc => by cases hc), Nat.le_refl _, hD14, by rw [show formOf "" = nothing from rfl, hlay0]; exact hsD14, ⟨Int.le_refl _, Int.le_refl _⟩, by omega⟩ (fun _ _ _ _ _ => trivial) ?_ ?_
      · rintro j u σ H15 H16 hj ⟨dn, pn, vs, y7, y8, rfl, sm1, hdn, hdl, hpn, hvs, hfn, hvl⟩ ⟨rfl, c, hc, rfl⟩
        have hcz := hz c (by rw [Array.mem_toList_iff]; exact Array.mem_of_getElem? hc)
        have hc4 : c = 85 ∨ c = 68 ∨ c = 77 ∨ c = 78 := by
          have hc' : c ∈ [85, 68, 77, 78] := hcz
          simpa only [List.mem_cons, List.not_mem_nil, or_false] using hc'
        have hvl2 := hvs.len
        obtain ⟨e1, e2⟩ := lay_step rows rest hfn hc4
        dsimp only [gName, tNext, tSeq]
        refine ⟨_, rfl, _, rfl, pn, vs, _, c, rfl, hpn, hvs, by omega, hc4, layF_sg rows rest _, fun p2 zs H17 s17 np2 hp2 hz2 => ?_⟩
        rw [e1] at hz2
        dsimp only [gName, tNext, tSeq]
        refine ⟨_, rfl, p2, zs, rfl, .inl (.inl (.inl hp2)), _, _, rfl, rfl, _, rfl, ?_⟩
        by_cases h400 : (zs.length : Int) ≤ 400
        · rw [decide_eq_true h400]
          refine iteT ⟨_, rfl, _, rfl, dn, ⟨#[c]⟩, rfl, rfl, by rw [sizeLine_eq]; show dn.cps.size + 1 ≤ _; omega, _, rfl, _, _, rfl, ?_⟩
          have hfo : formOf (dn ++ ⟨#[c]⟩) = (formOf dn).both (stepF c) := by
            show formL (dn.cps ++ #[c]).toList = _
            rw [Array.toList_append]
            exact formL_snoc _ _
          refine ⟨dn ++ ⟨#[c]⟩, p2, zs, _, _, rfl, sm1.trans s17, fun d hd => ?_, ?_, hp2, by rw [hfo]; exact hz2, by rw [hfo]; exact e2, by omega⟩
          · have hd2 : d ∈ (dn.cps ++ #[c]).toList := hd
            rw [Array.toList_append] at hd2
            rcases List.mem_append.mp hd2 with h | h
            · exact hdn d h
            · rw [List.mem_singleton.mp h]; exact hcz
          · show (dn.cps ++ #[c]).size ≤ _
            rw [Array.size_append]
            show dn.cps.size + 1 ≤ _
            omega
        · rw [decide_eq_false h400]
          exact iteF ⟨dn, pn, vs, _, _, rfl, sm1.trans s17, hdn, by omega, s17 _ _ hpn, hvs.same s17, hfn, hvl⟩
      · rintro σ H15 ⟨dn, pn, vs, y7, y8, rfl, sm1, hdn, hdn2, hpn, hvs, hfn, hvl⟩
        have hD15 := sm1 _ _ hD14
        have hsD15 := hsD14.same sm1
        have hR15 := hR14.same sm1
        clear hD hsD hR10 hR9 hR8 hR2 k14 k8 hx hnew hus hp hD14 hsD14 hR14 sm1
        dsimp only [gName, tNext, tSeq]
        -- cut
        refine ⟨⟨"", rfl⟩, _, rfl, D, rfl, ⟨ds, .inl (.inl hD15)⟩, fun D2 nD2 => ?_⟩
        have hdl2 := hsD15.len
        rw [idxS_len] at hdl2
        refine lc_it (walk_list (xs := ds)) (fun j H' => Same H15 H' ∧ H' D2 = some (.lst ((((spT rows rest).take j).map fun c => (⟨#[c]⟩ : Str)).map V.str))) ⟨same_upd nD2, upd_same⟩ (fun j H' _ hQ => .inl (.inl (hQ.1 _ _ hD15))) ?_ ?_
        · rintro j u H16 H17 hj ⟨sm2, hD2⟩ ⟨rfl, hu⟩
          obtain ⟨s, hs, q0, rfl, hq0⟩ := (hsD15.same sm2).get hu
          rw [idxS_get] at hs
          obtain ⟨c, hc, rfl⟩ := Option.map_eq_some_iff.mp hs
          refine ⟨q0, _, rfl, .inl (.inl hq0), rfl, _, _, rfl, _, _, rfl, rfl, rfl, _, rfl, _, hD2, by rw [List.length_map, List.length_map, List.length_take, sizeLine_eq]; omega, Same.own sm2 nD2, ?_⟩
          rw [upd_same, List.take_succ, hc, List.map_append, List.map_append]
          rfl
        · rintro H16 ⟨sm2, hD2⟩
          rw [hdl2, List.take_length] at hD2
          have hcutl : (Txt.join "" ((spT rows rest).map fun c => (⟨#[c]⟩ : Str))).cps.toList = spT rows rest := by
            rw [join_flat, List.flatMap_map]
            exact List.flatMap_singleton' _
          have hsumc : (((spT rows rest).map fun c => (⟨#[c]⟩ : Str)).map (·.length)).sum = (spT rows rest).length := by
            generalize spT rows rest = l
            induction l with
            | nil => rfl
            | cons c l ih =>
              rw [List.map_cons, List.map_cons, List.sum_cons, ih, List.length_cons]
              show 1 + _ = _
              omega
          refine ⟨"", D2, _, rfl, rfl, .inl (.inl (.inl hD2)), by rw [hsumc]; show _ + _ * 0 ≤ _; omega, ?_⟩
          generalize Txt.join "" ((spT rows rest).map fun c => (⟨#[c]⟩ : Str)) = cut at hcutl
          have hcutn : cut.cps.size ≤ 12 := by rw [← Array.length_toList, hcutl]; exact hcl
          dsimp only [gName, tNext, tSeq]
          -- row
          refine ⟨_, rfl, ⟨cut, rfl⟩, cut, "\n", rfl, rfl, rfl, by show cut.cps.size + 2 ≤ sizeLine; rw [sizeLine_eq]; omega, fun p1 np1 => ?_⟩
          rw [pieces10 hcutl]
          have s1 := same_upd (o := .lst ((rows.map upW ++ [upW rest]).map V.str)) np1
          have hP : upd H16 p1 (.lst ((rows.map upW ++ [upW rest]).map V.str)) p1 = _ := upd_same
          generalize upd H16 p1 (.lst ((rows.map upW ++ [upW rest]).map V.str)) = H17 at s1 hP
          rw [List.map_append, List.map_map] at hP
          obtain ⟨rl, rs, rn⟩ := @rows_small rows rest
          dsimp only [gName, tNext, tSeq]
          -- groups_now
          refine ⟨_, rfl, (1 : Int), rfl, (-1 : Int), rfl, p1, _, rfl, .inl (.inl hP), fun p2 n2 => ?_⟩
          have ec : cutV (rows.map (V.str ∘ upW) ++ [upW rest].map V.str) none (some (-1)) = rows.map (V.str ∘ upW) := cutV_back _ _
          rw [ec]
          have s2 := same_upd (o := .lst (rows.map (V.str ∘ upW))) n2
          have hP2 : upd H17 p2 (.lst (rows.map (V.str ∘ upW))) p2 = _ := upd_same
          generalize upd H17 p2 (.lst (rows.map (V.str ∘ upW))) = H18 at s2 hP2
          refine ⟨p2, rfl, ⟨_, .inl (.inl hP2)⟩, fun D3 nD3 => ?_⟩
          refine lc_it (walk_list (xs := rows.map (V.str ∘ upW))) (fun j H' => Same H18 H' ∧ ∃ ws, H' D3 = some (.lst ws) ∧ Prs K H' ws (rowP (rows.take j))) ⟨same_upd nD3, [], upd_same, .nil⟩ (fun _ _ _ hQ => .inl (.inl (hQ.1 _ _ hP2))) ?_ ?_
          · rintro j u H19 H20 hj ⟨sm3, ws, hD3, hw⟩ ⟨rfl, hu⟩
            rw [List.length_map] at hj
            have hri : rows[j]? = some rows[j] := List.getElem?_eq_getElem hj
            rw [List.getElem?_map, hri] at hu
            cases Option.some.inj hu
            have hrn := rn _ (List.mem_of_getElem? hri)
            generalize rows[j] = r0 at hri hrn
            refine ⟨rfl, _, rfl, upW r0, rfl, ?_⟩
            rw [upW_len]
            refine ⟨by rw [sizeLine_eq]; omega, by show 2 ≤ sizeLine; decide, fun t nt => ?_⟩
            have st := same_upd (o := .tup [.int 1, .int (r0 : Int)]) nt
            have hD4 := st _ _ hD3
            refine ⟨ws, hD4, ?_, Same.own (sm3.trans st) nD3, ws ++ [.ref t], upd_same, ?_⟩
            · have := hw.len
              unfold rowP at this
              rw [List.length_map, List.length_take] at this
              rw [sizeLine_eq]
              omega
            · rw [List.take_succ, hri]
              unfold rowP
              rw [List.map_append]
              exact Prs.lstUpd hD4 ((hw.same st).append (.cons ⟨t, rfl, upd_same⟩ .nil))
          · rintro H19 ⟨sm3, ws, hD3, hw⟩
            rw [List.length_map, List.take_length] at hw
            have hvl2 := hvs.len
            obtain ⟨fo, fred, fex, fsz, fln, fwu, fN⟩ := run_facts (rows := rows) (rest := rest) (by omega) hfn (by omega)
            dsimp only [gName, tNext, tSeq]
            have hrl : (rowP rows).length = rows.length := List.length_map _
            refine ⟨_, rfl, D3, rowP rows, rfl, ⟨ws, .inl (.inl hD3), hw⟩, by rw [hrl]; omega, fun p3 H20 xs3 np3 s20 hp3 hxs3 => ?_⟩
            rw [fred] at hxs3
            have s16_20 := (s1.trans s2).trans (sm3.trans s20)
            have hP20 := (s2.trans (sm3.trans s20)) _ _ hP
            refine ⟨_, rfl, (1 : Int), rfl, p1, _, (-1 : Int), V.str (upW rest), rfl, rfl, .inl (.inl hP20), atI_last _ _, ?_⟩
            refine ⟨upW rest, rfl, by rw [upW_len, sizeLine_eq]; omega, ?_⟩
            rw [upW_len]
            refine ⟨by show 2 ≤ sizeLine; decide, fun p4 np4 => ?_⟩
            have s21 := same_upd (o := .tup [.ref p3, .int (rest : Int)]) np4
            have hp4 : upd H20 p4 (.tup [.ref p3, .int (rest : Int)]) p4 = _ := upd_same
            generalize upd H20 p4 (.tup [.ref p3, .int (rest : Int)]) = H21 at s21 hp4
            have hrn1 : RnS K H21 (.ref p4) p3 (rnT rows rest) := ⟨p4, xs3, rfl, hp4, s21 _ _ hp3, hxs3.same s21⟩
            dsimp only [gName, tNext, tSeq]
            -- shape, handed
            have hok : (formOf dn).Ok 400 := ((formL_fls _ dn.cps.toList rfl (by rw [Array.length_toList]; omega) hdn).ok).mono (by rw [Array.length_toList]; omega)
            refine ⟨_, rfl, dn, rfl, hdn, by omega, fun pf H22 s22 npf hpf => ?_⟩
            have hrn2 := hrn1.same s22
            refine ⟨_, rfl, p4, _, 0, _, rfl, rfl, .inl (.inl (s22 _ _ hp4)), atI_nat (j := 0) rfl, p3, xs3, rfl, .inl (.inl (.inl (s22 _ _ (s21 _ _ hp3)))), fun l5 n5 => ?_⟩
            have s23 := same_upd (o := .lst xs3) n5
            have hl5 : upd H22 l5 (.lst xs3) l5 = _ := upd_same
            generalize upd H22 l5 (.lst xs3) = H23 at s23 hl5
            refine ⟨_, rfl, p4, _, 1, _, rfl, rfl, .inl (.inl (s23 _ _ (s22 _ _ hp4))), atI_nat (j := 1) rfl, by show 2 ≤ sizeLine; decide, fun p6 n6 => ?_⟩
            have s24 := same_upd (o := .tup [.ref l5, .int (rest : Int)]) n6
            have hp6 : upd H23 p6 (.tup [.ref l5, .int (rest : Int)]) p6 = _ := upd_same
            generalize upd H23 p6 (.tup [.ref l5, .int (rest : Int)]) = H24 at s24 hp6
            have hrn3 := (hrn2.same s23).same s24
            have hrn4 : RnS K H24 (.ref p6) l5 (rnT rows rest) := ⟨p6, xs3, rfl, hp6, s24 _ _ hl5, ((hxs3.same s21).same ((s22.trans s23).trans s24))⟩
            have hpf24 := s24 _ _ (s23 _ _ hpf)
            have s15_24 := (sm2.trans s16_20).trans ((s21.trans s22).trans (s23.trans s24))
            have hD24 := s15_24 _ _ hD15
            have hpn24 := s15_24 _ _ hpn
            have hvs24 := hvs.same s15_24
            have hR24 := hR15.same s15_24
            clear hP20 hP hP2 hrn1 hrn2 hD2 hD3 hw hxs3 hp3 hl5 hp4 hp6 hvs hpn hD15 hR15
            refine ⟨_, _, rfl, ?_⟩
            dsimp only [gName, tNext, tSeq]
            -- stems
            refine ⟨_, rfl, pn, rfl, ⟨vs, .inl (.inl hpn24)⟩, fun D5 nD5 => ?_⟩
            refine lc_it (walk_list (xs := vs)) (fun j H' => Same H24 H' ∧ H' D5 = some (.lst ((((layF rows rest (formOf dn)).take j).map (·.2)).map fun p : Nat => V.int p))) ⟨same_upd nD5, upd_same⟩ (fun j H' _ hQ => .inl (.inl (hQ.1 _ _ hpn24))) ?_ ?_
            · rintro j u H25 H26 hj ⟨sm5, hD5⟩ ⟨rfl, hu⟩
              obtain ⟨s, hs, q0, rfl, hq0⟩ := (hvs24.same sm5).get hu
              refine ⟨q0, _, rfl, .inl (.inl hq0), rfl, _, _, rfl, _, _, rfl, rfl, rfl, _, rfl, _, hD5, by rw [List.length_map, List.length_map, List.length_take, sizeLine_eq]; omega, Same.own sm5 nD5, ?_⟩
              rw [upd_same, List.take_succ, hs, List.map_append, List.map_append]
              rfl
            · rintro H25 ⟨sm5, hD5⟩
              rw [hvl2, List.take_length, layF_stems rows rest hfn] at hD5
              dsimp only [gName, tNext, tSeq]
              -- right
              have hFm : ∀ H', Same H24 H' → FmAt K H' (.ref pf) (formOf dn) := fun H' s => ⟨pf, rfl, .inl (.inl (s _ _ hpf24))⟩
              have hle : ((ds.length : Nat) : Int) = ((szN rows + rest : Nat) : Int) := by rw [szN_len, hdl2]
              refine ⟨_, rfl, _, rfl, _, rfl, _, rfl, D, ds, rfl, .inl (.inl (.inl (sm5 _ _ hD24))), ?_⟩
              rw [hle]
              refine ⟨.ref p6, .ref pf, l5, D5, rnT rows rest, formOf dn, 400, rows, rest, rfl, (hrn4.same sm5).rn, hFm _ sm5, (show RnOk 400 _ from ⟨fun i x hx => by
                obtain ⟨a1, a2, a3, a4, a5⟩ := fo.gs i x hx
                exact ⟨a1, a2, a3.mono (by decide), a4.mono (by decide), a5⟩, ⟨fo.rest.1, fo.rest.2.mono (by decide)⟩, fo.len⟩), hok, hfn, by decide, by decide, fex, fsz, by omega, by omega, fwu, hD5, fun H26 s26 => ?_⟩
              have fo4 : RnOk 400 (rnT rows rest) := ⟨fun i x hx => by
                obtain ⟨a1, a2, a3, a4, a5⟩ := fo.gs i x hx
                exact ⟨a1, a2, a3.mono (by decide), a4.mono (by decide), a5⟩, ⟨fo.rest.1, fo.rest.2.mono (by decide)⟩, fo.len⟩
              refine ⟨_, rfl, iteF ?_⟩
              have sm6 := sm5.trans s26
              -- handed
              refine ⟨_, rfl, _, rfl, rd (rnT rows rest), rd (rnT rows rest), (hrn4.same sm6).dq.dp, (hrn3.same sm6).dq.dp, rd_shaped _, rd_shaped _, _, rfl, ?_⟩
              rw [SeqAt.eqv_refl _ (SeqAt.canLay_of_shaped (rd_shaped _))]
              refine iteF ?_
              dsimp only [gName, tNext, tSeq]
              refine ⟨_, rfl, by decide, by decide, ?_⟩
              refine for_range (lo := 0) (n := 2) (fun j σ H' => ∃ y15 y16, σ = [some (.ref a), some (.ref r), some (.int (0 + (i : Int))), some (.ref p4), some (.ref D), some (.str dn), some (.ref pn), y7, y8, some (.str cut), some (.ref p1), some (.ref D3), some (.ref pf), some (.ref p6), some (.ref D5), y15, y16, none, none, none, none] ∧ Same H26 H') ⟨_, _, rfl, Same.refl _⟩ ?_ ?_
              · rintro j σ H27 hj ⟨y15, y16, rfl, sm7⟩
                have hj2 : j = 0 ∨ j = 1 := by omega
                dsimp only [gName, tNext, tSeq]
                have sm8 := sm6.trans sm7
                refine ⟨_, rfl, _, rfl, _, rfl, (1 : Int), rfl, (0 : Int) + (j : Int), .ref p4, .ref pf, p3, rnT rows rest, formOf dn, 400, -1, rfl, (hrn3.same sm8).rn, hFm _ sm8, fo4, hok, by decide, by decide, .inl (by decide), fun H28 s28 => ?_⟩
                refine ⟨_, rfl, iteF ?_⟩
                have sm9 := sm8.trans s28
                refine ⟨_, rfl, pn, vs, rfl, .inl (.inl (.inl (sm9 _ _ hpn24))), _, rfl, D, ds, rfl, .inl (.inl (.inl (sm9 _ _ hD24))), by show 2 ≤ sizeLine; decide, fun t nt => ?_⟩
                have st := same_upd (o := .tup [.int (vs.length : Nat), .int (ds.length : Nat)]) nt
                have ht : upd H28 t (.tup [.int (vs.length : Nat), .int (ds.length : Nat)]) t = _ := upd_same
                generalize upd H28 t (.tup [.int (vs.length : Nat), .int (ds.length : Nat)]) = H29 at st ht
                obtain ⟨m, hm, hmb⟩ : ∃ m : Int, atI [V.int (vs.length : Nat), V.int (ds.length : Nat)] (0 + (j : Int)) = some (.int m) ∧ (m < 0 ∨ (0 + (j : Int) = 0 ∧ width (formOf dn) * units (rnT rows rest) (formOf dn) ≤ m) ∨ (0 + (j : Int) ≠ 0 ∧ size1 (rnT rows rest) ≤ m)) := by
                  rcases hj2 with rfl | rfl
                  · exact ⟨(vs.length : Nat), rfl, .inr (.inl ⟨rfl, by omega⟩)⟩
                  · exact ⟨(ds.length : Nat), rfl, .inr (.inr ⟨by decide, by omega⟩)⟩
                refine ⟨_, rfl, t, _, 0 + (j : Int), _, rfl, rfl, .inl (.inl ht), hm, ?_⟩
                have sm10 := sm9.trans st
                dsimp only [gName, tNext, tSeq]
                refine ⟨_, rfl, _, rfl, _, rfl, _, rfl, (0 : Int) + (j : Int), .ref p4, .ref pf, p3, rnT rows rest, formOf dn, 400, m, rfl, (hrn3.same sm10).rn, hFm _ sm10, fo4, hok, by decide, by decide, hmb, fun H30 s30 => ?_⟩
                exact ⟨_, rfl, iteF ⟨_, _, rfl, (sm7.trans s28).trans (st.trans s30)⟩⟩
              · rintro σ H27 ⟨y15, y16, rfl, sm7⟩
                exact ⟨_, _, _, _, _, _, _, _, _, _, _, _, _, _, _, rfl, (hR24.same (sm6.trans sm7)).mono (goalN _ (by omega))⟩
    · rintro σ H2 ⟨y2, y3, y4, y5, y6, y7, y8, y9, y10, y11, y12, y13, y14, y15, y16, rfl, hR2⟩
      exact q _
end
end Lw
namespace Lw
open PySem PySem.Spec L2 Lx
abbrev sIni (i : Nat) : Stmt := inClass (topS (2 + i)) 0
theorem getD_at {l : List Addr} {i : Nat} (h : i < l.length) : l.getD i 0 = l[i] := by
  rw [List.getD_eq_getElem?_getD, List.getElem?_eq_getElem h]; rfl
theorem sz5 {n : Nat} (h : n ≤ 5) : n ≤ sizeLine := by
  rw [sizeLine_eq]; omega
theorem all_mk {P : Program} {w : World} {K : PySem.W.Frag} {h : Heap} {mg : Str → Option Value} {fa eL e0 e1 e2 ef0 ef1 ef2 aL aN fCr fCf fIf fSa fUg fUn fTp fTw fTl fTc fTs fTr fTu fOf fTg fTt fLb fLd fLr fLu fLc fLx fLg fLp fLf fLq fW : Addr} (X : K.In h) (G : h.Ns mainGlobals mg) (hfa : mg "law" = some (.ref fa)) (ht : (P.main.scope.names.lookup ("super" : Str)).isSome = false)
    {xnL xqL : Str} {xNL : Addr} {xbsL : List Value} {xsnL : List Str} {xsubL : List Value} {xabL : Bool} {xcolL : Option Bool} {xddL : Option Addr} {xk0L xk1L xk2L xk3L xk5L : Option Value}
    {xn0 xq0 : Str} {xN0 : Addr} {xbs0 : List Value} {xsn0 : List Str} {xsub0 : List Value} {xab0 : Bool} {xcol0 : Option Bool} {xdd0 : Option Addr} {xka0 xkb0 xkc0 xkd0 xke0 : Option Value} {xoc0 xdoc0 xpm0 xct0 xcl0 xce0 : Value} {xod0 xan0 xcdx0 xcf0 : Option Addr} {xcc0 xcda0 : Addr} {xosl0 xcs0 xcg0 : Array (Option Value)} {xvs0 : Array Value} {xtf0 : Tok}
    {xn1 xq1 : Str} {xN1 : Addr} {xbs1 : List Value} {xsn1 : List Str} {xsub1 : List Value} {xab1 : Bool} {xcol1 : Option Bool} {xdd1 : Option Addr} {xka1 xkb1 xkc1 xkd1 xke1 : Option Value} {xoc1 xdoc1 xpm1 xct1 xcl1 xce1 : Value} {xod1 xan1 xcdx1 xcf1 : Option Addr} {xcc1 xcda1 : Addr} {xosl1 xcs1 xcg1 : Array (Option Value)} {xvs1 : Array Value} {xtf1 : Tok}
    {xn2 xq2 : Str} {xN2 : Addr} {xbs2 : List Value} {xsn2 : List Str} {xsub2 : List Value} {xab2 : Bool} {xcol2 : Option Bool} {xdd2 : Option Addr} {xka2 xkb2 xkc2 xkd2 xke2 : Option Value} {xoc2 xdoc2 xpm2 xct2 xcl2 xce2 : Value} {xod2 xan2 xcdx2 xcf2 : Option Addr} {xcc2 xcda2 : Addr} {xosl2 xcs2 xcg2 : Array (Option Value)} {xvs2 : Array Value} {xtf2 : Tok}
    {ocCr kVCr docCr pmCr cdCr ctCr : Value} {odCr anCr : Option Addr} {oslCr : Array (Option Value)}
    {ocCf kVCf docCf pmCf cdCf ctCf : Value} {odCf anCf : Option Addr} {oslCf : Array (Option Value)}
    {ocIf kVIf docIf pmIf cdIf ctIf : Value} {odIf anIf : Option Addr} {oslIf : Array (Option Value)}
    {ocSa kVSa docSa pmSa cdSa ctSa : Value} {odSa anSa : Option Addr} {oslSa : Array (Option Value)}
    {ocUg kVUg docUg pmUg cdUg ctUg : Value} {odUg anUg : Option Addr} {oslUg : Array (Option Value)}
    {ocUn kVUn docUn pmUn cdUn ctUn : Value} {odUn anUn : Option Addr} {oslUn : Array (Option Value)}
    {ocTp kVTp docTp pmTp cdTp ctTp : Value} {odTp anTp : Option Addr} {oslTp : Array (Option Value)}
    {ocTw kVTw docTw pmTw cdTw ctTw : Value} {odTw anTw : Option Addr} {oslTw : Array (Option Value)}
    {ocTl kVTl docTl pmTl cdTl ctTl : Value} {odTl anTl : Option Addr} {oslTl : Array (Option Value)}
    {ocTc kVTc docTc pmTc cdTc ctTc : Value} {odTc anTc : Option Addr} {oslTc : Array (Option Value)}
    {ocTs kVTs docTs pmTs cdTs ctTs : Value} {odTs anTs : Option Addr} {oslTs : Array (Option Value)}
    {ocTr kVTr docTr pmTr cdTr ctTr : Value} {odTr anTr : Option Addr} {oslTr : Array (Option Value)}
    {ocTu kVTu docTu pmTu cdTu ctTu : Value} {odTu anTu : Option Addr} {oslTu : Array (Option Value)}
    {ocOf kVOf docOf pmOf cdOf ctOf : Value} {odOf anOf : Option Addr} {oslOf : Array (Option Value)}
    {ocTg kVTg docTg pmTg cdTg ctTg : Value} {odTg anTg : Option Addr} {oslTg : Array (Option Value)}
    {ocTt kVTt docTt pmTt cdTt ctTt : Value} {odTt anTt : Option Addr} {oslTt : Array (Option Value)}
    {ocLb kVLb docLb pmLb cdLb ctLb : Value} {odLb anLb : Option Addr} {oslLb : Array (Option Value)}
    {ocLd kVLd docLd pmLd cdLd ctLd : Value} {odLd anLd : Option Addr} {oslLd : Array (Option Value)}
    {ocLr kVLr docLr pmLr cdLr ctLr : Value} {odLr anLr : Option Addr} {oslLr : Array (Option Value)}
    {ocLu kVLu docLu pmLu cdLu ctLu : Value} {odLu anLu : Option Addr} {oslLu : Array (Option Value)}
    {ocLc kVLc docLc pmLc cdLc ctLc : Value} {odLc anLc : Option Addr} {oslLc : Array (Option Value)}
    {ocLx kVLx docLx pmLx cdLx ctLx : Value} {odLx anLx : Option Addr} {oslLx : Array (Option Value)}
    {ocLg kVLg docLg pmLg cdLg ctLg : Value} {odLg anLg : Option Addr} {oslLg : Array (Option Value)}
    {ocLp kVLp docLp pmLp cdLp ctLp : Value} {odLp anLp : Option Addr} {oslLp : Array (Option Value)}
    {ocLf kVLf docLf pmLf cdLf ctLf : Value} {odLf anLf : Option Addr} {oslLf : Array (Option Value)}
    {ocLq kVLq docLq pmLq cdLq ctLq : Value} {odLq anLq : Option Addr} {oslLq : Array (Option Value)}
    {ocW kVW docW pmW cdW ctW : Value} {odW anW : Option Addr} {oslW : Array (Option Value)}
    {t3 t5 t4 : Tok} {esL : Array DictEntry} {nL : Nat}
    {n1 n2 n3 : Tok} {nN : Nat} {odN : Option Addr} {slN : Array (Option Value)}
    (xaL : PySem.W.nsIn K mainGlobals "LineError" = some (some (.ref eL)))
    (xxL : K.lookup eL = some (excClassObj xnL xqL eL xNL xbsL HandSPX.veTail true xsnL xsubL xabL xcolL xddL xk0L xk1L xk2L xk3L xk5L "ValueError.__new__"))
    (xiL : PySem.W.findIn K (.ref eL) "__init__" = some (some (.builtin "ValueError.__init__")))
    (xtL : PySem.W.typeIn K (.ref eL) = some (.type "type"))
    (xeL : PySem.W.subIn K (.ref eL) (.type "BaseException") = some true)
    (xoq : PySem.W.nsIn K cStatics "thirdparty.any" = some none)
    (xsp : PySem.W.specialIn K (.builtin "object.__class__") "__get__" = some (some (.builtin "getset_descriptor.__get__")))
    (xtk : PySem.W.takesIn K (.builtin "object.__class__") = some true)
    (xsup : PySem.W.nsIn K mainGlobals "super" = some none)
    (xa0 : PySem.W.nsIn K mainGlobals "InvalidRun" = some (some (.ref e0)))
    (xx0 : K.lookup e0 = some (excClassObj xn0 xq0 e0 xN0 xbs0 (.ref eL :: HandSPX.veTail) true xsn0 xsub0 xab0 xcol0 xdd0 xka0 xkb0 xkc0 xkd0 xke0 "ValueError.__new__"))
    (xsa0 : PySem.W.findIn K (.ref e0) "__setattr__" = some (some (.builtin "object.__setattr__")))
    (xga0 : PySem.W.findIn K (.ref e0) "__getattribute__" = some (some (.builtin "BaseException.__getattribute__")))
    (xgg0 : PySem.W.findIn K (.ref e0) "__getattr__" = some none)
    (xca0 : PySem.W.findIn K (.ref e0) "__class__" = some (some (.builtin "object.__class__")))
    (xnv0 : PySem.W.findIn K (.ref e0) "value" = some none)
    (xty0 : PySem.W.typeIn K (.ref e0) = some (.type "type"))
    (xkp0 : PySem.W.keepIn K (.ref e0) = true)
    (xi0 : PySem.W.findIn K (.ref e0) "__init__" = some (some (.ref ef0)))
    (xt0 : PySem.W.typeIn K (.ref ef0) = some (.type "function"))
    (xl0 : K.lookup ef0 = some ⟨xoc0, xod0, .func (PySem.W.fnX "__init__" "InvalidRun.__init__" (defArgs (sIni 0)) (defBody (sIni 0)) (defScope (sIni 0)) [("__class__", xcc0)] .none .none xdoc0 xpm0 xan0 (.ref xcda0) xct0), xosl0⟩)
    (xcd0 : PySem.W.codeIn K (.ref xcda0) "InvalidRun.__init__" = true)
    (xv0 : K.lookup xcda0 = some ⟨xcl0, xcdx0, .fields xvs0, xcs0⟩)
    (xw0 : xvs0[2]? = some (.str P.main.file xtf0))
    (xce_0 : K.lookup xcc0 = some ⟨xce0, xcf0, .cell (some (.ref e0)), xcg0⟩)
    (xa1 : PySem.W.nsIn K mainGlobals "InvalidForm" = some (some (.ref e1)))
    (xx1 : K.lookup e1 = some (excClassObj xn1 xq1 e1 xN1 xbs1 (.ref eL :: HandSPX.veTail) true xsn1 xsub1 xab1 xcol1 xdd1 xka1 xkb1 xkc1 xkd1 xke1 "ValueError.__new__"))
    (xsa1 : PySem.W.findIn K (.ref e1) "__setattr__" = some (some (.builtin "object.__setattr__")))
    (xga1 : PySem.W.findIn K (.ref e1) "__getattribute__" = some (some (.builtin "BaseException.__getattribute__")))
    (xgg1 : PySem.W.findIn K (.ref e1) "__getattr__" = some none)
    (xca1 : PySem.W.findIn K (.ref e1) "__class__" = some (some (.builtin "object.__class__")))
    (xnv1 : PySem.W.findIn K (.ref e1) "value" = some none)
    (xty1 : PySem.W.typeIn K (.ref e1) = some (.type "type"))
    (xkp1 : PySem.W.keepIn K (.ref e1) = true)
    (xi1 : PySem.W.findIn K (.ref e1) "__init__" = some (some (.ref ef1)))
    (xt1 : PySem.W.typeIn K (.ref ef1) = some (.type "function"))
    (xl1 : K.lookup ef1 = some ⟨xoc1, xod1, .func (PySem.W.fnX "__init__" "InvalidForm.__init__" (defArgs (sIni 1)) (defBody (sIni 1)) (defScope (sIni 1)) [("__class__", xcc1)] .none .none xdoc1 xpm1 xan1 (.ref xcda1) xct1), xosl1⟩)
    (xcd1 : PySem.W.codeIn K (.ref xcda1) "InvalidForm.__init__" = true)
    (xv1 : K.lookup xcda1 = some ⟨xcl1, xcdx1, .fields xvs1, xcs1⟩)
    (xw1 : xvs1[2]? = some (.str P.main.file xtf1))
    (xce_1 : K.lookup xcc1 = some ⟨xce1, xcf1, .cell (some (.ref e1)), xcg1⟩)
    (xa2 : PySem.W.nsIn K mainGlobals "InvalidPlace" = some (some (.ref e2)))
    (xx2 : K.lookup e2 = some (excClassObj xn2 xq2 e2 xN2 xbs2 (.ref eL :: HandSPX.veTail) true xsn2 xsub2 xab2 xcol2 xdd2 xka2 xkb2 xkc2 xkd2 xke2 "ValueError.__new__"))
    (xsa2 : PySem.W.findIn K (.ref e2) "__setattr__" = some (some (.builtin "object.__setattr__")))
    (xga2 : PySem.W.findIn K (.ref e2) "__getattribute__" = some (some (.builtin "BaseException.__getattribute__")))
    (xgg2 : PySem.W.findIn K (.ref e2) "__getattr__" = some none)
    (xca2 : PySem.W.findIn K (.ref e2) "__class__" = some (some (.builtin "object.__class__")))
    (xnv2 : PySem.W.findIn K (.ref e2) "value" = some none)
    (xty2 : PySem.W.typeIn K (.ref e2) = some (.type "type"))
    (xkp2 : PySem.W.keepIn K (.ref e2) = true)
    (xi2 : PySem.W.findIn K (.ref e2) "__init__" = some (some (.ref ef2)))
    (xt2 : PySem.W.typeIn K (.ref ef2) = some (.type "function"))
    (xl2 : K.lookup ef2 = some ⟨xoc2, xod2, .func (PySem.W.fnX "__init__" "InvalidPlace.__init__" (defArgs (sIni 2)) (defBody (sIni 2)) (defScope (sIni 2)) [("__class__", xcc2)] .none .none xdoc2 xpm2 xan2 (.ref xcda2) xct2), xosl2⟩)
    (xcd2 : PySem.W.codeIn K (.ref xcda2) "InvalidPlace.__init__" = true)
    (xv2 : K.lookup xcda2 = some ⟨xcl2, xcdx2, .fields xvs2, xcs2⟩)
    (xw2 : xvs2[2]? = some (.str P.main.file xtf2))
    (xce_2 : K.lookup xcc2 = some ⟨xce2, xcf2, .cell (some (.ref e2)), xcg2⟩)
    (aCr : PySem.W.nsIn K mainGlobals "check_run" = some (some (.ref fCr)))
    (lCr : K.lookup fCr = some ⟨ocCr, odCr, .func (PySem.W.fnOf "check_run" "check_run" (defArgs sChkRun) (defBody sChkRun) (defScope sChkRun) .none kVCr docCr pmCr anCr cdCr ctCr), oslCr⟩)
    (c_Cr : PySem.W.codeIn K cdCr "check_run" = true)
    (k_Cr : PySem.W.keepIn K (.ref fCr) = true)
    (aCf : PySem.W.nsIn K mainGlobals "check_form" = some (some (.ref fCf)))
    (lCf : K.lookup fCf = some ⟨ocCf, odCf, .func (PySem.W.fnOf "check_form" "check_form" (defArgs sChkForm) (defBody sChkForm) (defScope sChkForm) .none kVCf docCf pmCf anCf cdCf ctCf), oslCf⟩)
    (c_Cf : PySem.W.codeIn K cdCf "check_form" = true)
    (k_Cf : PySem.W.keepIn K (.ref fCf) = true)
    (aIf : PySem.W.nsIn K mainGlobals "is_form" = some (some (.ref fIf)))
    (lIf : K.lookup fIf = some ⟨ocIf, odIf, .func (PySem.W.fnOf "is_form" "is_form" (defArgs sIsForm) (defBody sIsForm) (defScope sIsForm) .none kVIf docIf pmIf anIf cdIf ctIf), oslIf⟩)
    (c_If : PySem.W.codeIn K cdIf "is_form" = true)
    (k_If : PySem.W.keepIn K (.ref fIf) = true)
    (aSa : PySem.W.nsIn K mainGlobals "signs_after" = some (some (.ref fSa)))
    (lSa : K.lookup fSa = some ⟨ocSa, odSa, .func (PySem.W.fnOf "signs_after" "signs_after" (defArgs sSigns) (defBody sSigns) (defScope sSigns) .none kVSa docSa pmSa anSa cdSa ctSa), oslSa⟩)
    (c_Sa : PySem.W.codeIn K cdSa "signs_after" = true)
    (k_Sa : PySem.W.keepIn K (.ref fSa) = true)
    (aUg : PySem.W.nsIn K mainGlobals "units_of_group" = some (some (.ref fUg)))
    (lUg : K.lookup fUg = some ⟨ocUg, odUg, .func (PySem.W.fnOf "units_of_group" "units_of_group" (defArgs sUog) (defBody sUog) (defScope sUog) .none kVUg docUg pmUg anUg cdUg ctUg), oslUg⟩)
    (c_Ug : PySem.W.codeIn K cdUg "units_of_group" = true)
    (k_Ug : PySem.W.keepIn K (.ref fUg) = true)
    (aUn : PySem.W.nsIn K mainGlobals "units" = some (some (.ref fUn)))
    (lUn : K.lookup fUn = some ⟨ocUn, odUn, .func (PySem.W.fnOf "units" "units" (defArgs sUnits) (defBody sUnits) (defScope sUnits) .none kVUn docUn pmUn anUn cdUn ctUn), oslUn⟩)
    (c_Un : PySem.W.codeIn K cdUn "units" = true)
    (k_Un : PySem.W.keepIn K (.ref fUn) = true)
    (aTp : PySem.W.nsIn K mainGlobals "check_place" = some (some (.ref fTp)))
    (lTp : K.lookup fTp = some ⟨ocTp, odTp, .func (PySem.W.fnOf "check_place" "check_place" (defArgs sCheckPlace) (defBody sCheckPlace) (defScope sCheckPlace) .none kVTp docTp pmTp anTp cdTp ctTp), oslTp⟩)
    (c_Tp : PySem.W.codeIn K cdTp "check_place" = true)
    (k_Tp : PySem.W.keepIn K (.ref fTp) = true)
    (aTw : PySem.W.nsIn K mainGlobals "characters_of_unit" = some (some (.ref fTw)))
    (lTw : K.lookup fTw = some ⟨ocTw, odTw, .func (PySem.W.fnOf "characters_of_unit" "characters_of_unit" (defArgs sCharactersOfUnit) (defBody sCharactersOfUnit) (defScope sCharactersOfUnit) .none kVTw docTw pmTw anTw cdTw ctTw), oslTw⟩)
    (c_Tw : PySem.W.codeIn K cdTw "characters_of_unit" = true)
    (k_Tw : PySem.W.keepIn K (.ref fTw) = true)
    (aTl : PySem.W.nsIn K mainGlobals "lengths_after" = some (some (.ref fTl)))
    (lTl : K.lookup fTl = some ⟨ocTl, odTl, .func (PySem.W.fnOf "lengths_after" "lengths_after" (defArgs sLengthsAfter) (defBody sLengthsAfter) (defScope sLengthsAfter) .none kVTl docTl pmTl anTl cdTl ctTl), oslTl⟩)
    (c_Tl : PySem.W.codeIn K cdTl "lengths_after" = true)
    (k_Tl : PySem.W.keepIn K (.ref fTl) = true)
    (aTc : PySem.W.nsIn K mainGlobals "located" = some (some (.ref fTc)))
    (lTc : K.lookup fTc = some ⟨ocTc, odTc, .func (PySem.W.fnOf "located" "located" (defArgs sLocated) (defBody sLocated) (defScope sLocated) .none kVTc docTc pmTc anTc cdTc ctTc), oslTc⟩)
    (c_Tc : PySem.W.codeIn K cdTc "located" = true)
    (k_Tc : PySem.W.keepIn K (.ref fTc) = true)
    (aTs : PySem.W.nsIn K mainGlobals "start_of" = some (some (.ref fTs)))
    (lTs : K.lookup fTs = some ⟨ocTs, odTs, .func (PySem.W.fnOf "start_of" "start_of" (defArgs sStartOf) (defBody sStartOf) (defScope sStartOf) .none kVTs docTs pmTs anTs cdTs ctTs), oslTs⟩)
    (c_Ts : PySem.W.codeIn K cdTs "start_of" = true)
    (k_Ts : PySem.W.keepIn K (.ref fTs) = true)
    (aTr : PySem.W.nsIn K mainGlobals "returns_left" = some (some (.ref fTr)))
    (lTr : K.lookup fTr = some ⟨ocTr, odTr, .func (PySem.W.fnOf "returns_left" "returns_left" (defArgs sReturnsLeft) (defBody sReturnsLeft) (defScope sReturnsLeft) .none kVTr docTr pmTr anTr cdTr ctTr), oslTr⟩)
    (c_Tr : PySem.W.codeIn K cdTr "returns_left" = true)
    (k_Tr : PySem.W.keepIn K (.ref fTr) = true)
    (aTu : PySem.W.nsIn K mainGlobals "units_in_group" = some (some (.ref fTu)))
    (lTu : K.lookup fTu = some ⟨ocTu, odTu, .func (PySem.W.fnOf "units_in_group" "units_in_group" (defArgs sUnitsInGroup) (defBody sUnitsInGroup) (defScope sUnitsInGroup) .none kVTu docTu pmTu anTu cdTu ctTu), oslTu⟩)
    (c_Tu : PySem.W.codeIn K cdTu "units_in_group" = true)
    (k_Tu : PySem.W.keepIn K (.ref fTu) = true)
    (aOf : PySem.W.nsIn K mainGlobals "offspring" = some (some (.ref fOf)))
    (lOf : K.lookup fOf = some ⟨ocOf, odOf, .func (PySem.W.fnOf "offspring" "offspring" (defArgs sOffspring) (defBody sOffspring) (defScope sOffspring) .none kVOf docOf pmOf anOf cdOf ctOf), oslOf⟩)
    (c_Of : PySem.W.codeIn K cdOf "offspring" = true)
    (k_Of : PySem.W.keepIn K (.ref fOf) = true)
    (aTg : PySem.W.nsIn K mainGlobals "origin_in_group" = some (some (.ref fTg)))
    (lTg : K.lookup fTg = some ⟨ocTg, odTg, .func (PySem.W.fnOf "origin_in_group" "origin_in_group" (defArgs sOriginInGroup) (defBody sOriginInGroup) (defScope sOriginInGroup) .none kVTg docTg pmTg anTg cdTg ctTg), oslTg⟩)
    (c_Tg : PySem.W.codeIn K cdTg "origin_in_group" = true)
    (k_Tg : PySem.W.keepIn K (.ref fTg) = true)
    (aTt : PySem.W.nsIn K mainGlobals "trace" = some (some (.ref fTt)))
    (lTt : K.lookup fTt = some ⟨ocTt, odTt, .func (PySem.W.fnOf "trace" "trace" (defArgs sTrace) (defBody sTrace) (defScope sTrace) .none kVTt docTt pmTt anTt cdTt ctTt), oslTt⟩)
    (c_Tt : PySem.W.codeIn K cdTt "trace" = true)
    (k_Tt : PySem.W.keepIn K (.ref fTt) = true)
    (aLb : PySem.W.nsIn K mainGlobals "_law_bag" = some (some (.ref fLb)))
    (lLb : K.lookup fLb = some ⟨ocLb, odLb, .func (PySem.W.fnOf "_law_bag" "_law_bag" (defArgs sLBag) (defBody sLBag) (defScope sLBag) .none kVLb docLb pmLb anLb cdLb ctLb), oslLb⟩)
    (c_Lb : PySem.W.codeIn K cdLb "_law_bag" = true)
    (k_Lb : PySem.W.keepIn K (.ref fLb) = true)
    (aLd : PySem.W.nsIn K mainGlobals "_law_draw" = some (some (.ref fLd)))
    (lLd : K.lookup fLd = some ⟨ocLd, odLd, .func (PySem.W.fnOf "_law_draw" "_law_draw" (defArgs sLDraw) (defBody sLDraw) (defScope sLDraw) .none kVLd docLd pmLd anLd cdLd ctLd), oslLd⟩)
    (c_Ld : PySem.W.codeIn K cdLd "_law_draw" = true)
    (k_Ld : PySem.W.keepIn K (.ref fLd) = true)
    (aLr : PySem.W.nsIn K mainGlobals "_law_reduced" = some (some (.ref fLr)))
    (lLr : K.lookup fLr = some ⟨ocLr, odLr, .func (PySem.W.fnOf "_law_reduced" "_law_reduced" (defArgs sLReduced) (defBody sLReduced) (defScope sLReduced) .none kVLr docLr pmLr anLr cdLr ctLr), oslLr⟩)
    (c_Lr : PySem.W.codeIn K cdLr "_law_reduced" = true)
    (k_Lr : PySem.W.keepIn K (.ref fLr) = true)
    (aLu : PySem.W.nsIn K mainGlobals "_law_run" = some (some (.ref fLu)))
    (lLu : K.lookup fLu = some ⟨ocLu, odLu, .func (PySem.W.fnOf "_law_run" "_law_run" (defArgs sLRun) (defBody sLRun) (defScope sLRun) .none kVLu docLu pmLu anLu cdLu ctLu), oslLu⟩)
    (c_Lu : PySem.W.codeIn K cdLu "_law_run" = true)
    (k_Lu : PySem.W.keepIn K (.ref fLu) = true)
    (aLc : PySem.W.nsIn K mainGlobals "_law_chain" = some (some (.ref fLc)))
    (lLc : K.lookup fLc = some ⟨ocLc, odLc, .func (PySem.W.fnOf "_law_chain" "_law_chain" (defArgs sLChain) (defBody sLChain) (defScope sLChain) .none kVLc docLc pmLc anLc cdLc ctLc), oslLc⟩)
    (c_Lc : PySem.W.codeIn K cdLc "_law_chain" = true)
    (k_Lc : PySem.W.keepIn K (.ref fLc) = true)
    (aLx : PySem.W.nsIn K mainGlobals "_law_wanted" = some (some (.ref fLx)))
    (lLx : K.lookup fLx = some ⟨ocLx, odLx, .func (PySem.W.fnOf "_law_wanted" "_law_wanted" (defArgs sLWanted) (defBody sLWanted) (defScope sLWanted) .none kVLx docLx pmLx anLx cdLx ctLx), oslLx⟩)
    (c_Lx : PySem.W.codeIn K cdLx "_law_wanted" = true)
    (k_Lx : PySem.W.keepIn K (.ref fLx) = true)
    (aLg : PySem.W.nsIn K mainGlobals "_law_signs" = some (some (.ref fLg)))
    (lLg : K.lookup fLg = some ⟨ocLg, odLg, .func (PySem.W.fnOf "_law_signs" "_law_signs" (defArgs sLSigns) (defBody sLSigns) (defScope sLSigns) .none kVLg docLg pmLg anLg cdLg ctLg), oslLg⟩)
    (c_Lg : PySem.W.codeIn K cdLg "_law_signs" = true)
    (k_Lg : PySem.W.keepIn K (.ref fLg) = true)
    (aLp : PySem.W.nsIn K mainGlobals "_law_stepped" = some (some (.ref fLp)))
    (lLp : K.lookup fLp = some ⟨ocLp, odLp, .func (PySem.W.fnOf "_law_stepped" "_law_stepped" (defArgs sLStepped) (defBody sLStepped) (defScope sLStepped) .none kVLp docLp pmLp anLp cdLp ctLp), oslLp⟩)
    (c_Lp : PySem.W.codeIn K cdLp "_law_stepped" = true)
    (k_Lp : PySem.W.keepIn K (.ref fLp) = true)
    (aLf : PySem.W.nsIn K mainGlobals "_law_is_refused" = some (some (.ref fLf)))
    (lLf : K.lookup fLf = some ⟨ocLf, odLf, .func (PySem.W.fnOf "_law_is_refused" "_law_is_refused" (defArgs sLIsRefused) (defBody sLIsRefused) (defScope sLIsRefused) .none kVLf docLf pmLf anLf cdLf ctLf), oslLf⟩)
    (c_Lf : PySem.W.codeIn K cdLf "_law_is_refused" = true)
    (k_Lf : PySem.W.keepIn K (.ref fLf) = true)
    (aLq : PySem.W.nsIn K mainGlobals "_law_right" = some (some (.ref fLq)))
    (lLq : K.lookup fLq = some ⟨ocLq, odLq, .func (PySem.W.fnOf "_law_right" "_law_right" (defArgs sLRight) (defBody sLRight) (defScope sLRight) .none kVLq docLq pmLq anLq cdLq ctLq), oslLq⟩)
    (c_Lq : PySem.W.codeIn K cdLq "_law_right" = true)
    (k_Lq : PySem.W.keepIn K (.ref fLq) = true)
    (aW : PySem.W.nsIn K mainGlobals "law" = some (some (.ref fW)))
    (lW : K.lookup fW = some ⟨ocW, odW, .func (PySem.W.fnOf "law" "law" (defArgs sLaw) (defBody sLaw) (defScope sLaw) .none kVW docW pmW anW cdW ctW), oslW⟩)
    (c_W : PySem.W.codeIn K cdW "law" = true)
    (k_W : PySem.W.keepIn K (.ref fW) = true)
    (z_abs : PySem.W.nsIn K mainGlobals "abs" = some none)
    (z_divmod : PySem.W.nsIn K mainGlobals "divmod" = some none)
    (z_enumerate : PySem.W.nsIn K mainGlobals "enumerate" = some none)
    (z_int : PySem.W.nsIn K mainGlobals "int" = some none)
    (z_len : PySem.W.nsIn K mainGlobals "len" = some none)
    (z_list : PySem.W.nsIn K mainGlobals "list" = some none)
    (z_max : PySem.W.nsIn K mainGlobals "max" = some none)
    (z_min : PySem.W.nsIn K mainGlobals "min" = some none)
    (z_range : PySem.W.nsIn K mainGlobals "range" = some none)
    (z_sum : PySem.W.nsIn K mainGlobals "sum" = some none)
    (z_zip : PySem.W.nsIn K mainGlobals "zip" = some none)
    (gL : PySem.W.nsIn K mainGlobals "FORM_LENGTHS" = some (some (.ref aL)))
    (hL : K.lookup aL = some ⟨.type "dict", none, .dict esL nL, #[]⟩)
    (kL : PySem.W.KeysLit w.params esL.toList)
    (mL : (aL == sysModules) = false)
    (vL3 : PySem.W.nsIn K aL "keep" = some (some (.int 3 t3)))
    (vL5 : PySem.W.nsIn K aL "lf" = some (some (.int 5 t5)))
    (vL4 : PySem.W.nsIn K aL "cr" = some (some (.int 4 t4)))
    (gN : PySem.W.nsIn K mainGlobals "NOTHING" = some (some (.ref aN)))
    (hN : K.lookup aN = some ⟨.type "tuple", odN, .seq #[.str "keep" n1, .int 0 n2, .int 0 n3] nN, slN⟩)
    (xsb : PySem.W.subIn K (.ref e2) (.type "BaseException") = some true)
    (xsf : PySem.W.subIn K (.ref e2) (.ref e2) = some true)
    (xhd : PySem.W.hasDictIn K e2 = true) :
    ∃ fd : FuncData, (∀ (s : Shared) (v : Value), BindsTo s fd ⟨[v], []⟩ [("script", v)]) ∧ ∀ base : Heap, K.In base → base.Ns mainGlobals mg → FnG P w K mg base CX0 7 fa fd ["script"] (spLaw K) := by
  have e := hfa.symm.trans (PySem.W.mg_of X G aW)
  cases e
  have FCr := fun_mk (st := sChkRun) lCr c_Cr k_Cr
  have bCr := FCr.binds (ps := ["run"]) fun _ _ _ _ _ _ us hl => match us, hl with | [_], _ => rfl
  have gCr' := PySem.W.mg_of X G aCr
  have FCf := fun_mk (st := sChkForm) lCf c_Cf k_Cf
  have bCf := FCf.binds (ps := ["wanted"]) fun _ _ _ _ _ _ us hl => match us, hl with | [_], _ => rfl
  have gCf' := PySem.W.mg_of X G aCf
  have FIf := fun_mk (st := sIsForm) lIf c_If k_If
  have bIf := FIf.binds (ps := ["wanted"]) fun _ _ _ _ _ _ us hl => match us, hl with | [_], _ => rfl
  have gIf' := PySem.W.mg_of X G aIf
  have FSa := fun_mk (st := sSigns) lSa c_Sa k_Sa
  have bSa := FSa.binds (ps := ["j", "wanted"]) fun _ _ _ _ _ _ us hl => match us, hl with | [_, _], _ => rfl
  have gSa' := PySem.W.mg_of X G aSa
  have FUg := fun_mk (st := sUog) lUg c_Ug k_Ug
  have bUg := FUg.binds (ps := ["j", "wanted"]) fun _ _ _ _ _ _ us hl => match us, hl with | [_, _], _ => rfl
  have gUg' := PySem.W.mg_of X G aUg
  have FUn := fun_mk (st := sUnits) lUn c_Un k_Un
  have bUn := FUn.binds (ps := ["run", "wanted"]) fun _ _ _ _ _ _ us hl => match us, hl with | [_, _], _ => rfl
  have gUn' := PySem.W.mg_of X G aUn
  have FTp := fun_mk (st := sCheckPlace) lTp c_Tp k_Tp
  have bTp := FTp.binds (ps := ["place", "total"]) fun _ _ _ _ _ _ us hl => match us, hl with | [_, _], _ => rfl
  have gTp' := PySem.W.mg_of X G aTp
  have FTw := fun_mk (st := sCharactersOfUnit) lTw c_Tw k_Tw
  have bTw := FTw.binds (ps := ["wanted"]) fun _ _ _ _ _ _ us hl => match us, hl with | [_], _ => rfl
  have gTw' := PySem.W.mg_of X G aTw
  have FTl := fun_mk (st := sLengthsAfter) lTl c_Tl k_Tl
  have bTl := FTl.binds (ps := ["groups", "wanted"]) fun _ _ _ _ _ _ us hl => match us, hl with | [_, _], _ => rfl
  have gTl' := PySem.W.mg_of X G aTl
  have FTc := fun_mk (st := sLocated) lTc c_Tc k_Tc
  have bTc := FTc.binds (ps := ["groups", "lengths", "place"]) fun _ _ _ _ _ _ us hl => match us, hl with | [_, _, _], _ => rfl
  have gTc' := PySem.W.mg_of X G aTc
  have FTs := fun_mk (st := sStartOf) lTs c_Ts k_Ts
  have bTs := FTs.binds (ps := ["groups", "lengths", "at", "number"]) fun _ _ _ _ _ _ us hl => match us, hl with | [_, _, _, _], _ => rfl
  have gTs' := PySem.W.mg_of X G aTs
  have FTr := fun_mk (st := sReturnsLeft) lTr c_Tr k_Tr
  have bTr := FTr.binds (ps := ["j", "wanted"]) fun _ _ _ _ _ _ us hl => match us, hl with | [_, _], _ => rfl
  have gTr' := PySem.W.mg_of X G aTr
  have FTu := fun_mk (st := sUnitsInGroup) lTu c_Tu k_Tu
  have bTu := FTu.binds (ps := ["j", "wanted", "place"]) fun _ _ _ _ _ _ us hl => match us, hl with | [_, _, _], _ => rfl
  have gTu' := PySem.W.mg_of X G aTu
  have FOf := fun_mk (st := sOffspring) lOf c_Of k_Of
  have bOf := FOf.binds (ps := ["run", "wanted", "place"]) fun _ _ _ _ _ _ us hl => match us, hl with | [_, _, _], _ => rfl
  have gOf' := PySem.W.mg_of X G aOf
  have FTg := fun_mk (st := sOriginInGroup) lTg c_Tg k_Tg
  have bTg := FTg.binds (ps := ["j", "wanted", "unit"]) fun _ _ _ _ _ _ us hl => match us, hl with | [_, _, _], _ => rfl
  have gTg' := PySem.W.mg_of X G aTg
  have FTt := fun_mk (st := sTrace) lTt c_Tt k_Tt
  have bTt := FTt.binds (ps := ["run", "wanted", "place"]) fun _ _ _ _ _ _ us hl => match us, hl with | [_, _, _], _ => rfl
  have gTt' := PySem.W.mg_of X G aTt
  have FLb := fun_mk (st := sLBag) lLb c_Lb k_Lb
  have bLb := FLb.binds (ps := ["script"]) fun _ _ _ _ _ _ us hl => match us, hl with | [_], _ => rfl
  have gLb' := PySem.W.mg_of X G aLb
  have FLd := fun_mk (st := sLDraw) lLd c_Ld k_Ld
  have bLd := FLd.binds (ps := ["bag", "many"]) fun _ _ _ _ _ _ us hl => match us, hl with | [_, _], _ => rfl
  have gLd' := PySem.W.mg_of X G aLd
  have FLr := fun_mk (st := sLReduced) lLr c_Lr k_Lr
  have bLr := FLr.binds (ps := ["row"]) fun _ _ _ _ _ _ us hl => match us, hl with | [_], _ => rfl
  have gLr' := PySem.W.mg_of X G aLr
  have FLu := fun_mk (st := sLRun) lLu c_Lu k_Lu
  have bLu := FLu.binds (ps := ["bag", "tuples", "most", "wide"]) fun _ _ _ _ _ _ us hl => match us, hl with | [_, _, _, _], _ => rfl
  have gLu' := PySem.W.mg_of X G aLu
  have FLc := fun_mk (st := sLChain) lLc c_Lc k_Lc
  have bLc := FLc.binds (ps := ["bag", "most"]) fun _ _ _ _ _ _ us hl => match us, hl with | [_, _], _ => rfl
  have gLc' := PySem.W.mg_of X G aLc
  have FLx := fun_mk (st := sLWanted) lLx c_Lx k_Lx
  have bLx := FLx.binds (ps := ["chain_now"]) fun _ _ _ _ _ _ us hl => match us, hl with | [_], _ => rfl
  have gLx' := PySem.W.mg_of X G aLx
  have FLg := fun_mk (st := sLSigns) lLg c_Lg k_Lg
  have bLg := FLg.binds (ps := ["run_now"]) fun _ _ _ _ _ _ us hl => match us, hl with | [_], _ => rfl
  have gLg' := PySem.W.mg_of X G aLg
  have FLp := fun_mk (st := sLStepped) lLp c_Lp k_Lp
  have bLp := FLp.binds (ps := ["signs", "step"]) fun _ _ _ _ _ _ us hl => match us, hl with | [_, _], _ => rfl
  have gLp' := PySem.W.mg_of X G aLp
  have FLf := fun_mk (st := sLIsRefused) lLf c_Lf k_Lf
  have bLf := FLf.binds (ps := ["which", "run_now", "shape", "at"]) fun _ _ _ _ _ _ us hl => match us, hl with | [_, _, _, _], _ => rfl
  have gLf' := PySem.W.mg_of X G aLf
  have FLq := fun_mk (st := sLRight) lLq c_Lq k_Lq
  have bLq := FLq.binds (ps := ["run_now", "shape", "stems", "many"]) fun _ _ _ _ _ _ us hl => match us, hl with | [_, _, _, _], _ => rfl
  have gLq' := PySem.W.mg_of X G aLq
  have FW := fun_mk (st := sLaw) lW c_W k_W
  have gW' := PySem.W.mg_of X G aW
  have m_abs := PySem.W.mg_none_of X G z_abs
  have m_divmod := PySem.W.mg_none_of X G z_divmod
  have m_enumerate := PySem.W.mg_none_of X G z_enumerate
  have m_int := PySem.W.mg_none_of X G z_int
  have m_len := PySem.W.mg_none_of X G z_len
  have m_list := PySem.W.mg_none_of X G z_list
  have m_max := PySem.W.mg_none_of X G z_max
  have m_min := PySem.W.mg_none_of X G z_min
  have m_range := PySem.W.mg_none_of X G z_range
  have m_sum := PySem.W.mg_none_of X G z_sum
  have m_zip := PySem.W.mg_none_of X G z_zip
  have TLn : LineC K mg eL := { gL := PySem.W.mg_of X G xaL, cls := ⟨_, _, _, _, _, _, _, _, _, _, _, _, _, _, xxL⟩, ini := xiL, ty := xtL, exB := xeL, sup := xsup, opq := xoq, sp := xsp, tk := xtk }
  have m_super := PySem.W.mg_none_of X G xsup
  have TE0 : ErrC K P.main.file mg eL "InvalidRun" "InvalidRun.__init__" (sIni 0) e0 := { gC := PySem.W.mg_of X G xa0, cls := ⟨_, _, _, _, _, _, _, _, _, _, _, _, _, _, xx0⟩, sa := xsa0, ga := xga0, gg := xgg0, ca := xca0, nv := xnv0, ty := xty0, kp := xkp0, init := ⟨_, xi0, xt0, _, _, _, _, _, _, _, _, _, xl0, xcd0, ⟨_, _, _, _, _, xv0, xw0⟩, _, _, _, xce_0⟩, tA := ⟨_, _, rfl⟩, tB := ⟨_, _, _, _, _, _, _, _, _, _, _, rfl, fun env => ⟨_, rfl⟩⟩, tS := rfl }
  have TE1 : ErrC K P.main.file mg eL "InvalidForm" "InvalidForm.__init__" (sIni 1) e1 := { gC := PySem.W.mg_of X G xa1, cls := ⟨_, _, _, _, _, _, _, _, _, _, _, _, _, _, xx1⟩, sa := xsa1, ga := xga1, gg := xgg1, ca := xca1, nv := xnv1, ty := xty1, kp := xkp1, init := ⟨_, xi1, xt1, _, _, _, _, _, _, _, _, _, xl1, xcd1, ⟨_, _, _, _, _, xv1, xw1⟩, _, _, _, xce_1⟩, tA := ⟨_, _, rfl⟩, tB := ⟨_, _, _, _, _, _, _, _, _, _, _, rfl, fun env => ⟨_, rfl⟩⟩, tS := rfl }
  have TE2 : ErrC K P.main.file mg eL "InvalidPlace" "InvalidPlace.__init__" (sIni 2) e2 := { gC := PySem.W.mg_of X G xa2, cls := ⟨_, _, _, _, _, _, _, _, _, _, _, _, _, _, xx2⟩, sa := xsa2, ga := xga2, gg := xgg2, ca := xca2, nv := xnv2, ty := xty2, kp := xkp2, init := ⟨_, xi2, xt2, _, _, _, _, _, _, _, _, _, xl2, xcd2, ⟨_, _, _, _, _, xv2, xw2⟩, _, _, _, xce_2⟩, tA := ⟨_, _, rfl⟩, tB := ⟨_, _, _, _, _, _, _, _, _, _, _, rfl, fun env => ⟨_, rfl⟩⟩, tS := rfl }
  have TL : LenT K w mg aL := ⟨PySem.W.mg_of X G gL, ⟨_, _, hL, kL, mL⟩, ⟨_, vL3⟩, ⟨_, vL5⟩, ⟨_, vL4⟩⟩
  have tN : ∀ H : Hp, FmAt K H (.ref aN) nothing := fun H => ⟨aN, rfl, .inr ⟨_, _, _, hN, rfl, rfl, sz5 (by simp), .cons ⟨_, rfl⟩ (.cons ⟨_, rfl⟩ (.cons ⟨_, rfl⟩ .nil))⟩⟩
  have xem : PySem.W.exmOne K (.ref e2) (.ref e2) = some true := PySem.W.exm_ref xsb xhd xty2 xsf
  refine ⟨PySem.W.fnOf "law" "law" (defArgs sLaw) (defBody sLaw) (defScope sLaw) .none kVW docW pmW anW cdW ctW, fun s v => .of_eq rfl, fun base _ _ => ?_⟩
  have GCr : FnOk P w K mg base CX0 1 fCr _ ["run"] (spChkRun K) := ok_chkRun FCr m_enumerate
  have GIf : FnOk P w K mg base CX0 1 fIf _ ["wanted"] (spIsForm K) := ok_isForm FIf TL m_len m_min
  have GCf : FnOk P w K mg base CX0 2 fCf _ ["wanted"] (spChkForm K) := ok_chkForm FCf GIf k_If bIf gIf'
  have GSa : FnOk P w K mg base CX0 1 fSa _ ["j", "wanted"] (spSigns K) := ok_signs FSa m_max
  have GUg : FnOk P w K mg base CX0 2 fUg _ ["j", "wanted"] (spUog K) := ok_uog FUg GSa k_Sa bSa gSa'
  have GUn : FnOk P w K mg base CX0 3 fUn _ ["run", "wanted"] (spUnits K) := ok_units FUn GUg k_Ug bUg gUg' m_sum
  have GTp : FnOk P w K mg base CX0 1 fTp _ ["place", "total"] spChp := ok_chp FTp
  have GTw : FnOk P w K mg base CX0 1 fTw _ ["wanted"] (spWid K) := ok_wid FTw
  have GTl : FnOk P w K mg base CX0 3 fTl _ ["groups", "wanted"] (spLens K) := ok_lens FTl ⟨GUg.mono (by decide), k_Ug, bUg, gUg'⟩
  have GTc : FnOk P w K mg base CX0 1 fTc _ ["groups", "lengths", "place"] (spLoc K) := ok_loc FTc ⟨m_enumerate, m_divmod, m_len⟩
  have GTs : FnOk P w K mg base CX0 1 fTs _ ["groups", "lengths", "at", "number"] (spSta K) := ok_sta FTs ⟨m_zip, m_sum⟩
  have GTr : FnOk P w K mg base CX0 1 fTr _ ["j", "wanted"] (spRet K) := ok_ret FTr ⟨m_max⟩
  have GTu : FnOk P w K mg base CX0 2 fTu _ ["j", "wanted", "place"] (spUig K) := ok_uig FTu ⟨m_min⟩ ⟨GTr.mono (by decide), k_Tr, bTr, gTr'⟩
  have GOf : FnOk P w K mg base CX0 4 fOf _ ["run", "wanted", "place"] (spOff K) := ok_off FOf ⟨m_len⟩ (PySem.W.mg_of X G gN) tN ⟨GCr.mono (by decide), k_Cr, bCr, gCr'⟩ ⟨GCf.mono (by decide), k_Cf, bCf, gCf'⟩ ⟨GTw.mono (by decide), k_Tw, bTw, gTw'⟩ ⟨GTp.mono (by decide), k_Tp, bTp, gTp'⟩ ⟨GUn.mono (by decide), k_Un, bUn, gUn'⟩ ⟨GTc.mono (by decide), k_Tc, bTc, gTc'⟩ ⟨GTl.mono (by decide), k_Tl, bTl, gTl'⟩ ⟨GTs.mono (by decide), k_Ts, bTs, gTs'⟩ ⟨GTu.mono (by decide), k_Tu, bTu, gTu'⟩
  have GTg : FnOk P w K mg base CX0 2 fTg _ ["j", "wanted", "unit"] (spOri K) := ok_ori FTg ⟨GTr.mono (by decide), k_Tr, bTr, gTr'⟩
  have GTt : FnOk P w K mg base CX0 4 fTt _ ["run", "wanted", "place"] (spTra K) := ok_tra FTt ⟨m_len⟩ (PySem.W.mg_of X G gN) tN ⟨GCr.mono (by decide), k_Cr, bCr, gCr'⟩ ⟨GCf.mono (by decide), k_Cf, bCf, gCf'⟩ ⟨GTw.mono (by decide), k_Tw, bTw, gTw'⟩ ⟨GTp.mono (by decide), k_Tp, bTp, gTp'⟩ ⟨GUn.mono (by decide), k_Un, bUn, gUn'⟩ ⟨GTc.mono (by decide), k_Tc, bTc, gTc'⟩ ⟨GTl.mono (by decide), k_Tl, bTl, gTl'⟩ ⟨GTs.mono (by decide), k_Ts, bTs, gTs'⟩ ⟨GTg.mono (by decide), k_Tg, bTg, gTg'⟩
  have GLb : FnOk P w K mg base CX0 1 fLb _ ["script"] (spBag K) := ok_bag FLb ⟨m_abs⟩
  have GLd : FnOk P w K mg base CX0 1 fLd _ ["bag", "many"] spDraw := ok_draw FLd ⟨m_len⟩
  have GLr : FnOk P w K mg base CX0 1 fLr _ ["row"] (spReduced K) := ok_reduced FLr ⟨m_len⟩
  have GLu : FnOk P w K mg base CX0 2 fLu _ ["bag", "tuples", "most", "wide"] (spRun2 K) := ok_run2 FLu ⟨m_range⟩ ⟨GLr, k_Lr, bLr, gLr'⟩ ⟨GLd, k_Ld, bLd, gLd'⟩
  have GLc : FnOk P w K mg base CX0 2 fLc _ ["bag", "most"] spChain := ok_chain FLc ⟨m_len⟩ ⟨GLd, k_Ld, bLd, gLd'⟩
  have GLx : FnOk P w K mg base CX0 1 fLx _ ["chain_now"] spWantedF := ok_wantedF FLx ⟨m_int, m_max⟩
  have GTpE : FnOk P w K mg base (L2.CX P w) 3 fTp _ ["place", "total"] (spChpE e2) := ok_chpE (k := 0) TLn TE2 FTp ht m_super
  have GTtE : FnOk P w K mg base (L2.CX P w) 5 fTt _ ["run", "wanted", "place"] (spTraE K e2) := ok_traE (k := 4) FTt ⟨GCr.mono (by decide), k_Cr, bCr, gCr'⟩ ⟨GCf.mono (by decide), k_Cf, bCf, gCf'⟩ ⟨GTw.mono (by decide), k_Tw, bTw, gTw'⟩ (GTpE.mono (by decide)) bTp gTp' k_Tp ⟨GUn.mono (by decide), k_Un, bUn, gUn'⟩
  have GOfE : FnOk P w K mg base (L2.CX P w) 5 fOf _ ["run", "wanted", "place"] (spOffE K e2) := ok_offE (k := 4) FOf (PySem.W.mg_of X G gN) tN ⟨GCr.mono (by decide), k_Cr, bCr, gCr'⟩ ⟨GCf.mono (by decide), k_Cf, bCf, gCf'⟩ (GTpE.mono (by decide)) bTp gTp' k_Tp ⟨GUn.mono (by decide), k_Un, bUn, gUn'⟩
  have GLf : FnOk P w K mg base CX0 6 fLf _ ["which", "run_now", "shape", "at"] (spRf K) := ok_rf (k := 5) TLn TE2 xem FLf GTtE bTt gTt' k_Tt GOfE bOf gOf' k_Of
  have GLg : FnOk P w K mg base CX0 1 fLg _ ["run_now"] (spSg K) := ok_signs29 FLg ⟨m_range, m_len⟩
  have GLp : FnOk P w K mg base CX0 1 fLp _ ["signs", "step"] spStp := ok_stepped FLp ⟨m_range, m_len⟩
  have GLq : FnOk P w K mg base CX0 5 fLq _ ["run_now", "shape", "stems", "many"] (spRi K) := ok_ri (k := 4) FLq ⟨m_range, m_len⟩ ⟨GTt.mono (by decide), k_Tt, bTt, gTt'⟩ (kb321 FTt fun _ _ _ _ _ _ _ _ _ => rfl) ⟨GOf.mono (by decide), k_Of, bOf, gOf'⟩ (kb321 FOf fun _ _ _ _ _ _ _ _ _ => rfl)
  have GW := ok_law FW ⟨m_range, m_min, m_len, m_list⟩ (k := 6) ⟨GLb.mono (by decide), k_Lb, bLb, gLb'⟩ ⟨GLu.mono (by decide), k_Lu, bLu, gLu'⟩ ⟨GLg.mono (by decide), k_Lg, bLg, gLg'⟩ ⟨GLc.mono (by decide), k_Lc, bLc, gLc'⟩ ⟨GLp.mono (by decide), k_Lp, bLp, gLp'⟩ ⟨GLr.mono (by decide), k_Lr, bLr, gLr'⟩ ⟨GLx.mono (by decide), k_Lx, bLx, gLx'⟩ ⟨GLq.mono (by decide), k_Lq, bLq, gLq'⟩ ⟨GLf.mono (by decide), k_Lf, bLf, gLf'⟩
  exact FnG.of GW
end Lw
open PySem PySem.W PyProof.Rows
set_option maxRecDepth 100000 in
set_option maxHeartbeats 0 in
theorem PySem.Challenge.cw_lineends_k29_characters_traced_holds : PySem.Challenge.rw_lineends_k29_characters_traced.Holds := by
  w_on; o_law; k_head; (case hw => w_witness2)
  k_fill
  refine Lx.endG (l := PySem.Challenge.rw_lineends_k29_characters_traced) (n := 63) (k := 7) (x := "script") (CX := fun _ => L2.CX0) (sp := fun w => Lw.spLaw _) rfl (by decide) rfl ⟨rfl, by decide, by decide⟩ (fun w h Y => PySem.W.kIn_of Y) ?F (fun _ _ a ns hl hS => ⟨a, ns, rfl, hS, hl, fun _ => rfl⟩) (fun _ _ _ _ _ h => h)
  case F =>
    intro w mg fa h KX G hmg
    refine' Lw.all_mk KX G hmg (by decide +kernel) ?xaL ?xxL ?xiL ?xtL ?xeL ?xoq ?xsp ?xtk ?xsup ?xa0 ?xx0 ?xsa0 ?xga0 ?xgg0 ?xca0 ?xnv0 ?xty0 ?xkp0 ?xi0 ?xt0 ?xl0 ?xcd0 ?xv0 ?xw0 ?xce_0 ?xa1 ?xx1 ?xsa1 ?xga1 ?xgg1 ?xca1 ?xnv1 ?xty1 ?xkp1 ?xi1 ?xt1 ?xl1 ?xcd1 ?xv1 ?xw1 ?xce_1 ?xa2 ?xx2 ?xsa2 ?xga2 ?xgg2 ?xca2 ?xnv2 ?xty2 ?xkp2 ?xi2 ?xt2 ?xl2 ?xcd2 ?xv2 ?xw2 ?xce_2 ?aCr ?lCr ?c_Cr ?k_Cr ?aCf ?lCf ?c_Cf ?k_Cf ?aIf ?lIf ?c_If ?k_If ?aSa ?lSa ?c_Sa ?k_Sa ?aUg ?lUg ?c_Ug ?k_Ug ?aUn ?lUn ?c_Un ?k_Un ?aTp ?lTp ?c_Tp ?k_Tp ?aTw ?lTw ?c_Tw ?k_Tw ?aTl ?lTl ?c_Tl ?k_Tl ?aTc ?lTc ?c_Tc ?k_Tc ?aTs ?lTs ?c_Ts ?k_Ts ?aTr ?lTr ?c_Tr ?k_Tr ?aTu ?lTu ?c_Tu ?k_Tu ?aOf ?lOf ?c_Of ?k_Of ?aTg ?lTg ?c_Tg ?k_Tg ?aTt ?lTt ?c_Tt ?k_Tt ?aLb ?lLb ?c_Lb ?k_Lb ?aLd ?lLd ?c_Ld ?k_Ld ?aLr ?lLr ?c_Lr ?k_Lr ?aLu ?lLu ?c_Lu ?k_Lu ?aLc ?lLc ?c_Lc ?k_Lc ?aLx ?lLx ?c_Lx ?k_Lx ?aLg ?lLg ?c_Lg ?k_Lg ?aLp ?lLp ?c_Lp ?k_Lp ?aLf ?lLf ?c_Lf ?k_Lf ?aLq ?lLq ?c_Lq ?k_Lq ?aW ?lW ?c_W ?k_W ?z_abs ?z_divmod ?z_enumerate ?z_int ?z_len ?z_list ?z_max ?z_min ?z_range ?z_sum ?z_zip ?gL ?hL ?kL ?mL ?vL3 ?vL5 ?vL4 ?gN ?hN ?xsb ?xsf ?xhd
    (case xaL => k_is)
    (case xxL => k_is)
    (case xiL => k_is)
    (case xtL => k_is)
    (case xeL => k_is)
    (case xoq => k_is)
    (case xsp => k_is)
    (case xtk => k_is)
    (case xsup => k_is)
    (case xa0 => k_is)
    (case xx0 => k_is)
    (case xsa0 => k_is)
    (case xga0 => k_is)
    (case xgg0 => k_is)
    (case xca0 => k_is)
    (case xnv0 => k_is)
    (case xty0 => k_is)
    (case xkp0 => k_is)
    (case xi0 => k_is)
    (case xt0 => k_is)
    (case xl0 => k_is)
    (case xcd0 => k_is)
    (case xv0 => k_is)
    (case xw0 => rfl)
    (case xce_0 => k_is)
    (case xa1 => k_is)
    (case xx1 => k_is)
    (case xsa1 => k_is)
    (case xga1 => k_is)
    (case xgg1 => k_is)
    (case xca1 => k_is)
    (case xnv1 => k_is)
    (case xty1 => k_is)
    (case xkp1 => k_is)
    (case xi1 => k_is)
    (case xt1 => k_is)
    (case xl1 => k_is)
    (case xcd1 => k_is)
    (case xv1 => k_is)
    (case xw1 => rfl)
    (case xce_1 => k_is)
    (case xa2 => k_is)
    (case xx2 => k_is)
    (case xsa2 => k_is)
    (case xga2 => k_is)
    (case xgg2 => k_is)
    (case xca2 => k_is)
    (case xnv2 => k_is)
    (case xty2 => k_is)
    (case xkp2 => k_is)
    (case xi2 => k_is)
    (case xt2 => k_is)
    (case xl2 => k_is)
    (case xcd2 => k_is)
    (case xv2 => k_is)
    (case xw2 => rfl)
    (case xce_2 => k_is)
    (case aCr => k_is)
    (case lCr => k_is)
    (case c_Cr => k_is)
    (case k_Cr => k_is)
    (case aCf => k_is)
    (case lCf => k_is)
    (case c_Cf => k_is)
    (case k_Cf => k_is)
    (case aIf => k_is)
    (case lIf => k_is)
    (case c_If => k_is)
    (case k_If => k_is)
    (case aSa => k_is)
    (case lSa => k_is)
    (case c_Sa => k_is)
    (case k_Sa => k_is)
    (case aUg => k_is)
    (case lUg => k_is)
    (case c_Ug => k_is)
    (case k_Ug => k_is)
    (case aUn => k_is)
    (case lUn => k_is)
    (case c_Un => k_is)
    (case k_Un => k_is)
    (case aTp => k_is)
    (case lTp => k_is)
    (case c_Tp => k_is)
    (case k_Tp => k_is)
    (case aTw => k_is)
    (case lTw => k_is)
    (case c_Tw => k_is)
    (case k_Tw => k_is)
    (case aTl => k_is)
    (case lTl => k_is)
    (case c_Tl => k_is)
    (case k_Tl => k_is)
    (case aTc => k_is)
    (case lTc => k_is)
    (case c_Tc => k_is)
    (case k_Tc => k_is)
    (case aTs => k_is)
    (case lTs => k_is)
    (case c_Ts => k_is)
    (case k_Ts => k_is)
    (case aTr => k_is)
    (case lTr => k_is)
    (case c_Tr => k_is)
    (case k_Tr => k_is)
    (case aTu => k_is)
    (case lTu => k_is)
    (case c_Tu => k_is)
    (case k_Tu => k_is)
    (case aOf => k_is)
    (case lOf => k_is)
    (case c_Of => k_is)
    (case k_Of => k_is)
    (case aTg => k_is)
    (case lTg => k_is)
    (case c_Tg => k_is)
    (case k_Tg => k_is)
    (case aTt => k_is)
    (case lTt => k_is)
    (case c_Tt => k_is)
    (case k_Tt => k_is)
    (case aLb => k_is)
    (case lLb => k_is)
    (case c_Lb => k_is)
    (case k_Lb => k_is)
    (case aLd => k_is)
    (case lLd => k_is)
    (case c_Ld => k_is)
    (case k_Ld => k_is)
    (case aLr => k_is)
    (case lLr => k_is)
    (case c_Lr => k_is)
    (case k_Lr => k_is)
    (case aLu => k_is)
    (case lLu => k_is)
    (case c_Lu => k_is)
    (case k_Lu => k_is)
    (case aLc => k_is)
    (case lLc => k_is)
    (case c_Lc => k_is)
    (case k_Lc => k_is)
    (case aLx => k_is)
    (case lLx => k_is)
    (case c_Lx => k_is)
    (case k_Lx => k_is)
    (case aLg => k_is)
    (case lLg => k_is)
    (case c_Lg => k_is)
    (case k_Lg => k_is)
    (case aLp => k_is)
    (case lLp => k_is)
    (case c_Lp => k_is)
    (case k_Lp => k_is)
    (case aLf => k_is)
    (case lLf => k_is)
    (case c_Lf => k_is)
    (case k_Lf => k_is)
    (case aLq => k_is)
    (case lLq => k_is)
    (case c_Lq => k_is)
    (case k_Lq => k_is)
    (case aW => k_is)
    (case lW => k_is)
    (case c_W => k_is)
    (case k_W => k_is)
    (case z_abs => k_is)
    (case z_divmod => k_is)
    (case z_enumerate => k_is)
    (case z_int => k_is)
    (case z_len => k_is)
    (case z_list => k_is)
    (case z_max => k_is)
    (case z_min => k_is)
    (case z_range => k_is)
    (case z_sum => k_is)
    (case z_zip => k_is)
    (case gL => k_is)
    (case hL => k_is)
    (case kL => exact ⟨⟨_, _, rfl, rfl⟩, ⟨_, _, rfl, rfl⟩, ⟨_, _, rfl, rfl⟩, trivial⟩)
    (case mL => decide)
    (case vL3 => k_is)
    (case vL5 => k_is)
    (case vL4 => k_is)
    (case gN => k_is)
    (case hN => k_is)
    (case xsb => k_is)
    (case xsf => k_is)
    (case xhd => k_is)
