import PyProof.Rows.All
import Wide.All
import OpenK.AllK
import Wide.FinOn
import KE.KFromBytes
import KE.KExcSuper
import HandS.Base
import HandS.Call
import HandS.Exc
import HandS.Ends
import HandS.Words
import KE.KExcIs
import HandS.ForExc
import HandS.ForMost
import HandS.IsInst
import HandS.Walk
import HandS.TupAny
import HandS.More
import PyProof.WalkInts
import KE.GoesMore
import PyProof.EnumMake
import PyProof.EnumFor
import HandS.Wide
import HandS.WideMore
import PyProof.ReprBulk
import HandS.MakeKwOnly
import PyProof.StrOps2
import HandS.Dict
import HandS.ReplaceLit
import HandS.ReplaceList
import HandS.Replace
import HandS.NoneIn
import HandS.Property
import HandS.Star
import HandS.Style
import HandS.OwnEq
import PyProof.InstEq
import HandS.GenYield
import HandS.GenList
import HandS.Text
import PySem.Challenge.RW_lineends_k49_whole_long_files
set_option Elab.async false
set_option linter.all false
set_option maxRecDepth 100000
set_option maxHeartbeats 4000000
/-! An own error class over ValueError, called by position or by keyword: what it leaves. -/
namespace Lx
open PySem PySem.HandSPX
open PySem.W (Looks)
section
variable {M : Model} {prog : Program} {w : World} {A : Around} {E : Value → Shared → Prop} {R : Result → Shared → Prop}
variable {h : Heap} {gn : Array GenState} {dr : Drawn} {tk : Nat} {os : OsState}
variable {nm q : Str} {C N : Addr} {bs bm bmB : List Value} {hd : Bool} {sn : List Str} {sub : List Value} {ab : Bool} {col : Option Bool} {dd : Option Addr} {k0 k1 k2 k3 k5 : Option Value} {B nid iid : String}
/-- the maker's own check, with keywords -/
theorem newCheck (F : ExcBaseFacts B nid iid bmB) (hT : ∀ Y : String, bm.contains (.type Y) = bmB.contains (.type Y)) {pos : List Value} {kw : List (Str × Value)} {Q : Unit → Shared → Prop}
    (hC : h.get? C = some (excClassObj nm q C N bs bm hd sn sub ab col dd k0 k1 k2 k3 k5 nid)) (hq : Q () ⟨h, gn, dr, tk, os⟩) :
    wpAny M A (checkBuiltinCall nid ⟨.ref C :: pos, kw⟩) Q E ⟨h, gn, dr, tk, os⟩ := by
  have c0 : (Value.ref C :: bm).contains (.type B) = true := by
    rw [List.contains_cons, hT, F.hasB, Bool.or_true]
  have c1 := F.noStar
  simp only [checkBuiltinCall, F.newKind, F.newSplit, F.newRow]
  repeat (first
    | refine wpAny_loadPart_at hC ?_
    | (refine wpAny_isSubtype_exc hC ?_; rw [c0])
    | refine wpAny_staticBase_exc hC ?_
    | refine wpAny_madeBy_exc hC ?_
    | simp only [bne_self_eq_false, Bool.false_eq_true, if_false]
    | wp_step)
  exact hq
/-- the maker: the arguments by position alone are laid -/
theorem newMakes (F : ExcBaseFacts B nid iid bmB) (hT : ∀ Y : String, bm.contains (.type Y) = bmB.contains (.type Y)) {pos : List Value} {kw : List (Str × Value)}
    (hC : h.get? C = some (excClassObj nm q C N bs bm hd sn sub ab col dd k0 k1 k2 k3 k5 nid)) (hl : pos.length ≤ sizeLine)
    (hq : R (.ok (.ret (.ref (h.objs.size + 1)))) ⟨(h.push (W.kdv_tup pos)).push (excO C h.objs.size), gn, dr, tk, os⟩) :
    codeAny (model prog w) A (.builtin nid ⟨.ref C :: pos, kw⟩) R ⟨h, gn, dr, tk, os⟩ := by
  have e1 := F.ends
  have c0 : (Value.ref C :: bm).contains (.type B) = true := by
    rw [List.contains_cons, hT, F.hasB, Bool.or_true]
  have c1 : (Value.ref C :: bm).contains (.type "AttributeError") = false := by
    rw [List.contains_cons, hT, F.noAttr]; rfl
  have c2 : (Value.ref C :: bm).contains (.type "NameError") = false := by
    rw [List.contains_cons, hT, F.noName]; rfl
  refine codeAny_builtinAt F.entry ?_
  unfold Builtin.«BaseException.__new__»
  refine wpAt_bind ?_
  show wpAt _ _ _ (stack >>= _) _ _ _
  refine wpAt_bind (wpAt_stack fun p below => wpAt_of_wpAny ?_)
  wp_walk
  refine wpAt_of_wpAny ?_
  rw [F.owner]
  repeat (first
    | with_reducible refine wpAny_madeHere_exc F.canon hC ?_
    | with_reducible refine wpAny_loadPart_at hC ?_
    | (with_reducible refine wpAny_isSubtype_exc hC ?_; first | rw [c0] | rw [c1] | rw [c2])
    | wp_step)
  show R _ _
  rw [Heap.size_push]
  exact hq
/-- the class's call: the maker, then the class's own __init__ -/
theorem typeCalls (F : ExcBaseFacts B nid iid bmB) (hT : ∀ Y : String, bm.contains (.type Y) = bmB.contains (.type Y)) {pos : List Value} {kw : List (Str × Value)} {fI : Addr} {Q : Fin → Shared → Prop}
    (hC : h.get? C = some (excClassObj nm q C N bs bm hd sn sub ab col dd k0 k1 k2 k3 k5 nid))
    (hi : Looks (model prog w) h (typeLookup (.ref C) "__init__") (some (.ref fI))) (hb : ∀ self, Looks (model prog w) h (bindSpecial (.ref fI) self) (.ref fI, [self])) (hl : pos.length ≤ sizeLine)
    (hq : codeAny (model prog w) A (.call (.ref fI) ⟨.ref (h.objs.size + 1) :: pos, kw⟩)
      (fun r s' => match r with | .ok (.ret v) => v = .none ∧ Q (.done (.ret (.ref (h.objs.size + 1)))) s' | .ok _ => False | .error e => E e s')
      ⟨(h.push (W.kdv_tup pos)).push (excO C h.objs.size), gn, dr, tk, os⟩) :
    wpAny (model prog w) A (Builtin.«type.__call__» ⟨.ref C :: pos, kw⟩) Q E ⟨h, gn, dr, tk, os⟩ := by
  repeat (first | with_reducible refine wpAny_loadPart_at hC ?_ | with_reducible refine wpAny_madeBy_exc hC ?_ | wp_step)
  refine codeAny_call_builtin_code (Code.quiet_builtin _ F.quiet) (newCheck F hT hC ?_)
  refine newMakes F hT hC hl ?_
  show wpAny _ _ _ _ _ _
  have kp : ∀ b o, h.get? b = some o → ((h.push (W.kdv_tup pos)).push (excO C h.objs.size)).get? b = some o := fun b o e => Heap.get?_push_of_some _ (Heap.get?_push_of_some _ e)
  have hC1 := kp _ _ hC
  have hg : ((h.push (W.kdv_tup pos)).push (excO C h.objs.size)).get? (h.objs.size + 1) = some (excO C h.objs.size) := by heap_get
  have hs : (Value.ref C :: bm).contains (.ref C) = true := by simp
  have i1 := hi.keeps kp
  have b1 := (hb (.ref (h.objs.size + 1))).keeps kp
  unfold isInstance
  repeat (first | with_reducible refine wpAny_loadPart_at hg ?_ | (with_reducible refine wpAny_isSubtype_exc hC1 ?_; rw [hs]) | wp_step)
  show wpAny _ _ (typeLookup (.ref C) _) _ _ _
  refine i1.at ?_
  refine wpAny_holding (wpAny_bind (b1.at ?_))
  refine wpAny_bind (wpAny_call (codeAny_mono hq fun r s' z => ?_))
  rcases r with e | (v | _ | _ | _) <;> first | exact z | exact z.elim | skip
  obtain ⟨rfl, z⟩ := z
  first
    | exact wpAny_pure (wpAny_pure z)
    | (wp_walk; exact z)
end
end Lx
namespace Lx
open PySem PySem.HandSPX
open PySem.W (Looks)
open L2 (defArgs defBody defScope)
/-! ### the text of an error's __init__ -/
def inA (a b : Pos) : Arguments := { posonlyargs := [], args := [{ arg := "self", annotation := none, pos := a }, { arg := "value", annotation := none, pos := b }], vararg := none, kwonlyargs := [], kw_defaults := [], kwarg := none, defaults := [] }
def inB (msg : Str) (a b c d e f g i j k : Pos) : List Stmt :=
  [.Expr (.Call (.Attribute (.Call (.Name "super" a) [] [] b) "__init__" c) [.Constant (.str msg) 0 d] [] e) f, .Assign [.Attribute (.Name "self" g) "value" i] (.Name "value" j) k]
def SupCall (msg : Str) (a b c d e : Pos) : Prop := ∀ env : Env, ∃ pl : Sem Bool, eval (.Call (.Attribute (.Call (.Name "super" a) [] [] b) "__init__" c) [.Constant (.str msg) 0 d] [] e) env = (do
  let ov ← attributeBase (.Call (.Name "super" a) [] [] b) "__init__" env (eval (.Call (.Name "super" a) [] [] b) env)
  standAt c.atName
  let (f, first) ← holding [ov] (getMethod ov "__init__" pl)
  callWith e f first (backTo e (starEach [.Constant (.str msg) 0 d] env)) [])
def inS : Scope := { kind := .function, names := [(PySem.Str.ofString "self", .local), (PySem.Str.ofString "value", .local), (PySem.Str.ofString "__class__", .free), (PySem.Str.ofString "super", .globalImplicit)], isGenerator := false, isCoroutine := false, more := [] }
/-- what the written part says of the errors' own base, at L -/
structure LineC (K : PySem.W.Frag) (mg : Str → Option Value) (L : Addr) : Prop where
  gL : mg "LineError" = some (.ref L)
  cls : ∃ n q N bs sn sub ab col dd k0 k1 k2 k3 k5, K.lookup L = some (excClassObj n q L N bs HandSPX.veTail true sn sub ab col dd k0 k1 k2 k3 k5 "ValueError.__new__")
  ini : PySem.W.findIn K (.ref L) "__init__" = some (some (.builtin "ValueError.__init__"))
  ty : PySem.W.typeIn K (.ref L) = some (.type "type")
  exB : PySem.W.subIn K (.ref L) (.type "BaseException") = some true
  sup : PySem.W.nsIn K mainGlobals "super" = some none
  opq : PySem.W.nsIn K cStatics "thirdparty.any" = some none
  sp : PySem.W.specialIn K (.builtin "object.__class__") "__get__" = some (some (.builtin "getset_descriptor.__get__"))
  tk : PySem.W.takesIn K (.builtin "object.__class__") = some true
/-- what the written part says of an error class at C, whose base stands at L; st is the text of its __init__, qual that def's long name, nm the class's name -/
structure ErrC (K : PySem.W.Frag) (file : Str) (mg : Str → Option Value) (L : Addr) (nm qual : Str) (st : Stmt) (C : Addr) : Prop where
  gC : mg nm = some (.ref C)
  cls : ∃ n q N bs sn sub ab col dd k0 k1 k2 k3 k5, K.lookup C = some (excClassObj n q C N bs (.ref L :: HandSPX.veTail) true sn sub ab col dd k0 k1 k2 k3 k5 "ValueError.__new__")
  sa : PySem.W.findIn K (.ref C) "__setattr__" = some (some (.builtin "object.__setattr__"))
  ga : PySem.W.findIn K (.ref C) "__getattribute__" = some (some (.builtin "BaseException.__getattribute__"))
  gg : PySem.W.findIn K (.ref C) "__getattr__" = some none
  ca : PySem.W.findIn K (.ref C) "__class__" = some (some (.builtin "object.__class__"))
  nv : PySem.W.findIn K (.ref C) "value" = some none
  ty : PySem.W.typeIn K (.ref C) = some (.type "type")
  kp : PySem.W.keepIn K (.ref C) = true
  init : ∃ fI : Addr, PySem.W.findIn K (.ref C) "__init__" = some (some (.ref fI)) ∧ PySem.W.typeIn K (.ref fI) = some (.type "function") ∧
    ∃ (oc : Value) (od : Option Addr) (doc pm : Value) (an : Option Addr) (cc cda : Addr) (ct : Value) (osl : Array (Option Value)),
      K.lookup fI = some ⟨oc, od, .func (PySem.W.fnX "__init__" qual (defArgs st) (defBody st) (defScope st) [("__class__", cc)] .none .none doc pm an (.ref cda) ct), osl⟩ ∧ PySem.W.codeIn K (.ref cda) qual = true ∧
      (∃ (cl : Value) (cd : Option Addr) (vs : Array Value) (cs : Array (Option Value)) (tf : Tok), K.lookup cda = some ⟨cl, cd, .fields vs, cs⟩ ∧ vs[2]? = some (.str file tf)) ∧
      ∃ (cl : Value) (cd : Option Addr) (cs : Array (Option Value)), K.lookup cc = some ⟨cl, cd, .cell (some (.ref C)), cs⟩
  tA : ∃ a b, defArgs st = inA a b
  tB : ∃ msg a b c d e f g i j k, defBody st = inB msg a b c d e f g i j k ∧ SupCall msg a b c d e
  tS : defScope st = inS
theorem LineC.along {K : PySem.W.Frag} {mg : Str → Option Value} {L : Addr} (T : LineC K mg L) : PySem.W.alongIn K "__init__" (.ref L :: HandSPX.veTail) = some (some (.builtin "ValueError.__init__")) := by
  obtain ⟨n, q, N, bs, sn, sub, ab, col, dd, k0, k1, k2, k3, k5, hL⟩ := T.cls
  have e := T.ini
  simp only [PySem.W.findIn, hL] at e
  exact e
/-- the chain of classes above C -/
theorem ErrC.chain {K : PySem.W.Frag} {file : Str} {mg : Str → Option Value} {L C : Addr} {nm qual : Str} {st : Stmt} (T : ErrC K file mg L nm qual st C) : ∃ cd : ClassData, PySem.W.clsIn K C = some cd ∧ cd.mro = .ref C :: .ref L :: HandSPX.veTail ∧ cd.hasDict = true := by
  obtain ⟨n, q, N, bs, sn, sub, ab, col, dd, k0, k1, k2, k3, k5, hC⟩ := T.cls
  exact ⟨{ name := n, bases := bs, mro := .ref C :: .ref L :: HandSPX.veTail, ns := N, qualname := q, hasDict := true, slotNames := sn, subclasses := sub, abstract := ab, collection := col, hasDel := false }, by unfold PySem.W.clsIn; rw [hC] <;> rfl, rfl, rfl⟩
theorem ErrC.under {K : PySem.W.Frag} {file : Str} {mg : Str → Option Value} {L C : Addr} {nm qual : Str} {st : Stmt} (T : ErrC K file mg L nm qual st C) (b : Value) : PySem.W.mroIn K C b = some ((Value.ref C :: .ref L :: HandSPX.veTail).contains b) := by
  obtain ⟨cd, e1, e2, _⟩ := T.chain
  unfold PySem.W.mroIn
  rw [e1, Option.bind_some, e2]
  rfl
section
variable {prog : Program} {w : World} {A : Around} {E : Value → Shared → Prop} {R : Result → Shared → Prop} {M : Model}
variable {h : Heap} {gn : Array GenState} {dr : Drawn} {tk : Nat} {os : OsState}
variable {nm q : Str} {C N : Addr} {bs bm bmB : List Value} {hdt : Bool} {sn : List Str} {sub : List Value} {ab : Bool} {col : Option Bool} {dd : Option Addr} {k0 k1 k2 k3 k5 : Option Value} {B nid iid : String}
theorem tcCheck {pos : List Value} {kw : List (Str × Value)} {Q : Unit → Shared → Prop} (hC : h.get? C = some (excClassObj nm q C N bs bm hdt sn sub ab col dd k0 k1 k2 k3 k5 nid)) (hq : Q () ⟨h, gn, dr, tk, os⟩) :
    wpAny M A (checkBuiltinCall "type.__call__" ⟨.ref C :: pos, kw⟩) Q E ⟨h, gn, dr, tk, os⟩ := by
  have f3 := tc_sub
  have hT : (⟨h, gn, dr, tk, os⟩ : Shared).TypeIs (.ref C) "type" := ⟨_, hC, rfl⟩
  simp only [checkBuiltinCall, tc_kind, tc_split]
  repeat (any_goals (first | assumption | with_reducible refine wpAny_loadPart_at hC ?_ | with_reducible refine wpAny_onRaise ?_ | with_reducible refine wpAny_map ?_ | wp_step))
theorem clsCalls (F : ExcBaseFacts B nid iid bmB) (hT : ∀ Y : String, bm.contains (.type Y) = bmB.contains (.type Y)) {pos : List Value} {kw : List (Str × Value)} {fI : Addr}
    (hC : h.get? C = some (excClassObj nm q C N bs bm hdt sn sub ab col dd k0 k1 k2 k3 k5 nid))
    (hi : Looks (model prog w) h (typeLookup (.ref C) "__init__") (some (.ref fI))) (hb : ∀ self, Looks (model prog w) h (bindSpecial (.ref fI) self) (.ref fI, [self])) (hl : pos.length ≤ sizeLine)
    (hq : codeAny (model prog w) (A.under (.builtin "type.__call__" ⟨.ref C :: pos, kw⟩)) (.call (.ref fI) ⟨.ref (h.objs.size + 1) :: pos, kw⟩) (W.InitBack (h.objs.size + 1) R)
      ⟨(h.push (W.kdv_tup pos)).push (excO C h.objs.size), gn, dr, tk, os⟩) :
    codeAny (model prog w) A (.call (.ref C) ⟨pos, kw⟩) R ⟨h, gn, dr, tk, os⟩ := by
  have f1 := tc_lookup
  have f2 := tc_bind (.ref C)
  have hTy : (⟨h, gn, dr, tk, os⟩ : Shared).TypeIs (.ref C) "type" := ⟨_, hC, rfl⟩
  refine codeAny_of_tree ?_
  show wpAny _ _ (callAny (.ref C) _) _ _ _
  repeat (any_goals (first | assumption | with_reducible refine wpAny_loadPart_at hC ?_ | wp_step))
  refine ⟨rfl, ?_⟩
  refine codeAny_call_builtin_at (Code.quiet_builtin _ (by decide +kernel)) entry_typeCall (tcCheck hC (typeCalls F hT hC hi hb hl ?_))
  refine codeAny_mono hq fun r s' z => ?_
  rcases r with e | (v | _ | _ | _) <;> exact z
end
end Lx
namespace Lx
open PySem PySem.HandSPX
open PySem.W (Looks)
open L2 (defArgs defBody defScope)
/-- what __init__ leaves of a fresh error at x -/
structure InitLeft (h h' : Heap) (x C dx t1 : Addr) (v : Value) : Prop where
  keep : ∀ b o, b ≠ x → h.get? b = some o → h'.get? b = some o
  obj : h'.get? x = some { cls := .ref C, dict := some dx, data := .fields #[.ref t1, .none, .none, .none, .bool false, .none] }
  big : h.objs.size ≤ dx
  ne : dx ≠ x
  ns : h'.Ns1 dx (fun y => if y = "value" then some v else none)
/-- the two ways in which the value is handed over -/
inductive Hands (v : Value) : List Value → List (Str × Value) → Prop where
  | pos : Hands v [v] []
  | kw : Hands v [] [("value", v)]
section
variable {prog : Program} {w : World} {A : Around} {E : Value → Shared → Prop} {R : Result → Shared → Prop} {M : Model} {s : Shared}
variable {K : PySem.W.Frag} {mg mb : Str → Option Value} {nm qual : Str} {st : Stmt} {C L : Addr}
theorem initRuns (TL : LineC K mg L) (T : ErrC K prog.main.file mg L nm qual st C) {x t0 fI : Addr} {v : Value} {ps : List Value} {kw : List (Str × Value)} (hv : Hands v ps kw) (htop : (prog.main.scope.names.lookup ("super" : Str)).isSome = false)
    (hfI : PySem.W.findIn K (.ref C) "__init__" = some (some (.ref fI))) (X : K.In s.heap) (G : s.heap.Ns mainGlobals mg) (gs : mg "super" = none) (B : s.heap.Ns builtinsNs mb) (bs : mb "super" = some (.type "super"))
    (hlim : s.heap.NoLimit) (hnx : K.lookup x = none) (hx : s.heap.get? x = some (excO C t0)) (hroom : A.depth < recursionLimit)
    (hq : ∀ h' tk dx t1, InitLeft s.heap h' x C dx t1 v → R (.ok (.ret .none)) { s with heap := h', toks := tk }) :
    codeAny (model prog w) A (.call (.ref fI) ⟨.ref x :: ps, kw⟩) R s := by
  obtain ⟨n, q, N, bss, sn, sub, ab, col, dd, k0, k1, k2, k3, k5, hC⟩ := T.cls
  obtain ⟨bm, ebm⟩ : ∃ bm, bm = (Value.ref L :: HandSPX.veTail) := ⟨_, rfl⟩
  rw [← ebm] at hC
  have hbm : refsVE bm = true := by rw [ebm]; rfl
  have hal := TL.along
  rw [← ebm] at hal
  obtain ⟨f2, e2, tI, oc, od, doc, pm, an, cc, cda, ct, osl, ho, hcd, ⟨cl, cd, vs, cs, tf, hco, hvs⟩, cl2, cd2, cs2, hce⟩ := T.init
  rw [hfI] at e2
  obtain rfl : fI = f2 := Value.ref.inj (Option.some.inj (Option.some.inj e2))
  obtain ⟨a1, a2, eA⟩ := T.tA
  obtain ⟨msg, p0, p1, p2, p3, p4, p5, q1, q2, q3, q4, eB, hsc⟩ := T.tB
  rw [eA, eB, T.tS] at ho
  have hcl : PySem.W.clsIn K C = some { name := n, bases := bss, mro := .ref C :: bm, ns := N, qualname := q, hasDict := true, slotNames := sn, subclasses := sub, abstract := ab, collection := col, hasDel := false } := by
    unfold PySem.W.clsIn; rw [hC] <;> rfl
  have hcC : (Value.ref C :: bm).contains (.ref C) = true := by simp
  have hbase : ∀ Y : String, bm.contains (.type Y) = HandSPX.veTail.contains (.type Y) := fun Y => refsVE_contains Y bm hbm
  refine ks_codeAny_call_defAt (fd := PySem.W.fnX "__init__" qual (inA a1 a2) (inB msg p0 p1 p2 p3 p4 p5 q1 q2 q3 q4) inS [("__class__", cc)] .none .none doc pm an (.ref cda) ct) (body := inB msg p0 p1 p2 p3 p4 p5 q1 q2 q3 q4)
    (binds := [("self", .ref x), ("value", v)]) hroom (X _ _ ho) rfl hlim (PySem.W.codeRec_of X hcd) rfl ?_ (show ∀ y ∈ inS.names, y.2 ≠ .cell by decide) (by intro y hy; simp only [List.mem_cons, List.not_mem_nil, or_false] at hy; rcases hy with rfl | rfl <;> rfl) (fun h1 hns hk => ?_) rfl rfl rfl
  · cases hv with
    | pos => exact .of_eq (by first | rfl | with_unfolding_all rfl)
    | kw => exact .of_eq (by first | rfl | with_unfolding_all rfl)
  have X1 : K.In h1 := X.keeps hk
  have hx1 := hk _ _ hx
  have hC1 := X1 _ _ hC
  have hxC : x ≠ C := fun z => by
    rw [z] at hx1
    rw [hC1] at hx1
    cases hx1
  have hL : s.heap.objs.size ≠ x := Nat.ne_of_gt (Heap.lt_size hx)
  obtain ⟨pl, hpl⟩ := hsc (callEnv (PySem.W.fnX "__init__" qual (inA a1 a2) (inB msg p0 p1 p2 p3 p4 p5 q1 q2 q3 q4) inS [("__class__", cc)] .none .none doc pm an (.ref cda) ct) s.heap.objs.size fI)
  refine ks_wpAt_execs_cons (ks_wpAt_Expr_any (ks_wpAt_MethodCall (pl := pl) ?_ hpl))
  refine ks_wpAt_super_base (env := callEnv (PySem.W.fnX "__init__" qual (inA a1 a2) (inB msg p0 p1 p2 p3 p4 p5 q1 q2 q3 q4) inS [("__class__", cc)] .none .none doc pm an (.ref cda) ct) s.heap.objs.size fI) rfl rfl rfl rfl (X1 _ _ ho) rfl rfl rfl (X1 _ _ hco) rfl hvs (by simp) htop ?_
  refine PySem.W.ks_loadName_global rfl rfl (Calls.loadGlobal_builtin (mg := mg) (mb := mb) ?_ gs ?_ bs ⟨rfl, ?_⟩)
  · obtain ⟨o, es, ep, e, r⟩ := G
    exact ⟨o, es, ep, hk _ _ e, r⟩
  · obtain ⟨o, es, ep, e, r⟩ := B
    exact ⟨o, es, ep, hk _ _ e, r⟩
  refine wpAny_loadName_free rfl rfl (c := cc) rfl ⟨_, X1 _ _ hce, rfl⟩ ?_
  refine wpAny_loadName_local (m := fun y => ([("self", .ref x), ("value", v)] : List (Str × Value)).reverse.lookup y) rfl rfl hns rfl ?_
  refine ks_wpAny_isType_cls hC1 rfl ⟨rfl, ?_⟩
  refine ks_wpAny_call_super (C := C) hC1 rfl hx1 rfl (fun c e => by cases e) (PySem.W.looks_mroIn X1 (by unfold PySem.W.mroIn; rw [hcl, Option.bind_some, if_neg (by simp), hcC])) (fun h2 hso k2' => ?_)
  have X2 : K.In h2 := X1.keeps k2'
  have hx2 := k2' _ _ hx1
  have I2 : PySem.W.InstAt h2 x (excO C t0) C none := ⟨hx2, rfl, rfl, trivial⟩
  refine PySem.W.kxs_getMethod PySem.W.kxs_ValueError hso (PySem.W.looks_opaque X2 TL.opq) (l₀ := .ref C :: bm) (l := bm) (fun A' Q' E' s' k' q' => wpAny_bind ((PySem.W.looks_clsIn X2 hcl) A' _ E' s' k' (wpAny_pure q')))
    (by simp [List.dropWhile_cons]) X2 hal (I2.type.andThen (PySem.W.looks_mroIn X2 ((T.under _).trans (by rfl)))) hxC (by decide) ?_
  have k3 : ∀ b o, h2.get? b = some o → (h2.push (PySem.W.kxs_mw "ValueError.__init__" x)).get? b = some o := fun b o e => Heap.get?_push_of_some _ e
  have hu : (h2.push (PySem.W.kxs_mw "ValueError.__init__" x)).get? h2.objs.size = some (PySem.W.kxs_mw "ValueError.__init__" x) := Heap.get?_push_at rfl rfl
  refine PySem.W.kxs_callWith (i := "ValueError.__init__") (x := x) (by rfl) ?_
  refine Calls.evalArgs_plain ?_
  refine Calls.spliced_cons (wpAny_Constant_str (k := 0) (pos := p3) (Calls.spliced_nil ⟨hu, ?_⟩))
  have hone : ([.str msg s.toks] : List Value).length ≤ sizeLine := by rw [sizeLine_eq]; exact (by decide : 1 ≤ 16777216)
  refine wpAny_call (codeAny_of_tree ?_)
  show wpAny _ _ (callAny (.ref h2.objs.size) _) _ _ _
  simp only [callAny]
  refine wpAny_bind (wpAny_load hu ?_)
  simp only [PySem.W.kxs_mw, show (Value.type "method-wrapper" == Value.type "method" || Value.type "method-wrapper" == Value.type "builtin_function_or_method" || Value.type "method-wrapper" == Value.type "method-wrapper") = true by decide, if_true]
  refine PySem.W.KFB.if_so (by decide) ?_
  refine wpAny_bind (PySem.W.check_bound_init F.excBase_ValueError.toExcCallFacts (k3 _ _ (k2' _ _ hC1)) (k3 _ _ hx2) rfl ?_)
  refine wpAny_bind (wpAny_pure (wpAny_pure ?_))
  refine ⟨plainId_quiet F.excBase_ValueError.init.plain _, codeAny_builtin F.excBase_ValueError.initEntry ?_⟩
  refine PySem.W.exc_init_tree (cls := .ref C) (t0 := t0) (dv := none) (c2 := .none) (c3 := .none) (b4 := .bool false) (k3 _ _ hx2) (by rw [sizeLine_eq]; exact (by decide : 1 ≤ 16777216)) (fun h3 k4 hx3 _ => ?_)
  show wpAt _ _ _ (execs _ _) _ _ _
  have keep3 : ∀ b o, b ≠ x → h1.get? b = some o → h3.get? b = some o := fun b o hb e => k4 b o hb (k3 _ _ (k2' _ _ e))
  have hns3 : h3.Ns s.heap.objs.size (fun y => ([("self", .ref x), ("value", v)] : List (Str × Value)).reverse.lookup y) := by
    obtain ⟨o, es, ep, e, r⟩ := hns
    exact ⟨o, es, ep, keep3 _ _ hL e, r⟩
  have X3 : K.In h3 := fun a o e => keep3 a o (fun z => by
    rw [z, hnx] at e
    cases e) (X1 a o e)
  refine ks_wpAt_execs_cons (ks_wpAt_Assign_Attr ?_)
  refine wpAt_of_wpAny (wpAny_Name (wpAny_loadName_local rfl rfl hns3 rfl ?_))
  refine wpAny_Name (wpAny_loadName_local rfl rfl hns3 rfl ?_)
  refine PySem.W.set_plain X3 (ox := excO C _) (od := none) ⟨hx3, rfl, rfl, trivial⟩ T.sa ?_
  refine exc_osa X3 hx3 hcl (show refsVE (.ref C :: bm) = true from hbm) rfl T.nv (fun h4 tk4 dx k5 dn dne hx4 hn4 => ?_)
  refine wpAt_of_wpAny (wpAny_pure ?_)
  refine hq h4 tk4 dx _ ⟨fun b o hb e => k5 b o hb (keep3 b o hb (hk b o e)), hx4, Nat.le_trans (Nat.le_of_lt hns3.lt) dn, dne, hn4⟩
end
end Lx
namespace Lx
open PySem PySem.HandSPX
/-- a made error, at e, its own dict at d -/
structure ErrMade (h h' : Heap) (e C d : Addr) (v : Value) : Prop where
  keep : ∀ b o, h.get? b = some o → h'.get? b = some o
  ebig : h.objs.size ≤ e
  obj : ∃ t1 : Addr, h'.get? e = some { cls := .ref C, dict := some d, data := .fields #[.ref t1, .none, .none, .none, .bool false, .none] }
  dbig : h.objs.size ≤ d
  ne : d ≠ e
  ns : h'.Ns1 d (fun y => if y = "value" then some v else none)
section
variable {prog : Program} {w : World} {A : Around} {R : Result → Shared → Prop} {s : Shared}
variable {K : PySem.W.Frag} {mg mb : Str → Option Value} {nm qual : Str} {st : Stmt} {C L : Addr}
theorem errMade (TL : LineC K mg L) (T : ErrC K prog.main.file mg L nm qual st C) {v : Value} {ps : List Value} {kw : List (Str × Value)} (hv : Hands v ps kw) (htop : (prog.main.scope.names.lookup ("super" : Str)).isSome = false)
    (X : K.In s.heap) (G : s.heap.Ns mainGlobals mg) (gs : mg "super" = none) (B : s.heap.Ns builtinsNs mb) (bs : mb "super" = some (.type "super")) (hlim : s.heap.NoLimit) (hroom : A.depth + 1 < recursionLimit)
    (hq : ∀ h' tk e d, ErrMade s.heap h' e C d v → R (.ok (.ret (.ref e))) { s with heap := h', toks := tk }) : codeAny (model prog w) A (.call (.ref C) ⟨ps, kw⟩) R s := by
  obtain ⟨n, q, N, bss, sn, sub, ab, col, dd, k0, k1, k2, k3, k5, hC⟩ := T.cls
  obtain ⟨fI, iC, tI, _⟩ := T.init
  obtain ⟨hp, g, dr, tk, os⟩ := s
  have kp : ∀ b o, hp.get? b = some o → ((hp.push (W.kdv_tup ps)).push (excO C hp.objs.size)).get? b = some o := fun b o e => Heap.get?_push_of_some _ (Heap.get?_push_of_some _ e)
  have hget : ((hp.push (W.kdv_tup ps)).push (excO C hp.objs.size)).get? (hp.objs.size + 1) = some (excO C hp.objs.size) := by heap_get
  have hnx : K.lookup (hp.objs.size + 1) = none := by
    cases e : K.lookup (hp.objs.size + 1) with
    | none => rfl
    | some o =>
      have z : hp.get? (hp.objs.size + 1) = some o := X _ _ e
      exact absurd (Nat.lt_of_succ_lt (Heap.lt_size z)) (Nat.lt_irrefl _)
  have hl : ps.length ≤ sizeLine := by
    cases hv with
    | pos => rw [sizeLine_eq]; exact (by decide : 1 ≤ 16777216)
    | kw => exact Nat.zero_le _
  refine clsCalls F.excBase_ValueError (fun Y => refsVE_contains Y (.ref L :: HandSPX.veTail) (by rfl)) (X _ _ hC) (W.looks_findIn X iC) (fun self => W.bind_fn X self tI) hl ?_
  refine initRuns (s := ⟨(hp.push (W.kdv_tup ps)).push (excO C hp.objs.size), g, dr, tk, os⟩) TL T hv htop iC (X.keeps kp) ?_ gs ?_ bs (hlim.keeps kp) hnx hget ?_ fun h' tk' dx t1 I => ?_
  · obtain ⟨o, es, ep, e, r⟩ := G
    exact ⟨o, es, ep, kp _ _ e, r⟩
  · obtain ⟨o, es, ep, e, r⟩ := B
    exact ⟨o, es, ep, kp _ _ e, r⟩
  · show A.depth + 1 < recursionLimit
    exact hroom
  · have z : hp.objs.size + 1 + 1 ≤ dx := by
      first
        | (simpa only [Heap.size_push] using I.big)
        | (have q := I.big; rw [Heap.size_push, Heap.size_push] at q; exact q)
    refine ⟨rfl, hq h' tk' (hp.objs.size + 1) dx ⟨fun b o e => I.keep b o (Nat.ne_of_lt (Nat.lt_succ_of_lt (Heap.lt_size e))) (kp b o e), Nat.le_succ _, ⟨t1, I.obj⟩, (show hp.objs.size ≤ dx by omega), I.ne, I.ns⟩⟩
end
end Lx
namespace Lx
open PySem PySem.Spec L2
/-- at e: an error of the class at C, its own dict at d -/
def errO (e C d : Addr) : HO := .ext fun h => ∃ t1 : Addr, h.get? e = some ({ cls := .ref C, dict := some d, data := .fields #[.ref t1, .none, .none, .none, .bool false, .none] } : Obj)
theorem errO_ok {P : Program} {w : World} {H : Hp} {h : Heap} {e C d t1 : Addr} (he : h.get? e = some ({ cls := .ref C, dict := some d, data := .fields #[.ref t1, .none, .none, .none, .bool false, .none] } : Obj)) : ObjOk P w H h e (errO e C d) :=
  ⟨⟨t1, he⟩, ⟨_, he⟩, fun _ _ ⟨t, q⟩ k => ⟨t, k _ q⟩⟩
theorem errO_at {P : Program} {w : World} {H : Hp} {h : Heap} {e C d : Addr} (hok : HOk P w H h) (he : H e = some (errO e C d)) : ∃ t1 : Addr, h.get? e = some ({ cls := .ref C, dict := some d, data := .fields #[.ref t1, .none, .none, .none, .bool false, .none] } : Obj) := by
  have x : ObjOk P w H h e (.ext fun h => ∃ t1 : Addr, h.get? e = some ({ cls := .ref C, dict := some d, data := .fields #[.ref t1, .none, .none, .none, .bool false, .none] } : Obj)) := hok e _ he
  exact x.1
/-- the fields of a made error -/
abbrev vf (v : V) : List (Str × V) := [(("value" : Str), v)]
theorem relO_vf {v : V} {u : Value} (r : RelV v u) (f : Str) : RelO (List.lookup f (vf v)) (if f = "value" then some u else none) := by
  by_cases hw : f = "value"
  · subst hw
    rw [if_pos rfl]
    have q : List.lookup ("value" : Str) (vf v) = some v := by simp [List.lookup]
    rw [q]
    exact r
  · rw [if_neg hw]
    have qw : (f == ("value" : Str)) = false := by simpa using hw
    have q2 : List.lookup f (vf v) = none := by simp [List.lookup, qw]
    rw [q2]
    trivial
section
variable {X : Cx} {pins : List (Addr × Obj)} {σ : St} {H : Hp} {s : Shared}
/-- two new objects laid at once -/
theorem laid2 {h' : Heap} {d e : Addr} {o1 o2 : HO} {t' : Nat} (I : Inv X pins σ H s) (k : ∀ b u, s.heap.get? b = some u → h'.get? b = some u) (hd : s.heap.objs.size ≤ d) (he : s.heap.objs.size ≤ e)
    (ok1 : ObjOk X.prog X.w (upd (upd H d o1) e o2) h' d o1) (ok2 : ObjOk X.prog X.w (upd (upd H d o1) e o2) h' e o2) : Inv X pins σ (upd (upd H d o1) e o2) { s with heap := h', toks := t' } := by
  have nd : H d = none := I.hok.fresh hd
  have ne : H e = none := I.hok.fresh he
  have old : ∀ b o, H b = some o → upd (upd H d o1) e o2 b = some o := fun b o q => by
    rw [upd_ne (ne_of_none q ne), upd_ne (ne_of_none q nd)]
    exact q
  have lt : ∀ (b : Addr) (o : Obj), s.heap.get? b = some o → b ≠ d ∧ b ≠ e := fun b o q => ⟨Nat.ne_of_lt (Nat.lt_of_lt_of_le (Heap.lt_size q) hd), Nat.ne_of_lt (Nat.lt_of_lt_of_le (Heap.lt_size q) he)⟩
  refine I.un (t' := t') ⟨fun b o q _ _ _ => k b o q, fun b o q _ _ _ => ⟨o.slots, k b o q⟩, fun b o q n _ => ?_, fun b o q _ => ⟨o, k b o q⟩, fun b xs q => old _ _ q, fun b o u q => old _ _ q, fun b ps q => ⟨#[], by rw [old _ _ q]; simp⟩⟩ fun b o q => ?_
  · rw [upd_ne (lt b o q).2, upd_ne (lt b o q).1]
    exact n
  · by_cases h1 : b = e
    · subst h1
      rw [upd_same] at q
      cases q
      exact ok2
    · rw [upd_ne h1] at q
      by_cases h2 : b = d
      · subst h2
        rw [upd_same] at q
        cases q
        exact ok1
      · rw [upd_ne h2] at q
        exact (I.hok b o q).stay (fun c v _ z => k c v z) (fun c z => old _ _ z) fun c xs z => old _ _ z
end
/-- C(e), C(value=e): a new error and its dict -/
def tErr (C : Addr) (ta : TE) : TE := fun σ H Q => ta σ H fun v H1 => ∀ d e : Addr, H1 d = none → H1 e = none → d ≠ e → Q (.ref e) (upd (upd H1 d (.xd (vf v))) e (errO e C d))
/-- raise C(e) -/
def tErrR (C : Addr) (ta : TE) : St → Hp → XK → Prop := fun σ H Q => ta σ H fun v H1 => ∀ d : Addr, H1 d = none → Q (.ref C) (some d) (upd H1 d (.xd (vf v)))
section
variable {X : Cx} {C L : Addr} {nm qual : Str} {st : Stmt} {a : Expr} {ta : TE} {p pos kpos : Pos} {k : Nat}
theorem callErr {pins : List (Addr × Obj)} {σ : St} {H : Hp} {s : Shared} {R : Value → Shared → Prop} {E : Value → Shared → Prop} (TL : LineC X.K X.mg L) (T : ErrC X.K X.prog.main.file X.mg L nm qual st C) (hr : Room k X.A) (htop : (X.prog.main.scope.names.lookup ("super" : Str)).isSome = false) (gs : X.mg "super" = none)
    {v : Value} {ps : List Value} {kw : List (Str × Value)} (hv : Hands v ps kw) (I : Inv X pins σ H s)
    (hq : ∀ h' tk e d, ErrMade s.heap h' e C d v → R (.ref e) { s with heap := h', toks := tk }) : wpAny (model X.prog X.w) X.A (call (.ref C) ps kw) R E s := by
  obtain ⟨mb, hB, hb⟩ := I.mod.blt
  refine wpAny_call (errMade TL T hv htop I.kIn (I.mod.glob.keeps I.bk) gs (hB.keeps I.bk) ((hb _ (by decide)).trans (by decide +kernel)) I.nolimit (by have := hr.dp; omega) fun h' tk e d M => hq h' tk e d M)
theorem errEP {pins : List (Addr × Obj)} {σ : St} {H : Hp} {s : Shared} {h' : Heap} {tk : Nat} {e d : Addr} {v : V} {u : Value} {Q : VK} (I : Inv X pins σ H s) (r : RelV v u) (M : ErrMade s.heap h' e C d u)
    (q : ∀ d e : Addr, H d = none → H e = none → d ≠ e → Q (.ref e) (upd (upd H d (.xd (vf v))) e (errO e C d))) : EP X pins σ Q (.ref e) { s with heap := h', toks := tk } := by
  obtain ⟨t1, ho⟩ := M.obj
  exact ⟨.ref e, _, laid2 (o1 := .xd (vf v)) (o2 := errO e C d) I M.keep M.dbig M.ebig ⟨_, M.ns, fun f => relO_vf r f⟩ (errO_ok ho), rfl, q d e (I.hok.fresh M.dbig) (I.hok.fresh M.ebig) M.ne⟩
/-- C(e) as a value -/
theorem pe_err (TL : LineC X.K X.mg L) (T : ErrC X.K X.prog.main.file X.mg L nm qual st C) (hr : Room k X.A) (htop : (X.prog.main.scope.names.lookup ("super" : Str)).isSome = false) (gs : X.mg "super" = none) (hg : Gl X nm) (he : PE X a ta) (hdb : (nm == ("__debug__" : Str)) = false := by decide)
    (hs : starEach [a] X.env = (false, eval a X.env) :: starEach [] X.env := by rfl) (hpl : (backTo pos (starEach [] X.env)).any (·.1) = false := by rfl) : PE X (.Call (.Name nm p) [a] [] pos) (tErr C ta) := by
  refine ⟨fun pins s σ H Q I h => ?_⟩
  refine wpAny_Call_Name_kw (ld_glob I hg T.gC ?_ hdb)
  refine PySem.W.callWith_K (h₀ := X.base) I.ok.mod.kin T.kp ?_ hs hpl
  rw [hs]
  show wpAny _ _ (spliced ((false, eval a X.env) :: backTo pos (starEach [] X.env))) _ _ s
  refine Calls.spliced_cons (thn (he.run pins s σ H _ I h) fun u s1 ⟨v, H1, I1, r1, q1⟩ => ?_)
  refine Calls.spliced_nil ⟨I1.kIn, ?_⟩
  show wpAny _ _ (call (.ref C) [u]) _ _ _
  exact callErr TL T hr htop gs .pos I1 fun h' tk e d M => errEP I1 r1 M q1
/-- C(value=e) as a value -/
theorem pe_errK (TL : LineC X.K X.mg L) (T : ErrC X.K X.prog.main.file X.mg L nm qual st C) (hr : Room k X.A) (htop : (X.prog.main.scope.names.lookup ("super" : Str)).isSome = false) (gs : X.mg "super" = none) (hg : Gl X nm) (he : PE X a ta) (hdb : (nm == ("__debug__" : Str)) = false := by decide)
    (hall : (backToKw pos (keywordEach [⟨some "value", a, kpos⟩] X.env)).all (·.1.isSome) = true := by rfl) (hks : (backToKw pos (keywordEach [⟨some "value", a, kpos⟩] X.env)).filterMap (·.1) = [("value" : Str)] := by rfl)
    (hpl : ((backTo pos (starEach [] X.env)).any (·.1) || (backToKw pos (keywordEach [⟨some "value", a, kpos⟩] X.env)).any (·.1.isNone)) = false := by rfl) : PE X (.Call (.Name nm p) [] [⟨some "value", a, kpos⟩] pos) (tErr C ta) := by
  refine ⟨fun pins s σ H Q I h => ?_⟩
  refine wpAny_Call_Name_kw (ld_glob I hg T.gC ?_ hdb)
  refine PySem.W.callWith_KW0 (h₀ := X.base) I.ok.mod.kin T.kp hall ?_ hpl
  refine thn ((pk_cons he pk_nil).run pos pins s σ H (fun vs H1 => match vs with | [v] => ∀ d e : Addr, H1 d = none → H1 e = none → d ≠ e → Q (.ref e) (upd (upd H1 d (.xd (vf v))) e (errO e C d)) | _ => False) I h) fun us s1 ⟨vs, H1, I1, r1, q1⟩ => ⟨I1.kIn, ?_⟩
  rw [hks]
  cases r1 with
  | nil => exact q1.elim
  | cons rv rn =>
    cases rn with
    | nil => exact callErr TL T hr htop gs .kw I1 fun h' tk e d M => errEP I1 rv M q1
    | cons _ _ => exact q1.elim
/-- raise C(e): what makes the error -/
theorem pmk_err (TL : LineC X.K X.mg L) (T : ErrC X.K X.prog.main.file X.mg L nm qual st C) (hr : Room k X.A) (htop : (X.prog.main.scope.names.lookup ("super" : Str)).isSome = false) (gs : X.mg "super" = none) (hg : Gl X nm) (he : PE X a ta) (hdb : (nm == ("__debug__" : Str)) = false := by decide)
    (hs : starEach [a] X.env = (false, eval a X.env) :: starEach [] X.env := by rfl) (hpl : (backTo pos (starEach [] X.env)).any (·.1) = false := by rfl) : PMk X (.Call (.Name nm p) [a] [] pos) (tErrR C ta) := by
  intro pins s σ H Q I h
  refine wpAny_Call_Name_kw (ld_glob I hg T.gC ?_ hdb)
  refine PySem.W.callWith_K (h₀ := X.base) I.ok.mod.kin T.kp ?_ hs hpl
  rw [hs]
  show wpAny _ _ (spliced ((false, eval a X.env) :: backTo pos (starEach [] X.env))) _ _ s
  refine Calls.spliced_cons (thn (he.run pins s σ H _ I h) fun u s1 ⟨v, H1, I1, r1, q1⟩ => ?_)
  refine Calls.spliced_nil ⟨I1.kIn, ?_⟩
  show wpAny _ _ (call (.ref C) [u]) _ _ _
  refine callErr TL T hr htop gs .pos I1 fun h' tk e d M => ?_
  obtain ⟨t1, hoe⟩ := M.obj
  have hns := M.ns
  obtain ⟨G', g1, g2⟩ := restrict h' fun b => decide (b ≠ e)
  have gk : ∀ b, b ≠ e → G'.get? b = h'.get? b := fun b hb => g1 b (decide_eq_true hb)
  have ge : G'.get? e = none := g2 e (by simp)
  have old : ∀ b o, s1.heap.get? b = some o → G'.get? b = some o := fun b o q => (gk b (Nat.ne_of_lt (Nat.lt_of_lt_of_le (Heap.lt_size q) M.ebig))).trans (M.keep b o q)
  have ob : ObjOk X.prog X.w (upd H1 d (.xd (vf v))) G' d (.xd (vf v)) := ⟨_, hns.at (fun o q => (gk d M.ne).trans q), fun f => relO_vf r1 f⟩
  have J : Inv X pins σ (upd H1 d (.xd (vf v))) { s1 with heap := G', toks := tk } := I1.laid (t' := tk) old M.dbig ob
  have r : Raises X (.ref C) := raises_own ((T.under _).trans (by rfl)) T.ty
  refine ⟨e, _, _, { s1 with heap := G', toks := tk }, _, .ref C, some d, rfl, J, fun b o q => ?_, ge, hoe, ⟨rfl, rfl⟩, rfl, rfl, ?_, rfl, I1.bare, r, q1 d (I1.hok.fresh M.dbig)⟩
  · by_cases hb : b = e
    · have q' : G'.get? b = some o := q
      rw [hb, ge] at q'
      cases q'
    · exact (gk b hb).symm.trans q
  · rw [upd_ne (Ne.symm M.ne)]
    exact I1.hok.fresh M.ebig
/-- the error's class is asked for -/
theorem kitErr (TL : LineC X.K X.mg L) (T : ErrC X.K X.prog.main.file X.mg L nm qual st C) {x : Addr} {ox : Obj} {od : Option Obj} : PySem.W.KitX X.K (.ref x) (.ref C) (fun h => PySem.W.InstAt h x ox C od) := by
  obtain ⟨cd, e1, e2, e3⟩ := T.chain
  exact PySem.W.kitx_exc (by rw [e1]; rfl) T.ga T.gg ((T.under _).trans (by rfl)) T.ca TL.sp TL.tk ((T.under _).trans (by rfl))
/-- isinstance(e, c), e a made error, c a class of the program (at D) or a built-in one -/
def rIsErr (K : PySem.W.Frag) : List V → Hp → VK → Prop := fun xs H Q => ∃ (e C d : Addr) (v : V) (c : V) (u : Value) (b : Bool), xs = [.ref e, c] ∧ H e = some (errO e C d) ∧ H d = some (.xd (vf v)) ∧ ClsV c u ∧ PySem.W.kitOne K (.ref C) u = some b ∧
  (∃ (file : Str) (mg : Str → Option Value) (L : Addr) (nm qual : Str) (st : Stmt), LineC K mg L ∧ ErrC K file mg L nm qual st C) ∧ Q (.bl b) H
theorem call_isErr : CallR X (.builtin "isinstance") (rIsErr X.K) := by
  intro pins s σ H xs us Q I r h
  obtain ⟨e, C', d, v, c, u, b, rfl, he, hd, hc, hk, ⟨file, mg, L', nm', qual', st', TL, T⟩, q⟩ := h
  obtain ⟨u1, u2, rfl, r1, r2⟩ := vals2 r
  obtain rfl : u1 = Value.ref e := r1
  have e2 := hc.eq r2
  subst e2
  obtain ⟨t1, ho⟩ := errO_at I.hok he
  obtain ⟨mA, hns, _⟩ := (show ∃ mA, s.heap.Ns1 d mA ∧ ∀ f, RelO ((vf v).lookup f) (mA f) from I.hok d _ hd)
  obtain ⟨od, hod, _⟩ := lookIn_ns hns
  obtain ⟨cd, q1, q2, q3⟩ := T.chain
  have Z : PySem.W.KitX X.K (.ref e) (.ref C') (fun h => PySem.W.InstAt h e { cls := .ref C', dict := some d, data := .fields #[.ref t1, .none, .none, .none, .bool false, .none] } C' (some od)) :=
    PySem.W.kitx_exc (by rw [q1]; rfl) T.ga T.gg ((T.under _).trans (by rfl)) T.ca TL.sp TL.tk ((T.under _).trans (by rfl))
  exact PySem.W.kia_one Z I.kIn ⟨ho, rfl, rfl, hod⟩ hk (fun z => nomatch z) fun tk => ⟨.bl b, H, I.tok tk, rfl, q⟩
/-- e.value, e a made error -/
def tErrV (K : PySem.W.Frag) (te : TE) : TE := fun σ H Q => te σ H fun x H1 => ∃ (e C d : Addr) (v : V), x = .ref e ∧ H1 e = some (errO e C d) ∧ H1 d = some (.xd (vf v)) ∧
  (∃ (file : Str) (mg : Str → Option Value) (L : Addr) (nm qual : Str) (st : Stmt), LineC K mg L ∧ ErrC K file mg L nm qual st C) ∧ Q v H1
theorem pe_errV {e : Expr} {te : TE} (he : PE X e te) (hb : attributeBase e "value" X.env (eval e X.env) = eval e X.env := by rfl) : PE X (.Attribute e "value" pos) (tErrV X.K te) := by
  refine ⟨fun pins s σ H Q I h => ?_⟩
  refine attr_of hb (thn (he.run pins s σ H _ I h) fun u s1 hh => ?_)
  obtain ⟨x, H1, I1, rx, e', C', d, v, ex, hoe, hd, ⟨file, mg, L', nm', qual', st', TL, T⟩, q⟩ := hh
  subst ex
  obtain rfl : u = Value.ref e' := rx
  obtain ⟨t1, ho⟩ := errO_at I1.hok hoe
  obtain ⟨mA, hns, hr⟩ := (show ∃ mA, s1.heap.Ns1 d mA ∧ ∀ f, RelO ((vf v).lookup f) (mA f) from I1.hok d _ hd)
  obtain ⟨od, hod, hl⟩ := lookIn_ns hns
  have l : List.lookup ("value" : Str) (vf v) = some v := by simp [List.lookup]
  obtain ⟨u, hu, ru⟩ := RelO.some_of (v := v) (o := mA "value") (by rw [← l]; exact hr "value")
  have J : PySem.W.InstAt s1.heap e' { cls := .ref C', dict := some d, data := .fields #[.ref t1, .none, .none, .none, .bool false, .none] } C' (some od) := ⟨ho, rfl, rfl, hod⟩
  obtain ⟨cd, q1, q2, q3⟩ := T.chain
  have hdict : PySem.W.hasDictIn X.K C' = true := by
    unfold PySem.W.hasDictIn
    rw [q1]
    simpa using q3
  exact HandSPX.exc_get I1.kIn J T.ga T.gg ((T.under _).trans (by rfl)) (PySem.W.findObj_own hdict T.nv rfl (by rw [hl, hu])) (handed_of ru) ⟨v, H1, I1.tok _, ru, q⟩
end
end Lx
namespace Lx
open PySem PySem.Spec L2 PyProof.Rows
/-! ### min of a tuple of ints -/
section
variable {prog : Program} {w : World} {A : Around} {E : Value → Shared → Prop} {s : Shared} {l : Addr}
variable {its : List Value} {ns : List Int} {Q : Value → Shared → Prop}
theorem min_rawT (hh : A.handled = none) (hl : s.heap.IsTuple l its.toArray) (hi : IntsAre its ns) (hne : 0 < ns.length)
    (h : ∀ h' tk M t', (∀ b o, s.heap.get? b = some o → h'.get? b = some o) → M ∈ ns → (∀ a, a ∈ ns → M ≤ a) → Q (.int M t') { s with heap := h', toks := tk }) : wpAny (model prog w) A (call (.builtin "min") [.ref l]) Q E s := by
  obtain ⟨xs, e⟩ := hi.allInts.items
  have hn : numsOf (intItems xs).toList = ns := by rw [← e]; exact hi.numsOf
  rw [nums_intItems] at hn
  subst hn
  rw [e] at hl
  have hsz : 0 < xs.size := by simpa using hne
  have hlt : l < s.heap.objs.size := by obtain ⟨_, e, _⟩ := hl; exact Heap.lt_size e
  refine call_min_walk (wpAny_pyIter_tuple hl ?_)
  refine ⟨_, _, _, _, _, _, _, rfl, Walks.tuple (A := A.in1) hh _ l (Nat.ne_of_lt hlt) (intItems xs), ⟨⟨_, Heap.get?_push_size _ rfl, rfl, rfl⟩, hl.at fun o e => Heap.get?_push_of_some _ e⟩, fun b hb => ?_, by simpa [intItems] using hsz, CmpOf.ints_lt (numAt xs) (fun _ _ => intItems_at), fun v h' tk hP hk => ?_⟩
  · show b < (s.heap.push _).objs.size
    rw [Heap.size_push]
    rcases List.mem_cons.mp hb with rfl | hb
    · exact Nat.lt_succ_self _
    · rcases List.mem_cons.mp hb with rfl | hb
      · exact Nat.lt_succ_of_lt hlt
      · cases hb
  · obtain ⟨t, rfl⟩ := intItems_at hP
    obtain ⟨h1, h2⟩ := argBest_lt (numAt xs) (xs.size - 1)
    have hz : (intItems xs).size = xs.size := by simp [intItems]
    refine h h' tk _ t (fun b o e => hk b o (fun hm => Nat.lt_irrefl _ ((List.mem_singleton.mp hm) ▸ Heap.lt_size e)) (Heap.get?_push_of_some _ e)) ?_ fun a ha => ?_
    · rw [numAt_eq]; exact PySem.getD_mem (by rw [List.length_map, Array.length_toList, hz]; omega)
    · obtain ⟨j, hj, rfl⟩ := mem_getD ha
      rw [List.length_map, Array.length_toList] at hj
      rw [← numAt_eq, hz]; exact h2 j (by omega)
end
def rMinT (K : PySem.W.Frag) : List V → Hp → VK → Prop := fun vs H Q => ∃ (a : Addr) (ns : List Int), vs = [V.ref a] ∧ SqT K H a (ns.map V.int) ∧ 0 < ns.length ∧ ∀ m, m ∈ ns → (∀ y, y ∈ ns → m ≤ y) → Q (.int m) H
theorem call_minT {X : Cx} (hc : X.calm = true) : CallR X (.builtin "min") (rMinT X.K) := by
  intro pins s σ H vs us Q I r h
  obtain ⟨a, ns, rfl, hs, hne, q⟩ := h
  obtain ⟨its, rv, hl, _⟩ := I.tuple hs
  rw [Vals.ref1 r]
  exact min_rawT (I.ok.hd hc) (by obtain ⟨o, h1, h2, n, h3⟩ := hl; exact ⟨o, h1, h2, n, h3⟩) rv.ints hne fun h' tk m t' hk h1 h2 => ⟨.int _, H, I.kept hk, ⟨_, rfl⟩, q m h1 h2⟩
/-! ### get of a written dict -/
def tKGet (K : PySem.W.Frag) (w : World) (td ty : TE) : TE := fun σ H Q => td σ H fun x H1 => ∃ a es n, x = .ref a ∧ KDict K w a es n ∧ ty σ H1 fun y H2 => ∃ (z : Str) (r : Option Value) (v : V), y = .str z ∧ PySem.W.nsIn K a z = some r ∧ RelV v (r.getD .none) ∧ Q v H2
theorem pe_kget {X : Cx} {o e : Expr} {apos cpos : Pos} {td ty : TE} (ho : PE X o td) (he : PE X e ty) (m : M1 X o "get" apos e cpos) : PE X (.Call (.Attribute o "get" apos) [e] [] cpos) (tKGet X.K X.w td ty) := by
  refine ⟨fun pins s σ H Q I h => ?_⟩
  refine wpAny_Call_method m.base m.few m.line PySem.F.plainAttrs_dict PySem.F.slot_dict_get PySem.F.type_dict_get (thn (ho.run pins s σ H _ I h) fun u s1 ⟨x, H1, I1, rx, a, es, n, ex, D, q1⟩ => ?_)
  subst ex
  obtain rfl : u = Value.ref a := rx
  have hm1 := PySem.W.mapOf_K (prog := X.prog) (w := X.w) I1.kIn D.at_ D.lit
  refine ⟨hm1.typeIs, fun b q => ?_, ?_⟩
  · cases q
    exact ⟨_, I1.kIn _ _ D.at_, rfl⟩
  rw [m.trees]
  refine Calls.callWith_builtin rfl (Calls.evalArgs_plain (Calls.spliced_cons (thn (he.run pins s1 σ H1 _ I1 q1) fun iv s2 ⟨y, H2, I2, ry, z, r, v, ey, e, rv, q2⟩ => Calls.spliced_nil ?_)))
  subst ey
  obtain ⟨t, rfl⟩ := ry
  have hm2 := PySem.W.mapOf_K (prog := X.prog) (w := X.w) I2.kIn D.at_ D.lit
  refine call_meetsIn PySem.F.slot_dict_get hm2.typeIs PySem.F.entry_dict_get (PySem.F.args_dict_get_2 _ _) (meets_dict_get (strKind X.prog X.w) a (strKind_is X.prog X.w z t) D.low) ⟨_, hm2, ?_⟩
  rw [PySem.W.find_K D.at_ e]
  exact ⟨v, H2, I2.tok _, rv, q2⟩
end Lx
namespace Lx
open PySem PySem.Spec L2
/-! ### enumerate(text) -/
/-- each sign of x with its place, in a new pair -/
def Itx (x : Str) : It :=
  ⟨fun i _ => i < x.cps.size, fun i H v H' => ∃ T c, v = .ref T ∧ H T = none ∧ H' = upd H T (.tup [.int (i : Nat), .str ⟨#[c]⟩]) ∧ x.cps[i]? = some c, fun i _ => x.cps.size ≤ i⟩
theorem turn_enumS {P : Program} {w : World} {K : PySem.W.Frag} {elts : List Expr} {kk : Nat} {tpos : Pos} (x : Str) (t : Tok) (e it : Addr) :
    Turn P w K (.Tuple elts kk tpos) (Itx x) [e, it] e (fun i h => (∃ old, IsEnum h e it ((i : Nat) : Int) old) ∧ h.IsStrIter it (strIterType x) x t i ∧ e ≠ it ∧ i ≤ x.cps.size) where
  mem := by simp
  obj := fun i h st b hb => by
    obtain ⟨⟨old, he⟩, ⟨o, ho, hc, hd⟩, _, _⟩ := st
    have e' : b = e ∨ b = it := by simpa using hb
    rcases e' with z | z
    · rw [z]; exact ⟨_, he, fun v q => nomatch q⟩
    · rw [z]; exact ⟨o, ho, fun v q => by rw [hd] at q; cases q⟩
  keep := fun i h h' st k => by
    obtain ⟨⟨old, he⟩, ⟨o, ho, r⟩, hne, hle⟩ := st
    exact ⟨⟨old, k e (by simp) _ he⟩, ⟨o, k it (by simp) o ho, r⟩, hne, hle⟩
  item := by
    intro X hP hw hK hc i pins s σ H E I hf st hg
    subst hP hw hK
    obtain ⟨⟨old, he⟩, hit, hne, hle⟩ := st
    have hlt : i < x.cps.size := hg
    have hel : e < s.heap.objs.size := Heap.lt_size he
    have hil : it < s.heap.objs.size := by obtain ⟨_, q, _⟩ := hit; exact Heap.lt_size q
    refine wpAny_pyNext_enum_itemD (Draws.text (A := X.A.in1) (I.ok.hd hc) it x t) he hit hlt hne (by simpa using hne) fun u h' tk hP ho hit' hT hsz hk => ?_
    obtain ⟨c, tc, hcx, rfl⟩ := hP
    refine ⟨_, rfl, wpAny_letOwnedTupleGo_enum (s := { s with heap := h', toks := tk + 1 }) ho fun h'' he' sb => ?_⟩
    have hT2 : h''.get? s.heap.objs.size = some { cls := .type "tuple", data := .seq #[.int i tk, .str ⟨#[c]⟩ tc] } := (sb.2 _ (Nat.ne_of_gt hel)).trans hT
    have new : ObjOk X.prog X.w (upd H s.heap.objs.size (.tup [.int (i : Nat), .str ⟨#[c]⟩])) h'' s.heap.objs.size (.tup [.int (i : Nat), .str ⟨#[c]⟩]) :=
      ⟨by show 2 ≤ sizeLine; decide, [.int i tk, .str ⟨#[c]⟩ tc], .cons ⟨_, rfl⟩ (.cons ⟨_, rfl⟩ .nil), ⟨_, hT2, rfl, _, rfl⟩⟩
    have I1 : Inv X pins σ (upd H s.heap.objs.size (.tup [.int (i : Nat), .str ⟨#[c]⟩])) { s with heap := h'', toks := tk + 1 } :=
      I.turnedNew (ch := [e, it]) (fun b ob hb q => (sb.2 b (fun z => hb (by simp [z]))).trans (hk b ob (fun z => hb (by simp [z])) (fun z => hb (by simp [z])) q)) hf (Nat.le_refl _) new
    refine ⟨.ref s.heap.objs.size, _, I1, rfl, ⟨_, c, rfl, I.hok.fresh (Nat.le_refl _), rfl, hcx⟩, ⟨⟨.str ⟨#[c]⟩ tc, ?_⟩, ?_, hne, hlt⟩, fun b hb => ?_⟩
    · have e1 : ((i + 1 : Nat) : Int) = (i : Int) + 1 := by omega
      rw [e1]; exact he'
    · obtain ⟨o, ho2, r⟩ := hit'
      exact ⟨o, (sb.2 it (Ne.symm hne)).trans ho2, r⟩
    · have hb' : b < s.heap.objs.size := by
        have e' : b = e ∨ b = it := by simpa using hb
        rcases e' with z | z
        · rw [z]; exact hel
        · rw [z]; exact hil
      rw [upd_ne (Nat.ne_of_lt hb')]
      exact (hf b hb).1
  done := by
    intro X hP hw hK hc i pins s σ H E I hf st hg
    subst hP hw hK
    obtain ⟨⟨old, he⟩, hit, hne, hle⟩ := st
    obtain ⟨f0, f1, f2, f3, f4, f5⟩ := hf it (by simp)
    have e1 : i = x.cps.size := Nat.le_antisymm hle hg
    subst e1
    exact wpAny_pyNext_enum_endD (Draws.text (A := X.A.in1) (I.ok.hd hc) it x t) he hit fun h' eb => ⟨rfl, I.turned (t' := s.toks) (fun b o hb q => eb b o hb q) f0 f1 f3 f4 f5⟩
  self := fun A i s Q E st h => let ⟨⟨_, he⟩, _⟩ := st; PySem.wpAny_pyIter_enum he h
def iEnumS (ta : TA) : TI := fun σ H R => ta σ H fun vs H1 => ∃ x, vs = [.str x] ∧ R (Itx x) H1
theorem pi_enumS {X : Cx} {e : Expr} {ta : TA} {p pos tpos : Pos} {elts : List Expr} {kk : Nat} (hg : Gl X "enumerate") (hm : X.mg "enumerate" = none) (ha : PA X [e] ta) (hs : starEach [e] X.env = [(false, eval e X.env)] := by rfl) :
    PI X (.Tuple elts kk tpos) (.Call (.Name "enumerate" p) [e] [] pos) (iEnumS ta) := by
  refine ⟨fun pins s σ H R I h => ?_⟩
  refine PyProof.Rows.Call_ (ld_blt I hg hm PyProof.Rows.boot_enumerate (PyProof.Rows.callWith_type1 (thn (ha.run pos pins s σ H _ I h) fun us s1 ⟨vs, H1, I1, r1, q1⟩ => ?_) hs rfl))
  obtain ⟨x, ex, q⟩ := q1
  subst ex
  cases r1 with
  | cons r rr =>
    cases rr
    obtain ⟨t, rfl⟩ := r
    refine call_enumerate_str fun h' he hit hsz hk => PySem.wpAny_pyIter_enum he ?_
    have I2 : Inv X pins σ H1 { s1 with heap := h' } := I1.kept (t' := s1.toks) hk
    refine ⟨s1.heap.objs.size + 1, [s1.heap.objs.size + 1, s1.heap.objs.size], _, _, H1, rfl, I2, turn_enumS x t (s1.heap.objs.size + 1) s1.heap.objs.size, ⟨⟨.none, he⟩, hit, Nat.succ_ne_self _, Nat.zero_le _⟩, fun b hb => ?_, q⟩
    have e' : b = s1.heap.objs.size + 1 ∨ b = s1.heap.objs.size := by simpa using hb
    have hle : s1.heap.objs.size ≤ b := by
      rcases e' with z | z
      · rw [z]; exact Nat.le_add_right _ _
      · rw [z]; exact Nat.le_refl _
    exact I1.fpOk hle (I1.hok.fresh hle)
theorem walk_enumS {z : Str} : Walk (Itx z) z.cps.size (fun _ => True) (YPair (fun i => some (.int (i : Nat))) (fun i => z.cps[i]?.map fun c => V.str ⟨#[c]⟩)) :=
  ⟨fun _ _ hi _ => hi, fun _ _ => Nat.le_refl _, fun i H v H' _ _ y => by
    obtain ⟨T, c, h1, h2, h3, h4⟩ := y
    exact ⟨T, .int (i : Nat), .str ⟨#[c]⟩, h1, h2, h3, rfl, by simp [h4]⟩⟩
end Lx
namespace Lx
open PySem PySem.Spec L2
/-! ### sizes of numbers -/
def Sm (n : Nat) (x : Int) : Prop := x.natAbs < 2 ^ n
theorem Sm.mono {n m : Nat} {x : Int} (h : Sm n x) (k : n ≤ m) : Sm m x := Nat.lt_of_lt_of_le h (Nat.pow_le_pow_right (by decide) k)
theorem Sm.add {n : Nat} {x y : Int} (h : Sm n x) (k : Sm n y) : Sm (n + 1) (x + y) := by
  unfold Sm at *
  have := Nat.pow_succ 2 n
  omega
theorem Sm.mul {n m : Nat} {x y : Int} (h : Sm n x) (k : Sm m y) : Sm (n + m) (x * y) := by
  unfold Sm at *
  rw [Int.natAbs_mul, Nat.pow_add]
  exact Nat.mul_lt_mul'' h k
theorem Sm.of_le {n : Nat} {x y : Int} (h0 : 0 ≤ x) (h1 : x ≤ y) (k : Sm n y) : Sm n x := by
  unfold Sm at *
  omega
/-! ### forms -/
inductive Fm
  | keep (b a : Int)
  | lf (b a k c : Int)
  | cr (b a k : Int)
namespace Fm
def vs : Fm → List V
  | keep b a => [.str "keep", .int b, .int a]
  | lf b a k c => [.str "lf", .int b, .int a, .int k, .int c]
  | cr b a k => [.str "cr", .int b, .int a, .int k]
def nm : Fm → Str
  | keep _ _ => "keep"
  | lf _ _ _ _ => "lf"
  | cr _ _ _ => "cr"
def b : Fm → Int
  | keep b _ => b
  | lf b _ _ _ => b
  | cr b _ _ => b
def a : Fm → Int
  | keep _ a => a
  | lf _ a _ _ => a
  | cr _ a _ => a
/-- the number of ^ in front of a break with j of them -/
def after (f : Fm) (j : Int) : Int := (if j - f.b > 0 then j - f.b else 0) + f.a
def ahead (b' a' : Int) : Fm → Fm
  | keep _ _ => keep b' a'
  | lf _ _ k c => lf b' a' k c
  | cr _ _ k => cr b' a' k
def both : Fm → Fm → Fm
  | keep b a, g => ahead (b + (if g.b - a > 0 then g.b - a else 0)) ((if a - g.b > 0 then a - g.b else 0) + g.a) g
  | lf b a k c, keep b' a' => lf b a k (after (keep b' a') c)
  | cr b a k, keep _ _ => cr b a k
  | lf b a k c, lf b' a' k' c' => lf b a (k * (after (lf b' a' k' c') c + 1) * k') c'
  | lf b a k c, cr b' a' k' => cr b a (k * (after (cr b' a' k') c + 1) * k')
  | cr b a k, lf _ _ k' c' => lf b a (k * 1 * k') c'
  | cr b a k, cr _ _ k' => cr b a (k * 1 * k')
/-- a form, its numbers below 2 ^ n -/
def Ok (n : Nat) : Fm → Prop
  | keep b a => 0 ≤ b ∧ 0 ≤ a ∧ Sm n b ∧ Sm n a
  | lf b a k c => 0 ≤ b ∧ 0 ≤ a ∧ 0 < k ∧ 0 ≤ c ∧ Sm n b ∧ Sm n a ∧ Sm n k ∧ Sm n c
  | cr b a k => 0 ≤ b ∧ 0 ≤ a ∧ 0 < k ∧ Sm n b ∧ Sm n a ∧ Sm n k
def nums : Fm → List Int
  | keep b a => [b, a]
  | lf b a k c => [b, a, k, c]
  | cr b a k => [b, a, k]
theorem Ok.mono {n m : Nat} (h : n ≤ m) : ∀ {f : Fm}, Ok n f → Ok m f
  | keep _ _, ⟨h1, h2, h3, h4⟩ => ⟨h1, h2, h3.mono h, h4.mono h⟩
  | lf _ _ _ _, ⟨h1, h2, h3, h4, h5, h6, h7, h8⟩ => ⟨h1, h2, h3, h4, h5.mono h, h6.mono h, h7.mono h, h8.mono h⟩
  | cr _ _ _, ⟨h1, h2, h3, h4, h5, h6⟩ => ⟨h1, h2, h3, h4.mono h, h5.mono h, h6.mono h⟩
theorem Ok.b0 {n : Nat} : ∀ {f : Fm}, Ok n f → 0 ≤ f.b ∧ Sm n f.b
  | keep _ _, h => ⟨h.1, h.2.2.1⟩
  | lf _ _ _ _, h => ⟨h.1, h.2.2.2.2.1⟩
  | cr _ _ _, h => ⟨h.1, h.2.2.2.1⟩
theorem Ok.a0 {n : Nat} : ∀ {f : Fm}, Ok n f → 0 ≤ f.a ∧ Sm n f.a
  | keep _ _, h => ⟨h.2.1, h.2.2.2⟩
  | lf _ _ _ _, h => ⟨h.2.1, h.2.2.2.2.2.1⟩
  | cr _ _ _, h => ⟨h.2.1, h.2.2.2.2.1⟩
theorem after_ok {n : Nat} {f : Fm} (h : Ok n f) {j : Int} (h0 : 0 ≤ j) (hj : Sm n j) : 0 ≤ after f j ∧ Sm (n + 1) (after f j) := by
  have hb := h.b0
  have ha := h.a0
  unfold after
  unfold Sm at *
  have := Nat.pow_succ 2 n
  split <;> omega
theorem vs1 (f : Fm) : f.vs[1]? = some (.int f.b) := by cases f <;> rfl
theorem vs2 (f : Fm) : f.vs[2]? = some (.int f.a) := by cases f <;> rfl
theorem vs0 (f : Fm) : f.vs[0]? = some (.str f.nm) := by cases f <;> rfl
end Fm
def FmAt (K : PySem.W.Frag) (H : Hp) (x : V) (f : Fm) : Prop := ∃ p, x = .ref p ∧ SqT K H p f.vs
theorem sameT {K : PySem.W.Frag} {H H' : Hp} {a : Addr} {xs : List V} (e : Same H H') (h : SqT K H a xs) : SqT K H' a xs := by
  rcases h with (h | ⟨o, h⟩) | h
  · exact .inl (.inl (e _ _ h))
  · exact .inl (.inr ⟨o, e _ _ h⟩)
  · exact .inr h
theorem FmAt.same {K : PySem.W.Frag} {H H' : Hp} {x : V} {f : Fm} (e : Same H H') : FmAt K H x f → FmAt K H' x f := fun ⟨p, h1, h2⟩ => ⟨p, h1, sameT e h2⟩
/-! ### runs -/
/-- a group: a tuple that is tracked -/
def PrAt (H : Hp) (v : V) (x : Int × Int) : Prop := ∃ p, v = .ref p ∧ H p = some (.tup [.int x.1, .int x.2])
inductive Prs (K : PySem.W.Frag) (H : Hp) : List V → List (Int × Int) → Prop
  | nil : Prs K H [] []
  | cons {v : V} {vs : List V} {x : Int × Int} {xs : List (Int × Int)} : PrAt H v x → Prs K H vs xs → Prs K H (v :: vs) (x :: xs)
theorem Prs.same {K : PySem.W.Frag} {H H' : Hp} (e : Same H H') : ∀ {vs : List V} {gs : List (Int × Int)}, Prs K H vs gs → Prs K H' vs gs
  | _, _, .nil => .nil
  | _, _, .cons ⟨p, h1, h2⟩ t => .cons ⟨p, h1, e _ _ h2⟩ (t.same e)
theorem Prs.len {K : PySem.W.Frag} {H : Hp} : ∀ {vs : List V} {gs : List (Int × Int)}, Prs K H vs gs → vs.length = gs.length
  | _, _, .nil => rfl
  | _, _, .cons _ t => by rw [List.length_cons, List.length_cons, t.len]
theorem Prs.get {K : PySem.W.Frag} {H : Hp} : ∀ {vs : List V} {gs : List (Int × Int)}, Prs K H vs gs → ∀ {i : Nat} {v : V}, vs[i]? = some v → ∃ x, gs[i]? = some x ∧ PrAt H v x
  | _, _, .nil, i, v, h => by simp at h
  | _, _, .cons h1 t, 0, v, h => by
    have e := Option.some.inj h
    subst e
    exact ⟨_, rfl, h1⟩
  | _, _, .cons h1 t, i + 1, v, h => t.get (i := i) h
theorem Prs.append {K : PySem.W.Frag} {H : Hp} : ∀ {vs ws : List V} {gs hs : List (Int × Int)}, Prs K H vs gs → Prs K H ws hs → Prs K H (vs ++ ws) (gs ++ hs)
  | _, _, _, _, .nil, h => h
  | _, _, _, _, .cons a t, h => .cons a (t.append h)
def GsAt (K : PySem.W.Frag) (H : Hp) (l : Addr) (gs : List (Int × Int)) : Prop := ∃ xs, SqL K H l xs ∧ Prs K H xs gs
def RnAt (K : PySem.W.Frag) (H : Hp) (x : V) (l : Addr) (r : List (Int × Int) × Int) : Prop := ∃ p, x = .ref p ∧ SqT K H p [.ref l, .int r.2] ∧ GsAt K H l r.1
theorem GsAt.same {K : PySem.W.Frag} {H H' : Hp} {l : Addr} {gs : List (Int × Int)} (e : Same H H') : GsAt K H l gs → GsAt K H' l gs := fun ⟨xs, h1, h2⟩ => ⟨xs, e.seq h1, h2.same e⟩
theorem RnAt.same {K : PySem.W.Frag} {H H' : Hp} {x : V} {l : Addr} {r : List (Int × Int) × Int} (e : Same H H') : RnAt K H x l r → RnAt K H' x l r := fun ⟨p, h1, h2, h3⟩ => ⟨p, h1, sameT e h2, h3.same e⟩
/-- groups as the document wants them, numbers below 2 ^ n -/
def GsOk (n : Nat) (gs : List (Int × Int)) : Prop := ∀ (i : Nat) (x : Int × Int), gs[i]? = some x → 1 ≤ x.1 ∧ 0 ≤ x.2 ∧ Sm n x.1 ∧ Sm n x.2 ∧ ∀ y : Int × Int, gs[i + 1]? = some y → y.2 ≠ x.2
structure RnOk (n : Nat) (r : List (Int × Int) × Int) : Prop where
  gs : GsOk n r.1
  rest : 0 ≤ r.2 ∧ Sm n r.2
  len : r.1.length ≤ 1000
def addTo (acc : List (Int × Int)) (x : Int × Int) : List (Int × Int) := match acc.getLast? with
  | some y => if y.2 = x.2 then acc.dropLast ++ [(y.1 + x.1, x.2)] else acc ++ [x]
  | none => acc ++ [x]
def merged (gs : List (Int × Int)) : List (Int × Int) := gs.foldl addTo []
def moved (f : Fm) (gs : List (Int × Int)) : List (Int × Int) := gs.map fun x => (x.1, f.after x.2)
def total (gs : List (Int × Int)) : Int := (gs.map fun x => x.1 * (x.2 + 1)).sum
def units (r : List (Int × Int) × Int) (f : Fm) : Int := total (moved f r.1) + r.2
def runAfter (r : List (Int × Int) × Int) : Fm → List (Int × Int) × Int
  | .keep b a => (merged (moved (.keep b a) r.1), r.2)
  | .lf b a k c => if k * units r (.lf b a k c) = 0 then ([], 0) else ([(k * units r (.lf b a k c), c)], 0)
  | .cr b a k => ([], k * units r (.cr b a k))
end Lx
namespace Lw
open PySem PySem.Spec L2 Lx
def topS (i : Nat) : Stmt := PySem.Challenge.pw_lineends_k49_whole_long_files.main.body.getD i (.Pass ⟨0, 0, 0, 0⟩)
abbrev sWall : Stmt := topS 0
abbrev sChkChain : Stmt := topS 7
abbrev sFoc : Stmt := topS 11
abbrev sBoth : Stmt := topS 12
abbrev sAftKeep : Stmt := topS 13
abbrev sBefKeep : Stmt := topS 14
abbrev sOne : Stmt := topS 15
abbrev sSigns : Stmt := topS 16
abbrev sUog : Stmt := topS 17
abbrev sTextAfterStep : Stmt := topS 20
abbrev sForm : Stmt := topS 24
abbrev sLRng : Stmt := topS 26
abbrev sLDraw : Stmt := topS 27
abbrev sLLine : Stmt := topS 28
abbrev sLMoved : Stmt := topS 29
abbrev sLShownRight : Stmt := topS 30
abbrev sLExact : Stmt := topS 31
abbrev sLaw : Stmt := topS 32
abbrev sLineFile___init__ : Stmt := inClass (topS 22) 0
abbrev sLineFile___eq__ : Stmt := inClass (topS 22) 1
abbrev sLineFile_text : Stmt := inClass (topS 22) 2
abbrev sLineFile_chain : Stmt := inClass (topS 22) 3
abbrev sLineFile_form : Stmt := inClass (topS 22) 4
abbrev sLineFile_breaks : Stmt := inClass (topS 22) 5
abbrev sLineFile_convert : Stmt := inClass (topS 22) 6
abbrev sLineFile_undo : Stmt := inClass (topS 22) 7
abbrev sLineFile_lines : Stmt := inClass (topS 22) 8
abbrev sLineFile_of_lines : Stmt := inClass (topS 22) 9
end Lw
namespace Lx
open PySem PySem.Spec L2
/-! ### one form after another -/
theorem addTo_none (x : Int × Int) : addTo [] x = [x] := rfl
theorem addTo_end (a : List (Int × Int)) (y x : Int × Int) : addTo (a ++ [y]) x = if y.2 = x.2 then a ++ [(y.1 + x.1, x.2)] else a ++ [y] ++ [x] := by
  unfold addTo
  rw [List.getLast?_concat]
  simp
theorem ends {α : Type} : ∀ l : List α, l = [] ∨ ∃ a x, l = a ++ [x]
  | [] => .inl rfl
  | x :: l => by
    rcases ends l with rfl | ⟨a, y, rfl⟩
    · exact .inr ⟨[], x, rfl⟩
    · exact .inr ⟨x :: a, y, rfl⟩
theorem merged_snoc (xs : List (Int × Int)) (x : Int × Int) : merged (xs ++ [x]) = addTo (merged xs) x := by
  unfold merged
  rw [List.foldl_append]
  rfl
theorem addTo_addTo (a : List (Int × Int)) (m m' j : Int) : addTo (addTo a (m, j)) (m', j) = addTo a (m + m', j) := by
  rcases ends a with rfl | ⟨b, z, rfl⟩
  · show addTo ([] ++ [(m, j)]) (m', j) = [(m + m', j)]
    rw [addTo_end, if_pos rfl]
    rfl
  · rw [addTo_end, addTo_end]
    by_cases e : z.2 = j
    · rw [if_pos e, if_pos e, addTo_end, if_pos rfl, Int.add_assoc]
    · rw [if_neg e, if_neg e, addTo_end, if_pos rfl]
def on (h : Int → Int) (gs : List (Int × Int)) : List (Int × Int) := gs.map fun x => (x.1, h x.2)
theorem on_snoc (h : Int → Int) (a : List (Int × Int)) (x : Int × Int) : on h (a ++ [x]) = on h a ++ [(x.1, h x.2)] := by
  unfold on
  rw [List.map_append]
  rfl
theorem merged_on_addTo (h : Int → Int) (a : List (Int × Int)) (x : Int × Int) : merged (on h (addTo a x)) = addTo (merged (on h a)) (x.1, h x.2) := by
  rcases ends a with rfl | ⟨b, y, rfl⟩
  · rfl
  · rw [addTo_end]
    by_cases e : y.2 = x.2
    · rw [if_pos e, on_snoc, merged_snoc, on_snoc, merged_snoc, ← e, addTo_addTo]
    · rw [if_neg e, on_snoc, merged_snoc]
theorem merged_on (h : Int → Int) (n : Nat) : ∀ xs : List (Int × Int), xs.length = n → merged (on h (merged xs)) = merged (on h xs) := by
  induction n with
  | zero =>
    intro xs hx
    rw [List.eq_nil_of_length_eq_zero hx]
    rfl
  | succ n ih =>
    intro xs hx
    rcases ends xs with rfl | ⟨a, x, rfl⟩
    · rfl
    · rw [merged_snoc, merged_on_addTo, ih a (by simpa using hx), on_snoc, merged_snoc]
theorem total_snoc (a : List (Int × Int)) (x : Int × Int) : total (a ++ [x]) = total a + x.1 * (x.2 + 1) := by
  unfold total
  rw [List.map_append, List.sum_append]
  simp
theorem total_addTo (h : Int → Int) (a : List (Int × Int)) (x : Int × Int) : total (on h (addTo a x)) = total (on h a) + x.1 * (h x.2 + 1) := by
  rcases ends a with rfl | ⟨b, y, rfl⟩
  · show total ([] ++ [(x.1, h x.2)]) = total [] + _
    rw [total_snoc]
  · rw [addTo_end]
    by_cases e : y.2 = x.2
    · rw [if_pos e, on_snoc, total_snoc, on_snoc, total_snoc, e, Int.add_mul, Int.add_assoc]
    · rw [if_neg e, on_snoc, total_snoc]
theorem total_on (h : Int → Int) (n : Nat) : ∀ xs : List (Int × Int), xs.length = n → total (on h (merged xs)) = total (on h xs) := by
  induction n with
  | zero =>
    intro xs hx
    rw [List.eq_nil_of_length_eq_zero hx]
    rfl
  | succ n ih =>
    intro xs hx
    rcases ends xs with rfl | ⟨a, x, rfl⟩
    · rfl
    · rw [merged_snoc, total_addTo, ih a (by simpa using hx), on_snoc, total_snoc]
theorem moved_on (f : Fm) (gs : List (Int × Int)) : moved f gs = on f.after gs := rfl
theorem on_on (h h' : Int → Int) (gs : List (Int × Int)) : on h' (on h gs) = on (fun j => h' (h j)) gs := by
  unfold on
  rw [List.map_map]
  rfl
theorem posI (x : Int) : 0 ≤ (if x > 0 then x else 0) ∧ ((if x > 0 then x else 0) = x ∨ ((if x > 0 then x else 0) = 0 ∧ x ≤ 0)) := by
  by_cases h : x > 0
  · rw [if_pos h]; omega
  · rw [if_neg h]; omega
theorem after_both (b a : Int) (g : Fm) (j : Int) : g.after ((Fm.keep b a).after j) = ((Fm.keep b a).both g).after j := by
  have e : ∀ b' a' : Int, (if (if j - b > 0 then j - b else 0) + a - b' > 0 then (if j - b > 0 then j - b else 0) + a - b' else 0) + a' =
      (if j - (b + (if b' - a > 0 then b' - a else 0)) > 0 then j - (b + (if b' - a > 0 then b' - a else 0)) else 0) + ((if a - b' > 0 then a - b' else 0) + a') := by
    intro b' a'
    have p1 := posI (j - b)
    have p2 := posI (b' - a)
    have p3 := posI (a - b')
    generalize (if j - b > 0 then j - b else 0) = A at *
    generalize (if b' - a > 0 then b' - a else 0) = B at *
    generalize (if a - b' > 0 then a - b' else 0) = C at *
    have p4 := posI (A + a - b')
    have p5 := posI (j - (b + B))
    generalize (if A + a - b' > 0 then A + a - b' else 0) = D at *
    generalize (if j - (b + B) > 0 then j - (b + B) else 0) = E at *
    omega
  cases g with
  | keep b' a' => exact e b' a'
  | lf b' a' k c => exact e b' a'
  | cr b' a' k => exact e b' a'
theorem units_both (r : List (Int × Int) × Int) (b a : Int) (g : Fm) : units (runAfter r (.keep b a)) g = units r ((Fm.keep b a).both g) := by
  show total (moved g (merged (moved (.keep b a) r.1))) + r.2 = total (moved _ r.1) + r.2
  rw [moved_on, total_on _ _ _ rfl, moved_on, on_on, moved_on]
  have e : (fun j => g.after ((Fm.keep b a).after j)) = ((Fm.keep b a).both g).after := funext fun j => after_both b a g j
  rw [e]
theorem units_one (n c : Int) (g : Fm) : units ([(n, c)], 0) g = n * (g.after c + 1) := by
  show total ([] ++ [(n, g.after c)]) + 0 = _
  rw [total_snoc]
  show 0 + n * (g.after c + 1) + 0 = _
  omega
theorem units_none (n : Int) (g : Fm) : units ([], n) g = n := by
  show (0 : Int) + n = n
  omega
theorem runAfter_both (r : List (Int × Int) × Int) (f g : Fm) : runAfter (runAfter r f) g = runAfter r (f.both g) := by
  cases f with
  | keep b a =>
    have hu := units_both r b a g
    cases g with
    | keep b' a' =>
      show (merged (moved (.keep b' a') (merged (moved (.keep b a) r.1))), r.2) = (merged (moved _ r.1), r.2)
      rw [moved_on, merged_on _ _ _ rfl, moved_on, on_on, moved_on]
      have e : (fun j => (Fm.keep b' a').after ((Fm.keep b a).after j)) = ((Fm.keep b a).both (.keep b' a')).after := funext fun j => after_both b a _ j
      rw [e]
      rfl
    | lf b' a' k' c' =>
      show (if k' * units (runAfter r (.keep b a)) (.lf b' a' k' c') = 0 then (([] : List (Int × Int)), (0 : Int)) else ([(k' * units (runAfter r (.keep b a)) (.lf b' a' k' c'), c')], 0)) = _
      rw [hu]
      rfl
    | cr b' a' k' =>
      show (([] : List (Int × Int)), k' * units (runAfter r (.keep b a)) (.cr b' a' k')) = _
      rw [hu]
      rfl
  | lf b a k c =>
    by_cases z : k * units r (.lf b a k c) = 0
    · rw [show runAfter r (.lf b a k c) = ([], 0) from if_pos z]
      cases g with
      | keep b' a' =>
        show (([] : List (Int × Int)), (0 : Int)) = if k * units r (.lf b a k c) = 0 then ([], 0) else _
        rw [if_pos z]
      | lf b' a' k' c' =>
        have e : k * ((Fm.lf b' a' k' c').after c + 1) * k' * units r (.lf b a k c) = 0 := by
          rw [show k * ((Fm.lf b' a' k' c').after c + 1) * k' * units r (.lf b a k c) = ((Fm.lf b' a' k' c').after c + 1) * k' * (k * units r (.lf b a k c)) by
            simp only [Int.mul_assoc, Int.mul_comm, Int.mul_left_comm], z, Int.mul_zero]
        show (if k' * units ([], 0) (.lf b' a' k' c') = 0 then (([] : List (Int × Int)), (0 : Int)) else _) = if k * ((Fm.lf b' a' k' c').after c + 1) * k' * units r (.lf b a k c) = 0 then ([], 0) else _
        rw [units_none, Int.mul_zero, if_pos rfl, if_pos e]
      | cr b' a' k' =>
        have e : k * ((Fm.cr b' a' k').after c + 1) * k' * units r (.lf b a k c) = 0 := by
          rw [show k * ((Fm.cr b' a' k').after c + 1) * k' * units r (.lf b a k c) = ((Fm.cr b' a' k').after c + 1) * k' * (k * units r (.lf b a k c)) by
            simp only [Int.mul_assoc, Int.mul_comm, Int.mul_left_comm], z, Int.mul_zero]
        show (([] : List (Int × Int)), k' * units ([], 0) (.cr b' a' k')) = ([], k * ((Fm.cr b' a' k').after c + 1) * k' * units r (.lf b a k c))
        rw [units_none, Int.mul_zero, e]
    · rw [show runAfter r (.lf b a k c) = ([(k * units r (.lf b a k c), c)], 0) from if_neg z]
      cases g with
      | keep b' a' =>
        show (merged [(k * units r (.lf b a k c), (Fm.keep b' a').after c)], (0 : Int)) = if k * units r (.lf b a k c) = 0 then ([], 0) else ([(k * units r (.lf b a k c), (Fm.keep b' a').after c)], 0)
        rw [if_neg z]
        rfl
      | lf b' a' k' c' =>
        show (if k' * units ([(k * units r (.lf b a k c), c)], 0) (.lf b' a' k' c') = 0 then (([] : List (Int × Int)), (0 : Int)) else ([(k' * units ([(k * units r (.lf b a k c), c)], 0) (.lf b' a' k' c'), c')], 0)) =
          if k * ((Fm.lf b' a' k' c').after c + 1) * k' * units r (.lf b a k c) = 0 then ([], 0) else ([(k * ((Fm.lf b' a' k' c').after c + 1) * k' * units r (.lf b a k c), c')], 0)
        rw [units_one, show k' * (k * units r (.lf b a k c) * ((Fm.lf b' a' k' c').after c + 1)) = k * ((Fm.lf b' a' k' c').after c + 1) * k' * units r (.lf b a k c) by
          simp only [Int.mul_assoc, Int.mul_comm, Int.mul_left_comm]]
      | cr b' a' k' =>
        show (([] : List (Int × Int)), k' * units ([(k * units r (.lf b a k c), c)], 0) (.cr b' a' k')) = ([], k * ((Fm.cr b' a' k').after c + 1) * k' * units r (.lf b a k c))
        rw [units_one, show k' * (k * units r (.lf b a k c) * ((Fm.cr b' a' k').after c + 1)) = k * ((Fm.cr b' a' k').after c + 1) * k' * units r (.lf b a k c) by
          simp only [Int.mul_assoc, Int.mul_comm, Int.mul_left_comm]]
  | cr b a k =>
    cases g with
    | keep b' a' => rfl
    | lf b' a' k' c' =>
      show (if k' * units ([], k * units r (.cr b a k)) (.lf b' a' k' c') = 0 then (([] : List (Int × Int)), (0 : Int)) else ([(k' * units ([], k * units r (.cr b a k)) (.lf b' a' k' c'), c')], 0)) =
        if k * 1 * k' * units r (.cr b a k) = 0 then ([], 0) else ([(k * 1 * k' * units r (.cr b a k), c')], 0)
      rw [units_none, Int.mul_one, show k' * (k * units r (.cr b a k)) = k * k' * units r (.cr b a k) by simp only [Int.mul_assoc, Int.mul_comm, Int.mul_left_comm]]
    | cr b' a' k' =>
      show (([] : List (Int × Int)), k' * units ([], k * units r (.cr b a k)) (.cr b' a' k')) = ([], k * 1 * k' * units r (.cr b a k))
      rw [units_none, Int.mul_one, show k' * (k * units r (.cr b a k)) = k * k' * units r (.cr b a k) by simp only [Int.mul_assoc, Int.mul_comm, Int.mul_left_comm]]
end Lx
/-! promises of defs that are called where no repr is at work -/
namespace Lx
open PySem PySem.Spec L2
open PyProof.Rows (AllBare IntsAre)
/-- as FnOk, at callers in which no guarded call (a repr, a comparison) runs -/
structure FnG (P : Program) (w : World) (K : PySem.W.Frag) (mg : Str → Option Value) (base : Heap) (CX : CXT) (k : Nat) (f : Addr) (fd : FuncData) (ps : List Str) (sp : Sp) : Prop where
  len : ∀ vs H Q E, sp vs H Q E → vs.length = ps.length
  go : ∀ (A : Around) (outer : List Env) (s : Shared) (H : Hp) (args : Args) (us : List Value) (vs : List V) (Q : VK) (E : XK), Room k A → A.guards = some [] → Env0 P w K mg base A outer s H → BindsTo s fd args (ps.zip us) → Vals vs us → sp vs H Q E →
    codeAny (model P w) A (.call (.ref f) args) (CR CX outer P w H s Q E) s
section
variable {P : Program} {w : World} {K : PySem.W.Frag} {mg : Str → Option Value} {base : Heap} {CX : CXT}
theorem FnG.of {k : Nat} {f : Addr} {fd : FuncData} {ps : List Str} {sp : Sp} (F : FnOk P w K mg base CX k f fd ps sp) : FnG P w K mg base CX k f fd ps sp :=
  ⟨F.len, fun A outer s H args us vs Q E hr _ he hb hv hs => F.run A outer s H args us vs Q E hr he hb hv hs⟩
/-- a def's promise by its body -/
theorem okG {x qual : Str} {st : Stmt} {f : Addr} {fd : FuncData} {N ps : List Str} {k : Nat} {sp : Sp} (F : Fun K x qual st f fd) (S : FnScope N ps (defScope st)) (len : ∀ vs H Q E, sp vs H Q E → vs.length = ps.length)
    (hb : ∀ (cdv : Value) (A : Around) (outer : List Env) (s : Shared) (H : Hp) (vs : List V) (Q : VK) (E : XK), Room k (A.deeper (PyProof.Rows.envOfC qual (defScope st) s.heap.objs.size f cdv)) → A.guards = some [] → sp vs H Q E →
      ∃ t, PSs (cxOf CX P w K mg base N qual (defScope st) f cdv A outer s H E) (defBody st) t ∧ t { nx := fun _ H' => Q .non H', rt := Q } (start N vs) H) : FnG P w K mg base CX (k + 1) f fd ps sp := by
  obtain ⟨oc, od, kV, doc, pm, an, cdv, ct, osl, rfl, lk, hcd⟩ := F.ex
  refine ⟨len, fun A outer s H args us vs Q E hr hg e0 hbd r hsp => ?_⟩
  have X : K.In s.heap := e0.mod.kin.keeps fun b o e => (e0.bs b o e).1
  have lim : s.heap.NoLimit := e0.mod.nolimit.keeps fun b o e => (e0.bs b o e).1
  refine codeAny_call_function hr.depth (X _ _ lk) rfl S.co S.gen rfl (PySem.W.codeRec_of X hcd) (hbd _ _ _ _ ?_)
  refine wpAny_newFunctionEnv_cells S.kind (fun y hy => ?_) fun env he s1 x1 => ?_
  · obtain ⟨n, v⟩ := y
    rcases S.par n (List.of_mem_zip hy).1 with q | q
    · exact .inl q
    · exact .inr ⟨q, PySem.W.cellsFrom_some _ _ _ (.inl q)⟩
  · subst he
    refine ⟨lim.keeps x1.toInCall.keep, codeAny_func ?_⟩
    obtain ⟨t, ht, hq⟩ := hb cdv A outer s H vs Q E (hr.deeper _) hg hsp
    have I := inv_start (CX := CX) (E := E) S hr.hd e0 (len _ _ _ _ hsp) r x1
    refine wpAny_mono (ht.run [] s1 (start N vs) H _ I hq) (fun fl s2 z => ?_) fun _ _ z => z
    rcases fl with _ | _ | _ | u
    all_goals first
      | (obtain ⟨_, _, _, q⟩ := z; exact q.elim)
      | (obtain ⟨σ2, H2, J, q⟩ := z; exact ⟨V.non, H2, J.os, J.bare, J.base, J.hok, rfl, q⟩)
      | (obtain ⟨v2, σ2, H2, J, rv, q⟩ := z; exact ⟨v2, H2, J.os, J.bare, J.base, J.hok, rv, q⟩)
end
section
variable {X : Cx} {CX : CXT} {k : Nat} {f : Addr} {fd : FuncData} {ps : List Str} {sp : Sp} {dvs : List V} {ds : List Value} {E : XK} {x : Str} {p pos : Pos} {e : Expr} {es : List Expr} {t : TA}
/-- f(e, ..) -/
theorem pe_callG (F : FnG X.prog X.w X.K X.mg X.base CX k f fd ps sp) (hG : X.A.guards = some []) (hr : Room k X.A) (hg : Gl X x) (hm : X.mg x = some (.ref f)) (hk : PySem.W.keepIn X.K (.ref f) = true) (hb : Binds X.K fd ps ds) (hd : Vals dvs ds) (hx : Passes CX X E)
    (ha : PA X (e :: es) t) (hdb : (x == ("__debug__" : Str)) = false := by decide) (he : starEach (e :: es) X.env = (false, eval e X.env) :: starEach es X.env := by rfl) (hpl : (backTo pos (starEach es X.env)).any (·.1) = false := by rfl) :
    PE X (.Call (.Name x p) (e :: es) [] pos) (tCall sp dvs E t) := by
  refine ⟨fun pins s σ H Q I h => ?_⟩
  refine wpAny_Call_Name_kw (ld_glob I hg hm ?_ hdb)
  refine PySem.W.callWith_K (h₀ := X.base) I.ok.mod.kin hk (thn (ha.run pos pins s σ H _ I h) fun us s1 ⟨vs, H1, I1, r, q⟩ => ⟨I1.kIn, ?_⟩) he hpl
  have r2 : Vals (vs ++ dvs) (us ++ ds) := r.append hd
  have hl : (us ++ ds).length = ps.length := by rw [← r2.length]; exact F.len _ _ _ _ q
  show wpAny _ _ (call (.ref f) us) _ _ _
  refine wpAny_call (codeAny_mono (F.go X.A X.stack s1 H1 ⟨us, []⟩ (us ++ ds) (vs ++ dvs) Q E hr hG I1.env0 (hb s1 us I1.kIn hl) r2 q) fun res s' hq => ?_)
  rcases res with er | fl
  · exact hx pins σ H1 s1 er s' I1 hq
  · rcases fl with _ | _ | _ | u
    all_goals first
      | exact I1.after hq
      | exact False.elim hq
end
/-- the heap in which nothing but the script is told -/
def onlyAt (a : Addr) (o : Obj) (ns : List Int) : Hp := fun b => if b = a then some (.frz o (.lst (ns.map V.int))) else none
section
variable {P : Program} {w : World} {K : PySem.W.Frag} {mg mb : Str → Option Value} {CX : CXT} {k : Nat} {fa a : Addr} {fd : FuncData} {x : Str} {sp : Sp} {s : Shared} {vs : List Value} {ns : List Int}
/-- the law's call, from an abstract heap that tells of the script at most -/
theorem lawFrom (KX : K.In s.heap) (hns : s.heap.Ns mainGlobals mg) (hbl : s.heap.Ns builtinsNs mb) (hbb : ∀ x : Str, x ≠ "__name__" → mb x = bootBuiltins x) (hlim : s.heap.NoLimit) (hg : s.gens = #[]) {o : Obj} (ho : s.heap.get? a = some o) (hdict : ∀ es ep, o.data ≠ .dict es ep)
    (hr : Room k callerA) (F : ∀ base : Heap, K.In base → base.Ns mainGlobals mg → FnG P w K mg base CX k fa fd [x] sp) (hbind : ∀ (s : Shared) (u : Value), BindsTo s fd ⟨[u], []⟩ [(x, u)])
    (H : Hp) (hok : HOk P w H s.heap) (hA : ∀ b, H b ≠ none → b = a ∧ K.lookup a = none ∧ H a = some (.frz o (.lst (ns.map V.int)))) (hsp : sp [.ref a] H (fun v _ => v = .bl true) fun _ _ _ => False) (hCX : ∀ e s', CX [] H s (fun _ _ _ => False) e s' → False) :
    codeAny (model P w) callerA (.call (.ref fa) ⟨[.ref a], []⟩) (fun r s' => r = .ok (.ret (.bool true)) ∧ OldK s.heap s'.heap ∧ s'.os = s.os ∧ AllBare s'.gens) s := by
  have free : ∀ {b : Addr} {u : Obj}, s.heap.get? b = some u → (∃ es ep, u.data = .dict es ep) → H b = none := fun {b u} e ⟨es, ep, d⟩ => by
    cases q : H b with
    | none => rfl
    | some z =>
      obtain ⟨rfl, _, _⟩ := hA b (by rw [q]; simp)
      rw [ho] at e
      cases e
      exact (hdict es ep d).elim
  have nsK : ∀ {b : Addr} {m : Str → Option Value}, s.heap.Ns b m → (hidT s.heap H).Ns b m := fun {b m} ⟨u, es, ep, e, d, r⟩ => ⟨u, es, ep, hidT_get e (free e ⟨es, ep, d⟩), d, r⟩
  have kb : K.In (hidT s.heap H) := fun b u e => hidT_get (KX b u e) (by
    cases q : H b with
    | none => rfl
    | some z =>
      obtain ⟨rfl, q2, _⟩ := hA b (by rw [q]; simp)
      rw [q2] at e
      cases e)
  have hM : Mod K mg (hidT s.heap H) := ⟨kb, nsK hns, ⟨mb, nsK hbl, hbb⟩, let ⟨mc, h1, h2⟩ := hlim; ⟨mc, nsK h1, h2⟩⟩
  have e0 : Env0 P w K mg (hidT s.heap H) callerA [] s H := ⟨rfl, hM, fun b u e => of_hidT e, Nat.le_of_eq (hidT_size _ _), trivial, fun b hb => absurd (show b ∈ ([] : List Addr) from hb) (by simp), hok, .of_eq hg⟩
  refine codeAny_mono ((F _ kb (nsK hns)).go callerA [] s H ⟨[.ref a], []⟩ [.ref a] [.ref a] _ _ hr rfl e0 (hbind s (.ref a)) (.cons rfl .nil) hsp) fun r s' h => ?_
  rcases r with e | fl
  · exact (hCX e s' h).elim
  · rcases fl with _ | _ | _ | u
    all_goals first
      | exact False.elim h
      | skip
    obtain ⟨v, H', os, bare, un, hok', r', q⟩ := h
    obtain rfl : v = .bl true := q
    obtain rfl : u = Value.bool true := r'
    refine ⟨rfl, OldK.of_keep fun b u e => ?_, os, bare⟩
    cases q : H b with
    | none => exact un.keep b u e q (fun z => absurd (show b ∈ ([] : List Addr) from z) (by simp)) (by simp)
    | some z =>
      obtain ⟨rfl, _, q3⟩ := hA b (by rw [q]; simp)
      obtain ⟨e2, _⟩ := hok' b _ (un.frzs b o _ q3)
      rw [ho] at e
      cases e
      exact e2
theorem lawCall (KX : K.In s.heap) (hns : s.heap.Ns mainGlobals mg) (hbl : s.heap.Ns builtinsNs mb) (hbb : ∀ x : Str, x ≠ "__name__" → mb x = bootBuiltins x) (hlim : s.heap.NoLimit) (hg : s.gens = #[])
    (ha : s.heap.get? a = some { cls := .type "list", data := .seq vs.toArray }) (hi : IntsAre vs ns) (hl : ns.length ≤ sizeLine) (hr : Room k callerA)
    (F : ∀ base : Heap, K.In base → base.Ns mainGlobals mg → FnG P w K mg base CX k fa fd [x] sp) (hbind : ∀ (s : Shared) (u : Value), BindsTo s fd ⟨[u], []⟩ [(x, u)])
    (hsp : ∀ H : Hp, SqL K H a (ns.map V.int) → sp [.ref a] H (fun v _ => v = .bl true) fun _ _ _ => False) (hCX : ∀ H e s', CX [] H s (fun _ _ _ => False) e s' → False) :
    codeAny (model P w) callerA (.call (.ref fa) ⟨[.ref a], []⟩) (fun r s' => r = .ok (.ret (.bool true)) ∧ OldK s.heap s'.heap ∧ s'.os = s.os ∧ AllBare s'.gens) s := by
  have rv := vals_ints hi
  cases hk : K.lookup a with
  | some o =>
    have e := KX a o hk
    rw [ha] at e
    cases e
    refine lawFrom KX hns hbl hbb hlim hg ha (fun _ _ z => by cases z) hr F hbind (ns := ns) (fun _ => none) (fun b u z => by cases z) (fun b z => absurd rfl z) (hsp _ ?_) (hCX _)
    exact .inr ⟨_, vs.toArray, _, hk, rfl, rfl, rfl, by rw [List.size_toArray, hi.length]; exact hl, by simpa using rv⟩
  | none =>
    refine lawFrom KX hns hbl hbb hlim hg ha (fun _ _ z => by cases z) hr F hbind (ns := ns) (onlyAt a { cls := .type "list", data := .seq vs.toArray } ns) (fun b u z => ?_) (fun b z => ?_) (hsp _ (.inl (.inr ⟨_, if_pos rfl⟩))) (hCX _)
    · by_cases hb : b = a
      · have q := (if_pos hb).symm.trans z
        cases q
        subst hb
        exact ⟨ha, by rw [List.length_map]; exact hl, vs, _, rv, ha⟩
      · have q := (if_neg hb).symm.trans z
        cases q
    · by_cases hb : b = a
      · exact ⟨hb, hk, if_pos rfl⟩
      · exact absurd (if_neg hb) z
end
/-- the end of a law's row -/
theorem endG {l : PySem.W.OpenLaw} {n k : Nat} {q : Program} {loose : List Str} {XP : (Str → Option Value) → Heap → Prop} {YP : World → Heap → Prop} {d : DefRec} {K : Params → PySem.W.Frag} {CX : World → CXT} {sp : World → Sp} {x : Str}
    (hn : l.most = some n) (hn2 : n ≤ sizeLine) (hdf : d.params.defaults = []) (hr : Room k callerA) (hY : ∀ (w : World) (h : Heap), YP w h → (K w.params).In h)
    (F : ∀ (w : World) (mg : Str → Option Value) (fa : Addr) (h : Heap), (K w.params).In h → h.Ns mainGlobals mg → mg d.name = some (.ref fa) →
      ∃ fd : FuncData, (∀ (s : Shared) (u : Value), BindsTo s fd ⟨[u], []⟩ [(x, u)]) ∧ ∀ base : Heap, (K w.params).In base → base.Ns mainGlobals mg → FnG l.prog w (K w.params) mg base (CX w) k fa fd [x] (sp w))
    (hsp : ∀ (w : World) (H : Hp) (a : Addr) (ns : List Int), ns.length ≤ n → SqL (K w.params) H a (ns.map V.int) → sp w [.ref a] H (fun v _ => v = .bl true) fun _ _ _ => False)
    (hCX : ∀ (w : World) (H : Hp) (s : Shared) (e : Value) (s' : Shared), CX w [] H s (fun _ _ _ => False) e s' → False) : PySem.W.WalkO q loose XP YP l.row.toRowW d [] (fun f vs => PySem.call f vs) := by
  refine Att.attach_call hn hdf fun w s₀ s₁ mg mb fa o pm cd doc a vs ns G Y ho hd hcd hmg hobj hints hlen hg => ?_
  obtain ⟨fd, hb, hF⟩ := F w mg fa _ (hY w _ Y) G.T.g hmg
  exact lawCall (hY w _ Y) G.T.g G.T.b G.T.builtins G.T.nolimit hg hobj hints (Nat.le_trans hlen hn2) hr hF hb (fun H hS => hsp w H a ns hlen hS) fun H e s' => hCX w H s₁ e s'
end Lx
namespace Lx
open PySem PySem.Spec L2
/-! ### repr of data -/
structure Fit (d : PyData) : Prop where
  can : d.showable = true
  no : d.hasDict = false
  dep : d.depth ≤ 40
  len : d.shown.length ≤ sizeLine
/-- repr(x), x data -/
def rRepr (K : PySem.W.Frag) : List V → Hp → VK → Prop := fun xs H Q => ∃ x d, xs = [x] ∧ Dp K H x d ∧ Fit d ∧ Q (.str d.shown) H
theorem call_reprD {X : Cx} (hG : X.A.guards = some []) (hu : X.A.units + 64 < cLine) : CallR X (.builtin "repr") (rRepr X.K) := by
  intro pins s σ H xs us Q I r h
  obtain ⟨x, d, rfl, hd, F, q⟩ := h
  obtain ⟨u, rfl, r1⟩ := vals1 r
  obtain ⟨as, rd⟩ := Dp.reads I d x u hd r1
  have big : ∀ a : Addr, u = .ref a → wpAny (model X.prog X.w) X.A (call (.builtin "repr") [u]) (EP X pins σ Q) X.xe s := fun a e => by
    subst e
    exact repr_of_reads' rd F.can (PyData.noDict_hsm F.no) hG (by have := F.dep; omega) (fun _ _ e => e) (fun h' t tk kp => ⟨.str d.shown, H, I.kept (t' := tk) kp, ⟨t, rfl⟩, q⟩) F.len
  cases hd with
  | non =>
    cases r1
    exact P.repr_of_none ⟨.str _, H, I.tok _, ⟨_, rfl⟩, q⟩
  | bl b =>
    cases r1
    exact P.repr_of_bool ⟨.str _, H, I.tok _, ⟨_, rfl⟩, by cases b <;> exact q⟩
  | int i =>
    obtain ⟨t, rfl⟩ := r1
    exact P.repr_of_int (of_decide_eq_true F.can) ⟨.str _, H, I.tok _, ⟨_, rfl⟩, q⟩
  | str y =>
    obtain ⟨t, rfl⟩ := r1
    exact P.repr_of_str ⟨.str _, H, I.tok _, ⟨_, rfl⟩, q⟩ F.len
  | lst _ _ => exact big _ r1
  | tup _ _ => exact big _ r1
/-! ### which class is which -/
section
variable {K : PySem.W.Frag} {file : Str} {mg : Str → Option Value} {L C D : Addr} {nm qual nm2 qual2 : Str} {st st2 : Stmt}
theorem ErrC.some_ (T : ErrC K file mg L nm qual st C) : (PySem.W.clsIn K C).isSome = true := by
  obtain ⟨cd, e, _⟩ := T.chain
  rw [e]; rfl
theorem LineC.some_ (T : LineC K mg L) : (PySem.W.clsIn K L).isSome = true := by
  obtain ⟨n, q, N, bs, sn, sub, ab, col, dd, k0, k1, k2, k3, k5, hL⟩ := T.cls
  unfold PySem.W.clsIn
  rw [hL] <;> rfl
theorem kit_ref {b : Bool} (h1 : (PySem.W.clsIn K D).isSome = true) (h2 : PySem.W.typeIn K (.ref D) = some (.type "type")) (T : ErrC K file mg L nm qual st C) (h : (Value.ref C :: .ref L :: HandSPX.veTail).contains (.ref D) = b) : PySem.W.kitOne K (.ref C) (.ref D) = some b := by
  unfold PySem.W.kitOne
  by_cases e : C = D
  · subst e
    have z : (Value.ref C == Value.ref C) = true := by simp
    rw [if_pos z, ← h]
    simp
  · have z : ¬ (Value.ref C == Value.ref D) = true := by simpa using e
    rw [if_neg z]
    show (if ((PySem.W.clsIn K D).isSome && PySem.W.typeIn K (.ref D) == some (.type "type")) = true then PySem.W.subIn K (.ref C) (.ref D) else none) = some b
    rw [h1, h2, if_pos (by rfl)]
    exact (T.under _).trans (by rw [h])
theorem kit_err (T : ErrC K file mg L nm qual st C) (T2 : ErrC K file mg L nm2 qual2 st2 D) (hD : D ≠ L) : PySem.W.kitOne K (.ref C) (.ref D) = some (decide (C = D)) := by
  refine kit_ref T2.some_ T2.ty T ?_
  rw [List.contains_cons, List.contains_cons]
  have e1 : (Value.ref D == Value.ref L) = false := by simpa using hD
  have e2 : List.contains HandSPX.veTail (Value.ref D) = false := by rfl
  rw [e1, e2]
  by_cases e : C = D
  · subst e; simp
  · have z : (Value.ref D == Value.ref C) = false := by simpa using Ne.symm e
    rw [z, decide_eq_false e]; rfl
theorem kit_line (TL : LineC K mg L) (T : ErrC K file mg L nm qual st C) : PySem.W.kitOne K (.ref C) (.ref L) = some true := kit_ref TL.some_ TL.ty T (by simp)
theorem kit_ve (T : ErrC K file mg L nm qual st C) : PySem.W.kitOne K (.ref C) (.type "ValueError") = some true := by
  unfold PySem.W.kitOne
  rw [if_neg (by simp)]
  show (if PySem.W.kitMeta "ValueError" = true then PySem.W.subIn K (.ref C) (.type "ValueError") else none) = some true
  rw [if_pos (by decide +kernel)]
  exact (T.under _).trans (by rfl)
end
/-! ### data that repr can write -/
/-- ints below 2 ^ 400, texts of plain signs -/
def small : PyData → Bool
  | .none | .bool _ => true
  | .int i => decide (i.natAbs < 2 ^ 400)
  | .str x => x.cps.toList.all fun c => decide (c < 128)
  | .list xs | .tuple xs => smallAll xs
  | .dict _ => false
where smallAll : List PyData → Bool
  | [] => true
  | x :: xs => small x && smallAll xs
theorem int_log {i : Int} (h : i.natAbs < 2 ^ 400) : i.natAbs.log2 < 400 := PySem.Flt.log2_lt_of (by decide) h
theorem int_shown {i : Int} (h : i.natAbs < 2 ^ 400) : (PyData.shown (.int i)).length ≤ 401 := by
  have e := int_text_length_le (k := 400) (by decide) (int_log h)
  show (Str.ofString (toString i)).length ≤ 401
  rw [ofString_length]
  omega
mutual
theorem small_can : ∀ d : PyData, small d = true → d.showable = true
  | .none, _ => rfl
  | .bool _, _ => rfl
  | .int i, h => by
    have e := int_log (of_decide_eq_true (show decide (i.natAbs < 2 ^ 400) = true by simpa only [small] using h))
    simp only [PyData.showable]
    exact decide_eq_true (by omega)
  | .str _, _ => rfl
  | .list xs, h => by
    simp only [PyData.showable]
    exact small_canAll xs (by simpa only [small] using h)
  | .tuple xs, h => by
    simp only [PyData.showable]
    exact small_canAll xs (by simpa only [small] using h)
  | .dict _, h => by simp [small] at h
theorem small_canAll : ∀ xs : List PyData, small.smallAll xs = true → PyData.showableAll xs = true
  | [], _ => rfl
  | x :: xs, h => by
    have h' : small x = true ∧ small.smallAll xs = true := by simpa only [small.smallAll, Bool.and_eq_true] using h
    simp only [PyData.showableAll, Bool.and_eq_true]
    exact ⟨small_can x h'.1, small_canAll xs h'.2⟩
end
mutual
theorem small_no : ∀ d : PyData, small d = true → d.hasDict = false
  | .none, _ => rfl
  | .bool _, _ => rfl
  | .int i, h => rfl
  | .str _, _ => rfl
  | .list xs, h => by
    simp only [PyData.hasDict]
    exact small_noAll xs (by simpa only [small] using h)
  | .tuple xs, h => by
    simp only [PyData.hasDict]
    exact small_noAll xs (by simpa only [small] using h)
  | .dict _, h => by simp [small] at h
theorem small_noAll : ∀ xs : List PyData, small.smallAll xs = true → PyData.hasDictAll xs = false
  | [], _ => rfl
  | x :: xs, h => by
    have h' : small x = true ∧ small.smallAll xs = true := by simpa only [small.smallAll, Bool.and_eq_true] using h
    simp only [PyData.hasDictAll, Bool.or_eq_false_iff]
    exact ⟨small_no x h'.1, small_noAll xs h'.2⟩
end
mutual
theorem small_leaves : ∀ d : PyData, small d = true → d.leavesShort 401 = true
  | .none, _ => rfl
  | .bool _, _ => rfl
  | .int i, h => by
    have e := int_shown (of_decide_eq_true (show decide (i.natAbs < 2 ^ 400) = true by simpa only [small] using h))
    simp only [PyData.leavesShort]
    exact decide_eq_true e
  | .str x, h => by
    simp only [PyData.leavesShort, List.all_eq_true, decide_eq_true_eq]
    simp only [small, List.all_eq_true, decide_eq_true_eq] at h
    intro c hc
    exact Nat.lt_of_lt_of_le (h c hc) (by decide)
  | .list xs, h => by
    simp only [PyData.leavesShort]
    exact small_leavesAll xs (by simpa only [small] using h)
  | .tuple xs, h => by
    simp only [PyData.leavesShort]
    exact small_leavesAll xs (by simpa only [small] using h)
  | .dict _, h => by simp [small] at h
theorem small_leavesAll : ∀ xs : List PyData, small.smallAll xs = true → PyData.leavesShortAll 401 xs = true
  | [], _ => rfl
  | x :: xs, h => by
    have h' : small x = true ∧ small.smallAll xs = true := by simpa only [small.smallAll, Bool.and_eq_true] using h
    simp only [PyData.leavesShortAll, Bool.and_eq_true]
    exact ⟨small_leaves x h'.1, small_leavesAll xs h'.2⟩
end
theorem fit_small {d : PyData} (h : small d = true) (hd : d.depth ≤ 40) (hb : d.bulk ≤ 40000) : Fit d := by
  refine ⟨small_can d h, small_no d h, hd, ?_⟩
  have e := PyData.shown_le_bulk 401 (by decide) d (small_leaves d h)
  have e2 : (401 + 2) * d.bulk ≤ 403 * 40000 := Nat.mul_le_mul (by decide) hb
  rw [sizeLine_eq]
  omega
end Lx
namespace Lx
open PySem PySem.Spec L2 PyProof.Rows
/-! ### f(k = v, ..) of a def -/
section
variable {X : Cx} {CX : CXT} {k : Nat} {f : Addr} {fd : FuncData} {ps ks : List Str} {sp : Sp} {E : XK} {x : Str} {p pos : Pos} {kws : List Keyword} {tk : TA} {g : List Value → List Value → List Value} {gV : List V → List V → List V}
theorem pe_callK0 (F : FnOk X.prog X.w X.K X.mg X.base CX k f fd ps sp) (hr : Room k X.A) (hg : Gl X x) (hm : X.mg x = some (.ref f)) (hk : PySem.W.keepIn X.K (.ref f) = true) (hb : KBinds X.K fd ps ks g gV) (hx : Passes CX X E)
    (hkw : PK X kws tk) (hall : (backToKw pos (keywordEach kws X.env)).all (·.1.isSome) = true := by rfl) (hks : (backToKw pos (keywordEach kws X.env)).filterMap (·.1) = ks := by rfl)
    (hdb : (x == ("__debug__" : Str)) = false := by decide) (hpl : ((backTo pos (starEach [] X.env)).any (·.1) || (backToKw pos (keywordEach kws X.env)).any (·.1.isNone)) = false := by rfl) :
    PE X (.Call (.Name x p) [] kws pos) (tCallK sp gV E tNil tk) := by
  refine ⟨fun pins s σ H Q I h => ?_⟩
  refine wpAny_Call_Name_kw (ld_glob I hg hm ?_ hdb)
  refine PySem.W.callWith_KW0 (h₀ := X.base) I.ok.mod.kin hk hall ?_ hpl
  refine thn (hkw.run pos pins s σ H _ I h) fun ws s2 ⟨zs, H2, I2, rz, q2⟩ => ⟨I2.kIn, ?_⟩
  rw [hks]
  exact run_fnk (us := []) (vs := []) F hr hb hx I2 .nil rz q2
end
/-- two keywords, the second parameter's first -/
def g21 (α : Type) : List α → List α → List α
  | [], [a, b] => [b, a]
  | _, _ => []
def g1 (α : Type) : List α → List α → List α
  | [], [a] => [a]
  | _, _ => []
theorem kb21 {K : PySem.W.Frag} {x qual : Str} {st : Stmt} {f : Addr} {fd : FuncData} {p1 p2 : Str} (F : Fun K x qual st f fd)
    (h : ∀ (kV doc pm : Value) (an : Option Addr) (cdv ct a b : Value), bindArgs (PySem.W.fnOf x qual (defArgs st) (defBody st) (defScope st) .none kV doc pm an cdv ct) ⟨[], [(p2, a), (p1, b)]⟩ = pure [(p1, b), (p2, a)]) : KBinds K fd [p1, p2] [p2, p1] (g21 Value) (g21 V) := by
  obtain ⟨oc, od, kV, doc, pm, an, cdv, ct, osl, rfl, lk, hcd⟩ := F.ex
  refine ⟨fun s us ws _ hl => ?_, fun {vs us zs ws} r1 r2 => ?_⟩
  · match us, ws, hl with
    | [], [a, b], _ => exact .of_eq (h kV doc pm an cdv ct a b)
    | [], [], hl => exact absurd hl (by simp [g21])
    | [], [_], hl => exact absurd hl (by simp [g21])
    | [], _ :: _ :: _ :: _, hl => exact absurd hl (by simp [g21])
    | _ :: _, _, hl => exact absurd hl (by simp [g21])
  · cases r1 with
    | cons _ _ => exact .nil
    | nil =>
      cases r2 with
      | nil => exact .nil
      | cons a t =>
        cases t with
        | nil => exact .nil
        | cons b t =>
          cases t with
          | nil => exact .cons b (.cons a .nil)
          | cons _ _ => exact .nil
theorem kb1 {K : PySem.W.Frag} {x qual : Str} {st : Stmt} {f : Addr} {fd : FuncData} {p1 : Str} (F : Fun K x qual st f fd)
    (h : ∀ (kV doc pm : Value) (an : Option Addr) (cdv ct a : Value), bindArgs (PySem.W.fnOf x qual (defArgs st) (defBody st) (defScope st) .none kV doc pm an cdv ct) ⟨[], [(p1, a)]⟩ = pure [(p1, a)]) : KBinds K fd [p1] [p1] (g1 Value) (g1 V) := by
  obtain ⟨oc, od, kV, doc, pm, an, cdv, ct, osl, rfl, lk, hcd⟩ := F.ex
  refine ⟨fun s us ws _ hl => ?_, fun {vs us zs ws} r1 r2 => ?_⟩
  · match us, ws, hl with
    | [], [a], _ => exact .of_eq (h kV doc pm an cdv ct a)
    | [], [], hl => exact absurd hl (by simp [g1])
    | [], _ :: _ :: _, hl => exact absurd hl (by simp [g1])
    | _ :: _, _, hl => exact absurd hl (by simp [g1])
  · cases r1 with
    | cons _ _ => exact .nil
    | nil =>
      cases r2 with
      | nil => exact .nil
      | cons a t =>
        cases t with
        | nil => exact .cons a .nil
        | cons _ _ => exact .nil
end Lx
/-! texts repeated -/
namespace Lx
open PySem PySem.Spec L2
/-- the signs of a text, n times -/
def rep (x : Str) (n : Nat) : Str := ⟨((List.replicate n x.cps.toList).flatten).toArray⟩
theorem rep_list (x : Str) (n : Nat) : (rep x n).cps.toList = (List.replicate n x.cps.toList).flatten := rfl
theorem rep_len (x : Str) (n : Nat) : (rep x n).length = x.length * n := by
  show ((List.replicate n x.cps.toList).flatten).toArray.size = x.cps.size * n
  rw [List.size_toArray, List.length_flatten, List.map_replicate, List.sum_replicate_nat, Array.length_toList, Nat.mul_comm]
theorem rep_one (x : Str) : rep x 1 = x := by
  have e : (rep x 1).cps.toList = x.cps.toList := by simp [rep_list]
  exact Str.ext' (Array.toList_inj.mp e)
theorem rep_zero (x : Str) : rep x 0 = Str.empty := rfl
theorem fold_rep (a : Array Nat) : ∀ (n : Nat) (b : Array Nat), ((List.replicate n a).foldl (· ++ ·) b).toList = b.toList ++ (List.replicate n a.toList).flatten
  | 0, b => by simp
  | n + 1, b => by
    rw [List.replicate_succ, List.foldl_cons, fold_rep a n, List.replicate_succ, List.flatten_cons, Array.toList_append, List.append_assoc]
theorem rep_fold (x : Str) (n : Nat) : (⟨(List.replicate n x.cps).foldl (· ++ ·) #[]⟩ : Str) = rep x n := by
  have e : ((List.replicate n x.cps).foldl (· ++ ·) #[]).toList = (rep x n).cps.toList := by
    rw [fold_rep, rep_list]; rfl
  exact Str.ext' (Array.toList_inj.mp e)
theorem rep_empty (x : Str) (n : Nat) (h : x.length = 0) : rep x n = x := by
  have e : x.cps.toList = [] := List.eq_nil_of_length_eq_zero (by rw [Array.length_toList]; exact h)
  have e2 : (rep x n).cps.toList = x.cps.toList := by
    rw [rep_list, e]
    induction n with
    | zero => rfl
    | succ n ih => rw [List.replicate_succ, List.flatten_cons, ih]; rfl
  exact Str.ext' (Array.toList_inj.mp e2)
/-- text * k -/
def rRepS : R2 := fun x y H Q => ∃ (z : Str) (k : Int), x = .str z ∧ y = .int k ∧ 0 ≤ k ∧ k < 1000000000 ∧ z.length * k.toNat ≤ sizeLine ∧ Q (.str (rep z k.toNat)) H
theorem op_repS {X : Cx} : OpR X (binaryOp .Mult) rRepS := by
  intro pins s σ H x y v u Q I rx ry h
  obtain ⟨z, k, rfl, rfl, h0, h1, hz, q⟩ := h
  obtain ⟨t, rfl⟩ := rx
  obtain ⟨t', rfl⟩ := ry
  have hlong : PySem.Builtin.Str.tooLong (z.length * k.toNat) = false := by
    unfold PySem.Builtin.Str.tooLong
    exact decide_eq_false (by omega)
  refine P.mul_str (by rw [decide_eq_false (by omega), decide_eq_false (by omega)]; rfl) (fun hk _ => ?_) (fun _ _ => hlong) ?_
  · have e : (z.length : Int) * k ≤ 2 ^ 63 - 1 := by
      have e1 : (z.length : Int) * k = ((z.length * k.toNat : Nat) : Int) := by
        rw [Int.natCast_mul, Int.toNat_of_nonneg h0]
      have e2 : sizeLine ≤ 9223372036854775807 := by rw [sizeLine_eq]; decide
      rw [e1]
      omega
    have hkp : 0 < k := by omega
    have := Int.le_ediv_of_mul_le hkp e
    omega
  · by_cases hk : k < 1
    · rw [if_pos hk]
      have e : k.toNat = 0 := by omega
      rw [e, rep_zero] at q
      exact ⟨by decide, ⟨.str _, H, I.tok _, ⟨_, rfl⟩, q⟩⟩
    · rw [if_neg hk]
      by_cases h2 : (k == 1 || z.length == 0) = true
      · rw [if_pos h2]
        have e : rep z k.toNat = z := by
          rcases Bool.or_eq_true_iff.mp h2 with e | e
          · have e' : k.toNat = 1 := by have := beq_iff_eq.mp e; omega
            rw [e', rep_one]
          · exact rep_empty _ _ (beq_iff_eq.mp e)
        rw [e] at q
        exact ⟨.str _, H, I, ⟨_, rfl⟩, q⟩
      · rw [if_neg h2, rep_fold]
        exact ⟨by rw [rep_len]; exact hz, ⟨.str _, H, I.tok _, ⟨_, rfl⟩, q⟩⟩
end Lx
namespace Lw
open PySem PySem.Spec L2 Lx
theorem same_upd {H : Hp} {p : Addr} {o : HO} (h : H p = none) : Same H (upd H p o) := fun b x e => by
  rw [upd_ne (ne_of_none e h)]
  exact e
abbrev steps : Str := "UDMN"
def ChOk (x : Str) : Prop := ∀ c ∈ x.cps.toList, c ∈ steps.cps.toList
abbrev nothing : Fm := .keep 0 0
def stepF (c : Nat) : Fm := if c = 85 then .keep 0 1 else if c = 68 then .keep 1 0 else if c = 77 then .lf 0 0 1 0 else .cr 0 0 1
def formL (cs : List Nat) : Fm := cs.foldl (fun f c => f.both (stepF c)) nothing
def formOf (x : Str) : Fm := formL x.cps.toList
def FLe (L : Nat) : Fm → Prop
  | .keep b a => 0 ≤ b ∧ b ≤ L ∧ 0 ≤ a ∧ a ≤ L
  | .lf b a k c => 0 ≤ b ∧ b ≤ L ∧ 0 ≤ a ∧ a ≤ L ∧ 0 < k ∧ Sm (13 * L + 1) k ∧ 0 ≤ c ∧ c ≤ L
  | .cr b a k => 0 ≤ b ∧ b ≤ L ∧ 0 ≤ a ∧ a ≤ L ∧ 0 < k ∧ Sm (13 * L + 1) k
theorem sm_le {L : Nat} {x : Int} (h0 : 0 ≤ x) (h : x ≤ L) : Sm (13 * L + 1) x := by
  have h1 : L < 2 ^ L := Nat.lt_two_pow_self
  have h2 : 2 ^ L ≤ 2 ^ (13 * L + 1) := Nat.pow_le_pow_right (by decide) (by omega)
  unfold Sm
  omega
theorem FLe.ok {L : Nat} : ∀ {f : Fm}, FLe L f → f.Ok (13 * L + 1)
  | .keep _ _, ⟨h1, h2, h3, h4⟩ => ⟨h1, h3, sm_le h1 h2, sm_le h3 h4⟩
  | .lf _ _ _ _, ⟨h1, h2, h3, h4, h5, h6, h7, h8⟩ => ⟨h1, h3, h5, h7, sm_le h1 h2, sm_le h3 h4, h6, sm_le h7 h8⟩
  | .cr _ _ _, ⟨h1, h2, h3, h4, h5, h6⟩ => ⟨h1, h3, h5, sm_le h1 h2, sm_le h3 h4, h6⟩
theorem step_cases {c : Nat} (h : c ∈ steps.cps.toList) : stepF c = .keep 0 1 ∨ stepF c = .keep 1 0 ∨ stepF c = .lf 0 0 1 0 ∨ stepF c = .cr 0 0 1 := by
  unfold stepF
  split
  · exact .inl rfl
  · split
    · exact .inr (.inl rfl)
    · split
      · exact .inr (.inr (.inl rfl))
      · exact .inr (.inr (.inr rfl))
theorem sm_mul {L : Nat} {k x : Int} (hk : Sm (13 * L + 1) k) (h0 : 0 ≤ x) (h : x < 8192) : Sm (13 * (L + 1) + 1) (k * x * 1) := by
  have e : Sm 13 x := by
    unfold Sm
    have : (2 : Nat) ^ 13 = 8192 := by decide
    omega
  rw [Int.mul_one]
  exact (hk.mul e).mono (by omega)
theorem sm_up {L : Nat} {k : Int} (hk : Sm (13 * L + 1) k) : Sm (13 * (L + 1) + 1) k := hk.mono (by omega)
theorem pp (x : Int) : 0 ≤ (if x > 0 then x else 0) ∧ ((if x > 0 then x else 0) = x ∨ ((if x > 0 then x else 0) = 0 ∧ x ≤ 0)) := by
  by_cases h : x > 0
  · rw [if_pos h]; omega
  · rw [if_neg h]; omega
theorem FLe.step {L : Nat} (hL : L ≤ 7000) {c : Nat} (hc : c ∈ steps.cps.toList) {f : Fm} (h : FLe L f) : FLe (L + 1) (f.both (stepF c)) := by
  cases f with
  | keep b a =>
    obtain ⟨h1, h2, h3, h4⟩ := h
    have p1 := pp (0 - a)
    have p2 := pp (a - 0)
    have p3 := pp (1 - a)
    have p4 := pp (a - 1)
    have one : Sm (13 * (L + 1) + 1) 1 := sm_le (L := L + 1) (by decide) (by omega)
    rcases step_cases hc with e | e | e | e <;> rw [e] <;> simp only [Fm.both, Fm.ahead, Fm.b, Fm.a, FLe]
    · exact ⟨by omega, by omega, by omega, by omega⟩
    · exact ⟨by omega, by omega, by omega, by omega⟩
    · exact ⟨by omega, by omega, by omega, by omega, by decide, one, by decide, by omega⟩
    · exact ⟨by omega, by omega, by omega, by omega, by decide, one⟩
  | lf b a k d =>
    obtain ⟨h1, h2, h3, h4, h5, h6, h7, h8⟩ := h
    have p1 := pp (d - 0)
    have p2 := pp (d - 1)
    rcases step_cases hc with e | e | e | e <;> rw [e] <;> simp only [Fm.both, Fm.after, Fm.b, Fm.a, FLe]
    · exact ⟨h1, by omega, h3, by omega, h5, sm_up h6, by omega, by omega⟩
    · exact ⟨h1, by omega, h3, by omega, h5, sm_up h6, by omega, by omega⟩
    · refine ⟨h1, by omega, h3, by omega, ?_, sm_mul h6 (by omega) (by omega), by decide, by omega⟩
      rw [Int.mul_one]
      exact Int.mul_pos h5 (by omega)
    · refine ⟨h1, by omega, h3, by omega, ?_, sm_mul h6 (by omega) (by omega)⟩
      rw [Int.mul_one]
      exact Int.mul_pos h5 (by omega)
  | cr b a k =>
    obtain ⟨h1, h2, h3, h4, h5, h6⟩ := h
    rcases step_cases hc with e | e | e | e <;> rw [e] <;> simp only [Fm.both, FLe, Int.mul_one]
    · exact ⟨h1, by omega, h3, by omega, h5, sm_up h6⟩
    · exact ⟨h1, by omega, h3, by omega, h5, sm_up h6⟩
    · exact ⟨h1, by omega, h3, by omega, h5, sm_up h6, by decide, by omega⟩
    · exact ⟨h1, by omega, h3, by omega, h5, sm_up h6⟩
/-- the forms of the steps, and of no step -/
structure StepT (K : PySem.W.Frag) (w : World) (mg : Str → Option Value) (aN aS : Addr) : Prop where
  gN : mg "NOTHING" = some (.ref aN)
  n : ∀ H : Hp, FmAt K H (.ref aN) nothing
  gS : mg "STEP_FORMS" = some (.ref aS)
  s : ∀ c ∈ steps.cps.toList, ∃ v, KDct K w aS ⟨#[c]⟩ v ∧ ∀ H : Hp, FmAt K H v (stepF c)
theorem Same.own {H H' : Hp} {p : Addr} {o : HO} (s : Same H H') (n : H p = none) : Same H (upd H' p o) := fun b x e => by
  rw [upd_ne (ne_of_none e n)]
  exact s b x e
theorem SqT.lstUpd {K : PySem.W.Frag} {H : Hp} {a p : Addr} {xs ys : List V} {o : HO} (h : SqT K H a xs) (e : H p = some (.lst ys)) : SqT K (upd H p o) a xs := by
  have ne : ∀ o', H a = some o' → (∀ zs, o' ≠ .lst zs) → a ≠ p := fun o' h1 h2 z => by
    subst z
    rw [e] at h1
    exact h2 _ (Option.some.inj h1).symm
  rcases h with (h | ⟨q, h⟩) | h
  · exact .inl (.inl (by rw [upd_ne (ne _ h (fun zs z => by cases z))]; exact h))
  · exact .inl (.inr ⟨q, by rw [upd_ne (ne _ h (fun zs z => by cases z))]; exact h⟩)
  · exact .inr h
theorem Prs.lstUpd {K : PySem.W.Frag} {H : Hp} {p : Addr} {ys : List V} {o : HO} (e : H p = some (.lst ys)) : ∀ {vs : List V} {gs : List (Int × Int)}, Prs K H vs gs → Prs K (upd H p o) vs gs
  | _, _, .nil => .nil
  | _, _, .cons ⟨q, h1, h2⟩ t => .cons ⟨q, h1, by rw [upd_ne (ne_of h2 e (by intro z; cases z))]; exact h2⟩ (Prs.lstUpd e t)
theorem Prs.back {K : PySem.W.Frag} {H : Hp} : ∀ {vs : List V} {gs : List (Int × Int)} {x : Int × Int}, Prs K H vs (gs ++ [x]) → ∃ ws v, vs = ws ++ [v] ∧ Prs K H ws gs ∧ PrAt H v x
  | _, [], x, h => by
    cases h with
    | cons h1 t =>
      cases t
      exact ⟨[], _, rfl, .nil, h1⟩
  | _, g :: gs, x, h => by
    cases h with
    | cons h1 t =>
      obtain ⟨ws, v, rfl, a, b⟩ := Prs.back (gs := gs) t
      exact ⟨_ :: ws, v, rfl, .cons h1 a, b⟩
theorem snoc_or {α : Type} : ∀ l : List α, l = [] ∨ ∃ a x, l = a ++ [x]
  | [] => .inl rfl
  | x :: l => by
    rcases snoc_or l with rfl | ⟨a, y, rfl⟩
    · exact .inr ⟨[], x, rfl⟩
    · exact .inr ⟨x :: a, y, rfl⟩
theorem addTo_nil (x : Int × Int) : addTo [] x = [x] := rfl
theorem addTo_snoc (a : List (Int × Int)) (y x : Int × Int) : addTo (a ++ [y]) x = if y.2 = x.2 then a ++ [(y.1 + x.1, x.2)] else a ++ [y] ++ [x] := by
  unfold addTo
  rw [List.getLast?_concat]
  simp
theorem ixN_last {α : Type} (a : List α) (x : α) : ixN (a ++ [x]).length (-1) = some a.length := by
  unfold ixN
  simp
  omega
/-- numbers of groups that may be reckoned with -/
def RnSm (n : Nat) (r : List (Int × Int) × Int) : Prop := (∀ x ∈ r.1, 0 ≤ x.1 ∧ 0 ≤ x.2 ∧ Sm n x.1 ∧ Sm n x.2) ∧ 0 ≤ r.2 ∧ Sm n r.2 ∧ r.1.length ≤ 1000
theorem RnOk.sm {n : Nat} {r : List (Int × Int) × Int} (h : RnOk n r) : RnSm n r := ⟨fun x hx => by
  obtain ⟨i, hi⟩ := List.mem_iff_getElem?.mp hx
  obtain ⟨h1, h2, h3, h4, _⟩ := h.gs i x hi
  exact ⟨by omega, h2, h3, h4⟩, h.rest.1, h.rest.2, h.len⟩
theorem sum_mapV {gs : List (Int × Int)} {f : Fm} : ((gs.map fun x => x.1 * (f.after x.2 + 1))).sum = total (moved f gs) := by
  unfold total moved
  rw [List.map_map]
  rfl
theorem sum_sm {m : Nat} : ∀ (ts : List Int), (∀ t ∈ ts, 0 ≤ t ∧ Sm m t) → 0 ≤ ts.sum ∧ ts.sum ≤ ts.length * (2 ^ m : Nat)
  | [], _ => ⟨by decide, by simp⟩
  | t :: ts, h => by
    obtain ⟨h0, h1⟩ := h t (List.mem_cons_self ..)
    obtain ⟨i0, i1⟩ := sum_sm ts fun x hx => h x (List.mem_cons_of_mem _ hx)
    rw [List.sum_cons, List.length_cons]
    have e : ((ts.length + 1 : Nat) : Int) * (2 ^ m : Nat) = ts.length * (2 ^ m : Nat) + (2 ^ m : Nat) := by
      rw [Int.natCast_add, Int.add_mul]
      simp
    unfold Sm at h1
    rw [e]
    generalize ((ts.length : Nat) : Int) * (2 ^ m : Nat) = T at *
    generalize 2 ^ m = M at *
    omega
theorem units_ok {n : Nat} {r : List (Int × Int) × Int} {f : Fm} (h : RnSm n r) (hf : f.Ok n) : 0 ≤ units r f ∧ Sm (2 * n + 20) (units r f) := by
  have key : ∀ t ∈ (r.1.map fun x => x.1 * (f.after x.2 + 1)), 0 ≤ t ∧ Sm (2 * n + 4) t := by
    intro t ht
    obtain ⟨x, hx, rfl⟩ := List.mem_map.mp ht
    obtain ⟨x1, x2, x3, x4⟩ := h.1 x hx
    have hb := Fm.after_ok hf x2 x4
    have hb2 : Sm (n + 2) (f.after x.2 + 1) := hb.2.add (Nat.lt_of_lt_of_le (by decide : (1 : Int).natAbs < 2 ^ 1) (Nat.pow_le_pow_right (by decide) (by omega)))
    exact ⟨Int.mul_nonneg x1 (by have := hb.1; omega), (x3.mul hb2).mono (by omega)⟩
  obtain ⟨s0, s1⟩ := sum_sm _ key
  rw [sum_mapV] at s0 s1
  rw [List.length_map] at s1
  have hl := h.2.2.2
  have hr0 := h.2.1
  have hr1 : r.2.natAbs < 2 ^ n := h.2.2.1
  have e1 : (r.1.length : Int) * (2 ^ (2 * n + 4) : Nat) ≤ 1000 * (2 ^ (2 * n + 4) : Nat) := Int.mul_le_mul_of_nonneg_right (by omega) (Int.natCast_nonneg _)
  have e2 : 2 ^ (2 * n + 20) = 2 ^ (2 * n + 4) * 65536 := by rw [show 2 * n + 20 = (2 * n + 4) + 16 from rfl, Nat.pow_add]
  have e3 : 2 ^ n ≤ 2 ^ (2 * n + 4) := Nat.pow_le_pow_right (by decide) (by omega)
  unfold units Sm
  rw [e2]
  generalize total (moved f r.1) = T at *
  generalize (r.1.length : Int) * (2 ^ (2 * n + 4) : Nat) = U at *
  generalize 2 ^ (2 * n + 4) = M at *
  generalize 2 ^ n = N at *
  omega
/-- a run that has just been made -/
def NewRn (K : PySem.W.Frag) (H H' : Hp) (v : V) (r : List (Int × Int) × Int) : Prop :=
  ∃ p l xs, v = .ref p ∧ H p = none ∧ H l = none ∧ H' p = some (.tup [.ref l, .int r.2]) ∧ H' l = some (.lst xs) ∧ Prs K H' xs r.1
theorem RnSm.mono {n m : Nat} {r : List (Int × Int) × Int} (h : RnSm n r) (k : n ≤ m) : RnSm m r :=
  ⟨fun x hx => ⟨(h.1 x hx).1, (h.1 x hx).2.1, (h.1 x hx).2.2.1.mono k, (h.1 x hx).2.2.2.mono k⟩, h.2.1, h.2.2.1.mono k, h.2.2.2⟩
theorem NewRn.back {K : PySem.W.Frag} {H0 H H' : Hp} {v : V} {r : List (Int × Int) × Int} (s : Same H0 H) (h : NewRn K H H' v r) : NewRn K H0 H' v r := by
  obtain ⟨p, l, xs, h1, h2, h3, h4⟩ := h
  exact ⟨p, l, xs, h1, s.free h2, s.free h3, h4⟩
def CPowW (i j : Int) : Prop := 0 ≤ j ∧ j ≤ 64 ∧ i.natAbs < 2 ^ 200000
theorem op_powW {X : Cx} : OpR X (binaryOp .Pow) (rI CPowW fun i j => .int (i ^ j.toNat)) := opI fun i j _ _ _ _ _ hc q => by
  refine PyProof.Rows.pow_int hc.1 ?_ q
  have h1 := PySem.Flt.log2_lt_of (by decide : 0 < 200000) hc.2.2
  have h2 : Builtin.Int.intBits i ≤ i.natAbs.log2 + 1 := by
    unfold Builtin.Int.intBits
    split <;> omega
  have h3 : (Builtin.Int.intBits i : Int) ≤ 200000 := by omega
  have h4 := hc.2.1
  have h5 := hc.1
  have h6 : (Builtin.Int.intBits i : Int) * j ≤ 200000 * 64 := by
    refine Int.le_trans (Int.mul_le_mul_of_nonneg_right h3 h5) (Int.mul_le_mul_of_nonneg_left h4 (by decide))
  exact Int.le_trans h6 (by decide)
theorem fm {a b : Int} (hb : 0 < b) : 0 ≤ a.fmod b ∧ a.fmod b < b := by
  rw [Int.fmod_eq_emod_of_nonneg a (Int.le_of_lt hb)]
  exact ⟨Int.emod_nonneg a (by omega), Int.emod_lt_of_pos a hb⟩
theorem pow_sm {x : Int} (h0 : 0 ≤ x) (h : x < 2 ^ 200) {j : Int} (j0 : 0 ≤ j) (j1 : j ≤ 64) : CPowW x j := ⟨j0, j1, by
  have h1 : (x.natAbs : Int) < ((2 ^ 200 : Nat) : Int) := by
    rw [Int.natAbs_of_nonneg h0]
    exact h
  exact Nat.lt_of_lt_of_le (Int.ofNat_lt.mp h1) (Nat.pow_le_pow_right (by decide) (by decide))⟩
theorem cube_sm {x : Int} (h0 : 0 ≤ x) (h : x < 2147483648) : Sm 93 (x ^ Int.toNat 3) := by
  have e : x ^ Int.toNat 3 = x * x * x := by
    show x ^ 3 = _
    rw [Int.pow_succ, Int.pow_succ, Int.pow_succ, Int.pow_zero, Int.one_mul]
  have hx : Sm 31 x := by
    unfold Sm
    have : (2 : Nat) ^ 31 = 2147483648 := by decide
    omega
  rw [e]
  exact (hx.mul hx).mul hx
theorem p61 : (2 : Int) ^ Int.toNat 61 - 1 = 2305843009213693951 := by decide +kernel
theorem p61n : (2 : Int) ^ Int.toNat 61 - 1 ≠ 0 := by decide +kernel
theorem p61p : (0 : Int) < (2 : Int) ^ Int.toNat 61 - 1 := by decide +kernel
theorem p18n : (10 : Int) ^ Int.toNat 18 + 9 ≠ 0 := by decide +kernel
theorem while_fin {c : TT} {tb : TS} {D : Ends} {σ : St} {H : Hp} (Fin : St → Hp → Prop) (h : ∀ R : St → Hp → Prop, (∀ σ H, Fin σ H → R σ H) → tWhile c tb { D with nx := R } σ H) (hf : ∀ σ H, Fin σ H → D.nx σ H) : tWhile c tb D σ H := h D.nx hf
theorem dps {K : PySem.W.Frag} {H : Hp} : ∀ ds : List Int, DpAll K H (ds.map V.int) (ds.map PyData.int)
  | [] => .nil
  | d :: ds => .cons (.int d) (dps ds)
theorem shaped_ints (ds : List Int) : SeqAt.shaped (.list (ds.map .int)) = true := by
  have h1 : ∀ ds : List Int, PyData.canLayAll0 (ds.map .int) = true := fun ds => by
    induction ds with
    | nil => rfl
    | cons d ds ih => simp only [List.map_cons, PyData.canLayAll0, PyData.canLay0, ih, Bool.and_self]
  have h2 : ∀ ds : List Int, PyData.depthAll (ds.map .int) = 0 := fun ds => by
    induction ds with
    | nil => rfl
    | cons d ds ih => simp [PyData.depthAll, PyData.depth, ih]
  unfold SeqAt.shaped
  simp [PyData.canLay0, PyData.depth, h1, h2]
theorem p18 : (10 : Int) ^ Int.toNat 18 = 1000000000000000000 := by decide +kernel
def TT (K : PySem.W.Frag) (H : Hp) (a : Addr) : Prop := (∃ ys, H a = some (.tup ys)) ∨ (∃ o, K.lookup a = some o ∧ o.cls = .type "tuple") ∨ ∃ o ys, H a = some (.frz o (.tup ys))
mutual
inductive Dq (K : PySem.W.Frag) (H : Hp) : V → PyData → Prop
  | non : Dq K H .non .none
  | bl (b : Bool) : Dq K H (.bl b) (.bool b)
  | int (i : Int) : Dq K H (.int i) (.int i)
  | str (x : Str) : Dq K H (.str x) (.str x)
  | lst {a : Addr} {xs : List V} {ds : List PyData} : H a = some (.lst xs) → DqAll K H xs ds → Dq K H (.ref a) (.list ds)
  | tup {a : Addr} {xs : List V} {ds : List PyData} : TT K H a → SqT K H a xs → DqAll K H xs ds → Dq K H (.ref a) (.tuple ds)
inductive DqAll (K : PySem.W.Frag) (H : Hp) : List V → List PyData → Prop
  | nil : DqAll K H [] []
  | cons {v : V} {vs : List V} {d : PyData} {ds : List PyData} : Dq K H v d → DqAll K H vs ds → DqAll K H (v :: vs) (d :: ds)
end
theorem TT.ty {K : PySem.W.Frag} {H : Hp} {a : Addr} : TT K H a → TyX K H (.ref a) (.type "tuple")
  | .inl ⟨_, h⟩ => .base (.tup h)
  | .inr (.inl ⟨_, h, c⟩) => .kTuple h c
  | .inr (.inr ⟨_, _, h⟩) => .fTuple h
theorem SqT.tt {K : PySem.W.Frag} {H : Hp} {a : Addr} {xs : List V} : SqT K H a xs → TT K H a
  | .inl (.inl h) => .inl ⟨_, h⟩
  | .inl (.inr ⟨_, h⟩) => .inr (.inr ⟨_, _, h⟩)
  | .inr ⟨_, _, _, h, c, _⟩ => .inr (.inl ⟨_, h, c⟩)
theorem TT.same {K : PySem.W.Frag} {H H' : Hp} {a : Addr} (s : Same H H') : TT K H a → TT K H' a
  | .inl ⟨ys, h⟩ => .inl ⟨ys, s _ _ h⟩
  | .inr (.inl h) => .inr (.inl h)
  | .inr (.inr ⟨o, ys, h⟩) => .inr (.inr ⟨o, ys, s _ _ h⟩)
mutual
theorem Dq.same {K : PySem.W.Frag} {H H' : Hp} (s : Same H H') : ∀ {v : V} {d : PyData}, Dq K H v d → Dq K H' v d
  | _, _, .non => .non
  | _, _, .bl b => .bl b
  | _, _, .int i => .int i
  | _, _, .str x => .str x
  | _, _, .lst h t => .lst (s _ _ h) (DqAll.same s t)
  | _, _, .tup h1 h2 t => .tup (h1.same s) (sameT s h2) (DqAll.same s t)
theorem DqAll.same {K : PySem.W.Frag} {H H' : Hp} (s : Same H H') : ∀ {vs : List V} {ds : List PyData}, DqAll K H vs ds → DqAll K H' vs ds
  | _, _, .nil => .nil
  | _, _, .cons h t => .cons (Dq.same s h) (DqAll.same s t)
end
mutual
theorem Dq.dp {K : PySem.W.Frag} {H : Hp} : ∀ {v : V} {d : PyData}, Dq K H v d → Dp K H v d
  | _, _, .non => .non
  | _, _, .bl b => .bl b
  | _, _, .int i => .int i
  | _, _, .str x => .str x
  | _, _, .lst h t => .lst (.inl (.inl h)) (DqAll.dp t)
  | _, _, .tup _ h2 t => .tup h2 (DqAll.dp t)
theorem DqAll.dp {K : PySem.W.Frag} {H : Hp} : ∀ {vs : List V} {ds : List PyData}, DqAll K H vs ds → DpAll K H vs ds
  | _, _, .nil => .nil
  | _, _, .cons h t => .cons (Dq.dp h) (DqAll.dp t)
end
theorem DqAll.len {K : PySem.W.Frag} {H : Hp} : ∀ {vs : List V} {ds : List PyData}, DqAll K H vs ds → vs.length = ds.length
  | _, _, .nil => rfl
  | _, _, .cons _ t => by rw [List.length_cons, List.length_cons, DqAll.len t]
theorem DqAll.get {K : PySem.W.Frag} {H : Hp} : ∀ {vs : List V} {ds : List PyData}, DqAll K H vs ds → ∀ {i : Nat} {d : PyData}, ds[i]? = some d → ∃ v, vs[i]? = some v ∧ Dq K H v d
  | _, _, .nil, i, d, h => by simp at h
  | _, _, .cons h1 t, 0, d, h => by
    have e := Option.some.inj h
    subst e
    exact ⟨_, rfl, h1⟩
  | _, _, .cons h1 t, i + 1, d, h => DqAll.get t (i := i) h
mutual
def wd : PyData → Bool
  | .list xs | .tuple xs => decide (xs.length ≤ 5000) && wdAll xs
  | _ => true
def wdAll : List PyData → Bool
  | [] => true
  | x :: xs => wd x && wdAll xs
end
theorem wd_get : ∀ (xs : List PyData) (i : Nat) (x : PyData), wdAll xs = true → xs[i]? = some x → wd x = true
  | [], i, x, _, h => by simp at h
  | y :: ys, 0, x, h, e => by
    cases Option.some.inj e
    simp only [wdAll, Bool.and_eq_true] at h
    exact h.1
  | y :: ys, i + 1, x, h, e => by
    simp only [wdAll, Bool.and_eq_true] at h
    exact wd_get ys i x h.2 e
theorem depth_mem : ∀ (xs : List PyData) (i : Nat) (x : PyData), xs[i]? = some x → PyData.depth x ≤ PyData.depthAll xs := fun xs i x h => PyData.depth_le_depthAll xs x (List.mem_of_getElem? h)
def rIxA (K : PySem.W.Frag) : R2 := fun x y H Q => rIxL K x y H Q ∨ rIxT K x y H Q
theorem ix_any {X : Cx} {K : PySem.W.Frag} (h : X.K = K) : IxR X (rIxA K) := by
  subst h
  exact ix_list.or ix_tup
theorem ixA {K : PySem.W.Frag} {H H' : Hp} {a : Addr} {xs : List V} {j : Int} {i : Nat} {v : V} {Q : VK} (sm : Same H H') (h : SqL K H a xs ∨ SqT K H a xs) (e : j = i) (hv : xs[i]? = some v) (q : Q v H') : rIxA K (.ref a) (.int j) H' Q := by
  subst e
  rcases h with h | h
  · exact .inl ⟨a, xs, _, v, rfl, rfl, sm.seq h, atI_nat hv, q⟩
  · exact .inr ⟨a, xs, _, v, rfl, rfl, sameT sm h, atI_nat hv, q⟩
theorem ix_l {X : Cx} {K : PySem.W.Frag} (h : X.K = K) : IxR X (rIxL K) := by
  subst h
  exact ix_list
theorem far_sm {far : Int} (h0 : 4 ≤ far) (h : far < 2 ^ 97) : far.natAbs < 2 ^ 4000 := by
  have e : far.natAbs < 2 ^ 97 := by omega
  exact Nat.lt_of_lt_of_le e (Nat.pow_le_pow_right (by decide) (by decide))
def pd (gs : List (Int × Int)) : List PyData := gs.map fun x => .tuple [.int x.1, .int x.2]
theorem Prs.dp {K : PySem.W.Frag} {H : Hp} : ∀ {vs : List V} {gs : List (Int × Int)}, Prs K H vs gs → DpAll K H vs (pd gs)
  | _, _, .nil => .nil
  | _, _, .cons ⟨p, e, h⟩ t => by
    subst e
    exact .cons (.tup (.inl (.inl h)) (.cons (.int _) (.cons (.int _) .nil))) (Prs.dp t)
theorem pd_lay (gs : List (Int × Int)) : PyData.canLayAll0 (pd gs) = true := by
  unfold pd
  induction gs with
  | nil => rfl
  | cons g gs ih => simp only [List.map_cons, PyData.canLayAll0, PyData.canLay0, ih, Bool.and_self]
theorem pd_depth (gs : List (Int × Int)) : PyData.depthAll (pd gs) ≤ 1 := by
  unfold pd
  induction gs with
  | nil => simp [PyData.depthAll]
  | cons g gs ih =>
    simp only [List.map_cons, PyData.depthAll, PyData.depth]
    omega
theorem pd_shaped (gs : List (Int × Int)) : SeqAt.shaped (.list (pd gs)) = true := by
  have := pd_depth gs
  unfold SeqAt.shaped
  simp only [PyData.canLay0, pd_lay, PyData.depth, Bool.true_and]
  exact decide_eq_true (by omega)
theorem gsok_snoc {n : Nat} {gs : List (Int × Int)} {x : Int × Int} (h : GsOk n gs) (hl : ∀ a y, gs = a ++ [y] → y.2 ≠ x.2) (hx : 1 ≤ x.1 ∧ 0 ≤ x.2 ∧ Sm n x.1 ∧ Sm n x.2) : GsOk n (gs ++ [x]) := by
  intro i z hz
  by_cases hi : i < gs.length
  · rw [List.getElem?_append_left hi] at hz
    obtain ⟨h1, h2, h3, h4, h5⟩ := h i z hz
    refine ⟨h1, h2, h3, h4, fun y hy => ?_⟩
    by_cases hj : i + 1 < gs.length
    · rw [List.getElem?_append_left hj] at hy
      exact h5 y hy
    · have e : i + 1 = gs.length := by omega
      rw [e, List.getElem?_append_right (Nat.le_refl _), Nat.sub_self] at hy
      cases Option.some.inj hy
      rcases snoc_or gs with rfl | ⟨a, y', rfl⟩
      · simp at hi
      · have ea : i = a.length := by
          simp at e
          omega
        subst ea
        simp at hz
        subst hz
        exact Ne.symm (hl a y' rfl)
  · have hle : gs.length ≤ i := by omega
    rw [List.getElem?_append_right hle] at hz
    have e : i - gs.length = 0 := by
      have := (List.getElem?_eq_some_iff.mp hz).1
      simp at this
      omega
    rw [e] at hz
    cases Option.some.inj hz
    refine ⟨hx.1, hx.2.1, hx.2.2.1, hx.2.2.2, fun y hy => ?_⟩
    have := (List.getElem?_eq_some_iff.mp hy).1
    simp at this
    omega
def sameEnd (gs : List (Int × Int)) (j : Int) : Bool := match gs.getLast? with
  | some y => decide (y.2 = j)
  | none => false
theorem sameEnd_snoc (a : List (Int × Int)) (y : Int × Int) (j : Int) : sameEnd (a ++ [y]) j = decide (y.2 = j) := by
  unfold sameEnd
  rw [List.getLast?_concat]
theorem if_by {c : L2.TT} {A B : TS} {D : Ends} {σ : St} {H : Hp} (b : Bool) (R : Hp → Prop) (hc : ∀ K : Bool → Hp → Prop, (∀ H1, R H1 → K b H1) → c σ H K) (h : ∀ H1, R H1 → if b = true then A D σ H1 else B D σ H1) : tIfS c A B D σ H := hc _ h
theorem ix_t {X : Cx} {K : PySem.W.Frag} (h : X.K = K) : IxR X (rIxT K) := by
  subst h
  exact ix_tup
theorem gsok_front {n : Nat} {a : List (Int × Int)} {y : Int × Int} (h : GsOk n (a ++ [y])) : GsOk n a ∧ (∀ a' z, a = a' ++ [z] → z.2 ≠ y.2) ∧ 1 ≤ y.1 ∧ 0 ≤ y.2 := by
  refine ⟨fun i x hx => ?_, fun a' z e => ?_, ?_⟩
  · have hi := (List.getElem?_eq_some_iff.mp hx).1
    obtain ⟨h1, h2, h3, h4, h5⟩ := h i x (by rw [List.getElem?_append_left hi]; exact hx)
    refine ⟨h1, h2, h3, h4, fun w hw => ?_⟩
    have hi2 := (List.getElem?_eq_some_iff.mp hw).1
    exact h5 w (by rw [List.getElem?_append_left hi2]; exact hw)
  · subst e
    have := (h a'.length z (by simp)).2.2.2.2 y (by simp)
    exact fun q => this q.symm
  · have := h a.length y (by simp)
    exact ⟨this.1, this.2.1⟩
def MI (n t : Nat) (acc : List (Int × Int)) : Prop := GsOk (n + 11) acc ∧ (∀ x ∈ acc, x.1 ≤ (t : Int) * (2 ^ n : Nat)) ∧ acc.length ≤ t
theorem mi_sm {n t : Nat} {x : Int} (ht : t ≤ 1000) (h0 : 0 ≤ x) (h : x ≤ (t : Int) * (2 ^ n : Nat)) : Sm (n + 11) x := by
  have e : 2 ^ (n + 11) = 2 ^ n * 2048 := Nat.pow_add 2 n 11
  have e2 : (t : Int) * (2 ^ n : Nat) ≤ 1000 * (2 ^ n : Nat) := Int.mul_le_mul_of_nonneg_right (by omega) (Int.natCast_nonneg _)
  have e3 : 0 < 2 ^ n := Nat.two_pow_pos n
  unfold Sm
  rw [e]
  generalize (t : Int) * (2 ^ n : Nat) = T at *
  generalize 2 ^ n = M at *
  omega
theorem mi_step {n t : Nat} (ht : t < 1000) {acc : List (Int × Int)} {x : Int × Int} (h : MI n t acc) (x1 : 1 ≤ x.1) (x2 : Sm n x.1) (x3 : 0 ≤ x.2) (x4 : Sm (n + 1) x.2) : MI n (t + 1) (addTo acc x) := by
  obtain ⟨h1, h2, h3⟩ := h
  have hM : ((t + 1 : Nat) : Int) * (2 ^ n : Nat) = (t : Int) * (2 ^ n : Nat) + (2 ^ n : Nat) := by
    rw [Int.natCast_add, Int.add_mul]
    simp
  have hx : x.1 < (2 ^ n : Nat) := by
    unfold Sm at x2
    omega
  have ht0 : 0 ≤ (t : Int) * (2 ^ n : Nat) := Int.mul_nonneg (by omega) (Int.natCast_nonneg _)
  have up : ∀ y ∈ acc, y.1 ≤ ((t + 1 : Nat) : Int) * (2 ^ n : Nat) := fun y hy => by
    have := h2 y hy
    omega
  have xs : Sm (n + 11) x.1 := x2.mono (by omega)
  rcases snoc_or acc with rfl | ⟨a, y, rfl⟩
  · refine ⟨gsok_snoc (gs := []) (fun i z hz => by simp at hz) (fun a y e => by simp at e) ⟨x1, x3, xs, x4.mono (by omega)⟩, fun y hy => ?_, by show 1 ≤ t + 1; omega⟩
    have hy' : y = x := List.mem_singleton.mp hy
    rw [hy', hM]
    omega
  · rw [addTo_snoc]
    by_cases ey : y.2 = x.2
    · rw [if_pos ey]
      obtain ⟨g1, g2, g3, g4⟩ := gsok_front h1
      have hy1 := h2 y (by simp)
      have hs : y.1 + x.1 ≤ ((t + 1 : Nat) : Int) * (2 ^ n : Nat) := by omega
      refine ⟨gsok_snoc g1 (fun a' z e => by show z.2 ≠ x.2; rw [← ey]; exact g2 a' z e) ⟨by show 1 ≤ y.1 + x.1; omega, x3, mi_sm (t := t + 1) (by omega) (by show 0 ≤ y.1 + x.1; omega) hs, x4.mono (by omega)⟩, fun z hz => ?_, by simp only [List.length_append, List.length_cons, List.length_nil] at h3 ⊢; omega⟩
      rcases List.mem_append.mp hz with q | q
      · exact up z (List.mem_append.mpr (.inl q))
      · rw [List.mem_singleton.mp q]
        exact hs
    · rw [if_neg ey]
      refine ⟨gsok_snoc h1 (fun a' z e => by
        have := (List.append_inj' e rfl).2
        cases this
        exact ey) ⟨x1, x3, xs, x4.mono (by omega)⟩, fun z hz => ?_, by simp only [List.length_append, List.length_cons, List.length_nil] at h3 ⊢; omega⟩
      rcases List.mem_append.mp hz with q | q
      · exact up z q
      · rw [List.mem_singleton.mp q, hM]
        omega
theorem mi_fold {n : Nat} : ∀ (gs acc : List (Int × Int)) (t : Nat), t + gs.length ≤ 1000 → (∀ x ∈ gs, 1 ≤ x.1 ∧ Sm n x.1 ∧ 0 ≤ x.2 ∧ Sm (n + 1) x.2) → MI n t acc → MI n (t + gs.length) (gs.foldl addTo acc)
  | [], acc, t, _, _, h => h
  | g :: gs, acc, t, hl, hg, h => by
    have hl' : t + (gs.length + 1) ≤ 1000 := hl
    obtain ⟨g1, g2, g3, g4⟩ := hg g (List.mem_cons_self ..)
    have e := mi_fold gs (addTo acc g) (t + 1) (by omega) (fun x hx => hg x (List.mem_cons_of_mem _ hx)) (mi_step (by omega) h g1 g2 g3 g4)
    have e2 : t + 1 + gs.length = t + (g :: gs).length := by simp; omega
    rw [e2] at e
    exact e
theorem runAfter_ok {n : Nat} {r : List (Int × Int) × Int} {f : Fm} (h : RnOk n r) (hf : f.Ok n) : RnOk (3 * n + 40) (runAfter r f) := by
  have hu := units_ok (RnOk.sm h) hf
  cases f with
  | keep b a =>
    have m := mi_fold (n := n) (moved (.keep b a) r.1) [] 0 (by unfold moved; rw [List.length_map]; have := h.len; omega) (fun x hx => by
      obtain ⟨y, hy, rfl⟩ := List.mem_map.mp hx
      obtain ⟨i, hi⟩ := List.mem_iff_getElem?.mp hy
      obtain ⟨y1, y2, y3, y4, _⟩ := h.gs i y hi
      have := Fm.after_ok hf y2 y4
      exact ⟨y1, y3, this.1, this.2⟩) ⟨(fun i x hx => by simp at hx), (fun x hx => by cases hx), Nat.le_refl _⟩
    obtain ⟨m1, m2, m3⟩ := m
    refine ⟨fun i x hx => ?_, ⟨h.rest.1, h.rest.2.mono (by omega)⟩, ?_⟩
    · obtain ⟨q1, q2, q3, q4, q5⟩ := m1 i x hx
      exact ⟨q1, q2, q3.mono (by omega), q4.mono (by omega), q5⟩
    · have e : (moved (.keep b a) r.1).length = r.1.length := List.length_map ..
      have := h.len
      show (Lx.merged (moved (.keep b a) r.1)).length ≤ 1000
      unfold Lx.merged
      omega
  | lf b a k c =>
    by_cases z : k * units r (.lf b a k c) = 0
    · rw [show runAfter r (.lf b a k c) = ([], 0) from if_pos z]
      exact ⟨fun i x hx => by simp at hx, ⟨by decide, Nat.two_pow_pos _⟩, Nat.zero_le _⟩
    · rw [show runAfter r (.lf b a k c) = ([(k * units r (.lf b a k c), c)], 0) from if_neg z]
      have hp := Int.mul_nonneg (Int.le_of_lt hf.2.2.1) hu.1
      have hs := hf.2.2.2.2.2.2.1.mul hu.2
      exact ⟨gsok_snoc (gs := []) (fun i x hx => by simp at hx) (fun a y e => by simp at e) ⟨by show 1 ≤ k * units r (.lf b a k c); omega, hf.2.2.2.1, hs.mono (by omega), hf.2.2.2.2.2.2.2.mono (by omega)⟩, ⟨(by decide : (0 : Int) ≤ 0), Nat.two_pow_pos _⟩, by show 1 ≤ 1000; decide⟩
  | cr b a k =>
    have hs := hf.2.2.2.2.2.mul hu.2
    exact ⟨fun i x hx => by simp [runAfter] at hx, ⟨Int.mul_nonneg (Int.le_of_lt hf.2.2.1) hu.1, hs.mono (by omega)⟩, Nat.zero_le _⟩
theorem units_nothing {n : Nat} {r : List (Int × Int) × Int} (h : RnSm n r) : (r.1.map fun x => x.1 * (x.2 + 1)).sum + r.2 = units r nothing := by
  have e : moved nothing r.1 = r.1 := by
    unfold moved
    have : ∀ gs : List (Int × Int), (∀ x ∈ gs, 0 ≤ x.2) → gs.map (fun x => (x.1, nothing.after x.2)) = gs := by
      intro gs
      induction gs with
      | nil => intro _; rfl
      | cons g gs ih =>
        intro hg
        have h0 := hg g (List.mem_cons_self ..)
        have e0 : nothing.after g.2 = g.2 := by
          show (if g.2 - 0 > 0 then g.2 - 0 else 0) + 0 = g.2
          have := pp (g.2 - 0)
          omega
        rw [List.map_cons, ih fun x hx => hg x (List.mem_cons_of_mem _ hx), e0]
    exact this r.1 fun x hx => (h.1 x hx).2.1
  unfold units
  rw [e]
  rfl
def RnS (K : PySem.W.Frag) (H : Hp) (v : V) (l : Addr) (g : List (Int × Int) × Int) : Prop := ∃ p xs, v = .ref p ∧ H p = some (.tup [.ref l, .int g.2]) ∧ H l = some (.lst xs) ∧ Prs K H xs g.1
theorem NewRn.s {K : PySem.W.Frag} {H H' : Hp} {v : V} {g : List (Int × Int) × Int} : NewRn K H H' v g → ∃ l, H l = none ∧ RnS K H' v l g := fun ⟨p, l, xs, h1, h2, h3, h4, h5, h6⟩ => ⟨l, h3, p, xs, h1, h4, h5, h6⟩
theorem RnS.same {K : PySem.W.Frag} {H H' : Hp} {v : V} {l : Addr} {g : List (Int × Int) × Int} (s : Same H H') : RnS K H v l g → RnS K H' v l g := fun ⟨p, xs, h1, h2, h3, h4⟩ => ⟨p, xs, h1, s _ _ h2, s _ _ h3, h4.same s⟩
theorem RnS.rn {K : PySem.W.Frag} {H : Hp} {v : V} {l : Addr} {g : List (Int × Int) × Int} : RnS K H v l g → RnAt K H v l g := fun ⟨p, xs, h1, h2, h3, h4⟩ => ⟨p, h1, .inl (.inl h2), xs, .inl (.inl h3), h4⟩
theorem RnS.upd {K : PySem.W.Frag} {H : Hp} {v : V} {l l2 : Addr} {g : List (Int × Int) × Int} {ys : List V} {o : HO} (e : H l2 = some (.lst ys)) (ne : l ≠ l2) : RnS K H v l g → RnS K (upd H l2 o) v l g :=
  fun ⟨p, xs, h1, h2, h3, h4⟩ => ⟨p, xs, h1, by rw [upd_ne (ne_of h2 e (by intro z; cases z))]; exact h2, by rw [upd_ne ne]; exact h3, Prs.lstUpd e h4⟩
theorem RnS.ne {K : PySem.W.Frag} {H : Hp} {v : V} {l p : Addr} {g : List (Int × Int) × Int} (h : RnS K H v l g) (n : H p = none) : l ≠ p := by
  obtain ⟨_, _, _, _, h3, _⟩ := h
  exact ne_of_none h3 n
def rd (g : List (Int × Int) × Int) : PyData := .tuple [.list (pd g.1), .int g.2]
theorem Prs.dq {K : PySem.W.Frag} {H : Hp} : ∀ {vs : List V} {gs : List (Int × Int)}, Prs K H vs gs → DqAll K H vs (pd gs)
  | _, _, .nil => .nil
  | _, _, .cons ⟨p, e, h⟩ t => by
    subst e
    exact .cons (.tup (.inl ⟨_, h⟩) (.inl (.inl h)) (.cons (.int _) (.cons (.int _) .nil))) (Prs.dq t)
theorem RnS.dq {K : PySem.W.Frag} {H : Hp} {v : V} {l : Addr} {g : List (Int × Int) × Int} : RnS K H v l g → Dq K H v (rd g) := fun ⟨p, xs, h1, h2, h3, h4⟩ => by
  subst h1
  exact .tup (.inl ⟨_, h2⟩) (.inl (.inl h2)) (.cons (.lst h3 (Prs.dq h4)) (.cons (.int _) .nil))
def fdt : Fm → PyData
  | .keep b a => .tuple [.str "keep", .int b, .int a]
  | .lf b a k c => .tuple [.str "lf", .int b, .int a, .int k, .int c]
  | .cr b a k => .tuple [.str "cr", .int b, .int a, .int k]
theorem fm_dq {K : PySem.W.Frag} {H : Hp} {p : Addr} {f : Fm} (h : H p = some (.tup f.vs)) : Dq K H (.ref p) (fdt f) := by
  cases f with
  | keep b a => exact .tup (.inl ⟨_, h⟩) (.inl (.inl h)) (.cons (.str _) (.cons (.int _) (.cons (.int _) .nil)))
  | lf b a k c => exact .tup (.inl ⟨_, h⟩) (.inl (.inl h)) (.cons (.str _) (.cons (.int _) (.cons (.int _) (.cons (.int _) (.cons (.int _) .nil)))))
  | cr b a k => exact .tup (.inl ⟨_, h⟩) (.inl (.inl h)) (.cons (.str _) (.cons (.int _) (.cons (.int _) (.cons (.int _) .nil))))
theorem rd_shaped (g : List (Int × Int) × Int) : SeqAt.shaped (rd g) = true := by
  have := pd_depth g.1
  unfold SeqAt.shaped rd
  simp only [PyData.canLay0, PyData.canLayAll0, pd_lay, PyData.depth, PyData.depthAll, Bool.true_and, Bool.and_true]
  exact decide_eq_true (by omega)
theorem pd_wd (gs : List (Int × Int)) : wdAll (pd gs) = true := by
  unfold pd
  induction gs with
  | nil => rfl
  | cons g gs ih => simp only [List.map_cons, wdAll, wd, ih, Bool.and_true, List.length_cons, List.length_nil, Bool.and_self, decide_true]; exact decide_eq_true (by omega)
theorem rd_wd {g : List (Int × Int) × Int} (h : g.1.length ≤ 1000) : wd (rd g) = true := by
  have e : (pd g.1).length = g.1.length := List.length_map ..
  unfold rd
  simp only [wd, wdAll, pd_wd, List.length_cons, List.length_nil, Bool.and_true]
  rw [decide_eq_true (by omega : (pd g.1).length ≤ 5000)]
  simp
theorem rd_depth (g : List (Int × Int) × Int) : (rd g).depth ≤ 3 := by
  have := pd_depth g.1
  unfold rd
  simp only [PyData.depth, PyData.depthAll]
  omega
def shw (g : List (Int × Int) × Int) (f : Fm) : PyData := .list [rd g, fdt f]
theorem sm400 {x : Int} (h : Sm 100 x) : x.natAbs < 2 ^ 400 := Nat.lt_of_lt_of_le h (Nat.pow_le_pow_right (by decide) (by decide))
theorem pd_small : ∀ (gs : List (Int × Int)), (∀ x ∈ gs, Sm 100 x.1 ∧ Sm 100 x.2) → small.smallAll (pd gs) = true
  | [], _ => rfl
  | g :: gs, h => by
    have h1 := h g (List.mem_cons_self ..)
    have ih := pd_small gs fun x hx => h x (List.mem_cons_of_mem _ hx)
    unfold pd at ih ⊢
    simp only [List.map_cons, small.smallAll, small, ih, Bool.and_true]
    rw [decide_eq_true (sm400 h1.1), decide_eq_true (sm400 h1.2)]
    rfl
theorem pd_bulk (gs : List (Int × Int)) : PyData.bulkAll (pd gs) ≤ 20 * gs.length := by
  unfold pd
  induction gs with
  | nil => exact Nat.le_refl _
  | cons g gs ih =>
    simp only [List.map_cons, PyData.bulkAll, PyData.bulk, List.length_cons]
    omega
theorem fdt_small {f : Fm} (h : f.Ok 100) : small (fdt f) = true := by
  cases f with
  | keep b a =>
    obtain ⟨_, _, h1, h2⟩ := h
    simp only [fdt, small, small.smallAll]
    rw [decide_eq_true (sm400 h1), decide_eq_true (sm400 h2)]
    decide
  | lf b a k c =>
    obtain ⟨_, _, _, _, h1, h2, h3, h4⟩ := h
    simp only [fdt, small, small.smallAll]
    rw [decide_eq_true (sm400 h1), decide_eq_true (sm400 h2), decide_eq_true (sm400 h3), decide_eq_true (sm400 h4)]
    decide
  | cr b a k =>
    obtain ⟨_, _, _, h1, h2, h3⟩ := h
    simp only [fdt, small, small.smallAll]
    rw [decide_eq_true (sm400 h1), decide_eq_true (sm400 h2), decide_eq_true (sm400 h3)]
    decide
theorem shw_fit {g : List (Int × Int) × Int} {f : Fm} (h : RnOk 100 g) (hf : f.Ok 100) : Fit (shw g f) := by
  refine fit_small ?_ ?_ ?_
  · have e1 := pd_small g.1 fun x hx => by
      obtain ⟨i, hi⟩ := List.mem_iff_getElem?.mp hx
      exact ⟨(h.gs i x hi).2.2.1, (h.gs i x hi).2.2.2.1⟩
    unfold shw rd
    simp only [small, small.smallAll, e1, fdt_small hf, Bool.and_true, Bool.true_and]
    exact decide_eq_true (sm400 h.rest.2)
  · have e := rd_depth g
    have e2 : (fdt f).depth ≤ 1 := by cases f <;> simp [fdt, PyData.depth, PyData.depthAll]
    unfold shw
    simp only [PyData.depth, PyData.depthAll]
    omega
  · have e := pd_bulk g.1
    have e2 : (fdt f).bulk ≤ 200 := by cases f <;> (simp [fdt, PyData.bulk, PyData.bulkAll]; decide)
    have e3 := h.len
    unfold shw rd
    simp only [PyData.bulk, PyData.bulkAll]
    omega
/-- a def that is called by its name -/
structure Cl (P : Program) (w : World) (K : PySem.W.Frag) (mg : Str → Option Value) (base : Heap) (k : Nat) (nm : Str) (ps : List Str) (sp : Sp) (f : Addr) (fd : FuncData) : Prop where
  G : FnOk P w K mg base CX0 k f fd ps sp
  kp : PySem.W.keepIn K (.ref f) = true
  b : Binds K fd ps []
  g : mg nm = some (.ref f)
theorem upd_keep {H : Hp} {t l b : Addr} {o1 o2 o : HO} (nt : H t = none) (ne : b ≠ l) (h : H b = some o) : upd (upd H t o1) l o2 b = some o := by
  rw [upd_ne ne, upd_ne (ne_of_none h nt)]
  exact h
end Lw
namespace Lw
open PySem PySem.Spec L2 Lx
theorem wh3 : ∀ f : Fm, ¬ (HT.sIx f.vs.length 0 (some 3) = 0 ∧ HT.sIx f.vs.length f.vs.length none = f.vs.length)
  | .keep _ _ => show ¬ (HT.sIx 3 0 (some 3) = 0 ∧ HT.sIx 3 3 none = 3) by decide
  | .lf _ _ _ _ => show ¬ (HT.sIx 5 0 (some 3) = 0 ∧ HT.sIx 5 5 none = 5) by decide
  | .cr _ _ _ => show ¬ (HT.sIx 4 0 (some 3) = 0 ∧ HT.sIx 4 4 none = 4) by decide
theorem vs_len : ∀ f : Fm, f.vs.length ≤ 5
  | .keep _ _ => by show 3 ≤ 5; decide
  | .lf _ _ _ _ => Nat.le_refl 5
  | .cr _ _ _ => by show 4 ≤ 5; decide
def Fm.isKeep : Fm → Bool
  | .keep _ _ => true
  | _ => false
/-- units of one unit -/
def Fm.one : Fm → Fm → Int
  | .lf _ _ _ c, g => g.after c + 1
  | _, _ => 1
theorem nk_k {f : Fm} (h : Fm.isKeep f = false) : ∃ k, f.vs[3]? = some (.int k) := by
  cases f with
  | keep _ _ => cases h
  | lf _ _ k _ => exact ⟨k, rfl⟩
  | cr _ _ k => exact ⟨k, rfl⟩
theorem nk_ok {f : Fm} {n : Nat} {k : Int} (h : Fm.isKeep f = false) (o : f.Ok n) (e : f.vs[3]? = some (.int k)) : 0 < k ∧ Sm n k := by
  cases f with
  | keep _ _ => cases h
  | lf _ _ _ _ => cases e; exact ⟨o.2.2.1, o.2.2.2.2.2.2.1⟩
  | cr _ _ _ => cases e; exact ⟨o.2.2.1, o.2.2.2.2.2⟩
theorem nk_pos {f : Fm} {n : Nat} (h : Fm.isKeep f = false) (o : f.Ok n) : 0 < n := by
  obtain ⟨k, e⟩ := nk_k h
  have h1 := nk_ok h o e
  have h2 : k.natAbs < 2 ^ n := h1.2
  have h3 := h1.1
  rcases Nat.eq_zero_or_pos n with z | z
  · subst z
    omega
  · exact z
theorem one_ok {f g : Fm} {n : Nat} (h : Fm.isKeep f = false) (o : f.Ok n) (og : g.Ok n) : 0 < Fm.one f g ∧ Sm (n + 2) (Fm.one f g) := by
  have h4 : 2 ^ 2 ≤ 2 ^ (n + 2) := Nat.pow_le_pow_right (by decide) (by omega)
  cases f with
  | keep _ _ => cases h
  | lf b a k c =>
    have e := Fm.after_ok og o.2.2.2.1 o.2.2.2.2.2.2.2
    have e2 : 2 ^ (n + 2) = 2 ^ (n + 1) * 2 := Nat.pow_succ 2 (n + 1)
    have e3 : (g.after c).natAbs < 2 ^ (n + 1) := e.2
    have e4 := e.1
    have e5 : 1 ≤ 2 ^ (n + 1) := Nat.one_le_two_pow
    refine ⟨by show 0 < g.after c + 1; omega, ?_⟩
    show (g.after c + 1).natAbs < 2 ^ (n + 2)
    rw [e2]
    generalize 2 ^ (n + 1) = M at *
    omega
  | cr _ _ _ => exact ⟨(by decide : (0 : Int) < 1), Nat.lt_of_lt_of_le (by decide : (1 : Int).natAbs < 2 ^ 2) h4⟩
theorem wh4 : ∀ f : Fm, ¬ (HT.sIx f.vs.length 0 (some 4) = 0 ∧ HT.sIx f.vs.length f.vs.length none = f.vs.length)
  | .keep _ _ => show ¬ (HT.sIx 3 0 (some 4) = 0 ∧ HT.sIx 3 3 none = 3) by decide
  | .lf _ _ _ _ => show ¬ (HT.sIx 5 0 (some 4) = 0 ∧ HT.sIx 5 5 none = 5) by decide
  | .cr _ _ _ => show ¬ (HT.sIx 4 0 (some 4) = 0 ∧ HT.sIx 4 4 none = 4) by decide
/-- the run that a form which keeps no groups makes of so many units -/
def ofUnits (t : Int) : Fm → List (Int × Int) × Int
  | .keep _ _ => ([], 0)
  | .lf _ _ k c => if k * t = 0 then ([], 0) else ([(k * t, c)], 0)
  | .cr _ _ k => ([], k * t)
theorem runAfter_units {r : List (Int × Int) × Int} {f : Fm} (h : Fm.isKeep f = false) : runAfter r f = ofUnits (units r f) f := by
  cases f with
  | keep _ _ => cases h
  | lf _ _ _ _ => rfl
  | cr _ _ _ => rfl
/-- the lengths of forms by their words -/
structure LenT (K : PySem.W.Frag) (w : World) (mg : Str → Option Value) (aL : Addr) : Prop where
  g : mg "FORM_LENGTHS" = some (.ref aL)
  d : ∃ es n, KDict K w aL es n
  keep : ∃ t, PySem.W.nsIn K aL "keep" = some (some (.int 3 t))
  lf : ∃ t, PySem.W.nsIn K aL "lf" = some (some (.int 5 t))
  cr : ∃ t, PySem.W.nsIn K aL "cr" = some (some (.int 4 t))
theorem LenT.at {K : PySem.W.Frag} {w : World} {mg : Str → Option Value} {aL : Addr} (T : LenT K w mg aL) : ∀ f : Fm, ∃ t, PySem.W.nsIn K aL f.nm = some (some (.int f.vs.length t))
  | .keep _ _ => T.keep
  | .lf _ _ _ _ => T.lf
  | .cr _ _ _ => T.cr
theorem cut1 (f : Fm) : cutV f.vs (some 1) none = f.nums.map V.int := by cases f <;> rfl
theorem wh : ∀ f : Fm, ¬ (HT.sIx f.vs.length 0 (some 1) = 0 ∧ HT.sIx f.vs.length f.vs.length none = f.vs.length)
  | .keep _ _ => show ¬ (HT.sIx 3 0 (some 1) = 0 ∧ HT.sIx 3 3 none = 3) by decide
  | .lf _ _ _ _ => show ¬ (HT.sIx 5 0 (some 1) = 0 ∧ HT.sIx 5 5 none = 5) by decide
  | .cr _ _ _ => show ¬ (HT.sIx 4 0 (some 1) = 0 ∧ HT.sIx 4 4 none = 4) by decide
theorem np : ∀ f : Fm, 0 < f.nums.length
  | .keep _ _ => Nat.succ_pos _
  | .lf _ _ _ _ => Nat.succ_pos _
  | .cr _ _ _ => Nat.succ_pos _
theorem nums0 {f : Fm} {n : Nat} (h : f.Ok n) : ∀ x ∈ f.nums, 0 ≤ x := by
  intro x hx
  cases f with
  | keep b a =>
    obtain ⟨h1, h2, _⟩ := h
    simp only [Fm.nums, List.mem_cons, List.not_mem_nil, or_false] at hx
    rcases hx with rfl | rfl <;> assumption
  | lf b a k c =>
    obtain ⟨h1, h2, h3, h4, _⟩ := h
    simp only [Fm.nums, List.mem_cons, List.not_mem_nil, or_false] at hx
    rcases hx with rfl | rfl | rfl | rfl
    · exact h1
    · exact h2
    · omega
    · exact h4
  | cr b a k =>
    obtain ⟨h1, h2, h3, _⟩ := h
    simp only [Fm.nums, List.mem_cons, List.not_mem_nil, or_false] at hx
    rcases hx with rfl | rfl | rfl
    · exact h1
    · exact h2
    · omega
end Lw
namespace Lx
open PySem PySem.Spec L2
/-! ### data that repr can write -/
/-- ints below 2 ^ 400, texts of plain signs -/
def smallB (b : Nat) : PyData → Bool
  | .none | .bool _ => true
  | .int i => decide (i.natAbs < 2 ^ b)
  | .str x => x.cps.toList.all fun c => decide (c < 128)
  | .list xs | .tuple xs => smallAll xs
  | .dict _ => false
where smallAll : List PyData → Bool
  | [] => true
  | x :: xs => smallB b x && smallAll xs
theorem intB_log {b : Nat} (h0 : 0 < b) {i : Int} (h : i.natAbs < 2 ^ b) : i.natAbs.log2 < b := PySem.Flt.log2_lt_of h0 h
theorem intB_shown {b : Nat} (h0 : 0 < b) {i : Int} (h : i.natAbs < 2 ^ b) : (PyData.shown (.int i)).length ≤ b + 1 := by
  have e := int_text_length_le (k := b) h0 (intB_log h0 h)
  show (Str.ofString (toString i)).length ≤ b + 1
  rw [ofString_length]
  omega
mutual
theorem smallB_can {b : Nat} (h0 : 0 < b) (h1 : b ≤ 1900) : ∀ d : PyData, smallB b d = true → d.showable = true
  | .none, _ => rfl
  | .bool _, _ => rfl
  | .int i, h => by
    have e := intB_log h0 (of_decide_eq_true (show decide (i.natAbs < 2 ^ b) = true by simpa only [smallB] using h))
    simp only [PyData.showable]
    exact decide_eq_true (by omega)
  | .str _, _ => rfl
  | .list xs, h => by
    simp only [PyData.showable]
    exact smallB_canAll h0 h1 xs (by simpa only [smallB] using h)
  | .tuple xs, h => by
    simp only [PyData.showable]
    exact smallB_canAll h0 h1 xs (by simpa only [smallB] using h)
  | .dict _, h => by simp [smallB] at h
theorem smallB_canAll {b : Nat} (h0 : 0 < b) (h1 : b ≤ 1900) : ∀ xs : List PyData, smallB.smallAll b xs = true → PyData.showableAll xs = true
  | [], _ => rfl
  | x :: xs, h => by
    have h' : smallB b x = true ∧ smallB.smallAll b xs = true := by simpa only [smallB.smallAll, Bool.and_eq_true] using h
    simp only [PyData.showableAll, Bool.and_eq_true]
    exact ⟨smallB_can h0 h1 x h'.1, smallB_canAll h0 h1 xs h'.2⟩
end
mutual
theorem smallB_no {b : Nat} : ∀ d : PyData, smallB b d = true → d.hasDict = false
  | .none, _ => rfl
  | .bool _, _ => rfl
  | .int i, h => rfl
  | .str _, _ => rfl
  | .list xs, h => by
    simp only [PyData.hasDict]
    exact smallB_noAll xs (by simpa only [smallB] using h)
  | .tuple xs, h => by
    simp only [PyData.hasDict]
    exact smallB_noAll xs (by simpa only [smallB] using h)
  | .dict _, h => by simp [smallB] at h
theorem smallB_noAll {b : Nat} : ∀ xs : List PyData, smallB.smallAll b xs = true → PyData.hasDictAll xs = false
  | [], _ => rfl
  | x :: xs, h => by
    have h' : smallB b x = true ∧ smallB.smallAll b xs = true := by simpa only [smallB.smallAll, Bool.and_eq_true] using h
    simp only [PyData.hasDictAll, Bool.or_eq_false_iff]
    exact ⟨smallB_no x h'.1, smallB_noAll xs h'.2⟩
end
mutual
theorem smallB_leaves {b : Nat} (h0 : 0 < b) (h8 : 8 ≤ b) : ∀ d : PyData, smallB b d = true → d.leavesShort (b + 1) = true
  | .none, _ => rfl
  | .bool _, _ => rfl
  | .int i, h => by
    have e := intB_shown h0 (of_decide_eq_true (show decide (i.natAbs < 2 ^ b) = true by simpa only [smallB] using h))
    simp only [PyData.leavesShort]
    exact decide_eq_true e
  | .str x, h => by
    simp only [PyData.leavesShort, List.all_eq_true, decide_eq_true_eq]
    simp only [smallB, List.all_eq_true, decide_eq_true_eq] at h
    intro c hc
    exact Nat.lt_of_lt_of_le (h c hc) (by decide)
  | .list xs, h => by
    simp only [PyData.leavesShort]
    exact smallB_leavesAll h0 h8 xs (by simpa only [smallB] using h)
  | .tuple xs, h => by
    simp only [PyData.leavesShort]
    exact smallB_leavesAll h0 h8 xs (by simpa only [smallB] using h)
  | .dict _, h => by simp [smallB] at h
theorem smallB_leavesAll {b : Nat} (h0 : 0 < b) (h8 : 8 ≤ b) : ∀ xs : List PyData, smallB.smallAll b xs = true → PyData.leavesShortAll (b + 1) xs = true
  | [], _ => rfl
  | x :: xs, h => by
    have h' : smallB b x = true ∧ smallB.smallAll b xs = true := by simpa only [smallB.smallAll, Bool.and_eq_true] using h
    simp only [PyData.leavesShortAll, Bool.and_eq_true]
    exact ⟨smallB_leaves h0 h8 x h'.1, smallB_leavesAll h0 h8 xs h'.2⟩
end
theorem fit_b {b : Nat} {d : PyData} (h8 : 8 ≤ b) (h1 : b ≤ 1900) (h : smallB b d = true) (hd : d.depth ≤ 40) (hb : (b + 3) * d.bulk + (b + 1) ≤ 16777216) : Fit d := by
  refine ⟨smallB_can (by omega) h1 d h, smallB_no d h, hd, ?_⟩
  have e := PyData.shown_le_bulk (b + 1) (by omega) d (smallB_leaves (by omega) h8 d h)
  rw [sizeLine_eq]
  have e2 : (b + 1 + 2) * d.bulk = (b + 3) * d.bulk := rfl
  omega
end Lx
namespace Lw
open PySem PySem.Spec L2 Lx
/-! ### a chain step by step -/
def stepsL (r : List (Int × Int) × Int) (cs : List Nat) : List (Int × Int) × Int := cs.foldl (fun y c => runAfter y (stepF c)) r
theorem stepsL_snoc (r : List (Int × Int) × Int) (cs : List Nat) (c : Nat) : stepsL r (cs ++ [c]) = runAfter (stepsL r cs) (stepF c) := by
  unfold stepsL
  rw [List.foldl_append]
  rfl
theorem stepsL_append (r : List (Int × Int) × Int) (a b : List Nat) : stepsL r (a ++ b) = stepsL (stepsL r a) b := by
  unfold stepsL
  rw [List.foldl_append]
theorem formL_snoc (cs : List Nat) (c : Nat) : formL (cs ++ [c]) = (formL cs).both (stepF c) := by
  unfold formL
  rw [List.foldl_append]
  rfl
theorem merged_ok {n : Nat} (k : Nat) : ∀ gs : List (Int × Int), gs.length = k → GsOk n gs → Lx.merged gs = gs := by
  induction k with
  | zero =>
    intro gs h _
    rw [List.eq_nil_of_length_eq_zero h]
    rfl
  | succ k ih =>
    intro gs h hg
    rcases snoc_or gs with rfl | ⟨a, y, rfl⟩
    · rfl
    · obtain ⟨h1, h2, _⟩ := gsok_front hg
      rw [merged_snoc, ih a (by simpa using h) h1]
      rcases snoc_or a with rfl | ⟨b, z, rfl⟩
      · rfl
      · rw [addTo_snoc, if_neg (h2 b z rfl)]
theorem after_nothing {j : Int} (h : 0 ≤ j) : nothing.after j = j := by
  show (if j - 0 > 0 then j - 0 else 0) + 0 = j
  have := pp (j - 0)
  omega
theorem moved_nothing {gs : List (Int × Int)} (h : ∀ x ∈ gs, 0 ≤ x.2) : moved nothing gs = gs := by
  unfold moved
  induction gs with
  | nil => rfl
  | cons g gs ih =>
    rw [List.map_cons, ih fun x hx => h x (List.mem_cons_of_mem _ hx), after_nothing (h g (List.mem_cons_self ..))]
theorem runAfter_nothing {n : Nat} {r : List (Int × Int) × Int} (h : RnOk n r) : runAfter r nothing = r := by
  show (Lx.merged (moved nothing r.1), r.2) = r
  rw [moved_nothing (fun x hx => ((RnOk.sm h).1 x hx).2.1), merged_ok _ r.1 rfl h.gs]
theorem conv_form {n : Nat} {r : List (Int × Int) × Int} (h : RnOk n r) (k : Nat) : ∀ cs : List Nat, cs.length = k → runAfter r (formL cs) = stepsL r cs := by
  induction k with
  | zero =>
    intro cs e
    rw [List.eq_nil_of_length_eq_zero e]
    exact runAfter_nothing h
  | succ k ih =>
    intro cs e
    rcases snoc_or cs with rfl | ⟨a, c, rfl⟩
    · exact runAfter_nothing h
    · rw [formL_snoc, ← runAfter_both, ih a (by simpa using e), stepsL_snoc]
theorem conv_of {n : Nat} {r : List (Int × Int) × Int} (h : RnOk n r) (x : Str) : runAfter r (formOf x) = stepsL r x.cps.toList := conv_form h _ _ rfl
/-! ### forms of short chains -/
def FLs (L : Nat) : Fm → Prop
  | .keep b a => 0 ≤ b ∧ b ≤ L ∧ 0 ≤ a ∧ a ≤ L
  | .lf b a k c => 0 ≤ b ∧ b ≤ L ∧ 0 ≤ a ∧ a ≤ L ∧ 0 < k ∧ Sm (6 * L + 1) k ∧ 0 ≤ c ∧ c ≤ L
  | .cr b a k => 0 ≤ b ∧ b ≤ L ∧ 0 ≤ a ∧ a ≤ L ∧ 0 < k ∧ Sm (6 * L + 1) k
theorem sms_le {L : Nat} {x : Int} (h0 : 0 ≤ x) (h : x ≤ L) : Sm (6 * L + 1) x := by
  have h1 : L < 2 ^ L := Nat.lt_two_pow_self
  have h2 : 2 ^ L ≤ 2 ^ (6 * L + 1) := Nat.pow_le_pow_right (by decide) (by omega)
  unfold Sm
  omega
theorem FLs.ok {L : Nat} : ∀ {f : Fm}, FLs L f → f.Ok (6 * L + 1)
  | .keep _ _, ⟨h1, h2, h3, h4⟩ => ⟨h1, h3, sms_le h1 h2, sms_le h3 h4⟩
  | .lf _ _ _ _, ⟨h1, h2, h3, h4, h5, h6, h7, h8⟩ => ⟨h1, h3, h5, h7, sms_le h1 h2, sms_le h3 h4, h6, sms_le h7 h8⟩
  | .cr _ _ _, ⟨h1, h2, h3, h4, h5, h6⟩ => ⟨h1, h3, h5, sms_le h1 h2, sms_le h3 h4, h6⟩
theorem sms_mul {L : Nat} {k x : Int} (hk : Sm (6 * L + 1) k) (h0 : 0 ≤ x) (h : x < 64) : Sm (6 * (L + 1) + 1) (k * x * 1) := by
  have e : Sm 6 x := by
    unfold Sm
    have : (2 : Nat) ^ 6 = 64 := by decide
    omega
  rw [Int.mul_one]
  exact (hk.mul e).mono (by omega)
theorem sms_up {L : Nat} {k : Int} (hk : Sm (6 * L + 1) k) : Sm (6 * (L + 1) + 1) k := hk.mono (by omega)
theorem FLs.step {L : Nat} (hL : L ≤ 60) {c : Nat} (hc : c ∈ steps.cps.toList) {f : Fm} (h : FLs L f) : FLs (L + 1) (f.both (stepF c)) := by
  cases f with
  | keep b a =>
    obtain ⟨h1, h2, h3, h4⟩ := h
    have p1 := pp (0 - a)
    have p2 := pp (a - 0)
    have p3 := pp (1 - a)
    have p4 := pp (a - 1)
    have one : Sm (6 * (L + 1) + 1) 1 := sms_le (L := L + 1) (by decide) (by omega)
    rcases step_cases hc with e | e | e | e <;> rw [e] <;> simp only [Fm.both, Fm.ahead, Fm.b, Fm.a, FLs]
    · exact ⟨by omega, by omega, by omega, by omega⟩
    · exact ⟨by omega, by omega, by omega, by omega⟩
    · exact ⟨by omega, by omega, by omega, by omega, by decide, one, by decide, by omega⟩
    · exact ⟨by omega, by omega, by omega, by omega, by decide, one⟩
  | lf b a k d =>
    obtain ⟨h1, h2, h3, h4, h5, h6, h7, h8⟩ := h
    have p1 := pp (d - 0)
    have p2 := pp (d - 1)
    rcases step_cases hc with e | e | e | e <;> rw [e] <;> simp only [Fm.both, Fm.after, Fm.b, Fm.a, FLs]
    · exact ⟨h1, by omega, h3, by omega, h5, sms_up h6, by omega, by omega⟩
    · exact ⟨h1, by omega, h3, by omega, h5, sms_up h6, by omega, by omega⟩
    · refine ⟨h1, by omega, h3, by omega, ?_, sms_mul h6 (by omega) (by omega), by decide, by omega⟩
      rw [Int.mul_one]
      exact Int.mul_pos h5 (by omega)
    · refine ⟨h1, by omega, h3, by omega, ?_, sms_mul h6 (by omega) (by omega)⟩
      rw [Int.mul_one]
      exact Int.mul_pos h5 (by omega)
  | cr b a k =>
    obtain ⟨h1, h2, h3, h4, h5, h6⟩ := h
    rcases step_cases hc with e | e | e | e <;> rw [e] <;> simp only [Fm.both, FLs, Int.mul_one]
    · exact ⟨h1, by omega, h3, by omega, h5, sms_up h6⟩
    · exact ⟨h1, by omega, h3, by omega, h5, sms_up h6⟩
    · exact ⟨h1, by omega, h3, by omega, h5, sms_up h6, by decide, by omega⟩
    · exact ⟨h1, by omega, h3, by omega, h5, sms_up h6⟩
theorem formL_fls (k : Nat) : ∀ cs : List Nat, cs.length = k → k ≤ 61 → (∀ c ∈ cs, c ∈ steps.cps.toList) → FLs k (formL cs) := by
  induction k with
  | zero =>
    intro cs h _ _
    rw [List.eq_nil_of_length_eq_zero h]
    exact ⟨by decide, by decide, by decide, by decide⟩
  | succ k ih =>
    intro cs h hk hc
    rcases snoc_or cs with rfl | ⟨a, c, rfl⟩
    · simp at h
    · rw [formL_snoc]
      exact (ih a (by simpa using h) (by omega) fun d hd => hc d (List.mem_append.mpr (.inl hd))).step (by omega) (hc c (by simp))
/-! ### lengths -/
theorem addTo_len (a : List (Int × Int)) (x : Int × Int) : (addTo a x).length ≤ a.length + 1 := by
  rcases snoc_or a with rfl | ⟨b, y, rfl⟩
  · exact Nat.le_refl _
  · rw [addTo_snoc]
    split <;> simp
theorem fold_len : ∀ (gs acc : List (Int × Int)), (gs.foldl addTo acc).length ≤ acc.length + gs.length
  | [], acc => Nat.le_refl _
  | g :: gs, acc => by
    have h1 := fold_len gs (addTo acc g)
    have h2 := addTo_len acc g
    rw [List.foldl_cons, List.length_cons]
    omega
theorem runAfter_len (r : List (Int × Int) × Int) (f : Fm) : (runAfter r f).1.length ≤ max r.1.length 1 := by
  cases f with
  | keep b a =>
    have := fold_len (moved (.keep b a) r.1) []
    have e : (moved (.keep b a) r.1).length = r.1.length := List.length_map ..
    show (Lx.merged (moved (.keep b a) r.1)).length ≤ _
    unfold Lx.merged
    rw [e] at this
    simp at this
    omega
  | lf b a k c =>
    show (if k * units r (.lf b a k c) = 0 then (([] : List (Int × Int)), (0 : Int)) else ([(k * units r (.lf b a k c), c)], 0)).1.length ≤ _
    split
    · exact Nat.zero_le _
    · exact Nat.le_max_right ..
  | cr b a k => exact Nat.zero_le _
theorem _root_.Lx.RnOk.mono {n m : Nat} {r : List (Int × Int) × Int} (h : RnOk n r) (k : n ≤ m) : RnOk m r :=
  ⟨fun i x hx => let ⟨h1, h2, h3, h4, h5⟩ := h.gs i x hx; ⟨h1, h2, h3.mono k, h4.mono k, h5⟩, ⟨h.rest.1, h.rest.2.mono k⟩, h.len⟩
/-- a chain of at most sixty steps from a run with numbers below 2 ^ 361 -/
theorem stepsL_ok {n : Nat} {r : List (Int × Int) × Int} (h : RnOk n r) (hn : n ≤ 361) {cs : List Nat} (hl : cs.length ≤ 60) (hc : ∀ c ∈ cs, c ∈ steps.cps.toList) : RnOk 1123 (stepsL r cs) ∧ (stepsL r cs).1.length ≤ max r.1.length 1 := by
  rw [← conv_form h _ cs rfl]
  have f := (formL_fls _ cs rfl (by omega) hc).ok
  exact ⟨runAfter_ok (h.mono hn) (f.mono (by omega)), runAfter_len r _⟩
/-! ### runs that repr can write -/
theorem pd_smallB {b : Nat} : ∀ (gs : List (Int × Int)), (∀ x ∈ gs, Sm b x.1 ∧ Sm b x.2) → smallB.smallAll b (pd gs) = true
  | [], _ => rfl
  | g :: gs, h => by
    have h1 := h g (List.mem_cons_self ..)
    have ih := pd_smallB gs fun x hx => h x (List.mem_cons_of_mem _ hx)
    unfold pd at ih ⊢
    simp only [List.map_cons, smallB.smallAll, smallB, ih, Bool.and_true]
    rw [decide_eq_true (show g.1.natAbs < 2 ^ b from h1.1), decide_eq_true (show g.2.natAbs < 2 ^ b from h1.2)]
    rfl
theorem rd_smallB {b : Nat} {g : List (Int × Int) × Int} (h : RnOk b g) : smallB b (rd g) = true := by
  have e1 := pd_smallB (b := b) g.1 fun x hx => by
    obtain ⟨i, hi⟩ := List.mem_iff_getElem?.mp hx
    exact ⟨(h.gs i x hi).2.2.1, (h.gs i x hi).2.2.2.1⟩
  unfold rd
  simp only [smallB, smallB.smallAll, e1, Bool.and_true, Bool.true_and]
  exact decide_eq_true h.rest.2
theorem pd_bulk3 (gs : List (Int × Int)) : PyData.bulkAll (pd gs) = 3 * gs.length := by
  unfold pd
  induction gs with
  | nil => rfl
  | cons g gs ih =>
    simp only [List.map_cons, PyData.bulkAll, PyData.bulk, List.length_cons]
    omega
theorem rd_bulk (g : List (Int × Int) × Int) : (rd g).bulk = 3 * g.1.length + 2 := by
  have e := pd_bulk3 g.1
  unfold rd
  simp only [PyData.bulk, PyData.bulkAll]
  omega
theorem rd_fit {g : List (Int × Int) × Int} (h : RnOk 1123 g) (hl : g.1.length ≤ 1000) : Fit (rd g) := by
  have e := rd_bulk g
  have e2 := rd_depth g
  exact fit_b (b := 1123) (by decide) (by decide) (rd_smallB h) (by omega) (by omega)
theorem rd2_fit {g h : List (Int × Int) × Int} (h1 : RnOk 1123 g) (h2 : RnOk 1123 h) (hl : g.1.length ≤ 1000) (hl2 : h.1.length ≤ 1000) : Fit (.list [rd g, rd h]) := by
  have e := rd_bulk g
  have e' := rd_bulk h
  have e2 := rd_depth g
  have e2' := rd_depth h
  refine fit_b (b := 1123) (by decide) (by decide) ?_ ?_ ?_
  · simp only [smallB, smallB.smallAll, rd_smallB h1, rd_smallB h2, Bool.and_true]
  · simp only [PyData.depth, PyData.depthAll]
    omega
  · simp only [PyData.bulk, PyData.bulkAll]
    omega
theorem int_fit {x : Int} (h : Sm 1900 x) : Fit (.int x) := by
  refine fit_b (b := 1900) (by decide) (by decide) ?_ (by simp [PyData.depth]) (by simp [PyData.bulk])
  simp only [smallB]
  exact decide_eq_true h
end Lw
namespace Lw
open PySem PySem.Spec L2 Lx
theorem cutS_head (z : Str) (k : Nat) (h : k ≤ z.cps.size) : (cutS z none (some (k : Int))).cps.toList = z.cps.toList.take k := by
  unfold cutS
  have e : z.length = z.cps.size := rfl
  rw [e, HT.sIx_none, HT.sIx_nat, Nat.min_eq_left h]
  simp
theorem cutS_tail (z : Str) (k : Nat) (h : k ≤ z.cps.size) : (cutS z (some (k : Int)) none).cps.toList = z.cps.toList.drop k := by
  unfold cutS
  have e : z.length = z.cps.size := rfl
  rw [e, HT.sIx_none, HT.sIx_nat, Nat.min_eq_left h]
  simp
  exact List.take_of_length_le (by simp)
end Lw
namespace Lw
open PySem PySem.Spec L2 Lx
theorem units_size {g : List (Int × Int) × Int} {f : Fm} (h : RnOk 361 g) (hf : f.Ok 361) : Sm 1600 (units (runAfter g f) nothing) := by
  have hu := units_ok (RnOk.sm h) hf
  cases f with
  | keep b a =>
    rw [units_both]
    have e : (Fm.keep b a).both nothing = .keep b a := by
      have p1 := pp (0 - a)
      have p2 := pp (a - 0)
      have ha := hf.2.1
      show Fm.keep (b + (if 0 - a > 0 then 0 - a else 0)) ((if a - 0 > 0 then a - 0 else 0) + 0) = _
      congr 1 <;> omega
    rw [e]
    exact hu.2.mono (by decide)
  | lf b a k c =>
    by_cases z : k * units g (.lf b a k c) = 0
    · rw [show runAfter g (.lf b a k c) = ([], 0) from if_pos z]
      exact Nat.two_pow_pos _
    · rw [show runAfter g (.lf b a k c) = ([(k * units g (.lf b a k c), c)], 0) from if_neg z, units_one, after_nothing hf.2.2.2.1]
      have h1 := hf.2.2.2.2.2.2.1.mul hu.2
      have h2 : Sm 362 (c + 1) := hf.2.2.2.2.2.2.2.add (Nat.lt_of_lt_of_le (by decide : (1 : Int).natAbs < 2 ^ 1) (Nat.pow_le_pow_right (by decide) (by decide)))
      exact (h1.mul h2).mono (by decide)
  | cr b a k =>
    show Sm 1600 (units ([], k * units g (.cr b a k)) nothing)
    rw [units_none]
    exact (hf.2.2.2.2.2.mul hu.2).mono (by decide)
theorem stepsL_units {n : Nat} {r : List (Int × Int) × Int} (h : RnOk n r) (hn : n ≤ 361) {cs : List Nat} (hl : cs.length ≤ 60) (hc : ∀ c ∈ cs, c ∈ steps.cps.toList) : Sm 1900 (units (stepsL r cs) nothing) := by
  rw [← conv_form h _ cs rfl]
  have f := (formL_fls _ cs rfl (by omega) hc).ok
  exact (units_size (h.mono hn) (f.mono (by omega))).mono (by decide)
end Lw
namespace Lw
open PySem PySem.Spec L2 Lx
/-! ### a dict of draws -/
abbrev bagK (g : Addr) (l t b : Int) : List (Key × V) := [(.inr "great", .ref g), (.inr "left", .int l), (.inr "turn", .int t), (.inr "blend", .int b)]
theorem bag_put_left {g : Addr} {l t b x : Int} : putK (bagK g l t b) (.inr "left") (.int x) = bagK g x t b := by rfl
theorem bag_put_turn {g : Addr} {l t b x : Int} : putK (bagK g l t b) (.inr "turn") (.int x) = bagK g l x b := by rfl
theorem bag_great {g : Addr} {l t b : Int} : valV (bagK g l t b) (.inr "great") = some (.ref g) := by rfl
theorem bag_left {g : Addr} {l t b : Int} : valV (bagK g l t b) (.inr "left") = some (.int l) := by rfl
theorem bag_turn {g : Addr} {l t b : Int} : valV (bagK g l t b) (.inr "turn") = some (.int t) := by rfl
theorem bag_blend {g : Addr} {l t b : Int} : valV (bagK g l t b) (.inr "blend") = some (.int b) := by rfl
def BagAt (H : Hp) (r gl : Addr) (n : Nat) : Prop := ∃ (ds : List Int) (l t b : Int), H r = some (.dK (bagK gl l t b)) ∧ H gl = some (.lst (ds.map V.int)) ∧ (∀ d ∈ ds, 0 ≤ d) ∧ 0 ≤ l ∧ 0 ≤ t ∧ t ≤ n ∧ 0 ≤ b ∧ b < 2305843009213693952 ∧ r ≠ gl
theorem bag_get {H : Hp} {r gl : Addr} {l t b : Int} {k : Str} {v : V} (h : H r = some (.dK (bagK gl l t b))) (e : valV (bagK gl l t b) (.inr k) = some v) : DGet H r (.str k) (some v) := .inl ⟨_, .inr k, .inl h, rfl, e.symm⟩
/-- all but two addresses is as it was -/
def Kb (r gl : Addr) (H H' : Hp) : Prop := ∀ b o, b ≠ r → b ≠ gl → H b = some o → H' b = some o
theorem Kb.refl (r gl : Addr) (H : Hp) : Kb r gl H H := fun _ _ _ _ h => h
theorem Kb.trans {r gl : Addr} {H H1 H2 : Hp} (a : Kb r gl H H1) (b : Kb r gl H1 H2) : Kb r gl H H2 := fun c o h1 h2 h => b c o h1 h2 (a c o h1 h2 h)
theorem Kb.of {r gl : Addr} {H H' : Hp} (s : Same H H') : Kb r gl H H' := fun b o _ _ h => s b o h
theorem Kb.upd_r {r gl : Addr} {H : Hp} {o : HO} : Kb r gl H (upd H r o) := fun b u h1 h2 h => by rw [upd_ne h1]; exact h
theorem Kb.upd_g {r gl : Addr} {H : Hp} {o : HO} : Kb r gl H (upd H gl o) := fun b u h1 h2 h => by rw [upd_ne h2]; exact h
theorem Kb.own {r gl p : Addr} {H H' : Hp} {o : HO} (k : Kb r gl H H') (h : H p = none) : Kb r gl H (upd H' p o) := fun b u h1 h2 e => by
  rw [upd_ne (ne_of_none e h)]
  exact k b u h1 h2 e
theorem BagAt.same {H H' : Hp} {r gl : Addr} {n : Nat} (s : Same H H') : BagAt H r gl n → BagAt H' r gl n := fun ⟨ds, l, t, b, h1, h2, h3⟩ => ⟨ds, l, t, b, s _ _ h1, s _ _ h2, h3⟩
theorem BagAt.mono {H : Hp} {r gl : Addr} {n m : Nat} (k : n ≤ m) : BagAt H r gl n → BagAt H r gl m := fun ⟨ds, l, t, b, h1, h2, h3, h4, h5, h6, h7⟩ => ⟨ds, l, t, b, h1, h2, h3, h4, h5, by omega, h7⟩
theorem BagAt.ne {H : Hp} {r gl p : Addr} {n : Nat} (s : BagAt H r gl n) (h : H p = none) : p ≠ r ∧ p ≠ gl := by
  obtain ⟨_, _, _, _, q1, q2, _⟩ := s
  exact ⟨Ne.symm (ne_of_none q1 h), Ne.symm (ne_of_none q2 h)⟩
theorem BagAt.neT {H : Hp} {r gl p : Addr} {n : Nat} {xs : List V} (s : BagAt H r gl n) (h : H p = some (.tup xs)) : p ≠ r ∧ p ≠ gl := by
  obtain ⟨_, _, _, _, q1, q2, _⟩ := s
  exact ⟨ne_of h q1 (by intro z; cases z), ne_of h q2 (by intro z; cases z)⟩
theorem BagAt.own {H : Hp} {r gl p : Addr} {n : Nat} {o : HO} (s : BagAt H r gl n) (ne : p ≠ r ∧ p ≠ gl) : BagAt (upd H p o) r gl n := by
  obtain ⟨ds, l, t, b, h1, h2, h3⟩ := s
  exact ⟨ds, l, t, b, by rw [upd_ne (Ne.symm ne.1)]; exact h1, by rw [upd_ne (Ne.symm ne.2)]; exact h2, h3⟩
theorem Kb.free {r gl : Addr} {H H' : Hp} {n : Nat} (k : Kb r gl H H') (s : BagAt H' r gl n) {p : Addr} (h : H' p = none) : H p = none := by
  cases e : H p with
  | none => rfl
  | some o =>
    have := k p o (s.ne h).1 (s.ne h).2 e
    rw [h] at this
    cases this
theorem Prs.kb {K : PySem.W.Frag} {H H' : Hp} {r gl : Addr} {n : Nat} (s : BagAt H r gl n) (k : Kb r gl H H') : ∀ {vs : List V} {gs : List (Int × Int)}, Prs K H vs gs → Prs K H' vs gs
  | _, _, .nil => .nil
  | _, _, .cons ⟨p, e, h⟩ t => .cons ⟨p, e, k _ _ (s.neT h).1 (s.neT h).2 h⟩ (Prs.kb s k t)
theorem RnS.kb {K : PySem.W.Frag} {H H' : Hp} {v : V} {l r gl : Addr} {n : Nat} {g : List (Int × Int) × Int} (s : BagAt H r gl n) (k : Kb r gl H H') (ne : l ≠ r ∧ l ≠ gl) : RnS K H v l g → RnS K H' v l g :=
  fun ⟨p, xs, h1, h2, h3, h4⟩ => ⟨p, xs, h1, k _ _ (s.neT h2).1 (s.neT h2).2 h2, k _ _ ne.1 ne.2 h3, Prs.kb s k h4⟩
theorem if_fin {c : L2.TT} {A B : TS} {D : Ends} {σ : St} {H : Hp} (Fin : St → Hp → Prop) (h : ∀ R : St → Hp → Prop, (∀ σ H, Fin σ H → R σ H) → tIfS c A B { D with nx := R } σ H) (hf : ∀ σ H, Fin σ H → D.nx σ H) : tIfS c A B D σ H := h D.nx hf
/-! ### groups of which some may be empty, put together -/
/-- numbers that can be reckoned with -/
def GsSm (n : Nat) (gs : List (Int × Int)) : Prop := ∀ x ∈ gs, 0 ≤ x.1 ∧ 0 ≤ x.2 ∧ Sm n x.1 ∧ Sm n x.2
def reduced (gs : List (Int × Int)) : List (Int × Int) := Lx.merged (gs.filter fun x => decide (x.1 > 0))
theorem reduced_take {gs : List (Int × Int)} {i : Nat} {x : Int × Int} (h : gs[i]? = some x) : reduced (gs.take (i + 1)) = if x.1 > 0 then addTo (reduced (gs.take i)) x else reduced (gs.take i) := by
  unfold reduced
  rw [List.take_succ, h, List.filter_append]
  by_cases hx : x.1 > 0
  · have e : List.filter (fun x : Int × Int => decide (x.1 > 0)) (some x).toList = [x] := by simp [hx]
    rw [if_pos hx, e]
    unfold Lx.merged
    rw [List.foldl_append]
    rfl
  · have e : List.filter (fun x : Int × Int => decide (x.1 > 0)) (some x).toList = [] := by simp [hx]
    rw [if_neg hx, e, List.append_nil]
theorem reduced_all {gs : List (Int × Int)} (h : ∀ x ∈ gs, x.1 > 0) : reduced gs = Lx.merged gs := by
  unfold reduced
  rw [List.filter_eq_self.mpr fun x hx => decide_eq_true (h x hx)]
theorem reduced_ok {n : Nat} {gs : List (Int × Int)} (h : GsSm n gs) (hl : gs.length ≤ 1000) : GsOk (n + 11) (reduced gs) ∧ (reduced gs).length ≤ gs.length := by
  have hf : (gs.filter fun x => decide (x.1 > 0)).length ≤ gs.length := List.length_filter_le ..
  have m := mi_fold (n := n) (gs.filter fun x => decide (x.1 > 0)) [] 0 (by omega) (fun x hx => by
    obtain ⟨h1, h2⟩ := List.mem_filter.mp hx
    have h2 := of_decide_eq_true h2
    obtain ⟨q1, q2, q3, q4⟩ := h x h1
    exact ⟨by omega, q3, q2, q4.mono (by omega)⟩) ⟨(fun i x hx => by simp at hx), (fun x hx => by cases hx), Nat.le_refl _⟩
  obtain ⟨m1, m2, m3⟩ := m
  refine ⟨m1, ?_⟩
  have : (reduced gs).length ≤ 0 + (gs.filter fun x => decide (x.1 > 0)).length := m3
  omega
end Lw
namespace Lw
open PySem PySem.Spec L2 Lx
/-! ### equal data -/
theorem pd_eqv : ∀ (a b : List (Int × Int)), PyData.eqvAll (pd a) (pd b) = decide (a = b)
  | [], [] => rfl
  | [], _ :: _ => rfl
  | _ :: _, [] => rfl
  | x :: xs, y :: ys => by
    have ih := pd_eqv xs ys
    unfold pd at ih ⊢
    simp only [List.map_cons, PyData.eqvAll, PyData.eqv, Bool.and_true, ih]
    obtain ⟨x1, x2⟩ := x
    obtain ⟨y1, y2⟩ := y
    by_cases h1 : x1 = y1 <;> by_cases h2 : x2 = y2 <;> by_cases h3 : xs = ys <;> simp [h1, h2, h3]
theorem rd_eqv (a b : List (Int × Int) × Int) : PyData.eqv (rd a) (rd b) = decide (a = b) := by
  have h := pd_eqv a.1 b.1
  unfold rd
  simp only [PyData.eqv, PyData.eqvAll, h, Bool.and_true]
  obtain ⟨a1, a2⟩ := a
  obtain ⟨b1, b2⟩ := b
  by_cases h1 : a1 = b1 <;> by_cases h2 : a2 = b2 <;> simp [h1, h2]
theorem fm_dp {K : PySem.W.Frag} {H : Hp} {x : V} {f : Fm} : FmAt K H x f → Dp K H x (fdt f) := fun ⟨p, e, h⟩ => by
  subst e
  cases f with
  | keep b a => exact .tup h (.cons (.str _) (.cons (.int _) (.cons (.int _) .nil)))
  | lf b a k c => exact .tup h (.cons (.str _) (.cons (.int _) (.cons (.int _) (.cons (.int _) (.cons (.int _) .nil)))))
  | cr b a k => exact .tup h (.cons (.str _) (.cons (.int _) (.cons (.int _) (.cons (.int _) .nil))))
theorem fdt_shaped (f : Fm) : SeqAt.shaped (fdt f) = true := by
  cases f <;> (unfold SeqAt.shaped fdt; simp [PyData.canLay0, PyData.canLayAll0, PyData.depth, PyData.depthAll]; decide +kernel)
theorem fdt_eqv (f g : Fm) : PyData.eqv (fdt f) (fdt g) = true ↔ f = g := by
  cases f <;> cases g <;> simp [fdt, PyData.eqv, PyData.eqvAll] <;> decide
/-! ### runs in a list -/
inductive Rns (K : PySem.W.Frag) (H : Hp) : List V → List (List (Int × Int) × Int) → Prop
  | nil : Rns K H [] []
  | cons {v : V} {vs : List V} {r : List (Int × Int) × Int} {rs : List (List (Int × Int) × Int)} : (∃ l, RnS K H v l r) → Rns K H vs rs → Rns K H (v :: vs) (r :: rs)
theorem Rns.same {K : PySem.W.Frag} {H H' : Hp} (s : Same H H') : ∀ {vs rs}, Rns K H vs rs → Rns K H' vs rs
  | _, _, .nil => .nil
  | _, _, .cons ⟨l, h⟩ t => .cons ⟨l, h.same s⟩ (t.same s)
theorem Rns.len {K : PySem.W.Frag} {H : Hp} : ∀ {vs rs}, Rns K H vs rs → vs.length = rs.length
  | _, _, .nil => rfl
  | _, _, .cons _ t => by rw [List.length_cons, List.length_cons, t.len]
theorem Rns.get {K : PySem.W.Frag} {H : Hp} : ∀ {vs rs}, Rns K H vs rs → ∀ {i : Nat} {v : V}, vs[i]? = some v → ∃ r l, rs[i]? = some r ∧ RnS K H v l r
  | _, _, .nil, i, v, h => by simp at h
  | _, _, .cons ⟨l, h1⟩ t, 0, v, h => by
    have e := Option.some.inj h
    subst e
    exact ⟨_, l, rfl, h1⟩
  | _, _, .cons h1 t, i + 1, v, h => t.get (i := i) h
theorem Rns.append {K : PySem.W.Frag} {H : Hp} : ∀ {vs ws rs qs}, Rns K H vs rs → Rns K H ws qs → Rns K H (vs ++ ws) (rs ++ qs)
  | _, _, _, _, .nil, h => h
  | _, _, _, _, .cons a t, h => .cons a (t.append h)
/-! ### forms that do the same twice -/
def sizesOf (f : Fm) : List Int := [0, 1, f.b, f.a, f.b + f.a, 2 * f.nums.sum + 5]
def tests (f : Fm) : List (List (Int × Int) × Int) := [([], 1), ([], 3)] ++ (sizesOf f).map fun j => ([(1, j)], 0)
theorem tests_ok {n : Nat} {f : Fm} (h : f.Ok n) : ∀ r ∈ tests f, RnOk (n + 10) r := by
  have hb := h.b0
  have ha := h.a0
  have one : ∀ z : Int, 0 ≤ z → z ≤ 5 → Sm (n + 10) z := fun z h0 h1 => Nat.lt_of_lt_of_le (show z.natAbs < 2 ^ 10 by
    have : (2 : Nat) ^ 10 = 1024 := by decide
    omega) (Nat.pow_le_pow_right (by decide) (by omega))
  have hs : 0 ≤ f.nums.sum ∧ Sm (n + 3) f.nums.sum := by
    have pw : 2 ^ (n + 3) = 2 ^ n * 8 := Nat.pow_add 2 n 3
    cases f with
    | keep b a =>
      obtain ⟨h1, h2, h3, h4⟩ := h
      unfold Sm at *
      simp only [Fm.nums, List.sum_cons, List.sum_nil]
      rw [pw]
      generalize 2 ^ n = M at *
      omega
    | lf b a k c =>
      obtain ⟨h1, h2, h3, h4, h5, h6, h7, h8⟩ := h
      unfold Sm at *
      simp only [Fm.nums, List.sum_cons, List.sum_nil]
      rw [pw]
      generalize 2 ^ n = M at *
      omega
    | cr b a k =>
      obtain ⟨h1, h2, h3, h4, h5, h6⟩ := h
      unfold Sm at *
      simp only [Fm.nums, List.sum_cons, List.sum_nil]
      rw [pw]
      generalize 2 ^ n = M at *
      omega
  have r0 : ∀ e : Int, 0 ≤ e → e ≤ 5 → RnOk (n + 10) ([], e) := fun e e0 e1 => ⟨fun i x hx => by simp at hx, ⟨e0, one e e0 e1⟩, Nat.zero_le _⟩
  have r1 : ∀ j : Int, 0 ≤ j → Sm (n + 10) j → RnOk (n + 10) ([(1, j)], 0) := fun j j0 j1 => ⟨gsok_snoc (gs := []) (fun i x hx => by simp at hx) (fun a y e => by simp at e) ⟨by show (1 : Int) ≤ 1; decide, j0, one 1 (by decide) (by decide), j1⟩, ⟨(by decide : (0 : Int) ≤ 0), one 0 (by decide) (by decide)⟩, by show 1 ≤ 1000; decide⟩
  have m : ∀ {z : Int} {k : Nat}, k ≤ n + 10 → Sm k z → Sm (n + 10) z := fun h1 h2 => h2.mono h1
  have pw4 : Sm (n + 10) (2 * f.nums.sum + 5) := by
    have e : 2 ^ (n + 10) = 2 ^ (n + 3) * 128 := by rw [show n + 10 = (n + 3) + 7 from rfl, Nat.pow_add]
    have e1 : 1 ≤ 2 ^ (n + 3) := Nat.one_le_two_pow
    have h1 := hs.2
    unfold Sm at *
    rw [e]
    generalize 2 ^ (n + 3) = M at *
    omega
  intro r hr
  have hr' : r ∈ [([], 1), ([], 3), ([(1, 0)], 0), ([(1, 1)], 0), ([(1, f.b)], 0), ([(1, f.a)], 0), ([(1, f.b + f.a)], 0), ([(1, 2 * f.nums.sum + 5)], (0 : Int))] := hr
  simp only [List.mem_cons, List.not_mem_nil, or_false] at hr'
  rcases hr' with rfl | rfl | rfl | rfl | rfl | rfl | rfl | rfl
  · exact r0 1 (by decide) (by decide)
  · exact r0 3 (by decide) (by decide)
  · exact r1 0 (by decide) (one 0 (by decide) (by decide))
  · exact r1 1 (by decide) (one 1 (by decide) (by decide))
  · exact r1 _ hb.1 (m (by omega) hb.2)
  · exact r1 _ ha.1 (m (by omega) ha.2)
  · exact r1 _ (by omega) (m (by omega) (hb.2.add ha.2))
  · exact r1 _ (by have := hs.1; omega) pw4
theorem sum_ge {n : Nat} {f : Fm} (h : f.Ok n) : f.b ≤ f.nums.sum := by
  cases f with
  | keep b a =>
    obtain ⟨h1, h2, _⟩ := h
    simp only [Fm.nums, List.sum_cons, List.sum_nil, Fm.b]
    omega
  | lf b a k c =>
    obtain ⟨h1, h2, h3, h4, _⟩ := h
    simp only [Fm.nums, List.sum_cons, List.sum_nil, Fm.b]
    omega
  | cr b a k =>
    obtain ⟨h1, h2, h3, _⟩ := h
    simp only [Fm.nums, List.sum_cons, List.sum_nil, Fm.b]
    omega
theorem run1 (b a j : Int) : runAfter ([(1, j)], 0) (.keep b a) = ([(1, (Fm.keep b a).after j)], 0) := rfl
theorem twice {n : Nat} {f : Fm} (h : f.Ok n) : f.both f = f ↔ ∀ r ∈ tests f, runAfter (runAfter r f) f = runAfter r f := by
  constructor
  · intro e r _
    rw [runAfter_both, e]
  · intro ht
    have t1 := ht ([], 1) (by unfold tests; simp)
    rw [runAfter_both] at t1
    cases f with
    | keep b a =>
      have one : ∀ j : Int, (([(1, j)], 0) : List (Int × Int) × Int) ∈ tests (.keep b a) → ((Fm.keep b a).both (.keep b a)).after j = (Fm.keep b a).after j := fun j hj => by
        have e := ht _ hj
        rw [runAfter_both] at e
        have eb : (Fm.keep b a).both (.keep b a) = .keep (b + if b - a > 0 then b - a else 0) ((if a - b > 0 then a - b else 0) + a) := rfl
        rw [eb] at e ⊢
        rw [run1, run1] at e
        injection e with e1 e2
        injection e1 with e3 e4
        injection e3
      have s1 := one 0 (by unfold tests sizesOf; simp)
      have s2 := one (2 * (Fm.keep b a).nums.sum + 5) (by unfold tests sizesOf; simp)
      have hs := sum_ge h
      obtain ⟨b0, a0, _, _⟩ := h
      have p1 := pp (b - a)
      have p2 := pp (a - b)
      simp only [Fm.both, Fm.ahead, Fm.after, Fm.b, Fm.a, Fm.nums, List.sum_cons, List.sum_nil] at s1 s2 hs ⊢
      generalize (if b - a > 0 then b - a else 0) = A at *
      generalize (if a - b > 0 then a - b else 0) = B at *
      have p3 := pp (0 - (b + A))
      have p4 := pp (0 - b)
      have p5 := pp (2 * (b + (a + 0)) + 5 - (b + A))
      have p6 := pp (2 * (b + (a + 0)) + 5 - b)
      congr 1 <;> omega
    | lf b a k c =>
      obtain ⟨b0, a0, k0, c0, _⟩ := h
      have u0 : 0 ≤ (Fm.lf b a k c).after c := by
        have := pp (c - b)
        show 0 ≤ (if c - b > 0 then c - b else 0) + a
        omega
      have kk : 0 < k * ((Fm.lf b a k c).after c + 1) * k := Int.mul_pos (Int.mul_pos k0 (by omega)) k0
      have un : ∀ g : Fm, units ([], 1) g = 1 := fun g => units_none 1 g
      have e1 : runAfter ([], 1) (.lf b a k c) = ([(k, c)], 0) := by
        show (if k * units ([], 1) (.lf b a k c) = 0 then (([] : List (Int × Int)), (0 : Int)) else ([(k * units ([], 1) (.lf b a k c), c)], 0)) = _
        rw [un, Int.mul_one, if_neg (by omega)]
      have e2 : runAfter ([], 1) ((Fm.lf b a k c).both (.lf b a k c)) = ([(k * ((Fm.lf b a k c).after c + 1) * k, c)], 0) := by
        show (if (k * ((Fm.lf b a k c).after c + 1) * k) * units ([], 1) (.lf b a (k * ((Fm.lf b a k c).after c + 1) * k) c) = 0 then (([] : List (Int × Int)), (0 : Int)) else ([((k * ((Fm.lf b a k c).after c + 1) * k) * units ([], 1) (.lf b a (k * ((Fm.lf b a k c).after c + 1) * k) c), c)], 0)) = _
        rw [un, Int.mul_one, if_neg (by omega)]
      rw [e1, e2] at t1
      injection t1 with t2 t3
      injection t2 with t4 t5
      injection t4 with t6 t7
      show Fm.lf b a (k * ((Fm.lf b a k c).after c + 1) * k) c = _
      rw [t6]
    | cr b a k =>
      have un : ∀ g : Fm, units ([], 1) g = 1 := fun g => units_none 1 g
      have t2 : (([] : List (Int × Int)), (k * 1 * k) * units ([], 1) (.cr b a (k * 1 * k))) = ([], k * units ([], 1) (.cr b a k)) := t1
      rw [un, un, Int.mul_one, Int.mul_one k] at t2
      injection t2 with t3 t4
      show Fm.cr b a (k * 1 * k) = _
      rw [Int.mul_one, t4]
end Lw
namespace Lw
open PySem PySem.Spec L2 Lx
theorem fm_dq' {K : PySem.W.Frag} {H : Hp} {x : V} {f : Fm} : FmAt K H x f → Dq K H x (fdt f) := fun ⟨p, e, h⟩ => by
  subst e
  cases f with
  | keep b a => exact .tup (SqT.tt h) h (.cons (.str _) (.cons (.int _) (.cons (.int _) .nil)))
  | lf b a k c => exact .tup (SqT.tt h) h (.cons (.str _) (.cons (.int _) (.cons (.int _) (.cons (.int _) (.cons (.int _) .nil)))))
  | cr b a k => exact .tup (SqT.tt h) h (.cons (.str _) (.cons (.int _) (.cons (.int _) (.cons (.int _) .nil))))
theorem fdt_self (f : Fm) : PyData.eqv (fdt f) (fdt f) = true := (fdt_eqv f f).mpr rfl
/-! ### joined forms -/
theorem kk_assoc (b a b' a' b'' a'' : Int) (h1 : 0 ≤ a) (h2 : 0 ≤ b') (h3 : 0 ≤ a') (h4 : 0 ≤ b'') :
    (b + (if b' - a > 0 then b' - a else 0)) + (if b'' - ((if a - b' > 0 then a - b' else 0) + a') > 0 then b'' - ((if a - b' > 0 then a - b' else 0) + a') else 0) =
      b + (if (b' + (if b'' - a' > 0 then b'' - a' else 0)) - a > 0 then (b' + (if b'' - a' > 0 then b'' - a' else 0)) - a else 0) ∧
    (if ((if a - b' > 0 then a - b' else 0) + a') - b'' > 0 then ((if a - b' > 0 then a - b' else 0) + a') - b'' else 0) + a'' =
      (if a - (b' + (if b'' - a' > 0 then b'' - a' else 0)) > 0 then a - (b' + (if b'' - a' > 0 then b'' - a' else 0)) else 0) + ((if a' - b'' > 0 then a' - b'' else 0) + a'') := by
  have p1 := pp (b' - a)
  have p2 := pp (a - b')
  have p3 := pp (b'' - a')
  have p4 := pp (a' - b'')
  generalize (if b' - a > 0 then b' - a else 0) = A at *
  generalize (if a - b' > 0 then a - b' else 0) = B at *
  generalize (if b'' - a' > 0 then b'' - a' else 0) = C at *
  generalize (if a' - b'' > 0 then a' - b'' else 0) = D at *
  have p5 := pp (b'' - (B + a'))
  have p6 := pp (B + a' - b'')
  have p7 := pp (b' + C - a)
  have p8 := pp (a - (b' + C))
  generalize (if b'' - (B + a') > 0 then b'' - (B + a') else 0) = E at *
  generalize (if B + a' - b'' > 0 then B + a' - b'' else 0) = F at *
  generalize (if b' + C - a > 0 then b' + C - a else 0) = G at *
  generalize (if a - (b' + C) > 0 then a - (b' + C) else 0) = I at *
  constructor <;> omega
theorem both_assoc {n : Nat} {f g h : Fm} (of : f.Ok n) (og : g.Ok n) (oh : h.Ok n) : (f.both g).both h = f.both (g.both h) := by
  have fa := of.a0.1
  have gb := og.b0.1
  have ga := og.a0.1
  have hb := oh.b0.1
  cases f with
  | keep b a =>
    cases g with
    | keep b' a' =>
      have e := kk_assoc b a b' a' h.b h.a fa gb ga hb
      cases h with
      | keep b'' a'' =>
        show Fm.keep _ _ = Fm.keep _ _
        exact congr (congrArg Fm.keep e.1) e.2
      | lf b'' a'' k'' c'' =>
        show Fm.lf _ _ _ _ = Fm.lf _ _ _ _
        exact congrFun (congrFun (congr (congrArg Fm.lf e.1) e.2) k'') c''
      | cr b'' a'' k'' =>
        show Fm.cr _ _ _ = Fm.cr _ _ _
        exact congrFun (congr (congrArg Fm.cr e.1) e.2) k''
    | lf b' a' k' c' => cases h <;> rfl
    | cr b' a' k' => cases h <;> rfl
  | lf b a k c =>
    cases g with
    | keep b' a' =>
      have e := after_both b' a' h c
      cases h with
      | keep b'' a'' =>
        show Fm.lf b a k _ = Fm.lf b a k _
        exact congrArg (Fm.lf b a k) e
      | lf b'' a'' k'' c'' =>
        show Fm.lf b a (k * ((Fm.lf b'' a'' k'' c'').after ((Fm.keep b' a').after c) + 1) * k'') c'' = Fm.lf b a (k * (((Fm.keep b' a').both (.lf b'' a'' k'' c'')).after c + 1) * k'') c''
        rw [e]
      | cr b'' a'' k'' =>
        show Fm.cr b a (k * ((Fm.cr b'' a'' k'').after ((Fm.keep b' a').after c) + 1) * k'') = Fm.cr b a (k * (((Fm.keep b' a').both (.cr b'' a'' k'')).after c + 1) * k'')
        rw [e]
    | lf b' a' k' c' =>
      cases h with
      | keep b'' a'' => rfl
      | lf b'' a'' k'' c'' =>
        show Fm.lf b a (k * ((Fm.lf b' a' k' c').after c + 1) * k' * ((Fm.lf b'' a'' k'' c'').after c' + 1) * k'') c'' = Fm.lf b a (k * ((Fm.lf b' a' k' c').after c + 1) * (k' * ((Fm.lf b'' a'' k'' c'').after c' + 1) * k'')) c''
        rw [← Int.mul_assoc, ← Int.mul_assoc]
      | cr b'' a'' k'' =>
        show Fm.cr b a (k * ((Fm.lf b' a' k' c').after c + 1) * k' * ((Fm.cr b'' a'' k'').after c' + 1) * k'') = Fm.cr b a (k * ((Fm.lf b' a' k' c').after c + 1) * (k' * ((Fm.cr b'' a'' k'').after c' + 1) * k''))
        rw [← Int.mul_assoc, ← Int.mul_assoc]
    | cr b' a' k' =>
      cases h with
      | keep b'' a'' => rfl
      | lf b'' a'' k'' c'' =>
        show Fm.lf b a (k * ((Fm.cr b' a' k').after c + 1) * k' * 1 * k'') c'' = Fm.lf b a (k * ((Fm.cr b' a' k').after c + 1) * (k' * 1 * k'')) c''
        rw [← Int.mul_assoc, ← Int.mul_assoc]
      | cr b'' a'' k'' =>
        show Fm.cr b a (k * ((Fm.cr b' a' k').after c + 1) * k' * 1 * k'') = Fm.cr b a (k * ((Fm.cr b' a' k').after c + 1) * (k' * 1 * k''))
        rw [← Int.mul_assoc, ← Int.mul_assoc]
  | cr b a k =>
    cases g with
    | keep b' a' =>
      cases h <;> rfl
    | lf b' a' k' c' =>
      cases h with
      | keep b'' a'' => rfl
      | lf b'' a'' k'' c'' =>
        show Fm.lf b a (k * 1 * k' * ((Fm.lf b'' a'' k'' c'').after c' + 1) * k'') c'' = Fm.lf b a (k * 1 * (k' * ((Fm.lf b'' a'' k'' c'').after c' + 1) * k'')) c''
        rw [← Int.mul_assoc, ← Int.mul_assoc]
      | cr b'' a'' k'' =>
        show Fm.cr b a (k * 1 * k' * ((Fm.cr b'' a'' k'').after c' + 1) * k'') = Fm.cr b a (k * 1 * (k' * ((Fm.cr b'' a'' k'').after c' + 1) * k''))
        rw [← Int.mul_assoc, ← Int.mul_assoc]
    | cr b' a' k' =>
      cases h with
      | keep b'' a'' => rfl
      | lf b'' a'' k'' c'' =>
        show Fm.lf b a (k * 1 * k' * 1 * k'') c'' = Fm.lf b a (k * 1 * (k' * 1 * k'')) c''
        rw [← Int.mul_assoc, ← Int.mul_assoc]
      | cr b'' a'' k'' =>
        show Fm.cr b a (k * 1 * k' * 1 * k'') = Fm.cr b a (k * 1 * (k' * 1 * k''))
        rw [← Int.mul_assoc, ← Int.mul_assoc]
theorem both_nothing {n : Nat} {f : Fm} (of : f.Ok n) : f.both nothing = f := by
  have ha := of.a0.1
  cases f with
  | keep b a =>
    have p1 := pp (0 - a)
    have p2 := pp (a - 0)
    show Fm.keep (b + (if 0 - a > 0 then 0 - a else 0)) ((if a - 0 > 0 then a - 0 else 0) + 0) = _
    have ha' : 0 ≤ a := ha
    congr 1 <;> omega
  | lf b a k c =>
    show Fm.lf b a k (nothing.after c) = _
    rw [after_nothing of.2.2.2.1]
  | cr b a k => rfl
theorem nothing_both {n : Nat} {f : Fm} (of : f.Ok n) : nothing.both f = f := by
  have hb := of.b0.1
  have p1 := pp (f.b - 0)
  have p2 := pp (0 - f.b)
  have e1 : 0 + (if f.b - 0 > 0 then f.b - 0 else 0) = f.b := by omega
  have e2 : (if 0 - f.b > 0 then 0 - f.b else 0) + f.a = f.a := by omega
  have e : nothing.both f = Fm.ahead (0 + (if f.b - 0 > 0 then f.b - 0 else 0)) ((if 0 - f.b > 0 then 0 - f.b else 0) + f.a) f := rfl
  rw [e, e1, e2]
  cases f <;> rfl
theorem nothing_ok (n : Nat) : nothing.Ok n := ⟨by decide, by decide, Nat.two_pow_pos n, Nat.two_pow_pos n⟩
theorem both_ok {n : Nat} (hn : 0 < n) {f g : Fm} (of : f.Ok n) (og : g.Ok n) : (f.both g).Ok (3 * n + 3) := by
  have gb := og.b0
  have ga := og.a0
  have o1 : Sm n 1 := Nat.lt_of_lt_of_le (by decide : (1 : Int).natAbs < 2 ^ 1) (Nat.pow_le_pow_right (by decide) hn)
  cases f with
  | keep b a =>
    obtain ⟨b0, a0, sb, sa⟩ := of
    have p1 := pp (g.b - a)
    have p2 := pp (a - g.b)
    have hB : 0 ≤ b + (if g.b - a > 0 then g.b - a else 0) ∧ Sm (3 * n + 3) (b + (if g.b - a > 0 then g.b - a else 0)) := ⟨by omega, (Sm.of_le (by omega) (show b + (if g.b - a > 0 then g.b - a else 0) ≤ b + g.b by omega) (sb.add gb.2)).mono (by omega)⟩
    have hA : 0 ≤ (if a - g.b > 0 then a - g.b else 0) + g.a ∧ Sm (3 * n + 3) ((if a - g.b > 0 then a - g.b else 0) + g.a) := ⟨by omega, (Sm.of_le (by omega) (show (if a - g.b > 0 then a - g.b else 0) + g.a ≤ a + g.a by omega) (sa.add ga.2)).mono (by omega)⟩
    cases g with
    | keep b' a' => exact ⟨hB.1, hA.1, hB.2, hA.2⟩
    | lf b' a' k' c' =>
      obtain ⟨_, _, k0, c0, _, _, sk, sc⟩ := og
      exact ⟨hB.1, hA.1, k0, c0, hB.2, hA.2, sk.mono (by omega), sc.mono (by omega)⟩
    | cr b' a' k' =>
      obtain ⟨_, _, k0, _, _, sk⟩ := og
      exact ⟨hB.1, hA.1, k0, hB.2, hA.2, sk.mono (by omega)⟩
  | lf b a k c =>
    obtain ⟨b0, a0, k0, c0, sb, sa, sk, sc⟩ := of
    have hc := Fm.after_ok og c0 sc
    have hu : 0 < g.after c + 1 ∧ Sm (n + 2) (g.after c + 1) := ⟨by have := hc.1; omega, hc.2.add (o1.mono (Nat.le_succ n))⟩
    cases g with
    | keep b' a' => exact ⟨b0, a0, k0, hc.1, sb.mono (by omega), sa.mono (by omega), sk.mono (by omega), hc.2.mono (by omega)⟩
    | lf b' a' k' c' =>
      obtain ⟨_, _, k0', c0', _, _, sk', sc'⟩ := og
      exact ⟨b0, a0, Int.mul_pos (Int.mul_pos k0 hu.1) k0', c0', sb.mono (by omega), sa.mono (by omega), ((sk.mul hu.2).mul sk').mono (by omega), sc'.mono (by omega)⟩
    | cr b' a' k' =>
      obtain ⟨_, _, k0', _, _, sk'⟩ := og
      exact ⟨b0, a0, Int.mul_pos (Int.mul_pos k0 hu.1) k0', sb.mono (by omega), sa.mono (by omega), ((sk.mul hu.2).mul sk').mono (by omega)⟩
  | cr b a k =>
    obtain ⟨b0, a0, k0, sb, sa, sk⟩ := of
    cases g with
    | keep b' a' => exact ⟨b0, a0, k0, sb.mono (by omega), sa.mono (by omega), sk.mono (by omega)⟩
    | lf b' a' k' c' =>
      obtain ⟨_, _, k0', c0', _, _, sk', sc'⟩ := og
      exact ⟨b0, a0, Int.mul_pos (Int.mul_pos k0 (by decide)) k0', c0', sb.mono (by omega), sa.mono (by omega), ((sk.mul o1).mul sk').mono (by omega), sc'.mono (by omega)⟩
    | cr b' a' k' =>
      obtain ⟨_, _, k0', _, _, sk'⟩ := og
      exact ⟨b0, a0, Int.mul_pos (Int.mul_pos k0 (by decide)) k0', sb.mono (by omega), sa.mono (by omega), ((sk.mul o1).mul sk').mono (by omega)⟩
/-! ### a form many times -/
def fp (f : Fm) : Nat → Fm
  | 0 => nothing
  | n + 1 => (fp f n).both f
theorem fp_ok {m : Nat} {f : Fm} (h : f.Ok m) : ∀ n : Nat, ∃ k, (fp f n).Ok k
  | 0 => ⟨0, nothing_ok 0⟩
  | n + 1 => by
    obtain ⟨k, hk⟩ := fp_ok h n
    exact ⟨_, both_ok (n := max k m + 1) (by omega) (hk.mono (by omega)) (h.mono (by omega))⟩
theorem fp_one {m : Nat} {f : Fm} (h : f.Ok m) : fp f 1 = f := nothing_both h
theorem fp_add {m : Nat} {f : Fm} (h : f.Ok m) (i : Nat) : ∀ j : Nat, (fp f i).both (fp f j) = fp f (i + j)
  | 0 => by
    obtain ⟨k, hk⟩ := fp_ok h i
    exact both_nothing hk
  | j + 1 => by
    obtain ⟨k, hk⟩ := fp_ok h i
    obtain ⟨k', hk'⟩ := fp_ok h j
    show (fp f i).both ((fp f j).both f) = (fp f (i + j)).both f
    rw [← both_assoc (n := max (max k k') m) (hk.mono (by omega)) (hk'.mono (by omega)) (h.mono (by omega)), fp_add h i j]
theorem fp_keep {b a : Int} (b0 : 0 ≤ b) (a0 : 0 ≤ a) : ∀ n : Nat, ∃ B A, fp (.keep b a) n = .keep B A ∧ 0 ≤ B ∧ B ≤ n * b ∧ 0 ≤ A ∧ A ≤ n * a
  | 0 => ⟨0, 0, rfl, by decide, by simp, by decide, by simp⟩
  | n + 1 => by
    obtain ⟨B, A, e, h1, h2, h3, h4⟩ := fp_keep b0 a0 n
    have p1 := pp (b - A)
    have p2 := pp (A - b)
    refine ⟨B + (if b - A > 0 then b - A else 0), (if A - b > 0 then A - b else 0) + a, ?_, by omega, ?_, by omega, ?_⟩
    · show (fp (.keep b a) n).both (.keep b a) = _
      rw [e]
      rfl
    · rw [Int.natCast_add, Int.add_mul]
      simp only [Int.natCast_one, Int.one_mul]
      omega
    · rw [Int.natCast_add, Int.add_mul]
      simp only [Int.natCast_one, Int.one_mul]
      omega
theorem fp_lf {m : Nat} {b a k c : Int} (h : (Fm.lf b a k c).Ok m) (hm : 0 < m) : ∀ n : Nat, ∃ K, fp (.lf b a k c) (n + 1) = .lf b a K c ∧ 0 < K ∧ Sm ((n + 1) * (2 * m + 2)) K
  | 0 => ⟨k, fp_one h, h.2.2.1, h.2.2.2.2.2.2.1.mono (by omega)⟩
  | n + 1 => by
    obtain ⟨K, e, K0, K1⟩ := fp_lf h hm n
    have hc := Fm.after_ok h h.2.2.2.1 h.2.2.2.2.2.2.2
    have o1 : Sm m 1 := Nat.lt_of_lt_of_le (by decide : (1 : Int).natAbs < 2 ^ 1) (Nat.pow_le_pow_right (by decide) hm)
    have hu : 0 < (Fm.lf b a k c).after c + 1 ∧ Sm (m + 2) ((Fm.lf b a k c).after c + 1) := ⟨by have := hc.1; omega, hc.2.add (o1.mono (Nat.le_succ m))⟩
    refine ⟨K * ((Fm.lf b a k c).after c + 1) * k, ?_, Int.mul_pos (Int.mul_pos K0 hu.1) h.2.2.1, ((K1.mul hu.2).mul h.2.2.2.2.2.2.1).mono ?_⟩
    · show (fp (.lf b a k c) (n + 1)).both (.lf b a k c) = _
      rw [e]
      rfl
    · have : (n + 1 + 1) * (2 * m + 2) = (n + 1) * (2 * m + 2) + (2 * m + 2) := by rw [Nat.add_mul (n + 1) 1, Nat.one_mul]
      omega
theorem fp_cr {m : Nat} {b a k : Int} (h : (Fm.cr b a k).Ok m) (hm : 0 < m) : ∀ n : Nat, ∃ K, fp (.cr b a k) (n + 1) = .cr b a K ∧ 0 < K ∧ Sm ((n + 1) * (2 * m + 2)) K
  | 0 => ⟨k, fp_one h, h.2.2.1, h.2.2.2.2.2.mono (by omega)⟩
  | n + 1 => by
    obtain ⟨K, e, K0, K1⟩ := fp_cr h hm n
    have o1 : Sm m 1 := Nat.lt_of_lt_of_le (by decide : (1 : Int).natAbs < 2 ^ 1) (Nat.pow_le_pow_right (by decide) hm)
    refine ⟨K * 1 * k, ?_, Int.mul_pos (Int.mul_pos K0 (by decide)) h.2.2.1, ((K1.mul o1).mul h.2.2.2.2.2).mono ?_⟩
    · show (fp (.cr b a k) (n + 1)).both (.cr b a k) = _
      rw [e]
      rfl
    · have : (n + 1 + 1) * (2 * m + 2) = (n + 1) * (2 * m + 2) + (2 * m + 2) := by rw [Nat.add_mul (n + 1) 1, Nat.one_mul]
      omega
/-- how often a form may be repeated here -/
def Often (f : Fm) (n : Nat) : Prop := n ≤ 100 ∨ (Fm.isKeep f = true ∧ n ≤ 2 ^ 100)
theorem Often.le {f : Fm} {n m : Nat} (h : Often f n) (k : m ≤ n) : Often f m := by
  rcases h with h | ⟨h1, h2⟩
  · exact .inl (by omega)
  · exact .inr ⟨h1, Nat.le_trans k h2⟩
theorem fp_sm {m : Nat} {f : Fm} (h : f.Ok m) (hm : 0 < m) (hm2 : m ≤ 440) {n : Nat} (o : Often f n) : (fp f n).Ok 90000 := by
  cases f with
  | keep b a =>
    obtain ⟨b0, a0, sb, sa⟩ := h
    obtain ⟨B, A, e, h1, h2, h3, h4⟩ := fp_keep b0 a0 n
    have hn : n ≤ 2 ^ 100 := by
      rcases o with o | o
      · exact Nat.le_trans o (by decide +kernel)
      · exact o.2
    have sn : Sm 101 (n : Int) := by
      unfold Sm
      have : (2 : Nat) ^ 101 = 2 ^ 100 * 2 := Nat.pow_succ ..
      omega
    rw [e]
    exact ⟨h1, h3, (Sm.of_le h1 h2 (sn.mul sb)).mono (by omega), (Sm.of_le h3 h4 (sn.mul sa)).mono (by omega)⟩
  | lf b a k c =>
    have hn : n ≤ 100 := by
      rcases o with o | o
      · exact o
      · cases o.1
    cases n with
    | zero => exact nothing_ok _
    | succ n =>
      obtain ⟨K, e, K0, K1⟩ := fp_lf h hm n
      obtain ⟨b0, a0, k0, c0, sb, sa, sk, sc⟩ := h
      rw [e]
      have : (n + 1) * (2 * m + 2) ≤ 100 * 882 := Nat.mul_le_mul (by omega) (by omega)
      exact ⟨b0, a0, K0, c0, sb.mono (by omega), sa.mono (by omega), K1.mono (by omega), sc.mono (by omega)⟩
  | cr b a k =>
    have hn : n ≤ 100 := by
      rcases o with o | o
      · exact o
      · cases o.1
    cases n with
    | zero => exact nothing_ok _
    | succ n =>
      obtain ⟨K, e, K0, K1⟩ := fp_cr h hm n
      obtain ⟨b0, a0, k0, sb, sa, sk⟩ := h
      rw [e]
      have : (n + 1) * (2 * m + 2) ≤ 100 * 882 := Nat.mul_le_mul (by omega) (by omega)
      exact ⟨b0, a0, K0, sb.mono (by omega), sa.mono (by omega), K1.mono (by omega)⟩
end Lw
namespace Lw
open PySem PySem.Spec L2 Lx
/-! ### chains put together -/
theorem formL_fle (k : Nat) : ∀ cs : List Nat, cs.length = k → k ≤ 7000 → (∀ c ∈ cs, c ∈ steps.cps.toList) → FLe k (formL cs) := by
  induction k with
  | zero =>
    intro cs e _ _
    rw [List.eq_nil_of_length_eq_zero e]
    exact ⟨by decide, by decide, by decide, by decide⟩
  | succ k ih =>
    intro cs e hk hc
    rcases snoc_or cs with rfl | ⟨ds, c, rfl⟩
    · cases e
    · have ed : ds.length = k := by simpa using e
      have h := ih ds ed (by omega) fun x hx => hc x (List.mem_append.mpr (.inl hx))
      have e2 : formL (ds ++ [c]) = (formL ds).both (stepF c) := by unfold formL; rw [List.foldl_append]; rfl
      rw [e2]
      exact h.step (by omega) (hc c (by simp))
theorem step_ok {c : Nat} (h : c ∈ steps.cps.toList) {n : Nat} (hn : 0 < n) : (stepF c).Ok n := by
  have one : Sm n 1 := Nat.lt_of_lt_of_le (by decide : (1 : Int).natAbs < 2 ^ 1) (Nat.pow_le_pow_right (by decide) hn)
  have zer : Sm n 0 := Nat.two_pow_pos n
  rcases step_cases h with e | e | e | e <;> rw [e]
  · exact ⟨by decide, by decide, zer, one⟩
  · exact ⟨by decide, by decide, one, zer⟩
  · exact ⟨by decide, by decide, by decide, by decide, zer, zer, one, zer⟩
  · exact ⟨by decide, by decide, by decide, zer, zer, one⟩
theorem formL_app7 (a : List Nat) (ha : ∀ c ∈ a, c ∈ steps.cps.toList) (n : Nat) : ∀ b : List Nat, b.length = n → (∀ c ∈ b, c ∈ steps.cps.toList) → a.length + b.length ≤ 7000 → formL (a ++ b) = (formL a).both (formL b) := by
  induction n with
  | zero =>
    intro b e _ hl
    rw [List.eq_nil_of_length_eq_zero e, List.append_nil]
    exact (both_nothing (formL_fle _ a rfl (by omega) ha).ok).symm
  | succ n ih =>
    intro b e hb hl
    rcases snoc_or b with rfl | ⟨ds, c, rfl⟩
    · cases e
    · have ed : ds.length = n := by simpa using e
      have hd : ∀ x ∈ ds, x ∈ steps.cps.toList := fun x hx => hb x (List.mem_append.mpr (.inl hx))
      have hc := hb c (by simp)
      have hl2 : (ds ++ [c]).length = ds.length + 1 := by simp
      have e2 : ∀ xs : List Nat, formL (xs ++ [c]) = (formL xs).both (stepF c) := fun xs => by unfold formL; rw [List.foldl_append]; rfl
      rw [← List.append_assoc, e2, ih ds ed hd (by omega), e2]
      have oa := (formL_fle _ a rfl (by omega) ha).ok
      have ob := (formL_fle _ ds rfl (by omega) hd).ok
      refine both_assoc (n := 13 * 7000 + 1) (oa.mono (by omega)) (ob.mono (by omega)) (step_ok hc (by omega))
theorem formOf_app {x y : Str} (hx : ChOk x) (hy : ChOk y) (hl : x.cps.size + y.cps.size ≤ 7000) : formOf (x ++ y) = (formOf x).both (formOf y) := by
  have e : (x ++ y).cps.toList = x.cps.toList ++ y.cps.toList := Array.toList_append ..
  unfold formOf
  rw [e]
  exact formL_app7 _ hx _ _ rfl hy (by rw [Array.length_toList, Array.length_toList]; exact hl)
theorem ChOk.app {x y : Str} (hx : ChOk x) (hy : ChOk y) : ChOk (x ++ y) := fun c hc => by
  have e : (x ++ y).cps.toList = x.cps.toList ++ y.cps.toList := Array.toList_append ..
  rw [e] at hc
  rcases List.mem_append.mp hc with h | h
  · exact hx c h
  · exact hy c h
theorem app_sz (x y : Str) : (x ++ y).cps.size = x.cps.size + y.cps.size := Array.size_append ..
theorem formOf_fle {x : Str} (hx : ChOk x) (hl : x.cps.size ≤ 7000) : FLe x.cps.size (formOf x) := formL_fle _ _ (Array.length_toList ..) hl hx
theorem formOf_ok {x : Str} (hx : ChOk x) (hl : x.cps.size ≤ 7000) : (formOf x).Ok 91001 := (formOf_fle hx hl).ok.mono (by omega)
/-! ### copies by name -/
inductive Ents (K : PySem.W.Frag) (H : Hp) : List (Key × V) → List (Str × Str) → Prop
  | nil : Ents K H [] []
  | cons {kvs : List (Key × V)} {zs : List (Str × Str)} {v : V} {n z : Str} : FmAt K H v (formOf z) → Ents K H kvs zs → Ents K H ((.inr n, v) :: kvs) ((n, z) :: zs)
theorem Ents.same {K : PySem.W.Frag} {H H' : Hp} (s : ∀ v f, FmAt K H v f → FmAt K H' v f) : ∀ {kvs : List (Key × V)} {zs : List (Str × Str)}, Ents K H kvs zs → Ents K H' kvs zs
  | _, _, .nil => .nil
  | _, _, .cons h t => .cons (s _ _ h) (t.same s)
theorem Ents.len {K : PySem.W.Frag} {H : Hp} : ∀ {kvs : List (Key × V)} {zs : List (Str × Str)}, Ents K H kvs zs → kvs.length = zs.length
  | _, _, .nil => rfl
  | _, _, .cons _ t => by rw [List.length_cons, List.length_cons, t.len]
theorem Ents.get {K : PySem.W.Frag} {H : Hp} {n z : Str} : ∀ {kvs : List (Key × V)} {zs : List (Str × Str)}, Ents K H kvs zs → zs.lookup n = some z → ∃ v, valV kvs (.inr n) = some v ∧ FmAt K H v (formOf z)
  | _, _, .nil, e => by cases e
  | _, _, .cons (n := m) (z := y) (v := v) (kvs := kvs) (zs := zs) h t, e => by
    by_cases c : m = n
    · subst c
      rw [List.lookup_cons_self] at e
      cases e
      exact ⟨v, valV_pos rfl, h⟩
    · rw [List.lookup_cons, show (n == m) = false from beq_false_of_ne (Ne.symm c)] at e
      obtain ⟨u, h1, h2⟩ := Ents.get t e
      exact ⟨u, (valV_neg (fun z => c (Sum.inr.inj z))).trans h1, h2⟩
/-- in its place, or at the end -/
def putZ : List (Str × Str) → Str → Str → List (Str × Str)
  | [], n, z => [(n, z)]
  | (m, y) :: r, n, z => if m = n then (m, z) :: r else (m, y) :: putZ r n z
theorem putZ_len : ∀ (zs : List (Str × Str)) (n z : Str), (putZ zs n z).length ≤ zs.length + 1
  | [], _, _ => Nat.le_refl _
  | (m, y) :: r, n, z => by
    have := putZ_len r n z
    unfold putZ
    split
    · exact Nat.le_succ _
    · show _ + 1 ≤ _ + 1 + 1
      omega
theorem putZ_get (n z m : Str) : ∀ zs : List (Str × Str), (putZ zs n z).lookup m = if m = n then some z else zs.lookup m
  | [] => by
    show List.lookup m [(n, z)] = _
    rw [List.lookup_cons]
    by_cases c : m = n
    · subst c
      simp
    · rw [show (m == n) = false from beq_false_of_ne c, if_neg c]
  | (k, y) :: r => by
    unfold putZ
    by_cases c : k = n
    · subst c
      rw [if_pos rfl, List.lookup_cons, List.lookup_cons]
      by_cases d : m = k
      · subst d
        simp
      · rw [show (m == k) = false from beq_false_of_ne d, if_neg d]
    · rw [if_neg c, List.lookup_cons, List.lookup_cons, putZ_get n z m r]
      by_cases d : m = k
      · subst d
        rw [if_neg c]
        simp [c]
      · rw [show (m == k) = false from beq_false_of_ne d]
/-- no name twice -/
def NdZ (zs : List (Str × Str)) : Prop := (zs.map Prod.fst).Nodup
theorem map_same {kvs : List (Key × V)} {n : Str} {v : V} (h : ∀ kv ∈ kvs, kv.1 ≠ .inr n) : kvs.map (fun kv => if kv.1 = .inr n then (kv.1, v) else kv) = kvs := by
  induction kvs with
  | nil => rfl
  | cons p r ih =>
    rw [List.map_cons, ih fun kv hkv => h kv (List.mem_cons_of_mem _ hkv), if_neg (h p (List.mem_cons_self ..))]
theorem Ents.keys {K : PySem.W.Frag} {H : Hp} {n : Str} : ∀ {kvs : List (Key × V)} {zs : List (Str × Str)}, Ents K H kvs zs → n ∉ zs.map Prod.fst → ∀ kv ∈ kvs, kv.1 ≠ .inr n
  | _, _, .nil, _, kv, hkv => by cases hkv
  | _, _, .cons (n := m) h t, hn, kv, hkv => by
    rcases List.mem_cons.mp hkv with rfl | hkv
    · exact fun e => hn (List.mem_cons.mpr (.inl (Sum.inr.inj e).symm))
    · exact Ents.keys t (fun e => hn (List.mem_cons_of_mem _ e)) kv hkv
theorem Ents.put {K : PySem.W.Frag} {H : Hp} {n z : Str} {v : V} (hv : FmAt K H v (formOf z)) : ∀ {kvs : List (Key × V)} {zs : List (Str × Str)}, Ents K H kvs zs → NdZ zs → Ents K H (putK kvs (.inr n) v) (putZ zs n z)
  | _, _, .nil, _ => .cons hv .nil
  | _, _, .cons (n := m) (z := y) (v := u) (kvs := kvs) (zs := zs) h t, nd => by
    have nd' : m ∉ zs.map Prod.fst ∧ NdZ zs := List.nodup_cons.mp nd
    unfold putZ
    by_cases c : m = n
    · subst c
      have e : putK ((.inr m, u) :: kvs) (.inr m : Key) v = (.inr m, v) :: kvs := by
        unfold putK
        rw [if_pos (by simp), List.map_cons, if_pos rfl, map_same (t.keys nd'.1)]
      rw [e, if_pos rfl]
      exact .cons hv t
    · have ih := Ents.put (n := n) hv t nd'.2
      have cn : ¬ ((.inr m : Key) = .inr n) := fun e => c (Sum.inr.inj e)
      have e : putK ((.inr m, u) :: kvs) (.inr n : Key) v = (.inr m, u) :: putK kvs (.inr n) v := by
        unfold putK
        by_cases a : (kvs.any fun kv => decide (kv.1 = (.inr n : Key))) = true
        · rw [if_pos (by rw [List.any_cons, a]; simp), if_pos a, List.map_cons, if_neg cn]
        · rw [if_neg (by rw [List.any_cons, decide_eq_false cn]; simpa using a), if_neg a]
          rfl
      rw [e, if_neg c]
      exact .cons h ih
theorem putZ_mem {n z : Str} : ∀ {zs : List (Str × Str)} {m : Str}, m ∈ (putZ zs n z).map Prod.fst → m = n ∨ m ∈ zs.map Prod.fst
  | [], m, h => .inl (by simpa [putZ] using h)
  | (k, y) :: r, m, h => by
    unfold putZ at h
    by_cases c : k = n
    · rw [if_pos c] at h
      exact .inr h
    · rw [if_neg c] at h
      rcases List.mem_cons.mp h with rfl | h
      · exact .inr (List.mem_cons_self ..)
      · exact (putZ_mem h).imp id fun q => List.mem_cons_of_mem _ q
theorem putZ_nd {n z : Str} : ∀ {zs : List (Str × Str)}, NdZ zs → NdZ (putZ zs n z)
  | [], _ => by unfold NdZ putZ; simp
  | (k, y) :: r, h => by
    have h' : k ∉ r.map Prod.fst ∧ NdZ r := List.nodup_cons.mp h
    unfold putZ
    by_cases c : k = n
    · rw [if_pos c]
      exact h
    · rw [if_neg c]
      refine List.nodup_cons.mpr ⟨fun hm => ?_, putZ_nd h'.2⟩
      rcases putZ_mem hm with e | e
      · exact c e
      · exact h'.1 e
/-- chains that may be put together with k letters more -/
def ZOk (L : Nat) (zs : List (Str × Str)) : Prop := ∀ n z, zs.lookup n = some z → ChOk z ∧ z.cps.size ≤ L
theorem ZOk.put {L : Nat} {zs : List (Str × Str)} {n z : Str} (h : ZOk L zs) (hz : ChOk z) (hl : z.cps.size ≤ L) : ZOk L (putZ zs n z) := fun m y e => by
  rw [putZ_get] at e
  by_cases c : m = n
  · rw [if_pos c] at e
    cases e
    exact ⟨hz, hl⟩
  · rw [if_neg c] at e
    exact h m y e
theorem ZOk.mono {L L' : Nat} {zs : List (Str × Str)} (h : ZOk L zs) (k : L ≤ L') : ZOk L' zs := fun n z e => ⟨(h n z e).1, Nat.le_trans (h n z e).2 k⟩
/-- a depot stands at p, its dict at d -/
structure DepAt (K : PySem.W.Frag) (C : Addr) (H : Hp) (p d : Addr) (zs : List (Str × Str)) : Prop where
  ob : ∃ dx, H p = some (.ins C dx [("_forms", .ref d)])
  dc : ∃ kvs, H d = some (.dK kvs) ∧ Ents K H kvs zs
  nd : NdZ zs
theorem DepAt.same {K : PySem.W.Frag} {C : Addr} {H H' : Hp} {p d : Addr} {zs : List (Str × Str)} (s : Same H H') (h : DepAt K C H p d zs) : DepAt K C H' p d zs := by
  obtain ⟨⟨dx, h1⟩, ⟨kvs, h2, h3⟩, h4⟩ := h
  exact ⟨⟨dx, s _ _ h1⟩, ⟨kvs, s _ _ h2, h3.same fun v f hv => hv.same s⟩, h4⟩
/-- all but one address is as it was -/
def Kd (d : Addr) (H H' : Hp) : Prop := ∀ b o, b ≠ d → H b = some o → H' b = some o
theorem Kd.refl (d : Addr) (H : Hp) : Kd d H H := fun _ _ _ h => h
theorem Kd.trans {d : Addr} {H H1 H2 : Hp} (a : Kd d H H1) (b : Kd d H1 H2) : Kd d H H2 := fun c o h1 h => b c o h1 (a c o h1 h)
theorem Kd.of {d : Addr} {H H' : Hp} (s : Same H H') : Kd d H H' := fun b o _ h => s b o h
theorem FmAt.kd {K : PySem.W.Frag} {H H' : Hp} {d : Addr} {kvs : List (Key × V)} (hd : H d = some (.dK kvs)) (k : Kd d H H') {v : V} {f : Fm} : FmAt K H v f → FmAt K H' v f := fun ⟨p, h1, h2⟩ => ⟨p, h1, by
  rcases h2 with (h | ⟨o, h⟩) | h
  · exact .inl (.inl (k _ _ (ne_of h hd (by intro z; cases z)) h))
  · exact .inl (.inr ⟨o, k _ _ (ne_of h hd (by intro z; cases z)) h⟩)
  · exact .inr h⟩
end Lw
namespace Lw
open PySem PySem.Spec L2 Lx
/-! ### numbers of any size -/
/-! ### the drawing list -/
def RngAt (H : Hp) (r : Addr) (n : Nat) : Prop := ∃ d s c : Int, H r = some (.lst [.int d, .int s, .int c]) ∧ 0 ≤ d ∧ 0 ≤ s ∧ s < 2305843009213693952 ∧ 0 ≤ c ∧ c ≤ n
def But (r : Addr) (H H' : Hp) : Prop := ∀ b, b ≠ r → H' b = H b
theorem But.upd {H : Hp} {r : Addr} {o : HO} : But r H (upd H r o) := fun b h => upd_ne h
theorem But.trans {H H1 H2 : Hp} {r : Addr} (a : But r H H1) (b : But r H1 H2) : But r H H2 := fun c h => (b c h).trans (a c h)
theorem pow10 : (10 : Int) ^ (60 : Int).toNat = 1000000000000000000000000000000000000000000000000000000000000 := by decide +kernel
theorem n60 : (10 : Int) ^ Int.toNat 60 ≠ 0 := by decide +kernel
theorem n_c : (2305843009213693921 : Int) ≠ 0 := by decide
theorem n_m : (2305843009213693951 : Int) ≠ 0 := by decide
abbrev B60 : Int := 1000000000000000000000000000000000000000000000000000000000000
theorem dig_more {d f : Int} {i : Nat} (h : d < B60 ^ i) (hf : f < B60) : d * B60 + f < B60 ^ (i + 1) := by
  have h1 : (d + 1) * B60 ≤ B60 ^ i * B60 := Int.mul_le_mul_of_nonneg_right (by omega) (by decide)
  rw [Int.add_mul, Int.one_mul] at h1
  rw [Int.pow_succ]
  omega
theorem dig_keep {d : Int} {i : Nat} (h : d < B60 ^ i) : d < B60 ^ (i + 1) := by
  have h1 : (0 : Int) < B60 ^ i := Int.pow_pos (by decide)
  have h2 : B60 ^ i * 1 ≤ B60 ^ i * B60 := Int.mul_le_mul_of_nonneg_left (by decide) (by omega)
  rw [Int.pow_succ]
  omega
theorem B60_mono (i : Nat) : ∀ n : Nat, B60 ^ i ≤ B60 ^ (i + n)
  | 0 => Int.le_refl _
  | n + 1 => by
    have h1 := B60_mono i n
    have h2 : (0 : Int) < B60 ^ (i + n) := Int.pow_pos (by decide)
    have h3 : B60 ^ (i + n) * 1 ≤ B60 ^ (i + n) * B60 := Int.mul_le_mul_of_nonneg_left (by decide) (by omega)
    rw [← Nat.add_assoc, Int.pow_succ]
    omega
theorem dig_small {d : Int} {i : Nat} (h0 : 0 ≤ d) (h : d < B60 ^ i) (hi : i ≤ 63) : d.natAbs < 2 ^ 12700 := by
  have h1 : B60 ^ i ≤ B60 ^ 63 := by
    have e := B60_mono i (63 - i)
    rw [Nat.add_sub_cancel' hi] at e
    exact e
  have h2 : B60 ^ 63 < 2 ^ 12700 := by decide +kernel
  have h3 : (d.natAbs : Int) < ((2 ^ 12700 : Nat) : Int) := by
    rw [Int.natAbs_of_nonneg h0]
    exact Int.lt_of_lt_of_le h (Int.le_trans h1 (Int.le_of_lt (by rw [Int.natCast_pow]; exact h2)))
  exact Int.ofNat_lt.mp h3
def spRng (K : PySem.W.Frag) : Sp := fun vs H Q _ => ∃ (a : Addr) (ns : List Int), vs = [.ref a] ∧ SqL K H a (ns.map V.int) ∧ ns.length ≤ 63 ∧ ∀ H' p, Same H H' → H p = none → RngAt H' p 0 → Q (.ref p) H'
def spDraw : Sp := fun vs H Q _ => ∃ (r : Addr) (n : Nat) (m : Int), vs = [.ref r, .int m] ∧ RngAt H r n ∧ n < 1000000000 ∧ 0 < m ∧ m.natAbs < 2 ^ 4000 ∧ ∀ v H', 0 ≤ v → v < m → RngAt H' r (n + 1) → But r H H' → Q (.int v) H'
theorem scRng : FnScope ["script", "digits", "seed", "cell", "far"] ["script"] (defScope sLRng) := ⟨rfl, rfl, rfl, by decide +kernel, rfl, by decide +kernel, by decide +kernel⟩
theorem scDraw : FnScope ["rng", "limit", "found", "mixed"] ["rng", "limit"] (defScope sLDraw) := ⟨rfl, rfl, rfl, by decide +kernel, rfl, by decide +kernel, by decide +kernel⟩
section
variable {P : Program} {w : World} {K : PySem.W.Frag} {mg : Str → Option Value} {base : Heap}
theorem ok_rng {f : Addr} {fd : FuncData} {k : Nat} (F : Fun K "_law_rng" "_law_rng" sLRng f fd) (mAbs : mg "abs" = none) : FnOk P w K mg base CX0 (k + 1) f fd ["script"] (spRng K) := by
  refine F.ok scRng (fun vs H Q E h => ?_) (fun cdv A outer s H vs Q E hr h => ?_)
  · obtain ⟨a, ns, rfl, _⟩ := h
    rfl
  · obtain ⟨a, ns, rfl, hS, hlen, q⟩ := h
    refine ⟨_, pss_cons (ps_asg (pe_tup (pa_cons pe_int (pa_cons pe_int pa_nil))) (pg_tup (by rfl) (pgs_cons (pg_name (i := 1) scRng.nd rfl (.inl rfl)) (pgs_cons (pg_name (i := 2) scRng.nd rfl (.inl rfl)) pgs_nil))))
      (pss_cons (ps_for PassesOwn.never rfl (pi_list (pe_slice sl_list (pv 0) po_none (po_some pe_int))) (pg_name (i := 3) scRng.nd rfl (.inl rfl))
        (pss_cons (ps_set (i := 4) scRng.nd rfl (.inl rfl) (pe_callB call_abs (by rfl) mAbs (by decide +kernel) (pa_cons (pv 3) pa_nil)))
        (pss_cons (ps_if (pt_cmpR op_ge (pv 4) (pe_op op_pow pe_int pe_int) (nomark _)) (pss_one (ps_set (i := 1) scRng.nd rfl (.inl rfl) (pe_op op_add (pe_op op_mulW (pv 1) (pe_op op_pow pe_int pe_int)) (pe_op op_modN (pv 4) (pe_op op_pow pe_int pe_int))))) pss_nil)
        (pss_one (ps_set (i := 2) scRng.nd rfl (.inl rfl) (pe_op op_modN (pe_op op_add (pe_op op_add (pe_op op_mul (pv 2) pe_int) (pe_op op_modN (pv 3) pe_int)) pe_int) pe_int))))))
      (pss_one (ps_ret (pe_lst (pa_cons (pv 1) (pa_cons (pv 2) (pa_cons pe_int pa_nil))))))), ?_⟩
    refine ⟨by show 2 ≤ sizeLine; decide, fun p0 np0 => ?_⟩
    refine ⟨p0, _, rfl, .inl (.inl upd_same), rfl, _, _, rfl, _, _, rfl, rfl, ?_⟩
    have s0 : Same H (upd H p0 (.tup [.int 0, .int 88675123])) := same_upd np0
    refine ⟨.ref a, rfl, 63, rfl, a, _, rfl, s0.seq hS, fun p np => ?_⟩
    have s1 := s0.trans (same_upd (o := .lst (cutV (ns.map V.int) none (some 63))) np)
    have hall : ∀ (i : Nat) x, (cutV (ns.map V.int) none (some 63))[i]? = some x → ∃ z : Int, x = .int z := fun i x hx => by
      have m1 := List.mem_of_getElem? hx
      unfold cutV at m1
      have m2 := List.mem_of_mem_drop (List.mem_of_mem_take m1)
      obtain ⟨z, _, e⟩ := List.mem_map.mp m2
      exact ⟨z, e.symm⟩
    have hcl : (cutV (ns.map V.int) none (some 63)).length ≤ 63 := Nat.le_trans (cutV_length _ _ _) (by rw [List.length_map]; exact hlen)
    refine ⟨p, rfl, ⟨_, .inl (.inl upd_same)⟩, for_list (K := K) (a := p) (xs := cutV (ns.map V.int) none (some 63)) (fun i σ H' => H' = upd (upd H p0 (.tup [.int 0, .int 88675123])) p (.lst (cutV (ns.map V.int) none (some 63))) ∧
      ∃ (d s' : Int) (y3 y4 : Option V), σ = [some (.ref a), some (.int d), some (.int s'), y3, y4] ∧ 0 ≤ d ∧ d < B60 ^ i ∧ 0 ≤ s' ∧ s' < 2305843009213693951)
      ⟨rfl, 0, 88675123, none, none, rfl, by decide, by decide, by decide, by decide⟩ (fun i σ H' _ hP => by rw [hP.1]; exact .inl (.inl upd_same)) ?_ ?_⟩
    · rintro i x σ H' hi ⟨rfl, d, s', y3, y4, rfl, hd0, hd, hs0, hs1⟩
      obtain ⟨z, rfl⟩ := hall i x hi
      have hil : i < 63 := Nat.lt_of_lt_of_le (List.getElem?_eq_some_iff.mp hi).1 hcl
      refine ⟨.int z, rfl, z, rfl, ?_⟩
      refine ⟨_, rfl, _, _, rfl, rfl, ⟨by decide, by decide, by decide⟩, _, _, rfl, rfl, _, rfl, ite2 (fun c => ?_) (fun c => ?_)⟩
      · refine ⟨_, rfl, _, _, rfl, rfl, ⟨by decide, by decide, by decide⟩, _, _, rfl, rfl, ?_, ?_⟩
        · exact wide_mul (a := 12700) (b := 200) (dig_small hd0 hd (by omega)) (by decide) (by decide) (by decide) (by decide)
        · refine ⟨_, rfl, _, _, rfl, rfl, ⟨by decide, by decide, by decide⟩, _, _, rfl, rfl, n60, _, _, rfl, rfl, ?_⟩
          have f1 := fm (a := if z < 0 then -z else z) (show (0 : Int) < B60 by decide)
          refine ⟨_, rfl, _, _, rfl, rfl, .inl ⟨by omega, by omega⟩, _, rfl, _, _, rfl, rfl, n_c, _, _, rfl, rfl, _, _, rfl, rfl, _, _, rfl, rfl, n_m, rfl, d * B60 + (if z < 0 then -z else z).fmod B60, _, _, _, rfl, ?_, dig_more hd f1.2, ?_⟩
          · have := Int.mul_nonneg hd0 (show (0 : Int) ≤ B60 by decide)
            omega
          · exact fm (by decide)
      · refine ⟨_, rfl, _, _, rfl, rfl, .inl ⟨by omega, by omega⟩, _, rfl, _, _, rfl, rfl, n_c, _, _, rfl, rfl, _, _, rfl, rfl, _, _, rfl, rfl, n_m, rfl, d, _, _, _, rfl, hd0, dig_keep hd, ?_⟩
        exact fm (by decide)
    · rintro σ H' ⟨rfl, d, s', y3, y4, rfl, hd0, hd, hs0, hs1⟩
      refine ⟨_, rfl, _, rfl, (by show 3 ≤ sizeLine; decide), fun l nl => ?_⟩
      exact q _ l (s1.trans (same_upd nl)) (s1.free nl) ⟨d, s', 0, upd_same, hd0, hs0, by omega, by decide, by decide⟩
theorem n_p1 : (162259276829213363391578010288127 : Int) ≠ 0 := by decide
theorem n_p2 : (170141183460469231731687303715884105727 : Int) ≠ 0 := by decide
theorem pow_ok {x : Int} (h0 : 0 ≤ x) (h : x < 2 ^ 200) : CPowW x 3 := ⟨by decide, by decide, by
  have h1 : (x.natAbs : Int) < ((2 ^ 200 : Nat) : Int) := by
    rw [Int.natAbs_of_nonneg h0]
    exact h
  exact Nat.lt_of_lt_of_le (Int.ofNat_lt.mp h1) (Nat.pow_le_pow_right (by decide) (by decide))⟩
theorem ok_draw {f : Addr} {fd : FuncData} {k : Nat} (F : Fun K "_law_draw" "_law_draw" sLDraw f fd) : FnOk P w K mg base CX0 (k + 1) f fd ["rng", "limit"] spDraw := by
  refine F.ok scDraw (fun vs H Q E h => ?_) (fun cdv A outer s H vs Q E hr h => ?_)
  · obtain ⟨r, n, m, rfl, _⟩ := h
    rfl
  · obtain ⟨r, n, m, rfl, ⟨d, s', c, hL, hd, hs0, hs1, hc0, hc1⟩, hn, hm0, hm1, q⟩ := h
    refine ⟨_, pss_cons (ps_if (pt_cmpR op_gt (pe_ix ix_list (pv 0) pe_int (fun _ _ => rfl)) pe_int (nomark _))
        (pss_cons (ps_set (i := 2) scDraw.nd rfl (.inl rfl) (pe_op op_modN (pe_ix ix_list (pv 0) pe_int (fun _ _ => rfl)) (pv 1)))
        (pss_cons (ps_asg (pe_op op_fdivW (pe_ix ix_list (pv 0) pe_int (fun _ _ => rfl)) (pv 1)) (pg_sub (pv 0) pe_int set_list))
        (pss_one (ps_ret (pv 2))))) pss_nil)
      (pss_cons (ps_asg (pe_op op_add (pe_ix ix_list (pv 0) pe_int (fun _ _ => rfl)) pe_int) (pg_sub (pv 0) pe_int set_list))
      (pss_cons (ps_set (i := 3) scDraw.nd rfl (.inl rfl) (pe_op op_modN (pe_op op_powW (pe_op op_add (pe_ix ix_list (pv 0) pe_int (fun _ _ => rfl)) (pe_op op_mul pe_int (pe_ix ix_list (pv 0) pe_int (fun _ _ => rfl)))) pe_int) pe_int))
      (pss_cons (ps_set (i := 3) scDraw.nd rfl (.inl rfl) (pe_op op_modN (pe_op op_powW (pe_op op_add (pv 3) (pe_op op_mul pe_int (pe_ix ix_list (pv 0) pe_int (fun _ _ => rfl)))) pe_int) pe_int))
      (pss_one (ps_ret (pe_op op_modN (pe_op op_fdiv (pv 3) pe_int) (pv 1))))))), ?_⟩
    have hmn : m ≠ 0 := by omega
    refine ⟨_, rfl, r, _, 0, .int d, rfl, rfl, .inl (.inl hL), atI_nat (j := 0) rfl, _, _, rfl, rfl, _, rfl, ite2 (fun z => ?_) (fun z => ?_)⟩
    · refine ⟨_, rfl, r, _, 0, .int d, rfl, rfl, .inl (.inl hL), atI_nat (j := 0) rfl, _, rfl, _, _, rfl, rfl, hmn, ?_⟩
      refine ⟨_, rfl, r, _, 0, .int d, rfl, rfl, .inl (.inl hL), atI_nat (j := 0) rfl, _, rfl, _, _, rfl, rfl, wide_div hm0 hm1 (by decide) (by decide), ?_⟩
      refine ⟨_, rfl, r, _, 0, 0, rfl, rfl, hL, rfl, ?_⟩
      refine ⟨_, rfl, ?_⟩
      have f1 := fm (a := d) hm0
      exact q _ _ f1.1 f1.2 ⟨d / m, s', c, upd_same, Int.ediv_nonneg hd (by omega), hs0, hs1, hc0, by omega⟩ But.upd
    · refine ⟨_, rfl, r, _, 2, .int c, rfl, rfl, .inl (.inl hL), atI_nat (j := 2) rfl, _, _, rfl, rfl, ?_⟩
      refine ⟨_, rfl, r, _, 2, 2, rfl, rfl, hL, rfl, ?_⟩
      have hL2 : upd H r (.lst ([V.int d, .int s', .int c].set 2 (.int (c + 1)))) r = some (.lst [.int d, .int s', .int (c + 1)]) := upd_same
      refine ⟨_, rfl, r, _, 1, .int s', rfl, rfl, .inl (.inl hL2), atI_nat (j := 1) rfl, _, rfl, r, _, 2, .int (c + 1), rfl, rfl, .inl (.inl hL2), atI_nat (j := 2) rfl, _, _, rfl, rfl, .inl ⟨by decide, by decide⟩, _, _, rfl, rfl, ?_⟩
      refine ⟨_, _, rfl, rfl, pow_ok (by omega) (by omega), _, _, rfl, rfl, n_p1, ?_⟩
      have f1 := fm (a := (s' + 998244353 * (c + 1)) ^ Int.toNat 3) (show (0 : Int) < 162259276829213363391578010288127 by decide)
      refine ⟨_, rfl, _, rfl, r, _, 2, .int (c + 1), rfl, rfl, .inl (.inl hL2), atI_nat (j := 2) rfl, _, _, rfl, rfl, .inl ⟨by decide, by decide⟩, _, _, rfl, rfl, _, _, rfl, rfl, pow_ok (by omega) (by omega), _, _, rfl, rfl, n_p2, ?_⟩
      refine ⟨_, rfl, _, _, rfl, rfl, ⟨by decide, by decide⟩, _, rfl, _, _, rfl, rfl, hmn, ?_⟩
      have f2 := fm (a := ((s' + 998244353 * (c + 1)) ^ Int.toNat 3 |>.fmod 162259276829213363391578010288127) + 32452843 * (c + 1) |> fun x => (x ^ Int.toNat 3).fmod 170141183460469231731687303715884105727 / 1048576) hm0
      exact q _ _ f2.1 f2.2 ⟨d, s', c + 1, hL2, hd, hs0, hs1, by omega, by omega⟩ But.upd
end
end Lw
namespace Lw
open PySem PySem.Spec L2 Lx
/-- one address is as it was -/
def At1 (H H' : Hp) (a : Addr) : Prop := ∀ o, H a = some o → H' a = some o
theorem At1.of {H H' : Hp} (s : Same H H') (a : Addr) : At1 H H' a := fun o h => s a o h
theorem At1.trans {H H1 H2 : Hp} {a : Addr} (x : At1 H H1 a) (y : At1 H1 H2 a) : At1 H H2 a := fun o h => y o (x o h)
theorem Kb.at1 {r gl a : Addr} {H H' : Hp} (k : Kb r gl H H') (h1 : a ≠ r) (h2 : a ≠ gl) : At1 H H' a := fun o h => k a o h1 h2 h
theorem Kd.at1 {d a : Addr} {H H' : Hp} (k : Kd d H H') (h1 : a ≠ d) : At1 H H' a := fun o h => k a o h1 h
theorem BagAt.keep {H H' : Hp} {r gl : Addr} {n : Nat} (b : BagAt H r gl n) (k1 : At1 H H' r) (k2 : At1 H H' gl) : BagAt H' r gl n := by
  obtain ⟨ds, l, t, b', h1, h2, h3⟩ := b
  exact ⟨ds, l, t, b', k1 _ h1, k2 _ h2, h3⟩
theorem FmAt.keepT {K : PySem.W.Frag} {H H' : Hp} {v : V} {f : Fm} (h : FmAt K H v f) (k : ∀ b o, (∀ xs, o ≠ .lst xs) → (∀ kvs, o ≠ .dK kvs) → (∀ C dx fs, o ≠ .ins C dx fs) → H b = some o → H' b = some o) : FmAt K H' v f := by
  obtain ⟨p, h1, h2⟩ := h
  refine ⟨p, h1, ?_⟩
  rcases h2 with (h | ⟨o, h⟩) | h
  · exact .inl (.inl (k _ _ (fun _ z => by cases z) (fun _ z => by cases z) (fun _ _ _ z => by cases z) h))
  · exact .inl (.inr ⟨o, k _ _ (fun _ z => by cases z) (fun _ z => by cases z) (fun _ _ _ z => by cases z) h⟩)
  · exact .inr h
/-- a new object, and what its __init__ left -/
theorem same_made {H : Hp} {dx p : Addr} {u o : HO} (ndx : H dx = none) (np : H p = none) : Same H (upd (upd H dx u) p o) := fun b x e => by
  rw [upd_ne (ne_of_none e np), upd_ne (ne_of_none e ndx)]
  exact e
theorem same_ofKd {H H1 H' : Hp} {p : Addr} (s : Same H H1) (np : H p = none) (k : Kd p H1 H') : Same H H' := fun b o e => k b o (ne_of_none e np) (s b o e)
theorem cutS_to (z : Str) (k : Nat) : (cutS z none (some (k : Int))).cps.toList = z.cps.toList.take k := by
  have hl : z.cps.toList.length = z.length := Array.length_toList ..
  unfold cutS
  rw [HT.sIx_none, HT.sIx_nat]
  show (((z.cps.toList.drop 0).take (min k z.length - 0)).toArray).toList = _
  rw [List.drop_zero, Nat.sub_zero]
  by_cases h : k ≤ z.length
  · rw [Nat.min_eq_left h]
  · rw [Nat.min_eq_right (by omega), List.take_of_length_le (by omega : z.cps.toList.length ≤ z.length), List.take_of_length_le (by omega : z.cps.toList.length ≤ k)]
theorem cutS_from (z : Str) (k : Nat) : (cutS z (some (k : Int)) none).cps.toList = z.cps.toList.drop k := by
  have hl : z.cps.toList.length = z.length := Array.length_toList ..
  unfold cutS
  rw [HT.sIx_none, HT.sIx_nat]
  show (((z.cps.toList.drop (min k z.length)).take (z.length - min k z.length)).toArray).toList = _
  by_cases h : k ≤ z.length
  · rw [Nat.min_eq_left h, List.take_of_length_le (by rw [List.length_drop]; omega)]
  · rw [Nat.min_eq_right (by omega : z.length ≤ k), List.drop_of_length_le (by omega : z.cps.toList.length ≤ k), List.drop_of_length_le (by omega : z.cps.toList.length ≤ z.length)]
    simp
theorem str_ext {x y : Str} (h : x.cps.toList = y.cps.toList) : x = y := Str.ext' (Array.toList_inj.mp h)
end Lw
namespace Lw
open PySem PySem.Spec L2 Lx
theorem But.kd {r : Addr} {H H' : Hp} (b : But r H H') : Kd r H H' := fun c o hc e => (b c hc).trans e
theorem RngAt.same {H H' : Hp} {r : Addr} {n : Nat} (s : Same H H') : RngAt H r n → RngAt H' r n := fun ⟨d, a, c, h, q⟩ => ⟨d, a, c, s _ _ h, q⟩
theorem RngAt.mono {H : Hp} {r : Addr} {n m : Nat} (h : n ≤ m) : RngAt H r n → RngAt H r m := fun ⟨d, a, c, e, h1, h2, h3, h4, h5⟩ => ⟨d, a, c, e, h1, h2, h3, h4, by omega⟩
theorem RngAt.ne {H : Hp} {r b : Addr} {n : Nat} : RngAt H r n → H b = none → b ≠ r := fun ⟨d, a, c, e, _⟩ h => by
  rintro rfl
  rw [h] at e; cases e
theorem RngAt.own {H : Hp} {r b : Addr} {n : Nat} {o : HO} : RngAt H r n → b ≠ r → RngAt (upd H b o) r n := fun ⟨d, a, c, e, q⟩ h => ⟨d, a, c, by rw [upd_ne (Ne.symm h)]; exact e, q⟩
theorem RngAt.keep {H H' : Hp} {r : Addr} {n : Nat} (k1 : At1 H H' r) : RngAt H r n → RngAt H' r n := fun ⟨d, a, c, h, q⟩ => ⟨d, a, c, k1 _ h, q⟩
theorem Kd.freeR {r b : Addr} {H H' : Hp} {n : Nat} (k : Kd r H H') (s : RngAt H' r n) (h : H' b = none) : H b = none := by
  cases e : H b with
  | none => rfl
  | some o =>
    have := k b o (s.ne h) e
    rw [h] at this; cases this
theorem kd_own {d b : Addr} {H H' : Hp} {o : HO} (k : Kd d H H') (h : H b = none) : Kd d H (upd H' b o) := fun c u hc e => by
  rw [upd_ne (ne_of_none e h)]
  exact k c u hc e
theorem scLine : FnScope ["rng", "most", "found", "kind", "turn", "some"] ["rng", "most"] (defScope sLLine) := ⟨rfl, rfl, rfl, by decide +kernel, rfl, by decide +kernel, by decide +kernel⟩
/-- small signs -/
def Low (x : Str) : Prop := ∀ c ∈ x.cps.toList, c < 128
theorem low_app {x y : Str} (h1 : Low x) (h2 : Low y) : Low (x ++ y) := fun c hc => by
  have e : (x ++ y).cps.toList = x.cps.toList ++ y.cps.toList := Array.toList_append ..
  rw [e] at hc
  rcases List.mem_append.mp hc with h | h
  · exact h1 c h
  · exact h2 c h
theorem low_rep {x : Str} (h : Low x) (k : Nat) : Low (rep x k) := fun c hc => by
  rw [rep_list] at hc
  obtain ⟨l, hl, hcl⟩ := List.mem_flatten.mp hc
  obtain ⟨_, rfl⟩ := List.mem_replicate.mp hl
  exact h c hcl
theorem low_cut {x : Str} (h : Low x) (i j : Option Int) : Low (cutS x i j) := fun c hc => h c (List.mem_of_mem_drop (List.mem_of_mem_take hc))
def spLine : Sp := fun vs H Q _ => ∃ (r : Addr) (n m : Nat), vs = [.ref r, .int m] ∧ RngAt H r n ∧ n < 900000000 ∧ m ≤ 2000 ∧ ∀ (x : Str) H', x.cps.size ≤ m → Low x → RngAt H' r (n + 4 * m + 60) → Kd r H H' → Q (.str x) H'
structure RlF (mg : Str → Option Value) : Prop where
  range : mg "range" = none
  int : mg "int" = none
theorem pick_ten {s1 s2 : Str} (h1 : s1.length ≤ 20) (h2 : s2.length ≤ 20) (g1 : Low s1) (g2 : Low s2) {v : Int} (v0 : 0 ≤ v) (v1 : v < 10) :
    ∃ z : Str, atI [V.str "a", .str "b c", .str "\n", .str "^", .str "^\n", .str "^^\n", .str "\n^", .str s1, .str "~", .str s2] v = some (.str z) ∧ z.length ≤ 20 ∧ Low z := by
  have : v = 0 ∨ v = 1 ∨ v = 2 ∨ v = 3 ∨ v = 4 ∨ v = 5 ∨ v = 6 ∨ v = 7 ∨ v = 8 ∨ v = 9 := by omega
  rcases this with rfl | rfl | rfl | rfl | rfl | rfl | rfl | rfl | rfl | rfl
  all_goals first
    | exact ⟨_, rfl, by decide, by unfold Low; decide⟩
    | exact ⟨_, rfl, h1, g1⟩
    | exact ⟨_, rfl, h2, g2⟩
theorem cutS_mostR (x : Str) (m : Nat) : (cutS x none (some (m : Int))).cps.size ≤ m := by
  show (((x.cps.toList.drop (HT.sIx x.length 0 none)).take (HT.sIx x.length x.length (some (m : Int)) - HT.sIx x.length 0 none)).toArray).size ≤ m
  rw [HT.sIx_none, HT.sIx_nat, List.size_toArray, List.length_take]
  omega
section
variable {P : Program} {w : World} {K : PySem.W.Frag} {mg : Str → Option Value} {base : Heap}
theorem ok_line {f aD : Addr} {fd dD : FuncData} {k : Nat} (F : Fun K "_law_line" "_law_line" sLLine f fd) (Z : RlF mg)
    (cD : Cl P w K mg base k "_law_draw" ["rng", "limit"] spDraw aD dD) : FnOk P w K mg base CX0 (k + 1) f fd ["rng", "most"] spLine := by
  refine F.ok scLine (fun vs H Q E h => ?_) (fun cdv A outer s H vs Q E hr h => ?_)
  · obtain ⟨r, n, m, rfl, _⟩ := h
    rfl
  · obtain ⟨r, n, m, rfl, hS, hn, hm, q⟩ := h
    refine ⟨_, (pss_cons (ps_par (i := 2) (j := 3) rfl scLine.nd rfl rfl (by decide) rfl rfl (pa_cons pe_str (pa_cons (pe_call cD.G hr (by rfl) cD.g cD.kp cD.b .nil pass0 (pa_cons (pv 0) (pa_cons pe_int pa_nil))) pa_nil)) rfl)
      (pss_cons (ps_for PassesOwn.never rfl (pi_range1 rfl Z.range (pa_cons (pe_call cD.G hr (by rfl) cD.g cD.kp cD.b .nil pass0 (pa_cons (pv 0) (pa_cons (pe_op op_add (pe_ix ix_list (pe_lst (pa_cons pe_int (pa_cons pe_int (pa_cons (pv 1) pa_nil)))) (pe_call cD.G hr (by rfl) cD.g cD.kp cD.b .nil pass0 (pa_cons (pv 0) (pa_cons pe_int pa_nil))) (fun _ _ => rfl)) pe_int) pa_nil))) pa_nil)) (pg_name (i := 4) scLine.nd rfl (.inl rfl))
          (pss_cons (ps_set (i := 5) scLine.nd rfl (.inl rfl) (pe_lst (pa_cons pe_str (pa_cons pe_str (pa_cons pe_str (pa_cons pe_str (pa_cons pe_str (pa_cons pe_str (pa_cons pe_str (pa_cons (pe_op op_add_str (pe_op op_repS pe_str (pe_op op_add pe_int (pe_call cD.G hr (by rfl) cD.g cD.kp cD.b .nil pass0 (pa_cons (pv 0) (pa_cons pe_int pa_nil))))) pe_str) (pa_cons pe_str pa_nil)))))))))))
          (pss_cons (ps_expr (pe_bm PySem.F.plainAttrs_list PySem.F.slot_list_append PySem.F.type_list_append mt_append (pv 5) (pa_cons (pe_op op_repS pe_str (pe_op op_add pe_int (pe_call cD.G hr (by rfl) cD.g cD.kp cD.b .nil pass0 (pa_cons (pv 0) (pa_cons pe_int pa_nil))))) pa_nil)))
          (pss_one (ps_set (i := 2) scLine.nd rfl (.inl rfl) (pe_op op_add_str (pv 2) (pe_ix ix_list (pv 5) (pe_ix ix_list (pe_lst (pa_cons (pe_call cD.G hr (by rfl) cD.g cD.kp cD.b .nil pass0 (pa_cons (pv 0) (pa_cons pe_int pa_nil))) (pa_cons (pe_op op_add pe_int (pe_call cD.G hr (by rfl) cD.g cD.kp cD.b .nil pass0 (pa_cons (pv 0) (pa_cons pe_int pa_nil)))) pa_nil))) (pe_callTy call_int1 (by rfl) Z.int (by decide +kernel) (pa_cons (pe_cmpR op_eq (pv 3) pe_int (nomark _)) pa_nil)) (fun _ _ => rfl)) (fun _ _ => rfl))))))))
      (pss_one (ps_ret (pe_slice sl_str (pv 2) po_none (po_some (pv 1))))))), ?_⟩
    have p10 : (2 : Nat) ^ 20 = 1048576 := by decide
    have p40 : (2 : Nat) ^ 20 ≤ 2 ^ 4000 := Nat.pow_le_pow_right (by decide) (by decide)
    have sm : ∀ i : Int, 0 ≤ i → i ≤ 10001 → i.natAbs < 2 ^ 4000 := fun i h0 h1 => Nat.lt_of_lt_of_le (show i.natAbs < 2 ^ 20 by omega) p40
    have la : ∀ x y : Str, (x ++ y).length = x.length + y.length := fun x y => Array.size_append ..
    refine ⟨_, rfl, r, n, 4, rfl, hS, by omega, by decide, by decide, fun kind H1 c0 c1 hS1 k1 => ⟨_, _, rfl, ?_⟩⟩
    replace k1 := k1.kd
    refine ⟨_, rfl, _, rfl, by show 3 ≤ sizeLine; decide, fun l0 n0 => ?_⟩
    have s0 := same_upd (o := .lst [.int 3, .int 12, .int m]) n0
    refine ⟨_, rfl, r, _, 3, rfl, hS1.same s0, by omega, by decide, by decide, fun i H2 i0 i1 hS2 k2 => ?_⟩
    replace k2 := k2.kd
    have hl0 := k2 _ _ (hS1.ne n0) upd_same
    have k02 := (k1.trans (Kd.of s0)).trans k2
    have pick : ∃ t : Nat, atI [V.int 3, .int 12, .int m] i = some (.int (t : Int)) ∧ t ≤ m + 12 := by
      have : i = 0 ∨ i = 1 ∨ i = 2 := by omega
      rcases this with rfl | rfl | rfl
      · exact ⟨3, rfl, by omega⟩
      · exact ⟨12, rfl, by omega⟩
      · exact ⟨m, rfl, by omega⟩
    obtain ⟨t, ht, htm⟩ := pick
    clear k1 s0 k2
    refine ⟨l0, _, i, _, rfl, rfl, .inl (.inl hl0), ht, _, _, rfl, rfl, r, _, (t : Int) + 1, rfl, hS2, by omega, by omega, sm _ (by omega) (by omega), fun cnt H3 e0 e1 hS3 k3 => ?_⟩
    replace k3 := k02.trans k3.kd
    refine ⟨_, rfl, by omega, by omega, ?_⟩
    refine for_range (lo := 0) (n := cnt.toNat) (fun j σ H' => ∃ (x : Str) (y4 y5 : Option V), σ = [some (.ref r), some (.int m), some (.str x), some (.int kind), y4, y5] ∧ x.length ≤ 20 * j ∧ Low x ∧ RngAt H' r (n + 3 + 4 * j) ∧ Kd r H H') ⟨"", none, none, rfl, Nat.zero_le _, (fun c hc => by cases hc), hS3, k3⟩ ?_ ?_
    · rintro j σ H4 hj ⟨x, y4, y5, rfl, hx, hxL, hS4, k4⟩
      refine ⟨_, rfl, r, _, 9, rfl, hS4, by omega, by decide, by decide, fun v H5 v0 v1 hS5 k5 => ?_⟩
      replace k5 := k4.trans k5.kd
      have hr1 : (rep "^" (1 + v).toNat).length ≤ 10 := by rw [rep_len]; show 1 * _ ≤ _; omega
      refine ⟨_, _, rfl, rfl, "^", 1 + v, rfl, rfl, by omega, by omega, ?_, _, _, rfl, rfl, ?_, ?_⟩
      · rw [sizeLine_eq]; show 1 * (1 + v).toNat ≤ _; omega
      · rw [sizeLine_eq]; show _ + 1 ≤ _; omega
      have hs1 : (rep "^" (1 + v).toNat ++ "\n").length ≤ 20 := by rw [la]; show _ + 1 ≤ _; omega
      have gs1 : Low (rep "^" (1 + v).toNat ++ "\n") := low_app (low_rep (by unfold Low; decide) _) (by unfold Low; decide)
      generalize rep "^" (1 + v).toNat ++ "\n" = s1 at hs1 gs1
      refine ⟨by show 9 ≤ sizeLine; decide, fun l nl => ?_⟩
      have s6 := same_upd (o := .lst [.str "a", .str "b c", .str "\n", .str "^", .str "^\n", .str "^^\n", .str "\n^", .str s1, .str "~"]) nl
      have hlr := hS5.ne nl
      have hlH : H l = none := k5.freeR hS5 nl
      have hS6 := hS5.same s6
      refine ⟨_, rfl, .inl ⟨rfl, _, .inl (.inl upd_same)⟩, _, rfl, r, _, 20, rfl, hS6, by omega, by decide, by decide, fun u H7 u0 u1 hS7 k7 => ?_⟩
      replace k7 := k7.kd
      have hl7 := k7 _ _ hlr upd_same
      have k07 := (k5.trans (Kd.of s6)).trans k7
      have hr2 : (rep "\n" (1 + u).toNat).length ≤ 20 := by rw [rep_len]; show 1 * _ ≤ _; omega
      refine ⟨_, _, rfl, rfl, "\n", 1 + u, rfl, rfl, by omega, by omega, ?_, l, _, _, rfl, rfl, hl7, by show 9 < sizeLine; decide, ?_⟩
      · rw [sizeLine_eq]; show 1 * (1 + u).toNat ≤ _; omega
      have gs2 : Low (rep "\n" (1 + u).toNat) := low_rep (by unfold Low; decide) _
      generalize rep "\n" (1 + u).toNat = s2 at hr2 gs2
      have hS8 := hS7.own (o := .lst ([V.str "a", .str "b c", .str "\n", .str "^", .str "^\n", .str "^^\n", .str "\n^", .str s1, .str "~"] ++ [.str s2])) hlr
      have k08 := kd_own (o := .lst ([V.str "a", .str "b c", .str "\n", .str "^", .str "^\n", .str "^^\n", .str "\n^", .str s1, .str "~"] ++ [.str s2])) k07 hlH
      have hl8 : upd H7 l (.lst ([V.str "a", .str "b c", .str "\n", .str "^", .str "^\n", .str "^^\n", .str "\n^", .str s1, .str "~"] ++ [.str s2])) l = some (.lst [V.str "a", .str "b c", .str "\n", .str "^", .str "^\n", .str "^^\n", .str "\n^", .str s1, .str "~", .str s2]) := upd_same
      revert hS8 k08 hl8
      generalize upd H7 l _ = H8
      intro hS8 k08 hl8
      clear hS5 k5 hS6 hS7 k7 k07 hl7 s6 nl
      dsimp only
      refine ⟨_, rfl, _, rfl, _, rfl, r, _, 10, rfl, hS8, by omega, by decide, by decide, fun a H9 a0 a1 hS9 k9 => ?_⟩
      replace k9 := k9.kd
      refine ⟨_, rfl, r, _, 6, rfl, hS9, by omega, by decide, by decide, fun b H10 b0 b1 hS10 k10 => ?_⟩
      replace k10 := k10.kd
      refine ⟨_, _, rfl, rfl, by show 2 ≤ sizeLine; decide, fun l2 n2 => ?_⟩
      have s11 := same_upd (o := .lst [.int a, .int (2 + b)]) n2
      have hl11 := s11 _ _ (k10 _ _ hlr (k9 _ _ hlr hl8))
      have pick : ∃ v : Int, atI [V.int a, .int (2 + b)] (if decide (V.int kind = V.int 0) = true then (1 : Int) else 0) = some (.int v) ∧ 0 ≤ v ∧ v < 10 := by
        cases decide (V.int kind = V.int 0)
        · exact ⟨a, rfl, by omega, by omega⟩
        · exact ⟨2 + b, rfl, by omega, by omega⟩
      obtain ⟨v', hv, v0', v1'⟩ := pick
      obtain ⟨zz, hz, hzl, hzL⟩ := pick_ten hs1 hr2 gs1 gs2 v0' v1'
      refine ⟨_, rfl, rfl, .inr ⟨_, rfl, l2, _, _, _, rfl, rfl, .inl (.inl upd_same), hv, l, _, _, _, rfl, rfl, .inl (.inl hl11), hz, _, _, rfl, rfl, by rw [sizeLine_eq]; omega, ?_⟩⟩
      refine ⟨_, _, _, rfl, by rw [la]; omega, low_app hxL hzL, (hS10.same s11).mono (by omega), (((k08.trans k9).trans k10).trans (Kd.of s11))⟩
    · rintro σ H4 ⟨x, y4, y5, rfl, hx, hxL, hS4, k4⟩
      refine ⟨_, rfl, _, rfl, (m : Int), rfl, x, rfl, by rw [sizeLine_eq]; omega, ?_⟩
      exact q _ _ (cutS_mostR _ _) (low_cut hxL _ _) (hS4.mono (by omega)) k4
end
end Lw
namespace Lx
open PySem PySem.Spec L2
/-! ### a test against a written text puts a token out: what stands in its branches may replace in texts -/
def PTC (X : Cx) (e : Expr) (t : TT) : Prop :=
  ∀ (pins : List (Addr × Obj)) (s : Shared) (σ : St) (H : Hp) (Q : Bool → Hp → Prop), Inv X pins σ H s → t σ H Q → wpAny (model X.prog X.w) X.A (isTrue e X.env (eval e X.env)) (fun d s1 => 1 ≤ s1.toks ∧ TP X pins σ Q d s1) X.xe s
section
variable {X : Cx} {a c e : Expr} {ta te : TE} {tc : TT} {t u : TS} {A B : List Stmt} {x : Str} {j : Nat} {p p' pos pos' : Pos}
theorem ptc_cmp {op : CmpOp} {r : R2} (ho : OpR X (compareOp op) r) (ha : PE X a ta) (hm : behindInMarks op (.Constant (.str x) j p) = false) : PTC X (.Compare a [op] [.Constant (.str x) j p] pos) (tTest (tOp r ta (tC (.str x)))) := by
  intro pins s σ H Q I h
  refine wpAny_isTrue_Compare1 (thn (ha.run pins s σ H _ I h) fun v s1 ⟨y, H1, I1, r1, q1⟩ => Calls.Constant_str ?_) hm
  refine wpAny_mono (PySem.wpAny_toks_of (n := 1) (by show 1 ≤ s1.toks + 1; omega) (ho pins { s1 with toks := s1.toks + 1 } σ H1 y (.str x) v (.str x s1.toks) _ (I1.tok _) r1 ⟨_, rfl⟩ q1)) (fun c s3 q => ?_) fun _ _ z => z.2
  obtain ⟨hk, z, H3, I3, r3, k, e, q3⟩ := q
  subst e
  cases r3
  exact wpAny_truthy_bool ⟨hk, H3, I3, q3⟩
theorem ps_ifC (hc : PTC X c tc) (ha : PSsT X A t) (hb : PSsT X B u) : PS X (.If c A B pos) (tIfS tc t u) := by
  refine ⟨fun pins s σ H D I h => ?_⟩
  refine wpAny_If (thn (hc pins s σ H _ I h) fun d s1 q => ?_)
  obtain ⟨hk, H1, I1, q1⟩ := q
  cases d with
  | true => exact ha pins s1 σ H1 D hk I1 q1
  | false => exact hb pins s1 σ H1 D hk I1 q1
theorem pst_set {i : Nat} {y : Str} (hN : X.N.Nodup) (hi : X.N[i]? = some y) (hx : Loc X.env.scope y) (he : PET X e te) (hs : swapsWith e (some (.Name y pos')) pos.line X.env = pure false := by rfl) (hf : X.fn y = true ∨ X.env.scope.names.lookup y = some .local := by first | exact .inl rfl | exact .inr rfl | assumption) :
    PST X (.Assign [.Name y pos'] e pos) (tAsg te (gName i)) := by
  intro pins s σ H D h0 I h
  refine wpAny_Assign_Name (thn (he pins s σ H _ h0 I h) fun v s1 ⟨y, H1, I1, r1, q1⟩ => ?_) hs
  exact store_ok I1 hN hi hx r1 (fun s2 I2 => ⟨_, H1, I2, q1⟩) hf
end
/-! ### steps on texts -/
open PySem.StrLaws
def stepT (c : Nat) (l : List Nat) : List Nat := if c = 85 then replL [10] [94, 10] l else if c = 68 then replL [94, 10] [10] l else if c = 77 then replL [94] [10] l else replL [10] [94] l
def doneT (l cs : List Nat) : List Nat := cs.foldl (fun l c => stepT c l) l
theorem doneT_snoc (l cs : List Nat) (c : Nat) : doneT l (cs ++ [c]) = stepT c (doneT l cs) := by
  unfold doneT
  rw [List.foldl_append]
  rfl
theorem replS_len {y z : List Nat} (hz : z.length ≤ 2) : ∀ (l : List Nat) (s : Nat), (replS y z s l).length ≤ 2 * l.length
  | [], s => by cases s <;> simp [replS]
  | c :: r, 0 => by
    rw [replS]
    split
    · have := replS_len (y := y) hz r (y.length - 1)
      rw [List.length_append, List.length_cons]
      omega
    · have := replS_len (y := y) hz r 0
      rw [List.length_cons, List.length_cons]
      omega
  | c :: r, s + 1 => by
    rw [replS]
    have := replS_len (y := y) hz r s
    rw [List.length_cons]
    omega
theorem stepT_len (c : Nat) (l : List Nat) : (stepT c l).length ≤ 2 * l.length := by
  unfold stepT
  split
  · exact replS_len (by decide) l 0
  · split
    · exact replS_len (by decide) l 0
    · split <;> exact replS_len (by decide) l 0
theorem doneT_len (l : List Nat) : ∀ (k : Nat) (cs : List Nat), cs.length = k → (doneT l cs).length ≤ l.length * 2 ^ k
  | 0, cs, h => by
    rw [List.length_eq_zero_iff.mp h]
    show l.length ≤ l.length * 2 ^ 0
    omega
  | k + 1, cs, h => by
    rcases List.eq_nil_or_concat cs with rfl | ⟨ds, c, rfl⟩
    · cases h
    · have e : ds.length = k := by simpa using h
      rw [List.concat_eq_append, doneT_snoc, Nat.pow_succ]
      have h1 := stepT_len c (doneT l ds)
      have h2 := doneT_len l k ds e
      generalize 2 ^ k = m at h2 ⊢
      rw [← Nat.mul_assoc]
      omega
/-- the text of groups with these numbers of ^, and a rest -/
def up (n : Nat) : List Nat := List.replicate n 94
def spT (rows : List Nat) (rest : Nat) : List Nat := rows.flatMap (fun j => up j ++ [10]) ++ up rest
def unT (rows : List Nat) (rest : Nat) : Nat := rows.sum + rows.length + rest
theorem up_succ (n : Nat) : up (n + 1) = 94 :: up n := rfl
theorem spT_cons (j : Nat) (rows : List Nat) (rest : Nat) : spT (j :: rows) rest = up j ++ 10 :: spT rows rest := by
  unfold spT
  rw [List.flatMap_cons, List.append_assoc, List.append_assoc]
  rfl
theorem spT_len : ∀ (rows : List Nat) (rest : Nat), (spT rows rest).length = unT rows rest
  | [], rest => by simp [spT, unT, up]
  | j :: rows, rest => by
    have ih := spT_len rows rest
    rw [spT_cons, List.length_append, List.length_cons, ih]
    simp only [unT, up, List.length_replicate, List.sum_cons, List.length_cons]
    omega
/- U -/
theorem u_up (r : List Nat) : ∀ j, replL [10] [94, 10] (up j ++ r) = up j ++ replL [10] [94, 10] r
  | 0 => rfl
  | j + 1 => by
    rw [up_succ, List.cons_append, replL_miss (by simp), u_up r j]
    rfl
theorem up_snoc (j : Nat) (r : List Nat) : up j ++ 94 :: r = up (j + 1) ++ r := by
  unfold up
  rw [List.replicate_succ', List.append_assoc]
  rfl
theorem stepU : ∀ (rows : List Nat) (rest : Nat), replL [10] [94, 10] (spT rows rest) = spT (rows.map (· + 1)) rest
  | [], rest => by
    have := u_up [] rest
    rw [replL_nil, List.append_nil] at this
    simpa [spT] using this
  | j :: rows, rest => by
    rw [spT_cons, u_up, replL_hit (by simp) (by simp), List.map_cons, spT_cons]
    have ih := stepU rows rest
    show up j ++ ([94, 10] ++ replL [10] [94, 10] (spT rows rest)) = _
    rw [ih]
    exact up_snoc j _
/- D -/
theorem d_up : ∀ (j : Nat) (r : List Nat), replL [94, 10] [10] (up j ++ 10 :: r) = up (j - 1) ++ 10 :: replL [94, 10] [10] r
  | 0, r => by
    show replL [94, 10] [10] (10 :: r) = _
    rw [replL_miss (by simp)]
    rfl
  | 1, r => by
    show replL [94, 10] [10] (94 :: 10 :: r) = _
    rw [replL_hit (by simp) (by simp)]
    rfl
  | j + 2, r => by
    rw [up_succ, List.cons_append, replL_miss (by simp [up_succ]), d_up (j + 1) r]
    rfl
theorem d_rest : ∀ (n : Nat), replL [94, 10] [10] (up n) = up n
  | 0 => replL_nil
  | 1 => by
    show replL [94, 10] [10] [94] = [94]
    rw [replL_miss (by simp), replL_nil]
  | n + 2 => by
    rw [up_succ, replL_miss (by simp [up_succ]), d_rest (n + 1)]
theorem stepD : ∀ (rows : List Nat) (rest : Nat), replL [94, 10] [10] (spT rows rest) = spT (rows.map (· - 1)) rest
  | [], rest => by simpa [spT] using d_rest rest
  | j :: rows, rest => by rw [spT_cons, d_up, stepD rows rest, List.map_cons, spT_cons]
/- M, N -/
theorem m_up (r : List Nat) : ∀ j, replL [94] [10] (up j ++ r) = List.replicate j 10 ++ replL [94] [10] r
  | 0 => rfl
  | j + 1 => by
    rw [up_succ, List.cons_append, replL_hit (by simp) (by simp)]
    show [10] ++ replL [94] [10] (up j ++ r) = _
    rw [m_up r j]
    rfl
theorem m_all : ∀ (rows : List Nat) (rest : Nat), replL [94] [10] (spT rows rest) = List.replicate (unT rows rest) 10
  | [], rest => by
    have := m_up [] rest
    rw [replL_nil, List.append_nil] at this
    rw [List.append_nil] at this
    simpa [spT, unT] using this
  | j :: rows, rest => by
    rw [spT_cons, m_up, replL_miss (by simp), m_all rows rest]
    have e : unT (j :: rows) rest = j + (1 + unT rows rest) := by simp only [unT, List.sum_cons, List.length_cons]; omega
    rw [e, ← List.replicate_append_replicate, ← List.replicate_append_replicate (n := 1)]
    rfl
theorem spT_zeros : ∀ n, spT (List.replicate n 0) 0 = List.replicate n 10
  | 0 => rfl
  | n + 1 => by
    rw [List.replicate_succ, spT_cons, spT_zeros n]
    rfl
theorem stepM (rows : List Nat) (rest : Nat) : replL [94] [10] (spT rows rest) = spT (List.replicate (unT rows rest) 0) 0 := by rw [m_all, spT_zeros]
theorem n_up (r : List Nat) : ∀ j, replL [10] [94] (up j ++ r) = up j ++ replL [10] [94] r
  | 0 => rfl
  | j + 1 => by
    rw [up_succ, List.cons_append, replL_miss (by simp), n_up r j]
    rfl
theorem stepN : ∀ (rows : List Nat) (rest : Nat), replL [10] [94] (spT rows rest) = spT [] (unT rows rest)
  | [], rest => by
    have := n_up [] rest
    rw [replL_nil, List.append_nil] at this
    simpa [spT, unT] using this
  | j :: rows, rest => by
    have ih := stepN rows rest
    rw [spT_cons, n_up, replL_hit (by simp) (by simp)]
    show up j ++ ([94] ++ replL [10] [94] (spT rows rest)) = _
    rw [ih]
    have e : unT (j :: rows) rest = j + (1 + unT rows rest) := by simp only [unT, List.sum_cons, List.length_cons]; omega
    show up j ++ ([94] ++ up (unT rows rest)) = up (unT (j :: rows) rest)
    rw [e]
    unfold up
    rw [← List.replicate_append_replicate, ← List.replicate_append_replicate (n := 1)]
    rfl
/-! ### what a form makes of groups -/
/-- told by natural numbers -/
def sdRows (b a : Nat) (rows : List Nat) : List Nat := rows.map (fun j => (j - b) + a)
def saidT (f : Fm) (rows : List Nat) (rest : Nat) : List Nat := match f with
  | .keep b a => spT (sdRows b.toNat a.toNat rows) rest
  | .lf b a k c => spT (List.replicate (k.toNat * unT (sdRows b.toNat a.toNat rows) rest) c.toNat) 0
  | .cr b a k => spT [] (k.toNat * unT (sdRows b.toNat a.toNat rows) rest)
theorem unT_rep : ∀ (n c r : Nat), unT (List.replicate n c) r = n * (c + 1) + r
  | 0, c, r => by simp [unT]
  | n + 1, c, r => by
    have ih := unT_rep n c r
    rw [List.replicate_succ]
    have e : unT (c :: List.replicate n c) r = (c + 1) + unT (List.replicate n c) r := by simp only [unT, List.sum_cons, List.length_cons]; omega
    rw [e, ih, Nat.succ_mul]
    omega
theorem sd_up (b a : Nat) (rows : List Nat) : sdRows b (a + 1) rows = (sdRows b a rows).map (· + 1) := by
  unfold sdRows
  rw [List.map_map]
  exact List.map_congr_left fun j _ => by show j - b + (a + 1) = (j - b + a) + 1; omega
theorem sd_dn (b a : Nat) (rows : List Nat) : sdRows b a rows = (sdRows b (a + 1) rows).map (· - 1) := by
  unfold sdRows
  rw [List.map_map]
  exact List.map_congr_left fun j _ => by show j - b + a = (j - b + (a + 1)) - 1; omega
theorem sd_dn0 (b : Nat) (rows : List Nat) : sdRows (b + 1) 0 rows = (sdRows b 0 rows).map (· - 1) := by
  unfold sdRows
  rw [List.map_map]
  exact List.map_congr_left fun j _ => by show j - (b + 1) + 0 = (j - b + 0) - 1; omega
theorem sd_0 (rows : List Nat) : sdRows 0 0 rows = rows := by
  unfold sdRows
  exact (List.map_congr_left fun j _ => by show j - 0 + 0 = id j; show _ = j; omega).trans (List.map_id rows)
theorem natF {n : Nat} {f : Fm} (h : f.Ok n) : (∃ b a : Nat, f = .keep b a) ∨ (∃ b a k c : Nat, f = .lf b a k c) ∨ (∃ b a k : Nat, f = .cr b a k) := by
  cases f with
  | keep b a =>
    obtain ⟨b', rfl⟩ := Int.eq_ofNat_of_zero_le h.1
    obtain ⟨a', rfl⟩ := Int.eq_ofNat_of_zero_le h.2.1
    exact .inl ⟨_, _, rfl⟩
  | lf b a k c =>
    obtain ⟨b', rfl⟩ := Int.eq_ofNat_of_zero_le h.1
    obtain ⟨a', rfl⟩ := Int.eq_ofNat_of_zero_le h.2.1
    obtain ⟨k', rfl⟩ := Int.eq_ofNat_of_zero_le (Int.le_of_lt h.2.2.1)
    obtain ⟨c', rfl⟩ := Int.eq_ofNat_of_zero_le h.2.2.2.1
    exact .inr (.inl ⟨_, _, _, _, rfl⟩)
  | cr b a k =>
    obtain ⟨b', rfl⟩ := Int.eq_ofNat_of_zero_le h.1
    obtain ⟨a', rfl⟩ := Int.eq_ofNat_of_zero_le h.2.1
    obtain ⟨k', rfl⟩ := Int.eq_ofNat_of_zero_le (Int.le_of_lt h.2.2.1)
    exact .inr (.inr ⟨_, _, _, rfl⟩)
theorem mul1 (k c : Nat) : ((k : Int) * ((c : Int) + 1) * 1) = ((k * (c + 1) : Nat) : Int) := by
  rw [Int.mul_one, Int.natCast_mul]
  rfl
theorem af0 (c : Nat) (k : Int) (c' : Int) : Fm.after (.lf 0 0 k c') c = c := by
  unfold Fm.after Fm.b Fm.a
  dsimp only
  split <;> omega
theorem af0c (c : Nat) (k : Int) : Fm.after (.cr 0 0 k) c = c := by
  unfold Fm.after Fm.b Fm.a
  dsimp only
  split <;> omega
end Lx
namespace Lw
open PySem PySem.Spec L2 Lx
open PySem.StrLaws
theorem said_step {n : Nat} {f : Fm} (h : f.Ok n) {c : Nat} (hc : c ∈ steps.cps.toList) (rows : List Nat) (rest : Nat) : saidT (f.both (stepF c)) rows rest = stepT c (saidT f rows rest) := by
  have hc4 : c = 85 ∨ c = 68 ∨ c = 77 ∨ c = 78 := by
    have : c ∈ ([85, 68, 77, 78] : List Nat) := hc
    simpa using this
  rcases natF h with ⟨b, a, rfl⟩ | ⟨b, a, k, d, rfl⟩ | ⟨b, a, k, rfl⟩
  · rcases hc4 with rfl | rfl | rfl | rfl
    · have e : (Fm.keep b a).both (stepF 85) = .keep b ((a + 1 : Nat) : Int) := by
        show Fm.keep ((b : Int) + (if (0 : Int) - a > 0 then (0 : Int) - a else 0)) ((if (a : Int) - 0 > 0 then (a : Int) - 0 else 0) + 1) = _
        congr 1 <;> split <;> omega
      rw [e]
      show spT (sdRows (b : Int).toNat ((a + 1 : Nat) : Int).toNat rows) rest = replL [10] [94, 10] (spT (sdRows (b : Int).toNat (a : Int).toNat rows) rest)
      rw [Int.toNat_natCast, Int.toNat_natCast, Int.toNat_natCast, stepU, sd_up]
    · cases a with
      | zero =>
        have e : (Fm.keep b ((0 : Nat) : Int)).both (stepF 68) = .keep ((b + 1 : Nat) : Int) ((0 : Nat) : Int) := by
          show Fm.keep ((b : Int) + (if (1 : Int) - ((0 : Nat) : Int) > 0 then (1 : Int) - ((0 : Nat) : Int) else 0)) ((if ((0 : Nat) : Int) - 1 > 0 then ((0 : Nat) : Int) - 1 else 0) + 0) = _
          congr 1 <;> split <;> omega
        rw [e]
        show spT (sdRows ((b + 1 : Nat) : Int).toNat ((0 : Nat) : Int).toNat rows) rest = replL [94, 10] [10] (spT (sdRows (b : Int).toNat ((0 : Nat) : Int).toNat rows) rest)
        rw [Int.toNat_natCast, Int.toNat_natCast, Int.toNat_natCast, stepD, sd_dn0]
      | succ a =>
        have e : (Fm.keep b ((a + 1 : Nat) : Int)).both (stepF 68) = .keep b a := by
          show Fm.keep ((b : Int) + (if (1 : Int) - ((a + 1 : Nat) : Int) > 0 then (1 : Int) - ((a + 1 : Nat) : Int) else 0)) ((if ((a + 1 : Nat) : Int) - 1 > 0 then ((a + 1 : Nat) : Int) - 1 else 0) + 0) = _
          congr 1 <;> split <;> omega
        rw [e]
        show spT (sdRows (b : Int).toNat (a : Int).toNat rows) rest = replL [94, 10] [10] (spT (sdRows (b : Int).toNat ((a + 1 : Nat) : Int).toNat rows) rest)
        rw [Int.toNat_natCast, Int.toNat_natCast, Int.toNat_natCast, stepD, ← sd_dn]
    · have e : (Fm.keep b a).both (stepF 77) = .lf b a ((1 : Nat) : Int) ((0 : Nat) : Int) := by
        show Fm.lf ((b : Int) + (if (0 : Int) - a > 0 then (0 : Int) - a else 0)) ((if (a : Int) - 0 > 0 then (a : Int) - 0 else 0) + 0) 1 0 = _
        congr 1 <;> split <;> omega
      rw [e]
      show spT (List.replicate (((1 : Nat) : Int).toNat * unT (sdRows (b : Int).toNat (a : Int).toNat rows) rest) ((0 : Nat) : Int).toNat) 0 = replL [94] [10] (spT (sdRows (b : Int).toNat (a : Int).toNat rows) rest)
      rw [Int.toNat_natCast, Int.toNat_natCast, Int.toNat_natCast, Int.toNat_natCast, stepM, Nat.one_mul]
    · have e : (Fm.keep b a).both (stepF 78) = .cr b a ((1 : Nat) : Int) := by
        show Fm.cr ((b : Int) + (if (0 : Int) - a > 0 then (0 : Int) - a else 0)) ((if (a : Int) - 0 > 0 then (a : Int) - 0 else 0) + 0) 1 = _
        congr 1 <;> split <;> omega
      rw [e]
      show spT [] (((1 : Nat) : Int).toNat * unT (sdRows (b : Int).toNat (a : Int).toNat rows) rest) = replL [10] [94] (spT (sdRows (b : Int).toNat (a : Int).toNat rows) rest)
      rw [Int.toNat_natCast, Int.toNat_natCast, Int.toNat_natCast, stepN, Nat.one_mul]
  · rcases hc4 with rfl | rfl | rfl | rfl
    · have e : (Fm.lf b a k d).both (stepF 85) = .lf b a k ((d + 1 : Nat) : Int) := by
        show Fm.lf b a k ((if (d : Int) - 0 > 0 then (d : Int) - 0 else 0) + 1) = _
        congr 1 <;> split <;> omega
      rw [e]
      show spT (List.replicate ((k : Int).toNat * unT (sdRows (b : Int).toNat (a : Int).toNat rows) rest) ((d + 1 : Nat) : Int).toNat) 0 = replL [10] [94, 10] (spT (List.replicate ((k : Int).toNat * unT (sdRows (b : Int).toNat (a : Int).toNat rows) rest) (d : Int).toNat) 0)
      rw [stepU, List.map_replicate]
      simp only [Int.toNat_natCast]
    · have e : (Fm.lf b a k d).both (stepF 68) = .lf b a k ((d - 1 : Nat) : Int) := by
        show Fm.lf b a k ((if (d : Int) - 1 > 0 then (d : Int) - 1 else 0) + 0) = _
        congr 1 <;> split <;> omega
      rw [e]
      show spT (List.replicate ((k : Int).toNat * unT (sdRows (b : Int).toNat (a : Int).toNat rows) rest) ((d - 1 : Nat) : Int).toNat) 0 = replL [94, 10] [10] (spT (List.replicate ((k : Int).toNat * unT (sdRows (b : Int).toNat (a : Int).toNat rows) rest) (d : Int).toNat) 0)
      rw [stepD, List.map_replicate]
      simp only [Int.toNat_natCast]
    · have e : (Fm.lf b a k d).both (stepF 77) = .lf b a ((k * (d + 1) : Nat) : Int) ((0 : Nat) : Int) := by
        show Fm.lf b a ((k : Int) * (Fm.after (.lf 0 0 1 0) d + 1) * 1) 0 = _
        rw [af0, mul1]
        rfl
      rw [e]
      show spT (List.replicate (((k * (d + 1) : Nat) : Int).toNat * unT (sdRows (b : Int).toNat (a : Int).toNat rows) rest) ((0 : Nat) : Int).toNat) 0 = replL [94] [10] (spT (List.replicate ((k : Int).toNat * unT (sdRows (b : Int).toNat (a : Int).toNat rows) rest) (d : Int).toNat) 0)
      rw [stepM, unT_rep]
      simp only [Int.toNat_natCast, Nat.add_zero]
      rw [Nat.mul_right_comm]
    · have e : (Fm.lf b a k d).both (stepF 78) = .cr b a ((k * (d + 1) : Nat) : Int) := by
        show Fm.cr b a ((k : Int) * (Fm.after (.cr 0 0 1) d + 1) * 1) = _
        rw [af0c, mul1]
      rw [e]
      show spT [] (((k * (d + 1) : Nat) : Int).toNat * unT (sdRows (b : Int).toNat (a : Int).toNat rows) rest) = replL [10] [94] (spT (List.replicate ((k : Int).toNat * unT (sdRows (b : Int).toNat (a : Int).toNat rows) rest) (d : Int).toNat) 0)
      rw [stepN, unT_rep]
      simp only [Int.toNat_natCast, Nat.add_zero]
      rw [Nat.mul_right_comm]
  · have un0 : ∀ n, unT [] n = n := fun n => by simp [unT]
    rcases hc4 with rfl | rfl | rfl | rfl
    · show spT [] _ = replL [10] [94, 10] (spT [] _)
      rw [stepU]
      rfl
    · show spT [] _ = replL [94, 10] [10] (spT [] _)
      rw [stepD]
      rfl
    · have e : (Fm.cr b a k).both (stepF 77) = .lf b a k ((0 : Nat) : Int) := by
        show Fm.lf b a ((k : Int) * 1 * 1) 0 = _
        rw [Int.mul_one, Int.mul_one]
        rfl
      rw [e]
      show spT (List.replicate ((k : Int).toNat * unT (sdRows (b : Int).toNat (a : Int).toNat rows) rest) ((0 : Nat) : Int).toNat) 0 = replL [94] [10] (spT [] ((k : Int).toNat * unT (sdRows (b : Int).toNat (a : Int).toNat rows) rest))
      rw [stepM, un0]
      rfl
    · have e : (Fm.cr b a k).both (stepF 78) = .cr b a k := by
        show Fm.cr b a ((k : Int) * 1 * 1) = _
        rw [Int.mul_one, Int.mul_one]
      rw [e]
      show spT [] ((k : Int).toNat * unT (sdRows (b : Int).toNat (a : Int).toNat rows) rest) = replL [10] [94] (spT [] ((k : Int).toNat * unT (sdRows (b : Int).toNat (a : Int).toNat rows) rest))
      rw [stepN, un0]
theorem said_done (rows : List Nat) (rest : Nat) : ∀ (k : Nat) (cs : List Nat), cs.length = k → k ≤ 60 → (∀ c ∈ cs, c ∈ steps.cps.toList) → saidT (formL cs) rows rest = doneT (spT rows rest) cs
  | 0, cs, h, _, _ => by
    rw [List.length_eq_zero_iff.mp h]
    show spT (sdRows 0 0 rows) rest = spT rows rest
    rw [sd_0]
  | k + 1, cs, h, hk, hc => by
    rcases List.eq_nil_or_concat cs with rfl | ⟨ds, c, rfl⟩
    · cases h
    · have e : ds.length = k := by simpa using h
      rw [List.concat_eq_append] at hc ⊢
      have hd : ∀ c ∈ ds, c ∈ steps.cps.toList := fun c h => hc c (List.mem_append_left _ h)
      rw [formL_snoc, doneT_snoc, ← said_done rows rest k ds e (by omega) hd]
      exact said_step (formL_fls k ds e (by omega) hd).ok (hc c (by simp)) rows rest
/-! ### cutting such a text at its breaks -/
theorem spT_join : ∀ (rows : List Nat) (rest : Nat), spT rows rest = TL.joinL [10] (rows.map up ++ [up rest])
  | [], rest => rfl
  | j :: rows, rest => by
    rw [spT_cons, spT_join rows rest]
    cases rows with
    | nil => rfl
    | cons a r => rfl
theorem spT_cut (rows : List Nat) (rest : Nat) : TL.spl [10] 0 [] (spT rows rest) = rows.map up ++ [up rest] := by
  rw [spT_join]
  refine TL.spl_join (by simp) fun p hp => ?_
  have hu : ∀ n, (10 : Nat) ∉ up n := fun n h => by
    have := (List.mem_replicate.mp h).2
    omega
  rcases List.mem_append.mp hp with h | h
  · obtain ⟨n, _, rfl⟩ := List.mem_map.mp h
    exact hu n
  · rw [List.mem_singleton.mp h]
    exact hu _
/-- every text of ^ and breaks is one -/
theorem spT_of : ∀ l : List Nat, (∀ c ∈ l, c = 94 ∨ c = 10) → ∃ rows rest, l = spT rows rest
  | [], _ => ⟨[], 0, rfl⟩
  | c :: l, h => by
    obtain ⟨rows, rest, rfl⟩ := spT_of l fun d hd => h d (List.mem_cons_of_mem _ hd)
    rcases h c List.mem_cons_self with rfl | rfl
    · cases rows with
      | nil => exact ⟨[], rest + 1, rfl⟩
      | cons j rows => exact ⟨(j + 1) :: rows, rest, by rw [spT_cons, spT_cons]; rfl⟩
    · exact ⟨0 :: rows, rest, by rw [spT_cons]; rfl⟩
end Lw
namespace Lx
open PySem PySem.Spec L2
/-! ### a local name and just the value that it holds -/
section
variable {X : Cx} {pins : List (Addr × Obj)} {σ : St} {H : Hp} {s : Shared}
def Holds (X : Cx) (s : Shared) (x : Str) (u : Value) : Prop := ∃ m, s.heap.Ns X.env.locals m ∧ m x = some u
theorem store_raw {M : Model} {A : Around} {E : Value → Shared → Prop} {i : Nat} {x : Str} {v : V} {u : Value} {Q : Unit → Shared → Prop} (I : Inv X pins σ H s) (hN : X.N.Nodup) (hi : X.N[i]? = some x) (hk : X.env.scope.names.lookup x = some .local) (r : RelV v u)
    (h : ∀ s', Inv X pins (σ.set i (some v)) H s' → Holds X s' x u → (∀ y w, y ≠ x → Holds X s y w → Holds X s' y w) → Q () s') : wpAny M A (storeName X.env x u) Q E s := by
  obtain ⟨m, hn, hl⟩ := id I.loc
  have hcls : (X.env.scope.kind == .class || (X.env.scope.kind == .module && X.env.locals != X.env.globals)) = false := by rw [I.ok.kind]; rfl
  have hiσ : i < σ.length := by rw [I.len]; exact (List.getElem?_eq_some_iff.mp hi).1
  have cne := I.cne
  have tracked : ∀ {a : Addr} {h' : Heap}, (∃ o, s.heap.get? a = some o ∧ H a = none) → Heap.SameBut a s.heap h' → HOk X.prog X.w H h' := fun {a h'} ha hs b ob e => by
    obtain ⟨_, _, hfree⟩ := ha
    refine (I.hok b ob e).stay (fun c w' hc q => (hs.2 c ?_).trans q) (fun _ q => q) fun _ _ q => q
    rintro rfl
    rcases hc with rfl | hc
    · rw [hfree] at e; cases e
    · rw [hfree] at hc; cases hc
  refine wpAny_storeName_local hk hn (fun h' hn' hs => ?_) hcls
  obtain ⟨oL, _, _, hoL, _⟩ := id hn
  refine h _ ⟨I.ok, I.os, I.bare, ⟨fun b o e n hb hx => ?_, fun b o e n hb hx => ?_, I.base.free, fun b o e hx => ?_, I.base.tups, I.base.frzs, I.base.tbls⟩, ⟨_, hn', fun j y v' e1 e2 e3 => ?_⟩, fun y c e => ?_, I.free, I.freeC, fun p hp => ?_, tracked ⟨oL, hoL, I.free⟩ hs, by simpa using I.len⟩ ⟨_, hn', by simp⟩ fun y w hy ⟨m2, hm2, e2⟩ => ⟨_, hn', by
    have := Heap.Ns.agree hn hm2 y
    simp only [hy, if_false]
    rw [this, e2]⟩
  · exact (hs.2 b (Nat.ne_of_lt (Nat.lt_of_lt_of_le (Heap.lt_size e) I.ok.above))).trans (I.base.keep b o e n hb hx)
  · obtain ⟨sl, e1⟩ := I.base.slot b o e n hb hx
    exact ⟨sl, (hs.2 b (Nat.ne_of_lt (Nat.lt_of_lt_of_le (Heap.lt_size e) I.ok.above))).trans e1⟩
  · obtain ⟨o', e1⟩ := I.base.there b o e hx
    exact ⟨o', (hs.2 b (Nat.ne_of_lt (Nat.lt_of_lt_of_le (Heap.lt_size e) I.ok.above))).trans e1⟩
  · by_cases hj : j = i
    · subst hj
      rw [hi] at e1; cases e1
      rw [List.getElem?_set_self hiσ] at e2
      cases e2
      exact ⟨u, r, .inl ⟨hk, by simp⟩⟩
    · rw [List.getElem?_set_ne (Ne.symm hj)] at e2
      obtain ⟨u', r', q⟩ := hl j y v' e1 e2 e3
      refine ⟨u', r', ?_⟩
      rcases q with ⟨k, e⟩ | ⟨k, c, e, z⟩
      · refine .inl ⟨k, ?_⟩
        have : y ≠ x := fun e => hj (nodup_ix hN e1 (e ▸ hi))
        simp [this, e]
      · exact .inr ⟨k, c, e, z.sameBut hs (cne y c e)⟩
  · obtain ⟨w', z⟩ := I.cell y c e
    exact ⟨w', z.sameBut hs (cne y c e)⟩
  · obtain ⟨e, n, ne, nf, d⟩ := I.pin p hp
    exact ⟨(hs.2 p.1 ne).trans e, n, ne, nf, d⟩
theorem holds_name {x : Str} {u : Value} {pos : Pos} {Q E : Value → Shared → Prop} (I : Inv X pins σ H s) (hk : X.env.scope.names.lookup x = some .local) (h : Holds X s x u) (fin : Q u s)
    (hd : (x == ("__debug__" : Str)) = false := by decide) : wpAny (model X.prog X.w) X.A (eval (.Name x pos) X.env) Q E s := by
  obtain ⟨m, hn, hm⟩ := h
  exact wpAny_Name (wpAny_loadName_local I.ok.kind hk hn hm fin) hd
end
/-- a, b = e; return t.replace(a, b): e a written pair of texts -/
def tRepd (K : PySem.W.Frag) (it : Nat) (te : TE) : TS := fun D σ H => te σ H fun v H1 => ∃ a y z t u x, v = .ref a ∧ (∃ o n, K.lookup a = some o ∧ o.cls = .type "tuple" ∧ o.data = .seq #[.str y t, .str z u] n) ∧ t ≠ 0 ∧ u ≠ 0 ∧ t ≠ u ∧ (y == z) = false ∧
  σ[it]? = some (some (.str x)) ∧ x.length + (x.length + 1) * z.length ≤ 16777216 ∧ D.rt (.str (Txt.replace x y z)) H1
theorem pss_repd {X : Cx} {e : Expr} {te : TE} {it i0 i1 : Nat} {tx y0 y1 : Str} {p0 p1 p2 p3 p4 pt pos apos cpos rpos : Pos} {k0 : Nat} (hc : X.calm = true) (hN : X.N.Nodup) (ht : X.N[it]? = some tx) (h0 : X.N[i0]? = some y0) (h1 : X.N[i1]? = some y1) (n01 : y0 ≠ y1) (nt0 : it ≠ i0) (nt1 : it ≠ i1)
    (hvt : Vis X.env.scope tx) (hk0 : X.env.scope.names.lookup y0 = some .local) (hk1 : X.env.scope.names.lookup y1 = some .local) (he : PE X e te)
    (hs : swapsWithSole [.Tuple [.Name y0 p0, .Name y1 p1] k0 pt] e pos.line X.env = pure false := by rfl) (hw : swappedStores [.Tuple [.Name y0 p0, .Name y1 p1] k0 pt] e X.env = pure none := by rfl)
    (ha1 : (assignEach [.Tuple [.Name y0 p0, .Name y1 p1] k0 pt] X.env).map (·.2) = [assign (.Tuple [.Name y0 p0, .Name y1 p1] k0 pt) X.env] := by rfl)
    (hn : (assignEach [.Name y0 p0, .Name y1 p1] X.env).length = 2 := by rfl) (hst : (assignEach [.Name y0 p0, .Name y1 p1] X.env).findIdx? (·.1) = none := by rfl)
    (ha2 : (assignEach [.Name y0 p0, .Name y1 p1] X.env).map (·.2) = [assign (.Name y0 p0) X.env, assign (.Name y1 p1) X.env] := by rfl)
    (hst2 : starEach [.Name y0 p3, .Name y1 p4] X.env = [(false, eval (.Name y0 p3) X.env), (false, eval (.Name y1 p4) X.env)] := by rfl)
    (hbase : attributeBase (.Name tx p2) "replace" X.env (eval (.Name tx p2) X.env) = eval (.Name tx p2) X.env := by rfl) (hline : (apos.endLine == cpos.line) = true := by rfl)
    (hdt : (tx == ("__debug__" : Str)) = false := by decide) (hct : (tx == ("__classdict__" : Str)) = false := by decide) (hd0 : (y0 == ("__debug__" : Str)) = false := by decide) (hd1 : (y1 == ("__debug__" : Str)) = false := by decide) :
    PSs X [.Assign [.Tuple [.Name y0 p0, .Name y1 p1] k0 pt] e pos, .Return (some (.Call (.Attribute (.Name tx p2) "replace" apos) [.Name y0 p3, .Name y1 p4] [] cpos)) rpos] (tRepd X.K it te) := by
  refine ⟨fun pins s σ H D I h => ?_⟩
  refine wpAny_execs_cons (wpAny_Assign_stores (thn (he.run pins s σ H _ I h) fun v s1 ⟨vv, H1, I1, r1, a, y, z, t, u, x, ev, ⟨o, n, hl, ho, hd⟩, t0, u0, tu, yz, hx, hb, q⟩ => ?_) hs hw)
  subst ev
  obtain rfl : v = Value.ref a := r1
  rw [ha1]
  refine wpAny_mono (M := model X.prog X.w) (Q := fun _ s' => Inv X pins ((σ.set i0 (some (.str y))).set i1 (some (.str z))) H1 s' ∧ Holds X s' y0 (.str y t) ∧ Holds X s' y1 (.str z u)) ?_ (fun _ s2 q2 => ?_) fun _ _ z => z
  · refine PyProof.Rows.assign_Tuple_tuple (I1.ok.hd hc) ⟨o, I1.kIn _ _ hl, ho, n, hd⟩ hn hst fun h' hx2 => ?_
    have I2 : Inv X pins σ H1 { s1 with heap := h' } := I1.kept (t' := s1.toks) fun b o e => hx2 b o (Nat.ne_of_lt (Heap.lt_size e)) e
    rw [ha2]
    refine PyProof.Rows.assignInOrder_cons (wpAny_assign_Name (store_raw (v := .str y) I2 hN h0 hk0 ⟨t, rfl⟩ fun s3 I3 g3 _ => ?_))
    refine PyProof.Rows.assignInOrder_cons (wpAny_assign_Name (store_raw (v := .str z) I3 hN h1 hk1 ⟨u, rfl⟩ fun s4 I4 g4 k4 => ?_))
    exact PyProof.Rows.assignInOrder_nil ⟨I4, k4 _ _ n01 g3, g4⟩
  · obtain ⟨I2, g0, g1⟩ := q2
    refine wpAny_execs_cons (wpAny_Return_some (PySem.Call_method2 hbase hst2 hline (raw_name (v := .str x) ht hvt I2 ?_ (fun v r => ?_) hdt hct)))
    · rw [List.getElem?_set_ne (Ne.symm nt1), List.getElem?_set_ne (Ne.symm nt0)]
      exact hx
    · obtain ⟨tx', e⟩ := r
      subst e
      refine ⟨"str", _, F.plainAttrs_str, F.slot_str_replace, F.type_str_replace, typeIs_str _ _ _, (fun _ e => nomatch e), Calls.callWith_builtin rfl (Calls.evalArgs_plain (Calls.spliced_cons ?_))⟩
      refine holds_name I2 hk0 g0 ?_ hd0
      refine Calls.spliced_cons (holds_name I2 hk1 g1 ?_ hd1)
      refine Calls.spliced_nil ?_
      exact PySem.SC.replace t0 u0 tu yz hb fun t' k => ⟨.str (Txt.replace x y z), _, H1, I2.tok k, ⟨t', rfl⟩, q⟩
end Lx
namespace Lw
open PySem PySem.Spec L2 Lx
theorem scChkChain : FnScope ["chain", "index", "letter"] ["chain"] (defScope sChkChain) := ⟨rfl, rfl, rfl, by decide +kernel, rfl, by decide +kernel, by decide +kernel⟩
def spChkChain : Sp := fun vs H Q _ => ∃ x, vs = [.str x] ∧ ChOk x ∧ ∀ H', Same H H' → Q .non H'
section
variable {P : Program} {w : World} {K : PySem.W.Frag} {mg : Str → Option Value} {base : Heap} {aL aN aS : Addr}
theorem ok_chkChain {f : Addr} {fd : FuncData} {k : Nat} {tS : Tok} (F : Fun K "check_chain" "check_chain" sChkChain f fd) (mE : mg "enumerate" = none) (gS : mg "STEPS" = some (.str steps tS)) : FnOk P w K mg base CX0 (k + 1) f fd ["chain"] spChkChain := by
  refine F.ok scChkChain (fun vs H Q E h => ?_) (fun cdv A outer s H vs Q E hr h => ?_)
  · obtain ⟨x, rfl, _⟩ := h
    rfl
  · obtain ⟨x, rfl, hx, q⟩ := h
    refine ⟨_, pss_one (ps_for PassesOwn.never rfl (pi_enumS rfl mE (pa_cons (pv 0) pa_nil)) (pg_tup (by rfl) (pgs_cons (pg_name (i := 1) scChkChain.nd rfl (.inl rfl)) (pgs_cons (pg_name (i := 2) scChkChain.nd rfl (.inl rfl)) pgs_nil)))
        (pss_one (ps_if (pt_cmpR op_notIn_sign (pv 2) (pe_glob (v := .str steps) rfl gS ⟨_, rfl⟩) rfl) (pss_one ps_never) pss_nil))), ?_⟩
    refine ⟨_, rfl, x, rfl, ?_⟩
    refine for_it walk_enumS (fun i σ H' => Same H H' ∧ ∃ y1 y2, σ = [some (.str x), y1, y2]) ⟨Same.refl H, none, none, rfl⟩ (fun _ _ _ _ _ => trivial) ?_ ?_
    · rintro i v σ H1 H2 hi ⟨sm, y1, y2, rfl⟩ ⟨T, u1, u2, rfl, nT, rfl, h1, h2⟩
      cases Option.some.inj h1
      replace h2 : (x.cps[i]?).map (fun c => V.str ⟨#[c]⟩) = some u2 := h2
      cases e : x.cps[i]? with
      | none => rw [e] at h2; cases h2
      | some c =>
        rw [e] at h2
        cases Option.some.inj h2
        have hc : c ∈ steps.cps.toList := hx c (by rw [Array.mem_toList_iff]; exact Array.mem_of_getElem? e)
        have s2 := sm.trans (same_upd (o := .tup [.int (i : Nat), .str ⟨#[c]⟩]) nT)
        refine ⟨T, _, rfl, .inl (.inl upd_same), rfl, _, _, rfl, _, _, rfl, rfl, ?_⟩
        refine ⟨_, rfl, c, steps, rfl, rfl, _, rfl, ?_⟩
        rw [decide_eq_true hc]
        exact iteF ⟨s2, _, _, rfl⟩
    · rintro σ H1 ⟨sm, y1, y2, rfl⟩
      exact q _ sm
end
end Lw
namespace Lw
open PySem PySem.Spec L2 Lx
theorem scTas : FnScope ["text", "letter", "old", "new"] ["text", "letter"] (defScope sTextAfterStep) := ⟨rfl, rfl, rfl, by decide +kernel, rfl, by decide +kernel, by decide +kernel⟩
/-- no text on the way is too long -/
def TB (l cs : List Nat) : Prop := ∀ i, (doneT l (cs.take i)).length ≤ 1000000
theorem tb_pow {l cs : List Nat} (h : l.length * 2 ^ cs.length ≤ 1000000) : TB l cs := fun i => by
  have h1 := doneT_len l _ (cs.take i) rfl
  have h2 : 2 ^ (cs.take i).length ≤ 2 ^ cs.length := Nat.pow_le_pow_right (by decide) (by rw [List.length_take]; omega)
  have h3 := Nat.mul_le_mul_left l.length h2
  omega
/-- the two texts of each step -/
structure RepT (K : PySem.W.Frag) (w : World) (mg : Str → Option Value) (aR : Addr) : Prop where
  g : mg "REPLACEMENTS" = some (.ref aR)
  s : ∀ c ∈ steps.cps.toList, ∃ a y z t u, KDct K w aR ⟨#[c]⟩ (.ref a) ∧ (∃ o n, K.lookup a = some o ∧ o.cls = .type "tuple" ∧ o.data = .seq #[.str y t, .str z u] n) ∧ t ≠ 0 ∧ u ≠ 0 ∧ t ≠ u ∧ (y == z) = false ∧ 1 ≤ y.length ∧ z.length ≤ 2 ∧ ∀ l, stepT c l = PySem.StrLaws.replL y.cps.toList z.cps.toList l
def spTas : Sp := fun vs H Q _ => ∃ (x : Str) (c : Nat), vs = [.str x, .str ⟨#[c]⟩] ∧ c ∈ steps.cps.toList ∧ x.cps.size ≤ 5000000 ∧ ∀ y : Str, y.cps.toList = stepT c x.cps.toList → Q (.str y) H
def spCvt : Sp := fun vs H Q _ => ∃ (x z : Str), vs = [.str x, .str z] ∧ ChOk z ∧ TB x.cps.toList z.cps.toList ∧ ∀ (y : Str) H', Same H H' → y.cps.toList = doneT x.cps.toList z.cps.toList → Q (.str y) H'
section
variable {P : Program} {w : World} {K : PySem.W.Frag} {mg : Str → Option Value} {base : Heap}
theorem ok_tas {f aR : Addr} {fd : FuncData} {k : Nat} (F : Fun K "text_after_step" "text_after_step" sTextAfterStep f fd) (T : RepT K w mg aR) : FnOk P w K mg base CX0 (k + 1) f fd ["text", "letter"] spTas := by
  refine F.ok scTas (fun vs H Q E h => ?_) (fun cdv A outer s H vs Q E hr h => ?_)
  · obtain ⟨x, c, rfl, _⟩ := h
    rfl
  · obtain ⟨x, c, rfl, hc, hl, q⟩ := h
    obtain ⟨a, y, z, t, u, hd, ho, t0, u0, tu, yz, y1, z2, e⟩ := T.s c hc
    refine ⟨_, pss_repd (it := 0) (i0 := 2) (i1 := 3) rfl scTas.nd rfl rfl rfl (by decide) (by decide) (by decide) (.inl rfl) rfl rfl (pe_ix ix_kdict (pe_glob (v := .ref aR) rfl T.g rfl) (pv 1) (fun _ _ => rfl)), ?_⟩
    refine ⟨_, rfl, aR, _, .ref a, rfl, rfl, hd, a, y, z, t, u, x, rfl, ho, t0, u0, tu, yz, rfl, ?_, ?_⟩
    · have h1 : x.length = x.cps.size := rfl
      have : (x.length + 1) * z.length ≤ (x.length + 1) * 2 := Nat.mul_le_mul_left _ z2
      omega
    · exact q _ (by rw [PySem.StrLaws.replace_list y1, e])
end
end Lw
/-! steps that take each other back on any text -/
namespace Lw
open PySem PySem.Spec L2 Lx PySem.StrLaws
theorem rep1 (a b : Nat) : ∀ l : List Nat, replL [a] [b] l = l.map fun c => if c = a then b else c := by
  intro l
  unfold replL
  induction l with
  | nil => rfl
  | cons c r ih =>
    rw [replS]
    by_cases h : c = a
    · subst h
      rw [if_pos (by simp)]
      show [b] ++ replS [c] [b] 0 r = _
      rw [ih]
      simp
    · rw [if_neg (by simp [h]), ih]
      simp [h]
theorem rep2 (a : Nat) (z : List Nat) : ∀ l : List Nat, replL [a] z l = l.flatMap fun c => if c = a then z else [c] := by
  intro l
  unfold replL
  induction l with
  | nil => rfl
  | cons c r ih =>
    rw [replS]
    by_cases h : c = a
    · subst h
      rw [if_pos (by simp)]
      show z ++ replS [c] z 0 r = _
      rw [ih]
      simp
    · rw [if_neg (by simp [h]), ih]
      simp [h]
/-- N behind M, no newline before -/
theorem step_MN {l : List Nat} (h : 10 ∉ l) : stepT 78 (stepT 77 l) = l := by
  show replL [10] [94] (replL [94] [10] l) = l
  rw [rep1, rep1, List.map_map]
  induction l with
  | nil => rfl
  | cons c r ih =>
    have hc : c ≠ 10 := fun e => h (by rw [e]; exact List.mem_cons_self ..)
    rw [List.map_cons, ih fun q => h (List.mem_cons_of_mem _ q)]
    by_cases h9 : c = 94
    · subst h9; rfl
    · simp [h9, hc]
/-- D behind U -/
theorem step_UD (l : List Nat) : stepT 68 (stepT 85 l) = l := by
  show replL [94, 10] [10] (replL [10] [94, 10] l) = l
  rw [rep2]
  have hd : ∀ r : List Nat, (r.flatMap fun c => if c = 10 then [94, 10] else [c]).head? ≠ some 10 := fun r => by
    cases r with
    | nil => simp
    | cons c r =>
      by_cases h : c = 10
      · subst h; simp
      · simp [h]
  unfold replL
  induction l with
  | nil => rfl
  | cons c r ih =>
    by_cases h : c = 10
    · subst h
      show replS [94, 10] [10] 0 (94 :: 10 :: r.flatMap _) = _
      rw [replS, if_pos (by simp)]
      show [10] ++ replS [94, 10] [10] 1 (10 :: r.flatMap _) = _
      rw [replS, ih]
      rfl
    · have e : (c :: r).flatMap (fun c => if c = 10 then [94, 10] else [c]) = c :: r.flatMap fun c => if c = 10 then [94, 10] else [c] := by simp [h]
      rw [e, replS]
      have hn : ¬ ((c :: r.flatMap fun c => if c = 10 then [94, 10] else [c]).take ([94, 10] : List Nat).length = [94, 10]) := fun q => by
        have h1 := hd r
        revert h1 q
        cases (r.flatMap fun c => if c = 10 then [94, 10] else [c]) with
        | nil => intro q h1; simp at q
        | cons d t =>
          intro q h1
          simp at q h1
          exact h1 q.2
      rw [if_neg hn, ih]
end Lw
/-! a step done sign by sign, with the sign that follows; a text cut into pieces -/
namespace Lw
open PySem PySem.Spec L2 Lx PySem.StrLaws
def mvA (c s : Nat) (late : Option Nat) : List Nat :=
  if c = 85 ∧ s = 10 then [94, 10] else if c = 77 ∧ s = 94 then [10] else if c = 78 ∧ s = 10 then [94] else if c = 68 ∧ s = 94 ∧ late = some 10 then [] else [s]
def mvL (c : Nat) : List Nat → List Nat
  | [] => []
  | s :: r => mvA c s r.head? ++ mvL c r
theorem mvL_step {c : Nat} (hc : c ∈ steps.cps.toList) : ∀ l : List Nat, mvL c l = stepT c l := by
  have h4 : c = 85 ∨ c = 68 ∨ c = 77 ∨ c = 78 := by
    have hc' : c ∈ [85, 68, 77, 78] := hc
    simpa using hc'
  rcases h4 with rfl | rfl | rfl | rfl
  · intro l
    show _ = replL [10] [94, 10] l
    rw [rep2]
    induction l with
    | nil => rfl
    | cons s r ih =>
      rw [mvL, ih, List.flatMap_cons]
      by_cases h : s = 10
      · subst h; rfl
      · simp [mvA, h]
  · have go : ∀ (n : Nat) (l : List Nat), l.length ≤ n → mvL 68 l = replL [94, 10] [10] l := by
      intro n
      induction n with
      | zero =>
        intro l hl
        rw [List.length_eq_zero_iff.mp (by omega : l.length = 0), replL_nil]
        rfl
      | succ n ih =>
        intro l hl
        cases l with
        | nil => rw [replL_nil]; rfl
        | cons s r =>
          rw [List.length_cons] at hl
          cases r with
          | nil =>
            rw [replL_miss (by simp), replL_nil]
            simp [mvL, mvA]
          | cons u r' =>
            rw [List.length_cons] at hl
            by_cases h : s = 94 ∧ u = 10
            · obtain ⟨rfl, rfl⟩ := h
              rw [replL_hit (by simp) (by simp)]
              show mvA 68 94 (some 10) ++ (mvA 68 10 r'.head? ++ mvL 68 r') = [10] ++ replL [94, 10] [10] r'
              rw [ih r' (by omega)]
              simp [mvA]
            · rw [replL_miss (by simpa using fun a b => h ⟨a, b⟩), ← ih (u :: r') (by rw [List.length_cons]; omega)]
              show mvA 68 s (some u) ++ mvL 68 (u :: r') = _
              have : mvA 68 s (some u) = [s] := by
                unfold mvA
                simp
                intro a b
                exact h ⟨a, b⟩
              rw [this]
              rfl
    exact fun l => go _ l (Nat.le_refl _)
  · intro l
    show _ = replL [94] [10] l
    rw [rep2]
    induction l with
    | nil => rfl
    | cons s r ih =>
      rw [mvL, ih, List.flatMap_cons]
      by_cases h : s = 94
      · subst h; rfl
      · simp [mvA, h]
  · intro l
    show _ = replL [10] [94] l
    rw [rep2]
    induction l with
    | nil => rfl
    | cons s r ih =>
      rw [mvL, ih, List.flatMap_cons]
      by_cases h : s = 10
      · subst h; rfl
      · simp [mvA, h]
theorem mvL_drop {c s : Nat} {l : List Nat} {i : Nat} (h : l[i]? = some s) : mvL c (l.drop i) = mvA c s l[i + 1]? ++ mvL c (l.drop (i + 1)) := by
  have hi := (List.getElem?_eq_some_iff.mp h).1
  rw [List.drop_eq_getElem_cons hi, mvL, List.head?_drop]
  rw [List.getElem?_eq_getElem hi] at h
  rw [Option.some.inj h]
theorem mvL_low (c : Nat) : ∀ {l : List Nat}, (∀ s ∈ l, s < 128) → ∀ s ∈ mvL c l, s < 128
  | [], _, s, hs => by cases hs
  | u :: r, h, s, hs => by
    rw [mvL] at hs
    rcases List.mem_append.mp hs with q | q
    · have hu := h u (List.mem_cons_self ..)
      unfold mvA at q
      split at q
      · simp at q; omega
      · split at q
        · simp at q; omega
        · split at q
          · simp at q; omega
          · split at q
            · cases q
            · simp at q; omega
    · exact mvL_low c (fun v hv => h v (List.mem_cons_of_mem _ hv)) s q
theorem step_low {c : Nat} (hc : c ∈ steps.cps.toList) {l : List Nat} (h : ∀ s ∈ l, s < 128) : ∀ s ∈ stepT c l, s < 128 := by
  rw [← mvL_step hc]
  exact mvL_low c h
theorem done_low : ∀ {cs : List Nat} {l : List Nat}, (∀ c ∈ cs, c ∈ steps.cps.toList) → (∀ s ∈ l, s < 128) → ∀ s ∈ doneT l cs, s < 128
  | [], _, _, h => h
  | c :: cs, l, hc, h => done_low (cs := cs) (l := stepT c l) (fun d hd => hc d (List.mem_cons_of_mem _ hd)) (step_low (hc c (List.mem_cons_self ..)) h)
/-- D makes no text longer -/
theorem stepD_len (l : List Nat) : (stepT 68 l).length ≤ l.length := by
  rw [← mvL_step (by decide)]
  induction l with
  | nil => exact Nat.le_refl _
  | cons s r ih =>
    rw [mvL, List.length_append, List.length_cons]
    have : (mvA 68 s r.head?).length ≤ 1 := by
      unfold mvA
      rw [if_neg (by omega), if_neg (by omega), if_neg (by omega)]
      split <;> simp
    omega
/-- the piece that follows a sign -/
theorem cut_late (x : Str) (i : Nat) : (cutS x (some ((i : Int) + 1)) (some ((i : Int) + 2))).cps.toList = (match x.cps.toList[i + 1]? with | some u => [u] | none => []) := by
  have hl : x.cps.toList.length = x.length := Array.length_toList ..
  have e1 : (some ((i : Int) + 1)) = some (((i + 1 : Nat)) : Int) := by rw [Int.natCast_add]; rfl
  have e2 : (some ((i : Int) + 2)) = some (((i + 2 : Nat)) : Int) := by rw [Int.natCast_add]; rfl
  unfold cutS
  rw [e1, e2, HT.sIx_nat, HT.sIx_nat]
  show ((x.cps.toList.drop (min (i + 1) x.length)).take (min (i + 2) x.length - min (i + 1) x.length)) = _
  by_cases h : i + 1 < x.length
  · rw [Nat.min_eq_left (by omega), Nat.min_eq_left (by omega), List.drop_eq_getElem_cons (by omega), List.getElem?_eq_getElem (by omega)]
    have : i + 2 - (i + 1) = 1 := by omega
    rw [this]
    rfl
  · rw [Nat.min_eq_right (by omega), List.drop_of_length_le (by omega), List.getElem?_eq_none (by omega)]
    simp
end Lw
/-! defs that are entered with a token out: their first statement may replace in a text -/
namespace Lx
open PySem PySem.Spec L2
open PyProof.Rows (AllBare IntsAre)
theorem PSsT.nox {X : Cx} {st : List Stmt} {t : TS} (h : PSsT X.nox st t) : PSsT X st t := fun pins s σ H D h0 I hw =>
  wpAny_mono (h pins s σ H D h0 (I.wish _) hw) (fun _ _ q => q.unwish) fun _ _ z => False.elim z
structure FnT (P : Program) (w : World) (K : PySem.W.Frag) (mg : Str → Option Value) (base : Heap) (CX : CXT) (k : Nat) (f : Addr) (fd : FuncData) (ps : List Str) (sp : Sp) : Prop where
  len : ∀ vs H Q E, sp vs H Q E → vs.length = ps.length
  run : ∀ (A : Around) (outer : List Env) (s : Shared) (H : Hp) (args : Args) (us : List Value) (vs : List V) (Q : VK) (E : XK), 1 ≤ s.toks → Room k A → Env0 P w K mg base A outer s H → BindsTo s fd args (ps.zip us) → Vals vs us → sp vs H Q E →
    codeAny (model P w) A (.call (.ref f) args) (CR CX outer P w H s Q E) s
section
variable {P : Program} {w : World} {K : PySem.W.Frag} {mg : Str → Option Value} {base : Heap} {CX : CXT}
theorem FnT.of {k : Nat} {f : Addr} {fd : FuncData} {ps : List Str} {sp : Sp} (F : FnOk P w K mg base CX k f fd ps sp) : FnT P w K mg base CX k f fd ps sp :=
  ⟨F.len, fun A outer s H args us vs Q E _ hr he hb hv hs => F.run A outer s H args us vs Q E hr he hb hv hs⟩
theorem FnT.mono {j k : Nat} {f : Addr} {fd : FuncData} {ps : List Str} {sp : Sp} (F : FnT P w K mg base CX j f fd ps sp) (h : j ≤ k) : FnT P w K mg base CX k f fd ps sp :=
  ⟨F.len, fun A outer s H args us vs Q E h0 hr => F.run A outer s H args us vs Q E h0 (hr.mono h)⟩
/-- a def's promise by its body -/
theorem okT {x qual : Str} {st : Stmt} {f : Addr} {fd : FuncData} {N ps : List Str} {k : Nat} {sp : Sp} (F : Fun K x qual st f fd) (S : FnScope N ps (defScope st)) (len : ∀ vs H Q E, sp vs H Q E → vs.length = ps.length)
    (hb : ∀ (cdv : Value) (A : Around) (outer : List Env) (s : Shared) (H : Hp) (vs : List V) (Q : VK) (E : XK), Room k (A.deeper (PyProof.Rows.envOfC qual (defScope st) s.heap.objs.size f cdv)) → sp vs H Q E →
      ∃ t, PSsT (cxOf CX P w K mg base N qual (defScope st) f cdv A outer s H E).nox (defBody st) t ∧ t { nx := fun _ H' => Q .non H', rt := Q } (start N vs) H) : FnT P w K mg base CX (k + 1) f fd ps sp := by
  obtain ⟨oc, od, kV, doc, pm, an, cdv, ct, osl, rfl, lk, hcd⟩ := F.ex
  refine ⟨len, fun A outer s H args us vs Q E h0 hr e0 hbd r hsp => ?_⟩
  have X : K.In s.heap := e0.mod.kin.keeps fun b o e => (e0.bs b o e).1
  have lim : s.heap.NoLimit := e0.mod.nolimit.keeps fun b o e => (e0.bs b o e).1
  refine codeAny_call_function hr.depth (X _ _ lk) rfl S.co S.gen rfl (PySem.W.codeRec_of X hcd) (hbd _ _ _ _ ?_)
  refine PySem.wpAny_with_toks h0 (wpAny_newFunctionEnv_cells S.kind (fun y hy => ?_) fun env he s1 x1 => fun ht1 => ?_)
  · obtain ⟨n, v⟩ := y
    rcases S.par n (List.of_mem_zip hy).1 with q | q
    · exact .inl q
    · exact .inr ⟨q, PySem.W.cellsFrom_some _ _ _ (.inl q)⟩
  · subst he
    refine ⟨lim.keeps x1.toInCall.keep, codeAny_func ?_⟩
    obtain ⟨t, ht, hq⟩ := hb cdv A outer s H vs Q E (hr.deeper _) hsp
    have I := inv_start (CX := CX) (E := E) S hr.hd e0 (len _ _ _ _ hsp) r x1
    refine wpAny_mono ((PSsT.nox ht) [] s1 (start N vs) H _ ht1 I hq) (fun fl s2 z => ?_) fun _ _ z => z
    rcases fl with _ | _ | _ | u
    all_goals first
      | (obtain ⟨_, _, _, q⟩ := z; exact q.elim)
      | (obtain ⟨σ2, H2, J, q⟩ := z; exact ⟨V.non, H2, J.os, J.bare, J.base, J.hok, rfl, q⟩)
      | (obtain ⟨v2, σ2, H2, J, rv, q⟩ := z; exact ⟨v2, H2, J.os, J.bare, J.base, J.hok, rv, q⟩)
end
section
variable {X : Cx} {CX : CXT} {k : Nat} {f : Addr} {fd : FuncData} {ps : List Str} {sp : Sp} {dvs : List V} {ds : List Value} {E : XK} {x : Str} {p pos : Pos} {e : Expr} {es : List Expr} {t : TA}
theorem run_fnT {pins : List (Addr × Obj)} {σ : St} {H : Hp} {s : Shared} {Q : VK} {us : List Value} {vs : List V} (F : FnT X.prog X.w X.K X.mg X.base CX k f fd ps sp) (h0 : 1 ≤ s.toks) (hr : Room k X.A) (hb : Binds X.K fd ps ds) (hd : Vals dvs ds) (hx : Passes CX X E)
    (I : Inv X pins σ H s) (r : Vals vs us) (h : sp (vs ++ dvs) H Q E) : wpAny (model X.prog X.w) X.A (call (.ref f) us) (EP X pins σ Q) X.xe s := by
  have r2 : Vals (vs ++ dvs) (us ++ ds) := r.append hd
  have hl : (us ++ ds).length = ps.length := by rw [← r2.length]; exact F.len _ _ _ _ h
  refine wpAny_call (codeAny_mono (F.run X.A X.stack s H ⟨us, []⟩ (us ++ ds) (vs ++ dvs) Q E h0 hr I.env0 (hb s us I.kIn hl) r2 h) fun r s' hq => ?_)
  cases r with
  | error e => exact hx pins σ H s e s' I hq
  | ok fl =>
    cases fl with
    | ret u => exact I.after hq
    | next => exact False.elim hq
    | brk => exact False.elim hq
    | cont => exact False.elim hq
theorem PAT.of {ta : TA} (h : PA X es ta) : PAT X es ta := fun pos pins s σ H Q _ I q => h.run pos pins s σ H Q I q
/-- f(e, ..), a token out -/
theorem pet_call (F : FnT X.prog X.w X.K X.mg X.base CX k f fd ps sp) (hr : Room k X.A) (hg : Gl X x) (hm : X.mg x = some (.ref f)) (hk : PySem.W.keepIn X.K (.ref f) = true) (hb : Binds X.K fd ps ds) (hd : Vals dvs ds) (hx : Passes CX X E)
    (ha : PAT X (e :: es) t) (hdb : (x == ("__debug__" : Str)) = false := by decide) (he : starEach (e :: es) X.env = (false, eval e X.env) :: starEach es X.env := by rfl) (hpl : (backTo pos (starEach es X.env)).any (·.1) = false := by rfl) :
    PET X (.Call (.Name x p) (e :: es) [] pos) (tCall sp dvs E t) := by
  intro pins s σ H Q h0 I h
  refine wpAny_Call_Name_kw (ld_glob I hg hm ?_ hdb)
  refine PySem.W.callWith_K (h₀ := X.base) I.ok.mod.kin hk (wpAny_mono (PySem.wpAny_toks_of h0 (ha pos pins s σ H _ h0 I h)) (fun us s1 q => ?_) fun _ _ z => z.2) he hpl
  obtain ⟨h1, vs, H1, I1, r, q⟩ := q
  exact ⟨I1.kIn, run_fnT F h1 hr hb hd hx I1 r q⟩
end
/-! ### loops in that mode -/
section
variable {X : Cx}
/-- what is walked over puts a token out -/
def PI1 (X : Cx) (tg iter : Expr) (wi : TI) : Prop :=
  ∀ (pins : List (Addr × Obj)) (s : Shared) (σ : St) (H : Hp) (R : It → Hp → Prop), Inv X pins σ H s → wi σ H R →
    wpAny (model X.prog X.w) X.A (eval iter X.env) (fun v s1 => 1 ≤ s1.toks ∧ wpAny (model X.prog X.w) X.A (pyIter v) (PIE X pins σ tg R) X.xe s1) X.xe s
theorem pit_of {tg iter : Expr} {wi : TI} (h : PI X tg iter wi) : PIT X tg iter wi := fun pins s σ H R _ I q => h.run pins s σ H R I q
theorem for_core {tg iter : Expr} {body : List Stmt} {g : TG} {tb : TS} {pos : Pos} {pins : List (Addr × Obj)} {s : Shared} {σ : St} {D : Ends} (hp : PassesOwn (model X.prog X.w) X.A X.env X.xe) (hc : X.calm = true) (hg : PG X tg g) (hb : PSsT X body tb)
    (hi : wpAny (model X.prog X.w) X.A (eval iter X.env) (fun v s1 => 1 ≤ s1.toks ∧ wpAny (model X.prog X.w) X.A (pyIter v) (PIE X pins σ tg fun J H1 => ∃ W : Nat → Nat → St → Hp → Prop, (∃ m, W 0 m σ H1) ∧ ∀ i m σ H, W i m σ H →
      (J.stop i H ∧ D.nx σ H) ∨ (J.go i H ∧ ∃ N : St → Hp → Prop, (∀ σ' H', N σ' H' → ∃ m', m' < m ∧ W (i + 1) m' σ' H') ∧ ∀ x H', J.yld i H x H' → g x σ H' fun σ2 H2 => tb { nx := N, rt := D.rt, bk := D.nx, ct := N } σ2 H2)) X.xe s1) X.xe s)
    (hs : ∀ x, foldedSetIterable iter X.env x = pure x := by intro _; rfl) : wpAny (model X.prog X.w) X.A (exec (.For tg iter body [] pos) X.env) (SP X pins D) X.xe s := by
  refine wpAny_For (thn hi fun v s1 h1 => ?_) hs
  obtain ⟨t1, h1⟩ := h1
  refine wpAny_mono (PySem.wpAny_toks_of t1 h1) (fun itv s2 h2 => ?_) fun _ _ z => z.2
  obtain ⟨t2, it, fp, tn, J, H2, e, I2, T, st2, f2, W, ⟨m0, w0⟩, turn⟩ := h2
  subst e
  have stat : ∀ {H' : Hp}, (∀ b ∈ fp, H' b = none) → ∀ b ∈ fp, FpOk X pins H' b := fun hn b hb => ⟨hn b hb, (f2 b hb).2⟩
  refine codeAny_forLoop_any (fun n s' => 1 ≤ s'.toks ∧ ∃ i σ' H', Inv X pins σ' H' s' ∧ tn i s'.heap ∧ (∀ b ∈ fp, H' b = none) ∧ W i n σ' H') ?_ m0 ⟨t2, 0, σ, H2, I2, st2, fun b hb => (f2 b hb).1, w0⟩
  rintro n s3 ⟨t3, i, σ3, H3, I3, st3, fr3, w3⟩
  rcases turn i n σ3 H3 w3 with ⟨stop, qn⟩ | ⟨go, N, hN, step⟩
  · refine wpAny_passesOwn hp (thn (T.done X rfl rfl rfl hc i pins s3 σ3 H3 X.xe I3 (stat fr3) st3 stop) fun r s4 ⟨hr, I4⟩ => ?_)
    subst hr
    exact wpAny_execs_nil ⟨σ3, H3, I4, qn⟩
  · refine wpAny_passesOwn hp (wpAny_mono (PySem.wpAny_toks_of t3 (T.item X rfl rfl rfl hc i pins s3 σ3 H3 X.xe I3 (stat fr3) st3 go)) (fun r s4 q4 => ?_) fun _ _ z => z.2)
    obtain ⟨t4, u, hr, h4⟩ := q4
    subst hr
    refine wpAny_passesOwn hp (wpAny_mono (PySem.wpAny_toks_of t4 h4) (fun _ s5 q5 => ?_) fun _ _ z => z.2)
    obtain ⟨t5, x, H5, I5, r5, y5, st5, fr5⟩ := q5
    have I5' := I5.pinned (stat fr5) (T.obj _ _ st5)
    refine wpAny_passesOwn hp (wpAny_mono (PySem.wpAny_toks_of t5 (hg.run _ s5 σ3 H5 x u _ I5' r5 (step x H5 y5))) (fun _ s6 q6 => ?_) fun _ _ z => z.2)
    obtain ⟨t6, σ6, H6, I6, q6⟩ := q6
    refine wpAny_passesOwn hp (wpAny_mono (PySem.wpAny_toks_of t6 (hb _ s6 σ6 H6 _ t6 I6 q6)) (fun f s7 q7 => ?_) fun _ _ z => z.2)
    obtain ⟨t7, q7⟩ := q7
    have again : ∀ {σ7 : St} {H7 : Hp}, Inv X (pins ++ pinsAt fp s5.heap) σ7 H7 s7 → N σ7 H7 → ∃ m, m < n ∧ 1 ≤ s7.toks ∧ ∃ i σ' H', Inv X pins σ' H' s7 ∧ tn i s7.heap ∧ (∀ b ∈ fp, H' b = none) ∧ W i m σ' H' := fun {σ7 H7} I7 n7 => by
      obtain ⟨m', hm, w7⟩ := hN σ7 H7 n7
      refine ⟨m', hm, t7, i + 1, σ7, H7, I7.unpinned, T.keep _ _ _ st5 fun b hb o e => (I7.pin (b, o) (List.mem_append_right _ (List.mem_append_right _ (mem_pinsAt hb e)))).1, fun b hb => ?_, w7⟩
      obtain ⟨o, e, d⟩ := T.obj _ _ st5 b hb
      exact (I7.pin (b, o) (List.mem_append_right _ (List.mem_append_right _ (mem_pinsAt hb e)))).2.1
    cases f with
    | next => obtain ⟨σ7, H7, I7, n7⟩ := q7; exact again I7 n7
    | cont => obtain ⟨σ7, H7, I7, n7⟩ := q7; exact again I7 n7
    | brk => obtain ⟨σ7, H7, I7, q7⟩ := q7; exact ⟨σ7, H7, I7.unpinned, q7⟩
    | ret v => obtain ⟨x7, σ7, H7, I7, r7, q7⟩ := q7; exact ⟨x7, σ7, H7, I7.unpinned, r7, q7⟩
/-- for, its body in that mode, a token out before it -/
theorem pst_forT {tg iter : Expr} {body : List Stmt} {wi : TI} {g : TG} {tb : TS} {pos : Pos} (hp : PassesOwn (model X.prog X.w) X.A X.env X.xe) (hc : X.calm = true) (hi : PIT X tg iter wi) (hg : PG X tg g) (hb : PSsT X body tb)
    (hs : ∀ x, foldedSetIterable iter X.env x = pure x := by intro _; rfl) : PST X (.For tg iter body [] pos) (tFor wi g tb) := by
  intro pins s σ H D h0 I h
  exact for_core hp hc hg hb (PySem.wpAny_toks_of h0 (hi pins s σ H _ h0 I h) |> fun z => wpAny_mono z (fun _ _ q => q) fun _ _ q => q.2) hs
/-- for, its body in that mode, where what is walked over puts a token out -/
theorem ps_for1 {tg iter : Expr} {body : List Stmt} {wi : TI} {g : TG} {tb : TS} {pos : Pos} (hp : PassesOwn (model X.prog X.w) X.A X.env X.xe) (hc : X.calm = true) (hi : PI1 X tg iter wi) (hg : PG X tg g) (hb : PSsT X body tb)
    (hs : ∀ x, foldedSetIterable iter X.env x = pure x := by intro _; rfl) : PS X (.For tg iter body [] pos) (tFor wi g tb) :=
  ⟨fun pins s σ H D I h => for_core hp hc hg hb (hi pins s σ H _ I h) hs⟩
/-- arguments of which the first puts a token out -/
def PA1 (X : Cx) (es : List Expr) (t : TA) : Prop :=
  ∀ (pos : Pos) (pins : List (Addr × Obj)) (s : Shared) (σ : St) (H : Hp) (Q : List V → Hp → Prop), Inv X pins σ H s → t σ H Q → wpAny (model X.prog X.w) X.A (spliced (backTo pos (starEach es X.env))) (fun us s1 => 1 ≤ s1.toks ∧ AP X pins σ Q us s1) X.xe s
/-- an expression that puts a token out -/
def PE1 (X : Cx) (e : Expr) (t : TE) : Prop :=
  ∀ (pins : List (Addr × Obj)) (s : Shared) (σ : St) (H : Hp) (Q : VK), Inv X pins σ H s → t σ H Q → wpAny (model X.prog X.w) X.A (eval e X.env) (fun v s1 => 1 ≤ s1.toks ∧ EP X pins σ Q v s1) X.xe s
theorem pe1_int {i : Int} {j : Nat} {pos : Pos} : PE1 X (.Constant (.int i) j pos) (tC (.int i)) := fun _ s _ H _ I h => wpAny_Constant_int ⟨by show 1 ≤ s.toks + 1; omega, .int i, H, I.tok _, ⟨_, rfl⟩, h⟩
theorem pe1_str {x : Str} {j : Nat} {pos : Pos} : PE1 X (.Constant (.str x) j pos) (tC (.str x)) := fun _ s _ H _ I h => Calls.Constant_str ⟨by show 1 ≤ s.toks + 1; omega, .str x, H, I.tok _, ⟨_, rfl⟩, h⟩
theorem pe1_op {e f : Expr} {te tf : TE} {op : Operator} {r : R2} {pos : Pos} (ho : OpR X (binaryOp op) r) (ha : PE1 X e te) (hb : PE X f tf) : PE1 X (.BinOp e op f pos) (tOp r te tf) := by
  intro pins s σ H Q I h
  refine wpAny_BinOp (thn (ha pins s σ H _ I h) fun v s1 q => ?_)
  obtain ⟨t1, x, H1, I1, r1, q1⟩ := q
  refine wpAny_mono (PySem.wpAny_toks_of t1 (hb.run pins s1 σ H1 _ I1 q1)) (fun u s2 q => ?_) fun _ _ z => z.2
  obtain ⟨t2, y, H2, I2, r2, q2⟩ := q
  exact wpAny_mono (PySem.wpAny_toks_of t2 (ho pins s2 σ H2 x y v u Q I2 r1 r2 q2)) (fun _ _ z => z) fun _ _ z => z.2
theorem pi1_range1 {tg a : Expr} {te : TE} {p pos : Pos} (hg : Gl X "range") (hm : X.mg "range" = none) (ha : PE1 X a te) (hs : starEach [a] X.env = [(false, eval a X.env)] := by rfl) : PI1 X tg (.Call (.Name "range" p) [a] [] pos) (iRng1 (tCons te tNil)) := by
  intro pins s σ H R I h
  refine PyProof.Rows.Call_ (ld_blt I hg hm PyProof.Rows.boot_range (PyProof.Rows.callWith_type1 ?_ hs rfl))
  rw [hs]
  show wpAny _ _ (spliced ((false, eval a X.env) :: backTo pos (starEach [] X.env))) _ _ s
  refine Calls.spliced_cons (thn (ha pins s σ H _ I h) fun u s1 q => Calls.spliced_nil ?_)
  obtain ⟨t1, x, H1, I1, r1, j, e, q1, q2, q⟩ := q
  cases e
  obtain ⟨t, rfl⟩ := r1
  exact wpAny_mono (PySem.wpAny_toks_of t1 (call_range_1 (range_it I1 (by omega) (by omega) q1 q2 (by simpa using q)))) (fun _ _ z => z) fun _ _ z => z.2
end
section
open PyProof.Rows
variable {X : Cx}
/-- x.split(sep), a token out -/
theorem pet_split {o e : Expr} {to te : TE} {apos pos : Pos} (ho : PET X o to) (he : PE X e te) (hs : starEach [e] X.env = [(false, eval e X.env)] := by rfl) (hbase : attributeBase o "split" X.env (eval o X.env) = eval o X.env := by rfl) (hline : (apos.endLine == pos.line) = true := by rfl) :
    PET X (.Call (.Attribute o "split" apos) [e] [] pos) (tM1 (fun x xs H Q => ∃ a b, x = .str a ∧ xs = [.str b] ∧ (b.length == 0) = false ∧ a.length + 2 ≤ sizeLine ∧ rNewStrs (Txt.split a b) H Q) to te) := by
  intro pins s σ H Q h0 I h
  refine PySem.Call_method1 hbase hs hline (thn (ho pins s σ H _ h0 I h) fun v s1 ⟨x, H1, I1, r1, q1⟩ => ?_)
  obtain ⟨⟨a, rfl⟩, q1⟩ := q1
  obtain ⟨t, rfl⟩ := _root_.id r1
  refine ⟨"str", _, F.plainAttrs_str, F.slot_str_split, F.type_str_split, typeIs_str _ _ _, (fun _ e => nomatch e), Calls.callWith_builtin rfl (Calls.evalArgs_plain (Calls.spliced_cons ?_))⟩
  exact thn (he.run pins s1 σ H1 _ I1 q1) fun u s2 ⟨y, H2, I2, r2, q2⟩ => Calls.spliced_nil (mt_split pins s2 σ H2 _ [y] _ [u] Q I2 r1 (.cons r2 .nil) q2)
/-- a, b = x, y with plain local names, a token out -/
theorem pst_par {i j : Nat} {x y : Str} {a b : Expr} {ta : TA} {px py pt : Pos} {pos : Pos} {kt k2 pt2} (hc : X.calm = true) (hN : X.N.Nodup) (hi : X.N[i]? = some x) (hj : X.N[j]? = some y) (hij : i ≠ j)
    (hx : X.env.scope.names.lookup x = some .local) (hy : X.env.scope.names.lookup y = some .local) (ha : PAT X [a, b] ta)
    (hw : swappedStores [.Tuple [.Name x px, .Name y py] kt pt] (.Tuple [a, b] k2 pt2) X.env = pure (some [x, y]))
    (hs : swapsWithSole [.Tuple [.Name x px, .Name y py] kt pt] (.Tuple [a, b] k2 pt2) pos.line X.env = pure false := by rfl) :
    PST X (.Assign [.Tuple [.Name x px, .Name y py] kt pt] (.Tuple [a, b] k2 pt2) pos) (tPar i j ta) := by
  intro pins s σ H D h0 I h
  rw [exec_Assign_arm]
  refine wpAny_bind (wpAny_standAt ?_)
  rw [hs]
  refine wpAny_bind (wpAny_pure ?_)
  rw [if_neg (by decide)]
  refine wpAny_bind (Tuple_ (thn (ha _ pins s σ H _ h0 I h) fun us s1 ⟨vs, H1, I1, r1, q1⟩ => ?_))
  obtain ⟨v, w, e1, q1⟩ := q1
  subst e1
  obtain ⟨u1, u2, rfl, rv, rw'⟩ : ∃ u1 u2, us = [u1, u2] ∧ RelV v u1 ∧ RelV w u2 := by
    cases r1 with
    | cons p q =>
      cases q with
      | cons p' q' =>
        cases q'
        exact ⟨_, _, rfl, p, p'⟩
  refine wpAny_newObj_type ?_ (by show 2 ≤ sizeLine; decide)
  have I2 : Inv X pins σ H1 { s1 with heap := s1.heap.push { cls := .type "tuple", data := .seq [u1, u2].toArray } } := I1.kept (t' := s1.toks) fun b o e => Heap.get?_push_of_some _ e
  rw [hw]
  refine wpAny_bind (wpAny_pure ?_)
  show wpAny (model X.prog X.w) X.A (do rule "assign.swapped-stores"; let items ← unpackItems (.ref s1.heap.objs.size) 2 none; assignInOrder [fun v => bindName X.env y v, fun v => bindName X.env x v] items.reverse; pure Flow.next) _ _ _
  refine wpAny_bind (wpAny_rule (wpAny_bind (unpackItems_tuple (items := #[u1, u2]) (I.ok.hd hc) (IsTup.new s1.heap _) fun h' hx' => ?_)))
  have I3 := I2.kept (h' := h') (t' := s1.toks) fun b o e => hx' b o (Nat.ne_of_lt (Heap.lt_size e)) e
  show wpAny _ _ (assignInOrder [fun v => bindName X.env y v, fun v => bindName X.env x v] [u2, u1] >>= fun _ => pure Flow.next) _ _ _
  refine wpAny_bind (assignInOrder_cons (wpAny_bindName (store_ok I3 hN hj (.inl hy) rw' (fun s2 I4 => ?_) (.inr hy))))
  refine assignInOrder_cons (wpAny_bindName (store_ok I4 hN hi (.inl hx) rv (fun s3 I5 => assignInOrder_nil (wpAny_pure ?_)) (.inr hx)))
  rw [List.set_comm _ _ (Ne.symm hij)] at I5
  exact ⟨_, H1, I5, q1⟩
end
/-! ### tests in that mode -/
section
open PyProof.Rows (isTrue_plain isTrue_not)
variable {X : Cx} {e c : Expr} {te : TE} {tc : TT} {A B : List Stmt} {t u : TS} {pos : Pos}
def PTT (X : Cx) (e : Expr) (t : TT) : Prop :=
  ∀ (pins : List (Addr × Obj)) (s : Shared) (σ : St) (H : Hp) (Q : Bool → Hp → Prop), 1 ≤ s.toks → Inv X pins σ H s → t σ H Q → wpAny (model X.prog X.w) X.A (isTrue e X.env (eval e X.env)) (TP X pins σ Q) X.xe s
theorem PTT.of (h : PT X c tc) : PTT X c tc := fun pins s σ H Q _ I q => h.run pins s σ H Q I q
theorem ptt_val (h : PET X e te) (he : ∀ whole, isTrue e X.env whole = (do let v ← whole; standAt e.pos; holding [v] (truthy v)) := by intro _; rfl) : PTT X e (tB te) := by
  intro pins s σ H Q h0 I hw
  refine isTrue_plain (thn (h pins s σ H _ h0 I hw) fun v s1 ⟨x, H1, I1, r1, q1⟩ => ?_) (he _)
  obtain ⟨d, rfl, q⟩ := q1
  cases r1
  exact wpAny_truthy_bool ⟨H1, I1, q⟩
theorem ptt_not (ha : PTT X c tc) : PTT X (.UnaryOp .Not c pos) (tNot tc) := by
  intro pins s σ H Q h0 I h
  exact isTrue_not (ha pins s σ H (fun c H1 => Q (!c) H1) h0 I h)
theorem pst_ifT (hc : PTT X c tc) (ha : PSsT X A t) (hb : PSsT X B u) : PST X (.If c A B pos) (tIfS tc t u) := by
  intro pins s σ H D h0 I h
  refine wpAny_If (wpAny_mono (PySem.wpAny_toks_of h0 (hc pins s σ H _ h0 I h)) (fun d s1 q => ?_) fun _ _ z => z.2)
  obtain ⟨hk, H1, I1, q1⟩ := q
  cases d with
  | true => exact ha pins s1 σ H1 D hk I1 q1
  | false => exact hb pins s1 σ H1 D hk I1 q1
end
/-! ### comparisons and `and` in that mode; statements that put a token out -/
section
variable {X : Cx} {a b e f : Expr} {ta tb te : TE} {rest : List Expr} {st : Stmt} {sts : List Stmt} {t u : TS} {pos : Pos}
theorem pet_cmpR {op : CmpOp} {r : R2} (ho : OpR X (compareOp op) r) (ha : PET X a ta) (hb : PET X b tb) (hm : behindInMarks op b = false) : PET X (.Compare a [op] [b] pos) (tOp r ta tb) := by
  intro pins s σ H Q h0 I h
  refine wpAny_Compare1 (wpAny_mono (PySem.wpAny_toks_of h0 (ha pins s σ H _ h0 I h)) (fun v s1 q => ?_) fun _ _ z => z.2) hm
  obtain ⟨h1, x, H1, I1, r1, q1⟩ := q
  exact thn (hb pins s1 σ H1 _ h1 I1 q1) fun u s2 ⟨y, H2, I2, r2, q2⟩ => ho pins s2 σ H2 x y v u Q I2 r1 r2 q2
theorem pet_one {op : BoolOp} (h : PET X a ta) : PET X (.BoolOp op [a] pos) ta := fun pins s σ H Q h0 I hw => PyProof.Rows.BoolOp_one (h pins s σ H Q h0 I hw)
theorem pet_and (ha : PET X a ta) (hb : PET X (.BoolOp .And (b :: rest) pos) tb) : PET X (.BoolOp .And (a :: b :: rest) pos) (tAndV ta tb) := by
  intro pins s σ H Q h0 I h
  refine PyProof.Rows.BoolOp_and (wpAny_mono (PySem.wpAny_toks_of h0 (ha pins s σ H _ h0 I h)) (fun v s1 q => ?_) fun _ _ z => z.2)
  obtain ⟨h1, x, H1, I1, r1, c, rfl, q1⟩ := q
  cases r1
  refine wpAny_truthy_bool ?_
  cases c with
  | true => exact hb pins s1 σ H1 Q h1 I1 q1
  | false => exact ⟨.bl false, H1, I1, rfl, q1⟩
/-- a test against a written number puts a token out -/
theorem ptc_cmpI {op : CmpOp} {r : R2} {x : Int} {j : Nat} {p : Pos} (ho : OpR X (compareOp op) r) (ha : PE X a ta) (hm : behindInMarks op (.Constant (.int x) j p) = false) : PTC X (.Compare a [op] [.Constant (.int x) j p] pos) (tTest (tOp r ta (tC (.int x)))) := by
  intro pins s σ H Q I h
  refine wpAny_isTrue_Compare1 (thn (ha.run pins s σ H _ I h) fun v s1 ⟨y, H1, I1, r1, q1⟩ => wpAny_Constant_int ?_) hm
  refine wpAny_mono (PySem.wpAny_toks_of (n := 1) (by show 1 ≤ s1.toks + 1; omega) (ho pins { s1 with toks := s1.toks + 1 } σ H1 y (.int x) v (.int x s1.toks) _ (I1.tok _) r1 ⟨_, rfl⟩ q1)) (fun c s3 q => ?_) fun _ _ z => z.2
  obtain ⟨hk, z, H3, I3, r3, k, e, q3⟩ := q
  subst e
  cases r3
  exact wpAny_truthy_bool ⟨hk, H3, I3, q3⟩
/-- a statement behind which a token is out -/
def PS1 (X : Cx) (st : Stmt) (t : TS) : Prop :=
  ∀ (pins : List (Addr × Obj)) (s : Shared) (σ : St) (H : Hp) (D : Ends), Inv X pins σ H s → t D σ H → wpAny (model X.prog X.w) X.A (exec st X.env) (fun fl s1 => 1 ≤ s1.toks ∧ SP X pins D fl s1) X.xe s
theorem pss_cons1 (h1 : PS1 X st t) (h2 : PSsT X sts u) : PSs X (st :: sts) (tSeq t u) := by
  refine ⟨fun pins s σ H D I h => ?_⟩
  refine wpAny_execs_cons (thn (h1 pins s σ H { D with nx := u D } I h) fun f s1 q => ?_)
  obtain ⟨hk, q⟩ := q
  cases f with
  | next =>
    obtain ⟨σ', H', I', q⟩ := q
    exact h2 pins s1 σ' H' D hk I' q
  | ret v => exact q
  | brk => exact q
  | cont => exact q
theorem ps1_set {i : Nat} {x : Str} {pos' : Pos} (hN : X.N.Nodup) (hi : X.N[i]? = some x) (hx : Loc X.env.scope x) (he : PE1 X e te) (hs : swapsWith e (some (.Name x pos')) pos.line X.env = pure false := by rfl) (hf : X.fn x = true ∨ X.env.scope.names.lookup x = some .local := by first | exact .inl rfl | exact .inr rfl | assumption) :
    PS1 X (.Assign [.Name x pos'] e pos) (tAsg te (gName i)) := by
  intro pins s σ H D I h
  refine wpAny_Assign_Name (thn (he pins s σ H _ I h) fun v s1 q => ?_) hs
  obtain ⟨h1, y, H1, I1, r1, q1⟩ := q
  refine wpAny_mono (PySem.wpAny_toks_of h1 (store_ok (Q := fun _ s2 => SP X pins D .next s2) I1 hN hi hx r1 (fun s2 I2 => ⟨_, H1, I2, q1⟩) hf)) (fun _ s2 q => ⟨q.1, q.2⟩) fun _ _ z => z.2
end
end Lx
/-! calls, classes made and methods of lists where a token is out -/
namespace Lx
open PySem PySem.Spec L2
section
variable {X : Cx} {CX : CXT} {k : Nat} {f C : Addr} {fd : FuncData} {ps : List Str} {sp : Sp} {dvs : List V} {ds : List Value} {E : XK} {x : Str} {p pos pos' : Pos} {e a b o : Expr} {es : List Expr} {t : TA} {te ta tb to : TE}
theorem pe1_opR {op : Operator} {r : R2} (ho : OpR X (binaryOp op) r) (ha : PE X a ta) (hb : PE1 X b tb) : PE1 X (.BinOp a op b pos) (tOp r ta tb) := by
  intro pins s σ H Q I h
  refine wpAny_BinOp (thn (ha.run pins s σ H _ I h) fun v s1 ⟨x, H1, I1, r1, q1⟩ => ?_)
  refine wpAny_mono (hb pins s1 σ H1 _ I1 q1) (fun u s2 q => ?_) fun _ _ z => z
  obtain ⟨t2, y, H2, I2, r2, q2⟩ := q
  exact wpAny_mono (PySem.wpAny_toks_of t2 (ho pins s2 σ H2 x y v u Q I2 r1 r2 q2)) (fun _ _ z => z) fun _ _ z => z.2
/-- two arguments, the second puts a token out -/
theorem pa1_snd (ha : PE X a ta) (hb : PE1 X b tb) (hs : starEach [a, b] X.env = (false, eval a X.env) :: starEach [b] X.env := by rfl) (hs2 : starEach [b] X.env = (false, eval b X.env) :: starEach [] X.env := by rfl) : PA1 X [a, b] (tCons ta (tCons tb tNil)) := by
  intro pos pins s σ H Q I h
  rw [hs]
  show wpAny _ _ (spliced ((false, eval a X.env) :: backTo pos (starEach [b] X.env))) _ _ s
  refine Calls.spliced_cons (thn (ha.run pins s σ H _ I h) fun u s1 ⟨x, H1, I1, r1, q1⟩ => ?_)
  rw [hs2]
  show wpAny _ _ (spliced ((false, eval b X.env) :: backTo pos (starEach [] X.env))) _ _ s1
  refine Calls.spliced_cons (wpAny_mono (hb pins s1 σ H1 _ I1 q1) (fun u2 s2 q => ?_) fun _ _ z => z)
  obtain ⟨t2, y, H2, I2, r2, q2⟩ := q
  exact Calls.spliced_nil ⟨t2, [x, y], H2, I2, .cons r1 (.cons r2 .nil), q2⟩
/-- f(e, ..) whose arguments put a token out -/
theorem pe1_call (F : FnOk X.prog X.w X.K X.mg X.base CX k f fd ps sp) (hr : Room k X.A) (hg : Gl X x) (hm : X.mg x = some (.ref f)) (hk : PySem.W.keepIn X.K (.ref f) = true) (hb : Binds X.K fd ps ds) (hd : Vals dvs ds) (hx : Passes CX X E)
    (ha : PA1 X (e :: es) t) (hdb : (x == ("__debug__" : Str)) = false := by decide) (he : starEach (e :: es) X.env = (false, eval e X.env) :: starEach es X.env := by rfl) (hpl : (backTo pos (starEach es X.env)).any (·.1) = false := by rfl) :
    PE1 X (.Call (.Name x p) (e :: es) [] pos) (tCall sp dvs E t) := by
  intro pins s σ H Q I h
  refine wpAny_Call_Name_kw (ld_glob I hg hm ?_ hdb)
  refine PySem.W.callWith_K (h₀ := X.base) I.ok.mod.kin hk (wpAny_mono (ha pos pins s σ H _ I h) (fun us s1 q => ?_) fun _ _ z => z) he hpl
  obtain ⟨h1, vs, H1, I1, r, q⟩ := q
  refine ⟨I1.kIn, ?_⟩
  exact wpAny_mono (PySem.wpAny_toks_of h1 (run_fn F hr hb hd hx I1 r q)) (fun _ _ z => z) fun _ _ z => z.2
theorem pst_expr (he : PET X e te) (hs : swapsWith e none pos.line X.env = pure false := by rfl) : PST X (.Expr e pos) (tDrop te) := by
  intro pins s σ H D h0 I h
  exact wpAny_Expr_any (thn (he pins s σ H _ h0 I h) fun v s1 ⟨x, H1, I1, r1, q1⟩ => ⟨σ, H1, I1, q1⟩) I.quiet hs
/-- C(e, ..), a token out -/
theorem pet_make (M : Mk X.K C f) (F : FnOk X.prog X.w X.K X.mg X.base CX k f fd ps sp) (hr : Room (k + 1) X.A) (hg : Gl X x) (hm : X.mg x = some (.ref C)) (hb : Binds X.K fd ps ds) (hd : Vals dvs ds) (hx : Passes CX X E)
    (ha : PAT X (e :: es) t) (hdb : (x == ("__debug__" : Str)) = false := by decide) (he : starEach (e :: es) X.env = (false, eval e X.env) :: starEach es X.env := by rfl) (hpl : (backTo pos (starEach es X.env)).any (·.1) = false := by rfl) :
    PET X (.Call (.Name x p) (e :: es) [] pos) (tMake C sp dvs E t) := by
  intro pins s σ H Q h0 I h
  refine wpAny_Call_Name_kw (ld_glob I hg hm ?_ hdb)
  refine PySem.W.callWith_K (h₀ := X.base) I.ok.mod.kin M.kp (thn (ha pos pins s σ H _ h0 I h) fun us s1 ⟨vs, H1, I1, r, q⟩ => ⟨I1.kIn, ?_⟩) he hpl
  exact run_make M F hr hb hd hx I1 r q
/-- o.m(e, ..), o a list, a token out -/
theorem pet_bm {name : Str} {apos cpos : Pos} {T id : String} {r : V → List V → Hp → VK → Prop} (pa : PlainAttrs T) (slot : Slot T name id) (hty : typeOf (.builtin id) = pure (.type "method_descriptor")) (hm : MtR X id r) (ho : PE X o to) (ha : PAT X (e :: es) t)
    (hbase : attributeBase o name X.env (eval o X.env) = eval o X.env := by rfl)
    (hfew : ((backTo cpos (starEach (e :: es) X.env)).all (fun x => !x.1) && (backToKw cpos (keywordEach [] X.env)).all (fun x => x.1.isSome)
      && decide ((e :: es).length + ([] : List Keyword).length + (if ([] : List Keyword).isEmpty then 0 else 1) < 30)) = true := by rfl)
    (hline : (apos.endLine == cpos.line) = true := by rfl) (hs : starEach (e :: es) X.env = (false, eval e X.env) :: starEach es X.env := by rfl) (hplain : (backTo cpos (starEach es X.env)).any (·.1) = false := by rfl) :
    PET X (.Call (.Attribute o name apos) (e :: es) [] cpos) (tBM X.K T r to t) := by
  intro pins s σ H Q h0 I h
  refine wpAny_Call_method_late hbase hfew hline rfl (wpAny_mono (PySem.wpAny_toks_of h0 (ho.run pins s σ H _ I h)) (fun v s1 q => ?_) fun _ _ z => z.2)
  obtain ⟨t1, x, H1, I1, r1, ty, q1⟩ := q
  obtain ⟨h1, h2⟩ := tyV_is I1 r1 ty
  refine ⟨T, id, pa, slot, hty, h1, h2, ?_⟩
  have hA := ha cpos pins s1 σ H1 _ t1 I1 q1
  rw [hs] at hA ⊢
  refine Calls.callWith_builtin (by show (false || (backTo cpos (starEach es X.env)).any (·.1)) = false; rw [hplain] <;> rfl) (Calls.evalArgs_plain ?_)
  exact thn hA fun us s2 ⟨vs, H2, I2, r2, q2⟩ => hm pins s2 σ H2 x vs v us Q I2 r1 r2 q2
end
end Lx
namespace Lw
open PySem PySem.Spec L2 Lx
theorem scSigns : FnScope ["j", "wanted"] ["j", "wanted"] (defScope sSigns) := ⟨rfl, rfl, rfl, by decide +kernel, rfl, by decide +kernel, by decide +kernel⟩
theorem scUog : FnScope ["j", "wanted"] ["j", "wanted"] (defScope sUog) := ⟨rfl, rfl, rfl, by decide +kernel, rfl, by decide +kernel, by decide +kernel⟩
def spUog (K : PySem.W.Frag) : Sp := fun vs H Q _ => ∃ j x f, vs = [.int j, x] ∧ FmAt K H x f ∧ Q (.int (f.after j + 1)) H
def spSigns (K : PySem.W.Frag) : Sp := fun vs H Q _ => ∃ j x f, vs = [.int j, x] ∧ FmAt K H x f ∧ Q (.int (f.after j)) H
section
variable {P : Program} {w : World} {K : PySem.W.Frag} {mg : Str → Option Value} {base : Heap} {aL aN aS : Addr}
theorem ok_signs {f : Addr} {fd : FuncData} {k : Nat} (F : Fun K "signs_after" "signs_after" sSigns f fd) (mX : mg "max" = none) : FnOk P w K mg base CX0 (k + 1) f fd ["j", "wanted"] (spSigns K) := by
  refine F.ok scSigns (fun vs H Q E h => ?_) (fun cdv A outer s H vs Q E hr h => ?_)
  · obtain ⟨j, x, f, rfl, _⟩ := h
    rfl
  · obtain ⟨j, _, f, rfl, ⟨p, rfl, hT⟩, q⟩ := h
    refine ⟨_, pss_one (ps_ret (pe_op op_add (pe_callB (call_max2 rfl) (by rfl) mX (by decide +kernel) (pa_cons pe_int (pa_cons (pe_op op_sub (pv 0) (pe_ix ix_tup (pv 1) pe_int (fun _ _ => rfl))) pa_nil))) (pe_ix ix_tup (pv 1) pe_int (fun _ _ => rfl)))), ?_⟩
    refine ⟨_, rfl, _, rfl, p, _, 1, _, rfl, rfl, hT, atI_nat (j := 1) f.vs1, _, _, rfl, rfl, _, _, rfl, _, rfl, p, _, 2, _, rfl, rfl, hT, atI_nat (j := 2) f.vs2, _, _, rfl, rfl, q⟩
theorem ok_uog {f fS : Addr} {fd fdS : FuncData} {k : Nat} (F : Fun K "units_of_group" "units_of_group" sUog f fd) (GS : FnOk P w K mg base CX0 k fS fdS ["j", "wanted"] (spSigns K)) (kS : PySem.W.keepIn K (.ref fS) = true) (bS : Binds K fdS ["j", "wanted"] []) (gS : mg "signs_after" = some (.ref fS)) :
    FnOk P w K mg base CX0 (k + 1) f fd ["j", "wanted"] (spUog K) := by
  refine F.ok scUog (fun vs H Q E h => ?_) (fun cdv A outer s H vs Q E hr h => ?_)
  · obtain ⟨j, x, f, rfl, _⟩ := h
    rfl
  · obtain ⟨j, x, f, rfl, hx, q⟩ := h
    refine ⟨_, pss_one (ps_ret (pe_op op_add (pe_call GS hr (by rfl) gS kS bS .nil pass0 (pa_cons (pv 0) (pa_cons (pv 1) pa_nil))) pe_int)), ?_⟩
    exact ⟨_, rfl, _, rfl, j, x, f, rfl, hx, _, _, rfl, rfl, q⟩
end
end Lw
namespace Lw
open PySem PySem.Spec L2 Lx
theorem scAftKeep : FnScope ["first", "second", "_", "b", "a", "more_b", "b_of_both", "a_of_both"] ["first", "second"] (defScope sAftKeep) := ⟨rfl, rfl, rfl, by decide +kernel, rfl, by decide +kernel, by decide +kernel⟩
theorem scBefKeep : FnScope ["first", "second"] ["first", "second"] (defScope sBefKeep) := ⟨rfl, rfl, rfl, by decide +kernel, rfl, by decide +kernel, by decide +kernel⟩
theorem scOne : FnScope ["first", "second"] ["first", "second"] (defScope sOne) := ⟨rfl, rfl, rfl, by decide +kernel, rfl, by decide +kernel, by decide +kernel⟩
def spAftKeep (K : PySem.W.Frag) : Sp := fun vs H Q _ => ∃ x y b a g, vs = [x, y] ∧ FmAt K H x (.keep b a) ∧ FmAt K H y g ∧ ∀ v H', Same H H' → FmAt K H' v ((Fm.keep b a).both g) → Q v H'
def spBefKeep (K : PySem.W.Frag) : Sp := fun vs H Q _ => ∃ x y f b a, vs = [x, y] ∧ FmAt K H x f ∧ Fm.isKeep f = false ∧ FmAt K H y (.keep b a) ∧ ∀ v H', Same H H' → FmAt K H' v (f.both (.keep b a)) → Q v H'
def spOne (K : PySem.W.Frag) : Sp := fun vs H Q _ => ∃ x y f g, vs = [x, y] ∧ FmAt K H x f ∧ Fm.isKeep f = false ∧ FmAt K H y g ∧ Q (.int (Fm.one f g)) H
section
variable {P : Program} {w : World} {K : PySem.W.Frag} {mg : Str → Option Value} {base : Heap} {aL aN aS : Addr}
theorem ok_one {f fS : Addr} {fd fdS : FuncData} {k : Nat} (F : Fun K "units_of_one" "units_of_one" sOne f fd) (GS : FnOk P w K mg base CX0 k fS fdS ["j", "wanted"] (spUog K)) (kS : PySem.W.keepIn K (.ref fS) = true) (bS : Binds K fdS ["j", "wanted"] []) (gS : mg "units_of_group" = some (.ref fS)) :
    FnOk P w K mg base CX0 (k + 1) f fd ["first", "second"] (spOne K) := by
  refine F.ok scOne (fun vs H Q E h => ?_) (fun cdv A outer s H vs Q E hr h => ?_)
  · obtain ⟨x, y, f, g, rfl, _⟩ := h
    rfl
  · obtain ⟨_, y, f, g, rfl, ⟨p, rfl, hT⟩, hk, hy, q⟩ := h
    refine ⟨_, pss_cons (ps_if (pt_cmpR op_eq (pe_ix ix_tup (pv 0) pe_int (fun _ _ => rfl)) pe_str (nomark _)) (pss_one (ps_ret pe_int)) pss_nil)
      (pss_one (ps_ret (pe_call GS hr (by rfl) gS kS bS .nil pass0 (pa_cons (pe_ix ix_tup (pv 0) pe_int (fun _ _ => rfl)) (pa_cons (pv 1) pa_nil))))), ?_⟩
    refine ⟨_, rfl, p, _, 0, _, rfl, rfl, hT, atI_nat (j := 0) f.vs0, rfl, _, rfl, ?_⟩
    cases f with
    | keep b a => cases hk
    | lf b a k c => exact iteF ⟨_, rfl, p, _, 4, _, rfl, rfl, hT, atI_nat (j := 4) rfl, _, rfl, _, _, _, rfl, hy, q⟩
    | cr b a k => exact iteT q
theorem ok_aftKeep {f : Addr} {fd : FuncData} {k : Nat} (F : Fun K "after_keep" "after_keep" sAftKeep f fd) (mX : mg "max" = none) : FnOk P w K mg base CX0 (k + 1) f fd ["first", "second"] (spAftKeep K) := by
  refine F.ok scAftKeep (fun vs H Q E h => ?_) (fun cdv A outer s H vs Q E hr h => ?_)
  · obtain ⟨x, y, b, a, g, rfl, _⟩ := h
    rfl
  · obtain ⟨_, _, b, a, g, rfl, ⟨p, rfl, hT⟩, ⟨r, rfl, hG⟩, q⟩ := h
    refine ⟨_, pss_cons (ps_asg (pv 0) (pg_tup (by rfl) (pgs_cons (pg_name (i := 2) scAftKeep.nd rfl (.inl rfl)) (pgs_cons (pg_name (i := 3) scAftKeep.nd rfl (.inl rfl)) (pgs_cons (pg_name (i := 4) scAftKeep.nd rfl (.inl rfl)) pgs_nil)))))
      (pss_cons (ps_set (i := 5) scAftKeep.nd rfl (.inl rfl) (pe_ix ix_tup (pv 1) pe_int (fun _ _ => rfl)))
      (pss_cons (ps_set (i := 6) scAftKeep.nd rfl (.inl rfl) (pe_op op_add (pv 3) (pe_callB (call_max2 rfl) (by rfl) mX (by decide +kernel) (pa_cons pe_int (pa_cons (pe_op op_sub (pv 5) (pv 4)) pa_nil)))))
      (pss_cons (ps_set (i := 7) scAftKeep.nd rfl (.inl rfl) (pe_op op_add (pe_callB (call_max2 rfl) (by rfl) mX (by decide +kernel) (pa_cons pe_int (pa_cons (pe_op op_sub (pv 4) (pv 5)) pa_nil))) (pe_ix ix_tup (pv 1) pe_int (fun _ _ => rfl))))
      (pss_one (ps_ret (pe_op op_catA (pe_tup (pa_cons (pe_ix ix_tup (pv 1) pe_int (fun _ _ => rfl)) (pa_cons (pv 6) (pa_cons (pv 7) pa_nil)))) (pe_slice sl_tup (pv 1) (po_some pe_int) po_none))))))), ?_⟩
    refine ⟨_, rfl, p, _, rfl, hT, rfl, _, _, rfl, _, _, rfl, _, _, rfl, rfl, ?_⟩
    refine ⟨_, rfl, r, _, 1, _, rfl, rfl, hG, atI_nat (j := 1) g.vs1, ?_⟩
    refine ⟨_, rfl, _, rfl, _, rfl, _, _, rfl, rfl, _, _, rfl, _, _, rfl, rfl, ?_⟩
    refine ⟨_, rfl, _, rfl, _, _, rfl, rfl, _, _, rfl, _, rfl, r, _, 2, _, rfl, rfl, hG, atI_nat (j := 2) g.vs2, _, _, rfl, rfl, ?_⟩
    refine ⟨_, rfl, r, _, 0, _, rfl, rfl, hG, atI_nat (j := 0) g.vs0, _, rfl, _, rfl, by show 3 ≤ sizeLine; decide, fun t nt => ?_⟩
    have s1 : Same H (upd H t (.tup [.str g.nm, .int (b + (if g.b - a > 0 then g.b - a else 0)), .int ((if a - g.b > 0 then a - g.b else 0) + g.a)])) := same_upd nt
    have ht1 : upd H t (.tup [.str g.nm, .int (b + (if g.b - a > 0 then g.b - a else 0)), .int ((if a - g.b > 0 then a - g.b else 0) + g.a)]) t = some (.tup [.str g.nm, .int (b + (if g.b - a > 0 then g.b - a else 0)), .int ((if a - g.b > 0 then a - g.b else 0) + g.a)]) := upd_same
    show tSl _ _ _ _ _ (upd H t (.tup [.str g.nm, .int (b + (if g.b - a > 0 then g.b - a else 0)), .int ((if a - g.b > 0 then a - g.b else 0) + g.a)])) _
    generalize upd H t (.tup [.str g.nm, .int (b + (if g.b - a > 0 then g.b - a else 0)), .int ((if a - g.b > 0 then a - g.b else 0) + g.a)]) = H1 at s1 ht1
    refine ⟨_, rfl, 3, rfl, r, g.vs, rfl, sameT s1 hG, wh3 g, fun p2 n2 => ?_⟩
    have s2 := s1.trans (same_upd (o := .tup (cutV g.vs (some 3) none)) n2)
    have ht2 : SqT K (upd H1 p2 (.tup (cutV g.vs (some 3) none))) t [.str g.nm, .int (b + (if g.b - a > 0 then g.b - a else 0)), .int ((if a - g.b > 0 then a - g.b else 0) + g.a)] := .inl (.inl (by rw [upd_ne (ne_of_none ht1 n2)]; exact ht1))
    have hp2 : SqT K (upd H1 p2 (.tup (cutV g.vs (some 3) none))) p2 (cutV g.vs (some 3) none) := .inl (.inl upd_same)
    generalize upd H1 p2 (.tup (cutV g.vs (some 3) none)) = H2 at s2 ht2 hp2
    refine ⟨t, p2, _, _, rfl, rfl, ht2, hp2, by show 3 + _ ≤ sizeLine; have := cutV_length g.vs (some 3) none; have h5 : g.vs.length ≤ 5 := vs_len g; rw [sizeLine_eq]; omega, fun z => by (exact nomatch z), fun _ hy => ?_, fun _ hy p3 n3 => ?_⟩
    · cases g with
      | keep b' a' => exact q _ _ s2 ⟨t, rfl, ht2⟩
      | lf b' a' k' c' => exact nomatch hy
      | cr b' a' k' => exact nomatch hy
    · cases g with
      | keep b' a' => exact absurd rfl hy
      | lf b' a' k' c' => exact q _ _ (s2.trans (same_upd n3)) ⟨p3, rfl, .inl (.inl upd_same)⟩
      | cr b' a' k' => exact q _ _ (s2.trans (same_upd n3)) ⟨p3, rfl, .inl (.inl upd_same)⟩
theorem ok_befKeep {f fS : Addr} {fd fdS : FuncData} {k : Nat} (F : Fun K "before_keep" "before_keep" sBefKeep f fd) (GS : FnOk P w K mg base CX0 k fS fdS ["j", "wanted"] (spSigns K)) (kS : PySem.W.keepIn K (.ref fS) = true) (bS : Binds K fdS ["j", "wanted"] []) (gS : mg "signs_after" = some (.ref fS)) :
    FnOk P w K mg base CX0 (k + 1) f fd ["first", "second"] (spBefKeep K) := by
  refine F.ok scBefKeep (fun vs H Q E h => ?_) (fun cdv A outer s H vs Q E hr h => ?_)
  · obtain ⟨x, y, f, b, a, rfl, _⟩ := h
    rfl
  · obtain ⟨_, y, f, b, a, rfl, ⟨p, rfl, hT⟩, hk, hy, q⟩ := h
    refine ⟨_, pss_cons (ps_if (pt_cmpR op_eq (pe_ix ix_tup (pv 0) pe_int (fun _ _ => rfl)) pe_str (nomark _)) (pss_one (ps_ret (pv 0))) pss_nil)
      (pss_one (ps_ret (pe_op op_catA (pe_slice sl_tup (pv 0) po_none (po_some pe_int)) (pe_tup (pa_cons (pe_call GS hr (by rfl) gS kS bS .nil pass0 (pa_cons (pe_ix ix_tup (pv 0) pe_int (fun _ _ => rfl)) (pa_cons (pv 1) pa_nil))) pa_nil))))), ?_⟩
    refine ⟨_, rfl, p, _, 0, _, rfl, rfl, hT, atI_nat (j := 0) f.vs0, rfl, _, rfl, ?_⟩
    cases f with
    | keep b a => cases hk
    | lf b' a' k' c =>
      refine iteF ⟨_, rfl, 4, rfl, p, _, rfl, hT, (show ¬ (HT.sIx 5 0 none = 0 ∧ HT.sIx 5 5 (some 4) = 5) by decide), fun p2 n2 => ?_⟩
      have s1 : Same H (upd H p2 (.tup [.str "lf", .int b', .int a', .int k'])) := same_upd n2
      have hp2 : upd H p2 (.tup [.str "lf", .int b', .int a', .int k']) p2 = some (.tup [.str "lf", .int b', .int a', .int k']) := upd_same
      refine ⟨_, rfl, p, _, 4, _, rfl, rfl, sameT s1 hT, atI_nat (j := 4) rfl, _, rfl, _, _, _, rfl, hy.same s1, by show 1 ≤ sizeLine; decide, fun p3 n3 => ?_⟩
      have s2 := s1.trans (same_upd (o := .tup [.int ((Fm.keep b a).after c)]) n3)
      refine ⟨p2, p3, [.str "lf", .int b', .int a', .int k'], [.int ((Fm.keep b a).after c)], rfl, rfl, .inl (.inl (by rw [upd_ne (ne_of_none hp2 n3)]; exact hp2)), .inl (.inl upd_same), by show 5 ≤ sizeLine; decide, (fun z => by cases z), (fun _ z => by cases z), fun _ _ p4 n4 => ?_⟩
      exact q _ _ (s2.trans (same_upd n4)) ⟨p4, rfl, .inl (.inl upd_same)⟩
    | cr b' a' k' => exact iteT ⟨_, rfl, q _ _ (Same.refl H) ⟨p, rfl, hT⟩⟩
end
end Lw
namespace Lw
open PySem PySem.Spec L2 Lx
theorem scBoth : FnScope ["first", "second", "k"] ["first", "second"] (defScope sBoth) := ⟨rfl, rfl, rfl, by decide +kernel, rfl, by decide +kernel, by decide +kernel⟩
def spBoth (K : PySem.W.Frag) : Sp := fun vs H Q _ => ∃ x y f g n, vs = [x, y] ∧ FmAt K H x f ∧ FmAt K H y g ∧ f.Ok n ∧ g.Ok n ∧ n ≤ 100000 ∧ ∀ v H', Same H H' → FmAt K H' v (f.both g) → Q v H'
section
variable {P : Program} {w : World} {K : PySem.W.Frag} {mg : Str → Option Value} {base : Heap} {aL aN aS : Addr}
theorem ok_both {f fA fB fO : Addr} {fd fdA fdB fdO : FuncData} {k : Nat} (F : Fun K "form_of_both" "form_of_both" sBoth f fd)
    (GA : FnOk P w K mg base CX0 k fA fdA ["first", "second"] (spAftKeep K)) (kA : PySem.W.keepIn K (.ref fA) = true) (bA : Binds K fdA ["first", "second"] []) (gA : mg "after_keep" = some (.ref fA))
    (GB : FnOk P w K mg base CX0 k fB fdB ["first", "second"] (spBefKeep K)) (kB : PySem.W.keepIn K (.ref fB) = true) (bB : Binds K fdB ["first", "second"] []) (gB : mg "before_keep" = some (.ref fB))
    (GO : FnOk P w K mg base CX0 k fO fdO ["first", "second"] (spOne K)) (kO : PySem.W.keepIn K (.ref fO) = true) (bO : Binds K fdO ["first", "second"] []) (gO : mg "units_of_one" = some (.ref fO)) :
    FnOk P w K mg base CX0 (k + 1) f fd ["first", "second"] (spBoth K) := by
  refine F.ok scBoth (fun vs H Q E h => ?_) (fun cdv A outer s H vs Q E hr h => ?_)
  · obtain ⟨x, y, f, g, n, rfl, _⟩ := h
    rfl
  · obtain ⟨_, _, f, g, n, rfl, ⟨p, rfl, hT⟩, ⟨r, rfl, hG⟩, of, og, hn, q⟩ := h
    refine ⟨_, pss_cons (ps_if (pt_cmpR op_eq (pe_ix ix_tup (pv 0) pe_int (fun _ _ => rfl)) pe_str (nomark _)) (pss_one (ps_ret (pe_call GA hr (by rfl) gA kA bA .nil pass0 (pa_cons (pv 0) (pa_cons (pv 1) pa_nil))))) pss_nil)
      (pss_cons (ps_if (pt_cmpR op_eq (pe_ix ix_tup (pv 1) pe_int (fun _ _ => rfl)) pe_str (nomark _)) (pss_one (ps_ret (pe_call GB hr (by rfl) gB kB bB .nil pass0 (pa_cons (pv 0) (pa_cons (pv 1) pa_nil))))) pss_nil)
      (pss_cons (ps_set (i := 2) scBoth.nd rfl (.inl rfl) (pe_op op_mulW (pe_op op_mulW (pe_ix ix_tup (pv 0) pe_int (fun _ _ => rfl)) (pe_call GO hr (by rfl) gO kO bO .nil pass0 (pa_cons (pv 0) (pa_cons (pv 1) pa_nil)))) (pe_ix ix_tup (pv 1) pe_int (fun _ _ => rfl))))
      (pss_one (ps_ret (pe_op op_catA (pe_tup (pa_cons (pe_ix ix_tup (pv 1) pe_int (fun _ _ => rfl)) (pa_cons (pe_ix ix_tup (pv 0) pe_int (fun _ _ => rfl)) (pa_cons (pe_ix ix_tup (pv 0) pe_int (fun _ _ => rfl)) (pa_cons (pv 2) pa_nil))))) (pe_slice sl_tup (pv 1) (po_some pe_int) po_none)))))), ?_⟩
    refine ⟨_, rfl, p, _, 0, _, rfl, rfl, hT, atI_nat (j := 0) f.vs0, rfl, _, rfl, ?_⟩
    by_cases hf : Fm.isKeep f = true
    · cases f with
      | keep b a => exact iteT ⟨_, rfl, _, rfl, _, _, b, a, g, rfl, ⟨p, rfl, hT⟩, ⟨r, rfl, hG⟩, q⟩
      | _ => cases hf
    · have hf' : Fm.isKeep f = false := by simpa using hf
      have hnm : decide (V.str f.nm = V.str "keep") = false := by
        cases f with
        | keep b a => cases hf'
        | _ => rfl
      rw [hnm]
      refine iteF ⟨_, rfl, r, _, 0, _, rfl, rfl, hG, atI_nat (j := 0) g.vs0, rfl, _, rfl, ?_⟩
      by_cases hg : Fm.isKeep g = true
      · cases g with
        | keep b a => exact iteT ⟨_, rfl, _, rfl, _, _, f, b, a, rfl, ⟨p, rfl, hT⟩, hf', ⟨r, rfl, hG⟩, q⟩
        | _ => cases hg
      · have hg' : Fm.isKeep g = false := by simpa using hg
        have hnm : decide (V.str g.nm = V.str "keep") = false := by
          cases g with
          | keep b a => cases hg'
          | _ => rfl
        rw [hnm]
        obtain ⟨kf, ekf⟩ := nk_k hf'
        obtain ⟨kg, ekg⟩ := nk_k hg'
        refine iteF ⟨_, rfl, p, _, 3, _, rfl, rfl, hT, atI_nat (j := 3) ekf, _, rfl, _, rfl, _, _, f, g, rfl, ⟨p, rfl, hT⟩, hf', ⟨r, rfl, hG⟩, ?_⟩
        have b1 := one_ok hf' of og
        have bf := nk_ok hf' of ekf
        have bg := nk_ok hg' og ekg
        refine ⟨_, _, rfl, rfl, wide_mul bf.2 b1.2 (nk_pos hf' of) (by omega) (by omega), _, rfl, r, _, 3, _, rfl, rfl, hG, atI_nat (j := 3) ekg, _, _, rfl, rfl, wide_mul (bf.2.mul b1.2) bg.2 (by omega) (nk_pos hg' og) (by omega), ?_⟩
        refine ⟨_, rfl, r, _, 0, _, rfl, rfl, hG, atI_nat (j := 0) g.vs0, _, rfl, p, _, 1, _, rfl, rfl, hT, atI_nat (j := 1) f.vs1, _, rfl, p, _, 2, _, rfl, rfl, hT, atI_nat (j := 2) f.vs2, _, rfl, by show 4 ≤ sizeLine; decide, fun t nt => ?_⟩
        have s1 : Same H (upd H t (.tup [.str g.nm, .int f.b, .int f.a, .int (kf * Fm.one f g * kg)])) := same_upd nt
        have ht1 : upd H t (.tup [.str g.nm, .int f.b, .int f.a, .int (kf * Fm.one f g * kg)]) t = some (.tup [.str g.nm, .int f.b, .int f.a, .int (kf * Fm.one f g * kg)]) := upd_same
        show tSl _ _ _ _ _ (upd H t (.tup [.str g.nm, .int f.b, .int f.a, .int (kf * Fm.one f g * kg)])) _
        generalize upd H t (.tup [.str g.nm, .int f.b, .int f.a, .int (kf * Fm.one f g * kg)]) = H1 at s1 ht1
        refine ⟨_, rfl, 4, rfl, r, g.vs, rfl, sameT s1 hG, wh4 g, fun p2 n2 => ?_⟩
        have s2 := s1.trans (same_upd (o := .tup (cutV g.vs (some 4) none)) n2)
        have ht2 : SqT K (upd H1 p2 (.tup (cutV g.vs (some 4) none))) t [.str g.nm, .int f.b, .int f.a, .int (kf * Fm.one f g * kg)] := .inl (.inl (by rw [upd_ne (ne_of_none ht1 n2)]; exact ht1))
        have hp2 : SqT K (upd H1 p2 (.tup (cutV g.vs (some 4) none))) p2 (cutV g.vs (some 4) none) := .inl (.inl upd_same)
        generalize upd H1 p2 (.tup (cutV g.vs (some 4) none)) = H2 at s2 ht2 hp2
        refine ⟨t, p2, _, _, rfl, rfl, ht2, hp2, by show 4 + _ ≤ sizeLine; have := cutV_length g.vs (some 4) none; have h5 : g.vs.length ≤ 5 := vs_len g; rw [sizeLine_eq]; omega, (fun z => by cases z), fun _ hy => ?_, fun _ hy p3 n3 => ?_⟩
        · cases g with
          | keep b' a' => cases hg'
          | lf b' a' k' c' => exact nomatch hy
          | cr b' a' k' =>
            cases ekg
            cases f with
            | keep b a => cases hf'
            | lf b a k c => cases ekf; exact q _ _ s2 ⟨t, rfl, ht2⟩
            | cr b a k => cases ekf; exact q _ _ s2 ⟨t, rfl, ht2⟩
        · cases g with
          | keep b' a' => cases hg'
          | lf b' a' k' c' =>
            cases ekg
            cases f with
            | keep b a => cases hf'
            | lf b a k c => cases ekf; exact q _ _ (s2.trans (same_upd n3)) ⟨p3, rfl, .inl (.inl upd_same)⟩
            | cr b a k => cases ekf; exact q _ _ (s2.trans (same_upd n3)) ⟨p3, rfl, .inl (.inl upd_same)⟩
          | cr b' a' k' => exact absurd rfl hy
end
end Lw
namespace Lw
open PySem PySem.Spec L2 Lx
theorem scFoc : FnScope ["chain", "wanted", "letter"] ["chain"] (defScope sFoc) := ⟨rfl, rfl, rfl, by decide +kernel, rfl, by decide +kernel, by decide +kernel⟩
def spFoc (K : PySem.W.Frag) : Sp := fun vs H Q _ => ∃ x, vs = [.str x] ∧ ChOk x ∧ x.cps.size ≤ 7000 ∧ ∀ v H', Same H H' → FmAt K H' v (formOf x) → FLe x.cps.size (formOf x) → Q v H'
section
variable {P : Program} {w : World} {K : PySem.W.Frag} {mg : Str → Option Value} {base : Heap} {aL aN aS : Addr}
theorem ok_foc {f fB : Addr} {fd fdB : FuncData} {k : Nat} (F : Fun K "form_of_chain" "form_of_chain" sFoc f fd) (T : StepT K w mg aN aS)
    (GB : FnOk P w K mg base CX0 k fB fdB ["first", "second"] (spBoth K)) (kB : PySem.W.keepIn K (.ref fB) = true) (bB : Binds K fdB ["first", "second"] []) (gB : mg "form_of_both" = some (.ref fB)) :
    FnOk P w K mg base CX0 (k + 1) f fd ["chain"] (spFoc K) := by
  refine F.ok scFoc (fun vs H Q E h => ?_) (fun cdv A outer s H vs Q E hr h => ?_)
  · obtain ⟨x, rfl, _⟩ := h
    rfl
  · obtain ⟨x, rfl, hx, hsz, q⟩ := h
    refine ⟨_, pss_cons (ps_set (i := 1) scFoc.nd rfl (.inl rfl) (pe_glob (v := .ref aN) rfl T.gN rfl))
      (pss_cons (ps_for PassesOwn.never rfl (pi_str (pv 0)) (pg_name (i := 2) scFoc.nd rfl (.inl rfl))
        (pss_one (ps_set (i := 1) scFoc.nd rfl (.inl rfl) (pe_call GB hr (by rfl) gB kB bB .nil pass0 (pa_cons (pv 1) (pa_cons (pe_ix ix_kdict (pe_glob (v := .ref aS) rfl T.gS rfl) (pv 2) (fun _ _ => rfl)) pa_nil))))))
      (pss_one (ps_ret (pv 1)))), ?_⟩
    refine ⟨_, rfl, x, rfl, ?_⟩
    refine for_it walk_str (fun i σ H' => Same H H' ∧ ∃ v y2, σ = [some (.str x), some v, y2] ∧ FmAt K H' v (formL (x.cps.toList.take i)) ∧ FLe i (formL (x.cps.toList.take i)))
      ⟨Same.refl H, .ref aN, none, rfl, T.n H, ⟨by decide, by decide, by decide, by decide⟩⟩ (fun _ _ _ _ _ => trivial) ?_ ?_
    · rintro i u σ H1 H2 hi ⟨sm, v, y2, rfl, hv, hl⟩ ⟨rfl, c, hc, rfl⟩
      have hcm : c ∈ x.cps.toList := by rw [Array.mem_toList_iff]; exact Array.mem_of_getElem? hc
      obtain ⟨u, hd, hu⟩ := T.s c (hx c hcm)
      have hs : FLe (i + 1) (stepF c) := by
        have := FLe.step (L := i) (by omega) (hx c hcm) (f := nothing) ⟨by decide, by omega, by decide, by omega⟩
        rcases step_cases (hx c hcm) with e | e | e | e <;> rw [e] at this ⊢ <;> exact this
      have htk : x.cps.toList.take (i + 1) = x.cps.toList.take i ++ [c] := by
        rw [List.take_succ]
        have : x.cps.toList[i]? = some c := by rw [Array.getElem?_toList]; exact hc
        rw [this]
        rfl
      refine ⟨_, rfl, _, rfl, aS, _, u, rfl, rfl, hd, ?_⟩
      refine ⟨_, _, formL (x.cps.toList.take i), stepF c, 13 * (i + 1) + 1, rfl, hv, hu _, hl.ok.mono (by omega), hs.ok, by omega, fun v2 H3 s3 hv2 => ?_⟩
      refine ⟨sm.trans s3, v2, _, rfl, ?_, ?_⟩
      · rw [htk]
        unfold formL
        rw [List.foldl_append]
        exact hv2
      · rw [htk]
        unfold formL
        rw [List.foldl_append]
        exact hl.step (by omega) (hx c hcm)
    · rintro σ H1 ⟨sm, v, y2, rfl, hv, hl⟩
      have e : x.cps.toList.take x.cps.size = x.cps.toList := List.take_of_length_le (by simp)
      rw [e] at hv hl
      exact ⟨_, rfl, q _ _ sm hv hl⟩
end
end Lw
namespace Lw
open PySem PySem.Spec L2 Lx
theorem scLI : FnScope ["self", "text"] ["self", "text"] (defScope sLineFile___init__) := ⟨rfl, rfl, rfl, by decide +kernel, rfl, by decide +kernel, by decide +kernel⟩
theorem scLT : FnScope ["self"] ["self"] (defScope sLineFile_text) := ⟨rfl, rfl, rfl, by decide +kernel, rfl, by decide +kernel, by decide +kernel⟩
theorem scLC : FnScope ["self"] ["self"] (defScope sLineFile_chain) := ⟨rfl, rfl, rfl, by decide +kernel, rfl, by decide +kernel, by decide +kernel⟩
theorem scLF : FnScope ["self"] ["self"] (defScope sLineFile_form) := ⟨rfl, rfl, rfl, by decide +kernel, rfl, by decide +kernel, by decide +kernel⟩
theorem scLV : FnScope ["self", "chains", "chain", "letter"] ((["self"] : List Str) ++ (["chains"] : List Str)) (defScope sLineFile_convert) := ⟨rfl, rfl, rfl, by decide +kernel, rfl, by decide +kernel, by decide +kernel⟩
theorem scLU : FnScope ["self"] ["self"] (defScope sLineFile_undo) := ⟨rfl, rfl, rfl, by decide +kernel, rfl, by decide +kernel, by decide +kernel⟩
structure LTxt (K : PySem.W.Frag) (mg : Str → Option Value) (C : Addr) : Prop where
  cl : Cls K C
  nT : NoAttr K C "_text"
  nC : NoAttr K C "_chain"
  nE : NoAttr K C "_earlier"
  mgC : mg "LineFile" = some (.ref C)
/-- a file at p with its list at e: its first text, its steps -/
structure LfS (x z y : Str) (ts : List Str) : Prop where
  y : y.cps.toList = doneT x.cps.toList z.cps.toList
  len : ts.length = z.cps.size
  ts : ∀ i t, ts[i]? = some t → t.cps.toList = doneT x.cps.toList (z.cps.toList.take i)
def LfAt (C : Addr) (H : Hp) (p e : Addr) (x z : Str) : Prop := ∃ dx y ts, H p = some (.ins C dx [("_text", .str y), ("_chain", .str z), ("_earlier", .ref e)]) ∧ H e = some (.lst (ts.map V.str)) ∧ LfS x z y ts
theorem LfAt.same {C : Addr} {H H' : Hp} {p e : Addr} {x z : Str} (s : Same H H') : LfAt C H p e x z → LfAt C H' p e x z := fun ⟨dx, y, ts, h1, h2, h3⟩ => ⟨dx, y, ts, s _ _ h1, s _ _ h2, h3⟩
theorem LfAt.ne {C : Addr} {H : Hp} {p e : Addr} {x z : Str} : LfAt C H p e x z → p ≠ e := fun ⟨dx, y, ts, h1, h2, h3⟩ => ne_of h1 h2 (by intro z; cases z)
def spLInit (C : Addr) : Sp := fun vs H Q _ => ∃ (p dx : Addr) (x : Str), vs = [.ref p, .str x] ∧ H p = some (.ins C dx []) ∧ ∀ e H', H e = none → LfAt C H' p e x "" → Kd p H H' → Q .non H'
def spLText (C : Addr) : Sp := fun vs H Q _ => ∃ (p e : Addr) (x z : Str), vs = [.ref p] ∧ LfAt C H p e x z ∧ ∀ y : Str, y.cps.toList = doneT x.cps.toList z.cps.toList → Q (.str y) H
def spLChain (C : Addr) : Sp := fun vs H Q _ => ∃ (p e : Addr) (x z : Str), vs = [.ref p] ∧ LfAt C H p e x z ∧ Q (.str z) H
def spLForm (K : PySem.W.Frag) (C : Addr) : Sp := fun vs H Q _ => ∃ (p e : Addr) (x z : Str), vs = [.ref p] ∧ LfAt C H p e x z ∧ ChOk z ∧ z.cps.size ≤ 7000 ∧ ∀ v H', Same H H' → FmAt K H' v (formOf z) → Q v H'
def spLConv (C : Addr) : Sp := fun vs H Q _ => ∃ (p e T : Addr) (x z : Str) (cs : List Str), vs = [.ref p, .ref T] ∧ H T = some (.tup (cs.map V.str)) ∧ LfAt C H p e x z ∧ (cs.map (·.length)).sum ≤ 1000000 ∧ z.cps.size ≤ 1000000 ∧ ChOk (Txt.join "" cs) ∧ TB (doneT x.cps.toList z.cps.toList) (Txt.join "" cs).cps.toList ∧
  ∀ H', LfAt C H' p e x (z ++ Txt.join "" cs) → Kb p e H H' → Q .non H'
def spLUndo (C : Addr) : Sp := fun vs H Q _ => ∃ (p e : Addr) (x z : Str), vs = [.ref p] ∧ LfAt C H p e x z ∧ 0 < z.cps.size ∧ z.cps.size ≤ 1000000 ∧ ∀ (z' : Str) H', z'.cps.toList = z.cps.toList.dropLast → LfAt C H' p e x z' → Kb p e H H' → Q .non H'
theorem joinE_list (l : List Str) : (Txt.join "" l).cps.toList = l.flatMap fun x => x.cps.toList := by
  have jn : ∀ ps : List (List Nat), TL.joinL [] ps = ps.flatten := fun ps => by
    induction ps with
    | nil => rfl
    | cons a r ih =>
      cases r with
      | nil => show a = _; simp
      | cons b r =>
        show a ++ ([] ++ TL.joinL [] (b :: r)) = _
        rw [ih, List.nil_append]
        rfl
  rw [TL.join_eq]
  refine (TL.tl_join "" l).trans ?_
  show TL.joinL [] _ = _
  rw [jn, List.flatMap_def]
theorem cut_lastS (x : Str) : (cutS x none (some (-1))).cps.toList = x.cps.toList.dropLast := by
  unfold cutS
  have e : x.cps.toList.length = x.length := Array.length_toList ..
  have e1 : HT.sIx x.length 0 none = 0 := HT.sIx_none _ _
  have e2 : HT.sIx x.length x.length (some (-1)) = x.length - 1 := by
    unfold HT.sIx
    simp
    omega
  rw [e1, e2]
  simp
  rw [List.dropLast_eq_take, e]
theorem LfS.snoc {x z y : Str} {ts : List Str} (h : LfS x z y ts) (c : Nat) {y2 z2 : Str} (hz : z2.cps.toList = z.cps.toList ++ [c]) (hy : y2.cps.toList = stepT c y.cps.toList) : LfS x z2 y2 (ts ++ [y]) := by
  have zl : z.cps.toList.length = z.cps.size := Array.length_toList ..
  have z2l : z2.cps.size = z.cps.size + 1 := by rw [← Array.length_toList, hz, List.length_append, zl]; rfl
  refine ⟨by rw [hy, hz, doneT_snoc, h.y], by rw [List.length_append, h.len, z2l]; rfl, fun i t ht => ?_⟩
  rw [hz]
  by_cases hi : i < ts.length
  · rw [List.getElem?_append_left hi] at ht
    rw [h.ts i t ht, List.take_append_of_le_length (by rw [zl, ← h.len]; omega)]
  · have hi2 : i = ts.length := by
      have := (List.getElem?_eq_some_iff.mp ht).1
      rw [List.length_append, List.length_singleton] at this
      omega
    rw [hi2, List.getElem?_append_right (Nat.le_refl _), Nat.sub_self] at ht
    cases Option.some.inj ht
    rw [h.y, hi2, h.len, ← zl, List.take_left]
section
variable {P : Program} {w : World} {K : PySem.W.Frag} {mg : Str → Option Value} {base : Heap}
theorem ok_linit {f C : Addr} {fd : FuncData} {k : Nat} (F : Fun K "__init__" "LineFile.__init__" sLineFile___init__ f fd) (T : LTxt K mg C) : FnOk P w K mg base CX0 (k + 1) f fd ["self", "text"] (spLInit C) := by
  refine F.ok scLI (fun vs H Q E h => ?_) (fun cdv A outer s H vs Q E hr h => ?_)
  · obtain ⟨p, dx, x, rfl, _⟩ := h
    rfl
  · obtain ⟨p, dx, x, rfl, hp, q⟩ := h
    refine ⟨_, pss_cons (ps_fld (pv 0) (pv 1) rfl) (pss_cons (ps_fld (pv 0) pe_str rfl) (pss_one (ps_fld (pv 0) (pe_lst pa_nil) rfl))), ?_⟩
    refine ⟨_, rfl, _, rfl, p, C, dx, [], rfl, hp, T.cl, T.nT, by show 0 < 1000; decide, ?_⟩
    refine ⟨_, rfl, p, C, dx, _, rfl, upd_same, T.cl, T.nC, by show 1 < 1000; decide, ?_⟩
    refine ⟨Nat.zero_le _, fun e he => ?_⟩
    have pe : p ≠ e := ne_of_none upd_same he
    have he0 : H e = none := by
      rw [upd_ne (Ne.symm pe), upd_ne (Ne.symm pe)] at he
      exact he
    refine ⟨_, rfl, p, C, dx, _, rfl, by rw [upd_ne pe]; exact upd_same, T.cl, T.nE, by show 2 < 1000; decide, ?_⟩
    refine q e _ he0 ⟨dx, x, [], upd_same, by rw [upd_ne (Ne.symm pe), upd_same]; rfl, rfl, rfl, fun i t h => by simp at h⟩ fun b o hb eb => ?_
    rw [upd_ne hb, upd_ne (ne_of_none eb he0), upd_ne hb, upd_ne hb]
    exact eb
theorem ok_ltext {f C : Addr} {fd : FuncData} {k : Nat} (F : Fun K "text" "LineFile.text" sLineFile_text f fd) (T : LTxt K mg C) : FnOk P w K mg base CX0 (k + 1) f fd ["self"] (spLText C) := by
  refine F.ok scLT (fun vs H Q E h => ?_) (fun cdv A outer s H vs Q E hr h => ?_)
  · obtain ⟨p, e, x, z, rfl, _⟩ := h
    rfl
  · obtain ⟨p, e, x, z, rfl, ⟨dx, y, ts, h1, h2, h3⟩, q⟩ := h
    exact ⟨_, pss_one (ps_ret (pe_fld (pv 0) rfl)), _, rfl, p, C, dx, _, _, rfl, h1, T.cl, T.nT, rfl, q y h3.y⟩
theorem ok_lchain {f C : Addr} {fd : FuncData} {k : Nat} (F : Fun K "chain" "LineFile.chain" sLineFile_chain f fd) (T : LTxt K mg C) : FnOk P w K mg base CX0 (k + 1) f fd ["self"] (spLChain C) := by
  refine F.ok scLC (fun vs H Q E h => ?_) (fun cdv A outer s H vs Q E hr h => ?_)
  · obtain ⟨p, e, x, z, rfl, _⟩ := h
    rfl
  · obtain ⟨p, e, x, z, rfl, ⟨dx, y, ts, h1, h2, h3⟩, q⟩ := h
    exact ⟨_, pss_one (ps_ret (pe_fld (pv 0) rfl)), _, rfl, p, C, dx, _, _, rfl, h1, T.cl, T.nC, rfl, q⟩
theorem ok_lform {f C aO : Addr} {fd dO : FuncData} {k : Nat} (F : Fun K "form" "LineFile.form" sLineFile_form f fd) (T : LTxt K mg C)
    (cO : Cl P w K mg base k "form_of_chain" ["chain"] (spFoc K) aO dO) : FnOk P w K mg base CX0 (k + 1) f fd ["self"] (spLForm K C) := by
  refine F.ok scLF (fun vs H Q E h => ?_) (fun cdv A outer s H vs Q E hr h => ?_)
  · obtain ⟨p, e, x, z, rfl, _⟩ := h
    rfl
  · obtain ⟨p, e, x, z, rfl, ⟨dx, y, ts, h1, h2, h3⟩, hz, hzl, q⟩ := h
    refine ⟨_, pss_one (ps_ret (pe_call cO.G hr (by rfl) cO.g cO.kp cO.b .nil pass0 (pa_cons (pe_fld (pv 0) rfl) pa_nil))), ?_⟩
    exact ⟨_, rfl, p, C, dx, _, _, rfl, h1, T.cl, T.nC, rfl, z, rfl, hz, hzl, fun v H2 s2 hv _ => q v H2 s2 hv⟩
theorem ok_lundo {f C : Addr} {fd : FuncData} {k : Nat} (F : Fun K "undo" "LineFile.undo" sLineFile_undo f fd) (T : LTxt K mg C) : FnOk P w K mg base CX0 (k + 1) f fd ["self"] (spLUndo C) := by
  refine F.ok scLU (fun vs H Q E h => ?_) (fun cdv A outer s H vs Q E hr h => ?_)
  · obtain ⟨p, e, x, z, rfl, _⟩ := h
    rfl
  · obtain ⟨p, e, x, z, rfl, hL, hz0, hzl, q⟩ := h
    have npe := hL.ne
    obtain ⟨dx, y, ts, h1, h2, h3⟩ := hL
    refine ⟨_, pss_cons (ps_if (pt_not (pt_truth (pe_fld (pv 0) rfl) (fun _ => rfl))) (pss_one ps_never) pss_nil)
      (pss_cons (ps_fld (pv 0) (pe_bm0 PySem.F.plainAttrs_list PySem.F.slot_list_pop PySem.F.type_list_pop mt_pop (pe_fld (pv 0) rfl)) rfl)
      (pss_one (ps_fld (pv 0) (pe_slice sl_str (pe_fld (pv 0) rfl) po_none (po_some (pe_un un_neg pe_int))) rfl))), ?_⟩
    rcases snoc_or ts with rfl | ⟨ts', t, rfl⟩
    · have := h3.len
      simp at this
      omega
    have hne : (!((ts' ++ [t]).map V.str).isEmpty) = true := by simp
    refine ⟨_, rfl, p, C, dx, _, _, rfl, h1, T.cl, T.nE, rfl, true, .inl ⟨_, .inl (.inl h2), hne.symm⟩, iteF ?_⟩
    rw [List.map_append] at h2
    have zl : z.cps.toList.length = z.cps.size := Array.length_toList ..
    have tl : ts'.length + 1 = z.cps.size := by have := h3.len; rw [List.length_append] at this; exact this
    have hlast : (ts'.map V.str ++ [t].map V.str)[(ts'.map V.str ++ [t].map V.str).length - 1]? = some (.str t) := by
      rw [List.length_append, List.length_map, List.length_map, List.length_singleton, Nat.add_sub_cancel, List.getElem?_append_right (by rw [List.length_map]; exact Nat.le_refl _), List.length_map, Nat.sub_self]
      rfl
    have hdrop : (ts'.map V.str ++ [t].map V.str).dropLast = ts'.map V.str := List.dropLast_concat
    refine ⟨_, rfl, p, C, dx, _, _, rfl, h1, T.cl, T.nE, rfl, .inl ⟨rfl, _, .inl (.inl h2)⟩, e, _, _, rfl, rfl, h2, hlast, ?_⟩
    rw [hdrop]
    have h1a : upd H e (.lst (ts'.map V.str)) p = some (.ins C dx [("_text", .str y), ("_chain", .str z), ("_earlier", .ref e)]) := by rw [upd_ne npe]; exact h1
    have h2a : upd H e (.lst (ts'.map V.str)) e = some (.lst (ts'.map V.str)) := upd_same
    have ka : Kb p e H (upd H e (.lst (ts'.map V.str))) := Kb.upd_g
    generalize upd H e (.lst (ts'.map V.str)) = H1 at h1a h2a ka
    refine ⟨_, rfl, p, C, dx, _, rfl, h1a, T.cl, T.nT, by show 3 < 1000; decide, ?_⟩
    have h1b : upd H1 p (.ins C dx [("_text", .str t), ("_chain", .str z), ("_earlier", .ref e)]) p = some (.ins C dx [("_text", .str t), ("_chain", .str z), ("_earlier", .ref e)]) := upd_same
    have h2b : upd H1 p (.ins C dx [("_text", .str t), ("_chain", .str z), ("_earlier", .ref e)]) e = some (.lst (ts'.map V.str)) := by rw [upd_ne (Ne.symm npe)]; exact h2a
    have kb : Kb p e H (upd H1 p (.ins C dx [("_text", .str t), ("_chain", .str z), ("_earlier", .ref e)])) := ka.trans Kb.upd_r
    have zc := cut_lastS z
    have hfin : LfS x (cutS z none (some (-1))) t ts' := by
      have hlen2 : (cutS z none (some (-1))).cps.size = ts'.length := by
        rw [← Array.length_toList, zc, List.length_dropLast, zl]
        omega
      refine ⟨?_, hlen2.symm, fun i u hu => ?_⟩
      · have := h3.ts ts'.length t (by rw [List.getElem?_append_right (Nat.le_refl _), Nat.sub_self]; rfl)
        rw [this, zc, List.dropLast_eq_take, zl, ← tl, Nat.add_sub_cancel]
      · have hi := (List.getElem?_eq_some_iff.mp hu).1
        have := h3.ts i u (by rw [List.getElem?_append_left hi]; exact hu)
        rw [this, zc, List.dropLast_eq_take, List.take_take, zl]
        congr 2
        omega
    refine ⟨_, rfl, p, C, dx, _, _, rfl, h1b, T.cl, T.nC, rfl, (1 : Int), rfl, (-1 : Int), rfl, z, rfl, by rw [sizeLine_eq]; show z.cps.size ≤ _; omega, ?_⟩
    refine ⟨_, rfl, p, C, dx, _, rfl, h1b, T.cl, T.nC, by show 3 < 1000; decide, ?_⟩
    refine q _ _ zc ⟨dx, t, ts', upd_same, by rw [upd_ne (Ne.symm npe)]; exact h2b, hfin⟩ (kb.trans Kb.upd_r)
theorem ok_lconv {f C aC aT : Addr} {fd dC dT : FuncData} {k : Nat} (F : Fun K "convert" "LineFile.convert" sLineFile_convert f fd) (T : LTxt K mg C)
    (cC : Cl P w K mg base k "check_chain" ["chain"] spChkChain aC dC)
    (cT : Cl P w K mg base k "text_after_step" ["text", "letter"] spTas aT dT) :
    FnR P w K mg base CX0 (k + 1) f (fun vs H Q E => ∃ ws rest, vs = ws ++ rest ∧ ws.length = ["self"].length ∧ rest.length ≤ sizeLine ∧ ∀ p, H p = Option.none → spLConv C (ws ++ [V.ref p]) (upd H p (.tup rest)) Q E) := by
  obtain ⟨oc, od, kV, doc, pm, an, cdv, ct, osl, rfl, lk, hcd⟩ := F.ex
  refine StX.fn_star (ps := ["self"]) (pv := "chains") lk hcd scLV StX.cxUp_none (fun us rest hl => StX.bind_star1 (B := fun us => bindArgs (PySem.W.fnOf "convert" "LineFile.convert" (defArgs sLineFile_convert) (defBody sLineFile_convert) (defScope sLineFile_convert) .none kV doc pm an cdv ct) ⟨us, []⟩) (p1 := "self") (pv := "chains") (fun a => rfl) (fun a r rs => rfl) us rest hl) (fun A outer s H vs Q E hr h => ?_)
  suffices hh : ∃ t, PSs (cxOf CX0 P w K mg base ["self", "chains", "chain", "letter"] "LineFile.convert" (defScope sLineFile_convert) f cdv A outer s H E).nox (defBody sLineFile_convert) t ∧ t { nx := fun _ H' => Q .non H', rt := Q } (start ["self", "chains", "chain", "letter"] vs) H from
    let ⟨t, h1, h2⟩ := hh
    ⟨t, h1.nox, h2⟩
  obtain ⟨p, e, T0, x, z, cs, rfl, hT, hL, hcs, hzl, hc, hb, q⟩ := h
  refine ⟨_, pss_cons (ps_set (i := 2) scLV.nd rfl (.inl rfl) (pe_join pe_str (pv 1)))
    (pss_cons (ps_expr (pe_call cC.G hr (by rfl) cC.g cC.kp cC.b .nil pass0 (pa_cons (pv 2) pa_nil)))
    (pss_cons (ps_for PassesOwn.never rfl (pi_str (pv 2)) (pg_name (i := 3) scLV.nd rfl (.inl rfl))
      (pss_cons (ps_expr (pe_bm PySem.F.plainAttrs_list PySem.F.slot_list_append PySem.F.type_list_append mt_append (pe_fld (pv 0) rfl) (pa_cons (pe_fld (pv 0) rfl) pa_nil)))
      (pss_one (ps_fld (pv 0) (pe_call cT.G hr (by rfl) cT.g cT.kp cT.b .nil pass0 (pa_cons (pe_fld (pv 0) rfl) (pa_cons (pv 3) pa_nil))) rfl))))
    (pss_one (ps_fld (pv 0) (pe_op op_add_str (pe_fld (pv 0) rfl) (pv 2)) rfl)))), ?_⟩
  have npe := hL.ne
  have jl : (Txt.join "" cs).cps.size = (cs.map (·.length)).sum := by
    rw [← Array.length_toList, joinE_list, List.length_flatMap]
    congr 1
  refine ⟨⟨"", rfl⟩, _, rfl, "", T0, cs, rfl, rfl, .inr (.inl (.inl hT)), by show _ + _ * 0 ≤ _; omega, ?_⟩
  generalize Txt.join "" cs = u at hc hb q jl
  have ul : u.cps.toList.length = u.cps.size := Array.length_toList ..
  refine ⟨_, rfl, u, rfl, hc, fun H1 s1 => ?_⟩
  obtain ⟨dx, y0, ts0, h1, h2, h3⟩ := hL
  refine ⟨_, rfl, u, rfl, ?_⟩
  refine for_it walk_str (fun i σ H' => Kb p e H H' ∧ ∃ (y : Str) (ts : List Str) (y3 : Option V) (zi : Str), σ = [some (.ref p), some (.ref T0), some (.str u), y3] ∧ H' p = some (.ins C dx [("_text", .str y), ("_chain", .str z), ("_earlier", .ref e)]) ∧ H' e = some (.lst (ts.map V.str)) ∧ zi.cps.toList = z.cps.toList ++ u.cps.toList.take i ∧ LfS x zi y ts)
    ⟨Kb.of s1, y0, ts0, none, z, rfl, s1 _ _ h1, s1 _ _ h2, by simp, h3⟩ (fun _ _ _ _ _ => trivial) ?_ ?_
  · rintro i v σ H2 H3 hi ⟨kb, y, ts, y3, zi, rfl, h1, h2, hzi, hS⟩ ⟨rfl, c, hcc, rfl⟩
    have hcl : u.cps.toList[i]? = some c := by rw [Array.getElem?_toList]; exact hcc
    have htk : u.cps.toList.take (i + 1) = u.cps.toList.take i ++ [c] := by rw [List.take_succ, hcl]; rfl
    have hcm : c ∈ steps.cps.toList := hc c (List.mem_of_getElem? hcl)
    have hyl : y.cps.size ≤ 1000000 := by
      have := hb i
      rw [← Array.length_toList, hS.y, hzi]
      unfold doneT at this ⊢
      rw [List.foldl_append]
      exact this
    have htl : ts.length ≤ 2000000 := by
      have h4 := congrArg List.length hzi
      rw [List.length_append, List.length_take, Array.length_toList, Array.length_toList] at h4
      rw [hS.len]
      omega
    refine ⟨_, rfl, p, C, dx, _, _, rfl, h1, T.cl, T.nE, rfl, .inl ⟨rfl, _, .inl (.inl h2)⟩, _, rfl, p, C, dx, _, _, rfl, h1, T.cl, T.nT, rfl, e, _, _, rfl, rfl, h2, by rw [List.length_map, sizeLine_eq]; omega, ?_⟩
    have h1a : upd H3 e (.lst (ts.map V.str ++ [.str y])) p = some (.ins C dx [("_text", .str y), ("_chain", .str z), ("_earlier", .ref e)]) := by rw [upd_ne npe]; exact h1
    refine ⟨_, rfl, p, C, dx, _, _, rfl, h1a, T.cl, T.nT, rfl, _, rfl, y, c, rfl, hcm, by omega, fun y2 hy2 => ?_⟩
    refine ⟨_, rfl, p, C, dx, _, rfl, h1a, T.cl, T.nT, by show 3 < 1000; decide, ?_⟩
    refine ⟨(kb.trans Kb.upd_g).trans Kb.upd_r, y2, ts ++ [y], _, zi ++ ⟨#[c]⟩, rfl, upd_same, by rw [upd_ne (Ne.symm npe), upd_same, List.map_append]; rfl, ?_, hS.snoc c ?_ hy2⟩
    · rw [htk, ← List.append_assoc, ← hzi]
      exact Array.toList_append ..
    · exact Array.toList_append ..
  · rintro σ H2 ⟨kb, y, ts, y3, zi, rfl, h1, h2, hzi, hS⟩
    rw [List.take_of_length_le (by omega)] at hzi
    have ezi : zi = z ++ u := Str.ext' (Array.toList_inj.mp (by rw [hzi]; exact (Array.toList_append ..).symm))
    subst ezi
    refine ⟨_, rfl, p, C, dx, _, _, rfl, h1, T.cl, T.nC, rfl, _, rfl, z, u, rfl, rfl, ?_, ?_⟩
    · rw [sizeLine_eq]
      show z.cps.size + u.cps.size ≤ _
      omega
    · refine ⟨_, rfl, p, C, dx, _, rfl, h1, T.cl, T.nC, by show 3 < 1000; decide, ?_⟩
      exact q _ ⟨dx, y, ts, upd_same, by rw [upd_ne (Ne.symm npe)]; exact h2, hS⟩ (kb.trans Kb.upd_r)
end
end Lw
namespace Lw
open PySem PySem.Spec L2 Lx
theorem scMoved : FnScope ["line", "step", "found", "place", "sign", "late"] ["line", "step"] (defScope sLMoved) := ⟨rfl, rfl, rfl, by decide +kernel, rfl, by decide +kernel, by decide +kernel⟩
structure MvF (mg : Str → Option Value) : Prop where
  enumerate : mg "enumerate" = none
structure WkF (mg : Str → Option Value) : Prop where
  range : mg "range" = none
  len : mg "len" = none
def spMoved : Sp := fun vs H Q _ => ∃ (x : Str) (c : Nat), vs = [.str x, .str ⟨#[c]⟩] ∧ c ∈ steps.cps.toList ∧ x.cps.size ≤ 200000 ∧ ∀ (y : Str) H', Same H H' → y.cps.toList = stepT c x.cps.toList → Q (.str y) H'
def flatS (fs : List Str) : List Nat := fs.flatMap fun x => x.cps.toList
section
variable {P : Program} {w : World} {K : PySem.W.Frag} {mg : Str → Option Value} {base : Heap}
theorem ok_moved {f : Addr} {fd : FuncData} {k : Nat} (F : Fun K "_law_moved" "_law_moved" sLMoved f fd) (Z : MvF mg) : FnOk P w K mg base CX0 (k + 1) f fd ["line", "step"] spMoved := by
  refine F.ok scMoved (fun vs H Q E h => ?_) (fun cdv A outer s H vs Q E hr h => ?_)
  · obtain ⟨x, c, rfl, _⟩ := h
    rfl
  · obtain ⟨x, c, rfl, hc, hxl, q⟩ := h
    refine ⟨_, (pss_cons (ps_set (i := 2) scMoved.nd rfl (.inl rfl) (pe_lst pa_nil))
      (pss_cons (ps_for PassesOwn.never rfl (pi_enumS rfl Z.enumerate (pa_cons (pv 0) pa_nil)) (pg_tup (by rfl) (pgs_cons (pg_name (i := 3) scMoved.nd rfl (.inl rfl)) (pgs_cons (pg_name (i := 4) scMoved.nd rfl (.inl rfl)) pgs_nil)))
          (pss_cons (ps_set (i := 5) scMoved.nd rfl (.inl rfl) (pe_slice sl_str (pv 0) (po_some (pe_op op_add (pv 3) pe_int)) (po_some (pe_op op_add (pv 3) pe_int))))
          (pss_cons (ps_if (PW.pt (pw_and (pt_cmpR op_eq (pv 1) pe_str (nomark _)) (pw_and1 (pt_cmpR op_eq (pv 4) pe_str (nomark _)))))
              (pss_one (ps_expr (pe_bm PySem.F.plainAttrs_list PySem.F.slot_list_append PySem.F.type_list_append mt_append (pv 2) (pa_cons pe_str pa_nil)))) pss_nil)
          (pss_one (ps_if (PW.pt (pw_and (pt_cmpR op_eq (pv 1) pe_str (nomark _)) (pw_and1 (pt_cmpR op_eq (pv 4) pe_str (nomark _)))))
              (pss_one (ps_expr (pe_bm PySem.F.plainAttrs_list PySem.F.slot_list_append PySem.F.type_list_append mt_append (pv 2) (pa_cons pe_str pa_nil))))
              (pss_one (ps_if (PW.pt (pw_and (pt_cmpR op_eq (pv 1) pe_str (nomark _)) (pw_and1 (pt_cmpR op_eq (pv 4) pe_str (nomark _)))))
                  (pss_one (ps_expr (pe_bm PySem.F.plainAttrs_list PySem.F.slot_list_append PySem.F.type_list_append mt_append (pv 2) (pa_cons pe_str pa_nil))))
                  (pss_one (ps_if (PW.pt (pw_or (pt_cmpR op_ne (pv 1) pe_str (nomark _)) (pw_or (pt_cmpR op_ne (pv 4) pe_str (nomark _)) (pw_or1 (pt_cmpR op_ne (pv 5) pe_str (nomark _))))))
                      (pss_one (ps_expr (pe_bm PySem.F.plainAttrs_list PySem.F.slot_list_append PySem.F.type_list_append mt_append (pv 2) (pa_cons (pv 4) pa_nil)))) pss_nil)))))))))
      (pss_one (ps_ret (pe_join pe_str (pv 2)))))), ?_⟩
    have hl : x.cps.toList.length = x.cps.size := Array.length_toList ..
    refine ⟨Nat.zero_le _, fun D nD => ?_⟩
    refine ⟨_, rfl, x, rfl, ?_⟩
    refine for_it walk_enumS (fun i σ H' => Same H H' ∧ ∃ (fs : List Str) (y3 y4 y5 : Option V), σ = [some (.str x), some (.str ⟨#[c]⟩), some (.ref D), y3, y4, y5] ∧ H' D = some (.lst (fs.map V.str)) ∧ fs.length ≤ 2 * i ∧ flatS fs ++ mvL c (x.cps.toList.drop i) = mvL c x.cps.toList)
      ⟨same_upd nD, [], none, none, none, rfl, upd_same, Nat.zero_le _, rfl⟩ (fun _ _ _ _ _ => trivial) ?_ ?_
    · rintro i v σ H1 H2 hi ⟨sm, fs, y3, y4, y5, rfl, hD, hfl, hfe⟩ ⟨T', u1, u2, rfl, nT, rfl, h1, h2⟩
      cases Option.some.inj h1
      replace h2 : (x.cps[i]?).map (fun c => V.str ⟨#[c]⟩) = some u2 := h2
      cases e : x.cps[i]? with
      | none => rw [e] at h2; cases h2
      | some s =>
        rw [e] at h2
        cases Option.some.inj h2
        have s2 := sm.trans (same_upd (o := .tup [.int (i : Nat), .str ⟨#[s]⟩]) nT)
        have hD2 : upd H1 T' (.tup [.int (i : Nat), .str ⟨#[s]⟩]) D = some (.lst (fs.map V.str)) := by rw [upd_ne (ne_of_none hD nT)]; exact hD
        have el : x.cps.toList[i]? = some s := by rw [Array.getElem?_toList]; exact e
        have hil := (List.getElem?_eq_some_iff.mp el).1
        rw [mvL_drop el] at hfe
        refine ⟨T', _, rfl, .inl (.inl upd_same), rfl, _, _, rfl, _, _, rfl, rfl, ?_⟩
        revert s2 hD2
        generalize upd H1 T' (.tup [.int (i : Nat), .str ⟨#[s]⟩]) = H2
        intro s2 hD2
        clear sm hD nT
        have hlate := cut_late x i
        dsimp only [gName, tNext, tSeq]
        refine ⟨_, rfl, _, rfl, _, _, rfl, rfl, _, rfl, _, rfl, _, _, rfl, rfl, _, rfl, x, rfl, by rw [sizeLine_eq]; show x.cps.size ≤ _; omega, ?_⟩
        generalize cutS x (some ((i : Int) + 1)) (some ((i : Int) + 2)) = late at hlate
        have hlt : decide (V.str late = V.str "\n") = decide (x.cps.toList[i + 1]? = some 10) := by
          refine decide_eq_decide.mpr ⟨fun q => ?_, fun q => ?_⟩
          · cases V.str.inj q
            revert hlate
            cases x.cps.toList[i + 1]? with
            | none => intro h; cases h
            | some u => intro h; have h : ([10] : List Nat) = [u] := h; cases h; rfl
          · rw [q] at hlate
            exact congrArg V.str (str_ext hlate)
        have fin : ∀ (H3 : Hp) (gs : List Str), Same H H3 → H3 D = some (.lst ((fs ++ gs).map V.str)) → flatS gs = mvA c s x.cps.toList[i + 1]? → gs.length ≤ 2 →
            (Same H H3 ∧ ∃ (fs : List Str) (y3 y4 y5 : Option V), [some (V.str x), some (.str ⟨#[c]⟩), some (.ref D), some (.int (i : Nat)), some (.str ⟨#[s]⟩), some (.str late)] = [some (.str x), some (.str ⟨#[c]⟩), some (.ref D), y3, y4, y5] ∧ H3 D = some (.lst (fs.map V.str)) ∧ fs.length ≤ 2 * (i + 1) ∧ flatS fs ++ mvL c (x.cps.toList.drop (i + 1)) = mvL c x.cps.toList) := fun H3 gs s3 hD3 hg hgl => by
          refine ⟨s3, fs ++ gs, _, _, _, rfl, hD3, by rw [List.length_append]; omega, ?_⟩
          unfold flatS at hg hfe ⊢
          rw [List.flatMap_append, hg, List.append_assoc]
          exact hfe
        have up : ∀ (fs : List Str) (Ha : Hp) (z : Str), Ha D = some (.lst (fs.map V.str)) → Same H Ha → Same H (upd Ha D (.lst (fs.map V.str ++ [.str z]))) ∧ upd Ha D (.lst (fs.map V.str ++ [.str z])) D = some (.lst ((fs ++ [z]).map V.str)) := fun fs Ha z h1 s1 =>
          ⟨fun b o h => by rw [upd_ne (ne_of_none h nD)]; exact s1 b o h, by rw [upd_same, List.map_append]; rfl⟩
        have sz : ∀ fs2 : List Str, fs2.length ≤ fs.length + 1 → (fs2.map V.str).length < sizeLine := fun fs2 h => by
          rw [List.length_map, sizeLine_eq]
          omega
        clear hfe hlate e
        dsimp only [gName, tNext, tSeq]
        have h4 : c = 85 ∨ c = 68 ∨ c = 77 ∨ c = 78 := by
          have hc' : c ∈ [85, 68, 77, 78] := hc
          simpa using hc'
        have dS : ∀ (a b : Nat), decide (V.str ⟨#[a]⟩ = V.str ⟨#[b]⟩) = decide (a = b) := fun a b => decide_eq_decide.mpr ⟨fun q => by
          have := congrArg (fun z : V => match z with | .str w => w.cps.toList | _ => []) q
          simpa using this, fun q => by rw [q]⟩
        have last : ∀ Ha : Hp, Same H Ha → Ha D = some (.lst (fs.map V.str)) → mvA c s x.cps.toList[i + 1]? = [s] →
            tDrop (tBM K "list" rAppend (tVar 2) (tCons (tVar 4) tNil)) { nx := fun σ H' => Same H H' ∧ ∃ (fs : List Str) (y3 y4 y5 : Option V), σ = [some (.str x), some (.str ⟨#[c]⟩), some (.ref D), y3, y4, y5] ∧ H' D = some (.lst (fs.map V.str)) ∧ fs.length ≤ 2 * (i + 1) ∧ flatS fs ++ mvL c (x.cps.toList.drop (i + 1)) = mvL c x.cps.toList, rt := Q }
              [some (V.str x), some (.str ⟨#[c]⟩), some (.ref D), some (.int (i : Nat)), some (.str ⟨#[s]⟩), some (.str late)] Ha := fun Ha s1 h1 hm => by
          refine ⟨_, rfl, .inl ⟨rfl, _, .inl (.inl h1)⟩, _, rfl, D, _, _, rfl, rfl, h1, sz fs (by omega), ?_⟩
          obtain ⟨g1, g2⟩ := up fs Ha ⟨#[s]⟩ h1 s1
          exact fin _ [⟨#[s]⟩] g1 g2 (by rw [hm]; rfl) (by simp)
        have one : ∀ (Ha : Hp) (z : Str), Same H Ha → Ha D = some (.lst (fs.map V.str)) → mvA c s x.cps.toList[i + 1]? = z.cps.toList →
            tDrop (tBM K "list" rAppend (tVar 2) (tCons (tC (.str z)) tNil)) { nx := fun σ H' => Same H H' ∧ ∃ (fs : List Str) (y3 y4 y5 : Option V), σ = [some (.str x), some (.str ⟨#[c]⟩), some (.ref D), y3, y4, y5] ∧ H' D = some (.lst (fs.map V.str)) ∧ fs.length ≤ 2 * (i + 1) ∧ flatS fs ++ mvL c (x.cps.toList.drop (i + 1)) = mvL c x.cps.toList, rt := Q }
              [some (V.str x), some (.str ⟨#[c]⟩), some (.ref D), some (.int (i : Nat)), some (.str ⟨#[s]⟩), some (.str late)] Ha := fun Ha z s1 h1 hm => by
          refine ⟨_, rfl, .inl ⟨rfl, _, .inl (.inl h1)⟩, D, _, _, rfl, rfl, h1, sz fs (by omega), ?_⟩
          obtain ⟨g1, g2⟩ := up fs Ha z h1 s1
          exact fin _ [z] g1 g2 (by rw [hm]; show z.cps.toList ++ [] = _; rw [List.append_nil]) (by simp)
        rcases h4 with rfl | rfl | rfl | rfl
        · refine ⟨_, rfl, rfl, _, rfl, iteT ⟨_, rfl, rfl, _, rfl, ?_⟩⟩
          show if decide (V.str ⟨#[s]⟩ = V.str ⟨#[10]⟩) = true then _ else _
          rw [dS]
          by_cases h : s = 10
          · rw [decide_eq_true h]
            refine iteT ⟨_, rfl, .inl ⟨rfl, _, .inl (.inl hD2)⟩, D, _, _, rfl, rfl, hD2, sz fs (by omega), ?_⟩
            obtain ⟨g1, g2⟩ := up fs H2 "^" hD2 s2
            revert g1 g2
            generalize upd H2 D (.lst (fs.map V.str ++ [.str "^"])) = H3
            intro g1 g2
            dsimp only [gName, tNext, tSeq]
            refine ⟨_, rfl, rfl, _, rfl, iteF ?_⟩
            refine ⟨_, rfl, rfl, _, rfl, iteF ?_⟩
            refine ⟨_, rfl, rfl, _, rfl, iteT ?_⟩
            refine ⟨_, rfl, .inl ⟨rfl, _, .inl (.inl g2)⟩, _, rfl, D, _, _, rfl, rfl, g2, sz _ (by rw [List.length_append]; exact Nat.le_refl _), ?_⟩
            obtain ⟨g3, g4⟩ := up _ H3 ⟨#[s]⟩ g2 g1
            rw [List.append_assoc] at g4
            exact fin _ ["^", ⟨#[s]⟩] g3 g4 (by subst h; rfl) (by simp)
          · rw [decide_eq_false h]
            refine iteF ?_
            dsimp only [gName, tNext, tSeq]
            refine ⟨_, rfl, rfl, _, rfl, iteF ?_⟩
            refine ⟨_, rfl, rfl, _, rfl, iteF ?_⟩
            refine ⟨_, rfl, rfl, _, rfl, iteT ?_⟩
            exact last H2 s2 hD2 (by simp [mvA, h])
        · refine ⟨_, rfl, rfl, _, rfl, iteF ?_⟩
          refine ⟨_, rfl, rfl, _, rfl, iteF ?_⟩
          refine ⟨_, rfl, rfl, _, rfl, iteF ?_⟩
          refine ⟨_, rfl, rfl, _, rfl, iteF ⟨_, rfl, rfl, _, rfl, ?_⟩⟩
          show if (!decide (V.str ⟨#[s]⟩ = V.str ⟨#[94]⟩)) = true then _ else _
          rw [dS]
          by_cases h : s = 94
          · rw [decide_eq_true h]
            refine iteF ⟨_, rfl, rfl, _, rfl, ?_⟩
            show if (!decide (V.str late = V.str "\n")) = true then _ else _
            rw [hlt]
            by_cases h2 : x.cps.toList[i + 1]? = some 10
            · rw [decide_eq_true h2]
              refine iteF ?_
              exact fin H2 [] s2 (by rw [List.append_nil]; exact hD2) (by simp [mvA, h, h2, flatS]) (by simp)
            · rw [decide_eq_false h2]
              exact iteT (last H2 s2 hD2 (by have h3 := h2; simp at h3; simp [mvA, h, h3]))
          · rw [decide_eq_false h]
            exact iteT (last H2 s2 hD2 (by simp [mvA, h]))
        · refine ⟨_, rfl, rfl, _, rfl, iteF ?_⟩
          refine ⟨_, rfl, rfl, _, rfl, iteT ⟨_, rfl, rfl, _, rfl, ?_⟩⟩
          show if decide (V.str ⟨#[s]⟩ = V.str ⟨#[94]⟩) = true then _ else _
          rw [dS]
          by_cases h : s = 94
          · rw [decide_eq_true h]
            exact iteT (one H2 "\n" s2 hD2 (by subst h; rfl))
          · rw [decide_eq_false h]
            refine iteF ⟨_, rfl, rfl, _, rfl, iteF ?_⟩
            refine ⟨_, rfl, rfl, _, rfl, iteT ?_⟩
            exact last H2 s2 hD2 (by simp [mvA, h])
        · refine ⟨_, rfl, rfl, _, rfl, iteF ?_⟩
          refine ⟨_, rfl, rfl, _, rfl, iteF ?_⟩
          refine ⟨_, rfl, rfl, _, rfl, iteT ⟨_, rfl, rfl, _, rfl, ?_⟩⟩
          show if decide (V.str ⟨#[s]⟩ = V.str ⟨#[10]⟩) = true then _ else _
          rw [dS]
          by_cases h : s = 10
          · rw [decide_eq_true h]
            exact iteT (one H2 "^" s2 hD2 (by subst h; rfl))
          · rw [decide_eq_false h]
            refine iteF ⟨_, rfl, rfl, _, rfl, iteT ?_⟩
            exact last H2 s2 hD2 (by simp [mvA, h])
    · rintro σ H1 ⟨sm, fs, y3, y4, y5, rfl, hD, hfl, hfe⟩
      have hn : x.cps.toList.drop x.cps.size = [] := List.drop_of_length_le (by omega)
      rw [hn] at hfe
      replace hfe : flatS fs ++ [] = mvL c x.cps.toList := hfe
      rw [List.append_nil, mvL_step hc] at hfe
      have jl : (Txt.join "" fs).cps.toList = flatS fs := joinE_list fs
      have fl : (fs.map (·.length)).sum = (flatS fs).length := by
        unfold flatS
        rw [List.length_flatMap]
        congr 1
      refine ⟨⟨"", rfl⟩, _, rfl, "", D, fs, rfl, rfl, .inl (.inl (.inl hD)), ?_, q _ _ sm (jl.trans hfe)⟩
      have := stepT_len c x.cps.toList
      rw [fl, hfe]
      show _ + _ * 0 ≤ _
      omega
end
end Lw
namespace Lw
open PySem PySem.Spec L2 Lx
theorem scExact : FnScope ["rng", "line", "many", "found", "walk", "step", "later"] ["rng", "line", "many"] (defScope sLExact) := ⟨rfl, rfl, rfl, by decide +kernel, rfl, by decide +kernel, by decide +kernel⟩
theorem asg_fin {e : TE} {g : TG} {D : Ends} {σ : St} {H : Hp} (Fin : St → Hp → Prop) (h : ∀ R : St → Hp → Prop, (∀ σ H, Fin σ H → R σ H) → e σ H fun x H1 => g x σ H1 R) (hf : ∀ σ H, Fin σ H → D.nx σ H) : tAsg e g D σ H := h D.nx hf
structure ExF (mg : Str → Option Value) : Prop where
  len : mg "len" = none
/-- a chain and the texts on its way -/
structure WkS (x z : Str) (ts : List Str) (m t : Nat) : Prop where
  ok : ChOk z
  sz : z.cps.size ≤ m
  len : ts.length = z.cps.size + 1
  ts : ∀ i u, ts[i]? = some u → u.cps.toList = doneT x.cps.toList (z.cps.toList.take i)
  le : ∀ i, (doneT x.cps.toList (z.cps.toList.take i)).length ≤ t
def spExact : Sp := fun vs H Q _ => ∃ (r : Addr) (n m : Nat) (x : Str), vs = [.ref r, .str x, .int m] ∧ RngAt H r n ∧ n < 900000000 ∧ m ≤ 1000 ∧ x.cps.size ≤ 600 ∧
  ∀ (z : Str) (ts : List Str) (l lw : Addr) H', WkS x z ts m 600 → z.cps.size = m → H' l = some (.lst [.str z, .ref lw]) → H' lw = some (.lst (ts.map V.str)) → RngAt H' r (n + 2 * m) → Kd r H H' → H l = none → H lw = none → Q (.ref l) H'
section
variable {P : Program} {w : World} {K : PySem.W.Frag} {mg : Str → Option Value} {base : Heap}
theorem ok_exact {f aD aM : Addr} {fd dD dM : FuncData} {k : Nat} (F : Fun K "_law_exact" "_law_exact" sLExact f fd) (Z : ExF mg)
    (cD : Cl P w K mg base k "_law_draw" ["rng", "limit"] spDraw aD dD) (cM : Cl P w K mg base k "_law_moved" ["line", "step"] spMoved aM dM) : FnOk P w K mg base CX0 (k + 1) f fd ["rng", "line", "many"] spExact := by
  refine F.ok scExact (fun vs H Q E h => ?_) (fun cdv A outer s H vs Q E hr h => ?_)
  · obtain ⟨r, n, m, x, rfl, _⟩ := h
    rfl
  · obtain ⟨r, n, m, x, rfl, hS, hn, hm, hxt, q⟩ := h
    refine ⟨_, (pss_cons (ps_par (i := 3) (j := 4) rfl scExact.nd rfl rfl (by decide) rfl rfl (pa_cons pe_str (pa_cons (pe_lst (pa_cons (pv 1) pa_nil)) pa_nil)) rfl)
      (pss_cons (ps_while PassesOwn.never (pt_cmpR op_lt (pe_callB call_len_str (by rfl) Z.len PySem.boot_len (pa_cons (pv 3) pa_nil)) (pv 2) (nomark _))
          (pss_cons (ps_set (i := 5) scExact.nd rfl (.inl rfl) (pe_ifExp (pt_cmpR op_eq (pe_call cD.G hr (by rfl) cD.g cD.kp cD.b .nil pass0 (pa_cons (pv 0) (pa_cons pe_int pa_nil))) pe_int (nomark _)) (pe_ix ix_str pe_str (pe_call cD.G hr (by rfl) cD.g cD.kp cD.b .nil pass0 (pa_cons (pv 0) (pa_cons pe_int pa_nil))) (fun _ _ => rfl)) (pe_ix ix_str pe_str (pe_call cD.G hr (by rfl) cD.g cD.kp cD.b .nil pass0 (pa_cons (pv 0) (pa_cons pe_int pa_nil))) (fun _ _ => rfl))))
          (pss_cons (ps_set (i := 6) scExact.nd rfl (.inl rfl) (pe_call cM.G hr (by rfl) cM.g cM.kp cM.b .nil pass0 (pa_cons (pe_ix ix_list (pv 4) (pe_un un_neg pe_int) (fun _ _ => rfl)) (pa_cons (pv 5) pa_nil))))
          (pss_cons (ps_if (pt_cmpR op_gt (pe_callB call_len_str (by rfl) Z.len PySem.boot_len (pa_cons (pv 6) pa_nil)) pe_int (nomark _))
              (pss_cons (ps_set (i := 5) scExact.nd rfl (.inl rfl) pe_str)
              (pss_one (ps_set (i := 6) scExact.nd rfl (.inl rfl) (pe_call cM.G hr (by rfl) cM.g cM.kp cM.b .nil pass0 (pa_cons (pe_ix ix_list (pv 4) (pe_un un_neg pe_int) (fun _ _ => rfl)) (pa_cons (pv 5) pa_nil)))))) pss_nil)
          (pss_cons (ps_set (i := 3) scExact.nd rfl (.inl rfl) (pe_op op_add_str (pv 3) (pv 5)))
          (pss_one (ps_expr (pe_bm PySem.F.plainAttrs_list PySem.F.slot_list_append PySem.F.type_list_append mt_append (pv 4) (pa_cons (pv 6) pa_nil)))))))))
      (pss_one (ps_ret (pe_lst (pa_cons (pv 3) (pa_cons (pv 4) pa_nil))))))), ?_⟩
    have p40 : (2 : Nat) ^ 20 ≤ 2 ^ 4000 := Nat.pow_le_pow_right (by decide) (by decide)
    have p20 : (2 : Nat) ^ 20 = 1048576 := by decide
    have xl : x.cps.toList.length = x.cps.size := Array.length_toList ..
    refine ⟨_, rfl, by show 1 ≤ sizeLine; decide, fun lw nlw => ⟨_, _, rfl, ?_⟩⟩
    have s1 := same_upd (o := .lst [.str x]) nlw
    have hlw0 : upd H lw (.lst [.str x]) lw = some (.lst ([x].map V.str)) := upd_same
    have hlwr := hS.ne nlw
    have hS1 := hS.same s1
    revert hlw0 hS1 s1
    generalize upd H lw (.lst [.str x]) = H1
    intro s1 hlw0 hS1
    dsimp only [gName, tNext, tSeq]
    refine ⟨fun μ σ H' => ∃ (z : Str) (ts : List Str) (y5 y6 : Option V), σ = [some (.ref r), some (.str x), some (.int m), some (.str z), some (.ref lw), y5, y6] ∧ z.cps.size ≤ m ∧ μ = m - z.cps.size ∧ WkS x z ts z.cps.size 600 ∧ H' lw = some (.lst (ts.map V.str)) ∧ RngAt H' r (n + 2 * z.cps.size) ∧ Kd r H H',
      ⟨_, "", [x], none, none, rfl, Nat.zero_le _, rfl, ⟨(fun c hc => by cases hc), Nat.le_refl _, rfl, fun i u hu => ?_, fun i => ?_⟩, hlw0, hS1, Kd.of s1⟩, ?_⟩
    · match i, hu with
      | 0, hu => cases Option.some.inj hu; rfl
      | i + 1, hu => cases hu
    · show (doneT x.cps.toList (([] : List Nat).take i)).length ≤ 600
      rw [List.take_nil]
      show x.cps.toList.length ≤ 600
      omega
    rintro μ σ H4 ⟨z, ts, y5, y6, rfl, hzm, rfl, hW, hlw4, hS4, k4⟩
    refine ⟨_, rfl, z, rfl, by rw [sizeLine_eq]; show z.cps.size ≤ _; omega, _, rfl, _, _, rfl, rfl, _, rfl, ?_⟩
    by_cases hlt : ((z.length : Nat) : Int) < (m : Int)
    · rw [decide_eq_true hlt]
      have hjm : z.cps.size < m := by
        have : z.length = z.cps.size := rfl
        omega
      refine iteT ⟨_, fun σ' H' h => ⟨m - (z.cps.size + 1), by omega, h⟩, ?_⟩
      rcases snoc_or ts with rfl | ⟨ts', u, rfl⟩
      · have := hW.len; simp at this
      have hul : u.cps.toList = doneT x.cps.toList z.cps.toList := by
        have h1 := hW.len
        rw [List.length_append, List.length_singleton] at h1
        have h2 := hW.ts ts'.length u (by rw [List.getElem?_append_right (Nat.le_refl _), Nat.sub_self]; rfl)
        rw [h2, List.take_of_length_le (by rw [Array.length_toList]; omega)]
      have hus : u.cps.size ≤ 600 := by
        rw [← Array.length_toList, hul]
        have := hW.le z.cps.size
        rwa [List.take_of_length_le (by rw [Array.length_toList]; exact Nat.le_refl _)] at this
      have hmap : (ts' ++ [u]).map V.str = ts'.map V.str ++ [.str u] := by rw [List.map_append]; rfl
      dsimp only [gName, tNext, tSeq]
      refine asg_fin (fun σ H1 => ∃ c : Nat, σ = [some (.ref r), some (.str x), some (.int m), some (.str z), some (.ref lw), some (.str ⟨#[c]⟩), y6] ∧ c ∈ steps.cps.toList ∧ RngAt H1 r (n + 2 * z.cps.size + 2) ∧ Kd r H H1 ∧ H1 lw = some (.lst ((ts' ++ [u]).map V.str))) (fun J hJ => ?_) ?_
      · refine ⟨_, rfl, r, _, 20, rfl, hS4, by omega, by decide, by decide, fun d1 H5 d10 d11 hS5 k5 => ?_⟩
        have k45 := k4.trans k5.kd
        have hlw5 := k5.kd _ _ hlwr hlw4
        refine ⟨rfl, _, rfl, ?_⟩
        have fin : ∀ (w3 : Str) (d : Int) (H6 : Hp), w3.length = 4 → (∀ c ∈ w3.cps.toList, c ∈ steps.cps.toList) → 0 ≤ d → d < 4 → RngAt H6 r (n + 2 * z.cps.size + 1 + 1) → But r H5 H6 → rIxS (.str w3) (.int d) H6 fun x3 H1 => gName 5 x3 [some (.ref r), some (.str x), some (.int m), some (.str z), some (.ref lw), y5, y6] H1 J := fun w3 d H6 hw4 hwc d0 d1 hS6 k6 => by
          obtain ⟨c, hc⟩ : ∃ c, w3.cps.toList[d.toNat]? = some c := by
            have : d.toNat < w3.cps.toList.length := by rw [Array.length_toList]; show _ < w3.length; omega
            exact ⟨_, List.getElem?_eq_getElem this⟩
          have hat : atI w3.cps.toList d = some c := by
            have e : d = ((d.toNat : Nat) : Int) := by omega
            rw [e]
            exact atI_nat hc
          exact ⟨_, d, c, rfl, rfl, by rw [sizeLine_eq]; omega, hat, hJ _ _ ⟨c, rfl, hwc c (List.mem_of_getElem? hc), hS6, k45.trans k6.kd, k6.kd _ _ hlwr hlw5⟩⟩
        cases decide (V.int d1 = V.int 0) with
        | true =>
          refine iteT ⟨_, rfl, r, _, 4, rfl, hS5, by omega, by decide, by decide, fun d H6 d0 d1 hS6 k6 => ?_⟩
          exact fin "UDMN" d H6 rfl (by decide) d0 d1 hS6 k6
        | false =>
          refine iteF ⟨_, rfl, r, _, 4, rfl, hS5, by omega, by decide, by decide, fun d H6 d0 d1 hS6 k6 => ?_⟩
          exact fin "UUDD" d H6 rfl (by decide) d0 d1 hS6 k6
      · rintro σ H5 ⟨c, rfl, hcs, hS5, k45, hlw5⟩
        dsimp only [gName, tNext, tSeq]
        have go : ∀ (c : Nat) (y : Str) (H6 : Hp) (rt : VK) (bk : St → Hp → Prop), c ∈ steps.cps.toList → y.cps.toList = stepT c u.cps.toList → y.cps.size ≤ 600 → Same H5 H6 → tSeq (tAsg (tOp (fun x y H Q => ∃ i j, x = V.str i ∧ y = V.str j ∧ i.length + j.length ≤ sizeLine ∧ Q (V.str (i ++ j)) H) (tVar 3) (tVar 5)) (gName 3))
            (tDrop (tBM K "list" rAppend (tVar 4) (tCons (tVar 6) tNil))) { nx := (fun (μ : Nat) (σ : St) (H' : Hp) => ∃ (z : Str) (ts : List Str) (y5 y6 : Option V), σ = [some (.ref r), some (.str x), some (.int m), some (.str z), some (.ref lw), y5, y6] ∧ z.cps.size ≤ m ∧ μ = m - z.cps.size ∧ WkS x z ts z.cps.size 600 ∧ H' lw = some (.lst (ts.map V.str)) ∧ RngAt H' r (n + 2 * z.cps.size) ∧ Kd r H H') (m - (z.cps.size + 1)), rt := rt, ct := (fun (μ : Nat) (σ : St) (H' : Hp) => ∃ (z : Str) (ts : List Str) (y5 y6 : Option V), σ = [some (.ref r), some (.str x), some (.int m), some (.str z), some (.ref lw), y5, y6] ∧ z.cps.size ≤ m ∧ μ = m - z.cps.size ∧ WkS x z ts z.cps.size 600 ∧ H' lw = some (.lst (ts.map V.str)) ∧ RngAt H' r (n + 2 * z.cps.size) ∧ Kd r H H') (m - (z.cps.size + 1)), bk := bk }
            [some (.ref r), some (.str x), some (.int m), some (.str z), some (.ref lw), some (.str ⟨#[c]⟩), some (.str y)] H6 := fun c y H6 rt bk hc hy hyt s6 => by
          have h1 := s6 _ _ hlw5
          refine ⟨_, rfl, _, rfl, z, ⟨#[c]⟩, rfl, rfl, by rw [sizeLine_eq]; show z.cps.size + 1 ≤ _; have := hW.sz; omega, ?_⟩
          refine ⟨_, rfl, .inl ⟨rfl, _, .inl (.inl h1)⟩, _, rfl, lw, _, _, rfl, rfl, h1, by rw [List.length_map, hW.len, sizeLine_eq]; have := hW.sz; omega, ?_⟩
          have ez : (z ++ (⟨#[c]⟩ : Str)).cps.toList = z.cps.toList ++ [c] := Array.toList_append ..
          have es : (z ++ (⟨#[c]⟩ : Str)).cps.size = z.cps.size + 1 := Array.size_append ..
          have zl : z.cps.toList.length = z.cps.size := Array.length_toList ..
          have hlen := hW.len
          refine ⟨z ++ ⟨#[c]⟩, (ts' ++ [u]) ++ [y], _, _, rfl, by rw [es]; omega, by rw [es], ⟨fun e he => ?_, Nat.le_refl _, by rw [List.length_append, hlen, es]; rfl, fun i v hv => ?_, fun i => ?_⟩, by rw [upd_same]; simp only [List.map_append, List.map_cons, List.map_nil], ?_, ?_⟩
          · rw [ez] at he
            rcases List.mem_append.mp he with h | h
            · exact hW.ok e h
            · rw [List.mem_singleton.mp h]; exact hc
          · rw [ez]
            by_cases hi : i < (ts' ++ [u]).length
            · rw [List.getElem?_append_left hi] at hv
              rw [hW.ts i v hv, List.take_append_of_le_length (by omega)]
            · have hi2 := (List.getElem?_eq_some_iff.mp hv).1
              rw [List.length_append, List.length_singleton] at hi2
              have hi3 : i = (ts' ++ [u]).length := by omega
              rw [hi3, List.getElem?_append_right (Nat.le_refl _), Nat.sub_self] at hv
              cases Option.some.inj hv
              rw [List.take_of_length_le (by rw [List.length_append, List.length_singleton]; omega), doneT_snoc, ← hul]
              exact hy
          · rw [ez]
            by_cases hi : i ≤ z.cps.toList.length
            · rw [List.take_append_of_le_length hi]
              exact hW.le i
            · rw [List.take_of_length_le (by rw [List.length_append, List.length_singleton]; omega), doneT_snoc, ← hul, ← hy, Array.length_toList]
              exact hyt
          · exact ((hS5.same s6).own hlwr).mono (by rw [es]; omega)
          · refine fun b o hb e => ?_
            rw [upd_ne (ne_of_none e nlw)]
            exact s6 b o (k45 b o hb e)
        refine ⟨_, rfl, 1, rfl, lw, _, (-1 : Int), .str u, rfl, rfl, .inl (.inl (by rw [← hmap]; exact hlw5)), atI_last _ _, _, rfl, u, c, rfl, hcs, by omega, fun y H6 s6 hy => ?_⟩
        dsimp only [gName, tNext, tSeq]
        have hysz : y.cps.size ≤ 2 * u.cps.size := by
          rw [← Array.length_toList, hy, ← Array.length_toList]
          exact stepT_len c _
        refine ⟨_, rfl, y, rfl, by rw [sizeLine_eq]; show y.cps.size ≤ _; omega, _, _, rfl, rfl, _, rfl, ?_⟩
        by_cases hty : 600 < y.cps.size
        · rw [decide_eq_true (by show (600 : Int) < (y.cps.size : Nat); omega)]
          refine iteT ?_
          dsimp only [gName, tNext, tSeq]
          refine ⟨_, rfl, 1, rfl, lw, _, (-1 : Int), .str u, rfl, rfl, .inl (.inl (by rw [← hmap]; exact s6 _ _ hlw5)), atI_last _ _, _, rfl, u, 68, rfl, by decide, by omega, fun y2 H7 s7 hy2 => ?_⟩
          refine go 68 y2 H7 _ _ (by decide) hy2 ?_ (s6.trans s7)
          have e1 := stepD_len u.cps.toList
          have e2 : y2.cps.size = (stepT 68 u.cps.toList).length := by rw [← hy2, Array.length_toList]
          have e3 : u.cps.toList.length = u.cps.size := Array.length_toList ..
          omega
        · rw [decide_eq_false (by show ¬ (600 : Int) < (y.cps.size : Nat); omega)]
          refine iteF ?_
          exact go c y H6 _ _ hcs hy (by omega) s6
    · rw [decide_eq_false hlt]
      have hjm : z.cps.size = m := by
        have : z.length = z.cps.size := rfl
        omega
      refine iteF ?_
      dsimp only [gName, tNext, tSeq]
      refine ⟨_, rfl, _, rfl, by show 2 ≤ sizeLine; decide, fun l nl => ?_⟩
      have s5 := same_upd (o := .lst [.str z, .ref lw]) nl
      exact q z ts l lw _ ⟨hW.ok, by omega, hW.len, hW.ts, hW.le⟩ hjm upd_same (s5 _ _ hlw4) ((hS4.same s5).mono (by omega)) (k4.trans (Kd.of s5)) (k4.freeR hS4 nl) nlw
end
end Lw
/-! == and != by an own __eq__ that says True or False, the second thing anything. -/
namespace Lx
open PySem PySem.W
section
variable {prog : Program} {w : World} {A : Around} {E : Value → Shared → Prop} {s : Shared} {K : Frag} {x C L f : Addr} {h₀ : Heap} {m : Str → Option Value} {ox : Obj} {od : Option Obj} {name : Str} {b tb : Value}
theorem ifBoundB {M : Model} {args : List Value} {id T : String} {Q : Option Value → Shared → Prop} (S : Slot T name id) (X : K.In s.heap) (I : InstAt s.heap x ox C od) (hs : findIn K (.ref C) name = some (some (.builtin id)))
    (h : wpAny M A (call (.builtin id) (.ref x :: args)) (fun v => Q (some v)) E s) : wpAny M A (callSpecialIfBound? (.ref x) name args) Q E s := by
  simp only [callSpecialIfBound?, bindSpecialIfBound?]
  refine wpAny_holding (wpAny_bind (wpAny_bind (wpAny_bind (I.type.here ((looks_findIn X hs).here ?_)))))
  simp only [S.bind]
  refine wpAny_bind (wpAny_askSetting (wpAny_ite ?_))
  have fin : wpAny M A (call (.builtin id) ([.ref x] ++ args) >>= fun v => pure (some v)) Q E s :=
    wpAny_bind (wpAny_mono h (fun v s' h' => wpAny_pure h') fun _ _ h' => h')
  split
  · exact wpAny_bind (wpAny_pure (wpAny_pure fin))
  · exact wpAny_tryCatch (wpAny_bind (wpAny_pure (wpAny_pure fin)))
theorem checkK {M : Model} {id owner n : String} {rest : List Value} {Q : Unit → Shared → Prop} (hk : builtinKind id = some .slot) (hs : splitId id = some (owner, n)) (ha : argsOk id ⟨.ref x :: rest, []⟩) (X : K.In s.heap) (I : InstAt s.heap x ox C od)
    (hob : subIn K (.ref C) (.type owner) = some true) (hq : Q () s) : wpAny M A (checkBuiltinCall id ⟨.ref x :: rest, []⟩) Q E s := by
  simp only [checkBuiltinCall, hk, hs]
  refine wpAny_bind ?_
  unfold isInstance
  refine wpAny_bind (I.type.here ((looks_subIn X hob).here ?_))
  cases hsig : Manifest.signature? id with
  | none => exact wpAny_pure hq
  | some sig =>
    simp only [argsOk, hsig] at ha
    have h2 : Bind.checkArgs id sig ⟨.ref x :: rest, []⟩ = pure () := ha
    show wpAny M A (Bind.checkArgs id sig ⟨.ref x :: rest, []⟩) Q E _
    rw [h2]; exact wpAny_pure hq
theorem objNe_own {Q : Fin → Shared → Prop} (hu : A.units < cLine) (h : wpAny (model prog w) A (callSpecialIfBound? (.ref x) "__eq__" [b]) (fun r s' => ∃ d : Bool, r = some (.bool d) ∧ Q (.done (.ret (.bool (!d)))) s') E s) :
    wpAny (model prog w) A (Builtin.«object.__ne__» ⟨[.ref x, b], []⟩) Q E s := by
  unfold Builtin.«object.__ne__»
  repeat (first | with_reducible refine wpAny_cRoomFor hu ?_ | with_reducible refine wpAny_bind (wpAny_mono h (fun r s' hh => ?_) fun _ _ e => e) | wp_step)
  obtain ⟨d, rfl, q⟩ := hh
  cases d
  · repeat wp_step
    exact q
  · repeat wp_step
    exact q
theorem cmpNeB {Q : Value → Shared → Prop} (hu : A.units + 1 < cLine) (F : PyProof.Rows.Fr h₀ L s.heap m) (X₀ : K.In h₀) (I : InstAt s.heap x ox C od) (hb : Looks (model prog w) s.heap (typeOf b) tb) (hn : notFirst K C tb = true)
    (hne : findIn K (.ref C) "__ne__" = some (some (.builtin "object.__ne__"))) (hob : subIn K (.ref C) (.type "object") = some true)
    (hs : findIn K (.ref C) "__eq__" = some (some (.ref f))) (hf : isFn K (.ref f) = true)
    (h : wpAny (model prog w) A.in1 (call (.ref f) [.ref x, b]) (fun v s' => ∃ d : Bool, v = .bool d ∧ Q (.bool (!d)) s') E s) : wpAny (model prog w) A (richCompare .NotEq (.ref x) b) Q E s := by
  have X := X₀.keeps F.keep
  have one : wpAny (model prog w) A (tryCompare (.ref x) "__ne__" b) (fun r s' => ∃ v, r = some v ∧ Q v s') E s := by
    unfold tryCompare
    refine wpAny_bind (ifBoundB PySem.F.cmp_object.ne X I hne ?_)
    refine wpAny_call (codeAny_call_builtin PySem.F.cmp_object.ne.plain PySem.F.cmpEntry_ne (checkK PySem.F.cmpKind_ne PySem.F.cmpSplit_ne (PySem.F.cmpArgs_ne _ _) X I hob (objNe_own (A := A.in1) hu ?_)))
    refine ifBound_K X I hs hf (wpAny_mono h (fun v s' hv => ?_) fun _ _ e => e)
    obtain ⟨d, rfl, q⟩ := hv
    refine ⟨d, rfl, ?_⟩
    exact wpAny_pure ⟨_, rfl, q⟩
  unfold richCompare
  simp only [oneThing_ref]
  refine wpAny_holding (wpAny_bind (wpAny_cRoomFor (by omega) ?_))
  refine wpAny_bind (I.type.here (wpAny_bind (hb.here ?_)))
  split
  · rename_i q
    have e : subIn K tb (.ref C) = some false := by
      rcases Bool.or_eq_true_iff.mp hn with e | e
      · rw [beq_iff_eq.mp e] at q; simp at q
      · exact beq_iff_eq.mp e
    refine wpAny_bind ((looks_subIn X e).here ?_)
    simp only [Bool.false_eq_true, if_false]
    refine wpAny_bind (wpAny_mono one (fun r s' z => ?_) fun _ _ e => e)
    obtain ⟨v, rfl, hq⟩ := z
    exact wpAny_pure hq
  · refine wpAny_bind (wpAny_pure ?_)
    simp only [Bool.false_eq_true, if_false]
    refine wpAny_bind (wpAny_mono one (fun r s' z => ?_) fun _ _ e => e)
    obtain ⟨v, rfl, hq⟩ := z
    exact wpAny_pure hq
end
open PySem.Spec L2
/-- what the own == promises: R says the answer -/
def spEqB (R : Addr → V → Hp → Bool → Prop) : Sp := fun vs H Q _ => ∃ a y b, vs = [.ref a, y] ∧ R a y H b ∧ Q (.bl b) H
/-- x == y, x an instance of the class at C -/
def rEqO (K : PySem.W.Frag) (C : Addr) (R : Addr → V → Hp → Bool → Prop) : R2 := fun x y H Q => ∃ a dx fs t b, x = .ref a ∧ H a = some (.ins C dx fs) ∧ TyX K H y t ∧ PySem.W.notFirst K C t = true ∧ R a y H b ∧ Q (.bl b) H
def rNeO (K : PySem.W.Frag) (C : Addr) (R : Addr → V → Hp → Bool → Prop) : R2 := fun x y H Q => ∃ a dx fs t b, x = .ref a ∧ H a = some (.ins C dx fs) ∧ TyX K H y t ∧ PySem.W.notFirst K C t = true ∧ R a y H b ∧ Q (.bl (!b)) H
section
variable {X : Cx} {CX : CXT} {C f : Addr} {fd : FuncData} {ps : List Str} {R : Addr → V → Hp → Bool → Prop} {E : XK} {n : Nat}
theorem run_eqO {A : Around} {pins : List (Addr × Obj)} {σ : St} {H : Hp} {s : Shared} {a : Addr} {y : V} {u : Value} {b : Bool} {Q : VK} (F : FnOk X.prog X.w X.K X.mg X.base CX n f fd ps (spEqB R)) (sb : Sub X n A) (hb : Binds X.K fd ps []) (hx : Passes CX X E)
    (I : Inv X pins σ H s) (ry : RelV y u) (hR : R a y H b) (q : Q (.bl b) H) : wpAny (model X.prog X.w) A (call (.ref f) [.ref a, u]) (fun v s' => v = .bool b ∧ EP X pins σ Q (.bool b) s') X.xe s := by
  have hsp : spEqB R [.ref a, y] H (fun v H' => v = .bl b ∧ Q (.bl b) H') E := ⟨a, y, b, rfl, hR, rfl, q⟩
  have e0 : Env0 X.prog X.w X.K X.mg X.base A X.stack s H := by
    have e := I.env0
    exact ⟨by rw [sb.fr]; exact e.frames, e.mod, e.bs, e.bsz, e.funs, e.frf, e.hok, e.bare⟩
  have hl := F.len _ _ _ _ hsp
  have r2 : Vals [V.ref a, y] [Value.ref a, u] := .cons rfl (.cons ry .nil)
  refine wpAny_call (codeAny_mono (F.run A X.stack s H ⟨[.ref a, u], []⟩ [.ref a, u] [.ref a, y] _ E sb.room e0 (by
    have := hb s [.ref a, u] I.kIn (by simpa using hl)
    simpa using this) r2 hsp) fun r s' hq => ?_)
  cases r with
  | error e => exact hx pins σ H s e s' I hq
  | ok fl =>
    cases fl with
    | ret w =>
      obtain ⟨z, H', I', rz, ez, q'⟩ := I.after hq
      subst ez
      cases rz
      exact ⟨rfl, .bl b, H', I', rfl, q'⟩
    | next => exact False.elim hq
    | brk => exact False.elim hq
    | cont => exact False.elim hq
theorem op_eqO (F : FnOk X.prog X.w X.K X.mg X.base CX n f fd ps (spEqB R)) (hr : Room n X.A)
    (hs : PySem.W.findIn X.K (.ref C) "__eq__" = some (some (.ref f))) (hf : PySem.W.isFn X.K (.ref f) = true) (hb : Binds X.K fd ps []) (hx : Passes CX X E) : OpR X (compareOp .Eq) (rEqO X.K C R) := by
  intro pins s σ H x y v u Q I rx ry h
  obtain ⟨a, dx, fs, t, b, rfl, ha, ty, hn, hR, q⟩ := h
  cases (show v = Value.ref a from rx)
  obtain ⟨mA, J, _⟩ := ins_get I.hok ha
  obtain ⟨od, J, _⟩ := J.look
  obtain ⟨m, hF⟩ := I.fr
  obtain ⟨P, Z, p, _⟩ := kit_of I ry ty
  show wpAny (model X.prog X.w) X.A (richCompare .Eq (.ref a) u) (EP X pins σ Q) X.xe s
  refine PySem.W.cmp_K (op := .Eq) (tb := t) hr.units0 hF I.ok.mod.kin J (Z.ty _ _ I.kIn p) hn hs hf ?_
  refine wpAny_mono (run_eqO F ⟨hr, rfl⟩ hb hx I ry hR q) (fun v s' h => ?_) fun _ _ e => e
  obtain ⟨rfl, h⟩ := h
  exact h
theorem op_neO (F : FnOk X.prog X.w X.K X.mg X.base CX n f fd ps (spEqB R)) (hr : Room (n + 1) X.A)
    (hne : PySem.W.findIn X.K (.ref C) "__ne__" = some (some (.builtin "object.__ne__"))) (hob : PySem.W.subIn X.K (.ref C) (.type "object") = some true)
    (hs : PySem.W.findIn X.K (.ref C) "__eq__" = some (some (.ref f))) (hf : PySem.W.isFn X.K (.ref f) = true) (hb : Binds X.K fd ps []) (hx : Passes CX X E) : OpR X (compareOp .NotEq) (rNeO X.K C R) := by
  intro pins s σ H x y v u Q I rx ry h
  obtain ⟨a, dx, fs, t, b, rfl, ha, ty, hn, hR, q⟩ := h
  cases (show v = Value.ref a from rx)
  obtain ⟨mA, J, _⟩ := ins_get I.hok ha
  obtain ⟨od, J, _⟩ := J.look
  obtain ⟨m, hF⟩ := I.fr
  obtain ⟨P, Z, p, _⟩ := kit_of I ry ty
  show wpAny (model X.prog X.w) X.A (richCompare .NotEq (.ref a) u) (EP X pins σ Q) X.xe s
  have hu := hr.units
  have sb : L2.Sub X n X.A.in1 := L2.Sub.in1 ⟨hr, rfl⟩
  refine cmpNeB (tb := t) (by omega) hF I.ok.mod.kin J (Z.ty _ _ I.kIn p) hn hne hob hs hf ?_
  refine wpAny_mono (run_eqO (Q := fun v H' => v = .bl b ∧ Q (.bl (!b)) H') F sb hb hx I ry hR ⟨rfl, q⟩) (fun v s' h => ?_) fun _ _ e => e
  obtain ⟨rfl, v', H', I', r', _, q'⟩ := h
  exact ⟨b, rfl, .bl (!b), H', I', rfl, q'⟩
end
end Lx
/-! yield from a list -/
namespace Lx
open PySem PySem.Spec PyProof.Rows L2
section
variable {prog : Program} {w : World} {A : Around} {E : Value → Shared → Prop} {s : Shared}
theorem special_lst_item {it t : Addr} {i : Nat} {items : Array Value} {x : Value} {Q : Option Value → Shared → Prop} (hit : s.heap.IsListIter it t i) (ht : s.heap.IsList t items) (hx : items[i]? = some x)
    (hQ : ∀ h', h'.IsListIter it t (i + 1) → Heap.SameBut it s.heap h' → Q (some x) { s with heap := h' }) : wpAny (model prog w) A (callSpecial? (.ref it) "__next__") Q E s := by
  obtain ⟨o, ho, hc, hd⟩ := id hit
  obtain ⟨ol, hol, _, nl, hdl⟩ := ht
  refine wpAny_callSpecial?_slot (name := Str.ofString "__next__") hit.typeIs slot_listiter_next (wpAny_call_entry slot_listiter_next hit.typeIs entry_listiter_next ?_ (args_listiter_next _))
  show wpAny _ _ (field (.ref it) 0 >>= _) _ _ s
  refine wpAny_bind (wpAny_field ho hd (x := .ref t) rfl ?_)
  show wpAny _ _ (if (Value.ref t == Value.none) = true then _ else _) _ _ s
  rw [if_neg (show ¬ ((Value.ref t == Value.none) = true) from Bool.false_ne_true)]
  show wpAny _ _ (field (.ref it) 1 >>= _) _ _ s
  refine wpAny_bind (wpAny_field ho hd (x := .int i 0) rfl ?_)
  show wpAny _ _ (seqItems? (.ref t) >>= _) _ _ s
  refine wpAny_bind (wpAny_seqItems hol hdl ?_)
  simp only [Int.toNat_natCast, hx]
  refine wpAny_bind (wpAny_setField ho hd (by simp) (wpAny_pure ⟨x, rfl, hQ _ ?_ (Heap.SameBut.update ..)⟩))
  exact ⟨_, Heap.get?_update_self _ ho (Obj.isFreed_of_fields (Obj.data_mapFields hd _)), (Obj.cls_mapFields ..).trans hc, by
    rw [Obj.data_mapFields hd]; simp [rawInt]⟩
theorem special_lst_end {it t : Addr} {i : Nat} {items : Array Value} {Q : Option Value → Shared → Prop} (hh : A.handled = none) (hit : s.heap.IsListIter it t i) (ht : s.heap.IsList t items) (hx : items[i]? = none)
    (hE : ∀ e h', StopX e h' → Heap.ExtBut it s.heap h' → E e { s with heap := h' }) : wpAny (model prog w) A (callSpecial? (.ref it) "__next__") Q E s := by
  obtain ⟨o, ho, hc, hd⟩ := id hit
  obtain ⟨ol, hol, _, nl, hdl⟩ := ht
  refine wpAny_callSpecial?_slot (name := Str.ofString "__next__") hit.typeIs slot_listiter_next (wpAny_call_entry slot_listiter_next hit.typeIs entry_listiter_next ?_ (args_listiter_next _))
  show wpAny _ _ (field (.ref it) 0 >>= _) _ _ s
  refine wpAny_bind (wpAny_field ho hd (x := .ref t) rfl ?_)
  show wpAny _ _ (if (Value.ref t == Value.none) = true then _ else _) _ _ s
  rw [if_neg (show ¬ ((Value.ref t == Value.none) = true) from Bool.false_ne_true)]
  show wpAny _ _ (field (.ref it) 1 >>= _) _ _ s
  refine wpAny_bind (wpAny_field ho hd (x := .int i 0) rfl ?_)
  show wpAny _ _ (seqItems? (.ref t) >>= _) _ _ s
  refine wpAny_bind (wpAny_seqItems hol hdl ?_)
  simp only [Int.toNat_natCast, hx]
  refine wpAny_bind (wpAny_rule (wpAny_bind (wpAny_setField ho hd (by simp) ?_)))
  show wpAny _ _ (newExc (.type "StopIteration") [] >>= _) _ _ _
  refine wpAny_bind ?_
  simp only [newExc, newTuple]
  refine wpAny_bind (wpAny_newObj_type ?_ (by size_fits))
  refine wpAny_bind (m := firstArgMember _ _) (wpAny_of_eq (a := Value.none) (by first | rfl | (simp only [firstArgMember]; rfl)) ?_)
  refine wpAny_newObj_type ?_ (by size_fits)
  simp only [raiseNew]
  refine wpAny_bind (wpAny_handled ?_)
  first | rw [show A.in1.handled = none from hh] | rw [hh]
  refine wpAny_bind (wpAny_pure (wpAny_throw ?_))
  refine hE _ _ ⟨_, _, _, rfl, Heap.get?_push_size _ rfl, rfl, rfl, ?_⟩ (((Heap.SameBut.update ..).extBut.push _).push _)
  first
    | rfl
    | (rw [Array.getElem?_append_left (by decide)]; rfl)
    | kernel_rfl
end
def tYfLst (te : TE) : TYf := fun σ H Q => te σ H fun x H1 => ∃ a xs, x = .ref a ∧ H1 a = some (.lst xs) ∧ Q xs H1
theorem close_lst : typeLookup (.type "list_iterator") "close" = pure none := by rw [typeLookup_type, builtinLookup_eq_fast]; kernel_rfl
theorem yf_lst {X : Cx} {e : Expr} {te : TE} (he : PE X e te) : YfE X e (tYfLst te) := by
  refine ⟨fun pins s σ H Q I h => ?_⟩
  refine thn (he.run pins s σ H _ I h) fun v s1 ⟨x, H1, I1, r1, a, xs, ex, ha, hq⟩ => ?_
  subst ex
  obtain rfl : v = Value.ref a := r1
  obtain ⟨its, rits, p, hz⟩ := I1.list (.inl (.inl ha))
  have ht := p.isList
  refine ⟨"list", ht.typeIs, by decide, wpAny_pyIter_list ht ?_⟩
  have ksz : ∀ b o, s1.heap.get? b = some o → b ≠ s1.heap.objs.size := fun b o e => Nat.ne_of_lt (Heap.lt_size e)
  have kp : ∀ b o, s1.heap.get? b = some o → (s1.heap.push { cls := .type "list_iterator", data := .fields #[.ref a, .int 0 0] }).get? b = some o := fun b o e => Heap.get?_push_of_some _ e
  refine ⟨s1.heap.objs.size, H1, xs, fun j h => h.IsListIter s1.heap.objs.size a j ∧ h.IsList a its.toArray, rfl, I1.kept (t' := s1.toks) kp, .inr I1.sz, Nat.ne_of_gt I1.lt, fun y c hy => ?_, I1.hok.fresh (Nat.le_refl _), fun p hp => ?_,
    ⟨⟨_, Heap.get?_push_size _ rfl, rfl, rfl⟩, ht.push _⟩, ⟨⟨"list_iterator", fun j h q => ?_, close_lst, by decide⟩, fun j h h' q hk => ?_, fun A' j x s2 Q' E' hA hx q hQ => ?_, fun A' s2 Q' E' hA q hE => ?_⟩, hq⟩
  · obtain ⟨v, o, ho, _⟩ := I1.cell y c hy
    exact ksz c o ho
  · exact ksz p.1 _ (I1.pin p hp).1
  · obtain ⟨⟨o, ho, hc, _⟩, _⟩ := q
    exact ⟨o, ho, hc⟩
  · obtain ⟨⟨o, ho, r⟩, o2, ho2, r2⟩ := q
    exact ⟨⟨o, hk _ o (.inl rfl) ho, r⟩, o2, hk _ o2 (.inr (by rw [ha]; exact fun z => by cases z)) ho2, r2⟩
  · obtain ⟨q1, q2⟩ := q
    obtain ⟨u, hu, ru⟩ := rits.get hx
    have hne : a ≠ s1.heap.objs.size := by
      obtain ⟨ob, hob, _⟩ := ht
      exact ksz a ob hob
    exact special_lst_item q1 q2 (x := u) (by simpa using hu) fun h' q1' hs => hQ u h' s2.toks ru ⟨q1', q2.extBut hs.extBut hne⟩ fun b o hb eb => hs.extBut b o hb eb
  · obtain ⟨q1, q2⟩ := q
    have hnone : its.toArray[xs.length]? = none := by
      have e := rits.length
      have e2 : its[xs.length]? = none := List.getElem?_eq_none_iff.mpr (by omega)
      simpa using e2
    exact special_lst_end hA q1 q2 hnone fun e h' hS hk => hE e h' s2.toks hS fun b o hb eb => hk b o hb eb
end Lx
/-! three runs between letters tell a form -/
namespace Lw
open PySem PySem.Spec L2 Lx
open PySem.StrLaws
/-- a letter that is no sign of a break -/
abbrev Sep (e : Nat) : Prop := e ≠ 94 ∧ e ≠ 10
theorem repl1_sep {y e : Nat} {z : List Nat} (he : e ≠ y) (r : List Nat) : ∀ l, replL [y] z (l ++ e :: r) = replL [y] z l ++ e :: replL [y] z r
  | [] => by
    rw [replL_nil]
    show replL [y] z (e :: r) = e :: replL [y] z r
    exact replL_miss (by simpa using he)
  | c :: l => by
    have ih := repl1_sep (z := z) he r l
    by_cases h : c = y
    · subst h
      rw [List.cons_append, replL_hit (by simp) (by simp), replL_hit (by simp) (by simp)]
      show z ++ replL [c] z (l ++ e :: r) = z ++ replL [c] z l ++ _
      rw [ih, List.append_assoc]
    · rw [List.cons_append, replL_miss (by simpa using h), replL_miss (by simpa using h), ih]
      rfl
theorem repl2_sep {e : Nat} (he : Sep e) (r : List Nat) : ∀ (n : Nat) (l : List Nat), l.length ≤ n → replL [94, 10] [10] (l ++ e :: r) = replL [94, 10] [10] l ++ e :: replL [94, 10] [10] r
  | _, [], _ => by
    rw [replL_nil]
    show replL [94, 10] [10] (e :: r) = e :: replL [94, 10] [10] r
    exact replL_miss (by
      intro h
      have h1 : ([94, 10] : List Nat).length = 2 := rfl
      cases r with
      | nil => simp at h
      | cons a r => simp at h; exact he.1 h.1)
  | 0, c :: l, h => by simp at h
  | n + 1, [c], _ => by
    have m1 : replL [94, 10] [10] [c] = [c] := by rw [replL_miss (by simp), replL_nil]
    have m0 : replL [94, 10] [10] (e :: r) = e :: replL [94, 10] [10] r := repl2_sep he r 0 [] (Nat.le_refl _)
    rw [m1]
    show replL [94, 10] [10] (c :: e :: r) = _
    rw [replL_miss (by simp; intro _; exact he.2), m0]
    rfl
  | n + 1, c :: d :: l, h => by
    by_cases hh : c = 94 ∧ d = 10
    · obtain ⟨rfl, rfl⟩ := hh
      have ih := repl2_sep he r n l (by simp at h; omega)
      rw [List.cons_append, List.cons_append, replL_hit (by simp) (by simp), replL_hit (by simp) (by simp)]
      show [10] ++ replL [94, 10] [10] (l ++ e :: r) = [10] ++ replL [94, 10] [10] l ++ _
      rw [ih, List.append_assoc]
    · have ih := repl2_sep he r n (d :: l) (by simp at h ⊢; omega)
      rw [List.cons_append, replL_miss (by simp; intro h1 h2; exact hh ⟨h1, h2⟩), replL_miss (by simp; intro h1 h2; exact hh ⟨h1, h2⟩), ih]
      rfl
theorem stepT_sep {e : Nat} (he : Sep e) (c : Nat) (l r : List Nat) : stepT c (l ++ e :: r) = stepT c l ++ e :: stepT c r := by
  unfold stepT
  split
  · exact repl1_sep he.2 r l
  · split
    · exact repl2_sep he r _ l (Nat.le_refl _)
    · split
      · exact repl1_sep he.1 r l
      · exact repl1_sep he.2 r l
theorem doneT_sep {e : Nat} (he : Sep e) (cs : List Nat) : ∀ l r : List Nat, doneT (l ++ e :: r) cs = doneT l cs ++ e :: doneT r cs := by
  induction cs with
  | nil => exact fun _ _ => rfl
  | cons c cs ih =>
    intro l r
    show doneT (stepT c (l ++ e :: r)) cs = doneT (stepT c l) cs ++ e :: doneT (stepT c r) cs
    rw [stepT_sep he, ih]
theorem doneT_nil : ∀ cs : List Nat, doneT [] cs = []
  | [] => rfl
  | c :: cs => by
    have : stepT c [] = [] := by
      unfold stepT
      split
      · exact replL_nil
      · split
        · exact replL_nil
        · split <;> exact replL_nil
    show doneT (stepT c []) cs = []
    rw [this, doneT_nil cs]
/-- the text of three runs between letters -/
def tst (n : Nat) : List Nat := 97 :: (spT [] 1 ++ 98 :: (spT [0] 0 ++ 99 :: (spT [n] 0 ++ [100])))
theorem tst_done (n : Nat) (cs : List Nat) : doneT (tst n) cs = 97 :: (doneT (spT [] 1) cs ++ 98 :: (doneT (spT [0] 0) cs ++ 99 :: (doneT (spT [n] 0) cs ++ [100]))) := by
  have h1 : doneT (tst n) cs = doneT [] cs ++ 97 :: doneT (spT [] 1 ++ 98 :: (spT [0] 0 ++ 99 :: (spT [n] 0 ++ [100]))) cs := doneT_sep (by decide) cs [] _
  rw [h1, doneT_nil, doneT_sep (by decide), doneT_sep (by decide)]
  have h2 : doneT (spT [n] 0 ++ [100]) cs = doneT (spT [n] 0) cs ++ 100 :: doneT [] cs := doneT_sep (by decide) cs _ []
  rw [h2, doneT_nil]
  rfl
theorem sep_cut {e : Nat} : ∀ {a a' r r' : List Nat}, e ∉ a → e ∉ a' → a ++ e :: r = a' ++ e :: r' → a = a' ∧ r = r'
  | [], [], r, r', _, _, h => ⟨rfl, (List.cons.inj h).2⟩
  | [], c :: a', r, r', _, h2, h => absurd ((List.cons.inj h).1 ▸ List.mem_cons_self) h2
  | c :: a, [], r, r', h1, _, h => absurd ((List.cons.inj h).1 ▸ List.mem_cons_self) h1
  | c :: a, d :: a', r, r', h1, h2, h => by
    obtain ⟨e1, e2⟩ := List.cons.inj h
    obtain ⟨i1, i2⟩ := sep_cut (fun z => h1 (List.mem_cons_of_mem _ z)) (fun z => h2 (List.mem_cons_of_mem _ z)) e2
    exact ⟨by rw [e1, i1], i2⟩
theorem spT_mem {rows : List Nat} {rest e : Nat} (he : Sep e) : e ∉ spT rows rest := by
  intro h
  have up' : ∀ n, e ∉ up n := fun n h => he.1 (List.mem_replicate.mp h).2
  rcases List.mem_append.mp h with h | h
  · obtain ⟨j, _, h⟩ := List.mem_flatMap.mp h
    rcases List.mem_append.mp h with h | h
    · exact up' _ h
    · exact he.2 (List.mem_singleton.mp h)
  · exact up' _ h
theorem up_inj {a b : Nat} (h : up a = up b) : a = b := by
  have := congrArg List.length h
  simpa [up] using this
theorem map_up_inj : ∀ {a b : List Nat}, a.map up = b.map up → a = b
  | [], [], _ => rfl
  | [], _ :: _, h => by simp at h
  | _ :: _, [], h => by simp at h
  | x :: a, y :: b, h => by
    rw [List.map_cons, List.map_cons] at h
    obtain ⟨h1, h2⟩ := List.cons.inj h
    rw [up_inj h1, map_up_inj h2]
theorem spT_inj {rows rows' : List Nat} {rest rest' : Nat} (h : spT rows rest = spT rows' rest') : rows = rows' ∧ rest = rest' := by
  have h1 := congrArg (TL.spl [10] 0 []) h
  rw [spT_cut, spT_cut] at h1
  have h2 : ([rows ++ [rest]].flatten).map up = ([rows' ++ [rest']].flatten).map up := by simpa using h1
  have h3 := map_up_inj h2
  have h4 : rows ++ [rest] = rows' ++ [rest'] := by simpa using h3
  have := List.append_inj' h4 rfl
  exact ⟨this.1, (List.cons.inj this.2).1⟩
theorem mul_inj {k a b : Nat} (hk : 0 < k) (h : k * a = k * b) : a = b := Nat.eq_of_mul_eq_mul_left hk h
theorem rep_inj {k k' c c' : Nat} (hk : 0 < k) (h : List.replicate k c = List.replicate k' c') : k = k' ∧ c = c' := by
  have h1 := congrArg List.length h
  rw [List.length_replicate, List.length_replicate] at h1
  subst h1
  cases k with
  | zero => cases hk
  | succ k =>
    rw [List.replicate_succ, List.replicate_succ] at h
    exact ⟨rfl, (List.cons.inj h).1⟩
/-- what a form makes of the three runs -/
theorem said_keep (b a n : Nat) : saidT (.keep b a) [] 1 = spT [] 1 ∧ saidT (.keep b a) [0] 0 = spT [a] 0 ∧ saidT (.keep b a) [n] 0 = spT [n - b + a] 0 := by
  refine ⟨rfl, ?_, ?_⟩
  · show spT [0 - (b : Int).toNat + (a : Int).toNat] 0 = _
    rw [Int.toNat_natCast, Int.toNat_natCast, Nat.zero_sub, Nat.zero_add]
  · show spT [n - (b : Int).toNat + (a : Int).toNat] 0 = _
    rw [Int.toNat_natCast, Int.toNat_natCast]
theorem unT_one (j : Nat) : unT [j] 0 = j + 1 := by simp [unT]
theorem said_lf (b a k c n : Nat) : saidT (.lf b a k c) [] 1 = spT (List.replicate (k * 1) c) 0 ∧ saidT (.lf b a k c) [0] 0 = spT (List.replicate (k * (a + 1)) c) 0 ∧ saidT (.lf b a k c) [n] 0 = spT (List.replicate (k * (n - b + a + 1)) c) 0 := by
  refine ⟨?_, ?_, ?_⟩
  · show spT (List.replicate ((k : Int).toNat * unT [] 1) (c : Int).toNat) 0 = _
    rw [Int.toNat_natCast, Int.toNat_natCast]
    rfl
  · show spT (List.replicate ((k : Int).toNat * unT [0 - (b : Int).toNat + (a : Int).toNat] 0) (c : Int).toNat) 0 = _
    rw [Int.toNat_natCast, Int.toNat_natCast, Int.toNat_natCast, Int.toNat_natCast, Nat.zero_sub, Nat.zero_add, unT_one]
  · show spT (List.replicate ((k : Int).toNat * unT [n - (b : Int).toNat + (a : Int).toNat] 0) (c : Int).toNat) 0 = _
    rw [Int.toNat_natCast, Int.toNat_natCast, Int.toNat_natCast, Int.toNat_natCast, unT_one]
theorem said_cr (b a k n : Nat) : saidT (.cr b a k) [] 1 = spT [] (k * 1) ∧ saidT (.cr b a k) [0] 0 = spT [] (k * (a + 1)) ∧ saidT (.cr b a k) [n] 0 = spT [] (k * (n - b + a + 1)) := by
  refine ⟨?_, ?_, ?_⟩
  · show spT [] ((k : Int).toNat * unT [] 1) = _
    rw [Int.toNat_natCast]
    rfl
  · show spT [] ((k : Int).toNat * unT [0 - (b : Int).toNat + (a : Int).toNat] 0) = _
    rw [Int.toNat_natCast, Int.toNat_natCast, Int.toNat_natCast, Nat.zero_sub, Nat.zero_add, unT_one]
  · show spT [] ((k : Int).toNat * unT [n - (b : Int).toNat + (a : Int).toNat] 0) = _
    rw [Int.toNat_natCast, Int.toNat_natCast, Int.toNat_natCast, unT_one]
theorem said_tell {m : Nat} {f g : Fm} (hf : f.Ok m) (hg : g.Ok m) {n : Nat} (bf : f.b ≤ n) (bg : g.b ≤ n)
    (h1 : saidT f [] 1 = saidT g [] 1) (h2 : saidT f [0] 0 = saidT g [0] 0) (h3 : saidT f [n] 0 = saidT g [n] 0) : f = g := by
  rcases natF hf with ⟨b, a, rfl⟩ | ⟨b, a, k, c, rfl⟩ | ⟨b, a, k, rfl⟩ <;> rcases natF hg with ⟨b', a', rfl⟩ | ⟨b', a', k', c', rfl⟩ | ⟨b', a', k', rfl⟩
  · obtain ⟨-, e2, e3⟩ := said_keep b a n
    obtain ⟨-, e2', e3'⟩ := said_keep b' a' n
    rw [e2, e2'] at h2
    rw [e3, e3'] at h3
    have q2 := (List.cons.inj (spT_inj h2).1).1
    have q3 := (List.cons.inj (spT_inj h3).1).1
    have p1 : (b : Int) ≤ n := bf
    have p2 : (b' : Int) ≤ n := bg
    have : b = b' := by omega
    rw [this, q2]
  · obtain ⟨e1, -, -⟩ := said_keep b a n
    obtain ⟨e1', -, -⟩ := said_lf b' a' k' c' n
    rw [e1, e1'] at h1
    have := (spT_inj h1).2
    omega
  · obtain ⟨-, e2, -⟩ := said_keep b a n
    obtain ⟨-, e2', -⟩ := said_cr b' a' k' n
    rw [e2, e2'] at h2
    cases (spT_inj h2).1
  · obtain ⟨e1, -, -⟩ := said_lf b a k c n
    obtain ⟨e1', -, -⟩ := said_keep b' a' n
    rw [e1, e1'] at h1
    have := (spT_inj h1).2
    omega
  · obtain ⟨e1, e2, e3⟩ := said_lf b a k c n
    obtain ⟨e1', e2', e3'⟩ := said_lf b' a' k' c' n
    rw [e1, e1'] at h1
    rw [e2, e2'] at h2
    rw [e3, e3'] at h3
    have hk : 0 < k := by have := hf.2.2.1; omega
    obtain ⟨q1, qc⟩ := rep_inj (by omega) (spT_inj h1).1
    have qk : k = k' := by omega
    subst qk
    have q2 := (rep_inj (Nat.mul_pos hk (Nat.succ_pos _)) (spT_inj h2).1).1
    have q3 := (rep_inj (Nat.mul_pos hk (Nat.succ_pos _)) (spT_inj h3).1).1
    have qa := mul_inj hk q2
    have qb := mul_inj hk q3
    have p1 : (b : Int) ≤ n := bf
    have p2 : (b' : Int) ≤ n := bg
    have ea : a = a' := by omega
    have eb : b = b' := by omega
    rw [ea, eb, qc]
  · obtain ⟨e1, -, -⟩ := said_lf b a k c n
    obtain ⟨e1', -, -⟩ := said_cr b' a' k' n
    rw [e1, e1'] at h1
    have hk : 0 < k' := by have := hg.2.2.1; omega
    have := (spT_inj h1).2
    omega
  · obtain ⟨-, e2, -⟩ := said_cr b a k n
    obtain ⟨-, e2', -⟩ := said_keep b' a' n
    rw [e2, e2'] at h2
    cases (spT_inj h2).1
  · obtain ⟨e1, -, -⟩ := said_cr b a k n
    obtain ⟨e1', -, -⟩ := said_lf b' a' k' c' n
    rw [e1, e1'] at h1
    have hk : 0 < k := by have := hf.2.2.1; omega
    have := (spT_inj h1).2
    omega
  · obtain ⟨e1, e2, e3⟩ := said_cr b a k n
    obtain ⟨e1', e2', e3'⟩ := said_cr b' a' k' n
    rw [e1, e1'] at h1
    rw [e2, e2'] at h2
    rw [e3, e3'] at h3
    have hk : 0 < k := by have := hf.2.2.1; omega
    have qk : k = k' := by have := (spT_inj h1).2; omega
    subst qk
    have qa := mul_inj hk (spT_inj h2).2
    have qb := mul_inj hk (spT_inj h3).2
    have p1 : (b : Int) ≤ n := bf
    have p2 : (b' : Int) ≤ n := bg
    have ea : a = a' := by omega
    have eb : b = b' := by omega
    rw [ea, eb]
end Lw
namespace Lw
open PySem PySem.Spec L2 Lx
/-! ### the runs of a text -/
abbrev Rn := List (Int × Int) × Int
/-- the run with these groups, one by one, and a rest -/
def rnT (rows : List Nat) (rest : Nat) : Rn := (Lx.merged (rows.map fun n : Nat => ((1 : Int), (n : Int))), (rest : Int))
def spc (c : Nat) : Nat := if c = 94 ∨ c = 10 then c else 32
def rowsOf (l : List Nat) : List Nat := ((TL.spl [10] 0 [] l).dropLast).map List.length
def restOf (l : List Nat) : Nat := ((TL.spl [10] 0 [] l).getLast?.getD []).length
theorem rowsOf_spT (rows : List Nat) (rest : Nat) : rowsOf (spT rows rest) = rows := by
  unfold rowsOf
  rw [spT_cut, List.dropLast_concat, List.map_map]
  have : (List.length ∘ up) = id := funext fun n => by simp [up]
  rw [this, List.map_id]
theorem restOf_spT (rows : List Nat) (rest : Nat) : restOf (spT rows rest) = rest := by
  unfold restOf
  rw [spT_cut, List.getLast?_concat]
  simp [up]
/-- the run of a text of signs alone -/
def rpT (l : List Nat) : Rn := rnT (rowsOf l) (restOf l)
theorem rpT_spT (rows : List Nat) (rest : Nat) : rpT (spT rows rest) = rnT rows rest := by
  unfold rpT
  rw [rowsOf_spT, restOf_spT]
def piecesT (l : List Nat) : List (List Nat) := (TL.spl [32] 0 [] (l.map spc)).filter fun p => !p.isEmpty
def runsT (l : List Nat) : List Rn := (piecesT l).map rpT
def Signs (l : List Nat) : Prop := ∀ c ∈ l, c = 94 ∨ c = 10
theorem spT_signs (rows : List Nat) (rest : Nat) : Signs (spT rows rest) := fun c hc => by
  unfold spT at hc
  rcases List.mem_append.mp hc with h | h
  · obtain ⟨j, _, h⟩ := List.mem_flatMap.mp h
    rcases List.mem_append.mp h with h | h
    · exact .inl (List.mem_replicate.mp h).2
    · exact .inr (List.mem_singleton.mp h)
  · exact .inl (List.mem_replicate.mp h).2
theorem map_spc {l : List Nat} (h : Signs l) : l.map spc = l := by
  induction l with
  | nil => rfl
  | cons c l ih =>
    rw [List.map_cons, ih fun d hd => h d (List.mem_cons_of_mem _ hd)]
    unfold spc
    rw [if_pos (h c (List.mem_cons_self ..))]
theorem not32 {l : List Nat} (h : Signs l) : 32 ∉ l := fun z => by rcases h 32 z with e | e <;> cases e
theorem spl32 {l : List Nat} (h : Signs l) {e : Nat} (he : Sep e) (r : List Nat) : TL.spl [32] 0 [] ((l ++ e :: r).map spc) = l :: TL.spl [32] 0 [] (r.map spc) := by
  have e1 : spc e = 32 := by
    unfold spc
    rw [if_neg (by rcases he with ⟨a, b⟩; omega)]
  rw [List.map_append, List.map_cons, map_spc h, e1]
  have := TL.spl_part1 (s := 32) (S := []) (p := l) (rest := r.map spc) (acc := []) (not32 h)
  rw [List.nil_append] at this
  exact this
theorem spl32_last {l : List Nat} (h : Signs l) : TL.spl [32] 0 [] (l.map spc) = [l] := by
  rw [map_spc h]
  have := TL.spl_last1 (s := 32) (S := []) (p := l) (acc := []) (not32 h)
  rw [List.nil_append] at this
  exact this
theorem pieces_cons {l : List Nat} (h : Signs l) {e : Nat} (he : Sep e) (r : List Nat) : piecesT (l ++ e :: r) = (if l = [] then [] else [l]) ++ piecesT r := by
  unfold piecesT
  rw [spl32 h he]
  cases l with
  | nil => rfl
  | cons c l => rfl
theorem pieces_last {l : List Nat} (h : Signs l) : piecesT l = if l = [] then [] else [l] := by
  unfold piecesT
  rw [spl32_last h]
  cases l with
  | nil => rfl
  | cons c l => rfl
/-- a text is runs between other letters -/
theorem cut_text : ∀ l : List Nat, ∃ a : List Nat, Signs a ∧ (l = a ∨ ∃ e r, Sep e ∧ l = a ++ e :: r ∧ r.length < l.length)
  | [] => ⟨[], (fun c h => by cases h), .inl rfl⟩
  | c :: l => by
    by_cases h : c = 94 ∨ c = 10
    · obtain ⟨a, ha, h2⟩ := cut_text l
      refine ⟨c :: a, fun d hd => ?_, ?_⟩
      · rcases List.mem_cons.mp hd with rfl | hd
        · exact h
        · exact ha d hd
      · rcases h2 with rfl | ⟨e, r, he, rfl, hl⟩
        · exact .inl rfl
        · exact .inr ⟨e, r, he, rfl, by rw [List.length_cons]; omega⟩
    · exact ⟨[], (fun d hd => by cases hd), .inr ⟨c, l, ⟨fun z => h (.inl z), fun z => h (.inr z)⟩, rfl, by rw [List.length_cons]; omega⟩⟩
theorem piece_ok : ∀ (n : Nat) (l : List Nat), l.length ≤ n → ∀ p ∈ piecesT l, Signs p ∧ p ≠ [] ∧ p.length ≤ l.length
  | n, l, hn, p, hp => by
    obtain ⟨a, ha, h | ⟨e, r, he, h, hl⟩⟩ := cut_text l
    · rw [h] at hp ⊢
      rw [pieces_last ha] at hp
      by_cases c : a = []
      · rw [if_pos c] at hp; cases hp
      · rw [if_neg c] at hp
        rw [List.mem_singleton.mp hp]
        exact ⟨ha, c, Nat.le_refl _⟩
    · cases n with
      | zero => omega
      | succ n =>
        have ih := piece_ok n r (by omega)
        rw [h, pieces_cons ha he] at hp
        have hle : l.length = a.length + (r.length + 1) := by rw [h, List.length_append, List.length_cons]
        rcases List.mem_append.mp hp with hp | hp
        · by_cases c : a = []
          · rw [if_pos c] at hp; cases hp
          · rw [if_neg c] at hp
            rw [List.mem_singleton.mp hp]
            exact ⟨ha, c, by omega⟩
        · obtain ⟨h1, h2, h3⟩ := ih p hp
          exact ⟨h1, h2, by omega⟩
theorem spl_len (S : List Nat) : ∀ (l : List Nat) (k : Nat) (acc : List Nat), (TL.spl S k acc l).length ≤ l.length + 1
  | [], k, acc => by rw [TL.spl_nil]; simp
  | c :: l, 0, acc => by
    by_cases h : TL.pre S (c :: l) = true
    · rw [TL.spl_hit h, List.length_cons, List.length_cons]
      have := spl_len S l (S.length - 1) []
      omega
    · rw [TL.spl_miss (by simpa using h), List.length_cons]
      have := spl_len S l 0 (acc ++ [c])
      omega
  | c :: l, k + 1, acc => by
    show (TL.spl S k acc l).length ≤ _
    rw [List.length_cons]
    have := spl_len S l k acc
    omega
theorem rows_small {rows : List Nat} {rest : Nat} : rows.length ≤ (spT rows rest).length ∧ rest ≤ (spT rows rest).length ∧ ∀ n ∈ rows, n ≤ (spT rows rest).length := by
  have ms : ∀ {l : List Nat} {n : Nat}, n ∈ l → n ≤ l.sum := fun {l n} h => by
    induction l with
    | nil => cases h
    | cons a l ih =>
      rw [List.sum_cons]
      rcases List.mem_cons.mp h with rfl | h
      · omega
      · have := ih h
        omega
  rw [spT_len]
  unfold unT
  exact ⟨by omega, by omega, fun n h => by have := ms h; omega⟩
/-- the truth of e, K said outright -/
def tTruK (K : PySem.W.Frag) (ta : TE) : L2.TT := fun σ H Q => ta σ H fun x H' => ∃ k, TruV K x H' k ∧ Q k H'
theorem pt_truthK {X : Cx} {K : PySem.W.Frag} {a : Expr} {ta : TE} (hK : X.K = K) (ha : PE X a ta) (he : ∀ whole, isTrue a X.env whole = (do let v ← whole; standAt a.pos; holding [v] (truthy v))) :
    PT X a (tTruK K ta) := by
  subst hK
  exact pt_truth ha he
/-! ### lists of runs, a list apart -/
inductive RnsD (K : PySem.W.Frag) (H : Hp) (D : Addr) : List V → List Rn → Prop
  | nil : RnsD K H D [] []
  | cons {v : V} {vs : List V} {r : Rn} {rs : List Rn} : (∃ l, l ≠ D ∧ RnS K H v l r) → RnsD K H D vs rs → RnsD K H D (v :: vs) (r :: rs)
theorem RnsD.same {K : PySem.W.Frag} {H H' : Hp} {D : Addr} (s : Same H H') : ∀ {vs rs}, RnsD K H D vs rs → RnsD K H' D vs rs
  | _, _, .nil => .nil
  | _, _, .cons ⟨l, n, h⟩ t => .cons ⟨l, n, h.same s⟩ (t.same s)
theorem RnsD.lstUpd {K : PySem.W.Frag} {H : Hp} {D : Addr} {ys : List V} {o : HO} (e : H D = some (.lst ys)) : ∀ {vs rs}, RnsD K H D vs rs → RnsD K (upd H D o) D vs rs
  | _, _, .nil => .nil
  | _, _, .cons ⟨l, n, h⟩ t => .cons ⟨l, n, h.upd e n⟩ (RnsD.lstUpd e t)
theorem RnsD.append {K : PySem.W.Frag} {H : Hp} {D : Addr} : ∀ {vs ws rs qs}, RnsD K H D vs rs → RnsD K H D ws qs → RnsD K H D (vs ++ ws) (rs ++ qs)
  | _, _, _, _, .nil, h => h
  | _, _, _, _, .cons a t, h => .cons a (t.append h)
theorem RnsD.rns {K : PySem.W.Frag} {H : Hp} {D : Addr} : ∀ {vs rs}, RnsD K H D vs rs → Rns K H vs rs
  | _, _, .nil => .nil
  | _, _, .cons ⟨l, _, h⟩ t => .cons ⟨l, h⟩ t.rns
theorem RnsD.len {K : PySem.W.Frag} {H : Hp} {D : Addr} {vs rs} (h : RnsD K H D vs rs) : vs.length = rs.length := h.rns.len
end Lw
namespace Lw
open PySem PySem.Spec L2 Lx
theorem scLE : FnScope ["self", "other"] ["self", "other"] (defScope sLineFile___eq__) := ⟨rfl, rfl, rfl, by decide +kernel, rfl, by decide +kernel, by decide +kernel⟩
def plainTs : List String := ["NoneType", "str", "list", "int", "tuple", "dict", "bool"]
/-- what == of files needs of the linked program -/
structure LEq (K : PySem.W.Frag) (C : Addr) : Prop where
  ca : PySem.W.findIn K (.ref C) "__class__" = some (some (.builtin "object.__class__"))
  sp : PySem.W.specialIn K (.builtin "object.__class__") "__get__" = some (some (.builtin "getset_descriptor.__get__"))
  tk : PySem.W.takesIn K (.builtin "object.__class__") = some true
  ob : PySem.W.mroIn K C (.type "object") = some true
  kit : ∀ T ∈ plainTs, PySem.W.kitOne K (.type T) (.ref C) = some false
  nf : ∀ T ∈ plainTs, PySem.W.notFirst K C (.type T) = true
theorem kit_plain {K : PySem.W.Frag} {C : Addr} {T : String} (hh : PySem.W.hasDictIn K C = true) (ht : PySem.W.typeIn K (.ref C) = some (.type "type")) (hn : PySem.W.notFirst K C (.type T) = true) : PySem.W.kitOne K (.type T) (.ref C) = some false := by
  obtain ⟨cd, hc, _⟩ := PySem.W.any_some hh
  have e : PySem.W.subIn K (.type T) (.ref C) = some false := by
    unfold PySem.W.notFirst at hn
    rcases Bool.or_eq_true_iff.mp hn with e | e
    · have := beq_iff_eq.mp e
      cases this
    · exact beq_iff_eq.mp e
  unfold PySem.W.kitOne
  rw [if_neg (by simp)]
  unfold PySem.W.kitCls
  simp only [hc, ht, e]
  simp
/-- y is the other file, or no file -/
def REq (K : PySem.W.Frag) (C : Addr) : Addr → V → Hp → Bool → Prop := fun a y H b => ∃ (e : Addr) (x z : Str), LfAt C H a e x z ∧
  ((∃ (q e2 : Addr) (x2 z2 : Str), y = .ref q ∧ LfAt C H q e2 x2 z2 ∧ b = decide (doneT x.cps.toList z.cps.toList = doneT x2.cps.toList z2.cps.toList)) ∨ ((∃ T ∈ plainTs, TyX K H y (.type T)) ∧ b = false))
section
variable {P : Program} {w : World} {K : PySem.W.Frag} {mg : Str → Option Value} {base : Heap}
theorem LEq.ty {C : Addr} (Z : LEq K C) (T : LTxt K mg C) {H : Hp} {q e2 : Addr} {x2 z2 : Str} (h : LfAt C H q e2 x2 z2) : TyX K H (.ref q) (.ref C) := by
  obtain ⟨dx, y, ts, h1, _⟩ := h
  exact .base (.ins h1 T.cl Z.ca Z.sp Z.tk Z.ob)
theorem ok_leq {f C : Addr} {fd : FuncData} {k : Nat} (F : Fun K "__eq__" "LineFile.__eq__" sLineFile___eq__ f fd) (T : LTxt K mg C) (Z : LEq K C) (mi : mg "isinstance" = none) : FnOk P w K mg base CX0 (k + 1) f fd ["self", "other"] (spEqB (REq K C)) := by
  refine F.ok scLE (fun vs H Q E h => ?_) (fun cdv A outer s H vs Q E hr h => ?_)
  · obtain ⟨a, y, b, rfl, _⟩ := h
    rfl
  · obtain ⟨a, y, b, rfl, ⟨e, x, z, hL, hy⟩, q⟩ := h
    refine ⟨_, pss_one (ps_ret (pe_and (pe_callB call_isi (by rfl) mi (by decide +kernel) (pa_cons (pv 1) (pa_cons (pe_glob (v := .ref C) rfl T.mgC rfl) pa_nil))) (pe_one (pe_cmpR op_eq (pe_fld (pv 0) rfl) (pe_fld (pv 1) rfl) (nomark _))))), ?_⟩
    rcases hy with ⟨p, e2, x2, z2, rfl, hL2, rfl⟩ | ⟨⟨T0, hT0, hty⟩, rfl⟩
    · have hty := Z.ty T hL2
      obtain ⟨dx, y1, ts, h1, h2, h3⟩ := hL
      obtain ⟨dx2, y2, ts2, g1, g2, g3⟩ := hL2
      have kt : PySem.W.kitOne K (.ref C) (.ref C) = some true := by
        unfold PySem.W.kitOne
        rw [if_pos (by simp)]
      refine ⟨_, rfl, _, _, _, _, true, rfl, .own C, hty, kt, true, rfl, iteT ?_⟩
      refine ⟨_, rfl, a, C, dx, _, _, rfl, h1, T.cl, T.nT, rfl, _, rfl, p, C, dx2, _, _, rfl, g1, T.cl, T.nT, rfl, rfl, ?_⟩
      have e : decide (V.str y1 = V.str y2) = decide (doneT x.cps.toList z.cps.toList = doneT x2.cps.toList z2.cps.toList) := by
        rw [← h3.y, ← g3.y]
        by_cases h : y1 = y2
        · subst h; simp
        · rw [decide_eq_false (fun q => h (V.str.inj q)), decide_eq_false (fun q => h (Str.ext' (Array.toList_inj.mp q)))]
      rw [e]
      exact q
    · exact ⟨_, rfl, _, _, _, _, false, rfl, .own C, hty, Z.kit T0 hT0, false, rfl, iteF q⟩
theorem scLL : GScope ["self"] ["self"] (defScope sLineFile_lines) := ⟨rfl, rfl, rfl, by decide +kernel, rfl, by decide +kernel, by decide +kernel⟩
def spLLines (C : Addr) : SpG := fun vs H cont _ => ∃ (p e : Addr) (x z : Str), vs = [.ref p] ∧ LfAt C H p e x z ∧ (doneT x.cps.toList z.cps.toList).length ≤ 1000000 ∧ ∀ (out : List Str) H', Same H H' → (∃ y : Str, y.cps.toList = doneT x.cps.toList z.cps.toList ∧ out = Txt.split y "\n") → cont (out.map V.str) H'
theorem ok_llines {f C : Addr} {fd : FuncData} {k : Nat} (F : Fun K "lines" "LineFile.lines" sLineFile_lines f fd) (T : LTxt K mg C) : GFn P w K mg base (k + 1) f fd ["self"] (spLLines C) := by
  obtain ⟨oc, od, kV, doc, pm, an, cdv, ct, osl, rfl, lk, hcd⟩ := F.ex
  refine gfn_of lk hcd scLL (fun vs H Q E h => ?_) (fun A outer s H vs Q E pn hr h => ?_)
  · obtain ⟨p, e, x, z, rfl, _⟩ := h
    rfl
  · obtain ⟨p, e, x, z, rfl, ⟨dx, y, ts, h1, h2, h3⟩, hl, q⟩ := h
    refine ⟨_, gss_cons (gs_yieldFrom (yf_lst (pe_split (pe_fld (pv 0) rfl) pe_str)) hr.hd) gss_nil, ?_⟩
    have yl : y.cps.toList.length = y.cps.size := Array.length_toList ..
    have hy : y.cps.size ≤ 1000000 := by rw [← yl, h3.y]; exact hl
    have hps : (Txt.split y "\n").map TL.tl = TL.spl [10] 0 [] y.cps.toList := TL.split_spl y "\n" (by decide) (TL.kind_ok (by decide +kernel))
    have hpl : (Txt.split y "\n").length ≤ y.cps.size + 1 := by
      have g1 := congrArg List.length hps
      rw [List.length_map] at g1
      have g2 := spl_len [10] y.cps.toList 0 []
      omega
    refine ⟨_, rfl, p, C, dx, _, _, rfl, h1, T.cl, T.nT, rfl, ⟨_, rfl⟩, y, "\n", rfl, rfl, rfl, by rw [sizeLine_eq]; show y.cps.size + 2 ≤ _; omega, fun l nl => ⟨l, _, rfl, upd_same, ?_, ?_⟩⟩
    · rw [List.length_map, sizeLine_eq]
      show 0 + _ ≤ _
      omega
    · exact q _ _ (same_upd nl) ⟨y, h3.y, rfl⟩
end
end Lw
/-! newlines counted: one less than the pieces between them; the pieces put together again; lines with endings -/
namespace Lw
open PySem PySem.Spec L2 Lx PySem.StrLaws
theorem nl_spl (x : Str) : (Txt.split x "\n").map TL.tl = TL.spl [10] 0 [] x.cps.toList := TL.split_spl x "\n" (by decide) (TL.kind_ok (by decide +kernel))
theorem spl_cnt : ∀ (l acc : List Nat), ((TL.spl [10] 0 acc l).length : Int) = PyProof.Rows.cnt 10 l + 1
  | [], acc => rfl
  | c :: r, acc => by
    rw [PyProof.Rows.cnt_cons]
    by_cases h : c = 10
    · subst h
      rw [TL.spl_hit (by simp [TL.pre]), TL.spl_pass]
      show ((_ :: TL.spl [10] 0 [] r).length : Int) = _
      rw [List.length_cons, Int.natCast_add, spl_cnt r []]
      rw [if_pos rfl]
      omega
    · rw [TL.spl_miss (by simp [TL.pre, h]), spl_cnt r (acc ++ [c]), if_neg h]
      omega
theorem ct_cnt (x : Str) : Txt.count x "\n" = PyProof.Rows.cnt 10 x.cps.toList := PyProof.Rows.count_cnt x 10
theorem ct_split (x : Str) : Txt.count x "\n" = ((Txt.split x "\n").length : Int) - 1 := by
  have h := congrArg List.length (nl_spl x)
  rw [List.length_map] at h
  rw [ct_cnt, h, spl_cnt]
  omega
theorem joinL_ne (S p : List Nat) {r : List (List Nat)} (h : r ≠ []) : TL.joinL S (p :: r) = p ++ (S ++ TL.joinL S r) := by
  cases r with
  | nil => exact absurd rfl h
  | cons q t => rfl
theorem spl_ne (S : List Nat) (k : Nat) (l acc : List Nat) : TL.spl S k acc l ≠ [] := by
  induction l generalizing k acc with
  | nil => rw [TL.spl_nil]; simp
  | cons c r ih =>
    cases k with
    | zero =>
      unfold TL.spl
      split
      · simp
      · exact ih _ _
    | succ k => exact ih _ _
theorem join_spl : ∀ (l acc : List Nat), TL.joinL [10] (TL.spl [10] 0 acc l) = acc ++ l
  | [], acc => by rw [TL.spl_nil, List.append_nil]; rfl
  | c :: r, acc => by
    by_cases h : c = 10
    · subst h
      rw [TL.spl_hit (by simp [TL.pre]), TL.spl_pass]
      show TL.joinL [10] (acc :: TL.spl [10] 0 [] r) = _
      rw [joinL_ne _ _ (spl_ne _ _ _ _), join_spl r []]
      rfl
    · rw [TL.spl_miss (by simp [TL.pre, h]), join_spl r (acc ++ [c]), List.append_assoc]
      rfl
theorem join_split (x : Str) : Txt.join "\n" (Txt.split x "\n") = x := by
  refine TL.ext_tl ?_
  rw [TL.join_eq, TL.tl_join, nl_spl]
  exact join_spl _ []
/-- lines, each followed by an ending -/
def ej (e : List Nat) (xs : List Str) : List Nat := xs.flatMap fun x => x.cps.toList ++ e
theorem joinL_nil : ∀ l : List (List Nat), TL.joinL [] l = l.flatten
  | [] => rfl
  | [p] => by show p = _; simp
  | p :: q :: r => by
    show p ++ ([] ++ TL.joinL [] (q :: r)) = _
    rw [joinL_nil (q :: r)]
    rfl
theorem ej_join (e : Str) (xs : List Str) : (Txt.join "" (xs.map fun x => x ++ e)).cps.toList = ej e.cps.toList xs := by
  show TL.tl _ = _
  rw [TL.join_eq, TL.tl_join]
  show TL.joinL [] _ = _
  rw [joinL_nil, List.map_map]
  unfold ej
  rw [List.flatMap_def]
  congr 1
  refine List.map_congr_left fun x _ => ?_
  exact TL.tl_append x e
theorem ej_U {xs : List Str} (h : ∀ x ∈ xs, 10 ∉ x.cps.toList) (z : List Nat) : replL [10] z (ej [10] xs) = ej z xs := by
  rw [rep2]
  unfold ej
  rw [List.flatMap_assoc, List.flatMap_def, List.flatMap_def]
  refine congrArg List.flatten (List.map_congr_left fun x hx => ?_)
  rw [List.flatMap_append]
  congr 1
  · have := h x hx
    revert this
    generalize x.cps.toList = l
    intro h10
    induction l with
    | nil => rfl
    | cons c r ih =>
      have hc : c ≠ 10 := fun e => h10 (by rw [e]; exact List.mem_cons_self ..)
      rw [List.flatMap_cons, if_neg hc, ih fun q => h10 (List.mem_cons_of_mem _ q)]
      rfl
  · simp
theorem ej_M {xs : List Str} (h : ∀ x ∈ xs, 94 ∉ x.cps.toList) : replL [94] [10] (ej [94] xs) = ej [10] xs := by
  rw [rep2]
  unfold ej
  rw [List.flatMap_assoc, List.flatMap_def, List.flatMap_def]
  refine congrArg List.flatten (List.map_congr_left fun x hx => ?_)
  rw [List.flatMap_append]
  congr 1
  · have := h x hx
    revert this
    generalize x.cps.toList = l
    intro h10
    induction l with
    | nil => rfl
    | cons c r ih =>
      have hc : c ≠ 94 := fun e => h10 (by rw [e]; exact List.mem_cons_self ..)
      rw [List.flatMap_cons, if_neg hc, ih fun q => h10 (List.mem_cons_of_mem _ q)]
      rfl

theorem st_U {xs : List Str} (h : ∀ x ∈ xs, 10 ∉ x.cps.toList) : stepT 85 (ej [10] xs) = ej [94, 10] xs := ej_U h _
theorem st_N {xs : List Str} (h : ∀ x ∈ xs, 10 ∉ x.cps.toList) : stepT 78 (ej [10] xs) = ej [94] xs := ej_U h _
theorem st_M {xs : List Str} (h : ∀ x ∈ xs, 94 ∉ x.cps.toList) : stepT 77 (ej [94] xs) = ej [10] xs := ej_M h
theorem st_D {xs : List Str} (h : ∀ x ∈ xs, 10 ∉ x.cps.toList) : stepT 68 (ej [94, 10] xs) = ej [10] xs := by
  rw [← st_U h, step_UD]
/-- newlines in lines with endings -/
theorem cnt_app (a b : List Nat) : PyProof.Rows.cnt 10 (a ++ b) = PyProof.Rows.cnt 10 a + PyProof.Rows.cnt 10 b := by
  induction a with
  | nil => rw [List.nil_append, PyProof.Rows.cnt_nil]; omega
  | cons c r ih =>
    rw [List.cons_append, PyProof.Rows.cnt_cons, PyProof.Rows.cnt_cons, ih]
    omega
theorem cnt_free {l : List Nat} (h : 10 ∉ l) : PyProof.Rows.cnt 10 l = 0 := by
  induction l with
  | nil => rfl
  | cons c r ih =>
    have hc : c ≠ 10 := fun e => h (by rw [e]; exact List.mem_cons_self ..)
    rw [PyProof.Rows.cnt_cons, ih fun q => h (List.mem_cons_of_mem _ q), if_neg hc]
    rfl
theorem cnt_ej (e : List Nat) {xs : List Str} (h : ∀ x ∈ xs, 10 ∉ x.cps.toList) : PyProof.Rows.cnt 10 (ej e xs) = (xs.length : Int) * PyProof.Rows.cnt 10 e := by
  induction xs with
  | nil => show (0 : Int) = 0 * _; rw [Int.zero_mul]
  | cons x r ih =>
    show PyProof.Rows.cnt 10 ((x.cps.toList ++ e) ++ ej e r) = _
    rw [cnt_app, cnt_app, cnt_free (h x (List.mem_cons_self ..)), ih fun y hy => h y (List.mem_cons_of_mem _ hy), List.length_cons, Int.natCast_add, Int.add_mul]
    show _ = _ + 1 * _
    omega
/-- the pieces of lines with endings -/
theorem ej_pieces {x : Str} (z : Str) {xs : List Str} (hx : x.cps.toList = ej (z.cps.toList ++ [10]) xs) (h : ∀ y ∈ xs, 10 ∉ y.cps.toList) (hz : 10 ∉ z.cps.toList) :
    Txt.split x "\n" = xs.map (fun y => y ++ z) ++ [("" : Str)] := by
  have e : x = Txt.join "\n" (xs.map (fun y => y ++ z) ++ [("" : Str)]) := by
    refine TL.ext_tl ?_
    rw [TL.join_eq, TL.tl_join]
    show x.cps.toList = TL.joinL [10] _
    rw [hx]
    clear hx h
    induction xs with
    | nil => rfl
    | cons y r ih =>
      rw [List.map_cons, List.cons_append, List.map_cons, joinL_ne _ _ (by simp), ← ih]
      show (y.cps.toList ++ (z.cps.toList ++ [10])) ++ ej _ r = TL.tl (y ++ z) ++ _
      rw [TL.tl_append]
      show _ = (y.cps.toList ++ z.cps.toList) ++ ([10] ++ _)
      simp only [List.append_assoc]
  rw [e]
  refine TL.split_join (s := 10) (S := []) rfl (by decide +kernel) (by simp) fun p hp => ?_
  rcases List.mem_append.mp hp with hp | hp
  · obtain ⟨y, hy, rfl⟩ := List.mem_map.mp hp
    rw [TL.tl_append]
    intro q
    rcases List.mem_append.mp q with q | q
    · exact h y hy q
    · exact hz q
  · obtain rfl := List.mem_singleton.mp hp
    decide +kernel
theorem ej_len (e : List Nat) {n : Nat} {xs : List Str} (h : ∀ x ∈ xs, x.length ≤ n) : (ej e xs).length ≤ xs.length * (n + e.length) := by
  induction xs with
  | nil => exact Nat.zero_le _
  | cons x r ih =>
    show ((x.cps.toList ++ e) ++ ej e r).length ≤ _
    have h1 := h x (List.mem_cons_self ..)
    have h2 := ih fun y hy => h y (List.mem_cons_of_mem _ hy)
    have h3 : x.cps.toList.length = x.length := Array.length_toList ..
    rw [List.length_append, List.length_append, List.length_cons, Nat.add_mul]
    omega
end Lw
namespace Lw
open PySem PySem.Spec L2 Lx
/-! lists of texts as data -/
theorem app_list (x y : Str) : (x ++ y).cps.toList = x.cps.toList ++ y.cps.toList := Array.toList_append ..
theorem sok_of {x : Str} (h : ∀ c ∈ x.cps.toList, c < 128) : PyData.strOk x = true := by
  unfold PyData.strOk
  rw [← Array.all_toList, List.all_eq_true]
  intro c hc
  exact decide_eq_true (Nat.lt_trans (h c hc) (by decide))
theorem dp_strs {K : PySem.W.Frag} {H : Hp} : ∀ xs : List Str, DpAll K H (xs.map V.str) (xs.map PyData.str)
  | [] => .nil
  | x :: r => .cons (.str x) (dp_strs r)
theorem lay_strs : ∀ {xs : List Str}, (∀ x ∈ xs, PyData.strOk x = true) → PyData.canLayAll0 (xs.map PyData.str) = true
  | [], _ => by simp only [List.map_nil, PyData.canLayAll0]
  | x :: r, h => by
    simp only [List.map_cons, PyData.canLayAll0, PyData.canLay0, h x (List.mem_cons_self ..), lay_strs fun y hy => h y (List.mem_cons_of_mem _ hy), Bool.and_self]
theorem dep_strs : ∀ xs : List Str, PyData.depthAll (xs.map PyData.str) = 0
  | [] => by simp only [List.map_nil, PyData.depthAll]
  | x :: r => by simp only [List.map_cons, PyData.depthAll, PyData.depth, dep_strs r, Nat.max_self]
theorem sh_strs {xs : List Str} (h : ∀ x ∈ xs, PyData.strOk x = true) : SeqAt.shaped (.list (xs.map PyData.str)) = true := by
  unfold SeqAt.shaped
  simp only [PyData.canLay0, lay_strs h, PyData.depth, dep_strs, Bool.true_and]
  decide
theorem eqv_strs {xs : List Str} (h : ∀ x ∈ xs, PyData.strOk x = true) : PyData.eqv (.list (xs.map PyData.str)) (.list (xs.map PyData.str)) = true := SeqAt.eqv_refl _ (SeqAt.canLay_of_shaped (sh_strs h))
theorem small_strs : ∀ {xs : List Str}, (∀ x ∈ xs, ∀ c ∈ x.cps.toList, c < 128) → small.smallAll (xs.map PyData.str) = true
  | [], _ => by simp only [List.map_nil, small.smallAll]
  | x :: r, h => by
    simp only [List.map_cons, small.smallAll, small, small_strs fun y hy => h y (List.mem_cons_of_mem _ hy), Bool.and_true, List.all_eq_true, decide_eq_true_eq]
    exact h x (List.mem_cons_self ..)
theorem app_nil (y : Str) : y ++ ("" : Str) = y := TL.ext_tl (by rw [TL.tl_append]; exact List.append_nil _)
theorem spl_low : ∀ (l acc : List Nat), (∀ c ∈ acc ++ l, c < 128) → ∀ p ∈ TL.spl [10] 0 acc l, ∀ c ∈ p, c < 128
  | [], acc, h, p, hp, c, hc => by
    rw [TL.spl_nil] at hp
    rw [List.mem_singleton.mp hp] at hc
    exact h c (List.mem_append_left _ hc)
  | d :: r, acc, h, p, hp, c, hc => by
    by_cases hd : d = 10
    · subst hd
      rw [TL.spl_hit (by simp [TL.pre]), TL.spl_pass] at hp
      rcases List.mem_cons.mp hp with rfl | hp
      · exact h c (List.mem_append_left _ hc)
      · exact spl_low r [] (fun c hc => h c (List.mem_append_right _ (List.mem_cons_of_mem _ hc))) p hp c hc
    · rw [TL.spl_miss (by simp [TL.pre, hd])] at hp
      refine spl_low r (acc ++ [d]) (fun c hc => h c ?_) p hp c hc
      rw [List.append_assoc] at hc
      exact hc
theorem split_low {x : Str} (h : Low x) : ∀ y ∈ Txt.split x "\n", Low y := fun y hy c hc => by
  have hm : TL.tl y ∈ TL.spl [10] 0 [] x.cps.toList := by
    rw [← nl_spl]
    exact List.mem_map_of_mem hy
  exact spl_low _ [] h _ hm c hc
theorem cutV_lastR (ys : List V) (z : V) : cutV (ys ++ [z]) none (some (-1)) = ys := by
  unfold cutV HT.sIx
  rw [List.length_append, List.length_singleton]
  simp only [List.drop_zero, Nat.sub_zero]
  rw [if_pos (by decide)]
  have : ((-1 : Int) + ((ys.length + 1 : Nat) : Int)).toNat = ys.length := by omega
  rw [this, List.take_left]
end Lw
namespace Lw
open PySem PySem.Spec L2 Lx
/-! ### products and sums of factors -/
def pr : List Nat → Nat
  | [] => 1
  | g :: gs => g * pr gs
theorem pr_app : ∀ a b : List Nat, pr (a ++ b) = pr a * pr b
  | [], b => (Nat.one_mul _).symm
  | g :: a, b => by
    show g * pr (a ++ b) = g * pr a * pr b
    rw [pr_app a b, Nat.mul_assoc]
theorem pr_snoc (a : List Nat) (g : Nat) : pr (a ++ [g]) = pr a * g := by
  rw [pr_app]
  show pr a * (g * 1) = _
  rw [Nat.mul_one]
/-- a prime -/
def Pm (p : Nat) : Prop := 2 ≤ p ∧ ∀ d, d ∣ p → d = 1 ∨ d = p
theorem Pm.dvd_mul {p a b : Nat} (hp : Pm p) (h : p ∣ a * b) : p ∣ a ∨ p ∣ b := by
  rcases hp.2 (Nat.gcd p a) (Nat.gcd_dvd_left p a) with h1 | h1
  · exact .inr (Nat.Coprime.dvd_of_dvd_mul_left h1 h)
  · exact .inl (h1 ▸ Nat.gcd_dvd_right p a)
theorem Pm.dvd_pr {p : Nat} (hp : Pm p) : ∀ {gs : List Nat}, p ∣ pr gs → ∃ a g b, gs = a ++ g :: b ∧ p ∣ g
  | [], h => by
    have := Nat.le_of_dvd (by decide) h
    have := hp.1
    show _
    exact absurd this (by change ¬ 2 ≤ p; show ¬ 2 ≤ p; have h1 : p ≤ 1 := ‹p ≤ pr []›; omega)
  | g :: gs, h => by
    rcases hp.dvd_mul h with h1 | h1
    · exact ⟨[], g, gs, rfl, h1⟩
    · obtain ⟨a, y, b, e, hy⟩ := hp.dvd_pr h1
      exact ⟨g :: a, y, b, by rw [e]; rfl, hy⟩
theorem pr_mid (a b : List Nat) (g : Nat) : pr (a ++ g :: b) = g * pr (a ++ b) := by
  rw [pr_app, pr_app]
  show pr a * (g * pr b) = _
  rw [← Nat.mul_assoc, Nat.mul_comm (pr a) g, Nat.mul_assoc]
theorem sum_mid (a b : List Nat) (g : Nat) : (a ++ g :: b).sum = g + (a ++ b).sum := by
  rw [List.sum_append, List.sum_append, List.sum_cons]
  omega
theorem pr_pos {gs : List Nat} (h : ∀ g ∈ gs, 2 ≤ g) : 0 < pr gs := by
  induction gs with
  | nil => exact Nat.one_pos
  | cons g gs ih => exact Nat.mul_pos (by have := h g (List.mem_cons_self ..); omega) (ih fun x hx => h x (List.mem_cons_of_mem _ hx))
/-- no way to write a product has a smaller sum than the one by primes -/
theorem min_sum : ∀ {fs : List Nat}, (∀ p ∈ fs, Pm p) → ∀ {gs : List Nat}, (∀ g ∈ gs, 2 ≤ g) → pr fs = pr gs → fs.sum ≤ gs.sum
  | [], _, gs, _, _ => Nat.zero_le _
  | p :: fs, hf, gs, hg, e => by
    have hp := hf p (List.mem_cons_self ..)
    obtain ⟨a, g, b, rfl, m, rfl⟩ := hp.dvd_pr (show p ∣ pr gs from ⟨pr fs, e.symm⟩)
    have hab : ∀ x ∈ a ++ b, 2 ≤ x := fun x hx => hg x (by
      rcases List.mem_append.mp hx with h | h
      · exact List.mem_append_left _ h
      · exact List.mem_append_right _ (List.mem_cons_of_mem _ h))
    have hg2 := hg (p * m) (by simp)
    have p0 : 0 < p := by have := hp.1; omega
    rw [pr_mid, Nat.mul_assoc] at e
    have e2 : pr fs = m * pr (a ++ b) := Nat.eq_of_mul_eq_mul_left p0 e
    rw [sum_mid, List.sum_cons]
    by_cases h1 : m = 1
    · subst h1
      rw [Nat.one_mul] at e2
      have := min_sum (fun q hq => hf q (List.mem_cons_of_mem _ hq)) hab e2
      omega
    · have hm : 2 ≤ m := by
        rcases m with _ | _ | m
        · rw [Nat.mul_zero] at hg2; omega
        · exact absurd rfl h1
        · omega
      have := min_sum (fun q hq => hf q (List.mem_cons_of_mem _ hq)) (gs := m :: (a ++ b)) (fun x hx => by
        rcases List.mem_cons.mp hx with rfl | h
        · exact hm
        · exact hab x h) e2
      rw [List.sum_cons] at this
      have : p + m ≤ p * m := by
        have h2 : 2 ≤ p := hp.1
        obtain ⟨x, rfl⟩ := Nat.exists_eq_add_of_le h2
        obtain ⟨y, rfl⟩ := Nat.exists_eq_add_of_le hm
        rw [Nat.add_mul, Nat.mul_add, Nat.mul_add]
        omega
      omega
/-! ### what one step makes of a form -/
theorem st_kU {b a : Int} (h : 0 ≤ a) : (Fm.keep b a).both (.keep 0 1) = .keep b (a + 1) := by
  show Fm.keep (b + (if 0 - a > 0 then 0 - a else 0)) ((if a - 0 > 0 then a - 0 else 0) + 1) = _
  congr 1 <;> split <;> omega
theorem st_kD {b a : Int} (h : 0 ≤ a) : (Fm.keep b a).both (.keep 1 0) = if a = 0 then .keep (b + 1) 0 else .keep b (a - 1) := by
  show Fm.keep (b + (if 1 - a > 0 then 1 - a else 0)) ((if a - 1 > 0 then a - 1 else 0) + 0) = _
  split <;> split <;> split <;> congr 1 <;> omega
theorem st_kM {b a : Int} (h : 0 ≤ a) : (Fm.keep b a).both (.lf 0 0 1 0) = .lf b a 1 0 := by
  show Fm.lf (b + (if 0 - a > 0 then 0 - a else 0)) ((if a - 0 > 0 then a - 0 else 0) + 0) 1 0 = _
  congr 1 <;> split <;> omega
theorem st_kN {b a : Int} (h : 0 ≤ a) : (Fm.keep b a).both (.cr 0 0 1) = .cr b a 1 := by
  show Fm.cr (b + (if 0 - a > 0 then 0 - a else 0)) ((if a - 0 > 0 then a - 0 else 0) + 0) 1 = _
  congr 1 <;> split <;> omega
theorem st_lU {b a k c : Int} (h : 0 ≤ c) : (Fm.lf b a k c).both (.keep 0 1) = .lf b a k (c + 1) := by
  show Fm.lf b a k ((if c - 0 > 0 then c - 0 else 0) + 1) = _
  congr 1
  split <;> omega
theorem st_lD {b a k c : Int} (h : 0 ≤ c) : (Fm.lf b a k c).both (.keep 1 0) = .lf b a k (if c - 1 > 0 then c - 1 else 0) := by
  show Fm.lf b a k ((if c - 1 > 0 then c - 1 else 0) + 0) = _
  rw [Int.add_zero]
theorem st_lM {b a k c : Int} (h : 0 ≤ c) : (Fm.lf b a k c).both (.lf 0 0 1 0) = .lf b a (k * (c + 1)) 0 := by
  have e1 : Fm.after (.lf 0 0 1 0) c = c := by
    unfold Fm.after Fm.b Fm.a
    dsimp only
    split <;> omega
  show Fm.lf b a (k * (Fm.after (.lf 0 0 1 0) c + 1) * 1) 0 = _
  rw [e1, Int.mul_one]
theorem st_lN {b a k c : Int} (h : 0 ≤ c) : (Fm.lf b a k c).both (.cr 0 0 1) = .cr b a (k * (c + 1)) := by
  have e1 : Fm.after (.cr 0 0 1) c = c := by
    unfold Fm.after Fm.b Fm.a
    dsimp only
    split <;> omega
  show Fm.cr b a (k * (Fm.after (.cr 0 0 1) c + 1) * 1) = _
  rw [e1, Int.mul_one]
theorem st_cM {b a k : Int} : (Fm.cr b a k).both (.lf 0 0 1 0) = .lf b a k 0 := by
  show Fm.lf b a (k * 1 * 1) 0 = _
  rw [Int.mul_one, Int.mul_one]
theorem st_cN {b a k : Int} : (Fm.cr b a k).both (.cr 0 0 1) = .cr b a k := by
  show Fm.cr b a (k * 1 * 1) = _
  rw [Int.mul_one, Int.mul_one]
/-! ### a chain has at least the fewest steps of its form -/
/-- a form that a chain of n steps may have -/
def LowB : Fm → Nat → Prop
  | .keep b a, n => 0 ≤ b ∧ 0 ≤ a ∧ b + a ≤ n
  | .lf b a k c, n => 0 ≤ b ∧ 0 ≤ a ∧ 0 ≤ c ∧ ∃ gs : List Nat, (∀ g ∈ gs, 2 ≤ g) ∧ (pr gs : Int) = k ∧ b + a + 1 + (gs.sum : Int) + c ≤ n
  | .cr b a k, n => 0 ≤ b ∧ 0 ≤ a ∧ ∃ gs : List Nat, (∀ g ∈ gs, 2 ≤ g) ∧ (pr gs : Int) = k ∧ b + a + 1 + (gs.sum : Int) ≤ n
theorem low_mul {k c : Int} {gs : List Nat} (hc : 0 ≤ c) (hg : ∀ g ∈ gs, 2 ≤ g) (hk : (pr gs : Int) = k) : ∃ hs : List Nat, (∀ g ∈ hs, 2 ≤ g) ∧ (pr hs : Int) = k * (c + 1) ∧ (hs.sum : Int) ≤ gs.sum + c + 1 := by
  by_cases h0 : c = 0
  · subst h0
    exact ⟨gs, hg, by rw [Int.zero_add, Int.mul_one]; exact hk, by omega⟩
  · obtain ⟨c, rfl⟩ := Int.eq_ofNat_of_zero_le hc
    refine ⟨gs ++ [c + 1], fun g h => ?_, ?_, ?_⟩
    · rcases List.mem_append.mp h with h | h
      · exact hg g h
      · rw [List.mem_singleton.mp h]; omega
    · rw [pr_snoc, Int.natCast_mul, hk]
      rfl
    · rw [List.sum_append]
      show ((gs.sum + (c + 1 + 0) : Nat) : Int) ≤ _
      omega
theorem low_step {f : Fm} {n : Nat} {c : Nat} (hc : c ∈ steps.cps.toList) (h : LowB f n) : LowB (f.both (stepF c)) (n + 1) := by
  rcases step_cases hc with e | e | e | e <;> rw [e]
  · cases f with
    | keep b a =>
      obtain ⟨h1, h2, h3⟩ := h
      rw [st_kU h2]
      exact ⟨h1, by omega, by omega⟩
    | lf b a k c =>
      obtain ⟨h1, h2, h3, gs, h4, h5, h6⟩ := h
      rw [st_lU h3]
      exact ⟨h1, h2, by omega, gs, h4, h5, by omega⟩
    | cr b a k =>
      obtain ⟨h1, h2, gs, h4, h5, h6⟩ := h
      exact ⟨h1, h2, gs, h4, h5, by omega⟩
  · cases f with
    | keep b a =>
      obtain ⟨h1, h2, h3⟩ := h
      rw [st_kD h2]
      split
      · exact ⟨by omega, by decide, by omega⟩
      · exact ⟨h1, by omega, by omega⟩
    | lf b a k c =>
      obtain ⟨h1, h2, h3, gs, h4, h5, h6⟩ := h
      rw [st_lD h3]
      refine ⟨h1, h2, by split <;> omega, gs, h4, h5, by split <;> omega⟩
    | cr b a k =>
      obtain ⟨h1, h2, gs, h4, h5, h6⟩ := h
      exact ⟨h1, h2, gs, h4, h5, by omega⟩
  · cases f with
    | keep b a =>
      obtain ⟨h1, h2, h3⟩ := h
      rw [st_kM h2]
      exact ⟨h1, h2, by decide, [], (fun g h => by cases h), rfl, by show b + a + 1 + 0 + 0 ≤ _; omega⟩
    | lf b a k c =>
      obtain ⟨h1, h2, h3, gs, h4, h5, h6⟩ := h
      rw [st_lM h3]
      obtain ⟨hs, q1, q2, q3⟩ := low_mul h3 h4 h5
      exact ⟨h1, h2, by decide, hs, q1, q2, by omega⟩
    | cr b a k =>
      obtain ⟨h1, h2, gs, h4, h5, h6⟩ := h
      rw [st_cM]
      exact ⟨h1, h2, by decide, gs, h4, h5, by omega⟩
  · cases f with
    | keep b a =>
      obtain ⟨h1, h2, h3⟩ := h
      rw [st_kN h2]
      exact ⟨h1, h2, [], (fun g h => by cases h), rfl, by show b + a + 1 + 0 ≤ _; omega⟩
    | lf b a k c =>
      obtain ⟨h1, h2, h3, gs, h4, h5, h6⟩ := h
      rw [st_lN h3]
      obtain ⟨hs, q1, q2, q3⟩ := low_mul h3 h4 h5
      exact ⟨h1, h2, hs, q1, q2, by omega⟩
    | cr b a k =>
      obtain ⟨h1, h2, gs, h4, h5, h6⟩ := h
      rw [st_cN]
      exact ⟨h1, h2, gs, h4, h5, by omega⟩
theorem low_form : ∀ (n : Nat) (cs : List Nat), cs.length = n → (∀ c ∈ cs, c ∈ steps.cps.toList) → LowB (formL cs) n
  | 0, cs, h, _ => by
    rw [List.length_eq_zero_iff.mp h]
    exact ⟨by decide, by decide, by decide⟩
  | n + 1, cs, h, hc => by
    rcases List.eq_nil_or_concat cs with rfl | ⟨ds, c, rfl⟩
    · cases h
    · rw [List.concat_eq_append] at h hc ⊢
      rw [formL_snoc]
      exact low_step (hc c (by simp)) (low_form n ds (by simpa using h) fun d hd => hc d (List.mem_append_left _ hd))
/-! ### steps of a form whose k is the product of primes -/
/-- the primes of a form -/
def Prim : Fm → List Nat → Prop
  | .keep _ _, fs => fs = []
  | .lf _ _ k _, fs => (∀ p ∈ fs, Pm p) ∧ (pr fs : Int) = k
  | .cr _ _ k, fs => (∀ p ∈ fs, Pm p) ∧ (pr fs : Int) = k
def stepsF : Fm → List Nat → Int
  | .keep b a, _ => b + a
  | .lf b a _ c, fs => b + a + 1 + (fs.sum : Int) + c
  | .cr b a _, fs => b + a + 1 + (fs.sum : Int)
theorem steps_le {f : Fm} {n : Nat} {fs : List Nat} (h : LowB f n) (hp : Prim f fs) : stepsF f fs ≤ n := by
  cases f with
  | keep b a => exact h.2.2
  | lf b a k c =>
    obtain ⟨h1, h2, h3, gs, h4, h5, h6⟩ := h
    have := min_sum hp.1 h4 (Int.ofNat_inj.mp (hp.2.trans h5.symm))
    show b + a + 1 + (fs.sum : Int) + c ≤ n
    omega
  | cr b a k =>
    obtain ⟨h1, h2, gs, h4, h5, h6⟩ := h
    have := min_sum hp.1 h4 (Int.ofNat_inj.mp (hp.2.trans h5.symm))
    show b + a + 1 + (fs.sum : Int) ≤ n
    omega
theorem steps_min {x : Str} (hx : ChOk x) {fs : List Nat} (hp : Prim (formOf x) fs) : stepsF (formOf x) fs ≤ x.cps.size := steps_le (low_form _ x.cps.toList (Array.length_toList ..) hx) hp
end Lw
namespace Lw
open PySem PySem.Spec L2 Lx
/-! ### the chain that a list of factors gives -/
def go (f : Fm) (cs : List Nat) : Fm := cs.foldl (fun f c => f.both (stepF c)) f
theorem go_app (f : Fm) (a b : List Nat) : go f (a ++ b) = go (go f a) b := List.foldl_append
theorem go_nothing (cs : List Nat) : go nothing cs = formL cs := rfl
theorem go_one (f : Fm) (c : Nat) : go f [c] = f.both (stepF c) := rfl
theorem go_D : ∀ (n : Nat) {b : Int}, go (.keep b 0) (List.replicate n 68) = .keep (b + n) 0
  | 0, b => by show Fm.keep b 0 = Fm.keep (b + 0) 0; rw [Int.add_zero]
  | n + 1, b => by
    show go ((Fm.keep b 0).both (.keep 1 0)) (List.replicate n 68) = _
    rw [st_kD (by decide), if_pos rfl, go_D n]
    congr 1
    omega
theorem go_kU : ∀ (n : Nat) {b a : Int}, 0 ≤ a → go (.keep b a) (List.replicate n 85) = .keep b (a + n)
  | 0, b, a, _ => by show Fm.keep b a = Fm.keep b (a + 0); rw [Int.add_zero]
  | n + 1, b, a, h => by
    show go ((Fm.keep b a).both (.keep 0 1)) (List.replicate n 85) = _
    rw [st_kU h, go_kU n (by omega)]
    congr 1
    omega
theorem go_lU : ∀ (n : Nat) {b a k c : Int}, 0 ≤ c → go (.lf b a k c) (List.replicate n 85) = .lf b a k (c + n)
  | 0, b, a, k, c, _ => by show Fm.lf b a k c = Fm.lf b a k (c + 0); rw [Int.add_zero]
  | n + 1, b, a, k, c, h => by
    show go ((Fm.lf b a k c).both (.keep 0 1)) (List.replicate n 85) = _
    rw [st_lU h, go_lU n (by omega)]
    congr 1
    omega
def seg (p : Nat) : List Nat := List.replicate (p - 1) 85 ++ [77]
def segs (gs : List Nat) : List Nat := gs.flatMap seg
theorem go_segs : ∀ (gs : List Nat), (∀ g ∈ gs, 1 ≤ g) → ∀ {b a k : Int}, go (.lf b a k 0) (segs gs) = .lf b a (k * (pr gs : Int)) 0
  | [], _, b, a, k => by show Fm.lf b a k 0 = Fm.lf b a (k * 1) 0; rw [Int.mul_one]
  | g :: gs, h, b, a, k => by
    have hg := h g (List.mem_cons_self ..)
    show go (.lf b a k 0) (seg g ++ segs gs) = _
    rw [go_app]
    have e : go (.lf b a k 0) (seg g) = .lf b a (k * (g : Int)) 0 := by
      unfold seg
      rw [go_app, go_lU _ (by decide)]
      show (Fm.lf b a k (0 + ((g - 1 : Nat) : Int))).both (.lf 0 0 1 0) = _
      rw [st_lM (by omega)]
      congr 2
      omega
    rw [e, go_segs gs fun x hx => h x (List.mem_cons_of_mem _ hx)]
    congr 1
    show k * (g : Int) * (pr gs : Int) = k * ((g * pr gs : Nat) : Int)
    rw [Int.natCast_mul, Int.mul_assoc]
def startL (b a : Int) : List Nat := List.replicate b.toNat 68 ++ List.replicate a.toNat 85
theorem go_start {b a : Int} (hb : 0 ≤ b) (ha : 0 ≤ a) : formL (startL b a) = .keep b a := by
  rw [← go_nothing]
  unfold startL
  rw [go_app, go_D, go_kU _ (by decide), Int.toNat_of_nonneg ha]
  congr 1 <;> omega
def shc : Fm → List Nat → List Nat
  | .keep b a, _ => startL b a
  | .lf b a _ c, gs => startL b a ++ (77 :: segs gs) ++ List.replicate c.toNat 85
  | .cr b a _, gs => startL b a ++ (77 :: segs gs).dropLast ++ [78]
theorem segs_snoc (gs : List Nat) (g : Nat) : 77 :: segs (gs ++ [g]) = (77 :: segs gs) ++ List.replicate (g - 1) 85 ++ [77] := by
  unfold segs
  rw [List.flatMap_append]
  show 77 :: (gs.flatMap seg ++ (seg g ++ [])) = _
  rw [List.append_nil]
  unfold seg
  simp
theorem drop_snoc (gs : List Nat) (g : Nat) : (77 :: segs (gs ++ [g])).dropLast = (77 :: segs gs) ++ List.replicate (g - 1) 85 := by
  rw [segs_snoc, List.dropLast_concat]
/-- factors of a form -/
def Fac : Fm → List Nat → Prop
  | .keep b a, _ => 0 ≤ b ∧ 0 ≤ a
  | .lf b a k c, gs => 0 ≤ b ∧ 0 ≤ a ∧ 0 ≤ c ∧ (∀ g ∈ gs, 2 ≤ g) ∧ (pr gs : Int) = k
  | .cr b a k, gs => 0 ≤ b ∧ 0 ≤ a ∧ (∀ g ∈ gs, 2 ≤ g) ∧ (pr gs : Int) = k
theorem shc_form {f : Fm} {gs : List Nat} (h : Fac f gs) : formL (shc f gs) = f := by
  have one : ∀ {l : List Nat}, (∀ g ∈ l, 2 ≤ g) → ∀ g ∈ l, 1 ≤ g := fun h g hg => by have := h g hg; omega
  cases f with
  | keep b a => exact go_start h.1 h.2
  | lf b a k c =>
    obtain ⟨h1, h2, h3, h4, h5⟩ := h
    unfold shc
    rw [← go_nothing, go_app, go_app, go_nothing, go_start h1 h2]
    show go (go ((Fm.keep b a).both (.lf 0 0 1 0)) (segs gs)) _ = _
    rw [st_kM h2, go_segs gs (one h4), go_lU _ (by decide), Int.one_mul, h5]
    congr 1
    omega
  | cr b a k =>
    obtain ⟨h1, h2, h4, h5⟩ := h
    unfold shc
    rw [← go_nothing, go_app, go_app, go_nothing, go_start h1 h2]
    rcases List.eq_nil_or_concat gs with rfl | ⟨ds, g, rfl⟩
    · show go (.keep b a) [78] = _
      show (Fm.keep b a).both (.cr 0 0 1) = _
      rw [st_kN h2, ← h5]
      rfl
    · rw [List.concat_eq_append] at h4 h5 ⊢
      have hg : 2 ≤ g := h4 g (by simp)
      rw [drop_snoc, go_app]
      show go (go (go ((Fm.keep b a).both (.lf 0 0 1 0)) (segs ds)) (List.replicate (g - 1) 85)) [78] = _
      rw [st_kM h2, go_segs ds (one fun x hx => h4 x (List.mem_append_left _ hx)), go_lU _ (by decide)]
      show (Fm.lf b a _ _).both (.cr 0 0 1) = _
      rw [st_lN (by omega), ← h5, pr_snoc]
      congr 1
      rw [Int.one_mul, Int.natCast_mul]
      congr 1
      omega
theorem segs_len : ∀ {gs : List Nat}, (∀ g ∈ gs, 1 ≤ g) → (segs gs).length = gs.sum
  | [], _ => rfl
  | g :: gs, h => by
    have hg := h g (List.mem_cons_self ..)
    have ih := segs_len fun x hx => h x (List.mem_cons_of_mem _ hx)
    show (seg g ++ segs gs).length = _
    rw [List.length_append, ih, List.sum_cons]
    unfold seg
    rw [List.length_append, List.length_replicate]
    show g - 1 + 1 + _ = _
    omega
theorem start_len {b a : Int} (hb : 0 ≤ b) (ha : 0 ≤ a) : ((startL b a).length : Int) = b + a := by
  unfold startL
  rw [List.length_append, List.length_replicate, List.length_replicate]
  omega
theorem shc_len {f : Fm} {gs : List Nat} (h : Fac f gs) : ((shc f gs).length : Int) = stepsF f gs := by
  have one : ∀ {l : List Nat}, (∀ g ∈ l, 2 ≤ g) → ∀ g ∈ l, 1 ≤ g := fun h g hg => by have := h g hg; omega
  cases f with
  | keep b a => exact start_len h.1 h.2
  | lf b a k c =>
    obtain ⟨h1, h2, h3, h4, h5⟩ := h
    have e1 := start_len h1 h2
    have e2 := segs_len (one h4)
    unfold shc
    rw [List.length_append, List.length_append, List.length_cons, List.length_replicate]
    show _ = b + a + 1 + (gs.sum : Int) + c
    omega
  | cr b a k =>
    obtain ⟨h1, h2, h4, h5⟩ := h
    have e1 := start_len h1 h2
    have e2 := segs_len (one h4)
    unfold shc
    rw [List.length_append, List.length_append, List.length_dropLast, List.length_cons]
    show ((((startL b a).length + ((segs gs).length + 1 - 1) + 1 : Nat)) : Int) = b + a + 1 + (gs.sum : Int)
    omega
theorem seg_ok {p c : Nat} (h : c ∈ seg p) : c = 85 ∨ c = 77 := by
  unfold seg at h
  rcases List.mem_append.mp h with h | h
  · exact .inl (List.mem_replicate.mp h).2
  · exact .inr (List.mem_singleton.mp h)
theorem segs_ok {gs : List Nat} {c : Nat} (h : c ∈ 77 :: segs gs) : c = 85 ∨ c = 77 := by
  rcases List.mem_cons.mp h with h | h
  · exact .inr h
  · obtain ⟨g, _, hg⟩ := List.mem_flatMap.mp h
    exact seg_ok hg
theorem start_ok {b a : Int} {c : Nat} (h : c ∈ startL b a) : c = 68 ∨ c = 85 := by
  unfold startL at h
  rcases List.mem_append.mp h with h | h
  · exact .inl (List.mem_replicate.mp h).2
  · exact .inr (List.mem_replicate.mp h).2
theorem steps_list : steps.cps.toList = [85, 68, 77, 78] := by decide
theorem shc_ok {f : Fm} {gs : List Nat} : ∀ c ∈ shc f gs, c ∈ steps.cps.toList := fun c h => by
  rw [steps_list]
  simp only [List.mem_cons, List.not_mem_nil, or_false]
  cases f with
  | keep b a => rcases start_ok h with h | h <;> omega
  | lf b a k d =>
    unfold shc at h
    rcases List.mem_append.mp h with h | h
    · rcases List.mem_append.mp h with h | h
      · rcases start_ok h with h | h <;> omega
      · rcases segs_ok h with h | h <;> omega
    · have := (List.mem_replicate.mp h).2
      omega
  | cr b a k =>
    unfold shc at h
    rcases List.mem_append.mp h with h | h
    · rcases List.mem_append.mp h with h | h
      · rcases start_ok h with h | h <;> omega
      · rcases segs_ok (List.dropLast_subset _ h) with h | h <;> omega
    · have := List.mem_singleton.mp h
      omega
/-- a form of at most n steps has a chain -/
theorem low_chain {f : Fm} {n : Nat} (h : LowB f n) : ∃ cs : List Nat, (∀ c ∈ cs, c ∈ steps.cps.toList) ∧ cs.length ≤ n ∧ formL cs = f := by
  have main : ∀ gs, Fac f gs → stepsF f gs ≤ n → ∃ cs : List Nat, (∀ c ∈ cs, c ∈ steps.cps.toList) ∧ cs.length ≤ n ∧ formL cs = f := fun gs hf hs =>
    ⟨shc f gs, shc_ok, by have := shc_len hf; omega, shc_form hf⟩
  cases f with
  | keep b a => exact main [] ⟨h.1, h.2.1⟩ h.2.2
  | lf b a k c =>
    obtain ⟨h1, h2, h3, gs, h4, h5, h6⟩ := h
    exact main gs ⟨h1, h2, h3, h4, h5⟩ h6
  | cr b a k =>
    obtain ⟨h1, h2, gs, h4, h5, h6⟩ := h
    exact main gs ⟨h1, h2, h4, h5⟩ h6
theorem low_mono {f : Fm} {n m : Nat} (h : LowB f n) (k : n ≤ m) : LowB f m := by
  cases f with
  | keep b a => exact ⟨h.1, h.2.1, by have := h.2.2; omega⟩
  | lf b a k' c =>
    obtain ⟨h1, h2, h3, gs, h4, h5, h6⟩ := h
    exact ⟨h1, h2, h3, gs, h4, h5, by omega⟩
  | cr b a k' =>
    obtain ⟨h1, h2, gs, h4, h5, h6⟩ := h
    exact ⟨h1, h2, gs, h4, h5, by omega⟩
theorem low_both {f g : Fm} {n m : Nat} (hf : LowB f n) (hg : LowB g m) (hn : n + m ≤ 7000) : LowB (f.both g) (n + m) := by
  obtain ⟨cs, c1, c2, rfl⟩ := low_chain hf
  obtain ⟨ds, d1, d2, rfl⟩ := low_chain hg
  have e : ∀ {l : List Nat}, (∀ c ∈ l, c ∈ steps.cps.toList) → ChOk ⟨l.toArray⟩ := fun h => h
  have := formOf_app (x := ⟨cs.toArray⟩) (y := ⟨ds.toArray⟩) (e c1) (e d1) (by show cs.length + ds.length ≤ 7000; omega)
  have h2 : formOf ((⟨cs.toArray⟩ : Str) ++ ⟨ds.toArray⟩) = formL (cs ++ ds) := by
    show formL (cs.toArray ++ ds.toArray).toList = _
    rw [Array.toList_append]
  have h3 : formL (cs ++ ds) = (formL cs).both (formL ds) := h2.symm.trans this
  rw [← h3]
  exact low_mono (low_form _ (cs ++ ds) rfl fun c hc => by
    rcases List.mem_append.mp hc with h | h
    · exact c1 c h
    · exact d1 c h) (by rw [List.length_append]; omega)
end Lw
namespace Lw
open PySem PySem.Spec L2 Lx
/-! ### how much longer a form makes a text -/
def wt : Fm → Nat
  | .keep _ a => a.toNat + 1
  | .lf _ a k c => (a.toNat + 1) * (k.toNat * (c.toNat + 1))
  | .cr _ a k => (a.toNat + 1) * k.toNat
theorem sd_wt (b a : Nat) : ∀ (rows : List Nat) (rest : Nat), unT (sdRows b a rows) rest ≤ unT rows rest * (a + 1)
  | [], rest => by
    show unT [] rest ≤ _
    exact Nat.le_mul_of_pos_right _ (Nat.succ_pos _)
  | j :: rows, rest => by
    have ih := sd_wt b a rows rest
    have e1 : unT (sdRows b a (j :: rows)) rest = (j - b + a + 1) + unT (sdRows b a rows) rest := by
      unfold unT sdRows
      rw [List.map_cons, List.sum_cons, List.length_cons]
      omega
    have e2 : unT (j :: rows) rest = (j + 1) + unT rows rest := by
      unfold unT
      rw [List.sum_cons, List.length_cons]
      omega
    rw [e1, e2, Nat.add_mul]
    have h : j - b + a + 1 ≤ (j + 1) * (a + 1) := by
      have : j * 1 ≤ j * (a + 1) := Nat.mul_le_mul_left _ (by omega)
      rw [Nat.add_mul]
      omega
    omega
theorem said_wt {m : Nat} {f : Fm} (hf : f.Ok m) (rows : List Nat) (rest : Nat) : (saidT f rows rest).length ≤ unT rows rest * wt f := by
  rcases natF hf with ⟨b, a, rfl⟩ | ⟨b, a, k, c, rfl⟩ | ⟨b, a, k, rfl⟩
  · show (spT (sdRows b a rows) rest).length ≤ unT rows rest * (a + 1)
    rw [spT_len]
    exact sd_wt b a rows rest
  · show (spT (List.replicate (k * unT (sdRows b a rows) rest) c) 0).length ≤ unT rows rest * ((a + 1) * (k * (c + 1)))
    rw [spT_len, unT_rep, Nat.add_zero, ← Nat.mul_assoc, Nat.mul_comm k, Nat.mul_assoc]
    exact Nat.mul_le_mul_right _ (sd_wt b a rows rest)
  · show (spT [] (k * unT (sdRows b a rows) rest)).length ≤ unT rows rest * ((a + 1) * k)
    rw [spT_len, ← Nat.mul_assoc, Nat.mul_comm k]
    have : unT [] (unT (sdRows b a rows) rest * k) = unT (sdRows b a rows) rest * k := by simp [unT]
    rw [this]
    exact Nat.mul_le_mul_right _ (sd_wt b a rows rest)
theorem wt_pos {m : Nat} {f : Fm} (hf : f.Ok m) : 1 ≤ wt f := by
  rcases natF hf with ⟨b, a, rfl⟩ | ⟨b, a, k, c, rfl⟩ | ⟨b, a, k, rfl⟩
  · exact Nat.succ_pos _
  · have hk : 0 < k := by have := hf.2.2.1; omega
    exact Nat.mul_pos (Nat.succ_pos _) (Nat.mul_pos hk (Nat.succ_pos _))
  · have hk : 0 < k := by have := hf.2.2.1; omega
    exact Nat.mul_pos (Nat.succ_pos _) hk
theorem done_wt {cs : List Nat} (hl : cs.length ≤ 60) (hc : ∀ c ∈ cs, c ∈ steps.cps.toList) : ∀ (n : Nat) (l : List Nat), l.length ≤ n → (doneT l cs).length ≤ l.length * wt (formL cs)
  | n, l, hn => by
    have hok := (formL_fle _ cs rfl (by omega) hc).ok
    have w1 := wt_pos hok
    have key : ∀ a : List Nat, Signs a → (doneT a cs).length ≤ a.length * wt (formL cs) := fun a ha => by
      obtain ⟨rows, rest, rfl⟩ := spT_of a ha
      rw [← said_done rows rest _ cs rfl hl hc, spT_len]
      exact said_wt hok rows rest
    obtain ⟨a, ha, h | ⟨e, r, he, h, hlt⟩⟩ := cut_text l
    · rw [h]
      exact key a ha
    · cases n with
      | zero => omega
      | succ n =>
        have ih := done_wt hl hc n r (by omega)
        rw [h, doneT_sep he, List.length_append, List.length_cons, List.length_append, List.length_cons, Nat.add_mul, Nat.succ_mul]
        have := key a ha
        omega
end Lw
namespace Lw
open PySem PySem.Spec L2 Lx
/-! ### a form told by three runs -/
theorem merged_rep (c : Int) : ∀ k : Nat, Lx.merged (List.replicate k ((1 : Int), c)) = if k = 0 then [] else [((k : Int), c)]
  | 0 => rfl
  | k + 1 => by
    rw [List.replicate_succ', merged_snoc, merged_rep c k, if_neg (Nat.succ_ne_zero k)]
    by_cases h : k = 0
    · subst h
      rfl
    · rw [if_neg h]
      show addTo ([] ++ [((k : Int), c)]) (1, c) = _
      rw [addTo_end, if_pos rfl]
      show [((k : Int) + 1, c)] = _
      rw [Int.natCast_succ]
def rowP (rows : List Nat) : List (Int × Int) := rows.map fun n : Nat => ((1 : Int), (n : Int))
theorem total_rows : ∀ rows : List Nat, total (rowP rows) = ((rows.sum + rows.length : Nat) : Int)
  | [] => rfl
  | n :: rows => by
    have ih := total_rows rows
    unfold total rowP at ih ⊢
    rw [List.map_cons, List.map_cons, List.sum_cons, ih, List.sum_cons, List.length_cons]
    show 1 * ((n : Int) + 1) + _ = _
    omega
theorem units_rnT (rows : List Nat) (rest : Nat) : units (rnT rows rest) nothing = (unT rows rest : Int) := by
  show total (moved nothing (Lx.merged (rowP rows))) + (rest : Int) = _
  rw [moved_on, total_on _ _ _ rfl, ← moved_on, moved_nothing (gs := rowP rows) fun x hx => by
    obtain ⟨n, _, rfl⟩ := List.mem_map.mp hx
    exact Int.natCast_nonneg n, total_rows]
  unfold unT
  omega
theorem rnT_rep (k c : Nat) : rnT (List.replicate k c) 0 = (if k = 0 then [] else [((k : Int), (c : Int))], 0) := by
  unfold rnT
  rw [List.map_replicate, merged_rep]
  rfl
theorem rn_none (k : Nat) {n : Nat} (h : k < 2 ^ n) : RnOk n (rnT [] k) := ⟨fun i x hx => by
  have : ([] : List (Int × Int))[i]? = some x := hx
  simp at this, ⟨Int.natCast_nonneg _, by unfold Sm rnT; show (k : Int).natAbs < _; omega⟩, by show 0 ≤ 1000; decide⟩
theorem rn_some {k c n : Nat} (hk : k < 2 ^ n) (hc : c < 2 ^ n) : RnOk n (rnT (List.replicate k c) 0) := by
  rw [rnT_rep]
  by_cases h : k = 0
  · rw [if_pos h]
    refine ⟨fun i x hx => ?_, ⟨Int.le_refl _, Nat.two_pow_pos n⟩, by show 0 ≤ 1000; decide⟩
    have : ([] : List (Int × Int))[i]? = some x := hx
    simp at this
  · rw [if_neg h]
    refine ⟨fun i x hx => ?_, ⟨Int.le_refl _, Nat.two_pow_pos n⟩, by show 1 ≤ 1000; decide⟩
    cases i with
    | zero =>
      cases Option.some.inj hx
      refine ⟨by omega, Int.natCast_nonneg _, by unfold Sm; omega, by unfold Sm; omega, fun y hy => ?_⟩
      have : ([] : List (Int × Int))[0]? = some y := hy
      simp at this
    | succ i =>
      have : ([] : List (Int × Int))[i]? = some x := hx
      simp at this
/-- the form that is read off two runs and two numbers -/
def fwF (r r2 : Rn) (b a : Int) : Fm := match r.1 with
  | (k, c) :: _ => .lf b a k c
  | [] => if r2.1 = [] then .cr b a r.2 else .keep b a
theorem find_ok {m L : Nat} {f : Fm} (hf : f.Ok m) (hb : f.b ≤ L) (l1 : (saidT f [] 1).length ≤ 1000000) (l2 : (saidT f [0] 0).length ≤ 1000000) (l3 : (saidT f [L] 0).length ≤ 1000000) :
    RnOk 20 (rpT (saidT f [] 1)) ∧ RnOk 20 (rpT (saidT f [0] 0)) ∧ RnOk 20 (rpT (saidT f [L] 0)) ∧
    ∃ u : Nat, 0 < u ∧ u ≤ 1000000 ∧ units (rpT (saidT f [] 1)) nothing = (u : Int) ∧ 0 ≤ units (rpT (saidT f [0] 0)) nothing ∧ 0 ≤ units (rpT (saidT f [L] 0)) nothing ∧
    units (rpT (saidT f [0] 0)) nothing ≤ 1000000 ∧ units (rpT (saidT f [L] 0)) nothing ≤ 1000000 ∧
    units (rpT (saidT f [0] 0)) nothing / (u : Int) - 1 = f.a ∧ (L : Int) + f.a + 1 - units (rpT (saidT f [L] 0)) nothing / (u : Int) = f.b ∧
    fwF (rpT (saidT f [] 1)) (rpT (saidT f [0] 0)) f.b f.a = f := by
  have p20 : (2 : Nat) ^ 20 = 1048576 := by decide
  have ediv : ∀ k x : Nat, 0 < k → ((k * x : Nat) : Int) / (k : Int) = (x : Int) := fun k x h => by
    rw [Int.natCast_mul, Int.mul_ediv_cancel_left _ (by omega)]
  rcases natF hf with ⟨b, a, rfl⟩ | ⟨b, a, k, c, rfl⟩ | ⟨b, a, k, rfl⟩
  · obtain ⟨e1, e2, e3⟩ := said_keep b a L
    rw [e1, spT_len] at l1
    rw [e2, spT_len, unT_one] at l2
    rw [e3, spT_len, unT_one] at l3
    have hb' : (b : Int) ≤ L := hb
    rw [e1, e2, e3, rpT_spT, rpT_spT, rpT_spT, units_rnT, units_rnT, units_rnT, unT_one, unT_one]
    refine ⟨rn_none 1 (by decide), ?_, ?_, 1, by decide, by decide, rfl, by omega, by omega, by omega, by omega, ?_, ?_, ?_⟩
    · exact rn_some (k := 1) (c := a) (by decide) (by omega)
    · exact rn_some (k := 1) (c := L - b + a) (by decide) (by omega)
    · show _ = (a : Int)
      rw [Int.natCast_one, Int.ediv_one]
      omega
    · show _ = (b : Int)
      rw [Int.natCast_one, Int.ediv_one]
      show (L : Int) + (a : Int) + 1 - _ = _
      omega
    · rfl
  · obtain ⟨e1, e2, e3⟩ := said_lf b a k c L
    have hk : 0 < k := by have := hf.2.2.1; omega
    rw [e1, spT_len, unT_rep] at l1
    rw [e2, spT_len, unT_rep] at l2
    rw [e3, spT_len, unT_rep] at l3
    have hb' : (b : Int) ≤ L := hb
    rw [e1, e2, e3, rpT_spT, rpT_spT, rpT_spT, units_rnT, units_rnT, units_rnT, unT_rep, unT_rep, unT_rep]
    have m1 : k * 1 ≤ k * 1 * (c + 1) := Nat.le_mul_of_pos_right _ (by omega)
    have m2 : k * (a + 1) ≤ k * (a + 1) * (c + 1) := Nat.le_mul_of_pos_right _ (by omega)
    have m3 : k * (L - b + a + 1) ≤ k * (L - b + a + 1) * (c + 1) := Nat.le_mul_of_pos_right _ (by omega)
    have mc : c + 1 ≤ k * 1 * (c + 1) := Nat.le_mul_of_pos_left _ (by omega)
    have q2 : k * (a + 1) * (c + 1) + 0 = k * 1 * (c + 1) * (a + 1) := by
      rw [Nat.add_zero, Nat.mul_one, Nat.mul_assoc, Nat.mul_comm (a + 1), ← Nat.mul_assoc]
    have q3 : k * (L - b + a + 1) * (c + 1) + 0 = k * 1 * (c + 1) * (L - b + a + 1) := by
      rw [Nat.add_zero, Nat.mul_one, Nat.mul_assoc, Nat.mul_comm (L - b + a + 1), ← Nat.mul_assoc]
    have u0 : 0 < k * 1 * (c + 1) := by omega
    refine ⟨rn_some (by omega) (by omega), rn_some (by omega) (by omega), rn_some (by omega) (by omega), k * 1 * (c + 1), u0, by omega, by rw [Nat.add_zero], by omega, by omega, by omega, by omega, ?_, ?_, ?_⟩
    · show _ = (a : Int)
      rw [q2, ediv _ _ u0]
      omega
    · show (L : Int) + (a : Int) + 1 - _ = (b : Int)
      rw [q3, ediv _ _ u0]
      omega
    · rw [rnT_rep, if_neg (by omega)]
      show Fm.lf b a ((k * 1 : Nat) : Int) c = _
      rw [Nat.mul_one]
  · obtain ⟨e1, e2, e3⟩ := said_cr b a k L
    have hk : 0 < k := by have := hf.2.2.1; omega
    rw [e1, spT_len] at l1
    rw [e2, spT_len] at l2
    rw [e3, spT_len] at l3
    have un : ∀ x : Nat, unT [] x = x := fun x => by simp [unT]
    rw [un] at l1 l2 l3
    have hb' : (b : Int) ≤ L := hb
    rw [e1, e2, e3, rpT_spT, rpT_spT, rpT_spT, units_rnT, units_rnT, units_rnT, un, un, un]
    refine ⟨rn_none _ (by omega), rn_none _ (by omega), rn_none _ (by omega), k * 1, by omega, by omega, rfl, by omega, by omega, by omega, by omega, ?_, ?_, ?_⟩
    · show _ = (a : Int)
      rw [Nat.mul_one, ediv _ _ hk]
      omega
    · show (L : Int) + (a : Int) + 1 - _ = (b : Int)
      rw [Nat.mul_one, ediv _ _ hk]
      omega
    · show Fm.cr b a ((k * 1 : Nat) : Int) = _
      rw [Nat.mul_one]
/-- the question: a return, a newline, and a group -/
def qT (L : Nat) : List Nat := spT [] 1 ++ 32 :: (spT [0] 0 ++ 32 :: spT [L] 0)
theorem sep32 : Sep 32 := ⟨by decide, by decide⟩
theorem qT_done (L : Nat) (cs : List Nat) : doneT (qT L) cs = doneT (spT [] 1) cs ++ 32 :: (doneT (spT [0] 0) cs ++ 32 :: doneT (spT [L] 0) cs) := by
  unfold qT
  rw [doneT_sep sep32, doneT_sep sep32]
theorem qT_len (L : Nat) : (qT L).length = L + 5 := by
  unfold qT
  rw [List.length_append, List.length_cons, List.length_append, List.length_cons, spT_len, spT_len, spT_len]
  simp [unT]
  omega
theorem said_signs (f : Fm) (rows : List Nat) (rest : Nat) : Signs (saidT f rows rest) := by
  cases f <;> exact spT_signs _ _
theorem said_ne {m : Nat} {f : Fm} (hf : f.Ok m) {rows : List Nat} {rest : Nat} (h : 0 < unT rows rest) : saidT f rows rest ≠ [] := fun z => by
  have hl : (saidT f rows rest).length = 0 := by rw [z]; rfl
  have pos : ∀ b a : Nat, 0 < unT (sdRows b a rows) rest := fun b a => by
    unfold unT sdRows at *
    rw [List.length_map]
    cases rows with
    | nil => simp at h ⊢; omega
    | cons r rows => rw [List.length_cons]; omega
  rcases natF hf with ⟨b, a, rfl⟩ | ⟨b, a, k, c, rfl⟩ | ⟨b, a, k, rfl⟩
  · have := pos b a
    change (spT (sdRows b a rows) rest).length = 0 at hl
    rw [spT_len] at hl
    omega
  · have hk : 0 < k := by have := hf.2.2.1; omega
    have := Nat.mul_pos hk (pos b a)
    change (spT (List.replicate (k * unT (sdRows b a rows) rest) c) 0).length = 0 at hl
    rw [spT_len, unT_rep] at hl
    have h2 : k * unT (sdRows b a rows) rest ≤ k * unT (sdRows b a rows) rest * (c + 1) := Nat.le_mul_of_pos_right _ (by omega)
    omega
  · have hk : 0 < k := by have := hf.2.2.1; omega
    have := Nat.mul_pos hk (pos b a)
    change (spT [] (k * unT (sdRows b a rows) rest)).length = 0 at hl
    rw [spT_len] at hl
    simp [unT] at hl this
    omega
theorem runs_q {m L : Nat} {f : Fm} (hf : f.Ok m) : runsT (saidT f [] 1 ++ 32 :: (saidT f [0] 0 ++ 32 :: saidT f [L] 0)) = [rpT (saidT f [] 1), rpT (saidT f [0] 0), rpT (saidT f [L] 0)] := by
  unfold runsT
  rw [pieces_cons (said_signs f [] 1) sep32, pieces_cons (said_signs f [0] 0) sep32, pieces_last (said_signs f [L] 0), if_neg (said_ne hf (by decide)), if_neg (said_ne hf (by decide)), if_neg (said_ne hf (by simp [unT]))]
  rfl
end Lw
namespace Lw
open PySem PySem.Spec L2 Lx
/-! ### the prime factors in ascending order -/
structure IsPf (k : Nat) (fs : List Nat) : Prop where
  pm : ∀ p ∈ fs, Pm p
  prod : pr fs = k
  up : fs.Pairwise (· ≤ ·)
theorem Pm.eq {p q : Nat} (hp : Pm p) (hq : Pm q) (h : p ∣ q) : p = q := by
  rcases hq.2 p h with h1 | h1
  · have := hp.1; omega
  · exact h1
theorem Pm.mem {p : Nat} (hp : Pm p) {fs : List Nat} (hf : ∀ q ∈ fs, Pm q) (h : p ∣ pr fs) : p ∈ fs := by
  obtain ⟨a, g, b, rfl, hg⟩ := hp.dvd_pr h
  have := hp.eq (hf g (by simp)) hg
  subst this
  simp
theorem IsPf.uniq : ∀ {fs gs : List Nat} {k : Nat}, IsPf k fs → IsPf k gs → fs = gs
  | [], [], _, _, _ => rfl
  | [], g :: gs, k, hf, hg => by
    have h1 := (hg.pm g (List.mem_cons_self ..)).1
    have h2 : g * pr gs = 1 := hg.prod.trans hf.prod.symm
    have h3 := pr_pos fun x hx => (hg.pm x (List.mem_cons_of_mem _ hx)).1
    have := Nat.mul_le_mul h1 h3
    omega
  | f :: fs, [], k, hf, hg => by
    have h1 := (hf.pm f (List.mem_cons_self ..)).1
    have h2 : f * pr fs = 1 := hf.prod.trans hg.prod.symm
    have h3 := pr_pos fun x hx => (hf.pm x (List.mem_cons_of_mem _ hx)).1
    have := Nat.mul_le_mul h1 h3
    omega
  | f :: fs, g :: gs, k, hf, hg => by
    have pf := hf.pm f (List.mem_cons_self ..)
    have pg := hg.pm g (List.mem_cons_self ..)
    have e : pr (f :: fs) = pr (g :: gs) := hf.prod.trans hg.prod.symm
    have m1 := pf.mem hg.pm (by rw [← e]; exact ⟨pr fs, rfl⟩)
    have m2 := pg.mem hf.pm (by rw [e]; exact ⟨pr gs, rfl⟩)
    have le1 : g ≤ f := by
      rcases List.mem_cons.mp m1 with h | h
      · omega
      · exact (List.pairwise_cons.mp hg.up).1 f h
    have le2 : f ≤ g := by
      rcases List.mem_cons.mp m2 with h | h
      · omega
      · exact (List.pairwise_cons.mp hf.up).1 g h
    have : f = g := by omega
    subst this
    have e2 : pr fs = pr gs := Nat.eq_of_mul_eq_mul_left (by have := pf.1; omega) e
    have := IsPf.uniq (fs := fs) (gs := gs) (k := pr gs) ⟨fun p h => hf.pm p (List.mem_cons_of_mem _ h), e2, (List.pairwise_cons.mp hf.up).2⟩ ⟨fun p h => hg.pm p (List.mem_cons_of_mem _ h), rfl, (List.pairwise_cons.mp hg.up).2⟩
    rw [this]
/-! ### forms between two forms -/
def wba : Fm → Int → Int → Fm
  | .keep _ _, b, a => .keep b a
  | .lf _ _ k c, b, a => .lf b a k c
  | .cr _ _ k, b, a => .cr b a k
def ch1 (j w : Int) : Int := if j - w > 0 then j - w else 0
def btw (dv : Int → List Int) : Fm → Fm → List Fm
  | .keep b a, g => if g.b < b then [] else if g.b > b then [wba g (a + g.b - b) g.a] else [wba g (ch1 a g.a) (ch1 g.a a)]
  | .lf _ _ _ _, .keep _ _ => []
  | .cr _ _ _, .keep _ _ => []
  | .lf b a k c, .lf b' a' k' c' => if b = b' ∧ a = a' ∧ k'.fmod k = 0 then (if k' / k = 1 then [.keep (ch1 c c') (ch1 c' c)] else (dv (k' / k)).map fun u => .lf (ch1 c (u - 1)) (ch1 (u - 1) c) (k' / k / u) c') else []
  | .lf b a k c, .cr b' a' k' => if b = b' ∧ a = a' ∧ k'.fmod k = 0 then (dv (k' / k)).map fun u => .cr (ch1 c (u - 1)) (ch1 (u - 1) c) (k' / k / u) else []
  | .cr b a k, .cr b' a' k' => if b = b' ∧ a = a' ∧ k'.fmod k = 0 then (if k' / k = 1 then [.keep 0 0] else [.cr 0 0 (k' / k)]) else []
  | .cr b a k, .lf b' a' k' c' => if b = b' ∧ a = a' ∧ k'.fmod k = 0 then [.lf 0 0 (k' / k) c'] else []
theorem btw_k {dv : Int → List Int} {b a : Int} {g : Fm} : btw dv (.keep b a) g = if g.b < b then [] else if g.b > b then [wba g (a + g.b - b) g.a] else [wba g (ch1 a g.a) (ch1 g.a a)] := by cases g <;> rfl
theorem btw_ll {dv : Int → List Int} {b a k c b' a' k' c' : Int} : btw dv (.lf b a k c) (.lf b' a' k' c') = if b = b' ∧ a = a' ∧ k'.fmod k = 0 then (if k' / k = 1 then [.keep (ch1 c c') (ch1 c' c)] else (dv (k' / k)).map fun u => .lf (ch1 c (u - 1)) (ch1 (u - 1) c) (k' / k / u) c') else [] := rfl
theorem btw_lc {dv : Int → List Int} {b a k c b' a' k' : Int} : btw dv (.lf b a k c) (.cr b' a' k') = if b = b' ∧ a = a' ∧ k'.fmod k = 0 then (dv (k' / k)).map fun u => .cr (ch1 c (u - 1)) (ch1 (u - 1) c) (k' / k / u) else [] := rfl
theorem btw_cc {dv : Int → List Int} {b a k b' a' k' : Int} : btw dv (.cr b a k) (.cr b' a' k') = if b = b' ∧ a = a' ∧ k'.fmod k = 0 then (if k' / k = 1 then [.keep 0 0] else [.cr 0 0 (k' / k)]) else [] := rfl
theorem btw_cl {dv : Int → List Int} {b a k b' a' k' c' : Int} : btw dv (.cr b a k) (.lf b' a' k' c') = if b = b' ∧ a = a' ∧ k'.fmod k = 0 then [.lf 0 0 (k' / k) c'] else [] := rfl
/-- numbers that are not negative, k positive -/
def NN : Fm → Prop
  | .keep b a => 0 ≤ b ∧ 0 ≤ a
  | .lf b a k c => 0 ≤ b ∧ 0 ≤ a ∧ 0 < k ∧ 0 ≤ c
  | .cr b a k => 0 ≤ b ∧ 0 ≤ a ∧ 0 < k
theorem low_nn {f : Fm} {n : Nat} (h : LowB f n) : NN f := by
  cases f with
  | keep b a => exact ⟨h.1, h.2.1⟩
  | lf b a k c =>
    obtain ⟨h1, h2, h3, gs, h4, h5, h6⟩ := h
    exact ⟨h1, h2, by have := pr_pos h4; omega, h3⟩
  | cr b a k =>
    obtain ⟨h1, h2, gs, h4, h5, h6⟩ := h
    exact ⟨h1, h2, by have := pr_pos h4; omega⟩
theorem ch1_le {j w : Int} : 0 ≤ ch1 j w ∧ (j ≤ w → ch1 j w = 0) ∧ (w ≤ j → ch1 j w = j - w) := by
  unfold ch1
  refine ⟨by split <;> omega, fun h => by split <;> omega, fun h => by split <;> omega⟩
theorem mul_div_l {k x : Int} (h : 0 < k) : k * x / k = x := Int.mul_ediv_cancel_left x (by omega)
theorem fmod_l {k x : Int} (h : 0 < k) : (k * x).fmod k = 0 := by
  rw [Int.fmod_eq_emod_of_nonneg _ (Int.le_of_lt h)]
  exact Int.mul_emod_right k x
/-- after c: what a form makes of the returns -/
theorem aft_lf {hb ha k d c : Int} : Fm.after (.lf hb ha k d) c = (if c - hb > 0 then c - hb else 0) + ha := rfl
theorem aft_cr {hb ha k c : Int} : Fm.after (.cr hb ha k) c = (if c - hb > 0 then c - hb else 0) + ha := rfl
/-- to every form that leads from f to g there is one of the list with as few steps -/
theorem btw_min {dv : Int → List Int} (hdv : ∀ q u : Int, 0 < u → 0 < q → u ∣ q → u ∈ dv q) {f h : Fm} {n : Nat} (hf : NN f) (hh : LowB h n) : ∃ w ∈ btw dv f (f.both h), LowB w n := by
  cases f with
  | keep b a =>
    obtain ⟨f1, f2⟩ := hf
    have eb : ((Fm.keep b a).both h).b = b + ch1 h.b a := by cases h <;> rfl
    have ea : ((Fm.keep b a).both h).a = ch1 a h.b + h.a := by cases h <;> rfl
    have ew : ∀ t p, wba ((Fm.keep b a).both h) t p = wba h t p := fun t p => by cases h <;> rfl
    have hn := low_nn hh
    have h1 : 0 ≤ h.b ∧ 0 ≤ h.a := by cases h <;> exact ⟨hn.1, by first | exact hn.2 | exact hn.2.1⟩
    have fin : ∀ t p : Int, 0 ≤ t → 0 ≤ p → t + p ≤ h.b + h.a → LowB (wba h t p) n := fun t p t0 p0 hs => by
      cases h with
      | keep hb' ha' => exact ⟨t0, p0, by have := hh.2.2; have hs' : t + p ≤ hb' + ha' := hs; omega⟩
      | lf hb' ha' k c =>
        obtain ⟨q1, q2, q3, gs, q4, q5, q6⟩ := hh
        have hs' : t + p ≤ hb' + ha' := hs
        exact ⟨t0, p0, q3, gs, q4, q5, by omega⟩
      | cr hb' ha' k =>
        obtain ⟨q1, q2, gs, q4, q5, q6⟩ := hh
        have hs' : t + p ≤ hb' + ha' := hs
        exact ⟨t0, p0, gs, q4, q5, by omega⟩
    obtain ⟨c0, c1, c2⟩ := @ch1_le h.b a
    obtain ⟨d0, d1, d2⟩ := @ch1_le a h.b
    rw [btw_k]
    rw [eb, ea, if_neg (by omega)]
    by_cases hc : h.b > a
    · have e1 := c2 (by omega)
      have e2 := d1 (by omega)
      rw [if_pos (by omega)]
      refine ⟨_, List.mem_singleton.mpr rfl, ?_⟩
      rw [ew]
      exact fin _ _ (by omega) (by omega) (by omega)
    · have e1 := c1 (by omega)
      have e2 := d2 (by omega)
      rw [if_neg (by omega)]
      refine ⟨_, List.mem_singleton.mpr rfl, ?_⟩
      rw [ew, e2]
      unfold ch1
      exact fin _ _ (by split <;> omega) (by split <;> omega) (by split <;> split <;> omega)
  | lf b a k c =>
    obtain ⟨f1, f2, f3, f4⟩ := hf
    cases h with
    | keep hb ha =>
      obtain ⟨q1, q2, q3⟩ := hh
      have e : (Fm.lf b a k c).both (.keep hb ha) = .lf b a k ((if c - hb > 0 then c - hb else 0) + ha) := rfl
      rw [e]
      rw [btw_ll]
      have e2 : k / k = 1 := Int.ediv_self (by omega)
      have e3 : k.fmod k = 0 := by have := fmod_l (x := 1) f3; rwa [Int.mul_one] at this
      rw [if_pos ⟨rfl, rfl, e3⟩, if_pos e2]
      refine ⟨_, List.mem_singleton.mpr rfl, ?_⟩
      unfold ch1
      exact ⟨by split <;> split <;> omega, by split <;> split <;> omega, by split <;> split <;> split <;> omega⟩
    | lf hb ha hk hc =>
      obtain ⟨q1, q2, q3, gs, q4, q5, q6⟩ := hh
      have hk0 : 0 < hk := by have := pr_pos q4; omega
      have hu0 : 0 ≤ (if c - hb > 0 then c - hb else 0) + ha := by split <;> omega
      have e : (Fm.lf b a k c).both (.lf hb ha hk hc) = .lf b a (k * ((if c - hb > 0 then c - hb else 0) + ha + 1) * hk) hc := rfl
      rw [e]
      generalize hu : (if c - hb > 0 then c - hb else 0) + ha = u at hu0
      rw [btw_ll]
      rw [Int.mul_assoc, if_pos ⟨rfl, rfl, fmod_l f3⟩, mul_div_l f3]
      by_cases hq : (u + 1) * hk = 1
      · rw [if_pos hq]
        refine ⟨_, List.mem_singleton.mpr rfl, ?_⟩
        have hu1 : u = 0 := by
          have : (u + 1) * 1 ≤ (u + 1) * hk := Int.mul_le_mul_of_nonneg_left (by omega) (by omega)
          omega
        unfold ch1
        refine ⟨by split <;> omega, by split <;> omega, ?_⟩
        split at hu <;> split <;> split <;> omega
      · rw [if_neg hq]
        refine ⟨_, List.mem_map.mpr ⟨u + 1, hdv _ _ (by omega) (Int.mul_pos (by omega) hk0) ⟨hk, rfl⟩, rfl⟩, ?_⟩
        rw [mul_div_l (by omega)]
        unfold ch1
        refine ⟨by split <;> omega, by split <;> omega, q3, gs, q4, q5, ?_⟩
        split at hu <;> split <;> split <;> omega
    | cr hb ha hk =>
      obtain ⟨q1, q2, gs, q4, q5, q6⟩ := hh
      have hk0 : 0 < hk := by have := pr_pos q4; omega
      have hu0 : 0 ≤ (if c - hb > 0 then c - hb else 0) + ha := by split <;> omega
      have e : (Fm.lf b a k c).both (.cr hb ha hk) = .cr b a (k * ((if c - hb > 0 then c - hb else 0) + ha + 1) * hk) := rfl
      rw [e]
      generalize hu : (if c - hb > 0 then c - hb else 0) + ha = u at hu0
      rw [btw_lc]
      rw [Int.mul_assoc, if_pos ⟨rfl, rfl, fmod_l f3⟩, mul_div_l f3]
      refine ⟨_, List.mem_map.mpr ⟨u + 1, hdv _ _ (by omega) (Int.mul_pos (by omega) hk0) ⟨hk, rfl⟩, rfl⟩, ?_⟩
      rw [mul_div_l (by omega)]
      unfold ch1
      refine ⟨by split <;> omega, by split <;> omega, gs, q4, q5, ?_⟩
      split at hu <;> split <;> split <;> omega
  | cr b a k =>
    obtain ⟨f1, f2, f3⟩ := hf
    cases h with
    | keep hb ha =>
      have e : (Fm.cr b a k).both (.keep hb ha) = .cr b a k := rfl
      rw [e]
      rw [btw_cc]
      have e2 : k / k = 1 := Int.ediv_self (by omega)
      have e3 : k.fmod k = 0 := by have := fmod_l (x := 1) f3; rwa [Int.mul_one] at this
      rw [if_pos ⟨rfl, rfl, e3⟩, if_pos e2]
      exact ⟨_, List.mem_singleton.mpr rfl, by decide, by decide, by omega⟩
    | lf hb ha hk hc =>
      obtain ⟨q1, q2, q3, gs, q4, q5, q6⟩ := hh
      have e : (Fm.cr b a k).both (.lf hb ha hk hc) = .lf b a (k * 1 * hk) hc := rfl
      rw [e]
      rw [btw_cl]
      rw [Int.mul_one, if_pos ⟨rfl, rfl, fmod_l f3⟩, mul_div_l f3]
      exact ⟨_, List.mem_singleton.mpr rfl, by decide, by decide, q3, gs, q4, q5, by omega⟩
    | cr hb ha hk =>
      obtain ⟨q1, q2, gs, q4, q5, q6⟩ := hh
      have e : (Fm.cr b a k).both (.cr hb ha hk) = .cr b a (k * 1 * hk) := rfl
      rw [e]
      rw [btw_cc]
      rw [Int.mul_one, if_pos ⟨rfl, rfl, fmod_l f3⟩, mul_div_l f3]
      by_cases hq : hk = 1
      · rw [if_pos hq]
        exact ⟨_, List.mem_singleton.mpr rfl, by decide, by decide, by omega⟩
      · rw [if_neg hq]
        exact ⟨_, List.mem_singleton.mpr rfl, by decide, by decide, gs, q4, q5, by omega⟩
theorem pos_r {a b : Int} (ha : 0 < a) (h : 0 < a * b) : 0 < b := by
  rcases Int.lt_or_le 0 b with h1 | h1
  · exact h1
  · have := Int.mul_le_mul_of_nonneg_left h1 (Int.le_of_lt ha)
    rw [Int.mul_zero] at this
    omega
theorem fmod_mul {k k' : Int} (hk : 0 < k) (h : k'.fmod k = 0) : k * (k' / k) = k' := by
  rw [Int.fmod_eq_emod_of_nonneg _ (Int.le_of_lt hk)] at h
  exact Int.mul_ediv_cancel' (Int.dvd_of_emod_eq_zero h)
/-- every form of the list leads from f to g -/
theorem btw_leads {dv : Int → List Int} (hdv : ∀ q u : Int, 0 < q → u ∈ dv q → 0 < u ∧ u ∣ q) {f g w : Fm} (hf : NN f) (hg : NN g) (hw : w ∈ btw dv f g) : f.both w = g ∧ NN w := by
  cases f with
  | keep b a =>
    obtain ⟨f1, f2⟩ := hf
    rw [btw_k] at hw
    have g1 : 0 ≤ g.b ∧ 0 ≤ g.a := by cases g <;> exact ⟨hg.1, by first | exact hg.2 | exact hg.2.1⟩
    have nw : ∀ t p : Int, 0 ≤ t → 0 ≤ p → NN (wba g t p) := fun t p t0 p0 => by
      cases g with
      | keep => exact ⟨t0, p0⟩
      | lf => exact ⟨t0, p0, hg.2.2.1, hg.2.2.2⟩
      | cr => exact ⟨t0, p0, hg.2.2⟩
    have ew : ∀ t p : Int, b + (if t - a > 0 then t - a else 0) = g.b → (if a - t > 0 then a - t else 0) + p = g.a → (Fm.keep b a).both (wba g t p) = g := fun t p e1 e2 => by
      cases g with
      | keep b' a' =>
        show Fm.keep (b + (if t - a > 0 then t - a else 0)) ((if a - t > 0 then a - t else 0) + p) = _
        rw [e1, e2]
        rfl
      | lf b' a' k c =>
        show Fm.lf (b + (if t - a > 0 then t - a else 0)) ((if a - t > 0 then a - t else 0) + p) k c = _
        rw [e1, e2]
        rfl
      | cr b' a' k =>
        show Fm.cr (b + (if t - a > 0 then t - a else 0)) ((if a - t > 0 then a - t else 0) + p) k = _
        rw [e1, e2]
        rfl
    split at hw
    · cases hw
    · split at hw
      · rw [List.mem_singleton.mp hw]
        exact ⟨ew _ _ (by split <;> omega) (by split <;> omega), nw _ _ (by omega) (by omega)⟩
      · rw [List.mem_singleton.mp hw]
        unfold ch1
        exact ⟨ew _ _ (by split <;> split <;> omega) (by split <;> split <;> split <;> omega), nw _ _ (by split <;> omega) (by split <;> omega)⟩
  | lf b a k c =>
    obtain ⟨f1, f2, f3, f4⟩ := hf
    have eu : ∀ u : Int, 0 < u → (if c - ch1 c (u - 1) > 0 then c - ch1 c (u - 1) else 0) + ch1 (u - 1) c + 1 = u := fun u hu => by
      unfold ch1
      split <;> split <;> split <;> omega
    have n1 : ∀ x y : Int, 0 ≤ ch1 x y := fun x y => ch1_le.1
    cases g with
    | keep b' a' => cases hw
    | lf b' a' k' c' =>
      obtain ⟨g1, g2, g3, g4⟩ := hg
      rw [btw_ll] at hw
      split at hw
      · rename_i hc
        obtain ⟨rfl, rfl, hk⟩ := hc
        have ek := fmod_mul f3 hk
        split at hw
        · rename_i hq
          rw [hq, Int.mul_one] at ek
          subst ek
          rw [List.mem_singleton.mp hw]
          refine ⟨?_, n1 _ _, n1 _ _⟩
          show Fm.lf b a k ((if c - ch1 c c' > 0 then c - ch1 c c' else 0) + ch1 c' c) = _
          congr 1
          unfold ch1
          split <;> split <;> split <;> omega
        · obtain ⟨u, hu, rfl⟩ := List.mem_map.mp hw
          have q0 : 0 < k' / k := by
            rw [← ek] at g3
            exact pos_r f3 g3
          obtain ⟨u0, x, hx⟩ := hdv _ u q0 hu
          have x0 : 0 < x := by
            rw [hx] at q0
            exact pos_r u0 q0
          rw [hx, mul_div_l u0]
          refine ⟨?_, n1 _ _, n1 _ _, x0, g4⟩
          show Fm.lf b a (k * ((if c - ch1 c (u - 1) > 0 then c - ch1 c (u - 1) else 0) + ch1 (u - 1) c + 1) * x) c' = _
          rw [eu u u0, Int.mul_assoc, ← hx, ek]
      · cases hw
    | cr b' a' k' =>
      obtain ⟨g1, g2, g3⟩ := hg
      rw [btw_lc] at hw
      split at hw
      · rename_i hc
        obtain ⟨rfl, rfl, hk⟩ := hc
        have ek := fmod_mul f3 hk
        obtain ⟨u, hu, rfl⟩ := List.mem_map.mp hw
        have q0 : 0 < k' / k := by
          rw [← ek] at g3
          exact pos_r f3 g3
        obtain ⟨u0, x, hx⟩ := hdv _ u q0 hu
        have x0 : 0 < x := by
          rw [hx] at q0
          exact pos_r u0 q0
        rw [hx, mul_div_l u0]
        refine ⟨?_, n1 _ _, n1 _ _, x0⟩
        show Fm.cr b a (k * ((if c - ch1 c (u - 1) > 0 then c - ch1 c (u - 1) else 0) + ch1 (u - 1) c + 1) * x) = _
        rw [eu u u0, Int.mul_assoc, ← hx, ek]
      · cases hw
  | cr b a k =>
    obtain ⟨f1, f2, f3⟩ := hf
    cases g with
    | keep b' a' => cases hw
    | lf b' a' k' c' =>
      obtain ⟨g1, g2, g3, g4⟩ := hg
      rw [btw_cl] at hw
      split at hw
      · rename_i hc
        obtain ⟨rfl, rfl, hk⟩ := hc
        have ek := fmod_mul f3 hk
        have q0 : 0 < k' / k := by
          rw [← ek] at g3
          exact pos_r f3 g3
        rw [List.mem_singleton.mp hw]
        refine ⟨?_, by decide, by decide, q0, g4⟩
        show Fm.lf b a (k * 1 * (k' / k)) c' = _
        rw [Int.mul_one, ek]
      · cases hw
    | cr b' a' k' =>
      obtain ⟨g1, g2, g3⟩ := hg
      rw [btw_cc] at hw
      split at hw
      · rename_i hc
        obtain ⟨rfl, rfl, hk⟩ := hc
        have ek := fmod_mul f3 hk
        have q0 : 0 < k' / k := by
          rw [← ek] at g3
          exact pos_r f3 g3
        split at hw
        · rename_i hq
          rw [hq, Int.mul_one] at ek
          subst ek
          rw [List.mem_singleton.mp hw]
          exact ⟨rfl, by decide, by decide⟩
        · rw [List.mem_singleton.mp hw]
          refine ⟨?_, by decide, by decide, q0⟩
          show Fm.cr b a (k * 1 * (k' / k)) = _
          rw [Int.mul_one, ek]
      · cases hw
end Lw
/-! texts, runs and forms: what a chain of any length makes -/
namespace Lw
open PySem PySem.Spec L2 Lx
open PySem.StrLaws
theorem said_done7 (rows : List Nat) (rest : Nat) : ∀ (k : Nat) (cs : List Nat), cs.length = k → k ≤ 7000 → (∀ c ∈ cs, c ∈ steps.cps.toList) → saidT (formL cs) rows rest = doneT (spT rows rest) cs
  | 0, cs, h, _, _ => by
    rw [List.length_eq_zero_iff.mp h]
    show spT (sdRows 0 0 rows) rest = spT rows rest
    rw [sd_0]
  | k + 1, cs, h, hk, hc => by
    rcases List.eq_nil_or_concat cs with rfl | ⟨ds, c, rfl⟩
    · cases h
    · have e : ds.length = k := by simpa using h
      rw [List.concat_eq_append] at hc ⊢
      have hd : ∀ c ∈ ds, c ∈ steps.cps.toList := fun c h => hc c (List.mem_append_left _ h)
      rw [formL_snoc, doneT_snoc, ← said_done7 rows rest k ds e (by omega) hd]
      exact said_step (formL_fle k ds e (by omega) hd).ok (hc c (by simp)) rows rest
/-- chains of one form make the same of every text -/
theorem done_same7 {cs cs' : List Nat} (h : formL cs = formL cs') (hl : cs.length ≤ 7000) (hl' : cs'.length ≤ 7000) (hc : ∀ c ∈ cs, c ∈ steps.cps.toList) (hc' : ∀ c ∈ cs', c ∈ steps.cps.toList) : ∀ (n : Nat) (l : List Nat), l.length ≤ n → doneT l cs = doneT l cs' := by
  have one : ∀ a, Signs a → doneT a cs = doneT a cs' := fun a ha => by
    obtain ⟨rows, rest, rfl⟩ := spT_of a ha
    rw [← said_done7 rows rest _ cs rfl hl hc, ← said_done7 rows rest _ cs' rfl hl' hc', h]
  intro n
  induction n with
  | zero =>
    intro l hn
    obtain rfl := List.length_eq_zero_iff.mp (Nat.le_zero.mp hn)
    rw [doneT_nil, doneT_nil]
  | succ n ih =>
    intro l hn
    obtain ⟨a, ha, rfl | ⟨e, r, he, rfl, hr⟩⟩ := cut_text l
    · exact one _ ha
    · rw [doneT_sep he, doneT_sep he, one a ha, ih r (by omega)]
theorem after_nat (b a j : Nat) (f : Fm) (hb : f.b = b) (ha : f.a = a) : f.after (j : Int) = ((j - b + a : Nat) : Int) := by
  unfold Fm.after
  rw [hb, ha]
  split <;> omega
theorem on_rows (b a : Nat) (f : Fm) (hb : f.b = b) (ha : f.a = a) (rows : List Nat) : on f.after (rowP rows) = rowP (sdRows b a rows) := by
  unfold on rowP sdRows
  rw [List.map_map, List.map_map]
  refine List.map_congr_left fun j _ => ?_
  show ((1 : Int), f.after (j : Int)) = _
  rw [after_nat b a j f hb ha]
  rfl
theorem units_rows (b a : Nat) (f : Fm) (hb : f.b = b) (ha : f.a = a) (rows : List Nat) (rest : Nat) : units (rnT rows rest) f = (unT (sdRows b a rows) rest : Int) := by
  show total (moved f (Lx.merged (rowP rows))) + (rest : Int) = _
  rw [moved_on, total_on _ _ _ rfl, on_rows b a f hb ha, total_rows]
  unfold unT
  omega
/-- the run of what a form makes of a text -/
theorem rp_after {m : Nat} {f : Fm} (hf : f.Ok m) (rows : List Nat) (rest : Nat) : rpT (saidT f rows rest) = runAfter (rnT rows rest) f := by
  rcases natF hf with ⟨b, a, rfl⟩ | ⟨b, a, k, c, rfl⟩ | ⟨b, a, k, rfl⟩
  · show rpT (spT (sdRows b a rows) rest) = (Lx.merged (moved (.keep b a) (Lx.merged (rowP rows))), (rest : Int))
    rw [rpT_spT, moved_on, merged_on _ _ _ rfl, on_rows b a (.keep b a) rfl rfl]
    rfl
  · show rpT (spT (List.replicate (k * unT (sdRows b a rows) rest) c) 0) = if (k : Int) * units (rnT rows rest) (.lf b a k c) = 0 then ([], 0) else ([((k : Int) * units (rnT rows rest) (.lf b a k c), (c : Int))], 0)
    rw [rpT_spT, rnT_rep, units_rows b a (.lf b a k c) rfl rfl, ← Int.natCast_mul]
    by_cases h : k * unT (sdRows b a rows) rest = 0
    · rw [if_pos h, if_pos (by rw [h]; rfl)]
    · rw [if_neg h, if_neg (by omega)]
  · show rpT (spT [] (k * unT (sdRows b a rows) rest)) = ([], (k : Int) * units (rnT rows rest) (.cr b a k))
    rw [rpT_spT, units_rows b a (.cr b a k) rfl rfl, ← Int.natCast_mul]
    rfl
theorem spT_nil {rows : List Nat} {rest : Nat} (h : spT rows rest ≠ []) : 0 < unT rows rest := Nat.pos_of_ne_zero fun z => h (List.eq_nil_of_length_eq_zero (by rw [spT_len]; exact z))
/-- the runs of what a chain makes of a text -/
theorem runs_done {cs : List Nat} (hl : cs.length ≤ 7000) (hc : ∀ c ∈ cs, c ∈ steps.cps.toList) : ∀ (n : Nat) (l : List Nat), l.length ≤ n → runsT (doneT l cs) = (runsT l).map fun r => runAfter r (formL cs) := by
  have hok := (formL_fle _ cs rfl hl hc).ok
  have one : ∀ a, Signs a → Signs (doneT a cs) ∧ (doneT a cs = [] ↔ a = []) ∧ rpT (doneT a cs) = runAfter (rpT a) (formL cs) := fun a ha => by
    obtain ⟨rows, rest, rfl⟩ := spT_of a ha
    refine ⟨?_, ⟨fun h => ?_, fun h => by rw [h, doneT_nil]⟩, ?_⟩
    · rw [← said_done7 rows rest _ cs rfl hl hc]
      exact said_signs _ _ _
    · refine Classical.byContradiction fun z => ?_
      rw [← said_done7 rows rest _ cs rfl hl hc] at h
      exact said_ne hok (spT_nil z) h
    · rw [← said_done7 rows rest _ cs rfl hl hc, rp_after hok, rpT_spT]
  have pc : ∀ a, Signs a → (if doneT a cs = [] then [] else [doneT a cs]).map rpT = ((if a = [] then [] else [a]).map rpT).map fun r => runAfter r (formL cs) := fun a ha => by
    obtain ⟨_, h2, h3⟩ := one a ha
    by_cases h : a = []
    · rw [if_pos h, if_pos (h2.mpr h)]; rfl
    · rw [if_neg h, if_neg (fun z => h (h2.mp z))]
      show [rpT (doneT a cs)] = [runAfter (rpT a) (formL cs)]
      rw [h3]
  intro n
  induction n with
  | zero =>
    intro l hn
    obtain rfl := List.length_eq_zero_iff.mp (Nat.le_zero.mp hn)
    rw [doneT_nil]
    rfl
  | succ n ih =>
    intro l hn
    obtain ⟨a, ha, rfl | ⟨e, r, he, rfl, hr⟩⟩ := cut_text l
    · unfold runsT
      rw [pieces_last ha, pieces_last (one _ ha).1]
      exact pc _ ha
    · have ih2 := ih r (by omega)
      unfold runsT at ih2 ⊢
      rw [doneT_sep he, pieces_cons ha he, pieces_cons (one _ ha).1 he, List.map_append, List.map_append, List.map_append, ih2, pc a ha]
theorem rn_ok {rows : List Nat} {rest : Nat} (h : (spT rows rest).length ≤ 500) : RnOk 40 (rnT rows rest) := by
  obtain ⟨rl, rs, rn⟩ := @rows_small rows rest
  have sm : ∀ {x : Nat} {k : Nat}, x ≤ 500 → 20 ≤ k → Sm k (x : Int) := fun {x k} hx hk => by
    have h1 : (2 : Nat) ^ 20 ≤ 2 ^ k := Nat.pow_le_pow_right (by decide) hk
    have h2 : (2 : Nat) ^ 20 = 1048576 := by decide
    unfold Sm
    rw [Int.natAbs_natCast]
    omega
  have el : (rowP rows).length = rows.length := List.length_map _
  have m := mi_fold (n := 20) (rowP rows) [] 0 (by omega) (fun x hx => by
    obtain ⟨j, hj, rfl⟩ := List.mem_map.mp hx
    exact ⟨Int.le_refl _, sm (x := 1) (by decide) (by decide), Int.natCast_nonneg _, sm (by have := rn j hj; omega) (by decide)⟩) ⟨(fun i x hx => by simp at hx), (fun x hx => by cases hx), Nat.le_refl _⟩
  obtain ⟨m1, m2, m3⟩ := m
  refine ⟨fun i x hx => ?_, ⟨Int.natCast_nonneg _, sm (by omega) (by decide)⟩, ?_⟩
  · obtain ⟨q1, q2, q3, q4, q5⟩ := m1 i x hx
    exact ⟨q1, q2, q3.mono (by decide), q4.mono (by decide), q5⟩
  · show (Lx.merged (rowP rows)).length ≤ 1000
    unfold Lx.merged
    omega
theorem runs_ok {l : List Nat} (h : l.length ≤ 500) : (∀ r ∈ runsT l, RnOk 40 r) ∧ (runsT l).length ≤ 501 := by
  refine ⟨fun r hr => ?_, ?_⟩
  · obtain ⟨p, hp, rfl⟩ := List.mem_map.mp hr
    obtain ⟨h1, _, h3⟩ := piece_ok _ l (Nat.le_refl _) p hp
    obtain ⟨rows, rest, rfl⟩ := spT_of p h1
    rw [rpT_spT]
    exact rn_ok (by omega)
  · unfold runsT piecesT
    rw [List.length_map]
    have := List.length_filter_le (fun p : List Nat => !p.isEmpty) (TL.spl [32] 0 [] (l.map spc))
    have := spl_len [32] (l.map spc) 0 []
    rw [List.length_map] at this
    omega
/-! how long texts become on the way -/
theorem step_grow {c : Nat} (hc : c = 85 ∨ c = 77 ∨ c = 78) : ∀ (n : Nat) (l : List Nat), l.length ≤ n → l.length ≤ (stepT c l).length := by
  have one : ∀ a, Signs a → a.length ≤ (stepT c a).length := fun a ha => by
    obtain ⟨rows, rest, rfl⟩ := spT_of a ha
    rcases hc with rfl | rfl | rfl
    · show _ ≤ (replL [10] [94, 10] (spT rows rest)).length
      rw [stepU, spT_len, spT_len]
      unfold unT
      have : ∀ rs : List Nat, rs.sum ≤ (rs.map (· + 1)).sum := fun rs => by
        induction rs with
        | nil => exact Nat.le_refl _
        | cons r rs ih => rw [List.map_cons, List.sum_cons, List.sum_cons]; omega
      have := this rows
      rw [List.length_map]
      omega
    · show _ ≤ (replL [94] [10] (spT rows rest)).length
      rw [stepM, spT_len, spT_len, unT_rep]
      omega
    · show _ ≤ (replL [10] [94] (spT rows rest)).length
      rw [stepN, spT_len, spT_len]
      simp [unT]
  intro n
  induction n with
  | zero => intro l hn; omega
  | succ n ih =>
    intro l hn
    obtain ⟨a, ha, rfl | ⟨e, r, he, rfl, hr⟩⟩ := cut_text l
    · exact one _ ha
    · have i1 := ih r (by omega)
      have i2 := one a ha
      rw [stepT_sep he, List.length_append, List.length_append, List.length_cons, List.length_cons]
      omega
theorem step_shrink : ∀ (n : Nat) (l : List Nat), l.length ≤ n → (stepT 68 l).length ≤ l.length := by
  have one : ∀ a, Signs a → (stepT 68 a).length ≤ a.length := fun a ha => by
    obtain ⟨rows, rest, rfl⟩ := spT_of a ha
    show (replL [94, 10] [10] (spT rows rest)).length ≤ _
    rw [stepD, spT_len, spT_len]
    unfold unT
    have : ∀ rs : List Nat, (rs.map (· - 1)).sum ≤ rs.sum := fun rs => by
      induction rs with
      | nil => exact Nat.le_refl _
      | cons r rs ih => rw [List.map_cons, List.sum_cons, List.sum_cons]; omega
    have := this rows
    rw [List.length_map]
    omega
  intro n
  induction n with
  | zero =>
    intro l hn
    obtain rfl := List.length_eq_zero_iff.mp (Nat.le_zero.mp hn)
    exact one [] (fun c h => by cases h)
  | succ n ih =>
    intro l hn
    obtain ⟨a, ha, rfl | ⟨e, r, he, rfl, hr⟩⟩ := cut_text l
    · exact one _ ha
    · have i1 := ih r (by omega)
      have i2 := one a ha
      rw [stepT_sep he, List.length_append, List.length_append, List.length_cons, List.length_cons]
      omega
theorem done_app7 (l a b : List Nat) : doneT (doneT l a) b = doneT l (a ++ b) := by
  unfold doneT; rw [List.foldl_append]
theorem done_grow : ∀ (es : List Nat), (∀ c ∈ es, c = 85 ∨ c = 77 ∨ c = 78) → ∀ l, l.length ≤ (doneT l es).length
  | [], _, l => Nat.le_refl _
  | e :: es, h, l => by
    have h1 := step_grow (h e (List.mem_cons_self ..)) _ l (Nat.le_refl _)
    have h2 := done_grow es (fun c hc => h c (List.mem_cons_of_mem _ hc)) (stepT e l)
    show _ ≤ (doneT (stepT e l) es).length
    omega
theorem done_shrink : ∀ (d : Nat) (l : List Nat), (doneT l (List.replicate d 68)).length ≤ l.length
  | 0, l => Nat.le_refl _
  | d + 1, l => by
    have h1 := step_shrink _ l (Nat.le_refl _)
    have h2 := done_shrink d (stepT 68 l)
    show (doneT (stepT 68 l) (List.replicate d 68)).length ≤ _
    omega
/-- first D, then no D: no text on the way is longer than the first or the last -/
theorem way_len {d : Nat} {es : List Nat} (h : ∀ c ∈ es, c = 85 ∨ c = 77 ∨ c = 78) (l : List Nat) (i : Nat) : (doneT l ((List.replicate d 68 ++ es).take i)).length ≤ max l.length (doneT l (List.replicate d 68 ++ es)).length := by
  by_cases hi : i ≤ d
  · rw [List.take_append_of_le_length (by rw [List.length_replicate]; exact hi), List.take_replicate]
    have := done_shrink (min i d) l
    omega
  · have e1 : (List.replicate d 68 ++ es).take i = List.replicate d 68 ++ es.take (i - d) := by
      rw [List.take_append, List.length_replicate, List.take_of_length_le (by rw [List.length_replicate]; omega)]
    have e2 : List.replicate d 68 ++ es = (List.replicate d 68 ++ es.take (i - d)) ++ es.drop (i - d) := by
      rw [List.append_assoc, List.take_append_drop]
    have := done_grow (es.drop (i - d)) (fun c hc => h c (List.mem_of_mem_drop hc)) (doneT l (List.replicate d 68 ++ es.take (i - d)))
    rw [done_app7, ← e2] at this
    rw [e1]
    omega
theorem shc_shape (w : Fm) (fs : List Nat) : ∃ (d : Nat) (es : List Nat), shc w fs = List.replicate d 68 ++ es ∧ ∀ c ∈ es, c = 85 ∨ c = 77 ∨ c = 78 := by
  cases w with
  | keep b a =>
    refine ⟨b.toNat, List.replicate a.toNat 85, rfl, fun c hc => .inl (List.mem_replicate.mp hc).2⟩
  | lf b a k c =>
    refine ⟨b.toNat, List.replicate a.toNat 85 ++ ((77 :: segs fs) ++ List.replicate c.toNat 85), ?_, fun e he => ?_⟩
    · unfold shc startL
      simp only [List.append_assoc]
    · rcases List.mem_append.mp he with h | h
      · exact .inl (List.mem_replicate.mp h).2
      · rcases List.mem_append.mp h with h | h
        · rcases segs_ok h with h | h
          · exact .inl h
          · exact .inr (.inl h)
        · exact .inl (List.mem_replicate.mp h).2
  | cr b a k =>
    refine ⟨b.toNat, List.replicate a.toNat 85 ++ ((77 :: segs fs).dropLast ++ [78]), ?_, fun e he => ?_⟩
    · unfold shc startL
      simp only [List.append_assoc]
    · rcases List.mem_append.mp he with h | h
      · exact .inl (List.mem_replicate.mp h).2
      · rcases List.mem_append.mp h with h | h
        · rcases segs_ok (List.dropLast_subset _ h) with h | h
          · exact .inl h
          · exact .inr (.inl h)
        · exact .inr (.inr (List.mem_singleton.mp h))
/-! how much longer a chain makes a text -/
theorem cube_le7 : ∀ x : Nat, x ^ 3 ≤ 3 ^ x
  | 0 => by decide
  | 1 => by decide
  | 2 => by decide
  | 3 => by decide
  | x + 4 => by
    have ih := cube_le7 (x + 3)
    have h := Nat.pow_le_pow_left (show 3 * (x + 4) ≤ 4 * (x + 3) by omega) 3
    rw [Nat.mul_pow, Nat.mul_pow, show (3 : Nat) ^ 3 = 27 from rfl, show (4 : Nat) ^ 3 = 64 from rfl] at h
    have e2 : 3 ^ (x + 4) = 3 ^ (x + 3) * 3 := Nat.pow_succ ..
    omega
theorem pr_cube7 : ∀ gs : List Nat, pr gs ^ 3 ≤ 3 ^ gs.sum
  | [] => by decide
  | g :: gs => by
    show (g * pr gs) ^ 3 ≤ _
    rw [Nat.mul_pow, List.sum_cons, Nat.pow_add]
    exact Nat.mul_le_mul (cube_le7 g) (pr_cube7 gs)
theorem wt_cube7 {f : Fm} {n : Nat} (h : LowB f n) : wt f ^ 3 ≤ 3 ^ (n + 1) := by
  cases f with
  | keep b a =>
    obtain ⟨h1, h2, h3⟩ := h
    show (a.toNat + 1) ^ 3 ≤ _
    refine Nat.le_trans (cube_le7 _) (Nat.pow_le_pow_right (by decide) ?_)
    omega
  | lf b a k c =>
    obtain ⟨h1, h2, h3, gs, hg, e, h4⟩ := h
    have ek : k.toNat = pr gs := by omega
    show ((a.toNat + 1) * (k.toNat * (c.toNat + 1))) ^ 3 ≤ _
    rw [Nat.mul_pow, Nat.mul_pow, ek]
    have := Nat.mul_le_mul (cube_le7 (a.toNat + 1)) (Nat.mul_le_mul (pr_cube7 gs) (cube_le7 (c.toNat + 1)))
    rw [← Nat.pow_add, ← Nat.pow_add] at this
    refine Nat.le_trans this (Nat.pow_le_pow_right (by decide) ?_)
    omega
  | cr b a k =>
    obtain ⟨h1, h2, gs, hg, e, h4⟩ := h
    have ek : k.toNat = pr gs := by omega
    show ((a.toNat + 1) * k.toNat) ^ 3 ≤ _
    rw [Nat.mul_pow, ek]
    have := Nat.mul_le_mul (cube_le7 (a.toNat + 1)) (pr_cube7 gs)
    rw [← Nat.pow_add] at this
    refine Nat.le_trans this (Nat.pow_le_pow_right (by decide) ?_)
    omega
theorem wt_20 {cs : List Nat} (hl : cs.length ≤ 20) (hc : ∀ c ∈ cs, c ∈ steps.cps.toList) : wt (formL cs) ≤ 2188 := by
  have h1 := wt_cube7 (low_form _ cs rfl hc)
  have h2 : (3 : Nat) ^ (cs.length + 1) ≤ 3 ^ 21 := Nat.pow_le_pow_right (by decide) (by omega)
  refine Classical.byContradiction fun z => ?_
  have h3 : 2189 ^ 3 ≤ wt (formL cs) ^ 3 := Nat.pow_le_pow_left (by omega) 3
  have h4 : (3 : Nat) ^ 21 < 2189 ^ 3 := by decide
  omega
theorem len_20 {cs : List Nat} (hl : cs.length ≤ 20) (hc : ∀ c ∈ cs, c ∈ steps.cps.toList) {l : List Nat} (h : l.length ≤ 60) : (doneT l cs).length ≤ 131280 := by
  have a := done_wt (by omega) hc _ l (Nat.le_refl _)
  have := Nat.mul_le_mul h (wt_20 hl hc)
  omega
/-! three runs between letters -/
def apL : List Nat := spT [] 1 ++ 120 :: (spT [0] 0 ++ 121 :: spT [20] 0)
theorem ap_tell {cs cs' : List Nat} (hl : cs.length ≤ 20) (hl' : cs'.length ≤ 20) (hc : ∀ c ∈ cs, c ∈ steps.cps.toList) (hc' : ∀ c ∈ cs', c ∈ steps.cps.toList) (h : doneT apL cs = doneT apL cs') : formL cs = formL cs' := by
  have s120 : Sep 120 := ⟨by decide, by decide⟩
  have s121 : Sep 121 := ⟨by decide, by decide⟩
  unfold apL at h
  rw [doneT_sep s120, doneT_sep s120, doneT_sep s121, doneT_sep s121] at h
  have sd := fun rows rest => said_done7 rows rest _ cs rfl (by omega) hc
  have sd' := fun rows rest => said_done7 rows rest _ cs' rfl (by omega) hc'
  rw [← sd, ← sd, ← sd, ← sd', ← sd', ← sd'] at h
  have ns : ∀ (f : Fm) rows rest e, Sep e → e ∉ saidT f rows rest := fun f rows rest e he hm => by
    rcases said_signs f rows rest e hm with z | z
    · exact he.1 z
    · exact he.2 z
  obtain ⟨h1, h⟩ := sep_cut (ns _ _ _ 120 s120) (ns _ _ _ 120 s120) h
  obtain ⟨h2, h3⟩ := sep_cut (ns _ _ _ 121 s121) (ns _ _ _ 121 s121) h
  have fl := formL_fle _ cs rfl (by omega) hc
  have fl' := formL_fle _ cs' rfl (by omega) hc'
  have b1 : ∀ {g : Fm} {m : Nat}, FLe m g → m ≤ 20 → g.b ≤ 20 := fun {g m} hg hm => by
    cases g with
    | keep b a => obtain ⟨_, h, _⟩ := hg; show b ≤ 20; omega
    | lf b a k c => obtain ⟨_, h, _⟩ := hg; show b ≤ 20; omega
    | cr b a k => obtain ⟨_, h, _⟩ := hg; show b ≤ 20; omega
  exact said_tell (fl.ok.mono (show _ ≤ 100001 by omega)) (fl'.ok.mono (by omega)) (b1 fl hl) (b1 fl' hl') h1 h2 h3
/-! runs as data -/
theorem Rns.dq {K : PySem.W.Frag} {H : Hp} : ∀ {vs rs}, Rns K H vs rs → DqAll K H vs (rs.map rd)
  | _, _, .nil => .nil
  | _, _, .cons ⟨l, h⟩ t => .cons h.dq (Rns.dq t)
theorem rds_shaped (rs : List (List (Int × Int) × Int)) : SeqAt.shaped (.list (rs.map rd)) = true := by
  have h1 : PyData.canLayAll0 (rs.map rd) = true := by
    induction rs with
    | nil => rfl
    | cons r rs ih =>
      have h0 : PyData.canLay0 (rd r) = true := by
        have := pd_lay r.1
        unfold rd
        simp only [PyData.canLay0, PyData.canLayAll0, this, Bool.and_true]
      simp only [List.map_cons, PyData.canLayAll0, ih, h0, Bool.and_self]
  have h2 : PyData.depthAll (rs.map rd) ≤ 3 := by
    induction rs with
    | nil => exact Nat.zero_le _
    | cons r rs ih =>
      have := rd_depth r
      simp only [List.map_cons, PyData.depthAll]
      have i2 := ih (by
        simp only [List.map_cons, PyData.canLayAll0, Bool.and_eq_true] at h1
        exact h1.2)
      omega
  unfold SeqAt.shaped
  simp only [PyData.canLay0, h1, PyData.depth, Bool.true_and]
  exact decide_eq_true (by omega)
theorem rds_eqv : ∀ (a b : List (List (Int × Int) × Int)), PyData.eqv (.list (a.map rd)) (.list (b.map rd)) = true ↔ a = b
  | [], [] => by simp [PyData.eqv, PyData.eqvAll]
  | [], _ :: _ => by simp [PyData.eqv, PyData.eqvAll]
  | _ :: _, [] => by simp [PyData.eqv, PyData.eqvAll]
  | x :: xs, y :: ys => by
    have ih := rds_eqv xs ys
    simp only [PyData.eqv] at ih
    simp only [List.map_cons, PyData.eqv, PyData.eqvAll, Bool.and_eq_true, ih, rd_eqv, decide_eq_true_iff, List.cons.injEq]
end Lw
namespace Lw
open PySem PySem.Spec L2 Lx
theorem scLB : FnScope ["self"] ["self"] (defScope sLineFile_breaks) := ⟨rfl, rfl, rfl, by decide +kernel, rfl, by decide +kernel, by decide +kernel⟩
def spLBreaks (C : Addr) : Sp := fun vs H Q _ => ∃ (p e : Addr) (x z : Str), vs = [.ref p] ∧ LfAt C H p e x z ∧ ∀ y : Str, y.cps.toList = doneT x.cps.toList z.cps.toList → Q (.int (Txt.count y "\n")) H
section
variable {P : Program} {w : World} {K : PySem.W.Frag} {mg : Str → Option Value} {base : Heap}
theorem ok_lbreaks {f C : Addr} {fd : FuncData} {k : Nat} (F : Fun K "breaks" "LineFile.breaks" sLineFile_breaks f fd) (T : LTxt K mg C) : FnOk P w K mg base CX0 (k + 1) f fd ["self"] (spLBreaks C) := by
  refine F.ok scLB (fun vs H Q E h => ?_) (fun cdv A outer s H vs Q E hr h => ?_)
  · obtain ⟨p, e, x, z, rfl, _⟩ := h
    rfl
  · obtain ⟨p, e, x, z, rfl, ⟨dx, y, ts, h1, h2, h3⟩, q⟩ := h
    exact ⟨_, pss_one (ps_ret (pe_bm PySem.F.plainAttrs_str PySem.F.slot_str_count PySem.F.type_str_count mt_count (pe_fld (pv 0) rfl) (pa_cons pe_str pa_nil))), _, rfl, p, C, dx, _, _, rfl, h1, T.cl, T.nT, rfl, rfl, y, "\n", rfl, rfl, q y h3.y⟩
end
end Lw
namespace Lw
open PySem PySem.Spec L2 Lx
theorem scShown : FnScope ["one", "walk", "some", "lines_here", "told"] ["one", "walk", "some"] (defScope sLShownRight) := ⟨rfl, rfl, rfl, by decide +kernel, rfl, by decide +kernel, by decide +kernel⟩
structure SrF (mg : Str → Option Value) : Prop where
  list : mg "list" = none
  repr : mg "repr" = none
  len : mg "len" = none
def spShown (C : Addr) : Sp := fun vs H Q _ => ∃ (p e lw : Addr) (x z u : Str) (ts : List Str), vs = [.ref p, .ref lw, .str z] ∧ LfAt C H p e x z ∧ H lw = some (.lst ((ts ++ [u]).map V.str)) ∧ u.cps.toList = doneT x.cps.toList z.cps.toList ∧ Low u ∧ u.cps.size ≤ 5000 ∧ ChOk z ∧ z.cps.size ≤ 200 ∧
  ∀ H', Same H H' → Q (.bl true) H'
theorem bulk_all : ∀ xs : List Str, PyData.bulkAll (xs.map PyData.str) ≤ (xs.map (·.length)).sum + 2 * xs.length
  | [] => by simp only [List.map_nil, PyData.bulkAll]; exact Nat.zero_le _
  | x :: r => by
    have h2 := bulk_all r
    have h1 : x.cps.size = x.length := rfl
    simp only [List.map_cons, PyData.bulkAll, PyData.bulk, List.sum_cons, List.length_cons, h1]
    omega
theorem low_ok {z : Str} (h : ChOk z) : ∀ c ∈ z.cps.toList, c < 128 := fun c hc => by
  have := h c hc
  have h4 : c ∈ [85, 68, 77, 78] := this
  simp only [List.mem_cons, List.not_mem_nil, or_false] at h4
  omega
theorem pr_twoS : ∀ {gs : List Nat}, pr gs ≤ 2 ^ gs.sum
  | [] => Nat.le_refl _
  | g :: gs => by
    have ih := pr_twoS (gs := gs)
    have h1 : g < 2 ^ g := Nat.lt_two_pow_self
    show g * pr gs ≤ 2 ^ (g :: gs).sum
    rw [List.sum_cons, Nat.pow_add]
    exact Nat.mul_le_mul (Nat.le_of_lt h1) ih
theorem fm_small {L : Nat} (hL : L ≤ 200) {f : Fm} (h : LowB f L) : small (fdt f) = true := by
  have p8 : (2 : Nat) ^ 8 = 256 := by decide
  have a : ∀ i : Int, 0 ≤ i → i ≤ (L : Int) → i.natAbs < 2 ^ 400 := fun i h0 h1 => Nat.lt_of_lt_of_le (by omega : i.natAbs < 2 ^ 8) (Nat.pow_le_pow_right (by decide) (by decide))
  have b : ∀ (gs : List Nat) (k : Int), (pr gs : Int) = k → gs.sum ≤ 200 → k.natAbs < 2 ^ 400 := fun gs k e hs => by
    have h1 := pr_twoS (gs := gs)
    have h2 : 2 ^ gs.sum ≤ 2 ^ 200 := Nat.pow_le_pow_right (by decide) hs
    have h3 : (2 : Nat) ^ 200 < 2 ^ 400 := Nat.pow_lt_pow_right (by decide) (by decide)
    omega
  cases f with
  | keep b0 a0 =>
    obtain ⟨h1, h2, h3⟩ := h
    unfold fdt
    simp only [small, small.smallAll]
    rw [show (("keep" : Str).cps.toList.all fun c => decide (c < 128)) = true from rfl, decide_eq_true (a _ h1 (by omega)), decide_eq_true (a _ h2 (by omega))]
    rfl
  | lf b0 a0 k0 c0 =>
    obtain ⟨h1, h2, h3, gs, h4, h5, h6⟩ := h
    unfold fdt
    simp only [small, small.smallAll]
    rw [show (("lf" : Str).cps.toList.all fun c => decide (c < 128)) = true from rfl, decide_eq_true (a _ h1 (by omega)), decide_eq_true (a _ h2 (by omega)), decide_eq_true (b gs _ h5 (by omega)), decide_eq_true (a _ h3 (by omega))]
    rfl
  | cr b0 a0 k0 =>
    obtain ⟨h1, h2, gs, h4, h5, h6⟩ := h
    unfold fdt
    simp only [small, small.smallAll]
    rw [show (("cr" : Str).cps.toList.all fun c => decide (c < 128)) = true from rfl, decide_eq_true (a _ h1 (by omega)), decide_eq_true (a _ h2 (by omega)), decide_eq_true (b gs _ h5 (by omega))]
    rfl
theorem fm_fit {L : Nat} (hL : L ≤ 200) {f : Fm} (h : LowB f L) : Fit (fdt f) := by
  refine fit_small (fm_small hL h) ?_ ?_
  · cases f <;> simp [fdt, PyData.depth, PyData.depthAll]
  · have : (fdt f).bulk ≤ 30 := by
      cases f
      · have e1 : ("keep" : Str).cps.size = 4 := rfl
        simp only [fdt, PyData.bulk, PyData.bulkAll, e1]
        decide
      · have e1 : ("lf" : Str).cps.size = 2 := rfl
        simp only [fdt, PyData.bulk, PyData.bulkAll, e1]
        decide
      · have e1 : ("cr" : Str).cps.size = 2 := rfl
        simp only [fdt, PyData.bulk, PyData.bulkAll, e1]
        decide
    omega
/-- what a file shows, as data -/
def shD (u z : Str) : PyData := .list [.str u, .str z, .int (Txt.count u "\n"), .list ((Txt.split u "\n").map PyData.str)]
theorem shD_fit {u z : Str} (hu : Low u) (hul : u.cps.size ≤ 5000) (hz : ∀ c ∈ z.cps.toList, c < 128) (hzl : z.cps.size ≤ 200) : Fit (shD u z) := by
  have hw := PyProof.Rows.split_weight u "\n" (by decide)
  have hps : (Txt.split u "\n").map TL.tl = TL.spl [10] 0 [] u.cps.toList := nl_spl u
  have hpl : (Txt.split u "\n").length ≤ u.cps.size + 1 := by
    have g1 := congrArg List.length hps
    rw [List.length_map] at g1
    have g2 := spl_len [10] u.cps.toList 0 []
    have g3 : u.cps.toList.length = u.cps.size := Array.length_toList ..
    rw [g1]
    omega
  have hc : Txt.count u "\n" = ((Txt.split u "\n").length : Int) - 1 := ct_split u
  have hul2 : u.cps.size = u.length := rfl
  have p13 : (2 : Nat) ^ 13 = 8192 := by decide
  have hpos : 1 ≤ (Txt.split u "\n").length := by
    have e := congrArg List.length hps
    rw [List.length_map] at e
    rw [e]
    have := spl_ne [10] 0 u.cps.toList []
    exact Nat.pos_of_ne_zero fun q => this (List.length_eq_zero_iff.mp q)
  have hcn : (Txt.count u "\n").natAbs < 2 ^ 400 := Nat.lt_of_lt_of_le (by omega : (Txt.count u "\n").natAbs < 2 ^ 13) (Nat.pow_le_pow_right (by decide) (by decide))
  have hws : ((Txt.split u "\n").map (·.length)).sum ≤ u.cps.size := by
    have : u.cps.size = u.length := rfl
    omega
  refine fit_small ?_ ?_ ?_
  · unfold shD
    simp only [small, small.smallAll]
    rw [small_strs (split_low hu), List.all_eq_true.mpr fun c hc => decide_eq_true (hu c hc), List.all_eq_true.mpr fun c hc => decide_eq_true (hz c hc), decide_eq_true hcn]
    rfl
  · unfold shD
    simp only [PyData.depth, PyData.depthAll, dep_strs]
    decide
  · have hb := bulk_all (Txt.split u "\n")
    unfold shD
    simp only [PyData.bulk, PyData.bulkAll, hb]
    omega
section
variable {P : Program} {w : World} {K : PySem.W.Frag} {mg : Str → Option Value} {base : Heap}
theorem ok_shown {f CL fLl pT gT pC gC pF gF pB gB aF : Addr} {fd dLl dT dC dF dB dFm : FuncData} {k : Nat} (hk : 3 ≤ k) (F : Fun K "_law_shown_right" "_law_shown_right" sLShownRight f fd) (Z : SrF mg) (TL : LTxt K mg CL)
    (pLt : PropOf K CL "text" pT gT) (GLt : FnOk P w K mg base CX0 k gT dT ["self"] (spLText CL)) (bLt : Binds K dT ["self"] [])
    (pLc : PropOf K CL "chain" pC gC) (GLc : FnOk P w K mg base CX0 k gC dC ["self"] (spLChain CL)) (bLc : Binds K dC ["self"] [])
    (pLf : PropOf K CL "form" pF gF) (GLf : FnOk P w K mg base CX0 k gF dF ["self"] (spLForm K CL)) (bLf : Binds K dF ["self"] [])
    (pLb : PropOf K CL "breaks" pB gB) (GLb : FnOk P w K mg base CX0 k gB dB ["self"] (spLBreaks CL)) (bLb : Binds K dB ["self"] [])
    (mLl : Meth K CL "lines" fLl) (GLl : GFn P w K mg base 1 fLl dLl ["self"] (spLLines CL)) (bLl : Binds K dLl ["self"] [])
    (cF : Cl P w K mg base (k + 1) "form" ["chain"] (spFoc K) aF dFm) : FnG P w K mg base CX0 (k + 2) f fd ["one", "walk", "some"] (spShown CL) := by
  refine okG F scShown (fun vs H Q E h => ?_) (fun cdv A outer s H vs Q E hr hg h => ?_)
  · obtain ⟨p, e, lw, x, z, u, ts, rfl, _⟩ := h
    rfl
  · obtain ⟨p, e, lw, x, z, u, ts, rfl, hL, hw, hu, hlow, hul, hz, hzl, q⟩ := h
    refine ⟨_, PSs.nox ((pss_cons (ps_set (i := 3) scShown.nd rfl (.inl rfl) (pe_split (pe_ix ix_list (pv 1) (pe_un un_neg pe_int) (fun _ _ => rfl)) pe_str))
      (pss_cons (ps_set (i := 4) scShown.nd rfl (.inl rfl) (pe_lst (pa_cons (pe_prop (pv 0) TL.cl pLt GLt hr bLt .nil pass0 rfl) (pa_cons (pe_prop (pv 0) TL.cl pLc GLc hr bLc .nil pass0 rfl) (pa_cons (pe_prop (pv 0) TL.cl pLb GLb hr bLb .nil pass0 rfl) (pa_cons (pe_listG (nm := "list") (E := E0) (pgen_meth0 (pv 0) TL.cl mLl GLl (hr.mono (by omega)) bLl .nil) passL (fun _ _ _ z => z.elim) (hr.mono (by omega)) (by rfl) Z.list (by decide +kernel)) pa_nil))))))
      (pss_one (ps_ret (pe_and (pe_cmpR op_eq (pe_callB (call_reprD hg hr.units) (by rfl) Z.repr (by decide +kernel) (pa_cons (pv 4) pa_nil)) (pe_callB (call_reprD hg hr.units) (by rfl) Z.repr (by decide +kernel) (pa_cons (pe_lst (pa_cons (pe_ix ix_list (pv 1) (pe_un un_neg pe_int) (fun _ _ => rfl)) (pa_cons (pv 2) (pa_cons (pe_op op_sub (pe_callB call_len_seq (by rfl) Z.len PySem.boot_len (pa_cons (pv 3) pa_nil)) pe_int) (pa_cons (pv 3) pa_nil))))) pa_nil)) (nomark _)) (pe_one (pe_cmpR op_eq (pe_callB (call_reprD hg hr.units) (by rfl) Z.repr (by decide +kernel) (pa_cons (pe_prop (pv 0) TL.cl pLf GLf hr bLf .nil pass0 rfl) pa_nil)) (pe_callB (call_reprD hg hr.units) (by rfl) Z.repr (by decide +kernel) (pa_cons (pe_call cF.G hr (by rfl) cF.g cF.kp cF.b .nil pass0 (pa_cons (pv 2) pa_nil)) pa_nil)) (nomark _))))))))), ?_⟩
    have hmap : (ts ++ [u]).map V.str = ts.map V.str ++ [.str u] := by rw [List.map_append]; rfl
    rw [hmap] at hw
    obtain ⟨dx, w0, ts0, hp, -, -⟩ := id hL
    have hdl : (doneT x.cps.toList z.cps.toList).length ≤ 1000000 := by
      rw [← hu, Array.length_toList]
      omega
    dsimp only [gName, tNext, tSeq]
    refine ⟨_, rfl, 1, rfl, lw, _, (-1 : Int), .str u, rfl, rfl, .inl (.inl hw), atI_last _ _, ⟨_, rfl⟩, u, "\n", rfl, rfl, rfl, by rw [sizeLine_eq]; show u.cps.size + 2 ≤ _; omega, fun l1 n1 => ?_⟩
    have s1 := same_upd (o := .lst ((Txt.split u "\n").map V.str)) n1
    have hl1 : upd H l1 (.lst ((Txt.split u "\n").map V.str)) l1 = _ := upd_same
    revert s1 hl1
    generalize upd H l1 (.lst ((Txt.split u "\n").map V.str)) = H1
    intro s1 hl1
    have hp1 := s1 _ _ hp
    have hL1 := hL.same s1
    dsimp only [gName, tNext, tSeq]
    refine ⟨_, rfl, p, dx, _, rfl, hp1, p, e, x, z, rfl, hL1, fun y hy => ?_⟩
    refine ⟨_, rfl, p, dx, _, rfl, hp1, p, e, x, z, rfl, hL1, ?_⟩
    refine ⟨_, rfl, p, dx, _, rfl, hp1, p, e, x, z, rfl, hL1, fun y2 hy2 => ?_⟩
    refine ⟨_, rfl, p, dx, _, rfl, hp1, rfl, p, e, x, z, rfl, hL1, hdl, fun out H2 s2 hout l2 n2 => ?_⟩
    obtain ⟨y3, hy3, rfl⟩ := hout
    have e1 : y = u := str_ext (hy.trans hu.symm)
    have e2 : y2 = u := str_ext (hy2.trans hu.symm)
    have e3 : y3 = u := str_ext (hy3.trans hu.symm)
    rw [e1, e2, e3]
    clear hy hy2 hy3 e1 e2 e3 y2 y3 y
    have ⟨y, ey⟩ : ∃ y, y = u := ⟨u, rfl⟩
    subst ey
    have s3 := s2.trans (same_upd (o := .lst ((Txt.split y "\n").map V.str)) n2)
    have hl2 : upd H2 l2 (.lst ((Txt.split y "\n").map V.str)) l2 = _ := upd_same
    have hl13 := s3 _ _ hl1
    replace s3 := s1.trans s3
    revert s3 hl2 hl13
    generalize upd H2 l2 (.lst ((Txt.split y "\n").map V.str)) = H3
    intro hl2 hl13 s3
    have dps := dp_strs (K := K) (H := H3) (Txt.split y "\n")
    have hfit := shD_fit hlow hul (low_ok hz) hzl
    refine ⟨by show 4 ≤ sizeLine; decide, fun l4 n4 => ?_⟩
    have s4 := same_upd (o := .lst [.str y, .str z, .int (Txt.count y "\n"), .ref l2]) n4
    have hl4 : upd H3 l4 (.lst [.str y, .str z, .int (Txt.count y "\n"), .ref l2]) l4 = _ := upd_same
    have hl24 := s4 _ _ hl2
    have hl14 := s4 _ _ hl13
    replace s4 := s3.trans s4
    revert s4 hl4 hl24 hl14
    generalize upd H3 l4 _ = H4
    intro hl4 hl24 hl14 s4
    dsimp only [gName, tNext, tSeq]
    refine ⟨_, rfl, _, shD y z, rfl, .lst (.inl (.inl hl4)) (.cons (.str _) (.cons (.str _) (.cons (.int _) (.cons (.lst (.inl (.inl hl24)) (dp_strs _)) .nil)))), hfit, ?_⟩
    refine ⟨_, rfl, 1, rfl, lw, _, (-1 : Int), .str y, rfl, rfl, .inl (.inl (s4 _ _ hw)), atI_last _ _, _, rfl, _, rfl, l1, _, rfl, .inl (.inl (.inl hl14)), _, _, rfl, rfl, _, rfl, by show 4 ≤ sizeLine; decide, fun l5 n5 => ?_⟩
    have s5 := s4.trans (same_upd (o := .lst [.str y, .str z, .int ((((Txt.split y "\n").map V.str).length : Int) - 1), .ref l1]) n5)
    have hct : ((((Txt.split y "\n").map V.str).length : Int) - 1) = Txt.count y "\n" := by rw [List.length_map, ct_split]
    refine ⟨_, shD y z, rfl, .lst (.inl (.inl (by rw [upd_same]; exact congrArg (fun v => some (HO.lst [V.str y, V.str z, V.int v, V.ref l1])) hct))) (.cons (.str _) (.cons (.str _) (.cons (.int _) (.cons (.lst (.inl (.inl ((same_upd n5) _ _ hl14))) (dp_strs _)) .nil)))), hfit, rfl, _, rfl, ?_⟩
    rw [decide_eq_true rfl]
    revert s5
    generalize upd H4 l5 _ = H5
    intro s5
    refine iteT ?_
    refine ⟨_, rfl, p, dx, _, rfl, s5 _ _ hp, p, e, x, z, rfl, hL.same s5, hz, by omega, fun fv H6 s6 hfv => ?_⟩
    have hfo : LowB (formOf z) z.cps.size := by
      have h1 := low_form _ z.cps.toList rfl hz
      rw [Array.length_toList] at h1
      exact h1
    refine ⟨_, fdt (formOf z), rfl, fm_dp hfv, fm_fit hzl hfo, _, rfl, z, rfl, hz, by omega, fun fv2 H7 s7 hfv2 _ => ?_⟩
    refine ⟨_, fdt (formOf z), rfl, fm_dp hfv2, fm_fit hzl hfo, rfl, ?_⟩
    rw [decide_eq_true rfl]
    exact q _ ((s5.trans s6).trans s7)
end
end Lw
namespace Lw
open PySem PySem.Spec L2 Lx
theorem scForm : FnScope ["chain"] ["chain"] (defScope sForm) := ⟨rfl, rfl, rfl, by decide +kernel, rfl, by decide +kernel, by decide +kernel⟩
section
variable {P : Program} {w : World} {K : PySem.W.Frag} {mg : Str → Option Value} {base : Heap} {aL aN aS : Addr}
theorem ok_form {f fC fF : Addr} {fd fdC fdF : FuncData} {k : Nat} (F : Fun K "form" "form" sForm f fd)
    (GC : FnOk P w K mg base CX0 k fC fdC ["chain"] spChkChain) (kC : PySem.W.keepIn K (.ref fC) = true) (bC : Binds K fdC ["chain"] []) (gC : mg "check_chain" = some (.ref fC))
    (GF : FnOk P w K mg base CX0 k fF fdF ["chain"] (spFoc K)) (kF : PySem.W.keepIn K (.ref fF) = true) (bF : Binds K fdF ["chain"] []) (gF : mg "form_of_chain" = some (.ref fF)) :
    FnOk P w K mg base CX0 (k + 1) f fd ["chain"] (spFoc K) := by
  refine F.ok scForm (fun vs H Q E h => ?_) (fun cdv A outer s H vs Q E hr h => ?_)
  · obtain ⟨x, rfl, _⟩ := h
    rfl
  · obtain ⟨x, rfl, hx, hsz, q⟩ := h
    refine ⟨_, pss_cons (ps_expr (pe_call GC hr (by rfl) gC kC bC .nil pass0 (pa_cons (pv 0) pa_nil))) (pss_one (ps_ret (pe_call GF hr (by rfl) gF kF bF .nil pass0 (pa_cons (pv 0) pa_nil)))), ?_⟩
    exact ⟨_, rfl, x, rfl, hx, fun H1 s1 => ⟨_, rfl, x, rfl, hx, hsz, fun v H' s2 => q v H' (s1.trans s2)⟩⟩
end
end Lw
/-! runs of a text: their feeds, and how much they are written out -/
namespace Lw
open PySem PySem.Spec L2 Lx
theorem mfold {B : Int} : ∀ (gs acc : List (Int × Int)) (t : Nat), (∀ x ∈ acc, 0 ≤ x.1 ∧ x.1 ≤ (t : Int) ∧ 0 ≤ x.2 ∧ x.2 ≤ B) → acc.length ≤ t → (∀ g ∈ gs, g.1 = 1 ∧ 0 ≤ g.2 ∧ g.2 ≤ B) →
    (∀ x ∈ gs.foldl addTo acc, 0 ≤ x.1 ∧ x.1 ≤ ((t + gs.length : Nat) : Int) ∧ 0 ≤ x.2 ∧ x.2 ≤ B) ∧ (gs.foldl addTo acc).length ≤ t + gs.length
  | [], acc, t, h1, h2, _ => ⟨h1, h2⟩
  | g :: gs, acc, t, h1, h2, h3 => by
    obtain ⟨g1, g2, g3⟩ := h3 g List.mem_cons_self
    have key : (∀ x ∈ addTo acc g, 0 ≤ x.1 ∧ x.1 ≤ ((t + 1 : Nat) : Int) ∧ 0 ≤ x.2 ∧ x.2 ≤ B) ∧ (addTo acc g).length ≤ t + 1 := by
      rcases ends acc with rfl | ⟨b, y, rfl⟩
      · refine ⟨fun x hx => ?_, ?_⟩
        · have : x = g := by simpa [addTo] using hx
          subst this
          omega
        · show 1 ≤ t + 1
          omega
      · obtain ⟨y1, y2, y3, y4⟩ := h1 y (by simp)
        rw [addTo_end]
        rw [List.length_append, List.length_singleton] at h2
        by_cases e : y.2 = g.2
        · rw [if_pos e]
          refine ⟨fun x hx => ?_, by rw [List.length_append, List.length_singleton]; omega⟩
          rcases List.mem_append.mp hx with h | h
          · have := h1 x (List.mem_append_left _ h); omega
          · rw [List.mem_singleton.mp h]; show 0 ≤ y.1 + g.1 ∧ y.1 + g.1 ≤ _ ∧ 0 ≤ g.2 ∧ g.2 ≤ B; omega
        · rw [if_neg e]
          refine ⟨fun x hx => ?_, by rw [List.length_append, List.length_append, List.length_singleton, List.length_singleton]; omega⟩
          rcases List.mem_append.mp hx with h | h
          · have := h1 x h; omega
          · rw [List.mem_singleton.mp h]; omega
    have ih := mfold gs (addTo acc g) (t + 1) key.1 key.2 fun x hx => h3 x (List.mem_cons_of_mem _ hx)
    have e : t + 1 + gs.length = t + (g :: gs).length := by rw [List.length_cons]; omega
    rw [e] at ih
    exact ih
theorem rn_bd (rows : List Nat) (rest : Nat) {n : Nat} (h : (spT rows rest).length ≤ n) : (∀ x ∈ (rnT rows rest).1, 0 ≤ x.1 ∧ x.1 ≤ (n : Int) ∧ 0 ≤ x.2 ∧ x.2 ≤ (n : Int)) ∧ (rnT rows rest).1.length ≤ rows.length ∧ rows.length ≤ n ∧ rest ≤ n := by
  obtain ⟨rl, rs, rn⟩ := @rows_small rows rest
  have m := mfold (B := (n : Int)) (rowP rows) [] 0 (fun x hx => by cases hx) (Nat.le_refl _) (fun x hx => by
    obtain ⟨j, hj, rfl⟩ := List.mem_map.mp hx
    have := rn j hj
    exact ⟨rfl, Int.natCast_nonneg _, (show (j : Int) ≤ (n : Int) by omega)⟩)
  have el : (rowP rows).length = rows.length := List.length_map _
  rw [el, Nat.zero_add] at m
  refine ⟨fun x hx => ?_, m.2, by omega, by omega⟩
  have := m.1 x hx
  omega
def feedOf (r : List (Int × Int) × Int) : Int := (r.1.map (·.1)).sum
theorem feed_rn (rows : List Nat) (rest : Nat) : feedOf (rnT rows rest) = (rows.length : Int) := by
  have e0 : ∀ gs : List (Int × Int), (gs.map (·.1)).sum = total (on (fun _ => 0) gs) := fun gs => by
    unfold total on
    rw [List.map_map]
    congr 1
    refine List.map_congr_left fun x _ => ?_
    show x.1 = x.1 * (0 + 1)
    omega
  have e1 : ∀ rs : List Nat, ((rowP rs).map (·.1)).sum = (rs.length : Int) := fun rs => by
    induction rs with
    | nil => rfl
    | cons r rs ih =>
      show (1 : Int) + ((rowP rs).map (·.1)).sum = _
      rw [ih, List.length_cons]
      omega
  show ((Lx.merged (rowP rows)).map (·.1)).sum = _
  rw [e0, total_on _ _ _ rfl, ← e0, e1]
theorem cnt_sp (rows : List Nat) (rest : Nat) : PyProof.Rows.cnt 10 (spT rows rest) = (rows.length : Int) := by
  have up : ∀ n : Nat, PyProof.Rows.cnt 10 (List.replicate n 94) = 0 := fun n => cnt_free (fun h => by have := (List.mem_replicate.mp h).2; cases this)
  induction rows with
  | nil =>
    show PyProof.Rows.cnt 10 (List.replicate rest 94) = 0
    exact up rest
  | cons r rows ih =>
    have e : spT (r :: rows) rest = List.replicate r 94 ++ ([10] ++ spT rows rest) := by
      unfold spT
      rw [List.flatMap_cons]
      simp [Lx.up]
    rw [e, cnt_app, cnt_app, up, ih, List.length_cons, show PyProof.Rows.cnt 10 [10] = 1 from rfl]
    omega
theorem runs_feed : ∀ (n : Nat) (l : List Nat), l.length ≤ n → ((runsT l).map feedOf).sum = PyProof.Rows.cnt 10 l := by
  have one : ∀ a, Signs a → (((if a = [] then [] else [a]).map rpT).map feedOf).sum = PyProof.Rows.cnt 10 a := fun a ha => by
    by_cases h : a = []
    · rw [if_pos h, h]; rfl
    · rw [if_neg h]
      obtain ⟨rows, rest, rfl⟩ := spT_of a ha
      show feedOf (rpT (spT rows rest)) + 0 = _
      rw [rpT_spT, feed_rn, cnt_sp]
      omega
  intro n
  induction n with
  | zero =>
    intro l hn
    obtain rfl := List.length_eq_zero_iff.mp (Nat.le_zero.mp hn)
    rfl
  | succ n ih =>
    intro l hn
    obtain ⟨a, ha, rfl | ⟨e, r, he, rfl, hr⟩⟩ := cut_text l
    · unfold runsT
      rw [pieces_last ha]
      exact one _ ha
    · have ih2 := ih r (by omega)
      unfold runsT at ih2 ⊢
      rw [pieces_cons ha he, List.map_append, List.map_append, List.sum_append, one a ha, ih2, cnt_app, show e :: r = [e] ++ r from rfl, cnt_app, cnt_free (l := [e]) (fun h => he.2 (List.mem_singleton.mp h).symm)]
      omega
theorem runs_bulk : ∀ (n : Nat) (l : List Nat), l.length ≤ n → ((runsT l).map fun r => 3 * r.1.length + 3).sum ≤ 6 * l.length := by
  have one : ∀ a, Signs a → (((if a = [] then [] else [a]).map rpT).map fun r => 3 * r.1.length + 3).sum ≤ 6 * a.length := fun a ha => by
    by_cases h : a = []
    · rw [if_pos h, h]; exact Nat.le_refl _
    · rw [if_neg h]
      obtain ⟨rows, rest, rfl⟩ := spT_of a ha
      show 3 * (rpT (spT rows rest)).1.length + 3 + 0 ≤ _
      rw [rpT_spT]
      obtain ⟨_, h2, h3, _⟩ := rn_bd rows rest (Nat.le_refl _)
      have : 0 < (spT rows rest).length := List.length_pos_iff.mpr h
      omega
  intro n
  induction n with
  | zero =>
    intro l hn
    obtain rfl := List.length_eq_zero_iff.mp (Nat.le_zero.mp hn)
    exact Nat.le_refl _
  | succ n ih =>
    intro l hn
    obtain ⟨a, ha, rfl | ⟨e, r, he, rfl, hr⟩⟩ := cut_text l
    · unfold runsT
      rw [pieces_last ha]
      exact one _ ha
    · have ih2 := ih r (by omega)
      have i1 := one a ha
      unfold runsT at ih2 ⊢
      rw [pieces_cons ha he, List.map_append, List.map_append, List.sum_append, List.length_append, List.length_cons]
      omega
theorem runs_len (l : List Nat) : (runsT l).length ≤ l.length + 1 := by
  unfold runsT piecesT
  rw [List.length_map]
  have := List.length_filter_le (fun p : List Nat => !p.isEmpty) (TL.spl [32] 0 [] (l.map spc))
  have := spl_len [32] (l.map spc) 0 []
  rw [List.length_map] at this
  omega
theorem runs_grp {l : List Nat} {r : List (Int × Int) × Int} (hr : r ∈ runsT l) : r.1.length ≤ l.length := by
  obtain ⟨p, hp, rfl⟩ := List.mem_map.mp hr
  obtain ⟨h1, _, h3⟩ := piece_ok _ l (Nat.le_refl _) p hp
  obtain ⟨rows, rest, rfl⟩ := spT_of p h1
  rw [rpT_spT]
  obtain ⟨_, b, c, _⟩ := rn_bd rows rest (n := l.length) h3
  omega
theorem rd_small {r : List (Int × Int) × Int} {n : Nat} (h : ∀ x ∈ r.1, 0 ≤ x.1 ∧ x.1 ≤ (n : Int) ∧ 0 ≤ x.2 ∧ x.2 ≤ (n : Int)) (h2 : 0 ≤ r.2 ∧ r.2 ≤ (n : Int)) (hn : n ≤ 1000000) : small (rd r) = true := by
  have sm : ∀ {x : Int}, 0 ≤ x → x ≤ (n : Int) → x.natAbs < 2 ^ 400 := fun {x} h0 h1 => by
    have p : (2 : Nat) ^ 20 ≤ 2 ^ 400 := Nat.pow_le_pow_right (by decide) (by decide)
    have p2 : (2 : Nat) ^ 20 = 1048576 := by decide
    omega
  have e : ∀ gs : List (Int × Int), (∀ x ∈ gs, 0 ≤ x.1 ∧ x.1 ≤ (n : Int) ∧ 0 ≤ x.2 ∧ x.2 ≤ (n : Int)) → small.smallAll (pd gs) = true := fun gs => by
    unfold pd
    induction gs with
    | nil => exact fun _ => rfl
    | cons g gs ih =>
      intro hg
      obtain ⟨a, b, c, d⟩ := hg g List.mem_cons_self
      simp only [List.map_cons, small.smallAll, small, decide_eq_true (sm a b), decide_eq_true (sm c d), Bool.and_true, Bool.true_and]
      exact ih fun x hx => hg x (List.mem_cons_of_mem _ hx)
  unfold rd
  simp only [small, small.smallAll, e r.1 h, decide_eq_true (sm h2.1 h2.2), Bool.and_true]
theorem runs_fit {l : List Nat} (h : l.length ≤ 6000) : Fit (.list ((runsT l).map rd)) := by
  have hs : ∀ r ∈ runsT l, small (rd r) = true := fun r hr => by
    obtain ⟨p, hp, rfl⟩ := List.mem_map.mp hr
    obtain ⟨h1, _, h3⟩ := piece_ok _ l (Nat.le_refl _) p hp
    obtain ⟨rows, rest, rfl⟩ := spT_of p h1
    rw [rpT_spT]
    obtain ⟨a, _, _, d⟩ := rn_bd rows rest (n := 6000) (by omega)
    exact rd_small a ⟨Int.natCast_nonneg _, (show (rest : Int) ≤ _ by omega)⟩ (by decide)
  have hb := runs_bulk _ l (Nat.le_refl _)
  revert hs hb
  generalize runsT l = rs
  intro hs hb
  refine fit_small ?_ ?_ ?_
  · show small.smallAll (rs.map rd) = true
    clear hb
    induction rs with
    | nil => rfl
    | cons r rs ih =>
      simp only [List.map_cons, small.smallAll, hs r List.mem_cons_self, Bool.true_and]
      exact ih fun x hx => hs x (List.mem_cons_of_mem _ hx)
  · have e : ∀ rs : List (List (Int × Int) × Int), PyData.depthAll (rs.map rd) ≤ 30 := fun rs => by
      induction rs with
      | nil => exact Nat.zero_le _
      | cons r rs ih =>
        have := rd_depth r
        simp only [List.map_cons, PyData.depthAll]
        omega
    have := e rs
    simp only [PyData.depth]
    omega
  · have e : ∀ rs : List (List (Int × Int) × Int), PyData.bulkAll (rs.map rd) = (rs.map fun r => 3 * r.1.length + 3).sum := fun rs => by
      induction rs with
      | nil => rfl
      | cons r rs ih =>
        have := rd_bulk r
        simp only [List.map_cons, PyData.bulkAll, List.sum_cons]
        omega
    exact Nat.le_trans (Nat.le_of_eq (e rs)) (Nat.le_trans hb (by omega))
/-! three runs between letters, to 12 steps -/
def ebL : List Nat := spT [] 1 ++ 97 :: 10 :: 97 :: spT [13] 0
theorem eb_tell {cs cs' : List Nat} (hl : cs.length ≤ 13) (hl' : cs'.length ≤ 13) (hc : ∀ c ∈ cs, c ∈ steps.cps.toList) (hc' : ∀ c ∈ cs', c ∈ steps.cps.toList) (h : doneT ebL cs = doneT ebL cs') : formL cs = formL cs' := by
  have s97 : Sep 97 := ⟨by decide, by decide⟩
  have e0 : ebL = spT [] 1 ++ 97 :: (spT [0] 0 ++ 97 :: spT [13] 0) := rfl
  rw [e0] at h
  rw [doneT_sep s97, doneT_sep s97, doneT_sep s97, doneT_sep s97] at h
  have sd := fun rows rest => said_done7 rows rest _ cs rfl (by omega) hc
  have sd' := fun rows rest => said_done7 rows rest _ cs' rfl (by omega) hc'
  rw [← sd, ← sd, ← sd, ← sd', ← sd', ← sd'] at h
  have ns : ∀ (f : Fm) rows rest e, Sep e → e ∉ saidT f rows rest := fun f rows rest e he hm => by
    rcases said_signs f rows rest e hm with z | z
    · exact he.1 z
    · exact he.2 z
  obtain ⟨h1, h⟩ := sep_cut (ns _ _ _ 97 s97) (ns _ _ _ 97 s97) h
  obtain ⟨h2, h3⟩ := sep_cut (ns _ _ _ 97 s97) (ns _ _ _ 97 s97) h
  have fl := formL_fle _ cs rfl (by omega) hc
  have fl' := formL_fle _ cs' rfl (by omega) hc'
  have b1 : ∀ {g : Fm} {m : Nat}, FLe m g → m ≤ 13 → g.b ≤ 13 := fun {g m} hg hm => by
    cases g with
    | keep b a => obtain ⟨_, h, _⟩ := hg; show b ≤ 13; omega
    | lf b a k c => obtain ⟨_, h, _⟩ := hg; show b ≤ 13; omega
    | cr b a k => obtain ⟨_, h, _⟩ := hg; show b ≤ 13; omega
  exact said_tell (fl.ok.mono (show _ ≤ 100001 by omega)) (fl'.ok.mono (by omega)) (b1 fl hl) (b1 fl' hl') h1 h2 h3
end Lw
namespace Lw
open PySem PySem.Spec L2 Lx
theorem scLaw : FnScope ["script", "rng", "lap", "line", "some", "walk", "one", "place", "turn", "later", "many"] ["script"] (defScope sLaw) := ⟨rfl, rfl, rfl, by decide +kernel, rfl, by decide +kernel, by decide +kernel⟩
structure LwF (mg : Str → Option Value) : Prop where
  range : mg "range" = none
  min : mg "min" = none
  len : mg "len" = none
structure ClN (P : Program) (w : World) (K : PySem.W.Frag) (mg : Str → Option Value) (base : Heap) (k : Nat) (nm : Str) (ps : List Str) (sp : Sp) (f : Addr) (fd : FuncData) : Prop where
  G : FnG P w K mg base CX0 k f fd ps sp
  kp : PySem.W.keepIn K (.ref f) = true
  b : Binds K fd ps []
  g : mg nm = some (.ref f)
def spLaw (K : PySem.W.Frag) : Sp := fun vs H Q _ => ∃ (a : Addr) (ns : List Int), vs = [.ref a] ∧ SqL K H a (ns.map V.int) ∧ ns.length ≤ 63 ∧ ∀ H', Q (.bl true) H'
theorem LfAt.keep {C : Addr} {H H' : Hp} {p e : Addr} {x z : Str} (h : LfAt C H p e x z) (k1 : At1 H H' p) (k2 : At1 H H' e) : LfAt C H' p e x z := by
  obtain ⟨dx, y, ts, h1, h2, h3⟩ := h
  exact ⟨dx, y, ts, k1 _ h1, k2 _ h2, h3⟩
/-- the work of a lap: a file at p, the texts on its way at lw -/
structure In (CL : Addr) (H' : Hp) (r p e lw : Addr) (line z : Str) (ts : List Str) (n : Nat) : Prop where
  lf : LfAt CL H' p e line z
  w : H' lw = some (.lst (ts.map V.str))
  rg : RngAt H' r n
  er : e ≠ r
  lr : lw ≠ r
  le : lw ≠ e
section
variable {CL : Addr} {H H2 : Hp} {r p e lw : Addr} {line z : Str} {ts : List Str} {n m : Nat}
theorem In.pr (h : In CL H r p e lw line z ts n) : p ≠ r := by
  obtain ⟨dx, y, ts0, h1, _⟩ := h.lf
  obtain ⟨d, a, c, h2, _⟩ := h.rg
  rintro rfl
  rw [h1] at h2; cases h2
theorem In.lp (h : In CL H r p e lw line z ts n) : lw ≠ p := by
  obtain ⟨dx, y, ts0, h1, _⟩ := h.lf
  have h2 := h.w
  rintro rfl
  rw [h1] at h2; cases h2
theorem In.draw (h : In CL H r p e lw line z ts n) (hr : RngAt H2 r m) (k : Kd r H H2) : In CL H2 r p e lw line z ts m :=
  ⟨h.lf.keep (k.at1 h.pr) (k.at1 h.er), k _ _ h.lr h.w, hr, h.er, h.lr, h.le⟩
theorem In.same (h : In CL H r p e lw line z ts n) (s : Same H H2) : In CL H2 r p e lw line z ts n := h.draw (h.rg.same s) (Kd.of s)
theorem In.file (h : In CL H r p e lw line z ts n) {z2 : Str} (L : LfAt CL H2 p e line z2) (k : Kb p e H H2) : In CL H2 r p e lw line z2 ts n := by
  refine ⟨L, k _ _ h.lp h.le h.w, ?_, h.er, h.lr, h.le⟩
  obtain ⟨d, a, c, h2, q⟩ := h.rg
  exact ⟨d, a, c, k _ _ h.pr.symm h.er.symm h2, q⟩
end
theorem FmAt.file {K : PySem.W.Frag} {C : Addr} {H H' : Hp} {p e : Addr} {x z : Str} {v : V} {f : Fm} (L : LfAt C H p e x z) (k : Kb p e H H') (h : FmAt K H v f) : FmAt K H' v f := by
  obtain ⟨q, rfl, h⟩ := h
  obtain ⟨dx, y, ts, h1, h2, _⟩ := L
  refine ⟨q, rfl, ?_⟩
  rcases h with (h | ⟨o, h⟩) | h
  · exact .inl (.inl (k _ _ (ne_of h h1 (by intro z; cases z)) (ne_of h h2 (by intro z; cases z)) h))
  · exact .inl (.inr ⟨o, k _ _ (ne_of h h1 (by intro z; cases z)) (ne_of h h2 (by intro z; cases z)) h⟩)
  · exact .inr h
theorem cutS_mid (z : Str) (a b : Nat) (hb : b ≤ z.cps.size) : (cutS z (some (a : Int)) (some (b : Int))).cps.toList = (z.cps.toList.take b).drop a := by
  have hl : z.cps.toList.length = z.length := Array.length_toList ..
  have hz : z.length = z.cps.size := rfl
  unfold cutS
  rw [HT.sIx_nat, HT.sIx_nat]
  show (((z.cps.toList.drop (min a z.length)).take (min b z.length - min a z.length)).toArray).toList = _
  rw [List.drop_take, Nat.min_eq_left (by omega : b ≤ z.length)]
  by_cases h : a ≤ z.length
  · rw [Nat.min_eq_left h]
  · rw [Nat.min_eq_right (by omega), List.drop_eq_nil_of_le (by omega), List.drop_eq_nil_of_le (by omega)]
    simp
theorem tak_add (l : List Nat) (a b : Nat) (h : a ≤ b) : l.take a ++ (l.take b).drop a = l.take b := by
  have := List.take_append_drop a (l.take b)
  rw [List.take_take, Nat.min_eq_left h] at this
  exact this
theorem tb_pre {x z : Str} {ts : List Str} {m : Nat} (hW : WkS x z ts m 600) {A B : List Nat} {b : Nat} (h : A ++ B = z.cps.toList.take b) : TB (doneT x.cps.toList A) B := fun i => by
  rw [done_app7]
  have e : A ++ B.take i = z.cps.toList.take (min (A.length + (B.take i).length) b) := by
    have h1 : A ++ B.take i = (A ++ B).take (A.length + (B.take i).length) := by
      have : A ++ B = (A ++ B.take i) ++ B.drop i := by rw [List.append_assoc, List.take_append_drop]
      rw [this, ← List.length_append, List.take_left]
    rw [h1, h, List.take_take]
  rw [e]
  have := hW.le (min (A.length + (B.take i).length) b)
  omega
theorem cutV_to (xs : List V) (k : Nat) (h : k ≤ xs.length) : cutV xs none (some (k : Int)) = xs.take k := by
  unfold cutV
  rw [HT.sIx_none, HT.sIx_nat, Nat.min_eq_left h, List.drop_zero, Nat.sub_zero]
theorem len_join (cs : List Str) : (cs.map (·.length)).sum = (Txt.join "" cs).cps.toList.length := by
  rw [joinE_list, List.length_flatMap]
  congr 1
theorem conv_step {CL : Addr} {r p e lw : Addr} {line z : Str} {ts : List Str} {n : Nat} (hW : WkS line z ts 190 600) (hzs : z.cps.size = 190) {H7 : Hp} {A : Str} {cs : List Str} {aL bL : Nat} (I : In CL H7 r p e lw line A ts n) (hA : A.cps.toList = z.cps.toList.take aL) (hab : aL ≤ bL)
    (hj : (Txt.join "" cs).cps.toList = (z.cps.toList.take bL).drop aL) (hc : cs.length ≤ 20) {Q : VK} {E : XK} (q : ∀ H8 B, In CL H8 r p e lw line B ts n → B.cps.toList = z.cps.toList.take bL → Q .non H8) :
    ∃ ws rest, (V.ref p :: cs.map V.str) = ws ++ rest ∧ ws.length = (["self"] : List Str).length ∧ rest.length ≤ sizeLine ∧ ∀ p, H7 p = Option.none → spLConv CL (ws ++ [V.ref p]) (upd H7 p (.tup rest)) Q E := by
  have hzll : z.cps.toList.length = z.cps.size := Array.length_toList ..
  have hAl : A.cps.size ≤ 190 := by rw [← Array.length_toList, hA, List.length_take]; omega
  have hjl : (Txt.join "" cs).cps.toList.length ≤ 190 := by rw [hj, List.length_drop, List.length_take]; omega
  refine ⟨[.ref p], cs.map V.str, rfl, rfl, by rw [List.length_map, sizeLine_eq]; omega, fun T nT => ?_⟩
  refine ⟨p, e, T, line, A, cs, rfl, upd_same, I.lf.same (same_upd nT), by rw [len_join]; omega, by omega, fun c hc => ?_, tb_pre hW (b := bL) (by rw [hA, hj, tak_add _ _ _ hab]), fun H8 L8 kb => ?_⟩
  · rw [hj] at hc
    exact hW.ok c (List.mem_of_mem_take (List.mem_of_mem_drop hc))
  · refine q H8 _ ((I.same (same_upd nT)).file L8 kb) ?_
    rw [show (A ++ Txt.join "" cs).cps.toList = A.cps.toList ++ (Txt.join "" cs).cps.toList from Array.toList_append .., hA, hj, tak_add _ _ _ hab]
/-! the long file -/
def bigC : List Nat := ("UMUMUMUMUMUD" : Str).cps.toList
theorem sp_zero (m : Nat) : spT (List.replicate m 0) 0 = List.replicate m 10 := by
  induction m with
  | zero => rfl
  | succ m ih =>
    rw [List.replicate_succ, spT_cons, ih]
    rfl
theorem sp_one (m : Nat) : spT (List.replicate m 1) 0 = (List.replicate m [94, 10]).flatten := by
  induction m with
  | zero => rfl
  | succ m ih =>
    rw [List.replicate_succ, spT_cons, ih]
    rfl
theorem un_big (m : Nat) : unT (sdRows 0 1 (List.replicate m 0)) 0 = 2 * m := by
  have e : sdRows 0 1 (List.replicate m 0) = List.replicate m 1 := by
    unfold sdRows
    rw [List.map_replicate]
  rw [e]
  unfold unT
  rw [List.sum_replicate_nat, List.length_replicate]
  omega
theorem big_txt (m : Nat) : ("a" ++ rep "\n" m : Str).cps.toList = 97 :: List.replicate m 10 := by
  rw [show ("a" ++ rep "\n" m : Str).cps.toList = ("a" : Str).cps.toList ++ (rep "\n" m).cps.toList from Array.toList_append .., rep_list]
  show [97] ++ (List.replicate m [10]).flatten = _
  rw [← sp_zero]
  induction m with
  | zero => rfl
  | succ m ih =>
    rw [List.replicate_succ, List.flatten_cons, List.replicate_succ, spT_cons]
    have : (List.replicate m [10]).flatten = spT (List.replicate m 0) 0 := List.append_cancel_left ih
    rw [this]
    rfl
theorem big_txt2 (m : Nat) : ("a" ++ rep "^\n" m : Str).cps.toList = 97 :: (List.replicate m [94, 10]).flatten := by
  rw [show ("a" ++ rep "^\n" m : Str).cps.toList = ("a" : Str).cps.toList ++ (rep "^\n" m).cps.toList from Array.toList_append .., rep_list]
  rfl
theorem big_done (m : Nat) (cs : List Nat) (hl : cs.length ≤ 7000) (hc : ∀ c ∈ cs, c ∈ steps.cps.toList) : doneT (97 :: List.replicate m 10) cs = 97 :: saidT (formL cs) (List.replicate m 0) 0 := by
  have s97 : Sep 97 := ⟨by decide, by decide⟩
  have := doneT_sep s97 cs [] (List.replicate m 10)
  rw [List.nil_append, doneT_nil, List.nil_append, ← sp_zero, ← said_done7 _ _ _ cs rfl hl hc] at this
  rw [← sp_zero]
  exact this
theorem big_one (m : Nat) : doneT (97 :: List.replicate m 10) bigC = 97 :: List.replicate (32 * m) 10 := by
  rw [big_done m bigC (by decide) (by decide), show formL bigC = .lf 0 1 16 0 from rfl]
  show 97 :: spT (List.replicate (16 * unT (sdRows 0 1 (List.replicate m 0)) 0) 0) 0 = _
  rw [un_big, sp_zero, show 16 * (2 * m) = 32 * m by omega]
theorem big_two (m : Nat) : doneT (97 :: List.replicate m 10) bigC.dropLast = 97 :: (List.replicate (32 * m) [94, 10]).flatten := by
  rw [big_done m bigC.dropLast (by decide) (by decide), show formL bigC.dropLast = .lf 0 1 16 1 from rfl]
  show 97 :: spT (List.replicate (16 * unT (sdRows 0 1 (List.replicate m 0)) 0) 1) 0 = _
  rw [un_big, sp_one, show 16 * (2 * m) = 32 * m by omega]
theorem big_tb (l : List Nat) (h : l.length ≤ 1600) : TB l bigC := fun i => by
  have hw : ∀ i, wt (formL (bigC.take i)) ≤ 64 := fun i => by
    by_cases hi : i < 13
    · have : ∀ i : Fin 13, wt (formL (bigC.take i.val)) ≤ 64 := by decide
      exact this ⟨i, hi⟩
    · rw [List.take_of_length_le (show bigC.length ≤ i by have : bigC.length = 12 := rfl; omega)]
      decide
  have hl : (bigC.take i).length ≤ 60 := by
    rw [List.length_take]
    have : bigC.length = 12 := rfl
    omega
  have hc : ∀ c ∈ bigC.take i, c ∈ steps.cps.toList := fun c hc => by
    have : ∀ c ∈ bigC, c ∈ steps.cps.toList := by decide
    exact this c (List.mem_of_mem_take hc)
  have h1 := done_wt hl hc _ l (Nat.le_refl _)
  have h2 := Nat.mul_le_mul h (hw i)
  omega
section
variable {P : Program} {w : World} {K : PySem.W.Frag} {mg : Str → Option Value} {base : Heap}
theorem ok_law {f CL fLi fLv fLu pT gT pB gB aG aL aD aX aM aS : Addr} {fd dLi dLu dT dB dG dL dD dX dM dS : FuncData} {k : Nat} (hk : 3 ≤ k) (F : Fun K "law" "law" sLaw f fd) (Z : LwF mg)
    (TL : LTxt K mg CL) (MkL : Mk K CL fLi) (GLi : FnOk P w K mg base CX0 k fLi dLi ["self", "text"] (spLInit CL)) (bLi : Binds K dLi ["self", "text"] [])
    (mLv : Meth K CL "convert" fLv) (GLv : FnR P w K mg base CX0 (k + 1) fLv (fun vs H Q E => ∃ ws rest, vs = ws ++ rest ∧ ws.length = ["self"].length ∧ rest.length ≤ sizeLine ∧ ∀ p, H p = Option.none → spLConv CL (ws ++ [V.ref p]) (upd H p (.tup rest)) Q E))
    (mLu : Meth K CL "undo" fLu) (GLu : FnOk P w K mg base CX0 (k + 1) fLu dLu ["self"] (spLUndo CL)) (bLu : Binds K dLu ["self"] [])
    (pLt : PropOf K CL "text" pT gT) (GLt : FnOk P w K mg base CX0 k gT dT ["self"] (spLText CL)) (bLt : Binds K dT ["self"] [])
    (pLb : PropOf K CL "breaks" pB gB) (GLb : FnOk P w K mg base CX0 k gB dB ["self"] (spLBreaks CL)) (bLb : Binds K dB ["self"] [])
    (cG : Cl P w K mg base (k + 1) "_law_rng" ["script"] (spRng K) aG dG)
    (cL : Cl P w K mg base (k + 1) "_law_line" ["rng", "most"] spLine aL dL)
    (cD : Cl P w K mg base (k + 1) "_law_draw" ["rng", "limit"] spDraw aD dD)
    (cX : Cl P w K mg base (k + 1) "_law_exact" ["rng", "line", "many"] spExact aX dX)
    (cM : Cl P w K mg base (k + 1) "_law_moved" ["line", "step"] spMoved aM dM)
    (cS : ClN P w K mg base (k + 1) "_law_shown_right" ["one", "walk", "some"] (spShown CL) aS dS) : FnG P w K mg base CX0 (k + 2) f fd ["script"] (spLaw K) := by
  refine okG F scLaw (fun vs H Q E h => ?_) (fun cdv A outer s H vs Q E hr hg h => ?_)
  · obtain ⟨a, ns, rfl, _⟩ := h
    rfl
  · obtain ⟨a, ns, rfl, hS0, hlen, q⟩ := h
    refine ⟨_, PSs.nox ((pss_cons (ps_set (i := 1) scLaw.nd rfl (.inl rfl) (pe_call cG.G hr (by rfl) cG.g cG.kp cG.b .nil pass0 (pa_cons (pv 0) pa_nil)))
      (pss_cons (ps_for PassesOwn.never rfl (pi_range1 rfl Z.range (pa_cons (pe_op op_add pe_int (pe_callB (call_min2 rfl) (by rfl) Z.min (by decide +kernel) (pa_cons pe_int (pa_cons (pe_callB call_len_seq (by rfl) Z.len PySem.boot_len (pa_cons (pv 0) pa_nil)) pa_nil)))) pa_nil)) (pg_name (i := 2) scLaw.nd rfl (.inl rfl))
          (pss_cons (ps_set (i := 3) scLaw.nd rfl (.inl rfl) (pe_call cL.G hr (by rfl) cL.g cL.kp cL.b .nil pass0 (pa_cons (pv 1) (pa_cons pe_int pa_nil))))
          (pss_cons (ps_asg (pe_call cX.G hr (by rfl) cX.g cX.kp cX.b .nil pass0 (pa_cons (pv 1) (pa_cons (pv 3) (pa_cons pe_int pa_nil)))) (pg_unl (by rfl) (pgs_cons (pg_name (i := 4) scLaw.nd rfl (.inl rfl)) (pgs_cons (pg_name (i := 5) scLaw.nd rfl (.inl rfl)) pgs_nil))))
          (pss_cons (ps_set (i := 6) scLaw.nd rfl (.inl rfl) (pe_make MkL GLi hr (by rfl) TL.mgC bLi .nil pass0 (pa_cons (pv 3) pa_nil)))
          (pss_cons (ps_expr (pe_methR (pv 6) TL.cl mLv GLv hr pass0 (pa_cons (pe_slice sl_str (pv 4) po_none (po_some pe_int)) (pa_cons (pe_slice sl_str (pv 4) (po_some pe_int) (po_some pe_int)) (pa_cons (pe_slice sl_str (pv 4) (po_some pe_int) (po_some pe_int)) (pa_cons pe_str (pa_cons (pe_slice sl_str (pv 4) (po_some pe_int) (po_some pe_int)) (pa_cons (pe_slice sl_str (pv 4) (po_some pe_int) (po_some pe_int)) (pa_cons (pe_slice sl_str (pv 4) (po_some pe_int) (po_some pe_int)) (pa_cons (pe_slice sl_str (pv 4) (po_some pe_int) (po_some pe_int)) (pa_cons (pe_slice sl_str (pv 4) (po_some pe_int) (po_some pe_int)) pa_nil)))))))))))
          (pss_cons (ps_expr (pe_methR (pv 6) TL.cl mLv GLv hr pass0 (pa_cons (pe_slice sl_str (pv 4) (po_some pe_int) (po_some pe_int)) pa_nil)))
          (pss_cons (ps_for PassesOwn.never rfl (pi_range2 rfl Z.range (pa_cons pe_int (pa_cons pe_int pa_nil))) (pg_name (i := 7) scLaw.nd rfl (.inl rfl))
              (pss_one (ps_expr (pe_methR (pv 6) TL.cl mLv GLv hr pass0 (pa_cons (pe_ix ix_str (pv 4) (pv 7) (fun _ _ => rfl)) pa_nil)))))
          (pss_cons (ps_expr (pe_methR (pv 6) TL.cl mLv GLv hr pass0 (pa_cons (pe_slice sl_str (pv 4) (po_some pe_int) (po_some pe_int)) (pa_cons pe_str pa_nil))))
          (pss_cons (ps_if (pt_not (pt_val (pe_callG cS.G hg hr (by rfl) cS.g cS.kp cS.b .nil pass0 (pa_cons (pv 6) (pa_cons (pv 5) (pa_cons (pv 4) pa_nil))))))
              (pss_one (ps_ret pe_bl)) pss_nil)
          (pss_cons (ps_for PassesOwn.never rfl (pi_range1 rfl Z.range (pa_cons pe_int pa_nil)) (pg_name (i := 8) scLaw.nd rfl (.inl rfl))
              (pss_one (ps_expr (pe_meth0 (pv 6) TL.cl mLu GLu hr bLu .nil pass0))))
          (pss_cons (ps_if (pt_not (pt_val (pe_callG cS.G hg hr (by rfl) cS.g cS.kp cS.b .nil pass0 (pa_cons (pv 6) (pa_cons (pe_slice sl_list (pv 5) po_none (po_some pe_int)) (pa_cons (pe_slice sl_str (pv 4) po_none (po_some pe_int)) pa_nil))))))
              (pss_one (ps_ret pe_bl)) pss_nil)
          (pss_cons (ps_expr (pe_methR (pv 6) TL.cl mLv GLv hr pass0 (pa_cons pe_str (pa_cons pe_str pa_nil))))
          (pss_cons (ps_set (i := 9) scLaw.nd rfl (.inl rfl) (pe_call cM.G hr (by rfl) cM.g cM.kp cM.b .nil pass0 (pa_cons (pe_call cM.G hr (by rfl) cM.g cM.kp cM.b .nil pass0 (pa_cons (pe_call cM.G hr (by rfl) cM.g cM.kp cM.b .nil pass0 (pa_cons (pe_ix ix_list (pv 5) pe_int (fun _ _ => rfl)) (pa_cons pe_str pa_nil))) (pa_cons pe_str pa_nil))) (pa_cons pe_str pa_nil))))
          (pss_one (ps_if (pt_not (pt_val (pe_callG cS.G hg hr (by rfl) cS.g cS.kp cS.b .nil pass0 (pa_cons (pv 6) (pa_cons (pe_lst (pa_cons (pv 9) pa_nil)) (pa_cons (pe_op op_add_str (pe_slice sl_str (pv 4) po_none (po_some pe_int)) pe_str) pa_nil))))))
              (pss_one (ps_ret pe_bl)) pss_nil)))))))))))))))
      (pss_cons (ps_set (i := 10) scLaw.nd rfl (.inl rfl) (pe_op op_add pe_int (pe_call cD.G hr (by rfl) cD.g cD.kp cD.b .nil pass0 (pa_cons (pv 1) (pa_cons pe_int pa_nil)))))
      (pss_cons (ps_set (i := 6) scLaw.nd rfl (.inl rfl) (pe_make MkL GLi hr (by rfl) TL.mgC bLi .nil pass0 (pa_cons (pe_op op_add_str pe_str (pe_op op_repS pe_str (pv 10))) pa_nil)))
      (pss_cons (ps_expr (pe_methR (pv 6) TL.cl mLv GLv hr pass0 (pa_cons pe_str (pa_cons pe_str pa_nil))))
      (pss_cons (ps_if (PW.pt (pw_or (pt_cmpR op_ne (pe_prop (pv 6) TL.cl pLt GLt hr bLt .nil pass0 rfl) (pe_op op_add_str pe_str (pe_op op_repS pe_str (pe_op op_mul pe_int (pv 10)))) (nomark _)) (pw_or1 (pt_cmpR op_ne (pe_prop (pv 6) TL.cl pLb GLb hr bLb .nil pass0 rfl) (pe_op op_mul pe_int (pv 10)) (nomark _)))))
          (pss_one (ps_ret pe_bl)) pss_nil)
      (pss_cons (ps_expr (pe_meth0 (pv 6) TL.cl mLu GLu hr bLu .nil pass0))
      (pss_one (ps_ret (pe_cmpR op_eq (pe_prop (pv 6) TL.cl pLt GLt hr bLt .nil pass0 rfl) (pe_op op_add_str pe_str (pe_op op_repS pe_str (pe_op op_mul pe_int (pv 10)))) (nomark _)))))))))))), ?_⟩
    refine ⟨_, rfl, a, ns, rfl, hS0, hlen, fun H1 r s1 nr hR1 => ?_⟩
    dsimp only [gName, tNext, tSeq]
    refine ⟨_, rfl, a, _, rfl, .inl (s1.seq hS0), 3, _, rfl, _, _, rfl, rfl, _, rfl, ?_, ?_, ?_⟩
    · split <;> omega
    · split <;> omega
    have hb : (2 + (if ((ns.map V.int).length : Int) < 3 then ((ns.map V.int).length : Int) else 3)).toNat ≤ 5 := by split <;> omega
    generalize (2 + (if ((ns.map V.int).length : Int) < 3 then ((ns.map V.int).length : Int) else 3)).toNat = laps at hb
    refine for_range (lo := 0) (n := laps) (fun i σ H' => ∃ y2 y3 y4 y5 y6 y7 y8 y9 y10, σ = [some (.ref a), some (.ref r), y2, y3, y4, y5, y6, y7, y8, y9, y10] ∧ RngAt H' r (2000 * i)) ⟨_, _, _, _, _, _, _, _, _, rfl, hR1⟩ ?_ ?_
    · rintro i σ H3 hi ⟨y2, y3, y4, y5, y6, y7, y8, y9, y10, rfl, hR3⟩
      dsimp only [gName, tNext, tSeq]
      refine ⟨_, rfl, r, _, 60, rfl, hR3, by omega, by decide, fun line H4 hline hlow hR4 k4 => ?_⟩
      clear k4 hR3
      dsimp only [gName, tNext, tSeq]
      refine ⟨_, rfl, _, rfl, r, _, 190, line, rfl, hR4, by omega, by decide, by omega, fun z ts lp lw H5 hW hzs hl5 hw5 hR5 k5 nl nlw => ?_⟩
      refine ⟨lp, _, rfl, .inl (.inl hl5), rfl, _, _, rfl, _, _, rfl, rfl, ?_⟩
      have hzll : z.cps.toList.length = z.cps.size := Array.length_toList ..
      dsimp only [gName, tNext, tSeq]
      refine ⟨_, rfl, fun p dx np ndx nex => ⟨p, dx, line, rfl, upd_same, fun e H6 ne0 L0 kd0 => ⟨rfl, ?_⟩⟩⟩
      have s6 := same_ofKd (same_made (u := .own p) (o := .ins CL dx []) ndx np) np kd0
      have ne5 : H5 e = none := (same_made (u := .own p) (o := .ins CL dx []) ndx np).free ne0
      have I6 : In CL H6 r p e lw line "" ts (2000 * i + 4 * 60 + 60 + 2 * 190) := ⟨L0, s6 _ _ hw5, hR5.same s6, hR5.ne ne5, hR4.ne nlw, ne_of_none hw5 ne5⟩
      clear L0 kd0 ne0 np ndx nex hl5 hw5 k5 nl nlw s6
      obtain ⟨dx6, w6, ts6, hp6, -, -⟩ := id I6.lf
      dsimp only [gName, tNext, tSeq]
      have okT : ∀ b, ∀ c ∈ z.cps.toList.take b, c ∈ steps.cps.toList := fun b c hc => hW.ok c (List.mem_of_mem_take hc)
      have zsz : z.length ≤ sizeLine := by rw [sizeLine_eq]; show z.cps.size ≤ _; omega
      have m1 : (cutS z none (some 1)).cps.toList = z.cps.toList.take 1 := cutS_to z 1
      have md : ∀ a b : Nat, b ≤ 190 → (cutS z (some (a : Int)) (some (b : Int))).cps.toList = (z.cps.toList.take b).drop a := fun a b h => cutS_mid z a b (by omega)
      refine ⟨_, rfl, p, dx6, _, rfl, hp6, rfl, _, rfl, 1, rfl, z, rfl, zsz, _, rfl, 1, rfl, 3, rfl, z, rfl, zsz, _, rfl, 3, rfl, 6, rfl, z, rfl, zsz, _, rfl, 6, rfl, 10, rfl, z, rfl, zsz, _, rfl, 10, rfl, 20, rfl, z, rfl, zsz, _, rfl, 20, rfl, 21, rfl, z, rfl, zsz, _, rfl, 21, rfl, 40, rfl, z, rfl, zsz, _, rfl, 40, rfl, 60, rfl, z, rfl, zsz, ?_⟩
      refine conv_step hW hzs (cs := [cutS z none (some 1), cutS z (some 1) (some 3), cutS z (some 3) (some 6), "", cutS z (some 6) (some 10), cutS z (some 10) (some 20), cutS z (some 20) (some 21), cutS z (some 21) (some 40), cutS z (some 40) (some 60)]) (aL := 0) (bL := 60) I6 (by rw [List.take_zero]; rfl) (by decide) ?_ (by simp) fun H7 B I7 hB => ?_
      · rw [joinE_list, List.drop_zero]
        show (cutS z none (some 1)).cps.toList ++ ((cutS z (some 1) (some 3)).cps.toList ++ ((cutS z (some 3) (some 6)).cps.toList ++ ([] ++ ((cutS z (some 6) (some 10)).cps.toList ++ ((cutS z (some 10) (some 20)).cps.toList ++ ((cutS z (some 20) (some 21)).cps.toList ++ ((cutS z (some 21) (some 40)).cps.toList ++ ((cutS z (some 40) (some 60)).cps.toList ++ [])))))))) = _
        rw [m1, show (cutS z (some 1) (some 3)).cps.toList = _ from md 1 3 (by decide), show (cutS z (some 3) (some 6)).cps.toList = _ from md 3 6 (by decide), show (cutS z (some 6) (some 10)).cps.toList = _ from md 6 10 (by decide), show (cutS z (some 10) (some 20)).cps.toList = _ from md 10 20 (by decide), show (cutS z (some 20) (some 21)).cps.toList = _ from md 20 21 (by decide), show (cutS z (some 21) (some 40)).cps.toList = _ from md 21 40 (by decide), show (cutS z (some 40) (some 60)).cps.toList = _ from md 40 60 (by decide)]
        rw [List.append_nil, List.nil_append, ← List.append_assoc, tak_add _ 1 3 (by decide), ← List.append_assoc, tak_add _ 3 6 (by decide), ← List.append_assoc, tak_add _ 6 10 (by decide), ← List.append_assoc, tak_add _ 10 20 (by decide), ← List.append_assoc, tak_add _ 20 21 (by decide), ← List.append_assoc, tak_add _ 21 40 (by decide), tak_add _ 40 60 (by decide)]
      clear I6 hp6
      obtain ⟨dx7, w7, ts7, hp7, -, -⟩ := id I7.lf
      dsimp only [gName, tNext, tSeq]
      refine ⟨_, rfl, p, dx7, _, rfl, hp7, rfl, _, rfl, 60, rfl, 150, rfl, z, rfl, zsz, ?_⟩
      refine conv_step hW hzs (cs := [cutS z (some 60) (some 150)]) (aL := 60) (bL := 150) I7 hB (by decide) ?_ (by simp) fun H8 B8 I8 hB8 => ?_
      · rw [joinE_list]
        show (cutS z (some 60) (some 150)).cps.toList ++ [] = _
        rw [List.append_nil]
        exact md 60 150 (by decide)
      clear I7 hp7 hB
      dsimp only [gName, tNext, tSeq]
      refine ⟨150, 180, rfl, ⟨by decide, by decide, by decide, by decide⟩, ?_⟩
      refine for_range (lo := 150) (n := 30) (fun j σ H' => ∃ (B : Str) (y7 : Option V), σ = [some (.ref a), some (.ref r), some (.int (0 + (i : Int))), some (.str line), some (.str z), some (.ref lw), some (.ref p), y7, y8, y9, y10] ∧ In CL H' r p e lw line B ts (2000 * i + 4 * 60 + 60 + 2 * 190) ∧ B.cps.toList = z.cps.toList.take (150 + j)) ⟨B8, y7, rfl, I8, hB8⟩ ?_ ?_
      · rintro j σ H9 hj ⟨B, y7, rfl, I9, hB9⟩
        obtain ⟨dx9, w9, ts9, hp9, -, -⟩ := id I9.lf
        obtain ⟨c, hc⟩ : ∃ c, z.cps.toList[150 + j]? = some c := ⟨_, List.getElem?_eq_getElem (by omega)⟩
        have hat : atI z.cps.toList ((150 : Int) + (j : Nat)) = some c := by
          rw [show (150 : Int) + (j : Nat) = ((150 + j : Nat) : Int) by omega]
          exact atI_nat hc
        dsimp only [gName, tNext, tSeq]
        refine ⟨_, rfl, p, dx9, _, rfl, hp9, rfl, _, rfl, _, rfl, z, _, c, rfl, rfl, zsz, hat, ?_⟩
        refine conv_step hW hzs (cs := [⟨#[c]⟩]) (aL := 150 + j) (bL := 150 + (j + 1)) I9 hB9 (by omega) ?_ (by simp) fun H10 B10 I10 hB10 => ⟨B10, _, rfl, I10, hB10⟩
        rw [joinE_list]
        show [c] ++ [] = _
        rw [List.append_nil, show 150 + (j + 1) = (150 + j) + 1 by omega, List.take_succ, hc]
        have hl : (z.cps.toList.take (150 + j)).length = 150 + j := by rw [List.length_take]; omega
        exact (List.drop_left' hl).symm
      · rintro σ H9 ⟨B, y7, rfl, I9, hB9⟩
        obtain ⟨dx9, w9, ts9, hp9, -, -⟩ := id I9.lf
        dsimp only [gName, tNext, tSeq]
        refine ⟨_, rfl, p, dx9, _, rfl, hp9, rfl, _, rfl, 180, rfl, 190, rfl, z, rfl, zsz, ?_⟩
        refine conv_step hW hzs (cs := [cutS z (some 180) (some 190), ""]) (aL := 180) (bL := 190) I9 hB9 (by decide) ?_ (by simp) fun H10 B10 I10 hB10 => ?_
        · rw [joinE_list]
          show (cutS z (some 180) (some 190)).cps.toList ++ ([] ++ []) = _
          rw [List.append_nil, List.append_nil]
          exact md 180 190 (by decide)
        rw [List.take_of_length_le (by omega)] at hB10
        obtain rfl : z = B10 := (str_ext hB10).symm
        clear I9 hp9 I8 hB8 hB9
        dsimp only [gName, tNext, tSeq]
        obtain ⟨ti, u, rfl⟩ : ∃ ti u, ts = ti ++ [u] := by
          rcases ends ts with h | h
          · have := hW.len
            rw [h] at this
            exact absurd this (by rw [List.length_nil]; omega)
          · exact h
        have hlen := hW.len
        have txt : ∀ m v, (ti ++ [u])[m]? = some v → Low v ∧ v.cps.size ≤ 600 := fun m v hv => by
          have h1 := hW.ts m v hv
          refine ⟨fun c hc => ?_, ?_⟩
          · rw [h1] at hc
            exact done_low (fun d hd => hW.ok d (List.mem_of_mem_take hd)) hlow c hc
          · rw [← Array.length_toList, h1]
            exact hW.le m
        have hti : ti.length = 190 := by
          rw [List.length_append, List.length_singleton] at hlen
          omega
        have hug : (ti ++ [u])[ti.length]? = some u := by rw [List.getElem?_append_right (Nat.le_refl _), Nat.sub_self]; rfl
        have hu := hW.ts ti.length u hug
        rw [List.take_of_length_le (by omega)] at hu
        obtain ⟨ul, us⟩ := txt _ _ hug
        refine ⟨_, rfl, _, rfl, _, rfl, p, e, lw, line, z, u, ti, rfl, I10.lf, I10.w, hu, ul, by omega, hW.ok, by omega, fun H11 s11 => ⟨_, rfl, iteF ?_⟩⟩
        have I11 := I10.same s11
        clear I10 s11
        dsimp only [gName, tNext, tSeq]
        refine ⟨60, rfl, by decide, by decide, ?_⟩
        refine for_range (lo := 0) (n := 60) (fun j σ H' => ∃ (zj : Str) (y8 : Option V), σ = [some (.ref a), some (.ref r), some (.int (0 + (i : Int))), some (.str line), some (.str z), some (.ref lw), some (.ref p), y7, y8, y9, y10] ∧ In CL H' r p e lw line zj (ti ++ [u]) (2000 * i + 4 * 60 + 60 + 2 * 190) ∧ zj.cps.toList = z.cps.toList.take (190 - j)) ⟨z, y8, rfl, I11, by rw [Nat.sub_zero, List.take_of_length_le (by omega)]⟩ ?_ ?_
        · rintro j σ H12 hj ⟨zj, y8, rfl, I12, hzj⟩
          dsimp only [gName, tNext, tSeq]
          obtain ⟨dx0, w0, ts0, g1, g2, -⟩ := id I12.lf
          have hzs2 : zj.cps.size = 190 - j := by
            rw [← Array.length_toList, hzj, List.length_take, hzll]
            omega
          refine ⟨_, rfl, p, dx0, _, rfl, g1, rfl, p, e, line, zj, rfl, I12.lf, by omega, by omega, fun z'' H13 hz'' L' kb => ?_⟩
          refine ⟨z'', _, rfl, I12.file L' kb, ?_⟩
          rw [hz'', hzj, List.dropLast_eq_take, List.length_take, hzll, List.take_take]
          congr 1
          omega
        · rintro σ H12 ⟨zb, y8, rfl, I12, hzb⟩
          replace hzb : zb.cps.toList = z.cps.toList.take 130 := hzb
          have ec : cutS z none (some 130) = zb := str_ext ((cutS_to z 130).trans hzb.symm)
          have ozb : ChOk zb := fun c hc => hW.ok c (List.mem_of_mem_take (by rw [← hzb]; exact hc))
          have szb : zb.cps.size = 130 := by rw [← Array.length_toList, hzb, List.length_take]; omega
          obtain ⟨t1, ht1⟩ : ∃ t, (ti ++ [u])[130]? = some t := ⟨_, List.getElem?_eq_getElem (by omega)⟩
          have htl := hW.ts _ _ ht1
          rw [← hzb] at htl
          obtain ⟨tlow, tsz⟩ := txt _ _ ht1
          have etk : (ti ++ [u]).take 131 = (ti ++ [u]).take 130 ++ [t1] := by rw [show 131 = 130 + 1 from rfl, List.take_succ, ht1]; rfl
          have ecv : cutV ((ti ++ [u]).map V.str) none (some 131) = ((ti ++ [u]).take 130 ++ [t1]).map V.str := by
            rw [show (some (131 : Int)) = some ((131 : Nat) : Int) from rfl, cutV_to _ _ (by rw [List.length_map]; omega), ← List.map_take, etk]
          dsimp only [gName, tNext, tSeq]
          refine ⟨_, rfl, _, rfl, 131, rfl, lw, _, rfl, .inl (.inl I12.w), fun l2 nl2 => ?_⟩
          rw [ecv]
          have s13 := same_upd (o := .lst (((ti ++ [u]).take 130 ++ [t1]).map V.str)) nl2
          refine ⟨_, rfl, 130, rfl, z, rfl, zsz, p, e, l2, line, zb, t1, (ti ++ [u]).take 130, by rw [ec]; rfl, I12.lf.same s13, upd_same, htl, tlow, by omega, ozb, by omega, fun H14 s14 => ⟨_, rfl, iteF ?_⟩⟩
          have I14 := I12.same (s13.trans s14)
          clear I12 s13 s14 nl2
          obtain ⟨dx14, w14, ts14, hp14, -, -⟩ := id I14.lf
          dsimp only [gName, tNext, tSeq]
          have ej2 : Txt.join "" ["DD", "U"] = "DDU" := str_ext (by rw [joinE_list]; rfl)
          have o3 : ChOk ("DDU" : Str) := by unfold ChOk; decide
          refine ⟨_, rfl, p, dx14, _, rfl, hp14, rfl, [.ref p], [.str "DD", .str "U"], rfl, rfl, by show 2 ≤ sizeLine; decide, fun T nT => ?_⟩
          refine ⟨p, e, T, line, zb, ["DD", "U"], rfl, upd_same, I14.lf.same (same_upd nT), by decide, by omega, by rw [ej2]; exact o3, by
            rw [ej2, ← htl]
            refine tb_pow ?_
            rw [Array.length_toList]
            exact Nat.le_trans (Nat.mul_le_mul tsz (Nat.le_refl _)) (by decide), fun H15 L15 kb => ?_⟩
          rw [ej2] at L15
          have I15 := (I14.same (same_upd nT)).file L15 kb
          clear I14 hp14 kb nT L15
          dsimp only [gName, tNext, tSeq]
          have st2 : ∀ (c : Nat) (v v' : Str), v'.cps.toList = stepT c v.cps.toList → v'.cps.size ≤ 2 * v.cps.size := fun c v v' h => by
            rw [← Array.length_toList, h, ← Array.length_toList]
            exact stepT_len c _
          refine ⟨_, rfl, lw, _, 130, .str t1, rfl, rfl, .inl (.inl I15.w), atI_nat (j := 130) (by rw [List.getElem?_map, ht1]; rfl), t1, 68, rfl, by decide, by omega, fun v1 H16 s16 hv1 => ?_⟩
          have z1 := st2 _ _ _ hv1
          refine ⟨v1, 68, rfl, by decide, by omega, fun v2 H17 s17 hv2 => ?_⟩
          have z2 := st2 _ _ _ hv2
          refine ⟨v2, 85, rfl, by decide, by omega, fun v3 H18 s18 hv3 => ?_⟩
          have z3 := st2 _ _ _ hv3
          have I18 := I15.same ((s16.trans s17).trans s18)
          have hd3 : v3.cps.toList = doneT line.cps.toList (zb ++ "DDU" : Str).cps.toList := by
            rw [show (zb ++ "DDU" : Str).cps.toList = zb.cps.toList ++ [68, 68, 85] from Array.toList_append .., ← done_app7, ← htl, hv3, hv2, hv1]
            rfl
          have ozd : ChOk (zb ++ "DDU" : Str) := fun c hc => by
            rw [show (zb ++ "DDU" : Str).cps.toList = zb.cps.toList ++ ("DDU" : Str).cps.toList from Array.toList_append ..] at hc
            rcases List.mem_append.mp hc with h | h
            · exact ozb c h
            · exact o3 c h
          have szd : (zb ++ "DDU" : Str).cps.size = 133 := by
            rw [show (zb ++ "DDU" : Str).cps.size = zb.cps.size + ("DDU" : Str).cps.size from Array.size_append .., szb]
            rfl
          clear I15 s16 s17 s18
          dsimp only [gName, tNext, tSeq]
          refine ⟨_, rfl, _, rfl, by show 1 ≤ sizeLine; decide, fun l3 nl3 => ?_⟩
          have s19 := same_upd (o := .lst [.str v3]) nl3
          refine ⟨_, rfl, 130, rfl, z, rfl, zsz, _, _, rfl, rfl, by rw [ec, sizeLine_eq]; show zb.cps.size + 3 ≤ _; omega, ?_⟩
          refine ⟨p, e, l3, line, zb ++ "DDU", v3, [], by rw [ec]; rfl, I18.lf.same s19, upd_same, hd3, fun c hc => ?_, by omega, ozd, by omega, fun H20 s20 => ⟨_, rfl, iteF ?_⟩⟩
          · rw [hd3] at hc
            exact done_low ozd hlow c hc
          · exact ⟨_, _, _, _, _, _, _, _, _, rfl, ((I18.rg.same s19).same s20).mono (by omega)⟩
    · rintro σ H3 ⟨y2, y3, y4, y5, y6, y7, y8, y9, y10, rfl, hR3⟩
      dsimp only [gName, tNext, tSeq]
      refine ⟨_, rfl, r, _, 251, rfl, hR3, by omega, by decide, by decide, fun d H4 d0 d1 hR4 k4 => ?_⟩
      obtain ⟨dn, rfl⟩ := Int.eq_ofNat_of_zero_le d0
      clear k4 hR3 hR4
      refine ⟨_, _, rfl, rfl, ?_⟩
      have em : (1300 : Int) + (dn : Int) = ((1300 + dn : Nat) : Int) := by omega
      dsimp only [gName, tNext, tSeq]
      rw [em]
      have hm : 1300 + dn ≤ 1550 := by omega
      generalize 1300 + dn = m at hm
      refine ⟨_, rfl, "\n", (m : Int), rfl, rfl, by omega, by omega, by rw [sizeLine_eq, Int.toNat_natCast]; show 1 * m ≤ _; omega, _, _, rfl, rfl, by rw [rep_len, sizeLine_eq, Int.toNat_natCast]; show 1 + 1 * m ≤ _; omega, ?_⟩
      rw [Int.toNat_natCast]
      have hx9 := big_txt m
      generalize ("a" ++ rep "\n" m : Str) = x9 at hx9
      refine fun p dx np ndx nex => ⟨p, dx, x9, rfl, upd_same, fun e H5 ne0 L0 kd0 => ⟨rfl, ?_⟩⟩
      obtain ⟨dx5, w5, ts5, hp5, -, -⟩ := id L0
      dsimp only [gName, tNext, tSeq]
      refine ⟨_, rfl, p, dx5, _, rfl, hp5, rfl, [.ref p], [.str "UMUMUMUMUM", .str "UD"], rfl, rfl, by show 2 ≤ sizeLine; decide, fun T nT => ?_⟩
      have ej : (Txt.join "" ["UMUMUMUMUM", "UD"] : Str).cps.toList = bigC := by rw [joinE_list]; rfl
      refine ⟨p, e, T, x9, "", ["UMUMUMUMUM", "UD"], rfl, upd_same, L0.same (same_upd nT), by decide, by decide, fun c hc => ?_, ?_, fun H6 L6 kb => ?_⟩
      · rw [ej] at hc
        have : ∀ c ∈ bigC, c ∈ steps.cps.toList := by decide
        exact this c hc
      · rw [ej]
        show TB x9.cps.toList bigC
        refine big_tb _ ?_
        rw [hx9, List.length_cons, List.length_replicate]
        omega
      have ezl : (("" : Str) ++ Txt.join "" ["UMUMUMUMUM", "UD"]).cps.toList = bigC := by
        rw [show (("" : Str) ++ Txt.join "" ["UMUMUMUMUM", "UD"]).cps.toList = ("" : Str).cps.toList ++ (Txt.join "" ["UMUMUMUMUM", "UD"]).cps.toList from Array.toList_append .., ej]
        rfl
      generalize (("" : Str) ++ Txt.join "" ["UMUMUMUMUM", "UD"]) = zc at ezl L6
      clear kb nT hp5 L0
      have zcs : zc.cps.size = 12 := by rw [← Array.length_toList, ezl]; rfl
      obtain ⟨dx6, w6, ts6, hp6, -, -⟩ := id L6
      have e32 : (32 : Int) * (m : Int) = ((32 * m : Nat) : Int) := by omega
      dsimp only [gName, tNext, tSeq]
      refine ⟨_, rfl, p, dx6, _, rfl, hp6, p, e, x9, zc, rfl, L6, fun y hy => ?_⟩
      rw [hx9, ezl, big_one] at hy
      have cm : CMul 32 (m : Int) := .inl ⟨by decide, by decide⟩
      refine ⟨_, rfl, _, _, rfl, rfl, cm, ?_⟩
      dsimp only
      rw [e32]
      refine ⟨"\n", _, rfl, rfl, by omega, by omega, by rw [sizeLine_eq, Int.toNat_natCast]; show 1 * (32 * m) ≤ _; omega, _, _, rfl, rfl, by rw [rep_len, sizeLine_eq, Int.toNat_natCast]; show 1 + 1 * (32 * m) ≤ _; omega, ?_⟩
      rw [Int.toNat_natCast]
      have hyy : y = "a" ++ rep "\n" (32 * m) := str_ext (hy.trans (big_txt (32 * m)).symm)
      refine ⟨rfl, _, rfl, ?_⟩
      rw [decide_eq_true (show V.str y = V.str ("a" ++ rep "\n" (32 * m)) by rw [hyy])]
      refine iteF ⟨_, rfl, p, dx6, _, rfl, hp6, p, e, x9, zc, rfl, L6, fun y2 hy2 => ?_⟩
      rw [hx9, ezl, big_one] at hy2
      refine ⟨_, rfl, _, _, rfl, rfl, cm, ?_⟩
      have hct : Txt.count y2 "\n" = ((32 * m : Nat) : Int) := by
        rw [ct_cnt, hy2, show (97 :: List.replicate (32 * m) 10 : List Nat) = [97] ++ List.replicate (32 * m) 10 from rfl, cnt_app, ← sp_zero, cnt_sp, List.length_replicate, show PyProof.Rows.cnt 10 [97] = 0 from rfl]
        omega
      refine ⟨rfl, _, rfl, ?_⟩
      rw [decide_eq_true (show V.int (Txt.count y2 "\n") = V.int (32 * (m : Int)) by rw [hct, e32])]
      refine iteF ?_
      dsimp only [gName, tNext, tSeq]
      refine ⟨_, rfl, p, dx6, _, rfl, hp6, rfl, p, e, x9, zc, rfl, L6, by omega, by omega, fun z' H7 hz' L7 kb7 => ?_⟩
      obtain ⟨dx7, w7, ts7, hp7, -, -⟩ := id L7
      rw [ezl] at hz'
      refine ⟨_, rfl, p, dx7, _, rfl, hp7, p, e, x9, z', rfl, L7, fun y3 hy3 => ?_⟩
      rw [hx9, hz', big_two] at hy3
      refine ⟨_, rfl, _, _, rfl, rfl, cm, ?_⟩
      dsimp only
      rw [e32]
      refine ⟨"^\n", _, rfl, rfl, by omega, by omega, by rw [sizeLine_eq, Int.toNat_natCast]; show 2 * (32 * m) ≤ _; omega, _, _, rfl, rfl, by rw [rep_len, sizeLine_eq, Int.toNat_natCast]; show 1 + 2 * (32 * m) ≤ _; omega, ?_⟩
      rw [Int.toNat_natCast]
      have hyy3 : y3 = "a" ++ rep "^\n" (32 * m) := str_ext (hy3.trans (big_txt2 (32 * m)).symm)
      refine ⟨rfl, ?_⟩
      rw [decide_eq_true (show V.str y3 = V.str ("a" ++ rep "^\n" (32 * m)) by rw [hyy3])]
      exact q _
end
end Lw
namespace Lw
open PySem PySem.Spec L2 Lx
theorem sz5 {n : Nat} (h : n ≤ 5) : n ≤ sizeLine := by
  rw [sizeLine_eq]; omega
theorem all_mk {P : Program} {w : World} {K : PySem.W.Frag} {h : Heap} {mg : Str → Option Value} {fa CLineFile pFt pFc pFf pFb aN aS aU aD aM aQ aR rU rD rM rN fCc fSa fUg fUo fAk fBk fBo fFo fFm fTa fFi fFt fFc fFf fFv fFu fFl fFb fLg fLd fLl fLm fLx fLs fW : Addr} (X : K.In h) (G : h.Ns mainGlobals mg) (hfa : mg "law" = some (.ref fa))
    {ocCc kVCc docCc pmCc cdCc ctCc : Value} {odCc anCc : Option Addr} {oslCc : Array (Option Value)}
    {ocSa kVSa docSa pmSa cdSa ctSa : Value} {odSa anSa : Option Addr} {oslSa : Array (Option Value)}
    {ocUg kVUg docUg pmUg cdUg ctUg : Value} {odUg anUg : Option Addr} {oslUg : Array (Option Value)}
    {ocUo kVUo docUo pmUo cdUo ctUo : Value} {odUo anUo : Option Addr} {oslUo : Array (Option Value)}
    {ocAk kVAk docAk pmAk cdAk ctAk : Value} {odAk anAk : Option Addr} {oslAk : Array (Option Value)}
    {ocBk kVBk docBk pmBk cdBk ctBk : Value} {odBk anBk : Option Addr} {oslBk : Array (Option Value)}
    {ocBo kVBo docBo pmBo cdBo ctBo : Value} {odBo anBo : Option Addr} {oslBo : Array (Option Value)}
    {ocFo kVFo docFo pmFo cdFo ctFo : Value} {odFo anFo : Option Addr} {oslFo : Array (Option Value)}
    {ocFm kVFm docFm pmFm cdFm ctFm : Value} {odFm anFm : Option Addr} {oslFm : Array (Option Value)}
    {ocTa kVTa docTa pmTa cdTa ctTa : Value} {odTa anTa : Option Addr} {oslTa : Array (Option Value)}
    {ocFi kVFi docFi pmFi cdFi ctFi : Value} {odFi anFi : Option Addr} {oslFi : Array (Option Value)}
    {ocFt kVFt docFt pmFt cdFt ctFt : Value} {odFt anFt : Option Addr} {oslFt : Array (Option Value)} {restFt : List Value}
    {ocFc kVFc docFc pmFc cdFc ctFc : Value} {odFc anFc : Option Addr} {oslFc : Array (Option Value)} {restFc : List Value}
    {ocFf kVFf docFf pmFf cdFf ctFf : Value} {odFf anFf : Option Addr} {oslFf : Array (Option Value)} {restFf : List Value}
    {ocFv kVFv docFv pmFv cdFv ctFv : Value} {odFv anFv : Option Addr} {oslFv : Array (Option Value)}
    {ocFu kVFu docFu pmFu cdFu ctFu : Value} {odFu anFu : Option Addr} {oslFu : Array (Option Value)}
    {ocFl kVFl docFl pmFl cdFl ctFl : Value} {odFl anFl : Option Addr} {oslFl : Array (Option Value)}
    {ocFb kVFb docFb pmFb cdFb ctFb : Value} {odFb anFb : Option Addr} {oslFb : Array (Option Value)} {restFb : List Value}
    {ocLg kVLg docLg pmLg cdLg ctLg : Value} {odLg anLg : Option Addr} {oslLg : Array (Option Value)}
    {ocLd kVLd docLd pmLd cdLd ctLd : Value} {odLd anLd : Option Addr} {oslLd : Array (Option Value)}
    {ocLl kVLl docLl pmLl cdLl ctLl : Value} {odLl anLl : Option Addr} {oslLl : Array (Option Value)}
    {ocLm kVLm docLm pmLm cdLm ctLm : Value} {odLm anLm : Option Addr} {oslLm : Array (Option Value)}
    {ocLx kVLx docLx pmLx cdLx ctLx : Value} {odLx anLx : Option Addr} {oslLx : Array (Option Value)}
    {ocLs kVLs docLs pmLs cdLs ctLs : Value} {odLs anLs : Option Addr} {oslLs : Array (Option Value)}
    {ocW kVW docW pmW cdW ctW : Value} {odW anW : Option Addr} {oslW : Array (Option Value)}
    {tS : Tok}
    {n1 n2 n3 : Tok} {nN : Nat} {odN : Option Addr} {slN : Array (Option Value)}
    {uU0 uU1 uU2 uD0 uD1 uD2 uM0 uM1 uM2 uM3 uM4 uN0 uN1 uN2 uN3 : Tok} {esS : Array DictEntry} {nS nU nD nM nQ : Nat} {odU odD odM odQ : Option Addr} {slU slD slM slQ : Array (Option Value)}
    {esR : Array DictEntry} {nR : Nat} {tRU0 tRU1 : Tok} {nRU : Nat} {odRU : Option Addr} {slRU : Array (Option Value)} {tRD0 tRD1 : Tok} {nRD : Nat} {odRD : Option Addr} {slRD : Array (Option Value)} {tRM0 tRM1 : Tok} {nRM : Nat} {odRM : Option Addr} {slRM : Array (Option Value)} {tRN0 tRN1 : Tok} {nRN : Nat} {odRN : Option Addr} {slRN : Array (Option Value)}
    (aCLineFile : PySem.W.nsIn K mainGlobals "LineFile" = some (some (.ref CLineFile)))
    (pgLineFile : PySem.W.plainGet K CLineFile Str.empty = true)
    (hdLineFile : PySem.W.hasDictIn K CLineFile = true)
    (poLineFile : PySem.W.plainOver K CLineFile = true)
    (mkLineFile : PySem.W.makesIn K CLineFile = true)
    (kcLineFile : PySem.W.keepIn K (.ref CLineFile) = true)
    (saLineFile : PySem.W.findIn K (.ref CLineFile) "__setattr__" = some (some (.builtin "object.__setattr__")))
    (n0LineFile : PySem.W.findIn K (.ref CLineFile) "_text" = some none)
    (n1LineFile : PySem.W.findIn K (.ref CLineFile) "_chain" = some none)
    (n2LineFile : PySem.W.findIn K (.ref CLineFile) "_earlier" = some none)
    (aCc : PySem.W.nsIn K mainGlobals "check_chain" = some (some (.ref fCc)))
    (lCc : K.lookup fCc = some ⟨ocCc, odCc, .func (PySem.W.fnOf "check_chain" "check_chain" (defArgs sChkChain) (defBody sChkChain) (defScope sChkChain) .none kVCc docCc pmCc anCc cdCc ctCc), oslCc⟩)
    (c_Cc : PySem.W.codeIn K cdCc "check_chain" = true)
    (k_Cc : PySem.W.keepIn K (.ref fCc) = true)
    (aSa : PySem.W.nsIn K mainGlobals "signs_after" = some (some (.ref fSa)))
    (lSa : K.lookup fSa = some ⟨ocSa, odSa, .func (PySem.W.fnOf "signs_after" "signs_after" (defArgs sSigns) (defBody sSigns) (defScope sSigns) .none kVSa docSa pmSa anSa cdSa ctSa), oslSa⟩)
    (c_Sa : PySem.W.codeIn K cdSa "signs_after" = true)
    (k_Sa : PySem.W.keepIn K (.ref fSa) = true)
    (aUg : PySem.W.nsIn K mainGlobals "units_of_group" = some (some (.ref fUg)))
    (lUg : K.lookup fUg = some ⟨ocUg, odUg, .func (PySem.W.fnOf "units_of_group" "units_of_group" (defArgs sUog) (defBody sUog) (defScope sUog) .none kVUg docUg pmUg anUg cdUg ctUg), oslUg⟩)
    (c_Ug : PySem.W.codeIn K cdUg "units_of_group" = true)
    (k_Ug : PySem.W.keepIn K (.ref fUg) = true)
    (aUo : PySem.W.nsIn K mainGlobals "units_of_one" = some (some (.ref fUo)))
    (lUo : K.lookup fUo = some ⟨ocUo, odUo, .func (PySem.W.fnOf "units_of_one" "units_of_one" (defArgs sOne) (defBody sOne) (defScope sOne) .none kVUo docUo pmUo anUo cdUo ctUo), oslUo⟩)
    (c_Uo : PySem.W.codeIn K cdUo "units_of_one" = true)
    (k_Uo : PySem.W.keepIn K (.ref fUo) = true)
    (aAk : PySem.W.nsIn K mainGlobals "after_keep" = some (some (.ref fAk)))
    (lAk : K.lookup fAk = some ⟨ocAk, odAk, .func (PySem.W.fnOf "after_keep" "after_keep" (defArgs sAftKeep) (defBody sAftKeep) (defScope sAftKeep) .none kVAk docAk pmAk anAk cdAk ctAk), oslAk⟩)
    (c_Ak : PySem.W.codeIn K cdAk "after_keep" = true)
    (k_Ak : PySem.W.keepIn K (.ref fAk) = true)
    (aBk : PySem.W.nsIn K mainGlobals "before_keep" = some (some (.ref fBk)))
    (lBk : K.lookup fBk = some ⟨ocBk, odBk, .func (PySem.W.fnOf "before_keep" "before_keep" (defArgs sBefKeep) (defBody sBefKeep) (defScope sBefKeep) .none kVBk docBk pmBk anBk cdBk ctBk), oslBk⟩)
    (c_Bk : PySem.W.codeIn K cdBk "before_keep" = true)
    (k_Bk : PySem.W.keepIn K (.ref fBk) = true)
    (aBo : PySem.W.nsIn K mainGlobals "form_of_both" = some (some (.ref fBo)))
    (lBo : K.lookup fBo = some ⟨ocBo, odBo, .func (PySem.W.fnOf "form_of_both" "form_of_both" (defArgs sBoth) (defBody sBoth) (defScope sBoth) .none kVBo docBo pmBo anBo cdBo ctBo), oslBo⟩)
    (c_Bo : PySem.W.codeIn K cdBo "form_of_both" = true)
    (k_Bo : PySem.W.keepIn K (.ref fBo) = true)
    (aFo : PySem.W.nsIn K mainGlobals "form_of_chain" = some (some (.ref fFo)))
    (lFo : K.lookup fFo = some ⟨ocFo, odFo, .func (PySem.W.fnOf "form_of_chain" "form_of_chain" (defArgs sFoc) (defBody sFoc) (defScope sFoc) .none kVFo docFo pmFo anFo cdFo ctFo), oslFo⟩)
    (c_Fo : PySem.W.codeIn K cdFo "form_of_chain" = true)
    (k_Fo : PySem.W.keepIn K (.ref fFo) = true)
    (aFm : PySem.W.nsIn K mainGlobals "form" = some (some (.ref fFm)))
    (lFm : K.lookup fFm = some ⟨ocFm, odFm, .func (PySem.W.fnOf "form" "form" (defArgs sForm) (defBody sForm) (defScope sForm) .none kVFm docFm pmFm anFm cdFm ctFm), oslFm⟩)
    (c_Fm : PySem.W.codeIn K cdFm "form" = true)
    (k_Fm : PySem.W.keepIn K (.ref fFm) = true)
    (aTa : PySem.W.nsIn K mainGlobals "text_after_step" = some (some (.ref fTa)))
    (lTa : K.lookup fTa = some ⟨ocTa, odTa, .func (PySem.W.fnOf "text_after_step" "text_after_step" (defArgs sTextAfterStep) (defBody sTextAfterStep) (defScope sTextAfterStep) .none kVTa docTa pmTa anTa cdTa ctTa), oslTa⟩)
    (c_Ta : PySem.W.codeIn K cdTa "text_after_step" = true)
    (k_Ta : PySem.W.keepIn K (.ref fTa) = true)
    (aFi : PySem.W.findIn K (.ref CLineFile) "__init__" = some (some (.ref fFi)))
    (iFi : PySem.W.isFn K (.ref fFi) = true)
    (lFi : K.lookup fFi = some ⟨ocFi, odFi, .func (PySem.W.fnOf "__init__" "LineFile.__init__" (defArgs sLineFile___init__) (defBody sLineFile___init__) (defScope sLineFile___init__) .none kVFi docFi pmFi anFi cdFi ctFi), oslFi⟩)
    (c_Fi : PySem.W.codeIn K cdFi "LineFile.__init__" = true)
    (k_Fi : PySem.W.keepIn K (.ref fFi) = true)
    (paFt : PySem.W.findIn K (.ref CLineFile) "text" = some (some (.ref pFt)))
    (pbFt : PySem.W.specialIn K (.ref pFt) "__get__" = some (some (.builtin "property.__get__")))
    (pcFt : PySem.W.takesIn K (.ref pFt) = some true)
    (pdFt : PySem.W.recIn K pFt "property" = some (.ref fFt :: restFt))
    (lFt : K.lookup fFt = some ⟨ocFt, odFt, .func (PySem.W.fnOf "text" "LineFile.text" (defArgs sLineFile_text) (defBody sLineFile_text) (defScope sLineFile_text) .none kVFt docFt pmFt anFt cdFt ctFt), oslFt⟩)
    (c_Ft : PySem.W.codeIn K cdFt "LineFile.text" = true)
    (k_Ft : PySem.W.keepIn K (.ref fFt) = true)
    (paFc : PySem.W.findIn K (.ref CLineFile) "chain" = some (some (.ref pFc)))
    (pbFc : PySem.W.specialIn K (.ref pFc) "__get__" = some (some (.builtin "property.__get__")))
    (pcFc : PySem.W.takesIn K (.ref pFc) = some true)
    (pdFc : PySem.W.recIn K pFc "property" = some (.ref fFc :: restFc))
    (lFc : K.lookup fFc = some ⟨ocFc, odFc, .func (PySem.W.fnOf "chain" "LineFile.chain" (defArgs sLineFile_chain) (defBody sLineFile_chain) (defScope sLineFile_chain) .none kVFc docFc pmFc anFc cdFc ctFc), oslFc⟩)
    (c_Fc : PySem.W.codeIn K cdFc "LineFile.chain" = true)
    (k_Fc : PySem.W.keepIn K (.ref fFc) = true)
    (paFf : PySem.W.findIn K (.ref CLineFile) "form" = some (some (.ref pFf)))
    (pbFf : PySem.W.specialIn K (.ref pFf) "__get__" = some (some (.builtin "property.__get__")))
    (pcFf : PySem.W.takesIn K (.ref pFf) = some true)
    (pdFf : PySem.W.recIn K pFf "property" = some (.ref fFf :: restFf))
    (lFf : K.lookup fFf = some ⟨ocFf, odFf, .func (PySem.W.fnOf "form" "LineFile.form" (defArgs sLineFile_form) (defBody sLineFile_form) (defScope sLineFile_form) .none kVFf docFf pmFf anFf cdFf ctFf), oslFf⟩)
    (c_Ff : PySem.W.codeIn K cdFf "LineFile.form" = true)
    (k_Ff : PySem.W.keepIn K (.ref fFf) = true)
    (aFv : PySem.W.findIn K (.ref CLineFile) "convert" = some (some (.ref fFv)))
    (iFv : PySem.W.isFn K (.ref fFv) = true)
    (lFv : K.lookup fFv = some ⟨ocFv, odFv, .func (PySem.W.fnOf "convert" "LineFile.convert" (defArgs sLineFile_convert) (defBody sLineFile_convert) (defScope sLineFile_convert) .none kVFv docFv pmFv anFv cdFv ctFv), oslFv⟩)
    (c_Fv : PySem.W.codeIn K cdFv "LineFile.convert" = true)
    (k_Fv : PySem.W.keepIn K (.ref fFv) = true)
    (aFu : PySem.W.findIn K (.ref CLineFile) "undo" = some (some (.ref fFu)))
    (iFu : PySem.W.isFn K (.ref fFu) = true)
    (lFu : K.lookup fFu = some ⟨ocFu, odFu, .func (PySem.W.fnOf "undo" "LineFile.undo" (defArgs sLineFile_undo) (defBody sLineFile_undo) (defScope sLineFile_undo) .none kVFu docFu pmFu anFu cdFu ctFu), oslFu⟩)
    (c_Fu : PySem.W.codeIn K cdFu "LineFile.undo" = true)
    (k_Fu : PySem.W.keepIn K (.ref fFu) = true)
    (aFl : PySem.W.findIn K (.ref CLineFile) "lines" = some (some (.ref fFl)))
    (iFl : PySem.W.isFn K (.ref fFl) = true)
    (lFl : K.lookup fFl = some ⟨ocFl, odFl, .func (PySem.W.fnOf "lines" "LineFile.lines" (defArgs sLineFile_lines) (defBody sLineFile_lines) (defScope sLineFile_lines) .none kVFl docFl pmFl anFl cdFl ctFl), oslFl⟩)
    (c_Fl : PySem.W.codeIn K cdFl "LineFile.lines" = true)
    (k_Fl : PySem.W.keepIn K (.ref fFl) = true)
    (paFb : PySem.W.findIn K (.ref CLineFile) "breaks" = some (some (.ref pFb)))
    (pbFb : PySem.W.specialIn K (.ref pFb) "__get__" = some (some (.builtin "property.__get__")))
    (pcFb : PySem.W.takesIn K (.ref pFb) = some true)
    (pdFb : PySem.W.recIn K pFb "property" = some (.ref fFb :: restFb))
    (lFb : K.lookup fFb = some ⟨ocFb, odFb, .func (PySem.W.fnOf "breaks" "LineFile.breaks" (defArgs sLineFile_breaks) (defBody sLineFile_breaks) (defScope sLineFile_breaks) .none kVFb docFb pmFb anFb cdFb ctFb), oslFb⟩)
    (c_Fb : PySem.W.codeIn K cdFb "LineFile.breaks" = true)
    (k_Fb : PySem.W.keepIn K (.ref fFb) = true)
    (aLg : PySem.W.nsIn K mainGlobals "_law_rng" = some (some (.ref fLg)))
    (lLg : K.lookup fLg = some ⟨ocLg, odLg, .func (PySem.W.fnOf "_law_rng" "_law_rng" (defArgs sLRng) (defBody sLRng) (defScope sLRng) .none kVLg docLg pmLg anLg cdLg ctLg), oslLg⟩)
    (c_Lg : PySem.W.codeIn K cdLg "_law_rng" = true)
    (k_Lg : PySem.W.keepIn K (.ref fLg) = true)
    (aLd : PySem.W.nsIn K mainGlobals "_law_draw" = some (some (.ref fLd)))
    (lLd : K.lookup fLd = some ⟨ocLd, odLd, .func (PySem.W.fnOf "_law_draw" "_law_draw" (defArgs sLDraw) (defBody sLDraw) (defScope sLDraw) .none kVLd docLd pmLd anLd cdLd ctLd), oslLd⟩)
    (c_Ld : PySem.W.codeIn K cdLd "_law_draw" = true)
    (k_Ld : PySem.W.keepIn K (.ref fLd) = true)
    (aLl : PySem.W.nsIn K mainGlobals "_law_line" = some (some (.ref fLl)))
    (lLl : K.lookup fLl = some ⟨ocLl, odLl, .func (PySem.W.fnOf "_law_line" "_law_line" (defArgs sLLine) (defBody sLLine) (defScope sLLine) .none kVLl docLl pmLl anLl cdLl ctLl), oslLl⟩)
    (c_Ll : PySem.W.codeIn K cdLl "_law_line" = true)
    (k_Ll : PySem.W.keepIn K (.ref fLl) = true)
    (aLm : PySem.W.nsIn K mainGlobals "_law_moved" = some (some (.ref fLm)))
    (lLm : K.lookup fLm = some ⟨ocLm, odLm, .func (PySem.W.fnOf "_law_moved" "_law_moved" (defArgs sLMoved) (defBody sLMoved) (defScope sLMoved) .none kVLm docLm pmLm anLm cdLm ctLm), oslLm⟩)
    (c_Lm : PySem.W.codeIn K cdLm "_law_moved" = true)
    (k_Lm : PySem.W.keepIn K (.ref fLm) = true)
    (aLx : PySem.W.nsIn K mainGlobals "_law_exact" = some (some (.ref fLx)))
    (lLx : K.lookup fLx = some ⟨ocLx, odLx, .func (PySem.W.fnOf "_law_exact" "_law_exact" (defArgs sLExact) (defBody sLExact) (defScope sLExact) .none kVLx docLx pmLx anLx cdLx ctLx), oslLx⟩)
    (c_Lx : PySem.W.codeIn K cdLx "_law_exact" = true)
    (k_Lx : PySem.W.keepIn K (.ref fLx) = true)
    (aLs : PySem.W.nsIn K mainGlobals "_law_shown_right" = some (some (.ref fLs)))
    (lLs : K.lookup fLs = some ⟨ocLs, odLs, .func (PySem.W.fnOf "_law_shown_right" "_law_shown_right" (defArgs sLShownRight) (defBody sLShownRight) (defScope sLShownRight) .none kVLs docLs pmLs anLs cdLs ctLs), oslLs⟩)
    (c_Ls : PySem.W.codeIn K cdLs "_law_shown_right" = true)
    (k_Ls : PySem.W.keepIn K (.ref fLs) = true)
    (aW : PySem.W.nsIn K mainGlobals "law" = some (some (.ref fW)))
    (lW : K.lookup fW = some ⟨ocW, odW, .func (PySem.W.fnOf "law" "law" (defArgs sLaw) (defBody sLaw) (defScope sLaw) .none kVW docW pmW anW cdW ctW), oslW⟩)
    (c_W : PySem.W.codeIn K cdW "law" = true)
    (k_W : PySem.W.keepIn K (.ref fW) = true)
    (z_abs : PySem.W.nsIn K mainGlobals "abs" = some none)
    (z_enumerate : PySem.W.nsIn K mainGlobals "enumerate" = some none)
    (z_int : PySem.W.nsIn K mainGlobals "int" = some none)
    (z_len : PySem.W.nsIn K mainGlobals "len" = some none)
    (z_list : PySem.W.nsIn K mainGlobals "list" = some none)
    (z_max : PySem.W.nsIn K mainGlobals "max" = some none)
    (z_min : PySem.W.nsIn K mainGlobals "min" = some none)
    (z_range : PySem.W.nsIn K mainGlobals "range" = some none)
    (z_repr : PySem.W.nsIn K mainGlobals "repr" = some none)
    (gS : PySem.W.nsIn K mainGlobals "STEPS" = some (some (.str "UDMN" tS)))
    (gN : PySem.W.nsIn K mainGlobals "NOTHING" = some (some (.ref aN)))
    (hN : K.lookup aN = some ⟨.type "tuple", odN, .seq #[.str "keep" n1, .int 0 n2, .int 0 n3] nN, slN⟩)
    (gQ : PySem.W.nsIn K mainGlobals "STEP_FORMS" = some (some (.ref aS)))
    (hS : K.lookup aS = some ⟨.type "dict", none, .dict esS nS, #[]⟩)
    (kS : PySem.W.KeysLit w.params esS.toList)
    (sU : PySem.W.nsIn K aS "U" = some (some (.ref aU)))
    (hUt : K.lookup aU = some ⟨.type "tuple", odU, .seq #[.str "keep" uU0, .int 0 uU1, .int 1 uU2] nU, slU⟩)
    (sD : PySem.W.nsIn K aS "D" = some (some (.ref aD)))
    (hDt : K.lookup aD = some ⟨.type "tuple", odD, .seq #[.str "keep" uD0, .int 1 uD1, .int 0 uD2] nD, slD⟩)
    (sM : PySem.W.nsIn K aS "M" = some (some (.ref aM)))
    (hMt : K.lookup aM = some ⟨.type "tuple", odM, .seq #[.str "lf" uM0, .int 0 uM1, .int 0 uM2, .int 1 uM3, .int 0 uM4] nM, slM⟩)
    (sN : PySem.W.nsIn K aS "N" = some (some (.ref aQ)))
    (hNt : K.lookup aQ = some ⟨.type "tuple", odQ, .seq #[.str "cr" uN0, .int 0 uN1, .int 0 uN2, .int 1 uN3] nQ, slQ⟩)
    (gR : PySem.W.nsIn K mainGlobals "REPLACEMENTS" = some (some (.ref aR)))
    (hR : K.lookup aR = some ⟨.type "dict", none, .dict esR nR, #[]⟩)
    (kR : PySem.W.KeysLit w.params esR.toList)
    (rrU : PySem.W.nsIn K aR "U" = some (some (.ref rU)))
    (rhU : K.lookup rU = some ⟨.type "tuple", odRU, .seq #[.str "\n" tRU0, .str "^\n" tRU1] nRU, slRU⟩)
    (rzU : tRU0 ≠ 0 ∧ tRU1 ≠ 0 ∧ tRU0 ≠ tRU1)
    (rrD : PySem.W.nsIn K aR "D" = some (some (.ref rD)))
    (rhD : K.lookup rD = some ⟨.type "tuple", odRD, .seq #[.str "^\n" tRD0, .str "\n" tRD1] nRD, slRD⟩)
    (rzD : tRD0 ≠ 0 ∧ tRD1 ≠ 0 ∧ tRD0 ≠ tRD1)
    (rrM : PySem.W.nsIn K aR "M" = some (some (.ref rM)))
    (rhM : K.lookup rM = some ⟨.type "tuple", odRM, .seq #[.str "^" tRM0, .str "\n" tRM1] nRM, slRM⟩)
    (rzM : tRM0 ≠ 0 ∧ tRM1 ≠ 0 ∧ tRM0 ≠ tRM1)
    (rrN : PySem.W.nsIn K aR "N" = some (some (.ref rN)))
    (rhN : K.lookup rN = some ⟨.type "tuple", odRN, .seq #[.str "\n" tRN0, .str "^" tRN1] nRN, slRN⟩)
    (rzN : tRN0 ≠ 0 ∧ tRN1 ≠ 0 ∧ tRN0 ≠ tRN1) :
    ∃ fd : FuncData, (∀ (s : Shared) (v : Value), BindsTo s fd ⟨[v], []⟩ [("script", v)]) ∧ ∀ base : Heap, K.In base → base.Ns mainGlobals mg → FnG P w K mg base CX0 9 fa fd ["script"] (spLaw K) := by
  have e := hfa.symm.trans (PySem.W.mg_of X G aW)
  cases e
  have FCc := fun_mk (st := sChkChain) lCc c_Cc k_Cc
  have bCc := FCc.binds (ps := ["chain"]) fun _ _ _ _ _ _ us hl => match us, hl with | [_], _ => rfl
  have gCc' := PySem.W.mg_of X G aCc
  have FSa := fun_mk (st := sSigns) lSa c_Sa k_Sa
  have bSa := FSa.binds (ps := ["j", "wanted"]) fun _ _ _ _ _ _ us hl => match us, hl with | [_, _], _ => rfl
  have gSa' := PySem.W.mg_of X G aSa
  have FUg := fun_mk (st := sUog) lUg c_Ug k_Ug
  have bUg := FUg.binds (ps := ["j", "wanted"]) fun _ _ _ _ _ _ us hl => match us, hl with | [_, _], _ => rfl
  have gUg' := PySem.W.mg_of X G aUg
  have FUo := fun_mk (st := sOne) lUo c_Uo k_Uo
  have bUo := FUo.binds (ps := ["first", "second"]) fun _ _ _ _ _ _ us hl => match us, hl with | [_, _], _ => rfl
  have gUo' := PySem.W.mg_of X G aUo
  have FAk := fun_mk (st := sAftKeep) lAk c_Ak k_Ak
  have bAk := FAk.binds (ps := ["first", "second"]) fun _ _ _ _ _ _ us hl => match us, hl with | [_, _], _ => rfl
  have gAk' := PySem.W.mg_of X G aAk
  have FBk := fun_mk (st := sBefKeep) lBk c_Bk k_Bk
  have bBk := FBk.binds (ps := ["first", "second"]) fun _ _ _ _ _ _ us hl => match us, hl with | [_, _], _ => rfl
  have gBk' := PySem.W.mg_of X G aBk
  have FBo := fun_mk (st := sBoth) lBo c_Bo k_Bo
  have bBo := FBo.binds (ps := ["first", "second"]) fun _ _ _ _ _ _ us hl => match us, hl with | [_, _], _ => rfl
  have gBo' := PySem.W.mg_of X G aBo
  have FFo := fun_mk (st := sFoc) lFo c_Fo k_Fo
  have bFo := FFo.binds (ps := ["chain"]) fun _ _ _ _ _ _ us hl => match us, hl with | [_], _ => rfl
  have gFo' := PySem.W.mg_of X G aFo
  have FFm := fun_mk (st := sForm) lFm c_Fm k_Fm
  have bFm := FFm.binds (ps := ["chain"]) fun _ _ _ _ _ _ us hl => match us, hl with | [_], _ => rfl
  have gFm' := PySem.W.mg_of X G aFm
  have FTa := fun_mk (st := sTextAfterStep) lTa c_Ta k_Ta
  have bTa := FTa.binds (ps := ["text", "letter"]) fun _ _ _ _ _ _ us hl => match us, hl with | [_, _], _ => rfl
  have gTa' := PySem.W.mg_of X G aTa
  have FFi := fun_mk (st := sLineFile___init__) lFi c_Fi k_Fi
  have bFi := FFi.binds (ps := ["self", "text"]) fun _ _ _ _ _ _ us hl => match us, hl with | [_, _], _ => rfl
  have FFt := fun_mk (st := sLineFile_text) lFt c_Ft k_Ft
  have bFt := FFt.binds (ps := ["self"]) fun _ _ _ _ _ _ us hl => match us, hl with | [_], _ => rfl
  have prFt : PropOf K CLineFile "text" pFt fFt := ⟨paFt, pbFt, pcFt, ⟨_, pdFt⟩⟩
  have FFc := fun_mk (st := sLineFile_chain) lFc c_Fc k_Fc
  have bFc := FFc.binds (ps := ["self"]) fun _ _ _ _ _ _ us hl => match us, hl with | [_], _ => rfl
  have prFc : PropOf K CLineFile "chain" pFc fFc := ⟨paFc, pbFc, pcFc, ⟨_, pdFc⟩⟩
  have FFf := fun_mk (st := sLineFile_form) lFf c_Ff k_Ff
  have bFf := FFf.binds (ps := ["self"]) fun _ _ _ _ _ _ us hl => match us, hl with | [_], _ => rfl
  have prFf : PropOf K CLineFile "form" pFf fFf := ⟨paFf, pbFf, pcFf, ⟨_, pdFf⟩⟩
  have FFv := fun_mk (st := sLineFile_convert) lFv c_Fv k_Fv
  have FFu := fun_mk (st := sLineFile_undo) lFu c_Fu k_Fu
  have bFu := FFu.binds (ps := ["self"]) fun _ _ _ _ _ _ us hl => match us, hl with | [_], _ => rfl
  have FFl := fun_mk (st := sLineFile_lines) lFl c_Fl k_Fl
  have bFl := FFl.binds (ps := ["self"]) fun _ _ _ _ _ _ us hl => match us, hl with | [_], _ => rfl
  have FFb := fun_mk (st := sLineFile_breaks) lFb c_Fb k_Fb
  have bFb := FFb.binds (ps := ["self"]) fun _ _ _ _ _ _ us hl => match us, hl with | [_], _ => rfl
  have prFb : PropOf K CLineFile "breaks" pFb fFb := ⟨paFb, pbFb, pcFb, ⟨_, pdFb⟩⟩
  have FLg := fun_mk (st := sLRng) lLg c_Lg k_Lg
  have bLg := FLg.binds (ps := ["script"]) fun _ _ _ _ _ _ us hl => match us, hl with | [_], _ => rfl
  have gLg' := PySem.W.mg_of X G aLg
  have FLd := fun_mk (st := sLDraw) lLd c_Ld k_Ld
  have bLd := FLd.binds (ps := ["rng", "limit"]) fun _ _ _ _ _ _ us hl => match us, hl with | [_, _], _ => rfl
  have gLd' := PySem.W.mg_of X G aLd
  have FLl := fun_mk (st := sLLine) lLl c_Ll k_Ll
  have bLl := FLl.binds (ps := ["rng", "most"]) fun _ _ _ _ _ _ us hl => match us, hl with | [_, _], _ => rfl
  have gLl' := PySem.W.mg_of X G aLl
  have FLm := fun_mk (st := sLMoved) lLm c_Lm k_Lm
  have bLm := FLm.binds (ps := ["line", "step"]) fun _ _ _ _ _ _ us hl => match us, hl with | [_, _], _ => rfl
  have gLm' := PySem.W.mg_of X G aLm
  have FLx := fun_mk (st := sLExact) lLx c_Lx k_Lx
  have bLx := FLx.binds (ps := ["rng", "line", "many"]) fun _ _ _ _ _ _ us hl => match us, hl with | [_, _, _], _ => rfl
  have gLx' := PySem.W.mg_of X G aLx
  have FLs := fun_mk (st := sLShownRight) lLs c_Ls k_Ls
  have bLs := FLs.binds (ps := ["one", "walk", "some"]) fun _ _ _ _ _ _ us hl => match us, hl with | [_, _, _], _ => rfl
  have gLs' := PySem.W.mg_of X G aLs
  have FW := fun_mk (st := sLaw) lW c_W k_W
  have gW' := PySem.W.mg_of X G aW
  have m_abs := PySem.W.mg_none_of X G z_abs
  have m_enumerate := PySem.W.mg_none_of X G z_enumerate
  have m_int := PySem.W.mg_none_of X G z_int
  have m_len := PySem.W.mg_none_of X G z_len
  have m_list := PySem.W.mg_none_of X G z_list
  have m_max := PySem.W.mg_none_of X G z_max
  have m_min := PySem.W.mg_none_of X G z_min
  have m_range := PySem.W.mg_none_of X G z_range
  have m_repr := PySem.W.mg_none_of X G z_repr
  have gSt := PySem.W.mg_of X G gS
  have tN : ∀ H : Hp, FmAt K H (.ref aN) nothing := fun H => ⟨aN, rfl, .inr ⟨_, _, _, hN, rfl, rfl, sz5 (by simp), .cons ⟨_, rfl⟩ (.cons ⟨_, rfl⟩ (.cons ⟨_, rfl⟩ .nil))⟩⟩
  have TS : StepT K w mg aN aS := ⟨PySem.W.mg_of X G gN, tN, PySem.W.mg_of X G gQ, fun c hc => by
    have hc' : c ∈ [85, 68, 77, 78] := hc
    simp only [List.mem_cons, List.not_mem_nil, or_false] at hc'
    rcases hc' with rfl | rfl | rfl | rfl
    · exact ⟨.ref aU, ⟨_, _, _, hS, kS, sU, rfl⟩, fun H => ⟨aU, rfl, .inr ⟨_, _, _, hUt, rfl, rfl, sz5 (by simp), .cons ⟨_, rfl⟩ (.cons ⟨_, rfl⟩ (.cons ⟨_, rfl⟩ .nil))⟩⟩⟩
    · exact ⟨.ref aD, ⟨_, _, _, hS, kS, sD, rfl⟩, fun H => ⟨aD, rfl, .inr ⟨_, _, _, hDt, rfl, rfl, sz5 (by simp), .cons ⟨_, rfl⟩ (.cons ⟨_, rfl⟩ (.cons ⟨_, rfl⟩ .nil))⟩⟩⟩
    · exact ⟨.ref aM, ⟨_, _, _, hS, kS, sM, rfl⟩, fun H => ⟨aM, rfl, .inr ⟨_, _, _, hMt, rfl, rfl, sz5 (by simp), .cons ⟨_, rfl⟩ (.cons ⟨_, rfl⟩ (.cons ⟨_, rfl⟩ (.cons ⟨_, rfl⟩ (.cons ⟨_, rfl⟩ .nil))))⟩⟩⟩
    · exact ⟨.ref aQ, ⟨_, _, _, hS, kS, sN, rfl⟩, fun H => ⟨aQ, rfl, .inr ⟨_, _, _, hNt, rfl, rfl, sz5 (by simp), .cons ⟨_, rfl⟩ (.cons ⟨_, rfl⟩ (.cons ⟨_, rfl⟩ (.cons ⟨_, rfl⟩ .nil)))⟩⟩⟩⟩
  have TR : RepT K w mg aR := ⟨PySem.W.mg_of X G gR, fun c hc => by
    have hc' : c ∈ [85, 68, 77, 78] := hc
    simp only [List.mem_cons, List.not_mem_nil, or_false] at hc'
    rcases hc' with rfl | rfl | rfl | rfl
    · exact ⟨rU, "\n", "^\n", _, _, ⟨_, _, _, hR, kR, rrU, rfl⟩, ⟨_, _, rhU, rfl, rfl⟩, rzU.1, rzU.2.1, rzU.2.2, by decide, by decide, by decide, fun l => rfl⟩
    · exact ⟨rD, "^\n", "\n", _, _, ⟨_, _, _, hR, kR, rrD, rfl⟩, ⟨_, _, rhD, rfl, rfl⟩, rzD.1, rzD.2.1, rzD.2.2, by decide, by decide, by decide, fun l => rfl⟩
    · exact ⟨rM, "^", "\n", _, _, ⟨_, _, _, hR, kR, rrM, rfl⟩, ⟨_, _, rhM, rfl, rfl⟩, rzM.1, rzM.2.1, rzM.2.2, by decide, by decide, by decide, fun l => rfl⟩
    · exact ⟨rN, "\n", "^", _, _, ⟨_, _, _, hR, kR, rrN, rfl⟩, ⟨_, _, rhN, rfl, rfl⟩, rzN.1, rzN.2.1, rzN.2.2, by decide, by decide, by decide, fun l => rfl⟩⟩
  refine ⟨PySem.W.fnOf "law" "law" (defArgs sLaw) (defBody sLaw) (defScope sLaw) .none kVW docW pmW anW cdW ctW, fun s v => .of_eq rfl, fun base _ _ => ?_⟩
  have GCc : FnOk P w K mg base CX0 1 fCc _ ["chain"] spChkChain := ok_chkChain FCc m_enumerate gSt
  have GSa : FnOk P w K mg base CX0 1 fSa _ ["j", "wanted"] (spSigns K) := ok_signs FSa m_max
  have GUg : FnOk P w K mg base CX0 2 fUg _ ["j", "wanted"] (spUog K) := ok_uog FUg GSa k_Sa bSa gSa'
  have GUo : FnOk P w K mg base CX0 3 fUo _ ["first", "second"] (spOne K) := ok_one FUo GUg k_Ug bUg gUg'
  have GAk : FnOk P w K mg base CX0 1 fAk _ ["first", "second"] (spAftKeep K) := ok_aftKeep FAk m_max
  have GBk : FnOk P w K mg base CX0 2 fBk _ ["first", "second"] (spBefKeep K) := ok_befKeep FBk GSa k_Sa bSa gSa'
  have GBo : FnOk P w K mg base CX0 4 fBo _ ["first", "second"] (spBoth K) := ok_both FBo (GAk.mono (by decide)) k_Ak bAk gAk' (GBk.mono (by decide)) k_Bk bBk gBk' GUo k_Uo bUo gUo'
  have GFo : FnOk P w K mg base CX0 5 fFo _ ["chain"] (spFoc K) := ok_foc FFo TS GBo k_Bo bBo gBo'
  have GFm : FnOk P w K mg base CX0 6 fFm _ ["chain"] (spFoc K) := ok_form FFm (GCc.mono (by decide)) k_Cc bCc gCc' GFo k_Fo bFo gFo'
  have GTa : FnOk P w K mg base CX0 1 fTa _ ["text", "letter"] spTas := ok_tas FTa TR
  have TLF : LTxt K mg CLineFile := ⟨⟨pgLineFile, hdLineFile, poLineFile, saLineFile⟩, n0LineFile, n1LineFile, n2LineFile, PySem.W.mg_of X G aCLineFile⟩
  have GFi : FnOk P w K mg base CX0 1 fFi _ ["self", "text"] (spLInit CLineFile) := ok_linit FFi TLF
  have GFt : FnOk P w K mg base CX0 1 fFt _ ["self"] (spLText CLineFile) := ok_ltext FFt TLF
  have GFc : FnOk P w K mg base CX0 1 fFc _ ["self"] (spLChain CLineFile) := ok_lchain FFc TLF
  have GFf : FnOk P w K mg base CX0 6 fFf _ ["self"] (spLForm K CLineFile) := ok_lform FFf TLF ⟨GFo.mono (by decide), k_Fo, bFo, gFo'⟩
  have GFu : FnOk P w K mg base CX0 1 fFu _ ["self"] (spLUndo CLineFile) := ok_lundo FFu TLF
  have GFv := ok_lconv (P := P) (w := w) (base := base) (k := 5) FFv TLF ⟨GCc.mono (by decide), k_Cc, bCc, gCc'⟩ ⟨GTa.mono (by decide), k_Ta, bTa, gTa'⟩
  have GFl : GFn P w K mg base 1 fFl _ ["self"] (spLLines CLineFile) := ok_llines (k := 0) FFl TLF
  have GFb : FnOk P w K mg base CX0 1 fFb _ ["self"] (spLBreaks CLineFile) := ok_lbreaks FFb TLF
  have GLg : FnOk P w K mg base CX0 1 fLg _ ["script"] (spRng K) := ok_rng FLg m_abs
  have GLd : FnOk P w K mg base CX0 1 fLd _ ["rng", "limit"] spDraw := ok_draw FLd
  have GLl : FnOk P w K mg base CX0 2 fLl _ ["rng", "most"] spLine := ok_line FLl ⟨m_range, m_int⟩ ⟨GLd.mono (by decide), k_Ld, bLd, gLd'⟩
  have GLm : FnOk P w K mg base CX0 1 fLm _ ["line", "step"] spMoved := ok_moved FLm ⟨m_enumerate⟩
  have GLx : FnOk P w K mg base CX0 2 fLx _ ["rng", "line", "many"] spExact := ok_exact FLx ⟨m_len⟩ ⟨GLd.mono (by decide), k_Ld, bLd, gLd'⟩ ⟨GLm.mono (by decide), k_Lm, bLm, gLm'⟩
  have GLs : FnG P w K mg base CX0 8 fLs _ ["one", "walk", "some"] (spShown CLineFile) := ok_shown (k := 6) (by decide) FLs ⟨m_list, m_repr, m_len⟩ TLF prFt (GFt.mono (by decide)) bFt prFc (GFc.mono (by decide)) bFc prFf (GFf.mono (by decide)) bFf prFb (GFb.mono (by decide)) bFb ⟨aFl, iFl, k_Fl⟩ GFl bFl ⟨GFm.mono (by decide), k_Fm, bFm, gFm'⟩
  have GW := ok_law (k := 7) (by decide) FW ⟨m_range, m_min, m_len⟩ TLF ⟨mkLineFile, aFi, iFi, kcLineFile⟩ (GFi.mono (by decide)) bFi ⟨aFv, iFv, k_Fv⟩ (GFv.mono (by decide)) ⟨aFu, iFu, k_Fu⟩ (GFu.mono (by decide)) bFu prFt (GFt.mono (by decide)) bFt prFb (GFb.mono (by decide)) bFb ⟨GLg.mono (by decide), k_Lg, bLg, gLg'⟩ ⟨GLl.mono (by decide), k_Ll, bLl, gLl'⟩ ⟨GLd.mono (by decide), k_Ld, bLd, gLd'⟩ ⟨GLx.mono (by decide), k_Lx, bLx, gLx'⟩ ⟨GLm.mono (by decide), k_Lm, bLm, gLm'⟩ ⟨GLs, k_Ls, bLs, gLs'⟩
  exact GW
end Lw
open PySem PySem.W PyProof.Rows
set_option maxRecDepth 100000 in
set_option maxHeartbeats 0 in
theorem PySem.Challenge.cw_lineends_k49_whole_long_files_holds : PySem.Challenge.rw_lineends_k49_whole_long_files.Holds := by
  w_on; o_law; k_head; (case hw => w_witness2)
  k_fill
  refine Lx.endG (l := PySem.Challenge.rw_lineends_k49_whole_long_files) (n := 63) (k := 9) (x := "script") (CX := fun _ => L2.CX0) (sp := fun w => Lw.spLaw _) rfl (by decide) rfl ⟨rfl, by decide, by decide⟩ (fun w h Y => PySem.W.kIn_of Y) ?F (fun _ _ a ns hl hS => ⟨a, ns, rfl, hS, hl, fun _ => rfl⟩) (fun _ _ _ _ _ h => h)
  case F =>
    intro w mg fa h KX G hmg
    refine' Lw.all_mk KX G hmg ?aCLineFile ?pgLineFile ?hdLineFile ?poLineFile ?mkLineFile ?kcLineFile ?saLineFile ?n0LineFile ?n1LineFile ?n2LineFile ?aCc ?lCc ?c_Cc ?k_Cc ?aSa ?lSa ?c_Sa ?k_Sa ?aUg ?lUg ?c_Ug ?k_Ug ?aUo ?lUo ?c_Uo ?k_Uo ?aAk ?lAk ?c_Ak ?k_Ak ?aBk ?lBk ?c_Bk ?k_Bk ?aBo ?lBo ?c_Bo ?k_Bo ?aFo ?lFo ?c_Fo ?k_Fo ?aFm ?lFm ?c_Fm ?k_Fm ?aTa ?lTa ?c_Ta ?k_Ta ?aFi ?iFi ?lFi ?c_Fi ?k_Fi ?paFt ?pbFt ?pcFt ?pdFt ?lFt ?c_Ft ?k_Ft ?paFc ?pbFc ?pcFc ?pdFc ?lFc ?c_Fc ?k_Fc ?paFf ?pbFf ?pcFf ?pdFf ?lFf ?c_Ff ?k_Ff ?aFv ?iFv ?lFv ?c_Fv ?k_Fv ?aFu ?iFu ?lFu ?c_Fu ?k_Fu ?aFl ?iFl ?lFl ?c_Fl ?k_Fl ?paFb ?pbFb ?pcFb ?pdFb ?lFb ?c_Fb ?k_Fb ?aLg ?lLg ?c_Lg ?k_Lg ?aLd ?lLd ?c_Ld ?k_Ld ?aLl ?lLl ?c_Ll ?k_Ll ?aLm ?lLm ?c_Lm ?k_Lm ?aLx ?lLx ?c_Lx ?k_Lx ?aLs ?lLs ?c_Ls ?k_Ls ?aW ?lW ?c_W ?k_W ?z_abs ?z_enumerate ?z_int ?z_len ?z_list ?z_max ?z_min ?z_range ?z_repr ?gS ?gN ?hN ?gQ ?hS ?kS ?sU ?hUt ?sD ?hDt ?sM ?hMt ?sN ?hNt ?gR ?hR ?kR ?rrU ?rhU ?rzU ?rrD ?rhD ?rzD ?rrM ?rhM ?rzM ?rrN ?rhN ?rzN
    (case aCLineFile => k_is)
    (case pgLineFile => k_is)
    (case hdLineFile => k_is)
    (case poLineFile => k_is)
    (case mkLineFile => k_is)
    (case kcLineFile => k_is)
    (case saLineFile => k_is)
    (case n0LineFile => k_is)
    (case n1LineFile => k_is)
    (case n2LineFile => k_is)
    (case aCc => k_is)
    (case lCc => k_is)
    (case c_Cc => k_is)
    (case k_Cc => k_is)
    (case aSa => k_is)
    (case lSa => k_is)
    (case c_Sa => k_is)
    (case k_Sa => k_is)
    (case aUg => k_is)
    (case lUg => k_is)
    (case c_Ug => k_is)
    (case k_Ug => k_is)
    (case aUo => k_is)
    (case lUo => k_is)
    (case c_Uo => k_is)
    (case k_Uo => k_is)
    (case aAk => k_is)
    (case lAk => k_is)
    (case c_Ak => k_is)
    (case k_Ak => k_is)
    (case aBk => k_is)
    (case lBk => k_is)
    (case c_Bk => k_is)
    (case k_Bk => k_is)
    (case aBo => k_is)
    (case lBo => k_is)
    (case c_Bo => k_is)
    (case k_Bo => k_is)
    (case aFo => k_is)
    (case lFo => k_is)
    (case c_Fo => k_is)
    (case k_Fo => k_is)
    (case aFm => k_is)
    (case lFm => k_is)
    (case c_Fm => k_is)
    (case k_Fm => k_is)
    (case aTa => k_is)
    (case lTa => k_is)
    (case c_Ta => k_is)
    (case k_Ta => k_is)
    (case aFi => k_is)
    (case iFi => k_is)
    (case lFi => k_is)
    (case c_Fi => k_is)
    (case k_Fi => k_is)
    (case paFt => k_is)
    (case pbFt => k_is)
    (case pcFt => k_is)
    (case pdFt => k_is)
    (case lFt => k_is)
    (case c_Ft => k_is)
    (case k_Ft => k_is)
    (case paFc => k_is)
    (case pbFc => k_is)
    (case pcFc => k_is)
    (case pdFc => k_is)
    (case lFc => k_is)
    (case c_Fc => k_is)
    (case k_Fc => k_is)
    (case paFf => k_is)
    (case pbFf => k_is)
    (case pcFf => k_is)
    (case pdFf => k_is)
    (case lFf => k_is)
    (case c_Ff => k_is)
    (case k_Ff => k_is)
    (case aFv => k_is)
    (case iFv => k_is)
    (case lFv => k_is)
    (case c_Fv => k_is)
    (case k_Fv => k_is)
    (case aFu => k_is)
    (case iFu => k_is)
    (case lFu => k_is)
    (case c_Fu => k_is)
    (case k_Fu => k_is)
    (case aFl => k_is)
    (case iFl => k_is)
    (case lFl => k_is)
    (case c_Fl => k_is)
    (case k_Fl => k_is)
    (case paFb => k_is)
    (case pbFb => k_is)
    (case pcFb => k_is)
    (case pdFb => k_is)
    (case lFb => k_is)
    (case c_Fb => k_is)
    (case k_Fb => k_is)
    (case aLg => k_is)
    (case lLg => k_is)
    (case c_Lg => k_is)
    (case k_Lg => k_is)
    (case aLd => k_is)
    (case lLd => k_is)
    (case c_Ld => k_is)
    (case k_Ld => k_is)
    (case aLl => k_is)
    (case lLl => k_is)
    (case c_Ll => k_is)
    (case k_Ll => k_is)
    (case aLm => k_is)
    (case lLm => k_is)
    (case c_Lm => k_is)
    (case k_Lm => k_is)
    (case aLx => k_is)
    (case lLx => k_is)
    (case c_Lx => k_is)
    (case k_Lx => k_is)
    (case aLs => k_is)
    (case lLs => k_is)
    (case c_Ls => k_is)
    (case k_Ls => k_is)
    (case aW => k_is)
    (case lW => k_is)
    (case c_W => k_is)
    (case k_W => k_is)
    (case z_abs => k_is)
    (case z_enumerate => k_is)
    (case z_int => k_is)
    (case z_len => k_is)
    (case z_list => k_is)
    (case z_max => k_is)
    (case z_min => k_is)
    (case z_range => k_is)
    (case z_repr => k_is)
    (case gS => k_is)
    (case gN => k_is)
    (case hN => k_is)
    (case gQ => k_is)
    (case hS => k_is)
    (case kS => exact ⟨⟨_, _, rfl, rfl⟩, ⟨_, _, rfl, rfl⟩, ⟨_, _, rfl, rfl⟩, ⟨_, _, rfl, rfl⟩, trivial⟩)
    (case sU => k_is)
    (case hUt => k_is)
    (case sD => k_is)
    (case hDt => k_is)
    (case sM => k_is)
    (case hMt => k_is)
    (case sN => k_is)
    (case hNt => k_is)
    (case gR => k_is)
    (case hR => k_is)
    (case kR => exact ⟨⟨_, _, rfl, rfl⟩, ⟨_, _, rfl, rfl⟩, ⟨_, _, rfl, rfl⟩, ⟨_, _, rfl, rfl⟩, trivial⟩)
    (case rrU => k_is)
    (case rhU => k_is)
    (case rzU => decide)
    (case rrD => k_is)
    (case rhD => k_is)
    (case rzD => decide)
    (case rrM => k_is)
    (case rhM => k_is)
    (case rzM => decide)
    (case rrN => k_is)
    (case rhN => k_is)
    (case rzN => decide)
