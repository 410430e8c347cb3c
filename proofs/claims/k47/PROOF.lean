import PyProof.Rows.All
import Wide.All
import OpenK.AllK
import Wide.FinOn
import KE.KFromBytes
import KE.KExcSuper
import HandS.Base
import HandS.Call
import HandS.Exc
import HandS.Ends
import HandS.Words
import KE.KExcIs
import HandS.ForExc
import HandS.ForMost
import HandS.IsInst
import HandS.Walk
import HandS.TupAny
import HandS.More
import PyProof.WalkInts
import KE.GoesMore
import PyProof.EnumMake
import PyProof.EnumFor
import HandS.Wide
import HandS.WideMore
import PyProof.ReprBulk
import HandS.MakeKwOnly
import PyProof.StrOps2
import HandS.Dict
import HandS.ReplaceLit
import HandS.ReplaceList
import HandS.Replace
import HandS.NoneIn
import HandS.Property
import HandS.Star
import HandS.OwnEq
import PyProof.InstEq
import HandS.GenYield
import HandS.GenList
import HandS.Text
import HandS.WordsExc
import HandS.SetFor
import HandS.ClsMeth
import HandS.CallLocal
import PySem.Challenge.RW_lineends_k47_lines_of_files
set_option Elab.async false
set_option linter.all false
set_option maxRecDepth 100000
set_option maxHeartbeats 4000000
/-! An own error class over ValueError, called by position or by keyword: what it leaves. -/
namespace Lx
open PySem PySem.HandSPX
open PySem.W (Looks)
section
variable {M : Model} {prog : Program} {w : World} {A : Around} {E : Value → Shared → Prop} {R : Result → Shared → Prop}
variable {h : Heap} {gn : Array GenState} {dr : Drawn} {tk : Nat} {os : OsState}
variable {nm q : Str} {C N : Addr} {bs bm bmB : List Value} {hd : Bool} {sn : List Str} {sub : List Value} {ab : Bool} {col : Option Bool} {dd : Option Addr} {k0 k1 k2 k3 k5 : Option Value} {B nid iid : String}
/-- the maker's own check, with keywords -/
theorem newCheck (F : ExcBaseFacts B nid iid bmB) (hT : ∀ Y : String, bm.contains (.type Y) = bmB.contains (.type Y)) {pos : List Value} {kw : List (Str × Value)} {Q : Unit → Shared → Prop}
    (hC : h.get? C = some (excClassObj nm q C N bs bm hd sn sub ab col dd k0 k1 k2 k3 k5 nid)) (hq : Q () ⟨h, gn, dr, tk, os⟩) :
    wpAny M A (checkBuiltinCall nid ⟨.ref C :: pos, kw⟩) Q E ⟨h, gn, dr, tk, os⟩ := by
  have c0 : (Value.ref C :: bm).contains (.type B) = true := by
    rw [List.contains_cons, hT, F.hasB, Bool.or_true]
  have c1 := F.noStar
  simp only [checkBuiltinCall, F.newKind, F.newSplit, F.newRow]
  repeat (first
    | refine wpAny_loadPart_at hC ?_
    | (refine wpAny_isSubtype_exc hC ?_; rw [c0])
    | refine wpAny_staticBase_exc hC ?_
    | refine wpAny_madeBy_exc hC ?_
    | simp only [bne_self_eq_false, Bool.false_eq_true, if_false]
    | wp_step)
  exact hq
/-- the maker: the arguments by position alone are laid -/
theorem newMakes (F : ExcBaseFacts B nid iid bmB) (hT : ∀ Y : String, bm.contains (.type Y) = bmB.contains (.type Y)) {pos : List Value} {kw : List (Str × Value)}
    (hC : h.get? C = some (excClassObj nm q C N bs bm hd sn sub ab col dd k0 k1 k2 k3 k5 nid)) (hl : pos.length ≤ sizeLine)
    (hq : R (.ok (.ret (.ref (h.objs.size + 1)))) ⟨(h.push (W.kdv_tup pos)).push (excO C h.objs.size), gn, dr, tk, os⟩) :
    codeAny (model prog w) A (.builtin nid ⟨.ref C :: pos, kw⟩) R ⟨h, gn, dr, tk, os⟩ := by
  have e1 := F.ends
  have c0 : (Value.ref C :: bm).contains (.type B) = true := by
    rw [List.contains_cons, hT, F.hasB, Bool.or_true]
  have c1 : (Value.ref C :: bm).contains (.type "AttributeError") = false := by
    rw [List.contains_cons, hT, F.noAttr]; rfl
  have c2 : (Value.ref C :: bm).contains (.type "NameError") = false := by
    rw [List.contains_cons, hT, F.noName]; rfl
  refine codeAny_builtinAt F.entry ?_
  unfold Builtin.«BaseException.__new__»
  refine wpAt_bind ?_
  show wpAt _ _ _ (stack >>= _) _ _ _
  refine wpAt_bind (wpAt_stack fun p below => wpAt_of_wpAny ?_)
  wp_walk
  refine wpAt_of_wpAny ?_
  rw [F.owner]
  repeat (first
    | with_reducible refine wpAny_madeHere_exc F.canon hC ?_
    | with_reducible refine wpAny_loadPart_at hC ?_
    | (with_reducible refine wpAny_isSubtype_exc hC ?_; first | rw [c0] | rw [c1] | rw [c2])
    | wp_step)
  show R _ _
  rw [Heap.size_push]
  exact hq
/-- the class's call: the maker, then the class's own __init__ -/
theorem typeCalls (F : ExcBaseFacts B nid iid bmB) (hT : ∀ Y : String, bm.contains (.type Y) = bmB.contains (.type Y)) {pos : List Value} {kw : List (Str × Value)} {fI : Addr} {Q : Fin → Shared → Prop}
    (hC : h.get? C = some (excClassObj nm q C N bs bm hd sn sub ab col dd k0 k1 k2 k3 k5 nid))
    (hi : Looks (model prog w) h (typeLookup (.ref C) "__init__") (some (.ref fI))) (hb : ∀ self, Looks (model prog w) h (bindSpecial (.ref fI) self) (.ref fI, [self])) (hl : pos.length ≤ sizeLine)
    (hq : codeAny (model prog w) A (.call (.ref fI) ⟨.ref (h.objs.size + 1) :: pos, kw⟩)
      (fun r s' => match r with | .ok (.ret v) => v = .none ∧ Q (.done (.ret (.ref (h.objs.size + 1)))) s' | .ok _ => False | .error e => E e s')
      ⟨(h.push (W.kdv_tup pos)).push (excO C h.objs.size), gn, dr, tk, os⟩) :
    wpAny (model prog w) A (Builtin.«type.__call__» ⟨.ref C :: pos, kw⟩) Q E ⟨h, gn, dr, tk, os⟩ := by
  repeat (first | with_reducible refine wpAny_loadPart_at hC ?_ | with_reducible refine wpAny_madeBy_exc hC ?_ | wp_step)
  refine codeAny_call_builtin_code (Code.quiet_builtin _ F.quiet) (newCheck F hT hC ?_)
  refine newMakes F hT hC hl ?_
  show wpAny _ _ _ _ _ _
  have kp : ∀ b o, h.get? b = some o → ((h.push (W.kdv_tup pos)).push (excO C h.objs.size)).get? b = some o := fun b o e => Heap.get?_push_of_some _ (Heap.get?_push_of_some _ e)
  have hC1 := kp _ _ hC
  have hg : ((h.push (W.kdv_tup pos)).push (excO C h.objs.size)).get? (h.objs.size + 1) = some (excO C h.objs.size) := by heap_get
  have hs : (Value.ref C :: bm).contains (.ref C) = true := by simp
  have i1 := hi.keeps kp
  have b1 := (hb (.ref (h.objs.size + 1))).keeps kp
  unfold isInstance
  repeat (first | with_reducible refine wpAny_loadPart_at hg ?_ | (with_reducible refine wpAny_isSubtype_exc hC1 ?_; rw [hs]) | wp_step)
  show wpAny _ _ (typeLookup (.ref C) _) _ _ _
  refine i1.at ?_
  refine wpAny_holding (wpAny_bind (b1.at ?_))
  refine wpAny_bind (wpAny_call (codeAny_mono hq fun r s' z => ?_))
  rcases r with e | (v | _ | _ | _) <;> first | exact z | exact z.elim | skip
  obtain ⟨rfl, z⟩ := z
  first
    | exact wpAny_pure (wpAny_pure z)
    | (wp_walk; exact z)
end
end Lx
namespace Lx
open PySem PySem.HandSPX
open PySem.W (Looks)
open L2 (defArgs defBody defScope)
/-! ### the text of an error's __init__ -/
def inA (a b : Pos) : Arguments := { posonlyargs := [], args := [{ arg := "self", annotation := none, pos := a }, { arg := "value", annotation := none, pos := b }], vararg := none, kwonlyargs := [], kw_defaults := [], kwarg := none, defaults := [] }
def inB (msg : Str) (a b c d e f g i j k : Pos) : List Stmt :=
  [.Expr (.Call (.Attribute (.Call (.Name "super" a) [] [] b) "__init__" c) [.Constant (.str msg) 0 d] [] e) f, .Assign [.Attribute (.Name "self" g) "value" i] (.Name "value" j) k]
def SupCall (msg : Str) (a b c d e : Pos) : Prop := ∀ env : Env, ∃ pl : Sem Bool, eval (.Call (.Attribute (.Call (.Name "super" a) [] [] b) "__init__" c) [.Constant (.str msg) 0 d] [] e) env = (do
  let ov ← attributeBase (.Call (.Name "super" a) [] [] b) "__init__" env (eval (.Call (.Name "super" a) [] [] b) env)
  standAt c.atName
  let (f, first) ← holding [ov] (getMethod ov "__init__" pl)
  callWith e f first (backTo e (starEach [.Constant (.str msg) 0 d] env)) [])
def inS : Scope := { kind := .function, names := [(PySem.Str.ofString "self", .local), (PySem.Str.ofString "value", .local), (PySem.Str.ofString "__class__", .free), (PySem.Str.ofString "super", .globalImplicit)], isGenerator := false, isCoroutine := false, more := [] }
/-- what the written part says of the errors' own base, at L -/
structure LineC (K : PySem.W.Frag) (mg : Str → Option Value) (L : Addr) : Prop where
  gL : mg "LineError" = some (.ref L)
  cls : ∃ n q N bs sn sub ab col dd k0 k1 k2 k3 k5, K.lookup L = some (excClassObj n q L N bs HandSPX.veTail true sn sub ab col dd k0 k1 k2 k3 k5 "ValueError.__new__")
  ini : PySem.W.findIn K (.ref L) "__init__" = some (some (.builtin "ValueError.__init__"))
  ty : PySem.W.typeIn K (.ref L) = some (.type "type")
  exB : PySem.W.subIn K (.ref L) (.type "BaseException") = some true
  sup : PySem.W.nsIn K mainGlobals "super" = some none
  opq : PySem.W.nsIn K cStatics "thirdparty.any" = some none
  sp : PySem.W.specialIn K (.builtin "object.__class__") "__get__" = some (some (.builtin "getset_descriptor.__get__"))
  tk : PySem.W.takesIn K (.builtin "object.__class__") = some true
/-- what the written part says of an error class at C, whose base stands at L; st is the text of its __init__, qual that def's long name, nm the class's name -/
structure ErrC (K : PySem.W.Frag) (file : Str) (mg : Str → Option Value) (L : Addr) (nm qual : Str) (st : Stmt) (C : Addr) : Prop where
  gC : mg nm = some (.ref C)
  cls : ∃ n q N bs sn sub ab col dd k0 k1 k2 k3 k5, K.lookup C = some (excClassObj n q C N bs (.ref L :: HandSPX.veTail) true sn sub ab col dd k0 k1 k2 k3 k5 "ValueError.__new__")
  sa : PySem.W.findIn K (.ref C) "__setattr__" = some (some (.builtin "object.__setattr__"))
  ga : PySem.W.findIn K (.ref C) "__getattribute__" = some (some (.builtin "BaseException.__getattribute__"))
  gg : PySem.W.findIn K (.ref C) "__getattr__" = some none
  ca : PySem.W.findIn K (.ref C) "__class__" = some (some (.builtin "object.__class__"))
  nv : PySem.W.findIn K (.ref C) "value" = some none
  ty : PySem.W.typeIn K (.ref C) = some (.type "type")
  kp : PySem.W.keepIn K (.ref C) = true
  init : ∃ fI : Addr, PySem.W.findIn K (.ref C) "__init__" = some (some (.ref fI)) ∧ PySem.W.typeIn K (.ref fI) = some (.type "function") ∧
    ∃ (oc : Value) (od : Option Addr) (doc pm : Value) (an : Option Addr) (cc cda : Addr) (ct : Value) (osl : Array (Option Value)),
      K.lookup fI = some ⟨oc, od, .func (PySem.W.fnX "__init__" qual (defArgs st) (defBody st) (defScope st) [("__class__", cc)] .none .none doc pm an (.ref cda) ct), osl⟩ ∧ PySem.W.codeIn K (.ref cda) qual = true ∧
      (∃ (cl : Value) (cd : Option Addr) (vs : Array Value) (cs : Array (Option Value)) (tf : Tok), K.lookup cda = some ⟨cl, cd, .fields vs, cs⟩ ∧ vs[2]? = some (.str file tf)) ∧
      ∃ (cl : Value) (cd : Option Addr) (cs : Array (Option Value)), K.lookup cc = some ⟨cl, cd, .cell (some (.ref C)), cs⟩
  tA : ∃ a b, defArgs st = inA a b
  tB : ∃ msg a b c d e f g i j k, defBody st = inB msg a b c d e f g i j k ∧ SupCall msg a b c d e
  tS : defScope st = inS
theorem LineC.along {K : PySem.W.Frag} {mg : Str → Option Value} {L : Addr} (T : LineC K mg L) : PySem.W.alongIn K "__init__" (.ref L :: HandSPX.veTail) = some (some (.builtin "ValueError.__init__")) := by
  obtain ⟨n, q, N, bs, sn, sub, ab, col, dd, k0, k1, k2, k3, k5, hL⟩ := T.cls
  have e := T.ini
  simp only [PySem.W.findIn, hL] at e
  exact e
/-- the chain of classes above C -/
theorem ErrC.chain {K : PySem.W.Frag} {file : Str} {mg : Str → Option Value} {L C : Addr} {nm qual : Str} {st : Stmt} (T : ErrC K file mg L nm qual st C) : ∃ cd : ClassData, PySem.W.clsIn K C = some cd ∧ cd.mro = .ref C :: .ref L :: HandSPX.veTail ∧ cd.hasDict = true := by
  obtain ⟨n, q, N, bs, sn, sub, ab, col, dd, k0, k1, k2, k3, k5, hC⟩ := T.cls
  exact ⟨{ name := n, bases := bs, mro := .ref C :: .ref L :: HandSPX.veTail, ns := N, qualname := q, hasDict := true, slotNames := sn, subclasses := sub, abstract := ab, collection := col, hasDel := false }, by unfold PySem.W.clsIn; rw [hC] <;> rfl, rfl, rfl⟩
theorem ErrC.under {K : PySem.W.Frag} {file : Str} {mg : Str → Option Value} {L C : Addr} {nm qual : Str} {st : Stmt} (T : ErrC K file mg L nm qual st C) (b : Value) : PySem.W.mroIn K C b = some ((Value.ref C :: .ref L :: HandSPX.veTail).contains b) := by
  obtain ⟨cd, e1, e2, _⟩ := T.chain
  unfold PySem.W.mroIn
  rw [e1, Option.bind_some, e2]
  rfl
section
variable {prog : Program} {w : World} {A : Around} {E : Value → Shared → Prop} {R : Result → Shared → Prop} {M : Model}
variable {h : Heap} {gn : Array GenState} {dr : Drawn} {tk : Nat} {os : OsState}
variable {nm q : Str} {C N : Addr} {bs bm bmB : List Value} {hdt : Bool} {sn : List Str} {sub : List Value} {ab : Bool} {col : Option Bool} {dd : Option Addr} {k0 k1 k2 k3 k5 : Option Value} {B nid iid : String}
theorem tcCheck {pos : List Value} {kw : List (Str × Value)} {Q : Unit → Shared → Prop} (hC : h.get? C = some (excClassObj nm q C N bs bm hdt sn sub ab col dd k0 k1 k2 k3 k5 nid)) (hq : Q () ⟨h, gn, dr, tk, os⟩) :
    wpAny M A (checkBuiltinCall "type.__call__" ⟨.ref C :: pos, kw⟩) Q E ⟨h, gn, dr, tk, os⟩ := by
  have f3 := tc_sub
  have hT : (⟨h, gn, dr, tk, os⟩ : Shared).TypeIs (.ref C) "type" := ⟨_, hC, rfl⟩
  simp only [checkBuiltinCall, tc_kind, tc_split]
  repeat (any_goals (first | assumption | with_reducible refine wpAny_loadPart_at hC ?_ | with_reducible refine wpAny_onRaise ?_ | with_reducible refine wpAny_map ?_ | wp_step))
theorem clsCalls (F : ExcBaseFacts B nid iid bmB) (hT : ∀ Y : String, bm.contains (.type Y) = bmB.contains (.type Y)) {pos : List Value} {kw : List (Str × Value)} {fI : Addr}
    (hC : h.get? C = some (excClassObj nm q C N bs bm hdt sn sub ab col dd k0 k1 k2 k3 k5 nid))
    (hi : Looks (model prog w) h (typeLookup (.ref C) "__init__") (some (.ref fI))) (hb : ∀ self, Looks (model prog w) h (bindSpecial (.ref fI) self) (.ref fI, [self])) (hl : pos.length ≤ sizeLine)
    (hq : codeAny (model prog w) (A.under (.builtin "type.__call__" ⟨.ref C :: pos, kw⟩)) (.call (.ref fI) ⟨.ref (h.objs.size + 1) :: pos, kw⟩) (W.InitBack (h.objs.size + 1) R)
      ⟨(h.push (W.kdv_tup pos)).push (excO C h.objs.size), gn, dr, tk, os⟩) :
    codeAny (model prog w) A (.call (.ref C) ⟨pos, kw⟩) R ⟨h, gn, dr, tk, os⟩ := by
  have f1 := tc_lookup
  have f2 := tc_bind (.ref C)
  have hTy : (⟨h, gn, dr, tk, os⟩ : Shared).TypeIs (.ref C) "type" := ⟨_, hC, rfl⟩
  refine codeAny_of_tree ?_
  show wpAny _ _ (callAny (.ref C) _) _ _ _
  repeat (any_goals (first | assumption | with_reducible refine wpAny_loadPart_at hC ?_ | wp_step))
  refine ⟨rfl, ?_⟩
  refine codeAny_call_builtin_at (Code.quiet_builtin _ (by decide +kernel)) entry_typeCall (tcCheck hC (typeCalls F hT hC hi hb hl ?_))
  refine codeAny_mono hq fun r s' z => ?_
  rcases r with e | (v | _ | _ | _) <;> exact z
end
end Lx
namespace Lx
open PySem PySem.HandSPX
open PySem.W (Looks)
open L2 (defArgs defBody defScope)
/-- what __init__ leaves of a fresh error at x -/
structure InitLeft (h h' : Heap) (x C dx t1 : Addr) (v : Value) : Prop where
  keep : ∀ b o, b ≠ x → h.get? b = some o → h'.get? b = some o
  obj : h'.get? x = some { cls := .ref C, dict := some dx, data := .fields #[.ref t1, .none, .none, .none, .bool false, .none] }
  big : h.objs.size ≤ dx
  ne : dx ≠ x
  ns : h'.Ns1 dx (fun y => if y = "value" then some v else none)
/-- the two ways in which the value is handed over -/
inductive Hands (v : Value) : List Value → List (Str × Value) → Prop where
  | pos : Hands v [v] []
  | kw : Hands v [] [("value", v)]
section
variable {prog : Program} {w : World} {A : Around} {E : Value → Shared → Prop} {R : Result → Shared → Prop} {M : Model} {s : Shared}
variable {K : PySem.W.Frag} {mg mb : Str → Option Value} {nm qual : Str} {st : Stmt} {C L : Addr}
theorem initRuns (TL : LineC K mg L) (T : ErrC K prog.main.file mg L nm qual st C) {x t0 fI : Addr} {v : Value} {ps : List Value} {kw : List (Str × Value)} (hv : Hands v ps kw) (htop : (prog.main.scope.names.lookup ("super" : Str)).isSome = false)
    (hfI : PySem.W.findIn K (.ref C) "__init__" = some (some (.ref fI))) (X : K.In s.heap) (G : s.heap.Ns mainGlobals mg) (gs : mg "super" = none) (B : s.heap.Ns builtinsNs mb) (bs : mb "super" = some (.type "super"))
    (hlim : s.heap.NoLimit) (hnx : K.lookup x = none) (hx : s.heap.get? x = some (excO C t0)) (hroom : A.depth < recursionLimit)
    (hq : ∀ h' tk dx t1, InitLeft s.heap h' x C dx t1 v → R (.ok (.ret .none)) { s with heap := h', toks := tk }) :
    codeAny (model prog w) A (.call (.ref fI) ⟨.ref x :: ps, kw⟩) R s := by
  obtain ⟨n, q, N, bss, sn, sub, ab, col, dd, k0, k1, k2, k3, k5, hC⟩ := T.cls
  obtain ⟨bm, ebm⟩ : ∃ bm, bm = (Value.ref L :: HandSPX.veTail) := ⟨_, rfl⟩
  rw [← ebm] at hC
  have hbm : refsVE bm = true := by rw [ebm]; rfl
  have hal := TL.along
  rw [← ebm] at hal
  obtain ⟨f2, e2, tI, oc, od, doc, pm, an, cc, cda, ct, osl, ho, hcd, ⟨cl, cd, vs, cs, tf, hco, hvs⟩, cl2, cd2, cs2, hce⟩ := T.init
  rw [hfI] at e2
  obtain rfl : fI = f2 := Value.ref.inj (Option.some.inj (Option.some.inj e2))
  obtain ⟨a1, a2, eA⟩ := T.tA
  obtain ⟨msg, p0, p1, p2, p3, p4, p5, q1, q2, q3, q4, eB, hsc⟩ := T.tB
  rw [eA, eB, T.tS] at ho
  have hcl : PySem.W.clsIn K C = some { name := n, bases := bss, mro := .ref C :: bm, ns := N, qualname := q, hasDict := true, slotNames := sn, subclasses := sub, abstract := ab, collection := col, hasDel := false } := by
    unfold PySem.W.clsIn; rw [hC] <;> rfl
  have hcC : (Value.ref C :: bm).contains (.ref C) = true := by simp
  have hbase : ∀ Y : String, bm.contains (.type Y) = HandSPX.veTail.contains (.type Y) := fun Y => refsVE_contains Y bm hbm
  refine ks_codeAny_call_defAt (fd := PySem.W.fnX "__init__" qual (inA a1 a2) (inB msg p0 p1 p2 p3 p4 p5 q1 q2 q3 q4) inS [("__class__", cc)] .none .none doc pm an (.ref cda) ct) (body := inB msg p0 p1 p2 p3 p4 p5 q1 q2 q3 q4)
    (binds := [("self", .ref x), ("value", v)]) hroom (X _ _ ho) rfl hlim (PySem.W.codeRec_of X hcd) rfl ?_ (show ∀ y ∈ inS.names, y.2 ≠ .cell by decide) (by intro y hy; simp only [List.mem_cons, List.not_mem_nil, or_false] at hy; rcases hy with rfl | rfl <;> rfl) (fun h1 hns hk => ?_) rfl rfl rfl
  · cases hv with
    | pos => exact .of_eq (by first | rfl | with_unfolding_all rfl)
    | kw => exact .of_eq (by first | rfl | with_unfolding_all rfl)
  have X1 : K.In h1 := X.keeps hk
  have hx1 := hk _ _ hx
  have hC1 := X1 _ _ hC
  have hxC : x ≠ C := fun z => by
    rw [z] at hx1
    rw [hC1] at hx1
    cases hx1
  have hL : s.heap.objs.size ≠ x := Nat.ne_of_gt (Heap.lt_size hx)
  obtain ⟨pl, hpl⟩ := hsc (callEnv (PySem.W.fnX "__init__" qual (inA a1 a2) (inB msg p0 p1 p2 p3 p4 p5 q1 q2 q3 q4) inS [("__class__", cc)] .none .none doc pm an (.ref cda) ct) s.heap.objs.size fI)
  refine ks_wpAt_execs_cons (ks_wpAt_Expr_any (ks_wpAt_MethodCall (pl := pl) ?_ hpl))
  refine ks_wpAt_super_base (env := callEnv (PySem.W.fnX "__init__" qual (inA a1 a2) (inB msg p0 p1 p2 p3 p4 p5 q1 q2 q3 q4) inS [("__class__", cc)] .none .none doc pm an (.ref cda) ct) s.heap.objs.size fI) rfl rfl rfl rfl (X1 _ _ ho) rfl rfl rfl (X1 _ _ hco) rfl hvs (by simp) htop ?_
  refine PySem.W.ks_loadName_global rfl rfl (Calls.loadGlobal_builtin (mg := mg) (mb := mb) ?_ gs ?_ bs ⟨rfl, ?_⟩)
  · obtain ⟨o, es, ep, e, r⟩ := G
    exact ⟨o, es, ep, hk _ _ e, r⟩
  · obtain ⟨o, es, ep, e, r⟩ := B
    exact ⟨o, es, ep, hk _ _ e, r⟩
  refine wpAny_loadName_free rfl rfl (c := cc) rfl ⟨_, X1 _ _ hce, rfl⟩ ?_
  refine wpAny_loadName_local (m := fun y => ([("self", .ref x), ("value", v)] : List (Str × Value)).reverse.lookup y) rfl rfl hns rfl ?_
  refine ks_wpAny_isType_cls hC1 rfl ⟨rfl, ?_⟩
  refine ks_wpAny_call_super (C := C) hC1 rfl hx1 rfl (fun c e => by cases e) (PySem.W.looks_mroIn X1 (by unfold PySem.W.mroIn; rw [hcl, Option.bind_some, if_neg (by simp), hcC])) (fun h2 hso k2' => ?_)
  have X2 : K.In h2 := X1.keeps k2'
  have hx2 := k2' _ _ hx1
  have I2 : PySem.W.InstAt h2 x (excO C t0) C none := ⟨hx2, rfl, rfl, trivial⟩
  refine PySem.W.kxs_getMethod PySem.W.kxs_ValueError hso (PySem.W.looks_opaque X2 TL.opq) (l₀ := .ref C :: bm) (l := bm) (fun A' Q' E' s' k' q' => wpAny_bind ((PySem.W.looks_clsIn X2 hcl) A' _ E' s' k' (wpAny_pure q')))
    (by simp [List.dropWhile_cons]) X2 hal (I2.type.andThen (PySem.W.looks_mroIn X2 ((T.under _).trans (by rfl)))) hxC (by decide) ?_
  have k3 : ∀ b o, h2.get? b = some o → (h2.push (PySem.W.kxs_mw "ValueError.__init__" x)).get? b = some o := fun b o e => Heap.get?_push_of_some _ e
  have hu : (h2.push (PySem.W.kxs_mw "ValueError.__init__" x)).get? h2.objs.size = some (PySem.W.kxs_mw "ValueError.__init__" x) := Heap.get?_push_at rfl rfl
  refine PySem.W.kxs_callWith (i := "ValueError.__init__") (x := x) (by rfl) ?_
  refine Calls.evalArgs_plain ?_
  refine Calls.spliced_cons (wpAny_Constant_str (k := 0) (pos := p3) (Calls.spliced_nil ⟨hu, ?_⟩))
  have hone : ([.str msg s.toks] : List Value).length ≤ sizeLine := by rw [sizeLine_eq]; exact (by decide : 1 ≤ 16777216)
  refine wpAny_call (codeAny_of_tree ?_)
  show wpAny _ _ (callAny (.ref h2.objs.size) _) _ _ _
  simp only [callAny]
  refine wpAny_bind (wpAny_load hu ?_)
  simp only [PySem.W.kxs_mw, show (Value.type "method-wrapper" == Value.type "method" || Value.type "method-wrapper" == Value.type "builtin_function_or_method" || Value.type "method-wrapper" == Value.type "method-wrapper") = true by decide, if_true]
  refine PySem.W.KFB.if_so (by decide) ?_
  refine wpAny_bind (PySem.W.check_bound_init F.excBase_ValueError.toExcCallFacts (k3 _ _ (k2' _ _ hC1)) (k3 _ _ hx2) rfl ?_)
  refine wpAny_bind (wpAny_pure (wpAny_pure ?_))
  refine ⟨plainId_quiet F.excBase_ValueError.init.plain _, codeAny_builtin F.excBase_ValueError.initEntry ?_⟩
  refine PySem.W.exc_init_tree (cls := .ref C) (t0 := t0) (dv := none) (c2 := .none) (c3 := .none) (b4 := .bool false) (k3 _ _ hx2) (by rw [sizeLine_eq]; exact (by decide : 1 ≤ 16777216)) (fun h3 k4 hx3 _ => ?_)
  show wpAt _ _ _ (execs _ _) _ _ _
  have keep3 : ∀ b o, b ≠ x → h1.get? b = some o → h3.get? b = some o := fun b o hb e => k4 b o hb (k3 _ _ (k2' _ _ e))
  have hns3 : h3.Ns s.heap.objs.size (fun y => ([("self", .ref x), ("value", v)] : List (Str × Value)).reverse.lookup y) := by
    obtain ⟨o, es, ep, e, r⟩ := hns
    exact ⟨o, es, ep, keep3 _ _ hL e, r⟩
  have X3 : K.In h3 := fun a o e => keep3 a o (fun z => by
    rw [z, hnx] at e
    cases e) (X1 a o e)
  refine ks_wpAt_execs_cons (ks_wpAt_Assign_Attr ?_)
  refine wpAt_of_wpAny (wpAny_Name (wpAny_loadName_local rfl rfl hns3 rfl ?_))
  refine wpAny_Name (wpAny_loadName_local rfl rfl hns3 rfl ?_)
  refine PySem.W.set_plain X3 (ox := excO C _) (od := none) ⟨hx3, rfl, rfl, trivial⟩ T.sa ?_
  refine exc_osa X3 hx3 hcl (show refsVE (.ref C :: bm) = true from hbm) rfl T.nv (fun h4 tk4 dx k5 dn dne hx4 hn4 => ?_)
  refine wpAt_of_wpAny (wpAny_pure ?_)
  refine hq h4 tk4 dx _ ⟨fun b o hb e => k5 b o hb (keep3 b o hb (hk b o e)), hx4, Nat.le_trans (Nat.le_of_lt hns3.lt) dn, dne, hn4⟩
end
end Lx
namespace Lx
open PySem PySem.HandSPX
/-- a made error, at e, its own dict at d -/
structure ErrMade (h h' : Heap) (e C d : Addr) (v : Value) : Prop where
  keep : ∀ b o, h.get? b = some o → h'.get? b = some o
  ebig : h.objs.size ≤ e
  obj : ∃ t1 : Addr, h'.get? e = some { cls := .ref C, dict := some d, data := .fields #[.ref t1, .none, .none, .none, .bool false, .none] }
  dbig : h.objs.size ≤ d
  ne : d ≠ e
  ns : h'.Ns1 d (fun y => if y = "value" then some v else none)
section
variable {prog : Program} {w : World} {A : Around} {R : Result → Shared → Prop} {s : Shared}
variable {K : PySem.W.Frag} {mg mb : Str → Option Value} {nm qual : Str} {st : Stmt} {C L : Addr}
theorem errMade (TL : LineC K mg L) (T : ErrC K prog.main.file mg L nm qual st C) {v : Value} {ps : List Value} {kw : List (Str × Value)} (hv : Hands v ps kw) (htop : (prog.main.scope.names.lookup ("super" : Str)).isSome = false)
    (X : K.In s.heap) (G : s.heap.Ns mainGlobals mg) (gs : mg "super" = none) (B : s.heap.Ns builtinsNs mb) (bs : mb "super" = some (.type "super")) (hlim : s.heap.NoLimit) (hroom : A.depth + 1 < recursionLimit)
    (hq : ∀ h' tk e d, ErrMade s.heap h' e C d v → R (.ok (.ret (.ref e))) { s with heap := h', toks := tk }) : codeAny (model prog w) A (.call (.ref C) ⟨ps, kw⟩) R s := by
  obtain ⟨n, q, N, bss, sn, sub, ab, col, dd, k0, k1, k2, k3, k5, hC⟩ := T.cls
  obtain ⟨fI, iC, tI, _⟩ := T.init
  obtain ⟨hp, g, dr, tk, os⟩ := s
  have kp : ∀ b o, hp.get? b = some o → ((hp.push (W.kdv_tup ps)).push (excO C hp.objs.size)).get? b = some o := fun b o e => Heap.get?_push_of_some _ (Heap.get?_push_of_some _ e)
  have hget : ((hp.push (W.kdv_tup ps)).push (excO C hp.objs.size)).get? (hp.objs.size + 1) = some (excO C hp.objs.size) := by heap_get
  have hnx : K.lookup (hp.objs.size + 1) = none := by
    cases e : K.lookup (hp.objs.size + 1) with
    | none => rfl
    | some o =>
      have z : hp.get? (hp.objs.size + 1) = some o := X _ _ e
      exact absurd (Nat.lt_of_succ_lt (Heap.lt_size z)) (Nat.lt_irrefl _)
  have hl : ps.length ≤ sizeLine := by
    cases hv with
    | pos => rw [sizeLine_eq]; exact (by decide : 1 ≤ 16777216)
    | kw => exact Nat.zero_le _
  refine clsCalls F.excBase_ValueError (fun Y => refsVE_contains Y (.ref L :: HandSPX.veTail) (by rfl)) (X _ _ hC) (W.looks_findIn X iC) (fun self => W.bind_fn X self tI) hl ?_
  refine initRuns (s := ⟨(hp.push (W.kdv_tup ps)).push (excO C hp.objs.size), g, dr, tk, os⟩) TL T hv htop iC (X.keeps kp) ?_ gs ?_ bs (hlim.keeps kp) hnx hget ?_ fun h' tk' dx t1 I => ?_
  · obtain ⟨o, es, ep, e, r⟩ := G
    exact ⟨o, es, ep, kp _ _ e, r⟩
  · obtain ⟨o, es, ep, e, r⟩ := B
    exact ⟨o, es, ep, kp _ _ e, r⟩
  · show A.depth + 1 < recursionLimit
    exact hroom
  · have z : hp.objs.size + 1 + 1 ≤ dx := by
      first
        | (simpa only [Heap.size_push] using I.big)
        | (have q := I.big; rw [Heap.size_push, Heap.size_push] at q; exact q)
    refine ⟨rfl, hq h' tk' (hp.objs.size + 1) dx ⟨fun b o e => I.keep b o (Nat.ne_of_lt (Nat.lt_succ_of_lt (Heap.lt_size e))) (kp b o e), Nat.le_succ _, ⟨t1, I.obj⟩, (show hp.objs.size ≤ dx by omega), I.ne, I.ns⟩⟩
end
end Lx
namespace Lx
open PySem PySem.Spec L2
/-- at e: an error of the class at C, its own dict at d -/
def errO (e C d : Addr) : HO := .ext fun h => ∃ t1 : Addr, h.get? e = some ({ cls := .ref C, dict := some d, data := .fields #[.ref t1, .none, .none, .none, .bool false, .none] } : Obj)
theorem errO_ok {P : Program} {w : World} {H : Hp} {h : Heap} {e C d t1 : Addr} (he : h.get? e = some ({ cls := .ref C, dict := some d, data := .fields #[.ref t1, .none, .none, .none, .bool false, .none] } : Obj)) : ObjOk P w H h e (errO e C d) :=
  ⟨⟨t1, he⟩, ⟨_, he⟩, fun _ _ ⟨t, q⟩ k => ⟨t, k _ q⟩⟩
theorem errO_at {P : Program} {w : World} {H : Hp} {h : Heap} {e C d : Addr} (hok : HOk P w H h) (he : H e = some (errO e C d)) : ∃ t1 : Addr, h.get? e = some ({ cls := .ref C, dict := some d, data := .fields #[.ref t1, .none, .none, .none, .bool false, .none] } : Obj) := by
  have x : ObjOk P w H h e (.ext fun h => ∃ t1 : Addr, h.get? e = some ({ cls := .ref C, dict := some d, data := .fields #[.ref t1, .none, .none, .none, .bool false, .none] } : Obj)) := hok e _ he
  exact x.1
/-- the fields of a made error -/
abbrev vf (v : V) : List (Str × V) := [(("value" : Str), v)]
theorem relO_vf {v : V} {u : Value} (r : RelV v u) (f : Str) : RelO (List.lookup f (vf v)) (if f = "value" then some u else none) := by
  by_cases hw : f = "value"
  · subst hw
    rw [if_pos rfl]
    have q : List.lookup ("value" : Str) (vf v) = some v := by simp [List.lookup]
    rw [q]
    exact r
  · rw [if_neg hw]
    have qw : (f == ("value" : Str)) = false := by simpa using hw
    have q2 : List.lookup f (vf v) = none := by simp [List.lookup, qw]
    rw [q2]
    trivial
section
variable {X : Cx} {pins : List (Addr × Obj)} {σ : St} {H : Hp} {s : Shared}
/-- two new objects laid at once -/
theorem laid2 {h' : Heap} {d e : Addr} {o1 o2 : HO} {t' : Nat} (I : Inv X pins σ H s) (k : ∀ b u, s.heap.get? b = some u → h'.get? b = some u) (hd : s.heap.objs.size ≤ d) (he : s.heap.objs.size ≤ e)
    (ok1 : ObjOk X.prog X.w (upd (upd H d o1) e o2) h' d o1) (ok2 : ObjOk X.prog X.w (upd (upd H d o1) e o2) h' e o2) : Inv X pins σ (upd (upd H d o1) e o2) { s with heap := h', toks := t' } := by
  have nd : H d = none := I.hok.fresh hd
  have ne : H e = none := I.hok.fresh he
  have old : ∀ b o, H b = some o → upd (upd H d o1) e o2 b = some o := fun b o q => by
    rw [upd_ne (ne_of_none q ne), upd_ne (ne_of_none q nd)]
    exact q
  have lt : ∀ (b : Addr) (o : Obj), s.heap.get? b = some o → b ≠ d ∧ b ≠ e := fun b o q => ⟨Nat.ne_of_lt (Nat.lt_of_lt_of_le (Heap.lt_size q) hd), Nat.ne_of_lt (Nat.lt_of_lt_of_le (Heap.lt_size q) he)⟩
  refine I.un (t' := t') ⟨fun b o q _ _ _ => k b o q, fun b o q _ _ _ => ⟨o.slots, k b o q⟩, fun b o q n _ => ?_, fun b o q _ => ⟨o, k b o q⟩, fun b xs q => old _ _ q, fun b o u q => old _ _ q, fun b ps q => ⟨#[], by rw [old _ _ q]; simp⟩⟩ fun b o q => ?_
  · rw [upd_ne (lt b o q).2, upd_ne (lt b o q).1]
    exact n
  · by_cases h1 : b = e
    · subst h1
      rw [upd_same] at q
      cases q
      exact ok2
    · rw [upd_ne h1] at q
      by_cases h2 : b = d
      · subst h2
        rw [upd_same] at q
        cases q
        exact ok1
      · rw [upd_ne h2] at q
        exact (I.hok b o q).stay (fun c v _ z => k c v z) (fun c z => old _ _ z) fun c xs z => old _ _ z
end
/-- C(e), C(value=e): a new error and its dict -/
def tErr (C : Addr) (ta : TE) : TE := fun σ H Q => ta σ H fun v H1 => ∀ d e : Addr, H1 d = none → H1 e = none → d ≠ e → Q (.ref e) (upd (upd H1 d (.xd (vf v))) e (errO e C d))
/-- raise C(e) -/
def tErrR (C : Addr) (ta : TE) : St → Hp → XK → Prop := fun σ H Q => ta σ H fun v H1 => ∀ d : Addr, H1 d = none → Q (.ref C) (some d) (upd H1 d (.xd (vf v)))
section
variable {X : Cx} {C L : Addr} {nm qual : Str} {st : Stmt} {a : Expr} {ta : TE} {p pos kpos : Pos} {k : Nat}
theorem callErr {pins : List (Addr × Obj)} {σ : St} {H : Hp} {s : Shared} {R : Value → Shared → Prop} {E : Value → Shared → Prop} (TL : LineC X.K X.mg L) (T : ErrC X.K X.prog.main.file X.mg L nm qual st C) (hr : Room k X.A) (htop : (X.prog.main.scope.names.lookup ("super" : Str)).isSome = false) (gs : X.mg "super" = none)
    {v : Value} {ps : List Value} {kw : List (Str × Value)} (hv : Hands v ps kw) (I : Inv X pins σ H s)
    (hq : ∀ h' tk e d, ErrMade s.heap h' e C d v → R (.ref e) { s with heap := h', toks := tk }) : wpAny (model X.prog X.w) X.A (call (.ref C) ps kw) R E s := by
  obtain ⟨mb, hB, hb⟩ := I.mod.blt
  refine wpAny_call (errMade TL T hv htop I.kIn (I.mod.glob.keeps I.bk) gs (hB.keeps I.bk) ((hb _ (by decide)).trans (by decide +kernel)) I.nolimit (by have := hr.dp; omega) fun h' tk e d M => hq h' tk e d M)
theorem errEP {pins : List (Addr × Obj)} {σ : St} {H : Hp} {s : Shared} {h' : Heap} {tk : Nat} {e d : Addr} {v : V} {u : Value} {Q : VK} (I : Inv X pins σ H s) (r : RelV v u) (M : ErrMade s.heap h' e C d u)
    (q : ∀ d e : Addr, H d = none → H e = none → d ≠ e → Q (.ref e) (upd (upd H d (.xd (vf v))) e (errO e C d))) : EP X pins σ Q (.ref e) { s with heap := h', toks := tk } := by
  obtain ⟨t1, ho⟩ := M.obj
  exact ⟨.ref e, _, laid2 (o1 := .xd (vf v)) (o2 := errO e C d) I M.keep M.dbig M.ebig ⟨_, M.ns, fun f => relO_vf r f⟩ (errO_ok ho), rfl, q d e (I.hok.fresh M.dbig) (I.hok.fresh M.ebig) M.ne⟩
/-- C(e) as a value -/
theorem pe_err (TL : LineC X.K X.mg L) (T : ErrC X.K X.prog.main.file X.mg L nm qual st C) (hr : Room k X.A) (htop : (X.prog.main.scope.names.lookup ("super" : Str)).isSome = false) (gs : X.mg "super" = none) (hg : Gl X nm) (he : PE X a ta) (hdb : (nm == ("__debug__" : Str)) = false := by decide)
    (hs : starEach [a] X.env = (false, eval a X.env) :: starEach [] X.env := by rfl) (hpl : (backTo pos (starEach [] X.env)).any (·.1) = false := by rfl) : PE X (.Call (.Name nm p) [a] [] pos) (tErr C ta) := by
  refine ⟨fun pins s σ H Q I h => ?_⟩
  refine wpAny_Call_Name_kw (ld_glob I hg T.gC ?_ hdb)
  refine PySem.W.callWith_K (h₀ := X.base) I.ok.mod.kin T.kp ?_ hs hpl
  rw [hs]
  show wpAny _ _ (spliced ((false, eval a X.env) :: backTo pos (starEach [] X.env))) _ _ s
  refine Calls.spliced_cons (thn (he.run pins s σ H _ I h) fun u s1 ⟨v, H1, I1, r1, q1⟩ => ?_)
  refine Calls.spliced_nil ⟨I1.kIn, ?_⟩
  show wpAny _ _ (call (.ref C) [u]) _ _ _
  exact callErr TL T hr htop gs .pos I1 fun h' tk e d M => errEP I1 r1 M q1
/-- C(value=e) as a value -/
theorem pe_errK (TL : LineC X.K X.mg L) (T : ErrC X.K X.prog.main.file X.mg L nm qual st C) (hr : Room k X.A) (htop : (X.prog.main.scope.names.lookup ("super" : Str)).isSome = false) (gs : X.mg "super" = none) (hg : Gl X nm) (he : PE X a ta) (hdb : (nm == ("__debug__" : Str)) = false := by decide)
    (hall : (backToKw pos (keywordEach [⟨some "value", a, kpos⟩] X.env)).all (·.1.isSome) = true := by rfl) (hks : (backToKw pos (keywordEach [⟨some "value", a, kpos⟩] X.env)).filterMap (·.1) = [("value" : Str)] := by rfl)
    (hpl : ((backTo pos (starEach [] X.env)).any (·.1) || (backToKw pos (keywordEach [⟨some "value", a, kpos⟩] X.env)).any (·.1.isNone)) = false := by rfl) : PE X (.Call (.Name nm p) [] [⟨some "value", a, kpos⟩] pos) (tErr C ta) := by
  refine ⟨fun pins s σ H Q I h => ?_⟩
  refine wpAny_Call_Name_kw (ld_glob I hg T.gC ?_ hdb)
  refine PySem.W.callWith_KW0 (h₀ := X.base) I.ok.mod.kin T.kp hall ?_ hpl
  refine thn ((pk_cons he pk_nil).run pos pins s σ H (fun vs H1 => match vs with | [v] => ∀ d e : Addr, H1 d = none → H1 e = none → d ≠ e → Q (.ref e) (upd (upd H1 d (.xd (vf v))) e (errO e C d)) | _ => False) I h) fun us s1 ⟨vs, H1, I1, r1, q1⟩ => ⟨I1.kIn, ?_⟩
  rw [hks]
  cases r1 with
  | nil => exact q1.elim
  | cons rv rn =>
    cases rn with
    | nil => exact callErr TL T hr htop gs .kw I1 fun h' tk e d M => errEP I1 rv M q1
    | cons _ _ => exact q1.elim
/-- raise C(e): what makes the error -/
theorem pmk_err (TL : LineC X.K X.mg L) (T : ErrC X.K X.prog.main.file X.mg L nm qual st C) (hr : Room k X.A) (htop : (X.prog.main.scope.names.lookup ("super" : Str)).isSome = false) (gs : X.mg "super" = none) (hg : Gl X nm) (he : PE X a ta) (hdb : (nm == ("__debug__" : Str)) = false := by decide)
    (hs : starEach [a] X.env = (false, eval a X.env) :: starEach [] X.env := by rfl) (hpl : (backTo pos (starEach [] X.env)).any (·.1) = false := by rfl) : PMk X (.Call (.Name nm p) [a] [] pos) (tErrR C ta) := by
  intro pins s σ H Q I h
  refine wpAny_Call_Name_kw (ld_glob I hg T.gC ?_ hdb)
  refine PySem.W.callWith_K (h₀ := X.base) I.ok.mod.kin T.kp ?_ hs hpl
  rw [hs]
  show wpAny _ _ (spliced ((false, eval a X.env) :: backTo pos (starEach [] X.env))) _ _ s
  refine Calls.spliced_cons (thn (he.run pins s σ H _ I h) fun u s1 ⟨v, H1, I1, r1, q1⟩ => ?_)
  refine Calls.spliced_nil ⟨I1.kIn, ?_⟩
  show wpAny _ _ (call (.ref C) [u]) _ _ _
  refine callErr TL T hr htop gs .pos I1 fun h' tk e d M => ?_
  obtain ⟨t1, hoe⟩ := M.obj
  have hns := M.ns
  obtain ⟨G', g1, g2⟩ := restrict h' fun b => decide (b ≠ e)
  have gk : ∀ b, b ≠ e → G'.get? b = h'.get? b := fun b hb => g1 b (decide_eq_true hb)
  have ge : G'.get? e = none := g2 e (by simp)
  have old : ∀ b o, s1.heap.get? b = some o → G'.get? b = some o := fun b o q => (gk b (Nat.ne_of_lt (Nat.lt_of_lt_of_le (Heap.lt_size q) M.ebig))).trans (M.keep b o q)
  have ob : ObjOk X.prog X.w (upd H1 d (.xd (vf v))) G' d (.xd (vf v)) := ⟨_, hns.at (fun o q => (gk d M.ne).trans q), fun f => relO_vf r1 f⟩
  have J : Inv X pins σ (upd H1 d (.xd (vf v))) { s1 with heap := G', toks := tk } := I1.laid (t' := tk) old M.dbig ob
  have r : Raises X (.ref C) := raises_own ((T.under _).trans (by rfl)) T.ty
  refine ⟨e, _, _, { s1 with heap := G', toks := tk }, _, .ref C, some d, rfl, J, fun b o q => ?_, ge, hoe, ⟨rfl, rfl⟩, rfl, rfl, ?_, rfl, I1.bare, r, q1 d (I1.hok.fresh M.dbig)⟩
  · by_cases hb : b = e
    · have q' : G'.get? b = some o := q
      rw [hb, ge] at q'
      cases q'
    · exact (gk b hb).symm.trans q
  · rw [upd_ne (Ne.symm M.ne)]
    exact I1.hok.fresh M.ebig
/-- the error's class is asked for -/
theorem kitErr (TL : LineC X.K X.mg L) (T : ErrC X.K X.prog.main.file X.mg L nm qual st C) {x : Addr} {ox : Obj} {od : Option Obj} : PySem.W.KitX X.K (.ref x) (.ref C) (fun h => PySem.W.InstAt h x ox C od) := by
  obtain ⟨cd, e1, e2, e3⟩ := T.chain
  exact PySem.W.kitx_exc (by rw [e1]; rfl) T.ga T.gg ((T.under _).trans (by rfl)) T.ca TL.sp TL.tk ((T.under _).trans (by rfl))
/-- isinstance(e, c), e a made error, c a class of the program (at D) or a built-in one -/
def rIsErr (K : PySem.W.Frag) : List V → Hp → VK → Prop := fun xs H Q => ∃ (e C d : Addr) (v : V) (c : V) (u : Value) (b : Bool), xs = [.ref e, c] ∧ H e = some (errO e C d) ∧ H d = some (.xd (vf v)) ∧ ClsV c u ∧ PySem.W.kitOne K (.ref C) u = some b ∧
  (∃ (file : Str) (mg : Str → Option Value) (L : Addr) (nm qual : Str) (st : Stmt), LineC K mg L ∧ ErrC K file mg L nm qual st C) ∧ Q (.bl b) H
theorem call_isErr : CallR X (.builtin "isinstance") (rIsErr X.K) := by
  intro pins s σ H xs us Q I r h
  obtain ⟨e, C', d, v, c, u, b, rfl, he, hd, hc, hk, ⟨file, mg, L', nm', qual', st', TL, T⟩, q⟩ := h
  obtain ⟨u1, u2, rfl, r1, r2⟩ := vals2 r
  obtain rfl : u1 = Value.ref e := r1
  have e2 := hc.eq r2
  subst e2
  obtain ⟨t1, ho⟩ := errO_at I.hok he
  obtain ⟨mA, hns, _⟩ := (show ∃ mA, s.heap.Ns1 d mA ∧ ∀ f, RelO ((vf v).lookup f) (mA f) from I.hok d _ hd)
  obtain ⟨od, hod, _⟩ := lookIn_ns hns
  obtain ⟨cd, q1, q2, q3⟩ := T.chain
  have Z : PySem.W.KitX X.K (.ref e) (.ref C') (fun h => PySem.W.InstAt h e { cls := .ref C', dict := some d, data := .fields #[.ref t1, .none, .none, .none, .bool false, .none] } C' (some od)) :=
    PySem.W.kitx_exc (by rw [q1]; rfl) T.ga T.gg ((T.under _).trans (by rfl)) T.ca TL.sp TL.tk ((T.under _).trans (by rfl))
  exact PySem.W.kia_one Z I.kIn ⟨ho, rfl, rfl, hod⟩ hk (fun z => nomatch z) fun tk => ⟨.bl b, H, I.tok tk, rfl, q⟩
/-- e.value, e a made error -/
def tErrV (K : PySem.W.Frag) (te : TE) : TE := fun σ H Q => te σ H fun x H1 => ∃ (e C d : Addr) (v : V), x = .ref e ∧ H1 e = some (errO e C d) ∧ H1 d = some (.xd (vf v)) ∧
  (∃ (file : Str) (mg : Str → Option Value) (L : Addr) (nm qual : Str) (st : Stmt), LineC K mg L ∧ ErrC K file mg L nm qual st C) ∧ Q v H1
theorem pe_errV {e : Expr} {te : TE} (he : PE X e te) (hb : attributeBase e "value" X.env (eval e X.env) = eval e X.env := by rfl) : PE X (.Attribute e "value" pos) (tErrV X.K te) := by
  refine ⟨fun pins s σ H Q I h => ?_⟩
  refine attr_of hb (thn (he.run pins s σ H _ I h) fun u s1 hh => ?_)
  obtain ⟨x, H1, I1, rx, e', C', d, v, ex, hoe, hd, ⟨file, mg, L', nm', qual', st', TL, T⟩, q⟩ := hh
  subst ex
  obtain rfl : u = Value.ref e' := rx
  obtain ⟨t1, ho⟩ := errO_at I1.hok hoe
  obtain ⟨mA, hns, hr⟩ := (show ∃ mA, s1.heap.Ns1 d mA ∧ ∀ f, RelO ((vf v).lookup f) (mA f) from I1.hok d _ hd)
  obtain ⟨od, hod, hl⟩ := lookIn_ns hns
  have l : List.lookup ("value" : Str) (vf v) = some v := by simp [List.lookup]
  obtain ⟨u, hu, ru⟩ := RelO.some_of (v := v) (o := mA "value") (by rw [← l]; exact hr "value")
  have J : PySem.W.InstAt s1.heap e' { cls := .ref C', dict := some d, data := .fields #[.ref t1, .none, .none, .none, .bool false, .none] } C' (some od) := ⟨ho, rfl, rfl, hod⟩
  obtain ⟨cd, q1, q2, q3⟩ := T.chain
  have hdict : PySem.W.hasDictIn X.K C' = true := by
    unfold PySem.W.hasDictIn
    rw [q1]
    simpa using q3
  exact HandSPX.exc_get I1.kIn J T.ga T.gg ((T.under _).trans (by rfl)) (PySem.W.findObj_own hdict T.nv rfl (by rw [hl, hu])) (handed_of ru) ⟨v, H1, I1.tok _, ru, q⟩
end
end Lx
namespace Lx
open PySem PySem.Spec L2 PyProof.Rows
/-! ### min of a tuple of ints -/
section
variable {prog : Program} {w : World} {A : Around} {E : Value → Shared → Prop} {s : Shared} {l : Addr}
variable {its : List Value} {ns : List Int} {Q : Value → Shared → Prop}
theorem min_rawT (hh : A.handled = none) (hl : s.heap.IsTuple l its.toArray) (hi : IntsAre its ns) (hne : 0 < ns.length)
    (h : ∀ h' tk M t', (∀ b o, s.heap.get? b = some o → h'.get? b = some o) → M ∈ ns → (∀ a, a ∈ ns → M ≤ a) → Q (.int M t') { s with heap := h', toks := tk }) : wpAny (model prog w) A (call (.builtin "min") [.ref l]) Q E s := by
  obtain ⟨xs, e⟩ := hi.allInts.items
  have hn : numsOf (intItems xs).toList = ns := by rw [← e]; exact hi.numsOf
  rw [nums_intItems] at hn
  subst hn
  rw [e] at hl
  have hsz : 0 < xs.size := by simpa using hne
  have hlt : l < s.heap.objs.size := by obtain ⟨_, e, _⟩ := hl; exact Heap.lt_size e
  refine call_min_walk (wpAny_pyIter_tuple hl ?_)
  refine ⟨_, _, _, _, _, _, _, rfl, Walks.tuple (A := A.in1) hh _ l (Nat.ne_of_lt hlt) (intItems xs), ⟨⟨_, Heap.get?_push_size _ rfl, rfl, rfl⟩, hl.at fun o e => Heap.get?_push_of_some _ e⟩, fun b hb => ?_, by simpa [intItems] using hsz, CmpOf.ints_lt (numAt xs) (fun _ _ => intItems_at), fun v h' tk hP hk => ?_⟩
  · show b < (s.heap.push _).objs.size
    rw [Heap.size_push]
    rcases List.mem_cons.mp hb with rfl | hb
    · exact Nat.lt_succ_self _
    · rcases List.mem_cons.mp hb with rfl | hb
      · exact Nat.lt_succ_of_lt hlt
      · cases hb
  · obtain ⟨t, rfl⟩ := intItems_at hP
    obtain ⟨h1, h2⟩ := argBest_lt (numAt xs) (xs.size - 1)
    have hz : (intItems xs).size = xs.size := by simp [intItems]
    refine h h' tk _ t (fun b o e => hk b o (fun hm => Nat.lt_irrefl _ ((List.mem_singleton.mp hm) ▸ Heap.lt_size e)) (Heap.get?_push_of_some _ e)) ?_ fun a ha => ?_
    · rw [numAt_eq]; exact PySem.getD_mem (by rw [List.length_map, Array.length_toList, hz]; omega)
    · obtain ⟨j, hj, rfl⟩ := mem_getD ha
      rw [List.length_map, Array.length_toList] at hj
      rw [← numAt_eq, hz]; exact h2 j (by omega)
end
def rMinT (K : PySem.W.Frag) : List V → Hp → VK → Prop := fun vs H Q => ∃ (a : Addr) (ns : List Int), vs = [V.ref a] ∧ SqT K H a (ns.map V.int) ∧ 0 < ns.length ∧ ∀ m, m ∈ ns → (∀ y, y ∈ ns → m ≤ y) → Q (.int m) H
theorem call_minT {X : Cx} (hc : X.calm = true) : CallR X (.builtin "min") (rMinT X.K) := by
  intro pins s σ H vs us Q I r h
  obtain ⟨a, ns, rfl, hs, hne, q⟩ := h
  obtain ⟨its, rv, hl, _⟩ := I.tuple hs
  rw [Vals.ref1 r]
  exact min_rawT (I.ok.hd hc) (by obtain ⟨o, h1, h2, n, h3⟩ := hl; exact ⟨o, h1, h2, n, h3⟩) rv.ints hne fun h' tk m t' hk h1 h2 => ⟨.int _, H, I.kept hk, ⟨_, rfl⟩, q m h1 h2⟩
/-! ### get of a written dict -/
def tKGet (K : PySem.W.Frag) (w : World) (td ty : TE) : TE := fun σ H Q => td σ H fun x H1 => ∃ a es n, x = .ref a ∧ KDict K w a es n ∧ ty σ H1 fun y H2 => ∃ (z : Str) (r : Option Value) (v : V), y = .str z ∧ PySem.W.nsIn K a z = some r ∧ RelV v (r.getD .none) ∧ Q v H2
theorem pe_kget {X : Cx} {o e : Expr} {apos cpos : Pos} {td ty : TE} (ho : PE X o td) (he : PE X e ty) (m : M1 X o "get" apos e cpos) : PE X (.Call (.Attribute o "get" apos) [e] [] cpos) (tKGet X.K X.w td ty) := by
  refine ⟨fun pins s σ H Q I h => ?_⟩
  refine wpAny_Call_method m.base m.few m.line PySem.F.plainAttrs_dict PySem.F.slot_dict_get PySem.F.type_dict_get (thn (ho.run pins s σ H _ I h) fun u s1 ⟨x, H1, I1, rx, a, es, n, ex, D, q1⟩ => ?_)
  subst ex
  obtain rfl : u = Value.ref a := rx
  have hm1 := PySem.W.mapOf_K (prog := X.prog) (w := X.w) I1.kIn D.at_ D.lit
  refine ⟨hm1.typeIs, fun b q => ?_, ?_⟩
  · cases q
    exact ⟨_, I1.kIn _ _ D.at_, rfl⟩
  rw [m.trees]
  refine Calls.callWith_builtin rfl (Calls.evalArgs_plain (Calls.spliced_cons (thn (he.run pins s1 σ H1 _ I1 q1) fun iv s2 ⟨y, H2, I2, ry, z, r, v, ey, e, rv, q2⟩ => Calls.spliced_nil ?_)))
  subst ey
  obtain ⟨t, rfl⟩ := ry
  have hm2 := PySem.W.mapOf_K (prog := X.prog) (w := X.w) I2.kIn D.at_ D.lit
  refine call_meetsIn PySem.F.slot_dict_get hm2.typeIs PySem.F.entry_dict_get (PySem.F.args_dict_get_2 _ _) (meets_dict_get (strKind X.prog X.w) a (strKind_is X.prog X.w z t) D.low) ⟨_, hm2, ?_⟩
  rw [PySem.W.find_K D.at_ e]
  exact ⟨v, H2, I2.tok _, rv, q2⟩
end Lx
namespace Lx
open PySem PySem.Spec L2
/-! ### enumerate(text) -/
/-- each sign of x with its place, in a new pair -/
def Itx (x : Str) : It :=
  ⟨fun i _ => i < x.cps.size, fun i H v H' => ∃ T c, v = .ref T ∧ H T = none ∧ H' = upd H T (.tup [.int (i : Nat), .str ⟨#[c]⟩]) ∧ x.cps[i]? = some c, fun i _ => x.cps.size ≤ i⟩
theorem turn_enumS {P : Program} {w : World} {K : PySem.W.Frag} {elts : List Expr} {kk : Nat} {tpos : Pos} (x : Str) (t : Tok) (e it : Addr) :
    Turn P w K (.Tuple elts kk tpos) (Itx x) [e, it] e (fun i h => (∃ old, IsEnum h e it ((i : Nat) : Int) old) ∧ h.IsStrIter it (strIterType x) x t i ∧ e ≠ it ∧ i ≤ x.cps.size) where
  mem := by simp
  obj := fun i h st b hb => by
    obtain ⟨⟨old, he⟩, ⟨o, ho, hc, hd⟩, _, _⟩ := st
    have e' : b = e ∨ b = it := by simpa using hb
    rcases e' with z | z
    · rw [z]; exact ⟨_, he, fun v q => nomatch q⟩
    · rw [z]; exact ⟨o, ho, fun v q => by rw [hd] at q; cases q⟩
  keep := fun i h h' st k => by
    obtain ⟨⟨old, he⟩, ⟨o, ho, r⟩, hne, hle⟩ := st
    exact ⟨⟨old, k e (by simp) _ he⟩, ⟨o, k it (by simp) o ho, r⟩, hne, hle⟩
  item := by
    intro X hP hw hK hc i pins s σ H E I hf st hg
    subst hP hw hK
    obtain ⟨⟨old, he⟩, hit, hne, hle⟩ := st
    have hlt : i < x.cps.size := hg
    have hel : e < s.heap.objs.size := Heap.lt_size he
    have hil : it < s.heap.objs.size := by obtain ⟨_, q, _⟩ := hit; exact Heap.lt_size q
    refine wpAny_pyNext_enum_itemD (Draws.text (A := X.A.in1) (I.ok.hd hc) it x t) he hit hlt hne (by simpa using hne) fun u h' tk hP ho hit' hT hsz hk => ?_
    obtain ⟨c, tc, hcx, rfl⟩ := hP
    refine ⟨_, rfl, wpAny_letOwnedTupleGo_enum (s := { s with heap := h', toks := tk + 1 }) ho fun h'' he' sb => ?_⟩
    have hT2 : h''.get? s.heap.objs.size = some { cls := .type "tuple", data := .seq #[.int i tk, .str ⟨#[c]⟩ tc] } := (sb.2 _ (Nat.ne_of_gt hel)).trans hT
    have new : ObjOk X.prog X.w (upd H s.heap.objs.size (.tup [.int (i : Nat), .str ⟨#[c]⟩])) h'' s.heap.objs.size (.tup [.int (i : Nat), .str ⟨#[c]⟩]) :=
      ⟨by show 2 ≤ sizeLine; decide, [.int i tk, .str ⟨#[c]⟩ tc], .cons ⟨_, rfl⟩ (.cons ⟨_, rfl⟩ .nil), ⟨_, hT2, rfl, _, rfl⟩⟩
    have I1 : Inv X pins σ (upd H s.heap.objs.size (.tup [.int (i : Nat), .str ⟨#[c]⟩])) { s with heap := h'', toks := tk + 1 } :=
      I.turnedNew (ch := [e, it]) (fun b ob hb q => (sb.2 b (fun z => hb (by simp [z]))).trans (hk b ob (fun z => hb (by simp [z])) (fun z => hb (by simp [z])) q)) hf (Nat.le_refl _) new
    refine ⟨.ref s.heap.objs.size, _, I1, rfl, ⟨_, c, rfl, I.hok.fresh (Nat.le_refl _), rfl, hcx⟩, ⟨⟨.str ⟨#[c]⟩ tc, ?_⟩, ?_, hne, hlt⟩, fun b hb => ?_⟩
    · have e1 : ((i + 1 : Nat) : Int) = (i : Int) + 1 := by omega
      rw [e1]; exact he'
    · obtain ⟨o, ho2, r⟩ := hit'
      exact ⟨o, (sb.2 it (Ne.symm hne)).trans ho2, r⟩
    · have hb' : b < s.heap.objs.size := by
        have e' : b = e ∨ b = it := by simpa using hb
        rcases e' with z | z
        · rw [z]; exact hel
        · rw [z]; exact hil
      rw [upd_ne (Nat.ne_of_lt hb')]
      exact (hf b hb).1
  done := by
    intro X hP hw hK hc i pins s σ H E I hf st hg
    subst hP hw hK
    obtain ⟨⟨old, he⟩, hit, hne, hle⟩ := st
    obtain ⟨f0, f1, f2, f3, f4, f5⟩ := hf it (by simp)
    have e1 : i = x.cps.size := Nat.le_antisymm hle hg
    subst e1
    exact wpAny_pyNext_enum_endD (Draws.text (A := X.A.in1) (I.ok.hd hc) it x t) he hit fun h' eb => ⟨rfl, I.turned (t' := s.toks) (fun b o hb q => eb b o hb q) f0 f1 f3 f4 f5⟩
  self := fun A i s Q E st h => let ⟨⟨_, he⟩, _⟩ := st; PySem.wpAny_pyIter_enum he h
def iEnumS (ta : TA) : TI := fun σ H R => ta σ H fun vs H1 => ∃ x, vs = [.str x] ∧ R (Itx x) H1
theorem pi_enumS {X : Cx} {e : Expr} {ta : TA} {p pos tpos : Pos} {elts : List Expr} {kk : Nat} (hg : Gl X "enumerate") (hm : X.mg "enumerate" = none) (ha : PA X [e] ta) (hs : starEach [e] X.env = [(false, eval e X.env)] := by rfl) :
    PI X (.Tuple elts kk tpos) (.Call (.Name "enumerate" p) [e] [] pos) (iEnumS ta) := by
  refine ⟨fun pins s σ H R I h => ?_⟩
  refine PyProof.Rows.Call_ (ld_blt I hg hm PyProof.Rows.boot_enumerate (PyProof.Rows.callWith_type1 (thn (ha.run pos pins s σ H _ I h) fun us s1 ⟨vs, H1, I1, r1, q1⟩ => ?_) hs rfl))
  obtain ⟨x, ex, q⟩ := q1
  subst ex
  cases r1 with
  | cons r rr =>
    cases rr
    obtain ⟨t, rfl⟩ := r
    refine call_enumerate_str fun h' he hit hsz hk => PySem.wpAny_pyIter_enum he ?_
    have I2 : Inv X pins σ H1 { s1 with heap := h' } := I1.kept (t' := s1.toks) hk
    refine ⟨s1.heap.objs.size + 1, [s1.heap.objs.size + 1, s1.heap.objs.size], _, _, H1, rfl, I2, turn_enumS x t (s1.heap.objs.size + 1) s1.heap.objs.size, ⟨⟨.none, he⟩, hit, Nat.succ_ne_self _, Nat.zero_le _⟩, fun b hb => ?_, q⟩
    have e' : b = s1.heap.objs.size + 1 ∨ b = s1.heap.objs.size := by simpa using hb
    have hle : s1.heap.objs.size ≤ b := by
      rcases e' with z | z
      · rw [z]; exact Nat.le_add_right _ _
      · rw [z]; exact Nat.le_refl _
    exact I1.fpOk hle (I1.hok.fresh hle)
theorem walk_enumS {z : Str} : Walk (Itx z) z.cps.size (fun _ => True) (YPair (fun i => some (.int (i : Nat))) (fun i => z.cps[i]?.map fun c => V.str ⟨#[c]⟩)) :=
  ⟨fun _ _ hi _ => hi, fun _ _ => Nat.le_refl _, fun i H v H' _ _ y => by
    obtain ⟨T, c, h1, h2, h3, h4⟩ := y
    exact ⟨T, .int (i : Nat), .str ⟨#[c]⟩, h1, h2, h3, rfl, by simp [h4]⟩⟩
end Lx
namespace Lx
open PySem PySem.Spec L2
/-! ### sizes of numbers -/
def Sm (n : Nat) (x : Int) : Prop := x.natAbs < 2 ^ n
theorem Sm.mono {n m : Nat} {x : Int} (h : Sm n x) (k : n ≤ m) : Sm m x := Nat.lt_of_lt_of_le h (Nat.pow_le_pow_right (by decide) k)
theorem Sm.add {n : Nat} {x y : Int} (h : Sm n x) (k : Sm n y) : Sm (n + 1) (x + y) := by
  unfold Sm at *
  have := Nat.pow_succ 2 n
  omega
theorem Sm.mul {n m : Nat} {x y : Int} (h : Sm n x) (k : Sm m y) : Sm (n + m) (x * y) := by
  unfold Sm at *
  rw [Int.natAbs_mul, Nat.pow_add]
  exact Nat.mul_lt_mul'' h k
theorem Sm.of_le {n : Nat} {x y : Int} (h0 : 0 ≤ x) (h1 : x ≤ y) (k : Sm n y) : Sm n x := by
  unfold Sm at *
  omega
/-! ### forms -/
inductive Fm
  | keep (b a : Int)
  | lf (b a k c : Int)
  | cr (b a k : Int)
namespace Fm
def vs : Fm → List V
  | keep b a => [.str "keep", .int b, .int a]
  | lf b a k c => [.str "lf", .int b, .int a, .int k, .int c]
  | cr b a k => [.str "cr", .int b, .int a, .int k]
def nm : Fm → Str
  | keep _ _ => "keep"
  | lf _ _ _ _ => "lf"
  | cr _ _ _ => "cr"
def b : Fm → Int
  | keep b _ => b
  | lf b _ _ _ => b
  | cr b _ _ => b
def a : Fm → Int
  | keep _ a => a
  | lf _ a _ _ => a
  | cr _ a _ => a
/-- the number of ^ in front of a break with j of them -/
def after (f : Fm) (j : Int) : Int := (if j - f.b > 0 then j - f.b else 0) + f.a
def ahead (b' a' : Int) : Fm → Fm
  | keep _ _ => keep b' a'
  | lf _ _ k c => lf b' a' k c
  | cr _ _ k => cr b' a' k
def both : Fm → Fm → Fm
  | keep b a, g => ahead (b + (if g.b - a > 0 then g.b - a else 0)) ((if a - g.b > 0 then a - g.b else 0) + g.a) g
  | lf b a k c, keep b' a' => lf b a k (after (keep b' a') c)
  | cr b a k, keep _ _ => cr b a k
  | lf b a k c, lf b' a' k' c' => lf b a (k * (after (lf b' a' k' c') c + 1) * k') c'
  | lf b a k c, cr b' a' k' => cr b a (k * (after (cr b' a' k') c + 1) * k')
  | cr b a k, lf _ _ k' c' => lf b a (k * 1 * k') c'
  | cr b a k, cr _ _ k' => cr b a (k * 1 * k')
/-- a form, its numbers below 2 ^ n -/
def Ok (n : Nat) : Fm → Prop
  | keep b a => 0 ≤ b ∧ 0 ≤ a ∧ Sm n b ∧ Sm n a
  | lf b a k c => 0 ≤ b ∧ 0 ≤ a ∧ 0 < k ∧ 0 ≤ c ∧ Sm n b ∧ Sm n a ∧ Sm n k ∧ Sm n c
  | cr b a k => 0 ≤ b ∧ 0 ≤ a ∧ 0 < k ∧ Sm n b ∧ Sm n a ∧ Sm n k
def nums : Fm → List Int
  | keep b a => [b, a]
  | lf b a k c => [b, a, k, c]
  | cr b a k => [b, a, k]
theorem Ok.mono {n m : Nat} (h : n ≤ m) : ∀ {f : Fm}, Ok n f → Ok m f
  | keep _ _, ⟨h1, h2, h3, h4⟩ => ⟨h1, h2, h3.mono h, h4.mono h⟩
  | lf _ _ _ _, ⟨h1, h2, h3, h4, h5, h6, h7, h8⟩ => ⟨h1, h2, h3, h4, h5.mono h, h6.mono h, h7.mono h, h8.mono h⟩
  | cr _ _ _, ⟨h1, h2, h3, h4, h5, h6⟩ => ⟨h1, h2, h3, h4.mono h, h5.mono h, h6.mono h⟩
theorem Ok.b0 {n : Nat} : ∀ {f : Fm}, Ok n f → 0 ≤ f.b ∧ Sm n f.b
  | keep _ _, h => ⟨h.1, h.2.2.1⟩
  | lf _ _ _ _, h => ⟨h.1, h.2.2.2.2.1⟩
  | cr _ _ _, h => ⟨h.1, h.2.2.2.1⟩
theorem Ok.a0 {n : Nat} : ∀ {f : Fm}, Ok n f → 0 ≤ f.a ∧ Sm n f.a
  | keep _ _, h => ⟨h.2.1, h.2.2.2⟩
  | lf _ _ _ _, h => ⟨h.2.1, h.2.2.2.2.2.1⟩
  | cr _ _ _, h => ⟨h.2.1, h.2.2.2.2.1⟩
theorem after_ok {n : Nat} {f : Fm} (h : Ok n f) {j : Int} (h0 : 0 ≤ j) (hj : Sm n j) : 0 ≤ after f j ∧ Sm (n + 1) (after f j) := by
  have hb := h.b0
  have ha := h.a0
  unfold after
  unfold Sm at *
  have := Nat.pow_succ 2 n
  split <;> omega
theorem vs1 (f : Fm) : f.vs[1]? = some (.int f.b) := by cases f <;> rfl
theorem vs2 (f : Fm) : f.vs[2]? = some (.int f.a) := by cases f <;> rfl
theorem vs0 (f : Fm) : f.vs[0]? = some (.str f.nm) := by cases f <;> rfl
end Fm
def FmAt (K : PySem.W.Frag) (H : Hp) (x : V) (f : Fm) : Prop := ∃ p, x = .ref p ∧ SqT K H p f.vs
theorem sameT {K : PySem.W.Frag} {H H' : Hp} {a : Addr} {xs : List V} (e : Same H H') (h : SqT K H a xs) : SqT K H' a xs := by
  rcases h with (h | ⟨o, h⟩) | h
  · exact .inl (.inl (e _ _ h))
  · exact .inl (.inr ⟨o, e _ _ h⟩)
  · exact .inr h
theorem FmAt.same {K : PySem.W.Frag} {H H' : Hp} {x : V} {f : Fm} (e : Same H H') : FmAt K H x f → FmAt K H' x f := fun ⟨p, h1, h2⟩ => ⟨p, h1, sameT e h2⟩
/-! ### runs -/
/-- a group: a tuple that is tracked -/
def PrAt (H : Hp) (v : V) (x : Int × Int) : Prop := ∃ p, v = .ref p ∧ H p = some (.tup [.int x.1, .int x.2])
inductive Prs (K : PySem.W.Frag) (H : Hp) : List V → List (Int × Int) → Prop
  | nil : Prs K H [] []
  | cons {v : V} {vs : List V} {x : Int × Int} {xs : List (Int × Int)} : PrAt H v x → Prs K H vs xs → Prs K H (v :: vs) (x :: xs)
theorem Prs.same {K : PySem.W.Frag} {H H' : Hp} (e : Same H H') : ∀ {vs : List V} {gs : List (Int × Int)}, Prs K H vs gs → Prs K H' vs gs
  | _, _, .nil => .nil
  | _, _, .cons ⟨p, h1, h2⟩ t => .cons ⟨p, h1, e _ _ h2⟩ (t.same e)
theorem Prs.len {K : PySem.W.Frag} {H : Hp} : ∀ {vs : List V} {gs : List (Int × Int)}, Prs K H vs gs → vs.length = gs.length
  | _, _, .nil => rfl
  | _, _, .cons _ t => by rw [List.length_cons, List.length_cons, t.len]
theorem Prs.get {K : PySem.W.Frag} {H : Hp} : ∀ {vs : List V} {gs : List (Int × Int)}, Prs K H vs gs → ∀ {i : Nat} {v : V}, vs[i]? = some v → ∃ x, gs[i]? = some x ∧ PrAt H v x
  | _, _, .nil, i, v, h => by simp at h
  | _, _, .cons h1 t, 0, v, h => by
    have e := Option.some.inj h
    subst e
    exact ⟨_, rfl, h1⟩
  | _, _, .cons h1 t, i + 1, v, h => t.get (i := i) h
theorem Prs.append {K : PySem.W.Frag} {H : Hp} : ∀ {vs ws : List V} {gs hs : List (Int × Int)}, Prs K H vs gs → Prs K H ws hs → Prs K H (vs ++ ws) (gs ++ hs)
  | _, _, _, _, .nil, h => h
  | _, _, _, _, .cons a t, h => .cons a (t.append h)
def GsAt (K : PySem.W.Frag) (H : Hp) (l : Addr) (gs : List (Int × Int)) : Prop := ∃ xs, SqL K H l xs ∧ Prs K H xs gs
def RnAt (K : PySem.W.Frag) (H : Hp) (x : V) (l : Addr) (r : List (Int × Int) × Int) : Prop := ∃ p, x = .ref p ∧ SqT K H p [.ref l, .int r.2] ∧ GsAt K H l r.1
theorem GsAt.same {K : PySem.W.Frag} {H H' : Hp} {l : Addr} {gs : List (Int × Int)} (e : Same H H') : GsAt K H l gs → GsAt K H' l gs := fun ⟨xs, h1, h2⟩ => ⟨xs, e.seq h1, h2.same e⟩
theorem RnAt.same {K : PySem.W.Frag} {H H' : Hp} {x : V} {l : Addr} {r : List (Int × Int) × Int} (e : Same H H') : RnAt K H x l r → RnAt K H' x l r := fun ⟨p, h1, h2, h3⟩ => ⟨p, h1, sameT e h2, h3.same e⟩
/-- groups as the document wants them, numbers below 2 ^ n -/
def GsOk (n : Nat) (gs : List (Int × Int)) : Prop := ∀ (i : Nat) (x : Int × Int), gs[i]? = some x → 1 ≤ x.1 ∧ 0 ≤ x.2 ∧ Sm n x.1 ∧ Sm n x.2 ∧ ∀ y : Int × Int, gs[i + 1]? = some y → y.2 ≠ x.2
structure RnOk (n : Nat) (r : List (Int × Int) × Int) : Prop where
  gs : GsOk n r.1
  rest : 0 ≤ r.2 ∧ Sm n r.2
  len : r.1.length ≤ 1000
def addTo (acc : List (Int × Int)) (x : Int × Int) : List (Int × Int) := match acc.getLast? with
  | some y => if y.2 = x.2 then acc.dropLast ++ [(y.1 + x.1, x.2)] else acc ++ [x]
  | none => acc ++ [x]
def merged (gs : List (Int × Int)) : List (Int × Int) := gs.foldl addTo []
def moved (f : Fm) (gs : List (Int × Int)) : List (Int × Int) := gs.map fun x => (x.1, f.after x.2)
def total (gs : List (Int × Int)) : Int := (gs.map fun x => x.1 * (x.2 + 1)).sum
def units (r : List (Int × Int) × Int) (f : Fm) : Int := total (moved f r.1) + r.2
def runAfter (r : List (Int × Int) × Int) : Fm → List (Int × Int) × Int
  | .keep b a => (merged (moved (.keep b a) r.1), r.2)
  | .lf b a k c => if k * units r (.lf b a k c) = 0 then ([], 0) else ([(k * units r (.lf b a k c), c)], 0)
  | .cr b a k => ([], k * units r (.cr b a k))
end Lx
namespace Lw
open PySem PySem.Spec L2 Lx
def topS (i : Nat) : Stmt := PySem.Challenge.pw_lineends_k47_lines_of_files.main.body.getD i (.Pass ⟨0, 0, 0, 0⟩)
abbrev sWall : Stmt := topS 0
abbrev sChkChain : Stmt := topS 6
abbrev sFoc : Stmt := topS 10
abbrev sBoth : Stmt := topS 11
abbrev sAftKeep : Stmt := topS 12
abbrev sBefKeep : Stmt := topS 13
abbrev sOne : Stmt := topS 14
abbrev sSigns : Stmt := topS 15
abbrev sUog : Stmt := topS 16
abbrev sTextAfterStep : Stmt := topS 19
abbrev sLRng : Stmt := topS 23
abbrev sLDraw : Stmt := topS 24
abbrev sLLine : Stmt := topS 25
abbrev sLLines : Stmt := topS 26
abbrev sLBetween : Stmt := topS 27
abbrev sLaw : Stmt := topS 28
abbrev sLineFile___init__ : Stmt := inClass (topS 21) 0
abbrev sLineFile___eq__ : Stmt := inClass (topS 21) 1
abbrev sLineFile_text : Stmt := inClass (topS 21) 2
abbrev sLineFile_chain : Stmt := inClass (topS 21) 3
abbrev sLineFile_form : Stmt := inClass (topS 21) 4
abbrev sLineFile_breaks : Stmt := inClass (topS 21) 5
abbrev sLineFile_convert : Stmt := inClass (topS 21) 6
abbrev sLineFile_undo : Stmt := inClass (topS 21) 7
abbrev sLineFile_lines : Stmt := inClass (topS 21) 8
abbrev sLineFile_of_lines : Stmt := inClass (topS 21) 9
end Lw
namespace Lx
open PySem PySem.Spec L2
/-! ### one form after another -/
theorem addTo_none (x : Int × Int) : addTo [] x = [x] := rfl
theorem addTo_end (a : List (Int × Int)) (y x : Int × Int) : addTo (a ++ [y]) x = if y.2 = x.2 then a ++ [(y.1 + x.1, x.2)] else a ++ [y] ++ [x] := by
  unfold addTo
  rw [List.getLast?_concat]
  simp
theorem ends {α : Type} : ∀ l : List α, l = [] ∨ ∃ a x, l = a ++ [x]
  | [] => .inl rfl
  | x :: l => by
    rcases ends l with rfl | ⟨a, y, rfl⟩
    · exact .inr ⟨[], x, rfl⟩
    · exact .inr ⟨x :: a, y, rfl⟩
theorem merged_snoc (xs : List (Int × Int)) (x : Int × Int) : merged (xs ++ [x]) = addTo (merged xs) x := by
  unfold merged
  rw [List.foldl_append]
  rfl
theorem addTo_addTo (a : List (Int × Int)) (m m' j : Int) : addTo (addTo a (m, j)) (m', j) = addTo a (m + m', j) := by
  rcases ends a with rfl | ⟨b, z, rfl⟩
  · show addTo ([] ++ [(m, j)]) (m', j) = [(m + m', j)]
    rw [addTo_end, if_pos rfl]
    rfl
  · rw [addTo_end, addTo_end]
    by_cases e : z.2 = j
    · rw [if_pos e, if_pos e, addTo_end, if_pos rfl, Int.add_assoc]
    · rw [if_neg e, if_neg e, addTo_end, if_pos rfl]
def on (h : Int → Int) (gs : List (Int × Int)) : List (Int × Int) := gs.map fun x => (x.1, h x.2)
theorem on_snoc (h : Int → Int) (a : List (Int × Int)) (x : Int × Int) : on h (a ++ [x]) = on h a ++ [(x.1, h x.2)] := by
  unfold on
  rw [List.map_append]
  rfl
theorem merged_on_addTo (h : Int → Int) (a : List (Int × Int)) (x : Int × Int) : merged (on h (addTo a x)) = addTo (merged (on h a)) (x.1, h x.2) := by
  rcases ends a with rfl | ⟨b, y, rfl⟩
  · rfl
  · rw [addTo_end]
    by_cases e : y.2 = x.2
    · rw [if_pos e, on_snoc, merged_snoc, on_snoc, merged_snoc, ← e, addTo_addTo]
    · rw [if_neg e, on_snoc, merged_snoc]
theorem merged_on (h : Int → Int) (n : Nat) : ∀ xs : List (Int × Int), xs.length = n → merged (on h (merged xs)) = merged (on h xs) := by
  induction n with
  | zero =>
    intro xs hx
    rw [List.eq_nil_of_length_eq_zero hx]
    rfl
  | succ n ih =>
    intro xs hx
    rcases ends xs with rfl | ⟨a, x, rfl⟩
    · rfl
    · rw [merged_snoc, merged_on_addTo, ih a (by simpa using hx), on_snoc, merged_snoc]
theorem total_snoc (a : List (Int × Int)) (x : Int × Int) : total (a ++ [x]) = total a + x.1 * (x.2 + 1) := by
  unfold total
  rw [List.map_append, List.sum_append]
  simp
theorem total_addTo (h : Int → Int) (a : List (Int × Int)) (x : Int × Int) : total (on h (addTo a x)) = total (on h a) + x.1 * (h x.2 + 1) := by
  rcases ends a with rfl | ⟨b, y, rfl⟩
  · show total ([] ++ [(x.1, h x.2)]) = total [] + _
    rw [total_snoc]
  · rw [addTo_end]
    by_cases e : y.2 = x.2
    · rw [if_pos e, on_snoc, total_snoc, on_snoc, total_snoc, e, Int.add_mul, Int.add_assoc]
    · rw [if_neg e, on_snoc, total_snoc]
theorem total_on (h : Int → Int) (n : Nat) : ∀ xs : List (Int × Int), xs.length = n → total (on h (merged xs)) = total (on h xs) := by
  induction n with
  | zero =>
    intro xs hx
    rw [List.eq_nil_of_length_eq_zero hx]
    rfl
  | succ n ih =>
    intro xs hx
    rcases ends xs with rfl | ⟨a, x, rfl⟩
    · rfl
    · rw [merged_snoc, total_addTo, ih a (by simpa using hx), on_snoc, total_snoc]
theorem moved_on (f : Fm) (gs : List (Int × Int)) : moved f gs = on f.after gs := rfl
theorem on_on (h h' : Int → Int) (gs : List (Int × Int)) : on h' (on h gs) = on (fun j => h' (h j)) gs := by
  unfold on
  rw [List.map_map]
  rfl
theorem posI (x : Int) : 0 ≤ (if x > 0 then x else 0) ∧ ((if x > 0 then x else 0) = x ∨ ((if x > 0 then x else 0) = 0 ∧ x ≤ 0)) := by
  by_cases h : x > 0
  · rw [if_pos h]; omega
  · rw [if_neg h]; omega
theorem after_both (b a : Int) (g : Fm) (j : Int) : g.after ((Fm.keep b a).after j) = ((Fm.keep b a).both g).after j := by
  have e : ∀ b' a' : Int, (if (if j - b > 0 then j - b else 0) + a - b' > 0 then (if j - b > 0 then j - b else 0) + a - b' else 0) + a' =
      (if j - (b + (if b' - a > 0 then b' - a else 0)) > 0 then j - (b + (if b' - a > 0 then b' - a else 0)) else 0) + ((if a - b' > 0 then a - b' else 0) + a') := by
    intro b' a'
    have p1 := posI (j - b)
    have p2 := posI (b' - a)
    have p3 := posI (a - b')
    generalize (if j - b > 0 then j - b else 0) = A at *
    generalize (if b' - a > 0 then b' - a else 0) = B at *
    generalize (if a - b' > 0 then a - b' else 0) = C at *
    have p4 := posI (A + a - b')
    have p5 := posI (j - (b + B))
    generalize (if A + a - b' > 0 then A + a - b' else 0) = D at *
    generalize (if j - (b + B) > 0 then j - (b + B) else 0) = E at *
    omega
  cases g with
  | keep b' a' => exact e b' a'
  | lf b' a' k c => exact e b' a'
  | cr b' a' k => exact e b' a'
theorem units_both (r : List (Int × Int) × Int) (b a : Int) (g : Fm) : units (runAfter r (.keep b a)) g = units r ((Fm.keep b a).both g) := by
  show total (moved g (merged (moved (.keep b a) r.1))) + r.2 = total (moved _ r.1) + r.2
  rw [moved_on, total_on _ _ _ rfl, moved_on, on_on, moved_on]
  have e : (fun j => g.after ((Fm.keep b a).after j)) = ((Fm.keep b a).both g).after := funext fun j => after_both b a g j
  rw [e]
theorem units_one (n c : Int) (g : Fm) : units ([(n, c)], 0) g = n * (g.after c + 1) := by
  show total ([] ++ [(n, g.after c)]) + 0 = _
  rw [total_snoc]
  show 0 + n * (g.after c + 1) + 0 = _
  omega
theorem units_none (n : Int) (g : Fm) : units ([], n) g = n := by
  show (0 : Int) + n = n
  omega
theorem runAfter_both (r : List (Int × Int) × Int) (f g : Fm) : runAfter (runAfter r f) g = runAfter r (f.both g) := by
  cases f with
  | keep b a =>
    have hu := units_both r b a g
    cases g with
    | keep b' a' =>
      show (merged (moved (.keep b' a') (merged (moved (.keep b a) r.1))), r.2) = (merged (moved _ r.1), r.2)
      rw [moved_on, merged_on _ _ _ rfl, moved_on, on_on, moved_on]
      have e : (fun j => (Fm.keep b' a').after ((Fm.keep b a).after j)) = ((Fm.keep b a).both (.keep b' a')).after := funext fun j => after_both b a _ j
      rw [e]
      rfl
    | lf b' a' k' c' =>
      show (if k' * units (runAfter r (.keep b a)) (.lf b' a' k' c') = 0 then (([] : List (Int × Int)), (0 : Int)) else ([(k' * units (runAfter r (.keep b a)) (.lf b' a' k' c'), c')], 0)) = _
      rw [hu]
      rfl
    | cr b' a' k' =>
      show (([] : List (Int × Int)), k' * units (runAfter r (.keep b a)) (.cr b' a' k')) = _
      rw [hu]
      rfl
  | lf b a k c =>
    by_cases z : k * units r (.lf b a k c) = 0
    · rw [show runAfter r (.lf b a k c) = ([], 0) from if_pos z]
      cases g with
      | keep b' a' =>
        show (([] : List (Int × Int)), (0 : Int)) = if k * units r (.lf b a k c) = 0 then ([], 0) else _
        rw [if_pos z]
      | lf b' a' k' c' =>
        have e : k * ((Fm.lf b' a' k' c').after c + 1) * k' * units r (.lf b a k c) = 0 := by
          rw [show k * ((Fm.lf b' a' k' c').after c + 1) * k' * units r (.lf b a k c) = ((Fm.lf b' a' k' c').after c + 1) * k' * (k * units r (.lf b a k c)) by
            simp only [Int.mul_assoc, Int.mul_comm, Int.mul_left_comm], z, Int.mul_zero]
        show (if k' * units ([], 0) (.lf b' a' k' c') = 0 then (([] : List (Int × Int)), (0 : Int)) else _) = if k * ((Fm.lf b' a' k' c').after c + 1) * k' * units r (.lf b a k c) = 0 then ([], 0) else _
        rw [units_none, Int.mul_zero, if_pos rfl, if_pos e]
      | cr b' a' k' =>
        have e : k * ((Fm.cr b' a' k').after c + 1) * k' * units r (.lf b a k c) = 0 := by
          rw [show k * ((Fm.cr b' a' k').after c + 1) * k' * units r (.lf b a k c) = ((Fm.cr b' a' k').after c + 1) * k' * (k * units r (.lf b a k c)) by
            simp only [Int.mul_assoc, Int.mul_comm, Int.mul_left_comm], z, Int.mul_zero]
        show (([] : List (Int × Int)), k' * units ([], 0) (.cr b' a' k')) = ([], k * ((Fm.cr b' a' k').after c + 1) * k' * units r (.lf b a k c))
        rw [units_none, Int.mul_zero, e]
    · rw [show runAfter r (.lf b a k c) = ([(k * units r (.lf b a k c), c)], 0) from if_neg z]
      cases g with
      | keep b' a' =>
        show (merged [(k * units r (.lf b a k c), (Fm.keep b' a').after c)], (0 : Int)) = if k * units r (.lf b a k c) = 0 then ([], 0) else ([(k * units r (.lf b a k c), (Fm.keep b' a').after c)], 0)
        rw [if_neg z]
        rfl
      | lf b' a' k' c' =>
        show (if k' * units ([(k * units r (.lf b a k c), c)], 0) (.lf b' a' k' c') = 0 then (([] : List (Int × Int)), (0 : Int)) else ([(k' * units ([(k * units r (.lf b a k c), c)], 0) (.lf b' a' k' c'), c')], 0)) =
          if k * ((Fm.lf b' a' k' c').after c + 1) * k' * units r (.lf b a k c) = 0 then ([], 0) else ([(k * ((Fm.lf b' a' k' c').after c + 1) * k' * units r (.lf b a k c), c')], 0)
        rw [units_one, show k' * (k * units r (.lf b a k c) * ((Fm.lf b' a' k' c').after c + 1)) = k * ((Fm.lf b' a' k' c').after c + 1) * k' * units r (.lf b a k c) by
          simp only [Int.mul_assoc, Int.mul_comm, Int.mul_left_comm]]
      | cr b' a' k' =>
        show (([] : List (Int × Int)), k' * units ([(k * units r (.lf b a k c), c)], 0) (.cr b' a' k')) = ([], k * ((Fm.cr b' a' k').after c + 1) * k' * units r (.lf b a k c))
        rw [units_one, show k' * (k * units r (.lf b a k c) * ((Fm.cr b' a' k').after c + 1)) = k * ((Fm.cr b' a' k').after c + 1) * k' * units r (.lf b a k c) by
          simp only [Int.mul_assoc, Int.mul_comm, Int.mul_left_comm]]
  | cr b a k =>
    cases g with
    | keep b' a' => rfl
    | lf b' a' k' c' =>
      show (if k' * units ([], k * units r (.cr b a k)) (.lf b' a' k' c') = 0 then (([] : List (Int × Int)), (0 : Int)) else ([(k' * units ([], k * units r (.cr b a k)) (.lf b' a' k' c'), c')], 0)) =
        if k * 1 * k' * units r (.cr b a k) = 0 then ([], 0) else ([(k * 1 * k' * units r (.cr b a k), c')], 0)
      rw [units_none, Int.mul_one, show k' * (k * units r (.cr b a k)) = k * k' * units r (.cr b a k) by simp only [Int.mul_assoc, Int.mul_comm, Int.mul_left_comm]]
    | cr b' a' k' =>
      show (([] : List (Int × Int)), k' * units ([], k * units r (.cr b a k)) (.cr b' a' k')) = ([], k * 1 * k' * units r (.cr b a k))
      rw [units_none, Int.mul_one, show k' * (k * units r (.cr b a k)) = k * k' * units r (.cr b a k) by simp only [Int.mul_assoc, Int.mul_comm, Int.mul_left_comm]]
end Lx
/-! promises of defs that are called where no repr is at work -/
namespace Lx
open PySem PySem.Spec L2
open PyProof.Rows (AllBare IntsAre)
/-- as FnOk, at callers in which no guarded call (a repr, a comparison) runs -/
structure FnG (P : Program) (w : World) (K : PySem.W.Frag) (mg : Str → Option Value) (base : Heap) (CX : CXT) (k : Nat) (f : Addr) (fd : FuncData) (ps : List Str) (sp : Sp) : Prop where
  len : ∀ vs H Q E, sp vs H Q E → vs.length = ps.length
  go : ∀ (A : Around) (outer : List Env) (s : Shared) (H : Hp) (args : Args) (us : List Value) (vs : List V) (Q : VK) (E : XK), Room k A → A.guards = some [] → Env0 P w K mg base A outer s H → BindsTo s fd args (ps.zip us) → Vals vs us → sp vs H Q E →
    codeAny (model P w) A (.call (.ref f) args) (CR CX outer P w H s Q E) s
section
variable {P : Program} {w : World} {K : PySem.W.Frag} {mg : Str → Option Value} {base : Heap} {CX : CXT}
theorem FnG.of {k : Nat} {f : Addr} {fd : FuncData} {ps : List Str} {sp : Sp} (F : FnOk P w K mg base CX k f fd ps sp) : FnG P w K mg base CX k f fd ps sp :=
  ⟨F.len, fun A outer s H args us vs Q E hr _ he hb hv hs => F.run A outer s H args us vs Q E hr he hb hv hs⟩
/-- a def's promise by its body -/
theorem okG {x qual : Str} {st : Stmt} {f : Addr} {fd : FuncData} {N ps : List Str} {k : Nat} {sp : Sp} (F : Fun K x qual st f fd) (S : FnScope N ps (defScope st)) (len : ∀ vs H Q E, sp vs H Q E → vs.length = ps.length)
    (hb : ∀ (cdv : Value) (A : Around) (outer : List Env) (s : Shared) (H : Hp) (vs : List V) (Q : VK) (E : XK), Room k (A.deeper (PyProof.Rows.envOfC qual (defScope st) s.heap.objs.size f cdv)) → A.guards = some [] → sp vs H Q E →
      ∃ t, PSs (cxOf CX P w K mg base N qual (defScope st) f cdv A outer s H E) (defBody st) t ∧ t { nx := fun _ H' => Q .non H', rt := Q } (start N vs) H) : FnG P w K mg base CX (k + 1) f fd ps sp := by
  obtain ⟨oc, od, kV, doc, pm, an, cdv, ct, osl, rfl, lk, hcd⟩ := F.ex
  refine ⟨len, fun A outer s H args us vs Q E hr hg e0 hbd r hsp => ?_⟩
  have X : K.In s.heap := e0.mod.kin.keeps fun b o e => (e0.bs b o e).1
  have lim : s.heap.NoLimit := e0.mod.nolimit.keeps fun b o e => (e0.bs b o e).1
  refine codeAny_call_function hr.depth (X _ _ lk) rfl S.co S.gen rfl (PySem.W.codeRec_of X hcd) (hbd _ _ _ _ ?_)
  refine wpAny_newFunctionEnv_cells S.kind (fun y hy => ?_) fun env he s1 x1 => ?_
  · obtain ⟨n, v⟩ := y
    rcases S.par n (List.of_mem_zip hy).1 with q | q
    · exact .inl q
    · exact .inr ⟨q, PySem.W.cellsFrom_some _ _ _ (.inl q)⟩
  · subst he
    refine ⟨lim.keeps x1.toInCall.keep, codeAny_func ?_⟩
    obtain ⟨t, ht, hq⟩ := hb cdv A outer s H vs Q E (hr.deeper _) hg hsp
    have I := inv_start (CX := CX) (E := E) S hr.hd e0 (len _ _ _ _ hsp) r x1
    refine wpAny_mono (ht.run [] s1 (start N vs) H _ I hq) (fun fl s2 z => ?_) fun _ _ z => z
    rcases fl with _ | _ | _ | u
    all_goals first
      | (obtain ⟨_, _, _, q⟩ := z; exact q.elim)
      | (obtain ⟨σ2, H2, J, q⟩ := z; exact ⟨V.non, H2, J.os, J.bare, J.base, J.hok, rfl, q⟩)
      | (obtain ⟨v2, σ2, H2, J, rv, q⟩ := z; exact ⟨v2, H2, J.os, J.bare, J.base, J.hok, rv, q⟩)
end
section
variable {X : Cx} {CX : CXT} {k : Nat} {f : Addr} {fd : FuncData} {ps : List Str} {sp : Sp} {dvs : List V} {ds : List Value} {E : XK} {x : Str} {p pos : Pos} {e : Expr} {es : List Expr} {t : TA}
/-- f(e, ..) -/
theorem pe_callG (F : FnG X.prog X.w X.K X.mg X.base CX k f fd ps sp) (hG : X.A.guards = some []) (hr : Room k X.A) (hg : Gl X x) (hm : X.mg x = some (.ref f)) (hk : PySem.W.keepIn X.K (.ref f) = true) (hb : Binds X.K fd ps ds) (hd : Vals dvs ds) (hx : Passes CX X E)
    (ha : PA X (e :: es) t) (hdb : (x == ("__debug__" : Str)) = false := by decide) (he : starEach (e :: es) X.env = (false, eval e X.env) :: starEach es X.env := by rfl) (hpl : (backTo pos (starEach es X.env)).any (·.1) = false := by rfl) :
    PE X (.Call (.Name x p) (e :: es) [] pos) (tCall sp dvs E t) := by
  refine ⟨fun pins s σ H Q I h => ?_⟩
  refine wpAny_Call_Name_kw (ld_glob I hg hm ?_ hdb)
  refine PySem.W.callWith_K (h₀ := X.base) I.ok.mod.kin hk (thn (ha.run pos pins s σ H _ I h) fun us s1 ⟨vs, H1, I1, r, q⟩ => ⟨I1.kIn, ?_⟩) he hpl
  have r2 : Vals (vs ++ dvs) (us ++ ds) := r.append hd
  have hl : (us ++ ds).length = ps.length := by rw [← r2.length]; exact F.len _ _ _ _ q
  show wpAny _ _ (call (.ref f) us) _ _ _
  refine wpAny_call (codeAny_mono (F.go X.A X.stack s1 H1 ⟨us, []⟩ (us ++ ds) (vs ++ dvs) Q E hr hG I1.env0 (hb s1 us I1.kIn hl) r2 q) fun res s' hq => ?_)
  rcases res with er | fl
  · exact hx pins σ H1 s1 er s' I1 hq
  · rcases fl with _ | _ | _ | u
    all_goals first
      | exact I1.after hq
      | exact False.elim hq
end
/-- the heap in which nothing but the script is told -/
def onlyAt (a : Addr) (o : Obj) (ns : List Int) : Hp := fun b => if b = a then some (.frz o (.lst (ns.map V.int))) else none
section
variable {P : Program} {w : World} {K : PySem.W.Frag} {mg mb : Str → Option Value} {CX : CXT} {k : Nat} {fa a : Addr} {fd : FuncData} {x : Str} {sp : Sp} {s : Shared} {vs : List Value} {ns : List Int}
/-- the law's call, from an abstract heap that tells of the script at most -/
theorem lawFrom (KX : K.In s.heap) (hns : s.heap.Ns mainGlobals mg) (hbl : s.heap.Ns builtinsNs mb) (hbb : ∀ x : Str, x ≠ "__name__" → mb x = bootBuiltins x) (hlim : s.heap.NoLimit) (hg : s.gens = #[]) {o : Obj} (ho : s.heap.get? a = some o) (hdict : ∀ es ep, o.data ≠ .dict es ep)
    (hr : Room k callerA) (F : ∀ base : Heap, K.In base → base.Ns mainGlobals mg → FnG P w K mg base CX k fa fd [x] sp) (hbind : ∀ (s : Shared) (u : Value), BindsTo s fd ⟨[u], []⟩ [(x, u)])
    (H : Hp) (hok : HOk P w H s.heap) (hA : ∀ b, H b ≠ none → b = a ∧ K.lookup a = none ∧ H a = some (.frz o (.lst (ns.map V.int)))) (hsp : sp [.ref a] H (fun v _ => v = .bl true) fun _ _ _ => False) (hCX : ∀ e s', CX [] H s (fun _ _ _ => False) e s' → False) :
    codeAny (model P w) callerA (.call (.ref fa) ⟨[.ref a], []⟩) (fun r s' => r = .ok (.ret (.bool true)) ∧ OldK s.heap s'.heap ∧ s'.os = s.os ∧ AllBare s'.gens) s := by
  have free : ∀ {b : Addr} {u : Obj}, s.heap.get? b = some u → (∃ es ep, u.data = .dict es ep) → H b = none := fun {b u} e ⟨es, ep, d⟩ => by
    cases q : H b with
    | none => rfl
    | some z =>
      obtain ⟨rfl, _, _⟩ := hA b (by rw [q]; simp)
      rw [ho] at e
      cases e
      exact (hdict es ep d).elim
  have nsK : ∀ {b : Addr} {m : Str → Option Value}, s.heap.Ns b m → (hidT s.heap H).Ns b m := fun {b m} ⟨u, es, ep, e, d, r⟩ => ⟨u, es, ep, hidT_get e (free e ⟨es, ep, d⟩), d, r⟩
  have kb : K.In (hidT s.heap H) := fun b u e => hidT_get (KX b u e) (by
    cases q : H b with
    | none => rfl
    | some z =>
      obtain ⟨rfl, q2, _⟩ := hA b (by rw [q]; simp)
      rw [q2] at e
      cases e)
  have hM : Mod K mg (hidT s.heap H) := ⟨kb, nsK hns, ⟨mb, nsK hbl, hbb⟩, let ⟨mc, h1, h2⟩ := hlim; ⟨mc, nsK h1, h2⟩⟩
  have e0 : Env0 P w K mg (hidT s.heap H) callerA [] s H := ⟨rfl, hM, fun b u e => of_hidT e, Nat.le_of_eq (hidT_size _ _), trivial, fun b hb => absurd (show b ∈ ([] : List Addr) from hb) (by simp), hok, .of_eq hg⟩
  refine codeAny_mono ((F _ kb (nsK hns)).go callerA [] s H ⟨[.ref a], []⟩ [.ref a] [.ref a] _ _ hr rfl e0 (hbind s (.ref a)) (.cons rfl .nil) hsp) fun r s' h => ?_
  rcases r with e | fl
  · exact (hCX e s' h).elim
  · rcases fl with _ | _ | _ | u
    all_goals first
      | exact False.elim h
      | skip
    obtain ⟨v, H', os, bare, un, hok', r', q⟩ := h
    obtain rfl : v = .bl true := q
    obtain rfl : u = Value.bool true := r'
    refine ⟨rfl, OldK.of_keep fun b u e => ?_, os, bare⟩
    cases q : H b with
    | none => exact un.keep b u e q (fun z => absurd (show b ∈ ([] : List Addr) from z) (by simp)) (by simp)
    | some z =>
      obtain ⟨rfl, _, q3⟩ := hA b (by rw [q]; simp)
      obtain ⟨e2, _⟩ := hok' b _ (un.frzs b o _ q3)
      rw [ho] at e
      cases e
      exact e2
theorem lawCall (KX : K.In s.heap) (hns : s.heap.Ns mainGlobals mg) (hbl : s.heap.Ns builtinsNs mb) (hbb : ∀ x : Str, x ≠ "__name__" → mb x = bootBuiltins x) (hlim : s.heap.NoLimit) (hg : s.gens = #[])
    (ha : s.heap.get? a = some { cls := .type "list", data := .seq vs.toArray }) (hi : IntsAre vs ns) (hl : ns.length ≤ sizeLine) (hr : Room k callerA)
    (F : ∀ base : Heap, K.In base → base.Ns mainGlobals mg → FnG P w K mg base CX k fa fd [x] sp) (hbind : ∀ (s : Shared) (u : Value), BindsTo s fd ⟨[u], []⟩ [(x, u)])
    (hsp : ∀ H : Hp, SqL K H a (ns.map V.int) → sp [.ref a] H (fun v _ => v = .bl true) fun _ _ _ => False) (hCX : ∀ H e s', CX [] H s (fun _ _ _ => False) e s' → False) :
    codeAny (model P w) callerA (.call (.ref fa) ⟨[.ref a], []⟩) (fun r s' => r = .ok (.ret (.bool true)) ∧ OldK s.heap s'.heap ∧ s'.os = s.os ∧ AllBare s'.gens) s := by
  have rv := vals_ints hi
  cases hk : K.lookup a with
  | some o =>
    have e := KX a o hk
    rw [ha] at e
    cases e
    refine lawFrom KX hns hbl hbb hlim hg ha (fun _ _ z => by cases z) hr F hbind (ns := ns) (fun _ => none) (fun b u z => by cases z) (fun b z => absurd rfl z) (hsp _ ?_) (hCX _)
    exact .inr ⟨_, vs.toArray, _, hk, rfl, rfl, rfl, by rw [List.size_toArray, hi.length]; exact hl, by simpa using rv⟩
  | none =>
    refine lawFrom KX hns hbl hbb hlim hg ha (fun _ _ z => by cases z) hr F hbind (ns := ns) (onlyAt a { cls := .type "list", data := .seq vs.toArray } ns) (fun b u z => ?_) (fun b z => ?_) (hsp _ (.inl (.inr ⟨_, if_pos rfl⟩))) (hCX _)
    · by_cases hb : b = a
      · have q := (if_pos hb).symm.trans z
        cases q
        subst hb
        exact ⟨ha, by rw [List.length_map]; exact hl, vs, _, rv, ha⟩
      · have q := (if_neg hb).symm.trans z
        cases q
    · by_cases hb : b = a
      · exact ⟨hb, hk, if_pos rfl⟩
      · exact absurd (if_neg hb) z
end
/-- the end of a law's row -/
theorem endG {l : PySem.W.OpenLaw} {n k : Nat} {q : Program} {loose : List Str} {XP : (Str → Option Value) → Heap → Prop} {YP : World → Heap → Prop} {d : DefRec} {K : Params → PySem.W.Frag} {CX : World → CXT} {sp : World → Sp} {x : Str}
    (hn : l.most = some n) (hn2 : n ≤ sizeLine) (hdf : d.params.defaults = []) (hr : Room k callerA) (hY : ∀ (w : World) (h : Heap), YP w h → (K w.params).In h)
    (F : ∀ (w : World) (mg : Str → Option Value) (fa : Addr) (h : Heap), (K w.params).In h → h.Ns mainGlobals mg → mg d.name = some (.ref fa) →
      ∃ fd : FuncData, (∀ (s : Shared) (u : Value), BindsTo s fd ⟨[u], []⟩ [(x, u)]) ∧ ∀ base : Heap, (K w.params).In base → base.Ns mainGlobals mg → FnG l.prog w (K w.params) mg base (CX w) k fa fd [x] (sp w))
    (hsp : ∀ (w : World) (H : Hp) (a : Addr) (ns : List Int), ns.length ≤ n → SqL (K w.params) H a (ns.map V.int) → sp w [.ref a] H (fun v _ => v = .bl true) fun _ _ _ => False)
    (hCX : ∀ (w : World) (H : Hp) (s : Shared) (e : Value) (s' : Shared), CX w [] H s (fun _ _ _ => False) e s' → False) : PySem.W.WalkO q loose XP YP l.row.toRowW d [] (fun f vs => PySem.call f vs) := by
  refine Att.attach_call hn hdf fun w s₀ s₁ mg mb fa o pm cd doc a vs ns G Y ho hd hcd hmg hobj hints hlen hg => ?_
  obtain ⟨fd, hb, hF⟩ := F w mg fa _ (hY w _ Y) G.T.g hmg
  exact lawCall (hY w _ Y) G.T.g G.T.b G.T.builtins G.T.nolimit hg hobj hints (Nat.le_trans hlen hn2) hr hF hb (fun H hS => hsp w H a ns hlen hS) fun H e s' => hCX w H s₁ e s'
end Lx
namespace Lx
open PySem PySem.Spec L2
/-! ### repr of data -/
structure Fit (d : PyData) : Prop where
  can : d.showable = true
  no : d.hasDict = false
  dep : d.depth ≤ 40
  len : d.shown.length ≤ sizeLine
/-- repr(x), x data -/
def rRepr (K : PySem.W.Frag) : List V → Hp → VK → Prop := fun xs H Q => ∃ x d, xs = [x] ∧ Dp K H x d ∧ Fit d ∧ Q (.str d.shown) H
theorem call_reprD {X : Cx} (hG : X.A.guards = some []) (hu : X.A.units + 64 < cLine) : CallR X (.builtin "repr") (rRepr X.K) := by
  intro pins s σ H xs us Q I r h
  obtain ⟨x, d, rfl, hd, F, q⟩ := h
  obtain ⟨u, rfl, r1⟩ := vals1 r
  obtain ⟨as, rd⟩ := Dp.reads I d x u hd r1
  have big : ∀ a : Addr, u = .ref a → wpAny (model X.prog X.w) X.A (call (.builtin "repr") [u]) (EP X pins σ Q) X.xe s := fun a e => by
    subst e
    exact repr_of_reads' rd F.can (PyData.noDict_hsm F.no) hG (by have := F.dep; omega) (fun _ _ e => e) (fun h' t tk kp => ⟨.str d.shown, H, I.kept (t' := tk) kp, ⟨t, rfl⟩, q⟩) F.len
  cases hd with
  | non =>
    cases r1
    exact P.repr_of_none ⟨.str _, H, I.tok _, ⟨_, rfl⟩, q⟩
  | bl b =>
    cases r1
    exact P.repr_of_bool ⟨.str _, H, I.tok _, ⟨_, rfl⟩, by cases b <;> exact q⟩
  | int i =>
    obtain ⟨t, rfl⟩ := r1
    exact P.repr_of_int (of_decide_eq_true F.can) ⟨.str _, H, I.tok _, ⟨_, rfl⟩, q⟩
  | str y =>
    obtain ⟨t, rfl⟩ := r1
    exact P.repr_of_str ⟨.str _, H, I.tok _, ⟨_, rfl⟩, q⟩ F.len
  | lst _ _ => exact big _ r1
  | tup _ _ => exact big _ r1
/-! ### which class is which -/
section
variable {K : PySem.W.Frag} {file : Str} {mg : Str → Option Value} {L C D : Addr} {nm qual nm2 qual2 : Str} {st st2 : Stmt}
theorem ErrC.some_ (T : ErrC K file mg L nm qual st C) : (PySem.W.clsIn K C).isSome = true := by
  obtain ⟨cd, e, _⟩ := T.chain
  rw [e]; rfl
theorem LineC.some_ (T : LineC K mg L) : (PySem.W.clsIn K L).isSome = true := by
  obtain ⟨n, q, N, bs, sn, sub, ab, col, dd, k0, k1, k2, k3, k5, hL⟩ := T.cls
  unfold PySem.W.clsIn
  rw [hL] <;> rfl
theorem kit_ref {b : Bool} (h1 : (PySem.W.clsIn K D).isSome = true) (h2 : PySem.W.typeIn K (.ref D) = some (.type "type")) (T : ErrC K file mg L nm qual st C) (h : (Value.ref C :: .ref L :: HandSPX.veTail).contains (.ref D) = b) : PySem.W.kitOne K (.ref C) (.ref D) = some b := by
  unfold PySem.W.kitOne
  by_cases e : C = D
  · subst e
    have z : (Value.ref C == Value.ref C) = true := by simp
    rw [if_pos z, ← h]
    simp
  · have z : ¬ (Value.ref C == Value.ref D) = true := by simpa using e
    rw [if_neg z]
    show (if ((PySem.W.clsIn K D).isSome && PySem.W.typeIn K (.ref D) == some (.type "type")) = true then PySem.W.subIn K (.ref C) (.ref D) else none) = some b
    rw [h1, h2, if_pos (by rfl)]
    exact (T.under _).trans (by rw [h])
theorem kit_err (T : ErrC K file mg L nm qual st C) (T2 : ErrC K file mg L nm2 qual2 st2 D) (hD : D ≠ L) : PySem.W.kitOne K (.ref C) (.ref D) = some (decide (C = D)) := by
  refine kit_ref T2.some_ T2.ty T ?_
  rw [List.contains_cons, List.contains_cons]
  have e1 : (Value.ref D == Value.ref L) = false := by simpa using hD
  have e2 : List.contains HandSPX.veTail (Value.ref D) = false := by rfl
  rw [e1, e2]
  by_cases e : C = D
  · subst e; simp
  · have z : (Value.ref D == Value.ref C) = false := by simpa using Ne.symm e
    rw [z, decide_eq_false e]; rfl
theorem kit_line (TL : LineC K mg L) (T : ErrC K file mg L nm qual st C) : PySem.W.kitOne K (.ref C) (.ref L) = some true := kit_ref TL.some_ TL.ty T (by simp)
theorem kit_ve (T : ErrC K file mg L nm qual st C) : PySem.W.kitOne K (.ref C) (.type "ValueError") = some true := by
  unfold PySem.W.kitOne
  rw [if_neg (by simp)]
  show (if PySem.W.kitMeta "ValueError" = true then PySem.W.subIn K (.ref C) (.type "ValueError") else none) = some true
  rw [if_pos (by decide +kernel)]
  exact (T.under _).trans (by rfl)
end
/-! ### data that repr can write -/
/-- ints below 2 ^ 400, texts of plain signs -/
def small : PyData → Bool
  | .none | .bool _ => true
  | .int i => decide (i.natAbs < 2 ^ 400)
  | .str x => x.cps.toList.all fun c => decide (c < 128)
  | .list xs | .tuple xs => smallAll xs
  | .dict _ => false
where smallAll : List PyData → Bool
  | [] => true
  | x :: xs => small x && smallAll xs
theorem int_log {i : Int} (h : i.natAbs < 2 ^ 400) : i.natAbs.log2 < 400 := PySem.Flt.log2_lt_of (by decide) h
theorem int_shown {i : Int} (h : i.natAbs < 2 ^ 400) : (PyData.shown (.int i)).length ≤ 401 := by
  have e := int_text_length_le (k := 400) (by decide) (int_log h)
  show (Str.ofString (toString i)).length ≤ 401
  rw [ofString_length]
  omega
mutual
theorem small_can : ∀ d : PyData, small d = true → d.showable = true
  | .none, _ => rfl
  | .bool _, _ => rfl
  | .int i, h => by
    have e := int_log (of_decide_eq_true (show decide (i.natAbs < 2 ^ 400) = true by simpa only [small] using h))
    simp only [PyData.showable]
    exact decide_eq_true (by omega)
  | .str _, _ => rfl
  | .list xs, h => by
    simp only [PyData.showable]
    exact small_canAll xs (by simpa only [small] using h)
  | .tuple xs, h => by
    simp only [PyData.showable]
    exact small_canAll xs (by simpa only [small] using h)
  | .dict _, h => by simp [small] at h
theorem small_canAll : ∀ xs : List PyData, small.smallAll xs = true → PyData.showableAll xs = true
  | [], _ => rfl
  | x :: xs, h => by
    have h' : small x = true ∧ small.smallAll xs = true := by simpa only [small.smallAll, Bool.and_eq_true] using h
    simp only [PyData.showableAll, Bool.and_eq_true]
    exact ⟨small_can x h'.1, small_canAll xs h'.2⟩
end
mutual
theorem small_no : ∀ d : PyData, small d = true → d.hasDict = false
  | .none, _ => rfl
  | .bool _, _ => rfl
  | .int i, h => rfl
  | .str _, _ => rfl
  | .list xs, h => by
    simp only [PyData.hasDict]
    exact small_noAll xs (by simpa only [small] using h)
  | .tuple xs, h => by
    simp only [PyData.hasDict]
    exact small_noAll xs (by simpa only [small] using h)
  | .dict _, h => by simp [small] at h
theorem small_noAll : ∀ xs : List PyData, small.smallAll xs = true → PyData.hasDictAll xs = false
  | [], _ => rfl
  | x :: xs, h => by
    have h' : small x = true ∧ small.smallAll xs = true := by simpa only [small.smallAll, Bool.and_eq_true] using h
    simp only [PyData.hasDictAll, Bool.or_eq_false_iff]
    exact ⟨small_no x h'.1, small_noAll xs h'.2⟩
end
mutual
theorem small_leaves : ∀ d : PyData, small d = true → d.leavesShort 401 = true
  | .none, _ => rfl
  | .bool _, _ => rfl
  | .int i, h => by
    have e := int_shown (of_decide_eq_true (show decide (i.natAbs < 2 ^ 400) = true by simpa only [small] using h))
    simp only [PyData.leavesShort]
    exact decide_eq_true e
  | .str x, h => by
    simp only [PyData.leavesShort, List.all_eq_true, decide_eq_true_eq]
    simp only [small, List.all_eq_true, decide_eq_true_eq] at h
    intro c hc
    exact Nat.lt_of_lt_of_le (h c hc) (by decide)
  | .list xs, h => by
    simp only [PyData.leavesShort]
    exact small_leavesAll xs (by simpa only [small] using h)
  | .tuple xs, h => by
    simp only [PyData.leavesShort]
    exact small_leavesAll xs (by simpa only [small] using h)
  | .dict _, h => by simp [small] at h
theorem small_leavesAll : ∀ xs : List PyData, small.smallAll xs = true → PyData.leavesShortAll 401 xs = true
  | [], _ => rfl
  | x :: xs, h => by
    have h' : small x = true ∧ small.smallAll xs = true := by simpa only [small.smallAll, Bool.and_eq_true] using h
    simp only [PyData.leavesShortAll, Bool.and_eq_true]
    exact ⟨small_leaves x h'.1, small_leavesAll xs h'.2⟩
end
theorem fit_small {d : PyData} (h : small d = true) (hd : d.depth ≤ 40) (hb : d.bulk ≤ 40000) : Fit d := by
  refine ⟨small_can d h, small_no d h, hd, ?_⟩
  have e := PyData.shown_le_bulk 401 (by decide) d (small_leaves d h)
  have e2 : (401 + 2) * d.bulk ≤ 403 * 40000 := Nat.mul_le_mul (by decide) hb
  rw [sizeLine_eq]
  omega
end Lx
namespace Lx
open PySem PySem.Spec L2 PyProof.Rows
/-! ### f(k = v, ..) of a def -/
section
variable {X : Cx} {CX : CXT} {k : Nat} {f : Addr} {fd : FuncData} {ps ks : List Str} {sp : Sp} {E : XK} {x : Str} {p pos : Pos} {kws : List Keyword} {tk : TA} {g : List Value → List Value → List Value} {gV : List V → List V → List V}
theorem pe_callK0 (F : FnOk X.prog X.w X.K X.mg X.base CX k f fd ps sp) (hr : Room k X.A) (hg : Gl X x) (hm : X.mg x = some (.ref f)) (hk : PySem.W.keepIn X.K (.ref f) = true) (hb : KBinds X.K fd ps ks g gV) (hx : Passes CX X E)
    (hkw : PK X kws tk) (hall : (backToKw pos (keywordEach kws X.env)).all (·.1.isSome) = true := by rfl) (hks : (backToKw pos (keywordEach kws X.env)).filterMap (·.1) = ks := by rfl)
    (hdb : (x == ("__debug__" : Str)) = false := by decide) (hpl : ((backTo pos (starEach [] X.env)).any (·.1) || (backToKw pos (keywordEach kws X.env)).any (·.1.isNone)) = false := by rfl) :
    PE X (.Call (.Name x p) [] kws pos) (tCallK sp gV E tNil tk) := by
  refine ⟨fun pins s σ H Q I h => ?_⟩
  refine wpAny_Call_Name_kw (ld_glob I hg hm ?_ hdb)
  refine PySem.W.callWith_KW0 (h₀ := X.base) I.ok.mod.kin hk hall ?_ hpl
  refine thn (hkw.run pos pins s σ H _ I h) fun ws s2 ⟨zs, H2, I2, rz, q2⟩ => ⟨I2.kIn, ?_⟩
  rw [hks]
  exact run_fnk (us := []) (vs := []) F hr hb hx I2 .nil rz q2
end
/-- two keywords, the second parameter's first -/
def g21 (α : Type) : List α → List α → List α
  | [], [a, b] => [b, a]
  | _, _ => []
def g1 (α : Type) : List α → List α → List α
  | [], [a] => [a]
  | _, _ => []
theorem kb21 {K : PySem.W.Frag} {x qual : Str} {st : Stmt} {f : Addr} {fd : FuncData} {p1 p2 : Str} (F : Fun K x qual st f fd)
    (h : ∀ (kV doc pm : Value) (an : Option Addr) (cdv ct a b : Value), bindArgs (PySem.W.fnOf x qual (defArgs st) (defBody st) (defScope st) .none kV doc pm an cdv ct) ⟨[], [(p2, a), (p1, b)]⟩ = pure [(p1, b), (p2, a)]) : KBinds K fd [p1, p2] [p2, p1] (g21 Value) (g21 V) := by
  obtain ⟨oc, od, kV, doc, pm, an, cdv, ct, osl, rfl, lk, hcd⟩ := F.ex
  refine ⟨fun s us ws _ hl => ?_, fun {vs us zs ws} r1 r2 => ?_⟩
  · match us, ws, hl with
    | [], [a, b], _ => exact .of_eq (h kV doc pm an cdv ct a b)
    | [], [], hl => exact absurd hl (by simp [g21])
    | [], [_], hl => exact absurd hl (by simp [g21])
    | [], _ :: _ :: _ :: _, hl => exact absurd hl (by simp [g21])
    | _ :: _, _, hl => exact absurd hl (by simp [g21])
  · cases r1 with
    | cons _ _ => exact .nil
    | nil =>
      cases r2 with
      | nil => exact .nil
      | cons a t =>
        cases t with
        | nil => exact .nil
        | cons b t =>
          cases t with
          | nil => exact .cons b (.cons a .nil)
          | cons _ _ => exact .nil
theorem kb1 {K : PySem.W.Frag} {x qual : Str} {st : Stmt} {f : Addr} {fd : FuncData} {p1 : Str} (F : Fun K x qual st f fd)
    (h : ∀ (kV doc pm : Value) (an : Option Addr) (cdv ct a : Value), bindArgs (PySem.W.fnOf x qual (defArgs st) (defBody st) (defScope st) .none kV doc pm an cdv ct) ⟨[], [(p1, a)]⟩ = pure [(p1, a)]) : KBinds K fd [p1] [p1] (g1 Value) (g1 V) := by
  obtain ⟨oc, od, kV, doc, pm, an, cdv, ct, osl, rfl, lk, hcd⟩ := F.ex
  refine ⟨fun s us ws _ hl => ?_, fun {vs us zs ws} r1 r2 => ?_⟩
  · match us, ws, hl with
    | [], [a], _ => exact .of_eq (h kV doc pm an cdv ct a)
    | [], [], hl => exact absurd hl (by simp [g1])
    | [], _ :: _ :: _, hl => exact absurd hl (by simp [g1])
    | _ :: _, _, hl => exact absurd hl (by simp [g1])
  · cases r1 with
    | cons _ _ => exact .nil
    | nil =>
      cases r2 with
      | nil => exact .nil
      | cons a t =>
        cases t with
        | nil => exact .cons a .nil
        | cons _ _ => exact .nil
end Lx
/-! texts repeated -/
namespace Lx
open PySem PySem.Spec L2
/-- the signs of a text, n times -/
def rep (x : Str) (n : Nat) : Str := ⟨((List.replicate n x.cps.toList).flatten).toArray⟩
theorem rep_list (x : Str) (n : Nat) : (rep x n).cps.toList = (List.replicate n x.cps.toList).flatten := rfl
theorem rep_len (x : Str) (n : Nat) : (rep x n).length = x.length * n := by
  show ((List.replicate n x.cps.toList).flatten).toArray.size = x.cps.size * n
  rw [List.size_toArray, List.length_flatten, List.map_replicate, List.sum_replicate_nat, Array.length_toList, Nat.mul_comm]
theorem rep_one (x : Str) : rep x 1 = x := by
  have e : (rep x 1).cps.toList = x.cps.toList := by simp [rep_list]
  exact Str.ext' (Array.toList_inj.mp e)
theorem rep_zero (x : Str) : rep x 0 = Str.empty := rfl
theorem fold_rep (a : Array Nat) : ∀ (n : Nat) (b : Array Nat), ((List.replicate n a).foldl (· ++ ·) b).toList = b.toList ++ (List.replicate n a.toList).flatten
  | 0, b => by simp
  | n + 1, b => by
    rw [List.replicate_succ, List.foldl_cons, fold_rep a n, List.replicate_succ, List.flatten_cons, Array.toList_append, List.append_assoc]
theorem rep_fold (x : Str) (n : Nat) : (⟨(List.replicate n x.cps).foldl (· ++ ·) #[]⟩ : Str) = rep x n := by
  have e : ((List.replicate n x.cps).foldl (· ++ ·) #[]).toList = (rep x n).cps.toList := by
    rw [fold_rep, rep_list]; rfl
  exact Str.ext' (Array.toList_inj.mp e)
theorem rep_empty (x : Str) (n : Nat) (h : x.length = 0) : rep x n = x := by
  have e : x.cps.toList = [] := List.eq_nil_of_length_eq_zero (by rw [Array.length_toList]; exact h)
  have e2 : (rep x n).cps.toList = x.cps.toList := by
    rw [rep_list, e]
    induction n with
    | zero => rfl
    | succ n ih => rw [List.replicate_succ, List.flatten_cons, ih]; rfl
  exact Str.ext' (Array.toList_inj.mp e2)
/-- text * k -/
def rRepS : R2 := fun x y H Q => ∃ (z : Str) (k : Int), x = .str z ∧ y = .int k ∧ 0 ≤ k ∧ k < 1000000000 ∧ z.length * k.toNat ≤ sizeLine ∧ Q (.str (rep z k.toNat)) H
theorem op_repS {X : Cx} : OpR X (binaryOp .Mult) rRepS := by
  intro pins s σ H x y v u Q I rx ry h
  obtain ⟨z, k, rfl, rfl, h0, h1, hz, q⟩ := h
  obtain ⟨t, rfl⟩ := rx
  obtain ⟨t', rfl⟩ := ry
  have hlong : PySem.Builtin.Str.tooLong (z.length * k.toNat) = false := by
    unfold PySem.Builtin.Str.tooLong
    exact decide_eq_false (by omega)
  refine P.mul_str (by rw [decide_eq_false (by omega), decide_eq_false (by omega)]; rfl) (fun hk _ => ?_) (fun _ _ => hlong) ?_
  · have e : (z.length : Int) * k ≤ 2 ^ 63 - 1 := by
      have e1 : (z.length : Int) * k = ((z.length * k.toNat : Nat) : Int) := by
        rw [Int.natCast_mul, Int.toNat_of_nonneg h0]
      have e2 : sizeLine ≤ 9223372036854775807 := by rw [sizeLine_eq]; decide
      rw [e1]
      omega
    have hkp : 0 < k := by omega
    have := Int.le_ediv_of_mul_le hkp e
    omega
  · by_cases hk : k < 1
    · rw [if_pos hk]
      have e : k.toNat = 0 := by omega
      rw [e, rep_zero] at q
      exact ⟨by decide, ⟨.str _, H, I.tok _, ⟨_, rfl⟩, q⟩⟩
    · rw [if_neg hk]
      by_cases h2 : (k == 1 || z.length == 0) = true
      · rw [if_pos h2]
        have e : rep z k.toNat = z := by
          rcases Bool.or_eq_true_iff.mp h2 with e | e
          · have e' : k.toNat = 1 := by have := beq_iff_eq.mp e; omega
            rw [e', rep_one]
          · exact rep_empty _ _ (beq_iff_eq.mp e)
        rw [e] at q
        exact ⟨.str _, H, I, ⟨_, rfl⟩, q⟩
      · rw [if_neg h2, rep_fold]
        exact ⟨by rw [rep_len]; exact hz, ⟨.str _, H, I.tok _, ⟨_, rfl⟩, q⟩⟩
end Lx
namespace Lw
open PySem PySem.Spec L2 Lx
theorem same_upd {H : Hp} {p : Addr} {o : HO} (h : H p = none) : Same H (upd H p o) := fun b x e => by
  rw [upd_ne (ne_of_none e h)]
  exact e
abbrev steps : Str := "UDMN"
def ChOk (x : Str) : Prop := ∀ c ∈ x.cps.toList, c ∈ steps.cps.toList
abbrev nothing : Fm := .keep 0 0
def stepF (c : Nat) : Fm := if c = 85 then .keep 0 1 else if c = 68 then .keep 1 0 else if c = 77 then .lf 0 0 1 0 else .cr 0 0 1
def formL (cs : List Nat) : Fm := cs.foldl (fun f c => f.both (stepF c)) nothing
def formOf (x : Str) : Fm := formL x.cps.toList
def FLe (L : Nat) : Fm → Prop
  | .keep b a => 0 ≤ b ∧ b ≤ L ∧ 0 ≤ a ∧ a ≤ L
  | .lf b a k c => 0 ≤ b ∧ b ≤ L ∧ 0 ≤ a ∧ a ≤ L ∧ 0 < k ∧ Sm (13 * L + 1) k ∧ 0 ≤ c ∧ c ≤ L
  | .cr b a k => 0 ≤ b ∧ b ≤ L ∧ 0 ≤ a ∧ a ≤ L ∧ 0 < k ∧ Sm (13 * L + 1) k
theorem sm_le {L : Nat} {x : Int} (h0 : 0 ≤ x) (h : x ≤ L) : Sm (13 * L + 1) x := by
  have h1 : L < 2 ^ L := Nat.lt_two_pow_self
  have h2 : 2 ^ L ≤ 2 ^ (13 * L + 1) := Nat.pow_le_pow_right (by decide) (by omega)
  unfold Sm
  omega
theorem FLe.ok {L : Nat} : ∀ {f : Fm}, FLe L f → f.Ok (13 * L + 1)
  | .keep _ _, ⟨h1, h2, h3, h4⟩ => ⟨h1, h3, sm_le h1 h2, sm_le h3 h4⟩
  | .lf _ _ _ _, ⟨h1, h2, h3, h4, h5, h6, h7, h8⟩ => ⟨h1, h3, h5, h7, sm_le h1 h2, sm_le h3 h4, h6, sm_le h7 h8⟩
  | .cr _ _ _, ⟨h1, h2, h3, h4, h5, h6⟩ => ⟨h1, h3, h5, sm_le h1 h2, sm_le h3 h4, h6⟩
theorem step_cases {c : Nat} (h : c ∈ steps.cps.toList) : stepF c = .keep 0 1 ∨ stepF c = .keep 1 0 ∨ stepF c = .lf 0 0 1 0 ∨ stepF c = .cr 0 0 1 := by
  unfold stepF
  split
  · exact .inl rfl
  · split
    · exact .inr (.inl rfl)
    · split
      · exact .inr (.inr (.inl rfl))
      · exact .inr (.inr (.inr rfl))
theorem sm_mul {L : Nat} {k x : Int} (hk : Sm (13 * L + 1) k) (h0 : 0 ≤ x) (h : x < 8192) : Sm (13 * (L + 1) + 1) (k * x * 1) := by
  have e : Sm 13 x := by
    unfold Sm
    have : (2 : Nat) ^ 13 = 8192 := by decide
    omega
  rw [Int.mul_one]
  exact (hk.mul e).mono (by omega)
theorem sm_up {L : Nat} {k : Int} (hk : Sm (13 * L + 1) k) : Sm (13 * (L + 1) + 1) k := hk.mono (by omega)
theorem pp (x : Int) : 0 ≤ (if x > 0 then x else 0) ∧ ((if x > 0 then x else 0) = x ∨ ((if x > 0 then x else 0) = 0 ∧ x ≤ 0)) := by
  by_cases h : x > 0
  · rw [if_pos h]; omega
  · rw [if_neg h]; omega
theorem FLe.step {L : Nat} (hL : L ≤ 7000) {c : Nat} (hc : c ∈ steps.cps.toList) {f : Fm} (h : FLe L f) : FLe (L + 1) (f.both (stepF c)) := by
  cases f with
  | keep b a =>
    obtain ⟨h1, h2, h3, h4⟩ := h
    have p1 := pp (0 - a)
    have p2 := pp (a - 0)
    have p3 := pp (1 - a)
    have p4 := pp (a - 1)
    have one : Sm (13 * (L + 1) + 1) 1 := sm_le (L := L + 1) (by decide) (by omega)
    rcases step_cases hc with e | e | e | e <;> rw [e] <;> simp only [Fm.both, Fm.ahead, Fm.b, Fm.a, FLe]
    · exact ⟨by omega, by omega, by omega, by omega⟩
    · exact ⟨by omega, by omega, by omega, by omega⟩
    · exact ⟨by omega, by omega, by omega, by omega, by decide, one, by decide, by omega⟩
    · exact ⟨by omega, by omega, by omega, by omega, by decide, one⟩
  | lf b a k d =>
    obtain ⟨h1, h2, h3, h4, h5, h6, h7, h8⟩ := h
    have p1 := pp (d - 0)
    have p2 := pp (d - 1)
    rcases step_cases hc with e | e | e | e <;> rw [e] <;> simp only [Fm.both, Fm.after, Fm.b, Fm.a, FLe]
    · exact ⟨h1, by omega, h3, by omega, h5, sm_up h6, by omega, by omega⟩
    · exact ⟨h1, by omega, h3, by omega, h5, sm_up h6, by omega, by omega⟩
    · refine ⟨h1, by omega, h3, by omega, ?_, sm_mul h6 (by omega) (by omega), by decide, by omega⟩
      rw [Int.mul_one]
      exact Int.mul_pos h5 (by omega)
    · refine ⟨h1, by omega, h3, by omega, ?_, sm_mul h6 (by omega) (by omega)⟩
      rw [Int.mul_one]
      exact Int.mul_pos h5 (by omega)
  | cr b a k =>
    obtain ⟨h1, h2, h3, h4, h5, h6⟩ := h
    rcases step_cases hc with e | e | e | e <;> rw [e] <;> simp only [Fm.both, FLe, Int.mul_one]
    · exact ⟨h1, by omega, h3, by omega, h5, sm_up h6⟩
    · exact ⟨h1, by omega, h3, by omega, h5, sm_up h6⟩
    · exact ⟨h1, by omega, h3, by omega, h5, sm_up h6, by decide, by omega⟩
    · exact ⟨h1, by omega, h3, by omega, h5, sm_up h6⟩
/-- the forms of the steps, and of no step -/
structure StepT (K : PySem.W.Frag) (w : World) (mg : Str → Option Value) (aN aS : Addr) : Prop where
  gN : mg "NOTHING" = some (.ref aN)
  n : ∀ H : Hp, FmAt K H (.ref aN) nothing
  gS : mg "STEP_FORMS" = some (.ref aS)
  s : ∀ c ∈ steps.cps.toList, ∃ v, KDct K w aS ⟨#[c]⟩ v ∧ ∀ H : Hp, FmAt K H v (stepF c)
theorem Same.own {H H' : Hp} {p : Addr} {o : HO} (s : Same H H') (n : H p = none) : Same H (upd H' p o) := fun b x e => by
  rw [upd_ne (ne_of_none e n)]
  exact s b x e
theorem SqT.lstUpd {K : PySem.W.Frag} {H : Hp} {a p : Addr} {xs ys : List V} {o : HO} (h : SqT K H a xs) (e : H p = some (.lst ys)) : SqT K (upd H p o) a xs := by
  have ne : ∀ o', H a = some o' → (∀ zs, o' ≠ .lst zs) → a ≠ p := fun o' h1 h2 z => by
    subst z
    rw [e] at h1
    exact h2 _ (Option.some.inj h1).symm
  rcases h with (h | ⟨q, h⟩) | h
  · exact .inl (.inl (by rw [upd_ne (ne _ h (fun zs z => by cases z))]; exact h))
  · exact .inl (.inr ⟨q, by rw [upd_ne (ne _ h (fun zs z => by cases z))]; exact h⟩)
  · exact .inr h
theorem Prs.lstUpd {K : PySem.W.Frag} {H : Hp} {p : Addr} {ys : List V} {o : HO} (e : H p = some (.lst ys)) : ∀ {vs : List V} {gs : List (Int × Int)}, Prs K H vs gs → Prs K (upd H p o) vs gs
  | _, _, .nil => .nil
  | _, _, .cons ⟨q, h1, h2⟩ t => .cons ⟨q, h1, by rw [upd_ne (ne_of h2 e (by intro z; cases z))]; exact h2⟩ (Prs.lstUpd e t)
theorem Prs.back {K : PySem.W.Frag} {H : Hp} : ∀ {vs : List V} {gs : List (Int × Int)} {x : Int × Int}, Prs K H vs (gs ++ [x]) → ∃ ws v, vs = ws ++ [v] ∧ Prs K H ws gs ∧ PrAt H v x
  | _, [], x, h => by
    cases h with
    | cons h1 t =>
      cases t
      exact ⟨[], _, rfl, .nil, h1⟩
  | _, g :: gs, x, h => by
    cases h with
    | cons h1 t =>
      obtain ⟨ws, v, rfl, a, b⟩ := Prs.back (gs := gs) t
      exact ⟨_ :: ws, v, rfl, .cons h1 a, b⟩
theorem snoc_or {α : Type} : ∀ l : List α, l = [] ∨ ∃ a x, l = a ++ [x]
  | [] => .inl rfl
  | x :: l => by
    rcases snoc_or l with rfl | ⟨a, y, rfl⟩
    · exact .inr ⟨[], x, rfl⟩
    · exact .inr ⟨x :: a, y, rfl⟩
theorem addTo_nil (x : Int × Int) : addTo [] x = [x] := rfl
theorem addTo_snoc (a : List (Int × Int)) (y x : Int × Int) : addTo (a ++ [y]) x = if y.2 = x.2 then a ++ [(y.1 + x.1, x.2)] else a ++ [y] ++ [x] := by
  unfold addTo
  rw [List.getLast?_concat]
  simp
theorem ixN_last {α : Type} (a : List α) (x : α) : ixN (a ++ [x]).length (-1) = some a.length := by
  unfold ixN
  simp
  omega
/-- numbers of groups that may be reckoned with -/
def RnSm (n : Nat) (r : List (Int × Int) × Int) : Prop := (∀ x ∈ r.1, 0 ≤ x.1 ∧ 0 ≤ x.2 ∧ Sm n x.1 ∧ Sm n x.2) ∧ 0 ≤ r.2 ∧ Sm n r.2 ∧ r.1.length ≤ 1000
theorem RnOk.sm {n : Nat} {r : List (Int × Int) × Int} (h : RnOk n r) : RnSm n r := ⟨fun x hx => by
  obtain ⟨i, hi⟩ := List.mem_iff_getElem?.mp hx
  obtain ⟨h1, h2, h3, h4, _⟩ := h.gs i x hi
  exact ⟨by omega, h2, h3, h4⟩, h.rest.1, h.rest.2, h.len⟩
theorem sum_mapV {gs : List (Int × Int)} {f : Fm} : ((gs.map fun x => x.1 * (f.after x.2 + 1))).sum = total (moved f gs) := by
  unfold total moved
  rw [List.map_map]
  rfl
theorem sum_sm {m : Nat} : ∀ (ts : List Int), (∀ t ∈ ts, 0 ≤ t ∧ Sm m t) → 0 ≤ ts.sum ∧ ts.sum ≤ ts.length * (2 ^ m : Nat)
  | [], _ => ⟨by decide, by simp⟩
  | t :: ts, h => by
    obtain ⟨h0, h1⟩ := h t (List.mem_cons_self ..)
    obtain ⟨i0, i1⟩ := sum_sm ts fun x hx => h x (List.mem_cons_of_mem _ hx)
    rw [List.sum_cons, List.length_cons]
    have e : ((ts.length + 1 : Nat) : Int) * (2 ^ m : Nat) = ts.length * (2 ^ m : Nat) + (2 ^ m : Nat) := by
      rw [Int.natCast_add, Int.add_mul]
      simp
    unfold Sm at h1
    rw [e]
    generalize ((ts.length : Nat) : Int) * (2 ^ m : Nat) = T at *
    generalize 2 ^ m = M at *
    omega
theorem units_ok {n : Nat} {r : List (Int × Int) × Int} {f : Fm} (h : RnSm n r) (hf : f.Ok n) : 0 ≤ units r f ∧ Sm (2 * n + 20) (units r f) := by
  have key : ∀ t ∈ (r.1.map fun x => x.1 * (f.after x.2 + 1)), 0 ≤ t ∧ Sm (2 * n + 4) t := by
    intro t ht
    obtain ⟨x, hx, rfl⟩ := List.mem_map.mp ht
    obtain ⟨x1, x2, x3, x4⟩ := h.1 x hx
    have hb := Fm.after_ok hf x2 x4
    have hb2 : Sm (n + 2) (f.after x.2 + 1) := hb.2.add (Nat.lt_of_lt_of_le (by decide : (1 : Int).natAbs < 2 ^ 1) (Nat.pow_le_pow_right (by decide) (by omega)))
    exact ⟨Int.mul_nonneg x1 (by have := hb.1; omega), (x3.mul hb2).mono (by omega)⟩
  obtain ⟨s0, s1⟩ := sum_sm _ key
  rw [sum_mapV] at s0 s1
  rw [List.length_map] at s1
  have hl := h.2.2.2
  have hr0 := h.2.1
  have hr1 : r.2.natAbs < 2 ^ n := h.2.2.1
  have e1 : (r.1.length : Int) * (2 ^ (2 * n + 4) : Nat) ≤ 1000 * (2 ^ (2 * n + 4) : Nat) := Int.mul_le_mul_of_nonneg_right (by omega) (Int.natCast_nonneg _)
  have e2 : 2 ^ (2 * n + 20) = 2 ^ (2 * n + 4) * 65536 := by rw [show 2 * n + 20 = (2 * n + 4) + 16 from rfl, Nat.pow_add]
  have e3 : 2 ^ n ≤ 2 ^ (2 * n + 4) := Nat.pow_le_pow_right (by decide) (by omega)
  unfold units Sm
  rw [e2]
  generalize total (moved f r.1) = T at *
  generalize (r.1.length : Int) * (2 ^ (2 * n + 4) : Nat) = U at *
  generalize 2 ^ (2 * n + 4) = M at *
  generalize 2 ^ n = N at *
  omega
/-- a run that has just been made -/
def NewRn (K : PySem.W.Frag) (H H' : Hp) (v : V) (r : List (Int × Int) × Int) : Prop :=
  ∃ p l xs, v = .ref p ∧ H p = none ∧ H l = none ∧ H' p = some (.tup [.ref l, .int r.2]) ∧ H' l = some (.lst xs) ∧ Prs K H' xs r.1
theorem RnSm.mono {n m : Nat} {r : List (Int × Int) × Int} (h : RnSm n r) (k : n ≤ m) : RnSm m r :=
  ⟨fun x hx => ⟨(h.1 x hx).1, (h.1 x hx).2.1, (h.1 x hx).2.2.1.mono k, (h.1 x hx).2.2.2.mono k⟩, h.2.1, h.2.2.1.mono k, h.2.2.2⟩
theorem NewRn.back {K : PySem.W.Frag} {H0 H H' : Hp} {v : V} {r : List (Int × Int) × Int} (s : Same H0 H) (h : NewRn K H H' v r) : NewRn K H0 H' v r := by
  obtain ⟨p, l, xs, h1, h2, h3, h4⟩ := h
  exact ⟨p, l, xs, h1, s.free h2, s.free h3, h4⟩
def CPowW (i j : Int) : Prop := 0 ≤ j ∧ j ≤ 64 ∧ i.natAbs < 2 ^ 200000
theorem op_powW {X : Cx} : OpR X (binaryOp .Pow) (rI CPowW fun i j => .int (i ^ j.toNat)) := opI fun i j _ _ _ _ _ hc q => by
  refine PyProof.Rows.pow_int hc.1 ?_ q
  have h1 := PySem.Flt.log2_lt_of (by decide : 0 < 200000) hc.2.2
  have h2 : Builtin.Int.intBits i ≤ i.natAbs.log2 + 1 := by
    unfold Builtin.Int.intBits
    split <;> omega
  have h3 : (Builtin.Int.intBits i : Int) ≤ 200000 := by omega
  have h4 := hc.2.1
  have h5 := hc.1
  have h6 : (Builtin.Int.intBits i : Int) * j ≤ 200000 * 64 := by
    refine Int.le_trans (Int.mul_le_mul_of_nonneg_right h3 h5) (Int.mul_le_mul_of_nonneg_left h4 (by decide))
  exact Int.le_trans h6 (by decide)
theorem fm {a b : Int} (hb : 0 < b) : 0 ≤ a.fmod b ∧ a.fmod b < b := by
  rw [Int.fmod_eq_emod_of_nonneg a (Int.le_of_lt hb)]
  exact ⟨Int.emod_nonneg a (by omega), Int.emod_lt_of_pos a hb⟩
theorem pow_sm {x : Int} (h0 : 0 ≤ x) (h : x < 2 ^ 200) {j : Int} (j0 : 0 ≤ j) (j1 : j ≤ 64) : CPowW x j := ⟨j0, j1, by
  have h1 : (x.natAbs : Int) < ((2 ^ 200 : Nat) : Int) := by
    rw [Int.natAbs_of_nonneg h0]
    exact h
  exact Nat.lt_of_lt_of_le (Int.ofNat_lt.mp h1) (Nat.pow_le_pow_right (by decide) (by decide))⟩
theorem cube_sm {x : Int} (h0 : 0 ≤ x) (h : x < 2147483648) : Sm 93 (x ^ Int.toNat 3) := by
  have e : x ^ Int.toNat 3 = x * x * x := by
    show x ^ 3 = _
    rw [Int.pow_succ, Int.pow_succ, Int.pow_succ, Int.pow_zero, Int.one_mul]
  have hx : Sm 31 x := by
    unfold Sm
    have : (2 : Nat) ^ 31 = 2147483648 := by decide
    omega
  rw [e]
  exact (hx.mul hx).mul hx
theorem p61 : (2 : Int) ^ Int.toNat 61 - 1 = 2305843009213693951 := by decide +kernel
theorem p61n : (2 : Int) ^ Int.toNat 61 - 1 ≠ 0 := by decide +kernel
theorem p61p : (0 : Int) < (2 : Int) ^ Int.toNat 61 - 1 := by decide +kernel
theorem p18n : (10 : Int) ^ Int.toNat 18 + 9 ≠ 0 := by decide +kernel
theorem while_fin {c : TT} {tb : TS} {D : Ends} {σ : St} {H : Hp} (Fin : St → Hp → Prop) (h : ∀ R : St → Hp → Prop, (∀ σ H, Fin σ H → R σ H) → tWhile c tb { D with nx := R } σ H) (hf : ∀ σ H, Fin σ H → D.nx σ H) : tWhile c tb D σ H := h D.nx hf
theorem dps {K : PySem.W.Frag} {H : Hp} : ∀ ds : List Int, DpAll K H (ds.map V.int) (ds.map PyData.int)
  | [] => .nil
  | d :: ds => .cons (.int d) (dps ds)
theorem shaped_ints (ds : List Int) : SeqAt.shaped (.list (ds.map .int)) = true := by
  have h1 : ∀ ds : List Int, PyData.canLayAll0 (ds.map .int) = true := fun ds => by
    induction ds with
    | nil => rfl
    | cons d ds ih => simp only [List.map_cons, PyData.canLayAll0, PyData.canLay0, ih, Bool.and_self]
  have h2 : ∀ ds : List Int, PyData.depthAll (ds.map .int) = 0 := fun ds => by
    induction ds with
    | nil => rfl
    | cons d ds ih => simp [PyData.depthAll, PyData.depth, ih]
  unfold SeqAt.shaped
  simp [PyData.canLay0, PyData.depth, h1, h2]
theorem p18 : (10 : Int) ^ Int.toNat 18 = 1000000000000000000 := by decide +kernel
def TT (K : PySem.W.Frag) (H : Hp) (a : Addr) : Prop := (∃ ys, H a = some (.tup ys)) ∨ (∃ o, K.lookup a = some o ∧ o.cls = .type "tuple") ∨ ∃ o ys, H a = some (.frz o (.tup ys))
mutual
inductive Dq (K : PySem.W.Frag) (H : Hp) : V → PyData → Prop
  | non : Dq K H .non .none
  | bl (b : Bool) : Dq K H (.bl b) (.bool b)
  | int (i : Int) : Dq K H (.int i) (.int i)
  | str (x : Str) : Dq K H (.str x) (.str x)
  | lst {a : Addr} {xs : List V} {ds : List PyData} : H a = some (.lst xs) → DqAll K H xs ds → Dq K H (.ref a) (.list ds)
  | tup {a : Addr} {xs : List V} {ds : List PyData} : TT K H a → SqT K H a xs → DqAll K H xs ds → Dq K H (.ref a) (.tuple ds)
inductive DqAll (K : PySem.W.Frag) (H : Hp) : List V → List PyData → Prop
  | nil : DqAll K H [] []
  | cons {v : V} {vs : List V} {d : PyData} {ds : List PyData} : Dq K H v d → DqAll K H vs ds → DqAll K H (v :: vs) (d :: ds)
end
theorem TT.ty {K : PySem.W.Frag} {H : Hp} {a : Addr} : TT K H a → TyX K H (.ref a) (.type "tuple")
  | .inl ⟨_, h⟩ => .base (.tup h)
  | .inr (.inl ⟨_, h, c⟩) => .kTuple h c
  | .inr (.inr ⟨_, _, h⟩) => .fTuple h
theorem SqT.tt {K : PySem.W.Frag} {H : Hp} {a : Addr} {xs : List V} : SqT K H a xs → TT K H a
  | .inl (.inl h) => .inl ⟨_, h⟩
  | .inl (.inr ⟨_, h⟩) => .inr (.inr ⟨_, _, h⟩)
  | .inr ⟨_, _, _, h, c, _⟩ => .inr (.inl ⟨_, h, c⟩)
theorem TT.same {K : PySem.W.Frag} {H H' : Hp} {a : Addr} (s : Same H H') : TT K H a → TT K H' a
  | .inl ⟨ys, h⟩ => .inl ⟨ys, s _ _ h⟩
  | .inr (.inl h) => .inr (.inl h)
  | .inr (.inr ⟨o, ys, h⟩) => .inr (.inr ⟨o, ys, s _ _ h⟩)
mutual
theorem Dq.same {K : PySem.W.Frag} {H H' : Hp} (s : Same H H') : ∀ {v : V} {d : PyData}, Dq K H v d → Dq K H' v d
  | _, _, .non => .non
  | _, _, .bl b => .bl b
  | _, _, .int i => .int i
  | _, _, .str x => .str x
  | _, _, .lst h t => .lst (s _ _ h) (DqAll.same s t)
  | _, _, .tup h1 h2 t => .tup (h1.same s) (sameT s h2) (DqAll.same s t)
theorem DqAll.same {K : PySem.W.Frag} {H H' : Hp} (s : Same H H') : ∀ {vs : List V} {ds : List PyData}, DqAll K H vs ds → DqAll K H' vs ds
  | _, _, .nil => .nil
  | _, _, .cons h t => .cons (Dq.same s h) (DqAll.same s t)
end
mutual
theorem Dq.dp {K : PySem.W.Frag} {H : Hp} : ∀ {v : V} {d : PyData}, Dq K H v d → Dp K H v d
  | _, _, .non => .non
  | _, _, .bl b => .bl b
  | _, _, .int i => .int i
  | _, _, .str x => .str x
  | _, _, .lst h t => .lst (.inl (.inl h)) (DqAll.dp t)
  | _, _, .tup _ h2 t => .tup h2 (DqAll.dp t)
theorem DqAll.dp {K : PySem.W.Frag} {H : Hp} : ∀ {vs : List V} {ds : List PyData}, DqAll K H vs ds → DpAll K H vs ds
  | _, _, .nil => .nil
  | _, _, .cons h t => .cons (Dq.dp h) (DqAll.dp t)
end
theorem DqAll.len {K : PySem.W.Frag} {H : Hp} : ∀ {vs : List V} {ds : List PyData}, DqAll K H vs ds → vs.length = ds.length
  | _, _, .nil => rfl
  | _, _, .cons _ t => by rw [List.length_cons, List.length_cons, DqAll.len t]
theorem DqAll.get {K : PySem.W.Frag} {H : Hp} : ∀ {vs : List V} {ds : List PyData}, DqAll K H vs ds → ∀ {i : Nat} {d : PyData}, ds[i]? = some d → ∃ v, vs[i]? = some v ∧ Dq K H v d
  | _, _, .nil, i, d, h => by simp at h
  | _, _, .cons h1 t, 0, d, h => by
    have e := Option.some.inj h
    subst e
    exact ⟨_, rfl, h1⟩
  | _, _, .cons h1 t, i + 1, d, h => DqAll.get t (i := i) h
mutual
def wd : PyData → Bool
  | .list xs | .tuple xs => decide (xs.length ≤ 5000) && wdAll xs
  | _ => true
def wdAll : List PyData → Bool
  | [] => true
  | x :: xs => wd x && wdAll xs
end
theorem wd_get : ∀ (xs : List PyData) (i : Nat) (x : PyData), wdAll xs = true → xs[i]? = some x → wd x = true
  | [], i, x, _, h => by simp at h
  | y :: ys, 0, x, h, e => by
    cases Option.some.inj e
    simp only [wdAll, Bool.and_eq_true] at h
    exact h.1
  | y :: ys, i + 1, x, h, e => by
    simp only [wdAll, Bool.and_eq_true] at h
    exact wd_get ys i x h.2 e
theorem depth_mem : ∀ (xs : List PyData) (i : Nat) (x : PyData), xs[i]? = some x → PyData.depth x ≤ PyData.depthAll xs := fun xs i x h => PyData.depth_le_depthAll xs x (List.mem_of_getElem? h)
def rIxA (K : PySem.W.Frag) : R2 := fun x y H Q => rIxL K x y H Q ∨ rIxT K x y H Q
theorem ix_any {X : Cx} {K : PySem.W.Frag} (h : X.K = K) : IxR X (rIxA K) := by
  subst h
  exact ix_list.or ix_tup
theorem ixA {K : PySem.W.Frag} {H H' : Hp} {a : Addr} {xs : List V} {j : Int} {i : Nat} {v : V} {Q : VK} (sm : Same H H') (h : SqL K H a xs ∨ SqT K H a xs) (e : j = i) (hv : xs[i]? = some v) (q : Q v H') : rIxA K (.ref a) (.int j) H' Q := by
  subst e
  rcases h with h | h
  · exact .inl ⟨a, xs, _, v, rfl, rfl, sm.seq h, atI_nat hv, q⟩
  · exact .inr ⟨a, xs, _, v, rfl, rfl, sameT sm h, atI_nat hv, q⟩
theorem ix_l {X : Cx} {K : PySem.W.Frag} (h : X.K = K) : IxR X (rIxL K) := by
  subst h
  exact ix_list
theorem far_sm {far : Int} (h0 : 4 ≤ far) (h : far < 2 ^ 97) : far.natAbs < 2 ^ 4000 := by
  have e : far.natAbs < 2 ^ 97 := by omega
  exact Nat.lt_of_lt_of_le e (Nat.pow_le_pow_right (by decide) (by decide))
def pd (gs : List (Int × Int)) : List PyData := gs.map fun x => .tuple [.int x.1, .int x.2]
theorem Prs.dp {K : PySem.W.Frag} {H : Hp} : ∀ {vs : List V} {gs : List (Int × Int)}, Prs K H vs gs → DpAll K H vs (pd gs)
  | _, _, .nil => .nil
  | _, _, .cons ⟨p, e, h⟩ t => by
    subst e
    exact .cons (.tup (.inl (.inl h)) (.cons (.int _) (.cons (.int _) .nil))) (Prs.dp t)
theorem pd_lay (gs : List (Int × Int)) : PyData.canLayAll0 (pd gs) = true := by
  unfold pd
  induction gs with
  | nil => rfl
  | cons g gs ih => simp only [List.map_cons, PyData.canLayAll0, PyData.canLay0, ih, Bool.and_self]
theorem pd_depth (gs : List (Int × Int)) : PyData.depthAll (pd gs) ≤ 1 := by
  unfold pd
  induction gs with
  | nil => simp [PyData.depthAll]
  | cons g gs ih =>
    simp only [List.map_cons, PyData.depthAll, PyData.depth]
    omega
theorem pd_shaped (gs : List (Int × Int)) : SeqAt.shaped (.list (pd gs)) = true := by
  have := pd_depth gs
  unfold SeqAt.shaped
  simp only [PyData.canLay0, pd_lay, PyData.depth, Bool.true_and]
  exact decide_eq_true (by omega)
theorem gsok_snoc {n : Nat} {gs : List (Int × Int)} {x : Int × Int} (h : GsOk n gs) (hl : ∀ a y, gs = a ++ [y] → y.2 ≠ x.2) (hx : 1 ≤ x.1 ∧ 0 ≤ x.2 ∧ Sm n x.1 ∧ Sm n x.2) : GsOk n (gs ++ [x]) := by
  intro i z hz
  by_cases hi : i < gs.length
  · rw [List.getElem?_append_left hi] at hz
    obtain ⟨h1, h2, h3, h4, h5⟩ := h i z hz
    refine ⟨h1, h2, h3, h4, fun y hy => ?_⟩
    by_cases hj : i + 1 < gs.length
    · rw [List.getElem?_append_left hj] at hy
      exact h5 y hy
    · have e : i + 1 = gs.length := by omega
      rw [e, List.getElem?_append_right (Nat.le_refl _), Nat.sub_self] at hy
      cases Option.some.inj hy
      rcases snoc_or gs with rfl | ⟨a, y', rfl⟩
      · simp at hi
      · have ea : i = a.length := by
          simp at e
          omega
        subst ea
        simp at hz
        subst hz
        exact Ne.symm (hl a y' rfl)
  · have hle : gs.length ≤ i := by omega
    rw [List.getElem?_append_right hle] at hz
    have e : i - gs.length = 0 := by
      have := (List.getElem?_eq_some_iff.mp hz).1
      simp at this
      omega
    rw [e] at hz
    cases Option.some.inj hz
    refine ⟨hx.1, hx.2.1, hx.2.2.1, hx.2.2.2, fun y hy => ?_⟩
    have := (List.getElem?_eq_some_iff.mp hy).1
    simp at this
    omega
def sameEnd (gs : List (Int × Int)) (j : Int) : Bool := match gs.getLast? with
  | some y => decide (y.2 = j)
  | none => false
theorem sameEnd_snoc (a : List (Int × Int)) (y : Int × Int) (j : Int) : sameEnd (a ++ [y]) j = decide (y.2 = j) := by
  unfold sameEnd
  rw [List.getLast?_concat]
theorem if_by {c : L2.TT} {A B : TS} {D : Ends} {σ : St} {H : Hp} (b : Bool) (R : Hp → Prop) (hc : ∀ K : Bool → Hp → Prop, (∀ H1, R H1 → K b H1) → c σ H K) (h : ∀ H1, R H1 → if b = true then A D σ H1 else B D σ H1) : tIfS c A B D σ H := hc _ h
theorem ix_t {X : Cx} {K : PySem.W.Frag} (h : X.K = K) : IxR X (rIxT K) := by
  subst h
  exact ix_tup
theorem gsok_front {n : Nat} {a : List (Int × Int)} {y : Int × Int} (h : GsOk n (a ++ [y])) : GsOk n a ∧ (∀ a' z, a = a' ++ [z] → z.2 ≠ y.2) ∧ 1 ≤ y.1 ∧ 0 ≤ y.2 := by
  refine ⟨fun i x hx => ?_, fun a' z e => ?_, ?_⟩
  · have hi := (List.getElem?_eq_some_iff.mp hx).1
    obtain ⟨h1, h2, h3, h4, h5⟩ := h i x (by rw [List.getElem?_append_left hi]; exact hx)
    refine ⟨h1, h2, h3, h4, fun w hw => ?_⟩
    have hi2 := (List.getElem?_eq_some_iff.mp hw).1
    exact h5 w (by rw [List.getElem?_append_left hi2]; exact hw)
  · subst e
    have := (h a'.length z (by simp)).2.2.2.2 y (by simp)
    exact fun q => this q.symm
  · have := h a.length y (by simp)
    exact ⟨this.1, this.2.1⟩
def MI (n t : Nat) (acc : List (Int × Int)) : Prop := GsOk (n + 11) acc ∧ (∀ x ∈ acc, x.1 ≤ (t : Int) * (2 ^ n : Nat)) ∧ acc.length ≤ t
theorem mi_sm {n t : Nat} {x : Int} (ht : t ≤ 1000) (h0 : 0 ≤ x) (h : x ≤ (t : Int) * (2 ^ n : Nat)) : Sm (n + 11) x := by
  have e : 2 ^ (n + 11) = 2 ^ n * 2048 := Nat.pow_add 2 n 11
  have e2 : (t : Int) * (2 ^ n : Nat) ≤ 1000 * (2 ^ n : Nat) := Int.mul_le_mul_of_nonneg_right (by omega) (Int.natCast_nonneg _)
  have e3 : 0 < 2 ^ n := Nat.two_pow_pos n
  unfold Sm
  rw [e]
  generalize (t : Int) * (2 ^ n : Nat) = T at *
  generalize 2 ^ n = M at *
  omega
theorem mi_step {n t : Nat} (ht : t < 1000) {acc : List (Int × Int)} {x : Int × Int} (h : MI n t acc) (x1 : 1 ≤ x.1) (x2 : Sm n x.1) (x3 : 0 ≤ x.2) (x4 : Sm (n + 1) x.2) : MI n (t + 1) (addTo acc x) := by
  obtain ⟨h1, h2, h3⟩ := h
  have hM : ((t + 1 : Nat) : Int) * (2 ^ n : Nat) = (t : Int) * (2 ^ n : Nat) + (2 ^ n : Nat) := by
    rw [Int.natCast_add, Int.add_mul]
    simp
  have hx : x.1 < (2 ^ n : Nat) := by
    unfold Sm at x2
    omega
  have ht0 : 0 ≤ (t : Int) * (2 ^ n : Nat) := Int.mul_nonneg (by omega) (Int.natCast_nonneg _)
  have up : ∀ y ∈ acc, y.1 ≤ ((t + 1 : Nat) : Int) * (2 ^ n : Nat) := fun y hy => by
    have := h2 y hy
    omega
  have xs : Sm (n + 11) x.1 := x2.mono (by omega)
  rcases snoc_or acc with rfl | ⟨a, y, rfl⟩
  · refine ⟨gsok_snoc (gs := []) (fun i z hz => by simp at hz) (fun a y e => by simp at e) ⟨x1, x3, xs, x4.mono (by omega)⟩, fun y hy => ?_, by show 1 ≤ t + 1; omega⟩
    have hy' : y = x := List.mem_singleton.mp hy
    rw [hy', hM]
    omega
  · rw [addTo_snoc]
    by_cases ey : y.2 = x.2
    · rw [if_pos ey]
      obtain ⟨g1, g2, g3, g4⟩ := gsok_front h1
      have hy1 := h2 y (by simp)
      have hs : y.1 + x.1 ≤ ((t + 1 : Nat) : Int) * (2 ^ n : Nat) := by omega
      refine ⟨gsok_snoc g1 (fun a' z e => by show z.2 ≠ x.2; rw [← ey]; exact g2 a' z e) ⟨by show 1 ≤ y.1 + x.1; omega, x3, mi_sm (t := t + 1) (by omega) (by show 0 ≤ y.1 + x.1; omega) hs, x4.mono (by omega)⟩, fun z hz => ?_, by simp only [List.length_append, List.length_cons, List.length_nil] at h3 ⊢; omega⟩
      rcases List.mem_append.mp hz with q | q
      · exact up z (List.mem_append.mpr (.inl q))
      · rw [List.mem_singleton.mp q]
        exact hs
    · rw [if_neg ey]
      refine ⟨gsok_snoc h1 (fun a' z e => by
        have := (List.append_inj' e rfl).2
        cases this
        exact ey) ⟨x1, x3, xs, x4.mono (by omega)⟩, fun z hz => ?_, by simp only [List.length_append, List.length_cons, List.length_nil] at h3 ⊢; omega⟩
      rcases List.mem_append.mp hz with q | q
      · exact up z q
      · rw [List.mem_singleton.mp q, hM]
        omega
theorem mi_fold {n : Nat} : ∀ (gs acc : List (Int × Int)) (t : Nat), t + gs.length ≤ 1000 → (∀ x ∈ gs, 1 ≤ x.1 ∧ Sm n x.1 ∧ 0 ≤ x.2 ∧ Sm (n + 1) x.2) → MI n t acc → MI n (t + gs.length) (gs.foldl addTo acc)
  | [], acc, t, _, _, h => h
  | g :: gs, acc, t, hl, hg, h => by
    have hl' : t + (gs.length + 1) ≤ 1000 := hl
    obtain ⟨g1, g2, g3, g4⟩ := hg g (List.mem_cons_self ..)
    have e := mi_fold gs (addTo acc g) (t + 1) (by omega) (fun x hx => hg x (List.mem_cons_of_mem _ hx)) (mi_step (by omega) h g1 g2 g3 g4)
    have e2 : t + 1 + gs.length = t + (g :: gs).length := by simp; omega
    rw [e2] at e
    exact e
theorem runAfter_ok {n : Nat} {r : List (Int × Int) × Int} {f : Fm} (h : RnOk n r) (hf : f.Ok n) : RnOk (3 * n + 40) (runAfter r f) := by
  have hu := units_ok (RnOk.sm h) hf
  cases f with
  | keep b a =>
    have m := mi_fold (n := n) (moved (.keep b a) r.1) [] 0 (by unfold moved; rw [List.length_map]; have := h.len; omega) (fun x hx => by
      obtain ⟨y, hy, rfl⟩ := List.mem_map.mp hx
      obtain ⟨i, hi⟩ := List.mem_iff_getElem?.mp hy
      obtain ⟨y1, y2, y3, y4, _⟩ := h.gs i y hi
      have := Fm.after_ok hf y2 y4
      exact ⟨y1, y3, this.1, this.2⟩) ⟨(fun i x hx => by simp at hx), (fun x hx => by cases hx), Nat.le_refl _⟩
    obtain ⟨m1, m2, m3⟩ := m
    refine ⟨fun i x hx => ?_, ⟨h.rest.1, h.rest.2.mono (by omega)⟩, ?_⟩
    · obtain ⟨q1, q2, q3, q4, q5⟩ := m1 i x hx
      exact ⟨q1, q2, q3.mono (by omega), q4.mono (by omega), q5⟩
    · have e : (moved (.keep b a) r.1).length = r.1.length := List.length_map ..
      have := h.len
      show (Lx.merged (moved (.keep b a) r.1)).length ≤ 1000
      unfold Lx.merged
      omega
  | lf b a k c =>
    by_cases z : k * units r (.lf b a k c) = 0
    · rw [show runAfter r (.lf b a k c) = ([], 0) from if_pos z]
      exact ⟨fun i x hx => by simp at hx, ⟨by decide, Nat.two_pow_pos _⟩, Nat.zero_le _⟩
    · rw [show runAfter r (.lf b a k c) = ([(k * units r (.lf b a k c), c)], 0) from if_neg z]
      have hp := Int.mul_nonneg (Int.le_of_lt hf.2.2.1) hu.1
      have hs := hf.2.2.2.2.2.2.1.mul hu.2
      exact ⟨gsok_snoc (gs := []) (fun i x hx => by simp at hx) (fun a y e => by simp at e) ⟨by show 1 ≤ k * units r (.lf b a k c); omega, hf.2.2.2.1, hs.mono (by omega), hf.2.2.2.2.2.2.2.mono (by omega)⟩, ⟨(by decide : (0 : Int) ≤ 0), Nat.two_pow_pos _⟩, by show 1 ≤ 1000; decide⟩
  | cr b a k =>
    have hs := hf.2.2.2.2.2.mul hu.2
    exact ⟨fun i x hx => by simp [runAfter] at hx, ⟨Int.mul_nonneg (Int.le_of_lt hf.2.2.1) hu.1, hs.mono (by omega)⟩, Nat.zero_le _⟩
theorem units_nothing {n : Nat} {r : List (Int × Int) × Int} (h : RnSm n r) : (r.1.map fun x => x.1 * (x.2 + 1)).sum + r.2 = units r nothing := by
  have e : moved nothing r.1 = r.1 := by
    unfold moved
    have : ∀ gs : List (Int × Int), (∀ x ∈ gs, 0 ≤ x.2) → gs.map (fun x => (x.1, nothing.after x.2)) = gs := by
      intro gs
      induction gs with
      | nil => intro _; rfl
      | cons g gs ih =>
        intro hg
        have h0 := hg g (List.mem_cons_self ..)
        have e0 : nothing.after g.2 = g.2 := by
          show (if g.2 - 0 > 0 then g.2 - 0 else 0) + 0 = g.2
          have := pp (g.2 - 0)
          omega
        rw [List.map_cons, ih fun x hx => hg x (List.mem_cons_of_mem _ hx), e0]
    exact this r.1 fun x hx => (h.1 x hx).2.1
  unfold units
  rw [e]
  rfl
def RnS (K : PySem.W.Frag) (H : Hp) (v : V) (l : Addr) (g : List (Int × Int) × Int) : Prop := ∃ p xs, v = .ref p ∧ H p = some (.tup [.ref l, .int g.2]) ∧ H l = some (.lst xs) ∧ Prs K H xs g.1
theorem NewRn.s {K : PySem.W.Frag} {H H' : Hp} {v : V} {g : List (Int × Int) × Int} : NewRn K H H' v g → ∃ l, H l = none ∧ RnS K H' v l g := fun ⟨p, l, xs, h1, h2, h3, h4, h5, h6⟩ => ⟨l, h3, p, xs, h1, h4, h5, h6⟩
theorem RnS.same {K : PySem.W.Frag} {H H' : Hp} {v : V} {l : Addr} {g : List (Int × Int) × Int} (s : Same H H') : RnS K H v l g → RnS K H' v l g := fun ⟨p, xs, h1, h2, h3, h4⟩ => ⟨p, xs, h1, s _ _ h2, s _ _ h3, h4.same s⟩
theorem RnS.rn {K : PySem.W.Frag} {H : Hp} {v : V} {l : Addr} {g : List (Int × Int) × Int} : RnS K H v l g → RnAt K H v l g := fun ⟨p, xs, h1, h2, h3, h4⟩ => ⟨p, h1, .inl (.inl h2), xs, .inl (.inl h3), h4⟩
theorem RnS.upd {K : PySem.W.Frag} {H : Hp} {v : V} {l l2 : Addr} {g : List (Int × Int) × Int} {ys : List V} {o : HO} (e : H l2 = some (.lst ys)) (ne : l ≠ l2) : RnS K H v l g → RnS K (upd H l2 o) v l g :=
  fun ⟨p, xs, h1, h2, h3, h4⟩ => ⟨p, xs, h1, by rw [upd_ne (ne_of h2 e (by intro z; cases z))]; exact h2, by rw [upd_ne ne]; exact h3, Prs.lstUpd e h4⟩
theorem RnS.ne {K : PySem.W.Frag} {H : Hp} {v : V} {l p : Addr} {g : List (Int × Int) × Int} (h : RnS K H v l g) (n : H p = none) : l ≠ p := by
  obtain ⟨_, _, _, _, h3, _⟩ := h
  exact ne_of_none h3 n
def rd (g : List (Int × Int) × Int) : PyData := .tuple [.list (pd g.1), .int g.2]
theorem Prs.dq {K : PySem.W.Frag} {H : Hp} : ∀ {vs : List V} {gs : List (Int × Int)}, Prs K H vs gs → DqAll K H vs (pd gs)
  | _, _, .nil => .nil
  | _, _, .cons ⟨p, e, h⟩ t => by
    subst e
    exact .cons (.tup (.inl ⟨_, h⟩) (.inl (.inl h)) (.cons (.int _) (.cons (.int _) .nil))) (Prs.dq t)
theorem RnS.dq {K : PySem.W.Frag} {H : Hp} {v : V} {l : Addr} {g : List (Int × Int) × Int} : RnS K H v l g → Dq K H v (rd g) := fun ⟨p, xs, h1, h2, h3, h4⟩ => by
  subst h1
  exact .tup (.inl ⟨_, h2⟩) (.inl (.inl h2)) (.cons (.lst h3 (Prs.dq h4)) (.cons (.int _) .nil))
def fdt : Fm → PyData
  | .keep b a => .tuple [.str "keep", .int b, .int a]
  | .lf b a k c => .tuple [.str "lf", .int b, .int a, .int k, .int c]
  | .cr b a k => .tuple [.str "cr", .int b, .int a, .int k]
theorem fm_dq {K : PySem.W.Frag} {H : Hp} {p : Addr} {f : Fm} (h : H p = some (.tup f.vs)) : Dq K H (.ref p) (fdt f) := by
  cases f with
  | keep b a => exact .tup (.inl ⟨_, h⟩) (.inl (.inl h)) (.cons (.str _) (.cons (.int _) (.cons (.int _) .nil)))
  | lf b a k c => exact .tup (.inl ⟨_, h⟩) (.inl (.inl h)) (.cons (.str _) (.cons (.int _) (.cons (.int _) (.cons (.int _) (.cons (.int _) .nil)))))
  | cr b a k => exact .tup (.inl ⟨_, h⟩) (.inl (.inl h)) (.cons (.str _) (.cons (.int _) (.cons (.int _) (.cons (.int _) .nil))))
theorem rd_shaped (g : List (Int × Int) × Int) : SeqAt.shaped (rd g) = true := by
  have := pd_depth g.1
  unfold SeqAt.shaped rd
  simp only [PyData.canLay0, PyData.canLayAll0, pd_lay, PyData.depth, PyData.depthAll, Bool.true_and, Bool.and_true]
  exact decide_eq_true (by omega)
theorem pd_wd (gs : List (Int × Int)) : wdAll (pd gs) = true := by
  unfold pd
  induction gs with
  | nil => rfl
  | cons g gs ih => simp only [List.map_cons, wdAll, wd, ih, Bool.and_true, List.length_cons, List.length_nil, Bool.and_self, decide_true]; exact decide_eq_true (by omega)
theorem rd_wd {g : List (Int × Int) × Int} (h : g.1.length ≤ 1000) : wd (rd g) = true := by
  have e : (pd g.1).length = g.1.length := List.length_map ..
  unfold rd
  simp only [wd, wdAll, pd_wd, List.length_cons, List.length_nil, Bool.and_true]
  rw [decide_eq_true (by omega : (pd g.1).length ≤ 5000)]
  simp
theorem rd_depth (g : List (Int × Int) × Int) : (rd g).depth ≤ 3 := by
  have := pd_depth g.1
  unfold rd
  simp only [PyData.depth, PyData.depthAll]
  omega
def shw (g : List (Int × Int) × Int) (f : Fm) : PyData := .list [rd g, fdt f]
theorem sm400 {x : Int} (h : Sm 100 x) : x.natAbs < 2 ^ 400 := Nat.lt_of_lt_of_le h (Nat.pow_le_pow_right (by decide) (by decide))
theorem pd_small : ∀ (gs : List (Int × Int)), (∀ x ∈ gs, Sm 100 x.1 ∧ Sm 100 x.2) → small.smallAll (pd gs) = true
  | [], _ => rfl
  | g :: gs, h => by
    have h1 := h g (List.mem_cons_self ..)
    have ih := pd_small gs fun x hx => h x (List.mem_cons_of_mem _ hx)
    unfold pd at ih ⊢
    simp only [List.map_cons, small.smallAll, small, ih, Bool.and_true]
    rw [decide_eq_true (sm400 h1.1), decide_eq_true (sm400 h1.2)]
    rfl
theorem pd_bulk (gs : List (Int × Int)) : PyData.bulkAll (pd gs) ≤ 20 * gs.length := by
  unfold pd
  induction gs with
  | nil => exact Nat.le_refl _
  | cons g gs ih =>
    simp only [List.map_cons, PyData.bulkAll, PyData.bulk, List.length_cons]
    omega
theorem fdt_small {f : Fm} (h : f.Ok 100) : small (fdt f) = true := by
  cases f with
  | keep b a =>
    obtain ⟨_, _, h1, h2⟩ := h
    simp only [fdt, small, small.smallAll]
    rw [decide_eq_true (sm400 h1), decide_eq_true (sm400 h2)]
    decide
  | lf b a k c =>
    obtain ⟨_, _, _, _, h1, h2, h3, h4⟩ := h
    simp only [fdt, small, small.smallAll]
    rw [decide_eq_true (sm400 h1), decide_eq_true (sm400 h2), decide_eq_true (sm400 h3), decide_eq_true (sm400 h4)]
    decide
  | cr b a k =>
    obtain ⟨_, _, _, h1, h2, h3⟩ := h
    simp only [fdt, small, small.smallAll]
    rw [decide_eq_true (sm400 h1), decide_eq_true (sm400 h2), decide_eq_true (sm400 h3)]
    decide
theorem shw_fit {g : List (Int × Int) × Int} {f : Fm} (h : RnOk 100 g) (hf : f.Ok 100) : Fit (shw g f) := by
  refine fit_small ?_ ?_ ?_
  · have e1 := pd_small g.1 fun x hx => by
      obtain ⟨i, hi⟩ := List.mem_iff_getElem?.mp hx
      exact ⟨(h.gs i x hi).2.2.1, (h.gs i x hi).2.2.2.1⟩
    unfold shw rd
    simp only [small, small.smallAll, e1, fdt_small hf, Bool.and_true, Bool.true_and]
    exact decide_eq_true (sm400 h.rest.2)
  · have e := rd_depth g
    have e2 : (fdt f).depth ≤ 1 := by cases f <;> simp [fdt, PyData.depth, PyData.depthAll]
    unfold shw
    simp only [PyData.depth, PyData.depthAll]
    omega
  · have e := pd_bulk g.1
    have e2 : (fdt f).bulk ≤ 200 := by cases f <;> (simp [fdt, PyData.bulk, PyData.bulkAll]; decide)
    have e3 := h.len
    unfold shw rd
    simp only [PyData.bulk, PyData.bulkAll]
    omega
/-- a def that is called by its name -/
structure Cl (P : Program) (w : World) (K : PySem.W.Frag) (mg : Str → Option Value) (base : Heap) (k : Nat) (nm : Str) (ps : List Str) (sp : Sp) (f : Addr) (fd : FuncData) : Prop where
  G : FnOk P w K mg base CX0 k f fd ps sp
  kp : PySem.W.keepIn K (.ref f) = true
  b : Binds K fd ps []
  g : mg nm = some (.ref f)
theorem upd_keep {H : Hp} {t l b : Addr} {o1 o2 o : HO} (nt : H t = none) (ne : b ≠ l) (h : H b = some o) : upd (upd H t o1) l o2 b = some o := by
  rw [upd_ne ne, upd_ne (ne_of_none h nt)]
  exact h
end Lw
namespace Lw
open PySem PySem.Spec L2 Lx
theorem wh3 : ∀ f : Fm, ¬ (HT.sIx f.vs.length 0 (some 3) = 0 ∧ HT.sIx f.vs.length f.vs.length none = f.vs.length)
  | .keep _ _ => show ¬ (HT.sIx 3 0 (some 3) = 0 ∧ HT.sIx 3 3 none = 3) by decide
  | .lf _ _ _ _ => show ¬ (HT.sIx 5 0 (some 3) = 0 ∧ HT.sIx 5 5 none = 5) by decide
  | .cr _ _ _ => show ¬ (HT.sIx 4 0 (some 3) = 0 ∧ HT.sIx 4 4 none = 4) by decide
theorem vs_len : ∀ f : Fm, f.vs.length ≤ 5
  | .keep _ _ => by show 3 ≤ 5; decide
  | .lf _ _ _ _ => Nat.le_refl 5
  | .cr _ _ _ => by show 4 ≤ 5; decide
def Fm.isKeep : Fm → Bool
  | .keep _ _ => true
  | _ => false
/-- units of one unit -/
def Fm.one : Fm → Fm → Int
  | .lf _ _ _ c, g => g.after c + 1
  | _, _ => 1
theorem nk_k {f : Fm} (h : Fm.isKeep f = false) : ∃ k, f.vs[3]? = some (.int k) := by
  cases f with
  | keep _ _ => cases h
  | lf _ _ k _ => exact ⟨k, rfl⟩
  | cr _ _ k => exact ⟨k, rfl⟩
theorem nk_ok {f : Fm} {n : Nat} {k : Int} (h : Fm.isKeep f = false) (o : f.Ok n) (e : f.vs[3]? = some (.int k)) : 0 < k ∧ Sm n k := by
  cases f with
  | keep _ _ => cases h
  | lf _ _ _ _ => cases e; exact ⟨o.2.2.1, o.2.2.2.2.2.2.1⟩
  | cr _ _ _ => cases e; exact ⟨o.2.2.1, o.2.2.2.2.2⟩
theorem nk_pos {f : Fm} {n : Nat} (h : Fm.isKeep f = false) (o : f.Ok n) : 0 < n := by
  obtain ⟨k, e⟩ := nk_k h
  have h1 := nk_ok h o e
  have h2 : k.natAbs < 2 ^ n := h1.2
  have h3 := h1.1
  rcases Nat.eq_zero_or_pos n with z | z
  · subst z
    omega
  · exact z
theorem one_ok {f g : Fm} {n : Nat} (h : Fm.isKeep f = false) (o : f.Ok n) (og : g.Ok n) : 0 < Fm.one f g ∧ Sm (n + 2) (Fm.one f g) := by
  have h4 : 2 ^ 2 ≤ 2 ^ (n + 2) := Nat.pow_le_pow_right (by decide) (by omega)
  cases f with
  | keep _ _ => cases h
  | lf b a k c =>
    have e := Fm.after_ok og o.2.2.2.1 o.2.2.2.2.2.2.2
    have e2 : 2 ^ (n + 2) = 2 ^ (n + 1) * 2 := Nat.pow_succ 2 (n + 1)
    have e3 : (g.after c).natAbs < 2 ^ (n + 1) := e.2
    have e4 := e.1
    have e5 : 1 ≤ 2 ^ (n + 1) := Nat.one_le_two_pow
    refine ⟨by show 0 < g.after c + 1; omega, ?_⟩
    show (g.after c + 1).natAbs < 2 ^ (n + 2)
    rw [e2]
    generalize 2 ^ (n + 1) = M at *
    omega
  | cr _ _ _ => exact ⟨(by decide : (0 : Int) < 1), Nat.lt_of_lt_of_le (by decide : (1 : Int).natAbs < 2 ^ 2) h4⟩
theorem wh4 : ∀ f : Fm, ¬ (HT.sIx f.vs.length 0 (some 4) = 0 ∧ HT.sIx f.vs.length f.vs.length none = f.vs.length)
  | .keep _ _ => show ¬ (HT.sIx 3 0 (some 4) = 0 ∧ HT.sIx 3 3 none = 3) by decide
  | .lf _ _ _ _ => show ¬ (HT.sIx 5 0 (some 4) = 0 ∧ HT.sIx 5 5 none = 5) by decide
  | .cr _ _ _ => show ¬ (HT.sIx 4 0 (some 4) = 0 ∧ HT.sIx 4 4 none = 4) by decide
/-- the run that a form which keeps no groups makes of so many units -/
def ofUnits (t : Int) : Fm → List (Int × Int) × Int
  | .keep _ _ => ([], 0)
  | .lf _ _ k c => if k * t = 0 then ([], 0) else ([(k * t, c)], 0)
  | .cr _ _ k => ([], k * t)
theorem runAfter_units {r : List (Int × Int) × Int} {f : Fm} (h : Fm.isKeep f = false) : runAfter r f = ofUnits (units r f) f := by
  cases f with
  | keep _ _ => cases h
  | lf _ _ _ _ => rfl
  | cr _ _ _ => rfl
/-- the lengths of forms by their words -/
structure LenT (K : PySem.W.Frag) (w : World) (mg : Str → Option Value) (aL : Addr) : Prop where
  g : mg "FORM_LENGTHS" = some (.ref aL)
  d : ∃ es n, KDict K w aL es n
  keep : ∃ t, PySem.W.nsIn K aL "keep" = some (some (.int 3 t))
  lf : ∃ t, PySem.W.nsIn K aL "lf" = some (some (.int 5 t))
  cr : ∃ t, PySem.W.nsIn K aL "cr" = some (some (.int 4 t))
theorem LenT.at {K : PySem.W.Frag} {w : World} {mg : Str → Option Value} {aL : Addr} (T : LenT K w mg aL) : ∀ f : Fm, ∃ t, PySem.W.nsIn K aL f.nm = some (some (.int f.vs.length t))
  | .keep _ _ => T.keep
  | .lf _ _ _ _ => T.lf
  | .cr _ _ _ => T.cr
theorem cut1 (f : Fm) : cutV f.vs (some 1) none = f.nums.map V.int := by cases f <;> rfl
theorem wh : ∀ f : Fm, ¬ (HT.sIx f.vs.length 0 (some 1) = 0 ∧ HT.sIx f.vs.length f.vs.length none = f.vs.length)
  | .keep _ _ => show ¬ (HT.sIx 3 0 (some 1) = 0 ∧ HT.sIx 3 3 none = 3) by decide
  | .lf _ _ _ _ => show ¬ (HT.sIx 5 0 (some 1) = 0 ∧ HT.sIx 5 5 none = 5) by decide
  | .cr _ _ _ => show ¬ (HT.sIx 4 0 (some 1) = 0 ∧ HT.sIx 4 4 none = 4) by decide
theorem np : ∀ f : Fm, 0 < f.nums.length
  | .keep _ _ => Nat.succ_pos _
  | .lf _ _ _ _ => Nat.succ_pos _
  | .cr _ _ _ => Nat.succ_pos _
theorem nums0 {f : Fm} {n : Nat} (h : f.Ok n) : ∀ x ∈ f.nums, 0 ≤ x := by
  intro x hx
  cases f with
  | keep b a =>
    obtain ⟨h1, h2, _⟩ := h
    simp only [Fm.nums, List.mem_cons, List.not_mem_nil, or_false] at hx
    rcases hx with rfl | rfl <;> assumption
  | lf b a k c =>
    obtain ⟨h1, h2, h3, h4, _⟩ := h
    simp only [Fm.nums, List.mem_cons, List.not_mem_nil, or_false] at hx
    rcases hx with rfl | rfl | rfl | rfl
    · exact h1
    · exact h2
    · omega
    · exact h4
  | cr b a k =>
    obtain ⟨h1, h2, h3, _⟩ := h
    simp only [Fm.nums, List.mem_cons, List.not_mem_nil, or_false] at hx
    rcases hx with rfl | rfl | rfl
    · exact h1
    · exact h2
    · omega
end Lw
namespace Lx
open PySem PySem.Spec L2
/-! ### data that repr can write -/
/-- ints below 2 ^ 400, texts of plain signs -/
def smallB (b : Nat) : PyData → Bool
  | .none | .bool _ => true
  | .int i => decide (i.natAbs < 2 ^ b)
  | .str x => x.cps.toList.all fun c => decide (c < 128)
  | .list xs | .tuple xs => smallAll xs
  | .dict _ => false
where smallAll : List PyData → Bool
  | [] => true
  | x :: xs => smallB b x && smallAll xs
theorem intB_log {b : Nat} (h0 : 0 < b) {i : Int} (h : i.natAbs < 2 ^ b) : i.natAbs.log2 < b := PySem.Flt.log2_lt_of h0 h
theorem intB_shown {b : Nat} (h0 : 0 < b) {i : Int} (h : i.natAbs < 2 ^ b) : (PyData.shown (.int i)).length ≤ b + 1 := by
  have e := int_text_length_le (k := b) h0 (intB_log h0 h)
  show (Str.ofString (toString i)).length ≤ b + 1
  rw [ofString_length]
  omega
mutual
theorem smallB_can {b : Nat} (h0 : 0 < b) (h1 : b ≤ 1900) : ∀ d : PyData, smallB b d = true → d.showable = true
  | .none, _ => rfl
  | .bool _, _ => rfl
  | .int i, h => by
    have e := intB_log h0 (of_decide_eq_true (show decide (i.natAbs < 2 ^ b) = true by simpa only [smallB] using h))
    simp only [PyData.showable]
    exact decide_eq_true (by omega)
  | .str _, _ => rfl
  | .list xs, h => by
    simp only [PyData.showable]
    exact smallB_canAll h0 h1 xs (by simpa only [smallB] using h)
  | .tuple xs, h => by
    simp only [PyData.showable]
    exact smallB_canAll h0 h1 xs (by simpa only [smallB] using h)
  | .dict _, h => by simp [smallB] at h
theorem smallB_canAll {b : Nat} (h0 : 0 < b) (h1 : b ≤ 1900) : ∀ xs : List PyData, smallB.smallAll b xs = true → PyData.showableAll xs = true
  | [], _ => rfl
  | x :: xs, h => by
    have h' : smallB b x = true ∧ smallB.smallAll b xs = true := by simpa only [smallB.smallAll, Bool.and_eq_true] using h
    simp only [PyData.showableAll, Bool.and_eq_true]
    exact ⟨smallB_can h0 h1 x h'.1, smallB_canAll h0 h1 xs h'.2⟩
end
mutual
theorem smallB_no {b : Nat} : ∀ d : PyData, smallB b d = true → d.hasDict = false
  | .none, _ => rfl
  | .bool _, _ => rfl
  | .int i, h => rfl
  | .str _, _ => rfl
  | .list xs, h => by
    simp only [PyData.hasDict]
    exact smallB_noAll xs (by simpa only [smallB] using h)
  | .tuple xs, h => by
    simp only [PyData.hasDict]
    exact smallB_noAll xs (by simpa only [smallB] using h)
  | .dict _, h => by simp [smallB] at h
theorem smallB_noAll {b : Nat} : ∀ xs : List PyData, smallB.smallAll b xs = true → PyData.hasDictAll xs = false
  | [], _ => rfl
  | x :: xs, h => by
    have h' : smallB b x = true ∧ smallB.smallAll b xs = true := by simpa only [smallB.smallAll, Bool.and_eq_true] using h
    simp only [PyData.hasDictAll, Bool.or_eq_false_iff]
    exact ⟨smallB_no x h'.1, smallB_noAll xs h'.2⟩
end
mutual
theorem smallB_leaves {b : Nat} (h0 : 0 < b) (h8 : 8 ≤ b) : ∀ d : PyData, smallB b d = true → d.leavesShort (b + 1) = true
  | .none, _ => rfl
  | .bool _, _ => rfl
  | .int i, h => by
    have e := intB_shown h0 (of_decide_eq_true (show decide (i.natAbs < 2 ^ b) = true by simpa only [smallB] using h))
    simp only [PyData.leavesShort]
    exact decide_eq_true e
  | .str x, h => by
    simp only [PyData.leavesShort, List.all_eq_true, decide_eq_true_eq]
    simp only [smallB, List.all_eq_true, decide_eq_true_eq] at h
    intro c hc
    exact Nat.lt_of_lt_of_le (h c hc) (by decide)
  | .list xs, h => by
    simp only [PyData.leavesShort]
    exact smallB_leavesAll h0 h8 xs (by simpa only [smallB] using h)
  | .tuple xs, h => by
    simp only [PyData.leavesShort]
    exact smallB_leavesAll h0 h8 xs (by simpa only [smallB] using h)
  | .dict _, h => by simp [smallB] at h
theorem smallB_leavesAll {b : Nat} (h0 : 0 < b) (h8 : 8 ≤ b) : ∀ xs : List PyData, smallB.smallAll b xs = true → PyData.leavesShortAll (b + 1) xs = true
  | [], _ => rfl
  | x :: xs, h => by
    have h' : smallB b x = true ∧ smallB.smallAll b xs = true := by simpa only [smallB.smallAll, Bool.and_eq_true] using h
    simp only [PyData.leavesShortAll, Bool.and_eq_true]
    exact ⟨smallB_leaves h0 h8 x h'.1, smallB_leavesAll h0 h8 xs h'.2⟩
end
theorem fit_b {b : Nat} {d : PyData} (h8 : 8 ≤ b) (h1 : b ≤ 1900) (h : smallB b d = true) (hd : d.depth ≤ 40) (hb : (b + 3) * d.bulk + (b + 1) ≤ 16777216) : Fit d := by
  refine ⟨smallB_can (by omega) h1 d h, smallB_no d h, hd, ?_⟩
  have e := PyData.shown_le_bulk (b + 1) (by omega) d (smallB_leaves (by omega) h8 d h)
  rw [sizeLine_eq]
  have e2 : (b + 1 + 2) * d.bulk = (b + 3) * d.bulk := rfl
  omega
end Lx
namespace Lw
open PySem PySem.Spec L2 Lx
/-! ### a chain step by step -/
def stepsL (r : List (Int × Int) × Int) (cs : List Nat) : List (Int × Int) × Int := cs.foldl (fun y c => runAfter y (stepF c)) r
theorem stepsL_snoc (r : List (Int × Int) × Int) (cs : List Nat) (c : Nat) : stepsL r (cs ++ [c]) = runAfter (stepsL r cs) (stepF c) := by
  unfold stepsL
  rw [List.foldl_append]
  rfl
theorem stepsL_append (r : List (Int × Int) × Int) (a b : List Nat) : stepsL r (a ++ b) = stepsL (stepsL r a) b := by
  unfold stepsL
  rw [List.foldl_append]
theorem formL_snoc (cs : List Nat) (c : Nat) : formL (cs ++ [c]) = (formL cs).both (stepF c) := by
  unfold formL
  rw [List.foldl_append]
  rfl
theorem merged_ok {n : Nat} (k : Nat) : ∀ gs : List (Int × Int), gs.length = k → GsOk n gs → Lx.merged gs = gs := by
  induction k with
  | zero =>
    intro gs h _
    rw [List.eq_nil_of_length_eq_zero h]
    rfl
  | succ k ih =>
    intro gs h hg
    rcases snoc_or gs with rfl | ⟨a, y, rfl⟩
    · rfl
    · obtain ⟨h1, h2, _⟩ := gsok_front hg
      rw [merged_snoc, ih a (by simpa using h) h1]
      rcases snoc_or a with rfl | ⟨b, z, rfl⟩
      · rfl
      · rw [addTo_snoc, if_neg (h2 b z rfl)]
theorem after_nothing {j : Int} (h : 0 ≤ j) : nothing.after j = j := by
  show (if j - 0 > 0 then j - 0 else 0) + 0 = j
  have := pp (j - 0)
  omega
theorem moved_nothing {gs : List (Int × Int)} (h : ∀ x ∈ gs, 0 ≤ x.2) : moved nothing gs = gs := by
  unfold moved
  induction gs with
  | nil => rfl
  | cons g gs ih =>
    rw [List.map_cons, ih fun x hx => h x (List.mem_cons_of_mem _ hx), after_nothing (h g (List.mem_cons_self ..))]
theorem runAfter_nothing {n : Nat} {r : List (Int × Int) × Int} (h : RnOk n r) : runAfter r nothing = r := by
  show (Lx.merged (moved nothing r.1), r.2) = r
  rw [moved_nothing (fun x hx => ((RnOk.sm h).1 x hx).2.1), merged_ok _ r.1 rfl h.gs]
theorem conv_form {n : Nat} {r : List (Int × Int) × Int} (h : RnOk n r) (k : Nat) : ∀ cs : List Nat, cs.length = k → runAfter r (formL cs) = stepsL r cs := by
  induction k with
  | zero =>
    intro cs e
    rw [List.eq_nil_of_length_eq_zero e]
    exact runAfter_nothing h
  | succ k ih =>
    intro cs e
    rcases snoc_or cs with rfl | ⟨a, c, rfl⟩
    · exact runAfter_nothing h
    · rw [formL_snoc, ← runAfter_both, ih a (by simpa using e), stepsL_snoc]
theorem conv_of {n : Nat} {r : List (Int × Int) × Int} (h : RnOk n r) (x : Str) : runAfter r (formOf x) = stepsL r x.cps.toList := conv_form h _ _ rfl
/-! ### forms of short chains -/
def FLs (L : Nat) : Fm → Prop
  | .keep b a => 0 ≤ b ∧ b ≤ L ∧ 0 ≤ a ∧ a ≤ L
  | .lf b a k c => 0 ≤ b ∧ b ≤ L ∧ 0 ≤ a ∧ a ≤ L ∧ 0 < k ∧ Sm (6 * L + 1) k ∧ 0 ≤ c ∧ c ≤ L
  | .cr b a k => 0 ≤ b ∧ b ≤ L ∧ 0 ≤ a ∧ a ≤ L ∧ 0 < k ∧ Sm (6 * L + 1) k
theorem sms_le {L : Nat} {x : Int} (h0 : 0 ≤ x) (h : x ≤ L) : Sm (6 * L + 1) x := by
  have h1 : L < 2 ^ L := Nat.lt_two_pow_self
  have h2 : 2 ^ L ≤ 2 ^ (6 * L + 1) := Nat.pow_le_pow_right (by decide) (by omega)
  unfold Sm
  omega
theorem FLs.ok {L : Nat} : ∀ {f : Fm}, FLs L f → f.Ok (6 * L + 1)
  | .keep _ _, ⟨h1, h2, h3, h4⟩ => ⟨h1, h3, sms_le h1 h2, sms_le h3 h4⟩
  | .lf _ _ _ _, ⟨h1, h2, h3, h4, h5, h6, h7, h8⟩ => ⟨h1, h3, h5, h7, sms_le h1 h2, sms_le h3 h4, h6, sms_le h7 h8⟩
  | .cr _ _ _, ⟨h1, h2, h3, h4, h5, h6⟩ => ⟨h1, h3, h5, sms_le h1 h2, sms_le h3 h4, h6⟩
theorem sms_mul {L : Nat} {k x : Int} (hk : Sm (6 * L + 1) k) (h0 : 0 ≤ x) (h : x < 64) : Sm (6 * (L + 1) + 1) (k * x * 1) := by
  have e : Sm 6 x := by
    unfold Sm
    have : (2 : Nat) ^ 6 = 64 := by decide
    omega
  rw [Int.mul_one]
  exact (hk.mul e).mono (by omega)
theorem sms_up {L : Nat} {k : Int} (hk : Sm (6 * L + 1) k) : Sm (6 * (L + 1) + 1) k := hk.mono (by omega)
theorem FLs.step {L : Nat} (hL : L ≤ 60) {c : Nat} (hc : c ∈ steps.cps.toList) {f : Fm} (h : FLs L f) : FLs (L + 1) (f.both (stepF c)) := by
  cases f with
  | keep b a =>
    obtain ⟨h1, h2, h3, h4⟩ := h
    have p1 := pp (0 - a)
    have p2 := pp (a - 0)
    have p3 := pp (1 - a)
    have p4 := pp (a - 1)
    have one : Sm (6 * (L + 1) + 1) 1 := sms_le (L := L + 1) (by decide) (by omega)
    rcases step_cases hc with e | e | e | e <;> rw [e] <;> simp only [Fm.both, Fm.ahead, Fm.b, Fm.a, FLs]
    · exact ⟨by omega, by omega, by omega, by omega⟩
    · exact ⟨by omega, by omega, by omega, by omega⟩
    · exact ⟨by omega, by omega, by omega, by omega, by decide, one, by decide, by omega⟩
    · exact ⟨by omega, by omega, by omega, by omega, by decide, one⟩
  | lf b a k d =>
    obtain ⟨h1, h2, h3, h4, h5, h6, h7, h8⟩ := h
    have p1 := pp (d - 0)
    have p2 := pp (d - 1)
    rcases step_cases hc with e | e | e | e <;> rw [e] <;> simp only [Fm.both, Fm.after, Fm.b, Fm.a, FLs]
    · exact ⟨h1, by omega, h3, by omega, h5, sms_up h6, by omega, by omega⟩
    · exact ⟨h1, by omega, h3, by omega, h5, sms_up h6, by omega, by omega⟩
    · refine ⟨h1, by omega, h3, by omega, ?_, sms_mul h6 (by omega) (by omega), by decide, by omega⟩
      rw [Int.mul_one]
      exact Int.mul_pos h5 (by omega)
    · refine ⟨h1, by omega, h3, by omega, ?_, sms_mul h6 (by omega) (by omega)⟩
      rw [Int.mul_one]
      exact Int.mul_pos h5 (by omega)
  | cr b a k =>
    obtain ⟨h1, h2, h3, h4, h5, h6⟩ := h
    rcases step_cases hc with e | e | e | e <;> rw [e] <;> simp only [Fm.both, FLs, Int.mul_one]
    · exact ⟨h1, by omega, h3, by omega, h5, sms_up h6⟩
    · exact ⟨h1, by omega, h3, by omega, h5, sms_up h6⟩
    · exact ⟨h1, by omega, h3, by omega, h5, sms_up h6, by decide, by omega⟩
    · exact ⟨h1, by omega, h3, by omega, h5, sms_up h6⟩
theorem formL_fls (k : Nat) : ∀ cs : List Nat, cs.length = k → k ≤ 61 → (∀ c ∈ cs, c ∈ steps.cps.toList) → FLs k (formL cs) := by
  induction k with
  | zero =>
    intro cs h _ _
    rw [List.eq_nil_of_length_eq_zero h]
    exact ⟨by decide, by decide, by decide, by decide⟩
  | succ k ih =>
    intro cs h hk hc
    rcases snoc_or cs with rfl | ⟨a, c, rfl⟩
    · simp at h
    · rw [formL_snoc]
      exact (ih a (by simpa using h) (by omega) fun d hd => hc d (List.mem_append.mpr (.inl hd))).step (by omega) (hc c (by simp))
/-! ### lengths -/
theorem addTo_len (a : List (Int × Int)) (x : Int × Int) : (addTo a x).length ≤ a.length + 1 := by
  rcases snoc_or a with rfl | ⟨b, y, rfl⟩
  · exact Nat.le_refl _
  · rw [addTo_snoc]
    split <;> simp
theorem fold_len : ∀ (gs acc : List (Int × Int)), (gs.foldl addTo acc).length ≤ acc.length + gs.length
  | [], acc => Nat.le_refl _
  | g :: gs, acc => by
    have h1 := fold_len gs (addTo acc g)
    have h2 := addTo_len acc g
    rw [List.foldl_cons, List.length_cons]
    omega
theorem runAfter_len (r : List (Int × Int) × Int) (f : Fm) : (runAfter r f).1.length ≤ max r.1.length 1 := by
  cases f with
  | keep b a =>
    have := fold_len (moved (.keep b a) r.1) []
    have e : (moved (.keep b a) r.1).length = r.1.length := List.length_map ..
    show (Lx.merged (moved (.keep b a) r.1)).length ≤ _
    unfold Lx.merged
    rw [e] at this
    simp at this
    omega
  | lf b a k c =>
    show (if k * units r (.lf b a k c) = 0 then (([] : List (Int × Int)), (0 : Int)) else ([(k * units r (.lf b a k c), c)], 0)).1.length ≤ _
    split
    · exact Nat.zero_le _
    · exact Nat.le_max_right ..
  | cr b a k => exact Nat.zero_le _
theorem _root_.Lx.RnOk.mono {n m : Nat} {r : List (Int × Int) × Int} (h : RnOk n r) (k : n ≤ m) : RnOk m r :=
  ⟨fun i x hx => let ⟨h1, h2, h3, h4, h5⟩ := h.gs i x hx; ⟨h1, h2, h3.mono k, h4.mono k, h5⟩, ⟨h.rest.1, h.rest.2.mono k⟩, h.len⟩
/-- a chain of at most sixty steps from a run with numbers below 2 ^ 361 -/
theorem stepsL_ok {n : Nat} {r : List (Int × Int) × Int} (h : RnOk n r) (hn : n ≤ 361) {cs : List Nat} (hl : cs.length ≤ 60) (hc : ∀ c ∈ cs, c ∈ steps.cps.toList) : RnOk 1123 (stepsL r cs) ∧ (stepsL r cs).1.length ≤ max r.1.length 1 := by
  rw [← conv_form h _ cs rfl]
  have f := (formL_fls _ cs rfl (by omega) hc).ok
  exact ⟨runAfter_ok (h.mono hn) (f.mono (by omega)), runAfter_len r _⟩
/-! ### runs that repr can write -/
theorem pd_smallB {b : Nat} : ∀ (gs : List (Int × Int)), (∀ x ∈ gs, Sm b x.1 ∧ Sm b x.2) → smallB.smallAll b (pd gs) = true
  | [], _ => rfl
  | g :: gs, h => by
    have h1 := h g (List.mem_cons_self ..)
    have ih := pd_smallB gs fun x hx => h x (List.mem_cons_of_mem _ hx)
    unfold pd at ih ⊢
    simp only [List.map_cons, smallB.smallAll, smallB, ih, Bool.and_true]
    rw [decide_eq_true (show g.1.natAbs < 2 ^ b from h1.1), decide_eq_true (show g.2.natAbs < 2 ^ b from h1.2)]
    rfl
theorem rd_smallB {b : Nat} {g : List (Int × Int) × Int} (h : RnOk b g) : smallB b (rd g) = true := by
  have e1 := pd_smallB (b := b) g.1 fun x hx => by
    obtain ⟨i, hi⟩ := List.mem_iff_getElem?.mp hx
    exact ⟨(h.gs i x hi).2.2.1, (h.gs i x hi).2.2.2.1⟩
  unfold rd
  simp only [smallB, smallB.smallAll, e1, Bool.and_true, Bool.true_and]
  exact decide_eq_true h.rest.2
theorem pd_bulk3 (gs : List (Int × Int)) : PyData.bulkAll (pd gs) = 3 * gs.length := by
  unfold pd
  induction gs with
  | nil => rfl
  | cons g gs ih =>
    simp only [List.map_cons, PyData.bulkAll, PyData.bulk, List.length_cons]
    omega
theorem rd_bulk (g : List (Int × Int) × Int) : (rd g).bulk = 3 * g.1.length + 2 := by
  have e := pd_bulk3 g.1
  unfold rd
  simp only [PyData.bulk, PyData.bulkAll]
  omega
theorem rd_fit {g : List (Int × Int) × Int} (h : RnOk 1123 g) (hl : g.1.length ≤ 1000) : Fit (rd g) := by
  have e := rd_bulk g
  have e2 := rd_depth g
  exact fit_b (b := 1123) (by decide) (by decide) (rd_smallB h) (by omega) (by omega)
theorem rd2_fit {g h : List (Int × Int) × Int} (h1 : RnOk 1123 g) (h2 : RnOk 1123 h) (hl : g.1.length ≤ 1000) (hl2 : h.1.length ≤ 1000) : Fit (.list [rd g, rd h]) := by
  have e := rd_bulk g
  have e' := rd_bulk h
  have e2 := rd_depth g
  have e2' := rd_depth h
  refine fit_b (b := 1123) (by decide) (by decide) ?_ ?_ ?_
  · simp only [smallB, smallB.smallAll, rd_smallB h1, rd_smallB h2, Bool.and_true]
  · simp only [PyData.depth, PyData.depthAll]
    omega
  · simp only [PyData.bulk, PyData.bulkAll]
    omega
theorem int_fit {x : Int} (h : Sm 1900 x) : Fit (.int x) := by
  refine fit_b (b := 1900) (by decide) (by decide) ?_ (by simp [PyData.depth]) (by simp [PyData.bulk])
  simp only [smallB]
  exact decide_eq_true h
end Lw
namespace Lw
open PySem PySem.Spec L2 Lx
theorem cutS_head (z : Str) (k : Nat) (h : k ≤ z.cps.size) : (cutS z none (some (k : Int))).cps.toList = z.cps.toList.take k := by
  unfold cutS
  have e : z.length = z.cps.size := rfl
  rw [e, HT.sIx_none, HT.sIx_nat, Nat.min_eq_left h]
  simp
theorem cutS_tail (z : Str) (k : Nat) (h : k ≤ z.cps.size) : (cutS z (some (k : Int)) none).cps.toList = z.cps.toList.drop k := by
  unfold cutS
  have e : z.length = z.cps.size := rfl
  rw [e, HT.sIx_none, HT.sIx_nat, Nat.min_eq_left h]
  simp
  exact List.take_of_length_le (by simp)
end Lw
namespace Lw
open PySem PySem.Spec L2 Lx
theorem units_size {g : List (Int × Int) × Int} {f : Fm} (h : RnOk 361 g) (hf : f.Ok 361) : Sm 1600 (units (runAfter g f) nothing) := by
  have hu := units_ok (RnOk.sm h) hf
  cases f with
  | keep b a =>
    rw [units_both]
    have e : (Fm.keep b a).both nothing = .keep b a := by
      have p1 := pp (0 - a)
      have p2 := pp (a - 0)
      have ha := hf.2.1
      show Fm.keep (b + (if 0 - a > 0 then 0 - a else 0)) ((if a - 0 > 0 then a - 0 else 0) + 0) = _
      congr 1 <;> omega
    rw [e]
    exact hu.2.mono (by decide)
  | lf b a k c =>
    by_cases z : k * units g (.lf b a k c) = 0
    · rw [show runAfter g (.lf b a k c) = ([], 0) from if_pos z]
      exact Nat.two_pow_pos _
    · rw [show runAfter g (.lf b a k c) = ([(k * units g (.lf b a k c), c)], 0) from if_neg z, units_one, after_nothing hf.2.2.2.1]
      have h1 := hf.2.2.2.2.2.2.1.mul hu.2
      have h2 : Sm 362 (c + 1) := hf.2.2.2.2.2.2.2.add (Nat.lt_of_lt_of_le (by decide : (1 : Int).natAbs < 2 ^ 1) (Nat.pow_le_pow_right (by decide) (by decide)))
      exact (h1.mul h2).mono (by decide)
  | cr b a k =>
    show Sm 1600 (units ([], k * units g (.cr b a k)) nothing)
    rw [units_none]
    exact (hf.2.2.2.2.2.mul hu.2).mono (by decide)
theorem stepsL_units {n : Nat} {r : List (Int × Int) × Int} (h : RnOk n r) (hn : n ≤ 361) {cs : List Nat} (hl : cs.length ≤ 60) (hc : ∀ c ∈ cs, c ∈ steps.cps.toList) : Sm 1900 (units (stepsL r cs) nothing) := by
  rw [← conv_form h _ cs rfl]
  have f := (formL_fls _ cs rfl (by omega) hc).ok
  exact (units_size (h.mono hn) (f.mono (by omega))).mono (by decide)
end Lw
namespace Lw
open PySem PySem.Spec L2 Lx
/-! ### a dict of draws -/
abbrev bagK (g : Addr) (l t b : Int) : List (Key × V) := [(.inr "great", .ref g), (.inr "left", .int l), (.inr "turn", .int t), (.inr "blend", .int b)]
theorem bag_put_left {g : Addr} {l t b x : Int} : putK (bagK g l t b) (.inr "left") (.int x) = bagK g x t b := by rfl
theorem bag_put_turn {g : Addr} {l t b x : Int} : putK (bagK g l t b) (.inr "turn") (.int x) = bagK g l x b := by rfl
theorem bag_great {g : Addr} {l t b : Int} : valV (bagK g l t b) (.inr "great") = some (.ref g) := by rfl
theorem bag_left {g : Addr} {l t b : Int} : valV (bagK g l t b) (.inr "left") = some (.int l) := by rfl
theorem bag_turn {g : Addr} {l t b : Int} : valV (bagK g l t b) (.inr "turn") = some (.int t) := by rfl
theorem bag_blend {g : Addr} {l t b : Int} : valV (bagK g l t b) (.inr "blend") = some (.int b) := by rfl
def BagAt (H : Hp) (r gl : Addr) (n : Nat) : Prop := ∃ (ds : List Int) (l t b : Int), H r = some (.dK (bagK gl l t b)) ∧ H gl = some (.lst (ds.map V.int)) ∧ (∀ d ∈ ds, 0 ≤ d) ∧ 0 ≤ l ∧ 0 ≤ t ∧ t ≤ n ∧ 0 ≤ b ∧ b < 2305843009213693952 ∧ r ≠ gl
theorem bag_get {H : Hp} {r gl : Addr} {l t b : Int} {k : Str} {v : V} (h : H r = some (.dK (bagK gl l t b))) (e : valV (bagK gl l t b) (.inr k) = some v) : DGet H r (.str k) (some v) := .inl ⟨_, .inr k, .inl h, rfl, e.symm⟩
/-- all but two addresses is as it was -/
def Kb (r gl : Addr) (H H' : Hp) : Prop := ∀ b o, b ≠ r → b ≠ gl → H b = some o → H' b = some o
theorem Kb.refl (r gl : Addr) (H : Hp) : Kb r gl H H := fun _ _ _ _ h => h
theorem Kb.trans {r gl : Addr} {H H1 H2 : Hp} (a : Kb r gl H H1) (b : Kb r gl H1 H2) : Kb r gl H H2 := fun c o h1 h2 h => b c o h1 h2 (a c o h1 h2 h)
theorem Kb.of {r gl : Addr} {H H' : Hp} (s : Same H H') : Kb r gl H H' := fun b o _ _ h => s b o h
theorem Kb.upd_r {r gl : Addr} {H : Hp} {o : HO} : Kb r gl H (upd H r o) := fun b u h1 h2 h => by rw [upd_ne h1]; exact h
theorem Kb.upd_g {r gl : Addr} {H : Hp} {o : HO} : Kb r gl H (upd H gl o) := fun b u h1 h2 h => by rw [upd_ne h2]; exact h
theorem Kb.own {r gl p : Addr} {H H' : Hp} {o : HO} (k : Kb r gl H H') (h : H p = none) : Kb r gl H (upd H' p o) := fun b u h1 h2 e => by
  rw [upd_ne (ne_of_none e h)]
  exact k b u h1 h2 e
theorem BagAt.same {H H' : Hp} {r gl : Addr} {n : Nat} (s : Same H H') : BagAt H r gl n → BagAt H' r gl n := fun ⟨ds, l, t, b, h1, h2, h3⟩ => ⟨ds, l, t, b, s _ _ h1, s _ _ h2, h3⟩
theorem BagAt.mono {H : Hp} {r gl : Addr} {n m : Nat} (k : n ≤ m) : BagAt H r gl n → BagAt H r gl m := fun ⟨ds, l, t, b, h1, h2, h3, h4, h5, h6, h7⟩ => ⟨ds, l, t, b, h1, h2, h3, h4, h5, by omega, h7⟩
theorem BagAt.ne {H : Hp} {r gl p : Addr} {n : Nat} (s : BagAt H r gl n) (h : H p = none) : p ≠ r ∧ p ≠ gl := by
  obtain ⟨_, _, _, _, q1, q2, _⟩ := s
  exact ⟨Ne.symm (ne_of_none q1 h), Ne.symm (ne_of_none q2 h)⟩
theorem BagAt.neT {H : Hp} {r gl p : Addr} {n : Nat} {xs : List V} (s : BagAt H r gl n) (h : H p = some (.tup xs)) : p ≠ r ∧ p ≠ gl := by
  obtain ⟨_, _, _, _, q1, q2, _⟩ := s
  exact ⟨ne_of h q1 (by intro z; cases z), ne_of h q2 (by intro z; cases z)⟩
theorem BagAt.own {H : Hp} {r gl p : Addr} {n : Nat} {o : HO} (s : BagAt H r gl n) (ne : p ≠ r ∧ p ≠ gl) : BagAt (upd H p o) r gl n := by
  obtain ⟨ds, l, t, b, h1, h2, h3⟩ := s
  exact ⟨ds, l, t, b, by rw [upd_ne (Ne.symm ne.1)]; exact h1, by rw [upd_ne (Ne.symm ne.2)]; exact h2, h3⟩
theorem Kb.free {r gl : Addr} {H H' : Hp} {n : Nat} (k : Kb r gl H H') (s : BagAt H' r gl n) {p : Addr} (h : H' p = none) : H p = none := by
  cases e : H p with
  | none => rfl
  | some o =>
    have := k p o (s.ne h).1 (s.ne h).2 e
    rw [h] at this
    cases this
theorem Prs.kb {K : PySem.W.Frag} {H H' : Hp} {r gl : Addr} {n : Nat} (s : BagAt H r gl n) (k : Kb r gl H H') : ∀ {vs : List V} {gs : List (Int × Int)}, Prs K H vs gs → Prs K H' vs gs
  | _, _, .nil => .nil
  | _, _, .cons ⟨p, e, h⟩ t => .cons ⟨p, e, k _ _ (s.neT h).1 (s.neT h).2 h⟩ (Prs.kb s k t)
theorem RnS.kb {K : PySem.W.Frag} {H H' : Hp} {v : V} {l r gl : Addr} {n : Nat} {g : List (Int × Int) × Int} (s : BagAt H r gl n) (k : Kb r gl H H') (ne : l ≠ r ∧ l ≠ gl) : RnS K H v l g → RnS K H' v l g :=
  fun ⟨p, xs, h1, h2, h3, h4⟩ => ⟨p, xs, h1, k _ _ (s.neT h2).1 (s.neT h2).2 h2, k _ _ ne.1 ne.2 h3, Prs.kb s k h4⟩
theorem if_fin {c : L2.TT} {A B : TS} {D : Ends} {σ : St} {H : Hp} (Fin : St → Hp → Prop) (h : ∀ R : St → Hp → Prop, (∀ σ H, Fin σ H → R σ H) → tIfS c A B { D with nx := R } σ H) (hf : ∀ σ H, Fin σ H → D.nx σ H) : tIfS c A B D σ H := h D.nx hf
/-! ### groups of which some may be empty, put together -/
/-- numbers that can be reckoned with -/
def GsSm (n : Nat) (gs : List (Int × Int)) : Prop := ∀ x ∈ gs, 0 ≤ x.1 ∧ 0 ≤ x.2 ∧ Sm n x.1 ∧ Sm n x.2
def reduced (gs : List (Int × Int)) : List (Int × Int) := Lx.merged (gs.filter fun x => decide (x.1 > 0))
theorem reduced_take {gs : List (Int × Int)} {i : Nat} {x : Int × Int} (h : gs[i]? = some x) : reduced (gs.take (i + 1)) = if x.1 > 0 then addTo (reduced (gs.take i)) x else reduced (gs.take i) := by
  unfold reduced
  rw [List.take_succ, h, List.filter_append]
  by_cases hx : x.1 > 0
  · have e : List.filter (fun x : Int × Int => decide (x.1 > 0)) (some x).toList = [x] := by simp [hx]
    rw [if_pos hx, e]
    unfold Lx.merged
    rw [List.foldl_append]
    rfl
  · have e : List.filter (fun x : Int × Int => decide (x.1 > 0)) (some x).toList = [] := by simp [hx]
    rw [if_neg hx, e, List.append_nil]
theorem reduced_all {gs : List (Int × Int)} (h : ∀ x ∈ gs, x.1 > 0) : reduced gs = Lx.merged gs := by
  unfold reduced
  rw [List.filter_eq_self.mpr fun x hx => decide_eq_true (h x hx)]
theorem reduced_ok {n : Nat} {gs : List (Int × Int)} (h : GsSm n gs) (hl : gs.length ≤ 1000) : GsOk (n + 11) (reduced gs) ∧ (reduced gs).length ≤ gs.length := by
  have hf : (gs.filter fun x => decide (x.1 > 0)).length ≤ gs.length := List.length_filter_le ..
  have m := mi_fold (n := n) (gs.filter fun x => decide (x.1 > 0)) [] 0 (by omega) (fun x hx => by
    obtain ⟨h1, h2⟩ := List.mem_filter.mp hx
    have h2 := of_decide_eq_true h2
    obtain ⟨q1, q2, q3, q4⟩ := h x h1
    exact ⟨by omega, q3, q2, q4.mono (by omega)⟩) ⟨(fun i x hx => by simp at hx), (fun x hx => by cases hx), Nat.le_refl _⟩
  obtain ⟨m1, m2, m3⟩ := m
  refine ⟨m1, ?_⟩
  have : (reduced gs).length ≤ 0 + (gs.filter fun x => decide (x.1 > 0)).length := m3
  omega
end Lw
namespace Lw
open PySem PySem.Spec L2 Lx
/-! ### equal data -/
theorem pd_eqv : ∀ (a b : List (Int × Int)), PyData.eqvAll (pd a) (pd b) = decide (a = b)
  | [], [] => rfl
  | [], _ :: _ => rfl
  | _ :: _, [] => rfl
  | x :: xs, y :: ys => by
    have ih := pd_eqv xs ys
    unfold pd at ih ⊢
    simp only [List.map_cons, PyData.eqvAll, PyData.eqv, Bool.and_true, ih]
    obtain ⟨x1, x2⟩ := x
    obtain ⟨y1, y2⟩ := y
    by_cases h1 : x1 = y1 <;> by_cases h2 : x2 = y2 <;> by_cases h3 : xs = ys <;> simp [h1, h2, h3]
theorem rd_eqv (a b : List (Int × Int) × Int) : PyData.eqv (rd a) (rd b) = decide (a = b) := by
  have h := pd_eqv a.1 b.1
  unfold rd
  simp only [PyData.eqv, PyData.eqvAll, h, Bool.and_true]
  obtain ⟨a1, a2⟩ := a
  obtain ⟨b1, b2⟩ := b
  by_cases h1 : a1 = b1 <;> by_cases h2 : a2 = b2 <;> simp [h1, h2]
theorem fm_dp {K : PySem.W.Frag} {H : Hp} {x : V} {f : Fm} : FmAt K H x f → Dp K H x (fdt f) := fun ⟨p, e, h⟩ => by
  subst e
  cases f with
  | keep b a => exact .tup h (.cons (.str _) (.cons (.int _) (.cons (.int _) .nil)))
  | lf b a k c => exact .tup h (.cons (.str _) (.cons (.int _) (.cons (.int _) (.cons (.int _) (.cons (.int _) .nil)))))
  | cr b a k => exact .tup h (.cons (.str _) (.cons (.int _) (.cons (.int _) (.cons (.int _) .nil))))
theorem fdt_shaped (f : Fm) : SeqAt.shaped (fdt f) = true := by
  cases f <;> (unfold SeqAt.shaped fdt; simp [PyData.canLay0, PyData.canLayAll0, PyData.depth, PyData.depthAll]; decide +kernel)
theorem fdt_eqv (f g : Fm) : PyData.eqv (fdt f) (fdt g) = true ↔ f = g := by
  cases f <;> cases g <;> simp [fdt, PyData.eqv, PyData.eqvAll] <;> decide
/-! ### runs in a list -/
inductive Rns (K : PySem.W.Frag) (H : Hp) : List V → List (List (Int × Int) × Int) → Prop
  | nil : Rns K H [] []
  | cons {v : V} {vs : List V} {r : List (Int × Int) × Int} {rs : List (List (Int × Int) × Int)} : (∃ l, RnS K H v l r) → Rns K H vs rs → Rns K H (v :: vs) (r :: rs)
theorem Rns.same {K : PySem.W.Frag} {H H' : Hp} (s : Same H H') : ∀ {vs rs}, Rns K H vs rs → Rns K H' vs rs
  | _, _, .nil => .nil
  | _, _, .cons ⟨l, h⟩ t => .cons ⟨l, h.same s⟩ (t.same s)
theorem Rns.len {K : PySem.W.Frag} {H : Hp} : ∀ {vs rs}, Rns K H vs rs → vs.length = rs.length
  | _, _, .nil => rfl
  | _, _, .cons _ t => by rw [List.length_cons, List.length_cons, t.len]
theorem Rns.get {K : PySem.W.Frag} {H : Hp} : ∀ {vs rs}, Rns K H vs rs → ∀ {i : Nat} {v : V}, vs[i]? = some v → ∃ r l, rs[i]? = some r ∧ RnS K H v l r
  | _, _, .nil, i, v, h => by simp at h
  | _, _, .cons ⟨l, h1⟩ t, 0, v, h => by
    have e := Option.some.inj h
    subst e
    exact ⟨_, l, rfl, h1⟩
  | _, _, .cons h1 t, i + 1, v, h => t.get (i := i) h
theorem Rns.append {K : PySem.W.Frag} {H : Hp} : ∀ {vs ws rs qs}, Rns K H vs rs → Rns K H ws qs → Rns K H (vs ++ ws) (rs ++ qs)
  | _, _, _, _, .nil, h => h
  | _, _, _, _, .cons a t, h => .cons a (t.append h)
/-! ### forms that do the same twice -/
def sizesOf (f : Fm) : List Int := [0, 1, f.b, f.a, f.b + f.a, 2 * f.nums.sum + 5]
def tests (f : Fm) : List (List (Int × Int) × Int) := [([], 1), ([], 3)] ++ (sizesOf f).map fun j => ([(1, j)], 0)
theorem tests_ok {n : Nat} {f : Fm} (h : f.Ok n) : ∀ r ∈ tests f, RnOk (n + 10) r := by
  have hb := h.b0
  have ha := h.a0
  have one : ∀ z : Int, 0 ≤ z → z ≤ 5 → Sm (n + 10) z := fun z h0 h1 => Nat.lt_of_lt_of_le (show z.natAbs < 2 ^ 10 by
    have : (2 : Nat) ^ 10 = 1024 := by decide
    omega) (Nat.pow_le_pow_right (by decide) (by omega))
  have hs : 0 ≤ f.nums.sum ∧ Sm (n + 3) f.nums.sum := by
    have pw : 2 ^ (n + 3) = 2 ^ n * 8 := Nat.pow_add 2 n 3
    cases f with
    | keep b a =>
      obtain ⟨h1, h2, h3, h4⟩ := h
      unfold Sm at *
      simp only [Fm.nums, List.sum_cons, List.sum_nil]
      rw [pw]
      generalize 2 ^ n = M at *
      omega
    | lf b a k c =>
      obtain ⟨h1, h2, h3, h4, h5, h6, h7, h8⟩ := h
      unfold Sm at *
      simp only [Fm.nums, List.sum_cons, List.sum_nil]
      rw [pw]
      generalize 2 ^ n = M at *
      omega
    | cr b a k =>
      obtain ⟨h1, h2, h3, h4, h5, h6⟩ := h
      unfold Sm at *
      simp only [Fm.nums, List.sum_cons, List.sum_nil]
      rw [pw]
      generalize 2 ^ n = M at *
      omega
  have r0 : ∀ e : Int, 0 ≤ e → e ≤ 5 → RnOk (n + 10) ([], e) := fun e e0 e1 => ⟨fun i x hx => by simp at hx, ⟨e0, one e e0 e1⟩, Nat.zero_le _⟩
  have r1 : ∀ j : Int, 0 ≤ j → Sm (n + 10) j → RnOk (n + 10) ([(1, j)], 0) := fun j j0 j1 => ⟨gsok_snoc (gs := []) (fun i x hx => by simp at hx) (fun a y e => by simp at e) ⟨by show (1 : Int) ≤ 1; decide, j0, one 1 (by decide) (by decide), j1⟩, ⟨(by decide : (0 : Int) ≤ 0), one 0 (by decide) (by decide)⟩, by show 1 ≤ 1000; decide⟩
  have m : ∀ {z : Int} {k : Nat}, k ≤ n + 10 → Sm k z → Sm (n + 10) z := fun h1 h2 => h2.mono h1
  have pw4 : Sm (n + 10) (2 * f.nums.sum + 5) := by
    have e : 2 ^ (n + 10) = 2 ^ (n + 3) * 128 := by rw [show n + 10 = (n + 3) + 7 from rfl, Nat.pow_add]
    have e1 : 1 ≤ 2 ^ (n + 3) := Nat.one_le_two_pow
    have h1 := hs.2
    unfold Sm at *
    rw [e]
    generalize 2 ^ (n + 3) = M at *
    omega
  intro r hr
  have hr' : r ∈ [([], 1), ([], 3), ([(1, 0)], 0), ([(1, 1)], 0), ([(1, f.b)], 0), ([(1, f.a)], 0), ([(1, f.b + f.a)], 0), ([(1, 2 * f.nums.sum + 5)], (0 : Int))] := hr
  simp only [List.mem_cons, List.not_mem_nil, or_false] at hr'
  rcases hr' with rfl | rfl | rfl | rfl | rfl | rfl | rfl | rfl
  · exact r0 1 (by decide) (by decide)
  · exact r0 3 (by decide) (by decide)
  · exact r1 0 (by decide) (one 0 (by decide) (by decide))
  · exact r1 1 (by decide) (one 1 (by decide) (by decide))
  · exact r1 _ hb.1 (m (by omega) hb.2)
  · exact r1 _ ha.1 (m (by omega) ha.2)
  · exact r1 _ (by omega) (m (by omega) (hb.2.add ha.2))
  · exact r1 _ (by have := hs.1; omega) pw4
theorem sum_ge {n : Nat} {f : Fm} (h : f.Ok n) : f.b ≤ f.nums.sum := by
  cases f with
  | keep b a =>
    obtain ⟨h1, h2, _⟩ := h
    simp only [Fm.nums, List.sum_cons, List.sum_nil, Fm.b]
    omega
  | lf b a k c =>
    obtain ⟨h1, h2, h3, h4, _⟩ := h
    simp only [Fm.nums, List.sum_cons, List.sum_nil, Fm.b]
    omega
  | cr b a k =>
    obtain ⟨h1, h2, h3, _⟩ := h
    simp only [Fm.nums, List.sum_cons, List.sum_nil, Fm.b]
    omega
theorem run1 (b a j : Int) : runAfter ([(1, j)], 0) (.keep b a) = ([(1, (Fm.keep b a).after j)], 0) := rfl
theorem twice {n : Nat} {f : Fm} (h : f.Ok n) : f.both f = f ↔ ∀ r ∈ tests f, runAfter (runAfter r f) f = runAfter r f := by
  constructor
  · intro e r _
    rw [runAfter_both, e]
  · intro ht
    have t1 := ht ([], 1) (by unfold tests; simp)
    rw [runAfter_both] at t1
    cases f with
    | keep b a =>
      have one : ∀ j : Int, (([(1, j)], 0) : List (Int × Int) × Int) ∈ tests (.keep b a) → ((Fm.keep b a).both (.keep b a)).after j = (Fm.keep b a).after j := fun j hj => by
        have e := ht _ hj
        rw [runAfter_both] at e
        have eb : (Fm.keep b a).both (.keep b a) = .keep (b + if b - a > 0 then b - a else 0) ((if a - b > 0 then a - b else 0) + a) := rfl
        rw [eb] at e ⊢
        rw [run1, run1] at e
        injection e with e1 e2
        injection e1 with e3 e4
        injection e3
      have s1 := one 0 (by unfold tests sizesOf; simp)
      have s2 := one (2 * (Fm.keep b a).nums.sum + 5) (by unfold tests sizesOf; simp)
      have hs := sum_ge h
      obtain ⟨b0, a0, _, _⟩ := h
      have p1 := pp (b - a)
      have p2 := pp (a - b)
      simp only [Fm.both, Fm.ahead, Fm.after, Fm.b, Fm.a, Fm.nums, List.sum_cons, List.sum_nil] at s1 s2 hs ⊢
      generalize (if b - a > 0 then b - a else 0) = A at *
      generalize (if a - b > 0 then a - b else 0) = B at *
      have p3 := pp (0 - (b + A))
      have p4 := pp (0 - b)
      have p5 := pp (2 * (b + (a + 0)) + 5 - (b + A))
      have p6 := pp (2 * (b + (a + 0)) + 5 - b)
      congr 1 <;> omega
    | lf b a k c =>
      obtain ⟨b0, a0, k0, c0, _⟩ := h
      have u0 : 0 ≤ (Fm.lf b a k c).after c := by
        have := pp (c - b)
        show 0 ≤ (if c - b > 0 then c - b else 0) + a
        omega
      have kk : 0 < k * ((Fm.lf b a k c).after c + 1) * k := Int.mul_pos (Int.mul_pos k0 (by omega)) k0
      have un : ∀ g : Fm, units ([], 1) g = 1 := fun g => units_none 1 g
      have e1 : runAfter ([], 1) (.lf b a k c) = ([(k, c)], 0) := by
        show (if k * units ([], 1) (.lf b a k c) = 0 then (([] : List (Int × Int)), (0 : Int)) else ([(k * units ([], 1) (.lf b a k c), c)], 0)) = _
        rw [un, Int.mul_one, if_neg (by omega)]
      have e2 : runAfter ([], 1) ((Fm.lf b a k c).both (.lf b a k c)) = ([(k * ((Fm.lf b a k c).after c + 1) * k, c)], 0) := by
        show (if (k * ((Fm.lf b a k c).after c + 1) * k) * units ([], 1) (.lf b a (k * ((Fm.lf b a k c).after c + 1) * k) c) = 0 then (([] : List (Int × Int)), (0 : Int)) else ([((k * ((Fm.lf b a k c).after c + 1) * k) * units ([], 1) (.lf b a (k * ((Fm.lf b a k c).after c + 1) * k) c), c)], 0)) = _
        rw [un, Int.mul_one, if_neg (by omega)]
      rw [e1, e2] at t1
      injection t1 with t2 t3
      injection t2 with t4 t5
      injection t4 with t6 t7
      show Fm.lf b a (k * ((Fm.lf b a k c).after c + 1) * k) c = _
      rw [t6]
    | cr b a k =>
      have un : ∀ g : Fm, units ([], 1) g = 1 := fun g => units_none 1 g
      have t2 : (([] : List (Int × Int)), (k * 1 * k) * units ([], 1) (.cr b a (k * 1 * k))) = ([], k * units ([], 1) (.cr b a k)) := t1
      rw [un, un, Int.mul_one, Int.mul_one k] at t2
      injection t2 with t3 t4
      show Fm.cr b a (k * 1 * k) = _
      rw [Int.mul_one, t4]
end Lw
namespace Lw
open PySem PySem.Spec L2 Lx
theorem fm_dq' {K : PySem.W.Frag} {H : Hp} {x : V} {f : Fm} : FmAt K H x f → Dq K H x (fdt f) := fun ⟨p, e, h⟩ => by
  subst e
  cases f with
  | keep b a => exact .tup (SqT.tt h) h (.cons (.str _) (.cons (.int _) (.cons (.int _) .nil)))
  | lf b a k c => exact .tup (SqT.tt h) h (.cons (.str _) (.cons (.int _) (.cons (.int _) (.cons (.int _) (.cons (.int _) .nil)))))
  | cr b a k => exact .tup (SqT.tt h) h (.cons (.str _) (.cons (.int _) (.cons (.int _) (.cons (.int _) .nil))))
theorem fdt_self (f : Fm) : PyData.eqv (fdt f) (fdt f) = true := (fdt_eqv f f).mpr rfl
/-! ### joined forms -/
theorem kk_assoc (b a b' a' b'' a'' : Int) (h1 : 0 ≤ a) (h2 : 0 ≤ b') (h3 : 0 ≤ a') (h4 : 0 ≤ b'') :
    (b + (if b' - a > 0 then b' - a else 0)) + (if b'' - ((if a - b' > 0 then a - b' else 0) + a') > 0 then b'' - ((if a - b' > 0 then a - b' else 0) + a') else 0) =
      b + (if (b' + (if b'' - a' > 0 then b'' - a' else 0)) - a > 0 then (b' + (if b'' - a' > 0 then b'' - a' else 0)) - a else 0) ∧
    (if ((if a - b' > 0 then a - b' else 0) + a') - b'' > 0 then ((if a - b' > 0 then a - b' else 0) + a') - b'' else 0) + a'' =
      (if a - (b' + (if b'' - a' > 0 then b'' - a' else 0)) > 0 then a - (b' + (if b'' - a' > 0 then b'' - a' else 0)) else 0) + ((if a' - b'' > 0 then a' - b'' else 0) + a'') := by
  have p1 := pp (b' - a)
  have p2 := pp (a - b')
  have p3 := pp (b'' - a')
  have p4 := pp (a' - b'')
  generalize (if b' - a > 0 then b' - a else 0) = A at *
  generalize (if a - b' > 0 then a - b' else 0) = B at *
  generalize (if b'' - a' > 0 then b'' - a' else 0) = C at *
  generalize (if a' - b'' > 0 then a' - b'' else 0) = D at *
  have p5 := pp (b'' - (B + a'))
  have p6 := pp (B + a' - b'')
  have p7 := pp (b' + C - a)
  have p8 := pp (a - (b' + C))
  generalize (if b'' - (B + a') > 0 then b'' - (B + a') else 0) = E at *
  generalize (if B + a' - b'' > 0 then B + a' - b'' else 0) = F at *
  generalize (if b' + C - a > 0 then b' + C - a else 0) = G at *
  generalize (if a - (b' + C) > 0 then a - (b' + C) else 0) = I at *
  constructor <;> omega
theorem both_assoc {n : Nat} {f g h : Fm} (of : f.Ok n) (og : g.Ok n) (oh : h.Ok n) : (f.both g).both h = f.both (g.both h) := by
  have fa := of.a0.1
  have gb := og.b0.1
  have ga := og.a0.1
  have hb := oh.b0.1
  cases f with
  | keep b a =>
    cases g with
    | keep b' a' =>
      have e := kk_assoc b a b' a' h.b h.a fa gb ga hb
      cases h with
      | keep b'' a'' =>
        show Fm.keep _ _ = Fm.keep _ _
        exact congr (congrArg Fm.keep e.1) e.2
      | lf b'' a'' k'' c'' =>
        show Fm.lf _ _ _ _ = Fm.lf _ _ _ _
        exact congrFun (congrFun (congr (congrArg Fm.lf e.1) e.2) k'') c''
      | cr b'' a'' k'' =>
        show Fm.cr _ _ _ = Fm.cr _ _ _
        exact congrFun (congr (congrArg Fm.cr e.1) e.2) k''
    | lf b' a' k' c' => cases h <;> rfl
    | cr b' a' k' => cases h <;> rfl
  | lf b a k c =>
    cases g with
    | keep b' a' =>
      have e := after_both b' a' h c
      cases h with
      | keep b'' a'' =>
        show Fm.lf b a k _ = Fm.lf b a k _
        exact congrArg (Fm.lf b a k) e
      | lf b'' a'' k'' c'' =>
        show Fm.lf b a (k * ((Fm.lf b'' a'' k'' c'').after ((Fm.keep b' a').after c) + 1) * k'') c'' = Fm.lf b a (k * (((Fm.keep b' a').both (.lf b'' a'' k'' c'')).after c + 1) * k'') c''
        rw [e]
      | cr b'' a'' k'' =>
        show Fm.cr b a (k * ((Fm.cr b'' a'' k'').after ((Fm.keep b' a').after c) + 1) * k'') = Fm.cr b a (k * (((Fm.keep b' a').both (.cr b'' a'' k'')).after c + 1) * k'')
        rw [e]
    | lf b' a' k' c' =>
      cases h with
      | keep b'' a'' => rfl
      | lf b'' a'' k'' c'' =>
        show Fm.lf b a (k * ((Fm.lf b' a' k' c').after c + 1) * k' * ((Fm.lf b'' a'' k'' c'').after c' + 1) * k'') c'' = Fm.lf b a (k * ((Fm.lf b' a' k' c').after c + 1) * (k' * ((Fm.lf b'' a'' k'' c'').after c' + 1) * k'')) c''
        rw [← Int.mul_assoc, ← Int.mul_assoc]
      | cr b'' a'' k'' =>
        show Fm.cr b a (k * ((Fm.lf b' a' k' c').after c + 1) * k' * ((Fm.cr b'' a'' k'').after c' + 1) * k'') = Fm.cr b a (k * ((Fm.lf b' a' k' c').after c + 1) * (k' * ((Fm.cr b'' a'' k'').after c' + 1) * k''))
        rw [← Int.mul_assoc, ← Int.mul_assoc]
    | cr b' a' k' =>
      cases h with
      | keep b'' a'' => rfl
      | lf b'' a'' k'' c'' =>
        show Fm.lf b a (k * ((Fm.cr b' a' k').after c + 1) * k' * 1 * k'') c'' = Fm.lf b a (k * ((Fm.cr b' a' k').after c + 1) * (k' * 1 * k'')) c''
        rw [← Int.mul_assoc, ← Int.mul_assoc]
      | cr b'' a'' k'' =>
        show Fm.cr b a (k * ((Fm.cr b' a' k').after c + 1) * k' * 1 * k'') = Fm.cr b a (k * ((Fm.cr b' a' k').after c + 1) * (k' * 1 * k''))
        rw [← Int.mul_assoc, ← Int.mul_assoc]
  | cr b a k =>
    cases g with
    | keep b' a' =>
      cases h <;> rfl
    | lf b' a' k' c' =>
      cases h with
      | keep b'' a'' => rfl
      | lf b'' a'' k'' c'' =>
        show Fm.lf b a (k * 1 * k' * ((Fm.lf b'' a'' k'' c'').after c' + 1) * k'') c'' = Fm.lf b a (k * 1 * (k' * ((Fm.lf b'' a'' k'' c'').after c' + 1) * k'')) c''
        rw [← Int.mul_assoc, ← Int.mul_assoc]
      | cr b'' a'' k'' =>
        show Fm.cr b a (k * 1 * k' * ((Fm.cr b'' a'' k'').after c' + 1) * k'') = Fm.cr b a (k * 1 * (k' * ((Fm.cr b'' a'' k'').after c' + 1) * k''))
        rw [← Int.mul_assoc, ← Int.mul_assoc]
    | cr b' a' k' =>
      cases h with
      | keep b'' a'' => rfl
      | lf b'' a'' k'' c'' =>
        show Fm.lf b a (k * 1 * k' * 1 * k'') c'' = Fm.lf b a (k * 1 * (k' * 1 * k'')) c''
        rw [← Int.mul_assoc, ← Int.mul_assoc]
      | cr b'' a'' k'' =>
        show Fm.cr b a (k * 1 * k' * 1 * k'') = Fm.cr b a (k * 1 * (k' * 1 * k''))
        rw [← Int.mul_assoc, ← Int.mul_assoc]
theorem both_nothing {n : Nat} {f : Fm} (of : f.Ok n) : f.both nothing = f := by
  have ha := of.a0.1
  cases f with
  | keep b a =>
    have p1 := pp (0 - a)
    have p2 := pp (a - 0)
    show Fm.keep (b + (if 0 - a > 0 then 0 - a else 0)) ((if a - 0 > 0 then a - 0 else 0) + 0) = _
    have ha' : 0 ≤ a := ha
    congr 1 <;> omega
  | lf b a k c =>
    show Fm.lf b a k (nothing.after c) = _
    rw [after_nothing of.2.2.2.1]
  | cr b a k => rfl
theorem nothing_both {n : Nat} {f : Fm} (of : f.Ok n) : nothing.both f = f := by
  have hb := of.b0.1
  have p1 := pp (f.b - 0)
  have p2 := pp (0 - f.b)
  have e1 : 0 + (if f.b - 0 > 0 then f.b - 0 else 0) = f.b := by omega
  have e2 : (if 0 - f.b > 0 then 0 - f.b else 0) + f.a = f.a := by omega
  have e : nothing.both f = Fm.ahead (0 + (if f.b - 0 > 0 then f.b - 0 else 0)) ((if 0 - f.b > 0 then 0 - f.b else 0) + f.a) f := rfl
  rw [e, e1, e2]
  cases f <;> rfl
theorem nothing_ok (n : Nat) : nothing.Ok n := ⟨by decide, by decide, Nat.two_pow_pos n, Nat.two_pow_pos n⟩
theorem both_ok {n : Nat} (hn : 0 < n) {f g : Fm} (of : f.Ok n) (og : g.Ok n) : (f.both g).Ok (3 * n + 3) := by
  have gb := og.b0
  have ga := og.a0
  have o1 : Sm n 1 := Nat.lt_of_lt_of_le (by decide : (1 : Int).natAbs < 2 ^ 1) (Nat.pow_le_pow_right (by decide) hn)
  cases f with
  | keep b a =>
    obtain ⟨b0, a0, sb, sa⟩ := of
    have p1 := pp (g.b - a)
    have p2 := pp (a - g.b)
    have hB : 0 ≤ b + (if g.b - a > 0 then g.b - a else 0) ∧ Sm (3 * n + 3) (b + (if g.b - a > 0 then g.b - a else 0)) := ⟨by omega, (Sm.of_le (by omega) (show b + (if g.b - a > 0 then g.b - a else 0) ≤ b + g.b by omega) (sb.add gb.2)).mono (by omega)⟩
    have hA : 0 ≤ (if a - g.b > 0 then a - g.b else 0) + g.a ∧ Sm (3 * n + 3) ((if a - g.b > 0 then a - g.b else 0) + g.a) := ⟨by omega, (Sm.of_le (by omega) (show (if a - g.b > 0 then a - g.b else 0) + g.a ≤ a + g.a by omega) (sa.add ga.2)).mono (by omega)⟩
    cases g with
    | keep b' a' => exact ⟨hB.1, hA.1, hB.2, hA.2⟩
    | lf b' a' k' c' =>
      obtain ⟨_, _, k0, c0, _, _, sk, sc⟩ := og
      exact ⟨hB.1, hA.1, k0, c0, hB.2, hA.2, sk.mono (by omega), sc.mono (by omega)⟩
    | cr b' a' k' =>
      obtain ⟨_, _, k0, _, _, sk⟩ := og
      exact ⟨hB.1, hA.1, k0, hB.2, hA.2, sk.mono (by omega)⟩
  | lf b a k c =>
    obtain ⟨b0, a0, k0, c0, sb, sa, sk, sc⟩ := of
    have hc := Fm.after_ok og c0 sc
    have hu : 0 < g.after c + 1 ∧ Sm (n + 2) (g.after c + 1) := ⟨by have := hc.1; omega, hc.2.add (o1.mono (Nat.le_succ n))⟩
    cases g with
    | keep b' a' => exact ⟨b0, a0, k0, hc.1, sb.mono (by omega), sa.mono (by omega), sk.mono (by omega), hc.2.mono (by omega)⟩
    | lf b' a' k' c' =>
      obtain ⟨_, _, k0', c0', _, _, sk', sc'⟩ := og
      exact ⟨b0, a0, Int.mul_pos (Int.mul_pos k0 hu.1) k0', c0', sb.mono (by omega), sa.mono (by omega), ((sk.mul hu.2).mul sk').mono (by omega), sc'.mono (by omega)⟩
    | cr b' a' k' =>
      obtain ⟨_, _, k0', _, _, sk'⟩ := og
      exact ⟨b0, a0, Int.mul_pos (Int.mul_pos k0 hu.1) k0', sb.mono (by omega), sa.mono (by omega), ((sk.mul hu.2).mul sk').mono (by omega)⟩
  | cr b a k =>
    obtain ⟨b0, a0, k0, sb, sa, sk⟩ := of
    cases g with
    | keep b' a' => exact ⟨b0, a0, k0, sb.mono (by omega), sa.mono (by omega), sk.mono (by omega)⟩
    | lf b' a' k' c' =>
      obtain ⟨_, _, k0', c0', _, _, sk', sc'⟩ := og
      exact ⟨b0, a0, Int.mul_pos (Int.mul_pos k0 (by decide)) k0', c0', sb.mono (by omega), sa.mono (by omega), ((sk.mul o1).mul sk').mono (by omega), sc'.mono (by omega)⟩
    | cr b' a' k' =>
      obtain ⟨_, _, k0', _, _, sk'⟩ := og
      exact ⟨b0, a0, Int.mul_pos (Int.mul_pos k0 (by decide)) k0', sb.mono (by omega), sa.mono (by omega), ((sk.mul o1).mul sk').mono (by omega)⟩
/-! ### a form many times -/
def fp (f : Fm) : Nat → Fm
  | 0 => nothing
  | n + 1 => (fp f n).both f
theorem fp_ok {m : Nat} {f : Fm} (h : f.Ok m) : ∀ n : Nat, ∃ k, (fp f n).Ok k
  | 0 => ⟨0, nothing_ok 0⟩
  | n + 1 => by
    obtain ⟨k, hk⟩ := fp_ok h n
    exact ⟨_, both_ok (n := max k m + 1) (by omega) (hk.mono (by omega)) (h.mono (by omega))⟩
theorem fp_one {m : Nat} {f : Fm} (h : f.Ok m) : fp f 1 = f := nothing_both h
theorem fp_add {m : Nat} {f : Fm} (h : f.Ok m) (i : Nat) : ∀ j : Nat, (fp f i).both (fp f j) = fp f (i + j)
  | 0 => by
    obtain ⟨k, hk⟩ := fp_ok h i
    exact both_nothing hk
  | j + 1 => by
    obtain ⟨k, hk⟩ := fp_ok h i
    obtain ⟨k', hk'⟩ := fp_ok h j
    show (fp f i).both ((fp f j).both f) = (fp f (i + j)).both f
    rw [← both_assoc (n := max (max k k') m) (hk.mono (by omega)) (hk'.mono (by omega)) (h.mono (by omega)), fp_add h i j]
theorem fp_keep {b a : Int} (b0 : 0 ≤ b) (a0 : 0 ≤ a) : ∀ n : Nat, ∃ B A, fp (.keep b a) n = .keep B A ∧ 0 ≤ B ∧ B ≤ n * b ∧ 0 ≤ A ∧ A ≤ n * a
  | 0 => ⟨0, 0, rfl, by decide, by simp, by decide, by simp⟩
  | n + 1 => by
    obtain ⟨B, A, e, h1, h2, h3, h4⟩ := fp_keep b0 a0 n
    have p1 := pp (b - A)
    have p2 := pp (A - b)
    refine ⟨B + (if b - A > 0 then b - A else 0), (if A - b > 0 then A - b else 0) + a, ?_, by omega, ?_, by omega, ?_⟩
    · show (fp (.keep b a) n).both (.keep b a) = _
      rw [e]
      rfl
    · rw [Int.natCast_add, Int.add_mul]
      simp only [Int.natCast_one, Int.one_mul]
      omega
    · rw [Int.natCast_add, Int.add_mul]
      simp only [Int.natCast_one, Int.one_mul]
      omega
theorem fp_lf {m : Nat} {b a k c : Int} (h : (Fm.lf b a k c).Ok m) (hm : 0 < m) : ∀ n : Nat, ∃ K, fp (.lf b a k c) (n + 1) = .lf b a K c ∧ 0 < K ∧ Sm ((n + 1) * (2 * m + 2)) K
  | 0 => ⟨k, fp_one h, h.2.2.1, h.2.2.2.2.2.2.1.mono (by omega)⟩
  | n + 1 => by
    obtain ⟨K, e, K0, K1⟩ := fp_lf h hm n
    have hc := Fm.after_ok h h.2.2.2.1 h.2.2.2.2.2.2.2
    have o1 : Sm m 1 := Nat.lt_of_lt_of_le (by decide : (1 : Int).natAbs < 2 ^ 1) (Nat.pow_le_pow_right (by decide) hm)
    have hu : 0 < (Fm.lf b a k c).after c + 1 ∧ Sm (m + 2) ((Fm.lf b a k c).after c + 1) := ⟨by have := hc.1; omega, hc.2.add (o1.mono (Nat.le_succ m))⟩
    refine ⟨K * ((Fm.lf b a k c).after c + 1) * k, ?_, Int.mul_pos (Int.mul_pos K0 hu.1) h.2.2.1, ((K1.mul hu.2).mul h.2.2.2.2.2.2.1).mono ?_⟩
    · show (fp (.lf b a k c) (n + 1)).both (.lf b a k c) = _
      rw [e]
      rfl
    · have : (n + 1 + 1) * (2 * m + 2) = (n + 1) * (2 * m + 2) + (2 * m + 2) := by rw [Nat.add_mul (n + 1) 1, Nat.one_mul]
      omega
theorem fp_cr {m : Nat} {b a k : Int} (h : (Fm.cr b a k).Ok m) (hm : 0 < m) : ∀ n : Nat, ∃ K, fp (.cr b a k) (n + 1) = .cr b a K ∧ 0 < K ∧ Sm ((n + 1) * (2 * m + 2)) K
  | 0 => ⟨k, fp_one h, h.2.2.1, h.2.2.2.2.2.mono (by omega)⟩
  | n + 1 => by
    obtain ⟨K, e, K0, K1⟩ := fp_cr h hm n
    have o1 : Sm m 1 := Nat.lt_of_lt_of_le (by decide : (1 : Int).natAbs < 2 ^ 1) (Nat.pow_le_pow_right (by decide) hm)
    refine ⟨K * 1 * k, ?_, Int.mul_pos (Int.mul_pos K0 (by decide)) h.2.2.1, ((K1.mul o1).mul h.2.2.2.2.2).mono ?_⟩
    · show (fp (.cr b a k) (n + 1)).both (.cr b a k) = _
      rw [e]
      rfl
    · have : (n + 1 + 1) * (2 * m + 2) = (n + 1) * (2 * m + 2) + (2 * m + 2) := by rw [Nat.add_mul (n + 1) 1, Nat.one_mul]
      omega
/-- how often a form may be repeated here -/
def Often (f : Fm) (n : Nat) : Prop := n ≤ 100 ∨ (Fm.isKeep f = true ∧ n ≤ 2 ^ 100)
theorem Often.le {f : Fm} {n m : Nat} (h : Often f n) (k : m ≤ n) : Often f m := by
  rcases h with h | ⟨h1, h2⟩
  · exact .inl (by omega)
  · exact .inr ⟨h1, Nat.le_trans k h2⟩
theorem fp_sm {m : Nat} {f : Fm} (h : f.Ok m) (hm : 0 < m) (hm2 : m ≤ 440) {n : Nat} (o : Often f n) : (fp f n).Ok 90000 := by
  cases f with
  | keep b a =>
    obtain ⟨b0, a0, sb, sa⟩ := h
    obtain ⟨B, A, e, h1, h2, h3, h4⟩ := fp_keep b0 a0 n
    have hn : n ≤ 2 ^ 100 := by
      rcases o with o | o
      · exact Nat.le_trans o (by decide +kernel)
      · exact o.2
    have sn : Sm 101 (n : Int) := by
      unfold Sm
      have : (2 : Nat) ^ 101 = 2 ^ 100 * 2 := Nat.pow_succ ..
      omega
    rw [e]
    exact ⟨h1, h3, (Sm.of_le h1 h2 (sn.mul sb)).mono (by omega), (Sm.of_le h3 h4 (sn.mul sa)).mono (by omega)⟩
  | lf b a k c =>
    have hn : n ≤ 100 := by
      rcases o with o | o
      · exact o
      · cases o.1
    cases n with
    | zero => exact nothing_ok _
    | succ n =>
      obtain ⟨K, e, K0, K1⟩ := fp_lf h hm n
      obtain ⟨b0, a0, k0, c0, sb, sa, sk, sc⟩ := h
      rw [e]
      have : (n + 1) * (2 * m + 2) ≤ 100 * 882 := Nat.mul_le_mul (by omega) (by omega)
      exact ⟨b0, a0, K0, c0, sb.mono (by omega), sa.mono (by omega), K1.mono (by omega), sc.mono (by omega)⟩
  | cr b a k =>
    have hn : n ≤ 100 := by
      rcases o with o | o
      · exact o
      · cases o.1
    cases n with
    | zero => exact nothing_ok _
    | succ n =>
      obtain ⟨K, e, K0, K1⟩ := fp_cr h hm n
      obtain ⟨b0, a0, k0, sb, sa, sk⟩ := h
      rw [e]
      have : (n + 1) * (2 * m + 2) ≤ 100 * 882 := Nat.mul_le_mul (by omega) (by omega)
      exact ⟨b0, a0, K0, sb.mono (by omega), sa.mono (by omega), K1.mono (by omega)⟩
end Lw
namespace Lw
open PySem PySem.Spec L2 Lx
/-! ### chains put together -/
theorem formL_fle (k : Nat) : ∀ cs : List Nat, cs.length = k → k ≤ 7000 → (∀ c ∈ cs, c ∈ steps.cps.toList) → FLe k (formL cs) := by
  induction k with
  | zero =>
    intro cs e _ _
    rw [List.eq_nil_of_length_eq_zero e]
    exact ⟨by decide, by decide, by decide, by decide⟩
  | succ k ih =>
    intro cs e hk hc
    rcases snoc_or cs with rfl | ⟨ds, c, rfl⟩
    · cases e
    · have ed : ds.length = k := by simpa using e
      have h := ih ds ed (by omega) fun x hx => hc x (List.mem_append.mpr (.inl hx))
      have e2 : formL (ds ++ [c]) = (formL ds).both (stepF c) := by unfold formL; rw [List.foldl_append]; rfl
      rw [e2]
      exact h.step (by omega) (hc c (by simp))
theorem step_ok {c : Nat} (h : c ∈ steps.cps.toList) {n : Nat} (hn : 0 < n) : (stepF c).Ok n := by
  have one : Sm n 1 := Nat.lt_of_lt_of_le (by decide : (1 : Int).natAbs < 2 ^ 1) (Nat.pow_le_pow_right (by decide) hn)
  have zer : Sm n 0 := Nat.two_pow_pos n
  rcases step_cases h with e | e | e | e <;> rw [e]
  · exact ⟨by decide, by decide, zer, one⟩
  · exact ⟨by decide, by decide, one, zer⟩
  · exact ⟨by decide, by decide, by decide, by decide, zer, zer, one, zer⟩
  · exact ⟨by decide, by decide, by decide, zer, zer, one⟩
theorem formL_app7 (a : List Nat) (ha : ∀ c ∈ a, c ∈ steps.cps.toList) (n : Nat) : ∀ b : List Nat, b.length = n → (∀ c ∈ b, c ∈ steps.cps.toList) → a.length + b.length ≤ 7000 → formL (a ++ b) = (formL a).both (formL b) := by
  induction n with
  | zero =>
    intro b e _ hl
    rw [List.eq_nil_of_length_eq_zero e, List.append_nil]
    exact (both_nothing (formL_fle _ a rfl (by omega) ha).ok).symm
  | succ n ih =>
    intro b e hb hl
    rcases snoc_or b with rfl | ⟨ds, c, rfl⟩
    · cases e
    · have ed : ds.length = n := by simpa using e
      have hd : ∀ x ∈ ds, x ∈ steps.cps.toList := fun x hx => hb x (List.mem_append.mpr (.inl hx))
      have hc := hb c (by simp)
      have hl2 : (ds ++ [c]).length = ds.length + 1 := by simp
      have e2 : ∀ xs : List Nat, formL (xs ++ [c]) = (formL xs).both (stepF c) := fun xs => by unfold formL; rw [List.foldl_append]; rfl
      rw [← List.append_assoc, e2, ih ds ed hd (by omega), e2]
      have oa := (formL_fle _ a rfl (by omega) ha).ok
      have ob := (formL_fle _ ds rfl (by omega) hd).ok
      refine both_assoc (n := 13 * 7000 + 1) (oa.mono (by omega)) (ob.mono (by omega)) (step_ok hc (by omega))
theorem formOf_app {x y : Str} (hx : ChOk x) (hy : ChOk y) (hl : x.cps.size + y.cps.size ≤ 7000) : formOf (x ++ y) = (formOf x).both (formOf y) := by
  have e : (x ++ y).cps.toList = x.cps.toList ++ y.cps.toList := Array.toList_append ..
  unfold formOf
  rw [e]
  exact formL_app7 _ hx _ _ rfl hy (by rw [Array.length_toList, Array.length_toList]; exact hl)
theorem ChOk.app {x y : Str} (hx : ChOk x) (hy : ChOk y) : ChOk (x ++ y) := fun c hc => by
  have e : (x ++ y).cps.toList = x.cps.toList ++ y.cps.toList := Array.toList_append ..
  rw [e] at hc
  rcases List.mem_append.mp hc with h | h
  · exact hx c h
  · exact hy c h
theorem app_sz (x y : Str) : (x ++ y).cps.size = x.cps.size + y.cps.size := Array.size_append ..
theorem formOf_fle {x : Str} (hx : ChOk x) (hl : x.cps.size ≤ 7000) : FLe x.cps.size (formOf x) := formL_fle _ _ (Array.length_toList ..) hl hx
theorem formOf_ok {x : Str} (hx : ChOk x) (hl : x.cps.size ≤ 7000) : (formOf x).Ok 91001 := (formOf_fle hx hl).ok.mono (by omega)
/-! ### copies by name -/
inductive Ents (K : PySem.W.Frag) (H : Hp) : List (Key × V) → List (Str × Str) → Prop
  | nil : Ents K H [] []
  | cons {kvs : List (Key × V)} {zs : List (Str × Str)} {v : V} {n z : Str} : FmAt K H v (formOf z) → Ents K H kvs zs → Ents K H ((.inr n, v) :: kvs) ((n, z) :: zs)
theorem Ents.same {K : PySem.W.Frag} {H H' : Hp} (s : ∀ v f, FmAt K H v f → FmAt K H' v f) : ∀ {kvs : List (Key × V)} {zs : List (Str × Str)}, Ents K H kvs zs → Ents K H' kvs zs
  | _, _, .nil => .nil
  | _, _, .cons h t => .cons (s _ _ h) (t.same s)
theorem Ents.len {K : PySem.W.Frag} {H : Hp} : ∀ {kvs : List (Key × V)} {zs : List (Str × Str)}, Ents K H kvs zs → kvs.length = zs.length
  | _, _, .nil => rfl
  | _, _, .cons _ t => by rw [List.length_cons, List.length_cons, t.len]
theorem Ents.get {K : PySem.W.Frag} {H : Hp} {n z : Str} : ∀ {kvs : List (Key × V)} {zs : List (Str × Str)}, Ents K H kvs zs → zs.lookup n = some z → ∃ v, valV kvs (.inr n) = some v ∧ FmAt K H v (formOf z)
  | _, _, .nil, e => by cases e
  | _, _, .cons (n := m) (z := y) (v := v) (kvs := kvs) (zs := zs) h t, e => by
    by_cases c : m = n
    · subst c
      rw [List.lookup_cons_self] at e
      cases e
      exact ⟨v, valV_pos rfl, h⟩
    · rw [List.lookup_cons, show (n == m) = false from beq_false_of_ne (Ne.symm c)] at e
      obtain ⟨u, h1, h2⟩ := Ents.get t e
      exact ⟨u, (valV_neg (fun z => c (Sum.inr.inj z))).trans h1, h2⟩
/-- in its place, or at the end -/
def putZ : List (Str × Str) → Str → Str → List (Str × Str)
  | [], n, z => [(n, z)]
  | (m, y) :: r, n, z => if m = n then (m, z) :: r else (m, y) :: putZ r n z
theorem putZ_len : ∀ (zs : List (Str × Str)) (n z : Str), (putZ zs n z).length ≤ zs.length + 1
  | [], _, _ => Nat.le_refl _
  | (m, y) :: r, n, z => by
    have := putZ_len r n z
    unfold putZ
    split
    · exact Nat.le_succ _
    · show _ + 1 ≤ _ + 1 + 1
      omega
theorem putZ_get (n z m : Str) : ∀ zs : List (Str × Str), (putZ zs n z).lookup m = if m = n then some z else zs.lookup m
  | [] => by
    show List.lookup m [(n, z)] = _
    rw [List.lookup_cons]
    by_cases c : m = n
    · subst c
      simp
    · rw [show (m == n) = false from beq_false_of_ne c, if_neg c]
  | (k, y) :: r => by
    unfold putZ
    by_cases c : k = n
    · subst c
      rw [if_pos rfl, List.lookup_cons, List.lookup_cons]
      by_cases d : m = k
      · subst d
        simp
      · rw [show (m == k) = false from beq_false_of_ne d, if_neg d]
    · rw [if_neg c, List.lookup_cons, List.lookup_cons, putZ_get n z m r]
      by_cases d : m = k
      · subst d
        rw [if_neg c]
        simp [c]
      · rw [show (m == k) = false from beq_false_of_ne d]
/-- no name twice -/
def NdZ (zs : List (Str × Str)) : Prop := (zs.map Prod.fst).Nodup
theorem map_same {kvs : List (Key × V)} {n : Str} {v : V} (h : ∀ kv ∈ kvs, kv.1 ≠ .inr n) : kvs.map (fun kv => if kv.1 = .inr n then (kv.1, v) else kv) = kvs := by
  induction kvs with
  | nil => rfl
  | cons p r ih =>
    rw [List.map_cons, ih fun kv hkv => h kv (List.mem_cons_of_mem _ hkv), if_neg (h p (List.mem_cons_self ..))]
theorem Ents.keys {K : PySem.W.Frag} {H : Hp} {n : Str} : ∀ {kvs : List (Key × V)} {zs : List (Str × Str)}, Ents K H kvs zs → n ∉ zs.map Prod.fst → ∀ kv ∈ kvs, kv.1 ≠ .inr n
  | _, _, .nil, _, kv, hkv => by cases hkv
  | _, _, .cons (n := m) h t, hn, kv, hkv => by
    rcases List.mem_cons.mp hkv with rfl | hkv
    · exact fun e => hn (List.mem_cons.mpr (.inl (Sum.inr.inj e).symm))
    · exact Ents.keys t (fun e => hn (List.mem_cons_of_mem _ e)) kv hkv
theorem Ents.put {K : PySem.W.Frag} {H : Hp} {n z : Str} {v : V} (hv : FmAt K H v (formOf z)) : ∀ {kvs : List (Key × V)} {zs : List (Str × Str)}, Ents K H kvs zs → NdZ zs → Ents K H (putK kvs (.inr n) v) (putZ zs n z)
  | _, _, .nil, _ => .cons hv .nil
  | _, _, .cons (n := m) (z := y) (v := u) (kvs := kvs) (zs := zs) h t, nd => by
    have nd' : m ∉ zs.map Prod.fst ∧ NdZ zs := List.nodup_cons.mp nd
    unfold putZ
    by_cases c : m = n
    · subst c
      have e : putK ((.inr m, u) :: kvs) (.inr m : Key) v = (.inr m, v) :: kvs := by
        unfold putK
        rw [if_pos (by simp), List.map_cons, if_pos rfl, map_same (t.keys nd'.1)]
      rw [e, if_pos rfl]
      exact .cons hv t
    · have ih := Ents.put (n := n) hv t nd'.2
      have cn : ¬ ((.inr m : Key) = .inr n) := fun e => c (Sum.inr.inj e)
      have e : putK ((.inr m, u) :: kvs) (.inr n : Key) v = (.inr m, u) :: putK kvs (.inr n) v := by
        unfold putK
        by_cases a : (kvs.any fun kv => decide (kv.1 = (.inr n : Key))) = true
        · rw [if_pos (by rw [List.any_cons, a]; simp), if_pos a, List.map_cons, if_neg cn]
        · rw [if_neg (by rw [List.any_cons, decide_eq_false cn]; simpa using a), if_neg a]
          rfl
      rw [e, if_neg c]
      exact .cons h ih
theorem putZ_mem {n z : Str} : ∀ {zs : List (Str × Str)} {m : Str}, m ∈ (putZ zs n z).map Prod.fst → m = n ∨ m ∈ zs.map Prod.fst
  | [], m, h => .inl (by simpa [putZ] using h)
  | (k, y) :: r, m, h => by
    unfold putZ at h
    by_cases c : k = n
    · rw [if_pos c] at h
      exact .inr h
    · rw [if_neg c] at h
      rcases List.mem_cons.mp h with rfl | h
      · exact .inr (List.mem_cons_self ..)
      · exact (putZ_mem h).imp id fun q => List.mem_cons_of_mem _ q
theorem putZ_nd {n z : Str} : ∀ {zs : List (Str × Str)}, NdZ zs → NdZ (putZ zs n z)
  | [], _ => by unfold NdZ putZ; simp
  | (k, y) :: r, h => by
    have h' : k ∉ r.map Prod.fst ∧ NdZ r := List.nodup_cons.mp h
    unfold putZ
    by_cases c : k = n
    · rw [if_pos c]
      exact h
    · rw [if_neg c]
      refine List.nodup_cons.mpr ⟨fun hm => ?_, putZ_nd h'.2⟩
      rcases putZ_mem hm with e | e
      · exact c e
      · exact h'.1 e
/-- chains that may be put together with k letters more -/
def ZOk (L : Nat) (zs : List (Str × Str)) : Prop := ∀ n z, zs.lookup n = some z → ChOk z ∧ z.cps.size ≤ L
theorem ZOk.put {L : Nat} {zs : List (Str × Str)} {n z : Str} (h : ZOk L zs) (hz : ChOk z) (hl : z.cps.size ≤ L) : ZOk L (putZ zs n z) := fun m y e => by
  rw [putZ_get] at e
  by_cases c : m = n
  · rw [if_pos c] at e
    cases e
    exact ⟨hz, hl⟩
  · rw [if_neg c] at e
    exact h m y e
theorem ZOk.mono {L L' : Nat} {zs : List (Str × Str)} (h : ZOk L zs) (k : L ≤ L') : ZOk L' zs := fun n z e => ⟨(h n z e).1, Nat.le_trans (h n z e).2 k⟩
/-- a depot stands at p, its dict at d -/
structure DepAt (K : PySem.W.Frag) (C : Addr) (H : Hp) (p d : Addr) (zs : List (Str × Str)) : Prop where
  ob : ∃ dx, H p = some (.ins C dx [("_forms", .ref d)])
  dc : ∃ kvs, H d = some (.dK kvs) ∧ Ents K H kvs zs
  nd : NdZ zs
theorem DepAt.same {K : PySem.W.Frag} {C : Addr} {H H' : Hp} {p d : Addr} {zs : List (Str × Str)} (s : Same H H') (h : DepAt K C H p d zs) : DepAt K C H' p d zs := by
  obtain ⟨⟨dx, h1⟩, ⟨kvs, h2, h3⟩, h4⟩ := h
  exact ⟨⟨dx, s _ _ h1⟩, ⟨kvs, s _ _ h2, h3.same fun v f hv => hv.same s⟩, h4⟩
/-- all but one address is as it was -/
def Kd (d : Addr) (H H' : Hp) : Prop := ∀ b o, b ≠ d → H b = some o → H' b = some o
theorem Kd.refl (d : Addr) (H : Hp) : Kd d H H := fun _ _ _ h => h
theorem Kd.trans {d : Addr} {H H1 H2 : Hp} (a : Kd d H H1) (b : Kd d H1 H2) : Kd d H H2 := fun c o h1 h => b c o h1 (a c o h1 h)
theorem Kd.of {d : Addr} {H H' : Hp} (s : Same H H') : Kd d H H' := fun b o _ h => s b o h
theorem FmAt.kd {K : PySem.W.Frag} {H H' : Hp} {d : Addr} {kvs : List (Key × V)} (hd : H d = some (.dK kvs)) (k : Kd d H H') {v : V} {f : Fm} : FmAt K H v f → FmAt K H' v f := fun ⟨p, h1, h2⟩ => ⟨p, h1, by
  rcases h2 with (h | ⟨o, h⟩) | h
  · exact .inl (.inl (k _ _ (ne_of h hd (by intro z; cases z)) h))
  · exact .inl (.inr ⟨o, k _ _ (ne_of h hd (by intro z; cases z)) h⟩)
  · exact .inr h⟩
end Lw
namespace Lw
open PySem PySem.Spec L2 Lx
/-! ### numbers of any size -/
/-! ### the drawing list -/
def RngAt (H : Hp) (r : Addr) (n : Nat) : Prop := ∃ d s c : Int, H r = some (.lst [.int d, .int s, .int c]) ∧ 0 ≤ d ∧ 0 ≤ s ∧ s < 2305843009213693952 ∧ 0 ≤ c ∧ c ≤ n
def But (r : Addr) (H H' : Hp) : Prop := ∀ b, b ≠ r → H' b = H b
theorem But.upd {H : Hp} {r : Addr} {o : HO} : But r H (upd H r o) := fun b h => upd_ne h
theorem But.trans {H H1 H2 : Hp} {r : Addr} (a : But r H H1) (b : But r H1 H2) : But r H H2 := fun c h => (b c h).trans (a c h)
theorem pow10 : (10 : Int) ^ (60 : Int).toNat = 1000000000000000000000000000000000000000000000000000000000000 := by decide +kernel
theorem n60 : (10 : Int) ^ Int.toNat 60 ≠ 0 := by decide +kernel
theorem n_c : (2305843009213693921 : Int) ≠ 0 := by decide
theorem n_m : (2305843009213693951 : Int) ≠ 0 := by decide
abbrev B60 : Int := 1000000000000000000000000000000000000000000000000000000000000
theorem dig_more {d f : Int} {i : Nat} (h : d < B60 ^ i) (hf : f < B60) : d * B60 + f < B60 ^ (i + 1) := by
  have h1 : (d + 1) * B60 ≤ B60 ^ i * B60 := Int.mul_le_mul_of_nonneg_right (by omega) (by decide)
  rw [Int.add_mul, Int.one_mul] at h1
  rw [Int.pow_succ]
  omega
theorem dig_keep {d : Int} {i : Nat} (h : d < B60 ^ i) : d < B60 ^ (i + 1) := by
  have h1 : (0 : Int) < B60 ^ i := Int.pow_pos (by decide)
  have h2 : B60 ^ i * 1 ≤ B60 ^ i * B60 := Int.mul_le_mul_of_nonneg_left (by decide) (by omega)
  rw [Int.pow_succ]
  omega
theorem B60_mono (i : Nat) : ∀ n : Nat, B60 ^ i ≤ B60 ^ (i + n)
  | 0 => Int.le_refl _
  | n + 1 => by
    have h1 := B60_mono i n
    have h2 : (0 : Int) < B60 ^ (i + n) := Int.pow_pos (by decide)
    have h3 : B60 ^ (i + n) * 1 ≤ B60 ^ (i + n) * B60 := Int.mul_le_mul_of_nonneg_left (by decide) (by omega)
    rw [← Nat.add_assoc, Int.pow_succ]
    omega
theorem dig_small {d : Int} {i : Nat} (h0 : 0 ≤ d) (h : d < B60 ^ i) (hi : i ≤ 63) : d.natAbs < 2 ^ 12700 := by
  have h1 : B60 ^ i ≤ B60 ^ 63 := by
    have e := B60_mono i (63 - i)
    rw [Nat.add_sub_cancel' hi] at e
    exact e
  have h2 : B60 ^ 63 < 2 ^ 12700 := by decide +kernel
  have h3 : (d.natAbs : Int) < ((2 ^ 12700 : Nat) : Int) := by
    rw [Int.natAbs_of_nonneg h0]
    exact Int.lt_of_lt_of_le h (Int.le_trans h1 (Int.le_of_lt (by rw [Int.natCast_pow]; exact h2)))
  exact Int.ofNat_lt.mp h3
def spRng (K : PySem.W.Frag) : Sp := fun vs H Q _ => ∃ (a : Addr) (ns : List Int), vs = [.ref a] ∧ SqL K H a (ns.map V.int) ∧ ns.length ≤ 63 ∧ ∀ H' p, Same H H' → H p = none → RngAt H' p 0 → Q (.ref p) H'
def spDraw : Sp := fun vs H Q _ => ∃ (r : Addr) (n : Nat) (m : Int), vs = [.ref r, .int m] ∧ RngAt H r n ∧ n < 1000000000 ∧ 0 < m ∧ m.natAbs < 2 ^ 4000 ∧ ∀ v H', 0 ≤ v → v < m → RngAt H' r (n + 1) → But r H H' → Q (.int v) H'
theorem scRng : FnScope ["script", "digits", "seed", "cell", "far"] ["script"] (defScope sLRng) := ⟨rfl, rfl, rfl, by decide +kernel, rfl, by decide +kernel, by decide +kernel⟩
theorem scDraw : FnScope ["rng", "limit", "found", "mixed"] ["rng", "limit"] (defScope sLDraw) := ⟨rfl, rfl, rfl, by decide +kernel, rfl, by decide +kernel, by decide +kernel⟩
section
variable {P : Program} {w : World} {K : PySem.W.Frag} {mg : Str → Option Value} {base : Heap}
theorem ok_rng {f : Addr} {fd : FuncData} {k : Nat} (F : Fun K "_law_rng" "_law_rng" sLRng f fd) (mAbs : mg "abs" = none) : FnOk P w K mg base CX0 (k + 1) f fd ["script"] (spRng K) := by
  refine F.ok scRng (fun vs H Q E h => ?_) (fun cdv A outer s H vs Q E hr h => ?_)
  · obtain ⟨a, ns, rfl, _⟩ := h
    rfl
  · obtain ⟨a, ns, rfl, hS, hlen, q⟩ := h
    refine ⟨_, pss_cons (ps_asg (pe_tup (pa_cons pe_int (pa_cons pe_int pa_nil))) (pg_tup (by rfl) (pgs_cons (pg_name (i := 1) scRng.nd rfl (.inl rfl)) (pgs_cons (pg_name (i := 2) scRng.nd rfl (.inl rfl)) pgs_nil))))
      (pss_cons (ps_for PassesOwn.never rfl (pi_list (pe_slice sl_list (pv 0) po_none (po_some pe_int))) (pg_name (i := 3) scRng.nd rfl (.inl rfl))
        (pss_cons (ps_set (i := 4) scRng.nd rfl (.inl rfl) (pe_callB call_abs (by rfl) mAbs (by decide +kernel) (pa_cons (pv 3) pa_nil)))
        (pss_cons (ps_if (pt_cmpR op_ge (pv 4) (pe_op op_pow pe_int pe_int) (nomark _)) (pss_one (ps_set (i := 1) scRng.nd rfl (.inl rfl) (pe_op op_add (pe_op op_mulW (pv 1) (pe_op op_pow pe_int pe_int)) (pe_op op_modN (pv 4) (pe_op op_pow pe_int pe_int))))) pss_nil)
        (pss_one (ps_set (i := 2) scRng.nd rfl (.inl rfl) (pe_op op_modN (pe_op op_add (pe_op op_add (pe_op op_mul (pv 2) pe_int) (pe_op op_modN (pv 3) pe_int)) pe_int) pe_int))))))
      (pss_one (ps_ret (pe_lst (pa_cons (pv 1) (pa_cons (pv 2) (pa_cons pe_int pa_nil))))))), ?_⟩
    refine ⟨by show 2 ≤ sizeLine; decide, fun p0 np0 => ?_⟩
    refine ⟨p0, _, rfl, .inl (.inl upd_same), rfl, _, _, rfl, _, _, rfl, rfl, ?_⟩
    have s0 : Same H (upd H p0 (.tup [.int 0, .int 88675123])) := same_upd np0
    refine ⟨.ref a, rfl, 63, rfl, a, _, rfl, s0.seq hS, fun p np => ?_⟩
    have s1 := s0.trans (same_upd (o := .lst (cutV (ns.map V.int) none (some 63))) np)
    have hall : ∀ (i : Nat) x, (cutV (ns.map V.int) none (some 63))[i]? = some x → ∃ z : Int, x = .int z := fun i x hx => by
      have m1 := List.mem_of_getElem? hx
      unfold cutV at m1
      have m2 := List.mem_of_mem_drop (List.mem_of_mem_take m1)
      obtain ⟨z, _, e⟩ := List.mem_map.mp m2
      exact ⟨z, e.symm⟩
    have hcl : (cutV (ns.map V.int) none (some 63)).length ≤ 63 := Nat.le_trans (cutV_length _ _ _) (by rw [List.length_map]; exact hlen)
    refine ⟨p, rfl, ⟨_, .inl (.inl upd_same)⟩, for_list (K := K) (a := p) (xs := cutV (ns.map V.int) none (some 63)) (fun i σ H' => H' = upd (upd H p0 (.tup [.int 0, .int 88675123])) p (.lst (cutV (ns.map V.int) none (some 63))) ∧
      ∃ (d s' : Int) (y3 y4 : Option V), σ = [some (.ref a), some (.int d), some (.int s'), y3, y4] ∧ 0 ≤ d ∧ d < B60 ^ i ∧ 0 ≤ s' ∧ s' < 2305843009213693951)
      ⟨rfl, 0, 88675123, none, none, rfl, by decide, by decide, by decide, by decide⟩ (fun i σ H' _ hP => by rw [hP.1]; exact .inl (.inl upd_same)) ?_ ?_⟩
    · rintro i x σ H' hi ⟨rfl, d, s', y3, y4, rfl, hd0, hd, hs0, hs1⟩
      obtain ⟨z, rfl⟩ := hall i x hi
      have hil : i < 63 := Nat.lt_of_lt_of_le (List.getElem?_eq_some_iff.mp hi).1 hcl
      refine ⟨.int z, rfl, z, rfl, ?_⟩
      refine ⟨_, rfl, _, _, rfl, rfl, ⟨by decide, by decide, by decide⟩, _, _, rfl, rfl, _, rfl, ite2 (fun c => ?_) (fun c => ?_)⟩
      · refine ⟨_, rfl, _, _, rfl, rfl, ⟨by decide, by decide, by decide⟩, _, _, rfl, rfl, ?_, ?_⟩
        · exact wide_mul (a := 12700) (b := 200) (dig_small hd0 hd (by omega)) (by decide) (by decide) (by decide) (by decide)
        · refine ⟨_, rfl, _, _, rfl, rfl, ⟨by decide, by decide, by decide⟩, _, _, rfl, rfl, n60, _, _, rfl, rfl, ?_⟩
          have f1 := fm (a := if z < 0 then -z else z) (show (0 : Int) < B60 by decide)
          refine ⟨_, rfl, _, _, rfl, rfl, .inl ⟨by omega, by omega⟩, _, rfl, _, _, rfl, rfl, n_c, _, _, rfl, rfl, _, _, rfl, rfl, _, _, rfl, rfl, n_m, rfl, d * B60 + (if z < 0 then -z else z).fmod B60, _, _, _, rfl, ?_, dig_more hd f1.2, ?_⟩
          · have := Int.mul_nonneg hd0 (show (0 : Int) ≤ B60 by decide)
            omega
          · exact fm (by decide)
      · refine ⟨_, rfl, _, _, rfl, rfl, .inl ⟨by omega, by omega⟩, _, rfl, _, _, rfl, rfl, n_c, _, _, rfl, rfl, _, _, rfl, rfl, _, _, rfl, rfl, n_m, rfl, d, _, _, _, rfl, hd0, dig_keep hd, ?_⟩
        exact fm (by decide)
    · rintro σ H' ⟨rfl, d, s', y3, y4, rfl, hd0, hd, hs0, hs1⟩
      refine ⟨_, rfl, _, rfl, (by show 3 ≤ sizeLine; decide), fun l nl => ?_⟩
      exact q _ l (s1.trans (same_upd nl)) (s1.free nl) ⟨d, s', 0, upd_same, hd0, hs0, by omega, by decide, by decide⟩
theorem n_p1 : (162259276829213363391578010288127 : Int) ≠ 0 := by decide
theorem n_p2 : (170141183460469231731687303715884105727 : Int) ≠ 0 := by decide
theorem pow_ok {x : Int} (h0 : 0 ≤ x) (h : x < 2 ^ 200) : CPowW x 3 := ⟨by decide, by decide, by
  have h1 : (x.natAbs : Int) < ((2 ^ 200 : Nat) : Int) := by
    rw [Int.natAbs_of_nonneg h0]
    exact h
  exact Nat.lt_of_lt_of_le (Int.ofNat_lt.mp h1) (Nat.pow_le_pow_right (by decide) (by decide))⟩
theorem ok_draw {f : Addr} {fd : FuncData} {k : Nat} (F : Fun K "_law_draw" "_law_draw" sLDraw f fd) : FnOk P w K mg base CX0 (k + 1) f fd ["rng", "limit"] spDraw := by
  refine F.ok scDraw (fun vs H Q E h => ?_) (fun cdv A outer s H vs Q E hr h => ?_)
  · obtain ⟨r, n, m, rfl, _⟩ := h
    rfl
  · obtain ⟨r, n, m, rfl, ⟨d, s', c, hL, hd, hs0, hs1, hc0, hc1⟩, hn, hm0, hm1, q⟩ := h
    refine ⟨_, pss_cons (ps_if (pt_cmpR op_gt (pe_ix ix_list (pv 0) pe_int (fun _ _ => rfl)) pe_int (nomark _))
        (pss_cons (ps_set (i := 2) scDraw.nd rfl (.inl rfl) (pe_op op_modN (pe_ix ix_list (pv 0) pe_int (fun _ _ => rfl)) (pv 1)))
        (pss_cons (ps_asg (pe_op op_fdivW (pe_ix ix_list (pv 0) pe_int (fun _ _ => rfl)) (pv 1)) (pg_sub (pv 0) pe_int set_list))
        (pss_one (ps_ret (pv 2))))) pss_nil)
      (pss_cons (ps_asg (pe_op op_add (pe_ix ix_list (pv 0) pe_int (fun _ _ => rfl)) pe_int) (pg_sub (pv 0) pe_int set_list))
      (pss_cons (ps_set (i := 3) scDraw.nd rfl (.inl rfl) (pe_op op_modN (pe_op op_powW (pe_op op_add (pe_ix ix_list (pv 0) pe_int (fun _ _ => rfl)) (pe_op op_mul pe_int (pe_ix ix_list (pv 0) pe_int (fun _ _ => rfl)))) pe_int) pe_int))
      (pss_cons (ps_set (i := 3) scDraw.nd rfl (.inl rfl) (pe_op op_modN (pe_op op_powW (pe_op op_add (pv 3) (pe_op op_mul pe_int (pe_ix ix_list (pv 0) pe_int (fun _ _ => rfl)))) pe_int) pe_int))
      (pss_one (ps_ret (pe_op op_modN (pe_op op_fdiv (pv 3) pe_int) (pv 1))))))), ?_⟩
    have hmn : m ≠ 0 := by omega
    refine ⟨_, rfl, r, _, 0, .int d, rfl, rfl, .inl (.inl hL), atI_nat (j := 0) rfl, _, _, rfl, rfl, _, rfl, ite2 (fun z => ?_) (fun z => ?_)⟩
    · refine ⟨_, rfl, r, _, 0, .int d, rfl, rfl, .inl (.inl hL), atI_nat (j := 0) rfl, _, rfl, _, _, rfl, rfl, hmn, ?_⟩
      refine ⟨_, rfl, r, _, 0, .int d, rfl, rfl, .inl (.inl hL), atI_nat (j := 0) rfl, _, rfl, _, _, rfl, rfl, wide_div hm0 hm1 (by decide) (by decide), ?_⟩
      refine ⟨_, rfl, r, _, 0, 0, rfl, rfl, hL, rfl, ?_⟩
      refine ⟨_, rfl, ?_⟩
      have f1 := fm (a := d) hm0
      exact q _ _ f1.1 f1.2 ⟨d / m, s', c, upd_same, Int.ediv_nonneg hd (by omega), hs0, hs1, hc0, by omega⟩ But.upd
    · refine ⟨_, rfl, r, _, 2, .int c, rfl, rfl, .inl (.inl hL), atI_nat (j := 2) rfl, _, _, rfl, rfl, ?_⟩
      refine ⟨_, rfl, r, _, 2, 2, rfl, rfl, hL, rfl, ?_⟩
      have hL2 : upd H r (.lst ([V.int d, .int s', .int c].set 2 (.int (c + 1)))) r = some (.lst [.int d, .int s', .int (c + 1)]) := upd_same
      refine ⟨_, rfl, r, _, 1, .int s', rfl, rfl, .inl (.inl hL2), atI_nat (j := 1) rfl, _, rfl, r, _, 2, .int (c + 1), rfl, rfl, .inl (.inl hL2), atI_nat (j := 2) rfl, _, _, rfl, rfl, .inl ⟨by decide, by decide⟩, _, _, rfl, rfl, ?_⟩
      refine ⟨_, _, rfl, rfl, pow_ok (by omega) (by omega), _, _, rfl, rfl, n_p1, ?_⟩
      have f1 := fm (a := (s' + 998244353 * (c + 1)) ^ Int.toNat 3) (show (0 : Int) < 162259276829213363391578010288127 by decide)
      refine ⟨_, rfl, _, rfl, r, _, 2, .int (c + 1), rfl, rfl, .inl (.inl hL2), atI_nat (j := 2) rfl, _, _, rfl, rfl, .inl ⟨by decide, by decide⟩, _, _, rfl, rfl, _, _, rfl, rfl, pow_ok (by omega) (by omega), _, _, rfl, rfl, n_p2, ?_⟩
      refine ⟨_, rfl, _, _, rfl, rfl, ⟨by decide, by decide⟩, _, rfl, _, _, rfl, rfl, hmn, ?_⟩
      have f2 := fm (a := ((s' + 998244353 * (c + 1)) ^ Int.toNat 3 |>.fmod 162259276829213363391578010288127) + 32452843 * (c + 1) |> fun x => (x ^ Int.toNat 3).fmod 170141183460469231731687303715884105727 / 1048576) hm0
      exact q _ _ f2.1 f2.2 ⟨d, s', c + 1, hL2, hd, hs0, hs1, by omega, by omega⟩ But.upd
end
end Lw
namespace Lw
open PySem PySem.Spec L2 Lx
/-- one address is as it was -/
def At1 (H H' : Hp) (a : Addr) : Prop := ∀ o, H a = some o → H' a = some o
theorem At1.of {H H' : Hp} (s : Same H H') (a : Addr) : At1 H H' a := fun o h => s a o h
theorem At1.trans {H H1 H2 : Hp} {a : Addr} (x : At1 H H1 a) (y : At1 H1 H2 a) : At1 H H2 a := fun o h => y o (x o h)
theorem Kb.at1 {r gl a : Addr} {H H' : Hp} (k : Kb r gl H H') (h1 : a ≠ r) (h2 : a ≠ gl) : At1 H H' a := fun o h => k a o h1 h2 h
theorem Kd.at1 {d a : Addr} {H H' : Hp} (k : Kd d H H') (h1 : a ≠ d) : At1 H H' a := fun o h => k a o h1 h
theorem BagAt.keep {H H' : Hp} {r gl : Addr} {n : Nat} (b : BagAt H r gl n) (k1 : At1 H H' r) (k2 : At1 H H' gl) : BagAt H' r gl n := by
  obtain ⟨ds, l, t, b', h1, h2, h3⟩ := b
  exact ⟨ds, l, t, b', k1 _ h1, k2 _ h2, h3⟩
theorem FmAt.keepT {K : PySem.W.Frag} {H H' : Hp} {v : V} {f : Fm} (h : FmAt K H v f) (k : ∀ b o, (∀ xs, o ≠ .lst xs) → (∀ kvs, o ≠ .dK kvs) → (∀ C dx fs, o ≠ .ins C dx fs) → H b = some o → H' b = some o) : FmAt K H' v f := by
  obtain ⟨p, h1, h2⟩ := h
  refine ⟨p, h1, ?_⟩
  rcases h2 with (h | ⟨o, h⟩) | h
  · exact .inl (.inl (k _ _ (fun _ z => by cases z) (fun _ z => by cases z) (fun _ _ _ z => by cases z) h))
  · exact .inl (.inr ⟨o, k _ _ (fun _ z => by cases z) (fun _ z => by cases z) (fun _ _ _ z => by cases z) h⟩)
  · exact .inr h
/-- a new object, and what its __init__ left -/
theorem same_made {H : Hp} {dx p : Addr} {u o : HO} (ndx : H dx = none) (np : H p = none) : Same H (upd (upd H dx u) p o) := fun b x e => by
  rw [upd_ne (ne_of_none e np), upd_ne (ne_of_none e ndx)]
  exact e
theorem same_ofKd {H H1 H' : Hp} {p : Addr} (s : Same H H1) (np : H p = none) (k : Kd p H1 H') : Same H H' := fun b o e => k b o (ne_of_none e np) (s b o e)
theorem cutS_to (z : Str) (k : Nat) : (cutS z none (some (k : Int))).cps.toList = z.cps.toList.take k := by
  have hl : z.cps.toList.length = z.length := Array.length_toList ..
  unfold cutS
  rw [HT.sIx_none, HT.sIx_nat]
  show (((z.cps.toList.drop 0).take (min k z.length - 0)).toArray).toList = _
  rw [List.drop_zero, Nat.sub_zero]
  by_cases h : k ≤ z.length
  · rw [Nat.min_eq_left h]
  · rw [Nat.min_eq_right (by omega), List.take_of_length_le (by omega : z.cps.toList.length ≤ z.length), List.take_of_length_le (by omega : z.cps.toList.length ≤ k)]
theorem cutS_from (z : Str) (k : Nat) : (cutS z (some (k : Int)) none).cps.toList = z.cps.toList.drop k := by
  have hl : z.cps.toList.length = z.length := Array.length_toList ..
  unfold cutS
  rw [HT.sIx_none, HT.sIx_nat]
  show (((z.cps.toList.drop (min k z.length)).take (z.length - min k z.length)).toArray).toList = _
  by_cases h : k ≤ z.length
  · rw [Nat.min_eq_left h, List.take_of_length_le (by rw [List.length_drop]; omega)]
  · rw [Nat.min_eq_right (by omega : z.length ≤ k), List.drop_of_length_le (by omega : z.cps.toList.length ≤ k), List.drop_of_length_le (by omega : z.cps.toList.length ≤ z.length)]
    simp
theorem str_ext {x y : Str} (h : x.cps.toList = y.cps.toList) : x = y := Str.ext' (Array.toList_inj.mp h)
end Lw
namespace Lw
open PySem PySem.Spec L2 Lx
theorem But.kd {r : Addr} {H H' : Hp} (b : But r H H') : Kd r H H' := fun c o hc e => (b c hc).trans e
theorem RngAt.same {H H' : Hp} {r : Addr} {n : Nat} (s : Same H H') : RngAt H r n → RngAt H' r n := fun ⟨d, a, c, h, q⟩ => ⟨d, a, c, s _ _ h, q⟩
theorem RngAt.mono {H : Hp} {r : Addr} {n m : Nat} (h : n ≤ m) : RngAt H r n → RngAt H r m := fun ⟨d, a, c, e, h1, h2, h3, h4, h5⟩ => ⟨d, a, c, e, h1, h2, h3, h4, by omega⟩
theorem RngAt.ne {H : Hp} {r b : Addr} {n : Nat} : RngAt H r n → H b = none → b ≠ r := fun ⟨d, a, c, e, _⟩ h => by
  rintro rfl
  rw [h] at e; cases e
theorem RngAt.own {H : Hp} {r b : Addr} {n : Nat} {o : HO} : RngAt H r n → b ≠ r → RngAt (upd H b o) r n := fun ⟨d, a, c, e, q⟩ h => ⟨d, a, c, by rw [upd_ne (Ne.symm h)]; exact e, q⟩
theorem RngAt.keep {H H' : Hp} {r : Addr} {n : Nat} (k1 : At1 H H' r) : RngAt H r n → RngAt H' r n := fun ⟨d, a, c, h, q⟩ => ⟨d, a, c, k1 _ h, q⟩
theorem Kd.freeR {r b : Addr} {H H' : Hp} {n : Nat} (k : Kd r H H') (s : RngAt H' r n) (h : H' b = none) : H b = none := by
  cases e : H b with
  | none => rfl
  | some o =>
    have := k b o (s.ne h) e
    rw [h] at this; cases this
theorem kd_own {d b : Addr} {H H' : Hp} {o : HO} (k : Kd d H H') (h : H b = none) : Kd d H (upd H' b o) := fun c u hc e => by
  rw [upd_ne (ne_of_none e h)]
  exact k c u hc e
theorem scLine : FnScope ["rng", "most", "found", "kind", "turn", "some"] ["rng", "most"] (defScope sLLine) := ⟨rfl, rfl, rfl, by decide +kernel, rfl, by decide +kernel, by decide +kernel⟩
/-- small signs -/
def Low (x : Str) : Prop := ∀ c ∈ x.cps.toList, c < 128
theorem low_app {x y : Str} (h1 : Low x) (h2 : Low y) : Low (x ++ y) := fun c hc => by
  have e : (x ++ y).cps.toList = x.cps.toList ++ y.cps.toList := Array.toList_append ..
  rw [e] at hc
  rcases List.mem_append.mp hc with h | h
  · exact h1 c h
  · exact h2 c h
theorem low_rep {x : Str} (h : Low x) (k : Nat) : Low (rep x k) := fun c hc => by
  rw [rep_list] at hc
  obtain ⟨l, hl, hcl⟩ := List.mem_flatten.mp hc
  obtain ⟨_, rfl⟩ := List.mem_replicate.mp hl
  exact h c hcl
theorem low_cut {x : Str} (h : Low x) (i j : Option Int) : Low (cutS x i j) := fun c hc => h c (List.mem_of_mem_drop (List.mem_of_mem_take hc))
def spLine : Sp := fun vs H Q _ => ∃ (r : Addr) (n m : Nat), vs = [.ref r, .int m] ∧ RngAt H r n ∧ n < 900000000 ∧ m ≤ 2000 ∧ ∀ (x : Str) H', x.cps.size ≤ m → Low x → RngAt H' r (n + 4 * m + 60) → Kd r H H' → Q (.str x) H'
structure RlF (mg : Str → Option Value) : Prop where
  range : mg "range" = none
  int : mg "int" = none
theorem pick_ten {s1 s2 : Str} (h1 : s1.length ≤ 20) (h2 : s2.length ≤ 20) (g1 : Low s1) (g2 : Low s2) {v : Int} (v0 : 0 ≤ v) (v1 : v < 10) :
    ∃ z : Str, atI [V.str "a", .str "b c", .str "\n", .str "^", .str "^\n", .str "^^\n", .str "\n^", .str s1, .str "~", .str s2] v = some (.str z) ∧ z.length ≤ 20 ∧ Low z := by
  have : v = 0 ∨ v = 1 ∨ v = 2 ∨ v = 3 ∨ v = 4 ∨ v = 5 ∨ v = 6 ∨ v = 7 ∨ v = 8 ∨ v = 9 := by omega
  rcases this with rfl | rfl | rfl | rfl | rfl | rfl | rfl | rfl | rfl | rfl
  all_goals first
    | exact ⟨_, rfl, by decide, by unfold Low; decide⟩
    | exact ⟨_, rfl, h1, g1⟩
    | exact ⟨_, rfl, h2, g2⟩
theorem cutS_mostR (x : Str) (m : Nat) : (cutS x none (some (m : Int))).cps.size ≤ m := by
  show (((x.cps.toList.drop (HT.sIx x.length 0 none)).take (HT.sIx x.length x.length (some (m : Int)) - HT.sIx x.length 0 none)).toArray).size ≤ m
  rw [HT.sIx_none, HT.sIx_nat, List.size_toArray, List.length_take]
  omega
section
variable {P : Program} {w : World} {K : PySem.W.Frag} {mg : Str → Option Value} {base : Heap}
theorem ok_line {f aD : Addr} {fd dD : FuncData} {k : Nat} (F : Fun K "_law_line" "_law_line" sLLine f fd) (Z : RlF mg)
    (cD : Cl P w K mg base k "_law_draw" ["rng", "limit"] spDraw aD dD) : FnOk P w K mg base CX0 (k + 1) f fd ["rng", "most"] spLine := by
  refine F.ok scLine (fun vs H Q E h => ?_) (fun cdv A outer s H vs Q E hr h => ?_)
  · obtain ⟨r, n, m, rfl, _⟩ := h
    rfl
  · obtain ⟨r, n, m, rfl, hS, hn, hm, q⟩ := h
    refine ⟨_, (pss_cons (ps_par (i := 2) (j := 3) rfl scLine.nd rfl rfl (by decide) rfl rfl (pa_cons pe_str (pa_cons (pe_call cD.G hr (by rfl) cD.g cD.kp cD.b .nil pass0 (pa_cons (pv 0) (pa_cons pe_int pa_nil))) pa_nil)) rfl)
      (pss_cons (ps_for PassesOwn.never rfl (pi_range1 rfl Z.range (pa_cons (pe_call cD.G hr (by rfl) cD.g cD.kp cD.b .nil pass0 (pa_cons (pv 0) (pa_cons (pe_op op_add (pe_ix ix_list (pe_lst (pa_cons pe_int (pa_cons pe_int (pa_cons (pv 1) pa_nil)))) (pe_call cD.G hr (by rfl) cD.g cD.kp cD.b .nil pass0 (pa_cons (pv 0) (pa_cons pe_int pa_nil))) (fun _ _ => rfl)) pe_int) pa_nil))) pa_nil)) (pg_name (i := 4) scLine.nd rfl (.inl rfl))
          (pss_cons (ps_set (i := 5) scLine.nd rfl (.inl rfl) (pe_lst (pa_cons pe_str (pa_cons pe_str (pa_cons pe_str (pa_cons pe_str (pa_cons pe_str (pa_cons pe_str (pa_cons pe_str (pa_cons (pe_op op_add_str (pe_op op_repS pe_str (pe_op op_add pe_int (pe_call cD.G hr (by rfl) cD.g cD.kp cD.b .nil pass0 (pa_cons (pv 0) (pa_cons pe_int pa_nil))))) pe_str) (pa_cons pe_str pa_nil)))))))))))
          (pss_cons (ps_expr (pe_bm PySem.F.plainAttrs_list PySem.F.slot_list_append PySem.F.type_list_append mt_append (pv 5) (pa_cons (pe_op op_repS pe_str (pe_op op_add pe_int (pe_call cD.G hr (by rfl) cD.g cD.kp cD.b .nil pass0 (pa_cons (pv 0) (pa_cons pe_int pa_nil))))) pa_nil)))
          (pss_one (ps_set (i := 2) scLine.nd rfl (.inl rfl) (pe_op op_add_str (pv 2) (pe_ix ix_list (pv 5) (pe_ix ix_list (pe_lst (pa_cons (pe_call cD.G hr (by rfl) cD.g cD.kp cD.b .nil pass0 (pa_cons (pv 0) (pa_cons pe_int pa_nil))) (pa_cons (pe_op op_add pe_int (pe_call cD.G hr (by rfl) cD.g cD.kp cD.b .nil pass0 (pa_cons (pv 0) (pa_cons pe_int pa_nil)))) pa_nil))) (pe_callTy call_int1 (by rfl) Z.int (by decide +kernel) (pa_cons (pe_cmpR op_eq (pv 3) pe_int (nomark _)) pa_nil)) (fun _ _ => rfl)) (fun _ _ => rfl))))))))
      (pss_one (ps_ret (pe_slice sl_str (pv 2) po_none (po_some (pv 1))))))), ?_⟩
    have p10 : (2 : Nat) ^ 20 = 1048576 := by decide
    have p40 : (2 : Nat) ^ 20 ≤ 2 ^ 4000 := Nat.pow_le_pow_right (by decide) (by decide)
    have sm : ∀ i : Int, 0 ≤ i → i ≤ 10001 → i.natAbs < 2 ^ 4000 := fun i h0 h1 => Nat.lt_of_lt_of_le (show i.natAbs < 2 ^ 20 by omega) p40
    have la : ∀ x y : Str, (x ++ y).length = x.length + y.length := fun x y => Array.size_append ..
    refine ⟨_, rfl, r, n, 4, rfl, hS, by omega, by decide, by decide, fun kind H1 c0 c1 hS1 k1 => ⟨_, _, rfl, ?_⟩⟩
    replace k1 := k1.kd
    refine ⟨_, rfl, _, rfl, by show 3 ≤ sizeLine; decide, fun l0 n0 => ?_⟩
    have s0 := same_upd (o := .lst [.int 3, .int 12, .int m]) n0
    refine ⟨_, rfl, r, _, 3, rfl, hS1.same s0, by omega, by decide, by decide, fun i H2 i0 i1 hS2 k2 => ?_⟩
    replace k2 := k2.kd
    have hl0 := k2 _ _ (hS1.ne n0) upd_same
    have k02 := (k1.trans (Kd.of s0)).trans k2
    have pick : ∃ t : Nat, atI [V.int 3, .int 12, .int m] i = some (.int (t : Int)) ∧ t ≤ m + 12 := by
      have : i = 0 ∨ i = 1 ∨ i = 2 := by omega
      rcases this with rfl | rfl | rfl
      · exact ⟨3, rfl, by omega⟩
      · exact ⟨12, rfl, by omega⟩
      · exact ⟨m, rfl, by omega⟩
    obtain ⟨t, ht, htm⟩ := pick
    clear k1 s0 k2
    refine ⟨l0, _, i, _, rfl, rfl, .inl (.inl hl0), ht, _, _, rfl, rfl, r, _, (t : Int) + 1, rfl, hS2, by omega, by omega, sm _ (by omega) (by omega), fun cnt H3 e0 e1 hS3 k3 => ?_⟩
    replace k3 := k02.trans k3.kd
    refine ⟨_, rfl, by omega, by omega, ?_⟩
    refine for_range (lo := 0) (n := cnt.toNat) (fun j σ H' => ∃ (x : Str) (y4 y5 : Option V), σ = [some (.ref r), some (.int m), some (.str x), some (.int kind), y4, y5] ∧ x.length ≤ 20 * j ∧ Low x ∧ RngAt H' r (n + 3 + 4 * j) ∧ Kd r H H') ⟨"", none, none, rfl, Nat.zero_le _, (fun c hc => by cases hc), hS3, k3⟩ ?_ ?_
    · rintro j σ H4 hj ⟨x, y4, y5, rfl, hx, hxL, hS4, k4⟩
      refine ⟨_, rfl, r, _, 9, rfl, hS4, by omega, by decide, by decide, fun v H5 v0 v1 hS5 k5 => ?_⟩
      replace k5 := k4.trans k5.kd
      have hr1 : (rep "^" (1 + v).toNat).length ≤ 10 := by rw [rep_len]; show 1 * _ ≤ _; omega
      refine ⟨_, _, rfl, rfl, "^", 1 + v, rfl, rfl, by omega, by omega, ?_, _, _, rfl, rfl, ?_, ?_⟩
      · rw [sizeLine_eq]; show 1 * (1 + v).toNat ≤ _; omega
      · rw [sizeLine_eq]; show _ + 1 ≤ _; omega
      have hs1 : (rep "^" (1 + v).toNat ++ "\n").length ≤ 20 := by rw [la]; show _ + 1 ≤ _; omega
      have gs1 : Low (rep "^" (1 + v).toNat ++ "\n") := low_app (low_rep (by unfold Low; decide) _) (by unfold Low; decide)
      generalize rep "^" (1 + v).toNat ++ "\n" = s1 at hs1 gs1
      refine ⟨by show 9 ≤ sizeLine; decide, fun l nl => ?_⟩
      have s6 := same_upd (o := .lst [.str "a", .str "b c", .str "\n", .str "^", .str "^\n", .str "^^\n", .str "\n^", .str s1, .str "~"]) nl
      have hlr := hS5.ne nl
      have hlH : H l = none := k5.freeR hS5 nl
      have hS6 := hS5.same s6
      refine ⟨_, rfl, .inl ⟨rfl, _, .inl (.inl upd_same)⟩, _, rfl, r, _, 20, rfl, hS6, by omega, by decide, by decide, fun u H7 u0 u1 hS7 k7 => ?_⟩
      replace k7 := k7.kd
      have hl7 := k7 _ _ hlr upd_same
      have k07 := (k5.trans (Kd.of s6)).trans k7
      have hr2 : (rep "\n" (1 + u).toNat).length ≤ 20 := by rw [rep_len]; show 1 * _ ≤ _; omega
      refine ⟨_, _, rfl, rfl, "\n", 1 + u, rfl, rfl, by omega, by omega, ?_, l, _, _, rfl, rfl, hl7, by show 9 < sizeLine; decide, ?_⟩
      · rw [sizeLine_eq]; show 1 * (1 + u).toNat ≤ _; omega
      have gs2 : Low (rep "\n" (1 + u).toNat) := low_rep (by unfold Low; decide) _
      generalize rep "\n" (1 + u).toNat = s2 at hr2 gs2
      have hS8 := hS7.own (o := .lst ([V.str "a", .str "b c", .str "\n", .str "^", .str "^\n", .str "^^\n", .str "\n^", .str s1, .str "~"] ++ [.str s2])) hlr
      have k08 := kd_own (o := .lst ([V.str "a", .str "b c", .str "\n", .str "^", .str "^\n", .str "^^\n", .str "\n^", .str s1, .str "~"] ++ [.str s2])) k07 hlH
      have hl8 : upd H7 l (.lst ([V.str "a", .str "b c", .str "\n", .str "^", .str "^\n", .str "^^\n", .str "\n^", .str s1, .str "~"] ++ [.str s2])) l = some (.lst [V.str "a", .str "b c", .str "\n", .str "^", .str "^\n", .str "^^\n", .str "\n^", .str s1, .str "~", .str s2]) := upd_same
      revert hS8 k08 hl8
      generalize upd H7 l _ = H8
      intro hS8 k08 hl8
      clear hS5 k5 hS6 hS7 k7 k07 hl7 s6 nl
      dsimp only
      refine ⟨_, rfl, _, rfl, _, rfl, r, _, 10, rfl, hS8, by omega, by decide, by decide, fun a H9 a0 a1 hS9 k9 => ?_⟩
      replace k9 := k9.kd
      refine ⟨_, rfl, r, _, 6, rfl, hS9, by omega, by decide, by decide, fun b H10 b0 b1 hS10 k10 => ?_⟩
      replace k10 := k10.kd
      refine ⟨_, _, rfl, rfl, by show 2 ≤ sizeLine; decide, fun l2 n2 => ?_⟩
      have s11 := same_upd (o := .lst [.int a, .int (2 + b)]) n2
      have hl11 := s11 _ _ (k10 _ _ hlr (k9 _ _ hlr hl8))
      have pick : ∃ v : Int, atI [V.int a, .int (2 + b)] (if decide (V.int kind = V.int 0) = true then (1 : Int) else 0) = some (.int v) ∧ 0 ≤ v ∧ v < 10 := by
        cases decide (V.int kind = V.int 0)
        · exact ⟨a, rfl, by omega, by omega⟩
        · exact ⟨2 + b, rfl, by omega, by omega⟩
      obtain ⟨v', hv, v0', v1'⟩ := pick
      obtain ⟨zz, hz, hzl, hzL⟩ := pick_ten hs1 hr2 gs1 gs2 v0' v1'
      refine ⟨_, rfl, rfl, .inr ⟨_, rfl, l2, _, _, _, rfl, rfl, .inl (.inl upd_same), hv, l, _, _, _, rfl, rfl, .inl (.inl hl11), hz, _, _, rfl, rfl, by rw [sizeLine_eq]; omega, ?_⟩⟩
      refine ⟨_, _, _, rfl, by rw [la]; omega, low_app hxL hzL, (hS10.same s11).mono (by omega), (((k08.trans k9).trans k10).trans (Kd.of s11))⟩
    · rintro σ H4 ⟨x, y4, y5, rfl, hx, hxL, hS4, k4⟩
      refine ⟨_, rfl, _, rfl, (m : Int), rfl, x, rfl, by rw [sizeLine_eq]; omega, ?_⟩
      exact q _ _ (cutS_mostR _ _) (low_cut hxL _ _) (hS4.mono (by omega)) k4
end
end Lw
namespace Lw
open PySem PySem.Spec L2 Lx
theorem scLines : FnScope ["rng", "some", "turn"] ["rng"] (defScope sLLines) := ⟨rfl, rfl, rfl, by decide +kernel, rfl, by decide +kernel, by decide +kernel⟩
/-- a line without breaks -/
def Cln (x : Str) : Prop := 10 ∉ x.cps.toList ∧ 94 ∉ x.cps.toList ∧ x.length ≤ 41 ∧ ∀ c ∈ x.cps.toList, c < 128
def spLines : Sp := fun vs H Q _ => ∃ (r : Addr) (n : Nat), vs = [.ref r] ∧ RngAt H r n ∧ n < 900000000 ∧ ∀ (xs : List Str) (p : Addr) H', (∀ x ∈ xs, Cln x) → xs.length ≤ 41 → H' p = some (.lst (xs.map V.str)) → RngAt H' r (n + 50) → Kd r H H' → H p = none → Q (.ref p) H'
theorem rep_one_mem {c : Nat} {k d : Nat} (h : d ∈ (rep (⟨#[c]⟩ : Str) k).cps.toList) : d = c := by
  rw [rep_list] at h
  obtain ⟨l, hl, hdl⟩ := List.mem_flatten.mp h
  obtain ⟨_, rfl⟩ := List.mem_replicate.mp hl
  simpa using hdl
theorem cln_x {k : Nat} (hk : k ≤ 41) : Cln (rep "x" k) := by
  refine ⟨fun h => ?_, fun h => ?_, ?_, fun c h => ?_⟩
  · have := rep_one_mem (c := 120) h
    omega
  · have := rep_one_mem (c := 120) h
    omega
  · rw [rep_len]
    show 1 * k ≤ _
    omega
  · have := rep_one_mem (c := 120) h
    omega
theorem cln_dec {x : Str} (h : (decide (10 ∉ x.cps.toList) && decide (94 ∉ x.cps.toList) && decide (x.length ≤ 41) && decide (∀ c ∈ x.cps.toList, c < 128)) = true) : Cln x := by
  simp only [Bool.and_eq_true, decide_eq_true_eq] at h
  exact ⟨h.1.1.1, h.1.1.2, h.1.2, h.2⟩
theorem pick_nine {s1 s2 : Str} (h1 : Cln s1) (h2 : Cln s2) {v : Int} (v0 : 0 ≤ v) (v1 : v < 9) :
    ∃ z : Str, atI [V.str "", .str "a", .str "b c", .str "~", .str " ", .str s1, .str s2, .str "UDMN", .str "1x0"] v = some (.str z) ∧ Cln z := by
  have : v = 0 ∨ v = 1 ∨ v = 2 ∨ v = 3 ∨ v = 4 ∨ v = 5 ∨ v = 6 ∨ v = 7 ∨ v = 8 := by omega
  rcases this with rfl | rfl | rfl | rfl | rfl | rfl | rfl | rfl | rfl
  · exact ⟨_, rfl, cln_dec (by decide)⟩
  · exact ⟨_, rfl, cln_dec (by decide)⟩
  · exact ⟨_, rfl, cln_dec (by decide)⟩
  · exact ⟨_, rfl, cln_dec (by decide)⟩
  · exact ⟨_, rfl, cln_dec (by decide)⟩
  · exact ⟨_, rfl, h1⟩
  · exact ⟨_, rfl, h2⟩
  · exact ⟨_, rfl, cln_dec (by decide)⟩
  · exact ⟨_, rfl, cln_dec (by decide)⟩
structure SlF (mg : Str → Option Value) : Prop where
  range : mg "range" = none
section
variable {P : Program} {w : World} {K : PySem.W.Frag} {mg : Str → Option Value} {base : Heap}
theorem ok_lines {f aD : Addr} {fd dD : FuncData} {k : Nat} (F : Fun K "_law_lines" "_law_lines" sLLines f fd) (Z : SlF mg)
    (cD : Cl P w K mg base k "_law_draw" ["rng", "limit"] spDraw aD dD) : FnOk P w K mg base CX0 (k + 1) f fd ["rng"] spLines := by
  refine F.ok scLines (fun vs H Q E h => ?_) (fun cdv A outer s H vs Q E hr h => ?_)
  · obtain ⟨r, n, rfl, _⟩ := h
    rfl
  · obtain ⟨r, n, rfl, hS, hn, q⟩ := h
    refine ⟨_, (pss_cons (ps_set (i := 1) scLines.nd rfl (.inr rfl) (pe_lst (pa_cons pe_str (pa_cons pe_str (pa_cons pe_str (pa_cons pe_str (pa_cons pe_str (pa_cons (pe_op op_repS pe_str pe_int) (pa_cons (pe_op op_repS pe_str (pe_op op_add pe_int (pe_call cD.G hr (by rfl) cD.g cD.kp cD.b .nil pass0 (pa_cons (pv 0) (pa_cons pe_int pa_nil))))) (pa_cons pe_str (pa_cons pe_str pa_nil)))))))))))
      (pss_one (ps_ret (pe_lc (own := [("turn", 2)]) (g := (gName 2)) (tt := tYes) rfl scLines.nd (pi_range1 rfl Z.range (pa_cons (pe_call cD.G hr (by rfl) cD.g cD.kp cD.b .nil pass0 (pa_cons (pv 0) (pa_cons (pe_ix ix_list (pe_lst (pa_cons pe_int (pa_cons pe_int pa_nil))) (pe_call cD.G hr (by rfl) cD.g cD.kp cD.b .nil pass0 (pa_cons (pv 0) (pa_cons pe_int pa_nil))) (fun _ _ => rfl)) pa_nil))) pa_nil)) (blkOk_by (own := [("turn", 2)]) (N := ["rng", "some", "turn"]) (sc := defScope sLLines) (by decide +kernel)) (fun _ _ _ _ _ => (pg_name (i := 2) scLines.nd rfl (.inl rfl))) (fun _ _ _ _ _ => pts_nil) (fun _ _ _ _ _ => (pe_ix (ix_l (K := K) rfl) (pv 1) (pe_call cD.G hr (by rfl) cD.g cD.kp cD.b .nil pass0 (pa_cons (pv 0) (pa_cons pe_int pa_nil))) (fun _ _ => rfl))))))), ?_⟩
    have p10 : (2 : Nat) ^ 20 = 1048576 := by decide
    have p40 : (2 : Nat) ^ 20 ≤ 2 ^ 4000 := Nat.pow_le_pow_right (by decide) (by decide)
    have hx9 : Cln (rep "abc" (9 : Int).toNat) := cln_dec (by decide)
    refine ⟨"abc", 9, rfl, rfl, by decide, by decide, by show 3 * 9 ≤ sizeLine; decide, ?_⟩
    refine ⟨_, rfl, r, n, 40, rfl, hS, by omega, by decide, by decide, fun u H1 u0 u1 hS1 k1 => ?_⟩
    replace k1 := k1.kd
    have hx := cln_x (k := (1 + u).toNat) (by omega)
    refine ⟨_, _, rfl, rfl, "x", 1 + u, rfl, rfl, by omega, by omega, by show 1 * (1 + u).toNat ≤ _; rw [sizeLine_eq]; omega, by show 9 ≤ sizeLine; decide, fun l nl => ?_⟩
    have s1 := same_upd (o := .lst [.str "", .str "a", .str "b c", .str "~", .str " ", .str (rep "abc" (9 : Int).toNat), .str (rep "x" (1 + u).toNat), .str "UDMN", .str "1x0"]) nl
    have hlr := hS1.ne nl
    have hl1 : upd H1 l (.lst [.str "", .str "a", .str "b c", .str "~", .str " ", .str (rep "abc" (9 : Int).toNat), .str (rep "x" (1 + u).toNat), .str "UDMN", .str "1x0"]) l = _ := upd_same
    have hS2 := hS1.same s1
    have k2 := k1.trans (Kd.of s1)
    revert hl1 hS2 k2
    clear s1
    generalize rep "abc" (9 : Int).toNat = a9 at hx9
    generalize rep "x" (1 + u).toNat = ax at hx
    generalize upd H1 l (.lst [.str "", .str "a", .str "b c", .str "~", .str " ", .str a9, .str ax, .str "UDMN", .str "1x0"]) = H2
    intro hl1 hS2 k2
    dsimp only [gName, tNext, tSeq]
    refine ⟨_, rfl, by show 2 ≤ sizeLine; decide, fun l2 n2 => ?_⟩
    have s3 := same_upd (o := .lst [.int 4, .int 41]) n2
    refine ⟨_, rfl, r, _, 2, rfl, hS2.same s3, by omega, by decide, by decide, fun c H3 c0 c1 hS3 k3 => ?_⟩
    replace k3 := k3.kd
    have hl3 := k3 _ _ hlr (s3 _ _ hl1)
    have pick : ∃ m : Nat, atI [V.int 4, .int 41] c = some (.int (m : Int)) ∧ m ≤ 41 ∧ 0 < m := by
      have : c = 0 ∨ c = 1 := by omega
      rcases this with rfl | rfl
      · exact ⟨4, rfl, by decide, by decide⟩
      · exact ⟨41, rfl, by decide, by decide⟩
    obtain ⟨m, hm, hm41, hm0⟩ := pick
    have sm : (m : Int).natAbs < 2 ^ 4000 := Nat.lt_of_lt_of_le (show (m : Int).natAbs < 2 ^ 20 by omega) p40
    refine ⟨l2, _, c, _, rfl, rfl, .inl (.inl (k3 _ _ (hS2.ne n2) upd_same)), hm, r, _, m, rfl, hS3, by omega, by omega, sm, fun cnt H4 e0 e1 hS4 k4 => ?_⟩
    replace k4 := k4.kd
    have hl4 := k4 _ _ hlr hl3
    have k04 := ((k2.trans (Kd.of s3)).trans k3).trans k4
    refine ⟨_, rfl, by omega, by omega, fun D nD => ?_⟩
    have hDr := hS4.ne nD
    have hDf : H D = none := k04.freeR hS4 nD
    have hDl : l ≠ D := ne_of_none hl4 nD
    refine lc_it (walk_range (lo := 0) (n := cnt.toNat)) (fun j H' => ∃ zs : List Str, H' D = some (.lst (zs.map V.str)) ∧ zs.length = j ∧ (∀ x ∈ zs, Cln x) ∧ RngAt H' r (n + 4 + j) ∧ Kd r H H' ∧ H' l = some (.lst [.str "", .str "a", .str "b c", .str "~", .str " ", .str a9, .str ax, .str "UDMN", .str "1x0"])) ⟨[], upd_same, rfl, (fun x hx => by cases hx), (hS4.own hDr).mono (by omega), kd_own k04 hDf, by rw [upd_ne hDl]; exact hl4⟩ (fun _ _ _ _ => trivial) ?_ ?_
    · rintro j x H5 H6 hj ⟨zs, hD, hl, hz, hS5, k5, hl5⟩ ⟨rfl, rfl⟩
      refine ⟨rfl, _, rfl, _, rfl, r, _, 9, rfl, hS5, by omega, by decide, by decide, fun v H7 v0 v1 hS7 k7 => ?_⟩
      replace k7 := k7.kd
      obtain ⟨z, hz9, hzc⟩ := pick_nine hx9 hx v0 v1
      have hl7 := k7 _ _ hlr hl5
      refine ⟨l, _, v, _, rfl, rfl, .inl (.inl hl7), hz9, _, k7 _ _ hDr hD, by rw [List.length_map, sizeLine_eq]; omega, zs ++ [z], by rw [upd_same, List.map_append]; rfl, by rw [List.length_append, hl]; rfl, fun x hx => ?_, (hS7.own hDr).mono (by omega), kd_own (k5.trans k7) hDf, by rw [upd_ne hDl]; exact hl7⟩
      rcases List.mem_append.mp hx with h | h
      · exact hz x h
      · rw [List.mem_singleton.mp h]
        exact hzc
    · rintro H5 ⟨zs, hD, hl, hz, hS5, k5, hl5⟩
      exact q zs D H5 hz (by omega) hD (hS5.mono (by omega)) k5 hDf
end
end Lw
namespace Lx
open PySem PySem.Spec L2
/-! ### a test against a written text puts a token out: what stands in its branches may replace in texts -/
def PTC (X : Cx) (e : Expr) (t : TT) : Prop :=
  ∀ (pins : List (Addr × Obj)) (s : Shared) (σ : St) (H : Hp) (Q : Bool → Hp → Prop), Inv X pins σ H s → t σ H Q → wpAny (model X.prog X.w) X.A (isTrue e X.env (eval e X.env)) (fun d s1 => 1 ≤ s1.toks ∧ TP X pins σ Q d s1) X.xe s
section
variable {X : Cx} {a c e : Expr} {ta te : TE} {tc : TT} {t u : TS} {A B : List Stmt} {x : Str} {j : Nat} {p p' pos pos' : Pos}
theorem ptc_cmp {op : CmpOp} {r : R2} (ho : OpR X (compareOp op) r) (ha : PE X a ta) (hm : behindInMarks op (.Constant (.str x) j p) = false) : PTC X (.Compare a [op] [.Constant (.str x) j p] pos) (tTest (tOp r ta (tC (.str x)))) := by
  intro pins s σ H Q I h
  refine wpAny_isTrue_Compare1 (thn (ha.run pins s σ H _ I h) fun v s1 ⟨y, H1, I1, r1, q1⟩ => Calls.Constant_str ?_) hm
  refine wpAny_mono (PySem.wpAny_toks_of (n := 1) (by show 1 ≤ s1.toks + 1; omega) (ho pins { s1 with toks := s1.toks + 1 } σ H1 y (.str x) v (.str x s1.toks) _ (I1.tok _) r1 ⟨_, rfl⟩ q1)) (fun c s3 q => ?_) fun _ _ z => z.2
  obtain ⟨hk, z, H3, I3, r3, k, e, q3⟩ := q
  subst e
  cases r3
  exact wpAny_truthy_bool ⟨hk, H3, I3, q3⟩
theorem ps_ifC (hc : PTC X c tc) (ha : PSsT X A t) (hb : PSsT X B u) : PS X (.If c A B pos) (tIfS tc t u) := by
  refine ⟨fun pins s σ H D I h => ?_⟩
  refine wpAny_If (thn (hc pins s σ H _ I h) fun d s1 q => ?_)
  obtain ⟨hk, H1, I1, q1⟩ := q
  cases d with
  | true => exact ha pins s1 σ H1 D hk I1 q1
  | false => exact hb pins s1 σ H1 D hk I1 q1
theorem pst_set {i : Nat} {y : Str} (hN : X.N.Nodup) (hi : X.N[i]? = some y) (hx : Loc X.env.scope y) (he : PET X e te) (hs : swapsWith e (some (.Name y pos')) pos.line X.env = pure false := by rfl) (hf : X.fn y = true ∨ X.env.scope.names.lookup y = some .local := by first | exact .inl rfl | exact .inr rfl | assumption) :
    PST X (.Assign [.Name y pos'] e pos) (tAsg te (gName i)) := by
  intro pins s σ H D h0 I h
  refine wpAny_Assign_Name (thn (he pins s σ H _ h0 I h) fun v s1 ⟨y, H1, I1, r1, q1⟩ => ?_) hs
  exact store_ok I1 hN hi hx r1 (fun s2 I2 => ⟨_, H1, I2, q1⟩) hf
end
/-! ### steps on texts -/
open PySem.StrLaws
def stepT (c : Nat) (l : List Nat) : List Nat := if c = 85 then replL [10] [94, 10] l else if c = 68 then replL [94, 10] [10] l else if c = 77 then replL [94] [10] l else replL [10] [94] l
def doneT (l cs : List Nat) : List Nat := cs.foldl (fun l c => stepT c l) l
theorem doneT_snoc (l cs : List Nat) (c : Nat) : doneT l (cs ++ [c]) = stepT c (doneT l cs) := by
  unfold doneT
  rw [List.foldl_append]
  rfl
theorem replS_len {y z : List Nat} (hz : z.length ≤ 2) : ∀ (l : List Nat) (s : Nat), (replS y z s l).length ≤ 2 * l.length
  | [], s => by cases s <;> simp [replS]
  | c :: r, 0 => by
    rw [replS]
    split
    · have := replS_len (y := y) hz r (y.length - 1)
      rw [List.length_append, List.length_cons]
      omega
    · have := replS_len (y := y) hz r 0
      rw [List.length_cons, List.length_cons]
      omega
  | c :: r, s + 1 => by
    rw [replS]
    have := replS_len (y := y) hz r s
    rw [List.length_cons]
    omega
theorem stepT_len (c : Nat) (l : List Nat) : (stepT c l).length ≤ 2 * l.length := by
  unfold stepT
  split
  · exact replS_len (by decide) l 0
  · split
    · exact replS_len (by decide) l 0
    · split <;> exact replS_len (by decide) l 0
theorem doneT_len (l : List Nat) : ∀ (k : Nat) (cs : List Nat), cs.length = k → (doneT l cs).length ≤ l.length * 2 ^ k
  | 0, cs, h => by
    rw [List.length_eq_zero_iff.mp h]
    show l.length ≤ l.length * 2 ^ 0
    omega
  | k + 1, cs, h => by
    rcases List.eq_nil_or_concat cs with rfl | ⟨ds, c, rfl⟩
    · cases h
    · have e : ds.length = k := by simpa using h
      rw [List.concat_eq_append, doneT_snoc, Nat.pow_succ]
      have h1 := stepT_len c (doneT l ds)
      have h2 := doneT_len l k ds e
      generalize 2 ^ k = m at h2 ⊢
      rw [← Nat.mul_assoc]
      omega
/-- the text of groups with these numbers of ^, and a rest -/
def up (n : Nat) : List Nat := List.replicate n 94
def spT (rows : List Nat) (rest : Nat) : List Nat := rows.flatMap (fun j => up j ++ [10]) ++ up rest
def unT (rows : List Nat) (rest : Nat) : Nat := rows.sum + rows.length + rest
theorem up_succ (n : Nat) : up (n + 1) = 94 :: up n := rfl
theorem spT_cons (j : Nat) (rows : List Nat) (rest : Nat) : spT (j :: rows) rest = up j ++ 10 :: spT rows rest := by
  unfold spT
  rw [List.flatMap_cons, List.append_assoc, List.append_assoc]
  rfl
theorem spT_len : ∀ (rows : List Nat) (rest : Nat), (spT rows rest).length = unT rows rest
  | [], rest => by simp [spT, unT, up]
  | j :: rows, rest => by
    have ih := spT_len rows rest
    rw [spT_cons, List.length_append, List.length_cons, ih]
    simp only [unT, up, List.length_replicate, List.sum_cons, List.length_cons]
    omega
/- U -/
theorem u_up (r : List Nat) : ∀ j, replL [10] [94, 10] (up j ++ r) = up j ++ replL [10] [94, 10] r
  | 0 => rfl
  | j + 1 => by
    rw [up_succ, List.cons_append, replL_miss (by simp), u_up r j]
    rfl
theorem up_snoc (j : Nat) (r : List Nat) : up j ++ 94 :: r = up (j + 1) ++ r := by
  unfold up
  rw [List.replicate_succ', List.append_assoc]
  rfl
theorem stepU : ∀ (rows : List Nat) (rest : Nat), replL [10] [94, 10] (spT rows rest) = spT (rows.map (· + 1)) rest
  | [], rest => by
    have := u_up [] rest
    rw [replL_nil, List.append_nil] at this
    simpa [spT] using this
  | j :: rows, rest => by
    rw [spT_cons, u_up, replL_hit (by simp) (by simp), List.map_cons, spT_cons]
    have ih := stepU rows rest
    show up j ++ ([94, 10] ++ replL [10] [94, 10] (spT rows rest)) = _
    rw [ih]
    exact up_snoc j _
/- D -/
theorem d_up : ∀ (j : Nat) (r : List Nat), replL [94, 10] [10] (up j ++ 10 :: r) = up (j - 1) ++ 10 :: replL [94, 10] [10] r
  | 0, r => by
    show replL [94, 10] [10] (10 :: r) = _
    rw [replL_miss (by simp)]
    rfl
  | 1, r => by
    show replL [94, 10] [10] (94 :: 10 :: r) = _
    rw [replL_hit (by simp) (by simp)]
    rfl
  | j + 2, r => by
    rw [up_succ, List.cons_append, replL_miss (by simp [up_succ]), d_up (j + 1) r]
    rfl
theorem d_rest : ∀ (n : Nat), replL [94, 10] [10] (up n) = up n
  | 0 => replL_nil
  | 1 => by
    show replL [94, 10] [10] [94] = [94]
    rw [replL_miss (by simp), replL_nil]
  | n + 2 => by
    rw [up_succ, replL_miss (by simp [up_succ]), d_rest (n + 1)]
theorem stepD : ∀ (rows : List Nat) (rest : Nat), replL [94, 10] [10] (spT rows rest) = spT (rows.map (· - 1)) rest
  | [], rest => by simpa [spT] using d_rest rest
  | j :: rows, rest => by rw [spT_cons, d_up, stepD rows rest, List.map_cons, spT_cons]
/- M, N -/
theorem m_up (r : List Nat) : ∀ j, replL [94] [10] (up j ++ r) = List.replicate j 10 ++ replL [94] [10] r
  | 0 => rfl
  | j + 1 => by
    rw [up_succ, List.cons_append, replL_hit (by simp) (by simp)]
    show [10] ++ replL [94] [10] (up j ++ r) = _
    rw [m_up r j]
    rfl
theorem m_all : ∀ (rows : List Nat) (rest : Nat), replL [94] [10] (spT rows rest) = List.replicate (unT rows rest) 10
  | [], rest => by
    have := m_up [] rest
    rw [replL_nil, List.append_nil] at this
    rw [List.append_nil] at this
    simpa [spT, unT] using this
  | j :: rows, rest => by
    rw [spT_cons, m_up, replL_miss (by simp), m_all rows rest]
    have e : unT (j :: rows) rest = j + (1 + unT rows rest) := by simp only [unT, List.sum_cons, List.length_cons]; omega
    rw [e, ← List.replicate_append_replicate, ← List.replicate_append_replicate (n := 1)]
    rfl
theorem spT_zeros : ∀ n, spT (List.replicate n 0) 0 = List.replicate n 10
  | 0 => rfl
  | n + 1 => by
    rw [List.replicate_succ, spT_cons, spT_zeros n]
    rfl
theorem stepM (rows : List Nat) (rest : Nat) : replL [94] [10] (spT rows rest) = spT (List.replicate (unT rows rest) 0) 0 := by rw [m_all, spT_zeros]
theorem n_up (r : List Nat) : ∀ j, replL [10] [94] (up j ++ r) = up j ++ replL [10] [94] r
  | 0 => rfl
  | j + 1 => by
    rw [up_succ, List.cons_append, replL_miss (by simp), n_up r j]
    rfl
theorem stepN : ∀ (rows : List Nat) (rest : Nat), replL [10] [94] (spT rows rest) = spT [] (unT rows rest)
  | [], rest => by
    have := n_up [] rest
    rw [replL_nil, List.append_nil] at this
    simpa [spT, unT] using this
  | j :: rows, rest => by
    have ih := stepN rows rest
    rw [spT_cons, n_up, replL_hit (by simp) (by simp)]
    show up j ++ ([94] ++ replL [10] [94] (spT rows rest)) = _
    rw [ih]
    have e : unT (j :: rows) rest = j + (1 + unT rows rest) := by simp only [unT, List.sum_cons, List.length_cons]; omega
    show up j ++ ([94] ++ up (unT rows rest)) = up (unT (j :: rows) rest)
    rw [e]
    unfold up
    rw [← List.replicate_append_replicate, ← List.replicate_append_replicate (n := 1)]
    rfl
/-! ### what a form makes of groups -/
/-- told by natural numbers -/
def sdRows (b a : Nat) (rows : List Nat) : List Nat := rows.map (fun j => (j - b) + a)
def saidT (f : Fm) (rows : List Nat) (rest : Nat) : List Nat := match f with
  | .keep b a => spT (sdRows b.toNat a.toNat rows) rest
  | .lf b a k c => spT (List.replicate (k.toNat * unT (sdRows b.toNat a.toNat rows) rest) c.toNat) 0
  | .cr b a k => spT [] (k.toNat * unT (sdRows b.toNat a.toNat rows) rest)
theorem unT_rep : ∀ (n c r : Nat), unT (List.replicate n c) r = n * (c + 1) + r
  | 0, c, r => by simp [unT]
  | n + 1, c, r => by
    have ih := unT_rep n c r
    rw [List.replicate_succ]
    have e : unT (c :: List.replicate n c) r = (c + 1) + unT (List.replicate n c) r := by simp only [unT, List.sum_cons, List.length_cons]; omega
    rw [e, ih, Nat.succ_mul]
    omega
theorem sd_up (b a : Nat) (rows : List Nat) : sdRows b (a + 1) rows = (sdRows b a rows).map (· + 1) := by
  unfold sdRows
  rw [List.map_map]
  exact List.map_congr_left fun j _ => by show j - b + (a + 1) = (j - b + a) + 1; omega
theorem sd_dn (b a : Nat) (rows : List Nat) : sdRows b a rows = (sdRows b (a + 1) rows).map (· - 1) := by
  unfold sdRows
  rw [List.map_map]
  exact List.map_congr_left fun j _ => by show j - b + a = (j - b + (a + 1)) - 1; omega
theorem sd_dn0 (b : Nat) (rows : List Nat) : sdRows (b + 1) 0 rows = (sdRows b 0 rows).map (· - 1) := by
  unfold sdRows
  rw [List.map_map]
  exact List.map_congr_left fun j _ => by show j - (b + 1) + 0 = (j - b + 0) - 1; omega
theorem sd_0 (rows : List Nat) : sdRows 0 0 rows = rows := by
  unfold sdRows
  exact (List.map_congr_left fun j _ => by show j - 0 + 0 = id j; show _ = j; omega).trans (List.map_id rows)
theorem natF {n : Nat} {f : Fm} (h : f.Ok n) : (∃ b a : Nat, f = .keep b a) ∨ (∃ b a k c : Nat, f = .lf b a k c) ∨ (∃ b a k : Nat, f = .cr b a k) := by
  cases f with
  | keep b a =>
    obtain ⟨b', rfl⟩ := Int.eq_ofNat_of_zero_le h.1
    obtain ⟨a', rfl⟩ := Int.eq_ofNat_of_zero_le h.2.1
    exact .inl ⟨_, _, rfl⟩
  | lf b a k c =>
    obtain ⟨b', rfl⟩ := Int.eq_ofNat_of_zero_le h.1
    obtain ⟨a', rfl⟩ := Int.eq_ofNat_of_zero_le h.2.1
    obtain ⟨k', rfl⟩ := Int.eq_ofNat_of_zero_le (Int.le_of_lt h.2.2.1)
    obtain ⟨c', rfl⟩ := Int.eq_ofNat_of_zero_le h.2.2.2.1
    exact .inr (.inl ⟨_, _, _, _, rfl⟩)
  | cr b a k =>
    obtain ⟨b', rfl⟩ := Int.eq_ofNat_of_zero_le h.1
    obtain ⟨a', rfl⟩ := Int.eq_ofNat_of_zero_le h.2.1
    obtain ⟨k', rfl⟩ := Int.eq_ofNat_of_zero_le (Int.le_of_lt h.2.2.1)
    exact .inr (.inr ⟨_, _, _, rfl⟩)
theorem mul1 (k c : Nat) : ((k : Int) * ((c : Int) + 1) * 1) = ((k * (c + 1) : Nat) : Int) := by
  rw [Int.mul_one, Int.natCast_mul]
  rfl
theorem af0 (c : Nat) (k : Int) (c' : Int) : Fm.after (.lf 0 0 k c') c = c := by
  unfold Fm.after Fm.b Fm.a
  dsimp only
  split <;> omega
theorem af0c (c : Nat) (k : Int) : Fm.after (.cr 0 0 k) c = c := by
  unfold Fm.after Fm.b Fm.a
  dsimp only
  split <;> omega
end Lx
namespace Lw
open PySem PySem.Spec L2 Lx
open PySem.StrLaws
theorem said_step {n : Nat} {f : Fm} (h : f.Ok n) {c : Nat} (hc : c ∈ steps.cps.toList) (rows : List Nat) (rest : Nat) : saidT (f.both (stepF c)) rows rest = stepT c (saidT f rows rest) := by
  have hc4 : c = 85 ∨ c = 68 ∨ c = 77 ∨ c = 78 := by
    have : c ∈ ([85, 68, 77, 78] : List Nat) := hc
    simpa using this
  rcases natF h with ⟨b, a, rfl⟩ | ⟨b, a, k, d, rfl⟩ | ⟨b, a, k, rfl⟩
  · rcases hc4 with rfl | rfl | rfl | rfl
    · have e : (Fm.keep b a).both (stepF 85) = .keep b ((a + 1 : Nat) : Int) := by
        show Fm.keep ((b : Int) + (if (0 : Int) - a > 0 then (0 : Int) - a else 0)) ((if (a : Int) - 0 > 0 then (a : Int) - 0 else 0) + 1) = _
        congr 1 <;> split <;> omega
      rw [e]
      show spT (sdRows (b : Int).toNat ((a + 1 : Nat) : Int).toNat rows) rest = replL [10] [94, 10] (spT (sdRows (b : Int).toNat (a : Int).toNat rows) rest)
      rw [Int.toNat_natCast, Int.toNat_natCast, Int.toNat_natCast, stepU, sd_up]
    · cases a with
      | zero =>
        have e : (Fm.keep b ((0 : Nat) : Int)).both (stepF 68) = .keep ((b + 1 : Nat) : Int) ((0 : Nat) : Int) := by
          show Fm.keep ((b : Int) + (if (1 : Int) - ((0 : Nat) : Int) > 0 then (1 : Int) - ((0 : Nat) : Int) else 0)) ((if ((0 : Nat) : Int) - 1 > 0 then ((0 : Nat) : Int) - 1 else 0) + 0) = _
          congr 1 <;> split <;> omega
        rw [e]
        show spT (sdRows ((b + 1 : Nat) : Int).toNat ((0 : Nat) : Int).toNat rows) rest = replL [94, 10] [10] (spT (sdRows (b : Int).toNat ((0 : Nat) : Int).toNat rows) rest)
        rw [Int.toNat_natCast, Int.toNat_natCast, Int.toNat_natCast, stepD, sd_dn0]
      | succ a =>
        have e : (Fm.keep b ((a + 1 : Nat) : Int)).both (stepF 68) = .keep b a := by
          show Fm.keep ((b : Int) + (if (1 : Int) - ((a + 1 : Nat) : Int) > 0 then (1 : Int) - ((a + 1 : Nat) : Int) else 0)) ((if ((a + 1 : Nat) : Int) - 1 > 0 then ((a + 1 : Nat) : Int) - 1 else 0) + 0) = _
          congr 1 <;> split <;> omega
        rw [e]
        show spT (sdRows (b : Int).toNat (a : Int).toNat rows) rest = replL [94, 10] [10] (spT (sdRows (b : Int).toNat ((a + 1 : Nat) : Int).toNat rows) rest)
        rw [Int.toNat_natCast, Int.toNat_natCast, Int.toNat_natCast, stepD, ← sd_dn]
    · have e : (Fm.keep b a).both (stepF 77) = .lf b a ((1 : Nat) : Int) ((0 : Nat) : Int) := by
        show Fm.lf ((b : Int) + (if (0 : Int) - a > 0 then (0 : Int) - a else 0)) ((if (a : Int) - 0 > 0 then (a : Int) - 0 else 0) + 0) 1 0 = _
        congr 1 <;> split <;> omega
      rw [e]
      show spT (List.replicate (((1 : Nat) : Int).toNat * unT (sdRows (b : Int).toNat (a : Int).toNat rows) rest) ((0 : Nat) : Int).toNat) 0 = replL [94] [10] (spT (sdRows (b : Int).toNat (a : Int).toNat rows) rest)
      rw [Int.toNat_natCast, Int.toNat_natCast, Int.toNat_natCast, Int.toNat_natCast, stepM, Nat.one_mul]
    · have e : (Fm.keep b a).both (stepF 78) = .cr b a ((1 : Nat) : Int) := by
        show Fm.cr ((b : Int) + (if (0 : Int) - a > 0 then (0 : Int) - a else 0)) ((if (a : Int) - 0 > 0 then (a : Int) - 0 else 0) + 0) 1 = _
        congr 1 <;> split <;> omega
      rw [e]
      show spT [] (((1 : Nat) : Int).toNat * unT (sdRows (b : Int).toNat (a : Int).toNat rows) rest) = replL [10] [94] (spT (sdRows (b : Int).toNat (a : Int).toNat rows) rest)
      rw [Int.toNat_natCast, Int.toNat_natCast, Int.toNat_natCast, stepN, Nat.one_mul]
  · rcases hc4 with rfl | rfl | rfl | rfl
    · have e : (Fm.lf b a k d).both (stepF 85) = .lf b a k ((d + 1 : Nat) : Int) := by
        show Fm.lf b a k ((if (d : Int) - 0 > 0 then (d : Int) - 0 else 0) + 1) = _
        congr 1 <;> split <;> omega
      rw [e]
      show spT (List.replicate ((k : Int).toNat * unT (sdRows (b : Int).toNat (a : Int).toNat rows) rest) ((d + 1 : Nat) : Int).toNat) 0 = replL [10] [94, 10] (spT (List.replicate ((k : Int).toNat * unT (sdRows (b : Int).toNat (a : Int).toNat rows) rest) (d : Int).toNat) 0)
      rw [stepU, List.map_replicate]
      simp only [Int.toNat_natCast]
    · have e : (Fm.lf b a k d).both (stepF 68) = .lf b a k ((d - 1 : Nat) : Int) := by
        show Fm.lf b a k ((if (d : Int) - 1 > 0 then (d : Int) - 1 else 0) + 0) = _
        congr 1 <;> split <;> omega
      rw [e]
      show spT (List.replicate ((k : Int).toNat * unT (sdRows (b : Int).toNat (a : Int).toNat rows) rest) ((d - 1 : Nat) : Int).toNat) 0 = replL [94, 10] [10] (spT (List.replicate ((k : Int).toNat * unT (sdRows (b : Int).toNat (a : Int).toNat rows) rest) (d : Int).toNat) 0)
      rw [stepD, List.map_replicate]
      simp only [Int.toNat_natCast]
    · have e : (Fm.lf b a k d).both (stepF 77) = .lf b a ((k * (d + 1) : Nat) : Int) ((0 : Nat) : Int) := by
        show Fm.lf b a ((k : Int) * (Fm.after (.lf 0 0 1 0) d + 1) * 1) 0 = _
        rw [af0, mul1]
        rfl
      rw [e]
      show spT (List.replicate (((k * (d + 1) : Nat) : Int).toNat * unT (sdRows (b : Int).toNat (a : Int).toNat rows) rest) ((0 : Nat) : Int).toNat) 0 = replL [94] [10] (spT (List.replicate ((k : Int).toNat * unT (sdRows (b : Int).toNat (a : Int).toNat rows) rest) (d : Int).toNat) 0)
      rw [stepM, unT_rep]
      simp only [Int.toNat_natCast, Nat.add_zero]
      rw [Nat.mul_right_comm]
    · have e : (Fm.lf b a k d).both (stepF 78) = .cr b a ((k * (d + 1) : Nat) : Int) := by
        show Fm.cr b a ((k : Int) * (Fm.after (.cr 0 0 1) d + 1) * 1) = _
        rw [af0c, mul1]
      rw [e]
      show spT [] (((k * (d + 1) : Nat) : Int).toNat * unT (sdRows (b : Int).toNat (a : Int).toNat rows) rest) = replL [10] [94] (spT (List.replicate ((k : Int).toNat * unT (sdRows (b : Int).toNat (a : Int).toNat rows) rest) (d : Int).toNat) 0)
      rw [stepN, unT_rep]
      simp only [Int.toNat_natCast, Nat.add_zero]
      rw [Nat.mul_right_comm]
  · have un0 : ∀ n, unT [] n = n := fun n => by simp [unT]
    rcases hc4 with rfl | rfl | rfl | rfl
    · show spT [] _ = replL [10] [94, 10] (spT [] _)
      rw [stepU]
      rfl
    · show spT [] _ = replL [94, 10] [10] (spT [] _)
      rw [stepD]
      rfl
    · have e : (Fm.cr b a k).both (stepF 77) = .lf b a k ((0 : Nat) : Int) := by
        show Fm.lf b a ((k : Int) * 1 * 1) 0 = _
        rw [Int.mul_one, Int.mul_one]
        rfl
      rw [e]
      show spT (List.replicate ((k : Int).toNat * unT (sdRows (b : Int).toNat (a : Int).toNat rows) rest) ((0 : Nat) : Int).toNat) 0 = replL [94] [10] (spT [] ((k : Int).toNat * unT (sdRows (b : Int).toNat (a : Int).toNat rows) rest))
      rw [stepM, un0]
      rfl
    · have e : (Fm.cr b a k).both (stepF 78) = .cr b a k := by
        show Fm.cr b a ((k : Int) * 1 * 1) = _
        rw [Int.mul_one, Int.mul_one]
      rw [e]
      show spT [] ((k : Int).toNat * unT (sdRows (b : Int).toNat (a : Int).toNat rows) rest) = replL [10] [94] (spT [] ((k : Int).toNat * unT (sdRows (b : Int).toNat (a : Int).toNat rows) rest))
      rw [stepN, un0]
theorem said_done (rows : List Nat) (rest : Nat) : ∀ (k : Nat) (cs : List Nat), cs.length = k → k ≤ 60 → (∀ c ∈ cs, c ∈ steps.cps.toList) → saidT (formL cs) rows rest = doneT (spT rows rest) cs
  | 0, cs, h, _, _ => by
    rw [List.length_eq_zero_iff.mp h]
    show spT (sdRows 0 0 rows) rest = spT rows rest
    rw [sd_0]
  | k + 1, cs, h, hk, hc => by
    rcases List.eq_nil_or_concat cs with rfl | ⟨ds, c, rfl⟩
    · cases h
    · have e : ds.length = k := by simpa using h
      rw [List.concat_eq_append] at hc ⊢
      have hd : ∀ c ∈ ds, c ∈ steps.cps.toList := fun c h => hc c (List.mem_append_left _ h)
      rw [formL_snoc, doneT_snoc, ← said_done rows rest k ds e (by omega) hd]
      exact said_step (formL_fls k ds e (by omega) hd).ok (hc c (by simp)) rows rest
/-! ### cutting such a text at its breaks -/
theorem spT_join : ∀ (rows : List Nat) (rest : Nat), spT rows rest = TL.joinL [10] (rows.map up ++ [up rest])
  | [], rest => rfl
  | j :: rows, rest => by
    rw [spT_cons, spT_join rows rest]
    cases rows with
    | nil => rfl
    | cons a r => rfl
theorem spT_cut (rows : List Nat) (rest : Nat) : TL.spl [10] 0 [] (spT rows rest) = rows.map up ++ [up rest] := by
  rw [spT_join]
  refine TL.spl_join (by simp) fun p hp => ?_
  have hu : ∀ n, (10 : Nat) ∉ up n := fun n h => by
    have := (List.mem_replicate.mp h).2
    omega
  rcases List.mem_append.mp hp with h | h
  · obtain ⟨n, _, rfl⟩ := List.mem_map.mp h
    exact hu n
  · rw [List.mem_singleton.mp h]
    exact hu _
/-- every text of ^ and breaks is one -/
theorem spT_of : ∀ l : List Nat, (∀ c ∈ l, c = 94 ∨ c = 10) → ∃ rows rest, l = spT rows rest
  | [], _ => ⟨[], 0, rfl⟩
  | c :: l, h => by
    obtain ⟨rows, rest, rfl⟩ := spT_of l fun d hd => h d (List.mem_cons_of_mem _ hd)
    rcases h c List.mem_cons_self with rfl | rfl
    · cases rows with
      | nil => exact ⟨[], rest + 1, rfl⟩
      | cons j rows => exact ⟨(j + 1) :: rows, rest, by rw [spT_cons, spT_cons]; rfl⟩
    · exact ⟨0 :: rows, rest, by rw [spT_cons]; rfl⟩
end Lw
namespace Lw
open PySem PySem.Spec L2 Lx
theorem scBetween : FnScope ["early", "late", "steps"] ["early", "late"] (defScope sLBetween) := ⟨rfl, rfl, rfl, by decide +kernel, rfl, by decide +kernel, by decide +kernel⟩
/-- the steps from an ending to another one -/
def Btw (e l z : Str) : Prop := (e = l ∧ z = "") ∨ (e = "\n" ∧ l = "^\n" ∧ z = "U") ∨ (e = "\n" ∧ l = "^" ∧ z = "N") ∨ (e = "^\n" ∧ l = "\n" ∧ z = "D") ∨ (e = "^\n" ∧ l = "^" ∧ z = "DN") ∨ (e = "^" ∧ l = "\n" ∧ z = "M") ∨ (e = "^" ∧ l = "^\n" ∧ z = "MU")
def Ends3 (e : Str) : Prop := e = "\n" ∨ e = "^\n" ∨ e = "^"
def spBetween : Sp := fun vs H Q _ => ∃ e l : Str, vs = [.str e, .str l] ∧ Ends3 e ∧ Ends3 l ∧ ∀ z H', Same H H' → Btw e l z → Q (.str z) H'
section
variable {P : Program} {w : World} {K : PySem.W.Frag} {mg : Str → Option Value} {base : Heap}
theorem ok_between {f : Addr} {fd : FuncData} {k : Nat} (F : Fun K "_law_between" "_law_between" sLBetween f fd) : FnOk P w K mg base CX0 (k + 1) f fd ["early", "late"] spBetween := by
  refine F.ok scBetween (fun vs H Q E h => ?_) (fun cdv A outer s H vs Q E hr h => ?_)
  · obtain ⟨e, l, rfl, _⟩ := h
    rfl
  · obtain ⟨e, l, rfl, he, hl, q⟩ := h
    have hu : (A.deeper (PyProof.Rows.envOfC "_law_between" (defScope sLBetween) s.heap.objs.size f cdv)).units + 1 < cLine := by
      have := hr.units
      omega
    refine ⟨_, (pss_cons (ps_set (i := 2) scBetween.nd rfl (.inl rfl) (pe_disp (pps_cons pe_str pe_str (pps_cons pe_str pe_str (pps_cons pe_str pe_str (pps_cons pe_str pe_str (pps_cons pe_str pe_str (pps_cons pe_str pe_str pps_nil)))))) (by rfl) (by rfl) (fun z => by cases z) (by decide)))
      (pss_one (ps_ret (pe_ifExp (pt_cmpR op_eq (pv 0) (pv 1) (nomark _)) pe_str (pe_dget hu (pv 2) (pe_op op_add_str (pv 0) (pv 1)) (fun _ _ => rfl)))))), ?_⟩
    refine fun p np => ⟨upd_same, ?_⟩
    let kvs : List (Key × V) := [((.inr "\n^\n" : Key), .str "U"), ((.inr "\n^" : Key), .str "N"), ((.inr "^\n\n" : Key), .str "D"), ((.inr "^\n^" : Key), .str "DN"), ((.inr "^\n" : Key), .str "M"), ((.inr "^^\n" : Key), .str "MU")]
    refine ⟨kvs, rfl, by decide, ?_⟩
    have s1 : Same H (upd (upd H p (.dK [])) p (.dK (mergeK [] kvs))) := by
      rw [upd_upd]
      exact same_upd np
    have hp : upd (upd H p (.dK [])) p (.dK (mergeK [] kvs)) p = some (.dK kvs) := upd_same
    generalize upd (upd H p (.dK [])) p (.dK (mergeK [] kvs)) = H1 at s1 hp
    dsimp only [gName, tNext, tSeq]
    refine ⟨_, rfl, _, rfl, rfl, _, rfl, ?_⟩
    have get : ∀ (y z : Str), valV kvs (.inr y : Key) = some (.str z) → DGet H1 p (.str y) (some (.str z)) := fun y z h => .inl ⟨kvs, (.inr y : Key), .inl hp, rfl, h.symm⟩
    have len : ∀ x : Str, Ends3 x → x.length ≤ 2 := fun x h => by
      rcases h with rfl | rfl | rfl <;> decide
    have hle := len e he
    have hll := len l hl
    rcases he with rfl | rfl | rfl <;> rcases hl with rfl | rfl | rfl
    all_goals first
      | exact iteT (q _ H1 s1 (.inl ⟨rfl, rfl⟩))
      | exact iteF ⟨_, rfl, _, rfl, _, rfl, _, _, rfl, rfl, by rw [sizeLine_eq]; omega, p, _, rfl, get _ "U" (by decide), q _ H1 s1 (.inr (.inl ⟨rfl, rfl, rfl⟩))⟩
      | exact iteF ⟨_, rfl, _, rfl, _, rfl, _, _, rfl, rfl, by rw [sizeLine_eq]; omega, p, _, rfl, get _ "N" (by decide), q _ H1 s1 (.inr (.inr (.inl ⟨rfl, rfl, rfl⟩)))⟩
      | exact iteF ⟨_, rfl, _, rfl, _, rfl, _, _, rfl, rfl, by rw [sizeLine_eq]; omega, p, _, rfl, get _ "D" (by decide), q _ H1 s1 (.inr (.inr (.inr (.inl ⟨rfl, rfl, rfl⟩))))⟩
      | exact iteF ⟨_, rfl, _, rfl, _, rfl, _, _, rfl, rfl, by rw [sizeLine_eq]; omega, p, _, rfl, get _ "DN" (by decide), q _ H1 s1 (.inr (.inr (.inr (.inr (.inl ⟨rfl, rfl, rfl⟩)))))⟩
      | exact iteF ⟨_, rfl, _, rfl, _, rfl, _, _, rfl, rfl, by rw [sizeLine_eq]; omega, p, _, rfl, get _ "M" (by decide), q _ H1 s1 (.inr (.inr (.inr (.inr (.inr (.inl ⟨rfl, rfl, rfl⟩))))))⟩
      | exact iteF ⟨_, rfl, _, rfl, _, rfl, _, _, rfl, rfl, by rw [sizeLine_eq]; omega, p, _, rfl, get _ "MU" (by decide), q _ H1 s1 (.inr (.inr (.inr (.inr (.inr (.inr ⟨rfl, rfl, rfl⟩))))))⟩
end
end Lw
namespace Lx
open PySem PySem.Spec L2
/-! ### a local name and just the value that it holds -/
section
variable {X : Cx} {pins : List (Addr × Obj)} {σ : St} {H : Hp} {s : Shared}
def Holds (X : Cx) (s : Shared) (x : Str) (u : Value) : Prop := ∃ m, s.heap.Ns X.env.locals m ∧ m x = some u
theorem store_raw {M : Model} {A : Around} {E : Value → Shared → Prop} {i : Nat} {x : Str} {v : V} {u : Value} {Q : Unit → Shared → Prop} (I : Inv X pins σ H s) (hN : X.N.Nodup) (hi : X.N[i]? = some x) (hk : X.env.scope.names.lookup x = some .local) (r : RelV v u)
    (h : ∀ s', Inv X pins (σ.set i (some v)) H s' → Holds X s' x u → (∀ y w, y ≠ x → Holds X s y w → Holds X s' y w) → Q () s') : wpAny M A (storeName X.env x u) Q E s := by
  obtain ⟨m, hn, hl⟩ := id I.loc
  have hcls : (X.env.scope.kind == .class || (X.env.scope.kind == .module && X.env.locals != X.env.globals)) = false := by rw [I.ok.kind]; rfl
  have hiσ : i < σ.length := by rw [I.len]; exact (List.getElem?_eq_some_iff.mp hi).1
  have cne := I.cne
  have tracked : ∀ {a : Addr} {h' : Heap}, (∃ o, s.heap.get? a = some o ∧ H a = none) → Heap.SameBut a s.heap h' → HOk X.prog X.w H h' := fun {a h'} ha hs b ob e => by
    obtain ⟨_, _, hfree⟩ := ha
    refine (I.hok b ob e).stay (fun c w' hc q => (hs.2 c ?_).trans q) (fun _ q => q) fun _ _ q => q
    rintro rfl
    rcases hc with rfl | hc
    · rw [hfree] at e; cases e
    · rw [hfree] at hc; cases hc
  refine wpAny_storeName_local hk hn (fun h' hn' hs => ?_) hcls
  obtain ⟨oL, _, _, hoL, _⟩ := id hn
  refine h _ ⟨I.ok, I.os, I.bare, ⟨fun b o e n hb hx => ?_, fun b o e n hb hx => ?_, I.base.free, fun b o e hx => ?_, I.base.tups, I.base.frzs, I.base.tbls⟩, ⟨_, hn', fun j y v' e1 e2 e3 => ?_⟩, fun y c e => ?_, I.free, I.freeC, fun p hp => ?_, tracked ⟨oL, hoL, I.free⟩ hs, by simpa using I.len⟩ ⟨_, hn', by simp⟩ fun y w hy ⟨m2, hm2, e2⟩ => ⟨_, hn', by
    have := Heap.Ns.agree hn hm2 y
    simp only [hy, if_false]
    rw [this, e2]⟩
  · exact (hs.2 b (Nat.ne_of_lt (Nat.lt_of_lt_of_le (Heap.lt_size e) I.ok.above))).trans (I.base.keep b o e n hb hx)
  · obtain ⟨sl, e1⟩ := I.base.slot b o e n hb hx
    exact ⟨sl, (hs.2 b (Nat.ne_of_lt (Nat.lt_of_lt_of_le (Heap.lt_size e) I.ok.above))).trans e1⟩
  · obtain ⟨o', e1⟩ := I.base.there b o e hx
    exact ⟨o', (hs.2 b (Nat.ne_of_lt (Nat.lt_of_lt_of_le (Heap.lt_size e) I.ok.above))).trans e1⟩
  · by_cases hj : j = i
    · subst hj
      rw [hi] at e1; cases e1
      rw [List.getElem?_set_self hiσ] at e2
      cases e2
      exact ⟨u, r, .inl ⟨hk, by simp⟩⟩
    · rw [List.getElem?_set_ne (Ne.symm hj)] at e2
      obtain ⟨u', r', q⟩ := hl j y v' e1 e2 e3
      refine ⟨u', r', ?_⟩
      rcases q with ⟨k, e⟩ | ⟨k, c, e, z⟩
      · refine .inl ⟨k, ?_⟩
        have : y ≠ x := fun e => hj (nodup_ix hN e1 (e ▸ hi))
        simp [this, e]
      · exact .inr ⟨k, c, e, z.sameBut hs (cne y c e)⟩
  · obtain ⟨w', z⟩ := I.cell y c e
    exact ⟨w', z.sameBut hs (cne y c e)⟩
  · obtain ⟨e, n, ne, nf, d⟩ := I.pin p hp
    exact ⟨(hs.2 p.1 ne).trans e, n, ne, nf, d⟩
theorem holds_name {x : Str} {u : Value} {pos : Pos} {Q E : Value → Shared → Prop} (I : Inv X pins σ H s) (hk : X.env.scope.names.lookup x = some .local) (h : Holds X s x u) (fin : Q u s)
    (hd : (x == ("__debug__" : Str)) = false := by decide) : wpAny (model X.prog X.w) X.A (eval (.Name x pos) X.env) Q E s := by
  obtain ⟨m, hn, hm⟩ := h
  exact wpAny_Name (wpAny_loadName_local I.ok.kind hk hn hm fin) hd
end
/-- a, b = e; return t.replace(a, b): e a written pair of texts -/
def tRepd (K : PySem.W.Frag) (it : Nat) (te : TE) : TS := fun D σ H => te σ H fun v H1 => ∃ a y z t u x, v = .ref a ∧ (∃ o n, K.lookup a = some o ∧ o.cls = .type "tuple" ∧ o.data = .seq #[.str y t, .str z u] n) ∧ t ≠ 0 ∧ u ≠ 0 ∧ t ≠ u ∧ (y == z) = false ∧
  σ[it]? = some (some (.str x)) ∧ x.length + (x.length + 1) * z.length ≤ 16777216 ∧ D.rt (.str (Txt.replace x y z)) H1
theorem pss_repd {X : Cx} {e : Expr} {te : TE} {it i0 i1 : Nat} {tx y0 y1 : Str} {p0 p1 p2 p3 p4 pt pos apos cpos rpos : Pos} {k0 : Nat} (hc : X.calm = true) (hN : X.N.Nodup) (ht : X.N[it]? = some tx) (h0 : X.N[i0]? = some y0) (h1 : X.N[i1]? = some y1) (n01 : y0 ≠ y1) (nt0 : it ≠ i0) (nt1 : it ≠ i1)
    (hvt : Vis X.env.scope tx) (hk0 : X.env.scope.names.lookup y0 = some .local) (hk1 : X.env.scope.names.lookup y1 = some .local) (he : PE X e te)
    (hs : swapsWithSole [.Tuple [.Name y0 p0, .Name y1 p1] k0 pt] e pos.line X.env = pure false := by rfl) (hw : swappedStores [.Tuple [.Name y0 p0, .Name y1 p1] k0 pt] e X.env = pure none := by rfl)
    (ha1 : (assignEach [.Tuple [.Name y0 p0, .Name y1 p1] k0 pt] X.env).map (·.2) = [assign (.Tuple [.Name y0 p0, .Name y1 p1] k0 pt) X.env] := by rfl)
    (hn : (assignEach [.Name y0 p0, .Name y1 p1] X.env).length = 2 := by rfl) (hst : (assignEach [.Name y0 p0, .Name y1 p1] X.env).findIdx? (·.1) = none := by rfl)
    (ha2 : (assignEach [.Name y0 p0, .Name y1 p1] X.env).map (·.2) = [assign (.Name y0 p0) X.env, assign (.Name y1 p1) X.env] := by rfl)
    (hst2 : starEach [.Name y0 p3, .Name y1 p4] X.env = [(false, eval (.Name y0 p3) X.env), (false, eval (.Name y1 p4) X.env)] := by rfl)
    (hbase : attributeBase (.Name tx p2) "replace" X.env (eval (.Name tx p2) X.env) = eval (.Name tx p2) X.env := by rfl) (hline : (apos.endLine == cpos.line) = true := by rfl)
    (hdt : (tx == ("__debug__" : Str)) = false := by decide) (hct : (tx == ("__classdict__" : Str)) = false := by decide) (hd0 : (y0 == ("__debug__" : Str)) = false := by decide) (hd1 : (y1 == ("__debug__" : Str)) = false := by decide) :
    PSs X [.Assign [.Tuple [.Name y0 p0, .Name y1 p1] k0 pt] e pos, .Return (some (.Call (.Attribute (.Name tx p2) "replace" apos) [.Name y0 p3, .Name y1 p4] [] cpos)) rpos] (tRepd X.K it te) := by
  refine ⟨fun pins s σ H D I h => ?_⟩
  refine wpAny_execs_cons (wpAny_Assign_stores (thn (he.run pins s σ H _ I h) fun v s1 ⟨vv, H1, I1, r1, a, y, z, t, u, x, ev, ⟨o, n, hl, ho, hd⟩, t0, u0, tu, yz, hx, hb, q⟩ => ?_) hs hw)
  subst ev
  obtain rfl : v = Value.ref a := r1
  rw [ha1]
  refine wpAny_mono (M := model X.prog X.w) (Q := fun _ s' => Inv X pins ((σ.set i0 (some (.str y))).set i1 (some (.str z))) H1 s' ∧ Holds X s' y0 (.str y t) ∧ Holds X s' y1 (.str z u)) ?_ (fun _ s2 q2 => ?_) fun _ _ z => z
  · refine PyProof.Rows.assign_Tuple_tuple (I1.ok.hd hc) ⟨o, I1.kIn _ _ hl, ho, n, hd⟩ hn hst fun h' hx2 => ?_
    have I2 : Inv X pins σ H1 { s1 with heap := h' } := I1.kept (t' := s1.toks) fun b o e => hx2 b o (Nat.ne_of_lt (Heap.lt_size e)) e
    rw [ha2]
    refine PyProof.Rows.assignInOrder_cons (wpAny_assign_Name (store_raw (v := .str y) I2 hN h0 hk0 ⟨t, rfl⟩ fun s3 I3 g3 _ => ?_))
    refine PyProof.Rows.assignInOrder_cons (wpAny_assign_Name (store_raw (v := .str z) I3 hN h1 hk1 ⟨u, rfl⟩ fun s4 I4 g4 k4 => ?_))
    exact PyProof.Rows.assignInOrder_nil ⟨I4, k4 _ _ n01 g3, g4⟩
  · obtain ⟨I2, g0, g1⟩ := q2
    refine wpAny_execs_cons (wpAny_Return_some (PySem.Call_method2 hbase hst2 hline (raw_name (v := .str x) ht hvt I2 ?_ (fun v r => ?_) hdt hct)))
    · rw [List.getElem?_set_ne (Ne.symm nt1), List.getElem?_set_ne (Ne.symm nt0)]
      exact hx
    · obtain ⟨tx', e⟩ := r
      subst e
      refine ⟨"str", _, F.plainAttrs_str, F.slot_str_replace, F.type_str_replace, typeIs_str _ _ _, (fun _ e => nomatch e), Calls.callWith_builtin rfl (Calls.evalArgs_plain (Calls.spliced_cons ?_))⟩
      refine holds_name I2 hk0 g0 ?_ hd0
      refine Calls.spliced_cons (holds_name I2 hk1 g1 ?_ hd1)
      refine Calls.spliced_nil ?_
      exact PySem.SC.replace t0 u0 tu yz hb fun t' k => ⟨.str (Txt.replace x y z), _, H1, I2.tok k, ⟨t', rfl⟩, q⟩
end Lx
namespace Lw
open PySem PySem.Spec L2 Lx
theorem scChkChain : FnScope ["chain", "index", "letter"] ["chain"] (defScope sChkChain) := ⟨rfl, rfl, rfl, by decide +kernel, rfl, by decide +kernel, by decide +kernel⟩
def spChkChain : Sp := fun vs H Q _ => ∃ x, vs = [.str x] ∧ ChOk x ∧ ∀ H', Same H H' → Q .non H'
section
variable {P : Program} {w : World} {K : PySem.W.Frag} {mg : Str → Option Value} {base : Heap} {aL aN aS : Addr}
theorem ok_chkChain {f : Addr} {fd : FuncData} {k : Nat} {tS : Tok} (F : Fun K "check_chain" "check_chain" sChkChain f fd) (mE : mg "enumerate" = none) (gS : mg "STEPS" = some (.str steps tS)) : FnOk P w K mg base CX0 (k + 1) f fd ["chain"] spChkChain := by
  refine F.ok scChkChain (fun vs H Q E h => ?_) (fun cdv A outer s H vs Q E hr h => ?_)
  · obtain ⟨x, rfl, _⟩ := h
    rfl
  · obtain ⟨x, rfl, hx, q⟩ := h
    refine ⟨_, pss_one (ps_for PassesOwn.never rfl (pi_enumS rfl mE (pa_cons (pv 0) pa_nil)) (pg_tup (by rfl) (pgs_cons (pg_name (i := 1) scChkChain.nd rfl (.inl rfl)) (pgs_cons (pg_name (i := 2) scChkChain.nd rfl (.inl rfl)) pgs_nil)))
        (pss_one (ps_if (pt_cmpR op_notIn_sign (pv 2) (pe_glob (v := .str steps) rfl gS ⟨_, rfl⟩) rfl) (pss_one ps_never) pss_nil))), ?_⟩
    refine ⟨_, rfl, x, rfl, ?_⟩
    refine for_it walk_enumS (fun i σ H' => Same H H' ∧ ∃ y1 y2, σ = [some (.str x), y1, y2]) ⟨Same.refl H, none, none, rfl⟩ (fun _ _ _ _ _ => trivial) ?_ ?_
    · rintro i v σ H1 H2 hi ⟨sm, y1, y2, rfl⟩ ⟨T, u1, u2, rfl, nT, rfl, h1, h2⟩
      cases Option.some.inj h1
      replace h2 : (x.cps[i]?).map (fun c => V.str ⟨#[c]⟩) = some u2 := h2
      cases e : x.cps[i]? with
      | none => rw [e] at h2; cases h2
      | some c =>
        rw [e] at h2
        cases Option.some.inj h2
        have hc : c ∈ steps.cps.toList := hx c (by rw [Array.mem_toList_iff]; exact Array.mem_of_getElem? e)
        have s2 := sm.trans (same_upd (o := .tup [.int (i : Nat), .str ⟨#[c]⟩]) nT)
        refine ⟨T, _, rfl, .inl (.inl upd_same), rfl, _, _, rfl, _, _, rfl, rfl, ?_⟩
        refine ⟨_, rfl, c, steps, rfl, rfl, _, rfl, ?_⟩
        rw [decide_eq_true hc]
        exact iteF ⟨s2, _, _, rfl⟩
    · rintro σ H1 ⟨sm, y1, y2, rfl⟩
      exact q _ sm
end
end Lw
namespace Lw
open PySem PySem.Spec L2 Lx
theorem scTas : FnScope ["text", "letter", "old", "new"] ["text", "letter"] (defScope sTextAfterStep) := ⟨rfl, rfl, rfl, by decide +kernel, rfl, by decide +kernel, by decide +kernel⟩
/-- no text on the way is too long -/
def TB (l cs : List Nat) : Prop := ∀ i, (doneT l (cs.take i)).length ≤ 1000000
theorem tb_pow {l cs : List Nat} (h : l.length * 2 ^ cs.length ≤ 1000000) : TB l cs := fun i => by
  have h1 := doneT_len l _ (cs.take i) rfl
  have h2 : 2 ^ (cs.take i).length ≤ 2 ^ cs.length := Nat.pow_le_pow_right (by decide) (by rw [List.length_take]; omega)
  have h3 := Nat.mul_le_mul_left l.length h2
  omega
/-- the two texts of each step -/
structure RepT (K : PySem.W.Frag) (w : World) (mg : Str → Option Value) (aR : Addr) : Prop where
  g : mg "REPLACEMENTS" = some (.ref aR)
  s : ∀ c ∈ steps.cps.toList, ∃ a y z t u, KDct K w aR ⟨#[c]⟩ (.ref a) ∧ (∃ o n, K.lookup a = some o ∧ o.cls = .type "tuple" ∧ o.data = .seq #[.str y t, .str z u] n) ∧ t ≠ 0 ∧ u ≠ 0 ∧ t ≠ u ∧ (y == z) = false ∧ 1 ≤ y.length ∧ z.length ≤ 2 ∧ ∀ l, stepT c l = PySem.StrLaws.replL y.cps.toList z.cps.toList l
def spTas : Sp := fun vs H Q _ => ∃ (x : Str) (c : Nat), vs = [.str x, .str ⟨#[c]⟩] ∧ c ∈ steps.cps.toList ∧ x.cps.size ≤ 5000000 ∧ ∀ y : Str, y.cps.toList = stepT c x.cps.toList → Q (.str y) H
def spCvt : Sp := fun vs H Q _ => ∃ (x z : Str), vs = [.str x, .str z] ∧ ChOk z ∧ TB x.cps.toList z.cps.toList ∧ ∀ (y : Str) H', Same H H' → y.cps.toList = doneT x.cps.toList z.cps.toList → Q (.str y) H'
section
variable {P : Program} {w : World} {K : PySem.W.Frag} {mg : Str → Option Value} {base : Heap}
theorem ok_tas {f aR : Addr} {fd : FuncData} {k : Nat} (F : Fun K "text_after_step" "text_after_step" sTextAfterStep f fd) (T : RepT K w mg aR) : FnOk P w K mg base CX0 (k + 1) f fd ["text", "letter"] spTas := by
  refine F.ok scTas (fun vs H Q E h => ?_) (fun cdv A outer s H vs Q E hr h => ?_)
  · obtain ⟨x, c, rfl, _⟩ := h
    rfl
  · obtain ⟨x, c, rfl, hc, hl, q⟩ := h
    obtain ⟨a, y, z, t, u, hd, ho, t0, u0, tu, yz, y1, z2, e⟩ := T.s c hc
    refine ⟨_, pss_repd (it := 0) (i0 := 2) (i1 := 3) rfl scTas.nd rfl rfl rfl (by decide) (by decide) (by decide) (.inl rfl) rfl rfl (pe_ix ix_kdict (pe_glob (v := .ref aR) rfl T.g rfl) (pv 1) (fun _ _ => rfl)), ?_⟩
    refine ⟨_, rfl, aR, _, .ref a, rfl, rfl, hd, a, y, z, t, u, x, rfl, ho, t0, u0, tu, yz, rfl, ?_, ?_⟩
    · have h1 : x.length = x.cps.size := rfl
      have : (x.length + 1) * z.length ≤ (x.length + 1) * 2 := Nat.mul_le_mul_left _ z2
      omega
    · exact q _ (by rw [PySem.StrLaws.replace_list y1, e])
end
end Lw
namespace Lw
open PySem PySem.Spec L2 Lx
theorem scSigns : FnScope ["j", "wanted"] ["j", "wanted"] (defScope sSigns) := ⟨rfl, rfl, rfl, by decide +kernel, rfl, by decide +kernel, by decide +kernel⟩
theorem scUog : FnScope ["j", "wanted"] ["j", "wanted"] (defScope sUog) := ⟨rfl, rfl, rfl, by decide +kernel, rfl, by decide +kernel, by decide +kernel⟩
def spUog (K : PySem.W.Frag) : Sp := fun vs H Q _ => ∃ j x f, vs = [.int j, x] ∧ FmAt K H x f ∧ Q (.int (f.after j + 1)) H
def spSigns (K : PySem.W.Frag) : Sp := fun vs H Q _ => ∃ j x f, vs = [.int j, x] ∧ FmAt K H x f ∧ Q (.int (f.after j)) H
section
variable {P : Program} {w : World} {K : PySem.W.Frag} {mg : Str → Option Value} {base : Heap} {aL aN aS : Addr}
theorem ok_signs {f : Addr} {fd : FuncData} {k : Nat} (F : Fun K "signs_after" "signs_after" sSigns f fd) (mX : mg "max" = none) : FnOk P w K mg base CX0 (k + 1) f fd ["j", "wanted"] (spSigns K) := by
  refine F.ok scSigns (fun vs H Q E h => ?_) (fun cdv A outer s H vs Q E hr h => ?_)
  · obtain ⟨j, x, f, rfl, _⟩ := h
    rfl
  · obtain ⟨j, _, f, rfl, ⟨p, rfl, hT⟩, q⟩ := h
    refine ⟨_, pss_one (ps_ret (pe_op op_add (pe_callB (call_max2 rfl) (by rfl) mX (by decide +kernel) (pa_cons pe_int (pa_cons (pe_op op_sub (pv 0) (pe_ix ix_tup (pv 1) pe_int (fun _ _ => rfl))) pa_nil))) (pe_ix ix_tup (pv 1) pe_int (fun _ _ => rfl)))), ?_⟩
    refine ⟨_, rfl, _, rfl, p, _, 1, _, rfl, rfl, hT, atI_nat (j := 1) f.vs1, _, _, rfl, rfl, _, _, rfl, _, rfl, p, _, 2, _, rfl, rfl, hT, atI_nat (j := 2) f.vs2, _, _, rfl, rfl, q⟩
theorem ok_uog {f fS : Addr} {fd fdS : FuncData} {k : Nat} (F : Fun K "units_of_group" "units_of_group" sUog f fd) (GS : FnOk P w K mg base CX0 k fS fdS ["j", "wanted"] (spSigns K)) (kS : PySem.W.keepIn K (.ref fS) = true) (bS : Binds K fdS ["j", "wanted"] []) (gS : mg "signs_after" = some (.ref fS)) :
    FnOk P w K mg base CX0 (k + 1) f fd ["j", "wanted"] (spUog K) := by
  refine F.ok scUog (fun vs H Q E h => ?_) (fun cdv A outer s H vs Q E hr h => ?_)
  · obtain ⟨j, x, f, rfl, _⟩ := h
    rfl
  · obtain ⟨j, x, f, rfl, hx, q⟩ := h
    refine ⟨_, pss_one (ps_ret (pe_op op_add (pe_call GS hr (by rfl) gS kS bS .nil pass0 (pa_cons (pv 0) (pa_cons (pv 1) pa_nil))) pe_int)), ?_⟩
    exact ⟨_, rfl, _, rfl, j, x, f, rfl, hx, _, _, rfl, rfl, q⟩
end
end Lw
namespace Lw
open PySem PySem.Spec L2 Lx
theorem scAftKeep : FnScope ["first", "second", "_", "b", "a", "more_b", "b_of_both", "a_of_both"] ["first", "second"] (defScope sAftKeep) := ⟨rfl, rfl, rfl, by decide +kernel, rfl, by decide +kernel, by decide +kernel⟩
theorem scBefKeep : FnScope ["first", "second"] ["first", "second"] (defScope sBefKeep) := ⟨rfl, rfl, rfl, by decide +kernel, rfl, by decide +kernel, by decide +kernel⟩
theorem scOne : FnScope ["first", "second"] ["first", "second"] (defScope sOne) := ⟨rfl, rfl, rfl, by decide +kernel, rfl, by decide +kernel, by decide +kernel⟩
def spAftKeep (K : PySem.W.Frag) : Sp := fun vs H Q _ => ∃ x y b a g, vs = [x, y] ∧ FmAt K H x (.keep b a) ∧ FmAt K H y g ∧ ∀ v H', Same H H' → FmAt K H' v ((Fm.keep b a).both g) → Q v H'
def spBefKeep (K : PySem.W.Frag) : Sp := fun vs H Q _ => ∃ x y f b a, vs = [x, y] ∧ FmAt K H x f ∧ Fm.isKeep f = false ∧ FmAt K H y (.keep b a) ∧ ∀ v H', Same H H' → FmAt K H' v (f.both (.keep b a)) → Q v H'
def spOne (K : PySem.W.Frag) : Sp := fun vs H Q _ => ∃ x y f g, vs = [x, y] ∧ FmAt K H x f ∧ Fm.isKeep f = false ∧ FmAt K H y g ∧ Q (.int (Fm.one f g)) H
section
variable {P : Program} {w : World} {K : PySem.W.Frag} {mg : Str → Option Value} {base : Heap} {aL aN aS : Addr}
theorem ok_one {f fS : Addr} {fd fdS : FuncData} {k : Nat} (F : Fun K "units_of_one" "units_of_one" sOne f fd) (GS : FnOk P w K mg base CX0 k fS fdS ["j", "wanted"] (spUog K)) (kS : PySem.W.keepIn K (.ref fS) = true) (bS : Binds K fdS ["j", "wanted"] []) (gS : mg "units_of_group" = some (.ref fS)) :
    FnOk P w K mg base CX0 (k + 1) f fd ["first", "second"] (spOne K) := by
  refine F.ok scOne (fun vs H Q E h => ?_) (fun cdv A outer s H vs Q E hr h => ?_)
  · obtain ⟨x, y, f, g, rfl, _⟩ := h
    rfl
  · obtain ⟨_, y, f, g, rfl, ⟨p, rfl, hT⟩, hk, hy, q⟩ := h
    refine ⟨_, pss_cons (ps_if (pt_cmpR op_eq (pe_ix ix_tup (pv 0) pe_int (fun _ _ => rfl)) pe_str (nomark _)) (pss_one (ps_ret pe_int)) pss_nil)
      (pss_one (ps_ret (pe_call GS hr (by rfl) gS kS bS .nil pass0 (pa_cons (pe_ix ix_tup (pv 0) pe_int (fun _ _ => rfl)) (pa_cons (pv 1) pa_nil))))), ?_⟩
    refine ⟨_, rfl, p, _, 0, _, rfl, rfl, hT, atI_nat (j := 0) f.vs0, rfl, _, rfl, ?_⟩
    cases f with
    | keep b a => cases hk
    | lf b a k c => exact iteF ⟨_, rfl, p, _, 4, _, rfl, rfl, hT, atI_nat (j := 4) rfl, _, rfl, _, _, _, rfl, hy, q⟩
    | cr b a k => exact iteT q
theorem ok_aftKeep {f : Addr} {fd : FuncData} {k : Nat} (F : Fun K "after_keep" "after_keep" sAftKeep f fd) (mX : mg "max" = none) : FnOk P w K mg base CX0 (k + 1) f fd ["first", "second"] (spAftKeep K) := by
  refine F.ok scAftKeep (fun vs H Q E h => ?_) (fun cdv A outer s H vs Q E hr h => ?_)
  · obtain ⟨x, y, b, a, g, rfl, _⟩ := h
    rfl
  · obtain ⟨_, _, b, a, g, rfl, ⟨p, rfl, hT⟩, ⟨r, rfl, hG⟩, q⟩ := h
    refine ⟨_, pss_cons (ps_asg (pv 0) (pg_tup (by rfl) (pgs_cons (pg_name (i := 2) scAftKeep.nd rfl (.inl rfl)) (pgs_cons (pg_name (i := 3) scAftKeep.nd rfl (.inl rfl)) (pgs_cons (pg_name (i := 4) scAftKeep.nd rfl (.inl rfl)) pgs_nil)))))
      (pss_cons (ps_set (i := 5) scAftKeep.nd rfl (.inl rfl) (pe_ix ix_tup (pv 1) pe_int (fun _ _ => rfl)))
      (pss_cons (ps_set (i := 6) scAftKeep.nd rfl (.inl rfl) (pe_op op_add (pv 3) (pe_callB (call_max2 rfl) (by rfl) mX (by decide +kernel) (pa_cons pe_int (pa_cons (pe_op op_sub (pv 5) (pv 4)) pa_nil)))))
      (pss_cons (ps_set (i := 7) scAftKeep.nd rfl (.inl rfl) (pe_op op_add (pe_callB (call_max2 rfl) (by rfl) mX (by decide +kernel) (pa_cons pe_int (pa_cons (pe_op op_sub (pv 4) (pv 5)) pa_nil))) (pe_ix ix_tup (pv 1) pe_int (fun _ _ => rfl))))
      (pss_one (ps_ret (pe_op op_catA (pe_tup (pa_cons (pe_ix ix_tup (pv 1) pe_int (fun _ _ => rfl)) (pa_cons (pv 6) (pa_cons (pv 7) pa_nil)))) (pe_slice sl_tup (pv 1) (po_some pe_int) po_none))))))), ?_⟩
    refine ⟨_, rfl, p, _, rfl, hT, rfl, _, _, rfl, _, _, rfl, _, _, rfl, rfl, ?_⟩
    refine ⟨_, rfl, r, _, 1, _, rfl, rfl, hG, atI_nat (j := 1) g.vs1, ?_⟩
    refine ⟨_, rfl, _, rfl, _, rfl, _, _, rfl, rfl, _, _, rfl, _, _, rfl, rfl, ?_⟩
    refine ⟨_, rfl, _, rfl, _, _, rfl, rfl, _, _, rfl, _, rfl, r, _, 2, _, rfl, rfl, hG, atI_nat (j := 2) g.vs2, _, _, rfl, rfl, ?_⟩
    refine ⟨_, rfl, r, _, 0, _, rfl, rfl, hG, atI_nat (j := 0) g.vs0, _, rfl, _, rfl, by show 3 ≤ sizeLine; decide, fun t nt => ?_⟩
    have s1 : Same H (upd H t (.tup [.str g.nm, .int (b + (if g.b - a > 0 then g.b - a else 0)), .int ((if a - g.b > 0 then a - g.b else 0) + g.a)])) := same_upd nt
    have ht1 : upd H t (.tup [.str g.nm, .int (b + (if g.b - a > 0 then g.b - a else 0)), .int ((if a - g.b > 0 then a - g.b else 0) + g.a)]) t = some (.tup [.str g.nm, .int (b + (if g.b - a > 0 then g.b - a else 0)), .int ((if a - g.b > 0 then a - g.b else 0) + g.a)]) := upd_same
    show tSl _ _ _ _ _ (upd H t (.tup [.str g.nm, .int (b + (if g.b - a > 0 then g.b - a else 0)), .int ((if a - g.b > 0 then a - g.b else 0) + g.a)])) _
    generalize upd H t (.tup [.str g.nm, .int (b + (if g.b - a > 0 then g.b - a else 0)), .int ((if a - g.b > 0 then a - g.b else 0) + g.a)]) = H1 at s1 ht1
    refine ⟨_, rfl, 3, rfl, r, g.vs, rfl, sameT s1 hG, wh3 g, fun p2 n2 => ?_⟩
    have s2 := s1.trans (same_upd (o := .tup (cutV g.vs (some 3) none)) n2)
    have ht2 : SqT K (upd H1 p2 (.tup (cutV g.vs (some 3) none))) t [.str g.nm, .int (b + (if g.b - a > 0 then g.b - a else 0)), .int ((if a - g.b > 0 then a - g.b else 0) + g.a)] := .inl (.inl (by rw [upd_ne (ne_of_none ht1 n2)]; exact ht1))
    have hp2 : SqT K (upd H1 p2 (.tup (cutV g.vs (some 3) none))) p2 (cutV g.vs (some 3) none) := .inl (.inl upd_same)
    generalize upd H1 p2 (.tup (cutV g.vs (some 3) none)) = H2 at s2 ht2 hp2
    refine ⟨t, p2, _, _, rfl, rfl, ht2, hp2, by show 3 + _ ≤ sizeLine; have := cutV_length g.vs (some 3) none; have h5 : g.vs.length ≤ 5 := vs_len g; rw [sizeLine_eq]; omega, fun z => by (exact nomatch z), fun _ hy => ?_, fun _ hy p3 n3 => ?_⟩
    · cases g with
      | keep b' a' => exact q _ _ s2 ⟨t, rfl, ht2⟩
      | lf b' a' k' c' => exact nomatch hy
      | cr b' a' k' => exact nomatch hy
    · cases g with
      | keep b' a' => exact absurd rfl hy
      | lf b' a' k' c' => exact q _ _ (s2.trans (same_upd n3)) ⟨p3, rfl, .inl (.inl upd_same)⟩
      | cr b' a' k' => exact q _ _ (s2.trans (same_upd n3)) ⟨p3, rfl, .inl (.inl upd_same)⟩
theorem ok_befKeep {f fS : Addr} {fd fdS : FuncData} {k : Nat} (F : Fun K "before_keep" "before_keep" sBefKeep f fd) (GS : FnOk P w K mg base CX0 k fS fdS ["j", "wanted"] (spSigns K)) (kS : PySem.W.keepIn K (.ref fS) = true) (bS : Binds K fdS ["j", "wanted"] []) (gS : mg "signs_after" = some (.ref fS)) :
    FnOk P w K mg base CX0 (k + 1) f fd ["first", "second"] (spBefKeep K) := by
  refine F.ok scBefKeep (fun vs H Q E h => ?_) (fun cdv A outer s H vs Q E hr h => ?_)
  · obtain ⟨x, y, f, b, a, rfl, _⟩ := h
    rfl
  · obtain ⟨_, y, f, b, a, rfl, ⟨p, rfl, hT⟩, hk, hy, q⟩ := h
    refine ⟨_, pss_cons (ps_if (pt_cmpR op_eq (pe_ix ix_tup (pv 0) pe_int (fun _ _ => rfl)) pe_str (nomark _)) (pss_one (ps_ret (pv 0))) pss_nil)
      (pss_one (ps_ret (pe_op op_catA (pe_slice sl_tup (pv 0) po_none (po_some pe_int)) (pe_tup (pa_cons (pe_call GS hr (by rfl) gS kS bS .nil pass0 (pa_cons (pe_ix ix_tup (pv 0) pe_int (fun _ _ => rfl)) (pa_cons (pv 1) pa_nil))) pa_nil))))), ?_⟩
    refine ⟨_, rfl, p, _, 0, _, rfl, rfl, hT, atI_nat (j := 0) f.vs0, rfl, _, rfl, ?_⟩
    cases f with
    | keep b a => cases hk
    | lf b' a' k' c =>
      refine iteF ⟨_, rfl, 4, rfl, p, _, rfl, hT, (show ¬ (HT.sIx 5 0 none = 0 ∧ HT.sIx 5 5 (some 4) = 5) by decide), fun p2 n2 => ?_⟩
      have s1 : Same H (upd H p2 (.tup [.str "lf", .int b', .int a', .int k'])) := same_upd n2
      have hp2 : upd H p2 (.tup [.str "lf", .int b', .int a', .int k']) p2 = some (.tup [.str "lf", .int b', .int a', .int k']) := upd_same
      refine ⟨_, rfl, p, _, 4, _, rfl, rfl, sameT s1 hT, atI_nat (j := 4) rfl, _, rfl, _, _, _, rfl, hy.same s1, by show 1 ≤ sizeLine; decide, fun p3 n3 => ?_⟩
      have s2 := s1.trans (same_upd (o := .tup [.int ((Fm.keep b a).after c)]) n3)
      refine ⟨p2, p3, [.str "lf", .int b', .int a', .int k'], [.int ((Fm.keep b a).after c)], rfl, rfl, .inl (.inl (by rw [upd_ne (ne_of_none hp2 n3)]; exact hp2)), .inl (.inl upd_same), by show 5 ≤ sizeLine; decide, (fun z => by cases z), (fun _ z => by cases z), fun _ _ p4 n4 => ?_⟩
      exact q _ _ (s2.trans (same_upd n4)) ⟨p4, rfl, .inl (.inl upd_same)⟩
    | cr b' a' k' => exact iteT ⟨_, rfl, q _ _ (Same.refl H) ⟨p, rfl, hT⟩⟩
end
end Lw
namespace Lw
open PySem PySem.Spec L2 Lx
theorem scBoth : FnScope ["first", "second", "k"] ["first", "second"] (defScope sBoth) := ⟨rfl, rfl, rfl, by decide +kernel, rfl, by decide +kernel, by decide +kernel⟩
def spBoth (K : PySem.W.Frag) : Sp := fun vs H Q _ => ∃ x y f g n, vs = [x, y] ∧ FmAt K H x f ∧ FmAt K H y g ∧ f.Ok n ∧ g.Ok n ∧ n ≤ 100000 ∧ ∀ v H', Same H H' → FmAt K H' v (f.both g) → Q v H'
section
variable {P : Program} {w : World} {K : PySem.W.Frag} {mg : Str → Option Value} {base : Heap} {aL aN aS : Addr}
theorem ok_both {f fA fB fO : Addr} {fd fdA fdB fdO : FuncData} {k : Nat} (F : Fun K "form_of_both" "form_of_both" sBoth f fd)
    (GA : FnOk P w K mg base CX0 k fA fdA ["first", "second"] (spAftKeep K)) (kA : PySem.W.keepIn K (.ref fA) = true) (bA : Binds K fdA ["first", "second"] []) (gA : mg "after_keep" = some (.ref fA))
    (GB : FnOk P w K mg base CX0 k fB fdB ["first", "second"] (spBefKeep K)) (kB : PySem.W.keepIn K (.ref fB) = true) (bB : Binds K fdB ["first", "second"] []) (gB : mg "before_keep" = some (.ref fB))
    (GO : FnOk P w K mg base CX0 k fO fdO ["first", "second"] (spOne K)) (kO : PySem.W.keepIn K (.ref fO) = true) (bO : Binds K fdO ["first", "second"] []) (gO : mg "units_of_one" = some (.ref fO)) :
    FnOk P w K mg base CX0 (k + 1) f fd ["first", "second"] (spBoth K) := by
  refine F.ok scBoth (fun vs H Q E h => ?_) (fun cdv A outer s H vs Q E hr h => ?_)
  · obtain ⟨x, y, f, g, n, rfl, _⟩ := h
    rfl
  · obtain ⟨_, _, f, g, n, rfl, ⟨p, rfl, hT⟩, ⟨r, rfl, hG⟩, of, og, hn, q⟩ := h
    refine ⟨_, pss_cons (ps_if (pt_cmpR op_eq (pe_ix ix_tup (pv 0) pe_int (fun _ _ => rfl)) pe_str (nomark _)) (pss_one (ps_ret (pe_call GA hr (by rfl) gA kA bA .nil pass0 (pa_cons (pv 0) (pa_cons (pv 1) pa_nil))))) pss_nil)
      (pss_cons (ps_if (pt_cmpR op_eq (pe_ix ix_tup (pv 1) pe_int (fun _ _ => rfl)) pe_str (nomark _)) (pss_one (ps_ret (pe_call GB hr (by rfl) gB kB bB .nil pass0 (pa_cons (pv 0) (pa_cons (pv 1) pa_nil))))) pss_nil)
      (pss_cons (ps_set (i := 2) scBoth.nd rfl (.inl rfl) (pe_op op_mulW (pe_op op_mulW (pe_ix ix_tup (pv 0) pe_int (fun _ _ => rfl)) (pe_call GO hr (by rfl) gO kO bO .nil pass0 (pa_cons (pv 0) (pa_cons (pv 1) pa_nil)))) (pe_ix ix_tup (pv 1) pe_int (fun _ _ => rfl))))
      (pss_one (ps_ret (pe_op op_catA (pe_tup (pa_cons (pe_ix ix_tup (pv 1) pe_int (fun _ _ => rfl)) (pa_cons (pe_ix ix_tup (pv 0) pe_int (fun _ _ => rfl)) (pa_cons (pe_ix ix_tup (pv 0) pe_int (fun _ _ => rfl)) (pa_cons (pv 2) pa_nil))))) (pe_slice sl_tup (pv 1) (po_some pe_int) po_none)))))), ?_⟩
    refine ⟨_, rfl, p, _, 0, _, rfl, rfl, hT, atI_nat (j := 0) f.vs0, rfl, _, rfl, ?_⟩
    by_cases hf : Fm.isKeep f = true
    · cases f with
      | keep b a => exact iteT ⟨_, rfl, _, rfl, _, _, b, a, g, rfl, ⟨p, rfl, hT⟩, ⟨r, rfl, hG⟩, q⟩
      | _ => cases hf
    · have hf' : Fm.isKeep f = false := by simpa using hf
      have hnm : decide (V.str f.nm = V.str "keep") = false := by
        cases f with
        | keep b a => cases hf'
        | _ => rfl
      rw [hnm]
      refine iteF ⟨_, rfl, r, _, 0, _, rfl, rfl, hG, atI_nat (j := 0) g.vs0, rfl, _, rfl, ?_⟩
      by_cases hg : Fm.isKeep g = true
      · cases g with
        | keep b a => exact iteT ⟨_, rfl, _, rfl, _, _, f, b, a, rfl, ⟨p, rfl, hT⟩, hf', ⟨r, rfl, hG⟩, q⟩
        | _ => cases hg
      · have hg' : Fm.isKeep g = false := by simpa using hg
        have hnm : decide (V.str g.nm = V.str "keep") = false := by
          cases g with
          | keep b a => cases hg'
          | _ => rfl
        rw [hnm]
        obtain ⟨kf, ekf⟩ := nk_k hf'
        obtain ⟨kg, ekg⟩ := nk_k hg'
        refine iteF ⟨_, rfl, p, _, 3, _, rfl, rfl, hT, atI_nat (j := 3) ekf, _, rfl, _, rfl, _, _, f, g, rfl, ⟨p, rfl, hT⟩, hf', ⟨r, rfl, hG⟩, ?_⟩
        have b1 := one_ok hf' of og
        have bf := nk_ok hf' of ekf
        have bg := nk_ok hg' og ekg
        refine ⟨_, _, rfl, rfl, wide_mul bf.2 b1.2 (nk_pos hf' of) (by omega) (by omega), _, rfl, r, _, 3, _, rfl, rfl, hG, atI_nat (j := 3) ekg, _, _, rfl, rfl, wide_mul (bf.2.mul b1.2) bg.2 (by omega) (nk_pos hg' og) (by omega), ?_⟩
        refine ⟨_, rfl, r, _, 0, _, rfl, rfl, hG, atI_nat (j := 0) g.vs0, _, rfl, p, _, 1, _, rfl, rfl, hT, atI_nat (j := 1) f.vs1, _, rfl, p, _, 2, _, rfl, rfl, hT, atI_nat (j := 2) f.vs2, _, rfl, by show 4 ≤ sizeLine; decide, fun t nt => ?_⟩
        have s1 : Same H (upd H t (.tup [.str g.nm, .int f.b, .int f.a, .int (kf * Fm.one f g * kg)])) := same_upd nt
        have ht1 : upd H t (.tup [.str g.nm, .int f.b, .int f.a, .int (kf * Fm.one f g * kg)]) t = some (.tup [.str g.nm, .int f.b, .int f.a, .int (kf * Fm.one f g * kg)]) := upd_same
        show tSl _ _ _ _ _ (upd H t (.tup [.str g.nm, .int f.b, .int f.a, .int (kf * Fm.one f g * kg)])) _
        generalize upd H t (.tup [.str g.nm, .int f.b, .int f.a, .int (kf * Fm.one f g * kg)]) = H1 at s1 ht1
        refine ⟨_, rfl, 4, rfl, r, g.vs, rfl, sameT s1 hG, wh4 g, fun p2 n2 => ?_⟩
        have s2 := s1.trans (same_upd (o := .tup (cutV g.vs (some 4) none)) n2)
        have ht2 : SqT K (upd H1 p2 (.tup (cutV g.vs (some 4) none))) t [.str g.nm, .int f.b, .int f.a, .int (kf * Fm.one f g * kg)] := .inl (.inl (by rw [upd_ne (ne_of_none ht1 n2)]; exact ht1))
        have hp2 : SqT K (upd H1 p2 (.tup (cutV g.vs (some 4) none))) p2 (cutV g.vs (some 4) none) := .inl (.inl upd_same)
        generalize upd H1 p2 (.tup (cutV g.vs (some 4) none)) = H2 at s2 ht2 hp2
        refine ⟨t, p2, _, _, rfl, rfl, ht2, hp2, by show 4 + _ ≤ sizeLine; have := cutV_length g.vs (some 4) none; have h5 : g.vs.length ≤ 5 := vs_len g; rw [sizeLine_eq]; omega, (fun z => by cases z), fun _ hy => ?_, fun _ hy p3 n3 => ?_⟩
        · cases g with
          | keep b' a' => cases hg'
          | lf b' a' k' c' => exact nomatch hy
          | cr b' a' k' =>
            cases ekg
            cases f with
            | keep b a => cases hf'
            | lf b a k c => cases ekf; exact q _ _ s2 ⟨t, rfl, ht2⟩
            | cr b a k => cases ekf; exact q _ _ s2 ⟨t, rfl, ht2⟩
        · cases g with
          | keep b' a' => cases hg'
          | lf b' a' k' c' =>
            cases ekg
            cases f with
            | keep b a => cases hf'
            | lf b a k c => cases ekf; exact q _ _ (s2.trans (same_upd n3)) ⟨p3, rfl, .inl (.inl upd_same)⟩
            | cr b a k => cases ekf; exact q _ _ (s2.trans (same_upd n3)) ⟨p3, rfl, .inl (.inl upd_same)⟩
          | cr b' a' k' => exact absurd rfl hy
end
end Lw
namespace Lw
open PySem PySem.Spec L2 Lx
theorem scFoc : FnScope ["chain", "wanted", "letter"] ["chain"] (defScope sFoc) := ⟨rfl, rfl, rfl, by decide +kernel, rfl, by decide +kernel, by decide +kernel⟩
def spFoc (K : PySem.W.Frag) : Sp := fun vs H Q _ => ∃ x, vs = [.str x] ∧ ChOk x ∧ x.cps.size ≤ 7000 ∧ ∀ v H', Same H H' → FmAt K H' v (formOf x) → FLe x.cps.size (formOf x) → Q v H'
section
variable {P : Program} {w : World} {K : PySem.W.Frag} {mg : Str → Option Value} {base : Heap} {aL aN aS : Addr}
theorem ok_foc {f fB : Addr} {fd fdB : FuncData} {k : Nat} (F : Fun K "form_of_chain" "form_of_chain" sFoc f fd) (T : StepT K w mg aN aS)
    (GB : FnOk P w K mg base CX0 k fB fdB ["first", "second"] (spBoth K)) (kB : PySem.W.keepIn K (.ref fB) = true) (bB : Binds K fdB ["first", "second"] []) (gB : mg "form_of_both" = some (.ref fB)) :
    FnOk P w K mg base CX0 (k + 1) f fd ["chain"] (spFoc K) := by
  refine F.ok scFoc (fun vs H Q E h => ?_) (fun cdv A outer s H vs Q E hr h => ?_)
  · obtain ⟨x, rfl, _⟩ := h
    rfl
  · obtain ⟨x, rfl, hx, hsz, q⟩ := h
    refine ⟨_, pss_cons (ps_set (i := 1) scFoc.nd rfl (.inl rfl) (pe_glob (v := .ref aN) rfl T.gN rfl))
      (pss_cons (ps_for PassesOwn.never rfl (pi_str (pv 0)) (pg_name (i := 2) scFoc.nd rfl (.inl rfl))
        (pss_one (ps_set (i := 1) scFoc.nd rfl (.inl rfl) (pe_call GB hr (by rfl) gB kB bB .nil pass0 (pa_cons (pv 1) (pa_cons (pe_ix ix_kdict (pe_glob (v := .ref aS) rfl T.gS rfl) (pv 2) (fun _ _ => rfl)) pa_nil))))))
      (pss_one (ps_ret (pv 1)))), ?_⟩
    refine ⟨_, rfl, x, rfl, ?_⟩
    refine for_it walk_str (fun i σ H' => Same H H' ∧ ∃ v y2, σ = [some (.str x), some v, y2] ∧ FmAt K H' v (formL (x.cps.toList.take i)) ∧ FLe i (formL (x.cps.toList.take i)))
      ⟨Same.refl H, .ref aN, none, rfl, T.n H, ⟨by decide, by decide, by decide, by decide⟩⟩ (fun _ _ _ _ _ => trivial) ?_ ?_
    · rintro i u σ H1 H2 hi ⟨sm, v, y2, rfl, hv, hl⟩ ⟨rfl, c, hc, rfl⟩
      have hcm : c ∈ x.cps.toList := by rw [Array.mem_toList_iff]; exact Array.mem_of_getElem? hc
      obtain ⟨u, hd, hu⟩ := T.s c (hx c hcm)
      have hs : FLe (i + 1) (stepF c) := by
        have := FLe.step (L := i) (by omega) (hx c hcm) (f := nothing) ⟨by decide, by omega, by decide, by omega⟩
        rcases step_cases (hx c hcm) with e | e | e | e <;> rw [e] at this ⊢ <;> exact this
      have htk : x.cps.toList.take (i + 1) = x.cps.toList.take i ++ [c] := by
        rw [List.take_succ]
        have : x.cps.toList[i]? = some c := by rw [Array.getElem?_toList]; exact hc
        rw [this]
        rfl
      refine ⟨_, rfl, _, rfl, aS, _, u, rfl, rfl, hd, ?_⟩
      refine ⟨_, _, formL (x.cps.toList.take i), stepF c, 13 * (i + 1) + 1, rfl, hv, hu _, hl.ok.mono (by omega), hs.ok, by omega, fun v2 H3 s3 hv2 => ?_⟩
      refine ⟨sm.trans s3, v2, _, rfl, ?_, ?_⟩
      · rw [htk]
        unfold formL
        rw [List.foldl_append]
        exact hv2
      · rw [htk]
        unfold formL
        rw [List.foldl_append]
        exact hl.step (by omega) (hx c hcm)
    · rintro σ H1 ⟨sm, v, y2, rfl, hv, hl⟩
      have e : x.cps.toList.take x.cps.size = x.cps.toList := List.take_of_length_le (by simp)
      rw [e] at hv hl
      exact ⟨_, rfl, q _ _ sm hv hl⟩
end
end Lw
namespace Lw
open PySem PySem.Spec L2 Lx
theorem scLI : FnScope ["self", "text"] ["self", "text"] (defScope sLineFile___init__) := ⟨rfl, rfl, rfl, by decide +kernel, rfl, by decide +kernel, by decide +kernel⟩
theorem scLT : FnScope ["self"] ["self"] (defScope sLineFile_text) := ⟨rfl, rfl, rfl, by decide +kernel, rfl, by decide +kernel, by decide +kernel⟩
theorem scLC : FnScope ["self"] ["self"] (defScope sLineFile_chain) := ⟨rfl, rfl, rfl, by decide +kernel, rfl, by decide +kernel, by decide +kernel⟩
theorem scLF : FnScope ["self"] ["self"] (defScope sLineFile_form) := ⟨rfl, rfl, rfl, by decide +kernel, rfl, by decide +kernel, by decide +kernel⟩
theorem scLV : FnScope ["self", "chains", "chain", "letter"] ((["self"] : List Str) ++ (["chains"] : List Str)) (defScope sLineFile_convert) := ⟨rfl, rfl, rfl, by decide +kernel, rfl, by decide +kernel, by decide +kernel⟩
structure LTxt (K : PySem.W.Frag) (mg : Str → Option Value) (C : Addr) : Prop where
  cl : Cls K C
  nT : NoAttr K C "_text"
  nC : NoAttr K C "_chain"
  nE : NoAttr K C "_earlier"
  mgC : mg "LineFile" = some (.ref C)
/-- a file at p with its list at e: its first text, its steps -/
structure LfS (x z y : Str) (ts : List Str) : Prop where
  y : y.cps.toList = doneT x.cps.toList z.cps.toList
  len : ts.length = z.cps.size
  ts : ∀ i t, ts[i]? = some t → t.cps.toList = doneT x.cps.toList (z.cps.toList.take i)
def LfAt (C : Addr) (H : Hp) (p e : Addr) (x z : Str) : Prop := ∃ dx y ts, H p = some (.ins C dx [("_text", .str y), ("_chain", .str z), ("_earlier", .ref e)]) ∧ H e = some (.lst (ts.map V.str)) ∧ LfS x z y ts
theorem LfAt.same {C : Addr} {H H' : Hp} {p e : Addr} {x z : Str} (s : Same H H') : LfAt C H p e x z → LfAt C H' p e x z := fun ⟨dx, y, ts, h1, h2, h3⟩ => ⟨dx, y, ts, s _ _ h1, s _ _ h2, h3⟩
theorem LfAt.ne {C : Addr} {H : Hp} {p e : Addr} {x z : Str} : LfAt C H p e x z → p ≠ e := fun ⟨dx, y, ts, h1, h2, h3⟩ => ne_of h1 h2 (by intro z; cases z)
def spLInit (C : Addr) : Sp := fun vs H Q _ => ∃ (p dx : Addr) (x : Str), vs = [.ref p, .str x] ∧ H p = some (.ins C dx []) ∧ ∀ e H', H e = none → LfAt C H' p e x "" → Kd p H H' → Q .non H'
def spLText (C : Addr) : Sp := fun vs H Q _ => ∃ (p e : Addr) (x z : Str), vs = [.ref p] ∧ LfAt C H p e x z ∧ ∀ y : Str, y.cps.toList = doneT x.cps.toList z.cps.toList → Q (.str y) H
def spLChain (C : Addr) : Sp := fun vs H Q _ => ∃ (p e : Addr) (x z : Str), vs = [.ref p] ∧ LfAt C H p e x z ∧ Q (.str z) H
def spLForm (K : PySem.W.Frag) (C : Addr) : Sp := fun vs H Q _ => ∃ (p e : Addr) (x z : Str), vs = [.ref p] ∧ LfAt C H p e x z ∧ ChOk z ∧ z.cps.size ≤ 7000 ∧ ∀ v H', Same H H' → FmAt K H' v (formOf z) → Q v H'
def spLConv (C : Addr) : Sp := fun vs H Q _ => ∃ (p e T : Addr) (x z : Str) (cs : List Str), vs = [.ref p, .ref T] ∧ H T = some (.tup (cs.map V.str)) ∧ LfAt C H p e x z ∧ (cs.map (·.length)).sum ≤ 1000000 ∧ z.cps.size ≤ 1000000 ∧ ChOk (Txt.join "" cs) ∧ TB (doneT x.cps.toList z.cps.toList) (Txt.join "" cs).cps.toList ∧
  ∀ H', LfAt C H' p e x (z ++ Txt.join "" cs) → Kb p e H H' → Q .non H'
theorem joinE_list (l : List Str) : (Txt.join "" l).cps.toList = l.flatMap fun x => x.cps.toList := by
  have jn : ∀ ps : List (List Nat), TL.joinL [] ps = ps.flatten := fun ps => by
    induction ps with
    | nil => rfl
    | cons a r ih =>
      cases r with
      | nil => show a = _; simp
      | cons b r =>
        show a ++ ([] ++ TL.joinL [] (b :: r)) = _
        rw [ih, List.nil_append]
        rfl
  rw [TL.join_eq]
  refine (TL.tl_join "" l).trans ?_
  show TL.joinL [] _ = _
  rw [jn, List.flatMap_def]
theorem cut_lastS (x : Str) : (cutS x none (some (-1))).cps.toList = x.cps.toList.dropLast := by
  unfold cutS
  have e : x.cps.toList.length = x.length := Array.length_toList ..
  have e1 : HT.sIx x.length 0 none = 0 := HT.sIx_none _ _
  have e2 : HT.sIx x.length x.length (some (-1)) = x.length - 1 := by
    unfold HT.sIx
    simp
    omega
  rw [e1, e2]
  simp
  rw [List.dropLast_eq_take, e]
theorem LfS.snoc {x z y : Str} {ts : List Str} (h : LfS x z y ts) (c : Nat) {y2 z2 : Str} (hz : z2.cps.toList = z.cps.toList ++ [c]) (hy : y2.cps.toList = stepT c y.cps.toList) : LfS x z2 y2 (ts ++ [y]) := by
  have zl : z.cps.toList.length = z.cps.size := Array.length_toList ..
  have z2l : z2.cps.size = z.cps.size + 1 := by rw [← Array.length_toList, hz, List.length_append, zl]; rfl
  refine ⟨by rw [hy, hz, doneT_snoc, h.y], by rw [List.length_append, h.len, z2l]; rfl, fun i t ht => ?_⟩
  rw [hz]
  by_cases hi : i < ts.length
  · rw [List.getElem?_append_left hi] at ht
    rw [h.ts i t ht, List.take_append_of_le_length (by rw [zl, ← h.len]; omega)]
  · have hi2 : i = ts.length := by
      have := (List.getElem?_eq_some_iff.mp ht).1
      rw [List.length_append, List.length_singleton] at this
      omega
    rw [hi2, List.getElem?_append_right (Nat.le_refl _), Nat.sub_self] at ht
    cases Option.some.inj ht
    rw [h.y, hi2, h.len, ← zl, List.take_left]
section
variable {P : Program} {w : World} {K : PySem.W.Frag} {mg : Str → Option Value} {base : Heap}
theorem ok_linit {f C : Addr} {fd : FuncData} {k : Nat} (F : Fun K "__init__" "LineFile.__init__" sLineFile___init__ f fd) (T : LTxt K mg C) : FnOk P w K mg base CX0 (k + 1) f fd ["self", "text"] (spLInit C) := by
  refine F.ok scLI (fun vs H Q E h => ?_) (fun cdv A outer s H vs Q E hr h => ?_)
  · obtain ⟨p, dx, x, rfl, _⟩ := h
    rfl
  · obtain ⟨p, dx, x, rfl, hp, q⟩ := h
    refine ⟨_, pss_cons (ps_fld (pv 0) (pv 1) rfl) (pss_cons (ps_fld (pv 0) pe_str rfl) (pss_one (ps_fld (pv 0) (pe_lst pa_nil) rfl))), ?_⟩
    refine ⟨_, rfl, _, rfl, p, C, dx, [], rfl, hp, T.cl, T.nT, by show 0 < 1000; decide, ?_⟩
    refine ⟨_, rfl, p, C, dx, _, rfl, upd_same, T.cl, T.nC, by show 1 < 1000; decide, ?_⟩
    refine ⟨Nat.zero_le _, fun e he => ?_⟩
    have pe : p ≠ e := ne_of_none upd_same he
    have he0 : H e = none := by
      rw [upd_ne (Ne.symm pe), upd_ne (Ne.symm pe)] at he
      exact he
    refine ⟨_, rfl, p, C, dx, _, rfl, by rw [upd_ne pe]; exact upd_same, T.cl, T.nE, by show 2 < 1000; decide, ?_⟩
    refine q e _ he0 ⟨dx, x, [], upd_same, by rw [upd_ne (Ne.symm pe), upd_same]; rfl, rfl, rfl, fun i t h => by simp at h⟩ fun b o hb eb => ?_
    rw [upd_ne hb, upd_ne (ne_of_none eb he0), upd_ne hb, upd_ne hb]
    exact eb
theorem ok_ltext {f C : Addr} {fd : FuncData} {k : Nat} (F : Fun K "text" "LineFile.text" sLineFile_text f fd) (T : LTxt K mg C) : FnOk P w K mg base CX0 (k + 1) f fd ["self"] (spLText C) := by
  refine F.ok scLT (fun vs H Q E h => ?_) (fun cdv A outer s H vs Q E hr h => ?_)
  · obtain ⟨p, e, x, z, rfl, _⟩ := h
    rfl
  · obtain ⟨p, e, x, z, rfl, ⟨dx, y, ts, h1, h2, h3⟩, q⟩ := h
    exact ⟨_, pss_one (ps_ret (pe_fld (pv 0) rfl)), _, rfl, p, C, dx, _, _, rfl, h1, T.cl, T.nT, rfl, q y h3.y⟩
theorem ok_lchain {f C : Addr} {fd : FuncData} {k : Nat} (F : Fun K "chain" "LineFile.chain" sLineFile_chain f fd) (T : LTxt K mg C) : FnOk P w K mg base CX0 (k + 1) f fd ["self"] (spLChain C) := by
  refine F.ok scLC (fun vs H Q E h => ?_) (fun cdv A outer s H vs Q E hr h => ?_)
  · obtain ⟨p, e, x, z, rfl, _⟩ := h
    rfl
  · obtain ⟨p, e, x, z, rfl, ⟨dx, y, ts, h1, h2, h3⟩, q⟩ := h
    exact ⟨_, pss_one (ps_ret (pe_fld (pv 0) rfl)), _, rfl, p, C, dx, _, _, rfl, h1, T.cl, T.nC, rfl, q⟩
theorem ok_lform {f C aO : Addr} {fd dO : FuncData} {k : Nat} (F : Fun K "form" "LineFile.form" sLineFile_form f fd) (T : LTxt K mg C)
    (cO : Cl P w K mg base k "form_of_chain" ["chain"] (spFoc K) aO dO) : FnOk P w K mg base CX0 (k + 1) f fd ["self"] (spLForm K C) := by
  refine F.ok scLF (fun vs H Q E h => ?_) (fun cdv A outer s H vs Q E hr h => ?_)
  · obtain ⟨p, e, x, z, rfl, _⟩ := h
    rfl
  · obtain ⟨p, e, x, z, rfl, ⟨dx, y, ts, h1, h2, h3⟩, hz, hzl, q⟩ := h
    refine ⟨_, pss_one (ps_ret (pe_call cO.G hr (by rfl) cO.g cO.kp cO.b .nil pass0 (pa_cons (pe_fld (pv 0) rfl) pa_nil))), ?_⟩
    exact ⟨_, rfl, p, C, dx, _, _, rfl, h1, T.cl, T.nC, rfl, z, rfl, hz, hzl, fun v H2 s2 hv _ => q v H2 s2 hv⟩
theorem ok_lconv {f C aC aT : Addr} {fd dC dT : FuncData} {k : Nat} (F : Fun K "convert" "LineFile.convert" sLineFile_convert f fd) (T : LTxt K mg C)
    (cC : Cl P w K mg base k "check_chain" ["chain"] spChkChain aC dC)
    (cT : Cl P w K mg base k "text_after_step" ["text", "letter"] spTas aT dT) :
    FnR P w K mg base CX0 (k + 1) f (fun vs H Q E => ∃ ws rest, vs = ws ++ rest ∧ ws.length = ["self"].length ∧ rest.length ≤ sizeLine ∧ ∀ p, H p = Option.none → spLConv C (ws ++ [V.ref p]) (upd H p (.tup rest)) Q E) := by
  obtain ⟨oc, od, kV, doc, pm, an, cdv, ct, osl, rfl, lk, hcd⟩ := F.ex
  refine StX.fn_star (ps := ["self"]) (pv := "chains") lk hcd scLV StX.cxUp_none (fun us rest hl => StX.bind_star1 (B := fun us => bindArgs (PySem.W.fnOf "convert" "LineFile.convert" (defArgs sLineFile_convert) (defBody sLineFile_convert) (defScope sLineFile_convert) .none kV doc pm an cdv ct) ⟨us, []⟩) (p1 := "self") (pv := "chains") (fun a => rfl) (fun a r rs => rfl) us rest hl) (fun A outer s H vs Q E hr h => ?_)
  suffices hh : ∃ t, PSs (cxOf CX0 P w K mg base ["self", "chains", "chain", "letter"] "LineFile.convert" (defScope sLineFile_convert) f cdv A outer s H E).nox (defBody sLineFile_convert) t ∧ t { nx := fun _ H' => Q .non H', rt := Q } (start ["self", "chains", "chain", "letter"] vs) H from
    let ⟨t, h1, h2⟩ := hh
    ⟨t, h1.nox, h2⟩
  obtain ⟨p, e, T0, x, z, cs, rfl, hT, hL, hcs, hzl, hc, hb, q⟩ := h
  refine ⟨_, pss_cons (ps_set (i := 2) scLV.nd rfl (.inl rfl) (pe_join pe_str (pv 1)))
    (pss_cons (ps_expr (pe_call cC.G hr (by rfl) cC.g cC.kp cC.b .nil pass0 (pa_cons (pv 2) pa_nil)))
    (pss_cons (ps_for PassesOwn.never rfl (pi_str (pv 2)) (pg_name (i := 3) scLV.nd rfl (.inl rfl))
      (pss_cons (ps_expr (pe_bm PySem.F.plainAttrs_list PySem.F.slot_list_append PySem.F.type_list_append mt_append (pe_fld (pv 0) rfl) (pa_cons (pe_fld (pv 0) rfl) pa_nil)))
      (pss_one (ps_fld (pv 0) (pe_call cT.G hr (by rfl) cT.g cT.kp cT.b .nil pass0 (pa_cons (pe_fld (pv 0) rfl) (pa_cons (pv 3) pa_nil))) rfl))))
    (pss_one (ps_fld (pv 0) (pe_op op_add_str (pe_fld (pv 0) rfl) (pv 2)) rfl)))), ?_⟩
  have npe := hL.ne
  have jl : (Txt.join "" cs).cps.size = (cs.map (·.length)).sum := by
    rw [← Array.length_toList, joinE_list, List.length_flatMap]
    congr 1
  refine ⟨⟨"", rfl⟩, _, rfl, "", T0, cs, rfl, rfl, .inr (.inl (.inl hT)), by show _ + _ * 0 ≤ _; omega, ?_⟩
  generalize Txt.join "" cs = u at hc hb q jl
  have ul : u.cps.toList.length = u.cps.size := Array.length_toList ..
  refine ⟨_, rfl, u, rfl, hc, fun H1 s1 => ?_⟩
  obtain ⟨dx, y0, ts0, h1, h2, h3⟩ := hL
  refine ⟨_, rfl, u, rfl, ?_⟩
  refine for_it walk_str (fun i σ H' => Kb p e H H' ∧ ∃ (y : Str) (ts : List Str) (y3 : Option V) (zi : Str), σ = [some (.ref p), some (.ref T0), some (.str u), y3] ∧ H' p = some (.ins C dx [("_text", .str y), ("_chain", .str z), ("_earlier", .ref e)]) ∧ H' e = some (.lst (ts.map V.str)) ∧ zi.cps.toList = z.cps.toList ++ u.cps.toList.take i ∧ LfS x zi y ts)
    ⟨Kb.of s1, y0, ts0, none, z, rfl, s1 _ _ h1, s1 _ _ h2, by simp, h3⟩ (fun _ _ _ _ _ => trivial) ?_ ?_
  · rintro i v σ H2 H3 hi ⟨kb, y, ts, y3, zi, rfl, h1, h2, hzi, hS⟩ ⟨rfl, c, hcc, rfl⟩
    have hcl : u.cps.toList[i]? = some c := by rw [Array.getElem?_toList]; exact hcc
    have htk : u.cps.toList.take (i + 1) = u.cps.toList.take i ++ [c] := by rw [List.take_succ, hcl]; rfl
    have hcm : c ∈ steps.cps.toList := hc c (List.mem_of_getElem? hcl)
    have hyl : y.cps.size ≤ 1000000 := by
      have := hb i
      rw [← Array.length_toList, hS.y, hzi]
      unfold doneT at this ⊢
      rw [List.foldl_append]
      exact this
    have htl : ts.length ≤ 2000000 := by
      have h4 := congrArg List.length hzi
      rw [List.length_append, List.length_take, Array.length_toList, Array.length_toList] at h4
      rw [hS.len]
      omega
    refine ⟨_, rfl, p, C, dx, _, _, rfl, h1, T.cl, T.nE, rfl, .inl ⟨rfl, _, .inl (.inl h2)⟩, _, rfl, p, C, dx, _, _, rfl, h1, T.cl, T.nT, rfl, e, _, _, rfl, rfl, h2, by rw [List.length_map, sizeLine_eq]; omega, ?_⟩
    have h1a : upd H3 e (.lst (ts.map V.str ++ [.str y])) p = some (.ins C dx [("_text", .str y), ("_chain", .str z), ("_earlier", .ref e)]) := by rw [upd_ne npe]; exact h1
    refine ⟨_, rfl, p, C, dx, _, _, rfl, h1a, T.cl, T.nT, rfl, _, rfl, y, c, rfl, hcm, by omega, fun y2 hy2 => ?_⟩
    refine ⟨_, rfl, p, C, dx, _, rfl, h1a, T.cl, T.nT, by show 3 < 1000; decide, ?_⟩
    refine ⟨(kb.trans Kb.upd_g).trans Kb.upd_r, y2, ts ++ [y], _, zi ++ ⟨#[c]⟩, rfl, upd_same, by rw [upd_ne (Ne.symm npe), upd_same, List.map_append]; rfl, ?_, hS.snoc c ?_ hy2⟩
    · rw [htk, ← List.append_assoc, ← hzi]
      exact Array.toList_append ..
    · exact Array.toList_append ..
  · rintro σ H2 ⟨kb, y, ts, y3, zi, rfl, h1, h2, hzi, hS⟩
    rw [List.take_of_length_le (by omega)] at hzi
    have ezi : zi = z ++ u := Str.ext' (Array.toList_inj.mp (by rw [hzi]; exact (Array.toList_append ..).symm))
    subst ezi
    refine ⟨_, rfl, p, C, dx, _, _, rfl, h1, T.cl, T.nC, rfl, _, rfl, z, u, rfl, rfl, ?_, ?_⟩
    · rw [sizeLine_eq]
      show z.cps.size + u.cps.size ≤ _
      omega
    · refine ⟨_, rfl, p, C, dx, _, rfl, h1, T.cl, T.nC, by show 3 < 1000; decide, ?_⟩
      exact q _ ⟨dx, y, ts, upd_same, by rw [upd_ne (Ne.symm npe)]; exact h2, hS⟩ (kb.trans Kb.upd_r)
end
end Lw
/-! == and != by an own __eq__ that says True or False, the second thing anything. -/
namespace Lx
open PySem PySem.W
section
variable {prog : Program} {w : World} {A : Around} {E : Value → Shared → Prop} {s : Shared} {K : Frag} {x C L f : Addr} {h₀ : Heap} {m : Str → Option Value} {ox : Obj} {od : Option Obj} {name : Str} {b tb : Value}
theorem ifBoundB {M : Model} {args : List Value} {id T : String} {Q : Option Value → Shared → Prop} (S : Slot T name id) (X : K.In s.heap) (I : InstAt s.heap x ox C od) (hs : findIn K (.ref C) name = some (some (.builtin id)))
    (h : wpAny M A (call (.builtin id) (.ref x :: args)) (fun v => Q (some v)) E s) : wpAny M A (callSpecialIfBound? (.ref x) name args) Q E s := by
  simp only [callSpecialIfBound?, bindSpecialIfBound?]
  refine wpAny_holding (wpAny_bind (wpAny_bind (wpAny_bind (I.type.here ((looks_findIn X hs).here ?_)))))
  simp only [S.bind]
  refine wpAny_bind (wpAny_askSetting (wpAny_ite ?_))
  have fin : wpAny M A (call (.builtin id) ([.ref x] ++ args) >>= fun v => pure (some v)) Q E s :=
    wpAny_bind (wpAny_mono h (fun v s' h' => wpAny_pure h') fun _ _ h' => h')
  split
  · exact wpAny_bind (wpAny_pure (wpAny_pure fin))
  · exact wpAny_tryCatch (wpAny_bind (wpAny_pure (wpAny_pure fin)))
theorem checkK {M : Model} {id owner n : String} {rest : List Value} {Q : Unit → Shared → Prop} (hk : builtinKind id = some .slot) (hs : splitId id = some (owner, n)) (ha : argsOk id ⟨.ref x :: rest, []⟩) (X : K.In s.heap) (I : InstAt s.heap x ox C od)
    (hob : subIn K (.ref C) (.type owner) = some true) (hq : Q () s) : wpAny M A (checkBuiltinCall id ⟨.ref x :: rest, []⟩) Q E s := by
  simp only [checkBuiltinCall, hk, hs]
  refine wpAny_bind ?_
  unfold isInstance
  refine wpAny_bind (I.type.here ((looks_subIn X hob).here ?_))
  cases hsig : Manifest.signature? id with
  | none => exact wpAny_pure hq
  | some sig =>
    simp only [argsOk, hsig] at ha
    have h2 : Bind.checkArgs id sig ⟨.ref x :: rest, []⟩ = pure () := ha
    show wpAny M A (Bind.checkArgs id sig ⟨.ref x :: rest, []⟩) Q E _
    rw [h2]; exact wpAny_pure hq
theorem objNe_own {Q : Fin → Shared → Prop} (hu : A.units < cLine) (h : wpAny (model prog w) A (callSpecialIfBound? (.ref x) "__eq__" [b]) (fun r s' => ∃ d : Bool, r = some (.bool d) ∧ Q (.done (.ret (.bool (!d)))) s') E s) :
    wpAny (model prog w) A (Builtin.«object.__ne__» ⟨[.ref x, b], []⟩) Q E s := by
  unfold Builtin.«object.__ne__»
  repeat (first | with_reducible refine wpAny_cRoomFor hu ?_ | with_reducible refine wpAny_bind (wpAny_mono h (fun r s' hh => ?_) fun _ _ e => e) | wp_step)
  obtain ⟨d, rfl, q⟩ := hh
  cases d
  · repeat wp_step
    exact q
  · repeat wp_step
    exact q
theorem cmpNeB {Q : Value → Shared → Prop} (hu : A.units + 1 < cLine) (F : PyProof.Rows.Fr h₀ L s.heap m) (X₀ : K.In h₀) (I : InstAt s.heap x ox C od) (hb : Looks (model prog w) s.heap (typeOf b) tb) (hn : notFirst K C tb = true)
    (hne : findIn K (.ref C) "__ne__" = some (some (.builtin "object.__ne__"))) (hob : subIn K (.ref C) (.type "object") = some true)
    (hs : findIn K (.ref C) "__eq__" = some (some (.ref f))) (hf : isFn K (.ref f) = true)
    (h : wpAny (model prog w) A.in1 (call (.ref f) [.ref x, b]) (fun v s' => ∃ d : Bool, v = .bool d ∧ Q (.bool (!d)) s') E s) : wpAny (model prog w) A (richCompare .NotEq (.ref x) b) Q E s := by
  have X := X₀.keeps F.keep
  have one : wpAny (model prog w) A (tryCompare (.ref x) "__ne__" b) (fun r s' => ∃ v, r = some v ∧ Q v s') E s := by
    unfold tryCompare
    refine wpAny_bind (ifBoundB PySem.F.cmp_object.ne X I hne ?_)
    refine wpAny_call (codeAny_call_builtin PySem.F.cmp_object.ne.plain PySem.F.cmpEntry_ne (checkK PySem.F.cmpKind_ne PySem.F.cmpSplit_ne (PySem.F.cmpArgs_ne _ _) X I hob (objNe_own (A := A.in1) hu ?_)))
    refine ifBound_K X I hs hf (wpAny_mono h (fun v s' hv => ?_) fun _ _ e => e)
    obtain ⟨d, rfl, q⟩ := hv
    refine ⟨d, rfl, ?_⟩
    exact wpAny_pure ⟨_, rfl, q⟩
  unfold richCompare
  simp only [oneThing_ref]
  refine wpAny_holding (wpAny_bind (wpAny_cRoomFor (by omega) ?_))
  refine wpAny_bind (I.type.here (wpAny_bind (hb.here ?_)))
  split
  · rename_i q
    have e : subIn K tb (.ref C) = some false := by
      rcases Bool.or_eq_true_iff.mp hn with e | e
      · rw [beq_iff_eq.mp e] at q; simp at q
      · exact beq_iff_eq.mp e
    refine wpAny_bind ((looks_subIn X e).here ?_)
    simp only [Bool.false_eq_true, if_false]
    refine wpAny_bind (wpAny_mono one (fun r s' z => ?_) fun _ _ e => e)
    obtain ⟨v, rfl, hq⟩ := z
    exact wpAny_pure hq
  · refine wpAny_bind (wpAny_pure ?_)
    simp only [Bool.false_eq_true, if_false]
    refine wpAny_bind (wpAny_mono one (fun r s' z => ?_) fun _ _ e => e)
    obtain ⟨v, rfl, hq⟩ := z
    exact wpAny_pure hq
end
open PySem.Spec L2
/-- what the own == promises: R says the answer -/
def spEqB (R : Addr → V → Hp → Bool → Prop) : Sp := fun vs H Q _ => ∃ a y b, vs = [.ref a, y] ∧ R a y H b ∧ Q (.bl b) H
/-- x == y, x an instance of the class at C -/
def rEqO (K : PySem.W.Frag) (C : Addr) (R : Addr → V → Hp → Bool → Prop) : R2 := fun x y H Q => ∃ a dx fs t b, x = .ref a ∧ H a = some (.ins C dx fs) ∧ TyX K H y t ∧ PySem.W.notFirst K C t = true ∧ R a y H b ∧ Q (.bl b) H
def rNeO (K : PySem.W.Frag) (C : Addr) (R : Addr → V → Hp → Bool → Prop) : R2 := fun x y H Q => ∃ a dx fs t b, x = .ref a ∧ H a = some (.ins C dx fs) ∧ TyX K H y t ∧ PySem.W.notFirst K C t = true ∧ R a y H b ∧ Q (.bl (!b)) H
section
variable {X : Cx} {CX : CXT} {C f : Addr} {fd : FuncData} {ps : List Str} {R : Addr → V → Hp → Bool → Prop} {E : XK} {n : Nat}
theorem run_eqO {A : Around} {pins : List (Addr × Obj)} {σ : St} {H : Hp} {s : Shared} {a : Addr} {y : V} {u : Value} {b : Bool} {Q : VK} (F : FnOk X.prog X.w X.K X.mg X.base CX n f fd ps (spEqB R)) (sb : Sub X n A) (hb : Binds X.K fd ps []) (hx : Passes CX X E)
    (I : Inv X pins σ H s) (ry : RelV y u) (hR : R a y H b) (q : Q (.bl b) H) : wpAny (model X.prog X.w) A (call (.ref f) [.ref a, u]) (fun v s' => v = .bool b ∧ EP X pins σ Q (.bool b) s') X.xe s := by
  have hsp : spEqB R [.ref a, y] H (fun v H' => v = .bl b ∧ Q (.bl b) H') E := ⟨a, y, b, rfl, hR, rfl, q⟩
  have e0 : Env0 X.prog X.w X.K X.mg X.base A X.stack s H := by
    have e := I.env0
    exact ⟨by rw [sb.fr]; exact e.frames, e.mod, e.bs, e.bsz, e.funs, e.frf, e.hok, e.bare⟩
  have hl := F.len _ _ _ _ hsp
  have r2 : Vals [V.ref a, y] [Value.ref a, u] := .cons rfl (.cons ry .nil)
  refine wpAny_call (codeAny_mono (F.run A X.stack s H ⟨[.ref a, u], []⟩ [.ref a, u] [.ref a, y] _ E sb.room e0 (by
    have := hb s [.ref a, u] I.kIn (by simpa using hl)
    simpa using this) r2 hsp) fun r s' hq => ?_)
  cases r with
  | error e => exact hx pins σ H s e s' I hq
  | ok fl =>
    cases fl with
    | ret w =>
      obtain ⟨z, H', I', rz, ez, q'⟩ := I.after hq
      subst ez
      cases rz
      exact ⟨rfl, .bl b, H', I', rfl, q'⟩
    | next => exact False.elim hq
    | brk => exact False.elim hq
    | cont => exact False.elim hq
theorem op_eqO (F : FnOk X.prog X.w X.K X.mg X.base CX n f fd ps (spEqB R)) (hr : Room n X.A)
    (hs : PySem.W.findIn X.K (.ref C) "__eq__" = some (some (.ref f))) (hf : PySem.W.isFn X.K (.ref f) = true) (hb : Binds X.K fd ps []) (hx : Passes CX X E) : OpR X (compareOp .Eq) (rEqO X.K C R) := by
  intro pins s σ H x y v u Q I rx ry h
  obtain ⟨a, dx, fs, t, b, rfl, ha, ty, hn, hR, q⟩ := h
  cases (show v = Value.ref a from rx)
  obtain ⟨mA, J, _⟩ := ins_get I.hok ha
  obtain ⟨od, J, _⟩ := J.look
  obtain ⟨m, hF⟩ := I.fr
  obtain ⟨P, Z, p, _⟩ := kit_of I ry ty
  show wpAny (model X.prog X.w) X.A (richCompare .Eq (.ref a) u) (EP X pins σ Q) X.xe s
  refine PySem.W.cmp_K (op := .Eq) (tb := t) hr.units0 hF I.ok.mod.kin J (Z.ty _ _ I.kIn p) hn hs hf ?_
  refine wpAny_mono (run_eqO F ⟨hr, rfl⟩ hb hx I ry hR q) (fun v s' h => ?_) fun _ _ e => e
  obtain ⟨rfl, h⟩ := h
  exact h
theorem op_neO (F : FnOk X.prog X.w X.K X.mg X.base CX n f fd ps (spEqB R)) (hr : Room (n + 1) X.A)
    (hne : PySem.W.findIn X.K (.ref C) "__ne__" = some (some (.builtin "object.__ne__"))) (hob : PySem.W.subIn X.K (.ref C) (.type "object") = some true)
    (hs : PySem.W.findIn X.K (.ref C) "__eq__" = some (some (.ref f))) (hf : PySem.W.isFn X.K (.ref f) = true) (hb : Binds X.K fd ps []) (hx : Passes CX X E) : OpR X (compareOp .NotEq) (rNeO X.K C R) := by
  intro pins s σ H x y v u Q I rx ry h
  obtain ⟨a, dx, fs, t, b, rfl, ha, ty, hn, hR, q⟩ := h
  cases (show v = Value.ref a from rx)
  obtain ⟨mA, J, _⟩ := ins_get I.hok ha
  obtain ⟨od, J, _⟩ := J.look
  obtain ⟨m, hF⟩ := I.fr
  obtain ⟨P, Z, p, _⟩ := kit_of I ry ty
  show wpAny (model X.prog X.w) X.A (richCompare .NotEq (.ref a) u) (EP X pins σ Q) X.xe s
  have hu := hr.units
  have sb : L2.Sub X n X.A.in1 := L2.Sub.in1 ⟨hr, rfl⟩
  refine cmpNeB (tb := t) (by omega) hF I.ok.mod.kin J (Z.ty _ _ I.kIn p) hn hne hob hs hf ?_
  refine wpAny_mono (run_eqO (Q := fun v H' => v = .bl b ∧ Q (.bl (!b)) H') F sb hb hx I ry hR ⟨rfl, q⟩) (fun v s' h => ?_) fun _ _ e => e
  obtain ⟨rfl, v', H', I', r', _, q'⟩ := h
  exact ⟨b, rfl, .bl (!b), H', I', rfl, q'⟩
end
end Lx
/-! yield from a list -/
namespace Lx
open PySem PySem.Spec PyProof.Rows L2
section
variable {prog : Program} {w : World} {A : Around} {E : Value → Shared → Prop} {s : Shared}
theorem special_lst_item {it t : Addr} {i : Nat} {items : Array Value} {x : Value} {Q : Option Value → Shared → Prop} (hit : s.heap.IsListIter it t i) (ht : s.heap.IsList t items) (hx : items[i]? = some x)
    (hQ : ∀ h', h'.IsListIter it t (i + 1) → Heap.SameBut it s.heap h' → Q (some x) { s with heap := h' }) : wpAny (model prog w) A (callSpecial? (.ref it) "__next__") Q E s := by
  obtain ⟨o, ho, hc, hd⟩ := id hit
  obtain ⟨ol, hol, _, nl, hdl⟩ := ht
  refine wpAny_callSpecial?_slot (name := Str.ofString "__next__") hit.typeIs slot_listiter_next (wpAny_call_entry slot_listiter_next hit.typeIs entry_listiter_next ?_ (args_listiter_next _))
  show wpAny _ _ (field (.ref it) 0 >>= _) _ _ s
  refine wpAny_bind (wpAny_field ho hd (x := .ref t) rfl ?_)
  show wpAny _ _ (if (Value.ref t == Value.none) = true then _ else _) _ _ s
  rw [if_neg (show ¬ ((Value.ref t == Value.none) = true) from Bool.false_ne_true)]
  show wpAny _ _ (field (.ref it) 1 >>= _) _ _ s
  refine wpAny_bind (wpAny_field ho hd (x := .int i 0) rfl ?_)
  show wpAny _ _ (seqItems? (.ref t) >>= _) _ _ s
  refine wpAny_bind (wpAny_seqItems hol hdl ?_)
  simp only [Int.toNat_natCast, hx]
  refine wpAny_bind (wpAny_setField ho hd (by simp) (wpAny_pure ⟨x, rfl, hQ _ ?_ (Heap.SameBut.update ..)⟩))
  exact ⟨_, Heap.get?_update_self _ ho (Obj.isFreed_of_fields (Obj.data_mapFields hd _)), (Obj.cls_mapFields ..).trans hc, by
    rw [Obj.data_mapFields hd]; simp [rawInt]⟩
theorem special_lst_end {it t : Addr} {i : Nat} {items : Array Value} {Q : Option Value → Shared → Prop} (hh : A.handled = none) (hit : s.heap.IsListIter it t i) (ht : s.heap.IsList t items) (hx : items[i]? = none)
    (hE : ∀ e h', StopX e h' → Heap.ExtBut it s.heap h' → E e { s with heap := h' }) : wpAny (model prog w) A (callSpecial? (.ref it) "__next__") Q E s := by
  obtain ⟨o, ho, hc, hd⟩ := id hit
  obtain ⟨ol, hol, _, nl, hdl⟩ := ht
  refine wpAny_callSpecial?_slot (name := Str.ofString "__next__") hit.typeIs slot_listiter_next (wpAny_call_entry slot_listiter_next hit.typeIs entry_listiter_next ?_ (args_listiter_next _))
  show wpAny _ _ (field (.ref it) 0 >>= _) _ _ s
  refine wpAny_bind (wpAny_field ho hd (x := .ref t) rfl ?_)
  show wpAny _ _ (if (Value.ref t == Value.none) = true then _ else _) _ _ s
  rw [if_neg (show ¬ ((Value.ref t == Value.none) = true) from Bool.false_ne_true)]
  show wpAny _ _ (field (.ref it) 1 >>= _) _ _ s
  refine wpAny_bind (wpAny_field ho hd (x := .int i 0) rfl ?_)
  show wpAny _ _ (seqItems? (.ref t) >>= _) _ _ s
  refine wpAny_bind (wpAny_seqItems hol hdl ?_)
  simp only [Int.toNat_natCast, hx]
  refine wpAny_bind (wpAny_rule (wpAny_bind (wpAny_setField ho hd (by simp) ?_)))
  show wpAny _ _ (newExc (.type "StopIteration") [] >>= _) _ _ _
  refine wpAny_bind ?_
  simp only [newExc, newTuple]
  refine wpAny_bind (wpAny_newObj_type ?_ (by size_fits))
  refine wpAny_bind (m := firstArgMember _ _) (wpAny_of_eq (a := Value.none) (by first | rfl | (simp only [firstArgMember]; rfl)) ?_)
  refine wpAny_newObj_type ?_ (by size_fits)
  simp only [raiseNew]
  refine wpAny_bind (wpAny_handled ?_)
  first | rw [show A.in1.handled = none from hh] | rw [hh]
  refine wpAny_bind (wpAny_pure (wpAny_throw ?_))
  refine hE _ _ ⟨_, _, _, rfl, Heap.get?_push_size _ rfl, rfl, rfl, ?_⟩ (((Heap.SameBut.update ..).extBut.push _).push _)
  first
    | rfl
    | (rw [Array.getElem?_append_left (by decide)]; rfl)
    | kernel_rfl
end
def tYfLst (te : TE) : TYf := fun σ H Q => te σ H fun x H1 => ∃ a xs, x = .ref a ∧ H1 a = some (.lst xs) ∧ Q xs H1
theorem close_lst : typeLookup (.type "list_iterator") "close" = pure none := by rw [typeLookup_type, builtinLookup_eq_fast]; kernel_rfl
theorem yf_lst {X : Cx} {e : Expr} {te : TE} (he : PE X e te) : YfE X e (tYfLst te) := by
  refine ⟨fun pins s σ H Q I h => ?_⟩
  refine thn (he.run pins s σ H _ I h) fun v s1 ⟨x, H1, I1, r1, a, xs, ex, ha, hq⟩ => ?_
  subst ex
  obtain rfl : v = Value.ref a := r1
  obtain ⟨its, rits, p, hz⟩ := I1.list (.inl (.inl ha))
  have ht := p.isList
  refine ⟨"list", ht.typeIs, by decide, wpAny_pyIter_list ht ?_⟩
  have ksz : ∀ b o, s1.heap.get? b = some o → b ≠ s1.heap.objs.size := fun b o e => Nat.ne_of_lt (Heap.lt_size e)
  have kp : ∀ b o, s1.heap.get? b = some o → (s1.heap.push { cls := .type "list_iterator", data := .fields #[.ref a, .int 0 0] }).get? b = some o := fun b o e => Heap.get?_push_of_some _ e
  refine ⟨s1.heap.objs.size, H1, xs, fun j h => h.IsListIter s1.heap.objs.size a j ∧ h.IsList a its.toArray, rfl, I1.kept (t' := s1.toks) kp, .inr I1.sz, Nat.ne_of_gt I1.lt, fun y c hy => ?_, I1.hok.fresh (Nat.le_refl _), fun p hp => ?_,
    ⟨⟨_, Heap.get?_push_size _ rfl, rfl, rfl⟩, ht.push _⟩, ⟨⟨"list_iterator", fun j h q => ?_, close_lst, by decide⟩, fun j h h' q hk => ?_, fun A' j x s2 Q' E' hA hx q hQ => ?_, fun A' s2 Q' E' hA q hE => ?_⟩, hq⟩
  · obtain ⟨v, o, ho, _⟩ := I1.cell y c hy
    exact ksz c o ho
  · exact ksz p.1 _ (I1.pin p hp).1
  · obtain ⟨⟨o, ho, hc, _⟩, _⟩ := q
    exact ⟨o, ho, hc⟩
  · obtain ⟨⟨o, ho, r⟩, o2, ho2, r2⟩ := q
    exact ⟨⟨o, hk _ o (.inl rfl) ho, r⟩, o2, hk _ o2 (.inr (by rw [ha]; exact fun z => by cases z)) ho2, r2⟩
  · obtain ⟨q1, q2⟩ := q
    obtain ⟨u, hu, ru⟩ := rits.get hx
    have hne : a ≠ s1.heap.objs.size := by
      obtain ⟨ob, hob, _⟩ := ht
      exact ksz a ob hob
    exact special_lst_item q1 q2 (x := u) (by simpa using hu) fun h' q1' hs => hQ u h' s2.toks ru ⟨q1', q2.extBut hs.extBut hne⟩ fun b o hb eb => hs.extBut b o hb eb
  · obtain ⟨q1, q2⟩ := q
    have hnone : its.toArray[xs.length]? = none := by
      have e := rits.length
      have e2 : its[xs.length]? = none := List.getElem?_eq_none_iff.mpr (by omega)
      simpa using e2
    exact special_lst_end hA q1 q2 hnone fun e h' hS hk => hE e h' s2.toks hS fun b o hb eb => hk b o hb eb
end Lx
/-! three runs between letters tell a form -/
namespace Lw
open PySem PySem.Spec L2 Lx
open PySem.StrLaws
/-- a letter that is no sign of a break -/
abbrev Sep (e : Nat) : Prop := e ≠ 94 ∧ e ≠ 10
theorem repl1_sep {y e : Nat} {z : List Nat} (he : e ≠ y) (r : List Nat) : ∀ l, replL [y] z (l ++ e :: r) = replL [y] z l ++ e :: replL [y] z r
  | [] => by
    rw [replL_nil]
    show replL [y] z (e :: r) = e :: replL [y] z r
    exact replL_miss (by simpa using he)
  | c :: l => by
    have ih := repl1_sep (z := z) he r l
    by_cases h : c = y
    · subst h
      rw [List.cons_append, replL_hit (by simp) (by simp), replL_hit (by simp) (by simp)]
      show z ++ replL [c] z (l ++ e :: r) = z ++ replL [c] z l ++ _
      rw [ih, List.append_assoc]
    · rw [List.cons_append, replL_miss (by simpa using h), replL_miss (by simpa using h), ih]
      rfl
theorem repl2_sep {e : Nat} (he : Sep e) (r : List Nat) : ∀ (n : Nat) (l : List Nat), l.length ≤ n → replL [94, 10] [10] (l ++ e :: r) = replL [94, 10] [10] l ++ e :: replL [94, 10] [10] r
  | _, [], _ => by
    rw [replL_nil]
    show replL [94, 10] [10] (e :: r) = e :: replL [94, 10] [10] r
    exact replL_miss (by
      intro h
      have h1 : ([94, 10] : List Nat).length = 2 := rfl
      cases r with
      | nil => simp at h
      | cons a r => simp at h; exact he.1 h.1)
  | 0, c :: l, h => by simp at h
  | n + 1, [c], _ => by
    have m1 : replL [94, 10] [10] [c] = [c] := by rw [replL_miss (by simp), replL_nil]
    have m0 : replL [94, 10] [10] (e :: r) = e :: replL [94, 10] [10] r := repl2_sep he r 0 [] (Nat.le_refl _)
    rw [m1]
    show replL [94, 10] [10] (c :: e :: r) = _
    rw [replL_miss (by simp; intro _; exact he.2), m0]
    rfl
  | n + 1, c :: d :: l, h => by
    by_cases hh : c = 94 ∧ d = 10
    · obtain ⟨rfl, rfl⟩ := hh
      have ih := repl2_sep he r n l (by simp at h; omega)
      rw [List.cons_append, List.cons_append, replL_hit (by simp) (by simp), replL_hit (by simp) (by simp)]
      show [10] ++ replL [94, 10] [10] (l ++ e :: r) = [10] ++ replL [94, 10] [10] l ++ _
      rw [ih, List.append_assoc]
    · have ih := repl2_sep he r n (d :: l) (by simp at h ⊢; omega)
      rw [List.cons_append, replL_miss (by simp; intro h1 h2; exact hh ⟨h1, h2⟩), replL_miss (by simp; intro h1 h2; exact hh ⟨h1, h2⟩), ih]
      rfl
theorem stepT_sep {e : Nat} (he : Sep e) (c : Nat) (l r : List Nat) : stepT c (l ++ e :: r) = stepT c l ++ e :: stepT c r := by
  unfold stepT
  split
  · exact repl1_sep he.2 r l
  · split
    · exact repl2_sep he r _ l (Nat.le_refl _)
    · split
      · exact repl1_sep he.1 r l
      · exact repl1_sep he.2 r l
theorem doneT_sep {e : Nat} (he : Sep e) (cs : List Nat) : ∀ l r : List Nat, doneT (l ++ e :: r) cs = doneT l cs ++ e :: doneT r cs := by
  induction cs with
  | nil => exact fun _ _ => rfl
  | cons c cs ih =>
    intro l r
    show doneT (stepT c (l ++ e :: r)) cs = doneT (stepT c l) cs ++ e :: doneT (stepT c r) cs
    rw [stepT_sep he, ih]
theorem doneT_nil : ∀ cs : List Nat, doneT [] cs = []
  | [] => rfl
  | c :: cs => by
    have : stepT c [] = [] := by
      unfold stepT
      split
      · exact replL_nil
      · split
        · exact replL_nil
        · split <;> exact replL_nil
    show doneT (stepT c []) cs = []
    rw [this, doneT_nil cs]
/-- the text of three runs between letters -/
def tst (n : Nat) : List Nat := 97 :: (spT [] 1 ++ 98 :: (spT [0] 0 ++ 99 :: (spT [n] 0 ++ [100])))
theorem tst_done (n : Nat) (cs : List Nat) : doneT (tst n) cs = 97 :: (doneT (spT [] 1) cs ++ 98 :: (doneT (spT [0] 0) cs ++ 99 :: (doneT (spT [n] 0) cs ++ [100]))) := by
  have h1 : doneT (tst n) cs = doneT [] cs ++ 97 :: doneT (spT [] 1 ++ 98 :: (spT [0] 0 ++ 99 :: (spT [n] 0 ++ [100]))) cs := doneT_sep (by decide) cs [] _
  rw [h1, doneT_nil, doneT_sep (by decide), doneT_sep (by decide)]
  have h2 : doneT (spT [n] 0 ++ [100]) cs = doneT (spT [n] 0) cs ++ 100 :: doneT [] cs := doneT_sep (by decide) cs _ []
  rw [h2, doneT_nil]
  rfl
theorem sep_cut {e : Nat} : ∀ {a a' r r' : List Nat}, e ∉ a → e ∉ a' → a ++ e :: r = a' ++ e :: r' → a = a' ∧ r = r'
  | [], [], r, r', _, _, h => ⟨rfl, (List.cons.inj h).2⟩
  | [], c :: a', r, r', _, h2, h => absurd ((List.cons.inj h).1 ▸ List.mem_cons_self) h2
  | c :: a, [], r, r', h1, _, h => absurd ((List.cons.inj h).1 ▸ List.mem_cons_self) h1
  | c :: a, d :: a', r, r', h1, h2, h => by
    obtain ⟨e1, e2⟩ := List.cons.inj h
    obtain ⟨i1, i2⟩ := sep_cut (fun z => h1 (List.mem_cons_of_mem _ z)) (fun z => h2 (List.mem_cons_of_mem _ z)) e2
    exact ⟨by rw [e1, i1], i2⟩
theorem spT_mem {rows : List Nat} {rest e : Nat} (he : Sep e) : e ∉ spT rows rest := by
  intro h
  have up' : ∀ n, e ∉ up n := fun n h => he.1 (List.mem_replicate.mp h).2
  rcases List.mem_append.mp h with h | h
  · obtain ⟨j, _, h⟩ := List.mem_flatMap.mp h
    rcases List.mem_append.mp h with h | h
    · exact up' _ h
    · exact he.2 (List.mem_singleton.mp h)
  · exact up' _ h
theorem up_inj {a b : Nat} (h : up a = up b) : a = b := by
  have := congrArg List.length h
  simpa [up] using this
theorem map_up_inj : ∀ {a b : List Nat}, a.map up = b.map up → a = b
  | [], [], _ => rfl
  | [], _ :: _, h => by simp at h
  | _ :: _, [], h => by simp at h
  | x :: a, y :: b, h => by
    rw [List.map_cons, List.map_cons] at h
    obtain ⟨h1, h2⟩ := List.cons.inj h
    rw [up_inj h1, map_up_inj h2]
theorem spT_inj {rows rows' : List Nat} {rest rest' : Nat} (h : spT rows rest = spT rows' rest') : rows = rows' ∧ rest = rest' := by
  have h1 := congrArg (TL.spl [10] 0 []) h
  rw [spT_cut, spT_cut] at h1
  have h2 : ([rows ++ [rest]].flatten).map up = ([rows' ++ [rest']].flatten).map up := by simpa using h1
  have h3 := map_up_inj h2
  have h4 : rows ++ [rest] = rows' ++ [rest'] := by simpa using h3
  have := List.append_inj' h4 rfl
  exact ⟨this.1, (List.cons.inj this.2).1⟩
theorem mul_inj {k a b : Nat} (hk : 0 < k) (h : k * a = k * b) : a = b := Nat.eq_of_mul_eq_mul_left hk h
theorem rep_inj {k k' c c' : Nat} (hk : 0 < k) (h : List.replicate k c = List.replicate k' c') : k = k' ∧ c = c' := by
  have h1 := congrArg List.length h
  rw [List.length_replicate, List.length_replicate] at h1
  subst h1
  cases k with
  | zero => cases hk
  | succ k =>
    rw [List.replicate_succ, List.replicate_succ] at h
    exact ⟨rfl, (List.cons.inj h).1⟩
/-- what a form makes of the three runs -/
theorem said_keep (b a n : Nat) : saidT (.keep b a) [] 1 = spT [] 1 ∧ saidT (.keep b a) [0] 0 = spT [a] 0 ∧ saidT (.keep b a) [n] 0 = spT [n - b + a] 0 := by
  refine ⟨rfl, ?_, ?_⟩
  · show spT [0 - (b : Int).toNat + (a : Int).toNat] 0 = _
    rw [Int.toNat_natCast, Int.toNat_natCast, Nat.zero_sub, Nat.zero_add]
  · show spT [n - (b : Int).toNat + (a : Int).toNat] 0 = _
    rw [Int.toNat_natCast, Int.toNat_natCast]
theorem unT_one (j : Nat) : unT [j] 0 = j + 1 := by simp [unT]
theorem said_lf (b a k c n : Nat) : saidT (.lf b a k c) [] 1 = spT (List.replicate (k * 1) c) 0 ∧ saidT (.lf b a k c) [0] 0 = spT (List.replicate (k * (a + 1)) c) 0 ∧ saidT (.lf b a k c) [n] 0 = spT (List.replicate (k * (n - b + a + 1)) c) 0 := by
  refine ⟨?_, ?_, ?_⟩
  · show spT (List.replicate ((k : Int).toNat * unT [] 1) (c : Int).toNat) 0 = _
    rw [Int.toNat_natCast, Int.toNat_natCast]
    rfl
  · show spT (List.replicate ((k : Int).toNat * unT [0 - (b : Int).toNat + (a : Int).toNat] 0) (c : Int).toNat) 0 = _
    rw [Int.toNat_natCast, Int.toNat_natCast, Int.toNat_natCast, Int.toNat_natCast, Nat.zero_sub, Nat.zero_add, unT_one]
  · show spT (List.replicate ((k : Int).toNat * unT [n - (b : Int).toNat + (a : Int).toNat] 0) (c : Int).toNat) 0 = _
    rw [Int.toNat_natCast, Int.toNat_natCast, Int.toNat_natCast, Int.toNat_natCast, unT_one]
theorem said_cr (b a k n : Nat) : saidT (.cr b a k) [] 1 = spT [] (k * 1) ∧ saidT (.cr b a k) [0] 0 = spT [] (k * (a + 1)) ∧ saidT (.cr b a k) [n] 0 = spT [] (k * (n - b + a + 1)) := by
  refine ⟨?_, ?_, ?_⟩
  · show spT [] ((k : Int).toNat * unT [] 1) = _
    rw [Int.toNat_natCast]
    rfl
  · show spT [] ((k : Int).toNat * unT [0 - (b : Int).toNat + (a : Int).toNat] 0) = _
    rw [Int.toNat_natCast, Int.toNat_natCast, Int.toNat_natCast, Nat.zero_sub, Nat.zero_add, unT_one]
  · show spT [] ((k : Int).toNat * unT [n - (b : Int).toNat + (a : Int).toNat] 0) = _
    rw [Int.toNat_natCast, Int.toNat_natCast, Int.toNat_natCast, unT_one]
theorem said_tell {m : Nat} {f g : Fm} (hf : f.Ok m) (hg : g.Ok m) {n : Nat} (bf : f.b ≤ n) (bg : g.b ≤ n)
    (h1 : saidT f [] 1 = saidT g [] 1) (h2 : saidT f [0] 0 = saidT g [0] 0) (h3 : saidT f [n] 0 = saidT g [n] 0) : f = g := by
  rcases natF hf with ⟨b, a, rfl⟩ | ⟨b, a, k, c, rfl⟩ | ⟨b, a, k, rfl⟩ <;> rcases natF hg with ⟨b', a', rfl⟩ | ⟨b', a', k', c', rfl⟩ | ⟨b', a', k', rfl⟩
  · obtain ⟨-, e2, e3⟩ := said_keep b a n
    obtain ⟨-, e2', e3'⟩ := said_keep b' a' n
    rw [e2, e2'] at h2
    rw [e3, e3'] at h3
    have q2 := (List.cons.inj (spT_inj h2).1).1
    have q3 := (List.cons.inj (spT_inj h3).1).1
    have p1 : (b : Int) ≤ n := bf
    have p2 : (b' : Int) ≤ n := bg
    have : b = b' := by omega
    rw [this, q2]
  · obtain ⟨e1, -, -⟩ := said_keep b a n
    obtain ⟨e1', -, -⟩ := said_lf b' a' k' c' n
    rw [e1, e1'] at h1
    have := (spT_inj h1).2
    omega
  · obtain ⟨-, e2, -⟩ := said_keep b a n
    obtain ⟨-, e2', -⟩ := said_cr b' a' k' n
    rw [e2, e2'] at h2
    cases (spT_inj h2).1
  · obtain ⟨e1, -, -⟩ := said_lf b a k c n
    obtain ⟨e1', -, -⟩ := said_keep b' a' n
    rw [e1, e1'] at h1
    have := (spT_inj h1).2
    omega
  · obtain ⟨e1, e2, e3⟩ := said_lf b a k c n
    obtain ⟨e1', e2', e3'⟩ := said_lf b' a' k' c' n
    rw [e1, e1'] at h1
    rw [e2, e2'] at h2
    rw [e3, e3'] at h3
    have hk : 0 < k := by have := hf.2.2.1; omega
    obtain ⟨q1, qc⟩ := rep_inj (by omega) (spT_inj h1).1
    have qk : k = k' := by omega
    subst qk
    have q2 := (rep_inj (Nat.mul_pos hk (Nat.succ_pos _)) (spT_inj h2).1).1
    have q3 := (rep_inj (Nat.mul_pos hk (Nat.succ_pos _)) (spT_inj h3).1).1
    have qa := mul_inj hk q2
    have qb := mul_inj hk q3
    have p1 : (b : Int) ≤ n := bf
    have p2 : (b' : Int) ≤ n := bg
    have ea : a = a' := by omega
    have eb : b = b' := by omega
    rw [ea, eb, qc]
  · obtain ⟨e1, -, -⟩ := said_lf b a k c n
    obtain ⟨e1', -, -⟩ := said_cr b' a' k' n
    rw [e1, e1'] at h1
    have hk : 0 < k' := by have := hg.2.2.1; omega
    have := (spT_inj h1).2
    omega
  · obtain ⟨-, e2, -⟩ := said_cr b a k n
    obtain ⟨-, e2', -⟩ := said_keep b' a' n
    rw [e2, e2'] at h2
    cases (spT_inj h2).1
  · obtain ⟨e1, -, -⟩ := said_cr b a k n
    obtain ⟨e1', -, -⟩ := said_lf b' a' k' c' n
    rw [e1, e1'] at h1
    have hk : 0 < k := by have := hf.2.2.1; omega
    have := (spT_inj h1).2
    omega
  · obtain ⟨e1, e2, e3⟩ := said_cr b a k n
    obtain ⟨e1', e2', e3'⟩ := said_cr b' a' k' n
    rw [e1, e1'] at h1
    rw [e2, e2'] at h2
    rw [e3, e3'] at h3
    have hk : 0 < k := by have := hf.2.2.1; omega
    have qk : k = k' := by have := (spT_inj h1).2; omega
    subst qk
    have qa := mul_inj hk (spT_inj h2).2
    have qb := mul_inj hk (spT_inj h3).2
    have p1 : (b : Int) ≤ n := bf
    have p2 : (b' : Int) ≤ n := bg
    have ea : a = a' := by omega
    have eb : b = b' := by omega
    rw [ea, eb]
end Lw
namespace Lw
open PySem PySem.Spec L2 Lx
/-! ### the runs of a text -/
abbrev Rn := List (Int × Int) × Int
/-- the run with these groups, one by one, and a rest -/
def rnT (rows : List Nat) (rest : Nat) : Rn := (Lx.merged (rows.map fun n : Nat => ((1 : Int), (n : Int))), (rest : Int))
def spc (c : Nat) : Nat := if c = 94 ∨ c = 10 then c else 32
def rowsOf (l : List Nat) : List Nat := ((TL.spl [10] 0 [] l).dropLast).map List.length
def restOf (l : List Nat) : Nat := ((TL.spl [10] 0 [] l).getLast?.getD []).length
theorem rowsOf_spT (rows : List Nat) (rest : Nat) : rowsOf (spT rows rest) = rows := by
  unfold rowsOf
  rw [spT_cut, List.dropLast_concat, List.map_map]
  have : (List.length ∘ up) = id := funext fun n => by simp [up]
  rw [this, List.map_id]
theorem restOf_spT (rows : List Nat) (rest : Nat) : restOf (spT rows rest) = rest := by
  unfold restOf
  rw [spT_cut, List.getLast?_concat]
  simp [up]
/-- the run of a text of signs alone -/
def rpT (l : List Nat) : Rn := rnT (rowsOf l) (restOf l)
theorem rpT_spT (rows : List Nat) (rest : Nat) : rpT (spT rows rest) = rnT rows rest := by
  unfold rpT
  rw [rowsOf_spT, restOf_spT]
def piecesT (l : List Nat) : List (List Nat) := (TL.spl [32] 0 [] (l.map spc)).filter fun p => !p.isEmpty
def runsT (l : List Nat) : List Rn := (piecesT l).map rpT
def Signs (l : List Nat) : Prop := ∀ c ∈ l, c = 94 ∨ c = 10
theorem spT_signs (rows : List Nat) (rest : Nat) : Signs (spT rows rest) := fun c hc => by
  unfold spT at hc
  rcases List.mem_append.mp hc with h | h
  · obtain ⟨j, _, h⟩ := List.mem_flatMap.mp h
    rcases List.mem_append.mp h with h | h
    · exact .inl (List.mem_replicate.mp h).2
    · exact .inr (List.mem_singleton.mp h)
  · exact .inl (List.mem_replicate.mp h).2
theorem map_spc {l : List Nat} (h : Signs l) : l.map spc = l := by
  induction l with
  | nil => rfl
  | cons c l ih =>
    rw [List.map_cons, ih fun d hd => h d (List.mem_cons_of_mem _ hd)]
    unfold spc
    rw [if_pos (h c (List.mem_cons_self ..))]
theorem not32 {l : List Nat} (h : Signs l) : 32 ∉ l := fun z => by rcases h 32 z with e | e <;> cases e
theorem spl32 {l : List Nat} (h : Signs l) {e : Nat} (he : Sep e) (r : List Nat) : TL.spl [32] 0 [] ((l ++ e :: r).map spc) = l :: TL.spl [32] 0 [] (r.map spc) := by
  have e1 : spc e = 32 := by
    unfold spc
    rw [if_neg (by rcases he with ⟨a, b⟩; omega)]
  rw [List.map_append, List.map_cons, map_spc h, e1]
  have := TL.spl_part1 (s := 32) (S := []) (p := l) (rest := r.map spc) (acc := []) (not32 h)
  rw [List.nil_append] at this
  exact this
theorem spl32_last {l : List Nat} (h : Signs l) : TL.spl [32] 0 [] (l.map spc) = [l] := by
  rw [map_spc h]
  have := TL.spl_last1 (s := 32) (S := []) (p := l) (acc := []) (not32 h)
  rw [List.nil_append] at this
  exact this
theorem pieces_cons {l : List Nat} (h : Signs l) {e : Nat} (he : Sep e) (r : List Nat) : piecesT (l ++ e :: r) = (if l = [] then [] else [l]) ++ piecesT r := by
  unfold piecesT
  rw [spl32 h he]
  cases l with
  | nil => rfl
  | cons c l => rfl
theorem pieces_last {l : List Nat} (h : Signs l) : piecesT l = if l = [] then [] else [l] := by
  unfold piecesT
  rw [spl32_last h]
  cases l with
  | nil => rfl
  | cons c l => rfl
/-- a text is runs between other letters -/
theorem cut_text : ∀ l : List Nat, ∃ a : List Nat, Signs a ∧ (l = a ∨ ∃ e r, Sep e ∧ l = a ++ e :: r ∧ r.length < l.length)
  | [] => ⟨[], (fun c h => by cases h), .inl rfl⟩
  | c :: l => by
    by_cases h : c = 94 ∨ c = 10
    · obtain ⟨a, ha, h2⟩ := cut_text l
      refine ⟨c :: a, fun d hd => ?_, ?_⟩
      · rcases List.mem_cons.mp hd with rfl | hd
        · exact h
        · exact ha d hd
      · rcases h2 with rfl | ⟨e, r, he, rfl, hl⟩
        · exact .inl rfl
        · exact .inr ⟨e, r, he, rfl, by rw [List.length_cons]; omega⟩
    · exact ⟨[], (fun d hd => by cases hd), .inr ⟨c, l, ⟨fun z => h (.inl z), fun z => h (.inr z)⟩, rfl, by rw [List.length_cons]; omega⟩⟩
theorem piece_ok : ∀ (n : Nat) (l : List Nat), l.length ≤ n → ∀ p ∈ piecesT l, Signs p ∧ p ≠ [] ∧ p.length ≤ l.length
  | n, l, hn, p, hp => by
    obtain ⟨a, ha, h | ⟨e, r, he, h, hl⟩⟩ := cut_text l
    · rw [h] at hp ⊢
      rw [pieces_last ha] at hp
      by_cases c : a = []
      · rw [if_pos c] at hp; cases hp
      · rw [if_neg c] at hp
        rw [List.mem_singleton.mp hp]
        exact ⟨ha, c, Nat.le_refl _⟩
    · cases n with
      | zero => omega
      | succ n =>
        have ih := piece_ok n r (by omega)
        rw [h, pieces_cons ha he] at hp
        have hle : l.length = a.length + (r.length + 1) := by rw [h, List.length_append, List.length_cons]
        rcases List.mem_append.mp hp with hp | hp
        · by_cases c : a = []
          · rw [if_pos c] at hp; cases hp
          · rw [if_neg c] at hp
            rw [List.mem_singleton.mp hp]
            exact ⟨ha, c, by omega⟩
        · obtain ⟨h1, h2, h3⟩ := ih p hp
          exact ⟨h1, h2, by omega⟩
theorem spl_len (S : List Nat) : ∀ (l : List Nat) (k : Nat) (acc : List Nat), (TL.spl S k acc l).length ≤ l.length + 1
  | [], k, acc => by rw [TL.spl_nil]; simp
  | c :: l, 0, acc => by
    by_cases h : TL.pre S (c :: l) = true
    · rw [TL.spl_hit h, List.length_cons, List.length_cons]
      have := spl_len S l (S.length - 1) []
      omega
    · rw [TL.spl_miss (by simpa using h), List.length_cons]
      have := spl_len S l 0 (acc ++ [c])
      omega
  | c :: l, k + 1, acc => by
    show (TL.spl S k acc l).length ≤ _
    rw [List.length_cons]
    have := spl_len S l k acc
    omega
theorem rows_small {rows : List Nat} {rest : Nat} : rows.length ≤ (spT rows rest).length ∧ rest ≤ (spT rows rest).length ∧ ∀ n ∈ rows, n ≤ (spT rows rest).length := by
  have ms : ∀ {l : List Nat} {n : Nat}, n ∈ l → n ≤ l.sum := fun {l n} h => by
    induction l with
    | nil => cases h
    | cons a l ih =>
      rw [List.sum_cons]
      rcases List.mem_cons.mp h with rfl | h
      · omega
      · have := ih h
        omega
  rw [spT_len]
  unfold unT
  exact ⟨by omega, by omega, fun n h => by have := ms h; omega⟩
/-- the truth of e, K said outright -/
def tTruK (K : PySem.W.Frag) (ta : TE) : L2.TT := fun σ H Q => ta σ H fun x H' => ∃ k, TruV K x H' k ∧ Q k H'
theorem pt_truthK {X : Cx} {K : PySem.W.Frag} {a : Expr} {ta : TE} (hK : X.K = K) (ha : PE X a ta) (he : ∀ whole, isTrue a X.env whole = (do let v ← whole; standAt a.pos; holding [v] (truthy v))) :
    PT X a (tTruK K ta) := by
  subst hK
  exact pt_truth ha he
/-! ### lists of runs, a list apart -/
inductive RnsD (K : PySem.W.Frag) (H : Hp) (D : Addr) : List V → List Rn → Prop
  | nil : RnsD K H D [] []
  | cons {v : V} {vs : List V} {r : Rn} {rs : List Rn} : (∃ l, l ≠ D ∧ RnS K H v l r) → RnsD K H D vs rs → RnsD K H D (v :: vs) (r :: rs)
theorem RnsD.same {K : PySem.W.Frag} {H H' : Hp} {D : Addr} (s : Same H H') : ∀ {vs rs}, RnsD K H D vs rs → RnsD K H' D vs rs
  | _, _, .nil => .nil
  | _, _, .cons ⟨l, n, h⟩ t => .cons ⟨l, n, h.same s⟩ (t.same s)
theorem RnsD.lstUpd {K : PySem.W.Frag} {H : Hp} {D : Addr} {ys : List V} {o : HO} (e : H D = some (.lst ys)) : ∀ {vs rs}, RnsD K H D vs rs → RnsD K (upd H D o) D vs rs
  | _, _, .nil => .nil
  | _, _, .cons ⟨l, n, h⟩ t => .cons ⟨l, n, h.upd e n⟩ (RnsD.lstUpd e t)
theorem RnsD.append {K : PySem.W.Frag} {H : Hp} {D : Addr} : ∀ {vs ws rs qs}, RnsD K H D vs rs → RnsD K H D ws qs → RnsD K H D (vs ++ ws) (rs ++ qs)
  | _, _, _, _, .nil, h => h
  | _, _, _, _, .cons a t, h => .cons a (t.append h)
theorem RnsD.rns {K : PySem.W.Frag} {H : Hp} {D : Addr} : ∀ {vs rs}, RnsD K H D vs rs → Rns K H vs rs
  | _, _, .nil => .nil
  | _, _, .cons ⟨l, _, h⟩ t => .cons ⟨l, h⟩ t.rns
theorem RnsD.len {K : PySem.W.Frag} {H : Hp} {D : Addr} {vs rs} (h : RnsD K H D vs rs) : vs.length = rs.length := h.rns.len
end Lw
namespace Lw
open PySem PySem.Spec L2 Lx
theorem scLE : FnScope ["self", "other"] ["self", "other"] (defScope sLineFile___eq__) := ⟨rfl, rfl, rfl, by decide +kernel, rfl, by decide +kernel, by decide +kernel⟩
def plainTs : List String := ["NoneType", "str", "list", "int", "tuple", "dict", "bool"]
/-- what == of files needs of the linked program -/
structure LEq (K : PySem.W.Frag) (C : Addr) : Prop where
  ca : PySem.W.findIn K (.ref C) "__class__" = some (some (.builtin "object.__class__"))
  sp : PySem.W.specialIn K (.builtin "object.__class__") "__get__" = some (some (.builtin "getset_descriptor.__get__"))
  tk : PySem.W.takesIn K (.builtin "object.__class__") = some true
  ob : PySem.W.mroIn K C (.type "object") = some true
  kit : ∀ T ∈ plainTs, PySem.W.kitOne K (.type T) (.ref C) = some false
  nf : ∀ T ∈ plainTs, PySem.W.notFirst K C (.type T) = true
theorem kit_plain {K : PySem.W.Frag} {C : Addr} {T : String} (hh : PySem.W.hasDictIn K C = true) (ht : PySem.W.typeIn K (.ref C) = some (.type "type")) (hn : PySem.W.notFirst K C (.type T) = true) : PySem.W.kitOne K (.type T) (.ref C) = some false := by
  obtain ⟨cd, hc, _⟩ := PySem.W.any_some hh
  have e : PySem.W.subIn K (.type T) (.ref C) = some false := by
    unfold PySem.W.notFirst at hn
    rcases Bool.or_eq_true_iff.mp hn with e | e
    · have := beq_iff_eq.mp e
      cases this
    · exact beq_iff_eq.mp e
  unfold PySem.W.kitOne
  rw [if_neg (by simp)]
  unfold PySem.W.kitCls
  simp only [hc, ht, e]
  simp
/-- y is the other file, or no file -/
def REq (K : PySem.W.Frag) (C : Addr) : Addr → V → Hp → Bool → Prop := fun a y H b => ∃ (e : Addr) (x z : Str), LfAt C H a e x z ∧
  ((∃ (q e2 : Addr) (x2 z2 : Str), y = .ref q ∧ LfAt C H q e2 x2 z2 ∧ b = decide (doneT x.cps.toList z.cps.toList = doneT x2.cps.toList z2.cps.toList)) ∨ ((∃ T ∈ plainTs, TyX K H y (.type T)) ∧ b = false))
section
variable {P : Program} {w : World} {K : PySem.W.Frag} {mg : Str → Option Value} {base : Heap}
theorem LEq.ty {C : Addr} (Z : LEq K C) (T : LTxt K mg C) {H : Hp} {q e2 : Addr} {x2 z2 : Str} (h : LfAt C H q e2 x2 z2) : TyX K H (.ref q) (.ref C) := by
  obtain ⟨dx, y, ts, h1, _⟩ := h
  exact .base (.ins h1 T.cl Z.ca Z.sp Z.tk Z.ob)
theorem ok_leq {f C : Addr} {fd : FuncData} {k : Nat} (F : Fun K "__eq__" "LineFile.__eq__" sLineFile___eq__ f fd) (T : LTxt K mg C) (Z : LEq K C) (mi : mg "isinstance" = none) : FnOk P w K mg base CX0 (k + 1) f fd ["self", "other"] (spEqB (REq K C)) := by
  refine F.ok scLE (fun vs H Q E h => ?_) (fun cdv A outer s H vs Q E hr h => ?_)
  · obtain ⟨a, y, b, rfl, _⟩ := h
    rfl
  · obtain ⟨a, y, b, rfl, ⟨e, x, z, hL, hy⟩, q⟩ := h
    refine ⟨_, pss_one (ps_ret (pe_and (pe_callB call_isi (by rfl) mi (by decide +kernel) (pa_cons (pv 1) (pa_cons (pe_glob (v := .ref C) rfl T.mgC rfl) pa_nil))) (pe_one (pe_cmpR op_eq (pe_fld (pv 0) rfl) (pe_fld (pv 1) rfl) (nomark _))))), ?_⟩
    rcases hy with ⟨p, e2, x2, z2, rfl, hL2, rfl⟩ | ⟨⟨T0, hT0, hty⟩, rfl⟩
    · have hty := Z.ty T hL2
      obtain ⟨dx, y1, ts, h1, h2, h3⟩ := hL
      obtain ⟨dx2, y2, ts2, g1, g2, g3⟩ := hL2
      have kt : PySem.W.kitOne K (.ref C) (.ref C) = some true := by
        unfold PySem.W.kitOne
        rw [if_pos (by simp)]
      refine ⟨_, rfl, _, _, _, _, true, rfl, .own C, hty, kt, true, rfl, iteT ?_⟩
      refine ⟨_, rfl, a, C, dx, _, _, rfl, h1, T.cl, T.nT, rfl, _, rfl, p, C, dx2, _, _, rfl, g1, T.cl, T.nT, rfl, rfl, ?_⟩
      have e : decide (V.str y1 = V.str y2) = decide (doneT x.cps.toList z.cps.toList = doneT x2.cps.toList z2.cps.toList) := by
        rw [← h3.y, ← g3.y]
        by_cases h : y1 = y2
        · subst h; simp
        · rw [decide_eq_false (fun q => h (V.str.inj q)), decide_eq_false (fun q => h (Str.ext' (Array.toList_inj.mp q)))]
      rw [e]
      exact q
    · exact ⟨_, rfl, _, _, _, _, false, rfl, .own C, hty, Z.kit T0 hT0, false, rfl, iteF q⟩
theorem scLL : GScope ["self"] ["self"] (defScope sLineFile_lines) := ⟨rfl, rfl, rfl, by decide +kernel, rfl, by decide +kernel, by decide +kernel⟩
def spLLines (C : Addr) : SpG := fun vs H cont _ => ∃ (p e : Addr) (x z : Str), vs = [.ref p] ∧ LfAt C H p e x z ∧ (doneT x.cps.toList z.cps.toList).length ≤ 1000000 ∧ ∀ (out : List Str) H', Same H H' → (∃ y : Str, y.cps.toList = doneT x.cps.toList z.cps.toList ∧ out = Txt.split y "\n") → cont (out.map V.str) H'
theorem ok_llines {f C : Addr} {fd : FuncData} {k : Nat} (F : Fun K "lines" "LineFile.lines" sLineFile_lines f fd) (T : LTxt K mg C) : GFn P w K mg base (k + 1) f fd ["self"] (spLLines C) := by
  obtain ⟨oc, od, kV, doc, pm, an, cdv, ct, osl, rfl, lk, hcd⟩ := F.ex
  refine gfn_of lk hcd scLL (fun vs H Q E h => ?_) (fun A outer s H vs Q E pn hr h => ?_)
  · obtain ⟨p, e, x, z, rfl, _⟩ := h
    rfl
  · obtain ⟨p, e, x, z, rfl, ⟨dx, y, ts, h1, h2, h3⟩, hl, q⟩ := h
    refine ⟨_, gss_cons (gs_yieldFrom (yf_lst (pe_split (pe_fld (pv 0) rfl) pe_str)) hr.hd) gss_nil, ?_⟩
    have yl : y.cps.toList.length = y.cps.size := Array.length_toList ..
    have hy : y.cps.size ≤ 1000000 := by rw [← yl, h3.y]; exact hl
    have hps : (Txt.split y "\n").map TL.tl = TL.spl [10] 0 [] y.cps.toList := TL.split_spl y "\n" (by decide) (TL.kind_ok (by decide +kernel))
    have hpl : (Txt.split y "\n").length ≤ y.cps.size + 1 := by
      have g1 := congrArg List.length hps
      rw [List.length_map] at g1
      have g2 := spl_len [10] y.cps.toList 0 []
      omega
    refine ⟨_, rfl, p, C, dx, _, _, rfl, h1, T.cl, T.nT, rfl, ⟨_, rfl⟩, y, "\n", rfl, rfl, rfl, by rw [sizeLine_eq]; show y.cps.size + 2 ≤ _; omega, fun l nl => ⟨l, _, rfl, upd_same, ?_, ?_⟩⟩
    · rw [List.length_map, sizeLine_eq]
      show 0 + _ ≤ _
      omega
    · exact q _ _ (same_upd nl) ⟨y, h3.y, rfl⟩
end
end Lw
/-! steps that take each other back on any text -/
namespace Lw
open PySem PySem.Spec L2 Lx PySem.StrLaws
theorem rep1 (a b : Nat) : ∀ l : List Nat, replL [a] [b] l = l.map fun c => if c = a then b else c := by
  intro l
  unfold replL
  induction l with
  | nil => rfl
  | cons c r ih =>
    rw [replS]
    by_cases h : c = a
    · subst h
      rw [if_pos (by simp)]
      show [b] ++ replS [c] [b] 0 r = _
      rw [ih]
      simp
    · rw [if_neg (by simp [h]), ih]
      simp [h]
theorem rep2 (a : Nat) (z : List Nat) : ∀ l : List Nat, replL [a] z l = l.flatMap fun c => if c = a then z else [c] := by
  intro l
  unfold replL
  induction l with
  | nil => rfl
  | cons c r ih =>
    rw [replS]
    by_cases h : c = a
    · subst h
      rw [if_pos (by simp)]
      show z ++ replS [c] z 0 r = _
      rw [ih]
      simp
    · rw [if_neg (by simp [h]), ih]
      simp [h]
/-- N behind M, no newline before -/
theorem step_MN {l : List Nat} (h : 10 ∉ l) : stepT 78 (stepT 77 l) = l := by
  show replL [10] [94] (replL [94] [10] l) = l
  rw [rep1, rep1, List.map_map]
  induction l with
  | nil => rfl
  | cons c r ih =>
    have hc : c ≠ 10 := fun e => h (by rw [e]; exact List.mem_cons_self ..)
    rw [List.map_cons, ih fun q => h (List.mem_cons_of_mem _ q)]
    by_cases h9 : c = 94
    · subst h9; rfl
    · simp [h9, hc]
/-- D behind U -/
theorem step_UD (l : List Nat) : stepT 68 (stepT 85 l) = l := by
  show replL [94, 10] [10] (replL [10] [94, 10] l) = l
  rw [rep2]
  have hd : ∀ r : List Nat, (r.flatMap fun c => if c = 10 then [94, 10] else [c]).head? ≠ some 10 := fun r => by
    cases r with
    | nil => simp
    | cons c r =>
      by_cases h : c = 10
      · subst h; simp
      · simp [h]
  unfold replL
  induction l with
  | nil => rfl
  | cons c r ih =>
    by_cases h : c = 10
    · subst h
      show replS [94, 10] [10] 0 (94 :: 10 :: r.flatMap _) = _
      rw [replS, if_pos (by simp)]
      show [10] ++ replS [94, 10] [10] 1 (10 :: r.flatMap _) = _
      rw [replS, ih]
      rfl
    · have e : (c :: r).flatMap (fun c => if c = 10 then [94, 10] else [c]) = c :: r.flatMap fun c => if c = 10 then [94, 10] else [c] := by simp [h]
      rw [e, replS]
      have hn : ¬ ((c :: r.flatMap fun c => if c = 10 then [94, 10] else [c]).take ([94, 10] : List Nat).length = [94, 10]) := fun q => by
        have h1 := hd r
        revert h1 q
        cases (r.flatMap fun c => if c = 10 then [94, 10] else [c]) with
        | nil => intro q h1; simp at q
        | cons d t =>
          intro q h1
          simp at q h1
          exact h1 q.2
      rw [if_neg hn, ih]
end Lw
/-! newlines counted: one less than the pieces between them; the pieces put together again; lines with endings -/
namespace Lw
open PySem PySem.Spec L2 Lx PySem.StrLaws
theorem nl_spl (x : Str) : (Txt.split x "\n").map TL.tl = TL.spl [10] 0 [] x.cps.toList := TL.split_spl x "\n" (by decide) (TL.kind_ok (by decide +kernel))
theorem spl_cnt : ∀ (l acc : List Nat), ((TL.spl [10] 0 acc l).length : Int) = PyProof.Rows.cnt 10 l + 1
  | [], acc => rfl
  | c :: r, acc => by
    rw [PyProof.Rows.cnt_cons]
    by_cases h : c = 10
    · subst h
      rw [TL.spl_hit (by simp [TL.pre]), TL.spl_pass]
      show ((_ :: TL.spl [10] 0 [] r).length : Int) = _
      rw [List.length_cons, Int.natCast_add, spl_cnt r []]
      rw [if_pos rfl]
      omega
    · rw [TL.spl_miss (by simp [TL.pre, h]), spl_cnt r (acc ++ [c]), if_neg h]
      omega
theorem ct_cnt (x : Str) : Txt.count x "\n" = PyProof.Rows.cnt 10 x.cps.toList := PyProof.Rows.count_cnt x 10
theorem ct_split (x : Str) : Txt.count x "\n" = ((Txt.split x "\n").length : Int) - 1 := by
  have h := congrArg List.length (nl_spl x)
  rw [List.length_map] at h
  rw [ct_cnt, h, spl_cnt]
  omega
theorem joinL_ne (S p : List Nat) {r : List (List Nat)} (h : r ≠ []) : TL.joinL S (p :: r) = p ++ (S ++ TL.joinL S r) := by
  cases r with
  | nil => exact absurd rfl h
  | cons q t => rfl
theorem spl_ne (S : List Nat) (k : Nat) (l acc : List Nat) : TL.spl S k acc l ≠ [] := by
  induction l generalizing k acc with
  | nil => rw [TL.spl_nil]; simp
  | cons c r ih =>
    cases k with
    | zero =>
      unfold TL.spl
      split
      · simp
      · exact ih _ _
    | succ k => exact ih _ _
theorem join_spl : ∀ (l acc : List Nat), TL.joinL [10] (TL.spl [10] 0 acc l) = acc ++ l
  | [], acc => by rw [TL.spl_nil, List.append_nil]; rfl
  | c :: r, acc => by
    by_cases h : c = 10
    · subst h
      rw [TL.spl_hit (by simp [TL.pre]), TL.spl_pass]
      show TL.joinL [10] (acc :: TL.spl [10] 0 [] r) = _
      rw [joinL_ne _ _ (spl_ne _ _ _ _), join_spl r []]
      rfl
    · rw [TL.spl_miss (by simp [TL.pre, h]), join_spl r (acc ++ [c]), List.append_assoc]
      rfl
theorem join_split (x : Str) : Txt.join "\n" (Txt.split x "\n") = x := by
  refine TL.ext_tl ?_
  rw [TL.join_eq, TL.tl_join, nl_spl]
  exact join_spl _ []
/-- lines, each followed by an ending -/
def ej (e : List Nat) (xs : List Str) : List Nat := xs.flatMap fun x => x.cps.toList ++ e
theorem joinL_nil : ∀ l : List (List Nat), TL.joinL [] l = l.flatten
  | [] => rfl
  | [p] => by show p = _; simp
  | p :: q :: r => by
    show p ++ ([] ++ TL.joinL [] (q :: r)) = _
    rw [joinL_nil (q :: r)]
    rfl
theorem ej_join (e : Str) (xs : List Str) : (Txt.join "" (xs.map fun x => x ++ e)).cps.toList = ej e.cps.toList xs := by
  show TL.tl _ = _
  rw [TL.join_eq, TL.tl_join]
  show TL.joinL [] _ = _
  rw [joinL_nil, List.map_map]
  unfold ej
  rw [List.flatMap_def]
  congr 1
  refine List.map_congr_left fun x _ => ?_
  exact TL.tl_append x e
theorem ej_U {xs : List Str} (h : ∀ x ∈ xs, 10 ∉ x.cps.toList) (z : List Nat) : replL [10] z (ej [10] xs) = ej z xs := by
  rw [rep2]
  unfold ej
  rw [List.flatMap_assoc, List.flatMap_def, List.flatMap_def]
  refine congrArg List.flatten (List.map_congr_left fun x hx => ?_)
  rw [List.flatMap_append]
  congr 1
  · have := h x hx
    revert this
    generalize x.cps.toList = l
    intro h10
    induction l with
    | nil => rfl
    | cons c r ih =>
      have hc : c ≠ 10 := fun e => h10 (by rw [e]; exact List.mem_cons_self ..)
      rw [List.flatMap_cons, if_neg hc, ih fun q => h10 (List.mem_cons_of_mem _ q)]
      rfl
  · simp
theorem ej_M {xs : List Str} (h : ∀ x ∈ xs, 94 ∉ x.cps.toList) : replL [94] [10] (ej [94] xs) = ej [10] xs := by
  rw [rep2]
  unfold ej
  rw [List.flatMap_assoc, List.flatMap_def, List.flatMap_def]
  refine congrArg List.flatten (List.map_congr_left fun x hx => ?_)
  rw [List.flatMap_append]
  congr 1
  · have := h x hx
    revert this
    generalize x.cps.toList = l
    intro h10
    induction l with
    | nil => rfl
    | cons c r ih =>
      have hc : c ≠ 94 := fun e => h10 (by rw [e]; exact List.mem_cons_self ..)
      rw [List.flatMap_cons, if_neg hc, ih fun q => h10 (List.mem_cons_of_mem _ q)]
      rfl

theorem st_U {xs : List Str} (h : ∀ x ∈ xs, 10 ∉ x.cps.toList) : stepT 85 (ej [10] xs) = ej [94, 10] xs := ej_U h _
theorem st_N {xs : List Str} (h : ∀ x ∈ xs, 10 ∉ x.cps.toList) : stepT 78 (ej [10] xs) = ej [94] xs := ej_U h _
theorem st_M {xs : List Str} (h : ∀ x ∈ xs, 94 ∉ x.cps.toList) : stepT 77 (ej [94] xs) = ej [10] xs := ej_M h
theorem st_D {xs : List Str} (h : ∀ x ∈ xs, 10 ∉ x.cps.toList) : stepT 68 (ej [94, 10] xs) = ej [10] xs := by
  rw [← st_U h, step_UD]
/-- newlines in lines with endings -/
theorem cnt_app (a b : List Nat) : PyProof.Rows.cnt 10 (a ++ b) = PyProof.Rows.cnt 10 a + PyProof.Rows.cnt 10 b := by
  induction a with
  | nil => rw [List.nil_append, PyProof.Rows.cnt_nil]; omega
  | cons c r ih =>
    rw [List.cons_append, PyProof.Rows.cnt_cons, PyProof.Rows.cnt_cons, ih]
    omega
theorem cnt_free {l : List Nat} (h : 10 ∉ l) : PyProof.Rows.cnt 10 l = 0 := by
  induction l with
  | nil => rfl
  | cons c r ih =>
    have hc : c ≠ 10 := fun e => h (by rw [e]; exact List.mem_cons_self ..)
    rw [PyProof.Rows.cnt_cons, ih fun q => h (List.mem_cons_of_mem _ q), if_neg hc]
    rfl
theorem cnt_ej (e : List Nat) {xs : List Str} (h : ∀ x ∈ xs, 10 ∉ x.cps.toList) : PyProof.Rows.cnt 10 (ej e xs) = (xs.length : Int) * PyProof.Rows.cnt 10 e := by
  induction xs with
  | nil => show (0 : Int) = 0 * _; rw [Int.zero_mul]
  | cons x r ih =>
    show PyProof.Rows.cnt 10 ((x.cps.toList ++ e) ++ ej e r) = _
    rw [cnt_app, cnt_app, cnt_free (h x (List.mem_cons_self ..)), ih fun y hy => h y (List.mem_cons_of_mem _ hy), List.length_cons, Int.natCast_add, Int.add_mul]
    show _ = _ + 1 * _
    omega
/-- the pieces of lines with endings -/
theorem ej_pieces {x : Str} (z : Str) {xs : List Str} (hx : x.cps.toList = ej (z.cps.toList ++ [10]) xs) (h : ∀ y ∈ xs, 10 ∉ y.cps.toList) (hz : 10 ∉ z.cps.toList) :
    Txt.split x "\n" = xs.map (fun y => y ++ z) ++ [("" : Str)] := by
  have e : x = Txt.join "\n" (xs.map (fun y => y ++ z) ++ [("" : Str)]) := by
    refine TL.ext_tl ?_
    rw [TL.join_eq, TL.tl_join]
    show x.cps.toList = TL.joinL [10] _
    rw [hx]
    clear hx h
    induction xs with
    | nil => rfl
    | cons y r ih =>
      rw [List.map_cons, List.cons_append, List.map_cons, joinL_ne _ _ (by simp), ← ih]
      show (y.cps.toList ++ (z.cps.toList ++ [10])) ++ ej _ r = TL.tl (y ++ z) ++ _
      rw [TL.tl_append]
      show _ = (y.cps.toList ++ z.cps.toList) ++ ([10] ++ _)
      simp only [List.append_assoc]
  rw [e]
  refine TL.split_join (s := 10) (S := []) rfl (by decide +kernel) (by simp) fun p hp => ?_
  rcases List.mem_append.mp hp with hp | hp
  · obtain ⟨y, hy, rfl⟩ := List.mem_map.mp hp
    rw [TL.tl_append]
    intro q
    rcases List.mem_append.mp q with q | q
    · exact h y hy q
    · exact hz q
  · obtain rfl := List.mem_singleton.mp hp
    decide +kernel
theorem ej_len (e : List Nat) {n : Nat} {xs : List Str} (h : ∀ x ∈ xs, x.length ≤ n) : (ej e xs).length ≤ xs.length * (n + e.length) := by
  induction xs with
  | nil => exact Nat.zero_le _
  | cons x r ih =>
    show ((x.cps.toList ++ e) ++ ej e r).length ≤ _
    have h1 := h x (List.mem_cons_self ..)
    have h2 := ih fun y hy => h y (List.mem_cons_of_mem _ hy)
    have h3 : x.cps.toList.length = x.length := Array.length_toList ..
    rw [List.length_append, List.length_append, List.length_cons, Nat.add_mul]
    omega
end Lw
/-! try .. except X as e: the caught error is kept for what follows the clause. -/
namespace Lx
open PySem PySem.Spec L2
/-- at e: a caught error of the class at C, its own dict at d -/
def errX (e C d : Addr) : HO := .ext fun h => ∃ (o : Obj) (vs : Array Value), h.get? e = some o ∧ o.cls = .ref C ∧ o.dict = some d ∧ o.data = .fields vs
theorem errX_ok {P : Program} {w : World} {H : Hp} {h : Heap} {e C d : Addr} {o : Obj} {vs : Array Value} (he : h.get? e = some o) (h1 : o.cls = .ref C) (h2 : o.dict = some d) (h3 : o.data = .fields vs) : ObjOk P w H h e (errX e C d) :=
  ⟨⟨o, vs, he, h1, h2, h3⟩, ⟨_, he⟩, fun _ _ ⟨o, vs, a, b, c, d⟩ k => ⟨o, vs, k _ a, b, c, d⟩⟩
theorem errX_at {P : Program} {w : World} {H : Hp} {h : Heap} {e C d : Addr} (hok : HOk P w H h) (he : H e = some (errX e C d)) : ∃ (o : Obj) (vs : Array Value), h.get? e = some o ∧ o.cls = .ref C ∧ o.dict = some d ∧ o.data = .fields vs := by
  have x : ObjOk P w H h e (.ext fun h => ∃ (o : Obj) (vs : Array Value), h.get? e = some o ∧ o.cls = .ref C ∧ o.dict = some d ∧ o.data = .fields vs) := hok e _ he
  exact x.1
section
variable {X : Cx} {pins : List (Addr × Obj)} {σ : List (Option V)} {H : Hp} {s : Shared}
theorem know (I : Inv X pins σ H s) {a : Addr} {o : HO} (na : H a = none) (hn : X.s_0.heap.get? a = none) (nL : a ≠ X.env.locals) (nC : ∀ x c, X.env.cells.lookup x = some c → c ≠ a)
    (np : ∀ p ∈ X.pn ++ pins, p.1 ≠ a) (ok : ObjOk X.prog X.w (upd H a o) s.heap a o) : Inv X pins σ (upd H a o) s := by
  have ne : ∀ {b : Addr} {u : HO}, H b = some u → b ≠ a := fun {b u} q z => by rw [z, na] at q; cases q
  refine ⟨I.ok, I.os, I.bare, ⟨I.base.keep, I.base.slot, fun b o' e n hx => ?_, I.base.there, fun b xs q => ?_, fun b o' u q => ?_, fun b ps q => ?_⟩, I.loc, I.cell, ?_, fun x c e => ?_, fun p hp => ?_, fun b u e => ?_, I.len⟩
  · rw [upd_ne (fun z => by rw [z, hn] at e; cases e)]
    exact I.base.free b o' e n hx
  · have := I.base.tups b xs q
    rw [upd_ne (ne this)]; exact this
  · have := I.base.frzs b o' u q
    rw [upd_ne (ne this)]; exact this
  · obtain ⟨m, this⟩ := I.base.tbls b ps q
    exact ⟨m, by rw [upd_ne (ne this)]; exact this⟩
  · rw [upd_ne (Ne.symm nL)]; exact I.free
  · rw [upd_ne (nC x c e)]; exact I.freeC x c e
  · obtain ⟨e, n, r⟩ := I.pin p hp
    exact ⟨e, by rw [upd_ne (np p hp)]; exact n, r⟩
  · by_cases hb : b = a
    · subst hb
      rw [upd_same] at e
      cases e
      exact ok
    · rw [upd_ne hb] at e
      exact (I.hok b u e).stay (fun c v _ q => q) (fun c q => by rw [upd_ne (ne q)]; exact q) fun c xs q => by rw [upd_ne (ne q)]; exact q
theorem suiteK (I : Inv X pins σ H s) (a : Addr) : Inv (X.suite a (X.pn ++ pins)) [] σ H s :=
  ⟨I.ok.suite _ _, I.os, I.bare, I.base, I.loc, I.cell, I.free, I.freeC, fun p hp => I.pin p (by rw [List.append_nil] at hp; exact hp), I.hok, I.len⟩
theorem unsuiteK {a : Addr} {pn' : List (Addr × Obj)} (I : Inv (X.suite a (X.pn ++ pins)) pn' σ H s) (ok : X.Ok) : Inv X pins σ H s :=
  ⟨ok, I.os, I.bare, I.base, I.loc, I.cell, I.free, I.freeC, fun p hp => I.pin p (List.mem_append_left _ hp), I.hok, I.len⟩
end
/-- what the clause 'except x as n' wishes of an own error of the body: slot i is n's; the error is told -/
def wKp (K : PySem.W.Frag) (c : Value) (i : Nat) (ts : TS) (D : Ends) : WX := fun cls d σ H =>
  ∃ C dd : Addr, cls = .ref C ∧ d = some dd ∧ PySem.W.exmOne K cls c = some true ∧ ∀ a, H a = none →
    ts { nx := fun σ' H' => D.nx (σ'.set i none) H', rt := D.rt, bk := fun σ' H' => D.bk (σ'.set i none) H', ct := fun σ' H' => D.ct (σ'.set i none) H' } (σ.set i (some (.ref a))) (upd H a (errX a C dd))
section
variable {X : Cx} {x n : Str} {c : Value} {i : Nat} {body suite : List Stmt} {b₀ : Stmt} {np pos pos' : Pos} {tb : WX → TS} {ts : TS}
theorem ps_try_keep (hs : X.stack = X.env :: X.outer) (hf : X.env.frame = some X.env.locals) (hex : X.ex = []) (hN : X.N.Nodup) (hi : X.N[i]? = some n) (hln : X.env.kindOf n = some .local) (hc : Names X x c)
    (hb : ∀ (W : WX) (pn : List (Addr × Obj)) (xe : Value → Shared → Prop), Takes (X.tr pn xe) W → PassesOwn (model X.prog X.w) X.A X.env xe → PSs (X.tr pn xe) body (tb W))
    (hsu : ∀ (a : Addr) (pn : List (Addr × Obj)), PSs (X.suite a pn) (b₀ :: suite) ts) :
    PS X (.Try body [.ExceptHandler (some (.Name x np)) (some n) (b₀ :: suite) pos'] [] [] pos) (fun D σ H => tb (wKp X.K c i ts D) D σ H) := by
  refine ⟨fun pins s σ H D I h => ?_⟩
  have ok := I.ok
  have hfr : X.A.frames = some (X.env :: X.outer) := by rw [ok.frames, hs]
  have hloc : Loc X.env.scope n := .inl hln
  refine wpAny_Try_except ?_
  refine wpAny_mono ((hb (wKp X.K c i ts D) (X.pn ++ pins) (fun e s₁ => wpAny (model X.prog X.w) X.A (noteFrame e X.env) (fun _ s₂ => wpAny (model X.prog X.w) X.A (setFlight e none) (fun _ s₃ =>
    wpAny (model X.prog X.w) X.A (handleBy e X.env [.ExceptHandler (some (.Name x np)) (some n) (b₀ :: suite) pos']) (SP X pins D) X.xe s₃) X.xe s₂) X.xe s₁) (fun u s' xx => ?_) PassesOwn.looking).run [] s σ H D (I.toTry _) h) (fun f s1 hsp => ?_) (fun e s1 he => he)
  · obtain ⟨a, B, sI, pins', σ', H', cls, d, rfl, J', nb, up, sky, na, os, ag, C, dd, rfl, rfl, hb1, hyes⟩ := xx
    have J : Inv X pins σ' H' sI := J'.ofTry ok
    have sky' : Sky B (X.env :: X.outer) a (Zc (.ref C) (some dd)) X.env.locals s'.heap := by rw [← hs]; exact sky
    show wpAny (model X.prog X.w) X.A (noteFrame (.ref a) X.env) _ _ _
    refine Sky.land Zc.steady hfr hf sky' fun h3 fl3 up3 => ?_
    have J3 : Inv X pins σ' H' { s' with heap := h3 } := J.landed nb fl3.1 (up.trans up3) os ag
    obtain ⟨oe3, vs3, he3, hz3, hd3⟩ := fl3.there
    have notFr : ∀ {h : Heap} {o : Obj} {vs : Array Value}, h.FunFrames B (X.env :: X.outer) → h.get? a = some o → o.data = .fields vs → a ∉ frs (X.env :: X.outer) := fun {h o vs} ff e dd hm => by
      obtain ⟨_, o', e', hnf⟩ := ff.mem hm
      rw [e] at e'; cases e'
      exact hnf _ dd
    have nfr := notFr fl3.2.2.1 he3 hd3
    have nfr' : a ∉ frs X.stack := by rw [hs]; exact nfr
    have nB : B.get? a = none := fl3.2.1
    have nsI : ∀ o, sI.heap.get? a ≠ some o := fun o e => by
      have := nb a o e nfr'
      rw [nB] at this; cases this
    have nL : a ≠ X.env.locals := fun z => nfr (List.mem_filterMap.mpr ⟨X.env, List.mem_cons_self, by rw [hf, z]⟩)
    have n0 : X.s_0.heap.get? a = none := by
      cases e : X.s_0.heap.get? a with
      | none => rfl
      | some o =>
        obtain ⟨o', e'⟩ := J.base.there a o e (by rw [hex]; exact List.not_mem_nil)
        exact (nsI o' e').elim
    have np1 : ∀ p ∈ X.pn ++ pins, p.1 ≠ a := fun p hp z => nsI p.2 (by rw [← z]; exact (J.pin p hp).1)
    have S3 := suiteK J3 a
    refine wpAny_handleBy_cons (codeAny_handlers_test ?_) (by intro q; cases q)
    have LT : PySem.W.Looks (model X.prog X.w) h3 (typeOf (.ref a)) (.ref C) := fun A Q E s k q => wpAny_typeOf_ref (k _ _ he3) (by rw [hz3.1]; exact q)
    have LM := PySem.W.exm_one (M := model X.prog X.w) (J3.kIn) LT hb1
    have test : ∀ {Q : Value → Shared → Prop} {E : Value → Shared → Prop}, Q c { s' with heap := h3 } → wpAny (model X.prog X.w) (X.A.mark (some (.ref a))) (eval (.Name x np) X.env) Q E { s' with heap := h3 } := fun {Q E} q => by
      obtain ⟨hg, hdbg, hm | ⟨hm, hv, hnn⟩⟩ := hc
      · exact ld_glob (X := X.suite a (X.pn ++ pins)) S3 hg hm q hdbg
      · exact ld_blt (X := X.suite a (X.pn ++ pins)) S3 hg hm hv q hnn hdbg
    refine test (LM.here ?_)
    refine codeAny_handlers_suite_as ?_
    refine HandSPX.lands_againZ fl3 fun h4 fl4 up4 => ?_
    have J4 : Inv X pins σ' H' { s' with heap := h4 } := J.landed nb fl4.1 ((up.trans up3).trans up4) os ag
    obtain ⟨oe4, vs4, he4, hz4, hd4⟩ := fl4.there
    have K4 : Inv X pins σ' (upd H' a (errX a C dd)) { s' with heap := h4 } := know J4 na n0 nL (fun y c e z => by
      obtain ⟨v, o, ho, hdd⟩ := J4.cell y c e
      rw [z] at ho
      have ho' : h4.get? a = some o := ho
      rw [he4] at ho'
      cases ho'
      rw [hd4] at hdd
      cases hdd) np1 (errX_ok he4 hz4.1 hz4.2 hd4)
    have S4 := suiteK K4 a
    refine store_ok (X := X.suite a (X.pn ++ pins)) (v := .ref a) S4 hN hi hloc rfl (fun s5 S5 => ?_) (.inr hln)
    refine wpAny_mono ((hsu a (X.pn ++ pins)).run [] s5 _ _ _ S5 (hyes a na)) (fun f s6 hsp => ?_) (fun _ _ z => False.elim z)
    have end_ : ∀ {σ6 : St} {H6 : Hp} {Q : Shared → Prop}, Inv (X.suite a (X.pn ++ pins)) [] σ6 H6 s6 → (∀ s7, Inv X pins (σ6.set i none) H6 s7 → Q s7) →
        wpAny (model X.prog X.w) X.A (do bindName X.env n .none; unbindBehindTheSuite X.env n pos') (fun _ s7 => Q s7) X.xe s6 := fun {σ6 H6 Q} S6 hq => gone_ok (unsuiteK S6 ok) hN hi hln hq
    cases f with
    | next =>
      obtain ⟨σ6, H6, S6, q6⟩ := hsp
      exact end_ S6 fun s7 J7 => ⟨_, _, J7, q6⟩
    | brk =>
      obtain ⟨σ6, H6, S6, q6⟩ := hsp
      exact end_ S6 fun s7 J7 => ⟨_, _, J7, q6⟩
    | cont =>
      obtain ⟨σ6, H6, S6, q6⟩ := hsp
      exact end_ S6 fun s7 J7 => ⟨_, _, J7, q6⟩
    | ret u =>
      obtain ⟨v6, σ6, H6, S6, r6, q6⟩ := hsp
      exact end_ S6 fun s7 J7 => ⟨_, _, _, J7, r6, q6⟩
  · cases f with
    | next =>
      obtain ⟨σ', H', J', q⟩ := hsp
      exact wpAny_execs_nil ⟨σ', H', J'.ofTry ok, q⟩
    | brk =>
      obtain ⟨σ', H', J', q⟩ := hsp
      exact ⟨σ', H', J'.ofTry ok, q⟩
    | cont =>
      obtain ⟨σ', H', J', q⟩ := hsp
      exact ⟨σ', H', J'.ofTry ok, q⟩
    | ret u =>
      obtain ⟨v, σ', H', J', r, q⟩ := hsp
      exact ⟨v, σ', H', J'.ofTry ok, r, q⟩
end
section
variable {X : Cx} {pos : Pos}
/-- isinstance(e, c), e a caught error -/
def rIsX (K : PySem.W.Frag) : List V → Hp → VK → Prop := fun xs H Q => ∃ (e C d : Addr) (v : V) (c : V) (u : Value) (b : Bool), xs = [.ref e, c] ∧ H e = some (errX e C d) ∧ H d = some (.xd (vf v)) ∧ ClsV c u ∧ PySem.W.kitOne K (.ref C) u = some b ∧
  (∃ (file : Str) (mg : Str → Option Value) (L : Addr) (nm qual : Str) (st : Stmt), LineC K mg L ∧ ErrC K file mg L nm qual st C) ∧ Q (.bl b) H
theorem call_isX : CallR X (.builtin "isinstance") (rIsX X.K) := by
  intro pins s σ H xs us Q I r h
  obtain ⟨e, C', d, v, c, u, b, rfl, he, hd, hc, hk, ⟨file, mg, L', nm', qual', st', TL, T⟩, q⟩ := h
  obtain ⟨u1, u2, rfl, r1, r2⟩ := vals2 r
  obtain rfl : u1 = Value.ref e := r1
  have e2 := hc.eq r2
  subst e2
  obtain ⟨o, vs, ho, o1, o2, o3⟩ := errX_at I.hok he
  obtain ⟨mA, hns, _⟩ := (show ∃ mA, s.heap.Ns1 d mA ∧ ∀ f, RelO ((vf v).lookup f) (mA f) from I.hok d _ hd)
  obtain ⟨od, hod, _⟩ := lookIn_ns hns
  obtain ⟨cd, q1, q2, q3⟩ := T.chain
  obtain ⟨ocls, odict, odata, oslots⟩ := o
  simp only at o1 o2 o3
  subst o1 o2 o3
  have Z : PySem.W.KitX X.K (.ref e) (.ref C') (fun h => PySem.W.InstAt h e { cls := .ref C', dict := some d, data := .fields vs, slots := oslots } C' (some od)) :=
    PySem.W.kitx_exc (by rw [q1]; rfl) T.ga T.gg ((T.under _).trans (by rfl)) T.ca TL.sp TL.tk ((T.under _).trans (by rfl))
  exact PySem.W.kia_one Z I.kIn ⟨ho, rfl, rfl, hod⟩ hk (fun z => nomatch z) fun tk => ⟨.bl b, H, I.tok tk, rfl, q⟩
/-- e.value, e a caught error -/
def tErrXV (K : PySem.W.Frag) (te : TE) : TE := fun σ H Q => te σ H fun x H1 => ∃ (e C d : Addr) (v : V), x = .ref e ∧ H1 e = some (errX e C d) ∧ H1 d = some (.xd (vf v)) ∧
  (∃ (file : Str) (mg : Str → Option Value) (L : Addr) (nm qual : Str) (st : Stmt), LineC K mg L ∧ ErrC K file mg L nm qual st C) ∧ Q v H1
theorem pe_errXV {e : Expr} {te : TE} (he : PE X e te) (hb : attributeBase e "value" X.env (eval e X.env) = eval e X.env := by rfl) : PE X (.Attribute e "value" pos) (tErrXV X.K te) := by
  refine ⟨fun pins s σ H Q I h => ?_⟩
  refine attr_of hb (thn (he.run pins s σ H _ I h) fun u s1 hh => ?_)
  obtain ⟨x, H1, I1, rx, e', C', d, v, ex, hoe, hd, ⟨file, mg, L', nm', qual', st', TL, T⟩, q⟩ := hh
  subst ex
  obtain rfl : u = Value.ref e' := rx
  obtain ⟨o, vs, ho, o1, o2, o3⟩ := errX_at I1.hok hoe
  obtain ⟨mA, hns, hr⟩ := (show ∃ mA, s1.heap.Ns1 d mA ∧ ∀ f, RelO ((vf v).lookup f) (mA f) from I1.hok d _ hd)
  obtain ⟨od, hod, hl⟩ := lookIn_ns hns
  have l : List.lookup ("value" : Str) (vf v) = some v := by simp [List.lookup]
  obtain ⟨u, hu, ru⟩ := RelO.some_of (v := v) (o := mA "value") (by rw [← l]; exact hr "value")
  obtain ⟨ocls, odict, odata, oslots⟩ := o
  simp only at o1 o2 o3
  subst o1 o2 o3
  have J : PySem.W.InstAt s1.heap e' { cls := .ref C', dict := some d, data := .fields vs, slots := oslots } C' (some od) := ⟨ho, rfl, rfl, hod⟩
  obtain ⟨cd, q1, q2, q3⟩ := T.chain
  have hdict : PySem.W.hasDictIn X.K C' = true := by
    unfold PySem.W.hasDictIn
    rw [q1]
    simpa using q3
  exact HandSPX.exc_get I1.kIn J T.ga T.gg ((T.under _).trans (by rfl)) (PySem.W.findObj_own hdict T.nv rfl (by rw [hl, hu])) (handed_of ru) ⟨v, H1, I1.tok _, ru, q⟩
end
end Lx
/-! The eight error classes; classes whose __init__ raises, made by position and by name. -/
namespace Lx
open PySem PySem.Spec L2
/-- the eight classes and their base; ini i: the text of the i-th one's __init__ -/
structure ErrT (K : PySem.W.Frag) (file : Str) (mg : Str → Option Value) (L : Addr) (C : Nat → Addr) (ini : Nat → Stmt) : Prop where
  line : LineC K mg L
  e0 : ErrC K file mg L "InvalidChain" "InvalidChain.__init__" (ini 0) (C 0)
  e1 : ErrC K file mg L "InvalidRun" "InvalidRun.__init__" (ini 1) (C 1)
  e2 : ErrC K file mg L "InvalidForm" "InvalidForm.__init__" (ini 2) (C 2)
  e3 : ErrC K file mg L "InvalidNumber" "InvalidNumber.__init__" (ini 3) (C 3)
  e4 : ErrC K file mg L "InvalidPlace" "InvalidPlace.__init__" (ini 4) (C 4)
  e5 : ErrC K file mg L "UnknownName" "UnknownName.__init__" (ini 5) (C 5)
  e6 : ErrC K file mg L "NothingToUndo" "NothingToUndo.__init__" (ini 6) (C 6)
  e7 : ErrC K file mg L "Unreadable" "Unreadable.__init__" (ini 7) (C 7)
  inj : ∀ i j, i < 8 → j < 8 → C i = C j → i = j
  ne : ∀ i, i < 8 → C i ≠ L
section
variable {K : PySem.W.Frag} {file : Str} {mg : Str → Option Value} {L : Addr} {C : Nat → Addr} {ini : Nat → Stmt}
theorem ErrT.at (T : ErrT K file mg L C ini) : ∀ i, i < 8 → ∃ nm qual st, ErrC K file mg L nm qual st (C i)
  | 0, _ => ⟨_, _, _, T.e0⟩
  | 1, _ => ⟨_, _, _, T.e1⟩
  | 2, _ => ⟨_, _, _, T.e2⟩
  | 3, _ => ⟨_, _, _, T.e3⟩
  | 4, _ => ⟨_, _, _, T.e4⟩
  | 5, _ => ⟨_, _, _, T.e5⟩
  | 6, _ => ⟨_, _, _, T.e6⟩
  | 7, _ => ⟨_, _, _, T.e7⟩
  | n + 8, h => absurd h (by omega)
theorem ErrT.kit (T : ErrT K file mg L C ini) {i j : Nat} (hi : i < 8) (hj : j < 8) : PySem.W.kitOne K (.ref (C i)) (.ref (C j)) = some (decide (i = j)) := by
  obtain ⟨_, _, _, Ti⟩ := T.at i hi
  obtain ⟨_, _, _, Tj⟩ := T.at j hj
  rw [kit_err Ti Tj (T.ne j hj)]
  by_cases e : i = j
  · subst e; simp
  · have z : C i ≠ C j := fun q => e (T.inj i j hi hj q)
    rw [decide_eq_false e, decide_eq_false z]
theorem ErrT.kitL (T : ErrT K file mg L C ini) {i : Nat} (hi : i < 8) : PySem.W.kitOne K (.ref (C i)) (.ref L) = some true := by
  obtain ⟨_, _, _, Ti⟩ := T.at i hi
  exact kit_line T.line Ti
theorem ErrT.kitV (T : ErrT K file mg L C ini) {i : Nat} (hi : i < 8) : PySem.W.kitOne K (.ref (C i)) (.type "ValueError") = some true := by
  obtain ⟨_, _, _, Ti⟩ := T.at i hi
  exact kit_ve Ti
theorem ErrT.ex (T : ErrT K file mg L C ini) {i : Nat} (hi : i < 8) : ∃ (file : Str) (mg : Str → Option Value) (L : Addr) (nm qual : Str) (st : Stmt), LineC K mg L ∧ ErrC K file mg L nm qual st (C i) := by
  obtain ⟨_, _, _, Ti⟩ := T.at i hi
  exact ⟨_, _, _, _, _, _, T.line, Ti⟩
/-- except LineError -/
theorem ErrT.exm (T : ErrT K file mg L C ini) {i : Nat} (hi : i < 8) : PySem.W.exmOne K (.ref (C i)) (.ref L) = some true := by
  obtain ⟨_, _, _, Ti⟩ := T.at i hi
  unfold PySem.W.exmOne
  rw [T.line.exB, if_pos (by rfl)]
  have := kit_line T.line Ti
  unfold PySem.W.kitOne at this
  rw [if_neg (by simpa using T.ne i hi)] at this
  exact this
end
/-! ### list.count, flat items -/
section
variable {X : Cx}
theorem countP_eqU {x : V} : ∀ {xs : List V} {us : List Value}, Vals xs us → xs.all flatV = true → us.countP (eqU x) = xs.countP fun y => eqV y x
  | _, _, .nil, _ => rfl
  | y :: xs, u :: us, .cons r t, f => by
    rw [List.all_cons, Bool.and_eq_true] at f
    rw [List.countP_cons, List.countP_cons, countP_eqU t f.2, eqU_of r f.1]
def rCntF (K : PySem.W.Frag) : V → List V → Hp → VK → Prop := fun x xs H Q => ∃ (p : Addr) (ys : List V) (y : V), x = .ref p ∧ xs = [y] ∧ SqL K H p ys ∧ flatV y = true ∧ ys.all flatV = true ∧ Q (.int (ys.countP (fun z => eqV z y) : Nat)) H
theorem mt_countF : MtR X "list.count" (rCntF X.K) := by
  intro pins s σ H x xs v us Q I rx rxs h
  obtain ⟨p, ys, y, rfl, rfl, hs, fy, fys, q⟩ := h
  cases rx
  obtain ⟨u, rfl, ru⟩ := rxs.one
  obtain ⟨its, rv, ⟨⟨cls, dd, data, sl⟩, n, ho, hc, hdn, hd⟩, hlen⟩ := I.list hs
  simp only at hc hd
  subst hc hd
  refine call_meets PySem.F.slot_list_count ⟨_, ho, rfl⟩ PySem.F.entry_list_count (PySem.F.args_list_count_2 _ _)
    (SeqAt.list_countAt p its.toArray n dd sl u (eqU y)) ⟨ho, fun u' hu' => mem_eqAt ru fy rv fys u' (by simpa using hu'), ?_⟩
  have ec : its.toArray.toList.countP (eqU y) = ys.countP fun z => eqV z y := countP_eqU rv fys
  refine ⟨.int (ys.countP (fun z => eqV z y) : Nat), H, I.tok _, ⟨s.toks, ?_⟩, q⟩
  show Value.int ((its.toArray.toList.countP (eqU y) : Nat) : Int) s.toks = _
  rw [ec]
end
/-! ### C(e, ..), C(k = v) where __init__ may raise, at the slots -/
def tMakeS (C : Addr) (sp : Sp) (E : St → XK) (t : TA) : TE := fun σ H Q => t σ H fun vs H1 => ∀ x dx, H1 x = none → H1 dx = none → dx ≠ x →
  sp (.ref x :: vs) (upd (upd H1 dx (.own x)) x (.ins C dx [])) (fun v H2 => v = .non ∧ Q (.ref x) H2) (E σ)
def tMakeKS (C : Addr) (m : Nat) (sp : Sp) (gV : List V → List V → List V) (E : St → XK) (tk : TA) : TE := fun σ H Q => tk σ H fun zs H2 => zs.length = m ∧ ∀ x dx, H2 x = none → H2 dx = none → dx ≠ x →
  sp (gV [.ref x] zs) (upd (upd H2 dx (.own x)) x (.ins C dx [])) (fun v H3 => v = .non ∧ Q (.ref x) H3) (E σ)
section
variable {X : Cx} {CX : CXT} {k n : Nat} {f C : Addr} {fd : FuncData} {ps ks : List Str} {sp : Sp} {E : St → XK} {x : Str} {p pos : Pos} {e : Expr} {es : List Expr} {kws : List Keyword} {t tk : TA} {g : List Value → List Value → List Value} {gV : List V → List V → List V}
theorem run_makeS {pins : List (Addr × Obj)} {σ : St} {H : Hp} {s : Shared} {Q : VK} {us : List Value} {vs : List V} (M : Mk X.K C f) (F : FnOk X.prog X.w X.K X.mg X.base CX k f fd ps sp) (hr : Room (k + 1) X.A) (hb : Binds X.K fd ps [])
    (hx : PassesAt CX X σ (E σ)) (I : Inv X pins σ H s) (r : Vals vs us)
    (h : ∀ x dx, H x = none → H dx = none → dx ≠ x → sp (.ref x :: vs) (upd (upd H dx (.own x)) x (.ins C dx [])) (fun v H2 => v = .non ∧ Q (.ref x) H2) (E σ)) :
    wpAny (model X.prog X.w) X.A (call (.ref C) us) (EP X pins σ Q) X.xe s := by
  have hq := h (s.heap.objs.size + 1) s.heap.objs.size (I.hok.fresh (Nat.le_succ _)) (I.hok.fresh (Nat.le_refl _)) (Nat.ne_of_lt (Nat.lt_succ_self _))
  have I2 := Inv.made (C := C) I
  have r2 : Vals (V.ref (s.heap.objs.size + 1) :: vs) (Value.ref (s.heap.objs.size + 1) :: us) := .cons rfl r
  have hl : (Value.ref (s.heap.objs.size + 1) :: us ++ []).length = ps.length := by
    have e := r2.length
    rw [F.len _ _ _ _ hq] at e
    rw [List.append_nil]
    exact e.symm
  have b := hb _ (Value.ref (s.heap.objs.size + 1) :: us) I2.kIn hl
  rw [List.append_nil] at b
  refine wpAny_call (make_map (f := f) I.kIn M.makes M.init (beq_iff_eq.mp M.fn) (codeAny_mono (F.run _ X.stack _ _ ⟨Value.ref (s.heap.objs.size + 1) :: us, []⟩ (Value.ref (s.heap.objs.size + 1) :: us) _ _ (E σ) (hr.make C us [])
    (I2.env0.make C us []) b r2 hq) fun r s' hq' => ?_))
  cases r with
  | error e => exact hx pins _ _ e s' I2 hq'
  | ok fl =>
    cases fl with
    | ret u =>
      obtain ⟨v, H', I3, rv, ev, q3⟩ := I2.after hq'
      subst ev
      exact ⟨rv, ⟨V.ref (s.heap.objs.size + 1), H', I3, rfl, q3⟩⟩
    | next => exact False.elim hq'
    | brk => exact False.elim hq'
    | cont => exact False.elim hq'
theorem pe_makeS (M : Mk X.K C f) (F : FnOk X.prog X.w X.K X.mg X.base CX k f fd ps sp) (hr : Room (k + 1) X.A) (hg : Gl X x) (hm : X.mg x = some (.ref C)) (hb : Binds X.K fd ps []) (hx : ∀ σ, PassesAt CX X σ (E σ))
    (ha : PA X (e :: es) t) (hdb : (x == ("__debug__" : Str)) = false := by decide) (he : starEach (e :: es) X.env = (false, eval e X.env) :: starEach es X.env := by rfl) (hpl : (backTo pos (starEach es X.env)).any (·.1) = false := by rfl) :
    PE X (.Call (.Name x p) (e :: es) [] pos) (tMakeS C sp E t) := by
  refine ⟨fun pins s σ H Q I h => ?_⟩
  refine wpAny_Call_Name_kw (ld_glob I hg hm ?_ hdb)
  refine PySem.W.callWith_K (h₀ := X.base) I.ok.mod.kin M.kp (thn (ha.run pos pins s σ H _ I h) fun us s1 ⟨vs, H1, I1, r, q⟩ => ⟨I1.kIn, ?_⟩) he hpl
  exact run_makeS M F hr hb (hx σ) I1 r q
theorem run_makeKS {pins : List (Addr × Obj)} {σ : St} {H : Hp} {s : Shared} {Q : VK} {ws : List Value} {zs : List V} (M : Mk X.K C f) (F : FnOk X.prog X.w X.K X.mg X.base CX k f fd ps sp) (hr : Room (k + 1) X.A) (hb : KBn X.K fd ps 1 ks g gV)
    (hx : PassesAt CX X σ (E σ)) (I : Inv X pins σ H s) (rz : Vals zs ws) (l2 : zs.length = ks.length)
    (h : ∀ x dx, H x = none → H dx = none → dx ≠ x → sp (gV [.ref x] zs) (upd (upd H dx (.own x)) x (.ins C dx [])) (fun v H2 => v = .non ∧ Q (.ref x) H2) (E σ)) :
    wpAny (model X.prog X.w) X.A (call (.ref C) [] (ks.zip ws)) (EP X pins σ Q) X.xe s := by
  have hq := h (s.heap.objs.size + 1) s.heap.objs.size (I.hok.fresh (Nat.le_succ _)) (I.hok.fresh (Nat.le_refl _)) (Nat.ne_of_lt (Nat.lt_succ_self _))
  have I2 := Inv.made (C := C) I
  have r1 : Vals [V.ref (s.heap.objs.size + 1)] [Value.ref (s.heap.objs.size + 1)] := .cons rfl .nil
  have r2 := hb.rel r1 rz
  refine wpAny_call (make_map (f := f) I.kIn M.makes M.init (beq_iff_eq.mp M.fn) (codeAny_mono (F.run _ X.stack _ _ ⟨[Value.ref (s.heap.objs.size + 1)], ks.zip ws⟩ (g [Value.ref (s.heap.objs.size + 1)] ws) _ _ (E σ) (hr.make C [] (ks.zip ws))
    (I2.env0.make C [] (ks.zip ws)) (hb.to _ [Value.ref (s.heap.objs.size + 1)] ws I2.kIn rfl (rz.length.symm.trans l2)) r2 hq) fun r s' hq' => ?_))
  cases r with
  | error e => exact hx pins _ _ e s' I2 hq'
  | ok fl =>
    cases fl with
    | ret u =>
      obtain ⟨v, H', I3, rv, ev, q3⟩ := I2.after hq'
      subst ev
      exact ⟨rv, ⟨V.ref (s.heap.objs.size + 1), H', I3, rfl, q3⟩⟩
    | next => exact False.elim hq'
    | brk => exact False.elim hq'
    | cont => exact False.elim hq'
theorem pe_makeKS (M : Mk X.K C f) (F : FnOk X.prog X.w X.K X.mg X.base CX k f fd ps sp) (hr : Room (k + 1) X.A) (hg : Gl X x) (hm : X.mg x = some (.ref C)) (hb : KBn X.K fd ps 1 ks g gV) (hx : ∀ σ, PassesAt CX X σ (E σ)) (hkw : PK X kws tk)
    (hall : (backToKw pos (keywordEach kws X.env)).all (·.1.isSome) = true := by rfl) (hks : (backToKw pos (keywordEach kws X.env)).filterMap (·.1) = ks := by rfl) (hdb : (x == ("__debug__" : Str)) = false := by decide)
    (hpl : ((backTo pos (starEach [] X.env)).any (·.1) || (backToKw pos (keywordEach kws X.env)).any (·.1.isNone)) = false := by rfl) :
    PE X (.Call (.Name x p) [] kws pos) (tMakeKS C ks.length sp gV E tk) := by
  refine ⟨fun pins s σ H Q I h => ?_⟩
  refine wpAny_Call_Name_kw (ld_glob I hg hm ?_ hdb)
  refine PySem.W.callWith_KW0 (h₀ := X.base) I.ok.mod.kin M.kp hall ?_ hpl
  refine thn (hkw.run pos pins s σ H _ I h) fun ws s2 ⟨zs, H2, I2, rz, l2, q2⟩ => ⟨I2.kIn, ?_⟩
  rw [hks]
  exact run_makeKS M F hr hb (hx σ) I2 rz l2 q2
end
/-- self by position, the one argument by its name -/
def gSelf1 (α : Type) : List α → List α → List α
  | [a], [b] => [a, b]
  | _, _ => []
theorem kbSelf1 {K : PySem.W.Frag} {x qual : Str} {st : Stmt} {f : Addr} {fd : FuncData} {p1 p2 : Str} (F : Fun K x qual st f fd)
    (h : ∀ (kV doc pm : Value) (an : Option Addr) (cdv ct a b : Value), bindArgs (PySem.W.fnOf x qual (defArgs st) (defBody st) (defScope st) .none kV doc pm an cdv ct) ⟨[a], [(p2, b)]⟩ = pure [(p1, a), (p2, b)]) : KBn K fd [p1, p2] 1 [p2] (gSelf1 Value) (gSelf1 V) := by
  obtain ⟨oc, od, kV, doc, pm, an, cdv, ct, osl, rfl, lk, hcd⟩ := F.ex
  refine ⟨fun s us ws _ l1 l2 => ?_, fun {vs us zs ws} r1 r2 => ?_⟩
  · match us, ws, l1, l2 with
    | [a], [b], _, _ => exact .of_eq (h kV doc pm an cdv ct a b)
  · cases r1 with
    | nil => exact .nil
    | cons a t =>
      cases t with
      | cons _ _ => exact .nil
      | nil =>
        cases r2 with
        | nil => exact .nil
        | cons b t =>
          cases t with
          | nil => exact .cons a (.cons b .nil)
          | cons _ _ => exact .nil
end Lx
/-! o.m(k = v) -/
namespace Lx
open PySem PySem.Spec L2
def tMethK (C : Addr) (m : Str) (sp : Sp) (gV : List V → List V → List V) (E : XK) (ta : TE) (tk : TA) : TE := fun σ H Q => ta σ H fun x H1 => ∃ a dx fs, x = .ref a ∧ H1 a = some (.ins C dx fs) ∧ fs.lookup m = none ∧ tk σ H1 fun zs H2 => sp (gV [.ref a] zs) H2 Q E
section
variable {X : Cx} {CX : CXT} {k : Nat} {f C : Addr} {fd : FuncData} {ps ks : List Str} {sp : Sp} {E : XK} {m : Str} {apos pos : Pos} {o : Expr} {kws : List Keyword} {ta : TE} {tk : TA} {g : List Value → List Value → List Value} {gV : List V → List V → List V}
theorem pe_methK0 {pl : Sem Bool} (he : PE X o ta) (c : Cls X.K C) (hm : Meth X.K C m f) (F : FnOk X.prog X.w X.K X.mg X.base CX k f fd ps sp) (hr : Room k X.A) (hb : KBinds X.K fd ps ks g gV) (hx : Passes CX X E) (hkw : PK X kws tk)
    (hall : (backToKw pos (keywordEach kws X.env)).all (·.1.isSome) = true := by rfl) (hks : (backToKw pos (keywordEach kws X.env)).filterMap (·.1) = ks := by rfl)
    (hpl : ((backTo pos (starEach [] X.env)).any (·.1) || (backToKw pos (keywordEach kws X.env)).any (·.1.isNone)) = false := by rfl)
    (ht : eval (.Call (.Attribute o m apos) [] kws pos) X.env = (do
      let ov ← eval o X.env
      standAt apos.atName
      let (f, first) ← holding [ov] (getMethod ov m pl)
      callWith pos f first (backTo pos (starEach [] X.env)) (backToKw pos (keywordEach kws X.env))) := by rfl) :
    PE X (.Call (.Attribute o m apos) [] kws pos) (tMethK C m sp gV E ta tk) := by
  refine ⟨fun pins s σ H Q I h => ?_⟩
  refine PySem.W.methodCall_KW (pl := pl) (thn (he.run pins s σ H _ I h) fun u s1 ⟨x, H1, I1, rx, a, dx, fs, ex, ea, l, q⟩ => ?_) ht
  subst ex
  obtain rfl : u = Value.ref a := rx
  refine getmeth_ok I1 ea c hm l ?_
  refine PySem.W.callWith_KW0 (first := [.ref a]) (h₀ := X.base) I.ok.mod.kin hm.kp hall ?_ hpl
  refine thn (hkw.run pos pins s1 σ H1 _ I1 q) fun ws s2 ⟨zs, H2, I2, rz, q2⟩ => ⟨I2.kIn, ?_⟩
  rw [hks]
  exact run_fnk (us := [.ref a]) (vs := [.ref a]) F hr hb hx I2 (.cons rfl .nil) rz q2
end
theorem kbSelfB {K : PySem.W.Frag} {x qual : Str} {st : Stmt} {f : Addr} {fd : FuncData} {p1 p2 : Str} (F : Fun K x qual st f fd)
    (h : ∀ (kV doc pm : Value) (an : Option Addr) (cdv ct a b : Value), bindArgs (PySem.W.fnOf x qual (defArgs st) (defBody st) (defScope st) .none kV doc pm an cdv ct) ⟨[a], [(p2, b)]⟩ = pure [(p1, a), (p2, b)]) : KBinds K fd [p1, p2] [p2] (gSelf1 Value) (gSelf1 V) := by
  have B := kbSelf1 F h
  obtain ⟨oc, od, kV, doc, pm, an, cdv, ct, osl, rfl, lk, hcd⟩ := F.ex
  refine ⟨fun s us ws hK hl => ?_, B.rel⟩
  match us, ws, hl with
  | [a], [b], _ => exact .of_eq (h kV doc pm an cdv ct a b)
  | [], _, hl => exact absurd hl (by simp [gSelf1])
  | [_], [], hl => exact absurd hl (by simp [gSelf1])
  | [_], _ :: _ :: _, hl => exact absurd hl (by simp [gSelf1])
  | _ :: _ :: _, _, hl => exact absurd hl (by simp [gSelf1])
end Lx
/-! C.m(k = v, ..) of a classmethod -/
namespace Lx
open PySem PySem.Spec L2 ClX
open PySem.W (Looks)
theorem callWith_MK {M : Model} {A : Around} {E : Value → Shared → Prop} {Q : Value → Shared → Prop} {s : Shared} {K : PySem.W.Frag} {env : Env} {pos : Pos} {first : List Value} {q g : Addr} {self : Value} {kws : List Keyword} (hf : PySem.W.fnIn K g = true)
    (hall : (backToKw pos (keywordEach kws env)).all (·.1.isSome) = true)
    (h : wpAny M A (evalAll ((backToKw pos (keywordEach kws env)).map (·.2))) (fun ks s₂ => PySem.W.MethP K q g self s₂.heap ∧ wpAny M A (call (.ref q) (first ++ []) (((backToKw pos (keywordEach kws env)).filterMap (·.1)).zip ks)) Q E s₂) E s)
    (hplain : ((backTo pos (starEach [] env)).any (·.1) || (backToKw pos (keywordEach kws env)).any (·.1.isNone)) = false) :
    wpAny M A (callWith pos (.ref q) first (backTo pos (starEach [] env)) (backToKw pos (keywordEach kws env))) Q E s :=
  PySem.W.callWith_of hplain (PySem.W.keeps_M hf) (PyProof.Rows.evalArgs_kw2_nil hall h)
def tCMethK (C : Addr) (sp : Sp) (gV : List V → List V → List V) (E : XK) (ta : TE) (tk : TA) : TE := fun σ H Q => ta σ H fun x H1 => x = .ref C ∧ tk σ H1 fun zs H2 => sp (gV [.ref C] zs) H2 Q E
section
variable {X : Cx} {CX : CXT} {k : Nat} {C p g : Addr} {mc : Value} {fd : FuncData} {ps ks : List Str} {sp : Sp} {E : XK} {o : Expr} {m : Str} {pos apos : Pos} {ta : TE} {kws : List Keyword} {tk : TA} {pl : Sem Bool} {gv : List Value → List Value → List Value} {gV : List V → List V → List V}
theorem pe_cmethK0 (he : PE X o ta) (r : CRead X.K C mc) (c : CMet X.K C mc m p g) (F : FnOk X.prog X.w X.K X.mg X.base CX k g fd ps sp) (hr : Room k X.A) (hb : KBinds X.K fd ps ks gv gV) (hx : Passes CX X E) (hkw : PK X kws tk)
    (hall : (backToKw pos (keywordEach kws X.env)).all (·.1.isSome) = true := by rfl) (hks : (backToKw pos (keywordEach kws X.env)).filterMap (·.1) = ks := by rfl)
    (hpl : ((backTo pos (starEach [] X.env)).any (·.1) || (backToKw pos (keywordEach kws X.env)).any (·.1.isNone)) = false := by rfl)
    (ht : eval (.Call (.Attribute o m apos) [] kws pos) X.env = (do
      let ov ← eval o X.env
      standAt apos.atName
      let (f, first) ← holding [ov] (getMethod ov m pl)
      callWith pos f first (backTo pos (starEach [] X.env)) (backToKw pos (keywordEach kws X.env))) := by rfl) :
    PE X (.Call (.Attribute o m apos) [] kws pos) (tCMethK C sp gV E ta tk) := by
  refine ⟨fun pins s σ H Q I h => ?_⟩
  refine PySem.W.methodCall_KW (pl := pl) (thn (he.run pins s σ H _ I h) fun u s1 ⟨x, H1, I1, rx, ex, q⟩ => ?_) ht
  subst ex
  obtain rfl : u = Value.ref C := rx
  refine getmethcm_ok I1 r c fun s2 I2 => ?_
  refine callWith_MK (self := .ref C) c.fi hall (thn (hkw.run pos _ s2 σ H1 _ I2 q) fun ws s3 ⟨zs, H2, I3, rz, q2⟩ => ⟨⟨pin_at I3, I3.kIn⟩, ?_⟩) hpl
  rw [hks]
  have I4 := unpin I3
  have r1 : Vals [V.ref C] [Value.ref C] := .cons rfl .nil
  have r2 := hb.rel r1 rz
  have hl : (gv [Value.ref C] ws).length = ps.length := by rw [← r2.length]; exact F.len _ _ _ _ q2
  refine wpAny_call (PySem.W.method_call (pin_at I3) (codeAny_mono (F.run X.A X.stack s3 H2 ⟨[Value.ref C], ks.zip ws⟩ (gv [Value.ref C] ws) (gV [V.ref C] zs) Q E hr I4.env0 (hb.to s3 [Value.ref C] ws I4.kIn hl) r2 q2) fun r s' hq => ?_))
  cases r with
  | error e => exact hx pins σ H2 s3 e s' I4 hq
  | ok fl =>
    cases fl with
    | ret u => exact I4.after hq
    | next => exact False.elim hq
    | brk => exact False.elim hq
    | cont => exact False.elim hq
end
end Lx
namespace Lw
open PySem PySem.Spec L2 Lx
/-- a call of a local name that holds a class -/
def tMakeL (i : Nat) (C : Addr) (sp : Sp) (dvs : List V) (E : XK) (t : TA) : TE := fun σ H Q => σ[i]? = some (some (.ref C)) ∧ tMake C sp dvs E t σ H Q
theorem pe_makeL {X : Cx} {CX : CXT} {k i : Nat} {C f : Addr} {fd : FuncData} {ps : List Str} {sp : Sp} {dvs : List V} {ds : List Value} {E : XK} {x : Str} {p pos : Pos} {e : Expr} {es : List Expr} {t : TA}
    (M : Mk X.K C f) (F : FnOk X.prog X.w X.K X.mg X.base CX k f fd ps sp) (hr : Room (k + 1) X.A) (hN : X.N[i]? = some x) (hv : Vis X.env.scope x) (hb : Binds X.K fd ps ds) (hd : Vals dvs ds) (hx : Passes CX X E) (ha : PA X (e :: es) t)
    (hdb : (x == ("__debug__" : Str)) = false := by decide) (hcd : (x == ("__classdict__" : Str)) = false := by decide)
    (he : starEach (e :: es) X.env = (false, eval e X.env) :: starEach es X.env := by rfl) (hpl : (backTo pos (starEach es X.env)).any (·.1) = false := by rfl) : PE X (.Call (.Name x p) (e :: es) [] pos) (tMakeL i C sp dvs E t) := by
  refine ⟨fun pins s σ H Q I h => ?_⟩
  obtain ⟨hs, ht⟩ := h
  refine wpAny_Call_Name_kw (thn ((pe_var (pos := p) hN hv hdb hcd).run pins s σ H (fun v H1 => v = .ref C ∧ H1 = H) I ⟨.ref C, hs, rfl, rfl⟩) fun u s1 ⟨v, H1, I1, r1, q1⟩ => ?_)
  obtain ⟨rfl, rfl⟩ := q1
  cases r1
  refine PySem.W.callWith_K (h₀ := X.base) I.ok.mod.kin M.kp (thn (ha.run pos pins s1 σ _ _ I1 ht) fun us s2 ⟨vs, H2, I2, r, q⟩ => ⟨I2.kIn, ?_⟩) he hpl
  exact run_make M F hr hb hd hx I2 r q
theorem scLB : FnScope ["self"] ["self"] (defScope sLineFile_breaks) := ⟨rfl, rfl, rfl, by decide +kernel, rfl, by decide +kernel, by decide +kernel⟩
theorem scLO : FnScope ["cls", "lines", "ending", "line"] ["cls", "lines", "ending"] (defScope sLineFile_of_lines) := ⟨rfl, rfl, rfl, by decide +kernel, rfl, by decide +kernel, by decide +kernel⟩
def spLBreaks (C : Addr) : Sp := fun vs H Q _ => ∃ (p e : Addr) (x z : Str), vs = [.ref p] ∧ LfAt C H p e x z ∧ ∀ y : Str, y.cps.toList = doneT x.cps.toList z.cps.toList → Q (.int (Txt.count y "\n")) H
def spLOf (C : Addr) : Sp := fun vs H Q _ => ∃ (l : Addr) (xs : List Str) (z : Str), vs = [.ref C, .ref l, .str z] ∧ H l = some (.lst (xs.map V.str)) ∧ xs.length ≤ 100 ∧ (∀ x ∈ xs, x.length ≤ 100) ∧ z.length ≤ 3 ∧
  ∀ (p e : Addr) (y : Str) H', H p = none → H e = none → y = Txt.join "" (xs.map fun x => x ++ z) → LfAt C H' p e y "" → Same H H' → Q (.ref p) H'
section
variable {P : Program} {w : World} {K : PySem.W.Frag} {mg : Str → Option Value} {base : Heap}
theorem ok_lbreaks {f C : Addr} {fd : FuncData} {k : Nat} (F : Fun K "breaks" "LineFile.breaks" sLineFile_breaks f fd) (T : LTxt K mg C) : FnOk P w K mg base CX0 (k + 1) f fd ["self"] (spLBreaks C) := by
  refine F.ok scLB (fun vs H Q E h => ?_) (fun cdv A outer s H vs Q E hr h => ?_)
  · obtain ⟨p, e, x, z, rfl, _⟩ := h
    rfl
  · obtain ⟨p, e, x, z, rfl, ⟨dx, y, ts, h1, h2, h3⟩, q⟩ := h
    exact ⟨_, pss_one (ps_ret (pe_bm PySem.F.plainAttrs_str PySem.F.slot_str_count PySem.F.type_str_count mt_count (pe_fld (pv 0) rfl) (pa_cons pe_str pa_nil))), _, rfl, p, C, dx, _, _, rfl, h1, T.cl, T.nT, rfl, rfl, y, "\n", rfl, rfl, q y h3.y⟩
theorem ok_lof {f aI C : Addr} {fd dI : FuncData} {k : Nat} (F : Fun K "of_lines" "LineFile.of_lines" sLineFile_of_lines f fd) (T : LTxt K mg C)
    (MkL : Mk K C aI) (GLi : FnOk P w K mg base CX0 k aI dI ["self", "text"] (spLInit C)) (bLi : Binds K dI ["self", "text"] []) : FnOk P w K mg base CX0 (k + 2) f fd ["cls", "lines", "ending"] (spLOf C) := by
  refine F.ok scLO (fun vs H Q E h => ?_) (fun cdv A outer s H vs Q E hr h => ?_)
  · obtain ⟨l, xs, z, rfl, _⟩ := h
    rfl
  · obtain ⟨l, xs, z, rfl, hl, hn, hx, hz, q⟩ := h
    refine ⟨_, (pss_one (ps_ret (pe_makeL (i := 0) MkL GLi hr rfl (by first | exact Or.inl rfl | exact Or.inr (Or.inl rfl) | exact Or.inr (Or.inr rfl)) bLi .nil pass0 (pa_cons (pe_join pe_str
      (pe_lc (own := [("line", 3)]) (g := (gName 3)) (tt := tYes) rfl scLO.nd (pi_list (pv 1)) (blkOk_by (own := [("line", 3)]) (N := ["cls", "lines", "ending", "line"]) (sc := defScope sLineFile_of_lines) (by decide +kernel)) (fun _ _ _ _ _ => (pg_name (i := 3) scLO.nd rfl (.inl rfl))) (fun _ _ _ _ _ => pts_nil) (fun _ _ _ _ _ => (pe_op op_add_str (pv 3) (pv 2))))) pa_nil)))), ?_⟩
    refine ⟨rfl, ?_⟩
    refine ⟨⟨"", rfl⟩, _, rfl, l, rfl, ⟨_, .inl (.inl hl)⟩, fun D nD => ?_⟩
    refine lc_it (walk_list (xs := xs.map V.str)) (fun j H' => Same H H' ∧ H' D = some (.lst (((xs.take j).map fun x => x ++ z).map V.str))) ⟨same_upd nD, upd_same⟩ (fun _ _ _ hQ => .inl (.inl (hQ.1 _ _ hl))) ?_ ?_
    · rintro j u H3 H4 hj ⟨sm, hD⟩ ⟨rfl, hu⟩
      rw [List.length_map] at hj
      have hri : xs[j]? = some xs[j] := List.getElem?_eq_getElem hj
      rw [List.getElem?_map, hri] at hu
      cases Option.some.inj hu
      have hxl := hx _ (List.getElem_mem hj)
      generalize xs[j] = r at hri hxl
      refine ⟨rfl, _, rfl, _, rfl, _, _, rfl, rfl, by rw [sizeLine_eq]; omega, _, hD, ?_, (fun b o h => by rw [upd_ne (ne_of_none h nD)]; exact sm b o h), ?_⟩
      · rw [List.length_map, List.length_map, List.length_take, sizeLine_eq]
        omega
      · rw [upd_same, List.take_succ, hri, List.map_append, List.map_append]
        rfl
    · rintro H3 ⟨sm, hD⟩
      rw [List.length_map, List.take_length] at hD
      have hs : ((xs.map fun x => x ++ z).map (·.length)).sum ≤ 100 * 103 := by
        have g : ∀ l : List Str, (∀ x ∈ l, x.length ≤ 100) → ((l.map fun x => x ++ z).map (·.length)).sum ≤ l.length * 103 := fun l h => by
          induction l with
          | nil => exact Nat.zero_le _
          | cons a r ih =>
            have h1 := h a (List.mem_cons_self ..)
            have h2 := ih fun y hy => h y (List.mem_cons_of_mem _ hy)
            have h3 : (a ++ z).length = a.length + z.length := Array.size_append ..
            rw [List.map_cons, List.map_cons, List.sum_cons, List.length_cons, h3, Nat.add_mul]
            omega
        have := g xs hx
        omega
      refine ⟨"", D, _, rfl, rfl, .inl (.inl (.inl hD)), ?_, fun x dx fx fd hne => ?_⟩
      · show _ + _ * 0 ≤ _
        omega
      · have s2 : Same H3 (upd (upd H3 dx (.own x)) x (.ins C dx [])) := (same_upd fd).trans (same_upd (by rw [upd_ne (Ne.symm hne)]; exact fx))
        refine ⟨x, dx, _, rfl, upd_same, fun e H5 he hL k5 => ⟨rfl, ?_⟩⟩
        have s3 : Same H H5 := fun b o h => by
          have hb := s2 _ _ (sm _ _ h)
          refine k5 b o ?_ hb
          rintro rfl
          rw [sm _ _ h] at fx
          cases fx
        exact q x e _ H5 (sm.free fx) (sm.free (s2.free he)) rfl hL s3
end
end Lw
namespace Lw
open PySem PySem.Spec L2 Lx
/-- a class and two keywords in the other order -/
def gc21 (α : Type) : List α → List α → List α
  | [c], [a, b] => [c, b, a]
  | _, _ => []
theorem kbc21 {K : PySem.W.Frag} {x qual : Str} {st : Stmt} {f : Addr} {fd : FuncData} {p0 p1 p2 : Str} (F : Fun K x qual st f fd)
    (h : ∀ (kV doc pm : Value) (an : Option Addr) (cdv ct c a b : Value), bindArgs (PySem.W.fnOf x qual (defArgs st) (defBody st) (defScope st) .none kV doc pm an cdv ct) ⟨[c], [(p2, a), (p1, b)]⟩ = pure [(p0, c), (p1, b), (p2, a)]) : KBinds K fd [p0, p1, p2] [p2, p1] (gc21 Value) (gc21 V) := by
  obtain ⟨oc, od, kV, doc, pm, an, cdv, ct, osl, rfl, lk, hcd⟩ := F.ex
  refine ⟨fun s us ws _ hl => ?_, fun {vs us zs ws} r1 r2 => ?_⟩
  · match us, ws, hl with
    | [c], [a, b], _ => exact .of_eq (h kV doc pm an cdv ct c a b)
    | [_], [], hl => exact absurd hl (by simp [gc21])
    | [_], [_], hl => exact absurd hl (by simp [gc21])
    | [_], _ :: _ :: _ :: _, hl => exact absurd hl (by simp [gc21])
    | [], _, hl => exact absurd hl (by simp [gc21])
    | _ :: _ :: _, _, hl => exact absurd hl (by simp [gc21])
  · cases r1 with
    | nil => exact .nil
    | cons c t0 =>
      cases t0 with
      | cons _ _ => exact .nil
      | nil =>
        cases r2 with
        | nil => exact .nil
        | cons a t =>
          cases t with
          | nil => exact .nil
          | cons b t =>
            cases t with
            | nil => exact .cons c (.cons b (.cons a .nil))
            | cons _ _ => exact .nil
end Lw
namespace Lw
open PySem PySem.Spec L2 Lx
/-! lists of texts as data -/
theorem app_list (x y : Str) : (x ++ y).cps.toList = x.cps.toList ++ y.cps.toList := Array.toList_append ..
theorem sok_of {x : Str} (h : ∀ c ∈ x.cps.toList, c < 128) : PyData.strOk x = true := by
  unfold PyData.strOk
  rw [← Array.all_toList, List.all_eq_true]
  intro c hc
  exact decide_eq_true (Nat.lt_trans (h c hc) (by decide))
theorem dp_strs {K : PySem.W.Frag} {H : Hp} : ∀ xs : List Str, DpAll K H (xs.map V.str) (xs.map PyData.str)
  | [] => .nil
  | x :: r => .cons (.str x) (dp_strs r)
theorem lay_strs : ∀ {xs : List Str}, (∀ x ∈ xs, PyData.strOk x = true) → PyData.canLayAll0 (xs.map PyData.str) = true
  | [], _ => by simp only [List.map_nil, PyData.canLayAll0]
  | x :: r, h => by
    simp only [List.map_cons, PyData.canLayAll0, PyData.canLay0, h x (List.mem_cons_self ..), lay_strs fun y hy => h y (List.mem_cons_of_mem _ hy), Bool.and_self]
theorem dep_strs : ∀ xs : List Str, PyData.depthAll (xs.map PyData.str) = 0
  | [] => by simp only [List.map_nil, PyData.depthAll]
  | x :: r => by simp only [List.map_cons, PyData.depthAll, PyData.depth, dep_strs r, Nat.max_self]
theorem sh_strs {xs : List Str} (h : ∀ x ∈ xs, PyData.strOk x = true) : SeqAt.shaped (.list (xs.map PyData.str)) = true := by
  unfold SeqAt.shaped
  simp only [PyData.canLay0, lay_strs h, PyData.depth, dep_strs, Bool.true_and]
  decide
theorem eqv_strs {xs : List Str} (h : ∀ x ∈ xs, PyData.strOk x = true) : PyData.eqv (.list (xs.map PyData.str)) (.list (xs.map PyData.str)) = true := SeqAt.eqv_refl _ (SeqAt.canLay_of_shaped (sh_strs h))
theorem small_strs : ∀ {xs : List Str}, (∀ x ∈ xs, ∀ c ∈ x.cps.toList, c < 128) → small.smallAll (xs.map PyData.str) = true
  | [], _ => by simp only [List.map_nil, small.smallAll]
  | x :: r, h => by
    simp only [List.map_cons, small.smallAll, small, small_strs fun y hy => h y (List.mem_cons_of_mem _ hy), Bool.and_true, List.all_eq_true, decide_eq_true_eq]
    exact h x (List.mem_cons_self ..)
theorem bulk_strs : ∀ {xs : List Str}, (∀ x ∈ xs, x.length ≤ 41) → PyData.bulkAll (xs.map PyData.str) ≤ 42 * xs.length
  | [], _ => by simp only [List.map_nil, PyData.bulkAll]; exact Nat.zero_le _
  | x :: r, h => by
    have h1 : x.cps.size ≤ 41 := h x (List.mem_cons_self ..)
    have h2 := bulk_strs fun y hy => h y (List.mem_cons_of_mem _ hy)
    simp only [List.map_cons, PyData.bulkAll, PyData.bulk, List.length_cons]
    omega
theorem fit_strs {xs : List Str} (h : ∀ x ∈ xs, Cln x) (hl : xs.length ≤ 41) : Fit (.list (xs.map PyData.str)) := by
  refine fit_small ?_ ?_ ?_
  · simp only [small]
    exact small_strs fun x hx => (h x hx).2.2.2
  · simp only [PyData.depth, dep_strs]
    decide
  · have := bulk_strs fun x hx => (h x hx).2.2.1
    simp only [PyData.bulk]
    omega
theorem ej_mem {e : List Nat} {xs : List Str} {c : Nat} (h : c ∈ ej e xs) : (∃ x ∈ xs, c ∈ x.cps.toList) ∨ c ∈ e := by
  unfold ej at h
  obtain ⟨x, hx, hc⟩ := List.mem_flatMap.mp h
  rcases List.mem_append.mp hc with h | h
  · exact .inl ⟨x, hx, h⟩
  · exact .inr h
theorem ej_low {e : List Nat} {xs : List Str} (h : ∀ x ∈ xs, Cln x) (he : ∀ c ∈ e, c < 128) : ∀ c ∈ ej e xs, c < 128 := fun c hc => by
  rcases ej_mem hc with ⟨x, hx, hc⟩ | hc
  · exact (h x hx).2.2.2 c hc
  · exact he c hc
theorem app_nil (y : Str) : y ++ ("" : Str) = y := TL.ext_tl (by rw [TL.tl_append]; exact List.append_nil _)
theorem pieces_lf {x : Str} {xs : List Str} (hx : x.cps.toList = ej [10] xs) (h : ∀ y ∈ xs, Cln y) : Txt.split x "\n" = xs ++ [("" : Str)] := by
  refine (ej_pieces "" (xs := xs) hx (fun y hy => (h y hy).1) (by decide)).trans ?_
  congr 1
  exact (List.map_congr_left fun y _ => app_nil y).trans (List.map_id' xs)
theorem pieces_crlf {x : Str} {xs : List Str} (hx : x.cps.toList = ej [94, 10] xs) (h : ∀ y ∈ xs, Cln y) : Txt.split x "\n" = xs.map (fun y => y ++ ("^" : Str)) ++ [("" : Str)] :=
  ej_pieces "^" (xs := xs) hx (fun y hy => (h y hy).1) (by decide)
theorem breaks_ej {x : Str} {e : List Nat} {xs : List Str} (hx : x.cps.toList = ej e xs) (h : ∀ y ∈ xs, Cln y) : Txt.count x "\n" = (xs.length : Int) * PyProof.Rows.cnt 10 e := by
  rw [ct_cnt, hx]
  exact cnt_ej e fun y hy => (h y hy).1
theorem spl_low : ∀ (l acc : List Nat), (∀ c ∈ acc ++ l, c < 128) → ∀ p ∈ TL.spl [10] 0 acc l, ∀ c ∈ p, c < 128
  | [], acc, h, p, hp, c, hc => by
    rw [TL.spl_nil] at hp
    rw [List.mem_singleton.mp hp] at hc
    exact h c (List.mem_append_left _ hc)
  | d :: r, acc, h, p, hp, c, hc => by
    by_cases hd : d = 10
    · subst hd
      rw [TL.spl_hit (by simp [TL.pre]), TL.spl_pass] at hp
      rcases List.mem_cons.mp hp with rfl | hp
      · exact h c (List.mem_append_left _ hc)
      · exact spl_low r [] (fun c hc => h c (List.mem_append_right _ (List.mem_cons_of_mem _ hc))) p hp c hc
    · rw [TL.spl_miss (by simp [TL.pre, hd])] at hp
      refine spl_low r (acc ++ [d]) (fun c hc => h c ?_) p hp c hc
      rw [List.append_assoc] at hc
      exact hc
theorem split_low {x : Str} (h : Low x) : ∀ y ∈ Txt.split x "\n", Low y := fun y hy c hc => by
  have hm : TL.tl y ∈ TL.spl [10] 0 [] x.cps.toList := by
    rw [← nl_spl]
    exact List.mem_map_of_mem hy
  exact spl_low _ [] h _ hm c hc
theorem cutV_lastR (ys : List V) (z : V) : cutV (ys ++ [z]) none (some (-1)) = ys := by
  unfold cutV HT.sIx
  rw [List.length_append, List.length_singleton]
  simp only [List.drop_zero, Nat.sub_zero]
  rw [if_pos (by decide)]
  have : ((-1 : Int) + ((ys.length + 1 : Nat) : Int)).toNat = ys.length := by omega
  rw [this, List.take_left]
end Lw
/-! defs that are entered with a token out: their first statement may replace in a text -/
namespace Lx
open PySem PySem.Spec L2
open PyProof.Rows (AllBare IntsAre)
theorem PSsT.nox {X : Cx} {st : List Stmt} {t : TS} (h : PSsT X.nox st t) : PSsT X st t := fun pins s σ H D h0 I hw =>
  wpAny_mono (h pins s σ H D h0 (I.wish _) hw) (fun _ _ q => q.unwish) fun _ _ z => False.elim z
structure FnT (P : Program) (w : World) (K : PySem.W.Frag) (mg : Str → Option Value) (base : Heap) (CX : CXT) (k : Nat) (f : Addr) (fd : FuncData) (ps : List Str) (sp : Sp) : Prop where
  len : ∀ vs H Q E, sp vs H Q E → vs.length = ps.length
  run : ∀ (A : Around) (outer : List Env) (s : Shared) (H : Hp) (args : Args) (us : List Value) (vs : List V) (Q : VK) (E : XK), 1 ≤ s.toks → Room k A → Env0 P w K mg base A outer s H → BindsTo s fd args (ps.zip us) → Vals vs us → sp vs H Q E →
    codeAny (model P w) A (.call (.ref f) args) (CR CX outer P w H s Q E) s
section
variable {P : Program} {w : World} {K : PySem.W.Frag} {mg : Str → Option Value} {base : Heap} {CX : CXT}
theorem FnT.of {k : Nat} {f : Addr} {fd : FuncData} {ps : List Str} {sp : Sp} (F : FnOk P w K mg base CX k f fd ps sp) : FnT P w K mg base CX k f fd ps sp :=
  ⟨F.len, fun A outer s H args us vs Q E _ hr he hb hv hs => F.run A outer s H args us vs Q E hr he hb hv hs⟩
theorem FnT.mono {j k : Nat} {f : Addr} {fd : FuncData} {ps : List Str} {sp : Sp} (F : FnT P w K mg base CX j f fd ps sp) (h : j ≤ k) : FnT P w K mg base CX k f fd ps sp :=
  ⟨F.len, fun A outer s H args us vs Q E h0 hr => F.run A outer s H args us vs Q E h0 (hr.mono h)⟩
/-- a def's promise by its body -/
theorem okT {x qual : Str} {st : Stmt} {f : Addr} {fd : FuncData} {N ps : List Str} {k : Nat} {sp : Sp} (F : Fun K x qual st f fd) (S : FnScope N ps (defScope st)) (len : ∀ vs H Q E, sp vs H Q E → vs.length = ps.length)
    (hb : ∀ (cdv : Value) (A : Around) (outer : List Env) (s : Shared) (H : Hp) (vs : List V) (Q : VK) (E : XK), Room k (A.deeper (PyProof.Rows.envOfC qual (defScope st) s.heap.objs.size f cdv)) → sp vs H Q E →
      ∃ t, PSsT (cxOf CX P w K mg base N qual (defScope st) f cdv A outer s H E).nox (defBody st) t ∧ t { nx := fun _ H' => Q .non H', rt := Q } (start N vs) H) : FnT P w K mg base CX (k + 1) f fd ps sp := by
  obtain ⟨oc, od, kV, doc, pm, an, cdv, ct, osl, rfl, lk, hcd⟩ := F.ex
  refine ⟨len, fun A outer s H args us vs Q E h0 hr e0 hbd r hsp => ?_⟩
  have X : K.In s.heap := e0.mod.kin.keeps fun b o e => (e0.bs b o e).1
  have lim : s.heap.NoLimit := e0.mod.nolimit.keeps fun b o e => (e0.bs b o e).1
  refine codeAny_call_function hr.depth (X _ _ lk) rfl S.co S.gen rfl (PySem.W.codeRec_of X hcd) (hbd _ _ _ _ ?_)
  refine PySem.wpAny_with_toks h0 (wpAny_newFunctionEnv_cells S.kind (fun y hy => ?_) fun env he s1 x1 => fun ht1 => ?_)
  · obtain ⟨n, v⟩ := y
    rcases S.par n (List.of_mem_zip hy).1 with q | q
    · exact .inl q
    · exact .inr ⟨q, PySem.W.cellsFrom_some _ _ _ (.inl q)⟩
  · subst he
    refine ⟨lim.keeps x1.toInCall.keep, codeAny_func ?_⟩
    obtain ⟨t, ht, hq⟩ := hb cdv A outer s H vs Q E (hr.deeper _) hsp
    have I := inv_start (CX := CX) (E := E) S hr.hd e0 (len _ _ _ _ hsp) r x1
    refine wpAny_mono ((PSsT.nox ht) [] s1 (start N vs) H _ ht1 I hq) (fun fl s2 z => ?_) fun _ _ z => z
    rcases fl with _ | _ | _ | u
    all_goals first
      | (obtain ⟨_, _, _, q⟩ := z; exact q.elim)
      | (obtain ⟨σ2, H2, J, q⟩ := z; exact ⟨V.non, H2, J.os, J.bare, J.base, J.hok, rfl, q⟩)
      | (obtain ⟨v2, σ2, H2, J, rv, q⟩ := z; exact ⟨v2, H2, J.os, J.bare, J.base, J.hok, rv, q⟩)
end
section
variable {X : Cx} {CX : CXT} {k : Nat} {f : Addr} {fd : FuncData} {ps : List Str} {sp : Sp} {dvs : List V} {ds : List Value} {E : XK} {x : Str} {p pos : Pos} {e : Expr} {es : List Expr} {t : TA}
theorem run_fnT {pins : List (Addr × Obj)} {σ : St} {H : Hp} {s : Shared} {Q : VK} {us : List Value} {vs : List V} (F : FnT X.prog X.w X.K X.mg X.base CX k f fd ps sp) (h0 : 1 ≤ s.toks) (hr : Room k X.A) (hb : Binds X.K fd ps ds) (hd : Vals dvs ds) (hx : Passes CX X E)
    (I : Inv X pins σ H s) (r : Vals vs us) (h : sp (vs ++ dvs) H Q E) : wpAny (model X.prog X.w) X.A (call (.ref f) us) (EP X pins σ Q) X.xe s := by
  have r2 : Vals (vs ++ dvs) (us ++ ds) := r.append hd
  have hl : (us ++ ds).length = ps.length := by rw [← r2.length]; exact F.len _ _ _ _ h
  refine wpAny_call (codeAny_mono (F.run X.A X.stack s H ⟨us, []⟩ (us ++ ds) (vs ++ dvs) Q E h0 hr I.env0 (hb s us I.kIn hl) r2 h) fun r s' hq => ?_)
  cases r with
  | error e => exact hx pins σ H s e s' I hq
  | ok fl =>
    cases fl with
    | ret u => exact I.after hq
    | next => exact False.elim hq
    | brk => exact False.elim hq
    | cont => exact False.elim hq
theorem PAT.of {ta : TA} (h : PA X es ta) : PAT X es ta := fun pos pins s σ H Q _ I q => h.run pos pins s σ H Q I q
/-- f(e, ..), a token out -/
theorem pet_call (F : FnT X.prog X.w X.K X.mg X.base CX k f fd ps sp) (hr : Room k X.A) (hg : Gl X x) (hm : X.mg x = some (.ref f)) (hk : PySem.W.keepIn X.K (.ref f) = true) (hb : Binds X.K fd ps ds) (hd : Vals dvs ds) (hx : Passes CX X E)
    (ha : PAT X (e :: es) t) (hdb : (x == ("__debug__" : Str)) = false := by decide) (he : starEach (e :: es) X.env = (false, eval e X.env) :: starEach es X.env := by rfl) (hpl : (backTo pos (starEach es X.env)).any (·.1) = false := by rfl) :
    PET X (.Call (.Name x p) (e :: es) [] pos) (tCall sp dvs E t) := by
  intro pins s σ H Q h0 I h
  refine wpAny_Call_Name_kw (ld_glob I hg hm ?_ hdb)
  refine PySem.W.callWith_K (h₀ := X.base) I.ok.mod.kin hk (wpAny_mono (PySem.wpAny_toks_of h0 (ha pos pins s σ H _ h0 I h)) (fun us s1 q => ?_) fun _ _ z => z.2) he hpl
  obtain ⟨h1, vs, H1, I1, r, q⟩ := q
  exact ⟨I1.kIn, run_fnT F h1 hr hb hd hx I1 r q⟩
end
/-! ### loops in that mode -/
section
variable {X : Cx}
/-- what is walked over puts a token out -/
def PI1 (X : Cx) (tg iter : Expr) (wi : TI) : Prop :=
  ∀ (pins : List (Addr × Obj)) (s : Shared) (σ : St) (H : Hp) (R : It → Hp → Prop), Inv X pins σ H s → wi σ H R →
    wpAny (model X.prog X.w) X.A (eval iter X.env) (fun v s1 => 1 ≤ s1.toks ∧ wpAny (model X.prog X.w) X.A (pyIter v) (PIE X pins σ tg R) X.xe s1) X.xe s
theorem pit_of {tg iter : Expr} {wi : TI} (h : PI X tg iter wi) : PIT X tg iter wi := fun pins s σ H R _ I q => h.run pins s σ H R I q
theorem for_core {tg iter : Expr} {body : List Stmt} {g : TG} {tb : TS} {pos : Pos} {pins : List (Addr × Obj)} {s : Shared} {σ : St} {D : Ends} (hp : PassesOwn (model X.prog X.w) X.A X.env X.xe) (hc : X.calm = true) (hg : PG X tg g) (hb : PSsT X body tb)
    (hi : wpAny (model X.prog X.w) X.A (eval iter X.env) (fun v s1 => 1 ≤ s1.toks ∧ wpAny (model X.prog X.w) X.A (pyIter v) (PIE X pins σ tg fun J H1 => ∃ W : Nat → Nat → St → Hp → Prop, (∃ m, W 0 m σ H1) ∧ ∀ i m σ H, W i m σ H →
      (J.stop i H ∧ D.nx σ H) ∨ (J.go i H ∧ ∃ N : St → Hp → Prop, (∀ σ' H', N σ' H' → ∃ m', m' < m ∧ W (i + 1) m' σ' H') ∧ ∀ x H', J.yld i H x H' → g x σ H' fun σ2 H2 => tb { nx := N, rt := D.rt, bk := D.nx, ct := N } σ2 H2)) X.xe s1) X.xe s)
    (hs : ∀ x, foldedSetIterable iter X.env x = pure x := by intro _; rfl) : wpAny (model X.prog X.w) X.A (exec (.For tg iter body [] pos) X.env) (SP X pins D) X.xe s := by
  refine wpAny_For (thn hi fun v s1 h1 => ?_) hs
  obtain ⟨t1, h1⟩ := h1
  refine wpAny_mono (PySem.wpAny_toks_of t1 h1) (fun itv s2 h2 => ?_) fun _ _ z => z.2
  obtain ⟨t2, it, fp, tn, J, H2, e, I2, T, st2, f2, W, ⟨m0, w0⟩, turn⟩ := h2
  subst e
  have stat : ∀ {H' : Hp}, (∀ b ∈ fp, H' b = none) → ∀ b ∈ fp, FpOk X pins H' b := fun hn b hb => ⟨hn b hb, (f2 b hb).2⟩
  refine codeAny_forLoop_any (fun n s' => 1 ≤ s'.toks ∧ ∃ i σ' H', Inv X pins σ' H' s' ∧ tn i s'.heap ∧ (∀ b ∈ fp, H' b = none) ∧ W i n σ' H') ?_ m0 ⟨t2, 0, σ, H2, I2, st2, fun b hb => (f2 b hb).1, w0⟩
  rintro n s3 ⟨t3, i, σ3, H3, I3, st3, fr3, w3⟩
  rcases turn i n σ3 H3 w3 with ⟨stop, qn⟩ | ⟨go, N, hN, step⟩
  · refine wpAny_passesOwn hp (thn (T.done X rfl rfl rfl hc i pins s3 σ3 H3 X.xe I3 (stat fr3) st3 stop) fun r s4 ⟨hr, I4⟩ => ?_)
    subst hr
    exact wpAny_execs_nil ⟨σ3, H3, I4, qn⟩
  · refine wpAny_passesOwn hp (wpAny_mono (PySem.wpAny_toks_of t3 (T.item X rfl rfl rfl hc i pins s3 σ3 H3 X.xe I3 (stat fr3) st3 go)) (fun r s4 q4 => ?_) fun _ _ z => z.2)
    obtain ⟨t4, u, hr, h4⟩ := q4
    subst hr
    refine wpAny_passesOwn hp (wpAny_mono (PySem.wpAny_toks_of t4 h4) (fun _ s5 q5 => ?_) fun _ _ z => z.2)
    obtain ⟨t5, x, H5, I5, r5, y5, st5, fr5⟩ := q5
    have I5' := I5.pinned (stat fr5) (T.obj _ _ st5)
    refine wpAny_passesOwn hp (wpAny_mono (PySem.wpAny_toks_of t5 (hg.run _ s5 σ3 H5 x u _ I5' r5 (step x H5 y5))) (fun _ s6 q6 => ?_) fun _ _ z => z.2)
    obtain ⟨t6, σ6, H6, I6, q6⟩ := q6
    refine wpAny_passesOwn hp (wpAny_mono (PySem.wpAny_toks_of t6 (hb _ s6 σ6 H6 _ t6 I6 q6)) (fun f s7 q7 => ?_) fun _ _ z => z.2)
    obtain ⟨t7, q7⟩ := q7
    have again : ∀ {σ7 : St} {H7 : Hp}, Inv X (pins ++ pinsAt fp s5.heap) σ7 H7 s7 → N σ7 H7 → ∃ m, m < n ∧ 1 ≤ s7.toks ∧ ∃ i σ' H', Inv X pins σ' H' s7 ∧ tn i s7.heap ∧ (∀ b ∈ fp, H' b = none) ∧ W i m σ' H' := fun {σ7 H7} I7 n7 => by
      obtain ⟨m', hm, w7⟩ := hN σ7 H7 n7
      refine ⟨m', hm, t7, i + 1, σ7, H7, I7.unpinned, T.keep _ _ _ st5 fun b hb o e => (I7.pin (b, o) (List.mem_append_right _ (List.mem_append_right _ (mem_pinsAt hb e)))).1, fun b hb => ?_, w7⟩
      obtain ⟨o, e, d⟩ := T.obj _ _ st5 b hb
      exact (I7.pin (b, o) (List.mem_append_right _ (List.mem_append_right _ (mem_pinsAt hb e)))).2.1
    cases f with
    | next => obtain ⟨σ7, H7, I7, n7⟩ := q7; exact again I7 n7
    | cont => obtain ⟨σ7, H7, I7, n7⟩ := q7; exact again I7 n7
    | brk => obtain ⟨σ7, H7, I7, q7⟩ := q7; exact ⟨σ7, H7, I7.unpinned, q7⟩
    | ret v => obtain ⟨x7, σ7, H7, I7, r7, q7⟩ := q7; exact ⟨x7, σ7, H7, I7.unpinned, r7, q7⟩
/-- for, its body in that mode, a token out before it -/
theorem pst_forT {tg iter : Expr} {body : List Stmt} {wi : TI} {g : TG} {tb : TS} {pos : Pos} (hp : PassesOwn (model X.prog X.w) X.A X.env X.xe) (hc : X.calm = true) (hi : PIT X tg iter wi) (hg : PG X tg g) (hb : PSsT X body tb)
    (hs : ∀ x, foldedSetIterable iter X.env x = pure x := by intro _; rfl) : PST X (.For tg iter body [] pos) (tFor wi g tb) := by
  intro pins s σ H D h0 I h
  exact for_core hp hc hg hb (PySem.wpAny_toks_of h0 (hi pins s σ H _ h0 I h) |> fun z => wpAny_mono z (fun _ _ q => q) fun _ _ q => q.2) hs
/-- for, its body in that mode, where what is walked over puts a token out -/
theorem ps_for1 {tg iter : Expr} {body : List Stmt} {wi : TI} {g : TG} {tb : TS} {pos : Pos} (hp : PassesOwn (model X.prog X.w) X.A X.env X.xe) (hc : X.calm = true) (hi : PI1 X tg iter wi) (hg : PG X tg g) (hb : PSsT X body tb)
    (hs : ∀ x, foldedSetIterable iter X.env x = pure x := by intro _; rfl) : PS X (.For tg iter body [] pos) (tFor wi g tb) :=
  ⟨fun pins s σ H D I h => for_core hp hc hg hb (hi pins s σ H _ I h) hs⟩
/-- arguments of which the first puts a token out -/
def PA1 (X : Cx) (es : List Expr) (t : TA) : Prop :=
  ∀ (pos : Pos) (pins : List (Addr × Obj)) (s : Shared) (σ : St) (H : Hp) (Q : List V → Hp → Prop), Inv X pins σ H s → t σ H Q → wpAny (model X.prog X.w) X.A (spliced (backTo pos (starEach es X.env))) (fun us s1 => 1 ≤ s1.toks ∧ AP X pins σ Q us s1) X.xe s
/-- an expression that puts a token out -/
def PE1 (X : Cx) (e : Expr) (t : TE) : Prop :=
  ∀ (pins : List (Addr × Obj)) (s : Shared) (σ : St) (H : Hp) (Q : VK), Inv X pins σ H s → t σ H Q → wpAny (model X.prog X.w) X.A (eval e X.env) (fun v s1 => 1 ≤ s1.toks ∧ EP X pins σ Q v s1) X.xe s
theorem pe1_int {i : Int} {j : Nat} {pos : Pos} : PE1 X (.Constant (.int i) j pos) (tC (.int i)) := fun _ s _ H _ I h => wpAny_Constant_int ⟨by show 1 ≤ s.toks + 1; omega, .int i, H, I.tok _, ⟨_, rfl⟩, h⟩
theorem pe1_str {x : Str} {j : Nat} {pos : Pos} : PE1 X (.Constant (.str x) j pos) (tC (.str x)) := fun _ s _ H _ I h => Calls.Constant_str ⟨by show 1 ≤ s.toks + 1; omega, .str x, H, I.tok _, ⟨_, rfl⟩, h⟩
theorem pe1_op {e f : Expr} {te tf : TE} {op : Operator} {r : R2} {pos : Pos} (ho : OpR X (binaryOp op) r) (ha : PE1 X e te) (hb : PE X f tf) : PE1 X (.BinOp e op f pos) (tOp r te tf) := by
  intro pins s σ H Q I h
  refine wpAny_BinOp (thn (ha pins s σ H _ I h) fun v s1 q => ?_)
  obtain ⟨t1, x, H1, I1, r1, q1⟩ := q
  refine wpAny_mono (PySem.wpAny_toks_of t1 (hb.run pins s1 σ H1 _ I1 q1)) (fun u s2 q => ?_) fun _ _ z => z.2
  obtain ⟨t2, y, H2, I2, r2, q2⟩ := q
  exact wpAny_mono (PySem.wpAny_toks_of t2 (ho pins s2 σ H2 x y v u Q I2 r1 r2 q2)) (fun _ _ z => z) fun _ _ z => z.2
theorem pi1_range1 {tg a : Expr} {te : TE} {p pos : Pos} (hg : Gl X "range") (hm : X.mg "range" = none) (ha : PE1 X a te) (hs : starEach [a] X.env = [(false, eval a X.env)] := by rfl) : PI1 X tg (.Call (.Name "range" p) [a] [] pos) (iRng1 (tCons te tNil)) := by
  intro pins s σ H R I h
  refine PyProof.Rows.Call_ (ld_blt I hg hm PyProof.Rows.boot_range (PyProof.Rows.callWith_type1 ?_ hs rfl))
  rw [hs]
  show wpAny _ _ (spliced ((false, eval a X.env) :: backTo pos (starEach [] X.env))) _ _ s
  refine Calls.spliced_cons (thn (ha pins s σ H _ I h) fun u s1 q => Calls.spliced_nil ?_)
  obtain ⟨t1, x, H1, I1, r1, j, e, q1, q2, q⟩ := q
  cases e
  obtain ⟨t, rfl⟩ := r1
  exact wpAny_mono (PySem.wpAny_toks_of t1 (call_range_1 (range_it I1 (by omega) (by omega) q1 q2 (by simpa using q)))) (fun _ _ z => z) fun _ _ z => z.2
end
section
open PyProof.Rows
variable {X : Cx}
/-- x.split(sep), a token out -/
theorem pet_split {o e : Expr} {to te : TE} {apos pos : Pos} (ho : PET X o to) (he : PE X e te) (hs : starEach [e] X.env = [(false, eval e X.env)] := by rfl) (hbase : attributeBase o "split" X.env (eval o X.env) = eval o X.env := by rfl) (hline : (apos.endLine == pos.line) = true := by rfl) :
    PET X (.Call (.Attribute o "split" apos) [e] [] pos) (tM1 (fun x xs H Q => ∃ a b, x = .str a ∧ xs = [.str b] ∧ (b.length == 0) = false ∧ a.length + 2 ≤ sizeLine ∧ rNewStrs (Txt.split a b) H Q) to te) := by
  intro pins s σ H Q h0 I h
  refine PySem.Call_method1 hbase hs hline (thn (ho pins s σ H _ h0 I h) fun v s1 ⟨x, H1, I1, r1, q1⟩ => ?_)
  obtain ⟨⟨a, rfl⟩, q1⟩ := q1
  obtain ⟨t, rfl⟩ := _root_.id r1
  refine ⟨"str", _, F.plainAttrs_str, F.slot_str_split, F.type_str_split, typeIs_str _ _ _, (fun _ e => nomatch e), Calls.callWith_builtin rfl (Calls.evalArgs_plain (Calls.spliced_cons ?_))⟩
  exact thn (he.run pins s1 σ H1 _ I1 q1) fun u s2 ⟨y, H2, I2, r2, q2⟩ => Calls.spliced_nil (mt_split pins s2 σ H2 _ [y] _ [u] Q I2 r1 (.cons r2 .nil) q2)
/-- a, b = x, y with plain local names, a token out -/
theorem pst_par {i j : Nat} {x y : Str} {a b : Expr} {ta : TA} {px py pt : Pos} {pos : Pos} {kt k2 pt2} (hc : X.calm = true) (hN : X.N.Nodup) (hi : X.N[i]? = some x) (hj : X.N[j]? = some y) (hij : i ≠ j)
    (hx : X.env.scope.names.lookup x = some .local) (hy : X.env.scope.names.lookup y = some .local) (ha : PAT X [a, b] ta)
    (hw : swappedStores [.Tuple [.Name x px, .Name y py] kt pt] (.Tuple [a, b] k2 pt2) X.env = pure (some [x, y]))
    (hs : swapsWithSole [.Tuple [.Name x px, .Name y py] kt pt] (.Tuple [a, b] k2 pt2) pos.line X.env = pure false := by rfl) :
    PST X (.Assign [.Tuple [.Name x px, .Name y py] kt pt] (.Tuple [a, b] k2 pt2) pos) (tPar i j ta) := by
  intro pins s σ H D h0 I h
  rw [exec_Assign_arm]
  refine wpAny_bind (wpAny_standAt ?_)
  rw [hs]
  refine wpAny_bind (wpAny_pure ?_)
  rw [if_neg (by decide)]
  refine wpAny_bind (Tuple_ (thn (ha _ pins s σ H _ h0 I h) fun us s1 ⟨vs, H1, I1, r1, q1⟩ => ?_))
  obtain ⟨v, w, e1, q1⟩ := q1
  subst e1
  obtain ⟨u1, u2, rfl, rv, rw'⟩ : ∃ u1 u2, us = [u1, u2] ∧ RelV v u1 ∧ RelV w u2 := by
    cases r1 with
    | cons p q =>
      cases q with
      | cons p' q' =>
        cases q'
        exact ⟨_, _, rfl, p, p'⟩
  refine wpAny_newObj_type ?_ (by show 2 ≤ sizeLine; decide)
  have I2 : Inv X pins σ H1 { s1 with heap := s1.heap.push { cls := .type "tuple", data := .seq [u1, u2].toArray } } := I1.kept (t' := s1.toks) fun b o e => Heap.get?_push_of_some _ e
  rw [hw]
  refine wpAny_bind (wpAny_pure ?_)
  show wpAny (model X.prog X.w) X.A (do rule "assign.swapped-stores"; let items ← unpackItems (.ref s1.heap.objs.size) 2 none; assignInOrder [fun v => bindName X.env y v, fun v => bindName X.env x v] items.reverse; pure Flow.next) _ _ _
  refine wpAny_bind (wpAny_rule (wpAny_bind (unpackItems_tuple (items := #[u1, u2]) (I.ok.hd hc) (IsTup.new s1.heap _) fun h' hx' => ?_)))
  have I3 := I2.kept (h' := h') (t' := s1.toks) fun b o e => hx' b o (Nat.ne_of_lt (Heap.lt_size e)) e
  show wpAny _ _ (assignInOrder [fun v => bindName X.env y v, fun v => bindName X.env x v] [u2, u1] >>= fun _ => pure Flow.next) _ _ _
  refine wpAny_bind (assignInOrder_cons (wpAny_bindName (store_ok I3 hN hj (.inl hy) rw' (fun s2 I4 => ?_) (.inr hy))))
  refine assignInOrder_cons (wpAny_bindName (store_ok I4 hN hi (.inl hx) rv (fun s3 I5 => assignInOrder_nil (wpAny_pure ?_)) (.inr hx)))
  rw [List.set_comm _ _ (Ne.symm hij)] at I5
  exact ⟨_, H1, I5, q1⟩
end
/-! ### tests in that mode -/
section
open PyProof.Rows (isTrue_plain isTrue_not)
variable {X : Cx} {e c : Expr} {te : TE} {tc : TT} {A B : List Stmt} {t u : TS} {pos : Pos}
def PTT (X : Cx) (e : Expr) (t : TT) : Prop :=
  ∀ (pins : List (Addr × Obj)) (s : Shared) (σ : St) (H : Hp) (Q : Bool → Hp → Prop), 1 ≤ s.toks → Inv X pins σ H s → t σ H Q → wpAny (model X.prog X.w) X.A (isTrue e X.env (eval e X.env)) (TP X pins σ Q) X.xe s
theorem PTT.of (h : PT X c tc) : PTT X c tc := fun pins s σ H Q _ I q => h.run pins s σ H Q I q
theorem ptt_val (h : PET X e te) (he : ∀ whole, isTrue e X.env whole = (do let v ← whole; standAt e.pos; holding [v] (truthy v)) := by intro _; rfl) : PTT X e (tB te) := by
  intro pins s σ H Q h0 I hw
  refine isTrue_plain (thn (h pins s σ H _ h0 I hw) fun v s1 ⟨x, H1, I1, r1, q1⟩ => ?_) (he _)
  obtain ⟨d, rfl, q⟩ := q1
  cases r1
  exact wpAny_truthy_bool ⟨H1, I1, q⟩
theorem ptt_not (ha : PTT X c tc) : PTT X (.UnaryOp .Not c pos) (tNot tc) := by
  intro pins s σ H Q h0 I h
  exact isTrue_not (ha pins s σ H (fun c H1 => Q (!c) H1) h0 I h)
theorem pst_ifT (hc : PTT X c tc) (ha : PSsT X A t) (hb : PSsT X B u) : PST X (.If c A B pos) (tIfS tc t u) := by
  intro pins s σ H D h0 I h
  refine wpAny_If (wpAny_mono (PySem.wpAny_toks_of h0 (hc pins s σ H _ h0 I h)) (fun d s1 q => ?_) fun _ _ z => z.2)
  obtain ⟨hk, H1, I1, q1⟩ := q
  cases d with
  | true => exact ha pins s1 σ H1 D hk I1 q1
  | false => exact hb pins s1 σ H1 D hk I1 q1
end
/-! ### comparisons and `and` in that mode; statements that put a token out -/
section
variable {X : Cx} {a b e f : Expr} {ta tb te : TE} {rest : List Expr} {st : Stmt} {sts : List Stmt} {t u : TS} {pos : Pos}
theorem pet_cmpR {op : CmpOp} {r : R2} (ho : OpR X (compareOp op) r) (ha : PET X a ta) (hb : PET X b tb) (hm : behindInMarks op b = false) : PET X (.Compare a [op] [b] pos) (tOp r ta tb) := by
  intro pins s σ H Q h0 I h
  refine wpAny_Compare1 (wpAny_mono (PySem.wpAny_toks_of h0 (ha pins s σ H _ h0 I h)) (fun v s1 q => ?_) fun _ _ z => z.2) hm
  obtain ⟨h1, x, H1, I1, r1, q1⟩ := q
  exact thn (hb pins s1 σ H1 _ h1 I1 q1) fun u s2 ⟨y, H2, I2, r2, q2⟩ => ho pins s2 σ H2 x y v u Q I2 r1 r2 q2
theorem pet_one {op : BoolOp} (h : PET X a ta) : PET X (.BoolOp op [a] pos) ta := fun pins s σ H Q h0 I hw => PyProof.Rows.BoolOp_one (h pins s σ H Q h0 I hw)
theorem pet_and (ha : PET X a ta) (hb : PET X (.BoolOp .And (b :: rest) pos) tb) : PET X (.BoolOp .And (a :: b :: rest) pos) (tAndV ta tb) := by
  intro pins s σ H Q h0 I h
  refine PyProof.Rows.BoolOp_and (wpAny_mono (PySem.wpAny_toks_of h0 (ha pins s σ H _ h0 I h)) (fun v s1 q => ?_) fun _ _ z => z.2)
  obtain ⟨h1, x, H1, I1, r1, c, rfl, q1⟩ := q
  cases r1
  refine wpAny_truthy_bool ?_
  cases c with
  | true => exact hb pins s1 σ H1 Q h1 I1 q1
  | false => exact ⟨.bl false, H1, I1, rfl, q1⟩
/-- a test against a written number puts a token out -/
theorem ptc_cmpI {op : CmpOp} {r : R2} {x : Int} {j : Nat} {p : Pos} (ho : OpR X (compareOp op) r) (ha : PE X a ta) (hm : behindInMarks op (.Constant (.int x) j p) = false) : PTC X (.Compare a [op] [.Constant (.int x) j p] pos) (tTest (tOp r ta (tC (.int x)))) := by
  intro pins s σ H Q I h
  refine wpAny_isTrue_Compare1 (thn (ha.run pins s σ H _ I h) fun v s1 ⟨y, H1, I1, r1, q1⟩ => wpAny_Constant_int ?_) hm
  refine wpAny_mono (PySem.wpAny_toks_of (n := 1) (by show 1 ≤ s1.toks + 1; omega) (ho pins { s1 with toks := s1.toks + 1 } σ H1 y (.int x) v (.int x s1.toks) _ (I1.tok _) r1 ⟨_, rfl⟩ q1)) (fun c s3 q => ?_) fun _ _ z => z.2
  obtain ⟨hk, z, H3, I3, r3, k, e, q3⟩ := q
  subst e
  cases r3
  exact wpAny_truthy_bool ⟨hk, H3, I3, q3⟩
/-- a statement behind which a token is out -/
def PS1 (X : Cx) (st : Stmt) (t : TS) : Prop :=
  ∀ (pins : List (Addr × Obj)) (s : Shared) (σ : St) (H : Hp) (D : Ends), Inv X pins σ H s → t D σ H → wpAny (model X.prog X.w) X.A (exec st X.env) (fun fl s1 => 1 ≤ s1.toks ∧ SP X pins D fl s1) X.xe s
theorem pss_cons1 (h1 : PS1 X st t) (h2 : PSsT X sts u) : PSs X (st :: sts) (tSeq t u) := by
  refine ⟨fun pins s σ H D I h => ?_⟩
  refine wpAny_execs_cons (thn (h1 pins s σ H { D with nx := u D } I h) fun f s1 q => ?_)
  obtain ⟨hk, q⟩ := q
  cases f with
  | next =>
    obtain ⟨σ', H', I', q⟩ := q
    exact h2 pins s1 σ' H' D hk I' q
  | ret v => exact q
  | brk => exact q
  | cont => exact q
theorem ps1_set {i : Nat} {x : Str} {pos' : Pos} (hN : X.N.Nodup) (hi : X.N[i]? = some x) (hx : Loc X.env.scope x) (he : PE1 X e te) (hs : swapsWith e (some (.Name x pos')) pos.line X.env = pure false := by rfl) (hf : X.fn x = true ∨ X.env.scope.names.lookup x = some .local := by first | exact .inl rfl | exact .inr rfl | assumption) :
    PS1 X (.Assign [.Name x pos'] e pos) (tAsg te (gName i)) := by
  intro pins s σ H D I h
  refine wpAny_Assign_Name (thn (he pins s σ H _ I h) fun v s1 q => ?_) hs
  obtain ⟨h1, y, H1, I1, r1, q1⟩ := q
  refine wpAny_mono (PySem.wpAny_toks_of h1 (store_ok (Q := fun _ s2 => SP X pins D .next s2) I1 hN hi hx r1 (fun s2 I2 => ⟨_, H1, I2, q1⟩) hf)) (fun _ s2 q => ⟨q.1, q.2⟩) fun _ _ z => z.2
end
end Lx
/-! calls, classes made and methods of lists where a token is out -/
namespace Lx
open PySem PySem.Spec L2
section
variable {X : Cx} {CX : CXT} {k : Nat} {f C : Addr} {fd : FuncData} {ps : List Str} {sp : Sp} {dvs : List V} {ds : List Value} {E : XK} {x : Str} {p pos pos' : Pos} {e a b o : Expr} {es : List Expr} {t : TA} {te ta tb to : TE}
theorem pe1_opR {op : Operator} {r : R2} (ho : OpR X (binaryOp op) r) (ha : PE X a ta) (hb : PE1 X b tb) : PE1 X (.BinOp a op b pos) (tOp r ta tb) := by
  intro pins s σ H Q I h
  refine wpAny_BinOp (thn (ha.run pins s σ H _ I h) fun v s1 ⟨x, H1, I1, r1, q1⟩ => ?_)
  refine wpAny_mono (hb pins s1 σ H1 _ I1 q1) (fun u s2 q => ?_) fun _ _ z => z
  obtain ⟨t2, y, H2, I2, r2, q2⟩ := q
  exact wpAny_mono (PySem.wpAny_toks_of t2 (ho pins s2 σ H2 x y v u Q I2 r1 r2 q2)) (fun _ _ z => z) fun _ _ z => z.2
/-- two arguments, the second puts a token out -/
theorem pa1_snd (ha : PE X a ta) (hb : PE1 X b tb) (hs : starEach [a, b] X.env = (false, eval a X.env) :: starEach [b] X.env := by rfl) (hs2 : starEach [b] X.env = (false, eval b X.env) :: starEach [] X.env := by rfl) : PA1 X [a, b] (tCons ta (tCons tb tNil)) := by
  intro pos pins s σ H Q I h
  rw [hs]
  show wpAny _ _ (spliced ((false, eval a X.env) :: backTo pos (starEach [b] X.env))) _ _ s
  refine Calls.spliced_cons (thn (ha.run pins s σ H _ I h) fun u s1 ⟨x, H1, I1, r1, q1⟩ => ?_)
  rw [hs2]
  show wpAny _ _ (spliced ((false, eval b X.env) :: backTo pos (starEach [] X.env))) _ _ s1
  refine Calls.spliced_cons (wpAny_mono (hb pins s1 σ H1 _ I1 q1) (fun u2 s2 q => ?_) fun _ _ z => z)
  obtain ⟨t2, y, H2, I2, r2, q2⟩ := q
  exact Calls.spliced_nil ⟨t2, [x, y], H2, I2, .cons r1 (.cons r2 .nil), q2⟩
/-- f(e, ..) whose arguments put a token out -/
theorem pe1_call (F : FnOk X.prog X.w X.K X.mg X.base CX k f fd ps sp) (hr : Room k X.A) (hg : Gl X x) (hm : X.mg x = some (.ref f)) (hk : PySem.W.keepIn X.K (.ref f) = true) (hb : Binds X.K fd ps ds) (hd : Vals dvs ds) (hx : Passes CX X E)
    (ha : PA1 X (e :: es) t) (hdb : (x == ("__debug__" : Str)) = false := by decide) (he : starEach (e :: es) X.env = (false, eval e X.env) :: starEach es X.env := by rfl) (hpl : (backTo pos (starEach es X.env)).any (·.1) = false := by rfl) :
    PE1 X (.Call (.Name x p) (e :: es) [] pos) (tCall sp dvs E t) := by
  intro pins s σ H Q I h
  refine wpAny_Call_Name_kw (ld_glob I hg hm ?_ hdb)
  refine PySem.W.callWith_K (h₀ := X.base) I.ok.mod.kin hk (wpAny_mono (ha pos pins s σ H _ I h) (fun us s1 q => ?_) fun _ _ z => z) he hpl
  obtain ⟨h1, vs, H1, I1, r, q⟩ := q
  refine ⟨I1.kIn, ?_⟩
  exact wpAny_mono (PySem.wpAny_toks_of h1 (run_fn F hr hb hd hx I1 r q)) (fun _ _ z => z) fun _ _ z => z.2
theorem pst_expr (he : PET X e te) (hs : swapsWith e none pos.line X.env = pure false := by rfl) : PST X (.Expr e pos) (tDrop te) := by
  intro pins s σ H D h0 I h
  exact wpAny_Expr_any (thn (he pins s σ H _ h0 I h) fun v s1 ⟨x, H1, I1, r1, q1⟩ => ⟨σ, H1, I1, q1⟩) I.quiet hs
/-- C(e, ..), a token out -/
theorem pet_make (M : Mk X.K C f) (F : FnOk X.prog X.w X.K X.mg X.base CX k f fd ps sp) (hr : Room (k + 1) X.A) (hg : Gl X x) (hm : X.mg x = some (.ref C)) (hb : Binds X.K fd ps ds) (hd : Vals dvs ds) (hx : Passes CX X E)
    (ha : PAT X (e :: es) t) (hdb : (x == ("__debug__" : Str)) = false := by decide) (he : starEach (e :: es) X.env = (false, eval e X.env) :: starEach es X.env := by rfl) (hpl : (backTo pos (starEach es X.env)).any (·.1) = false := by rfl) :
    PET X (.Call (.Name x p) (e :: es) [] pos) (tMake C sp dvs E t) := by
  intro pins s σ H Q h0 I h
  refine wpAny_Call_Name_kw (ld_glob I hg hm ?_ hdb)
  refine PySem.W.callWith_K (h₀ := X.base) I.ok.mod.kin M.kp (thn (ha pos pins s σ H _ h0 I h) fun us s1 ⟨vs, H1, I1, r, q⟩ => ⟨I1.kIn, ?_⟩) he hpl
  exact run_make M F hr hb hd hx I1 r q
/-- o.m(e, ..), o a list, a token out -/
theorem pet_bm {name : Str} {apos cpos : Pos} {T id : String} {r : V → List V → Hp → VK → Prop} (pa : PlainAttrs T) (slot : Slot T name id) (hty : typeOf (.builtin id) = pure (.type "method_descriptor")) (hm : MtR X id r) (ho : PE X o to) (ha : PAT X (e :: es) t)
    (hbase : attributeBase o name X.env (eval o X.env) = eval o X.env := by rfl)
    (hfew : ((backTo cpos (starEach (e :: es) X.env)).all (fun x => !x.1) && (backToKw cpos (keywordEach [] X.env)).all (fun x => x.1.isSome)
      && decide ((e :: es).length + ([] : List Keyword).length + (if ([] : List Keyword).isEmpty then 0 else 1) < 30)) = true := by rfl)
    (hline : (apos.endLine == cpos.line) = true := by rfl) (hs : starEach (e :: es) X.env = (false, eval e X.env) :: starEach es X.env := by rfl) (hplain : (backTo cpos (starEach es X.env)).any (·.1) = false := by rfl) :
    PET X (.Call (.Attribute o name apos) (e :: es) [] cpos) (tBM X.K T r to t) := by
  intro pins s σ H Q h0 I h
  refine wpAny_Call_method_late hbase hfew hline rfl (wpAny_mono (PySem.wpAny_toks_of h0 (ho.run pins s σ H _ I h)) (fun v s1 q => ?_) fun _ _ z => z.2)
  obtain ⟨t1, x, H1, I1, r1, ty, q1⟩ := q
  obtain ⟨h1, h2⟩ := tyV_is I1 r1 ty
  refine ⟨T, id, pa, slot, hty, h1, h2, ?_⟩
  have hA := ha cpos pins s1 σ H1 _ t1 I1 q1
  rw [hs] at hA ⊢
  refine Calls.callWith_builtin (by show (false || (backTo cpos (starEach es X.env)).any (·.1)) = false; rw [hplain] <;> rfl) (Calls.evalArgs_plain ?_)
  exact thn hA fun us s2 ⟨vs, H2, I2, r2, q2⟩ => hm pins s2 σ H2 x vs v us Q I2 r1 r2 q2
end
end Lx
namespace Lw
open PySem PySem.Spec L2 Lx ClX
theorem scLaw : FnScope ["script", "rng", "endings", "lap", "some", "kept", "early", "one", "line", "late", "due", "pieces", "piece"] ["script"] (defScope sLaw) := ⟨rfl, rfl, rfl, by decide +kernel, rfl, by decide +kernel, by decide +kernel⟩
structure LwF (mg : Str → Option Value) : Prop where
  range : mg "range" = none
  min : mg "min" = none
  len : mg "len" = none
  list : mg "list" = none
  int : mg "int" = none
  repr : mg "repr" = none
  isi : mg "isinstance" = none
def spLaw (K : PySem.W.Frag) : Sp := fun vs H Q _ => ∃ (a : Addr) (ns : List Int), vs = [.ref a] ∧ SqL K H a (ns.map V.int) ∧ ns.length ≤ 63 ∧ ∀ H', Q (.bl true) H'
section
variable {P : Program} {w : World} {K : PySem.W.Frag} {mg : Str → Option Value} {base : Heap}
theorem both {p A B R : Prop} [Decidable p] (hA : R → A) (hB : R → B) (h : R) : if p then A else B := by
  by_cases hp : p
  · rw [if_pos hp]; exact hA h
  · rw [if_neg hp]; exact hB h
theorem kit_own (C : Addr) : PySem.W.kitOne K (.ref C) (.ref C) = some true := by
  unfold PySem.W.kitOne
  rw [if_pos (by simp)]
theorem sh3 (v w : Str) (hv : PyData.strOk v = true) (hw : PyData.strOk w = true) : SeqAt.shaped (.list [.str v, .str w, fdt (.keep 0 0)]) = true := by
  unfold SeqAt.shaped fdt
  simp [PyData.canLay0, PyData.canLayAll0, PyData.depth, PyData.depthAll]
  exact ⟨hv, hw, by decide +kernel⟩
theorem btw_list {e l z : Str} (h : Btw e l z) {xs : List Str} (hx : ∀ x ∈ xs, Cln x) : doneT (ej e.cps.toList xs) z.cps.toList = ej l.cps.toList xs := by
  have h10 : ∀ x ∈ xs, 10 ∉ x.cps.toList := fun x h => (hx x h).1
  have h94 : ∀ x ∈ xs, 94 ∉ x.cps.toList := fun x h => (hx x h).2.1
  rcases h with ⟨rfl, rfl⟩ | ⟨rfl, rfl, rfl⟩ | ⟨rfl, rfl, rfl⟩ | ⟨rfl, rfl, rfl⟩ | ⟨rfl, rfl, rfl⟩ | ⟨rfl, rfl, rfl⟩ | ⟨rfl, rfl, rfl⟩
  · rfl
  · exact st_U h10
  · exact st_N h10
  · exact st_D h10
  · exact (congrArg (stepT 78) (st_D h10)).trans (st_N h10)
  · exact st_M h94
  · exact (congrArg (stepT 85) (st_M h94)).trans (st_U h10)
theorem btw_ch {e l z : Str} (h : Btw e l z) : ChOk z ∧ z.length ≤ 2 := by
  have c : ∀ zs : Str, decide (∀ c ∈ zs.cps.toList, c ∈ [85, 68, 77, 78]) = true → ChOk zs := fun zs h c hc => by
    have := of_decide_eq_true h c hc
    simp only [List.mem_cons, List.not_mem_nil, or_false] at this
    rcases this with rfl | rfl | rfl | rfl <;> decide
  rcases h with ⟨_, rfl⟩ | ⟨_, _, rfl⟩ | ⟨_, _, rfl⟩ | ⟨_, _, rfl⟩ | ⟨_, _, rfl⟩ | ⟨_, _, rfl⟩ | ⟨_, _, rfl⟩ <;> exact ⟨c _ (by decide), by decide⟩
theorem nf_own (C : Addr) : PySem.W.notFirst K C (.ref C) = true := by
  unfold PySem.W.notFirst
  simp
theorem ends_low {e : Str} (h : Ends3 e) : ∀ c ∈ e.cps.toList, c < 128 := by
  rcases h with rfl | rfl | rfl <;> decide
theorem iteFb {b : Bool} {A B : Prop} (e : b = false) (h : B) : if b = true then A else B := by
  subst e
  exact iteF h
theorem ends_len {e : Str} (h : Ends3 e) : e.length ≤ 2 := by
  rcases h with rfl | rfl | rfl <;> decide
theorem sum_fit {xs : List Str} {z : Str} (hn : xs.length ≤ 100) (hx : ∀ x ∈ xs, x.length ≤ 100) (hz : z.length ≤ 3) : ((xs.map fun x => x ++ z).map (·.length)).sum ≤ 100 * 103 := by
  have g : ∀ l : List Str, (∀ x ∈ l, x.length ≤ 100) → ((l.map fun x => x ++ z).map (·.length)).sum ≤ l.length * 103 := fun l h => by
    induction l with
    | nil => exact Nat.zero_le _
    | cons a r ih =>
      have h1 := h a (List.mem_cons_self ..)
      have h2 := ih fun y hy => h y (List.mem_cons_of_mem _ hy)
      have h3 : (a ++ z).length = a.length + z.length := Array.size_append ..
      rw [List.map_cons, List.map_cons, List.sum_cons, List.length_cons, h3, Nat.add_mul]
      omega
  have := g xs hx
  omega
theorem ok_law {f CL aOr aOg fLi fLv fLe fLl pT gT pC gC pF gF pB gB aG aL aS aB : Addr} {mc : Value} {fd dO dLi dLe dLl dT dC dF dB dG dL dS dBt : FuncData} {k : Nat} (hk : 3 ≤ k) (F : Fun K "law" "law" sLaw f fd) (Z : LwF mg)
    (TL : LTxt K mg CL) (ZQ : LEq K CL) (MkL : Mk K CL fLi) (GLi : FnOk P w K mg base CX0 k fLi dLi ["self", "text"] (spLInit CL)) (bLi : Binds K dLi ["self", "text"] [])
    (RC : CRead K CL mc) (MC : CMet K CL mc "of_lines" aOr aOg) (GOf : FnOk P w K mg base CX0 (k + 1) aOg dO ["cls", "lines", "ending"] (spLOf CL)) (GOr : FnR P w K mg base CX0 (k + 1) aOg (spLOf CL)) (kOf : KBinds K dO ["cls", "lines", "ending"] ["ending", "lines"] (gc21 Value) (gc21 V))
    (mLv : Meth K CL "convert" fLv) (GLv : FnR P w K mg base CX0 (k + 1) fLv (fun vs H Q E => ∃ ws rest, vs = ws ++ rest ∧ ws.length = ["self"].length ∧ rest.length ≤ sizeLine ∧ ∀ p, H p = Option.none → spLConv CL (ws ++ [V.ref p]) (upd H p (.tup rest)) Q E))
    (pLt : PropOf K CL "text" pT gT) (GLt : FnOk P w K mg base CX0 k gT dT ["self"] (spLText CL)) (bLt : Binds K dT ["self"] [])
    (pLc : PropOf K CL "chain" pC gC) (GLc : FnOk P w K mg base CX0 k gC dC ["self"] (spLChain CL)) (bLc : Binds K dC ["self"] [])
    (pLf : PropOf K CL "form" pF gF) (GLf : FnOk P w K mg base CX0 k gF dF ["self"] (spLForm K CL)) (bLf : Binds K dF ["self"] [])
    (pLb : PropOf K CL "breaks" pB gB) (GLb : FnOk P w K mg base CX0 k gB dB ["self"] (spLBreaks CL)) (bLb : Binds K dB ["self"] [])
    (GEq : FnOk P w K mg base CX0 k fLe dLe ["self", "other"] (spEqB (REq K CL))) (sEq : PySem.W.findIn K (.ref CL) "__eq__" = some (some (.ref fLe))) (iEq : PySem.W.isFn K (.ref fLe) = true) (bEq : Binds K dLe ["self", "other"] [])
    (mLl : Meth K CL "lines" fLl) (GLl : GFn P w K mg base 1 fLl dLl ["self"] (spLLines CL)) (bLl : Binds K dLl ["self"] [])
    (cG : Cl P w K mg base (k + 1) "_law_rng" ["script"] (spRng K) aG dG)
    (cL : Cl P w K mg base (k + 1) "_law_line" ["rng", "most"] spLine aL dL)
    (cS : Cl P w K mg base (k + 1) "_law_lines" ["rng"] spLines aS dS)
    (cB : Cl P w K mg base (k + 1) "_law_between" ["early", "late"] spBetween aB dBt) : FnG P w K mg base CX0 (k + 2) f fd ["script"] (spLaw K) := by
  refine okG F scLaw (fun vs H Q E h => ?_) (fun cdv A outer s H vs Q E hr hg h => ?_)
  · obtain ⟨a, ns, rfl, _⟩ := h
    rfl
  · obtain ⟨a, ns, rfl, hS0, hlen, q⟩ := h
    refine ⟨_, PSs.nox ((pss_cons (ps_set (i := 1) scLaw.nd rfl (.inl rfl) (pe_call cG.G hr (by rfl) cG.g cG.kp cG.b .nil pass0 (pa_cons (pv 0) pa_nil)))
      (pss_cons (ps_set (i := 2) scLaw.nd rfl (.inl rfl) (pe_lst (pa_cons pe_str (pa_cons pe_str (pa_cons pe_str pa_nil)))))
      (pss_cons (ps_for PassesOwn.never rfl (pi_range1 rfl Z.range (pa_cons (pe_op op_add pe_int (pe_callB (call_min2 rfl) (by rfl) Z.min (by decide +kernel) (pa_cons pe_int (pa_cons (pe_callB call_len_seq (by rfl) Z.len PySem.boot_len (pa_cons (pv 0) pa_nil)) pa_nil)))) pa_nil)) (pg_name (i := 3) scLaw.nd rfl (.inl rfl))
          (pss_cons (ps_set (i := 4) scLaw.nd rfl (.inl rfl) (pe_call cS.G hr (by rfl) cS.g cS.kp cS.b .nil pass0 (pa_cons (pv 1) pa_nil)))
          (pss_cons (ps_set (i := 5) scLaw.nd rfl (.inl rfl) (pe_callB (call_reprD hg hr.units) (by rfl) Z.repr (by decide +kernel) (pa_cons (pv 4) pa_nil)))
          (pss_cons (ps_for PassesOwn.never rfl (pi_list (pv 2)) (pg_name (i := 6) scLaw.nd rfl (.inr rfl))
              (pss_cons (ps_set (i := 8) scLaw.nd rfl (.inl rfl) (pe_join pe_str (pe_lc (own := [("one", 7)]) (g := (gName 7)) (tt := tYes) rfl scLaw.nd (pi_list (pv 4)) (blkOk_by (own := [("one", 7)]) (N := ["script", "rng", "endings", "lap", "some", "kept", "early", "one", "line", "late", "due", "pieces", "piece"]) (sc := defScope sLaw) (by decide +kernel)) (fun _ _ _ _ _ => (pg_name (i := 7) scLaw.nd rfl (.inl rfl))) (fun _ _ _ _ _ => pts_nil) (fun _ _ _ _ _ => (pe_op op_add_str (pv 7) (pv 6))))))
              (pss_one (ps_for PassesOwn.never rfl (pi_list (pv 2)) (pg_name (i := 9) scLaw.nd rfl (.inl rfl))
                  (pss_cons (ps_set (i := 7) scLaw.nd rfl (.inl rfl) (pe_ifExp (pt_cmpR op_eq (pv 9) pe_str (nomark _)) (pe_cmeth (pe_glob (v := .ref CL) rfl TL.mgC rfl) RC MC GOr hr pass0 (pa_cons (pv 4) (pa_cons (pv 6) pa_nil))) (pe_cmethK0 (pe_glob (v := .ref CL) rfl TL.mgC rfl) RC MC GOf hr kOf pass0 (pk_cons (pv 6) (pk_cons (pv 4) pk_nil)))))
                  (pss_cons (ps_if (PW.pt (pw_or (pt_cmpR (op_neD hr.units) (pe_lst (pa_cons (pe_prop (pv 7) TL.cl pLt GLt hr bLt .nil pass0 rfl) (pa_cons (pe_prop (pv 7) TL.cl pLc GLc hr bLc .nil pass0 rfl) (pa_cons (pe_prop (pv 7) TL.cl pLf GLf hr bLf .nil pass0 rfl) pa_nil)))) (pe_lst (pa_cons (pv 8) (pa_cons pe_str (pa_cons (pe_tup (pa_cons pe_str (pa_cons pe_int (pa_cons pe_int pa_nil)))) pa_nil)))) (nomark _)) (pw_or1 (pt_not (pt_val (pe_callB call_isi (by rfl) Z.isi (by decide +kernel) (pa_cons (pv 7) (pa_cons (pe_glob (v := .ref CL) rfl TL.mgC rfl) pa_nil))))))))
                      (pss_one (ps_ret pe_bl)) pss_nil)
                  (pss_cons (ps_expr (pe_methR (pv 7) TL.cl mLv GLv hr pass0 (pa_cons (pe_call cB.G hr (by rfl) cB.g cB.kp cB.b .nil pass0 (pa_cons (pv 6) (pa_cons (pv 9) pa_nil))) pa_nil)))
                  (pss_cons (ps_if (pt_not (pt_cmpR (op_eqO GEq (hr.mono (Nat.le_succ k)) sEq iEq bEq pass0) (pv 7) (pe_cmeth (pe_glob (v := .ref CL) rfl TL.mgC rfl) RC MC GOr hr pass0 (pa_cons (pv 4) (pa_cons (pv 9) pa_nil))) (nomark _)))
                      (pss_one (ps_ret pe_bl)) pss_nil)
                  (pss_cons (ps_set (i := 10) scLaw.nd rfl (.inl rfl) (pe_ifExp (pt_cmpR op_eq (pv 9) pe_str (nomark _)) (pe_op op_cat (pv 4) (pe_lst (pa_cons pe_str pa_nil))) (pe_op op_cat (pe_lc (own := [("piece", 12)]) (g := (gName 12)) (tt := tYes) rfl scLaw.nd (pi_list (pv 4)) (blkOk_by (own := [("piece", 12)]) (N := ["script", "rng", "endings", "lap", "some", "kept", "early", "one", "line", "late", "due", "pieces", "piece"]) (sc := defScope sLaw) (by decide +kernel)) (fun _ _ _ _ _ => (pg_name (i := 12) scLaw.nd rfl (.inl rfl))) (fun _ _ _ _ _ => pts_nil) (fun _ _ _ _ _ => (pe_op op_add_str (pv 12) pe_str))) (pe_lst (pa_cons pe_str pa_nil)))))
                  (pss_one (ps_if (PW.pt (pw_or (PW.pt (pw_and (pt_cmpR op_ne (pv 9) pe_str (nomark _)) (pw_and1 (pt_cmpR (op_neD hr.units) (pe_listG (nm := "list") (E := E0) (pgen_meth0 (pv 7) TL.cl mLl GLl (hr.mono (by omega)) bLl .nil) passL (fun _ _ _ z => z.elim) (hr.mono (by omega)) (by rfl) Z.list (by decide +kernel)) (pv 10) (nomark _))))) (pw_or1 (pt_cmpR op_ne (pe_prop (pv 7) TL.cl pLb GLb hr bLb .nil pass0 rfl) (pe_op op_mulW (pe_callB call_len_seq (by rfl) Z.len PySem.boot_len (pa_cons (pv 4) pa_nil)) (pe_callTy call_int1 (by rfl) Z.int (by decide +kernel) (pa_cons (pe_cmpR op_ne (pv 9) pe_str (nomark _)) pa_nil))) (nomark _)))))
                      (pss_one (ps_ret pe_bl)) pss_nil)))))))))))
          (pss_cons (ps_set (i := 8) scLaw.nd rfl (.inl rfl) (pe_call cL.G hr (by rfl) cL.g cL.kp cL.b .nil pass0 (pa_cons (pv 1) (pa_cons pe_int pa_nil))))
          (pss_cons (ps_set (i := 7) scLaw.nd rfl (.inl rfl) (pe_make MkL GLi hr (by rfl) TL.mgC bLi .nil pass0 (pa_cons (pv 8) pa_nil)))
          (pss_cons (ps_set (i := 11) scLaw.nd rfl (.inl rfl) (pe_listG (nm := "list") (E := E0) (pgen_meth0 (pv 7) TL.cl mLl GLl (hr.mono (by omega)) bLl .nil) passL (fun _ _ _ z => z.elim) (hr.mono (by omega)) (by rfl) Z.list (by decide +kernel)))
          (pss_cons (ps_if (PW.pt (pw_or (pt_cmpR op_ne (pe_join pe_str (pv 11)) (pv 8) (nomark _)) (pw_or (pt_cmpR op_ne (pe_callB call_len_seq (by rfl) Z.len PySem.boot_len (pa_cons (pv 11) pa_nil)) (pe_op op_add (pe_prop (pv 7) TL.cl pLb GLb hr bLb .nil pass0 rfl) pe_int) (nomark _)) (pw_or1 (pt_cmpR (op_neD hr.units) (pv 11) (pe_split (pv 8) pe_str) (nomark _))))))
              (pss_one (ps_ret pe_bl)) pss_nil)
          (pss_cons (ps_expr (pe_bm PySem.F.plainAttrs_list PySem.F.slot_list_append PySem.F.type_list_append mt_append (pv 11) (pa_cons pe_str pa_nil)))
          (pss_one (ps_if (PW.pt (pw_or (pt_cmpR (op_neD hr.units) (pe_listG (nm := "list") (E := E0) (pgen_meth0 (pv 7) TL.cl mLl GLl (hr.mono (by omega)) bLl .nil) passL (fun _ _ _ z => z.elim) (hr.mono (by omega)) (by rfl) Z.list (by decide +kernel)) (pe_slice sl_list (pv 11) po_none (po_some (pe_un un_neg pe_int))) (nomark _)) (pw_or1 (pt_cmpR op_ne (pe_callB (call_reprD hg hr.units) (by rfl) Z.repr (by decide +kernel) (pa_cons (pv 4) pa_nil)) (pv 5) (nomark _)))))
              (pss_one (ps_ret pe_bl)) pss_nil)))))))))))
      (pss_one (ps_ret (pe_and (pe_cmpR (op_eqD hr.units) (pe_listG (nm := "list") (E := E0) (pgen_meth0 (pe_cmeth (pe_glob (v := .ref CL) rfl TL.mgC rfl) RC MC GOr hr pass0 (pa_cons (pe_lst pa_nil) (pa_cons pe_str pa_nil))) TL.cl mLl GLl (hr.mono (by omega)) bLl .nil) passL (fun _ _ _ z => z.elim) (hr.mono (by omega)) (by rfl) Z.list (by decide +kernel)) (pe_lst (pa_cons pe_str pa_nil)) (nomark _)) (pe_one (pe_cmpR op_eq (pe_prop (pe_make MkL GLi hr (by rfl) TL.mgC bLi .nil pass0 (pa_cons pe_str pa_nil)) TL.cl pLb GLb hr bLb .nil pass0 rfl) pe_int (nomark _)))))))))), ?_⟩
    refine ⟨_, rfl, a, ns, rfl, hS0, hlen, fun H1 r s1 nr hR1 => ?_⟩
    dsimp only [gName, tNext, tSeq]
    refine ⟨by show 3 ≤ sizeLine; decide, fun le nle => ?_⟩
    have s2 := same_upd (o := .lst [.str "\n", .str "^\n", .str "^"]) nle
    have hle : upd H1 le (.lst [.str "\n", .str "^\n", .str "^"]) le = _ := upd_same
    have hler := hR1.ne nle
    replace hR1 := hR1.same s2
    replace s1 := s1.trans s2
    clear s2
    revert hle hR1 s1
    generalize upd H1 le (.lst [.str "\n", .str "^\n", .str "^"]) = H2
    intro hle hR2 s2
    refine ⟨_, rfl, a, _, rfl, .inl (s2.seq hS0), 10, _, rfl, _, _, rfl, rfl, _, rfl, ?_, ?_, ?_⟩
    · split <;> omega
    · split <;> omega
    have hb : (5 + (if ((ns.map V.int).length : Int) < 10 then ((ns.map V.int).length : Int) else 10)).toNat ≤ 15 := by split <;> omega
    generalize (5 + (if ((ns.map V.int).length : Int) < 10 then ((ns.map V.int).length : Int) else 10)).toNat = laps at hb
    refine for_range (lo := 0) (n := laps) (fun i σ H' => ∃ y3 y4 y5 y6 y7 y8 y9 y10 y11 y12, σ = [some (.ref a), some (.ref r), some (.ref le), y3, y4, y5, y6, y7, y8, y9, y10, y11, y12] ∧ RngAt H' r (3000 * i) ∧ Kd r H2 H') ⟨_, _, _, _, _, _, _, _, _, _, rfl, hR2, Kd.refl _ _⟩ ?_ ?_
    · rintro i σ H3 hi ⟨y3, y4, y5, y6, y7, y8, y9, y10, y11, y12, rfl, hR3, k3⟩
      dsimp only [gName, tNext, tSeq]
      refine ⟨_, rfl, r, _, rfl, hR3, by omega, fun xs l H4 hxs hxl hl hR4 k4 nl => ?_⟩
      have nlr : l ≠ r := by
        rintro rfl
        obtain ⟨_, _, _, h, _⟩ := hR3
        rw [h] at nl
        cases nl
      have hle4 : H4 le = _ := k4 _ _ hler (k3 _ _ hler hle)
      have fin : 3000 * i + 50 ≤ 50000 := by omega
      have goalN : ∀ m, m ≤ 3000 * i + 50 + 2000 → m ≤ 3000 * (i + 1) := fun m h => by omega
      have kk := k3.trans k4
      generalize 3000 * i + 50 = N at hR4 fin goalN
      clear k3 k4 hR3 nl
      refine ⟨_, rfl, _, .list (xs.map PyData.str), rfl, .lst (.inl (.inl hl)) ?_, ?_, ?_⟩
      · exact dp_strs xs
      · exact fit_strs hxs hxl
      generalize hsh : (PyData.list (xs.map PyData.str)).shown = shown
      dsimp only [gName, tNext, tSeq]
      refine ⟨_, rfl, le, rfl, ⟨_, .inl (.inl hle4)⟩, ?_⟩
      refine for_list (K := K) (a := le) (xs := [.str "\n", .str "^\n", .str "^"]) (fun i' σ H' => Same H4 H' ∧ ∃ y6 y7 y8 y9 y10, σ = [some (.ref a), some (.ref r), some (.ref le), some (.int (0 + (i : Int))), some (.ref l), some (.str shown), y6, y7, y8, y9, y10, y11, y12])
          ⟨Same.refl _, _, _, _, _, _, rfl⟩ (fun i' σ H' _ hP => .inl (.inl (hP.1 _ _ hle4))) ?_ ?_
      · rintro i' x σ H5 hx ⟨s5, y6, y7, y8, y9, y10, rfl⟩
        obtain ⟨e, rfl, he⟩ : ∃ e : Str, x = .str e ∧ Ends3 e := by
          match i' with
          | 0 => cases hx; exact ⟨_, rfl, .inl rfl⟩
          | 1 => cases hx; exact ⟨_, rfl, .inr (.inl rfl)⟩
          | 2 => cases hx; exact ⟨_, rfl, .inr (.inr rfl)⟩
          | i + 3 => cases hx
        clear hx
        dsimp only [gName, tNext, tSeq]
        have hl5 := s5 _ _ hl
        have hle5 := s5 _ _ hle4
        have hel := ends_len he
        have hx100 : ∀ x ∈ xs, x.length ≤ 100 := fun x h => by have := (hxs x h).2.2.1; omega
        refine ⟨⟨"", rfl⟩, _, rfl, l, rfl, ⟨_, .inl (.inl hl5)⟩, fun D nD => ?_⟩
        refine lc_it (walk_list (xs := xs.map V.str)) (fun j H' => Same H5 H' ∧ H' D = some (.lst (((xs.take j).map fun x => x ++ e).map V.str))) ⟨same_upd nD, upd_same⟩ (fun _ _ _ hQ => .inl (.inl (hQ.1 _ _ hl5))) ?_ ?_
        · rintro j u H6 H7 hj ⟨sm, hD⟩ ⟨rfl, hu⟩
          rw [List.length_map] at hj
          have hri : xs[j]? = some xs[j] := List.getElem?_eq_getElem hj
          rw [List.getElem?_map, hri] at hu
          cases Option.some.inj hu
          have hxl := hx100 _ (List.getElem_mem hj)
          generalize xs[j] = rr at hri hxl
          refine ⟨rfl, _, rfl, _, rfl, _, _, rfl, rfl, by rw [sizeLine_eq]; omega, _, hD, ?_, (fun b o h => by rw [upd_ne (ne_of_none h nD)]; exact sm b o h), ?_⟩
          · rw [List.length_map, List.length_map, List.length_take, sizeLine_eq]
            omega
          · rw [upd_same, List.take_succ, hri, List.map_append, List.map_append]
            rfl
        rintro H6 ⟨s6, hD⟩
        rw [List.length_map, List.take_length] at hD
        have hsum := sum_fit (by omega) hx100 (show e.length ≤ 3 by omega)
        refine ⟨"", D, _, rfl, rfl, .inl (.inl (.inl hD)), by show _ + _ * 0 ≤ _; omega, ?_⟩
        have hln : (Txt.join "" (xs.map fun x => x ++ e)).cps.toList = ej e.cps.toList xs := ej_join e xs
        have s46 := s5.trans s6
        clear hD s6 s5 nD D hl5 hle5
        have sok0 : PyData.strOk (Txt.join "" (xs.map fun x => x ++ e)) = true := by
          refine sok_of ?_
          rw [hln]
          exact ej_low hxs (ends_low he)
        generalize hjn : Txt.join "" (xs.map fun x => x ++ e) = jn at hln sok0
        dsimp only [gName, tNext, tSeq]
        refine ⟨_, rfl, le, rfl, ⟨_, .inl (.inl (s46 _ _ hle4))⟩, ?_⟩
        refine for_list (K := K) (a := le) (xs := [.str "\n", .str "^\n", .str "^"]) (fun i' σ H' => Same H4 H' ∧ ∃ y7 y9 y10, σ = [some (.ref a), some (.ref r), some (.ref le), some (.int (0 + (i : Int))), some (.ref l), some (.str shown), some (.str e), y7, some (.str jn), y9, y10, y11, y12])
          ⟨s46, _, _, _, rfl⟩ (fun i' σ H' _ hP => .inl (.inl (hP.1 _ _ hle4))) ?_ ?_
        · rintro i2 x H' H7 hx ⟨s7, y7, y9, y10, rfl⟩
          obtain ⟨lt, rfl, hlt⟩ : ∃ e : Str, x = .str e ∧ Ends3 e := by
            match i2 with
            | 0 => cases hx; exact ⟨_, rfl, .inl rfl⟩
            | 1 => cases hx; exact ⟨_, rfl, .inr (.inl rfl)⟩
            | 2 => cases hx; exact ⟨_, rfl, .inr (.inr rfl)⟩
            | i + 3 => cases hx
          clear hx
          have ofl : ∀ (Ha : Hp) (z : Str) (Q : VK), Same H4 Ha → Ends3 z → (∀ (p e' : Addr) (y : Str) H', Ha p = none → Ha e' = none → y = Txt.join "" (xs.map fun x => x ++ z) → LfAt CL H' p e' y "" → Same Ha H' → Q (.ref p) H') → spLOf CL [.ref CL, .ref l, .str z] Ha Q E0 := fun Ha z Q sa hz hq =>
            ⟨l, xs, z, rfl, sa _ _ hl, by omega, hx100, by have := ends_len hz; omega, hq⟩
          dsimp only [gName, tNext, tSeq]
          refine ⟨_, rfl, rfl, _, rfl, ?_⟩
          refine both (fun hq => by
            refine ⟨rfl, _, rfl, _, rfl, ?_⟩
            dsimp only [tNil, tCons]
            refine ofl H7 e _ s7 he ?_
            exact hq) (fun hq => by
            refine ⟨rfl, _, rfl, _, rfl, ?_⟩
            dsimp only [tNil, tCons, gc21]
            refine ofl H7 e _ s7 he ?_
            exact hq) ?_
          intro p p2 y H8 np ne hy L8 s8
          obtain ⟨dx, w0, ts0, h8, -, -⟩ := id L8
          dsimp only [gName, tNext, tSeq]
          have c0 : ChOk "" := fun c hc => by
            have : c ∈ ([] : List Nat) := hc
            cases this
          refine ⟨_, rfl, p, dx, _, rfl, h8, p, p2, y, "", rfl, L8, fun v hv => ?_⟩
          refine ⟨_, rfl, p, dx, _, rfl, h8, p, p2, y, "", rfl, L8, ?_⟩
          refine ⟨_, rfl, p, dx, _, rfl, h8, p, p2, y, "", rfl, L8, c0, by decide, fun fv H9 s9 hfv => ?_⟩
          have hvy : v = y := Str.ext' (Array.toList_inj.mp hv)
          subst hvy
          rw [hjn] at hy
          subst hy
          have sok := sok0
          refine ⟨by show 3 ≤ sizeLine; decide, fun l1 n1 => ?_⟩
          have s10 := same_upd (o := .lst [.str v, .str "", fv]) n1
          refine ⟨_, rfl, by show 3 ≤ sizeLine; decide, fun t2 n2 => ⟨by show 3 ≤ sizeLine; decide, fun l3 n3 => ?_⟩⟩
          have s11 := same_upd (o := .tup [.str "keep", .int 0, .int 0]) n2
          have s12 := same_upd (o := .lst [.str v, .str "", .ref t2]) n3
          refine ⟨.list [.str v, .str "", fdt (.keep 0 0)], .list [.str v, .str "", fdt (.keep 0 0)], .lst (.inl (.inl (s12 _ _ (s11 _ _ upd_same)))) (.cons (.str _) (.cons (.str _) (.cons (fm_dp (hfv.same ((s10.trans s11).trans s12))) .nil))), .lst (.inl (.inl upd_same)) (.cons (.str _) (.cons (.str _) (.cons (fm_dp ⟨t2, rfl, .inl (.inl (s12 _ _ upd_same))⟩) .nil))), sh3 _ _ sok (by decide +kernel), sh3 _ _ sok (by decide +kernel), _, rfl, ?_⟩
          rw [SeqAt.eqv_refl _ (SeqAt.canLay_of_shaped (sh3 _ _ sok (by decide +kernel)))]
          have s8f := (((s9.trans s10).trans s11).trans s12)
          have L9 := L8.same s8f
          have s79 := s8.trans s8f
          revert L9 s79
          clear hfv hv s8f s9 s10 s11 s12 n1 n2 n3 s8 L8 h8
          generalize upd (upd (upd H9 l1 (.lst [.str v, .str "", fv])) t2 (.tup [.str "keep", .int 0, .int 0])) l3 (.lst [.str v, .str "", .ref t2]) = H10
          intro L9 s79
          refine iteF ?_
          refine ⟨_, rfl, _, _, _, _, true, rfl, .own CL, ZQ.ty TL L9, kit_own CL, true, rfl, iteF ?_⟩
          obtain ⟨dx, w0, ts0, h10, -, -⟩ := id L9
          dsimp only [gName, tNext, tSeq]
          refine ⟨_, rfl, p, dx, _, rfl, h10, by rfl, ?_⟩
          refine ⟨_, rfl, _, rfl, e, lt, rfl, he, hlt, fun z H11 s11 hz => ?_⟩
          refine ⟨[.ref p], [.str z], rfl, rfl, by show 1 ≤ sizeLine; decide, fun T nT => ?_⟩
          obtain ⟨hzc, hzl⟩ := btw_ch hz
          have hj : (Txt.join "" [z]).cps.toList = z.cps.toList := by
            rw [joinE_list]
            show z.cps.toList ++ [] = _
            rw [List.append_nil]
          have hjz : Txt.join "" [z] = z := Str.ext' (Array.toList_inj.mp hj)
          have hvl : v.cps.toList.length ≤ 41 * (41 + 2) := by
            rw [hln]
            refine Nat.le_trans (ej_len (n := 41) e.cps.toList fun x h => (hxs x h).2.2.1) (Nat.mul_le_mul hxl ?_)
            have : e.cps.toList.length = e.length := Array.length_toList ..
            omega
          refine ⟨p, p2, T, v, "", [z], rfl, upd_same, (L9.same s11).same (same_upd nT), by show z.length + 0 ≤ _; omega, by decide, by rw [hjz]; exact hzc, tb_pow ?_, fun H12 L12 kb => ?_⟩
          · rw [hj]
            have h2 : z.cps.toList.length = z.length := Array.length_toList ..
            have h3 : 2 ^ z.cps.toList.length ≤ 2 ^ 2 := Nat.pow_le_pow_right (by decide) (by omega)
            exact Nat.le_trans (Nat.mul_le_mul hvl h3) (by decide)
          rw [hjz] at L12
          have s12 : Same H7 H12 := fun b o h => kb b o (ne_of_none h np) (ne_of_none h ne) (same_upd nT _ _ (s11 _ _ (s79 _ _ h)))
          have hd12 : doneT v.cps.toList (("" : Str) ++ z).cps.toList = ej lt.cps.toList xs := by
            rw [app_list, hln]
            exact btw_list hz hxs
          generalize ("" : Str) ++ z = z2 at L12 hd12
          clear kb s79 s11 nT hj hjz hz hzc hzl h10 L9
          dsimp only [gName, tNext, tSeq]
          refine ⟨_, rfl, rfl, _, rfl, _, rfl, ?_⟩
          dsimp only [tNil, tCons]
          refine ofl H12 lt _ (s7.trans s12) hlt (fun q q2 y2 H13 nq nq2 hy2 L13 s13 => ?_)
          have hd13 : doneT y2.cps.toList ("" : Str).cps.toList = ej lt.cps.toList xs := by
            rw [hy2]
            exact ej_join lt xs
          have Lp := L12.same s13
          have hR : REq K CL p (.ref q) H13 true := ⟨p2, v, z2, Lp, .inl ⟨q, q2, y2, "", rfl, L13, by rw [hd12, hd13, decide_eq_true rfl]⟩⟩
          obtain ⟨dx3, w3, ts3, h13, -, -⟩ := id Lp
          refine ⟨p, dx3, _, _, true, rfl, h13, ZQ.ty TL L13, nf_own CL, hR, _, rfl, ?_⟩
          refine iteF ?_
          have s713 := s12.trans s13
          clear s13 s12 L12 nq nq2 hy2 hd13 L13 hR
          have hl13 := s713 _ _ (s7 _ _ hl)
          have hz13 : (doneT v.cps.toList z2.cps.toList).length ≤ 41 * (41 + 2) := by
            rw [hd12]
            refine Nat.le_trans (ej_len (n := 41) lt.cps.toList fun x h => (hxs x h).2.2.1) (Nat.mul_le_mul hxl ?_)
            have := ends_len hlt
            have : lt.cps.toList.length = lt.length := Array.length_toList ..
            omega
          have t48 : 41 * (41 + 2) ≤ 1000000 := by decide
          rcases hlt with rfl | rfl | rfl
          · dsimp only [gName, tNext, tSeq]
            refine ⟨_, rfl, rfl, _, rfl, iteT ?_⟩
            refine ⟨_, rfl, by show 1 ≤ sizeLine; decide, fun t1 n1 => ?_⟩
            have s14 := same_upd (o := .lst [.str ""]) n1
            refine ⟨l, t1, xs.map V.str, [.str ""], rfl, rfl, s14 _ _ hl13, upd_same, by rw [List.length_map, sizeLine_eq]; show xs.length + 1 ≤ _; omega, fun D nD => ?_⟩
            have s15 := same_upd (o := .lst (xs.map V.str ++ [.str ""])) nD
            have Lp2 := (Lp.same s14).same s15
            obtain ⟨dx4, w4, ts4, h14, -, -⟩ := id Lp2
            dsimp only [gName, tNext, tSeq]
            refine ⟨_, rfl, rfl, _, rfl, iteT ?_⟩
            refine ⟨_, rfl, p, dx4, _, rfl, h14, rfl, p, p2, v, z2, rfl, Lp2, by omega, fun out H16 s16 hout l4 n4 => ?_⟩
            have hso : ∀ x ∈ xs ++ [("" : Str)], PyData.strOk x = true := fun x hx => by
              rcases List.mem_append.mp hx with h | h
              · exact sok_of (hxs x h).2.2.2
              · rw [List.mem_singleton.mp h]
                decide +kernel
            obtain ⟨yo, hyo, rfl⟩ := hout
            have hpo := pieces_lf (hyo.trans hd12) hxs
            rw [hpo]
            have s17 := same_upd (o := .lst ((xs ++ [("" : Str)]).map V.str)) n4
            have hDD : upd (upd H13 t1 (.lst [.str ""])) D (.lst (xs.map V.str ++ [.str ""])) D = some (.lst ((xs ++ [("" : Str)]).map V.str)) := by
              rw [upd_same, List.map_append]
              rfl
            refine ⟨_, rfl, .list ((xs ++ [("" : Str)]).map PyData.str), .list ((xs ++ [("" : Str)]).map PyData.str), .lst (.inl (.inl upd_same)) (dp_strs _), .lst (.inl (.inl (s17 _ _ (s16 _ _ hDD)))) (dp_strs _), sh_strs hso, sh_strs hso, _, rfl, ?_⟩
            rw [eqv_strs hso]
            refine iteF ?_
            have Lp3 := (Lp2.same s16).same s17
            refine ⟨_, rfl, p, dx4, _, rfl, s17 _ _ (s16 _ _ h14), p, p2, v, z2, rfl, Lp3, fun yb hyb => ?_⟩
            refine ⟨_, rfl, l, xs.map V.str, rfl, .inl (.inl (.inl (s17 _ _ (s16 _ _ (s15 _ _ (s14 _ _ hl13)))))), ?_⟩
            refine ⟨_, rfl, rfl, .inr ⟨_, rfl, _, _, rfl, rfl, ?_, rfl, _, rfl, ?_⟩⟩
            · refine wide_mul (a := 10) (b := 2) ?_ (by decide) (by decide) (by decide) (by decide)
              rw [List.length_map]
              have : (2 : Nat) ^ 10 = 1024 := by decide
              omega
            have hbk := breaks_ej (hyb.trans hd12) hxs
            rw [hbk, List.length_map]
            refine iteFb (congrArg (fun b => !b) (decide_eq_true (congrArg (fun z : Int => V.int (↑xs.length * z)) (show PyProof.Rows.cnt 10 ("\n" : Str).cps.toList = 1 by decide +kernel)))) ⟨?_, _, _, _, rfl⟩
            exact fun b o h => s17 _ _ (s16 _ _ (s15 _ _ (s14 _ _ (s713 _ _ (s7 _ _ h)))))
          · dsimp only [gName, tNext, tSeq]
            refine ⟨_, rfl, rfl, _, rfl, iteF ?_⟩
            refine ⟨_, rfl, l, rfl, ⟨_, .inl (.inl hl13)⟩, fun Dl nDl => ?_⟩
            refine lc_it (walk_list (xs := xs.map V.str)) (fun j H' => Same H13 H' ∧ H' Dl = some (.lst (((xs.take j).map fun x => x ++ ("^" : Str)).map V.str))) ⟨same_upd nDl, upd_same⟩ (fun _ _ _ hQ => .inl (.inl (hQ.1 _ _ hl13))) ?_ ?_
            · rintro j u Ha Hb hj ⟨sm, hD⟩ ⟨rfl, hu⟩
              rw [List.length_map] at hj
              have hri : xs[j]? = some xs[j] := List.getElem?_eq_getElem hj
              rw [List.getElem?_map, hri] at hu
              cases Option.some.inj hu
              have hxl2 := hx100 _ (List.getElem_mem hj)
              generalize xs[j] = rr at hri hxl2
              refine ⟨rfl, _, rfl, _, _, rfl, rfl, by rw [sizeLine_eq]; show rr.length + 1 ≤ _; omega, _, hD, ?_, (fun b o h => by rw [upd_ne (ne_of_none h nDl)]; exact sm b o h), ?_⟩
              · rw [List.length_map, List.length_map, List.length_take, sizeLine_eq]
                omega
              · rw [upd_same, List.take_succ, hri, List.map_append, List.map_append]
                rfl
            rintro H14 ⟨s14, hDl⟩
            rw [List.length_map, List.take_length] at hDl
            generalize hxs2 : (xs.map fun x => x ++ ("^" : Str)) = xs2 at hDl
            have hx2l : xs2.length = xs.length := by rw [← hxs2, List.length_map]
            refine ⟨by show 1 ≤ sizeLine; decide, fun t1 n1 => ?_⟩
            have s15 := same_upd (o := .lst [.str ""]) n1
            refine ⟨Dl, t1, xs2.map V.str, [.str ""], rfl, rfl, s15 _ _ hDl, upd_same, by rw [List.length_map, sizeLine_eq]; show xs2.length + 1 ≤ _; omega, fun D nD => ?_⟩
            have s16 := same_upd (o := .lst (xs2.map V.str ++ [.str ""])) nD
            have Lp2 := ((Lp.same s14).same s15).same s16
            obtain ⟨dx4, w4, ts4, h14, -, -⟩ := id Lp2
            dsimp only [gName, tNext, tSeq]
            refine ⟨_, rfl, rfl, _, rfl, iteT ?_⟩
            refine ⟨_, rfl, p, dx4, _, rfl, h14, rfl, p, p2, v, z2, rfl, Lp2, by omega, fun out H16 s17 hout l4 n4 => ?_⟩
            have hso : ∀ x ∈ xs2 ++ [("" : Str)], PyData.strOk x = true := fun x hx => by
              rcases List.mem_append.mp hx with h | h
              · rw [← hxs2] at h
                obtain ⟨y, hy, rfl⟩ := List.mem_map.mp h
                refine sok_of fun c hc => ?_
                rw [app_list] at hc
                rcases List.mem_append.mp hc with h | h
                · exact (hxs y hy).2.2.2 c h
                · have h : c ∈ ([94] : List Nat) := h
                  rw [List.mem_singleton.mp h]
                  decide
              · rw [List.mem_singleton.mp h]
                decide +kernel
            obtain ⟨yo, hyo, rfl⟩ := hout
            have hpo := pieces_crlf (hyo.trans hd12) hxs
            rw [hxs2] at hpo
            rw [hpo]
            have s18 := same_upd (o := .lst ((xs2 ++ [("" : Str)]).map V.str)) n4
            have hDD : upd (upd H14 t1 (.lst [.str ""])) D (.lst (xs2.map V.str ++ [.str ""])) D = some (.lst ((xs2 ++ [("" : Str)]).map V.str)) := by
              rw [upd_same, List.map_append]
              rfl
            refine ⟨_, rfl, .list ((xs2 ++ [("" : Str)]).map PyData.str), .list ((xs2 ++ [("" : Str)]).map PyData.str), .lst (.inl (.inl upd_same)) (dp_strs _), .lst (.inl (.inl (s18 _ _ (s17 _ _ hDD)))) (dp_strs _), sh_strs hso, sh_strs hso, _, rfl, ?_⟩
            rw [eqv_strs hso]
            refine iteF ?_
            have Lp3 := (Lp2.same s17).same s18
            refine ⟨_, rfl, p, dx4, _, rfl, s18 _ _ (s17 _ _ h14), p, p2, v, z2, rfl, Lp3, fun yb hyb => ?_⟩
            refine ⟨_, rfl, l, xs.map V.str, rfl, .inl (.inl (.inl (s18 _ _ (s17 _ _ (s16 _ _ (s15 _ _ (s14 _ _ hl13))))))), ?_⟩
            refine ⟨_, rfl, rfl, .inr ⟨_, rfl, _, _, rfl, rfl, ?_, rfl, _, rfl, ?_⟩⟩
            · refine wide_mul (a := 10) (b := 2) ?_ (by decide) (by decide) (by decide) (by decide)
              rw [List.length_map]
              have : (2 : Nat) ^ 10 = 1024 := by decide
              omega
            have hbk := breaks_ej (hyb.trans hd12) hxs
            rw [hbk, List.length_map]
            refine iteFb (congrArg (fun b => !b) (decide_eq_true (congrArg (fun z : Int => V.int (↑xs.length * z)) (show PyProof.Rows.cnt 10 ("^\n" : Str).cps.toList = 1 by decide +kernel)))) ⟨?_, _, _, _, rfl⟩
            exact fun b o h => s18 _ _ (s17 _ _ (s16 _ _ (s15 _ _ (s14 _ _ (s713 _ _ (s7 _ _ h))))))
          · dsimp only [gName, tNext, tSeq]
            refine ⟨_, rfl, rfl, _, rfl, iteF ?_⟩
            refine ⟨_, rfl, l, rfl, ⟨_, .inl (.inl hl13)⟩, fun Dl nDl => ?_⟩
            refine lc_it (walk_list (xs := xs.map V.str)) (fun j H' => Same H13 H' ∧ H' Dl = some (.lst (((xs.take j).map fun x => x ++ ("^" : Str)).map V.str))) ⟨same_upd nDl, upd_same⟩ (fun _ _ _ hQ => .inl (.inl (hQ.1 _ _ hl13))) ?_ ?_
            · rintro j u Ha Hb hj ⟨sm, hD⟩ ⟨rfl, hu⟩
              rw [List.length_map] at hj
              have hri : xs[j]? = some xs[j] := List.getElem?_eq_getElem hj
              rw [List.getElem?_map, hri] at hu
              cases Option.some.inj hu
              have hxl2 := hx100 _ (List.getElem_mem hj)
              generalize xs[j] = rr at hri hxl2
              refine ⟨rfl, _, rfl, _, _, rfl, rfl, by rw [sizeLine_eq]; show rr.length + 1 ≤ _; omega, _, hD, ?_, (fun b o h => by rw [upd_ne (ne_of_none h nDl)]; exact sm b o h), ?_⟩
              · rw [List.length_map, List.length_map, List.length_take, sizeLine_eq]
                omega
              · rw [upd_same, List.take_succ, hri, List.map_append, List.map_append]
                rfl
            rintro H14 ⟨s14, hDl⟩
            rw [List.length_map, List.take_length] at hDl
            generalize hxs2 : (xs.map fun x => x ++ ("^" : Str)) = xs2 at hDl
            have hx2l : xs2.length = xs.length := by rw [← hxs2, List.length_map]
            refine ⟨by show 1 ≤ sizeLine; decide, fun t1 n1 => ?_⟩
            have s15 := same_upd (o := .lst [.str ""]) n1
            refine ⟨Dl, t1, xs2.map V.str, [.str ""], rfl, rfl, s15 _ _ hDl, upd_same, by rw [List.length_map, sizeLine_eq]; show xs2.length + 1 ≤ _; omega, fun D nD => ?_⟩
            have s16 := same_upd (o := .lst (xs2.map V.str ++ [.str ""])) nD
            have Lp2 := ((Lp.same s14).same s15).same s16
            obtain ⟨dx4, w4, ts4, h14, -, -⟩ := id Lp2
            dsimp only [gName, tNext, tSeq]
            refine ⟨_, rfl, rfl, _, rfl, iteF ?_⟩
            refine ⟨_, rfl, p, dx4, _, rfl, h14, p, p2, v, z2, rfl, Lp2, fun yb hyb => ?_⟩
            refine ⟨_, rfl, l, xs.map V.str, rfl, .inl (.inl (.inl (s16 _ _ (s15 _ _ (s14 _ _ hl13))))), ?_⟩
            refine ⟨_, rfl, rfl, .inr ⟨_, rfl, _, _, rfl, rfl, ?_, rfl, _, rfl, ?_⟩⟩
            · refine wide_mul (a := 10) (b := 2) ?_ (by decide) (by decide) (by decide) (by decide)
              rw [List.length_map]
              have : (2 : Nat) ^ 10 = 1024 := by decide
              omega
            have hbk := breaks_ej (hyb.trans hd12) hxs
            rw [hbk, List.length_map]
            refine iteFb (congrArg (fun b => !b) (decide_eq_true (congrArg (fun z : Int => V.int (↑xs.length * z)) (show PyProof.Rows.cnt 10 ("^" : Str).cps.toList = 0 by decide +kernel)))) ⟨?_, _, _, _, rfl⟩
            exact fun b o h => s16 _ _ (s15 _ _ (s14 _ _ (s713 _ _ (s7 _ _ h))))
        · rintro σ H7 ⟨s7, y7, y9, y10, rfl⟩
          exact ⟨s7, _, _, _, _, _, rfl⟩
      · rintro σ H5 ⟨s5, y6, y7, y8, y9, y10, rfl⟩
        dsimp only [gName, tNext, tSeq]
        refine ⟨_, rfl, r, _, 400, rfl, hR4.same s5, by omega, by decide, fun line H6 hline hlow hR6 k6 => ?_⟩
        replace hR6 : RngAt H6 r (3000 * (i + 1)) := hR6.mono (goalN _ (by omega))
        have hl6 := k6 _ _ nlr (s5 _ _ hl)
        have k26 := kk.trans ((Kd.of s5).trans k6)
        clear k6 s5 hR4 hle4
        dsimp only [gName, tNext, tSeq]
        refine ⟨_, rfl, fun p dx np ndx nex => ⟨p, dx, line, rfl, upd_same, fun e H7 ne0 L0 kd0 => ⟨rfl, ?_⟩⟩⟩
        have s7 : Same H6 H7 := fun b o h => by
          have hb : upd (upd H6 dx (.own p)) p (.ins CL dx []) b = some o := by
            rw [upd_ne (ne_of_none h np), upd_ne (ne_of_none h ndx)]
            exact h
          exact kd0 b o (ne_of_none h np) hb
        obtain ⟨dxp, w0, ts0, h7, -, -⟩ := id L0
        have hR7 := hR6.same s7
        have hl7 := s7 _ _ hl6
        have k27 := k26.trans (Kd.of s7)
        clear kd0 ne0 nex ndx np
        dsimp only [gName, tNext, tSeq]
        refine ⟨_, rfl, p, dxp, _, rfl, h7, rfl, p, e, line, "", rfl, L0, ?_, fun out H8 s8 hout l4 n4 => ?_⟩
        · show line.cps.toList.length ≤ _
          rw [Array.length_toList]
          omega
        obtain ⟨yo, hyo, rfl⟩ := hout
        have hyo : yo = line := Str.ext' (Array.toList_inj.mp hyo)
        subst hyo
        have q1 := (hR7.same s8).ne n4
        have q2 : l ≠ l4 := ne_of_none (s8 _ _ hl7) n4
        have q3 : p ≠ l4 := ne_of_none (s8 _ _ h7) n4
        have q4 : e ≠ l4 := by
          obtain ⟨_, _, _, _, h2, _⟩ := L0.same s8
          exact ne_of_none h2 n4
        have q5 : H2 l4 = none := (k27.trans (Kd.of s8)).freeR (hR7.same s8) n4
        have s9 := same_upd (o := .lst ((Txt.split yo "\n").map V.str)) n4
        have h9 := s9 _ _ (s8 _ _ h7)
        have L9 := (L0.same s8).same s9
        have hl9 := s9 _ _ (s8 _ _ hl7)
        have hR9 := (hR7.same s8).same s9
        have k29 := (k27.trans (Kd.of s8)).trans (Kd.of s9)
        have h4 : upd H8 l4 (.lst ((Txt.split yo "\n").map V.str)) l4 = some (.lst ((Txt.split yo "\n").map V.str)) := upd_same
        revert h9 L9 hl9 hR9 k29 h4
        clear s9 s8 h7 L0 hl7 hR7 k27 n4
        generalize upd H8 l4 (.lst ((Txt.split yo "\n").map V.str)) = H9
        intro h9 L9 hl9 hR9 k29 h4
        have hw := PyProof.Rows.split_weight yo "\n" (by decide)
        have yl : yo.length ≤ 400 := hline
        dsimp only [gName, tNext, tSeq]
        refine ⟨⟨"\n", rfl⟩, _, rfl, "\n", l4, _, rfl, rfl, .inl (.inl (.inl h4)), ?_, _, rfl, rfl, _, rfl, ?_⟩
        · show _ + _ * 1 ≤ _
          omega
        refine iteFb (congrArg (fun b => !b) (decide_eq_true (congrArg V.str (join_split yo)))) ?_
        refine ⟨_, rfl, l4, (Txt.split yo "\n").map V.str, rfl, .inl (.inl (.inl h4)), _, rfl, p, dxp, _, rfl, h9, p, e, yo, "", rfl, L9, fun yb hyb => ?_⟩
        have hyb : yb = yo := Str.ext' (Array.toList_inj.mp hyb)
        subst hyb
        refine ⟨_, _, rfl, rfl, rfl, _, rfl, ?_⟩
        refine iteFb (congrArg (fun b => !b) (decide_eq_true (congrArg V.int (show (((Txt.split yb "\n").map V.str).length : Int) = Txt.count yb "\n" + 1 by rw [List.length_map, ct_split]; omega)))) ?_
        have hso : ∀ x ∈ Txt.split yb "\n", PyData.strOk x = true := fun x hx => sok_of (split_low hlow x hx)
        refine ⟨_, rfl, _, rfl, ⟨_, rfl⟩, yb, "\n", rfl, rfl, rfl, by rw [sizeLine_eq]; omega, fun l5 n5 => ?_⟩
        have s10 := same_upd (o := .lst ((Txt.split yb "\n").map V.str)) n5
        refine ⟨.list ((Txt.split yb "\n").map PyData.str), .list ((Txt.split yb "\n").map PyData.str), .lst (.inl (.inl (s10 _ _ h4))) (dp_strs _), .lst (.inl (.inl upd_same)) (dp_strs _), sh_strs hso, sh_strs hso, _, rfl, ?_⟩
        rw [eqv_strs hso]
        refine iteF ?_
        have h10 := s10 _ _ h4
        dsimp only [gName, tNext, tSeq]
        refine ⟨_, rfl, .inl ⟨rfl, _, .inl (.inl h10)⟩, l4, _, _, rfl, rfl, h10, ?_, ?_⟩
        · rw [List.length_map, sizeLine_eq]
          omega
        have L11 : LfAt CL (upd (upd H9 l5 (.lst ((Txt.split yb "\n").map V.str))) l4 (.lst ((Txt.split yb "\n").map V.str ++ [.str "more"]))) p e yb "" := by
          obtain ⟨dx', y', ts', g1, g2, g3⟩ := L9.same s10
          exact ⟨dx', y', ts', by rw [upd_ne q3]; exact g1, by rw [upd_ne q4]; exact g2, g3⟩
        have hl11 : upd (upd H9 l5 (.lst ((Txt.split yb "\n").map V.str))) l4 (.lst ((Txt.split yb "\n").map V.str ++ [.str "more"])) l = _ := (upd_ne q2).trans (s10 _ _ hl9)
        have hR11 := (hR9.same s10).own (o := .lst ((Txt.split yb "\n").map V.str ++ [.str "more"])) q1
        have k211 := kd_own (o := .lst ((Txt.split yb "\n").map V.str ++ [.str "more"])) (k29.trans (Kd.of s10)) q5
        have h411 : upd (upd H9 l5 (.lst ((Txt.split yb "\n").map V.str))) l4 (.lst ((Txt.split yb "\n").map V.str ++ [.str "more"])) l4 = _ := upd_same
        revert L11 hl11 hR11 k211 h411
        clear s10 h10 h9 L9 hl9 hR9 k29 h4 n5
        generalize upd (upd H9 l5 (.lst ((Txt.split yb "\n").map V.str))) l4 (.lst ((Txt.split yb "\n").map V.str ++ [.str "more"])) = H11
        intro L11 hl11 hR11 k211 h411
        obtain ⟨dxq, w1, ts1, h11, -, -⟩ := id L11
        dsimp only [gName, tNext, tSeq]
        refine ⟨_, rfl, p, dxq, _, rfl, h11, rfl, p, e, yb, "", rfl, L11, ?_, fun out H12 s12 hout l6 n6 => ?_⟩
        · show yb.cps.toList.length ≤ _
          rw [Array.length_toList]
          omega
        obtain ⟨yo, hyo, rfl⟩ := hout
        have hyo : yo = yb := Str.ext' (Array.toList_inj.mp hyo)
        subst hyo
        have s13 := same_upd (o := .lst ((Txt.split yo "\n").map V.str)) n6
        refine ⟨_, rfl, (1 : Int), rfl, (-1 : Int), rfl, l4, _, rfl, .inl (.inl (s13 _ _ (s12 _ _ h411))), fun p2 n2 => ?_⟩
        have ec : cutV ((Txt.split yo "\n").map V.str ++ [V.str "more"]) none (some (-1)) = (Txt.split yo "\n").map V.str := cutV_lastR _ _
        rw [ec]
        have s14 := same_upd (o := .lst ((Txt.split yo "\n").map V.str)) n2
        refine ⟨.list ((Txt.split yo "\n").map PyData.str), .list ((Txt.split yo "\n").map PyData.str), .lst (.inl (.inl (s14 _ _ upd_same))) (dp_strs _), .lst (.inl (.inl upd_same)) (dp_strs _), sh_strs hso, sh_strs hso, _, rfl, ?_⟩
        rw [eqv_strs hso]
        refine iteF ?_
        refine ⟨_, rfl, _, .list (xs.map PyData.str), rfl, .lst (.inl (.inl (s14 _ _ (s13 _ _ (s12 _ _ hl11))))) (dp_strs xs), fit_strs hxs hxl, _, rfl, rfl, _, rfl, ?_⟩
        rw [hsh]
        refine iteFb (congrArg (fun b => !b) (decide_eq_true rfl)) ⟨_, _, _, _, _, _, _, _, _, _, rfl, ((hR11.same s12).same s13).same s14, ((k211.trans (Kd.of s12)).trans (Kd.of s13)).trans (Kd.of s14)⟩
    · rintro σ H3 ⟨y3, y4, y5, y6, y7, y8, y9, y10, y11, y12, rfl, hR3, k3⟩
      dsimp only [gName, tNext, tSeq]
      refine ⟨rfl, by show 0 ≤ sizeLine; decide, fun l0 n0 => ?_⟩
      dsimp only [tNil, tCons]
      refine ⟨l0, [], "^\n", rfl, upd_same, by decide, (fun x h => by cases h), by decide, fun p e y H4 np ne hy L4 s4 => ?_⟩
      obtain ⟨dx, w0, ts0, h4, -, -⟩ := id L4
      have hy0 : y.cps.toList = [] := by rw [hy]; rfl
      refine ⟨p, dx, _, rfl, h4, rfl, p, e, y, "", rfl, L4, ?_, fun out H5 s5 hout l4 n4 => ?_⟩
      · show y.cps.toList.length ≤ _
        rw [hy0]
        decide
      obtain ⟨yo, hyo, rfl⟩ := hout
      have hyo : yo.cps.toList = ej [10] [] := hyo.trans hy0
      have hpo : Txt.split yo "\n" = [("" : Str)] := pieces_lf (xs := []) hyo (fun y h => by cases h)
      rw [hpo]
      have hso : ∀ x ∈ [("" : Str)], PyData.strOk x = true := fun x h => by
        rw [List.mem_singleton.mp h]
        decide +kernel
      refine ⟨by show 1 ≤ sizeLine; decide, fun l5 n5 => ?_⟩
      have s6 := same_upd (o := .lst [.str ""]) n5
      refine ⟨.list ([("" : Str)].map PyData.str), .list ([("" : Str)].map PyData.str), .lst (.inl (.inl (s6 _ _ upd_same))) (dp_strs [("" : Str)]), .lst (.inl (.inl upd_same)) (dp_strs [("" : Str)]), sh_strs hso, sh_strs hso, _, rfl, ?_⟩
      rw [eqv_strs hso]
      refine iteT ?_
      refine fun p dx np ndx nex => ⟨p, dx, "a^b\n", rfl, upd_same, fun e H7 ne0 L0 kd0 => ⟨rfl, ?_⟩⟩
      obtain ⟨dxp, w0, ts0, h7, -, -⟩ := id L0
      refine ⟨p, dxp, _, rfl, h7, p, e, "a^b\n", "", rfl, L0, fun yb hyb => ⟨rfl, ?_⟩⟩
      have e1 : Txt.count yb "\n" = 1 := by
        rw [ct_cnt, hyb]
        decide +kernel
      rw [e1]
      exact q H7
end
end Lw
namespace Lw
open PySem PySem.Spec L2 Lx
theorem sz5 {n : Nat} (h : n ≤ 5) : n ≤ sizeLine := by
  rw [sizeLine_eq]; omega
theorem all_mk {P : Program} {w : World} {K : PySem.W.Frag} {h : Heap} {mg : Str → Option Value} {fa CLineFile pFt pFc pFf pFb pOc aN aS aU aD aM aQ aR rU rD rM rN fCc fSa fUg fUo fAk fBk fBo fFo fTa fFi fFt fFc fFf fFv fFe fFl fFb fOc fLg fLd fLl fLs fLw fW : Addr} (X : K.In h) (G : h.Ns mainGlobals mg) (hfa : mg "law" = some (.ref fa))
    {ocCc kVCc docCc pmCc cdCc ctCc : Value} {odCc anCc : Option Addr} {oslCc : Array (Option Value)}
    {ocSa kVSa docSa pmSa cdSa ctSa : Value} {odSa anSa : Option Addr} {oslSa : Array (Option Value)}
    {ocUg kVUg docUg pmUg cdUg ctUg : Value} {odUg anUg : Option Addr} {oslUg : Array (Option Value)}
    {ocUo kVUo docUo pmUo cdUo ctUo : Value} {odUo anUo : Option Addr} {oslUo : Array (Option Value)}
    {ocAk kVAk docAk pmAk cdAk ctAk : Value} {odAk anAk : Option Addr} {oslAk : Array (Option Value)}
    {ocBk kVBk docBk pmBk cdBk ctBk : Value} {odBk anBk : Option Addr} {oslBk : Array (Option Value)}
    {ocBo kVBo docBo pmBo cdBo ctBo : Value} {odBo anBo : Option Addr} {oslBo : Array (Option Value)}
    {ocFo kVFo docFo pmFo cdFo ctFo : Value} {odFo anFo : Option Addr} {oslFo : Array (Option Value)}
    {ocTa kVTa docTa pmTa cdTa ctTa : Value} {odTa anTa : Option Addr} {oslTa : Array (Option Value)}
    {ocFi kVFi docFi pmFi cdFi ctFi : Value} {odFi anFi : Option Addr} {oslFi : Array (Option Value)}
    {ocFt kVFt docFt pmFt cdFt ctFt : Value} {odFt anFt : Option Addr} {oslFt : Array (Option Value)} {restFt : List Value}
    {ocFc kVFc docFc pmFc cdFc ctFc : Value} {odFc anFc : Option Addr} {oslFc : Array (Option Value)} {restFc : List Value}
    {ocFf kVFf docFf pmFf cdFf ctFf : Value} {odFf anFf : Option Addr} {oslFf : Array (Option Value)} {restFf : List Value}
    {ocFv kVFv docFv pmFv cdFv ctFv : Value} {odFv anFv : Option Addr} {oslFv : Array (Option Value)}
    {ocFe kVFe docFe pmFe cdFe ctFe : Value} {odFe anFe : Option Addr} {oslFe : Array (Option Value)}
    {ocFl kVFl docFl pmFl cdFl ctFl : Value} {odFl anFl : Option Addr} {oslFl : Array (Option Value)}
    {ocFb kVFb docFb pmFb cdFb ctFb : Value} {odFb anFb : Option Addr} {oslFb : Array (Option Value)} {restFb : List Value}
    {ocOc kVOc docOc pmOc cdOc ctOc : Value} {odOc anOc : Option Addr} {oslOc : Array (Option Value)} {restOc : List Value}
    {ocLg kVLg docLg pmLg cdLg ctLg : Value} {odLg anLg : Option Addr} {oslLg : Array (Option Value)}
    {ocLd kVLd docLd pmLd cdLd ctLd : Value} {odLd anLd : Option Addr} {oslLd : Array (Option Value)}
    {ocLl kVLl docLl pmLl cdLl ctLl : Value} {odLl anLl : Option Addr} {oslLl : Array (Option Value)}
    {ocLs kVLs docLs pmLs cdLs ctLs : Value} {odLs anLs : Option Addr} {oslLs : Array (Option Value)}
    {ocLw kVLw docLw pmLw cdLw ctLw : Value} {odLw anLw : Option Addr} {oslLw : Array (Option Value)}
    {ocW kVW docW pmW cdW ctW : Value} {odW anW : Option Addr} {oslW : Array (Option Value)}
    {tS : Tok}
    {n1 n2 n3 : Tok} {nN : Nat} {odN : Option Addr} {slN : Array (Option Value)}
    {uU0 uU1 uU2 uD0 uD1 uD2 uM0 uM1 uM2 uM3 uM4 uN0 uN1 uN2 uN3 : Tok} {esS : Array DictEntry} {nS nU nD nM nQ : Nat} {odU odD odM odQ : Option Addr} {slU slD slM slQ : Array (Option Value)}
    {esR : Array DictEntry} {nR : Nat} {tRU0 tRU1 : Tok} {nRU : Nat} {odRU : Option Addr} {slRU : Array (Option Value)} {tRD0 tRD1 : Tok} {nRD : Nat} {odRD : Option Addr} {slRD : Array (Option Value)} {tRM0 tRM1 : Tok} {nRM : Nat} {odRM : Option Addr} {slRM : Array (Option Value)} {tRN0 tRN1 : Tok} {nRN : Nat} {odRN : Option Addr} {slRN : Array (Option Value)}
    (aCLineFile : PySem.W.nsIn K mainGlobals "LineFile" = some (some (.ref CLineFile)))
    (pgLineFile : PySem.W.plainGet K CLineFile Str.empty = true)
    (hdLineFile : PySem.W.hasDictIn K CLineFile = true)
    (poLineFile : PySem.W.plainOver K CLineFile = true)
    (mkLineFile : PySem.W.makesIn K CLineFile = true)
    (kcLineFile : PySem.W.keepIn K (.ref CLineFile) = true)
    (saLineFile : PySem.W.findIn K (.ref CLineFile) "__setattr__" = some (some (.builtin "object.__setattr__")))
    (n0LineFile : PySem.W.findIn K (.ref CLineFile) "_text" = some none)
    (n1LineFile : PySem.W.findIn K (.ref CLineFile) "_chain" = some none)
    (n2LineFile : PySem.W.findIn K (.ref CLineFile) "_earlier" = some none)
    (aCc : PySem.W.nsIn K mainGlobals "check_chain" = some (some (.ref fCc)))
    (lCc : K.lookup fCc = some ⟨ocCc, odCc, .func (PySem.W.fnOf "check_chain" "check_chain" (defArgs sChkChain) (defBody sChkChain) (defScope sChkChain) .none kVCc docCc pmCc anCc cdCc ctCc), oslCc⟩)
    (c_Cc : PySem.W.codeIn K cdCc "check_chain" = true)
    (k_Cc : PySem.W.keepIn K (.ref fCc) = true)
    (aSa : PySem.W.nsIn K mainGlobals "signs_after" = some (some (.ref fSa)))
    (lSa : K.lookup fSa = some ⟨ocSa, odSa, .func (PySem.W.fnOf "signs_after" "signs_after" (defArgs sSigns) (defBody sSigns) (defScope sSigns) .none kVSa docSa pmSa anSa cdSa ctSa), oslSa⟩)
    (c_Sa : PySem.W.codeIn K cdSa "signs_after" = true)
    (k_Sa : PySem.W.keepIn K (.ref fSa) = true)
    (aUg : PySem.W.nsIn K mainGlobals "units_of_group" = some (some (.ref fUg)))
    (lUg : K.lookup fUg = some ⟨ocUg, odUg, .func (PySem.W.fnOf "units_of_group" "units_of_group" (defArgs sUog) (defBody sUog) (defScope sUog) .none kVUg docUg pmUg anUg cdUg ctUg), oslUg⟩)
    (c_Ug : PySem.W.codeIn K cdUg "units_of_group" = true)
    (k_Ug : PySem.W.keepIn K (.ref fUg) = true)
    (aUo : PySem.W.nsIn K mainGlobals "units_of_one" = some (some (.ref fUo)))
    (lUo : K.lookup fUo = some ⟨ocUo, odUo, .func (PySem.W.fnOf "units_of_one" "units_of_one" (defArgs sOne) (defBody sOne) (defScope sOne) .none kVUo docUo pmUo anUo cdUo ctUo), oslUo⟩)
    (c_Uo : PySem.W.codeIn K cdUo "units_of_one" = true)
    (k_Uo : PySem.W.keepIn K (.ref fUo) = true)
    (aAk : PySem.W.nsIn K mainGlobals "after_keep" = some (some (.ref fAk)))
    (lAk : K.lookup fAk = some ⟨ocAk, odAk, .func (PySem.W.fnOf "after_keep" "after_keep" (defArgs sAftKeep) (defBody sAftKeep) (defScope sAftKeep) .none kVAk docAk pmAk anAk cdAk ctAk), oslAk⟩)
    (c_Ak : PySem.W.codeIn K cdAk "after_keep" = true)
    (k_Ak : PySem.W.keepIn K (.ref fAk) = true)
    (aBk : PySem.W.nsIn K mainGlobals "before_keep" = some (some (.ref fBk)))
    (lBk : K.lookup fBk = some ⟨ocBk, odBk, .func (PySem.W.fnOf "before_keep" "before_keep" (defArgs sBefKeep) (defBody sBefKeep) (defScope sBefKeep) .none kVBk docBk pmBk anBk cdBk ctBk), oslBk⟩)
    (c_Bk : PySem.W.codeIn K cdBk "before_keep" = true)
    (k_Bk : PySem.W.keepIn K (.ref fBk) = true)
    (aBo : PySem.W.nsIn K mainGlobals "form_of_both" = some (some (.ref fBo)))
    (lBo : K.lookup fBo = some ⟨ocBo, odBo, .func (PySem.W.fnOf "form_of_both" "form_of_both" (defArgs sBoth) (defBody sBoth) (defScope sBoth) .none kVBo docBo pmBo anBo cdBo ctBo), oslBo⟩)
    (c_Bo : PySem.W.codeIn K cdBo "form_of_both" = true)
    (k_Bo : PySem.W.keepIn K (.ref fBo) = true)
    (aFo : PySem.W.nsIn K mainGlobals "form_of_chain" = some (some (.ref fFo)))
    (lFo : K.lookup fFo = some ⟨ocFo, odFo, .func (PySem.W.fnOf "form_of_chain" "form_of_chain" (defArgs sFoc) (defBody sFoc) (defScope sFoc) .none kVFo docFo pmFo anFo cdFo ctFo), oslFo⟩)
    (c_Fo : PySem.W.codeIn K cdFo "form_of_chain" = true)
    (k_Fo : PySem.W.keepIn K (.ref fFo) = true)
    (aTa : PySem.W.nsIn K mainGlobals "text_after_step" = some (some (.ref fTa)))
    (lTa : K.lookup fTa = some ⟨ocTa, odTa, .func (PySem.W.fnOf "text_after_step" "text_after_step" (defArgs sTextAfterStep) (defBody sTextAfterStep) (defScope sTextAfterStep) .none kVTa docTa pmTa anTa cdTa ctTa), oslTa⟩)
    (c_Ta : PySem.W.codeIn K cdTa "text_after_step" = true)
    (k_Ta : PySem.W.keepIn K (.ref fTa) = true)
    (aFi : PySem.W.findIn K (.ref CLineFile) "__init__" = some (some (.ref fFi)))
    (iFi : PySem.W.isFn K (.ref fFi) = true)
    (lFi : K.lookup fFi = some ⟨ocFi, odFi, .func (PySem.W.fnOf "__init__" "LineFile.__init__" (defArgs sLineFile___init__) (defBody sLineFile___init__) (defScope sLineFile___init__) .none kVFi docFi pmFi anFi cdFi ctFi), oslFi⟩)
    (c_Fi : PySem.W.codeIn K cdFi "LineFile.__init__" = true)
    (k_Fi : PySem.W.keepIn K (.ref fFi) = true)
    (paFt : PySem.W.findIn K (.ref CLineFile) "text" = some (some (.ref pFt)))
    (pbFt : PySem.W.specialIn K (.ref pFt) "__get__" = some (some (.builtin "property.__get__")))
    (pcFt : PySem.W.takesIn K (.ref pFt) = some true)
    (pdFt : PySem.W.recIn K pFt "property" = some (.ref fFt :: restFt))
    (lFt : K.lookup fFt = some ⟨ocFt, odFt, .func (PySem.W.fnOf "text" "LineFile.text" (defArgs sLineFile_text) (defBody sLineFile_text) (defScope sLineFile_text) .none kVFt docFt pmFt anFt cdFt ctFt), oslFt⟩)
    (c_Ft : PySem.W.codeIn K cdFt "LineFile.text" = true)
    (k_Ft : PySem.W.keepIn K (.ref fFt) = true)
    (paFc : PySem.W.findIn K (.ref CLineFile) "chain" = some (some (.ref pFc)))
    (pbFc : PySem.W.specialIn K (.ref pFc) "__get__" = some (some (.builtin "property.__get__")))
    (pcFc : PySem.W.takesIn K (.ref pFc) = some true)
    (pdFc : PySem.W.recIn K pFc "property" = some (.ref fFc :: restFc))
    (lFc : K.lookup fFc = some ⟨ocFc, odFc, .func (PySem.W.fnOf "chain" "LineFile.chain" (defArgs sLineFile_chain) (defBody sLineFile_chain) (defScope sLineFile_chain) .none kVFc docFc pmFc anFc cdFc ctFc), oslFc⟩)
    (c_Fc : PySem.W.codeIn K cdFc "LineFile.chain" = true)
    (k_Fc : PySem.W.keepIn K (.ref fFc) = true)
    (paFf : PySem.W.findIn K (.ref CLineFile) "form" = some (some (.ref pFf)))
    (pbFf : PySem.W.specialIn K (.ref pFf) "__get__" = some (some (.builtin "property.__get__")))
    (pcFf : PySem.W.takesIn K (.ref pFf) = some true)
    (pdFf : PySem.W.recIn K pFf "property" = some (.ref fFf :: restFf))
    (lFf : K.lookup fFf = some ⟨ocFf, odFf, .func (PySem.W.fnOf "form" "LineFile.form" (defArgs sLineFile_form) (defBody sLineFile_form) (defScope sLineFile_form) .none kVFf docFf pmFf anFf cdFf ctFf), oslFf⟩)
    (c_Ff : PySem.W.codeIn K cdFf "LineFile.form" = true)
    (k_Ff : PySem.W.keepIn K (.ref fFf) = true)
    (aFv : PySem.W.findIn K (.ref CLineFile) "convert" = some (some (.ref fFv)))
    (iFv : PySem.W.isFn K (.ref fFv) = true)
    (lFv : K.lookup fFv = some ⟨ocFv, odFv, .func (PySem.W.fnOf "convert" "LineFile.convert" (defArgs sLineFile_convert) (defBody sLineFile_convert) (defScope sLineFile_convert) .none kVFv docFv pmFv anFv cdFv ctFv), oslFv⟩)
    (c_Fv : PySem.W.codeIn K cdFv "LineFile.convert" = true)
    (k_Fv : PySem.W.keepIn K (.ref fFv) = true)
    (aFe : PySem.W.findIn K (.ref CLineFile) "__eq__" = some (some (.ref fFe)))
    (iFe : PySem.W.isFn K (.ref fFe) = true)
    (lFe : K.lookup fFe = some ⟨ocFe, odFe, .func (PySem.W.fnOf "__eq__" "LineFile.__eq__" (defArgs sLineFile___eq__) (defBody sLineFile___eq__) (defScope sLineFile___eq__) .none kVFe docFe pmFe anFe cdFe ctFe), oslFe⟩)
    (c_Fe : PySem.W.codeIn K cdFe "LineFile.__eq__" = true)
    (k_Fe : PySem.W.keepIn K (.ref fFe) = true)
    (aFl : PySem.W.findIn K (.ref CLineFile) "lines" = some (some (.ref fFl)))
    (iFl : PySem.W.isFn K (.ref fFl) = true)
    (lFl : K.lookup fFl = some ⟨ocFl, odFl, .func (PySem.W.fnOf "lines" "LineFile.lines" (defArgs sLineFile_lines) (defBody sLineFile_lines) (defScope sLineFile_lines) .none kVFl docFl pmFl anFl cdFl ctFl), oslFl⟩)
    (c_Fl : PySem.W.codeIn K cdFl "LineFile.lines" = true)
    (k_Fl : PySem.W.keepIn K (.ref fFl) = true)
    (paFb : PySem.W.findIn K (.ref CLineFile) "breaks" = some (some (.ref pFb)))
    (pbFb : PySem.W.specialIn K (.ref pFb) "__get__" = some (some (.builtin "property.__get__")))
    (pcFb : PySem.W.takesIn K (.ref pFb) = some true)
    (pdFb : PySem.W.recIn K pFb "property" = some (.ref fFb :: restFb))
    (lFb : K.lookup fFb = some ⟨ocFb, odFb, .func (PySem.W.fnOf "breaks" "LineFile.breaks" (defArgs sLineFile_breaks) (defBody sLineFile_breaks) (defScope sLineFile_breaks) .none kVFb docFb pmFb anFb cdFb ctFb), oslFb⟩)
    (c_Fb : PySem.W.codeIn K cdFb "LineFile.breaks" = true)
    (k_Fb : PySem.W.keepIn K (.ref fFb) = true)
    (prOc : PySem.W.readsIn K CLineFile (.type "type") = true)
    (pgOc : PySem.W.specialIn K (.ref CLineFile) "__getattribute__" = some (some (.builtin "type.__getattribute__")))
    (paOc : PySem.W.findCls K (.ref CLineFile) (.type "type") "of_lines" = some (.get (.builtin "classmethod.__get__") (.ref pOc) .none (.ref CLineFile)))
    (pdOc : PySem.W.recIn K pOc "classmethod" = some (.ref fOc :: restOc))
    (pfOc : PySem.W.fnIn K fOc = true)
    (lOc : K.lookup fOc = some ⟨ocOc, odOc, .func (PySem.W.fnOf "of_lines" "LineFile.of_lines" (defArgs sLineFile_of_lines) (defBody sLineFile_of_lines) (defScope sLineFile_of_lines) .none kVOc docOc pmOc anOc cdOc ctOc), oslOc⟩)
    (c_Oc : PySem.W.codeIn K cdOc "LineFile.of_lines" = true)
    (k_Oc : PySem.W.keepIn K (.ref fOc) = true)
    (aLg : PySem.W.nsIn K mainGlobals "_law_rng" = some (some (.ref fLg)))
    (lLg : K.lookup fLg = some ⟨ocLg, odLg, .func (PySem.W.fnOf "_law_rng" "_law_rng" (defArgs sLRng) (defBody sLRng) (defScope sLRng) .none kVLg docLg pmLg anLg cdLg ctLg), oslLg⟩)
    (c_Lg : PySem.W.codeIn K cdLg "_law_rng" = true)
    (k_Lg : PySem.W.keepIn K (.ref fLg) = true)
    (aLd : PySem.W.nsIn K mainGlobals "_law_draw" = some (some (.ref fLd)))
    (lLd : K.lookup fLd = some ⟨ocLd, odLd, .func (PySem.W.fnOf "_law_draw" "_law_draw" (defArgs sLDraw) (defBody sLDraw) (defScope sLDraw) .none kVLd docLd pmLd anLd cdLd ctLd), oslLd⟩)
    (c_Ld : PySem.W.codeIn K cdLd "_law_draw" = true)
    (k_Ld : PySem.W.keepIn K (.ref fLd) = true)
    (aLl : PySem.W.nsIn K mainGlobals "_law_line" = some (some (.ref fLl)))
    (lLl : K.lookup fLl = some ⟨ocLl, odLl, .func (PySem.W.fnOf "_law_line" "_law_line" (defArgs sLLine) (defBody sLLine) (defScope sLLine) .none kVLl docLl pmLl anLl cdLl ctLl), oslLl⟩)
    (c_Ll : PySem.W.codeIn K cdLl "_law_line" = true)
    (k_Ll : PySem.W.keepIn K (.ref fLl) = true)
    (aLs : PySem.W.nsIn K mainGlobals "_law_lines" = some (some (.ref fLs)))
    (lLs : K.lookup fLs = some ⟨ocLs, odLs, .func (PySem.W.fnOf "_law_lines" "_law_lines" (defArgs sLLines) (defBody sLLines) (defScope sLLines) .none kVLs docLs pmLs anLs cdLs ctLs), oslLs⟩)
    (c_Ls : PySem.W.codeIn K cdLs "_law_lines" = true)
    (k_Ls : PySem.W.keepIn K (.ref fLs) = true)
    (aLw : PySem.W.nsIn K mainGlobals "_law_between" = some (some (.ref fLw)))
    (lLw : K.lookup fLw = some ⟨ocLw, odLw, .func (PySem.W.fnOf "_law_between" "_law_between" (defArgs sLBetween) (defBody sLBetween) (defScope sLBetween) .none kVLw docLw pmLw anLw cdLw ctLw), oslLw⟩)
    (c_Lw : PySem.W.codeIn K cdLw "_law_between" = true)
    (k_Lw : PySem.W.keepIn K (.ref fLw) = true)
    (aW : PySem.W.nsIn K mainGlobals "law" = some (some (.ref fW)))
    (lW : K.lookup fW = some ⟨ocW, odW, .func (PySem.W.fnOf "law" "law" (defArgs sLaw) (defBody sLaw) (defScope sLaw) .none kVW docW pmW anW cdW ctW), oslW⟩)
    (c_W : PySem.W.codeIn K cdW "law" = true)
    (k_W : PySem.W.keepIn K (.ref fW) = true)
    (z_abs : PySem.W.nsIn K mainGlobals "abs" = some none)
    (z_enumerate : PySem.W.nsIn K mainGlobals "enumerate" = some none)
    (z_int : PySem.W.nsIn K mainGlobals "int" = some none)
    (z_len : PySem.W.nsIn K mainGlobals "len" = some none)
    (z_list : PySem.W.nsIn K mainGlobals "list" = some none)
    (z_max : PySem.W.nsIn K mainGlobals "max" = some none)
    (z_min : PySem.W.nsIn K mainGlobals "min" = some none)
    (z_range : PySem.W.nsIn K mainGlobals "range" = some none)
    (z_repr : PySem.W.nsIn K mainGlobals "repr" = some none)
    (z_isinstance : PySem.W.nsIn K mainGlobals "isinstance" = some none)
    (gS : PySem.W.nsIn K mainGlobals "STEPS" = some (some (.str "UDMN" tS)))
    (gN : PySem.W.nsIn K mainGlobals "NOTHING" = some (some (.ref aN)))
    (hN : K.lookup aN = some ⟨.type "tuple", odN, .seq #[.str "keep" n1, .int 0 n2, .int 0 n3] nN, slN⟩)
    (gQ : PySem.W.nsIn K mainGlobals "STEP_FORMS" = some (some (.ref aS)))
    (hS : K.lookup aS = some ⟨.type "dict", none, .dict esS nS, #[]⟩)
    (kS : PySem.W.KeysLit w.params esS.toList)
    (sU : PySem.W.nsIn K aS "U" = some (some (.ref aU)))
    (hUt : K.lookup aU = some ⟨.type "tuple", odU, .seq #[.str "keep" uU0, .int 0 uU1, .int 1 uU2] nU, slU⟩)
    (sD : PySem.W.nsIn K aS "D" = some (some (.ref aD)))
    (hDt : K.lookup aD = some ⟨.type "tuple", odD, .seq #[.str "keep" uD0, .int 1 uD1, .int 0 uD2] nD, slD⟩)
    (sM : PySem.W.nsIn K aS "M" = some (some (.ref aM)))
    (hMt : K.lookup aM = some ⟨.type "tuple", odM, .seq #[.str "lf" uM0, .int 0 uM1, .int 0 uM2, .int 1 uM3, .int 0 uM4] nM, slM⟩)
    (sN : PySem.W.nsIn K aS "N" = some (some (.ref aQ)))
    (hNt : K.lookup aQ = some ⟨.type "tuple", odQ, .seq #[.str "cr" uN0, .int 0 uN1, .int 0 uN2, .int 1 uN3] nQ, slQ⟩)
    (gR : PySem.W.nsIn K mainGlobals "REPLACEMENTS" = some (some (.ref aR)))
    (hR : K.lookup aR = some ⟨.type "dict", none, .dict esR nR, #[]⟩)
    (kR : PySem.W.KeysLit w.params esR.toList)
    (rrU : PySem.W.nsIn K aR "U" = some (some (.ref rU)))
    (rhU : K.lookup rU = some ⟨.type "tuple", odRU, .seq #[.str "\n" tRU0, .str "^\n" tRU1] nRU, slRU⟩)
    (rzU : tRU0 ≠ 0 ∧ tRU1 ≠ 0 ∧ tRU0 ≠ tRU1)
    (rrD : PySem.W.nsIn K aR "D" = some (some (.ref rD)))
    (rhD : K.lookup rD = some ⟨.type "tuple", odRD, .seq #[.str "^\n" tRD0, .str "\n" tRD1] nRD, slRD⟩)
    (rzD : tRD0 ≠ 0 ∧ tRD1 ≠ 0 ∧ tRD0 ≠ tRD1)
    (rrM : PySem.W.nsIn K aR "M" = some (some (.ref rM)))
    (rhM : K.lookup rM = some ⟨.type "tuple", odRM, .seq #[.str "^" tRM0, .str "\n" tRM1] nRM, slRM⟩)
    (rzM : tRM0 ≠ 0 ∧ tRM1 ≠ 0 ∧ tRM0 ≠ tRM1)
    (rrN : PySem.W.nsIn K aR "N" = some (some (.ref rN)))
    (rhN : K.lookup rN = some ⟨.type "tuple", odRN, .seq #[.str "\n" tRN0, .str "^" tRN1] nRN, slRN⟩)
    (rzN : tRN0 ≠ 0 ∧ tRN1 ≠ 0 ∧ tRN0 ≠ tRN1)
    (xca : PySem.W.findIn K (.ref CLineFile) "__class__" = some (some (.builtin "object.__class__")))
    (xsp : PySem.W.specialIn K (.builtin "object.__class__") "__get__" = some (some (.builtin "getset_descriptor.__get__")))
    (xtk : PySem.W.takesIn K (.builtin "object.__class__") = some true)
    (xob : PySem.W.mroIn K CLineFile (.type "object") = some true)
    (xne : PySem.W.findIn K (.ref CLineFile) "__ne__" = some (some (.builtin "object.__ne__")))
    (xoq : PySem.W.subIn K (.ref CLineFile) (.type "object") = some true)
    (xty : PySem.W.typeIn K (.ref CLineFile) = some (.type "type"))
    (xfNoneType : PySem.W.notFirst K CLineFile (.type "NoneType") = true)
    (xfstr : PySem.W.notFirst K CLineFile (.type "str") = true)
    (xflist : PySem.W.notFirst K CLineFile (.type "list") = true)
    (xfint : PySem.W.notFirst K CLineFile (.type "int") = true)
    (xftuple : PySem.W.notFirst K CLineFile (.type "tuple") = true)
    (xfdict : PySem.W.notFirst K CLineFile (.type "dict") = true)
    (xfbool : PySem.W.notFirst K CLineFile (.type "bool") = true) :
    ∃ fd : FuncData, (∀ (s : Shared) (v : Value), BindsTo s fd ⟨[v], []⟩ [("script", v)]) ∧ ∀ base : Heap, K.In base → base.Ns mainGlobals mg → FnG P w K mg base CX0 8 fa fd ["script"] (spLaw K) := by
  have e := hfa.symm.trans (PySem.W.mg_of X G aW)
  cases e
  have FCc := fun_mk (st := sChkChain) lCc c_Cc k_Cc
  have bCc := FCc.binds (ps := ["chain"]) fun _ _ _ _ _ _ us hl => match us, hl with | [_], _ => rfl
  have gCc' := PySem.W.mg_of X G aCc
  have FSa := fun_mk (st := sSigns) lSa c_Sa k_Sa
  have bSa := FSa.binds (ps := ["j", "wanted"]) fun _ _ _ _ _ _ us hl => match us, hl with | [_, _], _ => rfl
  have gSa' := PySem.W.mg_of X G aSa
  have FUg := fun_mk (st := sUog) lUg c_Ug k_Ug
  have bUg := FUg.binds (ps := ["j", "wanted"]) fun _ _ _ _ _ _ us hl => match us, hl with | [_, _], _ => rfl
  have gUg' := PySem.W.mg_of X G aUg
  have FUo := fun_mk (st := sOne) lUo c_Uo k_Uo
  have bUo := FUo.binds (ps := ["first", "second"]) fun _ _ _ _ _ _ us hl => match us, hl with | [_, _], _ => rfl
  have gUo' := PySem.W.mg_of X G aUo
  have FAk := fun_mk (st := sAftKeep) lAk c_Ak k_Ak
  have bAk := FAk.binds (ps := ["first", "second"]) fun _ _ _ _ _ _ us hl => match us, hl with | [_, _], _ => rfl
  have gAk' := PySem.W.mg_of X G aAk
  have FBk := fun_mk (st := sBefKeep) lBk c_Bk k_Bk
  have bBk := FBk.binds (ps := ["first", "second"]) fun _ _ _ _ _ _ us hl => match us, hl with | [_, _], _ => rfl
  have gBk' := PySem.W.mg_of X G aBk
  have FBo := fun_mk (st := sBoth) lBo c_Bo k_Bo
  have bBo := FBo.binds (ps := ["first", "second"]) fun _ _ _ _ _ _ us hl => match us, hl with | [_, _], _ => rfl
  have gBo' := PySem.W.mg_of X G aBo
  have FFo := fun_mk (st := sFoc) lFo c_Fo k_Fo
  have bFo := FFo.binds (ps := ["chain"]) fun _ _ _ _ _ _ us hl => match us, hl with | [_], _ => rfl
  have gFo' := PySem.W.mg_of X G aFo
  have FTa := fun_mk (st := sTextAfterStep) lTa c_Ta k_Ta
  have bTa := FTa.binds (ps := ["text", "letter"]) fun _ _ _ _ _ _ us hl => match us, hl with | [_, _], _ => rfl
  have gTa' := PySem.W.mg_of X G aTa
  have FFi := fun_mk (st := sLineFile___init__) lFi c_Fi k_Fi
  have bFi := FFi.binds (ps := ["self", "text"]) fun _ _ _ _ _ _ us hl => match us, hl with | [_, _], _ => rfl
  have FFt := fun_mk (st := sLineFile_text) lFt c_Ft k_Ft
  have bFt := FFt.binds (ps := ["self"]) fun _ _ _ _ _ _ us hl => match us, hl with | [_], _ => rfl
  have prFt : PropOf K CLineFile "text" pFt fFt := ⟨paFt, pbFt, pcFt, ⟨_, pdFt⟩⟩
  have FFc := fun_mk (st := sLineFile_chain) lFc c_Fc k_Fc
  have bFc := FFc.binds (ps := ["self"]) fun _ _ _ _ _ _ us hl => match us, hl with | [_], _ => rfl
  have prFc : PropOf K CLineFile "chain" pFc fFc := ⟨paFc, pbFc, pcFc, ⟨_, pdFc⟩⟩
  have FFf := fun_mk (st := sLineFile_form) lFf c_Ff k_Ff
  have bFf := FFf.binds (ps := ["self"]) fun _ _ _ _ _ _ us hl => match us, hl with | [_], _ => rfl
  have prFf : PropOf K CLineFile "form" pFf fFf := ⟨paFf, pbFf, pcFf, ⟨_, pdFf⟩⟩
  have FFv := fun_mk (st := sLineFile_convert) lFv c_Fv k_Fv
  have FFe := fun_mk (st := sLineFile___eq__) lFe c_Fe k_Fe
  have bFe := FFe.binds (ps := ["self", "other"]) fun _ _ _ _ _ _ us hl => match us, hl with | [_, _], _ => rfl
  have FFl := fun_mk (st := sLineFile_lines) lFl c_Fl k_Fl
  have bFl := FFl.binds (ps := ["self"]) fun _ _ _ _ _ _ us hl => match us, hl with | [_], _ => rfl
  have FFb := fun_mk (st := sLineFile_breaks) lFb c_Fb k_Fb
  have bFb := FFb.binds (ps := ["self"]) fun _ _ _ _ _ _ us hl => match us, hl with | [_], _ => rfl
  have prFb : PropOf K CLineFile "breaks" pFb fFb := ⟨paFb, pbFb, pcFb, ⟨_, pdFb⟩⟩
  have FOc := fun_mk (st := sLineFile_of_lines) lOc c_Oc k_Oc
  have bOc := FOc.binds (ps := ["cls", "lines", "ending"]) fun _ _ _ _ _ _ us hl => match us, hl with | [_, _, _], _ => rfl
  have RCOc : ClX.CRead K CLineFile (.type "type") := ⟨prOc, pgOc⟩
  have MCOc : ClX.CMet K CLineFile (.type "type") "of_lines" pOc fOc := ⟨paOc, ⟨_, pdOc⟩, pfOc⟩
  have FLg := fun_mk (st := sLRng) lLg c_Lg k_Lg
  have bLg := FLg.binds (ps := ["script"]) fun _ _ _ _ _ _ us hl => match us, hl with | [_], _ => rfl
  have gLg' := PySem.W.mg_of X G aLg
  have FLd := fun_mk (st := sLDraw) lLd c_Ld k_Ld
  have bLd := FLd.binds (ps := ["rng", "limit"]) fun _ _ _ _ _ _ us hl => match us, hl with | [_, _], _ => rfl
  have gLd' := PySem.W.mg_of X G aLd
  have FLl := fun_mk (st := sLLine) lLl c_Ll k_Ll
  have bLl := FLl.binds (ps := ["rng", "most"]) fun _ _ _ _ _ _ us hl => match us, hl with | [_, _], _ => rfl
  have gLl' := PySem.W.mg_of X G aLl
  have FLs := fun_mk (st := sLLines) lLs c_Ls k_Ls
  have bLs := FLs.binds (ps := ["rng"]) fun _ _ _ _ _ _ us hl => match us, hl with | [_], _ => rfl
  have gLs' := PySem.W.mg_of X G aLs
  have FLw := fun_mk (st := sLBetween) lLw c_Lw k_Lw
  have bLw := FLw.binds (ps := ["early", "late"]) fun _ _ _ _ _ _ us hl => match us, hl with | [_, _], _ => rfl
  have gLw' := PySem.W.mg_of X G aLw
  have FW := fun_mk (st := sLaw) lW c_W k_W
  have gW' := PySem.W.mg_of X G aW
  have m_abs := PySem.W.mg_none_of X G z_abs
  have m_enumerate := PySem.W.mg_none_of X G z_enumerate
  have m_int := PySem.W.mg_none_of X G z_int
  have m_len := PySem.W.mg_none_of X G z_len
  have m_list := PySem.W.mg_none_of X G z_list
  have m_max := PySem.W.mg_none_of X G z_max
  have m_min := PySem.W.mg_none_of X G z_min
  have m_range := PySem.W.mg_none_of X G z_range
  have m_repr := PySem.W.mg_none_of X G z_repr
  have m_isinstance := PySem.W.mg_none_of X G z_isinstance
  have gSt := PySem.W.mg_of X G gS
  have tN : ∀ H : Hp, FmAt K H (.ref aN) nothing := fun H => ⟨aN, rfl, .inr ⟨_, _, _, hN, rfl, rfl, sz5 (by simp), .cons ⟨_, rfl⟩ (.cons ⟨_, rfl⟩ (.cons ⟨_, rfl⟩ .nil))⟩⟩
  have TS : StepT K w mg aN aS := ⟨PySem.W.mg_of X G gN, tN, PySem.W.mg_of X G gQ, fun c hc => by
    have hc' : c ∈ [85, 68, 77, 78] := hc
    simp only [List.mem_cons, List.not_mem_nil, or_false] at hc'
    rcases hc' with rfl | rfl | rfl | rfl
    · exact ⟨.ref aU, ⟨_, _, _, hS, kS, sU, rfl⟩, fun H => ⟨aU, rfl, .inr ⟨_, _, _, hUt, rfl, rfl, sz5 (by simp), .cons ⟨_, rfl⟩ (.cons ⟨_, rfl⟩ (.cons ⟨_, rfl⟩ .nil))⟩⟩⟩
    · exact ⟨.ref aD, ⟨_, _, _, hS, kS, sD, rfl⟩, fun H => ⟨aD, rfl, .inr ⟨_, _, _, hDt, rfl, rfl, sz5 (by simp), .cons ⟨_, rfl⟩ (.cons ⟨_, rfl⟩ (.cons ⟨_, rfl⟩ .nil))⟩⟩⟩
    · exact ⟨.ref aM, ⟨_, _, _, hS, kS, sM, rfl⟩, fun H => ⟨aM, rfl, .inr ⟨_, _, _, hMt, rfl, rfl, sz5 (by simp), .cons ⟨_, rfl⟩ (.cons ⟨_, rfl⟩ (.cons ⟨_, rfl⟩ (.cons ⟨_, rfl⟩ (.cons ⟨_, rfl⟩ .nil))))⟩⟩⟩
    · exact ⟨.ref aQ, ⟨_, _, _, hS, kS, sN, rfl⟩, fun H => ⟨aQ, rfl, .inr ⟨_, _, _, hNt, rfl, rfl, sz5 (by simp), .cons ⟨_, rfl⟩ (.cons ⟨_, rfl⟩ (.cons ⟨_, rfl⟩ (.cons ⟨_, rfl⟩ .nil)))⟩⟩⟩⟩
  have TR : RepT K w mg aR := ⟨PySem.W.mg_of X G gR, fun c hc => by
    have hc' : c ∈ [85, 68, 77, 78] := hc
    simp only [List.mem_cons, List.not_mem_nil, or_false] at hc'
    rcases hc' with rfl | rfl | rfl | rfl
    · exact ⟨rU, "\n", "^\n", _, _, ⟨_, _, _, hR, kR, rrU, rfl⟩, ⟨_, _, rhU, rfl, rfl⟩, rzU.1, rzU.2.1, rzU.2.2, by decide, by decide, by decide, fun l => rfl⟩
    · exact ⟨rD, "^\n", "\n", _, _, ⟨_, _, _, hR, kR, rrD, rfl⟩, ⟨_, _, rhD, rfl, rfl⟩, rzD.1, rzD.2.1, rzD.2.2, by decide, by decide, by decide, fun l => rfl⟩
    · exact ⟨rM, "^", "\n", _, _, ⟨_, _, _, hR, kR, rrM, rfl⟩, ⟨_, _, rhM, rfl, rfl⟩, rzM.1, rzM.2.1, rzM.2.2, by decide, by decide, by decide, fun l => rfl⟩
    · exact ⟨rN, "\n", "^", _, _, ⟨_, _, _, hR, kR, rrN, rfl⟩, ⟨_, _, rhN, rfl, rfl⟩, rzN.1, rzN.2.1, rzN.2.2, by decide, by decide, by decide, fun l => rfl⟩⟩
  have ZQ : LEq K CLineFile := by
    refine ⟨xca, xsp, xtk, xob, ?_, ?_⟩
    · exact fun T hT => by
        have hT' : T ∈ (["NoneType", "str", "list", "int", "tuple", "dict", "bool"] : List String) := hT
        simp only [List.mem_cons, List.not_mem_nil, or_false] at hT'
        rcases hT' with rfl | rfl | rfl | rfl | rfl | rfl | rfl
        · exact kit_plain hdLineFile xty xfNoneType
        · exact kit_plain hdLineFile xty xfstr
        · exact kit_plain hdLineFile xty xflist
        · exact kit_plain hdLineFile xty xfint
        · exact kit_plain hdLineFile xty xftuple
        · exact kit_plain hdLineFile xty xfdict
        · exact kit_plain hdLineFile xty xfbool
    · exact fun T hT => by
        have hT' : T ∈ (["NoneType", "str", "list", "int", "tuple", "dict", "bool"] : List String) := hT
        simp only [List.mem_cons, List.not_mem_nil, or_false] at hT'
        rcases hT' with rfl | rfl | rfl | rfl | rfl | rfl | rfl
        · exact xfNoneType
        · exact xfstr
        · exact xflist
        · exact xfint
        · exact xftuple
        · exact xfdict
        · exact xfbool
  refine ⟨PySem.W.fnOf "law" "law" (defArgs sLaw) (defBody sLaw) (defScope sLaw) .none kVW docW pmW anW cdW ctW, fun s v => .of_eq rfl, fun base _ _ => ?_⟩
  have GCc : FnOk P w K mg base CX0 1 fCc _ ["chain"] spChkChain := ok_chkChain FCc m_enumerate gSt
  have GSa : FnOk P w K mg base CX0 1 fSa _ ["j", "wanted"] (spSigns K) := ok_signs FSa m_max
  have GUg : FnOk P w K mg base CX0 2 fUg _ ["j", "wanted"] (spUog K) := ok_uog FUg GSa k_Sa bSa gSa'
  have GUo : FnOk P w K mg base CX0 3 fUo _ ["first", "second"] (spOne K) := ok_one FUo GUg k_Ug bUg gUg'
  have GAk : FnOk P w K mg base CX0 1 fAk _ ["first", "second"] (spAftKeep K) := ok_aftKeep FAk m_max
  have GBk : FnOk P w K mg base CX0 2 fBk _ ["first", "second"] (spBefKeep K) := ok_befKeep FBk GSa k_Sa bSa gSa'
  have GBo : FnOk P w K mg base CX0 4 fBo _ ["first", "second"] (spBoth K) := ok_both FBo (GAk.mono (by decide)) k_Ak bAk gAk' (GBk.mono (by decide)) k_Bk bBk gBk' GUo k_Uo bUo gUo'
  have GFo : FnOk P w K mg base CX0 5 fFo _ ["chain"] (spFoc K) := ok_foc FFo TS GBo k_Bo bBo gBo'
  have GTa : FnOk P w K mg base CX0 1 fTa _ ["text", "letter"] spTas := ok_tas FTa TR
  have TLF : LTxt K mg CLineFile := ⟨⟨pgLineFile, hdLineFile, poLineFile, saLineFile⟩, n0LineFile, n1LineFile, n2LineFile, PySem.W.mg_of X G aCLineFile⟩
  have GFi : FnOk P w K mg base CX0 1 fFi _ ["self", "text"] (spLInit CLineFile) := ok_linit FFi TLF
  have GFt : FnOk P w K mg base CX0 1 fFt _ ["self"] (spLText CLineFile) := ok_ltext FFt TLF
  have GFc : FnOk P w K mg base CX0 1 fFc _ ["self"] (spLChain CLineFile) := ok_lchain FFc TLF
  have GFf : FnOk P w K mg base CX0 6 fFf _ ["self"] (spLForm K CLineFile) := ok_lform FFf TLF ⟨GFo.mono (by decide), k_Fo, bFo, gFo'⟩
  have GFv := ok_lconv (P := P) (w := w) (base := base) (k := 5) FFv TLF ⟨GCc.mono (by decide), k_Cc, bCc, gCc'⟩ ⟨GTa.mono (by decide), k_Ta, bTa, gTa'⟩
  have GFe : FnOk P w K mg base CX0 1 fFe _ ["self", "other"] (spEqB (REq K CLineFile)) := ok_leq FFe TLF ZQ m_isinstance
  have GFl : GFn P w K mg base 1 fFl _ ["self"] (spLLines CLineFile) := ok_llines (k := 0) FFl TLF
  have GFb : FnOk P w K mg base CX0 1 fFb _ ["self"] (spLBreaks CLineFile) := ok_lbreaks FFb TLF
  have GOc : FnOk P w K mg base CX0 3 fOc _ ["cls", "lines", "ending"] (spLOf CLineFile) := ok_lof (k := 1) FOc TLF ⟨mkLineFile, aFi, iFi, kcLineFile⟩ GFi bFi
  have GLg : FnOk P w K mg base CX0 1 fLg _ ["script"] (spRng K) := ok_rng FLg m_abs
  have GLd : FnOk P w K mg base CX0 1 fLd _ ["rng", "limit"] spDraw := ok_draw FLd
  have GLl : FnOk P w K mg base CX0 2 fLl _ ["rng", "most"] spLine := ok_line FLl ⟨m_range, m_int⟩ ⟨GLd.mono (by decide), k_Ld, bLd, gLd'⟩
  have GLs : FnOk P w K mg base CX0 2 fLs _ ["rng"] spLines := ok_lines FLs ⟨m_range⟩ ⟨GLd.mono (by decide), k_Ld, bLd, gLd'⟩
  have GLw : FnOk P w K mg base CX0 1 fLw _ ["early", "late"] spBetween := ok_between FLw
  have GOr : FnR P w K mg base CX0 7 fOc (spLOf CLineFile) := ((GOc.mono (by decide)).raw bOc .nil).imp (fun vs H Q E h => by rw [List.append_nil]; exact h)
  have GW := ok_law (k := 6) (by decide) FW ⟨m_range, m_min, m_len, m_list, m_int, m_repr, m_isinstance⟩ TLF ZQ ⟨mkLineFile, aFi, iFi, kcLineFile⟩ (GFi.mono (by decide)) bFi RCOc MCOc (GOc.mono (by decide)) GOr (kbc21 FOc fun _ _ _ _ _ _ _ _ _ => rfl) ⟨aFv, iFv, k_Fv⟩ (GFv.mono (by decide)) prFt (GFt.mono (by decide)) bFt prFc (GFc.mono (by decide)) bFc prFf (GFf.mono (by decide)) bFf prFb (GFb.mono (by decide)) bFb (GFe.mono (by decide)) aFe iFe bFe ⟨aFl, iFl, k_Fl⟩ GFl bFl ⟨GLg.mono (by decide), k_Lg, bLg, gLg'⟩ ⟨GLl.mono (by decide), k_Ll, bLl, gLl'⟩ ⟨GLs.mono (by decide), k_Ls, bLs, gLs'⟩ ⟨GLw.mono (by decide), k_Lw, bLw, gLw'⟩
  exact GW
end Lw
open PySem PySem.W PyProof.Rows
set_option maxRecDepth 100000 in
set_option maxHeartbeats 0 in
theorem PySem.Challenge.cw_lineends_k47_lines_of_files_holds : PySem.Challenge.rw_lineends_k47_lines_of_files.Holds := by
  w_on; o_law; k_head; (case hw => w_witness2)
  k_fill
  refine Lx.endG (l := PySem.Challenge.rw_lineends_k47_lines_of_files) (n := 63) (k := 8) (x := "script") (CX := fun _ => L2.CX0) (sp := fun w => Lw.spLaw _) rfl (by decide) rfl ⟨rfl, by decide, by decide⟩ (fun w h Y => PySem.W.kIn_of Y) ?F (fun _ _ a ns hl hS => ⟨a, ns, rfl, hS, hl, fun _ => rfl⟩) (fun _ _ _ _ _ h => h)
  case F =>
    intro w mg fa h KX G hmg
    refine' Lw.all_mk KX G hmg ?aCLineFile ?pgLineFile ?hdLineFile ?poLineFile ?mkLineFile ?kcLineFile ?saLineFile ?n0LineFile ?n1LineFile ?n2LineFile ?aCc ?lCc ?c_Cc ?k_Cc ?aSa ?lSa ?c_Sa ?k_Sa ?aUg ?lUg ?c_Ug ?k_Ug ?aUo ?lUo ?c_Uo ?k_Uo ?aAk ?lAk ?c_Ak ?k_Ak ?aBk ?lBk ?c_Bk ?k_Bk ?aBo ?lBo ?c_Bo ?k_Bo ?aFo ?lFo ?c_Fo ?k_Fo ?aTa ?lTa ?c_Ta ?k_Ta ?aFi ?iFi ?lFi ?c_Fi ?k_Fi ?paFt ?pbFt ?pcFt ?pdFt ?lFt ?c_Ft ?k_Ft ?paFc ?pbFc ?pcFc ?pdFc ?lFc ?c_Fc ?k_Fc ?paFf ?pbFf ?pcFf ?pdFf ?lFf ?c_Ff ?k_Ff ?aFv ?iFv ?lFv ?c_Fv ?k_Fv ?aFe ?iFe ?lFe ?c_Fe ?k_Fe ?aFl ?iFl ?lFl ?c_Fl ?k_Fl ?paFb ?pbFb ?pcFb ?pdFb ?lFb ?c_Fb ?k_Fb ?prOc ?pgOc ?paOc ?pdOc ?pfOc ?lOc ?c_Oc ?k_Oc ?aLg ?lLg ?c_Lg ?k_Lg ?aLd ?lLd ?c_Ld ?k_Ld ?aLl ?lLl ?c_Ll ?k_Ll ?aLs ?lLs ?c_Ls ?k_Ls ?aLw ?lLw ?c_Lw ?k_Lw ?aW ?lW ?c_W ?k_W ?z_abs ?z_enumerate ?z_int ?z_len ?z_list ?z_max ?z_min ?z_range ?z_repr ?z_isinstance ?gS ?gN ?hN ?gQ ?hS ?kS ?sU ?hUt ?sD ?hDt ?sM ?hMt ?sN ?hNt ?gR ?hR ?kR ?rrU ?rhU ?rzU ?rrD ?rhD ?rzD ?rrM ?rhM ?rzM ?rrN ?rhN ?rzN ?xca ?xsp ?xtk ?xob ?xne ?xoq ?xty ?xfNoneType ?xfstr ?xflist ?xfint ?xftuple ?xfdict ?xfbool
    (case aCLineFile => k_is)
    (case pgLineFile => k_is)
    (case hdLineFile => k_is)
    (case poLineFile => k_is)
    (case mkLineFile => k_is)
    (case kcLineFile => k_is)
    (case saLineFile => k_is)
    (case n0LineFile => k_is)
    (case n1LineFile => k_is)
    (case n2LineFile => k_is)
    (case aCc => k_is)
    (case lCc => k_is)
    (case c_Cc => k_is)
    (case k_Cc => k_is)
    (case aSa => k_is)
    (case lSa => k_is)
    (case c_Sa => k_is)
    (case k_Sa => k_is)
    (case aUg => k_is)
    (case lUg => k_is)
    (case c_Ug => k_is)
    (case k_Ug => k_is)
    (case aUo => k_is)
    (case lUo => k_is)
    (case c_Uo => k_is)
    (case k_Uo => k_is)
    (case aAk => k_is)
    (case lAk => k_is)
    (case c_Ak => k_is)
    (case k_Ak => k_is)
    (case aBk => k_is)
    (case lBk => k_is)
    (case c_Bk => k_is)
    (case k_Bk => k_is)
    (case aBo => k_is)
    (case lBo => k_is)
    (case c_Bo => k_is)
    (case k_Bo => k_is)
    (case aFo => k_is)
    (case lFo => k_is)
    (case c_Fo => k_is)
    (case k_Fo => k_is)
    (case aTa => k_is)
    (case lTa => k_is)
    (case c_Ta => k_is)
    (case k_Ta => k_is)
    (case aFi => k_is)
    (case iFi => k_is)
    (case lFi => k_is)
    (case c_Fi => k_is)
    (case k_Fi => k_is)
    (case paFt => k_is)
    (case pbFt => k_is)
    (case pcFt => k_is)
    (case pdFt => k_is)
    (case lFt => k_is)
    (case c_Ft => k_is)
    (case k_Ft => k_is)
    (case paFc => k_is)
    (case pbFc => k_is)
    (case pcFc => k_is)
    (case pdFc => k_is)
    (case lFc => k_is)
    (case c_Fc => k_is)
    (case k_Fc => k_is)
    (case paFf => k_is)
    (case pbFf => k_is)
    (case pcFf => k_is)
    (case pdFf => k_is)
    (case lFf => k_is)
    (case c_Ff => k_is)
    (case k_Ff => k_is)
    (case aFv => k_is)
    (case iFv => k_is)
    (case lFv => k_is)
    (case c_Fv => k_is)
    (case k_Fv => k_is)
    (case aFe => k_is)
    (case iFe => k_is)
    (case lFe => k_is)
    (case c_Fe => k_is)
    (case k_Fe => k_is)
    (case aFl => k_is)
    (case iFl => k_is)
    (case lFl => k_is)
    (case c_Fl => k_is)
    (case k_Fl => k_is)
    (case paFb => k_is)
    (case pbFb => k_is)
    (case pcFb => k_is)
    (case pdFb => k_is)
    (case lFb => k_is)
    (case c_Fb => k_is)
    (case k_Fb => k_is)
    (case prOc => k_is)
    (case pgOc => k_is)
    (case paOc => k_is)
    (case pdOc => k_is)
    (case pfOc => k_is)
    (case lOc => k_is)
    (case c_Oc => k_is)
    (case k_Oc => k_is)
    (case aLg => k_is)
    (case lLg => k_is)
    (case c_Lg => k_is)
    (case k_Lg => k_is)
    (case aLd => k_is)
    (case lLd => k_is)
    (case c_Ld => k_is)
    (case k_Ld => k_is)
    (case aLl => k_is)
    (case lLl => k_is)
    (case c_Ll => k_is)
    (case k_Ll => k_is)
    (case aLs => k_is)
    (case lLs => k_is)
    (case c_Ls => k_is)
    (case k_Ls => k_is)
    (case aLw => k_is)
    (case lLw => k_is)
    (case c_Lw => k_is)
    (case k_Lw => k_is)
    (case aW => k_is)
    (case lW => k_is)
    (case c_W => k_is)
    (case k_W => k_is)
    (case z_abs => k_is)
    (case z_enumerate => k_is)
    (case z_int => k_is)
    (case z_len => k_is)
    (case z_list => k_is)
    (case z_max => k_is)
    (case z_min => k_is)
    (case z_range => k_is)
    (case z_repr => k_is)
    (case z_isinstance => k_is)
    (case gS => k_is)
    (case gN => k_is)
    (case hN => k_is)
    (case gQ => k_is)
    (case hS => k_is)
    (case kS => exact ⟨⟨_, _, rfl, rfl⟩, ⟨_, _, rfl, rfl⟩, ⟨_, _, rfl, rfl⟩, ⟨_, _, rfl, rfl⟩, trivial⟩)
    (case sU => k_is)
    (case hUt => k_is)
    (case sD => k_is)
    (case hDt => k_is)
    (case sM => k_is)
    (case hMt => k_is)
    (case sN => k_is)
    (case hNt => k_is)
    (case gR => k_is)
    (case hR => k_is)
    (case kR => exact ⟨⟨_, _, rfl, rfl⟩, ⟨_, _, rfl, rfl⟩, ⟨_, _, rfl, rfl⟩, ⟨_, _, rfl, rfl⟩, trivial⟩)
    (case rrU => k_is)
    (case rhU => k_is)
    (case rzU => decide)
    (case rrD => k_is)
    (case rhD => k_is)
    (case rzD => decide)
    (case rrM => k_is)
    (case rhM => k_is)
    (case rzM => decide)
    (case rrN => k_is)
    (case rhN => k_is)
    (case rzN => decide)
    (case xca => k_is)
    (case xsp => k_is)
    (case xtk => k_is)
    (case xob => k_is)
    (case xne => k_is)
    (case xoq => k_is)
    (case xty => k_is)
    (case xfNoneType => k_is)
    (case xfstr => k_is)
    (case xflist => k_is)
    (case xfint => k_is)
    (case xftuple => k_is)
    (case xfdict => k_is)
    (case xfbool => k_is)
