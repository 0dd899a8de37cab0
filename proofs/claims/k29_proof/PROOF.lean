import PyProof.Rows.All
import Wide.All
import OpenK.AllK
import Wide.FinOn
import KE.KExcSuper
import HandS.ForMost
import HandS.Exc
import HandS.ExcInit
import KE.GoesEnum
import HandS.Star
import HandS.TupAny
import HandS.TupMul
import HandS.SetKeys
import HandS.DictComp
import HandS.IsInst
import HandS.Defaults
import HandS.WordsExc
import HandS.ReCall
import HandS.TryMany
import HandS.ExcOwn
import HandS.ExcField
import HandS.HeadHook1
import HandS.HeadHook2
import HandS.Evl
import HandS.Codes
import HandS.Walk
import HandS.ExcIs
import KE.KExcIs
import PyProof.EqKinds
import KE.GoesZip
import HandS.Zip
import HandS.Flow
import KE.KEqSeq
import HandS.Conv
import HandS.HotCalls
import HandS.MakeKw
import HandS.Rev
import KE.KRevIter
import OpenK.KOps
import PyProof.ListNew
import KE.KStateDown
import HandS.Ends
import HandS.Head0
import HandS.Head1
import HandS.Head2
import HandS.HeadEnd
import PyProof.FString
import PyProof.FString4
import PyProof.FitsInt
import PyProof.StrLawsRepr
import PySem.Challenge.RW_shearyard_k29_trims_refused_at_first_fau
section
set_option Elab.async false
set_option linter.all false
set_option maxRecDepth 100000
set_option maxHeartbeats 2000000
/-! An own exception class (any number of own base classes over ValueError) whose __init__ says super().__init__(message) and then self.f = f for each of its parameters. -/
namespace PySem
namespace SupX
open PySem.W PySem.Calls PyProof.Rows PySem.HandSPX

structure StP where
  f : Str
  q1 : Pos
  q2 : Pos
  q3 : Pos
  q4 : Pos
def stB : List StP → List Stmt
  | [] => []
  | z :: r => .Assign [.Attribute (.Name "self" z.q1) z.f z.q2] (.Name z.f z.q3) z.q4 :: stB r
def iB (msg : Expr) (p0 p1 p2 p3 p4 : Pos) (l : List StP) : List Stmt :=
  .Expr (.Call (.Attribute (.Call (.Name "super" p0) [] [] p1) "__init__" p2) [msg] [] p3) p4 :: stB l
def putAll : List (Str × Value) → (Str → Option Value) → (Str → Option Value)
  | [], m => m
  | (f, v) :: r, m => putAll r (fun y => if y = f then some v else m y)
/-- the message's expression gives some value and writes nothing -/
def MsgOk (prog : Program) (w : World) (env : Env) (m : Str → Option Value) (msg : Expr) : Prop :=
  ∀ (A : Around) (E : Value → Shared → Prop) (s : Shared) (Q : Value → Shared → Prop), s.heap.Ns env.locals m → (∀ v t, Q v { s with toks := t }) → wpAny (model prog w) A (eval msg env) Q E s

theorem lookup_nd {k : Str} {v : Value} : ∀ {l : List (Str × Value)}, (l.map (·.1)).Nodup → (k, v) ∈ l → l.lookup k = some v
  | [], _, h => nomatch h
  | (a, b) :: r, nd, h => by
    rw [List.map_cons, List.nodup_cons] at nd
    rcases List.mem_cons.mp h with e | e
    · cases e
      simp [List.lookup]
    · have ne : ¬ k = a := fun z => nd.1 (by rw [← z]; exact List.mem_map_of_mem (f := (·.1)) e)
      have nb : (k == a) = false := by simpa using ne
      show (match k == a with | true => some b | false => r.lookup k) = some v
      rw [nb]
      exact lookup_nd nd.2 e
theorem lookup_rev {k : Str} {v : Value} {l : List (Str × Value)} (nd : (l.map (·.1)).Nodup) (h : (k, v) ∈ l) : l.reverse.lookup k = some v :=
  lookup_nd (by rw [List.map_reverse]; exact List.pairwise_reverse.mpr (List.Pairwise.imp (fun z => Ne.symm z) nd)) (List.mem_reverse.mpr h)

section
variable {prog : Program} {w : World} {M : Model} {A : Around} {E : Value → Shared → Prop} {R : Result → Shared → Prop} {s : Shared} {K : Frag}
theorem ldK {name : Str} {scope : Scope} {L a : Addr} {cd : Value} {cells : List (Str × Addr)} {m : Str → Option Value} {x : Str} {pos : Pos} {v : Value} {Q : Value → Shared → Prop}
    (hn : s.heap.Ns L m) (hv : m x = some v) (h : Q v s) (hk : scope.kind = .function) (hl : scope.names.lookup x = some .local) (hd : (x == ("__debug__" : Str)) = false) :
    wpAny M A (eval (.Name x pos) (envX name scope L a cd cells)) Q E s := wpAny_Name (wpAny_loadName_local (env := envX name scope L a cd cells) hk hl hn hv h) hd

/-- the method-wrapper of ValueError.__init__ called on the fresh exception -/
theorem call_mw {h : Heap} {g : Array GenState} {d : Drawn} {t : Nat} {os : OsState} {nm q : Str} {C N : Addr} {bs bm : List Value} {hdct : Bool} {sn : List Str} {sub : List Value} {ab : Bool} {col : Option Bool} {dd : Option Addr} {k0 k1 k2 k3 k5 : Option Value}
    {u e t0 : Addr} {rest : List Value} {Q : Value → Shared → Prop} (hC : h.get? C = some (excClassObj nm q C N bs bm hdct sn sub ab col dd k0 k1 k2 k3 k5 "ValueError.__new__")) (hbm : refsVE bm = true)
    (he : h.get? e = some (excO C t0)) (hu : h.get? u = some (kxs_mw "ValueError.__init__" e)) (hrest : rest.length ≤ sizeLine)
    (hq : ∀ h' t1, (∀ b o, b ≠ e → h.get? b = some o → h'.get? b = some o) → h'.get? e = some (excO C t1) → Q .none ⟨h', g, d, t, os⟩) :
    wpAny (model prog w) A (call (.ref u) rest) Q E ⟨h, g, d, t, os⟩ := by
  refine wpAny_call (codeAny_of_tree ?_)
  show wpAny _ A.in1 (callAny (.ref u) ⟨rest, []⟩) _ _ _
  simp only [callAny]
  refine wpAny_bind (wpAny_load hu ?_)
  simp only [kxs_mw, show (Value.type "method-wrapper" == Value.type "method" || Value.type "method-wrapper" == Value.type "builtin_function_or_method" || Value.type "method-wrapper" == Value.type "method-wrapper") = true by decide, if_true]
  refine KFB.if_so (by decide) ?_
  refine wpAny_bind (check_bound_init F.excBase_ValueError.toExcCallFacts hC he rfl ?_)
  refine wpAny_bind (wpAny_pure (wpAny_pure ?_))
  refine ⟨Code.quiet_builtin _ (by decide +kernel), codeAny_builtin F.excBase_ValueError.initEntry ?_⟩
  rw [Around.under_plainId F.excBase_ValueError.init.plain _]
  wp_walk
  refine hq _ h.objs.size (fun b o hb ho => ?_) ?_
  · rw [Heap.get?_update_other _ _ (Ne.symm hb)]
    exact Heap.get?_push_of_some _ ho
  · rw [Heap.get?_update_self _ (Heap.get?_push_of_some _ he) rfl]
    rfl

/-- self.f = f, the further ones -/
theorem stores_old {name : Str} {scope : Scope} {L a C x dx : Addr} {cd : Value} {cells : List (Str × Addr)} {m : Str → Option Value} {fv : Array Value} {cdt : ClassData}
    (hk : scope.kind = .function) (hcd : clsIn K C = some cdt) (hm : refsVE cdt.mro = true) (hh : cdt.hasDict = true) (hsa : findIn K (.ref C) "__setattr__" = some (some (.builtin "object.__setattr__")))
    (hself : m "self" = some (.ref x)) (lself : scope.names.lookup ("self" : Str) = some .local) (hxL : x ≠ L) (hdL : dx ≠ L) (hnx : K.lookup x = none) (hnd : K.lookup dx = none) (hxd : x ≠ dx) :
    ∀ (l : List StP) (vs : List Value) (s : Shared) (m0 : Str → Option Value) (nl : List Str), vs.length = l.length → K.In s.heap → s.heap.Ns L m → s.heap.get? x = some { cls := .ref C, dict := some dx, data := .fields fv } → s.heap.Ns1 dx m0 → Within m0 nl → nl.length + l.length ≤ 900 →
      (∀ z ∈ l, scope.names.lookup z.f = some .local ∧ (z.f == ("__debug__" : Str)) = false ∧ findIn K (.ref C) z.f = some none) → (∀ (i : Nat) (z : StP) (v : Value), l[i]? = some z → vs[i]? = some v → m z.f = some v) →
      (∀ h' tk', (∀ b o, b ≠ dx → s.heap.get? b = some o → h'.get? b = some o) → h'.Ns1 dx (putAll ((l.map (·.f)).zip vs) m0) → R (.ok (.ret .none)) { s with heap := h', toks := tk' }) →
      wpAny (model prog w) A (execs (stB l) (envX name scope L a cd cells)) (fun fl s' => R (.ok (.ret (match fl with | .ret v => v | _ => .none))) s') E s := by
  intro l
  induction l with
  | nil =>
    intro vs s m0 nl hl X hn hx hns hw hz hloc hval hq
    cases vs with
    | cons _ _ => cases hl
    | nil => exact wpAny_execs_nil (hq s.heap s.toks (fun b o _ e => e) hns)
  | cons z r ih =>
    intro vs s m0 nl hl X hn hx hns hw hz hloc hval hq
    cases vs with
    | nil => cases hl
    | cons v vs =>
      obtain ⟨l1, l2, l3⟩ := hloc z List.mem_cons_self
      obtain ⟨oD, esD, epD, hoD, _, _⟩ := hns.count hw
      refine wpAny_execs_cons (plainObj_wpAny_Assign_Attribute ?_)
      refine ldK hn (hval 0 z v rfl rfl) ?_ hk l1 l2
      refine ldK hn hself ?_ hk lself (by decide)
      refine set_plain X (ox := { cls := .ref C, dict := some dx, data := .fields fv }) (od := some oD) ⟨hx, rfl, rfl, hoD⟩ hsa ?_
      refine PySem.OEX.osa_old X hx hns hw (by rw [List.length_cons] at hz; omega) hcd hm hh l3 fun h' tk' k hn' => ?_
      have X' : K.In h' := fun b o e => k b o (fun q => by rw [q, hnd] at e; cases e) (X b o e)
      obtain ⟨oL, esL, epL, hL, hrL⟩ := hn
      refine ih vs ⟨h', s.gens, s.drawn, tk', s.os⟩ _ (z.f :: nl) (by simpa using hl) X' ⟨oL, esL, epL, k _ _ (Ne.symm hdL) hL, hrL⟩ (k _ _ hxd hx) hn' (Within.cons z.f v hw) (by rw [List.length_cons] at hz ⊢; omega)
        (fun y hy => hloc y (List.mem_cons_of_mem _ hy)) (fun i y u h1 h2 => hval (i + 1) y u h1 h2) fun h2 t2 k2 n2 => ?_
      exact hq h2 t2 (fun b o hb e => k2 b o hb (k b o hb e)) n2
end
end SupX
end PySem
end
section
set_option Elab.async false
set_option linter.all false
set_option maxRecDepth 100000
set_option maxHeartbeats 2000000
namespace PySem
namespace SupX
open PySem.W PySem.Calls PyProof.Rows PySem.HandSPX

structure SupScope (scope : Scope) (l : List StP) : Prop where
  kind : scope.kind = .function
  co : scope.isCoroutine = false
  gen : scope.isGenerator = false
  cell : ∀ x ∈ scope.names, x.2 ≠ .cell
  self : scope.names.lookup ("self" : Str) = some .local
  sup : scope.names.lookup ("super" : Str) = some .globalImplicit
  clsv : scope.names.lookup ("__class__" : Str) = some .free
  loc : ∀ z ∈ l, scope.names.lookup z.f = some .local ∧ (z.f == ("__debug__" : Str)) = false
  nd : (("self" : Str) :: l.map (·.f)).Nodup
structure SupTxt (prog : Program) (K : Frag) (C fI : Addr) (qual : Str) (params : Arguments) (body : List Stmt) (scope : Scope) (l : List StP) : Prop where
  cls : ∃ nm q N bs bm sn sub ab col dd k0 k1 k2 k3 k5, K.lookup C = some (excClassObj nm q C N bs bm true sn sub ab col dd k0 k1 k2 k3 k5 "ValueError.__new__") ∧ refsVE bm = true
  sa : findIn K (.ref C) "__setattr__" = some (some (.builtin "object.__setattr__"))
  noat : ∀ z ∈ l, findIn K (.ref C) z.f = some none
  iC : findIn K (.ref C) "__init__" = some (some (.ref fI))
  tC : typeIn K (.ref fI) = some (.type "function")
  kC : keepIn K (.ref C) = true
  exC : subIn K (.ref C) (.type "BaseException") = some true
  veC : subIn K (.ref C) (.type "ValueError") = some true
  tyC : typeIn K (.ref C) = some (.type "type")
  mro : mroIn K C (.ref C) = some true
  sup : ks_superIn K C C "__init__" = some (some (.builtin "ValueError.__init__"))
  opq : nsIn K cStatics "thirdparty.any" = some none
  fn : ∃ (oc : Value) (od : Option Addr) (osl : Array (Option Value)) (kV doc pm : Value) (an : Option Addr) (cda : Addr) (ct : Value) (cc : Addr) (ccl : Value) (cdd : Option Addr) (cvs : Array Value) (ccs : Array (Option Value)) (file : Str) (tf : Tok) (cl : Value) (cld : Option Addr) (csl : Array (Option Value)),
    K.lookup fI = some ⟨oc, od, .func (ksFn "__init__" qual params body scope .none kV doc pm an (.ref cda) ct cc), osl⟩ ∧ codeIn K (.ref cda) qual = true ∧
    K.lookup cda = some ⟨ccl, cdd, .fields cvs, ccs⟩ ∧ cvs[2]? = some (.str file tf) ∧ ((prog.main.file : Str) == file) = true ∧ K.lookup cc = some ⟨cl, cld, .cell (some (.ref C)), csl⟩
structure InitEnd (h h' : Heap) (x C dx t1 : Addr) (l : List StP) (vs : List Value) : Prop where
  keep : ∀ b o, b ≠ x → h.get? b = some o → h'.get? b = some o
  obj : h'.get? x = some { cls := .ref C, dict := some dx, data := .fields #[.ref t1, .none, .none, .none, .bool false, .none] }
  dbig : h.objs.size ≤ dx
  dne : dx ≠ x
  ns : h'.Ns1 dx (putAll ((l.map (·.f)).zip vs) fun _ => none)

section
variable {prog : Program} {w : World} {A : Around} {E : Value → Shared → Prop} {R : Result → Shared → Prop} {s : Shared} {K : Frag} {mg mb : Str → Option Value} {C fI : Addr} {qual : Str} {params : Arguments} {scope : Scope} {msg : Expr} {p0 p1 p2 p3 p4 : Pos} {z0 : StP} {l : List StP}
/-- what the places of the text decide -/
structure SupPos (qual : Str) (scope : Scope) (fI : Addr) (msg : Expr) (p0 p1 p2 p3 p4 : Pos) : Prop where
  ev : ∀ (L : Addr) (cda cc : Addr), ∃ pl : Sem Bool, eval (.Call (.Attribute (.Call (.Name "super" p0) [] [] p1) "__init__" p2) [msg] [] p3) (ksEnv qual scope L fI (.ref cda) cc) = (do
      let ov ← attributeBase (.Call (.Name "super" p0) [] [] p1) "__init__" (ksEnv qual scope L fI (.ref cda) cc) (eval (.Call (.Name "super" p0) [] [] p1) (ksEnv qual scope L fI (.ref cda) cc))
      standAt p2.atName
      let (f, first) ← holding [ov] (getMethod ov "__init__" pl)
      callWith p3 f first (backTo p3 (starEach [msg] (ksEnv qual scope L fI (.ref cda) cc))) [])
  it : ∀ (L : Addr) (cda cc : Addr), interactive (ksEnv qual scope L fI (.ref cda) cc) = false
  st : ∀ (L : Addr) (cda cc : Addr), backTo p3 (starEach [msg] (ksEnv qual scope L fI (.ref cda) cc)) = [(false, eval msg (ksEnv qual scope L fI (.ref cda) cc))]
theorem sup_init (PP : SupPos qual scope fI msg p0 p1 p2 p3 p4) (T : SupTxt prog K C fI qual params (iB msg p0 p1 p2 p3 p4 (z0 :: l)) scope (z0 :: l)) (S : SupScope scope (z0 :: l)) (htop : (prog.main.scope.names.lookup ("super" : Str)).isSome = false)
    (hhead : ∃ ar : Arg, (params.posonlyargs ++ params.args).head? = some ar ∧ ar.arg = "self")
    (hbind : ∀ (kV doc pm : Value) (an : Option Addr) (cda : Addr) (ct : Value) (cc : Addr) (us : List Value), us.length = l.length + 2 →
      bindArgs (ksFn "__init__" qual params (iB msg p0 p1 p2 p3 p4 (z0 :: l)) scope .none kV doc pm an (.ref cda) ct cc) ⟨us, []⟩ = pure ((("self" : Str) :: (z0 :: l).map (·.f)).zip us))
    {x t0 : Addr} {vs : List Value} (X : K.In s.heap) (hlim : s.heap.NoLimit) (hG : s.heap.Ns mainGlobals mg) (gs : mg "super" = none) (hB : s.heap.Ns builtinsNs mb) (bsup : mb "super" = some (.type "super"))
    (hl : vs.length = l.length + 1) (hx : s.heap.get? x = some (excO C t0)) (hnx : K.lookup x = none) (hroom : A.depth < recursionLimit) (hl2 : l.length ≤ 800)
    (hmsg : ∀ (L cda cc : Addr), MsgOk prog w (ksEnv qual scope L fI (.ref cda) cc) (fun y => (((("self" : Str) :: (z0 :: l).map (·.f)).zip (.ref x :: vs)).reverse).lookup y) msg)
    (hq : ∀ h' tk dx t1, InitEnd s.heap h' x C dx t1 (z0 :: l) vs → R (.ok (.ret .none)) { s with heap := h', toks := tk }) :
    codeAny (model prog w) A (.call (.ref fI) ⟨.ref x :: vs, []⟩) R s := by
  obtain ⟨oc, od, osl, kV, doc, pm, an, cda, ct, cc, ccl, cdd, cvs, ccs, file, tf, cl, cld, csl, ho, hcd, hcode, hvs, hfile, hcell⟩ := T.fn
  obtain ⟨nm, q, N, bs, bm, sn, sub, ab, col, dd, k0, k1, k2, k3, k5, hC, hbm⟩ := T.cls
  have hcl : clsIn K C = some { name := nm, bases := bs, mro := .ref C :: bm, ns := N, qualname := q, hasDict := true, slotNames := sn, subclasses := sub, abstract := ab, collection := col, hasDel := false } := by unfold clsIn; rw [hC] <;> rfl
  obtain ⟨ar, har, hself⟩ := hhead
  have hlen : (Value.ref x :: vs).length = l.length + 2 := by rw [List.length_cons, hl]
  have hzl : ((("self" : Str) :: (z0 :: l).map (·.f)).zip (Value.ref x :: vs)).map (·.1) = ("self" : Str) :: (z0 :: l).map (·.f) := by
    rw [← List.unzip_fst, List.unzip_zip (by rw [hlen]; simp)]
  have hnd : (((("self" : Str) :: (z0 :: l).map (·.f)).zip (Value.ref x :: vs)).map (·.1)).Nodup := by rw [hzl]; exact S.nd
  have hm0 : ((("self" : Str) :: (z0 :: l).map (·.f)).zip (Value.ref x :: vs)).reverse.lookup ("self" : Str) = some (.ref x) := lookup_rev hnd List.mem_cons_self
  have hmi : ∀ (i : Nat) (z : StP) (v : Value), (z0 :: l)[i]? = some z → vs[i]? = some v → ((("self" : Str) :: (z0 :: l).map (·.f)).zip (Value.ref x :: vs)).reverse.lookup z.f = some v := fun i z v h1 h2 => by
    refine lookup_rev hnd (List.mem_cons_of_mem _ ?_)
    refine List.mem_iff_getElem?.mpr ⟨i, ?_⟩
    exact List.getElem?_zip_eq_some.mpr ⟨by rw [List.getElem?_map, h1]; rfl, h2⟩
  refine ks_codeAny_call_defAt (fd := ksFn "__init__" qual params (iB msg p0 p1 p2 p3 p4 (z0 :: l)) scope .none kV doc pm an (.ref cda) ct cc) (body := iB msg p0 p1 p2 p3 p4 (z0 :: l)) (binds := (("self" : Str) :: (z0 :: l).map (·.f)).zip (Value.ref x :: vs)) hroom (X _ _ ho) rfl hlim (codeRec_of X hcd) rfl (BindsTo.of_eq (hbind kV doc pm an cda ct cc _ hlen)) S.cell (fun y hy => ?_) (fun h₁ hns k => ?_) S.co S.gen S.kind
  · have hy1 : y.1 ∈ ("self" : Str) :: (z0 :: l).map (·.f) := (List.of_mem_zip (a := y.1) (b := y.2) hy).1
    rcases List.mem_cons.mp hy1 with e | e
    · rw [e]; exact S.self
    · obtain ⟨z, hz, e2⟩ := List.mem_map.mp e
      rw [← e2]; exact (S.loc z hz).1
  · obtain ⟨hh, g, d, t, os⟩ := s
    have X₁ : K.In h₁ := X.keeps k
    have hx₁ := k _ _ hx
    have hxL : x ≠ hh.objs.size := Nat.ne_of_lt (Heap.lt_size hx)
    show _root_.PySem.wpAt (model prog w) (A.deeper (ksEnv qual scope hh.objs.size fI (.ref cda) cc)) (.func _ (ksEnv qual scope hh.objs.size fI (.ref cda) cc)) (execs (iB msg p0 p1 p2 p3 p4 (z0 :: l)) (ksEnv qual scope hh.objs.size fI (.ref cda) cc)) _ _ _
    obtain ⟨pl, hev⟩ := PP.ev hh.objs.size cda cc
    refine ks_wpAt_execs_cons (ks_wpAt_Expr_any (ks_wpAt_MethodCall (pl := pl) ?_ hev) (PP.it _ _ _))
    have I₁ : InstAt h₁ x (excO C t0) C none := ⟨hx₁, rfl, rfl, trivial⟩
    refine ks_wpAt_super_base (env := ksEnv qual scope hh.objs.size fI (.ref cda) cc) S.sup S.clsv (by decide) rfl (X₁ _ _ ho) rfl har rfl (X₁ _ _ hcode) rfl hvs hfile htop ?_
    refine ks_loadName_global S.kind S.sup (loadGlobal_builtin (env := ksEnv qual scope hh.objs.size fI (.ref cda) cc) (hG.keeps k) gs (hB.keeps k) bsup ⟨rfl, ?_⟩)
    refine wpAny_loadName_free S.kind S.clsv rfl ⟨_, X₁ _ _ hcell, rfl⟩ ?_
    rw [hself]
    refine wpAny_loadName_local S.kind S.self hns hm0 ?_
    refine ks_wpAny_isType_cls (X₁ _ _ hC) rfl ⟨rfl, ?_⟩
    refine ks_wpAny_call_super (X₁ _ _ hC) rfl I₁.at_ I₁.cls (fun c e => by cases e) (looks_mroIn X₁ T.mro) (fun h₂ e₂ k₂ => ?_)
    have X₂ : K.In h₂ := X₁.keeps k₂
    have I₂ : InstAt h₂ x (excO C t0) C none := ⟨k₂ _ _ hx₁, rfl, rfl, trivial⟩
    have hsup := T.sup
    unfold ks_superIn at hsup
    rw [hcl] at hsup
    refine kxs_getMethod kxs_ValueError e₂ (looks_opaque X₂ T.opq) (l₀ := .ref C :: bm) (fun A Q E s k q => wpAny_bind ((looks_clsIn X₂ hcl) A _ E s k (wpAny_pure q))) rfl X₂ hsup (I₂.type.andThen (looks_subIn X₂ T.veC)) (ks_ne X₂ I₂ hcl) (by decide) ?_
    rw [PP.st]
    refine kxs_callWith (i := "ValueError.__init__") (x := x) (by rfl) (evalArgs_plain ?_)
    obtain ⟨oL, esL, epL, hL, hrL⟩ := hns
    have k₃ : ∀ b o, h₂.get? b = some o → (h₂.push (kxs_mw "ValueError.__init__" x)).get? b = some o := fun b o e => Heap.get?_push_of_some _ e
    refine spliced_cons ?_
    refine hmsg hh.objs.size cda cc _ _ _ _ ⟨oL, esL, epL, k₃ _ _ (k₂ _ _ hL), hrL⟩ fun v tk => ?_
    refine spliced_nil ?_
    have hmw : (h₂.push (kxs_mw "ValueError.__init__" x)).get? h₂.objs.size = some (kxs_mw "ValueError.__init__" x) := Heap.get?_push_at rfl rfl
    refine ⟨hmw, ?_⟩
    have X₃ : K.In (h₂.push (kxs_mw "ValueError.__init__" x)) := X₂.keeps k₃
    refine call_mw (X₃ _ _ hC) hbm (k₃ _ _ I₂.at_) hmw (by show 1 ≤ sizeLine; rw [sizeLine_eq]; decide) fun h₄ t₄ k₄ e₄ => ?_
    have kx : ∀ b o, b ≠ x → h₁.get? b = some o → h₄.get? b = some o := fun b o hb e => k₄ b o hb (k₃ _ _ (k₂ _ _ e))
    refine wpAt_of_wpAny ?_
    have hn₄ : h₄.Ns hh.objs.size (fun y => (((("self" : Str) :: (z0 :: l).map (·.f)).zip (Value.ref x :: vs)).reverse).lookup y) := ⟨oL, esL, epL, kx _ _ (Ne.symm hxL) hL, hrL⟩
    have X₄ : K.In h₄ := fun b o e => kx b o (fun q => by rw [q, hnx] at e; cases e) (X₁ b o e)
    cases vs with
    | nil => cases hl
    | cons v0 vr =>
      obtain ⟨l1, l2⟩ := S.loc z0 List.mem_cons_self
      show wpAny _ _ (execs (stB (z0 :: l)) _) _ _ _
      refine wpAny_execs_cons (plainObj_wpAny_Assign_Attribute ?_)
      refine ldK hn₄ (hmi 0 z0 v0 rfl rfl) ?_ S.kind l1 l2
      refine ldK hn₄ hm0 ?_ S.kind S.self (by decide)
      refine set_plain X₄ (ox := excO C t₄) (od := none) ⟨e₄, rfl, rfl, trivial⟩ T.sa ?_
      refine exc_osa X₄ e₄ hcl (show refsVE (.ref C :: bm) = true from hbm) rfl (T.noat z0 List.mem_cons_self) fun h₅ tk₅ dx k₅ dn dne hx₅ hn₅ => ?_
      have dL : dx ≠ hh.objs.size := fun q => by
        have z := Heap.lt_size (kx _ _ (Ne.symm hxL) hL)
        rw [← q] at z
        exact absurd (Nat.lt_of_lt_of_le z dn) (Nat.lt_irrefl _)
      have sz : hh.objs.size ≤ dx := Nat.le_trans (Nat.le_of_lt (Heap.lt_size (kx _ _ (Ne.symm hxL) hL))) dn
      have dK : K.lookup dx = none := by
        cases e : K.lookup dx with
        | none => rfl
        | some o => exact absurd (Nat.lt_of_lt_of_le (Heap.lt_size (X₄ _ _ e)) dn) (Nat.lt_irrefl _)
      have X₅ : K.In h₅ := fun b o e => k₅ b o (fun q => by rw [q, hnx] at e; cases e) (X₄ b o e)
      refine stores_old S.kind hcl (show refsVE (.ref C :: bm) = true from hbm) rfl T.sa hm0 S.self hxL dL hnx dK (Ne.symm dne) l vr ⟨h₅, g, d, tk₅, os⟩ _ [z0.f] (by simpa using hl) X₅ ⟨oL, esL, epL, k₅ _ _ (Ne.symm hxL) (kx _ _ (Ne.symm hxL) hL), hrL⟩ hx₅ hn₅ ?_ (by show 1 + l.length ≤ 900; omega)
        (fun z hz => ⟨(S.loc z (List.mem_cons_of_mem _ hz)).1, (S.loc z (List.mem_cons_of_mem _ hz)).2, T.noat z (List.mem_cons_of_mem _ hz)⟩) (fun i z u e1 e2 => hmi (i + 1) z u e1 e2) fun h₆ t₆ k₆ n₆ => ?_
      · intro y hy
        by_cases e : y = z0.f
        · rw [e]; exact List.mem_cons_self
        · have hy2 : (if y = z0.f then some v0 else none) ≠ none := hy
          rw [if_neg e] at hy2
          exact absurd rfl hy2
      · refine hq h₆ t₆ dx t₄ ⟨fun b o hb e => ?_, k₆ _ _ (Ne.symm dne) hx₅, sz, dne, n₆⟩
        have hbd : b ≠ dx := fun q => by
          have z := Heap.lt_size e
          rw [q] at z
          exact absurd (Nat.lt_of_lt_of_le z sz) (Nat.lt_irrefl _)
        exact k₆ _ _ hbd (k₅ _ _ hb (kx _ _ hb (k _ _ e)))

/-- a made one -/
structure Made (h h' : Heap) (e C d : Addr) (fs : List Str) (us : List Value) : Prop where
  keep : ∀ b o, h.get? b = some o → h'.get? b = some o
  new : h.objs.size ≤ e
  obj : ∃ oe vs, h'.get? e = some oe ∧ oe.cls = .ref C ∧ oe.dict = some d ∧ oe.data = .fields vs ∧ vs[1]? = some .none
  dbig : h.objs.size ≤ d
  dne : d ≠ e
  ns : h'.Ns1 d (putAll (fs.zip us) fun _ => none)
theorem sup_made (PP : SupPos qual scope fI msg p0 p1 p2 p3 p4) (T : SupTxt prog K C fI qual params (iB msg p0 p1 p2 p3 p4 (z0 :: l)) scope (z0 :: l)) (S : SupScope scope (z0 :: l)) (htop : (prog.main.scope.names.lookup ("super" : Str)).isSome = false)
    (hhead : ∃ ar : Arg, (params.posonlyargs ++ params.args).head? = some ar ∧ ar.arg = "self")
    (hbind : ∀ (kV doc pm : Value) (an : Option Addr) (cda : Addr) (ct : Value) (cc : Addr) (us : List Value), us.length = l.length + 2 →
      bindArgs (ksFn "__init__" qual params (iB msg p0 p1 p2 p3 p4 (z0 :: l)) scope .none kV doc pm an (.ref cda) ct cc) ⟨us, []⟩ = pure ((("self" : Str) :: (z0 :: l).map (·.f)).zip us))
    {vs : List Value} (X : K.In s.heap) (hlim : s.heap.NoLimit) (hG : s.heap.Ns mainGlobals mg) (gs : mg "super" = none) (hB : s.heap.Ns builtinsNs mb) (bsup : mb "super" = some (.type "super"))
    (hl : vs.length = l.length + 1) (hroom : A.depth + 1 < recursionLimit) (hl2 : l.length ≤ 800)
    (hmsg : ∀ (x L cda cc : Addr), MsgOk prog w (ksEnv qual scope L fI (.ref cda) cc) (fun y => (((("self" : Str) :: (z0 :: l).map (·.f)).zip (.ref x :: vs)).reverse).lookup y) msg)
    (hq : ∀ h' tk e d, Made s.heap h' e C d ((z0 :: l).map (·.f)) vs → R (.ok (.ret (.ref e))) { s with heap := h', toks := tk }) :
    codeAny (model prog w) A (.call (.ref C) ⟨vs, []⟩) R s := by
  obtain ⟨nm, q, N, bs, bm, sn, sub, ab, col, dd, k0, k1, k2, k3, k5, hC, hbm⟩ := T.cls
  obtain ⟨hp, g, dr, tk, os⟩ := s
  have k : ∀ b o, hp.get? b = some o → ((hp.push (kdv_tup vs)).push (excO C hp.objs.size)).get? b = some o := fun b o e => Heap.get?_push_of_some _ (Heap.get?_push_of_some _ e)
  have hget : ((hp.push (kdv_tup vs)).push (excO C hp.objs.size)).get? (hp.objs.size + 1) = some (excO C hp.objs.size) := by heap_get
  have hnx : K.lookup (hp.objs.size + 1) = none := by
    cases e : K.lookup (hp.objs.size + 1) with
    | none => rfl
    | some o =>
      have z : hp.get? (hp.objs.size + 1) = some o := X _ _ e
      exact absurd (Nat.lt_of_succ_lt (Heap.lt_size z)) (Nat.lt_irrefl _)
  have hvl : vs.length ≤ sizeLine := by
    rw [sizeLine_eq]
    omega
  refine call_own F.excBase_ValueError (fun X => refsVE_contains X bm hbm) (X _ _ hC) (looks_findIn X T.iC) (fun self => bind_fn X self T.tC) hvl ?_
  refine sup_init (s := ⟨(hp.push (kdv_tup vs)).push (excO C hp.objs.size), g, dr, tk, os⟩) PP T S htop hhead hbind (X.keeps k) (hlim.keeps k) (hG.keeps k) gs (hB.keeps k) bsup hl hget hnx ?_ hl2 (hmsg _) fun h' tk' dx t1 M => ?_
  · show A.depth + 1 < recursionLimit
    exact hroom
  · have dn : ((hp.push (kdv_tup vs)).push (excO C hp.objs.size)).objs.size ≤ dx := M.dbig
    have old : ∀ b o, hp.get? b = some o → h'.get? b = some o := fun b o e => M.keep b o (Nat.ne_of_lt (Nat.lt_succ_of_lt (Heap.lt_size e))) (k b o e)
    rw [Heap.size_push, Heap.size_push] at dn
    exact ⟨rfl, hq h' tk' (hp.objs.size + 1) dx ⟨old, Nat.le_succ _, ⟨_, _, M.obj, rfl, rfl, rfl, rfl⟩, (by show hp.objs.size ≤ dx; omega), M.dne, M.ns⟩⟩
end
/-- a class that is made by C(..): what its caller needs -/
structure SupCls (prog : Program) (w : World) (K : Frag) (mg : Str → Option Value) (x : Str) (C : Addr) (fs : List Str) (P : List L2.V → Prop) : Prop where
  gC : mg x = some (.ref C)
  gs : mg "super" = none
  kC : keepIn K (.ref C) = true
  exC : subIn K (.ref C) (.type "BaseException") = some true
  tyC : typeIn K (.ref C) = some (.type "type")
  made : ∀ (A : Around) (s : Shared) (R : Result → Shared → Prop) (mb : Str → Option Value) (vs : List L2.V) (us : List Value), L2.Vals vs us → P vs → vs.length = fs.length → K.In s.heap → s.heap.NoLimit → s.heap.Ns mainGlobals mg → s.heap.Ns builtinsNs mb → mb "super" = some (.type "super") → A.depth + 1 < recursionLimit →
    (∀ h' tk e d, Made s.heap h' e C d fs us → R (.ok (.ret (.ref e))) { s with heap := h', toks := tk }) → codeAny (model prog w) A (.call (.ref C) ⟨us, []⟩) R s
end SupX
end PySem
namespace L2
open PySem PySem.Spec PyProof.Rows
/-- the fields, the last one first -/
def xfs : List Str → List V → List (Str × V) → List (Str × V)
  | f :: fs, v :: vs, acc => xfs fs vs ((f, v) :: acc)
  | _, _, acc => acc
theorem xfs_ok : ∀ {fs : List Str} {vs : List V} {us : List Value} {acc : List (Str × V)} {m : Str → Option Value}, Vals vs us → (∀ f, RelO (acc.lookup f) (m f)) → ∀ f, RelO ((xfs fs vs acc).lookup f) (PySem.SupX.putAll (fs.zip us) m f)
  | [], _, _, _, _, _, r => r
  | _ :: _, [], _, _, _, .nil, r => r
  | g :: fs, v :: vs, _ :: us, acc, m, .cons rv rt, r => xfs_ok (fs := fs) rt (relO_put rv r)
section
variable {X : Cx} {C : Addr} {x : Str} {fs : List Str} {P : List V → Prop}
/-- C(e, ..) -/
def tMkSup (C : Addr) (fs : List Str) (P : List V → Prop) (ta : TA) : St → Hp → XK → Prop := fun σ H Q => ta σ H fun vs H1 => P vs ∧ vs.length = fs.length ∧ ∀ d, H1 d = none → Q (.ref C) (some d) (upd H1 d (.xd (xfs fs vs [])))
theorem pmk_sup {e : Expr} {es : List Expr} {ta : TA} {p pos : Pos} {k : Nat} (T : PySem.SupX.SupCls X.prog X.w X.K X.mg x C fs P) (hr : Room k X.A) (ha : PA X (e :: es) ta) (hg : Gl X x := by rfl) (hx : (x == ("__debug__" : Str)) = false := by decide)
    (he : starEach (e :: es) X.env = (false, eval e X.env) :: starEach es X.env := by rfl) (hpl : (backTo pos (starEach es X.env)).any (·.1) = false := by rfl) :
    PMk X (.Call (.Name x p) (e :: es) [] pos) (tMkSup C fs P ta) := by
  intro pins s σ H Q I h
  refine wpAny_Call_Name_kw (ld_glob I hg T.gC ?_ hx)
  refine PySem.W.callWith_K (h₀ := X.base) I.ok.mod.kin T.kC (thn (ha.run pos pins s σ H _ I h) fun us s1 hh => ?_) he hpl
  obtain ⟨vs, H1, I1, r1, hP, hl, q1⟩ := hh
  refine ⟨I1.kIn, ?_⟩
  show wpAny _ _ (call (.ref C) us) _ _ _
  have hlim := I1.nolimit
  obtain ⟨mb, hb1, hb2⟩ := I1.mod.blt
  have hG : s1.heap.Ns mainGlobals X.mg := I1.mod.glob.keeps I1.bk
  have hB : s1.heap.Ns builtinsNs mb := hb1.keeps I1.bk
  obtain ⟨hp, g, dr, tk, os⟩ := s1
  refine wpAny_call (T.made _ _ _ mb vs us r1 hP hl I1.kIn hlim hG hB ((hb2 _ (by decide)).trans (by decide +kernel)) (by have := hr.dp; omega) fun h' tk' e d M => ?_)
  show MkP X pins σ Q (.ref e) ⟨h', g, dr, tk', os⟩
  obtain ⟨oe, fv, hoe, hc, hd, hdat, h1⟩ := M.obj
  have hns := M.ns
  obtain ⟨G', g1, g2⟩ := restrict h' fun b => decide (b ≠ e)
  have gk : ∀ b, b ≠ e → G'.get? b = h'.get? b := fun b hb => g1 b (decide_eq_true hb)
  have ge : G'.get? e = none := g2 e (by simp)
  have old : ∀ b o, hp.get? b = some o → G'.get? b = some o := fun b o q => (gk b (Nat.ne_of_lt (Nat.lt_of_lt_of_le (Heap.lt_size q) M.new))).trans (M.keep b o q)
  have ob : ObjOk X.prog X.w (upd H1 d (.xd (xfs fs vs []))) G' d (.xd (xfs fs vs [])) :=
    ⟨_, hns.at (fun o q => (gk d M.dne).trans q), fun f => xfs_ok (acc := []) (m := fun _ => none) r1 (fun _ => True.intro) f⟩
  have J : Inv X pins σ (upd H1 d (.xd (xfs fs vs []))) ⟨G', g, dr, tk', os⟩ := I1.laid (t' := tk') old M.dbig ob
  refine ⟨e, oe, fv, ⟨G', g, dr, tk', os⟩, _, .ref C, some d, rfl, J, fun b o q => ?_, ge, hoe, ⟨hc, hd⟩, hdat, h1, ?_, rfl, I1.bare, raises_own T.exC T.tyC, q1 d (I1.hok.fresh M.dbig)⟩
  · by_cases hb : b = e
    · have q' : G'.get? b = some o := q
      rw [hb, ge] at q'
      cases q'
    · exact (gk b hb).symm.trans q
  · rw [upd_ne (Ne.symm M.dne)]
    exact I1.hok.fresh M.new
/-- raise C(e, ..) -/
def tRaiseSup (C : Addr) (fs : List Str) (P : List V → Prop) (W : WX) (ta : TA) : TS := fun _ σ H => tMkSup C fs P ta σ H fun cls d H' => W cls d σ H'
theorem ps_raiseSup {e : Expr} {es : List Expr} {ta : TA} {W : WX} {p pos pos2 : Pos} {k : Nat} (hc : X.calm = true) (T : PySem.SupX.SupCls X.prog X.w X.K X.mg x C fs P) (hr : Room k X.A) (tk : Takes X W) (ha : PA X (e :: es) ta) (hg : Gl X x := by rfl) (hx : (x == ("__debug__" : Str)) = false := by decide)
    (he : starEach (e :: es) X.env = (false, eval e X.env) :: starEach es X.env := by rfl) (hpl : (backTo pos (starEach es X.env)).any (·.1) = false := by rfl) :
    PS X (.Raise (some (.Call (.Name x p) (e :: es) [] pos)) none pos2) (tRaiseSup C fs P W ta) := ps_raise hc tk (pmk_sup T hr ha hg hx he hpl)
end
end L2
end
section
set_option Elab.async false
set_option linter.all false
set_option maxRecDepth 100000
set_option maxHeartbeats 2000000
/-! enumerate(t), t a tuple. -/
namespace PySem
theorem meets_enum_oneB {v : Value} {o : Obj} {H : Heap → Prop} (B : Begins v o H) :
    Meets (Builtin.«enumerate.__new__» ⟨[.type "enumerate", v], []⟩) (fun _ R s => H s.heap ∧
      R (.ok (.ret (.ref (s.heap.push o).objs.size))) { s with heap := (s.heap.push o).push { cls := .type "enumerate", data := .fields #[.none, .bool false, .ref s.heap.objs.size, rawInt 0, .none, .none] } }) :=
  .of_wp fun prog w A R s hh => by
    obtain ⟨hp, g, d, tk, os⟩ := s
    obtain ⟨hb, hr⟩ := hh
    have hsub := sub_enumerate
    have begun : ∀ {A' : Around} {E : Value → Shared → Prop} {Q : Value → Shared → Prop}, Q (.ref hp.objs.size) ⟨hp.push o, g, d, tk, os⟩ → wpAny (model prog w) A' (pyIter v) Q E ⟨hp, g, d, tk, os⟩ :=
      fun q => B.iter prog w _ _ ⟨hp, g, d, tk, os⟩ _ hb q
    wp_walk using begun
    refine wpAny_stack_any fun st => wpAny_pure ?_
    split
    · rename_i c _ _ _ _ _
      cases (c == Value.type "enumerate")
      all_goals
        wp_walk using begun
        exact ⟨_, rfl, hr⟩
    · wp_walk using begun
      exact ⟨_, rfl, hr⟩
section
variable {prog : Program} {w : World} {A : Around} {E : Value → Shared → Prop} {s : Shared}
theorem enum_begins1 {v : Value} {o : Obj} {H : Heap → Prop} {Q : Value → Shared → Prop} (B : Begins v o H) (h1 : H s.heap)
    (h : ∀ h', IsEnum h' (s.heap.objs.size + 1) s.heap.objs.size 0 .none → h'.get? s.heap.objs.size = some o → h'.objs.size = s.heap.objs.size + 2 →
      (∀ b o, s.heap.get? b = some o → h'.get? b = some o) → Q (.ref (s.heap.objs.size + 1)) { s with heap := h' }) :
    wpAny (model prog w) A (call (.type "enumerate") [v]) Q E s := by
  refine callType_new F.called_enumerate (by decide) (F.typeCall_enumerate_1 _) (F.newCall_enumerate_1 _) (fun obj => F.args_object_init_2 obj _) F.entry_enumerate_new (meets_enum_oneB B) ⟨h1, ?_⟩
  have hz : (s.heap.push o).objs.size = s.heap.objs.size + 1 := Heap.size_push ..
  show _ ∧ _
  rw [hz]
  have he : IsEnum ((s.heap.push o).push { cls := .type "enumerate", data := .fields #[.none, .bool false, .ref s.heap.objs.size, rawInt 0, .none, .none] }) (s.heap.objs.size + 1) s.heap.objs.size 0 .none := by
    have q := Heap.get?_push_size (s.heap.push o) (o := { cls := .type "enumerate", data := .fields #[.none, .bool false, .ref s.heap.objs.size, rawInt 0, .none, .none] }) rfl
    rw [hz] at q
    exact q
  exact ⟨⟨_, he, rfl⟩, h _ he (Heap.get?_push_of_some _ (Heap.get?_push_size _ B.free)) (by rw [Heap.size_push, hz]) fun b o x => Heap.get?_push_of_some _ (Heap.get?_push_of_some _ x)⟩
theorem enum_endT {e it l : Addr} {i : Nat} {items : Array Value} {c : Int} {old : Value} {Q : Option Value → Shared → Prop} (hh : A.in1.handled = none)
    (he : IsEnum s.heap e it c old) (hit : s.heap.IsTupleIter it l i) (hl : s.heap.IsTuple l items) (hx : items[i]? = none)
    (hQ : ∀ h', Heap.ExtBut it s.heap h' → Q none { s with heap := h' }) : wpAny (model prog w) A (pyNext (.ref e)) Q E s := by
  have ht : s.TypeIs (.ref e) "enumerate" := ⟨_, he, rfl⟩
  unfold pyNext
  refine wpAny_bind (wpAny_attempt (wpAny_callSpecial?_slot (name := Str.ofString "__next__") ht F.slot_enumerate_next
    (wpAny_call_entry F.slot_enumerate_next ht F.entry_enumerate_next ?_ (F.args_enumerate_next_1 _))))
  show wpAny _ _ (field (.ref e) 2 >>= _) _ _ _
  refine wpAny_bind (wpAny_field he rfl (x := .ref it) rfl (wpAny_bind (wpAny_nextOf_tuple_end hh hit hl hx fun h' x he' hx' => ?_)))
  obtain ⟨o, ho, hc⟩ := hx'
  refine wpAny_bind (wpAny_isInstance (T := "StopIteration") (b := true) ⟨o, ho, hc⟩ isSubtype_stop ?_)
  exact wpAny_pure (hQ _ he')
end
end PySem
namespace L2
open PySem PySem.Spec PyProof.Rows
/-- the tuple at a as it stands at each turn, each item in a new pair -/
def IteT (K : PySem.W.Frag) (a : Addr) : It :=
  ⟨fun i H => ∃ (xs : List V) (x : V), SqT K H a xs ∧ xs[i]? = some x, fun i H v H' => ∃ T x, v = .ref T ∧ H T = none ∧ H' = upd H T (.tup [.int (i : Nat), x]) ∧ ∀ xs, SqT K H a xs → xs[i]? = some x, fun i H => ∃ xs : List V, SqT K H a xs ∧ xs.length ≤ i⟩
theorem turn_enumT {P : Program} {w : World} {K : PySem.W.Frag} {elts : List Expr} {kk : Nat} {tpos : Pos} (a e it : Addr) (ha : a ≠ it) (hae : a ≠ e) :
    Turn P w K (.Tuple elts kk tpos) (IteT K a) [e, it] e (fun i h => (∃ old, IsEnum h e it ((i : Nat) : Int) old) ∧ h.IsTupleIter it a i ∧ e ≠ it) where
  mem := by simp
  obj := fun i h st b hb => by
    obtain ⟨⟨old, he⟩, ⟨o, ho, hc, hd⟩, _⟩ := st
    have e' : b = e ∨ b = it := by simpa using hb
    rcases e' with z | z
    · rw [z]; exact ⟨_, he, fun v q => nomatch q⟩
    · rw [z]; exact ⟨o, ho, fun v q => by rw [hd] at q; cases q⟩
  keep := fun i h h' st k => let ⟨⟨old, he⟩, hi, hne⟩ := st; ⟨⟨old, k e (by simp) _ he⟩, hi.at fun o q => k it (by simp) o q, hne⟩
  item := by
    intro X hP hw hK hc i pins s σ H E I hf st hg
    subst hP hw hK
    obtain ⟨⟨old, he⟩, hit, hne⟩ := st
    obtain ⟨xs, x, hq, hx⟩ := hg
    obtain ⟨its, rv, p, hz⟩ := I.tuple hq
    obtain ⟨u, hu, ru⟩ := rv.get hx
    have hil : i < its.toArray.size := by
      have z := (List.getElem?_eq_some_iff.mp hu).1
      simpa using z
    have D := Draws.tuple (prog := X.prog) (w := X.w) (A := X.A.in1) (I.ok.hd hc) it a ha its.toArray
    have hel : e < s.heap.objs.size := Heap.lt_size he
    have hill : it < s.heap.objs.size := by obtain ⟨_, q, _⟩ := hit; exact Heap.lt_size q
    refine wpAny_pyNext_enum_itemD D he ⟨hit, p⟩ hil hne (by simp [hne, Ne.symm hae]) fun x1 h' tk hP ho hit' hT hsz hk => ?_
    obtain rfl : x1 = u := by
      have z : its.toArray[i]? = some x1 := hP
      have z2 : its[i]? = some x1 := by simpa using z
      rw [hu] at z2
      exact (Option.some.inj z2).symm
    refine ⟨_, rfl, wpAny_letOwnedTupleGo_enum (s := { s with heap := h', toks := tk + 1 }) ho fun h'' he' sb => ?_⟩
    have hT2 : h''.get? s.heap.objs.size = some { cls := .type "tuple", data := .seq #[.int i tk, x1] } := (sb.2 _ (Nat.ne_of_gt hel)).trans hT
    have new : ObjOk X.prog X.w (upd H s.heap.objs.size (.tup [.int (i : Nat), x])) h'' s.heap.objs.size (.tup [.int (i : Nat), x]) :=
      ⟨by show 2 ≤ sizeLine; decide, [.int i tk, x1], .cons ⟨_, rfl⟩ (.cons ru .nil), ⟨_, hT2, rfl, _, rfl⟩⟩
    have I1 : Inv X pins σ (upd H s.heap.objs.size (.tup [.int (i : Nat), x])) { s with heap := h'', toks := tk + 1 } :=
      I.turnedNew (ch := [e, it]) (fun b ob hb q => (sb.2 b (fun z => hb (by simp [z]))).trans (hk b ob (fun z => hb (by simp [z])) (fun z => hb (by simp [z])) q)) hf (Nat.le_refl _) new
    refine ⟨.ref s.heap.objs.size, _, I1, rfl, ⟨_, x, rfl, I.hok.fresh (Nat.le_refl _), rfl, fun ys hy => by rw [I.tuple_inj hy hq]; exact hx⟩, ⟨⟨x1, ?_⟩, hit'.1.at fun o q => (sb.2 it (Ne.symm hne)).trans q, hne⟩, fun b hb => ?_⟩
    · have e1 : ((i + 1 : Nat) : Int) = (i : Int) + 1 := by omega
      rw [e1]; exact he'
    · have hb' : b < s.heap.objs.size := by
        have e' : b = e ∨ b = it := by simpa using hb
        rcases e' with z | z
        · rw [z]; exact hel
        · rw [z]; exact hill
      rw [upd_ne (Nat.ne_of_lt hb')]
      exact (hf b hb).1
  done := by
    intro X hP hw hK hc i pins s σ H E I hf st hg
    subst hP hw hK
    obtain ⟨⟨old, he⟩, hit, hne⟩ := st
    obtain ⟨xs, hq, hx⟩ := hg
    obtain ⟨its, rv, p, hz⟩ := I.tuple hq
    obtain ⟨f0, f1, f2, f3, f4, f5⟩ := hf it (by simp)
    have hl := rv.length
    exact enum_endT (I.ok.hd hc) he hit (show s.heap.IsTuple a its.toArray from p) (by simp; omega) fun h' eb => ⟨rfl, I.turned (t' := s.toks) (fun b o hb q => eb b o hb q) f0 f1 f3 f4 f5⟩
  self := fun A i s Q E st h => let ⟨⟨_, he⟩, _⟩ := st; wpAny_pyIter_enum he h
def iEnumT (K : PySem.W.Frag) (ta : TA) : TI := fun σ H R => ta σ H fun vs H1 => ∃ a xs, vs = [.ref a] ∧ SqT K H1 a xs ∧ R (IteT K a) H1
theorem pi_enumT {X : Cx} {e : Expr} {ta : TA} {p pos tpos : Pos} {elts : List Expr} {kk : Nat} (hg : Gl X "enumerate") (hm : X.mg "enumerate" = none) (ha : PA X [e] ta) (hs : starEach [e] X.env = [(false, eval e X.env)] := by rfl) :
    PI X (.Tuple elts kk tpos) (.Call (.Name "enumerate" p) [e] [] pos) (iEnumT X.K ta) := by
  refine ⟨fun pins s σ H R I h => ?_⟩
  refine Call_ (ld_blt I hg hm boot_enumerate (PyProof.Rows.callWith_type1 (thn (ha.run pos pins s σ H _ I h) fun us s1 ⟨vs, H1, I1, r1, q1⟩ => ?_) hs rfl))
  obtain ⟨a, xs, ex, hq, q⟩ := q1
  subst ex
  cases r1 with
  | cons r rr =>
    cases rr
    cases r
    obtain ⟨its, rv, p', hz⟩ := I1.tuple hq
    have hal : a < s1.heap.objs.size := by obtain ⟨_, z, _⟩ := p'; exact Heap.lt_size z
    refine enum_begins1 (begins_tuple a its.toArray) p' fun h' he hit hsz hk => wpAny_pyIter_enum he ?_
    have I2 : Inv X pins σ H1 { s1 with heap := h' } := I1.kept (t' := s1.toks) hk
    refine ⟨s1.heap.objs.size + 1, [s1.heap.objs.size + 1, s1.heap.objs.size], _, _, H1, rfl, I2, turn_enumT a (s1.heap.objs.size + 1) s1.heap.objs.size (Nat.ne_of_lt hal) (Nat.ne_of_lt (Nat.lt_succ_of_lt hal)), ⟨⟨.none, he⟩, ⟨_, hit, rfl, rfl⟩, Nat.succ_ne_self _⟩, fun b hb => ?_, q⟩
    have e' : b = s1.heap.objs.size + 1 ∨ b = s1.heap.objs.size := by simpa using hb
    have hle : s1.heap.objs.size ≤ b := by
      rcases e' with z | z
      · rw [z]; exact Nat.le_add_right _ _
      · rw [z]; exact Nat.le_refl _
    exact I1.fpOk hle (I1.hok.fresh hle)
end L2
end
section
set_option Elab.async false
set_option linter.all false
set_option maxRecDepth 100000
set_option maxHeartbeats 4000000
/-! What all laws of the yard lean on, over the hand layer. -/
namespace L2
open PySem PySem.Spec PyProof.Rows
section
variable {X : Cx}
/-! ### t * k, t not empty, 0 ≤ k -/
theorem tuple_mul0 (l : Addr) (items : Array Value) (n : Nat) (dd : Option Addr) (sl : Array (Option Value)) (x : Int) (u : Tok) (c0 : (decide (x < -(2 ^ 63)) || decide (x ≥ 2 ^ 63)) = false) (c1 : (items.isEmpty || x == 1) = false) (c2 : (decide (x ≤ 0) || items.isEmpty) = true) :
    Meets (Builtin.«tuple.__mul__» ⟨[.ref l, .int x u], []⟩) (fun _ R s => s.heap.get? l = some { cls := .type "tuple", dict := dd, data := .seq items n, slots := sl } ∧
      R (.ok (.ret (Value.ref s.heap.objs.size))) { s with heap := s.heap.push { cls := Value.type "tuple", data := Data.seq #[] }, toks := s.toks }) :=
  .of_wp fun prog w A R s h => by
    obtain ⟨hp, g, d, tk, os⟩ := s
    obtain ⟨hl, h⟩ := h
    have f1 := AutoSeq1.idx_int
    wp_walk using wpAny_loadPart' hl
    repeat (first
      | (refine wpAny_ite_false (decide_eq_false (by rw [c0]; exact Bool.false_ne_true)) ?_; wp_walk using wpAny_loadPart' hl)
      | (refine wpAny_ite_false (decide_eq_false (by rw [c1]; exact Bool.false_ne_true)) ?_; wp_walk using wpAny_loadPart' hl)
      | (refine wpAny_ite_true (decide_eq_true c2) ?_; wp_walk using wpAny_loadPart' hl))
    exact ⟨_, rfl, h⟩
theorem tuple_mul1 (l : Addr) (items : Array Value) (n : Nat) (sl : Array (Option Value)) (dd : Option Addr) (x : Int) (u : Tok) (c0 : (decide (x < -(2 ^ 63)) || decide (x ≥ 2 ^ 63)) = false) (c1 : (items.isEmpty || x == 1) = true) :
    Meets (Builtin.«tuple.__mul__» ⟨[.ref l, .int x u], []⟩) (fun _ R s => s.heap.get? l = some { cls := .type "tuple", dict := dd, data := .seq items n, slots := sl } ∧ R (.ok (.ret (Value.ref l))) s) :=
  .of_wp fun prog w A R s h => by
    obtain ⟨hp, g, d, tk, os⟩ := s
    obtain ⟨hl, h⟩ := h
    have f1 := AutoSeq1.idx_int
    wp_walk using wpAny_loadPart' hl
    repeat (first
      | (refine wpAny_ite_false (decide_eq_false (by rw [c0]; exact Bool.false_ne_true)) ?_; wp_walk using wpAny_loadPart' hl)
      | (refine wpAny_ite_true (decide_eq_true c1) ?_; wp_walk using wpAny_loadPart' hl))
    exact ⟨_, rfl, h⟩
def rRepG (K : PySem.W.Frag) : R2 := fun x y H Q => ∃ l k xs, x = .ref l ∧ y = .int k ∧ SqT K H l xs ∧ xs ≠ [] ∧ 0 ≤ k ∧ k ≤ 4000 ∧ xs.length ≤ 100 ∧ (k = 1 → Q (.ref l) H) ∧ (k ≠ 1 → ∀ p, H p = none → Q (.ref p) (upd H p (.tup (List.replicate k.toNat xs).flatten)))
theorem op_repG : OpR X (binaryOp .Mult) (rRepG X.K) := by
  intro pins s σ H x y v u Q I rx ry h
  obtain ⟨l, k, xs, rfl, rfl, hT, hne, h1, h2, hz, qs, qn⟩ := h
  cases rx
  obtain ⟨t, rfl⟩ := ry
  obtain ⟨its, r, ⟨⟨cls, dd, data, sl⟩, ho, hc, n, hd⟩, hs⟩ := I.tuple hT
  simp only at hc hd
  subst hc hd
  have hle : its.length = xs.length := r.length.symm
  have hn : its ≠ [] := fun e => hne (by
    rw [e] at hle
    exact List.eq_nil_of_length_eq_zero hle.symm)
  have hi : its.toArray.isEmpty = false := by
    cases its with
    | nil => exact absurd rfl hn
    | cons a b => rfl
  have hsz0 : its.toArray.size = xs.length := by rw [List.size_toArray, hle]
  have c0 : (decide (k < -(2 ^ 63)) || decide (k ≥ 2 ^ 63)) = false := by
    rw [decide_eq_false (by omega), decide_eq_false (by omega)] <;> rfl
  by_cases e1 : k = 1
  · have c1 : (its.toArray.isEmpty || k == 1) = true := by
      rw [hi, Bool.false_or]
      exact beq_iff_eq.mpr e1
    refine wpAny_binaryOp_repeat_ref (T := "tuple") (U := "int") (by decide) ⟨_, ho, rfl⟩ (fun s' => typeIs_int s' k t) noFill_tuple_mul F.fills_int_mul F.slot_int_rmul repeat_tuple F.slot_int_index.lookup
      (call_meets F.slot_int_rmul (typeIs_int s k t) F.entry_int_rmul (F.args_int_rmul_2 _ _) (int_rmul_tuple k t l its.toArray n dd sl)
        ⟨ho, rfl, ⟨_, ho, rfl⟩, call_meets F.slot_tuple_mul ⟨_, ho, rfl⟩ F.entry_tuple_mul (F.args_tuple_mul_2 _ _) (tuple_mul1 l its.toArray n sl dd k t c0 c1) ⟨ho, ?_⟩⟩)
    exact ⟨.ref l, H, I, rfl, qs e1⟩
  · have c1 : (its.toArray.isEmpty || k == 1) = false := by
      rw [hi, Bool.false_or]
      exact beq_eq_false_iff_ne.mpr e1
    by_cases e0 : k = 0
    · subst e0
      refine wpAny_binaryOp_repeat_ref (T := "tuple") (U := "int") (by decide) ⟨_, ho, rfl⟩ (fun s' => typeIs_int s' 0 t) noFill_tuple_mul F.fills_int_mul F.slot_int_rmul repeat_tuple F.slot_int_index.lookup
        (call_meets F.slot_int_rmul (typeIs_int s 0 t) F.entry_int_rmul (F.args_int_rmul_2 _ _) (int_rmul_tuple 0 t l its.toArray n dd sl)
          ⟨ho, rfl, ⟨_, ho, rfl⟩, call_meets F.slot_tuple_mul ⟨_, ho, rfl⟩ F.entry_tuple_mul (F.args_tuple_mul_2 _ _) (tuple_mul0 l its.toArray n dd sl 0 t c0 c1 rfl) ⟨ho, ?_⟩⟩)
      refine ⟨.ref s.heap.objs.size, _, I.laid (t' := s.toks) (o := .tup (List.replicate (0 : Int).toNat xs).flatten) (fun b ob q => Heap.get?_push_of_some _ q) (Nat.le_refl _) ?_, rfl, qn (by decide) _ (I.hok.fresh (Nat.le_refl _))⟩
      exact ⟨by rw [sizeLine_eq]; exact Nat.zero_le _, [], .nil, IsTup.new _ _⟩
    · have hm : ((its.toArray.size : Nat) : Int) * k ≤ 400000 := by
        rw [hsz0]
        have a1 : ((xs.length : Nat) : Int) * k ≤ 100 * k := Int.mul_le_mul_of_nonneg_right (by omega) (by omega)
        omega
      have flen : (List.replicate k.toNat its).flatten.length ≤ sizeLine := by
        rw [PyProof.Rows.lm_len_rep_flat, hle, sizeLine_eq]
        have a1 : k.toNat * xs.length ≤ 4000 * 100 := Nat.mul_le_mul (by omega) hz
        omega
      have c2 : (decide (k ≤ 0) || its.toArray.isEmpty) = false := by
        rw [hi, Bool.or_false]
        exact decide_eq_false (by omega)
      have c4 : Builtin.Tuple.tupleTooMany (((its.toArray.size : Nat) : Int) * k) = false := by
        unfold Builtin.Tuple.tupleTooMany
        rw [sizeLine_eq]
        exact decide_eq_false (by omega)
      refine wpAny_binaryOp_repeat_ref (T := "tuple") (U := "int") (by decide) ⟨_, ho, rfl⟩ (fun s' => typeIs_int s' k t) noFill_tuple_mul F.fills_int_mul F.slot_int_rmul repeat_tuple F.slot_int_index.lookup
        (call_meets F.slot_int_rmul (typeIs_int s k t) F.entry_int_rmul (F.args_int_rmul_2 _ _) (int_rmul_tuple k t l its.toArray n dd sl)
          ⟨ho, rfl, ⟨_, ho, rfl⟩, call_meets F.slot_tuple_mul ⟨_, ho, rfl⟩ F.entry_tuple_mul (F.args_tuple_mul_2 _ _) (tuple_mulW l its.toArray n dd sl k t c0 c1 c2 (by omega) c4 (by rw [size_rep, List.size_toArray]; exact flen)) ⟨ho, ?_⟩⟩)
      rw [size_rep]
      refine ⟨.ref s.heap.objs.size, _, I.laid (t' := s.toks) (o := .tup (List.replicate k.toNat xs).flatten) (fun b ob q => Heap.get?_push_of_some _ q) (Nat.le_refl _) ?_, rfl, qn e1 _ (I.hok.fresh (Nat.le_refl _))⟩
      exact ⟨by rw [PyProof.Rows.lm_len_rep_flat, sizeLine_eq]; have a1 : k.toNat * xs.length ≤ 4000 * 100 := Nat.mul_le_mul (by omega) hz; omega, _, r.rep k.toNat, IsTup.new _ _⟩

/-! ### t.count(x), t a tuple of texts -/
def eqs (z : Str) (v : Value) : Bool := match v with
  | .str y _ => y == z
  | _ => false
theorem eqs_count {z : Str} : ∀ {ys : List Str} {us : List Value}, Vals (ys.map V.str) us → us.countP (eqs z) = ys.count z
  | [], _, .nil => rfl
  | y :: ys, _, .cons r rt => by
    obtain ⟨t, rfl⟩ := r
    have ih := eqs_count (z := z) rt
    rw [List.countP_cons, List.count_cons, ih]
    rfl
theorem eqs_at {A : Around} {s : Shared} {z : Str} {t : Tok} : ∀ {ys : List Str} {us : List Value}, Vals (ys.map V.str) us → ∀ y ∈ us, SeqAt.EqAt A s y (.str z t) (eqs z y)
  | [], _, .nil, _, h => nomatch h
  | y :: ys, _, .cons r rt, u, h => by
    rcases List.mem_cons.mp h with e | e
    · subst e
      obtain ⟨k, rfl⟩ := r
      exact SeqAt.EqAt.str_str y k z t
    · exact eqs_at rt u e
def rCntT (K : PySem.W.Frag) : V → List V → Hp → VK → Prop := fun x xs H Q => ∃ (p : Addr) (ys : List Str) (z : Str), x = .ref p ∧ xs = [.str z] ∧ SqT K H p (ys.map V.str) ∧ Q (.int (ys.count z : Nat)) H
theorem mt_tcount : MtR X "tuple.count" (rCntT X.K) := by
  intro pins s σ H x xs v us Q I rx rxs h
  obtain ⟨p, ys, z, rfl, rfl, hs, q⟩ := h
  cases rx
  obtain ⟨u, rfl, ru⟩ := rxs.one
  obtain ⟨t, rfl⟩ := ru
  obtain ⟨its, rv, ⟨⟨cls, dd, data, sl⟩, ho, hc, n, hd⟩, hlen⟩ := I.tuple hs
  simp only at hc hd
  subst hc hd
  refine call_meets PySem.F.slot_tuple_count ⟨_, ho, rfl⟩ PySem.F.entry_tuple_count (PySem.F.args_tuple_count_2 _ _)
    (SeqAt.tuple_countAt p its.toArray n dd sl (.str z t) (eqs z)) ⟨ho, fun y hy => eqs_at rv y (by simpa using hy), ?_⟩
  have ec : its.toArray.toList.countP (eqs z) = ys.count z := eqs_count rv
  refine ⟨.int (ys.count z : Nat), H, I.tok _, ⟨s.toks, ?_⟩, q⟩
  show Value.int ((its.toArray.toList.countP (eqs z) : Nat) : Int) s.toks = Value.int ((ys.count z : Nat) : Int) s.toks
  rw [ec]

/-! ### f(e, ..), f a def of the module by its positional promise -/
def tCallR (sp : Sp) (E : XK) (t : TA) : TE := fun σ H Q => t σ H fun vs H1 => sp vs H1 Q E
theorem pe_callR {CX : CXT} {k : Nat} {f : Addr} {x : Str} {sp : Sp} {E : XK} {e : Expr} {es : List Expr} {t : TA} {p pos : Pos} (F : FnR X.prog X.w X.K X.mg X.base CX k f sp) (hr : Room k X.A) (hk : PySem.W.keepIn X.K (.ref f) = true) (hm : X.mg x = some (.ref f)) (hx : Passes CX X E) (ha : PA X (e :: es) t)
    (hg : Gl X x) (hd : (x == ("__debug__" : Str)) = false)
    (he : starEach (e :: es) X.env = (false, eval e X.env) :: starEach es X.env) (hpl : (backTo pos (starEach es X.env)).any (·.1) = false) :
    PE X (.Call (.Name x p) (e :: es) [] pos) (tCallR sp E t) := by
  refine ⟨fun pins s σ H Q I h => ?_⟩
  refine wpAny_Call_Name_kw (ld_glob I hg hm ?_ hd)
  refine PySem.W.callWith_K (h₀ := X.base) I.ok.mod.kin hk (thn (ha.run pos pins s σ H _ I h) fun us s1 ⟨vs, H1, I1, r, q⟩ => ⟨I1.kIn, ?_⟩) he hpl
  exact wpAny_call (run_fnR F hr hx I1 r q)
end
end L2
namespace Sh
open PySem PySem.Spec PyProof.Rows L2
/-! ### a def of the module keeps a promise -/
def DefOk (P : Program) (w : World) (K : PySem.W.Frag) (mg : Str → Option Value) (base : Heap) (CX : CXT) (k : Nat) (x : Str) (sp : Sp) : Prop :=
  ∃ f, mg x = some (.ref f) ∧ PySem.W.keepIn K (.ref f) = true ∧ FnR P w K mg base CX k f sp
/-- where a def stands -/
def Def0 (K : PySem.W.Frag) (mg : Str → Option Value) (x : Str) (st : Stmt) : Prop := ∃ f fd, mg x = some (.ref f) ∧ FunD K x x (defArgs st) (defBody st) (defScope st) [] [] f fd
section
variable {P : Program} {w : World} {K : PySem.W.Frag} {mg : Str → Option Value} {base : Heap} {k j : Nat} {x : Str} {sp : Sp} {st : Stmt}
theorem DefOk.mono {CX : CXT} (D : DefOk P w K mg base CX j x sp) (h : j ≤ k) : DefOk P w K mg base CX k x sp := by
  obtain ⟨f, a, b, c⟩ := D
  exact ⟨f, a, b, c.mono h⟩
theorem DefOk.imp {CX : CXT} {sp' : Sp} (D : DefOk P w K mg base CX k x sp) (h : ∀ vs H Q E, sp' vs H Q E → sp vs H Q E) : DefOk P w K mg base CX k x sp' := by
  obtain ⟨f, a, b, c⟩ := D
  exact ⟨f, a, b, c.imp h⟩
theorem pe_d {X : Cx} {CX : CXT} {E : XK} {e : Expr} {es : List Expr} {t : TA} {p pos : Pos} (D : DefOk X.prog X.w X.K X.mg X.base CX k x sp) (hr : Room k X.A) (hx : Passes CX X E) (ha : PA X (e :: es) t)
    (hg : Gl X x := by rfl) (hd : (x == ("__debug__" : Str)) = false := by decide)
    (he : starEach (e :: es) X.env = (false, eval e X.env) :: starEach es X.env := by rfl) (hpl : (backTo pos (starEach es X.env)).any (·.1) = false := by rfl) :
    PE X (.Call (.Name x p) (e :: es) [] pos) (tCallR sp E t) := by
  obtain ⟨f, a, b, c⟩ := D
  exact pe_callR c hr b a hx ha hg hd he hpl
/-- a def without defaults that raises nothing -/
theorem Def0.ok {N ps : List Str} (D : Def0 K mg x st) (S : FnScope N ps (defScope st)) (len : ∀ vs H Q E, sp vs H Q E → vs.length = ps.length)
    (hb : ∀ (kV doc pm : Value) (an : Option Addr) (cdv ct : Value) (us : List Value), us.length = ps.length → bindArgs (PySem.W.fnOf x x (defArgs st) (defBody st) (defScope st) .none kV doc pm an cdv ct) ⟨us, []⟩ = pure (ps.zip us))
    (hbody : ∀ (f : Addr) (cdv : Value) (A : Around) (outer : List Env) (s : Shared) (H : Hp) (vs : List V) (Q : VK) (E : XK), Room k (A.deeper (envOfC x (defScope st) s.heap.objs.size f cdv)) → sp vs H Q E →
      ∃ t, PSs (cxOf CX0 P w K mg base N x (defScope st) f cdv A outer s H E).nox (defBody st) t ∧ t { nx := fun _ H' => Q .non H', rt := Q } (start N vs) H) : DefOk P w K mg base CX0 (k + 1) x sp := by
  obtain ⟨f, fd, hm, F⟩ := D
  have G : FnOk P w K mg base CX0 (k + 1) f fd ps sp := F.ok S len fun cdv A outer s H vs Q E hr h => by
    obtain ⟨t, a, b⟩ := hbody f cdv A outer s H vs Q E hr h
    exact ⟨t, a.nox, b⟩
  have B : Binds K fd ps [] := F.bindsN hb
  refine ⟨f, hm, F.kp, fun A outer s H us vs Q E hr e0 r hs => G.raw B .nil A outer s H us vs Q E hr e0 r (by show sp (vs ++ []) H Q E; rw [List.append_nil]; exact hs)⟩
/-- a def without defaults that may raise -/
theorem Def0.okX {N ps : List Str} (D : Def0 K mg x st) (S : FnScope N ps (defScope st)) (len : ∀ vs H Q E, sp vs H Q E → vs.length = ps.length)
    (hb : ∀ (kV doc pm : Value) (an : Option Addr) (cdv ct : Value) (us : List Value), us.length = ps.length → bindArgs (PySem.W.fnOf x x (defArgs st) (defBody st) (defScope st) .none kV doc pm an cdv ct) ⟨us, []⟩ = pure (ps.zip us))
    (hbody : ∀ (f : Addr) (cdv : Value) (A : Around) (outer : List Env) (s : Shared) (H : Hp) (vs : List V) (Q : VK) (E : XK), Room k (A.deeper (envOfC x (defScope st) s.heap.objs.size f cdv)) → sp vs H Q E →
      ∃ t, PSs (cxOf (L2.CX P w) P w K mg base N x (defScope st) f cdv A outer s H E) (defBody st) t ∧ t { nx := fun _ H' => Q .non H', rt := Q } (start N vs) H) : DefOk P w K mg base (L2.CX P w) (k + 1) x sp := by
  obtain ⟨f, fd, hm, F⟩ := D
  have G : FnOk P w K mg base (L2.CX P w) (k + 1) f fd ps sp := F.ok S len fun cdv A outer s H vs Q E hr h => by
    obtain ⟨t, a, b⟩ := hbody f cdv A outer s H vs Q E hr h
    exact ⟨t, a, b⟩
  have B : Binds K fd ps [] := F.bindsN hb
  refine ⟨f, hm, F.kp, fun A outer s H us vs Q E hr e0 r hs => G.raw B .nil A outer s H us vs Q E hr e0 r (by show sp (vs ++ []) H Q E; rw [List.append_nil]; exact hs)⟩
end
end Sh
end
section
set_option Elab.async false
set_option linter.all false
set_option maxRecDepth 100000
set_option maxHeartbeats 2000000
set_option autoImplicit false
/-! Tuples whose object is known to have no dict: how they are made, and their methods. -/
namespace L2
open PySem PySem.Spec PyProof.Rows
/-- a tuple that is followed -/
def Tq (H : Hp) (a : Addr) (xs : List V) : Prop := Rd H a (.tup xs)
/-- .. whose object has no dict -/
def Tz (H : Hp) (a : Addr) (xs : List V) : Prop := ∃ o, H a = some (.frz o (.tup xs)) ∧ o.dict = none
theorem Tq.of {H : Hp} {a : Addr} {xs : List V} (h : H a = some (.tup xs)) : Tq H a xs := .inl h
theorem Tq.sq {K : PySem.W.Frag} {H : Hp} {a : Addr} {xs : List V} (h : Tq H a xs) : SqT K H a xs := .inl h
theorem Tq.same {H H' : Hp} {a : Addr} {xs : List V} (h : Tq H a xs) (s : ∀ b o, H b = some o → H' b = some o) : Tq H' a xs := by
  rcases h with h | ⟨o, h⟩
  · exact .inl (s _ _ h)
  · exact .inr ⟨o, s _ _ h⟩
theorem Tz.q {H : Hp} {a : Addr} {xs : List V} (h : Tz H a xs) : Tq H a xs := by
  obtain ⟨o, h, _⟩ := h
  exact .inr ⟨o, h⟩
theorem Tz.same {H H' : Hp} {a : Addr} {xs : List V} (h : Tz H a xs) (s : ∀ b o, H b = some o → H' b = some o) : Tz H' a xs := by
  obtain ⟨o, h, d⟩ := h
  exact ⟨o, s _ _ h, d⟩
theorem Tq.ne_none {H : Hp} {a p : Addr} {xs : List V} (h : Tq H a xs) (hp : H p = none) : a ≠ p := by
  rcases h with h | ⟨o, h⟩
  · exact ne_of_none h hp
  · exact ne_of_none h hp
/-- followed tuples stay -/
def TQ (H H' : Hp) : Prop := ∀ t xs, Tq H t xs → Tq H' t xs
theorem TQ.refl (H : Hp) : TQ H H := fun _ _ h => h
theorem TQ.trans {H H1 H2 : Hp} (x : TQ H H1) (y : TQ H1 H2) : TQ H H2 := fun t xs h => y t xs (x t xs h)
theorem TQ.of_same {H H' : Hp} (s : ∀ b o, H b = some o → H' b = some o) : TQ H H' := fun t xs q => q.same s
theorem TQ.new {H : Hp} {p : Addr} {o : HO} (h : H p = none) : TQ H (upd H p o) := fun t xs q => by
  have n := q.ne_none h
  rcases q with q | ⟨o, q⟩
  · exact .inl (by rw [upd_ne n]; exact q)
  · exact .inr ⟨o, by rw [upd_ne n]; exact q⟩
theorem TQ.lst {H : Hp} {p : Addr} {ys : List V} {o : HO} (h : H p = some (.lst ys)) : TQ H (upd H p o) := fun t xs q => by
  rcases q with q | ⟨o, q⟩
  · exact .inl (by rw [upd_ne (ne_of q h (by intro e; cases e))]; exact q)
  · exact .inr ⟨o, by rw [upd_ne (ne_of q h (by intro e; cases e))]; exact q⟩
section
variable {X : Cx}
/-- tuple(list) -/
def rTupF (K : PySem.W.Frag) : List V → Hp → VK → Prop := fun xs H Q => ∃ p ys, xs = [.ref p] ∧ SqL K H p ys ∧ ∀ l o, H l = none → o.dict = none → Q (.ref l) (upd H l (.frz o (.tup ys)))
theorem call_tupleF : CallR X (.type "tuple") (rTupF X.K) := by
  intro pins s σ H xs us Q I r h
  obtain ⟨p, ys, rfl, hq, q⟩ := h
  obtain ⟨u, rfl, rx⟩ := vals1 r
  cases rx
  obtain ⟨its, r', pl, hz⟩ := I.list hq
  have hlen := r'.length
  refine call_tuple_list pl.isList (fun h' kp => ?_) (by simp only [List.size_toArray] <;> omega)
  have I1 : Inv X pins σ H { s with heap := h' } := I.kept (t' := s.toks) kp
  have I2 : Inv X pins σ (upd H h'.objs.size (.frz { cls := .type "tuple", data := .seq its.toArray } (.tup ys))) { s with heap := h'.push { cls := .type "tuple", data := .seq its.toArray } } :=
    I1.laid (t' := s.toks) (fun b o e => Heap.get?_push_of_some _ e) (Nat.le_refl _) (show ObjOk X.prog X.w _ _ _ (.frz _ (.tup ys)) from ⟨Heap.get?_push_size _ rfl, hz, its, r', IsTup.new _ _⟩)
  exact ⟨.ref h'.objs.size, _, I2, rfl, q _ _ (I1.hok.fresh (Nat.le_refl _)) rfl⟩
/-- t + u, u not empty -/
def rCatF (K : PySem.W.Frag) : R2 := fun x y H Q => ∃ a b xs ys, x = .ref a ∧ y = .ref b ∧ SqT K H a xs ∧ SqT K H b ys ∧ ys ≠ [] ∧ xs.length + ys.length ≤ sizeLine ∧
  (xs = [] → Q (.ref b) H) ∧ (xs ≠ [] → ∀ p o, H p = none → o.dict = none → Q (.ref p) (upd H p (.frz o (.tup (xs ++ ys)))))
theorem op_catF : OpR X (binaryOp .Add) (rCatF X.K) := by
  intro pins s σ H x y v u Q I rx ry h
  obtain ⟨a, b, xs, ys, rfl, rfl, ha, hb, hy, hz, q0, q2⟩ := h
  by_cases hx : xs = []
  · exact op_catA pins s σ H _ _ v u Q I rx ry ⟨a, b, xs, ys, rfl, rfl, ha, hb, hz, q0, fun h => absurd hx h, fun h => absurd hx h⟩
  cases rx
  cases ry
  obtain ⟨its, r1, p1, _⟩ := I.tuple ha
  obtain ⟨its2, r2, p2, _⟩ := I.tuple hb
  refine HT.cat_tup p1 p2 (fun z => hx (r1.nil_iff.mp z)) (fun z => absurd (r2.nil_iff.mp z) hy) (fun z => ?_) (by rw [← r1.length, ← r2.length]; exact hz)
  refine ⟨.ref s.heap.objs.size, _, I.laid (t' := s.toks) (o := .frz { cls := .type "tuple", data := .seq (its ++ its2).toArray } (.tup (xs ++ ys))) (fun b ob q => Heap.get?_push_of_some _ q) (Nat.le_refl _) ?_, rfl, q2 hx _ _ (I.hok.fresh (Nat.le_refl _)) rfl⟩
  exact ⟨Heap.get?_push_size _ rfl, by rw [List.length_append]; exact hz, _, r1.append r2, IsTup.new _ _⟩
/-- (a, b) -/
def tTupF (t : TA) : TE := fun σ H Q => t σ H fun xs H1 => xs.length ≤ sizeLine ∧ ∀ p o, H1 p = none → o.dict = none → Q (.ref p) (upd H1 p (.frz o (.tup xs)))
theorem pe_tupF {es : List Expr} {x1 : Nat} {t : TA} {pos : Pos} (h : PA X es t) : PE X (.Tuple es x1 pos) (tTupF t) := by
  refine ⟨fun pins s σ H Q I hq => ?_⟩
  refine wpAny_Tuple_spliced (thn (h.run pos pins s σ H _ I hq) fun us s1 ⟨xs, H1, I1, r, z, q⟩ => ⟨by rw [← r.length]; exact z, ?_⟩)
  have hf : H1 s1.heap.objs.size = none := I1.hok.fresh (Nat.le_refl _)
  refine ⟨.ref s1.heap.objs.size, upd H1 s1.heap.objs.size (.frz { cls := .type "tuple", data := .seq us.toArray } (.tup xs)), I1.laid (t' := s1.toks) (fun b u e => Heap.get?_push_of_some _ e) (Nat.le_refl _) ?_, rfl, q _ _ hf rfl⟩
  exact ⟨Heap.get?_push_size _ rfl, z, us, r, ⟨_, Heap.get?_push_size _ rfl, rfl, _, rfl⟩⟩
/-- a method of it -/
def tyZ (x : V) (H : Hp) : Prop := ∃ a xs, x = .ref a ∧ Tz H a xs
theorem ty_Z : TyOk X "tuple" tyZ := by
  intro pins σ H s x v I r ty
  obtain ⟨a, xs, rfl, o, ho, hd⟩ := ty
  cases r
  obtain ⟨e, _, its, _, ⟨o2, e2, c, _⟩⟩ := I.hok a _ ho
  rw [e] at e2
  cases e2
  exact ⟨⟨o, e, c⟩, fun b eb => by cases eb; exact ⟨o, e, hd⟩⟩
end
end L2
end
section
set_option Elab.async false
set_option linter.all false
set_option maxRecDepth 100000
set_option maxHeartbeats 2000000
set_option autoImplicit false
/-! try with a first clause that has a name and takes what comes, whatever clauses follow. -/
namespace L2
open PySem PySem.Spec PyProof.Rows
/-- an exception that lies in the state s at hand, ahead of the clauses -/
structure Caught (X : Cx) (pins : List (Addr × Obj)) (σ : St) (H : Hp) (s : Shared) (a : Addr) (cls : Value) (d : Option Addr) : Prop where
  na : H a = none
  fly : ∃ B, HandSPX.FlyingZ B (X.env :: X.outer) a (Zc cls d) s.heap ∧ ∀ h, HandSPX.FlyingZ B (X.env :: X.outer) a (Zc cls d) h → s.heap.UpToSlots h → Inv X pins σ H { s with heap := h }
section
variable {X : Cx} {pins : List (Addr × Obj)} {σ : St} {H : Hp} {s : Shared} {a : Addr} {cls : Value} {d : Option Addr}
/-- into the suite of a clause -/
theorem suite_of {B : Heap} (hf : X.env.frame = some X.env.locals) (fl : HandSPX.FlyingZ B (X.env :: X.outer) a (Zc cls d) s.heap) (I : Inv X pins σ H s) (na : H a = none) :
    ∃ oe, (∃ vs, oe.data = .fields vs) ∧ s.heap.get? a = some oe ∧ Zc cls d oe ∧ Inv (X.suite a ((a, oe) :: (X.pn ++ pins))) [] σ H s := by
  obtain ⟨oe, vs, he, hz, hd⟩ := fl.there
  have off : ∀ f ∈ frs (X.env :: X.outer), a ≠ f := fun f hm e => by
    subst e
    obtain ⟨_, o, e2, nf⟩ := fl.2.2.1.mem hm
    rw [he] at e2
    cases e2
    exact nf _ hd
  refine ⟨oe, ⟨vs, hd⟩, he, hz, I.suite he hd na (off _ (List.mem_filterMap.mpr ⟨X.env, List.mem_cons_self, hf⟩)) fun hm => ?_⟩
  obtain ⟨en, hen, q⟩ := List.mem_filterMap.mp hm
  exact off a (List.mem_filterMap.mpr ⟨en, List.mem_cons_of_mem _ hen, q⟩) rfl
/-- a try statement by what its clauses do with what is caught -/
theorem ps_try_by {body : List Stmt} {hds : List ExceptHandler} {h₀ : ExceptHandler} {pos : Pos} {tb : WX → TS} {Wd : Ends → WX} (hs : X.stack = X.env :: X.outer) (hf : X.env.frame = some X.env.locals)
    (hb : ∀ (W : WX) (pn : List (Addr × Obj)) (xe : Value → Shared → Prop), Takes (X.tr pn xe) W → PassesOwn (model X.prog X.w) X.A X.env xe → PSs (X.tr pn xe) body (tb W))
    (hk : ∀ (pins : List (Addr × Obj)) (D : Ends) (σ : St) (H : Hp) (s : Shared) (a : Addr) (cls : Value) (d : Option Addr), X.Ok → Caught X pins σ H s a cls d → Wd D cls d σ H →
      wpAny (model X.prog X.w) X.A (handleBy (.ref a) X.env (h₀ :: hds)) (SP X pins D) X.xe s) :
    PS X (.Try body (h₀ :: hds) [] [] pos) (fun D σ H => tb (Wd D) D σ H) := by
  refine ⟨fun pins s σ H D I h => wpAny_Try_except ?_⟩
  have ok := I.ok
  have hfr : X.A.frames = some (X.env :: X.outer) := by rw [ok.frames, hs]
  have P := (hb (Wd D) (X.pn ++ pins) (fun e s₁ => wpAny (model X.prog X.w) X.A (noteFrame e X.env) (fun _ s₂ => wpAny (model X.prog X.w) X.A (setFlight e none) (fun _ s₃ =>
    wpAny (model X.prog X.w) X.A (handleBy e X.env (h₀ :: hds)) (SP X pins D) X.xe s₃) X.xe s₂) X.xe s₁) (fun u s' xx => by
      obtain ⟨a, B, sI, pins', σ', H', cls, d, rfl, J', nb, up, sky, na, os, ag, w⟩ := xx
      have sky' : Sky B (X.env :: X.outer) a (Zc cls d) X.env.locals s'.heap := by rw [← hs]; exact sky
      refine Sky.land Zc.steady hfr hf sky' fun h3 fl3 up3 => hk pins D σ' H' { s' with heap := h3 } a cls d ok ⟨na, B, fl3, fun h fl up4 => ?_⟩ w
      exact (J'.ofTry ok).landed nb fl.1 ((up.trans up3).trans up4) os ag) PassesOwn.looking).run [] s σ H D (I.toTry _) h
  refine wpAny_mono P (fun f s1 hsp => ?_) fun _ _ he => he
  cases f with
  | ret u =>
    obtain ⟨v, σ', H', J', r, q⟩ := hsp
    exact ⟨v, σ', H', J'.ofTry ok, r, q⟩
  | next =>
    obtain ⟨σ', H', J', q⟩ := hsp
    exact wpAny_execs_nil ⟨σ', H', J'.ofTry ok, q⟩
  | brk =>
    obtain ⟨σ', H', J', q⟩ := hsp
    exact ⟨σ', H', J'.ofTry ok, q⟩
  | cont =>
    obtain ⟨σ', H', J', q⟩ := hsp
    exact ⟨σ', H', J'.ofTry ok, q⟩
/-- the wish of a first clause 'except x as n' that takes it -/
def wFirst (K : PySem.W.Frag) (c : Value) (i : Nat) (ts : Addr → Value → Option Addr → TS) (D : Ends) : WX := fun cls d σ H =>
  PySem.W.exmOne K cls c = some true ∧ ∀ a, H a = none → ts a cls d { nx := fun σ' H' => D.nx (σ'.set i none) H', rt := D.rt, bk := fun σ' H' => D.bk (σ'.set i none) H', ct := fun σ' H' => D.ct (σ'.set i none) H' } (σ.set i (some (.ref a))) H
theorem ps_try_first {x n : Str} {c : Value} {i : Nat} {body suite : List Stmt} {b₀ : Stmt} {np pos pos' : Pos} {hds : List ExceptHandler} {tb : WX → TS} {ts : Addr → Value → Option Addr → TS} (hs : X.stack = X.env :: X.outer) (hf : X.env.frame = some X.env.locals) (hN : X.N.Nodup) (hi : X.N[i]? = some n) (hln : X.env.kindOf n = some .local) (hc : Names X x c)
    (hb : ∀ (W : WX) (pn : List (Addr × Obj)) (xe : Value → Shared → Prop), Takes (X.tr pn xe) W → PassesOwn (model X.prog X.w) X.A X.env xe → PSs (X.tr pn xe) body (tb W))
    (hsu : ∀ (a : Addr) (oe : Obj) (cls : Value) (d : Option Addr) (pn : List (Addr × Obj)), Zc cls d oe → (∃ vs, oe.data = .fields vs) → PSs (X.suite a ((a, oe) :: pn)) (b₀ :: suite) (ts a cls d)) :
    PS X (.Try body (.ExceptHandler (some (.Name x np)) (some n) (b₀ :: suite) pos' :: hds) [] [] pos) (fun D σ H => tb (wFirst X.K c i ts D) D σ H) := by
  refine ps_try_by (Wd := wFirst X.K c i ts) hs hf hb fun pins D σ H s a cls d ok C w => ?_
  obtain ⟨na, B, fl, back⟩ := C
  obtain ⟨hm, hw⟩ := w
  have I0 : Inv X pins σ H s := back s.heap fl (fun b o e _ => ⟨o.slots, e⟩)
  obtain ⟨oe, hd, he, hz, S⟩ := suite_of hf fl I0 na
  refine wpAny_handleBy_cons (codeAny_handlers_test ?_) (by intro q; cases q)
  have look : PySem.W.Looks (model X.prog X.w) s.heap (typeOf (.ref a)) cls := fun A Q E s k q => wpAny_typeOf_ref (k _ _ he) (by rw [hz.1]; exact q)
  have name : ∀ {Q : Value → Shared → Prop} {E : Value → Shared → Prop}, Q c s → wpAny (model X.prog X.w) (X.A.mark (some (.ref a))) (eval (.Name x np) X.env) Q E s := fun {Q E} q => by
    obtain ⟨hg, hdbg, hm | ⟨hm, hv, hnn⟩⟩ := hc
    · exact ld_glob (X := X.suite a ((a, oe) :: (X.pn ++ pins))) S hg hm q hdbg
    · exact ld_blt (X := X.suite a ((a, oe) :: (X.pn ++ pins))) S hg hm hv q hnn hdbg
  refine name ((PySem.W.exm_one (M := model X.prog X.w) I0.kIn look hm).here (codeAny_handlers_suite_as ?_))
  refine HandSPX.lands_againZ fl fun h4 fl4 up4 => ?_
  obtain ⟨oe4, hd4, _, hz4, S4⟩ := suite_of (s := { s with heap := h4 }) hf fl4 (back h4 fl4 up4) na
  refine store_ok (X := X.suite a ((a, oe4) :: (X.pn ++ pins))) (v := .ref a) S4 hN hi (.inl hln) rfl (fun s5 S5 => ?_) (.inr hln)
  have R := (hsu a oe4 cls d (X.pn ++ pins) hz4 hd4).run [] s5 _ H _ S5 (hw a na)
  refine wpAny_mono R (fun f s6 hsp => ?_) fun _ _ z => z.elim
  cases f with
  | ret u =>
    obtain ⟨v6, σ6, H6, S6, r6, q6⟩ := hsp
    exact gone_ok (S6.unsuite ok) hN hi hln fun s7 J7 => ⟨_, _, _, J7, r6, q6⟩
  | next =>
    obtain ⟨σ6, H6, S6, q6⟩ := hsp
    exact gone_ok (S6.unsuite ok) hN hi hln fun s7 J7 => ⟨_, _, J7, q6⟩
  | brk =>
    obtain ⟨σ6, H6, S6, q6⟩ := hsp
    exact gone_ok (S6.unsuite ok) hN hi hln fun s7 J7 => ⟨_, _, J7, q6⟩
  | cont =>
    obtain ⟨σ6, H6, S6, q6⟩ := hsp
    exact gone_ok (S6.unsuite ok) hN hi hln fun s7 J7 => ⟨_, _, J7, q6⟩
end
end L2
namespace Sh
open PySem PySem.Spec PyProof.Rows L2
/-- an own exception class in except clauses -/
structure XOk (K : PySem.W.Frag) (C : Addr) (fs : List Str) : Prop where
  xf : XfC K C
  no : ∀ f ∈ fs, PySem.W.findIn K (.ref C) f = some none
  me : PySem.W.exmOne K (.ref C) (.ref C) = some true
/-- a call whose exceptions are wished for at the slots at hand -/
theorem pe_dS {X : Cx} {CX : CXT} {E : L2.St → XK} {k : Nat} {x : Str} {sp : Sp} {e : Expr} {es : List Expr} {t : TA} {p pos : Pos} (D : DefOk X.prog X.w X.K X.mg X.base CX k x sp) (hr : Room k X.A) (hx : ∀ σ, PassesAt CX X σ (E σ)) (ha : PA X (e :: es) t)
    (hg : Gl X x := by rfl) (hd : (x == ("__debug__" : Str)) = false := by decide)
    (he : starEach (e :: es) X.env = (false, eval e X.env) :: starEach es X.env := by rfl) (hpl : (backTo pos (starEach es X.env)).any (·.1) = false := by rfl) :
    PE X (.Call (.Name x p) (e :: es) [] pos) (tCallS sp E t) := by
  obtain ⟨f, hm, hk, F⟩ := D
  refine ⟨fun pins s σ H Q I h => ?_⟩
  refine wpAny_Call_Name_kw (ld_glob I hg hm ?_ hd)
  refine PySem.W.callWith_K (h₀ := X.base) I.ok.mod.kin hk (thn (ha.run pos pins s σ H _ I h) fun us s1 ⟨vs, H1, I1, r, q⟩ => ⟨I1.kIn, ?_⟩) he hpl
  refine wpAny_call (codeAny_mono (F X.A X.stack s1 H1 us vs Q (E σ) hr I1.env0 r q) fun r s' hq => ?_)
  cases r with
  | error e => exact hx σ pins H1 s1 e s' I1 hq
  | ok fl =>
    cases fl with
    | ret u => exact I1.after hq
    | next => exact hq.elim
    | brk => exact hq.elim
    | cont => exact hq.elim
end Sh
end
section
set_option Elab.async false
set_option linter.all false
set_option maxRecDepth 100000
set_option maxHeartbeats 2000000
set_option autoImplicit false
/-! A hook that also tells of own exception classes with `super().__init__(..)`. -/
namespace Hx
open PySem PySem.Spec PyProof.Rows L2 He PySem.W
/-- an own exception class: its name, its fields, its __init__ as written -/
structure XDef where
  x : Str
  fs : List Str
  qual : Str
  params : Arguments
  body : List Stmt
  scope : Scope
abbrev XV : Type := Option (Str × Str × Arguments × FuncBody × Scope × Addr × Addr)
def iOf (K : Frag) (x : Str) : Addr := ma K (ga K x) "__init__"
def xvOf (K : Frag) (x : Str) : XV := match K.lookup (iOf K x) with
  | some ⟨_, _, .func fd, _⟩ => some (fd.name, fd.qualname, fd.params, fd.body, fd.scope, fd.globals, fd.builtins)
  | _ => none
def XDef.val (d : XDef) : XV := some ("__init__", d.qual, d.params, .stmts d.body, d.scope, mainGlobals, builtinsNs)
def cellB (K : Frag) (C : Addr) (cl : List (Str × Addr)) : Bool := match cl with
  | [(n, cc)] => decide (n = "__class__") && (match K.lookup cc with
    | some ⟨_, _, .cell (some (.ref D)), _⟩ => decide (D = C)
    | _ => false)
  | _ => false
def codeB (K : Frag) (file : Str) (cd : Value) : Bool := match cd with
  | .ref cda => (match K.lookup cda with
    | some ⟨_, _, .fields cvs, _⟩ => (match (cvs[2]? : Option Value) with
      | some (.str f _) => file == f
      | _ => false)
    | _ => false)
  | _ => false
def noneB (v : Value) : Bool := match v with
  | .none => true
  | _ => false
def funB (K : Frag) (file : Str) (d : XDef) : Bool := match K.lookup (iOf K d.x) with
  | some ⟨_, _, .func fd, _⟩ => noneB fd.defaults && (codeIn K fd.code d.qual && (codeB K file fd.code && cellB K (ga K d.x) fd.closure))
  | _ => false
def clsB (K : Frag) (C : Addr) : Bool := match K.lookup C with
  | some ⟨.type "type", _, .cls cd, sl⟩ => (match cd.mro, sl.toList with
    | .ref C' :: bm, [_, _, _, _, some (.builtin n), _] => decide (C' = C) && (decide (n = "ValueError.__new__") && (!cd.hasDel && (cd.hasDict && HandSPX.refsVE bm)))
    | _, _ => false)
  | _ => false
def XDef.ok (file : Str) (K : Frag) (d : XDef) : Bool :=
  clsB K (ga K d.x) && (funB K file d && (eqO (findIn K (.ref (ga K d.x)) "__setattr__") (some (some (.builtin "object.__setattr__"))) && ((d.fs.all fun f => eqO (findIn K (.ref (ga K d.x)) f) (some none)) &&
  (eqO (findIn K (.ref (ga K d.x)) "__init__") (some (some (.ref (iOf K d.x)))) && (decide (typeIn K (.ref (iOf K d.x)) = some (.type "function")) && (keepIn K (.ref (ga K d.x)) && (decide (subIn K (.ref (ga K d.x)) (.type "BaseException") = some true) &&
  (decide (subIn K (.ref (ga K d.x)) (.type "ValueError") = some true) && (decide (typeIn K (.ref (ga K d.x)) = some (.type "type")) && (decide (mroIn K (ga K d.x) (.ref (ga K d.x)) = some true) && (eqO (ks_superIn K (ga K d.x) (ga K d.x) "__init__") (some (some (.builtin "ValueError.__init__"))) &&
  (eqO (nsIn K cStatics "thirdparty.any") (some none) && (L2.xfB K (ga K d.x) && (decide (exmOne K (.ref (ga K d.x)) (.ref (ga K d.x)) = some true) && eqO (nsIn K mainGlobals d.x) (some (some (.ref (ga K d.x))))))))))))))))))
structure XFacts (prog : Program) (K : Frag) (d : XDef) (l : List SupX.StP) : Prop where
  txt : SupX.SupTxt prog K (ga K d.x) (iOf K d.x) d.qual d.params d.body d.scope l
  xf : L2.XfC K (ga K d.x)
  no : ∀ f ∈ d.fs, findIn K (.ref (ga K d.x)) f = some none
  me : exmOne K (.ref (ga K d.x)) (.ref (ga K d.x)) = some true
  gl : nsIn K mainGlobals d.x = some (some (.ref (ga K d.x)))
theorem facts_of {prog : Program} {K : Frag} {d : XDef} {l : List SupX.StP} (e : xvOf K d.x = d.val) (c : d.ok prog.main.file K = true) (hl : ∀ z ∈ l, z.f ∈ d.fs) : XFacts prog K d l := by
  unfold XDef.ok at c
  obtain ⟨c1, c⟩ := ba c
  obtain ⟨c2, c⟩ := ba c
  obtain ⟨c3, c⟩ := ba c
  obtain ⟨c4, c⟩ := ba c
  obtain ⟨c5, c⟩ := ba c
  obtain ⟨c6, c⟩ := ba c
  obtain ⟨c7, c⟩ := ba c
  obtain ⟨c8, c⟩ := ba c
  obtain ⟨c9, c⟩ := ba c
  obtain ⟨c10, c⟩ := ba c
  obtain ⟨c11, c⟩ := ba c
  obtain ⟨c12, c⟩ := ba c
  obtain ⟨c13, c⟩ := ba c
  obtain ⟨c14, c⟩ := ba c
  obtain ⟨c15, c16⟩ := ba c
  have no : ∀ f ∈ d.fs, findIn K (.ref (ga K d.x)) f = some none := fun f hf => eqO_ok (List.all_eq_true.mp c4 f hf)
  refine ⟨⟨?_, eqO_ok c3, fun z hz => no _ (hl z hz), eqO_ok c5, of_decide_eq_true c6, c7, of_decide_eq_true c8, of_decide_eq_true c9, of_decide_eq_true c10, of_decide_eq_true c11, eqO_ok c12, eqO_ok c13, ?_⟩, L2.xfB_ok c14, no, of_decide_eq_true c15, eqO_ok c16⟩
  · unfold clsB at c1
    split at c1
    · rename_i dd cd sl ho
      split at c1
      · rename_i C' bm k0 k1 k2 k3 n k5 hm hs
        obtain ⟨y1, y⟩ := ba c1
        obtain ⟨y2, y⟩ := ba y
        obtain ⟨y3, y⟩ := ba y
        obtain ⟨y4, y5⟩ := ba y
        have y1 := of_decide_eq_true y1
        have y2 := of_decide_eq_true y2
        have y3' : cd.hasDel = false := by
          cases h : cd.hasDel with
          | false => rfl
          | true => rw [h] at y3; cases y3
        clear y3
        obtain ⟨nm, bs, mro, ns, qn, hd, sn, sub, ab, col, del⟩ := cd
        dsimp only at hm y3' y4
        subst y1 y2 hm y3' y4
        have hsl : sl = #[k0, k1, k2, k3, some (.builtin "ValueError.__new__"), k5] := by
          obtain ⟨l⟩ := sl
          simp only at hs
          rw [hs]
        subst hsl
        exact ⟨nm, qn, ns, bs, bm, sn, sub, ab, col, dd, k0, k1, k2, k3, k5, ho, y5⟩
      · cases c1
    · cases c1
  · unfold funB at c2
    unfold xvOf at e
    cases q : K.lookup (iOf K d.x) with
    | none =>
      rw [q] at c2
      cases c2
    | some o =>
      obtain ⟨oc, od, dt, osl⟩ := o
      rw [q] at c2 e
      cases dt with
      | func fd =>
        obtain ⟨n1, n2, n3, n4, n5, n6, n7, n8, n9, n10, n11, n12, n13, n14, n15⟩ := fd
        have e2 : (some (n1, n2, n3, n4, n5, n6, n15) : XV) = (some (("__init__" : Str), d.qual, d.params, FuncBody.stmts d.body, d.scope, mainGlobals, builtinsNs) : XV) := e
        simp only [Option.some.injEq, Prod.mk.injEq] at e2
        obtain ⟨h1, h2, h3, h4, h5, h6, h8⟩ := e2
        subst h1 h2 h3 h4 h5 h6 h8
        have c3 : (noneB n8 && (codeIn K n13 d.qual && (codeB K prog.main.file n13 && cellB K (ga K d.x) n7))) = true := c2
        obtain ⟨k1, k2⟩ := ba c3
        obtain ⟨k3, k4⟩ := ba k2
        obtain ⟨k5, k6⟩ := ba k4
        have hn8 : n8 = .none := by
          cases n8 with
          | none => rfl
          | _ => cases k1
        subst hn8
        unfold codeB at k5
        unfold cellB at k6
        split at k5
        · rename_i cda
          split at k5
          · rename_i ccl cdd cvs ccs hcda
            split at k5
            · rename_i f tf hf
              split at k6
              · rename_i n cc
                obtain ⟨z1, z2⟩ := ba k6
                have z1 := of_decide_eq_true z1
                subst z1
                split at z2
                · rename_i cl cld D csl hcc
                  have z2 := of_decide_eq_true z2
                  subst z2
                  exact ⟨oc, od, osl, n9, n10, n11, n12, cda, n14, cc, ccl, cdd, cvs, ccs, f, tf, cl, cld, csl, rfl, k3, hcda, hf, k5, hcc⟩
                · cases z2
              · cases k6
            · cases k5
          · cases k5
        · cases k5
      | _ => cases c2
abbrev AlX : Type := AlD × (Bool × List XV)
def frX (n : Nat) (g : Addr → Option Obj) : Frag := frG g (asD g n ++ [cStatics])
def obsX (file : Str) (n : Nat) (fa : List Fa) (fn : List DefD) (xs : List XDef) (g : Addr → Option Obj) : AlX :=
  (obsD fa fn (frX n g), (xs.all fun d => d.ok file (frX n g), xs.map fun d => xvOf (frX n g) d.x))
def hookX (file : Str) (n : Nat) (fa : List Fa) (fn : List DefD) (xs : List XDef) : PySem.W.Hook where
  α := AlX
  obs := fun s => obsX file n fa fn xs s.heap.get?
  val := fun _ => (valD fn, (true, xs.map XDef.val))
  says := fun _ h => ∃ K : Frag, K.In h ∧ SaysD fa fn K ∧ (xs.all fun d => d.ok file K) = true ∧ (xs.map fun d => xvOf K d.x) = xs.map XDef.val
  of := fun _ _ e => ⟨_, frG_in, congrArg (fun z : AlX => z.1) e, congrArg (fun z : AlX => z.2.1) e, congrArg (fun z : AlX => z.2.2) e⟩
  keeps := fun _ _ _ ⟨K, hK, c⟩ k => ⟨K, PySem.W.Frag.In.keeps hK k, c⟩
theorem obsX_eq {file : Str} {n : Nat} {fa : List Fa} {fn : List DefD} {xs : List XDef} {g : Addr → Option Obj} {s : Shared} (h : ∀ a, g a = s.heap.get? a) : obsX file n fa fn xs g = (hookX file n fa fn xs).obs s := by
  have e : g = s.heap.get? := funext h
  rw [e] <;> rfl
theorem x_of {file : Str} {K : Frag} {xs : List XDef} (h1 : (xs.all fun d => d.ok file K) = true) (h2 : (xs.map fun d => xvOf K d.x) = xs.map XDef.val) (i : Nat) {d : XDef} (h : xs[i]? = some d := by rfl) : xvOf K d.x = d.val ∧ d.ok file K = true := by
  refine ⟨?_, List.all_eq_true.mp h1 d (List.mem_of_getElem? h)⟩
  have e2 : (xs.map fun d => xvOf K d.x)[i]? = (xs.map XDef.val)[i]? := by rw [h2]
  rw [List.getElem?_map, List.getElem?_map, h] at e2
  exact Option.some.inj e2
end Hx
end
section
set_option linter.all false
set_option autoImplicit false
/-! Plants as preorder lists: whole rows of branches, skipping, places, paths. -/
namespace Mth
variable {α : Type} (w : α → Nat)
/-- n plants one behind the other, and nothing else -/
def forest : List α → Nat → Bool
  | [], n => n == 0
  | _ :: _, 0 => false
  | k :: r, n + 1 => forest r (w k + n)
/-- behind n plants -/
def skip : List α → Nat → List α
  | [], _ => []
  | k :: r, 0 => k :: r
  | k :: r, n + 1 => skip r (w k + n)
theorem skip_zero (l : List α) : skip w l 0 = l := by cases l <;> rfl
theorem skip_add : ∀ (l : List α) (a b : Nat), skip w l (a + b) = skip w (skip w l a) b
  | [], _, _ => rfl
  | k :: r, 0, b => by rw [Nat.zero_add]; rfl
  | k :: r, a + 1, b => by
    rw [show a + 1 + b = (a + b) + 1 by omega]
    show skip w r (w k + (a + b)) = skip w (skip w r (w k + a)) b
    rw [← skip_add r (w k + a) b, Nat.add_assoc]
theorem forest_skip : ∀ (l : List α) (a b : Nat), forest w l (a + b) = true → forest w (skip w l a) b = true
  | [], a, b, h => by
    have e : a + b = 0 := eq_of_beq h
    have e2 : b = 0 := by omega
    rw [e2]; rfl
  | k :: r, 0, b, h => by rw [Nat.zero_add] at h; exact h
  | k :: r, a + 1, b, h => by
    rw [show a + 1 + b = (a + b) + 1 by omega] at h
    have h2 : forest w r (w k + (a + b)) = true := h
    show forest w (skip w r (w k + a)) b = true
    exact forest_skip r (w k + a) b (by rw [Nat.add_assoc]; exact h2)
theorem skip_suffix : ∀ (l : List α) (n : Nat), ∃ j, j ≤ l.length ∧ skip w l n = l.drop j
  | [], _ => ⟨0, Nat.le_refl _, rfl⟩
  | k :: r, 0 => ⟨0, Nat.zero_le _, rfl⟩
  | k :: r, n + 1 => by
    obtain ⟨j, hj, e⟩ := skip_suffix r (w k + n)
    exact ⟨j + 1, by rw [List.length_cons]; omega, e⟩
theorem skip_len (l : List α) (n : Nat) : (skip w l n).length ≤ l.length := by
  obtain ⟨j, hj, e⟩ := skip_suffix w l n
  rw [e, List.length_drop]; omega
theorem skip_lt (l : List α) (n : Nat) (h : l ≠ []) : (skip w l (n + 1)).length < l.length := by
  cases l with
  | nil => exact absurd rfl h
  | cons k r => exact Nat.lt_succ_of_le (skip_len w r _)
theorem forest_nil {n : Nat} (h : forest w [] n = true) : n = 0 := eq_of_beq h
theorem forest_zero {l : List α} (h : forest w l 0 = true) : l = [] := by
  cases l with
  | nil => rfl
  | cons _ _ => cases h
theorem forest_pos {l : List α} {n : Nat} (h : forest w l (n + 1) = true) : l ≠ [] := fun e => by
  rw [e] at h
  exact absurd (eq_of_beq h : n + 1 = 0) (by omega)
theorem forest_app : ∀ (l r : List α) (a b : Nat), forest w l a = true → forest w r b = true → forest w (l ++ r) (a + b) = true
  | [], r, a, b, h, g => by
    rw [forest_nil w h, Nat.zero_add]; exact g
  | k :: l, r, 0, b, h, g => by cases h
  | k :: l, r, a + 1, b, h, g => by
    rw [show a + 1 + b = (a + b) + 1 by omega]
    show forest w (l ++ r) (w k + (a + b)) = true
    rw [← Nat.add_assoc]
    exact forest_app l r (w k + a) b h g
theorem skip_app : ∀ (l r : List α) (a : Nat), forest w l a = true → skip w (l ++ r) a = r
  | [], r, a, h => by rw [forest_nil w h]; exact skip_zero w r
  | k :: l, r, 0, h => by cases h
  | k :: l, r, a + 1, h => skip_app l r (w k + a) h
/-- the part up to the skip is a forest -/
theorem forest_take : ∀ (l : List α) (a b : Nat), forest w l (a + b) = true → forest w (l.take (l.length - (skip w l a).length)) a = true
  | [], a, b, h => by
    have := forest_nil w h
    rw [show a = 0 by omega]; rfl
  | k :: r, 0, b, h => by
    rw [skip_zero, Nat.sub_self]; rfl
  | k :: r, a + 1, b, h => by
    rw [show a + 1 + b = (a + b) + 1 by omega] at h
    have h2 : forest w r ((w k + a) + b) = true := by rw [Nat.add_assoc]; exact h
    have q := forest_take r (w k + a) b h2
    have hl := skip_len w r (w k + a)
    show forest w ((k :: r).take ((k :: r).length - (skip w r (w k + a)).length)) (a + 1) = true
    rw [List.length_cons, show r.length + 1 - (skip w r (w k + a)).length = (r.length - (skip w r (w k + a)).length) + 1 by omega, List.take_succ_cons]
    exact q
/-! ### places -/
/-- the place behind n plants from place i on -/
def nxs (l : List α) (i n : Nat) : Nat := l.length - (skip w (l.drop i) n).length
theorem drop_nxs (l : List α) (i n : Nat) : l.drop (nxs w l i n) = skip w (l.drop i) n := by
  obtain ⟨j, hj, e⟩ := skip_suffix w (l.drop i) n
  unfold nxs
  rw [e, List.drop_drop, List.length_drop]
  rw [List.length_drop] at hj
  by_cases h : i ≤ l.length
  · rw [show l.length - (l.length - (i + j)) = i + j by omega]
  · rw [List.drop_eq_nil_of_le (by omega), List.drop_eq_nil_of_le (by omega)]
theorem nxs_le (l : List α) (i n : Nat) : nxs w l i n ≤ l.length := Nat.sub_le _ _
theorem nxs_zero {l : List α} {i : Nat} (h : i ≤ l.length) : nxs w l i 0 = i := by
  unfold nxs
  rw [skip_zero, List.length_drop]; omega
theorem nxs_add (l : List α) (i a b : Nat) : nxs w l i (a + b) = nxs w l (nxs w l i a) b := by
  unfold nxs
  rw [skip_add]
  have e := drop_nxs w l i a
  unfold nxs at e
  rw [e]
theorem nxs_ge (l : List α) {i : Nat} (n : Nat) (h : i ≤ l.length) : i ≤ nxs w l i n := by
  have q := skip_len w (l.drop i) n
  rw [List.length_drop] at q
  unfold nxs; omega
theorem nxs_gt {l : List α} {i : Nat} (n : Nat) (h : i < l.length) : i < nxs w l i (n + 1) := by
  have q := skip_lt w (l.drop i) n (by intro e; have := congrArg List.length e; rw [List.length_drop] at this; simp at this; omega)
  rw [List.length_drop] at q
  unfold nxs; omega
/-- m plants stand from place i to the end -/
def Fst (l : List α) (i m : Nat) : Prop := i ≤ l.length ∧ forest w (l.drop i) m = true
theorem Fst.lt {l : List α} {i m : Nat} (h : Fst w l i (m + 1)) : i < l.length := by
  refine Nat.lt_of_not_le fun q => ?_
  have e := h.2
  rw [List.drop_eq_nil_of_le q] at e
  exact forest_pos w e rfl
theorem Fst.skip {l : List α} {i a b : Nat} (h : Fst w l i (a + b)) : Fst w l (nxs w l i a) b :=
  ⟨nxs_le w l i a, by rw [drop_nxs]; exact forest_skip w _ a b h.2⟩
theorem Fst.in {l : List α} {i m : Nat} {k : α} (h : Fst w l i (m + 1)) (hk : l[i]? = some k) : Fst w l (i + 1) (w k + m) := by
  have hi := (List.getElem?_eq_some_iff.mp hk).1
  have e := h.2
  have d : l.drop i = k :: l.drop (i + 1) := by
    rw [List.drop_eq_getElem_cons hi]
    have := (List.getElem?_eq_some_iff.mp hk).2
    rw [this]
  rw [d] at e
  exact ⟨hi, e⟩
theorem nxs_in {l : List α} {i m : Nat} {k : α} (hk : l[i]? = some k) (n : Nat) : nxs w l i (n + 1) = nxs w l (i + 1) (w k + n) := by
  have hi := (List.getElem?_eq_some_iff.mp hk).1
  have d : l.drop i = k :: l.drop (i + 1) := by
    rw [List.drop_eq_getElem_cons hi]
    have := (List.getElem?_eq_some_iff.mp hk).2
    rw [this]
  unfold nxs
  rw [d]
  rfl
theorem nxs_lt_of {l : List α} {i a b : Nat} (h : Fst w l i (a + b)) (hb : 0 < b) : nxs w l i a < l.length := by
  obtain ⟨c, rfl⟩ : ∃ c, b = c + 1 := ⟨b - 1, by omega⟩
  exact Fst.lt w (h.skip w)
theorem nxs_mono {l : List α} {i m a b : Nat} (h : Fst w l i m) (hab : a < b) (hb : b ≤ m) : nxs w l i a < nxs w l i b := by
  obtain ⟨c, rfl⟩ : ∃ c, b = a + (c + 1) := ⟨b - a - 1, by omega⟩
  obtain ⟨d, rfl⟩ : ∃ d, m = a + (c + 1) + d := ⟨m - (a + (c + 1)), by omega⟩
  rw [nxs_add]
  exact nxs_gt w c (nxs_lt_of w (b := c + 1 + d) (by rw [← Nat.add_assoc]; exact h) (by omega))
theorem Fst.all {l : List α} (h : forest w l 1 = true) : ∀ i, i ≤ l.length → ∃ m, Fst w l i m
  | 0, _ => ⟨1, Nat.zero_le _, by rw [List.drop_zero]; exact h⟩
  | i + 1, hi => by
    obtain ⟨m, F⟩ := Fst.all h i (by omega)
    cases m with
    | zero =>
      have z := forest_zero w F.2
      have := congrArg List.length z
      rw [List.length_drop] at this
      simp at this
      omega
    | succ m => exact ⟨_, F.in w (List.getElem?_eq_getElem (by omega))⟩
theorem Fst.pos {l : List α} {i m : Nat} (h : Fst w l i m) (hi : i < l.length) : ∃ n, m = n + 1 := by
  cases m with
  | succ n => exact ⟨n, rfl⟩
  | zero =>
    have z := forest_zero w h.2
    have := congrArg List.length z
    rw [List.length_drop] at this
    simp at this
    omega
/-! ### paths -/
def kids (p : List Nat) (n : Nat) : List (List Nat) := (List.range n).map fun i => p ++ [i]
def pths : List α → List (List Nat) → List (List Nat)
  | [], _ => []
  | _ :: _, [] => []
  | k :: r, p :: st => p :: pths r (kids p (w k) ++ st)
/-- the paths that wait ahead of place i -/
def stk (l : List α) : Nat → List (List Nat)
  | 0 => [[]]
  | i + 1 => match stk l i, l[i]? with
    | p :: st, some k => kids p (w k) ++ st
    | st, _ => st
def pth (l : List α) (i : Nat) : List Nat := (stk w l i).headD []
theorem kids_len (p : List Nat) (n : Nat) : (kids p n).length = n := by simp [kids]
theorem stk_len {l : List α} (h : forest w l 1 = true) : ∀ i, i ≤ l.length → Fst w l i (stk w l i).length
  | 0, _ => ⟨Nat.zero_le _, by rw [List.drop_zero]; exact h⟩
  | i + 1, hi => by
    have F := stk_len h i (by omega)
    have hi' : i < l.length := by omega
    obtain ⟨n, hn⟩ := F.pos w hi'
    cases e : stk w l i with
    | nil => rw [e] at hn; cases hn
    | cons p st =>
      have hk : l[i]? = some l[i] := List.getElem?_eq_getElem hi'
      have q : stk w l (i + 1) = kids p (w l[i]) ++ st := by
        show (match stk w l i, l[i]? with
          | p :: st, some k => kids p (w k) ++ st
          | st, _ => st) = _
        rw [e, hk]
      rw [q, List.length_append, kids_len]
      rw [e, List.length_cons] at F
      exact F.in w hk
theorem stk_step {l : List α} (h : forest w l 1 = true) {i : Nat} (hi : i < l.length) : ∃ st, stk w l i = pth w l i :: st ∧ stk w l (i + 1) = kids (pth w l i) (w l[i]) ++ st := by
  have F := stk_len w h i (Nat.le_of_lt hi)
  obtain ⟨n, hn⟩ := F.pos w hi
  cases e : stk w l i with
  | nil => rw [e] at hn; cases hn
  | cons p st =>
    have ep : pth w l i = p := by unfold pth; rw [e]; rfl
    refine ⟨st, by rw [ep], ?_⟩
    have hk : l[i]? = some l[i] := List.getElem?_eq_getElem hi
    show (match stk w l i, l[i]? with
      | p :: st, some k => kids p (w k) ++ st
      | st, _ => st) = _
    rw [e, hk, ep]
theorem stk_succ {l u : List α} {i k : Nat} (a : stk w l i = stk w u k) (b : l[i]? = u[k]?) : stk w l (i + 1) = stk w u (k + 1) := by
  show (match stk w l i, l[i]? with
      | p :: st, some k => kids p (w k) ++ st
      | st, _ => st) = (match stk w u k, u[k]? with
      | p :: st, some k => kids p (w k) ++ st
      | st, _ => st)
  rw [a, b]
/-- where a path leads, from a place -/
def walk (l : List α) : Nat → List Nat → Option Nat
  | p, [] => some p
  | p, c :: cs => match l[p]? with
    | some k => if c < w k then walk l (nxs w l (p + 1) c) cs else none
    | none => none
theorem walk_app (l : List α) : ∀ (a : List Nat) (p : Nat) (b : List Nat), walk w l p (a ++ b) = (walk w l p a).bind fun q => walk w l q b
  | [], p, b => rfl
  | c :: a, p, b => by
    show (match l[p]? with
      | some k => if c < w k then walk w l (nxs w l (p + 1) c) (a ++ b) else none
      | none => none) = _
    show _ = (match l[p]? with
      | some k => if c < w k then walk w l (nxs w l (p + 1) c) a else none
      | none => none : Option Nat).bind _
    cases l[p]? with
    | none => rfl
    | some k =>
      dsimp only
      by_cases hc : c < w k
      · rw [if_pos hc, if_pos hc]
        exact walk_app l a _ b
      · rw [if_neg hc, if_neg hc]; rfl
theorem walk_one {l : List α} {p c : Nat} {k : α} (hk : l[p]? = some k) : walk w l p [c] = if c < w k then some (nxs w l (p + 1) c) else none := by
  show (match l[p]? with
    | some k => if c < w k then walk w l (nxs w l (p + 1) c) [] else none
    | none => none) = _
  rw [hk]; rfl
theorem kids_get {p : List Nat} {n t : Nat} (h : t < n) : (kids p n)[t]? = some (p ++ [t]) := by
  unfold kids
  rw [List.getElem?_map, List.getElem?_range h]; rfl
theorem stk_walk {l : List α} (h : forest w l 1 = true) : ∀ i, i ≤ l.length → ∀ (t : Nat) (p : List Nat), (stk w l i)[t]? = some p → walk w l 0 p = some (nxs w l i t)
  | 0, _, t, p, hp => by
    have e : (([[]] : List (List Nat)))[t]? = some p := hp
    cases t with
    | zero =>
      cases e
      rw [nxs_zero w (Nat.zero_le _)]; rfl
    | succ t => simp at e
  | i + 1, hi, t, p, hp => by
    have hi' : i < l.length := by omega
    obtain ⟨st, e1, e2⟩ := stk_step w h hi'
    have ih := stk_walk h i (by omega)
    have hk : l[i]? = some l[i] := List.getElem?_eq_getElem hi'
    rw [e2] at hp
    by_cases ht : t < w l[i]
    · rw [List.getElem?_append_left (by rw [kids_len]; exact ht), kids_get ht] at hp
      cases hp
      have q := ih 0 (pth w l i) (by rw [e1]; rfl)
      rw [nxs_zero w (by omega)] at q
      rw [walk_app, q]
      show walk w l i [t] = _
      rw [walk_one w hk, if_pos ht]
    · rw [List.getElem?_append_right (by rw [kids_len]; omega), kids_len] at hp
      have q := ih (t - w l[i] + 1) p (by rw [e1]; exact hp)
      rw [q, nxs_in w (m := 0) hk, show w l[i] + (t - w l[i]) = t by omega]
theorem pth_walk {l : List α} (h : forest w l 1 = true) {i : Nat} (hi : i < l.length) : walk w l 0 (pth w l i) = some i := by
  obtain ⟨st, e1, _⟩ := stk_step w h hi
  have q := stk_walk w h i (Nat.le_of_lt hi) 0 (pth w l i) (by rw [e1]; rfl)
  rw [nxs_zero w (Nat.le_of_lt hi)] at q
  exact q
/-! ### another branch in the place of one -/
theorem skip_swap : ∀ (x y y' : List α) (c : Nat) (x' : List α), y ≠ [] → skip w (x ++ y) c = x' ++ y → skip w (x ++ y') c = x' ++ y'
  | x, y, y', 0, x', hy, h => by
    rw [skip_zero] at h ⊢
    rw [List.append_cancel_right h]
  | [], y, y', c + 1, x', hy, h => by
    have q := skip_lt w y c hy
    rw [List.nil_append] at h
    rw [h, List.length_append] at q
    omega
  | k :: x, y, y', c + 1, x', hy, h => skip_swap x y y' (w k + c) x' hy h
theorem suffix_len {x' y z : List α} (h : x' ++ y = z) : y.length ≤ z.length := by rw [← h, List.length_append]; omega
/-- a path that leads to the place behind x leads there as well when another row stands from there on -/
theorem walk_swap {pre y y' : List α} (hy : y ≠ []) : ∀ (cs : List Nat) (u x : List α), pre = u ++ x → walk w (pre ++ y) u.length cs = some pre.length → walk w (pre ++ y') u.length cs = some pre.length
  | [], u, x, e, h => by
    have h2 : u.length = pre.length := Option.some.inj h
    show some u.length = _
    rw [h2]
  | c :: cs, u, [], e, h => by
    -- the walk goes on beyond the place: it cannot come back
    exfalso
    rw [List.append_nil] at e
    subst e
    have go : ∀ (cs : List Nat) (q : Nat), pre.length < q → walk w (pre ++ y) q cs ≠ some pre.length := by
      intro cs
      induction cs with
      | nil => intro q hq e; exact absurd (Option.some.inj e) (by omega)
      | cons c cs ih =>
        intro q hq e
        have e' : (match (pre ++ y)[q]? with
          | some k => if c < w k then walk w (pre ++ y) (nxs w (pre ++ y) (q + 1) c) cs else none
          | none => none) = some pre.length := e
        cases hk : (pre ++ y)[q]? with
        | none => rw [hk] at e'; cases e'
        | some k =>
          rw [hk] at e'
          dsimp only at e'
          by_cases hc : c < w k
          · rw [if_pos hc] at e'
            have hq2 := (List.getElem?_eq_some_iff.mp hk).1
            exact ih _ (Nat.lt_of_lt_of_le (by omega) (nxs_ge w _ c (show q + 1 ≤ _ from hq2))) e'
          · rw [if_neg hc] at e'; cases e'
    have e' : (match (pre ++ y)[pre.length]? with
      | some k => if c < w k then walk w (pre ++ y) (nxs w (pre ++ y) (pre.length + 1) c) cs else none
      | none => none) = some pre.length := h
    cases hk : (pre ++ y)[pre.length]? with
    | none => rw [hk] at e'; cases e'
    | some k =>
      rw [hk] at e'
      dsimp only at e'
      by_cases hc : c < w k
      · rw [if_pos hc] at e'
        have hq2 := (List.getElem?_eq_some_iff.mp hk).1
        exact go cs _ (Nat.lt_of_lt_of_le (by omega) (nxs_ge w _ c (show pre.length + 1 ≤ _ from hq2))) e'
      · rw [if_neg hc] at e'; cases e'
  | c :: cs, u, k :: x, e, h => by
    have hg : ∀ z : List α, (pre ++ z)[u.length]? = some k := fun z => by
      rw [e, List.append_assoc, List.getElem?_append_right (Nat.le_refl _), Nat.sub_self]; rfl
    have hd : ∀ z : List α, (pre ++ z).drop (u.length + 1) = x ++ z := fun z => by
      rw [e, List.append_assoc, List.drop_append, List.drop_eq_nil_of_le (by omega), show u.length + 1 - u.length = 1 by omega]; rfl
    have h' : (match (pre ++ y)[u.length]? with
      | some k => if c < w k then walk w (pre ++ y) (nxs w (pre ++ y) (u.length + 1) c) cs else none
      | none => none) = some pre.length := h
    show (match (pre ++ y')[u.length]? with
      | some k => if c < w k then walk w (pre ++ y') (nxs w (pre ++ y') (u.length + 1) c) cs else none
      | none => none) = some pre.length
    rw [hg] at h' ⊢
    dsimp only at h' ⊢
    by_cases hc : c < w k
    · rw [if_pos hc] at h' ⊢
      -- the place behind c branches lies at or ahead of the end of pre
      have back : ∀ (cs : List Nat) (q r : Nat), walk w (pre ++ y) q cs = some r → q ≤ r := by
        intro cs
        induction cs with
        | nil => intro q r e; exact Nat.le_of_eq (Option.some.inj e)
        | cons c cs ih =>
          intro q r e
          have e' : (match (pre ++ y)[q]? with
            | some k => if c < w k then walk w (pre ++ y) (nxs w (pre ++ y) (q + 1) c) cs else none
            | none => none) = some r := e
          cases hk : (pre ++ y)[q]? with
          | none => rw [hk] at e'; cases e'
          | some k =>
            rw [hk] at e'
            dsimp only at e'
            by_cases hc : c < w k
            · rw [if_pos hc] at e'
              have hq2 := (List.getElem?_eq_some_iff.mp hk).1
              have z1 := ih _ _ e'
              have z2 := nxs_ge w (pre ++ y) c (show q + 1 ≤ _ from hq2)
              omega
            · rw [if_neg hc] at e'; cases e'
      have hb := back cs _ _ h'
      have hs := drop_nxs w (pre ++ y) (u.length + 1) c
      rw [hd] at hs
      have hle : nxs w (pre ++ y) (u.length + 1) c ≤ pre.length := hb
      have ha : (pre ++ y).drop (nxs w (pre ++ y) (u.length + 1) c) = pre.drop (nxs w (pre ++ y) (u.length + 1) c) ++ y := by
        rw [List.drop_append, show nxs w (pre ++ y) (u.length + 1) c - pre.length = 0 by omega, List.drop_zero]
      rw [ha] at hs
      have sw := skip_swap w x y y' c _ hy hs.symm
      have en : nxs w (pre ++ y') (u.length + 1) c = nxs w (pre ++ y) (u.length + 1) c := by
        show (pre ++ y').length - (skip w ((pre ++ y').drop (u.length + 1)) c).length = _
        rw [hd, sw, List.length_append, List.length_append, List.length_drop]
        omega
      rw [en]
      have el : (pre.take (nxs w (pre ++ y) (u.length + 1) c)).length = nxs w (pre ++ y) (u.length + 1) c := by rw [List.length_take]; omega
      have r := walk_swap (y' := y') hy cs (pre.take (nxs w (pre ++ y) (u.length + 1) c)) (pre.drop (nxs w (pre ++ y) (u.length + 1) c)) (List.take_append_drop _ _).symm (by rw [el]; exact h')
      rw [el] at r
      exact r
    · rw [if_neg hc] at h'; cases h'
end Mth
namespace Mth
variable {α : Type} (w : α → Nat)
theorem end_step {l : List α} (h : forest w l 1 = true) {p t : Nat} {k : α} (hk : l[p]? = some k) (ht : t < w k) : nxs w l (p + 1) t < l.length ∧ p + 1 ≤ nxs w l (p + 1) t ∧ nxs w l (nxs w l (p + 1) t) 1 = nxs w l (p + 1) (t + 1) := by
  have hp := (List.getElem?_eq_some_iff.mp hk).1
  obtain ⟨m, F⟩ := Fst.all w h p (Nat.le_of_lt hp)
  obtain ⟨n, rfl⟩ := F.pos w hp
  have G := F.in w hk
  refine ⟨nxs_lt_of w (b := w k - t + n) (by rw [show t + (w k - t + n) = w k + n by omega]; exact G) (by omega), nxs_ge w l t hp, ?_⟩
  rw [nxs_add]
theorem end_last {l : List α} {p : Nat} {k : α} (hk : l[p]? = some k) : nxs w l (p + 1) (w k) = nxs w l p 1 := by
  have q := nxs_in w (m := 0) hk 0
  rw [Nat.add_zero] at q
  exact q.symm
/-- the ends of the branches at all places -/
def ends (l : List α) : List Int := (List.range l.length).map fun j => ((nxs w l j 1 : Nat) : Int)
theorem ends_len (l : List α) : (ends w l).length = l.length := by simp [ends]
theorem ends_get {l : List α} {j : Nat} (h : j < l.length) : (ends w l)[j]? = some ((nxs w l j 1 : Nat) : Int) := by
  unfold ends
  rw [List.getElem?_map, List.getElem?_range h]; rfl
theorem ends_of_get {l : List α} {es : List Int} (hl : es.length = l.length) (h : ∀ j, j < l.length → es[j]? = some ((nxs w l j 1 : Nat) : Int)) : es = ends w l := by
  refine List.ext_getElem? fun j => ?_
  by_cases hj : j < l.length
  · rw [h j hj, ends_get w hj]
  · rw [List.getElem?_eq_none (by omega), List.getElem?_eq_none (by rw [ends_len]; omega)]
/-- how much is missing ahead of place i -/
theorem miss {l : List α} (h : forest w l 1 = true) : ∀ i, i ≤ l.length → Fst w l i (1 + ((l.take i).map w).sum - i) ∧ i ≤ 1 + ((l.take i).map w).sum
  | 0, _ => ⟨⟨Nat.zero_le _, by rw [List.drop_zero]; exact h⟩, Nat.zero_le _⟩
  | i + 1, hi => by
    obtain ⟨F, q⟩ := miss h i (by omega)
    have hi' : i < l.length := by omega
    obtain ⟨n, hn⟩ := F.pos w hi'
    have hk : l[i]? = some l[i] := List.getElem?_eq_getElem hi'
    have e : ((l.take (i + 1)).map w).sum = ((l.take i).map w).sum + w l[i] := by
      rw [List.take_add_one, hk, List.map_append, List.sum_append]
      show _ + (w l[i] + 0) = _
      rw [Nat.add_zero]
    rw [hn] at F
    have G := F.in w hk
    rw [e]
    rw [show 1 + (((l.take i).map w).sum + w l[i]) - (i + 1) = w l[i] + n by omega]
    exact ⟨G, by omega⟩
end Mth
end
section
set_option Elab.async false
set_option linter.all false
set_option maxRecDepth 100000
set_option maxHeartbeats 2000000
namespace Sh
open PySem PySem.Spec PyProof.Rows L2
def top (i : Nat) : Stmt := PySem.Challenge.pw_shearyard_k29_trims_refused_at_first_fau.main.body.getD i (.Pass ⟨0, 0, 0, 0⟩)
/-- the built-ins and constants by their names -/
structure Bl (mg : Str → Option Value) : Prop where
  b_len : mg "len" = none
  b_range : mg "range" = none
  b_abs : mg "abs" = none
  b_int : mg "int" = none
  b_max : mg "max" = none
  b_all : mg "all" = none
  b_isinstance : mg "isinstance" = none
  b_set : mg "set" = none
  b_list : mg "list" = none
  b_tuple : mg "tuple" = none
  b_bool : mg "bool" = none
  b_str : mg "str" = none
  b_enumerate : mg "enumerate" = none
  c_MOST_KINDS : ∃ t, mg "MOST_KINDS" = some (.int 8 t)
  c_MOST_BRANCHES : ∃ t, mg "MOST_BRANCHES" = some (.int 3 t)
  c_LONGEST_NAME : ∃ t, mg "LONGEST_NAME" = some (.int 8 t)
  c_LETTERS : ∃ t, mg "LETTERS" = some (.str "abcdefghijklmnopqrstuvwxyz" t)
theorem pe_cI {X : Cx} {x : Str} {i : Int} {pos : Pos} (hg : Gl X x) (h : ∃ t, X.mg x = some (.int i t)) (hd : (x == ("__debug__" : Str)) = false := by decide) : PE X (.Name x pos) (tC (.int i)) := by
  obtain ⟨t, e⟩ := h
  exact pe_glob hg e ⟨t, rfl⟩ hd
theorem pe_cS {X : Cx} {x z : Str} {pos : Pos} (hg : Gl X x) (h : ∃ t, X.mg x = some (.str z t)) (hd : (x == ("__debug__" : Str)) = false := by decide) : PE X (.Name x pos) (tC (.str z)) := by
  obtain ⟨t, e⟩ := h
  exact pe_glob hg e ⟨t, rfl⟩ hd
/-! ### the bag -/
/-- all that stood stands, but what is at a -/
def Kp (a : Addr) (H H' : Hp) : Prop := ∀ b o, H b = some o → b ≠ a → H' b = some o
theorem Kp.refl (a : Addr) (H : Hp) : Kp a H H := fun _ _ h _ => h
theorem Kp.trans {a : Addr} {H H1 H2 : Hp} (x : Kp a H H1) (y : Kp a H1 H2) : Kp a H H2 := fun b o h n => y b o (x b o h n) n
theorem Kp.upd {a : Addr} {H H1 : Hp} {o : HO} (x : Kp a H H1) : Kp a H (upd H1 a o) := fun b u h n => by rw [upd_ne n]; exact x b u h n
theorem Kp.same {a : Addr} {H H' : Hp} (x : Same H H') : Kp a H H' := fun b o h _ => x b o h
structure Bg (z0 z1 z2 z3 : Int) (cs : List Int) : Prop where
  lo : 4 ≤ z3
  hi : z3 ≤ 4 + cs.length
  sz : cs.length ≤ 63
  nn : ∀ c ∈ cs, 0 ≤ c
def bgL (z0 z1 z2 z3 : Int) (cs : List Int) : List V := .int z0 :: .int z1 :: .int z2 :: .int z3 :: cs.map V.int
def BagAt (H : Hp) (a : Addr) : Prop := ∃ z0 z1 z2 z3 cs, H a = some (.lst (bgL z0 z1 z2 z3 cs)) ∧ Bg z0 z1 z2 z3 cs
def spDraw : Sp := fun vs H Q _ => ∃ (a : Addr) (n : Int), vs = [.ref a, .int n] ∧ BagAt H a ∧ 1 ≤ n ∧ n < 1000000 ∧ ∀ H' d, Kp a H H' → BagAt H' a → 0 ≤ d → d < n → Q (.int d) H'
open C8 (pss_cut tCut)
open Evl (ixN_nat)
theorem bgi {z0 z1 z2 z3 : Int} {cs : List Int} (j : Nat) (h : j < 4) : ixN (bgL z0 z1 z2 z3 cs).length (j : Int) = some j := ixN_nat (by unfold bgL; simp only [List.length_cons]; omega)
theorem int_eq0 {a b : Int} (h : decide (V.int a = V.int b) = true) : a = b := V.int.inj (of_decide_eq_true h)
section
variable {P : Program} {w : World} {K : PySem.W.Frag} {mg : Str → Option Value} {base : Heap}
end
end Sh
end
section
set_option Elab.async false
set_option linter.all false
set_option maxRecDepth 100000
set_option maxHeartbeats 2000000
set_option autoImplicit false
namespace Sh
open PySem PySem.Spec PyProof.Rows L2
open C8 (pss_cut tCut)
open Evl (ixN_nat)
open TL (tl joinL tl_join join_eq)
end Sh
namespace L2
open PySem PySem.Spec PyProof.Rows
theorem Same.upd_new {H H1 : Hp} {p : Addr} {o : HO} (s : Same H H1) (hp : H1 p = none) : Same H (upd H1 p o) := fun b u h => by
  rw [upd_ne (ne_of_none (s b u h) hp)]
  exact s b u h
theorem Same.upd_own {H H1 : Hp} {p : Addr} {o : HO} (s : Same H H1) (hp : H p = none) : Same H (upd H1 p o) := fun b u h => by
  rw [upd_ne (ne_of_none h hp)]
  exact s b u h
end L2
namespace Sh
open PySem PySem.Spec PyProof.Rows L2
open C8 (pss_cut tCut)
open Evl (ixN_nat)
open TL (tl joinL tl_join join_eq)
theorem get_map {α β : Type} {f : α → β} {l : List α} {i : Nat} {y : β} (h : (l.map f)[i]? = some y) : ∃ x, l[i]? = some x ∧ y = f x := by
  rw [List.getElem?_map] at h
  cases e : l[i]? with
  | none => rw [e] at h; cases h
  | some x => rw [e] at h; exact ⟨x, rfl, (Option.some.inj h).symm⟩
theorem take_snoc {α : Type} {l : List α} {i : Nat} {x : α} (h : l[i]? = some x) : l.take i ++ [x] = l.take (i + 1) := by
  rw [List.take_add_one, h]
  rfl
theorem lt_of_get {α : Type} {l : List α} {i : Nat} {x : α} (h : l[i]? = some x) : i < l.length := (List.getElem?_eq_some_iff.mp h).1
theorem mem_of_get {α : Type} {l : List α} {i : Nat} {x : α} (h : l[i]? = some x) : x ∈ l := List.mem_of_getElem? h
theorem le_line {n : Nat} (h : n ≤ 100000) : n ≤ sizeLine := Nat.le_trans h (by rw [sizeLine_eq]; decide)
theorem lt_line {n : Nat} (h : n ≤ 100000) : n < sizeLine := Nat.lt_of_le_of_lt h (by rw [sizeLine_eq]; decide)
theorem at_ofG {α : Type} {xs : List α} {z : Int} {j : Nat} {v : α} (e : z = (j : Int)) (h : xs[j]? = some v) : atI xs z = some v := by
  rw [e]
  exact atI_nat h
/-! ### names -/
def IsNm (z : Str) : Prop := 1 ≤ z.cps.size ∧ z.cps.size ≤ 8 ∧ ∀ c ∈ z.cps.toList, 97 ≤ c ∧ c ≤ 122
def sg (c : Nat) : Str := ⟨#[c]⟩
theorem tl_sg (c : Nat) : tl (sg c) = [c] := rfl
theorem joinL_nil : ∀ l : List (List Nat), joinL [] l = l.flatten
  | [] => rfl
  | [p] => by simp [joinL]
  | p :: q :: r => by
    show p ++ ([] ++ joinL [] (q :: r)) = _
    rw [List.nil_append, joinL_nil (q :: r)]
    simp only [List.flatten_cons]
theorem join_sgs (cs : List Nat) : (Txt.join "" (cs.map sg)).cps.toList = cs := by
  have e : tl (Txt.join "" (cs.map sg)) = cs := by
    rw [join_eq, tl_join, show tl ("" : Str) = [] from rfl, joinL_nil, List.map_map]
    induction cs with
    | nil => rfl
    | cons c r ih =>
      rw [List.map_cons, List.flatten_cons, ih]
      rfl
  exact e
theorem letters_at (d : Nat) (h : d < 26) : (("abcdefghijklmnopqrstuvwxyz" : Str).cps.toList)[d]? = some (97 + d) := by
  have z : ∀ d, d < 26 → (("abcdefghijklmnopqrstuvwxyz" : Str).cps.toList)[d]? = some (97 + d) := by decide +kernel
  exact z d h
theorem letters_len : ("abcdefghijklmnopqrstuvwxyz" : Str).length = 26 := by decide +kernel
def spBag (K : PySem.W.Frag) : Sp := fun vs H Q _ => ∃ (a : Addr) (ns : List Int), vs = [.ref a] ∧ SqL K H a (ns.map V.int) ∧ ns.length ≤ 63 ∧ ∀ H' p, Same H H' → H p = none → BagAt H' p → Q (.ref p) H'
def spWord : Sp := fun vs H Q _ => ∃ a, vs = [.ref a] ∧ BagAt H a ∧ ∀ H' z, Kp a H H' → BagAt H' a → IsNm z → Q (.str z) H'
theorem Kp.bag_ne {a b : Addr} {H : Hp} (hb : BagAt H a) (h : H b = none) : b ≠ a := fun e => by
  obtain ⟨z0, z1, z2, z3, cs, q, _⟩ := hb
  rw [e, q] at h
  cases h
theorem Kp.upd_new {a p : Addr} {H H1 : Hp} {o : HO} (x : Kp a H H1) (hp : H1 p = none) : Kp a H (L2.upd H1 p o) := fun b u h n => by
  have q := x b u h n
  rw [upd_ne (ne_of_none q hp)]
  exact q
theorem Kp.upd_own {a p : Addr} {H H1 : Hp} {o : HO} (x : Kp a H H1) (hp : H p = none) : Kp a H (L2.upd H1 p o) := fun b u h n => by
  rw [upd_ne (ne_of_none h hp)]
  exact x b u h n
theorem BagAt.upd_ne {a p : Addr} {H : Hp} {o : HO} (h : BagAt H a) (n : p ≠ a) : BagAt (upd H p o) a := by
  obtain ⟨z0, z1, z2, z3, cs, q, B⟩ := h
  exact ⟨z0, z1, z2, z3, cs, by rw [L2.upd_ne (Ne.symm n)]; exact q, B⟩
section
variable {P : Program} {w : World} {K : PySem.W.Frag} {mg : Str → Option Value} {base : Heap}
end
end Sh
end
section
set_option Elab.async false
set_option linter.all false
set_option maxRecDepth 100000
set_option maxHeartbeats 2000000
set_option autoImplicit false
namespace Sh
open PySem PySem.Spec PyProof.Rows L2
open C8 (pss_cut tCut)
open Evl (ixN_nat)
open TL (tl joinL tl_join join_eq tl_append)
theorem Kp.free_of {a p : Addr} {H H1 : Hp} (x : Kp a H H1) (h : H1 p = none) (n : p ≠ a) : H p = none := by
  cases e : H p with
  | none => rfl
  | some o =>
    rw [x p o e n] at h
    cases h
theorem inV_str (w : Str) (ns : List Str) : inV (.str w) (ns.map V.str) = decide (w ∈ ns) := by
  induction ns with
  | nil => rfl
  | cons n r ih =>
    have e : inV (.str w) ((n :: r).map V.str) = ((n == w) || inV (.str w) (r.map V.str)) := rfl
    rw [e, ih, Bool.eq_iff_iff, Bool.or_eq_true, beq_iff_eq, decide_eq_true_iff, decide_eq_true_iff, List.mem_cons]
    exact or_congr_left eq_comm
theorem flat_strs (ns : List Str) : (ns.map V.str).all flatV = true := by
  rw [List.all_eq_true]
  intro x hx
  obtain ⟨y, _, rfl⟩ := List.mem_map.mp hx
  rfl
theorem flat_ints (ns : List Int) : (ns.map V.int).all flatV = true := by
  rw [List.all_eq_true]
  intro x hx
  obtain ⟨y, _, rfl⟩ := List.mem_map.mp hx
  rfl
theorem sub_len {α : Type} [DecidableEq α] : ∀ (l m : List α), l.Nodup → (∀ x ∈ l, x ∈ m) → l.length ≤ m.length
  | [], _, _, _ => Nat.zero_le _
  | a :: l, m, nd, h => by
    rw [List.nodup_cons] at nd
    have ha := h a List.mem_cons_self
    have z := sub_len l (m.erase a) nd.2 fun x hx => (List.mem_erase_of_ne (fun e => nd.1 (by rw [← e]; exact hx))).mpr (h x (List.mem_cons_of_mem _ hx))
    rw [List.length_erase_of_mem ha] at z
    have p := List.length_pos_of_mem ha
    rw [List.length_cons]
    omega
def lets : List Str := (List.range 26).map fun d => sg (97 + d)
theorem lets_nd : lets.Nodup := by decide +kernel
theorem lets_get {i : Nat} (h : i < 26) : (("abcdefghijklmnopqrstuvwxyz" : Str).cps)[i]? = some (97 + i) := by
  rw [← Array.getElem?_toList]
  exact letters_at i h
theorem nm_sg {c : Nat} (h : 97 ≤ c ∧ c ≤ 122) : IsNm (sg c) := ⟨by show 1 ≤ 1; decide, by show 1 ≤ 8; decide, fun x hx => by
  have z : x = c := List.mem_singleton.mp hx
  rw [z]; exact h⟩
def spName (K : PySem.W.Frag) : Sp := fun vs H Q _ => ∃ (a t : Addr) (ns : List Str), vs = [.ref a, .ref t] ∧ BagAt H a ∧ t ≠ a ∧ H t = some (.lst (ns.map V.str)) ∧ (∀ n ∈ ns, IsNm n) ∧ ns.length ≤ 7 ∧ ∀ H' z, Kp a H H' → BagAt H' a → IsNm z → z ∉ ns → Q (.str z) H'
theorem str_len (z : Str) : z.length = z.cps.size := rfl
theorem nm_line {z : Str} (h : IsNm z) : z.length ≤ sizeLine := le_line (Nat.le_trans h.2.1 (by decide))
theorem nm_app {x y : Str} (hx : IsNm x) (hy : IsNm y) (hl : x.length < 8) {c : Nat} (hc : y.cps.toList[0]? = some c) : IsNm (x ++ sg c) := by
  have e : (x ++ sg c).cps.toList = x.cps.toList ++ [c] := tl_append x (sg c)
  have el : (x ++ sg c).cps.size = x.cps.size + 1 := by
    rw [← Array.length_toList, e, List.length_append, Array.length_toList]
    rfl
  refine ⟨by rw [el]; omega, by rw [el]; rw [str_len] at hl; omega, fun z hz => ?_⟩
  rw [e] at hz
  rcases List.mem_append.mp hz with q | q
  · exact hx.2.2 z q
  · rw [List.mem_singleton.mp q]
    exact hy.2.2 c (List.mem_of_getElem? hc)
theorem nm_cut {x : Str} (hx : IsNm x) (hl : 1 < x.length) : IsNm (cutS x none (some (-1))) := by
  have e : (cutS x none (some (-1))).cps.toList = x.cps.toList.take (x.cps.size - 1) := by
    have h1 : HT.sIx x.length 0 none = 0 := rfl
    have h2 : HT.sIx x.length x.length (some (-1)) = x.cps.size - 1 := by
      rw [str_len] at hl ⊢
      unfold HT.sIx
      simp
      omega
    unfold cutS
    rw [h1, h2]
    simp
  have el : (cutS x none (some (-1))).cps.size = x.cps.size - 1 := by
    rw [← Array.length_toList, e, List.length_take, Array.length_toList]
    omega
  rw [str_len] at hl
  refine ⟨by rw [el]; omega, by rw [el]; have := hx.2.1; omega, fun z hz => ?_⟩
  rw [e] at hz
  exact hx.2.2 z (List.mem_of_mem_take hz)
theorem nm_first {x : Str} (hx : IsNm x) : ∃ c, x.cps.toList[0]? = some c := by
  have h := hx.1
  rw [← Array.length_toList] at h
  exact ⟨_, List.getElem?_eq_getElem (by omega)⟩
section
variable {P : Program} {w : World} {K : PySem.W.Frag} {mg : Str → Option Value} {base : Heap}
end
end Sh
end
section
set_option Elab.async false
set_option linter.all false
set_option maxRecDepth 100000
set_option maxHeartbeats 2000000
set_option autoImplicit false
namespace Sh
open PySem PySem.Spec PyProof.Rows L2
open C8 (pss_cut tCut)
open Evl (ixN_nat)
abbrev Row := Str × Int
/-- tuples stay -/
def TK (H H' : Hp) : Prop := ∀ t xs, H t = some (.tup xs) → H' t = some (.tup xs)
theorem TK.refl (H : Hp) : TK H H := fun _ _ h => h
theorem TK.trans {H H1 H2 : Hp} (x : TK H H1) (y : TK H1 H2) : TK H H2 := fun t xs h => y t xs (x t xs h)
theorem TK.new {H : Hp} {p : Addr} {o : HO} (h : H p = none) : TK H (upd H p o) := fun t xs q => by
  rw [upd_ne (ne_of_none q h)]
  exact q
theorem TK.lst {H : Hp} {p : Addr} {ys : List V} {o : HO} (h : H p = some (.lst ys)) : TK H (upd H p o) := fun t xs q => by
  rw [upd_ne (ne_of q h (fun e => nomatch e))]
  exact q
theorem TK.of_same {H H' : Hp} (s : Same H H') : TK H H' := fun t xs q => s t _ q
theorem Kp.tk {a : Addr} {H H' : Hp} (x : Kp a H H') (b : BagAt H a) : TK H H' := fun t xs q => by
  obtain ⟨z0, z1, z2, z3, cs, hb, _⟩ := b
  exact x t _ q (ne_of q hb (fun e => nomatch e))
def TupsAt (H : Hp) (ts : List Addr) (rows : List Row) : Prop := ts.length = rows.length ∧ ∀ (i : Nat) (t : Addr) (q : Row), ts[i]? = some t → rows[i]? = some q → H t = some (.tup [.str q.1, .int q.2])
theorem TupsAt.keep {H H' : Hp} {ts : List Addr} {rows : List Row} (x : TupsAt H ts rows) (k : TK H H') : TupsAt H' ts rows := ⟨x.1, fun i t q a b => k _ _ (x.2 i t q a b)⟩
theorem TupsAt.snoc {H : Hp} {ts : List Addr} {rows : List Row} {t : Addr} {q : Row} (x : TupsAt H ts rows) (h : H t = some (.tup [.str q.1, .int q.2])) : TupsAt H (ts ++ [t]) (rows ++ [q]) := by
  refine ⟨by simp [x.1], fun i t' q' a b => ?_⟩
  by_cases hi : i < ts.length
  · rw [List.getElem?_append_left hi] at a
    rw [List.getElem?_append_left (by rw [← x.1]; exact hi)] at b
    exact x.2 i t' q' a b
  · have hl := lt_of_get a
    rw [List.length_append, List.length_singleton] at hl
    have e : i = ts.length := by omega
    subst e
    rw [List.getElem?_append_right (Nat.le_refl _), Nat.sub_self] at a
    rw [x.1, List.getElem?_append_right (Nat.le_refl _), Nat.sub_self] at b
    cases a
    cases b
    exact h
def RowsAt (H : Hp) (r : Addr) (rows : List Row) : Prop := ∃ ts, H r = some (.lst (ts.map V.ref)) ∧ TupsAt H ts rows
structure ROk (most : Int) (rows : List Row) : Prop where
  pos : 1 ≤ rows.length
  len : (rows.length : Int) ≤ most
  nd : (rows.map (·.1)).Nodup
  nm : ∀ q ∈ rows, IsNm q.1
  wd : ∀ q ∈ rows, 0 ≤ q.2 ∧ q.2 ≤ 3
  leaf : ∃ q ∈ rows, q.2 = 0
def spRows : Sp := fun vs H Q _ => ∃ (a : Addr) (m : Int), vs = [.ref a, .int m] ∧ BagAt H a ∧ 1 ≤ m ∧ m ≤ 8 ∧ ∀ H' r rows, Kp a H H' → BagAt H' a → H r = none → RowsAt H' r rows → ROk m rows → Q (.ref r) H'
theorem mem_map_ints {ws : List Int} {n : Int} : inV (.int n) (ws.map V.int) = decide (n ∈ ws) := by
  induction ws with
  | nil => rfl
  | cons z r ih =>
    have e : inV (.int n) ((z :: r).map V.int) = ((z == n) || inV (.int n) (r.map V.int)) := rfl
    rw [e, ih, Bool.eq_iff_iff, Bool.or_eq_true, beq_iff_eq, decide_eq_true_iff, decide_eq_true_iff, List.mem_cons]
    exact or_congr_left eq_comm
theorem zip_snoc {ns : List Str} {ws : List Int} {i : Nat} {n : Str} {z : Int} (h1 : ns[i]? = some n) (h2 : ws[i]? = some z) : (ns.zip ws).take i ++ [(n, z)] = (ns.zip ws).take (i + 1) :=
  take_snoc (List.getElem?_zip_eq_some.mpr ⟨h1, h2⟩)
section
variable {P : Program} {w : World} {K : PySem.W.Frag} {mg : Str → Option Value} {base : Heap}
end
end Sh
end
section
set_option Elab.async false
set_option linter.all false
set_option maxRecDepth 100000
set_option maxHeartbeats 2000000
set_option autoImplicit false
namespace Sh
open PySem PySem.Spec PyProof.Rows L2
open C8 (pss_cut tCut)
open Evl (ixN_nat)
theorem iteNN {c A B : Prop} [Decidable c] (hc : ¬ c) (h : A) : if (!decide c) = true then A else B := by
  rw [decide_eq_false hc]
  exact iteT h
def spTrueNm : Sp := fun vs H Q _ => ∃ z, vs = [.str z] ∧ IsNm z ∧ ∀ H', Same H H' → Q (.bl true) H'
theorem in_letters (c : Nat) (h : 97 ≤ c ∧ c ≤ 122) : c ∈ ("abcdefghijklmnopqrstuvwxyz" : Str).cps.toList := by
  have z := letters_at (c - 97) (by omega)
  rw [show 97 + (c - 97) = c by omega] at z
  exact List.mem_of_getElem? z
abbrev s_all_letters : Stmt := top 16
abbrev N_all_letters : List Str := ["text", "letter"]
theorem sc_all_letters : FnScope N_all_letters ["text"] (defScope s_all_letters) := ⟨rfl, rfl, rfl, by decide +kernel, rfl, by decide +kernel, by decide +kernel⟩
abbrev s_is_name : Stmt := top 17
abbrev N_is_name : List Str := ["text"]
theorem sc_is_name : FnScope N_is_name ["text"] (defScope s_is_name) := ⟨rfl, rfl, rfl, by decide +kernel, rfl, by decide +kernel, by decide +kernel⟩
abbrev s_check_pairs : Stmt := top 20
abbrev N_check_pairs : List Str := ["pairs", "seen", "place", "name", "many", "_"]
theorem sc_check_pairs : FnScope N_check_pairs ["pairs"] (defScope s_check_pairs) := ⟨rfl, rfl, rfl, by decide +kernel, rfl, by decide +kernel, by decide +kernel⟩
theorem walk_enumT {K : PySem.W.Frag} {a : Addr} {xs : List V} : Walk (IteT K a) xs.length (fun H => SqT K H a xs) (YPair (fun i => some (.int (i : Nat))) (fun i => xs[i]?)) := by
  refine ⟨fun i _ hi q => ⟨xs, xs[i], q, by simp [hi]⟩, fun _ q => ⟨xs, q, Nat.le_refl _⟩, fun i H v H' _ q y => ?_⟩
  obtain ⟨T, x, h1, h2, h3, h4⟩ := y
  exact ⟨T, .int (i : Nat), x, h1, h2, h3, rfl, h4 xs q⟩
theorem TupsAt.at {H : Hp} {ts : List Addr} {rows : List Row} (x : TupsAt H ts rows) {i : Nat} (h : i < rows.length) : ∃ t, ts[i]? = some t ∧ (ts.map V.ref)[i]? = some (.ref t) ∧ H t = some (.tup [.str (rows[i]).1, .int (rows[i]).2]) := by
  have h2 : i < ts.length := by rw [x.1]; exact h
  exact ⟨ts[i], List.getElem?_eq_getElem h2, by rw [List.getElem?_map, List.getElem?_eq_getElem h2]; rfl, x.2 i _ _ (List.getElem?_eq_getElem h2) (List.getElem?_eq_getElem h)⟩
theorem nd_take {α : Type} {l : List α} (nd : l.Nodup) {i : Nat} (h : i < l.length) : l[i] ∉ l.take i := fun q => by
  obtain ⟨j, hj, e⟩ := List.mem_iff_getElem.mp q
  rw [List.getElem_take] at e
  rw [List.length_take] at hj
  have := (List.getElem_inj nd).mp e
  omega
def spPairs : Sp := fun vs H Q _ => ∃ (p : Addr) (ts : List Addr) (rows : List Row), vs = [.ref p] ∧ H p = some (.tup (ts.map V.ref)) ∧ TupsAt H ts rows ∧ ROk 8 rows ∧ ∀ H', Same H H' → Q .non H'
section
variable {P : Program} {w : World} {K : PySem.W.Frag} {mg : Str → Option Value} {base : Heap}
theorem ok_all_letters (T : Bl mg) (D : Def0 K mg "all_letters" s_all_letters) : DefOk P w K mg base CX0 1 "all_letters" spTrueNm := by
  refine D.ok sc_all_letters (fun vs H Q E h => ?_) (fun _ _ _ _ _ _ us hl => match us, hl with | [_], _ => rfl) (fun f cdv A outer s H vs Q E hr h => ?_)
  · obtain ⟨z, rfl, _⟩ := h
    rfl
  · obtain ⟨z, rfl, nz, k⟩ := h
    refine ⟨_, (pss_one (ps_ret (pe_and (pe_cmpR op_ne (pv 0) pe_str (nomark _)) (pe_one (pe_callB (cr_all rfl) (by rfl) T.b_all (by decide +kernel) (pa_cons (pe_lc (own := [("letter", 1)]) (g := (gName 1)) (tt := tYes) rfl sc_all_letters.nd (pi_str (pv 0)) (blkOk_by (N := N_all_letters) (sc := defScope s_all_letters) (by decide +kernel)) (fun _ _ _ _ _ => (pg_name (i := 1) sc_all_letters.nd rfl (Or.inl rfl))) (fun _ _ _ _ _ => pts_nil) (fun _ _ _ _ _ => (pe_cmpR op_in_sign (pv 1) (pe_cS (by rfl) T.c_LETTERS) (by rfl)))) pa_nil)))))), ?_⟩
    have hne : ¬ V.str z = V.str "" := fun e => by
      have e2 := V.str.inj e
      have := nz.1
      rw [e2] at this
      exact absurd this (by decide)
    refine ⟨_, rfl, rfl, _, rfl, iteNN hne ?_⟩
    refine ⟨_, rfl, _, rfl, fun D hD => lc_it walk_str (fun i H' => Same H H' ∧ H' D = some (.lst ((List.replicate i true).map V.bl))) ⟨(Same.refl H).upd_new hD, upd_same⟩ (fun _ _ _ _ => trivial) ?_ ?_⟩
    · rintro i x H1 H2 hi ⟨q1, q2⟩ ⟨rfl, c, hc, rfl⟩
      have hcm : c ∈ z.cps.toList := List.mem_of_getElem? (by rw [Array.getElem?_toList]; exact hc)
      refine ⟨rfl, _, rfl, c, _, rfl, rfl, ?_⟩
      rw [decide_eq_true (in_letters c (nz.2.2 c hcm))]
      refine ⟨_, q2, ?_, q1.upd_own hD, ?_⟩
      · rw [List.length_map, List.length_replicate]
        have := nz.2.1
        exact lt_line (by omega)
      · rw [upd_same, List.replicate_succ', List.map_append]
        rfl
    · rintro H1 ⟨q1, q2⟩
      refine ⟨D, _, rfl, SqL.of q2, ?_⟩
      rw [show (List.replicate z.cps.size true).all id = true from by rw [List.all_eq_true]; intro x hx; exact (List.mem_replicate.mp hx).2]
      exact k H1 q1
theorem ok_is_name (T : Bl mg) (c_all_letters : DefOk P w K mg base CX0 1 "all_letters" spTrueNm) (D : Def0 K mg "is_name" s_is_name) : DefOk P w K mg base CX0 2 "is_name" spTrueNm := by
  refine D.ok sc_is_name (fun vs H Q E h => ?_) (fun _ _ _ _ _ _ us hl => match us, hl with | [_], _ => rfl) (fun f cdv A outer s H vs Q E hr h => ?_)
  · obtain ⟨z, rfl, _⟩ := h
    rfl
  · obtain ⟨z, rfl, nz, k⟩ := h
    refine ⟨_, (pss_one (ps_ret (pe_and (pe_cmpR op_le (pe_callB call_len_str (by rfl) T.b_len boot_len (pa_cons (pv 0) pa_nil)) (pe_cI (by rfl) T.c_LONGEST_NAME) (nomark _)) (pe_one (pe_d c_all_letters (hr.mono (by decide)) pass0 (pa_cons (pv 0) pa_nil)))))), ?_⟩
    refine ⟨_, rfl, _, rfl, nm_line nz, _, _, rfl, rfl, _, rfl, ?_⟩
    rw [decide_eq_true (show ((z.length : Nat) : Int) ≤ 8 by have := nz.2.1; rw [str_len]; omega)]
    refine iteT ?_
    exact ⟨_, rfl, z, rfl, nz, k⟩
theorem ok_check_pairs (T : Bl mg) (c_is_name : DefOk P w K mg base CX0 2 "is_name" spTrueNm) (D : Def0 K mg "check_pairs" s_check_pairs) : DefOk P w K mg base CX0 3 "check_pairs" spPairs := by
  refine D.ok sc_check_pairs (fun vs H Q E h => ?_) (fun _ _ _ _ _ _ us hl => match us, hl with | [_], _ => rfl) (fun f cdv A outer s H vs Q E hr h => ?_)
  · obtain ⟨p, ts, rows, rfl, _⟩ := h
    rfl
  · obtain ⟨p, ts, rows, rfl, hp, hT, R, k⟩ := h
    refine ⟨_, (pss_cons (ps_if (pt_cmpR op_gt (pe_callB call_len_seq (by rfl) T.b_len boot_len (pa_cons (pv 0) pa_nil)) (pe_cI (by rfl) T.c_MOST_KINDS) (nomark _))
        (pss_one ps_never)
        pss_nil)
      (pss_cons (ps_set (i := 1) sc_check_pairs.nd rfl (Or.inl rfl) (pe_callTy0 cr_set0K (by rfl) T.b_set (by decide +kernel)))
      (pss_cons (ps_for PassesOwn.never rfl (pi_enumT (by rfl) T.b_enumerate (pa_cons (pv 0) pa_nil)) (pg_tup (by rfl) (pgs_cons (pg_name (i := 2) sc_check_pairs.nd rfl (Or.inl rfl)) (pgs_cons (pg_tup (by rfl) (pgs_cons (pg_name (i := 3) sc_check_pairs.nd rfl (Or.inl rfl)) (pgs_cons (pg_name (i := 4) sc_check_pairs.nd rfl (Or.inl rfl)) pgs_nil))) pgs_nil)))
        (pss_cons (ps_if (PW.pt (pw_or (pt_not (pt_val (pe_d c_is_name (hr.mono (by decide)) pass0 (pa_cons (pv 3) pa_nil)))) (pw_or (pt_cmpR op_lt (pv 4) pe_int (nomark _)) (pw_or (pt_cmpR op_gt (pv 4) (pe_cI (by rfl) T.c_MOST_BRANCHES) (nomark _)) (pw_or1 (pt_cmpR or_sinK (pv 3) (pv 1) (by rfl)))))))
          (pss_one ps_never)
          pss_nil)
        (pss_one (ps_expr (pe_saddK (pv 1) (pa_cons (pv 3) pa_nil))))))
      (pss_one (ps_if (pt_cmpR op_notIn_seq pe_int (pe_lc (own := [("_", 5), ("many", 4)]) (g := (gTup K 2 (gCons (gName 5) (gCons (gName 4) gNil)))) (tt := tYes) rfl sc_check_pairs.nd (pi_tup (pv 0)) (blkOk_by (N := N_check_pairs) (sc := defScope s_check_pairs) (by decide +kernel)) (fun _ _ _ _ _ => (pg_tup (by rfl) (pgs_cons (pg_name (i := 5) sc_check_pairs.nd rfl (Or.inl rfl)) (pgs_cons (pg_name (i := 4) sc_check_pairs.nd rfl (Or.inl rfl)) pgs_nil)))) (fun _ _ _ _ _ => pts_nil) (fun _ _ _ _ _ => (pv 4))) (by rfl))
        (pss_one ps_never)
        pss_nil))))), ?_⟩
    have hlen : ts.length = rows.length := hT.1
    have R8 : rows.length ≤ 8 := by have := R.len; omega
    refine ⟨_, rfl, p, _, rfl, .inr (SqT.of hp), _, _, rfl, rfl, _, rfl, ?_⟩
    rw [decide_eq_false (show ¬ (8 : Int) < (((ts.map V.ref).length : Nat) : Int) by rw [List.length_map]; omega)]
    refine iteF ?_
    refine ⟨rfl, fun d hd => ?_⟩
    have s0 : Same H (upd H d (SetK P w d (fun _ => false) 0)) := (Same.refl H).upd_new hd
    have npd : ∀ {H' : Hp}, Same H H' → H' p = some (.tup (ts.map V.ref)) := fun q => q _ _ hp
    refine ⟨_, rfl, p, _, rfl, SqT.of (npd s0), for_it (walk_enumT (xs := ts.map V.ref)) (fun i σ H' => ∃ (x y z : Option V), σ = [some (.ref p), some (.ref d), x, y, z, none] ∧ Same H H' ∧ ∃ (S : Key → Bool) (n : Nat), H' d = some (SetK P w d S n) ∧ n ≤ i ∧ ∀ u : Str, S (.inr u) = true → u ∈ (rows.map (·.1)).take i)
      ⟨none, none, none, rfl, s0, _, 0, upd_same, Nat.le_refl _, fun u h => nomatch h⟩ (fun i σ H' _ ⟨_, _, _, _, q, _⟩ => SqT.of (npd q)) ?_ ?_⟩
    · rintro i v σ H1 H2 hi ⟨x, y, z, rfl, s1, S, n, hS, hn, hu⟩ ⟨P1, v1, v2, rfl, hP1, rfl, e1, e2⟩
      have hir : i < rows.length := by rw [List.length_map, hlen] at hi; exact hi
      obtain ⟨t, t1, t2, t3⟩ := hT.at hir
      have t2' : (ts.map V.ref)[i]? = some v2 := e2
      rw [t2] at t2'
      cases t2'
      cases e1
      have s2 := s1.upd_new (o := .tup [.int ((i : Nat) : Int), .ref t]) hP1
      have nm := R.nm _ (List.getElem_mem hir)
      have wd := R.wd _ (List.getElem_mem hir)
      refine ⟨P1, _, rfl, SqT.of upd_same, rfl, _, _, rfl, _, _, rfl, ?_⟩
      refine ⟨t, _, rfl, SqT.of (s2 _ _ t3), rfl, _, _, rfl, _, _, rfl, rfl, rfl, ?_⟩
      refine ⟨_, rfl, (rows[i]).1, rfl, nm, fun H3 s3 => ⟨true, rfl, ?_⟩⟩
      show if false = true then _ else _
      refine iteF ⟨_, rfl, _, _, rfl, rfl, _, rfl, ?_⟩
      rw [decide_eq_false (show ¬ (rows[i]).2 < 0 by omega)]
      refine iteF ⟨_, rfl, _, _, rfl, rfl, _, rfl, ?_⟩
      rw [decide_eq_false (show ¬ (3 : Int) < (rows[i]).2 by omega)]
      have hS3 : H3 d = some (SetK P w d S n) := s3 _ _ (by rw [upd_ne (ne_of_none hS hP1)]; exact hS)
      have hSf : S (.inr (rows[i]).1) = false := by
        cases q : S (.inr (rows[i]).1) with
        | false => rfl
        | true =>
          have z1 := hu _ q
          have z2 := nd_take (l := rows.map (·.1)) R.nd (i := i) (by rw [List.length_map]; exact hir)
          rw [List.getElem_map] at z2
          exact absurd z1 z2
      refine iteF ⟨_, rfl, _, rfl, .inr (rows[i]).1, d, S, n, rfl, rfl, hS3, _, rfl, ?_⟩
      rw [show (if false = true then !S (.inr (rows[i]).1) else S (.inr (rows[i]).1)) = false from hSf]
      refine iteF ?_
      refine ⟨_, rfl, ⟨d, S, n, rfl, hS3⟩, _, rfl, d, .inr (rows[i]).1, S, n, rfl, rfl, hS3, ?_, ?_⟩
      · show n + 1 < 4096
        omega
      · refine ⟨_, _, _, rfl, ?_, _, _, upd_same, ?_, ?_⟩
        · exact (s2.trans s3).upd_own hd
        · show (if S (Sum.inr (rows[i]).1) = true then n else n + 1) ≤ i + 1
          split <;> omega
        · intro u hu2
          have hg : (rows.map (·.1))[i]? = some (rows[i]).1 := by rw [List.getElem?_map, List.getElem?_eq_getElem hir]; rfl
          rw [← take_snoc hg]
          rcases Bool.or_eq_true_iff.mp hu2 with q | q
          · exact List.mem_append_left _ (hu u q)
          · have := of_decide_eq_true q
            rw [Sum.inr.inj this]
            exact List.mem_append_right _ List.mem_cons_self
    · rintro σ H1 ⟨x, y, z, rfl, s1, S, n, hS, hn, hu⟩
      refine ⟨_, rfl, p, rfl, ⟨_, SqT.of (npd s1)⟩, fun D hD => lc_it (walk_tup (xs := ts.map V.ref)) (fun i H' => Same H1 H' ∧ H' D = some (.lst (((rows.map (·.2)).take i).map V.int))) ⟨(Same.refl H1).upd_new hD, upd_same⟩ (fun i H' _ ⟨q, _⟩ => SqT.of (npd (s1.trans q))) ?_ ?_⟩
      · rintro i v H2 H3 hi ⟨q1, q2⟩ ⟨rfl, hv⟩
        have hir : i < rows.length := by rw [List.length_map, hlen] at hi; exact hi
        obtain ⟨t, t1, t2, t3⟩ := hT.at hir
        rw [t2] at hv
        cases hv
        refine ⟨t, _, rfl, SqT.of ((s1.trans q1) _ _ t3), rfl, _, _, rfl, _, _, rfl, rfl, rfl, ?_⟩
        refine ⟨_, rfl, _, q2, ?_, q1.upd_own hD, ?_⟩
        · rw [List.length_map, List.length_take]
          exact lt_line (by omega)
        · have hg : (rows.map (·.2))[i]? = some (rows[i]).2 := by rw [List.getElem?_map, List.getElem?_eq_getElem hir]; rfl
          rw [upd_same, ← take_snoc hg, List.map_append]
          rfl
      · rintro H2 ⟨q1, q2⟩
        rw [show (ts.map V.ref).length = (rows.map (·.2)).length by rw [List.length_map, List.length_map, hlen], List.take_length] at q2
        refine ⟨D, _, rfl, .inl (SqL.of q2), rfl, flat_ints _, _, rfl, ?_⟩
        have h0 : (0 : Int) ∈ rows.map (·.2) := by
          obtain ⟨q, hq, e⟩ := R.leaf
          rw [← e]
          exact List.mem_map_of_mem hq
        show if (!inV (V.int 0) ((rows.map (·.2)).map V.int)) = true then _ else _
        rw [mem_map_ints, decide_eq_true h0]
        refine iteF ?_
        exact k H2 (s1.trans q1)
end
end Sh
end
section
set_option Elab.async false
set_option linter.all false
set_option maxRecDepth 100000
set_option maxHeartbeats 2000000
set_option autoImplicit false
namespace L2
open PySem PySem.Spec PyProof.Rows
theorem PE.weak {X : Cx} {e : Expr} {t t' : TE} (h : PE X e t) (i : ∀ σ H Q, t' σ H Q → t σ H Q) : PE X e t' := ⟨fun pins s σ H Q I q => h.run pins s σ H Q I (i σ H Q q)⟩
/-- a dict comprehension over any walk -/
theorem dc_it {J : It} {n : Nat} {G : Hp → Prop} {Y : Nat → Hp → V → Hp → Prop} (w : Walk J n G Y) {g : TG} {tt : TT} {tk tv : TE} {vs : List Nat} {σ : St} {H1 : Hp} {D : Addr} {Qd : Hp → Prop} (Pv : Nat → Hp → Prop) (h0 : Pv 0 (upd H1 D (.dK []))) (hG : ∀ i H, i ≤ n → Pv i H → G H)
    (hs : ∀ i x H H', i < n → Pv i H → Y i H x H' → g x (wipe σ vs) H' fun σ2 H2 => wipe σ2 vs = wipe σ vs ∧ tt σ2 H2 fun b H3 =>
      if b = true then tk σ2 H3 fun y H4 => tv σ2 H4 fun z H5 => ∃ kvs k, y = kV k ∧ H5 D = some (.dK kvs) ∧ kvs.length < sizeLine ∧ Pv (i + 1) (upd H5 D (.dK (putK kvs k z))) else Pv (i + 1) H3) (hd : ∀ H, Pv n H → Qd H) :
    ∃ W : Nat → Nat → Hp → Prop, (∃ m, W 0 m (upd H1 D (.dK []))) ∧ ∀ i m H, W i m H →
      (J.stop i H ∧ Qd H) ∨ (J.go i H ∧ ∃ Nx : Hp → Prop, (∀ H', Nx H' → ∃ m', m' < m ∧ W (i + 1) m' H') ∧ ∀ x H', J.yld i H x H' → g x (wipe σ vs) H' fun σ2 H2 => wipe σ2 vs = wipe σ vs ∧ tt σ2 H2 fun b H3 =>
        if b = true then tk σ2 H3 fun y H4 => tv σ2 H4 fun z H5 => ∃ kvs k, y = kV k ∧ H5 D = some (.dK kvs) ∧ kvs.length < sizeLine ∧ Nx (upd H5 D (.dK (putK kvs k z))) else Nx H3) := by
  refine ⟨fun i m H => m = n - i ∧ i ≤ n ∧ Pv i H, ⟨n, by simp, Nat.zero_le _, h0⟩, ?_⟩
  rintro i m H ⟨rfl, hi, p⟩
  have q := hG i H hi p
  by_cases hlt : i < n
  · exact .inr ⟨w.goes i H hlt q, Pv (i + 1), fun H' p' => ⟨n - (i + 1), by omega, rfl, hlt, p'⟩, fun x H' y => hs i x H H' hlt p (w.yields i H x H' hlt q y)⟩
  · have e : i = n := by omega
    subst e
    exact .inl ⟨w.stops H q, hd H p⟩
end L2
namespace Sh
open PySem PySem.Spec PyProof.Rows L2
open C8 (pss_cut tCut)
open Evl (ixN_nat)
def bedF (r k w rk : Addr) : List (Str × V) := [("rows", .ref r), ("kinds", .ref k), ("widths", .ref w), ("ranks", .ref rk)]
def wL (rows : List Row) : List (Key × V) := rows.map fun q => (.inr q.1, .int q.2)
def rkL (ns : List Str) : List (Key × V) := ns.zipIdx.map fun q => (.inr q.1, .int ((q.2 : Nat) : Int))
def BedAt (C : Addr) (H : Hp) (p : Addr) (rows : List Row) : Prop := ∃ (dx r k w rk : Addr) (ts : List Addr), H p = some (.ins C dx (bedF r k w rk)) ∧ H r = some (.tup (ts.map V.ref)) ∧ TupsAt H ts rows ∧
  H k = some (.tup ((rows.map (·.1)).map V.str)) ∧ H w = some (.dK (wL rows)) ∧ H rk = some (.dK (rkL (rows.map (·.1))))
theorem BedAt.same {C : Addr} {H H' : Hp} {p : Addr} {rows : List Row} (x : BedAt C H p rows) (s : Same H H') : BedAt C H' p rows := by
  obtain ⟨dx, r, k, w, rk, ts, h1, h2, h3, h4, h5, h6⟩ := x
  exact ⟨dx, r, k, w, rk, ts, s _ _ h1, s _ _ h2, h3.keep (TK.of_same s), s _ _ h4, s _ _ h5, s _ _ h6⟩
theorem BedAt.kp {C a : Addr} {H H' : Hp} {p : Addr} {rows : List Row} (x : BedAt C H p rows) (b : BagAt H a) (s : Kp a H H') : BedAt C H' p rows := by
  obtain ⟨dx, r, k, w, rk, ts, h1, h2, h3, h4, h5, h6⟩ := x
  have tk := s.tk b
  obtain ⟨z0, z1, z2, z3, cs, hb, _⟩ := b
  exact ⟨dx, r, k, w, rk, ts, s _ _ h1 (ne_of h1 hb (fun e => nomatch e)), tk _ _ h2, h3.keep tk, tk _ _ h4, s _ _ h5 (ne_of h5 hb (fun e => nomatch e)), s _ _ h6 (ne_of h6 hb (fun e => nomatch e))⟩
/-- what the written part says of the class Bed -/
structure BedT (K : PySem.W.Frag) (C : Addr) : Prop where
  cl : Cls K C
  nR : NoAttr K C "rows"
  nK : NoAttr K C "kinds"
  nW : NoAttr K C "widths"
  nRk : NoAttr K C "ranks"
theorem s_ne : ¬ ("rows" : Str) = "kinds" ∧ ¬ ("rows" : Str) = "widths" ∧ ¬ ("rows" : Str) = "ranks" ∧ ¬ ("kinds" : Str) = "widths" ∧ ¬ ("kinds" : Str) = "ranks" ∧ ¬ ("widths" : Str) = "ranks" := by decide +kernel
theorem put1 (r k : Addr) : putF "kinds" (.ref k) [("rows", .ref r)] = [(("rows" : Str), V.ref r), ("kinds", .ref k)] := by simp [putF, s_ne]
theorem put2 (r k w : Addr) : putF "widths" (.ref w) [("rows", .ref r), ("kinds", .ref k)] = [(("rows" : Str), V.ref r), ("kinds", .ref k), ("widths", .ref w)] := by simp [putF, s_ne]
theorem put3 (r k w rk : Addr) : putF "ranks" (.ref rk) [("rows", .ref r), ("kinds", .ref k), ("widths", .ref w)] = bedF r k w rk := by simp [putF, s_ne, bedF]
theorem lk_k2 (r k w : Addr) : ([("rows", .ref r), ("kinds", .ref k), ("widths", .ref w)] : List (Str × V)).lookup ("kinds" : Str) = some (.ref k) := by
  have h : (("kinds" : Str) == "rows") = false := by decide +kernel
  simp [List.lookup, h]
theorem lk_rows (r k w rk : Addr) : (bedF r k w rk).lookup ("rows" : Str) = some (.ref r) := by simp [bedF, List.lookup]
theorem lk_kinds (r k w rk : Addr) : (bedF r k w rk).lookup ("kinds" : Str) = some (.ref k) := by
  have h : (("kinds" : Str) == "rows") = false := by decide +kernel
  simp [bedF, List.lookup, h]
theorem lk_widths (r k w rk : Addr) : (bedF r k w rk).lookup ("widths" : Str) = some (.ref w) := by
  have h : (("widths" : Str) == "rows") = false := by decide +kernel
  have h2 : (("widths" : Str) == "kinds") = false := by decide +kernel
  simp [bedF, List.lookup, h, h2]
theorem lk_ranks (r k w rk : Addr) : (bedF r k w rk).lookup ("ranks" : Str) = some (.ref rk) := by
  have h : (("ranks" : Str) == "rows") = false := by decide +kernel
  have h2 : (("ranks" : Str) == "kinds") = false := by decide +kernel
  have h3 : (("ranks" : Str) == "widths") = false := by decide +kernel
  simp [bedF, List.lookup, h, h2, h3]
theorem valV_none {kvs : List (Key × V)} {s : Str} (h : ∀ kv ∈ kvs, kv.1 ≠ .inr s) : valV kvs (.inr s) = none := by
  unfold valV
  rw [List.find?_eq_none.mpr (fun kv hk => by simpa using h kv hk)]
  rfl
/-- __init__ at a new instance -/
def spBedI (C : Addr) : Sp := fun vs H Q _ => ∃ (x dx p : Addr) (ts : List Addr) (rows : List Row), vs = [.ref x, .ref p] ∧ H x = some (.ins C dx []) ∧ H p = some (.tup (ts.map V.ref)) ∧ TupsAt H ts rows ∧ ROk 8 rows ∧ ∀ H', (∀ b o, H b = some o → b ≠ x → H' b = some o) → BedAt C H' x rows → Q .non H'
abbrev s_init__ : Stmt := inClass (top 22) 0
abbrev N_init__ : List Str := ["self", "kinds", "name", "_", "many", "rank"]
theorem sc_init__ : FnScope N_init__ ["self", "kinds"] (defScope s_init__) := ⟨rfl, rfl, rfl, by decide +kernel, rfl, by decide +kernel, by decide +kernel⟩
section
variable {P : Program} {w : World} {K : PySem.W.Frag} {mg : Str → Option Value} {base : Heap} {C : Addr}
theorem body_bedI (T : Bl mg) (B : BedT K C) (c_check_pairs : DefOk P w K mg base CX0 3 "check_pairs" spPairs) {f : Addr} {cdv : Value} {A : Around} {outer : List Env} {s : Shared} {H : Hp} {vs : List V} {Q : VK} {E : XK} (hr : Room 3 (A.deeper (envOfC "Bed.__init__" (defScope s_init__) s.heap.objs.size f cdv))) (h : spBedI C vs H Q E) :
    ∃ t, PSs (cxOf CX0 P w K mg base N_init__ "Bed.__init__" (defScope s_init__) f cdv A outer s H E).nox (defBody s_init__) t ∧ t { nx := fun _ H' => Q .non H', rt := Q } (start N_init__ vs) H := by
  obtain ⟨x, dx, p, ts, rows, rfl, hx, hp, hT, R, k⟩ := h
  refine ⟨_, (pss_cons (ps_expr (pe_d c_check_pairs (hr.mono (by decide)) pass0 (pa_cons (pv 1) pa_nil)))
    (pss_cons (ps_fld (pv 0) (pv 1) rfl)
    (pss_cons (ps_fld (pv 0) (pe_callTy call_tuple_of (by rfl) T.b_tuple (by decide +kernel) (pa_cons (pe_lc (own := [("name", 2), ("_", 3)]) (g := (gTup K 2 (gCons (gName 2) (gCons (gName 3) gNil)))) (tt := tYes) rfl sc_init__.nd (pi_tup (pv 1)) (blkOk_by (N := N_init__) (sc := defScope s_init__) (by decide +kernel)) (fun _ _ _ _ _ => (pg_tup (by rfl) (pgs_cons (pg_name (i := 2) sc_init__.nd rfl (Or.inl rfl)) (pgs_cons (pg_name (i := 3) sc_init__.nd rfl (Or.inl rfl)) pgs_nil)))) (fun _ _ _ _ _ => pts_nil) (fun _ _ _ _ _ => (pv 2))) pa_nil)) rfl)
    (pss_cons (ps_fld (pv 0) (pe_dc (own := [("name", 2), ("many", 4)]) (g := (gTup K 2 (gCons (gName 2) (gCons (gName 4) gNil)))) (tt := tYes) rfl sc_init__.nd (pi_tup (pv 1)) (blkOk_by (N := N_init__) (sc := defScope s_init__) (by decide +kernel)) (fun _ _ _ _ _ => (pg_tup (by rfl) (pgs_cons (pg_name (i := 2) sc_init__.nd rfl (Or.inl rfl)) (pgs_cons (pg_name (i := 4) sc_init__.nd rfl (Or.inl rfl)) pgs_nil)))) (fun _ _ _ _ _ => pts_nil) (fun _ _ _ _ _ => (pv 2)) (fun _ _ _ _ _ => (pv 4))) rfl)
    (pss_one (ps_fld (pv 0) (pe_dc (own := [("rank", 5), ("name", 2)]) (g := (gTup K 2 (gCons (gName 5) (gCons (gName 2) gNil)))) (tt := tYes) rfl sc_init__.nd (pi_enumT (by rfl) T.b_enumerate (pa_cons (pe_fld (pv 0) rfl) pa_nil)) (blkOk_by (N := N_init__) (sc := defScope s_init__) (by decide +kernel)) (fun _ _ _ _ _ => (pg_tup (by rfl) (pgs_cons (pg_name (i := 5) sc_init__.nd rfl (Or.inl rfl)) (pgs_cons (pg_name (i := 2) sc_init__.nd rfl (Or.inl rfl)) pgs_nil)))) (fun _ _ _ _ _ => pts_nil) (fun _ _ _ _ _ => (pv 2)) (fun _ _ _ _ _ => (pv 5))) rfl)))))), ?_⟩
  have hlen : ts.length = rows.length := hT.1
  have R8 : rows.length ≤ 8 := by have := R.len; omega
  have npx : p ≠ x := ne_of hp hx (fun e => nomatch e)
  refine ⟨_, rfl, p, ts, rows, rfl, hp, hT, R, fun H1 s1 => ?_⟩
  refine ⟨_, rfl, _, rfl, x, C, dx, _, rfl, s1 _ _ hx, B.cl, B.nR, (by show 0 < 1000; decide), ?_⟩
  generalize e2 : upd H1 x (.ins C dx (putF "rows" (.ref p) [])) = H2
  have hx2 : H2 x = some (.ins C dx [(("rows" : Str), V.ref p)]) := by rw [← e2, upd_same]; rfl
  have k2 : Kp x H H2 := by rw [← e2]; exact (Kp.same s1).upd
  have tk1 : ∀ {H H' : Hp} {fs : List (Str × V)}, H x = some (.ins C dx fs) → Kp x H H' → TK H H' := fun h q t xs ht => q t _ ht (ne_of ht h (fun e => nomatch e))
  have tk2 := tk1 hx k2
  have hp2 : H2 p = some (.tup (ts.map V.ref)) := tk2 _ _ hp
  have hT2 := hT.keep tk2
  clear e2
  -- kinds
  refine ⟨_, rfl, p, rfl, ⟨_, SqT.of hp2⟩, fun D hD => lc_it (walk_tup (xs := ts.map V.ref)) (fun i H' => Same H2 H' ∧ H' D = some (.lst (((rows.map (·.1)).take i).map V.str))) ⟨(Same.refl H2).upd_new hD, upd_same⟩ (fun i H' _ ⟨q, _⟩ => SqT.of (q _ _ hp2)) ?_ ?_⟩
  · rintro i v H3 H4 hi ⟨q1, q2⟩ ⟨rfl, hv⟩
    have hir : i < rows.length := by rw [List.length_map, hlen] at hi; exact hi
    obtain ⟨t, t1, t2, t3⟩ := hT2.at hir
    rw [t2] at hv
    cases hv
    refine ⟨t, _, rfl, SqT.of (q1 _ _ t3), rfl, _, _, rfl, _, _, rfl, rfl, rfl, ?_⟩
    refine ⟨_, rfl, _, q2, ?_, q1.upd_own hD, ?_⟩
    · rw [List.length_map, List.length_take]
      exact lt_line (by omega)
    · have hg : (rows.map (·.1))[i]? = some (rows[i]).1 := by rw [List.getElem?_map, List.getElem?_eq_getElem hir]; rfl
      rw [upd_same, ← take_snoc hg, List.map_append]
      rfl
  rintro H3 ⟨q1, q2⟩
  rw [show (ts.map V.ref).length = (rows.map (·.1)).length by rw [List.length_map, List.length_map, hlen], List.take_length] at q2
  refine ⟨D, _, rfl, .inl ⟨SqL.of q2, fun l hl => ?_⟩⟩
  have nlx : l ≠ x := (ne_of_none (q1 _ _ hx2) hl).symm
  refine ⟨_, rfl, x, C, dx, _, rfl, (by rw [upd_ne nlx.symm]; exact q1 _ _ hx2), B.cl, B.nK, (by show 1 < 1000; decide), ?_⟩
  rw [put1]
  have k3 : Kp x H (upd H3 l (.tup ((rows.map (·.1)).map V.str))) := (k2.trans (Kp.same q1)).upd_new hl
  generalize e4 : upd (upd H3 l (.tup ((rows.map (·.1)).map V.str))) x (.ins C dx [(("rows" : Str), V.ref p), ("kinds", .ref l)]) = H4
  have hx4 : H4 x = some (.ins C dx [(("rows" : Str), V.ref p), ("kinds", .ref l)]) := by rw [← e4, upd_same]
  have k4 : Kp x H H4 := by rw [← e4]; exact k3.upd
  have hl4 : H4 l = some (.tup ((rows.map (·.1)).map V.str)) := by rw [← e4, upd_ne nlx, upd_same]
  have tk4 := tk1 hx k4
  have hp4 : H4 p = some (.tup (ts.map V.ref)) := tk4 _ _ hp
  have hT4 := hT.keep tk4
  clear e4
  -- widths
  refine ⟨_, rfl, p, rfl, ⟨_, SqT.of hp4⟩, fun D2 hD2 => dc_it (walk_tup (xs := ts.map V.ref)) (fun i H' => Same H4 H' ∧ H' D2 = some (.dK (wL (rows.take i)))) ⟨(Same.refl H4).upd_new hD2, upd_same⟩ (fun i H' _ ⟨q, _⟩ => SqT.of (q _ _ hp4)) ?_ ?_⟩
  · rintro i v H5 H6 hi ⟨p1, p2⟩ ⟨rfl, hv⟩
    have hir : i < rows.length := by rw [List.length_map, hlen] at hi; exact hi
    obtain ⟨t, t1, t2, t3⟩ := hT4.at hir
    rw [t2] at hv
    cases hv
    refine ⟨t, _, rfl, SqT.of (p1 _ _ t3), rfl, _, _, rfl, _, _, rfl, rfl, rfl, ?_⟩
    refine ⟨_, rfl, _, rfl, _, .inr (rows[i]).1, rfl, p2, ?_, p1.upd_own hD2, ?_⟩
    · unfold wL
      rw [List.length_map, List.length_take]
      exact lt_line (by omega)
    · rw [upd_same, putK_new, ← take_snoc (List.getElem?_eq_getElem hir)]
      · unfold wL
        rw [List.map_append]
        rfl
      · refine valV_none fun kv hk e => ?_
        obtain ⟨q, hq, rfl⟩ := List.mem_map.mp hk
        have z2 := nd_take (l := rows.map (·.1)) R.nd (i := i) (by rw [List.length_map]; exact hir)
        rw [List.getElem_map, ← List.map_take] at z2
        have e2 : q.1 = (rows[i]).1 := Sum.inr.inj e
        exact z2 (by rw [← e2]; exact List.mem_map_of_mem hq)
  rintro H5 ⟨p1, p2⟩
  rw [show (ts.map V.ref).length = rows.length by rw [List.length_map, hlen], List.take_length] at p2
  have nDx2 : D2 ≠ x := (ne_of_none hx4 hD2).symm
  refine ⟨_, rfl, x, C, dx, _, rfl, p1 _ _ hx4, B.cl, B.nW, (by show 2 < 1000; decide), ?_⟩
  rw [put2]
  generalize e6 : upd H5 x (.ins C dx [(("rows" : Str), V.ref p), ("kinds", .ref l), ("widths", .ref D2)]) = H6
  have hx6 : H6 x = some (.ins C dx [(("rows" : Str), V.ref p), ("kinds", .ref l), ("widths", .ref D2)]) := by rw [← e6, upd_same]
  have k46 : Kp x H4 H6 := by rw [← e6]; exact (Kp.same p1).upd
  have k6 : Kp x H H6 := k4.trans k46
  have hl6 : H6 l = some (.tup ((rows.map (·.1)).map V.str)) := k46 _ _ hl4 nlx
  have hw6 : H6 D2 = some (.dK (wL rows)) := by rw [← e6, upd_ne nDx2]; exact p2
  clear e6
  -- ranks
  refine ⟨_, rfl, x, C, dx, _, _, rfl, hx6, B.cl, B.nK, lk_k2 _ _ _, l, _, rfl, SqT.of hl6, fun D3 hD3 => dc_it (walk_enumT (xs := (rows.map (·.1)).map V.str)) (fun i H' => Same H6 H' ∧ H' D3 = some (.dK ((rkL (rows.map (·.1))).take i))) ⟨(Same.refl H6).upd_new hD3, upd_same⟩ (fun i H' _ ⟨q, _⟩ => SqT.of (q _ _ hl6)) ?_ ?_⟩
  · rintro i v H7 H8 hi ⟨p3, p4⟩ ⟨P1, v1, v2, rfl, hP1, rfl, e1, e2⟩
    have hir : i < rows.length := by rw [List.length_map, List.length_map] at hi; exact hi
    cases e1
    have e2' : ((rows.map (·.1)).map V.str)[i]? = some v2 := e2
    rw [List.getElem?_map, List.getElem?_map, List.getElem?_eq_getElem hir] at e2'
    cases e2'
    have hD3' : (upd H7 P1 (.tup [.int ((i : Nat) : Int), .str (rows[i]).1])) D3 = some (.dK ((rkL (rows.map (·.1))).take i)) := by rw [upd_ne (ne_of_none p4 hP1)]; exact p4
    refine ⟨P1, _, rfl, SqT.of upd_same, rfl, _, _, rfl, _, _, rfl, rfl, rfl, ?_⟩
    refine ⟨_, rfl, _, rfl, _, .inr (rows[i]).1, rfl, hD3', ?_, (p3.upd_new hP1).upd_own hD3, ?_⟩
    · rw [List.length_take]
      unfold rkL
      rw [List.length_map, List.length_zipIdx, List.length_map]
      exact lt_line (by omega)
    · have hg : (rkL (rows.map (·.1)))[i]? = some (.inr (rows[i]).1, .int ((i : Nat) : Int)) := by
        unfold rkL
        rw [List.getElem?_map, List.getElem?_zipIdx, List.getElem?_map, List.getElem?_eq_getElem hir]
        simp
      rw [upd_same, putK_new, ← take_snoc hg]
      refine valV_none fun kv hk e => ?_
      obtain ⟨j, hj, ej⟩ := List.mem_iff_getElem.mp hk
      rw [List.length_take] at hj
      rw [List.getElem_take] at ej
      have hjr : j < rows.length := by omega
      have hg2 : (rkL (rows.map (·.1)))[j]? = some (.inr (rows[j]).1, .int ((j : Nat) : Int)) := by
        unfold rkL
        rw [List.getElem?_map, List.getElem?_zipIdx, List.getElem?_map, List.getElem?_eq_getElem hjr]
        simp
      have ej2 := List.getElem?_eq_getElem (l := rkL (rows.map (·.1))) (i := j) (by unfold rkL; rw [List.length_map, List.length_zipIdx, List.length_map]; exact hjr)
      rw [hg2] at ej2
      rw [← ej, ← Option.some.inj ej2] at e
      have e3 : (rows[j]).1 = (rows[i]).1 := Sum.inr.inj e
      have nd := R.nd
      have e4 : (rows.map (·.1))[j]'(by rw [List.length_map]; exact hjr) = (rows.map (·.1))[i]'(by rw [List.length_map]; exact hir) := by rw [List.getElem_map, List.getElem_map]; exact e3
      have := (List.getElem_inj nd).mp e4
      omega
  rintro H7 ⟨p3, p4⟩
  rw [show ((rows.map (·.1)).map V.str).length = (rkL (rows.map (·.1))).length by unfold rkL; simp, List.take_length] at p4
  have nDx3 : D3 ≠ x := (ne_of_none hx6 hD3).symm
  refine ⟨_, rfl, x, C, dx, _, rfl, p3 _ _ hx6, B.cl, B.nRk, (by show 3 < 1000; decide), ?_⟩
  rw [put3]
  have k8 : Kp x H (upd H7 x (.ins C dx (bedF p l D2 D3))) := (k6.trans (Kp.same p3)).upd
  refine k _ k8 ⟨dx, p, l, D2, D3, ts, upd_same, k8 _ _ hp npx, hT.keep (tk1 hx k8), ?_, ?_, ?_⟩
  · rw [upd_ne nlx]; exact p3 _ _ hl6
  · rw [upd_ne nDx2]; exact p3 _ _ hw6
  · rw [upd_ne nDx3]; exact p4
end
end Sh
end
section
set_option Elab.async false
set_option linter.all false
set_option maxRecDepth 100000
set_option maxHeartbeats 2000000
set_option autoImplicit false
namespace Sh
open PySem PySem.Spec PyProof.Rows L2
open C8 (pss_cut tCut)
open Evl (ixN_nat)
theorem ifn {c A B : Prop} [Decidable c] (h : ¬ c) (b : B) : if c then A else B := by
  rw [if_neg h]
  exact b
theorem ifp {c A B : Prop} [Decidable c] (h : c) (a : A) : if c then A else B := by
  rw [if_pos h]
  exact a
def spBedS (C : Addr) : Sp := fun vs H Q E => ∃ ws rest, vs = ws ++ rest ∧ ws.length = (["self"] : List Str).length ∧ rest.length ≤ sizeLine ∧ ∀ p, H p = Option.none → spBedI C (ws ++ [V.ref p]) (upd H p (.tup rest)) Q E
def BedOk (P : Program) (w : World) (K : PySem.W.Frag) (mg : Str → Option Value) (base : Heap) (C : Addr) (k : Nat) : Prop := mg "Bed" = some (.ref C) ∧ ∃ fI, Mk K C fI ∧ FnR P w K mg base CX0 k fI (spBedS C)
def spBed (C : Addr) : Sp := fun vs H Q _ => ∃ (ts : List Addr) (rows : List Row), vs = ts.map V.ref ∧ TupsAt H ts rows ∧ ROk 8 rows ∧ ∀ H' p, Same H H' → H p = none → BedAt C H' p rows → Q (.ref p) H'
theorem pe_bed {X : Cx} {C : Addr} {k : Nat} {e : Expr} {es : List Expr} {t : TA} {p pos : Pos} (D : BedOk X.prog X.w X.K X.mg X.base C k) (hr : Room (k + 1) X.A) (ha : PA X (e :: es) t) (hg : Gl X "Bed" := by rfl)
    (he : starEach (e :: es) X.env = (false, eval e X.env) :: starEach es X.env := by rfl) (hpl : (backTo pos (starEach es X.env)).any (·.1) = false := by rfl) :
    PE X (.Call (.Name "Bed" p) (e :: es) [] pos) (tCallR (spBed C) E0 t) := by
  obtain ⟨hm, fI, M, F⟩ := D
  refine ⟨fun pins s σ H Q I h => ?_⟩
  refine wpAny_Call_Name_kw (ld_glob I hg hm ?_ (by decide))
  refine PySem.W.callWith_K (h₀ := X.base) I.ok.mod.kin M.kp (thn (ha.run pos pins s σ H _ I h) fun us s1 ⟨vs, H1, I1, r, q⟩ => ⟨I1.kIn, ?_⟩) he hpl
  obtain ⟨ts, rows, rfl, hT, R, k⟩ := q
  refine StX.run_makeR M F hr pass0 I1 r fun x dx hx hd hxd => ?_
  have s1 : Same H1 (upd (upd H1 dx (.own x)) x (.ins C dx [])) := ((Same.refl H1).upd_new hd).upd_own hx
  refine ⟨[.ref x], ts.map V.ref, rfl, rfl, ?_, fun p hp => ?_⟩
  · rw [List.length_map, hT.1]
    have := R.len
    exact le_line (by omega)
  have s2 := s1.upd_new (o := .tup (ts.map V.ref)) hp
  have nxp : x ≠ p := ne_of_none (upd_same (H := upd H1 dx (.own x)) (a := x)) hp
  refine ⟨x, dx, p, ts, rows, rfl, by rw [upd_ne nxp, upd_same], upd_same, hT.keep (TK.of_same s2), R, fun H' kk b => ⟨rfl, ?_⟩⟩
  exact k H' x (fun b o hb => kk b o (s2 b o hb) (ne_of_none hb hx)) hx b
def spLawBed (C : Addr) : Sp := fun vs H Q _ => ∃ (r : Addr) (rows : List Row), vs = [.ref r] ∧ RowsAt H r rows ∧ ROk 8 rows ∧ ∀ H' p, Same H H' → H p = none → BedAt C H' p rows → Q (.ref p) H'
section
variable {P : Program} {w : World} {K : PySem.W.Frag} {mg : Str → Option Value} {base : Heap} {C : Addr}
end
end Sh
end
section
set_option Elab.async false
set_option linter.all false
set_option maxRecDepth 100000
set_option maxHeartbeats 4000000
set_option autoImplicit false
/-! More rules over tuples, lists and caught exceptions. -/
namespace L2
open PySem PySem.Spec PyProof.Rows
section
variable {X : Cx}
/-- t + u, followed with its object -/
def rCatG (K : PySem.W.Frag) : R2 := fun x y H Q => ∃ a b xs ys, x = .ref a ∧ y = .ref b ∧ SqT K H a xs ∧ SqT K H b ys ∧ xs.length + ys.length ≤ sizeLine ∧
  (xs = [] → Q (.ref b) H) ∧ (xs ≠ [] → ys = [] → Q (.ref a) H) ∧ (xs ≠ [] → ys ≠ [] → ∀ p o, H p = none → o.dict = none → Q (.ref p) (upd H p (.frz o (.tup (xs ++ ys)))))
theorem op_catG : OpR X (binaryOp .Add) (rCatG X.K) := by
  intro pins s σ H x y v u Q I rx ry h
  obtain ⟨a, b, xs, ys, rfl, rfl, ha, hb, hz, q0, q1, q2⟩ := h
  by_cases hy : ys = []
  · exact op_catA pins s σ H _ _ v u Q I rx ry ⟨a, b, xs, ys, rfl, rfl, ha, hb, hz, q0, q1, fun _ h => absurd hy h⟩
  · exact op_catF pins s σ H _ _ v u Q I rx ry ⟨a, b, xs, ys, rfl, rfl, ha, hb, hy, hz, q0, fun h => q2 h hy⟩
/-- t[i:j], followed with its object -/
def rSlG (K : PySem.W.Frag) : V → Option Int → Option Int → Hp → VK → Prop := fun x lo hi H Q => ∃ a xs, x = .ref a ∧ SqT K H a xs ∧
  (HT.sIx xs.length 0 lo = 0 ∧ HT.sIx xs.length xs.length hi = xs.length → Q (.ref a) H) ∧ (¬ (HT.sIx xs.length 0 lo = 0 ∧ HT.sIx xs.length xs.length hi = xs.length) → ∀ p o, H p = none → o.dict = none → Q (.ref p) (upd H p (.frz o (.tup (cutV xs lo hi)))))
theorem sl_tupG : SlR X (rSlG X.K) := by
  intro pins s σ H x v vl vu lo hi sl Q I rx hs pl pu h
  obtain ⟨a, xs, rfl, hx, q1, q2⟩ := h
  cases rx
  obtain ⟨its, r, ht, hz⟩ := I.tuple hx
  have hlen : its.toArray.size = xs.length := by rw [List.size_toArray]; exact r.length.symm
  refine ⟨"tuple", _, PyProof.Rows.slot_tuple_getitem.lookup, ht.typeIs, ?_⟩
  by_cases hw : HT.sIx xs.length 0 lo = 0 ∧ HT.sIx xs.length xs.length hi = xs.length
  · exact getItem_tuple_whole ht hs pl pu (by rw [hlen]; exact hw) ⟨.ref a, H, I, rfl, q1 hw⟩
  · refine HT.getItem_tuple_cut ht hs pl pu (by rw [hlen]; exact hw) ?_ (by rw [hlen]; exact hz)
    rw [hlen]
    refine ⟨.ref s.heap.objs.size, _, I.laid (t' := s.toks) (o := .frz { cls := .type "tuple", data := .seq (List.take (HT.sIx xs.length xs.length hi - HT.sIx xs.length 0 lo) (List.drop (HT.sIx xs.length 0 lo) its.toArray.toList)).toArray } (.tup (cutV xs lo hi))) (fun b ob q => Heap.get?_push_of_some _ q) (Nat.le_refl _) ?_, rfl, q2 hw _ _ (I.hok.fresh (Nat.le_refl _)) ?_⟩
    · exact ⟨Heap.get?_push_size _ rfl, Nat.le_trans (cutV_length xs lo hi) hz, _, (r.drop (HT.sIx xs.length 0 lo)).take (HT.sIx xs.length xs.length hi - HT.sIx xs.length 0 lo), IsTup.new _ _⟩
    · rfl
/-- t * k, k not 1, followed with its object -/
def rRepF (K : PySem.W.Frag) : R2 := fun x y H Q => ∃ l k xs, x = .ref l ∧ y = .int k ∧ SqT K H l xs ∧ xs ≠ [] ∧ 0 ≤ k ∧ k ≠ 1 ∧ k ≤ 4000 ∧ xs.length ≤ 100 ∧ ∀ p o, H p = none → o.dict = none → Q (.ref p) (upd H p (.frz o (.tup (List.replicate k.toNat xs).flatten)))
theorem op_repF : OpR X (binaryOp .Mult) (rRepF X.K) := by
  intro pins s σ H x y v u Q I rx ry h
  obtain ⟨l, k, xs, rfl, rfl, hT, hne, h1, e1, h2, hz, qn⟩ := h
  cases rx
  obtain ⟨t, rfl⟩ := ry
  obtain ⟨its, r, ⟨⟨cls, dd, data, sl⟩, ho, hc, n, hd⟩, hs⟩ := I.tuple hT
  simp only at hc hd
  subst hc hd
  have hle : its.length = xs.length := r.length.symm
  have hn : its ≠ [] := fun e => hne (by
    rw [e] at hle
    exact List.eq_nil_of_length_eq_zero hle.symm)
  have hi : its.toArray.isEmpty = false := by
    cases its with
    | nil => exact absurd rfl hn
    | cons a b => rfl
  have hsz0 : its.toArray.size = xs.length := by rw [List.size_toArray, hle]
  have c0 : (decide (k < -(2 ^ 63)) || decide (k ≥ 2 ^ 63)) = false := by
    rw [decide_eq_false (by omega), decide_eq_false (by omega)] <;> rfl
  have c1 : (its.toArray.isEmpty || k == 1) = false := by
    rw [hi, Bool.false_or]
    exact beq_eq_false_iff_ne.mpr e1
  by_cases e0 : k = 0
  · subst e0
    refine wpAny_binaryOp_repeat_ref (T := "tuple") (U := "int") (by decide) ⟨_, ho, rfl⟩ (fun s' => typeIs_int s' 0 t) noFill_tuple_mul F.fills_int_mul F.slot_int_rmul repeat_tuple F.slot_int_index.lookup
      (call_meets F.slot_int_rmul (typeIs_int s 0 t) F.entry_int_rmul (F.args_int_rmul_2 _ _) (int_rmul_tuple 0 t l its.toArray n dd sl)
        ⟨ho, rfl, ⟨_, ho, rfl⟩, call_meets F.slot_tuple_mul ⟨_, ho, rfl⟩ F.entry_tuple_mul (F.args_tuple_mul_2 _ _) (tuple_mul0 l its.toArray n dd sl 0 t c0 c1 rfl) ⟨ho, ?_⟩⟩)
    refine ⟨.ref s.heap.objs.size, _, I.laid (t' := s.toks) (o := .frz { cls := .type "tuple", data := .seq #[] } (.tup (List.replicate (0 : Int).toNat xs).flatten)) (fun b ob q => Heap.get?_push_of_some _ q) (Nat.le_refl _) ?_, rfl, qn _ _ (I.hok.fresh (Nat.le_refl _)) ?_⟩
    · exact ⟨Heap.get?_push_size _ rfl, by rw [sizeLine_eq]; exact Nat.zero_le _, [], .nil, IsTup.new _ _⟩
    · rfl
  · have hm : ((its.toArray.size : Nat) : Int) * k ≤ 400000 := by
      rw [hsz0]
      have a1 : ((xs.length : Nat) : Int) * k ≤ 100 * k := Int.mul_le_mul_of_nonneg_right (by omega) (by omega)
      omega
    have flen : (List.replicate k.toNat its).flatten.length ≤ sizeLine := by
      rw [PyProof.Rows.lm_len_rep_flat, hle, sizeLine_eq]
      have a1 : k.toNat * xs.length ≤ 4000 * 100 := Nat.mul_le_mul (by omega) hz
      omega
    have c2 : (decide (k ≤ 0) || its.toArray.isEmpty) = false := by
      rw [hi, Bool.or_false]
      exact decide_eq_false (by omega)
    have c4 : Builtin.Tuple.tupleTooMany (((its.toArray.size : Nat) : Int) * k) = false := by
      unfold Builtin.Tuple.tupleTooMany
      rw [sizeLine_eq]
      exact decide_eq_false (by omega)
    refine wpAny_binaryOp_repeat_ref (T := "tuple") (U := "int") (by decide) ⟨_, ho, rfl⟩ (fun s' => typeIs_int s' k t) noFill_tuple_mul F.fills_int_mul F.slot_int_rmul repeat_tuple F.slot_int_index.lookup
      (call_meets F.slot_int_rmul (typeIs_int s k t) F.entry_int_rmul (F.args_int_rmul_2 _ _) (int_rmul_tuple k t l its.toArray n dd sl)
        ⟨ho, rfl, ⟨_, ho, rfl⟩, call_meets F.slot_tuple_mul ⟨_, ho, rfl⟩ F.entry_tuple_mul (F.args_tuple_mul_2 _ _) (tuple_mulW l its.toArray n dd sl k t c0 c1 c2 (by omega) c4 (by rw [size_rep, List.size_toArray]; exact flen)) ⟨ho, ?_⟩⟩)
    rw [size_rep]
    refine ⟨.ref s.heap.objs.size, _, I.laid (t' := s.toks) (o := .frz { cls := .type "tuple", data := .seq (List.replicate k.toNat its).flatten.toArray } (.tup (List.replicate k.toNat xs).flatten)) (fun b ob q => Heap.get?_push_of_some _ q) (Nat.le_refl _) ?_, rfl, qn _ _ (I.hok.fresh (Nat.le_refl _)) ?_⟩
    · exact ⟨Heap.get?_push_size _ rfl, by rw [PyProof.Rows.lm_len_rep_flat, sizeLine_eq]; have a1 : k.toNat * xs.length ≤ 4000 * 100 := Nat.mul_le_mul (by omega) hz; omega, _, r.rep k.toNat, IsTup.new _ _⟩
    · rfl
/-- t * k, followed with its object -/
def rRepX (K : PySem.W.Frag) : R2 := fun x y H Q => ∃ l k xs, x = .ref l ∧ y = .int k ∧ SqT K H l xs ∧ xs ≠ [] ∧ 0 ≤ k ∧ k ≤ 4000 ∧ xs.length ≤ 100 ∧ (k = 1 → Q (.ref l) H) ∧ (k ≠ 1 → ∀ p o, H p = none → o.dict = none → Q (.ref p) (upd H p (.frz o (.tup (List.replicate k.toNat xs).flatten))))
theorem op_repX : OpR X (binaryOp .Mult) (rRepX X.K) := by
  intro pins s σ H x y v u Q I rx ry h
  obtain ⟨l, k, xs, rfl, rfl, hT, hne, h0, h1, h2, q1, q2⟩ := h
  by_cases e : k = 1
  · exact op_repG pins s σ H _ _ v u Q I rx ry ⟨l, k, xs, rfl, rfl, hT, hne, h0, h1, h2, q1, fun n => absurd e n⟩
  · exact op_repF pins s σ H _ _ v u Q I rx ry ⟨l, k, xs, rfl, rfl, hT, hne, h0, e, h1, h2, q2 e⟩
/-- l.extend(t), t a tuple -/
theorem list_extend_tupD (l : Addr) (items : Array Value) (n : Nat) (b : Addr) (items2 : Array Value) (n2 : Nat) (dd : Option Addr) (sl : Array (Option Value)) (hs0 : ¬(!items.isEmpty && Builtin.List.listTooLong (items.size + items2.size)) = true) (hs1 : items.size ≤ sizeLine) (hs2 : items.size + items2.size ≤ sizeLine + 1) :
    Meets (Builtin.«list.extend» ⟨[.ref l, .ref b], []⟩) (fun _ R s => s.heap.get? l = some { cls := .type "list", dict := none, data := .seq items n, slots := #[] } ∧ s.heap.get? b = some { cls := .type "tuple", dict := dd, data := .seq items2 n2, slots := sl } ∧ R (.ok (.ret Value.none)) { s with heap := s.heap.update l (Obj.mapSeq fun x => x ++ items2), toks := s.toks }) :=
  .of_wp fun prog w A R s h => by
    obtain ⟨hp, g, d, tk, os⟩ := s; obtain ⟨hl, hb, h⟩ := h; have f1 := AutoSeq1.idx_int; have f2 := AutoSeq1.sub_tuple_tuple; have f3 := AutoSeq1.sub_list_list; have f4 := AutoSeq1.sub_tuple_list; have f5 := AutoSeq1.sub_list_tuple;
    have hz' : (items ++ items2).size ≤ sizeLine + 1 := by rw [Array.size_append]; exact hs2
    wp_walk using (wpAny_updateSeq hl rfl (hz := hs1) (_hz' := hz')), wpAny_loadPart' hl, wpAny_loadPart' hb; exact ⟨_, rfl, h⟩
def rExtendT (K : PySem.W.Frag) : V → List V → Hp → VK → Prop := fun x vs H Q => ∃ l b xs zs, x = .ref l ∧ vs = [.ref b] ∧ H l = some (.lst xs) ∧ SqT K H b zs ∧ xs.length + zs.length ≤ sizeLine ∧ Q .non (upd H l (.lst (xs ++ zs)))
theorem mt_extendT : MtM X "list.extend" (rExtendT X.K) := by
  intro pins s σ H x vs v us Q I rx rv h
  obtain ⟨l, b, xs, zs, rfl, rfl, hH, hB, hz, q⟩ := h
  cases rx
  obtain ⟨u, rfl, ru⟩ := rv.one
  cases ru
  obtain ⟨z, its, n, r, hl, e⟩ := I.lstM hH
  obtain ⟨its2, r2, ⟨⟨cls, dd, data, sl⟩, e2, hc, n2, hd⟩, hl2⟩ := I.tuple hB
  simp only at hc hd
  subst hc hd
  have h2 := r2.length
  have h1 := r.length
  have hsz : its.toArray.size + its2.toArray.size ≤ sizeLine := by rw [List.size_toArray, List.size_toArray]; omega
  have hlong : ¬ (!its.toArray.isEmpty && Builtin.List.listTooLong (its.toArray.size + its2.toArray.size)) = true := by
    rw [notLongL hsz, Bool.and_false]
    exact Bool.false_ne_true
  refine call_meets F.slot_list_extend ⟨_, e, rfl⟩ F.entry_list_extend (F.args_list_extend_2 _ _)
    (list_extend_tupD l its.toArray n b its2.toArray n2 dd sl hlong (by rw [List.size_toArray]; omega) (by omega)) ⟨e, e2, ?_⟩
  refine ⟨.non, _, I.lset (its' := its ++ its2) hH e (by simp) (r.append r2) ?_, rfl, q⟩
  rw [List.length_append]
  omega
/-- l.count(True), l a list of bools -/
def eqbt (v : Value) : Bool := match v with
  | .bool b => b
  | _ => false
theorem eqbt_count : ∀ {ys : List Bool} {us : List Value}, Vals (ys.map V.bl) us → us.countP eqbt = ys.count true
  | [], _, .nil => rfl
  | y :: ys, _, .cons r rt => by
    cases r
    have ih := eqbt_count rt
    rw [List.countP_cons, List.count_cons, ih]
    cases y <;> rfl
theorem eqbt_at {A : Around} {s : Shared} : ∀ {ys : List Bool} {us : List Value}, Vals (ys.map V.bl) us → ∀ y ∈ us, SeqAt.EqAt A s y (.bool true) (eqbt y)
  | [], _, .nil, _, h => nomatch h
  | y :: ys, _, .cons r rt, u, h => by
    rcases List.mem_cons.mp h with e | e
    · subst e
      cases r
      have z := SeqAt.EqAt.bool_bool (A := A) (s := s) y true
      cases y <;> exact z
    · exact eqbt_at rt u e
def rCntB (K : PySem.W.Frag) : V → List V → Hp → VK → Prop := fun x xs H Q => ∃ (p : Addr) (ys : List Bool), x = .ref p ∧ xs = [.bl true] ∧ SqL K H p (ys.map V.bl) ∧ Q (.int (ys.count true : Nat)) H
theorem mt_bcount : MtR X "list.count" (rCntB X.K) := by
  intro pins s σ H x xs v us Q I rx rxs h
  obtain ⟨p, ys, rfl, rfl, hs, q⟩ := h
  cases rx
  obtain ⟨u, rfl, ru⟩ := rxs.one
  cases ru
  obtain ⟨its, rv, ⟨⟨cls, dd, data, sl⟩, n, ho, hc, hdn, hd⟩, hlen⟩ := I.list hs
  simp only at hc hd
  subst hc hd
  refine call_meets PySem.F.slot_list_count ⟨_, ho, rfl⟩ PySem.F.entry_list_count (PySem.F.args_list_count_2 _ _)
    (SeqAt.list_countAt p its.toArray n dd sl (.bool true) eqbt) ⟨ho, fun y hy => eqbt_at rv y (by simpa using hy), ?_⟩
  have ec : its.toArray.toList.countP eqbt = ys.count true := eqbt_count rv
  refine ⟨.int (ys.count true : Nat), H, I.tok _, ⟨s.toks, ?_⟩, q⟩
  show Value.int ((its.toArray.toList.countP eqbt : Nat) : Int) s.toks = Value.int ((ys.count true : Nat) : Int) s.toks
  rw [ec]
/-- l[i], by values -/
theorem get_list : PGet X (rIxL X.K) := by
  intro pins s σ H x y v u Q I rx ry h
  obtain ⟨p, xs, i, z, rfl, rfl, hq, he, q⟩ := h
  cases rx
  obtain ⟨t, rfl⟩ := ry
  obtain ⟨its, r, pl, hz⟩ := I.list hq
  obtain ⟨j, h1, h2, h3, h4, h5⟩ := atI_get he
  obtain ⟨w, ew, rw'⟩ := r.get h2
  have hl := r.length
  have hn := line63
  have fin : EP X pins σ Q w s := ⟨z, H, I, rw', q⟩
  by_cases h0 : 0 ≤ i
  · have hj : i.toNat = j := by
      rw [seqIndex_of h0 h5] at h1
      exact Option.some.inj h1
    exact wpAny_getItem_list pl.isList h0 (by omega) (by rw [hj]; simpa using ew) fin
  · have hj : (i + (its.toArray.size : Int)).toNat = j := by
      rw [seqIndex_neg (by omega) h4] at h1
      rw [List.size_toArray, ← hl]
      exact Option.some.inj h1
    exact wpAny_getItem_list_neg pl.isList (by omega) (by rw [List.size_toArray] <;> omega) (by omega) (by rw [hj]; simpa using ew) fin
/-- isinstance(e, c), e the exception that the suite holds, whatever it has in its dict -/
structure ExcD (K : PySem.W.Frag) (D : Addr) : Prop where
  c : ExcC K D
  cl : (PySem.W.clsIn K D).isSome = true
def rIsD (K : PySem.W.Frag) (a : Addr) (cls : Value) (d : Option Addr) : List V → Hp → VK → Prop := fun xs H Q => ∃ (D dd : Addr) (fs : List (Str × V)) (c : V) (cv : Value) (b : Bool), xs = [.ref a, c] ∧ cls = .ref D ∧ d = some dd ∧ H dd = some (.xd fs) ∧ ExcD K D ∧ (∀ u, RelV c u → u = cv) ∧ PySem.W.kitOne K (.ref D) cv = some b ∧ Q (.bl b) H
theorem call_isD {a : Addr} {oe : Obj} {cls : Value} {d : Option Addr} {pn : List (Addr × Obj)} (hz : Zc cls d oe) (hf : ∃ vs, oe.data = .fields vs) : CallR (X.suite a ((a, oe) :: pn)) (.builtin "isinstance") (rIsD X.K a cls d) := by
  intro pins s σ H xs us Q I r h
  obtain ⟨D, dd, fs, c, cv, b, rfl, ec, ed, ea, C, hcv, e, q⟩ := h
  subst ec ed
  cases r with
  | cons rx rr =>
    cases rr with
    | cons rt rr =>
      cases rr
      cases rx
      have ec := hcv _ rt
      subst ec
      obtain ⟨hget, _⟩ := I.pin (a, oe) (List.mem_append.mpr (.inl List.mem_cons_self))
      obtain ⟨vs, hv⟩ := hf
      obtain ⟨mA, hns, hr⟩ : ObjOk X.prog X.w H s.heap dd (.xd fs) := I.hok dd _ ea
      obtain ⟨od, ho, hl⟩ := lookIn_ns hns
      have J : PySem.W.InstAt s.heap a oe D (some od) := ⟨hget, hz.1, by unfold PySem.W.notCls; rw [hv] <;> rfl, by rw [hz.2]; exact ho⟩
      exact PySem.W.kia_one (PySem.W.kitx_exc C.cl C.c.hg C.c.hk C.c.hs C.c.ha C.c.hn C.c.ht C.c.hm) I.kIn J e (fun z => nomatch z) fun tk => ⟨.bl b, H, I.kept (t' := tk) fun _ _ z => z, rfl, q⟩
end
end L2
end
section
set_option Elab.async false
set_option linter.all false
set_option maxRecDepth 100000
set_option maxHeartbeats 2000000
set_option autoImplicit false
/-! The hook of HookX that also tells which own exception class is which, and what isinstance asks of them. -/
namespace Hx
open PySem PySem.Spec PyProof.Rows L2 He PySem.W
def exB (K : Frag) (C : Addr) : Bool := xfB K C && (eqO (findIn K (.ref C) "__class__") (some (some (.builtin "object.__class__"))) && (eqO (specialIn K (.builtin "object.__class__") "__get__") (some (some (.builtin "getset_descriptor.__get__"))) && (decide (takesIn K (.builtin "object.__class__") = some true) && (decide (mroIn K C (.type "object") = some true) && (clsIn K C).isSome))))
theorem exB_ok {K : Frag} {C : Addr} (h : exB K C = true) : ExcD K C := by
  unfold exB at h
  obtain ⟨h1, h⟩ := ba h
  obtain ⟨h2, h⟩ := ba h
  obtain ⟨h3, h⟩ := ba h
  obtain ⟨h4, h⟩ := ba h
  obtain ⟨h5, h6⟩ := ba h
  have f := xfB_ok h1
  exact ⟨⟨f.ga, f.gg, f.exC, f.hdC, eqO_ok h2, eqO_ok h3, of_decide_eq_true h4, of_decide_eq_true h5⟩, h6⟩
def yB (K : Frag) (base : Str) (ns : List Str) (x : Str) : Bool := exB K (ga K x) && (decide (kitOne K (.ref (ga K x)) (.type "ValueError") = some true) && (decide (exmOne K (.ref (ga K x)) (.ref (ga K base)) = some true) && ns.all fun y => decide (kitOne K (.ref (ga K x)) (.ref (ga K y)) = some (decide (x = y)))))
structure YFacts (K : Frag) (base : Str) (ns : List Str) (x : Str) : Prop where
  ex : ExcD K (ga K x)
  kv : kitOne K (.ref (ga K x)) (.type "ValueError") = some true
  me : exmOne K (.ref (ga K x)) (.ref (ga K base)) = some true
  ki : ∀ y ∈ ns, kitOne K (.ref (ga K x)) (.ref (ga K y)) = some (decide (x = y))
theorem yB_ok {K : Frag} {base : Str} {ns : List Str} {x : Str} (h : yB K base ns x = true) : YFacts K base ns x := by
  unfold yB at h
  obtain ⟨h1, h⟩ := ba h
  obtain ⟨h2, h⟩ := ba h
  obtain ⟨h3, h4⟩ := ba h
  exact ⟨exB_ok h1, of_decide_eq_true h2, of_decide_eq_true h3, fun y hy => of_decide_eq_true (List.all_eq_true.mp h4 y hy)⟩
/-- what can be reached in n steps, twice told where it is reached twice -/
def bfs (g : Addr → Option Obj) : Nat → List Addr → List Addr
  | 0, l => l
  | n + 1, l => l ++ bfs g n (l.flatMap fun a => match g a with
    | some o => refsD o
    | none => [])
def frY (n : Nat) (g : Addr → Option Obj) : Frag := frG g (bfs g n [mainGlobals] ++ [cStatics])
abbrev AlY : Type := (AlD × (Bool × List XV)) × Bool
def obsY (file : Str) (n : Nat) (fa : List Fa) (fn : List DefD) (xs : List XDef) (base : Str) (ns : List Str) (g : Addr → Option Obj) : AlY :=
  ((obsD fa fn (frY n g), (xs.all fun d => d.ok file (frY n g), xs.map fun d => xvOf (frY n g) d.x)), ns.all fun x => yB (frY n g) base ns x)
def hookY (file : Str) (n : Nat) (fa : List Fa) (fn : List DefD) (xs : List XDef) (base : Str) (ns : List Str) : PySem.W.Hook where
  α := AlY
  obs := fun s => obsY file n fa fn xs base ns s.heap.get?
  val := fun _ => ((valD fn, (true, xs.map XDef.val)), true)
  says := fun _ h => ∃ K : Frag, K.In h ∧ SaysD fa fn K ∧ (xs.all fun d => d.ok file K) = true ∧ (xs.map fun d => xvOf K d.x) = xs.map XDef.val ∧ (ns.all fun x => yB K base ns x) = true
  of := fun _ _ e => ⟨_, frG_in, congrArg (fun z : AlY => z.1.1) e, congrArg (fun z : AlY => z.1.2.1) e, congrArg (fun z : AlY => z.1.2.2) e, congrArg (fun z : AlY => z.2) e⟩
  keeps := fun _ _ _ ⟨K, hK, c⟩ k => ⟨K, PySem.W.Frag.In.keeps hK k, c⟩
theorem obsY_eq {file : Str} {n : Nat} {fa : List Fa} {fn : List DefD} {xs : List XDef} {base : Str} {ns : List Str} {g : Addr → Option Obj} {s : Shared} (h : ∀ a, g a = s.heap.get? a) : obsY file n fa fn xs base ns g = (hookY file n fa fn xs base ns).obs s := by
  have e : g = s.heap.get? := funext h
  rw [e] <;> rfl
end Hx
end
section
set_option Elab.async false
set_option linter.all false
set_option maxRecDepth 100000
set_option maxHeartbeats 2000000
set_option autoImplicit false
namespace Sh
open PySem PySem.Spec PyProof.Rows L2
open C8 (pss_cut tCut)
open Evl (ixN_nat)
structure Bk (mg : Str → Option Value) : Prop extends Bl mg where
  b_zip : mg "zip" = none
  b_ValueError : mg "ValueError" = none
  c_HOLE : ∃ t, mg "HOLE" = some (.str "*" t)
def sV (l : List Str) : List V := l.map V.str
/-- the number of branches of a kind; 0 of what is no kind -/
def wR (rows : List Row) (z : Str) : Nat := match rows.find? (fun q => decide (q.1 = z)) with
  | some q => q.2.toNat
  | none => 0
/-- .. or -1 -/
def nmO (rows : List Row) (z : Str) : Int := match rows.find? (fun q => decide (q.1 = z)) with
  | some q => q.2
  | none => -1
theorem find_wL (rows : List Row) (z : Str) : valV (wL rows) (.inr z) = (rows.find? (fun q => decide (q.1 = z))).map fun q => V.int q.2 := by
  unfold valV wL
  rw [List.find?_map]
  have e : ((fun kv : Key × V => decide (kv.1 = Sum.inr z)) ∘ fun q : Row => ((.inr q.1 : Key), V.int q.2)) = fun q => decide (q.1 = z) := by
    funext q
    exact key_rr q.1 z
  rw [e, Option.map_map]
  rfl
theorem nm_case {rows : List Row} {m : Int} (R : ROk m rows) (z : Str) : (nmO rows z = -1 ∧ wR rows z = 0 ∧ valV (wL rows) (.inr z) = none ∧ ∀ q ∈ rows, q.1 ≠ z) ∨ (nmO rows z = ((wR rows z : Nat) : Int) ∧ wR rows z ≤ 3 ∧ valV (wL rows) (.inr z) = some (.int ((wR rows z : Nat) : Int)) ∧ ∃ q ∈ rows, q.1 = z) := by
  rw [find_wL]
  unfold nmO wR
  cases hf : rows.find? (fun q => decide (q.1 = z)) with
  | none => exact .inl ⟨rfl, rfl, rfl, fun q hq e => absurd (List.find?_eq_none.mp hf q hq) (by simp [e])⟩
  | some q =>
    have hm := List.mem_of_find?_eq_some hf
    have wd := R.wd q hm
    have e : ((q.2.toNat : Nat) : Int) = q.2 := by omega
    exact .inr ⟨e.symm, by show q.2.toNat ≤ 3; omega, by rw [Option.map_some]; show some (V.int q.2) = some (V.int ((q.2.toNat : Nat) : Int)); rw [e], q, hm, by have hp := List.find?_some hf; exact of_decide_eq_true hp⟩
theorem wR_le {rows : List Row} {m : Int} (R : ROk m rows) (z : Str) : wR rows z ≤ 3 := by
  rcases nm_case R z with h | h <;> omega
theorem get_wL {rows : List Row} {m : Int} (R : ROk m rows) (z : Str) : (valV (wL rows) (.inr z)).getD (.int 0) = .int ((wR rows z : Nat) : Int) := by
  rcases nm_case R z with h | h
  · rw [h.2.2.1, h.2.1]
    rfl
  · rw [h.2.2.1]
    rfl
theorem nm_nat {rows : List Row} {m : Int} (R : ROk m rows) (z : Str) : (nmO rows z).toNat = wR rows z := by
  rcases nm_case R z with h | h
  · rw [h.1, h.2.1]
    rfl
  · rw [h.1]
    exact Int.toNat_natCast _
theorem nm_of {rows : List Row} {m : Int} (R : ROk m rows) {z : Str} (h : ∃ q ∈ rows, q.1 = z) : nmO rows z = ((wR rows z : Nat) : Int) := by
  rcases nm_case R z with q | q
  · obtain ⟨x, hx, e⟩ := h
    exact absurd e (q.2.2.2 x hx)
  · exact q.1
theorem wR_mem {rows : List Row} {m : Int} (R : ROk m rows) {z : Str} (h : ∃ q ∈ rows, q.1 = z) : ∃ q ∈ rows, q.1 = z ∧ rows.find? (fun q => decide (q.1 = z)) = some q ∧ ((wR rows z : Nat) : Int) = q.2 ∧ wR rows z ≤ 3 := by
  obtain ⟨q, hq, e⟩ := h
  cases hf : rows.find? (fun q => decide (q.1 = z)) with
  | none => exact absurd (List.find?_eq_none.mp hf q hq) (by simp [e])
  | some q2 =>
    have hm := List.mem_of_find?_eq_some hf
    have hp := List.find?_some hf
    have wd := R.wd q2 hm
    have ew : wR rows z = q2.2.toNat := by unfold wR; rw [hf]
    exact ⟨q2, hm, of_decide_eq_true hp, rfl, by rw [ew]; omega, by rw [ew]; omega⟩
theorem val_wL {rows : List Row} {m : Int} (R : ROk m rows) {z : Str} (h : ∃ q ∈ rows, q.1 = z) : valV (wL rows) (.inr z) = some (.int ((wR rows z : Nat) : Int)) := by
  obtain ⟨q, _, _, hf, e, _⟩ := wR_mem R h
  rw [find_wL, hf, e]
  rfl
structure PlantOk (rows : List Row) (l : List Str) : Prop where
  f : Mth.forest (wR rows) l 1 = true
  k : ∀ z ∈ l, ∃ q ∈ rows, q.1 = z
  sz : l.length ≤ 2000
theorem PlantOk.pos {rows : List Row} {l : List Str} (x : PlantOk rows l) : 0 < l.length := List.length_pos_iff.mpr (Mth.forest_pos _ x.f)
/-- a stump -/
structure StumpOk (rows : List Row) (l : List Str) : Prop where
  f : Mth.forest (wR rows) l 1 = true
  k : ∀ z ∈ l, z = "*" ∨ ∃ q ∈ rows, q.1 = z
  sz : l.length ≤ 2000
theorem StumpOk.pos {rows : List Row} {l : List Str} (x : StumpOk rows l) : 0 < l.length := List.length_pos_iff.mpr (Mth.forest_pos _ x.f)
/-- the least place at which a row stops being one -/
def wO (rows : List Row) (hole : Bool) (z : Str) : Option Nat := if hole = true ∧ z = "*" then some 0 else if nmO rows z < 0 then none else some (wR rows z)
def fl (f : Str → Option Nat) : List Str → Nat → Nat → Option Nat
  | [], 0, _ => none
  | [], _ + 1, i => some i
  | _ :: _, 0, i => some i
  | z :: r, n + 1, i => match f z with
    | none => some i
    | some k => fl f r (n + k) (i + 1)
def fault (rows : List Row) (hole : Bool) (l : List Str) : Option Nat := fl (wO rows hole) l 1 0
theorem fl_ok {f : Str → Option Nat} {w : Str → Nat} : ∀ {l : List Str} {n i : Nat}, (∀ z k, f z = some k → w z = k) → fl f l n i = none → Mth.forest w l n = true ∧ ∀ z ∈ l, (f z).isSome = true
  | [], 0, _, _, _ => ⟨rfl, fun _ h => nomatch h⟩
  | [], _ + 1, _, _, h => nomatch h
  | _ :: _, 0, _, _, h => nomatch h
  | z :: r, n + 1, i, hw, h => by
    unfold fl at h
    cases e : f z with
    | none => rw [e] at h; cases h
    | some k =>
      rw [e] at h
      obtain ⟨h1, h2⟩ := fl_ok hw h
      refine ⟨?_, fun y hy => ?_⟩
      · unfold Mth.forest
        rw [hw z k e, Nat.add_comm]
        exact h1
      · rcases List.mem_cons.mp hy with q | q
        · rw [q, e]; rfl
        · exact h2 y q
theorem fl_le {f : Str → Option Nat} : ∀ {l : List Str} {n i j : Nat}, fl f l n i = some j → j ≤ i + l.length
  | [], 0, _, _, h => nomatch h
  | [], _ + 1, i, j, h => by cases h; exact Nat.le_refl _
  | _ :: _, 0, i, j, h => by cases h; omega
  | z :: r, n + 1, i, j, h => by
    unfold fl at h
    rw [List.length_cons]
    cases e : f z with
    | none => rw [e] at h; cases h; omega
    | some k => rw [e] at h; have := fl_le h; omega
theorem nm_star {rows : List Row} {m : Int} (R : ROk m rows) : nmO rows "*" = -1 := by
  rcases nm_case R "*" with q | q
  · exact q.1
  · obtain ⟨_, _, _, x, hx, e⟩ := q
    have n := (R.nm x hx).2.2 42 (by rw [e]; decide +kernel)
    omega
theorem wO_w {rows : List Row} {m : Int} (R : ROk m rows) {hole : Bool} {z : Str} {k : Nat} (h : wO rows hole z = some k) : wR rows z = k := by
  unfold wO at h
  split at h
  · rename_i c
    cases h
    rw [c.2]
    have star := nm_star R
    rcases nm_case R "*" with q | q
    · exact q.2.1
    · omega
  · split at h
    · cases h
    · cases h
      rfl
end Sh
end
section
set_option Elab.async false
set_option linter.all false
set_option maxRecDepth 100000
set_option maxHeartbeats 2000000
set_option autoImplicit false
namespace Sh
open PySem PySem.Spec PyProof.Rows L2
open C8 (pss_cut tCut)
open Evl (ixN_nat)
theorem str_at {l : List Str} {j : Nat} {z : Int} (h : j < l.length) (e : z = (j : Int)) : atI (l.map V.str) z = some (.str l[j]) := at_ofG e (by rw [List.getElem?_map, List.getElem?_eq_getElem h]; rfl)
theorem int_at {l : List Int} {j : Nat} {z x : Int} (h : l[j]? = some x) (e : z = (j : Int)) : atI (l.map V.int) z = some (.int x) := at_ofG e (by rw [List.getElem?_map, h]; rfl)
theorem ixz {n : Nat} {z : Int} {j : Nat} (h : j < n) (e : z = (j : Int)) : ixN n z = some j := by
  rw [e]
  exact ixN_nat h
theorem RowsAt.same {H H' : Hp} {r : Addr} {rows : List Row} (x : RowsAt H r rows) (s : Same H H') : RowsAt H' r rows := by
  obtain ⟨ts, a, b⟩ := x
  exact ⟨ts, s _ _ a, b.keep (TK.of_same s)⟩
/-! ### what may be raised -/
structure XA where
  T : Addr
  P : Addr
  S : Addr
  N : Addr
  U : Addr
  W : Addr
inductive Ex where
  | many
  | plant (i : Nat)
  | stump (i : Nat)
  | path (a : Addr)
  | kind (z : Str)
  | wrong (i j : Nat)
def Ex.cls (A : XA) : Ex → Addr
  | .many => A.T
  | .plant _ => A.P
  | .stump _ => A.S
  | .path _ => A.N
  | .kind _ => A.U
  | .wrong _ _ => A.W
def tmF : List (Str × V) := xfs ["what", "limit"] [.str "knots", .int 2000] []
def Ex.fs : Ex → List (Str × V)
  | .many => tmF
  | .plant i => xfs ["place"] [.int (i : Nat)] []
  | .stump i => xfs ["place"] [.int (i : Nat)] []
  | .path a => xfs ["path"] [.ref a] []
  | .kind z => xfs ["kind"] [.str z] []
  | .wrong i j => xfs ["wanted", "given"] [.int (i : Nat), .int (j : Nat)] []
def tmP : List V → Prop := fun vs => vs = [.str "knots", .int 2000]
def plP : List V → Prop := fun vs => ∃ i : Nat, vs = [.int (i : Nat)] ∧ i ≤ 10000
def npP : List V → Prop := fun vs => ∃ a, vs = [.ref a]
/-- a drawn word: short, of code points that are ones -/
def Kin (z : Str) : Prop := z.length ≤ 100 ∧ ∀ c ∈ z.cps.toList, c < 16 ^ 8
def ukP : List V → Prop := fun vs => ∃ z : Str, vs = [.str z] ∧ Kin z
def wrP : List V → Prop := fun vs => ∃ i j : Nat, vs = [.int (i : Nat), .int (j : Nat)] ∧ i ≤ 10000 ∧ j ≤ 10000
structure XS (P : Program) (w : World) (K : PySem.W.Frag) (mg : Str → Option Value) (A : XA) : Prop where
  xT : PySem.SupX.SupCls P w K mg "TooMany" A.T ["what", "limit"] tmP
  xS : PySem.SupX.SupCls P w K mg "InvalidStump" A.S ["place"] plP
  xU : PySem.SupX.SupCls P w K mg "UnknownKind" A.U ["kind"] ukP
/-- what is wanted where x is raised -/
def Rz (A : XA) (E : XK) (H : Hp) (x : Ex) : Prop := ∀ H' d, Same H H' → H' d = none → E (.ref (x.cls A)) (some d) (upd H' d (.xd x.fs))
theorem Rz.same {A : XA} {E : XK} {H H1 : Hp} {x : Ex} (h : Rz A E H x) (s : Same H H1) : Rz A E H1 x := fun H' d s' hd => h H' d (s.trans s') hd
def due (rows : List Row) (hole : Bool) (l : List Str) : Option Ex := if 2000 < l.length then some .many else (fault rows hole l).map (if hole = true then Ex.stump else Ex.plant)
/-- either way -/
def Way (A : XA) (E : XK) (H : Hp) (o : Option Ex) (ok : Prop) : Prop := match o with
  | none => ok
  | some x => Rz A E H x
theorem wO_some {rows : List Row} {m : Int} (R : ROk m rows) {hole : Bool} {z : Str} (h : (wO rows hole z).isSome = true) : (hole = true ∧ z = "*") ∨ ∃ q ∈ rows, q.1 = z := by
  unfold wO at h
  split at h
  · exact .inl ‹_›
  · rename_i c
    split at h
    · cases h
    · rename_i c2
      rcases nm_case R z with q | q
      · omega
      · exact .inr q.2.2.2
theorem due_plant {rows : List Row} {m : Int} (R : ROk m rows) {l : List Str} (h : due rows false l = none) : PlantOk rows l := by
  unfold due at h
  split at h
  · cases h
  · rename_i c
    have e : fault rows false l = none := by
      cases e : fault rows false l with
      | none => rfl
      | some i => rw [e] at h; cases h
    obtain ⟨h1, h2⟩ := fl_ok (w := wR rows) (fun z k q => wO_w R q) e
    exact ⟨h1, fun z hz => by rcases wO_some R (h2 z hz) with q | q; exact absurd q.1 (by decide); exact q, by omega⟩
theorem due_stump {rows : List Row} {m : Int} (R : ROk m rows) {l : List Str} (h : due rows true l = none) : StumpOk rows l := by
  unfold due at h
  split at h
  · cases h
  · rename_i c
    have e : fault rows true l = none := by
      cases e : fault rows true l with
      | none => rfl
      | some i => rw [e] at h; cases h
    obtain ⟨h1, h2⟩ := fl_ok (w := wR rows) (fun z k q => wO_w R q) e
    exact ⟨h1, fun z hz => by rcases wO_some R (h2 z hz) with q | q; exact .inl q.2; exact .inr q, by omega⟩
def lvs (hole : Bool) : List V := if hole = true then [.str "*"] else []
def spSize (K : PySem.W.Frag) (CT : Addr) : Sp := fun vs H Q E => ∃ (t : Addr) (xs : List V), vs = [.ref t] ∧ (SqL K H t xs ∨ SqT K H t xs) ∧ (xs.length ≤ 2000 → Q .non H) ∧ (2000 < xs.length → ∀ d, H d = none → E (.ref CT) (some d) (upd H d (.xd tmF)))
def ansF : Option Nat → V
  | none => .non
  | some i => .int (i : Nat)
def spFault (C : Addr) : Sp := fun vs H Q _ => ∃ (b t e : Addr) (rows : List Row) (l : List Str) (hole : Bool), vs = [.ref b, .ref t, .ref e] ∧ BedAt C H b rows ∧ ROk 8 rows ∧ Tq H t (sV l) ∧ l.length ≤ 6000 ∧ Tq H e (lvs hole) ∧ ∀ H', Same H H' → Q (ansF (fault rows hole l)) H'
/-- a check of a row -/
def spChk (C : Addr) (A : XA) (hole : Bool) : Sp := fun vs H Q E => ∃ (b t : Addr) (rows : List Row) (l : List Str), vs = [.ref b, .ref t] ∧ BedAt C H b rows ∧ ROk 8 rows ∧ Tq H t (sV l) ∧ l.length ≤ 6000 ∧ Way A E H (due rows hole l) (∀ H', Same H H' → Q .non H')
abbrev s_fault_place : Stmt := top 24
abbrev N_fault_place : List Str := ["bed", "entries", "leaves", "missing", "place", "entry"]
theorem sc_fault_place : FnScope N_fault_place ["bed", "entries", "leaves"] (defScope s_fault_place) := ⟨rfl, rfl, rfl, by decide +kernel, rfl, by decide +kernel, by decide +kernel⟩
section
variable {P : Program} {w : World} {K : PySem.W.Frag} {mg : Str → Option Value} {base : Heap} {C : Addr} {A : XA}
theorem ok_fault_place (T : Bk mg) (B : BedT K C) (D : Def0 K mg "fault_place" s_fault_place) : DefOk P w K mg base CX0 1 "fault_place" (spFault C) := by
  refine D.ok sc_fault_place (fun vs H Q E h => ?_) (fun _ _ _ _ _ _ us hl => match us, hl with | [_, _, _], _ => rfl) (fun f cdv A outer s H vs Q E hr h => ?_)
  · obtain ⟨b, t, e, rows, l, hole, rfl, _⟩ := h
    rfl
  · obtain ⟨b, t, lv, rows, l, hole, rfl, hB, R, ht, hsz, he, k⟩ := h
    have hu := hu_of hr
    refine ⟨_, (pss_cons (ps_set (i := 3) sc_fault_place.nd rfl (Or.inl rfl) pe_int)
      (pss_cons (ps_for PassesOwn.never rfl (pi_enumT (by rfl) T.b_enumerate (pa_cons (pv 1) pa_nil)) (pg_tup (by rfl) (pgs_cons (pg_name (i := 4) sc_fault_place.nd rfl (Or.inl rfl)) (pgs_cons (pg_name (i := 5) sc_fault_place.nd rfl (Or.inl rfl)) pgs_nil)))
        (pss_cons (ps_if (pt_cmpR op_eq (pv 3) pe_int (nomark _))
          (pss_one (ps_ret (pv 4)))
          pss_nil)
        (pss_one (ps_if (pt_cmpR op_in_seq (pv 5) (pv 2) (by rfl))
          (pss_one (ps_set (i := 3) sc_fault_place.nd rfl (Or.inl rfl) (pe_op op_sub (pv 3) pe_int)))
          (pss_one (ps_if (pt_cmp (pc_din hu (pv 5) (pe_fld (pv 0) rfl)))
            (pss_one (ps_set (i := 3) sc_fault_place.nd rfl (Or.inl rfl) (pe_op op_add (pe_op op_sub (pv 3) pe_int) (pe_dget hu (pe_fld (pv 0) rfl) (pv 5) (fun _ _ => rfl)))))
            (pss_one (ps_ret (pv 4)))))))))
      (pss_one (ps_ret (pe_ifExp (pt_cmpR op_eq (pv 3) pe_int (nomark _)) pe_non (pe_callB call_len_seq (by rfl) T.b_len boot_len (pa_cons (pv 1) pa_nil))))))), ?_⟩
    refine ⟨_, rfl, t, _, rfl, ht.sq, for_it (walk_enumT (xs := sV l)) (fun i σ H' => ∃ (x y : Option V) (n : Nat), σ = [some (.ref b), some (.ref t), some (.ref lv), some (.int (n : Nat)), x, y] ∧ Same H H' ∧ fl (wO rows hole) (l.drop i) n i = fault rows hole l)
      ⟨none, none, 1, rfl, Same.refl H, rfl⟩ (fun i σ H' _ ⟨_, _, _, _, q, _⟩ => (ht.same q).sq) ?_ ?_⟩
    · rintro i v σ H1 H2 hi ⟨x, y, n, rfl, s1, hf⟩ ⟨P1, v1, v2, rfl, hP1, rfl, e1, e2⟩
      have hil : i < l.length := by unfold sV at hi; rw [List.length_map] at hi; exact hi
      cases e1
      have e2' : (l.map V.str)[i]? = some v2 := e2
      rw [List.getElem?_map, List.getElem?_eq_getElem hil] at e2'
      cases e2'
      have s2 := s1.upd_new (o := .tup [.int ((i : Nat) : Int), .str l[i]]) hP1
      rw [List.drop_eq_getElem_cons hil] at hf
      obtain ⟨dx, r, kk, ww, rk, ts, h1, h2, h3, h4, h5, h6⟩ := hB.same s2
      refine ⟨P1, _, rfl, SqT.of upd_same, rfl, _, _, rfl, _, _, rfl, rfl, ?_⟩
      refine ⟨_, rfl, rfl, _, rfl, ite2 (fun e => ?_) (fun e => ?_)⟩
      · have z := V.int.inj (of_decide_eq_true e)
        have z2 : n = 0 := by omega
        subst z2
        have q : some i = fault rows hole l := hf
        have k2 := k _ s2
        rw [← q] at k2
        exact ⟨_, rfl, k2⟩
      · obtain ⟨m, rfl⟩ : ∃ m, n = m + 1 := ⟨n - 1, by
          have : n ≠ 0 := fun q => e (by rw [q]; exact decide_eq_true rfl)
          omega⟩
        have hf2 : (match wO rows hole l[i] with | none => some i | some k => fl (wO rows hole) (l.drop (i + 1)) (m + k) (i + 1)) = fault rows hole l := hf
        have ein : inV (.str l[i]) (lvs hole) = decide (hole = true ∧ l[i] = "*") := by
          cases hole
          · simp [lvs]
            rfl
          · show inV (.str l[i]) ([("*" : Str)].map V.str) = _
            rw [inV_str]
            simp
        refine ⟨_, rfl, _, rfl, lv, _, rfl, .inr ((he.same s2).sq), rfl, (by cases hole <;> rfl), _, rfl, ?_⟩
        rw [ein]
        refine ite2 (fun c => ?_) (fun c => ?_)
        · have c2 := of_decide_eq_true c
          unfold wO at hf2
          rw [if_pos c2] at hf2
          refine ⟨_, rfl, _, _, rfl, rfl, some (.int ((i : Nat) : Int)), some (.str l[i]), m, ?_, s2, hf2⟩
          rw [show ((m : Nat) : Int) = ((m + 1 : Nat) : Int) - 1 by omega]
          rfl
        · have c2 : ¬ (hole = true ∧ l[i] = "*") := fun q => c (decide_eq_true q)
          refine ⟨_, rfl, _, rfl, b, C, dx, _, _, rfl, h1, B.cl, B.nW, lk_widths _ _ _ _, ww, _, rfl, DGet.k (k := .inr l[i]) h5, _, rfl, ?_⟩
          rcases nm_case R l[i] with q | q
          · rw [q.2.2.1]
            refine ifn (by decide) ?_
            unfold wO at hf2
            rw [if_neg c2, if_pos (show nmO rows l[i] < 0 by omega)] at hf2
            have k2 := k _ s2
            rw [← hf2] at k2
            exact ⟨_, rfl, k2⟩
          · rw [q.2.2.1]
            refine ifp rfl ?_
            unfold wO at hf2
            rw [if_neg c2, if_neg (show ¬ nmO rows l[i] < 0 by omega)] at hf2
            refine ⟨_, rfl, _, _, rfl, rfl, _, rfl, b, C, dx, _, _, rfl, h1, B.cl, B.nW, lk_widths _ _ _ _, _, rfl, ww, _, rfl, (by rw [← q.2.2.1]; exact DGet.k (k := .inr l[i]) h5), _, _, rfl, rfl, ?_⟩
            refine ⟨some (.int ((i : Nat) : Int)), some (.str l[i]), m + wR rows l[i], ?_, s2, hf2⟩
            rw [show ((m + wR rows l[i] : Nat) : Int) = ((m + 1 : Nat) : Int) - 1 + ((wR rows l[i] : Nat) : Int) by omega]
            rfl
    · rintro σ H1 ⟨x, y, n, rfl, s1, hf⟩
      have el : (sV l).length = l.length := by simp [sV]
      rw [el, List.drop_length] at hf
      have k2 := k _ s1
      cases n with
      | zero =>
        have q : none = fault rows hole l := hf
        rw [← q] at k2
        exact ⟨_, rfl, rfl, _, rfl, ifp (by simp) k2⟩
      | succ m =>
        have q : some l.length = fault rows hole l := hf
        rw [← q] at k2
        refine ⟨_, rfl, rfl, _, rfl, ifn (fun c => ?_) ⟨_, rfl, t, _, rfl, .inr ((ht.same s1).sq), ?_⟩⟩
        · have := V.int.inj (of_decide_eq_true c)
          omega
        · rw [el]
          exact k2
theorem fault_le {rows : List Row} {hole : Bool} {l : List Str} {i : Nat} (h : fault rows hole l = some i) : i ≤ l.length := by
  have := fl_le h
  omega
end
end Sh
end
section
set_option Elab.async false
set_option linter.all false
set_option maxRecDepth 100000
set_option maxHeartbeats 2000000
set_option autoImplicit false
namespace Mth
/-- the starts of the first n branches above p -/
def starts {α : Type} (w : α → Nat) (l : List α) (p n : Nat) : List Int := (List.range n).map fun j => ((nxs w l (p + 1) j : Nat) : Int)
theorem starts_len {α : Type} (w : α → Nat) (l : List α) (p n : Nat) : (starts w l p n).length = n := by simp [starts]
theorem starts_succ {α : Type} (w : α → Nat) (l : List α) (p n : Nat) : starts w l p (n + 1) = starts w l p n ++ [((nxs w l (p + 1) n : Nat) : Int)] := by
  simp [starts, List.range_succ]
theorem starts_get {α : Type} (w : α → Nat) (l : List α) (p : Nat) {n j : Nat} (h : j < n) : (starts w l p n)[j]? = some ((nxs w l (p + 1) j : Nat) : Int) := by
  simp [starts, h]
theorem kids_drop (p : List Nat) {n j : Nat} (h : j < n) : (kids p n).drop (n - (j + 1)) = (p ++ [n - 1 - j]) :: (kids p n).drop (n - j) := by
  have e : n - (j + 1) < (kids p n).length := by rw [kids_len]; omega
  rw [List.drop_eq_getElem_cons e, show n - (j + 1) + 1 = n - j by omega]
  have q := kids_get (p := p) (n := n) (t := n - 1 - j) (by omega)
  rw [show n - 1 - j = n - (j + 1) by omega, List.getElem?_eq_getElem e] at q
  rw [Option.some.inj q, show n - 1 - j = n - (j + 1) by omega]
theorem forest_le {α : Type} (w : α → Nat) : ∀ (l : List α) (n : Nat), forest w l n = true → n ≤ l.length
  | [], n, h => by rw [forest_nil w h]; exact Nat.le_refl _
  | k :: r, 0, _ => Nat.zero_le _
  | k :: r, n + 1, h => by
    have q := forest_le w r (w k + n) h
    rw [List.length_cons]
    omega
theorem stk_le {α : Type} (w : α → Nat) {l : List α} (h : forest w l 1 = true) {i : Nat} (hi : i ≤ l.length) : (stk w l i).length ≤ l.length := by
  have q := forest_le w _ _ (stk_len w h i hi).2
  rw [List.length_drop] at q
  omega
theorem stk_dep {α : Type} (w : α → Nat) {l : List α} (h : forest w l 1 = true) : ∀ i, i ≤ l.length → ∀ p ∈ stk w l i, p.length ≤ i
  | 0, _, p, hp => by
    have e : p = [] := List.mem_singleton.mp hp
    rw [e]
    exact Nat.le_refl 0
  | i + 1, hi, p, hp => by
    obtain ⟨st, e1, e2⟩ := stk_step w h (i := i) (by omega)
    have ih := stk_dep w h i (by omega)
    rw [e2] at hp
    rcases List.mem_append.mp hp with q | q
    · unfold kids at q
      obtain ⟨j, _, rfl⟩ := List.mem_map.mp q
      have z := ih (pth w l i) (by rw [e1]; exact List.mem_cons_self)
      rw [List.length_append]
      exact Nat.succ_le_succ z
    · have z := ih p (by rw [e1]; exact List.mem_cons_of_mem _ q)
      omega
theorem pth_dep {α : Type} (w : α → Nat) {l : List α} (h : forest w l 1 = true) {i : Nat} (hi : i < l.length) : (pth w l i).length ≤ i := by
  obtain ⟨st, e1, e2⟩ := stk_step w h hi
  exact stk_dep w h i (Nat.le_of_lt hi) _ (by rw [e1]; exact List.mem_cons_self)
end Mth
namespace Sh
open PySem PySem.Spec PyProof.Rows L2
open C8 (pss_cut tCut)
open Evl (ixN_nat)
structure WfOk (rows : List Row) (l : List Str) : Prop where
  f : Mth.forest (wR rows) l 1 = true
  sz : l.length ≤ 2000
theorem PlantOk.wf {rows : List Row} {l : List Str} (x : PlantOk rows l) : WfOk rows l := ⟨x.f, x.sz⟩
theorem StumpOk.wf {rows : List Row} {l : List Str} (x : StumpOk rows l) : WfOk rows l := ⟨x.f, x.sz⟩
/-- a list of the ends -/
def EndsAt (H : Hp) (p : Addr) (rows : List Row) (l : List Str) : Prop := H p = some (.lst ((Mth.ends (wR rows) l).map V.int))
def spEnds (C : Addr) : Sp := fun vs H Q _ => ∃ (b t : Addr) (rows : List Row) (l : List Str), vs = [.ref b, .ref t] ∧ BedAt C H b rows ∧ ROk 8 rows ∧ Tq H t (l.map V.str) ∧ WfOk rows l ∧ ∀ H' p, Same H H' → H p = none → EndsAt H' p rows l → Q (.ref p) H'
theorem row_at {rows : List Row} {m : Int} (R : ROk m rows) {i : Nat} (h : i < rows.length) : ((wR rows (rows[i]).1 : Nat) : Int) = (rows[i]).2 := by
  obtain ⟨q, hq, e, hf, ew, _⟩ := wR_mem R ⟨rows[i], List.getElem_mem h, rfl⟩
  obtain ⟨j, hj, ej⟩ := List.mem_iff_getElem.mp hq
  have h1 : (rows.map (·.1))[j]'(by rw [List.length_map]; exact hj) = (rows.map (·.1))[i]'(by rw [List.length_map]; exact h) := by
    rw [List.getElem_map, List.getElem_map, ej, e]
  have e2 := (List.getElem_inj R.nd).mp h1
  subst e2
  rw [ew, ← ej]
/-- tuples of what f says -/
def TsAt {α : Type} (f : α → List V) (H : Hp) (ts : List Addr) (xs : List α) : Prop := ts.length = xs.length ∧ ∀ (i : Nat) (t : Addr) (x : α), ts[i]? = some t → xs[i]? = some x → Tq H t (f x)
theorem TsAt.keep {α : Type} {f : α → List V} {H H' : Hp} {ts : List Addr} {xs : List α} (x : TsAt f H ts xs) (k : TQ H H') : TsAt f H' ts xs := ⟨x.1, fun i t q a b => k _ _ (x.2 i t q a b)⟩
theorem TsAt.nil {α : Type} {f : α → List V} {H : Hp} : TsAt f H [] [] := ⟨rfl, fun i t x a => by simp at a⟩
theorem TsAt.snoc {α : Type} {f : α → List V} {H : Hp} {ts : List Addr} {xs : List α} {t : Addr} {q : α} (x : TsAt f H ts xs) (h : Tq H t (f q)) : TsAt f H (ts ++ [t]) (xs ++ [q]) := by
  refine ⟨by rw [List.length_append, List.length_append, x.1]; rfl, fun i u y a b => ?_⟩
  by_cases e : i < ts.length
  · rw [List.getElem?_append_left e] at a
    rw [List.getElem?_append_left (by rw [← x.1]; exact e)] at b
    exact x.2 i u y a b
  · rw [List.getElem?_append_right (by omega)] at a
    rw [List.getElem?_append_right (by rw [← x.1]; omega), ← x.1] at b
    have z : i - ts.length = 0 := by
      have := lt_of_get a
      simp at this
      omega
    rw [z] at a b
    cases a
    cases b
    exact h
theorem TsAt.pop {α : Type} {f : α → List V} {H : Hp} {ts : List Addr} {xs : List α} {q : α} (x : TsAt f H ts (xs ++ [q])) : ∃ t, ts[ts.length - 1]? = some t ∧ TsAt f H ts.dropLast xs ∧ Tq H t (f q) ∧ ts = ts.dropLast ++ [t] := by
  have hl : ts.length = xs.length + 1 := by rw [x.1, List.length_append]; rfl
  have hi : ts.length - 1 < ts.length := by omega
  refine ⟨ts[ts.length - 1], List.getElem?_eq_getElem hi, ⟨by rw [List.length_dropLast]; omega, fun i t y a b => ?_⟩, x.2 (ts.length - 1) _ _ (List.getElem?_eq_getElem hi) (by rw [hl]; simp), ?_⟩
  · have hb := lt_of_get b
    rw [List.getElem?_dropLast] at a
    rw [if_pos (by omega)] at a
    exact x.2 i t y a (by rw [List.getElem?_append_left hb]; exact b)
  · have hn : ts ≠ [] := fun e => by rw [e] at hl; simp at hl
    have := List.dropLast_concat_getLast hn
    rw [List.getLast_eq_getElem] at this
    exact this.symm
theorem TsAt.at {α : Type} {f : α → List V} {H : Hp} {ts : List Addr} {xs : List α} (x : TsAt f H ts xs) {i : Nat} (h : i < xs.length) : ∃ t, ts[i]? = some t ∧ (ts.map V.ref)[i]? = some (.ref t) ∧ Tq H t (f xs[i]) := by
  have h2 : i < ts.length := by rw [x.1]; exact h
  exact ⟨ts[i], List.getElem?_eq_getElem h2, by rw [List.getElem?_map, List.getElem?_eq_getElem h2]; rfl, x.2 i _ _ (List.getElem?_eq_getElem h2) (List.getElem?_eq_getElem h)⟩
def pV (p : List Nat) : List V := p.map fun n => V.int ((n : Nat) : Int)
theorem catA_of {K : PySem.W.Frag} {H : Hp} {a b : Addr} {xs ys : List V} {Q : VK} (ha : Tq H a xs) (hb : Tq H b ys) (hl : xs.length + ys.length ≤ 100000) (k : ∀ r H', Same H H' → Tq H' r (xs ++ ys) → Q (.ref r) H') : rCatA K (.ref a) (.ref b) H Q := by
  refine ⟨a, b, xs, ys, rfl, rfl, ha.sq, hb.sq, le_line hl, fun e => k b H (Same.refl H) (by rw [e]; exact hb), fun _ e => k a H (Same.refl H) (by rw [e, List.append_nil]; exact ha), fun _ _ p hp => k p _ ((Same.refl H).upd_new hp) (.of upd_same)⟩
theorem slA_of {K : PySem.W.Frag} {H : Hp} {a : Addr} {xs : List V} {Q : VK} {i j : Nat} (ha : Tq H a xs) (hj : j ≤ xs.length) (hi : i ≤ j) (k : ∀ r H', Same H H' → Tq H' r ((xs.drop i).take (j - i)) → Q (.ref r) H') : rSlA K (.ref a) (some (i : Int)) (some (j : Int)) H Q := by
  have e1 : HT.sIx xs.length 0 (some (i : Int)) = i := by rw [HT.sIx_nat]; omega
  have e2 : HT.sIx xs.length xs.length (some (j : Int)) = j := by rw [HT.sIx_nat]; omega
  refine ⟨a, xs, rfl, ha.sq, fun h => ?_, fun _ p hp => ?_⟩
  · rw [e1, e2] at h
    refine k a H (Same.refl H) ?_
    rw [h.1, h.2, List.drop_zero, Nat.sub_zero, List.take_length]
    exact ha
  · have hc : cutV xs (some (i : Int)) (some (j : Int)) = (xs.drop i).take (j - i) := by
      unfold cutV
      rw [e1, e2]
    rw [hc]
    exact k p _ ((Same.refl H).upd_new hp) (.of upd_same)
def spStarts (C : Addr) : Sp := fun vs H Q _ => ∃ (b t e : Addr) (p : Nat) (rows : List Row) (l : List Str) (hp : p < l.length), vs = [.ref b, .ref t, .ref e, .int ((p : Nat) : Int)] ∧ BedAt C H b rows ∧ ROk 8 rows ∧ Tq H t (l.map V.str) ∧ WfOk rows l ∧ EndsAt H e rows l ∧
  ∀ H' q, Same H H' → H q = none → H' q = some (.lst ((Mth.starts (wR rows) l p (wR rows l[p])).map V.int)) → Q (.ref q) H'
/-- a list of tuples, the paths of all knots -/
def PthsL (H : Hp) (q : Addr) (rows : List Row) (l : List Str) : Prop := ∃ ts, H q = some (.lst (ts.map V.ref)) ∧ TsAt pV H ts ((List.range l.length).map (Mth.pth (wR rows) l))
def spPaths (C : Addr) : Sp := fun vs H Q _ => ∃ (b t : Addr) (rows : List Row) (l : List Str), vs = [.ref b, .ref t] ∧ BedAt C H b rows ∧ ROk 8 rows ∧ Tq H t (l.map V.str) ∧ WfOk rows l ∧ ∀ H' q, Same H H' → H q = none → PthsL H' q rows l → Q (.ref q) H'
section
variable {P : Program} {w : World} {K : PySem.W.Frag} {mg : Str → Option Value} {base : Heap} {C CT : Addr}
def spNumber : Sp := fun vs H Q _ => ∃ (r : Addr) (rows : List Row) (z : Str), vs = [.ref r, .str z] ∧ RowsAt H r rows ∧ ROk 8 rows ∧ Q (.int (nmO rows z)) H
end
end Sh
end
section
set_option Elab.async false
set_option linter.all false
set_option maxRecDepth 100000
set_option maxHeartbeats 2000000
set_option autoImplicit false
namespace Mth
def tall {α : Type} (w : α → Nat) (l : List α) : Nat → Nat
  | 0 => 0
  | i + 1 => max (tall w l i) ((pth w l i).length + 1)
/-- the branch at a place -/
def cut {α : Type} (w : α → Nat) (l : List α) (a : Nat) : List α := (l.drop a).take (nxs w l a 1 - a)
def brs {α : Type} (w : α → Nat) (l : List α) (p n : Nat) : List (List α) := (List.range n).map fun c => cut w l (nxs w l (p + 1) c)
theorem brs_succ {α : Type} (w : α → Nat) (l : List α) (p n : Nat) : brs w l p (n + 1) = brs w l p n ++ [cut w l (nxs w l (p + 1) n)] := by
  simp [brs, List.range_succ]
def wd {α : Type} (w : α → Nat) (l : List α) (p : Nat) : Nat := match l[p]? with
  | some k => w k
  | none => 0
theorem wd_of {α : Type} (w : α → Nat) {l : List α} {p : Nat} (h : p < l.length) : wd w l p = w l[p] := by
  unfold wd
  rw [List.getElem?_eq_getElem h]
theorem brs_len {α : Type} (w : α → Nat) (l : List α) (p n : Nat) : (brs w l p n).length = n := by simp [brs]
theorem kids_lens (p : List Nat) (n : Nat) : ((kids p n).reverse.map fun p => ((p.length + 1 : Nat) : Int)) = List.replicate n ((p.length + 2 : Nat) : Int) := by
  refine List.eq_replicate_iff.mpr ⟨by rw [List.length_map, List.length_reverse, kids_len], fun b hb => ?_⟩
  obtain ⟨q, hq, rfl⟩ := List.mem_map.mp hb
  unfold kids at hq
  obtain ⟨a, _, rfl⟩ := List.mem_map.mp (List.mem_reverse.mp hq)
  rw [List.length_append]
  rfl
end Mth
namespace Sh
open PySem PySem.Spec PyProof.Rows L2
open C8 (pss_cut tCut)
open Evl (ixN_nat)
theorem valV_rk {ns : List Str} (nd : ns.Nodup) {j : Nat} (h : j < ns.length) : valV (rkL ns) (.inr ns[j]) = some (.int ((j : Nat) : Int)) := by
  unfold valV rkL
  rw [List.find?_map]
  have e : ((fun kv : Key × V => decide (kv.1 = Sum.inr ns[j])) ∘ fun q : Str × Nat => ((.inr q.1 : Key), V.int ((q.2 : Nat) : Int))) = fun q => decide (q.1 = ns[j]) := by
    funext q
    exact key_rr q.1 _
  rw [e]
  have hm : (ns[j], j) ∈ ns.zipIdx := by
    rw [List.mem_iff_getElem?]
    exact ⟨j, by rw [List.getElem?_zipIdx, List.getElem?_eq_getElem h]; simp⟩
  cases hf : ns.zipIdx.find? (fun q => decide (q.1 = ns[j])) with
  | none => exact absurd (List.find?_eq_none.mp hf _ hm) (by simp)
  | some q =>
    have h1 := List.mem_of_find?_eq_some hf
    have h2 : q.1 = ns[j] := by simpa using List.find?_some hf
    obtain ⟨i, hi, ei⟩ := List.mem_iff_getElem.mp h1
    rw [List.getElem_zipIdx] at ei
    rw [List.length_zipIdx] at hi
    rw [← ei] at h2
    have h3 := (List.getElem_inj nd).mp h2
    subst h3
    rw [← ei]
    simp
/-- the ranks of a plant's knots -/
def RanksOf (ns : List Str) (l : List Str) (ks : List Int) : Prop := ks.length = l.length ∧ ∀ (i : Nat) (z : Str), l[i]? = some z → ∃ j : Nat, ns[j]? = some z ∧ ks[i]? = some ((j : Nat) : Int)
theorem RanksOf.uniq {ns l : List Str} (nd : ns.Nodup) {ks ks' : List Int} (x : RanksOf ns l ks) (y : RanksOf ns l ks') : ks = ks' := by
  refine List.ext_getElem? fun i => ?_
  by_cases h : i < l.length
  · obtain ⟨j, a, b⟩ := x.2 i _ (List.getElem?_eq_getElem h)
    obtain ⟨j', a', b'⟩ := y.2 i _ (List.getElem?_eq_getElem h)
    obtain ⟨hj, ej⟩ := List.getElem?_eq_some_iff.mp a
    obtain ⟨hj', ej'⟩ := List.getElem?_eq_some_iff.mp a'
    have := (List.getElem_inj nd).mp (ej.trans ej'.symm)
    subst this
    rw [b, b']
  · have a := x.1
    have b := y.1
    rw [List.getElem?_eq_none (by omega), List.getElem?_eq_none (by omega)]
theorem RanksOf.snoc {ns l : List Str} {ks : List Int} {i j : Nat} {z : Str} (x : RanksOf ns (l.take i) ks) (h : l[i]? = some z) (hj : ns[j]? = some z) : RanksOf ns (l.take (i + 1)) (ks ++ [((j : Nat) : Int)]) := by
  have hi := lt_of_get h
  have hk : ks.length = i := by rw [x.1, List.length_take]; omega
  refine ⟨by rw [List.length_append, hk, List.length_take]; simp; omega, fun k u hu => ?_⟩
  rw [← take_snoc h] at hu
  by_cases e : k < i
  · rw [List.getElem?_append_left (by rw [List.length_take]; omega)] at hu
    obtain ⟨j', a, b⟩ := x.2 k u hu
    exact ⟨j', a, by rw [List.getElem?_append_left (by omega)]; exact b⟩
  · have hlt := lt_of_get hu
    rw [List.length_append, List.length_take] at hlt
    have ek : k = i := by simp at hlt; omega
    subst ek
    rw [List.getElem?_append_right (by rw [List.length_take]; omega), List.length_take] at hu
    rw [show k - min k l.length = 0 by omega] at hu
    cases hu
    exact ⟨j, hj, by rw [List.getElem?_append_right (by omega), hk, Nat.sub_self]; rfl⟩
theorem way2 {A : XA} {E : XK} {H : Hp} {p q : Prop} : ∀ {o : Option Ex}, Way A E H o p → (o = none → p → q) → Way A E H o q
  | none, k, h => h rfl k
  | some _, k, _ => k
theorem Way.same {A : XA} {E : XK} {H H1 : Hp} {p q : Prop} (s : Same H H1) (h : p → q) : ∀ {o : Option Ex}, Way A E H o p → Way A E H1 o q
  | none, k => h k
  | some _, k => Rz.same k s
def spPlI (C : Addr) (A : XA) (f : List Row → List Str → Int) : Sp := fun vs H Q E => ∃ (b t : Addr) (rows : List Row) (l : List Str), vs = [.ref b, .ref t] ∧ BedAt C H b rows ∧ ROk 8 rows ∧ Tq H t (l.map V.str) ∧ l.length ≤ 6000 ∧ Way A E H (due rows false l) (∀ H', Same H H' → Q (.int (f rows l)) H')
def spPlR (C : Addr) (A : XA) (f : List Row → List Str → Hp → Addr → Prop) : Sp := fun vs H Q E => ∃ (b t : Addr) (rows : List Row) (l : List Str), vs = [.ref b, .ref t] ∧ BedAt C H b rows ∧ ROk 8 rows ∧ Tq H t (l.map V.str) ∧ l.length ≤ 6000 ∧ Way A E H (due rows false l) (∀ H' q, Same H H' → f rows l H' q → Q (.ref q) H')
def spPlZ (C : Addr) (A : XA) (f : List Row → List Str → Hp → Addr → Prop) : Sp := fun vs H Q E => ∃ (b t : Addr) (rows : List Row) (l : List Str), vs = [.ref b, .ref t] ∧ BedAt C H b rows ∧ ROk 8 rows ∧ Tz H t (l.map V.str) ∧ l.length ≤ 6000 ∧ Way A E H (due rows false l) (∀ H' q, Same H H' → f rows l H' q → Q (.ref q) H')
def spLevels (C : Addr) : Sp := fun vs H Q _ => ∃ (b t : Addr) (rows : List Row) (l : List Str), vs = [.ref b, .ref t] ∧ BedAt C H b rows ∧ ROk 8 rows ∧ Tq H t (l.map V.str) ∧ WfOk rows l ∧ ∀ H', Same H H' → Q (.int ((Mth.tall (wR rows) l l.length : Nat) : Int)) H'
def KeyAt (rows : List Row) (l : List Str) (H : Hp) (q : Addr) : Prop := ∃ u ks, H q = some (.tup [.int ((l.length : Nat) : Int), .ref u]) ∧ H u = some (.tup (ks.map V.int)) ∧ RanksOf (rows.map (·.1)) l ks
def CntAt (rows : List Row) (l : List Str) (H : Hp) (q : Addr) : Prop := H q = some (.tup ((rows.map fun r => ((l.count r.1 : Nat) : Int)).map V.int))
def PthsAt (rows : List Row) (l : List Str) (H : Hp) (q : Addr) : Prop := ∃ ts, H q = some (.tup (ts.map V.ref)) ∧ TsAt pV H ts ((List.range l.length).map (Mth.pth (wR rows) l))
def BrsAt (rows : List Row) (l : List Str) (H : Hp) (q : Addr) : Prop := ∃ ts, H q = some (.tup (ts.map V.ref)) ∧ TsAt sV H ts (Mth.brs (wR rows) l 0 (Mth.wd (wR rows) l 0))
section
variable {P : Program} {w : World} {K : PySem.W.Frag} {mg : Str → Option Value} {base : Heap} {C CT : Addr} {A : XA}
end
end Sh
end
section
set_option Elab.async false
set_option linter.all false
set_option maxRecDepth 100000
set_option maxHeartbeats 2000000
set_option autoImplicit false
namespace Mth
/-- where a path of whole numbers leads from a place -/
def walkI {α : Type} (w : α → Nat) (l : List α) : Nat → List Int → Option Nat
  | p, [] => some p
  | p, c :: cs => if 0 ≤ c ∧ c < (wd w l p : Int) then walkI w l (nxs w l (p + 1) c.toNat) cs else none
end Mth
namespace Sh
open PySem PySem.Spec PyProof.Rows L2
open C8 (pss_cut tCut)
open Evl (ixN_nat)
theorem Def0.star {P : Program} {w : World} {K : PySem.W.Frag} {mg : Str → Option Value} {base : Heap} {k : Nat} {x : Str} {sp : Sp} {st : Stmt} {N ps : List Str} {pv : Str} (D : Def0 K mg x st) (S : FnScope N (ps ++ [pv]) (defScope st))
    (hb : ∀ (kV doc pm : Value) (an : Option Addr) (cdv ct : Value) (us rest : List Value), us.length = ps.length → bindArgs (PySem.W.fnOf x x (defArgs st) (defBody st) (defScope st) .none kV doc pm an cdv ct) ⟨us ++ rest, []⟩ = (newTuple rest >>= fun t => pure (ps.zip us ++ [(pv, t)])))
    (hbody : ∀ (f : Addr) (cdv : Value) (A : Around) (outer : List Env) (s : Shared) (H : Hp) (vs : List V) (Q : VK) (E : XK), Room k (A.deeper (envOfC x (defScope st) s.heap.objs.size f cdv)) → sp vs H Q E →
      ∃ t, PSs (cxOf (L2.CX P w) P w K mg base N x (defScope st) f cdv A outer s H E) (defBody st) t ∧ t { nx := fun _ H' => Q .non H', rt := Q } (start N vs) H) :
    DefOk P w K mg base (L2.CX P w) (k + 1) x (fun vs H Q E => ∃ ws rest, vs = ws ++ rest ∧ ws.length = ps.length ∧ rest.length ≤ sizeLine ∧ ∀ p, H p = Option.none → sp (ws ++ [V.ref p]) (upd H p (.tup rest)) Q E) := by
  obtain ⟨f, fd, hm, F⟩ := D
  obtain ⟨oc, od, dV, kV, doc, pm, an, cdv, ct, osl, rfl, lk, hcd, hdv, _⟩ := F.ex
  have hd : dV = .none := by
    rcases hdv with ⟨_, h⟩ | h
    · exact h
    · exact absurd rfl h.1
  subst hd
  exact ⟨f, hm, F.kp, StX.fn_star lk hcd S StX.cxUp (hb kV doc pm an cdv ct) fun A outer s H vs Q E hr hsp => hbody f cdv A outer s H vs Q E hr hsp⟩
theorem slA_lo {K : PySem.W.Frag} {H : Hp} {a : Addr} {xs : List V} {Q : VK} {j : Nat} (ha : Tq H a xs) (hj : j ≤ xs.length) (k : ∀ r H', Same H H' → Tq H' r (xs.take j) → Q (.ref r) H') : rSlA K (.ref a) none (some (j : Int)) H Q := by
  have e2 : HT.sIx xs.length xs.length (some (j : Int)) = j := by rw [HT.sIx_nat]; omega
  have e1 : HT.sIx xs.length 0 none = 0 := rfl
  refine ⟨a, xs, rfl, ha.sq, fun h => ?_, fun _ p hp => ?_⟩
  · rw [e2] at h
    refine k a H (Same.refl H) ?_
    rw [h.2, List.take_length]
    exact ha
  · have hc : cutV xs none (some (j : Int)) = xs.take j := by
      unfold cutV
      rw [e1, e2, List.drop_zero, Nat.sub_zero]
    rw [hc]
    exact k p _ ((Same.refl H).upd_new hp) (.of upd_same)
theorem slA_hi {K : PySem.W.Frag} {H : Hp} {a : Addr} {xs : List V} {Q : VK} {i : Nat} (ha : Tq H a xs) (hi : i ≤ xs.length) (k : ∀ r H', Same H H' → Tq H' r (xs.drop i) → Q (.ref r) H') : rSlA K (.ref a) (some (i : Int)) none H Q := by
  have e1 : HT.sIx xs.length 0 (some (i : Int)) = i := by rw [HT.sIx_nat]; omega
  have e2 : HT.sIx xs.length xs.length none = xs.length := rfl
  refine ⟨a, xs, rfl, ha.sq, fun h => ?_, fun _ p hp => ?_⟩
  · rw [e1] at h
    refine k a H (Same.refl H) ?_
    rw [h.1, List.drop_zero]
    exact ha
  · have hc : cutV xs (some (i : Int)) none = xs.drop i := by
      unfold cutV
      rw [e1, e2]
      exact List.take_of_length_le (by rw [List.length_drop]; omega)
    rw [hc]
    exact k p _ ((Same.refl H).upd_new hp) (.of upd_same)
theorem flat_le : ∀ {ls : List (List Str)} {m n : Nat}, (∀ l ∈ ls, l.length ≤ m) → ls.length ≤ n → ls.flatten.length ≤ m * n
  | [], m, n, _, _ => Nat.zero_le _
  | l :: ls, m, n, h, hn => by
    obtain ⟨k, rfl⟩ : ∃ k, n = k + 1 := ⟨n - 1, by rw [List.length_cons] at hn; omega⟩
    have h1 := h l List.mem_cons_self
    have h2 := flat_le (ls := ls) (n := k) (fun l hl => h l (List.mem_cons_of_mem _ hl)) (by rw [List.length_cons] at hn; omega)
    rw [List.flatten_cons, List.length_append, Nat.mul_succ]
    omega
theorem lk_branches (r k w rk : Addr) : (bedF r k w rk).lookup ("branches" : Str) = none := by
  have h : (("branches" : Str) == "rows") = false := by decide +kernel
  have h2 : (("branches" : Str) == "kinds") = false := by decide +kernel
  have h3 : (("branches" : Str) == "widths") = false := by decide +kernel
  have h4 : (("branches" : Str) == "ranks") = false := by decide +kernel
  simp [bedF, List.lookup, h, h2, h3, h4]
def iV (zs : List Int) : List V := zs.map V.int
def spSpan (C : Addr) (A : XA) : Sp := fun vs H Q E => ∃ (b t a : Addr) (rows : List Row) (l : List Str) (zs : List Int), vs = [.ref b, .ref t, .ref a] ∧ BedAt C H b rows ∧ ROk 8 rows ∧ Tq H t (l.map V.str) ∧ PlantOk rows l ∧ Tq H a (iV zs) ∧
  (∀ q, Mth.walkI (wR rows) l 0 zs = some q → q < l.length → ∀ H' r, Same H H' → Tq H' r [.int ((q : Nat) : Int), .int ((Mth.nxs (wR rows) l q 1 : Nat) : Int)] → Q (.ref r) H') ∧
  (Mth.walkI (wR rows) l 0 zs = none → Rz A E H (.path a))
def spBranch (C : Addr) (A : XA) : Sp := fun vs H Q E => ∃ (b t a : Addr) (rows : List Row) (l : List Str) (zs : List Int), vs = [.ref b, .ref t, .ref a] ∧ BedAt C H b rows ∧ ROk 8 rows ∧ Tq H t (l.map V.str) ∧ l.length ≤ 6000 ∧ Tq H a (iV zs) ∧
  Way A E H (due rows false l) ((∀ q, Mth.walkI (wR rows) l 0 zs = some q → q < l.length → ∀ H' r, Same H H' → Tq H' r (sV (Mth.cut (wR rows) l q)) → Q (.ref r) H') ∧ (Mth.walkI (wR rows) l 0 zs = none → Rz A E H (.path a)))
def put (w : Str → Nat) (l : List Str) (q : Nat) (o : List Str) : List Str := l.take q ++ o ++ l.drop (Mth.nxs w l q 1)
def spReplaced (C : Addr) (A : XA) : Sp := fun vs H Q E => ∃ (b t a u : Addr) (rows : List Row) (l o : List Str) (zs : List Int), vs = [.ref b, .ref t, .ref a, .ref u] ∧ BedAt C H b rows ∧ ROk 8 rows ∧ Tq H t (l.map V.str) ∧ l.length ≤ 6000 ∧ Tq H a (iV zs) ∧ Tq H u (o.map V.str) ∧ o.length ≤ 6000 ∧
  Way A E H (due rows false l) ((Mth.walkI (wR rows) l 0 zs = none → Rz A E H (.path a)) ∧ ∀ q, Mth.walkI (wR rows) l 0 zs = some q → q < l.length →
    Way A E H (due rows false o) (((put (wR rows) l q o).length ≤ 2000 → ∀ H' r, Same H H' → Tq H' r (sV (put (wR rows) l q o)) → Q (.ref r) H') ∧ (2000 < (put (wR rows) l q o).length → Rz A E H .many)))
def spBr (C : Addr) (A : XA) : Sp := fun vs H Q E => ∃ (b : Addr) (z : Str) (rows : List Row), vs = [.ref b, .str z] ∧ BedAt C H b rows ∧ ROk 8 rows ∧ Kin z ∧ (nmO rows z < 0 → Rz A E H (.kind z)) ∧ (0 ≤ nmO rows z → Q (.int ((wR rows z : Nat) : Int)) H)
/-- the first bad one -/
def fbad (rows : List Row) (hole : Bool) (ls : List (List Str)) : Option Ex := ls.findSome? (due rows hole)
def pdue (rows : List Row) (z : Str) (ls : List (List Str)) : Option Ex := if nmO rows z < 0 then some (.kind z) else if wR rows z ≠ ls.length then some (.wrong (wR rows z) ls.length) else match fbad rows false ls with
  | some x => some x
  | none => if 2000 < (z :: ls.flatten).length then some .many else none
def spPlanted (C : Addr) (A : XA) : Sp := fun vs H Q E => ∃ (b p : Addr) (z : Str) (rows : List Row) (ts : List Addr) (ls : List (List Str)), vs = [.ref b, .str z, .ref p] ∧ BedAt C H b rows ∧ ROk 8 rows ∧ Kin z ∧ Tq H p (ts.map V.ref) ∧ TsAt sV H ts ls ∧ (∀ l ∈ ls, l.length ≤ 6000) ∧ ls.length ≤ 20 ∧
  Way A E H (pdue rows z ls) (∀ H' r, Same H H' → Tq H' r (sV (z :: ls.flatten)) → Q (.ref r) H')
def spStar (n : Nat) (sp : Sp) : Sp := fun vs H Q E => ∃ ws rest, vs = ws ++ rest ∧ ws.length = n ∧ rest.length ≤ sizeLine ∧ ∀ p, H p = Option.none → sp (ws ++ [V.ref p]) (upd H p (.tup rest)) Q E
def BrOk (P : Program) (w : World) (K : PySem.W.Frag) (mg : Str → Option Value) (base : Heap) (C : Addr) (A : XA) : Prop := ∃ f, Meth K C "branches" f ∧ FnR P w K mg base (L2.CX P w) 2 f (spBr C A)
abbrev s_branches : Stmt := inClass (top 22) 4
abbrev N_branches : List Str := ["self", "kind"]
theorem sc_branches : FnScope N_branches ["self", "kind"] (defScope s_branches) := ⟨rfl, rfl, rfl, by decide +kernel, rfl, by decide +kernel, by decide +kernel⟩
section
variable {P : Program} {w : World} {K : PySem.W.Frag} {mg : Str → Option Value} {base : Heap} {C CN CT : Addr} {A : XA}
theorem ok_branches (x : XS P w K mg A) (B : BedT K C) {y : Str} {f : Addr} {fd : FuncData} (F : FunD K "branches" "Bed.branches" (defArgs s_branches) (defBody s_branches) (defScope s_branches) [] [] f fd) (M : Meth K C "branches" f) : BrOk P w K mg base C A := by
  have x_UnknownKind := x.xU
  have G : FnOk P w K mg base (L2.CX P w) 2 f fd ["self", "kind"] (spBr C A) := F.ok sc_branches (fun vs H Q E h => by obtain ⟨b, z, rows, rfl, _⟩ := h; rfl) fun cdv A outer s H vs Q E hr h => by
    obtain ⟨b, z, rows, rfl, hB, R, hz, k1, k2⟩ := h
    have hu := hu_of hr
    obtain ⟨dx, r, kk, ww, rk, ts, h1, h2, h3, h4, h5, h6⟩ := hB
    refine ⟨_, (pss_cons (ps_if (pt_cmp (pc_dnotin hu (pv 1) (pe_fld (pv 0) rfl)))
        (pss_one (ps_raiseSup rfl x_UnknownKind hr (takes_of rfl rfl rfl rfl) (pa_cons (pv 1) pa_nil)))
        pss_nil)
      (pss_one (ps_ret (pe_dget hu (pe_fld (pv 0) rfl) (pv 1) (fun _ _ => rfl))))), ?_⟩
    refine ⟨_, rfl, _, rfl, b, C, dx, _, _, rfl, h1, B.cl, B.nW, lk_widths _ _ _ _, ww, _, rfl, DGet.k (k := .inr z) h5, _, rfl, ?_⟩
    rcases nm_case R z with q | q
    · rw [q.2.2.1]
      refine ifp (by simp) ?_
      exact ⟨_, rfl, ⟨z, rfl, hz⟩, rfl, fun d hd => k1 (by omega) _ d (Same.refl H) hd⟩
    · rw [q.2.2.1]
      refine ifn (by simp) ?_
      exact ⟨_, rfl, b, C, dx, _, _, rfl, h1, B.cl, B.nW, lk_widths _ _ _ _, _, rfl, ww, _, rfl, (by rw [← q.2.2.1]; exact DGet.k (k := .inr z) h5), k2 (by omega)⟩
  refine ⟨f, M, fun A' outer s H us vs Q E hr e0 r hs => G.raw (F.bindsN fun _ _ _ _ _ _ us hl => match us, hl with | [_, _], _ => rfl) .nil A' outer s H us vs Q E hr e0 r (by show spBr C A (vs ++ []) H Q E; rw [List.append_nil]; exact hs)⟩
end
end Sh
end
section
set_option Elab.async false
set_option linter.all false
set_option autoImplicit false
namespace Mth
variable {α : Type} [DecidableEq α]
/-! Stumps as preorder lists: what stands at the holes, the holes filled. -/
section
variable (w : α → Nat) (hole : α)
/-- what stands in m at the holes of the rest of a stump, from place p on -/
def prt (m : List α) : List α → Nat → List (List α) → Option (List (List α))
  | [], _, acc => some acc
  | z :: r, p, acc => if z = hole then prt m r (nxs w m p 1) (acc ++ [cut w m p]) else if m[p]? = some z then prt m r (p + 1) acc else none
theorem prt_len {m : List α} : ∀ {l : List α} {p : Nat} {acc ps : List (List α)}, prt w hole m l p acc = some ps → ps.length = acc.length + l.count hole
  | [], _, acc, ps, h => by cases h; rfl
  | z :: r, p, acc, ps, h => by
    unfold prt at h
    rw [List.count_cons]
    split at h
    · rename_i e
      have q := prt_len h
      rw [List.length_append, List.length_singleton] at q
      rw [q, if_pos (beq_iff_eq.mpr e)]
      omega
    · rename_i e
      split at h
      · have q := prt_len h
        rw [q, if_neg (fun x => e (beq_iff_eq.mp x))]
        rfl
      · cases h
end
/-- the first n entries of a stump, its holes filled -/
def fil (hole : α) (ls : List (List α)) (l : List α) : Nat → List α
  | 0 => []
  | i + 1 => fil hole ls l i ++ match l[i]? with
    | some z => if z = hole then ls.getD ((l.take i).count hole) [] else [z]
    | none => []
theorem count_take {hole : α} {l : List α} {i : Nat} (h : i < l.length) : (l.take (i + 1)).count hole = (l.take i).count hole + if l[i] = hole then 1 else 0 := by
  rw [List.take_add_one, List.getElem?_eq_getElem h, List.count_append, Option.toList_some, List.count_singleton]
  by_cases e : l[i] = hole <;> simp [e]
theorem take_flat {β : Type} {ls : List (List β)} {j : Nat} (h : j < ls.length) : (ls.take (j + 1)).flatten.length = (ls.take j).flatten.length + (ls.getD j []).length := by
  rw [List.take_add_one, List.getElem?_eq_getElem h, List.flatten_append, List.length_append]
  simp [List.getD, h]
theorem fil_len (hole : α) (ls : List (List α)) (l : List α) (hc : l.count hole ≤ ls.length) : ∀ n, n ≤ l.length → (fil hole ls l n).length + (l.take n).count hole = n + (ls.take ((l.take n).count hole)).flatten.length
  | 0, _ => by simp [fil]
  | i + 1, h => by
    have ih := fil_len hole ls l hc i (by omega)
    have hi : i < l.length := h
    have hle : (l.take (i + 1)).count hole ≤ l.count hole := List.Sublist.count_le _ (List.take_sublist _ _)
    unfold fil
    rw [List.getElem?_eq_getElem hi, count_take hi, List.length_append]
    rw [count_take hi] at hle
    by_cases e : l[i] = hole
    · rw [if_pos e] at hle
      simp only [e, eq_self_iff_true, if_true]
      rw [take_flat (by omega)]
      omega
    · simp only [e, if_false, List.length_singleton, Nat.add_zero]
      omega
/-- the places of the holes -/
def hps (hole : α) (l : List α) : List Nat := (List.range l.length).filter fun i => decide (l[i]? = some hole)
theorem hps_take (hole : α) (l : List α) : ∀ n, n ≤ l.length → (((List.range n).filter fun i => decide (l[i]? = some hole)).length) = (l.take n).count hole
  | 0, _ => by simp
  | i + 1, h => by
    have hi : i < l.length := h
    rw [List.range_succ, List.filter_append, List.length_append, hps_take hole l i (by omega), count_take hi, List.filter_cons, List.filter_nil, List.getElem?_eq_getElem hi]
    by_cases e : l[i] = hole <;> simp [e]
theorem hps_len (hole : α) (l : List α) : (hps hole l).length = l.count hole := by
  have h := hps_take hole l l.length (Nat.le_refl _)
  rw [List.take_length] at h
  exact h
end Mth
end
section
set_option Elab.async false
set_option linter.all false
set_option maxRecDepth 100000
set_option maxHeartbeats 2000000
set_option autoImplicit false
/-! zip(l, t): a list beside a tuple. -/
namespace L2
open PySem PySem.Spec PyProof.Rows
def ItzM (K : PySem.W.Frag) (a b : Addr) : It where
  go := fun i H => ∃ (xs ys : List V) (x y : V), SqL K H a xs ∧ SqT K H b ys ∧ xs[i]? = some x ∧ ys[i]? = some y
  yld := fun i H v H' => ∃ T x y, v = .ref T ∧ H T = none ∧ H' = upd H T (.tup [x, y]) ∧ (∀ xs, SqL K H a xs → xs[i]? = some x) ∧ ∀ ys, SqT K H b ys → ys[i]? = some y
  stop := fun i H => ∃ xs ys : List V, SqL K H a xs ∧ SqT K H b ys ∧ xs.length = ys.length ∧ xs.length = i
/-- how the five cells of it lie -/
structure ZmApart (z TI TO i1 i2 a b : Addr) : Prop where
  s : ZipSep2 z TI TO i1 i2 [i1, a] [i2, b]
  a1 : a ≠ i1
  b2 : b ≠ i2
def zmCells (z TI TO i1 i2 : Addr) : List Addr := [z, TI, TO, i1, i2]
theorem zm_out {z TI TO i1 i2 c : Addr} (h : c ∉ zmCells z TI TO i1 i2) : c ≠ z ∧ c ≠ TO ∧ c ≠ i1 ∧ c ≠ i2 := by
  unfold zmCells at h
  simp only [List.mem_cons, not_or] at h
  exact ⟨h.1, h.2.2.1, h.2.2.2.1, h.2.2.2.2.1⟩
def zmAt (z TI TO i1 i2 a b : Addr) (i : Nat) (h : Heap) : Prop :=
  IsZip h z TI TO .none ∧ IsTupOf2 h TI (.ref i1) (.ref i2) ∧ (∃ x y, IsTupOf2 h TO x y) ∧ h.IsListIter i1 a i ∧ h.IsTupleIter i2 b i
theorem turn_zipM {P : Program} {w : World} {K : PySem.W.Frag} {elts : List Expr} {kk : Nat} {tpos : Pos} {a b z TI TO i1 i2 : Addr} (D : ZmApart z TI TO i1 i2 a b) :
    Turn P w K (.Tuple elts kk tpos) (ItzM K a b) (zmCells z TI TO i1 i2) z (zmAt z TI TO i1 i2 a b) := by
  have mz : z ∈ zmCells z TI TO i1 i2 := by simp [zmCells]
  have mI : TI ∈ zmCells z TI TO i1 i2 := by simp [zmCells]
  have mO : TO ∈ zmCells z TI TO i1 i2 := by simp [zmCells]
  have m1 : i1 ∈ zmCells z TI TO i1 i2 := by simp [zmCells]
  have m2 : i2 ∈ zmCells z TI TO i1 i2 := by simp [zmCells]
  refine ⟨mz, ?_, ?_, ?_, ?_, ?_⟩
  · rintro i h ⟨hz, hI, ⟨x, y, hO⟩, ⟨o1, e1, _, d1⟩, ⟨o2, e2, _, d2⟩⟩ c hc
    simp only [zmCells, List.mem_cons, List.not_mem_nil, or_false] at hc
    rcases hc with rfl | rfl | rfl | rfl | rfl
    · exact ⟨_, hz, fun v q => nomatch q⟩
    · exact ⟨_, hI, fun v q => nomatch q⟩
    · exact ⟨_, hO, fun v q => nomatch q⟩
    · exact ⟨o1, e1, fun v q => by rw [d1] at q; cases q⟩
    · exact ⟨o2, e2, fun v q => by rw [d2] at q; cases q⟩
  · rintro i h h' ⟨hz, hI, ⟨x, y, hO⟩, h1, h2⟩ k
    exact ⟨k z mz _ hz, k TI mI _ hI, ⟨x, y, k TO mO _ hO⟩, h1.at fun o q => k i1 m1 o q, h2.at fun o q => k i2 m2 o q⟩
  · intro X eP ew eK calm i pins s σ H E I own st go
    subst eP ew eK
    obtain ⟨hz, hI, ⟨x0, y0, hO⟩, h1, h2⟩ := st
    obtain ⟨xs, ys, x, y, qa, qb, gx, gy⟩ := go
    obtain ⟨its, ra, pa, _⟩ := I.list qa
    obtain ⟨jts, rb, pb, _⟩ := I.tuple qb
    obtain ⟨u, gu, ru⟩ := ra.get gx
    obtain ⟨v, gv, rv⟩ := rb.get gy
    have lt1 : i < its.toArray.size := by simpa using (List.getElem?_eq_some_iff.mp gu).1
    have lt2 : i < jts.toArray.size := by simpa using (List.getElem?_eq_some_iff.mp gv).1
    have zl : z < s.heap.objs.size := Heap.lt_size hz
    refine wpAny_pyNext_zipD2_item D.s (Draws.list (prog := X.prog) (w := X.w) (A := X.A.in1) (I.ok.hd calm) i1 a D.a1 its.toArray) (Draws.tuple (prog := X.prog) (w := X.w) (A := X.A.in1) (I.ok.hd calm) i2 b D.b2 jts.toArray) hz hI hO ⟨h1, pa.isList⟩ ⟨h2, pb⟩ lt1 lt2 fun x1 x2 h' tk e1 e2 hz' hO' t1 t2 hT hsz keep => ?_
    have f1 : x1 = u := by
      have q : its.toArray[i]? = some x1 := e1
      have q2 : its[i]? = some x1 := by simpa using q
      exact Option.some.inj (q2.symm.trans gu)
    have f2 : x2 = v := by
      have q : jts.toArray[i]? = some x2 := e2
      have q2 : jts[i]? = some x2 := by simpa using q
      exact Option.some.inj (q2.symm.trans gv)
    subst f1 f2
    refine ⟨_, rfl, wpAny_letOwnedTupleGo_zip (s := { s with heap := h', toks := tk }) hz' fun h'' hz2 sb => ?_⟩
    have hT2 : h''.get? s.heap.objs.size = some { cls := .type "tuple", data := .seq #[x1, x2] } := (sb.2 _ (Nat.ne_of_gt zl)).trans hT
    have fr : H s.heap.objs.size = none := I.hok.fresh (Nat.le_refl _)
    have I1 : Inv X pins σ (upd H s.heap.objs.size (.tup [x, y])) { s with heap := h'', toks := tk } :=
      I.turnedNew (ch := zmCells z TI TO i1 i2) (fun c o hb q => (sb.2 c (zm_out hb).1).trans (keep c o (zm_out hb).1 (zm_out hb).2.1 (zm_out hb).2.2.1 (zm_out hb).2.2.2 q)) own (Nat.le_refl _)
        ⟨by show 2 ≤ sizeLine; decide, [x1, x2], .cons ru (.cons rv .nil), ⟨_, hT2, rfl, _, rfl⟩⟩
    refine ⟨.ref s.heap.objs.size, _, I1, rfl, ⟨_, x, y, rfl, fr, rfl, fun l hl => by rw [I.list_inj hl qa]; exact gx, fun l hl => by rw [I.tuple_inj hl qb]; exact gy⟩, ⟨hz2, ?_, ⟨x1, x2, ?_⟩, ?_, ?_⟩, fun c hcm => ?_⟩
    · exact (sb.2 _ D.s.TIz).trans (keep _ _ D.s.TIz D.s.TITO D.s.TIi1 D.s.TIi2 hI)
    · exact (sb.2 _ D.s.TOz).trans hO'
    · exact t1.1.at fun o q => (sb.2 _ (Ne.symm D.s.zi1)).trans q
    · exact t2.1.at fun o q => (sb.2 _ (Ne.symm D.s.zi2)).trans q
    · have lt : c < s.heap.objs.size := by
        simp only [zmCells, List.mem_cons, List.not_mem_nil, or_false] at hcm
        rcases hcm with rfl | rfl | rfl | rfl | rfl
        · exact zl
        · exact Heap.lt_size hI
        · exact Heap.lt_size hO
        · obtain ⟨_, q, _⟩ := h1; exact Heap.lt_size q
        · obtain ⟨_, q, _⟩ := h2; exact Heap.lt_size q
      rw [upd_ne (Nat.ne_of_lt lt)]
      exact (own c hcm).1
  · intro X eP ew eK calm i pins s σ H E I own st stop
    subst eP ew eK
    obtain ⟨hz, hI, ⟨x0, y0, hO⟩, h1, h2⟩ := st
    obtain ⟨xs, ys, qa, qb, el, ei⟩ := stop
    obtain ⟨its, ra, pa, _⟩ := I.list qa
    obtain ⟨jts, rb, pb, _⟩ := I.tuple qb
    have l1 := ra.length
    have l2 := rb.length
    refine wpAny_pyNext_zipD2_end D.s (Draws.list (prog := X.prog) (w := X.w) (A := X.A.in1) (I.ok.hd calm) i1 a D.a1 its.toArray) (Draws.tuple (prog := X.prog) (w := X.w) (A := X.A.in1) (I.ok.hd calm) i2 b D.b2 jts.toArray) hz hI hO ⟨h1, pa.isList⟩ ⟨h2, pb⟩ (by simp; omega) (by simp; omega) (.inl (by simp; omega)) fun h' tk keep => ?_
    exact ⟨rfl, I.turnedL (t' := tk) (ch := zmCells z TI TO i1 i2) (fun c o hb q => keep c o (zm_out hb).1 (zm_out hb).2.1 (zm_out hb).2.2.1 (zm_out hb).2.2.2 q) own⟩
  · intro A i s Q E st h
    exact wpAny_pyIter_zip st.1 h
def iZipM (K : PySem.W.Frag) (ta : TA) : TI := fun σ H R => ta σ H fun vs H1 => ∃ a b xs ys, vs = [.ref a, .ref b] ∧ SqL K H1 a xs ∧ SqT K H1 b ys ∧ R (ItzM K a b) H1
theorem pi_zipM {X : Cx} {e e2 : Expr} {ta : TA} {p pos tpos : Pos} {elts : List Expr} {kk : Nat} (hg : Gl X "zip") (hm : X.mg "zip" = none) (ha : PA X [e, e2] ta)
    (hs : starEach [e, e2] X.env = (false, eval e X.env) :: starEach [e2] X.env := by rfl) (hpl : (backTo pos (starEach [e2] X.env)).any (·.1) = false := by rfl) :
    PI X (.Tuple elts kk tpos) (.Call (.Name "zip" p) [e, e2] [] pos) (iZipM X.K ta) := by
  refine ⟨fun pins s σ H R I h => ?_⟩
  refine Call_ (ld_blt I hg hm boot_zip (callWith_type1 (thn (ha.run pos pins s σ H _ I h) fun us s1 ⟨vs, H1, I1, r1, q1⟩ => ?_) hs hpl))
  obtain ⟨a, b, xs, ys, ex, qa, qb, q⟩ := q1
  subst ex
  obtain ⟨u, u2, rfl, ru, ru2⟩ := vals2 r1
  cases ru
  cases ru2
  obtain ⟨its, ra, pa, _⟩ := I1.list qa
  obtain ⟨jts, rb, pb, _⟩ := I1.tuple qb
  have la : a < s1.heap.objs.size := pa.lt
  have lb : b < s1.heap.objs.size := by obtain ⟨_, z, _⟩ := id pb; exact Heap.lt_size z
  generalize hN : s1.heap.objs.size = N at la lb
  have la' : @LT.lt Nat _ a N := la
  have lb' : @LT.lt Nat _ b N := lb
  refine zip_begins2 (begins_list a its.toArray) (begins_tuple b jts.toArray) pa.isList pb fun h' hz hI hO g1 g2 hsz keep => wpAny_pyIter_zip hz ?_
  rw [hN] at hz hI hO g1 g2
  rw [hN]
  have D : ZmApart (N + 4) (N + 2) (N + 3) N (N + 1) a b := by
    refine ⟨?_, Nat.ne_of_lt la, Nat.ne_of_lt (Nat.lt_succ_of_lt lb)⟩
    constructor <;> first
      | (intro q; have q' : @Eq Nat _ _ := q; omega)
      | exact List.mem_cons_self
      | (intro q; rcases List.mem_cons.mp q with q | q
         · have q' : @Eq Nat _ _ := q; omega
         · have q' : @Eq Nat _ _ := List.mem_singleton.mp q; omega)
  refine ⟨N + 4, zmCells (N + 4) (N + 2) (N + 3) N (N + 1), _, _, H1, rfl, I1.kept (t' := s1.toks) keep, turn_zipM D, ⟨hz, hI, ⟨_, _, hO⟩, ⟨_, g1, rfl, rfl⟩, ⟨_, g2, rfl, rfl⟩⟩, fun c hc => ?_, q⟩
  have hle : s1.heap.objs.size ≤ c := by
    rw [hN]
    simp only [zmCells, List.mem_cons, List.not_mem_nil, or_false] at hc
    rcases hc with rfl | rfl | rfl | rfl | rfl
    · exact Nat.le_add_right _ _
    · exact Nat.le_add_right _ _
    · exact Nat.le_add_right _ _
    · exact Nat.le_refl _
    · exact Nat.le_add_right _ _
  exact I1.fpOk hle (I1.hok.fresh hle)
theorem walk_zipM {K : PySem.W.Frag} {a b : Addr} {xs ys : List V} {n : Nat} (h1 : xs.length = n) (h2 : ys.length = n) : Walk (ItzM K a b) n (fun H => SqL K H a xs ∧ SqT K H b ys) (YPair (fun i => xs[i]?) (fun i => ys[i]?)) := by
  refine ⟨fun i _ hi q => ⟨xs, ys, xs[i], ys[i], q.1, q.2, by simp [show i < xs.length by omega], by simp [show i < ys.length by omega]⟩, fun _ q => ⟨xs, ys, q.1, q.2, by omega, h1⟩, fun i H v H' _ q y => ?_⟩
  obtain ⟨T, x, z, e1, e2, e3, e4, e5⟩ := y
  exact ⟨T, x, z, e1, e2, e3, e4 xs q.1, e5 ys q.2⟩
end L2
end
section
set_option Elab.async false
set_option linter.all false
set_option maxRecDepth 100000
set_option maxHeartbeats 2000000
set_option autoImplicit false
namespace Sh
open PySem PySem.Spec PyProof.Rows L2
open C8 (pss_cut tCut)
open Evl (ixN_nat)
abbrev fill (ls : List (List Str)) (l : List Str) : List Str := Mth.fil ("*" : Str) ls l l.length
def spChks (C : Addr) (A : XA) : Sp := fun vs H Q E => ∃ (b s : Addr) (rows : List Row) (ts : List Addr) (ls : List (List Str)), vs = [.ref b, .ref s] ∧ BedAt C H b rows ∧ ROk 8 rows ∧ Tq H s (ts.map V.ref) ∧ TsAt sV H ts ls ∧ (∀ l ∈ ls, l.length ≤ 6000) ∧ Way A E H (fbad rows true ls) (∀ H', Same H H' → Q .non H')
def RanksS (ns l : List Str) (ks : List Int) : Prop := ks.length = l.length ∧ ∀ (i : Nat) (z : Str), l[i]? = some z → (∃ j : Nat, ns[j]? = some z ∧ ks[i]? = some ((j : Nat) : Int)) ∨ (z = "*" ∧ ks[i]? = some ((ns.length : Nat) : Int))
theorem RanksS.snoc {ns l : List Str} {ks : List Int} {i : Nat} {z : Str} {k : Int} (x : RanksS ns (l.take i) ks) (h : l[i]? = some z) (hk : (∃ j : Nat, ns[j]? = some z ∧ k = ((j : Nat) : Int)) ∨ (z = "*" ∧ k = ((ns.length : Nat) : Int))) : RanksS ns (l.take (i + 1)) (ks ++ [k]) := by
  have hil := lt_of_get h
  have hx := x.1
  rw [List.length_take] at hx
  have hm : ks.length = i := by omega
  refine ⟨by rw [List.length_append, List.length_take, List.length_singleton]; omega, fun j y hj => ?_⟩
  rw [← take_snoc h] at hj
  by_cases e : j < i
  · rw [List.getElem?_append_left (by rw [List.length_take]; omega)] at hj
    rw [List.getElem?_append_left (by omega)]
    exact x.2 j y hj
  · have hj2 : j = i := by
      have q := lt_of_get hj
      rw [List.length_append, List.length_take, List.length_singleton] at q
      omega
    subst hj2
    rw [List.getElem?_append_right (by rw [List.length_take]; omega)] at hj
    rw [List.length_take, show j - min j l.length = 0 by omega] at hj
    cases hj
    rw [List.getElem?_append_right (by omega), hm, Nat.sub_self]
    rcases hk with ⟨n, a, b⟩ | ⟨a, b⟩
    · exact .inl ⟨n, a, by rw [b]; rfl⟩
    · exact .inr ⟨a, by rw [b]; rfl⟩
def SkeyAt (rows : List Row) (l : List Str) (H : Hp) (q : Addr) : Prop := ∃ u ks, H q = some (.tup [.int ((l.length : Nat) : Int), .ref u]) ∧ H u = some (.tup (ks.map V.int)) ∧ RanksS (rows.map (·.1)) l ks
def HolesAt (rows : List Row) (l : List Str) (H : Hp) (q : Addr) : Prop := ∃ ts, H q = some (.tup (ts.map V.ref)) ∧ TsAt pV H ts ((Mth.hps ("*" : Str) l).map (Mth.pth (wR rows) l))
def spStR (C : Addr) (A : XA) (f : List Row → List Str → Hp → Addr → Prop) : Sp := fun vs H Q E => ∃ (b t : Addr) (rows : List Row) (l : List Str), vs = [.ref b, .ref t] ∧ BedAt C H b rows ∧ ROk 8 rows ∧ Tq H t (l.map V.str) ∧ l.length ≤ 6000 ∧ Way A E H (due rows true l) (∀ H' q, Same H H' → f rows l H' q → Q (.ref q) H')
def spFillH (K : PySem.W.Frag) : Sp := fun vs H Q _ => ∃ (t p : Addr) (l : List Str) (ts : List Addr) (ls : List (List Str)), vs = [.ref t, .ref p] ∧ Tq H t (l.map V.str) ∧ l.length ≤ 2000 ∧ Tq H p (ts.map V.ref) ∧ TsAt sV H ts ls ∧ (∀ x ∈ ls, x.length ≤ 2000) ∧ ls.length ≤ 20 ∧ l.count ("*" : Str) = ls.length ∧
  ∀ H' q, Same H H' → H q = none → H' q = some (.lst (sV (fill ls l))) → Q (.ref q) H'
def fdue (rows : List Row) (l : List Str) (ls : List (List Str)) : Option Ex := match due rows true l with
  | some x => some x
  | none => if l.count ("*" : Str) ≠ ls.length then some (.wrong (l.count ("*" : Str)) ls.length) else match fbad rows true ls with
    | some x => some x
    | none => if 2000 < (fill ls l).length then some .many else none
def spFilled (C : Addr) (A : XA) : Sp := fun vs H Q E => ∃ (b t p : Addr) (rows : List Row) (l : List Str) (ts : List Addr) (ls : List (List Str)), vs = [.ref b, .ref t, .ref p] ∧ BedAt C H b rows ∧ ROk 8 rows ∧ Tz H t (l.map V.str) ∧ l.length ≤ 6000 ∧ Tq H p (ts.map V.ref) ∧ TsAt sV H ts ls ∧ (∀ l ∈ ls, l.length ≤ 6000) ∧ ls.length ≤ 20 ∧
  Way A E H (fdue rows l ls) (∀ H' r, Same H H' → Tq H' r (sV (fill ls l)) → Q (.ref r) H')
theorem fbad_none {rows : List Row} {hole : Bool} : ∀ {ls : List (List Str)}, fbad rows hole ls = none → ∀ l ∈ ls, due rows hole l = none
  | [], _, _, h => nomatch h
  | a :: r, h, l, hl => by
    unfold fbad at h
    rw [List.findSome?_cons] at h
    cases e : due rows hole a with
    | some x => rw [e] at h; cases h
    | none =>
      rw [e] at h
      rcases List.mem_cons.mp hl with q | q
      · rw [q]; exact e
      · exact fbad_none h l q
theorem fbad_at {rows : List Row} {hole : Bool} {ls : List (List Str)} {i : Nat} (hil : i < ls.length) : fbad rows hole (ls.drop i) = match due rows hole ls[i] with | some x => some x | none => fbad rows hole (ls.drop (i + 1)) := by
  rw [List.drop_eq_getElem_cons hil]
  unfold fbad
  rw [List.findSome?_cons]
  cases due rows hole ls[i] <;> rfl
section
variable {P : Program} {w : World} {K : PySem.W.Frag} {mg : Str → Option Value} {base : Heap} {C : Addr} {A : XA}
end
end Sh
end
section
set_option Elab.async false
set_option linter.all false
set_option maxRecDepth 100000
set_option maxHeartbeats 2000000
set_option autoImplicit false
namespace Sh
open PySem PySem.Spec PyProof.Rows L2
open C8 (pss_cut tCut)
open Evl (ixN_nat)
/-- what parts gives -/
def PartsV (H : Hp) (v : V) (o : Option (List (List Str))) : Prop := match o with
  | none => v = .non
  | some ps => ∃ q ts, v = .ref q ∧ H q = some (.tup (ts.map V.ref)) ∧ TsAt sV H ts ps
abbrev parts (rows : List Row) (l m : List Str) : Option (List (List Str)) := Mth.prt (wR rows) ("*" : Str) m l 0 []
def spPartsIn (C : Addr) : Sp := fun vs H Q _ => ∃ (b s t : Addr) (rows : List Row) (l m : List Str), vs = [.ref b, .ref s, .ref t] ∧ BedAt C H b rows ∧ ROk 8 rows ∧ Tq H s (l.map V.str) ∧ StumpOk rows l ∧ Tq H t (m.map V.str) ∧ StumpOk rows m ∧ ∀ H' v, Same H H' → PartsV H' v (parts rows l m) → Q v H'
def spPartsFrom : Sp := fun vs H Q _ => ∃ (s t e : Addr) (p : Nat) (rows : List Row) (l m : List Str), vs = [.ref s, .ref t, .ref e, .int (p : Nat)] ∧ ROk 8 rows ∧ Tq H s (l.map V.str) ∧ StumpOk rows l ∧ Tq H t (m.map V.str) ∧ WfOk rows m ∧ p < m.length ∧ EndsAt H e rows m ∧ ∀ H' v, Same H H' → PartsV H' v (Mth.prt (wR rows) ("*" : Str) m l p []) → Q v H'
/-- two stumps, both checked -/
def spSt2 (C : Addr) (A : XA) (f : List Row → List Str → List Str → VK → Hp → Prop) : Sp := fun vs H Q E => ∃ (b s t : Addr) (rows : List Row) (l m : List Str), vs = [.ref b, .ref s, .ref t] ∧ BedAt C H b rows ∧ ROk 8 rows ∧ Tq H s (l.map V.str) ∧ l.length ≤ 6000 ∧ Tq H t (m.map V.str) ∧ m.length ≤ 6000 ∧
  Way A E H (fbad rows true [l, m]) (f rows l m Q H)
def fParts (rows : List Row) (l m : List Str) (Q : VK) (H : Hp) : Prop := ∀ H' v, Same H H' → PartsV H' v (parts rows l m) → Q v H'
def fBegins (rows : List Row) (l m : List Str) (Q : VK) (H : Hp) : Prop := ∀ H', Same H H' → Q (.bl (parts rows l m).isSome) H'
/-- a pair of branches that stand at one place -/
def PairOk (rows : List Row) (q : List Str × List Str) : Prop := (∃ z, q.1 = [z] ∧ q.2 = [z]) ∨ ∃ x y a b, q.1 = x :: a ∧ q.2 = y :: b ∧ x ≠ y ∧ Mth.forest (wR rows) (x :: a) 1 = true ∧ Mth.forest (wR rows) (y :: b) 1 = true
theorem PairOk.pos {rows : List Row} {q : List Str × List Str} (h : PairOk rows q) : 0 < q.1.length ∧ 0 < q.2.length := by
  rcases h with ⟨z, a, b⟩ | ⟨x, y, a, b, e1, e2, _⟩
  · rw [a, b]; exact ⟨Nat.one_pos, Nat.one_pos⟩
  · rw [e1, e2]; exact ⟨Nat.succ_pos _, Nat.succ_pos _⟩
structure CmpOk (rows : List Row) (l m : List Str) (ps : List (List Str × List Str)) : Prop where
  ok : ∀ q ∈ ps, PairOk rows q
  e1 : (ps.map (·.1)).flatten = l
  e2 : (ps.map (·.2)).flatten = m
def PrsAt (H : Hp) (D : Addr) (ps : List (List Str × List Str)) : Prop := ∃ ts : List Addr, H D = some (.lst (ts.map V.ref)) ∧ ts.length = ps.length ∧ ∀ (i : Nat) (t : Addr) (q : List Str × List Str), ts[i]? = some t → ps[i]? = some q → ∃ a b, Tq H t [.ref a, .ref b] ∧ Tq H a (sV q.1) ∧ Tq H b (sV q.2)
def spCmp (C : Addr) : Sp := fun vs H Q _ => ∃ (b s t : Addr) (rows : List Row) (l m : List Str), vs = [.ref b, .ref s, .ref t] ∧ BedAt C H b rows ∧ ROk 8 rows ∧ Tq H s (l.map V.str) ∧ WfOk rows l ∧ Tq H t (m.map V.str) ∧ WfOk rows m ∧ ∀ H' D ps, Same H H' → H D = none → PrsAt H' D ps → CmpOk rows l m ps → Q (.ref D) H'
section
variable {P : Program} {w : World} {K : PySem.W.Frag} {mg : Str → Option Value} {base : Heap} {C : Addr} {A : XA}
theorem two_at {H : Hp} {s t : Addr} {l m : List Str} (hs : Tq H s (l.map V.str)) (ht : Tq H t (m.map V.str)) : TsAt sV H [s, t] [l, m] := by
  refine ⟨rfl, fun i u x a b => ?_⟩
  match i, a, b with
  | 0, a, b => cases a; cases b; exact hs
  | 1, a, b => cases a; cases b; exact ht
  | i + 2, a, _ => simp at a
theorem fbad2 {rows : List Row} {l m : List Str} (h : fbad rows true [l, m] = none) : due rows true l = none ∧ due rows true m = none := ⟨fbad_none h l (by simp), fbad_none h m (by simp)⟩
end
end Sh
end
section
set_option linter.all false
set_option autoImplicit false
namespace Mth
variable {α : Type} (w : α → Nat)
theorem nxs_all {l : List α} (h : forest w l 1 = true) : nxs w l 0 1 = l.length := by
  have q := forest_skip w l 1 0 h
  have e := forest_zero w q
  unfold nxs
  rw [List.drop_zero, e]
  rfl
theorem cut_forest {l : List α} (h : forest w l 1 = true) {p : Nat} (hp : p < l.length) : forest w (cut w l p) 1 = true := by
  obtain ⟨m, F⟩ := Fst.all w h p (Nat.le_of_lt hp)
  obtain ⟨n, rfl⟩ := F.pos w hp
  have q := forest_take w (l.drop p) 1 n (by rw [Nat.add_comm]; exact F.2)
  unfold cut nxs
  have e : l.length - (skip w (l.drop p) 1).length - p = (l.drop p).length - (skip w (l.drop p) 1).length := by
    rw [List.length_drop]
    omega
  rw [e]
  exact q
theorem cut_len (l : List α) (p : Nat) : (cut w l p).length ≤ l.length := by
  unfold cut
  rw [List.length_take, List.length_drop]
  omega
theorem cut_mem {l : List α} {p : Nat} {z : α} (h : z ∈ cut w l p) : z ∈ l := List.mem_of_mem_drop (List.mem_of_mem_take h)
theorem brs_flat {l : List α} (h : forest w l 1 = true) {p : Nat} {k : α} (hk : l[p]? = some k) : ∀ c, c ≤ w k → (brs w l p c).flatten = (l.drop (p + 1)).take (nxs w l (p + 1) c - (p + 1))
  | 0, _ => by
    have hp := (List.getElem?_eq_some_iff.mp hk).1
    rw [nxs_zero w hp, Nat.sub_self, List.take_zero]
    rfl
  | c + 1, hc => by
    obtain ⟨m1, m2, m3⟩ := end_step w h hk (t := c) (by omega)
    rw [brs_succ, List.flatten_append, brs_flat h hk c (by omega), List.flatten_singleton]
    have g := nxs_ge w l 1 (Nat.le_of_lt m1)
    rw [m3] at g
    unfold cut
    rw [m3, show nxs w l (p + 1) (c + 1) - (p + 1) = (nxs w l (p + 1) c - (p + 1)) + (nxs w l (p + 1) (c + 1) - nxs w l (p + 1) c) by omega, List.take_add, List.drop_drop]
    congr 3
    omega
theorem brs_all {l : List α} (h : forest w l 1 = true) {k : α} (hk : l[0]? = some k) : k :: (brs w l 0 (w k)).flatten = l := by
  have hp := (List.getElem?_eq_some_iff.mp hk).1
  rw [brs_flat w h hk _ (Nat.le_refl _), end_last w hk, nxs_all w h, List.take_of_length_le (by rw [List.length_drop]; omega)]
  have e := (List.getElem?_eq_some_iff.mp hk).2
  cases l with
  | nil => cases hp
  | cons a r =>
    have e2 : a = k := e
    rw [e2]
    rfl
theorem put_cut (l : List α) (p : Nat) (h : p ≤ l.length) : l.take p ++ cut w l p ++ l.drop (nxs w l p 1) = l := by
  have g := nxs_ge w l 1 h
  unfold cut
  have e : l.drop p = (l.drop p).take (nxs w l p 1 - p) ++ l.drop (nxs w l p 1) := by
    have q := (List.take_append_drop (nxs w l p 1 - p) (l.drop p)).symm
    rw [List.drop_drop, show p + (nxs w l p 1 - p) = nxs w l p 1 by omega] at q
    exact q
  rw [List.append_assoc, ← e, List.take_append_drop]
theorem forest_swap {a o r : List α} (ha : forest w a 1 = true) (ho : forest w o 1 = true) : ∀ (pre : List α) (n : Nat), forest w (pre ++ (a ++ r)) n = true → forest w (pre ++ (o ++ r)) n = true
  | [], n, h => by
    have hn : ∃ m, n = m + 1 := by
      cases n with
      | succ m => exact ⟨m, rfl⟩
      | zero =>
        have e : a ++ r = [] := forest_zero w h
        have e2 : a = [] := (List.append_eq_nil_iff.mp e).1
        exact absurd e2 (forest_pos w ha)
    obtain ⟨m, rfl⟩ := hn
    have q := forest_skip w (a ++ r) 1 m (by rw [Nat.add_comm]; exact h)
    rw [skip_app w a r 1 ha] at q
    have z := forest_app w o r 1 m ho q
    rw [Nat.add_comm] at z
    exact z
  | k :: pre, 0, h => by cases h
  | k :: pre, n + 1, h => forest_swap ha ho pre (w k + n) h
def pu (l : List α) (p : Nat) (o : List α) : List α := l.take p ++ o ++ l.drop (nxs w l p 1)
theorem pu_forest {l o : List α} (h : forest w l 1 = true) (ho : forest w o 1 = true) {p : Nat} (hp : p < l.length) : forest w (pu w l p o) 1 = true := by
  unfold pu
  rw [List.append_assoc]
  refine forest_swap w (cut_forest w h hp) ho (l.take p) 1 ?_
  rw [← List.append_assoc, put_cut w l p (Nat.le_of_lt hp)]
  exact h
theorem pu_drop {l o : List α} {p : Nat} (hp : p < l.length) : (pu w l p o).drop p = o ++ l.drop (nxs w l p 1) := by
  unfold pu
  rw [List.append_assoc, List.drop_append_of_le_length (by rw [List.length_take]; omega), List.drop_take, Nat.sub_self, List.take_zero, List.nil_append]
theorem pu_take {l o : List α} {p : Nat} (hp : p < l.length) : (pu w l p o).take p = l.take p := by
  unfold pu
  rw [List.append_assoc, List.take_append_of_le_length (by rw [List.length_take]; omega), List.take_take, Nat.min_self]
theorem pu_nxs {l o : List α} (ho : forest w o 1 = true) {p : Nat} (hp : p < l.length) : nxs w (pu w l p o) p 1 = p + o.length := by
  unfold nxs
  rw [pu_drop w hp, skip_app w o _ 1 ho]
  unfold pu
  rw [List.length_append, List.length_append, List.length_take]
  omega
theorem pu_cut {l o : List α} (ho : forest w o 1 = true) {p : Nat} (hp : p < l.length) : cut w (pu w l p o) p = o := by
  unfold cut
  rw [pu_nxs w ho hp, pu_drop w hp, show p + o.length - p = o.length by omega, List.take_left']
  rfl
theorem pu_back {l o : List α} (ho : forest w o 1 = true) {p : Nat} (hp : p < l.length) : pu w (pu w l p o) p (cut w l p) = l := by
  show (pu w l p o).take p ++ cut w l p ++ (pu w l p o).drop (nxs w (pu w l p o) p 1) = l
  rw [pu_take w hp, pu_nxs w ho hp]
  have e : (pu w l p o).drop (p + o.length) = l.drop (nxs w l p 1) := by
    rw [← List.drop_drop, pu_drop w hp, List.drop_left']
    rfl
  rw [e]
  exact put_cut w l p (Nat.le_of_lt hp)
theorem pu_self {l : List α} {p : Nat} (hp : p < l.length) : pu w l p (cut w l p) = l := put_cut w l p (Nat.le_of_lt hp)
theorem walkI_nat (l : List α) : ∀ (cs : List Nat) (p : Nat), walkI w l p (cs.map fun n => ((n : Nat) : Int)) = walk w l p cs
  | [], p => rfl
  | c :: cs, p => by
    show (if 0 ≤ ((c : Nat) : Int) ∧ ((c : Nat) : Int) < (wd w l p : Int) then walkI w l (nxs w l (p + 1) ((c : Nat) : Int).toNat) (cs.map fun n => ((n : Nat) : Int)) else none) = walk w l p (c :: cs)
    unfold walk wd
    rw [Int.toNat_natCast, walkI_nat l cs]
    cases l[p]? with
    | none => exact if_neg (by simp)
    | some k =>
      by_cases h : c < w k
      · exact (if_pos (show 0 ≤ ((c : Nat) : Int) ∧ ((c : Nat) : Int) < ((w k : Nat) : Int) from ⟨by omega, by omega⟩)).trans (if_pos h).symm
      · exact (if_neg (show ¬ (0 ≤ ((c : Nat) : Int) ∧ ((c : Nat) : Int) < ((w k : Nat) : Int)) from fun q => by omega)).trans (if_neg h).symm
theorem walkI_app (l : List α) : ∀ (a : List Int) (p : Nat) (b : List Int), walkI w l p (a ++ b) = (walkI w l p a).bind fun q => walkI w l q b
  | [], p, b => rfl
  | c :: a, p, b => by
    show (if 0 ≤ c ∧ c < (wd w l p : Int) then walkI w l (nxs w l (p + 1) c.toNat) (a ++ b) else none) = (if 0 ≤ c ∧ c < (wd w l p : Int) then walkI w l (nxs w l (p + 1) c.toNat) a else none).bind fun q => walkI w l q b
    by_cases h : 0 ≤ c ∧ c < (wd w l p : Int)
    · rw [if_pos h, if_pos h]
      exact walkI_app l a _ b
    · rw [if_neg h, if_neg h]
      rfl
theorem walk_pu {l o : List α} (h : forest w l 1 = true) {p : Nat} (hp : p < l.length) : walk w (pu w l p o) 0 (pth w l p) = some p := by
  have q := pth_walk w h hp
  have hl : (l.take p).length = p := by rw [List.length_take]; omega
  have e : l = l.take p ++ l.drop p := (List.take_append_drop p l).symm
  have hy : l.drop p ≠ [] := fun e => by
    have := congrArg List.length e
    rw [List.length_drop] at this
    simp at this
    omega
  have z := walk_swap (w := w) (pre := l.take p) (y := l.drop p) (y' := o ++ l.drop (nxs w l p 1)) hy (pth w l p) [] (l.take p) rfl (by rw [← e, hl]; exact q)
  rw [hl] at z
  unfold pu
  rw [List.append_assoc]
  exact z
end Mth
end
section
set_option Elab.async false
set_option linter.all false
set_option maxRecDepth 100000
set_option maxHeartbeats 2000000
set_option autoImplicit false
namespace Sh
open PySem PySem.Spec PyProof.Rows L2
open C8 (pss_cut tCut)
open Evl (ixN_nat)
/-! ### tuples of texts compared -/
def stD (l : List Str) : PyData := .tuple (l.map PyData.str)
theorem dp_strs {K : PySem.W.Frag} {H : Hp} : ∀ l : List Str, DpAll K H (sV l) (l.map PyData.str)
  | [] => .nil
  | _ :: l => .cons (.str _) (dp_strs l)
def okT (z : Str) : Bool := z.cps.all (· < 0x110000)
theorem lay_strs : ∀ l : List Str, (∀ z ∈ l, okT z = true) → PyData.canLayAll0 (l.map PyData.str) = true
  | [], _ => rfl
  | a :: l, h => by
    show (okT a && PyData.canLayAll0 (l.map PyData.str)) = true
    rw [lay_strs l fun z hz => h z (List.mem_cons_of_mem _ hz), h a List.mem_cons_self]
    rfl
theorem okT_nm {z : Str} (h : IsNm z) : okT z = true := by
  unfold okT
  rw [Array.all_eq_true_iff_forall_mem]
  intro c hc
  have := h.2.2 c (by simpa using hc)
  exact decide_eq_true (by omega)
theorem StumpOk.okT {rows : List Row} (R : ROk 8 rows) {l : List Str} (O : StumpOk rows l) : ∀ z ∈ l, okT z = true := fun z hz => by
  rcases O.k z hz with e | ⟨q, hq, e⟩
  · rw [e]
    decide +kernel
  · rw [← e]
    exact okT_nm (R.nm q hq)
theorem dep_strs : ∀ l : List Str, PyData.depthAll (l.map PyData.str) = 0
  | [] => rfl
  | _ :: l => by
    show max 0 (PyData.depthAll (l.map PyData.str)) = 0
    rw [dep_strs l]
    rfl
theorem stD_shaped {l : List Str} (h : ∀ z ∈ l, okT z = true) : SeqAt.shaped (stD l) = true := by
  show (PyData.canLayAll0 (l.map PyData.str) && decide (PyData.depthAll (l.map PyData.str) + 1 ≤ 64)) = true
  rw [lay_strs l h, dep_strs l]
  rfl
theorem eqv_strs : ∀ l m : List Str, PyData.eqvAll (l.map PyData.str) (m.map PyData.str) = decide (l = m)
  | [], [] => rfl
  | [], _ :: _ => rfl
  | _ :: _, [] => rfl
  | a :: l, b :: m => by
    show ((a == b) && PyData.eqvAll (l.map PyData.str) (m.map PyData.str)) = _
    rw [eqv_strs l m]
    by_cases h : a = b
    · by_cases h2 : l = m <;> simp [h, h2]
    · simp [h]
theorem stD_eqv (l m : List Str) : PyData.eqv (stD l) (stD m) = decide (l = m) := eqv_strs l m
theorem dp_of {K : PySem.W.Frag} {H : Hp} {a : Addr} {l : List Str} (h : Tq H a (sV l)) : Dp K H (.ref a) (stD l) := .tup h.sq (dp_strs l)
/-! ### what is common, what is united -/
def shr : List (List Str × List Str) → List Str
  | [] => []
  | q :: r => (if q.1 = q.2 then q.1 else ["*"]) ++ shr r
/-- the two differ and neither is a hole -/
def clash (q : List Str × List Str) : Prop := q.1 ≠ q.2 ∧ ¬ (q.1.head? = some ("*" : Str) ∨ q.2.head? = some ("*" : Str))
instance (q : List Str × List Str) : Decidable (clash q) := inferInstanceAs (Decidable (_ ∧ _))
def uni : List (List Str × List Str) → List Str
  | [] => []
  | q :: r => (if q.1.head? = some ("*" : Str) then q.2 else q.1) ++ uni r
theorem shr_app : ∀ ps qs : List (List Str × List Str), shr (ps ++ qs) = shr ps ++ shr qs
  | [], _ => rfl
  | q :: r, qs => by
    show (if q.1 = q.2 then q.1 else ["*"]) ++ shr (r ++ qs) = ((if q.1 = q.2 then q.1 else ["*"]) ++ shr r) ++ shr qs
    rw [shr_app r qs, List.append_assoc]
theorem uni_app : ∀ ps qs : List (List Str × List Str), uni (ps ++ qs) = uni ps ++ uni qs
  | [], _ => rfl
  | q :: r, qs => by
    show (if q.1.head? = some ("*" : Str) then q.2 else q.1) ++ uni (r ++ qs) = ((if q.1.head? = some ("*" : Str) then q.2 else q.1) ++ uni r) ++ uni qs
    rw [uni_app r qs, List.append_assoc]
theorem uni_le : ∀ ps : List (List Str × List Str), (uni ps).length ≤ (ps.map (·.1)).flatten.length + (ps.map (·.2)).flatten.length
  | [] => Nat.zero_le _
  | q :: r => by
    have ih := uni_le r
    have e : uni (q :: r) = (if q.1.head? = some ("*" : Str) then q.2 else q.1) ++ uni r := rfl
    rw [e, List.map_cons, List.map_cons, List.flatten_cons, List.flatten_cons, List.length_append, List.length_append, List.length_append]
    split <;> omega
theorem shr_le {rows : List Row} : ∀ ps : List (List Str × List Str), (∀ q ∈ ps, PairOk rows q) → (shr ps).length ≤ (ps.map (·.1)).flatten.length
  | [], _ => Nat.zero_le _
  | q :: r, h => by
    have ih := shr_le r fun x hx => h x (List.mem_cons_of_mem _ hx)
    have p := (h q List.mem_cons_self).pos
    have e : shr (q :: r) = (if q.1 = q.2 then q.1 else ["*"]) ++ shr r := rfl
    rw [e, List.map_cons, List.flatten_cons, List.length_append, List.length_append]
    split
    · omega
    · rw [List.length_singleton]
      omega
theorem w_star {rows : List Row} {m : Int} (R : ROk m rows) : wR rows "*" = 0 := by
  rcases nm_case R ("*" : Str) with q | q
  · exact q.2.1
  · have := nm_star R
    omega
theorem PairOk.other {rows : List Row} {q : List Str × List Str} (h : PairOk rows q) (n : q.1 ≠ q.2) : Mth.forest (wR rows) q.1 1 = true ∧ Mth.forest (wR rows) q.2 1 = true := by
  rcases h with ⟨z, a, b⟩ | ⟨x, y, a, b, e1, e2, _, f1, f2⟩
  · exact absurd (a.trans b.symm) n
  · rw [e1, e2]
    exact ⟨f1, f2⟩
theorem shr_forest {rows : List Row} {m : Int} (R : ROk m rows) : ∀ (ps : List (List Str × List Str)) (pre : List Str), (∀ q ∈ ps, PairOk rows q) → Mth.forest (wR rows) (pre ++ (ps.map (·.1)).flatten) 1 = true → Mth.forest (wR rows) (pre ++ shr ps) 1 = true
  | [], _, _, h => h
  | q :: r, pre, hp, h => by
    rw [List.map_cons, List.flatten_cons] at h
    have e : shr (q :: r) = (if q.1 = q.2 then q.1 else ["*"]) ++ shr r := rfl
    rw [e]
    have hr := fun x hx => hp x (List.mem_cons_of_mem _ hx)
    by_cases c : q.1 = q.2
    · rw [if_pos c, ← List.append_assoc]
      exact shr_forest R r _ hr (by rw [List.append_assoc]; exact h)
    · rw [if_neg c, ← List.append_assoc]
      refine shr_forest R r _ hr ?_
      rw [List.append_assoc]
      refine Mth.forest_swap (wR rows) ((hp q List.mem_cons_self).other c).1 ?_ pre 1 h
      unfold Mth.forest
      rw [w_star R]
      rfl
theorem shr_mem {rows : List Row} : ∀ {ps : List (List Str × List Str)} {z : Str}, z ∈ shr ps → z = "*" ∨ z ∈ (ps.map (·.1)).flatten
  | [], _, h => nomatch h
  | q :: r, z, h => by
    have e : shr (q :: r) = (if q.1 = q.2 then q.1 else ["*"]) ++ shr r := rfl
    rw [e] at h
    rw [List.map_cons, List.flatten_cons]
    rcases List.mem_append.mp h with h | h
    · split at h
      · exact .inr (List.mem_append_left _ h)
      · exact .inl (List.mem_singleton.mp h)
    · rcases shr_mem (rows := rows) h with h | h
      · exact .inl h
      · exact .inr (List.mem_append_right _ h)
theorem shr_ok {rows : List Row} (R : ROk 8 rows) {l m : List Str} {ps : List (List Str × List Str)} (O : StumpOk rows l) (c : CmpOk rows l m ps) : StumpOk rows (shr ps) := by
  refine ⟨?_, fun z hz => ?_, ?_⟩
  · exact shr_forest R ps [] c.ok (by rw [List.nil_append, c.e1]; exact O.f)
  · rcases shr_mem (rows := rows) hz with h | h
    · exact .inl h
    · rw [c.e1] at h
      exact O.k z h
  · have q := shr_le ps c.ok
    rw [c.e1] at q
    have := O.sz
    omega
section
variable {P : Program} {w : World} {K : PySem.W.Frag} {mg : Str → Option Value} {base : Heap} {C : Addr} {A : XA}
end
end Sh
end
section
set_option Elab.async false
set_option linter.all false
set_option maxRecDepth 100000
set_option maxHeartbeats 2000000
set_option autoImplicit false
namespace Sh
open PySem PySem.Spec PyProof.Rows L2
open C8 (pss_cut tCut)
open Evl (ixN_nat)
def spShared (C : Addr) : Sp := fun vs H Q _ => ∃ (b s t : Addr) (rows : List Row) (l m : List Str), vs = [.ref b, .ref s, .ref t] ∧ BedAt C H b rows ∧ ROk 8 rows ∧ Tq H s (l.map V.str) ∧ StumpOk rows l ∧ Tq H t (m.map V.str) ∧ StumpOk rows m ∧ ∀ H' q ps, Same H H' → CmpOk rows l m ps → Tz H' q (sV (shr ps)) → Q (.ref q) H'
/-- the common stump of the first and the others -/
def ComR (rows : List Row) : List Str → List (List Str) → List Str → Prop
  | l, [], c => c = l
  | l, m :: ms, c => ∃ ps, CmpOk rows l m ps ∧ ComR rows (shr ps) ms c
def spCommon (C : Addr) (A : XA) : Sp := fun vs H Q E => ∃ (b s p : Addr) (rows : List Row) (l : List Str) (ts : List Addr) (ms : List (List Str)), vs = [.ref b, .ref s, .ref p] ∧ BedAt C H b rows ∧ ROk 8 rows ∧ Tq H s (l.map V.str) ∧ l.length ≤ 6000 ∧ Tq H p (ts.map V.ref) ∧ TsAt sV H ts ms ∧ (∀ x ∈ ms, x.length ≤ 6000) ∧ ms.length ≤ 20 ∧
  Way A E H (fbad rows true (l :: ms)) (∀ H' q c, Same H H' → ComR rows l ms c → Tq H' q (sV c) → (ms ≠ [] → Tz H' q (sV c)) → Q (.ref q) H')
def clashes (ps : List (List Str × List Str)) : Prop := ∃ q ∈ ps, clash q
instance (ps : List (List Str × List Str)) : Decidable (clashes ps) := inferInstanceAs (Decidable (∃ q, q ∈ ps ∧ clash q))
theorem CmpOk.mem1 {rows : List Row} {l m : List Str} {ps : List (List Str × List Str)} (c : CmpOk rows l m ps) {q : List Str × List Str} (h : q ∈ ps) {z : Str} (hz : z ∈ q.1) : z ∈ l := by
  rw [← c.e1]
  exact List.mem_flatten.mpr ⟨q.1, List.mem_map_of_mem (f := (·.1)) h, hz⟩
theorem CmpOk.mem2 {rows : List Row} {l m : List Str} {ps : List (List Str × List Str)} (c : CmpOk rows l m ps) {q : List Str × List Str} (h : q ∈ ps) {z : Str} (hz : z ∈ q.2) : z ∈ m := by
  rw [← c.e2]
  exact List.mem_flatten.mpr ⟨q.2, List.mem_map_of_mem (f := (·.2)) h, hz⟩
theorem flat_take {α : Type} (ls : List (List α)) (i : Nat) : (ls.take i).flatten.length ≤ ls.flatten.length := by
  conv => rhs; rw [← List.take_append_drop i ls, List.flatten_append, List.length_append]
  omega
theorem PrsAt.at {H : Hp} {D : Addr} {ps : List (List Str × List Str)} (h : PrsAt H D ps) : ∃ ts : List Addr, H D = some (.lst (ts.map V.ref)) ∧ (ts.map V.ref).length = ps.length ∧ ∀ (i : Nat) (hi : i < ps.length), ∃ t a b, (ts.map V.ref)[i]? = some (.ref t) ∧ Tq H t [.ref a, .ref b] ∧ Tq H a (sV ps[i].1) ∧ Tq H b (sV ps[i].2) := by
  obtain ⟨ts, t1, t2, t3⟩ := h
  refine ⟨ts, t1, by rw [List.length_map, t2], fun i hi => ?_⟩
  have ht : i < ts.length := by omega
  obtain ⟨a, b, y1, y2, y3⟩ := t3 i ts[i] ps[i] (List.getElem?_eq_getElem ht) (List.getElem?_eq_getElem hi)
  exact ⟨ts[i], a, b, by rw [List.getElem?_map, List.getElem?_eq_getElem ht]; rfl, y1, y2, y3⟩
/-- the union of two stumps, read from left to right -/
inductive Un (w : Str → Nat) : List Str → List Str → Option (List Str) → Prop
  | nil (r : List Str) : Un w r [] (some [])
  | same (a : Str) (l m : List Str) (o : Option (List Str)) : Un w l m o → Un w (a :: l) (a :: m) (o.map fun u => [a] ++ u)
  | right (t l m : List Str) (o : Option (List Str)) : Mth.forest w t 1 = true → t.head? ≠ some "*" → Un w l m o → Un w (t ++ l) ("*" :: m) (o.map fun u => t ++ u)
  | left (t l m : List Str) (o : Option (List Str)) : Mth.forest w t 1 = true → t.head? ≠ some "*" → Un w l m o → Un w ("*" :: l) (t ++ m) (o.map fun u => t ++ u)
  | clash (a b : Str) (l m : List Str) : a ≠ b → a ≠ "*" → b ≠ "*" → Un w (a :: l) (b :: m) none
theorem Un.le {w : Str → Nat} {l m : List Str} {o : Option (List Str)} (h : Un w l m o) : ∀ u, o = some u → u.length ≤ l.length + m.length := by
  induction h with
  | nil r => intro u e; cases e; exact Nat.zero_le _
  | same a l m o h ih =>
    intro u e
    cases o with
    | none => cases e
    | some v =>
      cases e
      have := ih v rfl
      simp only [List.length_append, List.length_cons, List.length_nil]
      omega
  | right t l m o ht h1 h ih =>
    intro u e
    cases o with
    | none => cases e
    | some v =>
      cases e
      have := ih v rfl
      simp only [List.length_append, List.length_cons]
      omega
  | left t l m o ht h1 h ih =>
    intro u e
    cases o with
    | none => cases e
    | some v =>
      cases e
      have := ih v rfl
      simp only [List.length_append, List.length_cons]
      omega
  | clash a b l m h1 h2 h3 => intro u e; cases e
def UnV (H : Hp) (v : V) (o : Option (List Str)) : Prop := match o with
  | none => v = .non
  | some u => ∃ q, v = .ref q ∧ H q = some (.lst (sV u))
def spUnionOf : Sp := fun vs H Q _ => ∃ (s d t e : Addr) (p : Nat) (rows : List Row) (l m : List Str), vs = [.ref s, .ref d, .int (p : Nat), .ref t, .ref e] ∧ ROk 8 rows ∧ Tq H s (l.map V.str) ∧ WfOk rows l ∧ p < l.length ∧ Tq H t (m.map V.str) ∧ WfOk rows m ∧ EndsAt H d rows l ∧ EndsAt H e rows m ∧ ∀ H' v o, Same H H' → Un (wR rows) (l.drop p) m o → UnV H' v o → Q v H'
def spUnited (C : Addr) (A : XA) : Sp := fun vs H Q E => ∃ (b s t : Addr) (rows : List Row) (l m : List Str), vs = [.ref b, .ref s, .ref t] ∧ BedAt C H b rows ∧ ROk 8 rows ∧ Tq H s (l.map V.str) ∧ l.length ≤ 6000 ∧ Tq H t (m.map V.str) ∧ m.length ≤ 6000 ∧
  Way A E H (fbad rows true [l, m]) (∀ o, Un (wR rows) l m o → (o = none → ∀ H', Same H H' → Q .non H') ∧ (∀ u, o = some u → (2000 < u.length → Rz A E H .many) ∧ (u.length ≤ 2000 → ∀ H' q, Same H H' → Tz H' q (sV u) → Q (.ref q) H')))
section
variable {P : Program} {w : World} {K : PySem.W.Frag} {mg : Str → Option Value} {base : Heap} {C : Addr} {A : XA}
theorem head_of {x : Str} {a : List Str} : (x :: a).head? = some ("*" : Str) ↔ x = "*" := by
  rw [List.head?_cons]
  exact ⟨fun h => Option.some.inj h, fun h => by rw [h]⟩
theorem drop_cut {w : Str → Nat} {l : List Str} {p : Nat} (h : p < l.length) : l.drop p = Mth.cut w l p ++ l.drop (Mth.nxs w l p 1) := by
  unfold Mth.cut
  have h2 := Mth.nxs_ge w l 1 (Nat.le_of_lt h)
  have e : l.drop (Mth.nxs w l p 1) = (l.drop p).drop (Mth.nxs w l p 1 - p) := by rw [List.drop_drop]; congr 1; omega
  rw [e, List.take_append_drop]
theorem cut_head {w : Str → Nat} {l : List Str} {p : Nat} (h : p < l.length) : (Mth.cut w l p).head? = some l[p] := by
  unfold Mth.cut
  have h2 : p < Mth.nxs w l p 1 := Mth.nxs_gt w 0 h
  obtain ⟨z, hz⟩ : ∃ z, Mth.nxs w l p 1 - p = z + 1 := ⟨Mth.nxs w l p 1 - p - 1, by omega⟩
  rw [hz, List.drop_eq_getElem_cons h, List.take_succ_cons]
  rfl
end
end Sh
end
section
set_option Elab.async false
set_option linter.all false
set_option maxRecDepth 100000
set_option maxHeartbeats 2000000
namespace Sh
open PySem PySem.Spec PyProof.Rows L2
/-! ### lists beside the empty list -/
theorem eqvE : ∀ ds : List PyData, PyData.eqv (.list ds) (.list []) = ds.isEmpty
  | [] => by simp [PyData.eqv, PyData.eqvAll]
  | _ :: _ => by simp [PyData.eqv, PyData.eqvAll]
theorem dp_nil {K : PySem.W.Frag} {H : Hp} {a : Addr} (h : H a = some (.lst [])) : Dp K H (.ref a) (.list []) := .lst (SqL.of h) .nil
theorem dpa_map {α : Type} {K : PySem.W.Frag} {H : Hp} {f : α → V} {g : α → PyData} (h : ∀ x, Dp K H (f x) (g x)) : ∀ xs : List α, DpAll K H (xs.map f) (xs.map g)
  | [] => .nil
  | x :: r => .cons (h x) (dpa_map h r)
theorem dp_ints {K : PySem.W.Frag} {H : Hp} {a : Addr} {ns : List Int} (h : SqL K H a (ns.map V.int)) : Dp K H (.ref a) (.list (ns.map PyData.int)) := .lst h (dpa_map (fun x => .int x) ns)
theorem dpa_of {α : Type} {K : PySem.W.Frag} {H : Hp} {g : α → PyData} : ∀ {vs : List V} {xs : List α}, vs.length = xs.length → (∀ (i : Nat) (v : V) (x : α), vs[i]? = some v → xs[i]? = some x → Dp K H v (g x)) → DpAll K H vs (xs.map g)
  | [], [], _, _ => .nil
  | v :: vs, x :: xs, hl, h => .cons (h 0 v x rfl rfl) (dpa_of (by simpa using hl) fun i w y a b => h (i + 1) w y a b)
  | [], _ :: _, hl, _ => by simp at hl
  | _ :: _, [], hl, _ => by simp at hl
theorem shp_of {ds : List PyData} (h : ∀ d ∈ ds, d.canLay0 = true ∧ d.depth ≤ 63) : SeqAt.shaped (.list ds) = true := by
  have a : PyData.canLayAll0 ds = true ∧ PyData.depthAll ds ≤ 63 := by
    induction ds with
    | nil => exact ⟨rfl, by decide⟩
    | cons d r ih =>
      obtain ⟨q1, q2⟩ := h d List.mem_cons_self
      obtain ⟨i1, i2⟩ := ih fun x hx => h x (List.mem_cons_of_mem _ hx)
      refine ⟨by simp [PyData.canLayAll0, q1, i1], ?_⟩
      show max (PyData.depth d) (PyData.depthAll r) ≤ 63
      exact Nat.max_le.mpr ⟨q2, i2⟩
  have q : PyData.canLay0 (.list ds) = true := by rw [PyData.canLay0]; exact a.1
  have r : PyData.depth (.list ds) ≤ 64 := by rw [PyData.depth]; omega
  unfold SeqAt.shaped
  rw [q, decide_eq_true r]
  rfl
theorem shp_nil : SeqAt.shaped (.list []) = true := shp_of fun _ h => nomatch h
def rowD (q : Row) : PyData := .tuple [.str q.1, .int q.2]
theorem dp_rows {K : PySem.W.Frag} {H : Hp} {a : Addr} {ts : List Addr} {rows : List Row} (h : SqL K H a (ts.map V.ref)) (x : TupsAt H ts rows) : Dp K H (.ref a) (.list (rows.map rowD)) :=
  .lst h (dpa_of (by rw [List.length_map]; exact x.1) fun i v q hv hq => by
    obtain ⟨t, ht, rfl⟩ := get_map hv
    exact .tup (SqT.of (x.2 i t q ht hq)) (.cons (.str _) (.cons (.int _) .nil)))
theorem shp_rows {rows : List Row} (h : ∀ q ∈ rows, PyData.strOk q.1 = true) : SeqAt.shaped (.list (rows.map rowD)) = true := shp_of fun d hd => by
  obtain ⟨q, hq, rfl⟩ := List.mem_map.mp hd
  simp [rowD, h q hq, PyData.canLay0, PyData.canLayAll0, PyData.depth, PyData.depthAll]
theorem shp_ints (ns : List Int) : SeqAt.shaped (.list (ns.map PyData.int)) = true := shp_of fun d hd => by
  obtain ⟨q, _, rfl⟩ := List.mem_map.mp hd
  simp [PyData.canLay0, PyData.depth]
/-! ### the bag: a list of cells and three numbers -/
def bgM (c : Addr) (z1 z2 z3 : Int) : List V := [.ref c, .int z1, .int z2, .int z3]
def BagM (H : Hp) (a c : Addr) : Prop := c ≠ a ∧ ∃ z1 z2 z3, ∃ cs : List Int, H a = some (.lst (bgM c z1 z2 z3)) ∧ H c = some (.lst (cs.map V.int)) ∧ cs.length ≤ 63
theorem BagM.lsts {H : Hp} {a c : Addr} (h : BagM H a c) : (∃ ys, H a = some (.lst ys)) ∧ ∃ ys, H c = some (.lst ys) := by
  obtain ⟨n, z1, z2, z3, cs, h1, h2, _⟩ := h
  exact ⟨⟨_, h1⟩, _, h2⟩
theorem BagM.same {H H' : Hp} {a c : Addr} (h : BagM H a c) (s : Same H H') : BagM H' a c := by
  obtain ⟨n, z1, z2, z3, cs, h1, h2, l⟩ := h
  exact ⟨n, z1, z2, z3, cs, s _ _ h1, s _ _ h2, l⟩
theorem BagM.ne {a b c : Addr} {H : Hp} (hb : BagM H a c) (h : H b = none) : b ≠ a ∧ b ≠ c := by
  obtain ⟨⟨y, h1⟩, z, h2⟩ := hb.lsts
  subst_vars
  refine ⟨fun e => ?_, fun e => ?_⟩
  · rw [e, h1] at h
    cases h
  · rw [e, h2] at h
    cases h
theorem BagM.upd_ne {a p c : Addr} {H : Hp} {o : HO} (h : BagM H a c) (n : p ≠ a ∧ p ≠ c) : BagM (upd H p o) a c := by
  obtain ⟨nn, z1, z2, z3, cs, h1, h2, l⟩ := h
  exact ⟨nn, z1, z2, z3, cs, by rw [L2.upd_ne (Ne.symm n.1)]; exact h1, by rw [L2.upd_ne (Ne.symm n.2)]; exact h2, l⟩
theorem BagM.new {H : Hp} {a c p : Addr} {o : HO} (h : BagM H a c) (hp : H p = none) : BagM (upd H p o) a c := h.upd_ne (h.ne hp)
theorem TupsAt.sameR {H H' : Hp} {ts : List Addr} {rows : List Row} (x : TupsAt H ts rows) (k : Same H H') : TupsAt H' ts rows := x.keep (TK.of_same k)
theorem Kp.tkM {a c : Addr} {H H' : Hp} (x : Kp a H H') (b : BagM H a c) : TK H H' := fun t xs q => by
  refine x _ _ q fun e => ?_
  obtain ⟨⟨ys, h⟩, _⟩ := b.lsts
  rw [e, h] at q
  cases q
theorem Kp.freeM {a b : Addr} {H H' : Hp} (x : Kp a H H') (h : H' b = none) (n : b ≠ a) : H b = none := by
  cases e : H b with
  | none => rfl
  | some o => rw [x b o e n] at h; cases h
def spBagM (K : PySem.W.Frag) : Sp := fun vs H Q _ => ∃ (a : Addr) (ns : List Int), vs = [.ref a] ∧ SqL K H a (ns.map V.int) ∧ ∀ H' p c, Same H H' → H p = none → H c = none → BagM H' p c → Q (.ref p) H'
def spPick : Sp := fun vs H Q _ => ∃ (a c : Addr) (n : Int), vs = [.ref a, .int n] ∧ BagM H a c ∧ 1 ≤ n ∧ n < 1000000 ∧ ∀ H' d, Kp a H H' → BagM H' a c → 0 ≤ d → d < n → Q (.int d) H'
end Sh
end
section
set_option Elab.async false
set_option linter.all false
set_option maxRecDepth 100000
set_option maxHeartbeats 2000000
namespace Sh
open PySem PySem.Spec PyProof.Rows L2
open C8 (pss_cut tCut)
open Evl (ixN_nat)
abbrev s_law_bag : Stmt := top 33
abbrev N_law_bag : List Str := ["script", "cell"]
theorem sc_law_bag : FnScope N_law_bag ["script"] (defScope s_law_bag) := ⟨rfl, rfl, rfl, by decide +kernel, rfl, by decide +kernel, by decide +kernel⟩
abbrev s_law_pick : Stmt := top 34
abbrev N_law_pick : List Str := ["bag", "limit", "cells", "cell", "once", "twice", "digit"]
theorem sc_law_pick : FnScope N_law_pick ["bag", "limit"] (defScope s_law_pick) := ⟨rfl, rfl, rfl, by decide +kernel, rfl, by decide +kernel, by decide +kernel⟩
section
variable {P : Program} {w : World} {K : PySem.W.Frag} {mg : Str → Option Value} {base : Heap}
theorem ok_bagM (T : Bl mg) (D : Def0 K mg "_law_bag" s_law_bag) : DefOk P w K mg base CX0 1 "_law_bag" (spBagM K) := by
  refine D.ok sc_law_bag (fun vs H Q E h => ?_) (fun _ _ _ _ _ _ us hl => match us, hl with | [_], _ => rfl) (fun f cdv A outer s H vs Q E hr h => ?_)
  · obtain ⟨a, n, rfl, _⟩ := h
    rfl
  · obtain ⟨a, ns, rfl, hs, k⟩ := h
    refine ⟨_, (pss_one (ps_ret (pe_lst (pa_cons (pe_lc (own := [("cell", 1)]) (g := (gName 1)) (tt := tYes) rfl sc_law_bag.nd (pi_list (pe_slice sl_list (pv 0) po_none (po_some pe_int))) (blkOk_by (N := N_law_bag) (sc := defScope s_law_bag) (by decide +kernel)) (fun _ _ _ _ _ => (pg_name (i := 1) sc_law_bag.nd rfl (Or.inl rfl))) (fun _ _ _ _ _ => pts_nil) (fun _ _ _ _ _ => (pe_callTy call_int1 (by rfl) T.b_int (by decide +kernel) (pa_cons (pv 1) pa_nil)))) (pa_cons pe_int (pa_cons pe_int (pa_cons pe_int pa_nil))))))), ?_⟩
    refine ⟨_, rfl, _, rfl, _, _, rfl, hs, fun p hp => ?_⟩
    obtain ⟨m, hm, em⟩ : ∃ m : Nat, m ≤ 63 ∧ cutV (ns.map V.int) none (some 63) = (ns.take m).map V.int := by
      refine ⟨HT.sIx (ns.map V.int).length (ns.map V.int).length (some ((63 : Nat) : Int)), ?_, ?_⟩
      · rw [HT.sIx_nat]
        omega
      · show ((ns.map V.int).drop 0).take (_ - 0) = _
        rw [List.drop_zero, Nat.sub_zero, List.map_take]
        rfl
    have hlm : (ns.take m).length ≤ 63 := by rw [List.length_take]; omega
    generalize ns.take m = cs at em hlm
    have s1 : Same H (upd H p (.lst (cs.map V.int))) := (Same.refl H).upd_new hp
    rw [em]
    refine ⟨p, rfl, ⟨_, SqL.of upd_same⟩, fun D hD => lc_list (xs := cs.map V.int) (fun i H' => Same H H' ∧ H' p = some (.lst (cs.map V.int)) ∧ H D = none ∧ D ≠ p ∧ H' D = some (.lst ((cs.take i).map V.int)))
      ?_ (fun i H' _ ⟨_, q, _⟩ => SqL.of q) ?_ ?_⟩
    · have nDp : D ≠ p := fun e => by rw [e, upd_same] at hD; cases hD
      refine ⟨s1.upd_new hD, by rw [upd_ne (Ne.symm nDp)]; exact upd_same, s1.free hD, nDp, upd_same⟩
    · rintro i x H' hi ⟨q1, q2, q3, q4, q5⟩
      obtain ⟨n, hn, rfl⟩ := get_map hi
      refine ⟨rfl, _, rfl, .inl ⟨_, rfl, _, q5, ?_, q1.upd_own q3, by rw [upd_ne (Ne.symm q4)]; exact q2, q3, q4, ?_⟩⟩
      · rw [List.length_map, List.length_take]
        exact lt_line (by omega)
      · rw [upd_same, ← take_snoc hn, List.map_append]
        rfl
    · rintro H' ⟨q1, q2, q3, q4, q5⟩
      rw [List.length_map, List.take_length] at q5
      refine ⟨le_line (show 4 ≤ 100000 by decide), fun l hl => ?_⟩
      have nlD : l ≠ D := ne_of_none q5 hl |>.symm
      refine k _ _ _ (q1.upd_new hl) (q1.free hl) q3 ⟨Ne.symm nlD, 0, 0, 0, cs, upd_same, by rw [upd_ne (Ne.symm nlD)]; exact q5, hlm⟩
theorem ok_pick (T : Bl mg) (D : Def0 K mg "_law_pick" s_law_pick) : DefOk P w K mg base CX0 1 "_law_pick" spPick := by
  refine D.ok sc_law_pick (fun vs H Q E h => ?_) (fun _ _ _ _ _ _ us hl => match us, hl with | [_, _], _ => rfl) (fun f cdv A outer s H vs Q E hr h => ?_)
  · obtain ⟨a, c, n, rfl, _⟩ := h
    rfl
  · obtain ⟨a, c, n, rfl, ⟨nca, z1, z2, z3, cs, hb, hc, hl⟩, n1, n2, k⟩ := h
    refine ⟨_, (pss_cons (ps_asg (pe_op op_add (pe_ix ix_list (pv 0) pe_int (fun _ _ => rfl)) pe_int) (pg_sub (pv 0) pe_int set_list))
      (pss_cons (ps_set (i := 2) sc_law_pick.nd rfl (Or.inl rfl) (pe_ix ix_list (pv 0) pe_int (fun _ _ => rfl)))
      (pss_cut (ps_if (pt_cmpR op_lt (pe_ix ix_list (pv 0) pe_int (fun _ _ => rfl)) pe_int (nomark _))
        (pss_cons (ps_set (i := 3) sc_law_pick.nd rfl (Or.inl rfl) pe_int)
        (pss_cut (ps_if (pt_cmpR (op_neD hr.units) (pv 2) (pe_lst pa_nil) (nomark _))
          (pss_one (ps_set (i := 3) sc_law_pick.nd rfl (Or.inl rfl) (pe_ix ix_list (pv 2) (pe_op op_mod (pe_callTy call_int1 (by rfl) T.b_int (by decide +kernel) (pa_cons (pe_ix ix_list (pv 0) pe_int (fun _ _ => rfl)) pa_nil)) (pe_callB call_len_seq (by rfl) T.b_len boot_len (pa_cons (pv 2) pa_nil))) (fun _ _ => rfl))))
          pss_nil)
        (pss_cut (ps_if (PW.pt (pw_and (pt_cmpR op_ge (pv 3) (pe_op op_pow pe_int pe_int) (nomark _)) (pw_and1 (pt_cmpR op_lt (pe_ix ix_list (pv 0) pe_int (fun _ _ => rfl)) (pe_callB call_len_seq (by rfl) T.b_len boot_len (pa_cons (pv 2) pa_nil)) (nomark _)))))
          (pss_one (ps_asg (pe_op op_sub (pv 3) (pe_op op_pow pe_int pe_int)) (pg_sub (pv 0) pe_int set_list)))
          pss_nil)
        (pss_cons (ps_asg (pe_op op_add (pe_ix ix_list (pv 0) pe_int (fun _ _ => rfl)) pe_int) (pg_sub (pv 0) pe_int set_list))
        (pss_one (ps_if (pt_cmpR op_lt (pe_ix ix_list (pv 0) pe_int (fun _ _ => rfl)) pe_int (nomark _))
          (pss_cons (ps_set (i := 4) sc_law_pick.nd rfl (Or.inl rfl) (pe_op op_mod (pe_callTy call_int1 (by rfl) T.b_int (by decide +kernel) (pa_cons (pe_op op_add (pe_op op_add (pe_op op_mul (pv 3) pe_int) (pe_op op_mul (pe_ix ix_list (pv 0) pe_int (fun _ _ => rfl)) pe_int)) pe_int) pa_nil)) pe_int))
          (pss_cons (ps_set (i := 5) sc_law_pick.nd rfl (Or.inl rfl) (pe_op op_mod (pe_callTy call_int1 (by rfl) T.b_int (by decide +kernel) (pa_cons (pe_op op_add (pe_op op_mul (pv 4) (pe_op op_add (pe_op op_mod (pe_callTy call_int1 (by rfl) T.b_int (by decide +kernel) (pa_cons (pv 4) pa_nil)) pe_int) (pe_ix ix_list (pv 0) pe_int (fun _ _ => rfl)))) (pe_op op_mul pe_int (pe_ix ix_list (pv 0) pe_int (fun _ _ => rfl)))) pa_nil)) pe_int))
          (pss_one (ps_ret (pe_op op_mod (pe_callTy call_int1 (by rfl) T.b_int (by decide +kernel) (pa_cons (pe_op op_fdiv (pv 5) pe_int) pa_nil)) (pv 1))))))
          pss_nil))))))
        pss_nil)
      (pss_cons (ps_set (i := 6) sc_law_pick.nd rfl (Or.inl rfl) (pe_op op_mod (pe_callTy call_int1 (by rfl) T.b_int (by decide +kernel) (pa_cons (pe_ix ix_list (pv 0) pe_int (fun _ _ => rfl)) pa_nil)) (pv 1)))
      (pss_cons (ps_asg (pe_op op_fdiv (pe_ix ix_list (pv 0) pe_int (fun _ _ => rfl)) (pv 1)) (pg_sub (pv 0) pe_int set_list))
      (pss_one (ps_ret (pv 6)))))))), ?_⟩
    have mk : ∀ (H' : Hp) (y1 y2 y3 : Int), H' a = some (.lst (bgM c y1 y2 y3)) → H' c = some (.lst (cs.map V.int)) → BagM H' a c := fun H' y1 y2 y3 e1 e2 => ⟨nca, y1, y2, y3, cs, e1, e2, hl⟩
    have ix : ∀ (y1 y2 y3 : Int) (j : Nat), j < 4 → ixN (bgM c y1 y2 y3).length (j : Int) = some j := fun _ _ _ j h => ixN_nat (by show j < 4; exact h)
    refine ⟨_, rfl, a, _, _, _, rfl, rfl, SqL.of hb, atI_nat (j := 3) rfl, _, _, rfl, rfl, _, rfl, a, _, _, 3, rfl, rfl, hb, ix _ _ _ 3 (by decide), ?_⟩
    have k1 : Kp a H (upd H a (.lst (bgM c z1 z2 (z3 + 1)))) := (Kp.refl a H).upd
    have hb1 : (upd H a (.lst (bgM c z1 z2 (z3 + 1)))) a = some (.lst (bgM c z1 z2 (z3 + 1))) := upd_same
    have hc1 : (upd H a (.lst (bgM c z1 z2 (z3 + 1)))) c = some (.lst (cs.map V.int)) := k1 _ _ hc nca
    have eset : (bgM c z1 z2 z3).set 3 (.int (z3 + 1)) = bgM c z1 z2 (z3 + 1) := rfl
    generalize hH1 : upd H a (.lst (bgM c z1 z2 (z3 + 1))) = H1 at k1 hb1 hc1
    have hH1' : upd H a (.lst ((bgM c z1 z2 z3).set 3 (.int (z3 + 1)))) = H1 := by rw [eset]; exact hH1
    rw [hH1']
    refine ⟨_, rfl, a, _, _, _, rfl, rfl, SqL.of hb1, atI_nat (j := 0) rfl, ?_⟩
    generalize z3 + 1 = z at hb1
    refine ⟨fun σ H' => ∃ (u v x y : Option V) (y1 y2 y3 : Int), σ = [some (.ref a), some (.int n), some (.ref c), u, v, x, y] ∧ Kp a H H' ∧ H' a = some (.lst (bgM c y1 y2 y3)) ∧ H' c = some (.lst (cs.map V.int)), ?_, ?_⟩
    · refine ⟨_, rfl, a, _, _, _, rfl, rfl, SqL.of hb1, atI_nat (j := 2) rfl, _, _, rfl, rfl, _, rfl, ?_⟩
      refine ite2 (fun _ => ?_) (fun _ => ⟨_, _, _, _, _, _, _, rfl, k1, hb1, hc1⟩)
      refine ⟨fun σ H' => ∃ x : Int, σ = [some (.ref a), some (.int n), some (.ref c), some (.int x), none, none, none] ∧ Kp a H H' ∧ H' a = some (.lst (bgM c z1 z2 z)) ∧ H' c = some (.lst (cs.map V.int)), ?_, ?_⟩
      · refine ⟨_, rfl, le_line (show 0 ≤ 100000 by decide), fun l hl0 => ?_⟩
        have s2 : Same H1 (upd H1 l (.lst [])) := (Same.refl H1).upd_new hl0
        have hb2 := s2 _ _ hb1
        have hc2 := s2 _ _ hc1
        refine ⟨_, _, dp_ints (SqL.of hc2), dp_nil upd_same, shp_ints _, shp_nil, _, rfl, ?_⟩
        refine ite2 (fun he => ?_) (fun _ => ⟨_, rfl, k1.trans (Kp.same s2), hb2, hc2⟩)
        rw [eqvE] at he
        have hpos : 0 < cs.length := by
          cases cs with
          | nil => cases he
          | cons _ _ => exact Nat.succ_pos _
        refine ⟨_, rfl, _, rfl, a, _, _, _, rfl, rfl, SqL.of hb2, atI_nat (j := 1) rfl, .inl ⟨_, rfl, ?_⟩⟩
        have m0 := Int.emod_nonneg z1 (show (cs.length : Int) ≠ 0 by omega)
        have m1 := Int.emod_lt_of_pos z1 (show (0 : Int) < cs.length by omega)
        have hj : (z1 % (cs.length : Int)).toNat < cs.length := by omega
        refine ⟨_, rfl, c, _, rfl, .inl (SqL.of hc2), _, _, rfl, rfl, (by rw [List.length_map]; omega), c, _, _, _, rfl, rfl, SqL.of hc2, int_at (j := (z1 % (cs.length : Int)).toNat) (List.getElem?_eq_getElem hj) (by rw [List.length_map]; omega), ?_⟩
        exact ⟨_, rfl, k1.trans (Kp.same s2), hb2, hc2⟩
      · rintro σ H2 ⟨x, rfl, k2, hb2, hc2⟩
        refine ⟨fun σ H' => ∃ y2 : Int, σ = [some (.ref a), some (.int n), some (.ref c), some (.int x), none, none, none] ∧ Kp a H H' ∧ H' a = some (.lst (bgM c z1 y2 z)) ∧ H' c = some (.lst (cs.map V.int)), ?_, ?_⟩
        · refine ⟨_, rfl, _, _, rfl, rfl, ⟨by decide, by decide, by decide⟩, _, _, rfl, rfl, _, rfl, ?_⟩
          refine ite2 (fun _ => ?_) (fun _ => ⟨_, rfl, k2, hb2, hc2⟩)
          refine ⟨_, rfl, a, _, _, _, rfl, rfl, SqL.of hb2, atI_nat (j := 1) rfl, _, rfl, c, _, rfl, .inl (SqL.of hc2), _, _, rfl, rfl, _, rfl, ?_⟩
          refine ite2 (fun _ => ?_) (fun _ => ⟨_, rfl, k2, hb2, hc2⟩)
          refine ⟨_, rfl, _, _, rfl, rfl, ⟨by decide, by decide, by decide⟩, _, _, rfl, rfl, _, rfl, a, _, _, 2, rfl, rfl, hb2, ix _ _ _ 2 (by decide), ?_⟩
          exact ⟨_, rfl, k2.upd, upd_same, by rw [upd_ne nca]; exact hc2⟩
        · rintro σ H3 ⟨y2, rfl, k3, hb3, hc3⟩
          refine ⟨_, rfl, a, _, _, _, rfl, rfl, SqL.of hb3, atI_nat (j := 1) rfl, _, _, rfl, rfl, _, rfl, a, _, _, 1, rfl, rfl, hb3, ix _ _ _ 1 (by decide), ?_⟩
          have hb4 : (upd H3 a (.lst ((bgM c z1 y2 z).set 1 (.int (z1 + 1))))) a = some (.lst (bgM c (z1 + 1) y2 z)) := upd_same
          have hc4 : (upd H3 a (.lst ((bgM c z1 y2 z).set 1 (.int (z1 + 1))))) c = some (.lst (cs.map V.int)) := by rw [upd_ne nca]; exact hc3
          have k4 : Kp a H (upd H3 a (.lst ((bgM c z1 y2 z).set 1 (.int (z1 + 1))))) := k3.upd
          generalize upd H3 a (.lst ((bgM c z1 y2 z).set 1 (.int (z1 + 1)))) = H4 at hb4 hc4 k4
          refine ⟨_, rfl, a, _, _, _, rfl, rfl, SqL.of hb4, atI_nat (j := 2) rfl, _, _, rfl, rfl, _, rfl, ?_⟩
          refine ite2 (fun _ => ?_) (fun _ => ⟨_, _, _, _, _, _, _, rfl, k4, hb4, hc4⟩)
          refine ⟨_, rfl, _, _, rfl, rfl, .inr ⟨by decide, by decide⟩, _, rfl, a, _, _, _, rfl, rfl, SqL.of hb4, atI_nat (j := 3) rfl, _, _, rfl, rfl, .inr ⟨by decide, by decide⟩, _, _, rfl, rfl, _, _, rfl, rfl, .inl ⟨_, rfl, ?_⟩⟩
          refine ⟨_, _, rfl, rfl, (show (0 : Int) < 2147483647 by decide), ?_⟩
          have m0 := Int.emod_nonneg (x * 48271 + z * 69621 + 7) (show (2147483647 : Int) ≠ 0 by decide)
          have m1 := Int.emod_lt_of_pos (x * 48271 + z * 69621 + 7) (show (0 : Int) < 2147483647 by decide)
          generalize (x * 48271 + z * 69621 + 7) % 2147483647 = o at m0 m1
          refine ⟨_, rfl, _, rfl, .inl ⟨_, rfl, ?_⟩⟩
          refine ⟨_, _, rfl, rfl, (show (0 : Int) < 65537 by decide), _, rfl, a, _, _, _, rfl, rfl, SqL.of hb4, atI_nat (j := 3) rfl, _, _, rfl, rfl, _, _, rfl, rfl, .inl ⟨by omega, by omega⟩, _, rfl, a, _, _, _, rfl, rfl, SqL.of hb4, atI_nat (j := 3) rfl, _, _, rfl, rfl, .inl ⟨by decide, by decide⟩, _, _, rfl, rfl, .inl ⟨_, rfl, ?_⟩⟩
          refine ⟨_, _, rfl, rfl, (show (0 : Int) < 2147483629 by decide), ?_⟩
          refine ⟨_, rfl, _, _, rfl, rfl, ⟨by decide, by decide⟩, .inl ⟨_, rfl, ?_⟩⟩
          refine ⟨_, rfl, _, _, rfl, rfl, (show (0 : Int) < n by omega), ?_⟩
          exact k _ _ k4 (mk _ _ _ _ hb4 hc4) (Int.emod_nonneg _ (by omega)) (Int.emod_lt_of_pos _ (by omega))
    · rintro σ H5 ⟨u, v, x, y, y1, y2, y3, rfl, k5, hb5, hc5⟩
      refine ⟨_, rfl, a, _, _, _, rfl, rfl, SqL.of hb5, atI_nat (j := 2) rfl, .inl ⟨_, rfl, ?_⟩⟩
      refine ⟨_, rfl, _, _, rfl, rfl, (show (0 : Int) < n by omega), ?_⟩
      refine ⟨_, rfl, a, _, _, _, rfl, rfl, SqL.of hb5, atI_nat (j := 2) rfl, _, rfl, _, _, rfl, rfl, ⟨by omega, by omega⟩, _, rfl, a, _, _, 2, rfl, rfl, hb5, ix _ _ _ 2 (by decide), ?_⟩
      refine ⟨_, rfl, ?_⟩
      exact k _ _ k5.upd (mk _ _ _ _ upd_same (by rw [upd_ne nca]; exact hc5)) (Int.emod_nonneg _ (by omega)) (Int.emod_lt_of_pos _ (by omega))
end
end Sh
end
section
set_option Elab.async false
set_option linter.all false
set_option maxRecDepth 100000
set_option maxHeartbeats 2000000
namespace Sh
open PySem PySem.Spec PyProof.Rows L2
open TL (tl joinL tl_join join_eq tl_append)
open C8 (pss_cut tCut)
open Evl (ixN_nat)
theorem app_sg (x : Str) (c : Nat) : (x ++ sg c).cps.toList = x.cps.toList ++ [c] := tl_append x (sg c)
theorem app_tl (x y : Str) : (x ++ y).cps.toList = x.cps.toList ++ y.cps.toList := tl_append x y
theorem size_tl (x : Str) : x.cps.size = x.cps.toList.length := (Array.length_toList).symm
theorem cutS_to (z : Str) {j : Nat} (h : j ≤ z.cps.size) : (cutS z none (some (j : Int))).cps.toList = z.cps.toList.take j := by
  have h1 : HT.sIx z.length 0 none = 0 := rfl
  have h2 : HT.sIx z.length z.length (some (j : Int)) = j := by
    rw [HT.sIx_nat, str_len]
    omega
  unfold cutS
  rw [h1, h2]
  simp
theorem cutS_from (z : Str) {j : Nat} (h : j ≤ z.cps.size) : (cutS z (some (j : Int)) none).cps.toList = z.cps.toList.drop j := by
  have h1 : HT.sIx z.length 0 (some (j : Int)) = j := by
    rw [HT.sIx_nat, str_len]
    omega
  have h2 : HT.sIx z.length z.length none = z.cps.toList.length := by rw [← size_tl]; rfl
  unfold cutS
  rw [h1, h2]
  show (List.take _ (List.drop j z.cps.toList)).toArray.toList = _
  rw [List.toList_toArray]
  exact List.take_of_length_le (by rw [List.length_drop]; exact Nat.le_refl _)
/-- a word with another letter at a place -/
def sw (z : Str) (j c : Nat) : Str := cutS z none (some (j : Int)) ++ sg c ++ cutS z (some ((j : Int) + 1)) none
theorem sw_tl (z : Str) {j c : Nat} (h : j < z.cps.size) : (sw z j c).cps.toList = z.cps.toList.take j ++ [c] ++ z.cps.toList.drop (j + 1) := by
  unfold sw
  rw [app_tl, app_sg, cutS_to z (Nat.le_of_lt h), show ((j : Int) + 1) = ((j + 1 : Nat) : Int) by omega, cutS_from z h]
theorem sw_nm {z : Str} {j c : Nat} (hz : IsNm z) (h : j < z.cps.size) (hc : 97 ≤ c ∧ c ≤ 122) : IsNm (sw z j c) := by
  have e := sw_tl z (c := c) h
  have el : (sw z j c).cps.size = z.cps.size := by
    rw [size_tl, e, List.length_append, List.length_append, List.length_take, List.length_drop, ← size_tl]
    simp
    omega
  refine ⟨by rw [el]; exact hz.1, by rw [el]; exact hz.2.1, fun x hx => ?_⟩
  rw [e] at hx
  rcases List.mem_append.mp hx with q | q
  · rcases List.mem_append.mp q with q | q
    · exact hz.2.2 x (List.mem_of_mem_take q)
    · rw [List.mem_singleton.mp q]
      exact hc
  · exact hz.2.2 x (List.mem_of_mem_drop q)
theorem sw_inj {z : Str} {j c d : Nat} (h : j < z.cps.size) (e : sw z j c = sw z j d) : c = d := by
  have q := congrArg (fun s : Str => s.cps.toList[j]?) e
  simp only [sw_tl z h] at q
  have hl : (z.cps.toList.take j).length = j := by rw [List.length_take, ← size_tl]; omega
  have r : ∀ x : Nat, (z.cps.toList.take j ++ [x] ++ z.cps.toList.drop (j + 1))[j]? = some x := fun x => by
    rw [List.append_assoc, List.getElem?_append_right (by omega), hl, Nat.sub_self]
    rfl
  rw [r, r] at q
  exact Option.some.inj q
def five : List Str := ["q", "w", "e", "r", "t"]
theorem five_nm : ∀ y ∈ five, IsNm y := by
  intro y hy
  have h : five.all (fun y => decide (1 ≤ y.cps.size ∧ y.cps.size ≤ 8) && y.cps.toList.all fun c => decide (97 ≤ c ∧ c ≤ 122)) = true := by decide +kernel
  have q := List.all_eq_true.mp h y hy
  obtain ⟨q1, q2⟩ := Bool.and_eq_true_iff.mp q
  have q1 := of_decide_eq_true q1
  exact ⟨q1.1, q1.2, fun c hc => of_decide_eq_true (List.all_eq_true.mp q2 c hc)⟩
def spWordM : Sp := fun vs H Q _ => ∃ a c, vs = [.ref a] ∧ BagM H a c ∧ ∀ H' z, Kp a H H' → BagM H' a c → IsNm z → Q (.str z) H'
def spWordsM : Sp := fun vs H Q _ => ∃ (a c : Addr) (m : Nat), vs = [.ref a, .int (m : Nat)] ∧ BagM H a c ∧ m ≤ 4 ∧ ∀ (H' : Hp) (r : Addr) (ns : List Str), Kp a H H' → BagM H' a c → H r = none → r ≠ a → r ≠ c → H' r = some (.lst (ns.map V.str)) → ns.length = m → ns.Nodup → (∀ n ∈ ns, IsNm n) → Q (.ref r) H'
abbrev s_law_word : Stmt := top 35
abbrev N_law_word : List Str := ["bag", "letters", "word", "k"]
theorem sc_law_word : FnScope N_law_word ["bag"] (defScope s_law_word) := ⟨rfl, rfl, rfl, by decide +kernel, rfl, by decide +kernel, by decide +kernel⟩
abbrev s_law_words : Stmt := top 36
abbrev N_law_words : List Str := ["bag", "many", "letters", "words", "word", "at", "first", "k", "one"]
theorem sc_law_words : FnScope N_law_words ["bag", "many"] (defScope s_law_words) := ⟨rfl, rfl, rfl, by decide +kernel, rfl, by decide +kernel, by decide +kernel⟩
section
variable {P : Program} {w : World} {K : PySem.W.Frag} {mg : Str → Option Value} {base : Heap}
theorem ok_wordM (T : Bl mg) (c_law_pick : DefOk P w K mg base CX0 1 "_law_pick" spPick) (D : Def0 K mg "_law_word" s_law_word) : DefOk P w K mg base CX0 2 "_law_word" spWordM := by
  refine D.ok sc_law_word (fun vs H Q E h => ?_) (fun _ _ _ _ _ _ us hl => match us, hl with | [_], _ => rfl) (fun f cdv A outer s H vs Q E hr h => ?_)
  · obtain ⟨a, c, rfl, _⟩ := h
    rfl
  · obtain ⟨a, c, rfl, hb, k⟩ := h
    refine ⟨_, (pss_cons (ps_set (i := 1) sc_law_word.nd rfl (Or.inl rfl) pe_str)
      (pss_cons (ps_set (i := 2) sc_law_word.nd rfl (Or.inl rfl) pe_str)
      (pss_cons (ps_for PassesOwn.never rfl (pi_range1 (by rfl) T.b_range (pa_cons (pe_op op_add pe_int (pe_d c_law_pick (hr.mono (by decide)) pass0 (pa_cons (pv 0) (pa_cons pe_int pa_nil)))) pa_nil)) (pg_name (i := 3) sc_law_word.nd rfl (Or.inl rfl))
        (pss_one (ps_set (i := 2) sc_law_word.nd rfl (Or.inl rfl) (pe_op op_add_str (pv 2) (pe_ix ix_str (pv 1) (pe_d c_law_pick (hr.mono (by decide)) pass0 (pa_cons (pv 0) (pa_cons pe_int pa_nil))) (fun _ _ => rfl))))))
      (pss_one (ps_ret (pv 2)))))), ?_⟩
    refine ⟨_, rfl, a, c, 8, rfl, hb, by decide, by decide, fun H1 d k1 b1 d0 d8 => ?_⟩
    refine ⟨_, _, rfl, rfl, _, rfl, by omega, by omega, for_range (n := (1 + d).toNat) (fun i σ H' => ∃ (x : Option V) (z : Str), σ = [some (.ref a), some (.str "abcdefghijklmnopqrstuvwxyz"), some (.str z), x] ∧ Kp a H H' ∧ BagM H' a c ∧ z.cps.size = i ∧ ∀ c ∈ z.cps.toList, 97 ≤ c ∧ c ≤ 122)
      ⟨none, "", rfl, k1, b1, rfl, fun c hc => nomatch hc⟩ ?_ ?_⟩
    · rintro i σ H2 hi ⟨x, z, rfl, k2, b2, hz, hc⟩
      refine ⟨_, rfl, _, rfl, _, rfl, a, c, 26, rfl, b2, by decide, by decide, fun H3 e k3 b3 e0 e1 => ?_⟩
      refine ⟨_, _, 97 + e.toNat, rfl, rfl, (by rw [letters_len]; exact le_line (by decide)), at_ofG (z := e) (j := e.toNat) (by omega) (letters_at e.toNat (by omega)), _, _, rfl, rfl, ?_, ?_⟩
      · exact le_line (by rw [str_len, hz]; show i + 1 ≤ _; omega)
      · refine ⟨_, _, rfl, k2.trans k3, b3, ?_, fun y hy => ?_⟩
        · have q := app_sg z (97 + e.toNat)
          rw [size_tl]
          show (z ++ sg (97 + e.toNat)).cps.toList.length = _
          rw [q, List.length_append, ← size_tl, hz]
          rfl
        · have q := app_sg z (97 + e.toNat)
          have hy : y ∈ (z ++ sg (97 + e.toNat)).cps.toList := hy
          rw [q] at hy
          rcases List.mem_append.mp hy with u | u
          · exact hc y u
          · rw [List.mem_singleton.mp u]
            omega
    · rintro σ H2 ⟨x, z, rfl, k2, b2, hz, hc⟩
      exact ⟨_, rfl, k _ _ k2 b2 ⟨by rw [hz]; omega, by rw [hz]; omega, hc⟩⟩
theorem ok_wordsM (T : Bl mg) (c_law_pick : DefOk P w K mg base CX0 1 "_law_pick" spPick) (c_law_word : DefOk P w K mg base CX0 2 "_law_word" spWordM) (D : Def0 K mg "_law_words" s_law_words) : DefOk P w K mg base CX0 3 "_law_words" spWordsM := by
  refine D.ok sc_law_words (fun vs H Q E h => ?_) (fun _ _ _ _ _ _ us hl => match us, hl with | [_, _], _ => rfl) (fun f cdv A outer s H vs Q E hr h => ?_)
  · obtain ⟨a, c, m, rfl, _⟩ := h
    rfl
  · obtain ⟨a, c, m, rfl, hb, hm, k⟩ := h
    refine ⟨_, (pss_cons (ps_set (i := 2) sc_law_words.nd rfl (Or.inl rfl) pe_str)
      (pss_cons (ps_set (i := 3) sc_law_words.nd rfl (Or.inr rfl) (pe_lst pa_nil))
      (pss_cons (ps_if (pt_cmpR op_eq (pe_d c_law_pick (hr.mono (by decide)) pass0 (pa_cons (pv 0) (pa_cons pe_int pa_nil))) pe_int (nomark _))
        (pss_cons (ps_set (i := 4) sc_law_words.nd rfl (Or.inl rfl) (pe_d c_law_word (hr.mono (by decide)) pass0 (pa_cons (pv 0) pa_nil)))
        (pss_cons (ps_set (i := 5) sc_law_words.nd rfl (Or.inl rfl) (pe_d c_law_pick (hr.mono (by decide)) pass0 (pa_cons (pv 0) (pa_cons (pe_callB call_len_str (by rfl) T.b_len boot_len (pa_cons (pv 4) pa_nil)) pa_nil))))
        (pss_cons (ps_set (i := 6) sc_law_words.nd rfl (Or.inl rfl) (pe_d c_law_pick (hr.mono (by decide)) pass0 (pa_cons (pv 0) (pa_cons pe_int pa_nil))))
        (pss_cons (ps_for PassesOwn.never rfl (pi_range1 (by rfl) T.b_range (pa_cons (pv 1) pa_nil)) (pg_name (i := 7) sc_law_words.nd rfl (Or.inl rfl))
          (pss_one (ps_expr (pe_bm PySem.F.plainAttrs_list PySem.F.slot_list_append PySem.F.type_list_append mt_append (pv 3) (pa_cons (pe_op op_add_str (pe_op op_add_str (pe_slice sl_str (pv 4) po_none (po_some (pv 5))) (pe_ix ix_str (pv 2) (pe_op op_mod (pe_callTy call_int1 (by rfl) T.b_int (by decide +kernel) (pa_cons (pe_op op_add (pv 6) (pe_op op_mul pe_int (pv 7))) pa_nil)) pe_int) (fun _ _ => rfl))) (pe_slice sl_str (pv 4) (po_some (pe_op op_add (pv 5) pe_int)) po_none)) pa_nil)))))
        (pss_one (ps_ret (pv 3)))))))
        pss_nil)
      (pss_cons (ps_for PassesOwn.never rfl (pi_range1 (by rfl) T.b_range (pa_cons (pv 1) pa_nil)) (pg_name (i := 7) sc_law_words.nd rfl (Or.inl rfl))
        (pss_cons (ps_set (i := 4) sc_law_words.nd rfl (Or.inl rfl) (pe_d c_law_word (hr.mono (by decide)) pass0 (pa_cons (pv 0) pa_nil)))
        (pss_cut (ps_if (pt_cmpR op_in_seq (pv 4) (pv 3) (by rfl))
          (pss_one (ps_set (i := 4) sc_law_words.nd rfl (Or.inl rfl) (pe_ix ix_list (pe_lc (own := [("one", 8)]) (g := (gName 8)) rfl sc_law_words.nd (pi_tup (pe_tup (pa_cons pe_str (pa_cons pe_str (pa_cons pe_str (pa_cons pe_str (pa_cons pe_str pa_nil))))))) (blkOk_by (N := N_law_words) (sc := defScope s_law_words) (by decide +kernel)) (fun _ _ _ _ _ => (pg_name (i := 8) sc_law_words.nd rfl (Or.inl rfl))) (fun _ _ _ _ _ => (pts_one (pt_cmpR (show OpR _ _ (rIn K true) from op_notIn_seq) (pv 8) (pv 3) (by rfl)))) (fun _ _ _ _ _ => (pv 8))) pe_int (fun _ _ => rfl))))
          pss_nil)
        (pss_one (ps_expr (pe_bm PySem.F.plainAttrs_list PySem.F.slot_list_append PySem.F.type_list_append mt_append (pv 3) (pa_cons (pv 4) pa_nil)))))))
      (pss_one (ps_ret (pv 3))))))), ?_⟩
    refine ⟨Nat.zero_le _, fun l1 h1 => ?_⟩
    have nl := hb.ne h1
    have b0 := hb.new (o := .lst []) h1
    have k0 : Kp a H (upd H l1 (.lst [])) := (Kp.refl a H).upd_own h1
    have d0 : (upd H l1 (.lst [])) l1 = some (.lst (([] : List Str).map V.str)) := upd_same
    refine ⟨_, rfl, a, c, 2, rfl, b0, by decide, by decide, fun H1 e k1 b1 e0 e2 => ?_⟩
    have k01 := k0.trans k1
    have d1 := k1 _ _ d0 nl.1
    refine ⟨rfl, _, rfl, ite2 (fun _ => ?_) (fun _ => ?_)⟩
    · refine ⟨_, rfl, a, c, rfl, b1, fun H2 z k2 b2 hz => ?_⟩
      refine ⟨_, rfl, _, rfl, _, rfl, nm_line hz, a, c, (z.length : Int), rfl, b2, by have := hz.1; rw [str_len]; omega, by have := hz.2.1; rw [str_len]; omega, fun H3 j k3 b3 j0 j1 => ?_⟩
      obtain ⟨j, rfl⟩ := Int.eq_ofNat_of_zero_le j0
      have hj : j < z.cps.size := by rw [str_len] at j1; omega
      refine ⟨_, rfl, a, c, 26, rfl, b3, by decide, by decide, fun H4 g k4 b4 g0 g1 => ?_⟩
      obtain ⟨g, rfl⟩ := Int.eq_ofNat_of_zero_le g0
      have k04 := ((k01.trans k2).trans k3).trans k4
      have d4 := k4 _ _ (k3 _ _ (k2 _ _ d1 nl.1) nl.1) nl.1
      have gl : ∀ i : Nat, 97 ≤ 97 + (g + 5 * i) % 26 ∧ 97 + (g + 5 * i) % 26 ≤ 122 := fun i => by omega
      refine ⟨_, rfl, _, rfl, by omega, by omega, for_range (n := m) (fun i σ H' => ∃ x : Option V, σ = [some (.ref a), some (.int (m : Nat)), some (.str "abcdefghijklmnopqrstuvwxyz"), some (.ref l1), some (.str z), some (.int (j : Nat)), some (.int (g : Nat)), x, none] ∧ Kp a H H' ∧ BagM H' a c ∧ H' l1 = some (.lst (((List.range i).map fun i => sw z j (97 + (g + 5 * i) % 26)).map V.str)))
        ⟨none, rfl, k04, b4, d4⟩ ?_ ?_⟩
      · rintro i σ H5 hi ⟨x, rfl, k5, b5, d5⟩
        refine ⟨_, rfl, .inl ⟨rfl, _, SqL.of d5⟩, _, rfl, _, rfl, _, rfl, _, rfl, nm_line hz, _, rfl, _, rfl, _, rfl, _, _, rfl, rfl, .inl ⟨by decide, by decide⟩, _, _, rfl, rfl, .inl ⟨_, rfl, ?_⟩⟩
        have eg : ((g : Int) + 5 * (0 + (i : Nat))) % 26 = (((g + 5 * i) % 26 : Nat) : Int) := by omega
        have e1 := cutS_to z (Nat.le_of_lt hj)
        have z1 : (cutS z none (some (j : Int))).cps.size = j := by rw [size_tl, e1, List.length_take, ← size_tl]; omega
        have hz8 := hz.2.1
        refine ⟨_, _, rfl, rfl, (show (0 : Int) < 26 by decide), _, _, 97 + (g + 5 * i) % 26, rfl, rfl, (by rw [letters_len]; exact le_line (by decide)), ?_, ?_⟩
        · exact at_ofG eg (letters_at _ (by omega))
        refine ⟨_, _, rfl, rfl, le_line ?_, ?_⟩
        · rw [str_len, z1]
          show j + 1 ≤ _
          omega
        refine ⟨_, rfl, _, rfl, _, _, rfl, rfl, _, rfl, _, rfl, nm_line hz, ?_⟩
        have hw := sw_nm hz hj (gl i)
        refine ⟨_, _, rfl, rfl, le_line ?_, ?_⟩
        · have q := hw.2.1
          have q2 : (sw z j (97 + (g + 5 * i) % 26)).cps.size = (cutS z none (some (j : Int)) ++ sg (97 + (g + 5 * i) % 26)).cps.size + (cutS z (some ((j : Int) + 1)) none).cps.size := by
            unfold sw
            rw [size_tl, app_tl, List.length_append, ← size_tl, ← size_tl]
          show (cutS z none (some (j : Int)) ++ sg (97 + (g + 5 * i) % 26)).cps.size + (cutS z (some ((j : Int) + 1)) none).cps.size ≤ _
          omega
        refine ⟨l1, _, _, rfl, rfl, d5, lt_line (by rw [List.length_map, List.length_map, List.length_range]; omega), ?_⟩
        refine ⟨_, rfl, k5.upd_own h1, b5.upd_ne nl, ?_⟩
        rw [upd_same, List.range_succ, List.map_append, List.map_append]
        rfl
      · rintro σ H5 ⟨x, rfl, k5, b5, d5⟩
        refine ⟨_, rfl, k _ _ _ k5 b5 h1 nl.1 nl.2 d5 (by rw [List.length_map, List.length_range]) ?_ ?_⟩
        · refine List.pairwise_map.mpr (List.Pairwise.imp_of_mem (fun {x y} hx hy ne e => ?_) List.nodup_range)
          have hx := List.mem_range.mp hx
          have hy := List.mem_range.mp hy
          have q := sw_inj hj e
          omega
        · intro n hn
          obtain ⟨i, _, rfl⟩ := List.mem_map.mp hn
          exact sw_nm hz hj (gl i)
    · refine ⟨_, rfl, _, rfl, by omega, by omega, for_range (n := m) (fun i σ H' => ∃ (x y : Option V) (ns : List Str), σ = [some (.ref a), some (.int (m : Nat)), some (.str "abcdefghijklmnopqrstuvwxyz"), some (.ref l1), x, none, none, y, none] ∧ Kp a H H' ∧ BagM H' a c ∧ H' l1 = some (.lst (ns.map V.str)) ∧ ns.length = i ∧ ns.Nodup ∧ ∀ n ∈ ns, IsNm n)
        ⟨none, none, [], rfl, k01, b1, d1, rfl, List.nodup_nil, fun n hn => nomatch hn⟩ ?_ ?_⟩
      · rintro i σ H5 hi ⟨x, y, ns, rfl, k5, b5, d5, hl, nd, hn⟩
        refine ⟨_, rfl, a, c, rfl, b5, fun H6 z k6 b6 hz => ?_⟩
        have d6 := k6 _ _ d5 nl.1
        have k06 := k5.trans k6
        refine ⟨fun σ H' => ∃ z : Str, σ = [some (.ref a), some (.int (m : Nat)), some (.str "abcdefghijklmnopqrstuvwxyz"), some (.ref l1), some (.str z), none, none, some (.int (0 + (i : Nat))), none] ∧ Kp a H H' ∧ BagM H' a c ∧ H' l1 = some (.lst (ns.map V.str)) ∧ z ∉ ns ∧ IsNm z, ?_, ?_⟩
        · refine ⟨_, rfl, _, rfl, l1, _, rfl, .inl (SqL.of d6), rfl, flat_strs ns, _, rfl, ?_⟩
          rw [inV_str]
          refine ite2 (fun h0 => ?_) (fun h0 => ⟨_, rfl, k06, b6, d6, fun q => h0 (decide_eq_true q), hz⟩)
          refine ⟨le_line (show 5 ≤ 100000 by decide), fun t ht => ?_⟩
          have s7 : Same H6 (upd H6 t (.tup (five.map V.str))) := (Same.refl H6).upd_new ht
          have ht0 : (upd H6 t (.tup (five.map V.str))) t = some (.tup (five.map V.str)) := upd_same
          have b7 := b6.same s7
          have d7 := s7 _ _ d6
          have k7 : Kp a H (upd H6 t (.tup (five.map V.str))) := k06.trans (Kp.same s7)
          have eg : HO.tup [V.str "q", V.str "w", V.str "e", V.str "r", V.str "t"] = .tup (five.map V.str) := rfl
          rw [eg]
          generalize upd H6 t (.tup (five.map V.str)) = H7 at s7 ht0 b7 d7 k7
          refine ⟨t, rfl, ⟨_, SqT.of ht0⟩, fun D hD => ?_⟩
          have nD := b7.ne hD
          have nDl : l1 ≠ D := ne_of_none d7 hD
          have hD0 : H D = none := k7.freeM hD nD.1
          refine lc_it (walk_tup (xs := five.map V.str)) (fun i H' => Kp a H H' ∧ BagM H' a c ∧ H' l1 = some (.lst (ns.map V.str)) ∧ H' t = some (.tup (five.map V.str)) ∧ H' D = some (.lst (((five.take i).filter fun y => decide (y ∉ ns)).map V.str)))
            ⟨k7.upd_new hD, b7.new hD, by rw [upd_ne nDl]; exact d7, by rw [upd_ne (ne_of_none ht0 hD)]; exact ht0, upd_same⟩ (fun _ _ _ ⟨_, _, _, q, _⟩ => SqT.of q) ?_ ?_
          · rintro i v H8 H9 hi ⟨q1, q2, q3, q4, q5⟩ ⟨rfl, hv⟩
            obtain ⟨y, hy, rfl⟩ := get_map hv
            refine ⟨rfl, _, rfl, _, rfl, l1, _, rfl, .inl (SqL.of q3), rfl, flat_strs ns, _, rfl, ?_⟩
            have ez : (!inV (V.str y) (ns.map V.str)) = decide (y ∉ ns) := by
              rw [inV_str]
              simp
            have et : (five.take (i + 1)).filter (fun y => decide (y ∉ ns)) = (five.take i).filter (fun y => decide (y ∉ ns)) ++ (if decide (y ∉ ns) = true then [y] else []) := by
              rw [← take_snoc hy, List.filter_append, List.filter_cons, List.filter_nil]
            show if (!inV (V.str y) (ns.map V.str)) = true then _ else _
            rw [ez]
            refine ite2 (fun h2 => ?_) (fun h2 => ?_)
            · refine ⟨_, rfl, _, q5, ?_, q1.upd_own hD0, q2.upd_ne nD, by rw [upd_ne nDl]; exact q3, by rw [upd_ne (ne_of_none ht0 hD)]; exact q4, ?_⟩
              · rw [List.length_map]
                refine lt_line (Nat.le_trans (List.length_filter_le _ _) ?_)
                rw [List.length_take]
                show min i 5 ≤ _
                omega
              · rw [upd_same, et, if_pos h2, List.map_append]
                rfl
            · refine ⟨q1, q2, q3, q4, ?_⟩
              rw [et, if_neg h2, List.append_nil]
              exact q5
          · rintro H9 ⟨q1, q2, q3, q4, q5⟩
            rw [show five.take (five.map V.str).length = five from rfl] at q5
            cases hf : five.filter (fun y => decide (y ∉ ns)) with
            | nil =>
              have hall : ∀ y ∈ five, y ∈ ns := fun y hy => by
                refine Classical.byContradiction fun c => ?_
                have : y ∈ five.filter (fun y => decide (y ∉ ns)) := List.mem_filter.mpr ⟨hy, decide_eq_true c⟩
                rw [hf] at this
                cases this
              have := sub_len five ns (by decide +kernel) hall
              have e5 : five.length = 5 := rfl
              omega
            | cons y r =>
              rw [hf] at q5
              have hy : y ∈ five.filter (fun y => decide (y ∉ ns)) := by rw [hf]; exact List.mem_cons_self
              obtain ⟨y1, y2⟩ := List.mem_filter.mp hy
              exact ⟨D, _, _, _, rfl, rfl, SqL.of q5, atI_nat (j := 0) rfl, y, rfl, q1, q2, q3, of_decide_eq_true y2, five_nm y y1⟩
        · rintro σ H7 ⟨z, rfl, k7, b7, d7, nz, hz⟩
          refine ⟨_, rfl, .inl ⟨rfl, _, SqL.of d7⟩, _, rfl, l1, _, _, rfl, rfl, d7, lt_line (by rw [List.length_map]; omega), ?_⟩
          refine ⟨_, _, ns ++ [z], rfl, k7.upd_own h1, b7.upd_ne nl, by rw [upd_same, List.map_append]; rfl, by rw [List.length_append, hl]; rfl, ?_, ?_⟩
          · rw [List.nodup_append]
            exact ⟨nd, (List.nodup_cons.mpr ⟨List.not_mem_nil, List.nodup_nil⟩), fun u hu v hv e => nz (by rw [List.mem_singleton.mp hv] at e; rw [← e]; exact hu)⟩
          · intro n hn2
            rcases List.mem_append.mp hn2 with q | q
            · exact hn n q
            · rw [List.mem_singleton.mp q]; exact hz
      · rintro σ H5 ⟨x, y, ns, rfl, k5, b5, d5, hl, nd, hn⟩
        exact ⟨_, rfl, k _ _ _ k5 b5 h1 nl.1 nl.2 d5 hl nd hn⟩
end
end Sh
end
section
set_option Elab.async false
set_option linter.all false
set_option maxRecDepth 100000
set_option maxHeartbeats 2000000
namespace Sh
open PySem PySem.Spec PyProof.Rows L2
open C8 (pss_cut tCut)
open Evl (ixN_nat)
theorem two_of (e : Int) (h0 : 0 ≤ e) (h : e < 4) : ∃ y, ([V.int 2, V.int 4, V.int 3, V.int 3] : List V)[e.toNat]? = some (.int y) ∧ 2 ≤ y ∧ y ≤ 4 := by
  have hh : ∀ j, j < 4 → ∃ y, ([V.int 2, V.int 4, V.int 3, V.int 3] : List V)[j]? = some (.int y) ∧ 2 ≤ y ∧ y ≤ 4 := by
    intro j hj
    match j, hj with
    | 0, _ => exact ⟨2, rfl, by decide, by decide⟩
    | 1, _ => exact ⟨4, rfl, by decide, by decide⟩
    | 2, _ => exact ⟨3, rfl, by decide, by decide⟩
    | 3, _ => exact ⟨3, rfl, by decide, by decide⟩
    | n + 4, h => exact absurd h (by omega)
  exact hh e.toNat (by omega)
theorem wid_of (e : Int) (h0 : 0 ≤ e) (h : e < 7) : ∃ y, ([V.int 0, V.int 2, V.int 1, V.int 2, V.int 1, V.int 0, V.int 3] : List V)[e.toNat]? = some (.int y) ∧ 0 ≤ y ∧ y ≤ 3 := by
  have hh : ∀ j, j < 7 → ∃ y, ([V.int 0, V.int 2, V.int 1, V.int 2, V.int 1, V.int 0, V.int 3] : List V)[j]? = some (.int y) ∧ 0 ≤ y ∧ y ≤ 3 := by
    intro j hj
    match j, hj with
    | 0, _ => exact ⟨0, rfl, by decide, by decide⟩
    | 1, _ => exact ⟨2, rfl, by decide, by decide⟩
    | 2, _ => exact ⟨1, rfl, by decide, by decide⟩
    | 3, _ => exact ⟨2, rfl, by decide, by decide⟩
    | 4, _ => exact ⟨1, rfl, by decide, by decide⟩
    | 5, _ => exact ⟨0, rfl, by decide, by decide⟩
    | 6, _ => exact ⟨3, rfl, by decide, by decide⟩
    | n + 7, h => exact absurd h (by omega)
  exact hh e.toNat (by omega)
def spKindsM : Sp := fun vs H Q _ => ∃ (a c : Addr), vs = [.ref a] ∧ BagM H a c ∧ ∀ (H' : Hp) (r : Addr) (rows : List Row), Kp a H H' → BagM H' a c → H r = none → r ≠ a → r ≠ c → RowsAt H' r rows → ROk 4 rows → 2 ≤ rows.length → Q (.ref r) H'
def spArity : Sp := fun vs H Q _ => ∃ (r : Addr) (rows : List Row), vs = [.ref r] ∧ RowsAt H r rows ∧ ROk 4 rows ∧ ∀ (H' : Hp) (d : Addr), Same H H' → H d = none → H' d = some (.dK (wL rows)) → Q (.ref d) H'
def spBedM (C : Addr) : Sp := fun vs H Q _ => ∃ (r : Addr) (rows : List Row), vs = [.ref r] ∧ RowsAt H r rows ∧ ROk 4 rows ∧ 2 ≤ rows.length ∧ ∀ H' p, Same H H' → H p = none → BedAt C H' p rows → Q (.ref p) H'
theorem ROk.up {rows : List Row} (R : ROk 4 rows) : ROk 8 rows := ⟨R.pos, by have := R.len; omega, R.nd, R.nm, R.wd, R.leaf⟩
abbrev s_law_kinds : Stmt := top 37
abbrev N_law_kinds : List Str := ["bag", "counts", "k", "count", "words"]
theorem sc_law_kinds : FnScope N_law_kinds ["bag"] (defScope s_law_kinds) := ⟨rfl, rfl, rfl, by decide +kernel, rfl, by decide +kernel, by decide +kernel⟩
abbrev s_law_arity : Stmt := top 38
abbrev N_law_arity : List Str := ["kinds", "arity", "pair"]
theorem sc_law_arity : FnScope N_law_arity ["kinds"] (defScope s_law_arity) := ⟨rfl, rfl, rfl, by decide +kernel, rfl, by decide +kernel, by decide +kernel⟩
section
variable {P : Program} {w : World} {K : PySem.W.Frag} {mg : Str → Option Value} {base : Heap} {C : Addr}
theorem ok_arity (T : Bl mg) (D : Def0 K mg "_law_arity" s_law_arity) : DefOk P w K mg base CX0 1 "_law_arity" spArity := by
  refine D.ok sc_law_arity (fun vs H Q E h => ?_) (fun _ _ _ _ _ _ us hl => match us, hl with | [_], _ => rfl) (fun f cdv A outer s H vs Q E hr h => ?_)
  · obtain ⟨r, rows, rfl, _⟩ := h
    rfl
  · obtain ⟨r, rows, rfl, ⟨ts, hR, hT⟩, R, k⟩ := h
    have hu := hu_of hr
    refine ⟨_, (pss_cons (ps_set (i := 1) sc_law_arity.nd rfl (Or.inl rfl) pe_dnewK)
      (pss_cons (ps_for PassesOwn.never rfl (pi_list (pv 0)) (pg_name (i := 2) sc_law_arity.nd rfl (Or.inl rfl))
        (pss_one (ps_dput hu (pv 1) (pe_ix ix_tup (pv 2) pe_int (fun _ _ => rfl)) (pe_ix ix_tup (pv 2) pe_int (fun _ _ => rfl)) rfl)))
      (pss_one (ps_ret (pv 1))))), ?_⟩
    refine fun D hD => ?_
    have s1 : Same H (upd H D (.dK [])) := (Same.refl H).upd_new hD
    refine ⟨_, rfl, r, rfl, ⟨_, SqL.of (s1 _ _ hR)⟩, for_it (walk_list (xs := ts.map V.ref)) (fun i σ H' => ∃ x : Option V, σ = [some (.ref r), some (.ref D), x] ∧ Same H H' ∧ H' D = some (.dK (wL (rows.take i))))
      ⟨none, rfl, s1, upd_same⟩ (fun i σ H' _ ⟨_, _, q, _⟩ => SqL.of (q _ _ hR)) ?_ ?_⟩
    · rintro i v σ H2 H3 hi ⟨x, rfl, s2, d2⟩ ⟨rfl, hv⟩
      rw [List.length_map, hT.1] at hi
      obtain ⟨t, ht, rfl⟩ := get_map hv
      have hq := (hT.2 i t rows[i] ht (List.getElem?_eq_getElem hi))
      have hq2 := s2 _ _ hq
      have fresh : valV (wL (rows.take i)) (.inr (rows[i]).1) = none := valV_none fun kv hk => by
        obtain ⟨q, hq, rfl⟩ := List.mem_map.mp hk
        intro e
        have e : q.1 = (rows[i]).1 := by injection e
        have hnd := nd_take R.nd (i := i) (by rw [List.length_map]; exact hi)
        apply hnd
        rw [← List.map_take, List.getElem_map, ← e]
        exact List.mem_map_of_mem hq
      refine ⟨_, rfl, t, _, _, _, rfl, rfl, SqT.of hq2, atI_nat (j := 1) rfl, _, rfl, _, rfl, t, _, _, _, rfl, rfl, SqT.of hq2, atI_nat (j := 0) rfl, D, _, rfl, DPut.k (k := .inr (rows[i]).1) d2 ?_, ?_⟩
      · unfold wL
        rw [List.length_map, List.length_take]
        exact lt_line (by have := R.len; omega)
      · refine ⟨_, rfl, s2.upd_own hD, ?_⟩
        rw [upd_same, putK_new _ fresh, ← take_snoc (List.getElem?_eq_getElem hi)]
        unfold wL
        rw [List.map_append]
        rfl
    · rintro σ H2 ⟨x, rfl, s2, d2⟩
      rw [List.length_map, hT.1, List.take_length] at d2
      exact ⟨_, rfl, k _ _ s2 hD d2⟩
theorem ok_kindsM (T : Bl mg) (c_law_pick : DefOk P w K mg base CX0 1 "_law_pick" spPick) (c_law_words : DefOk P w K mg base CX0 3 "_law_words" spWordsM) (D : Def0 K mg "_law_kinds" s_law_kinds) : DefOk P w K mg base CX0 4 "_law_kinds" spKindsM := by
  refine D.ok sc_law_kinds (fun vs H Q E h => ?_) (fun _ _ _ _ _ _ us hl => match us, hl with | [_], _ => rfl) (fun f cdv A outer s H vs Q E hr h => ?_)
  · obtain ⟨a, c, rfl, _⟩ := h
    rfl
  · obtain ⟨a, c, rfl, hb, k⟩ := h
    refine ⟨_, (pss_cons (ps_set (i := 1) sc_law_kinds.nd rfl (Or.inr rfl) (pe_lst pa_nil))
      (pss_cons (ps_for PassesOwn.never rfl (pi_range1 (by rfl) T.b_range (pa_cons (pe_ix ix_tup (pe_tup (pa_cons pe_int (pa_cons pe_int (pa_cons pe_int (pa_cons pe_int pa_nil))))) (pe_d c_law_pick (hr.mono (by decide)) pass0 (pa_cons (pv 0) (pa_cons pe_int pa_nil))) (fun _ _ => rfl)) pa_nil)) (pg_name (i := 2) sc_law_kinds.nd rfl (Or.inl rfl))
        (pss_cons (ps_set (i := 3) sc_law_kinds.nd rfl (Or.inl rfl) (pe_ix ix_tup (pe_tup (pa_cons pe_int (pa_cons pe_int (pa_cons pe_int (pa_cons pe_int (pa_cons pe_int (pa_cons pe_int (pa_cons pe_int pa_nil)))))))) (pe_d c_law_pick (hr.mono (by decide)) pass0 (pa_cons (pv 0) (pa_cons pe_int pa_nil))) (fun _ _ => rfl)))
        (pss_cut (ps_if (PW.pt (pw_and (pt_cmpR op_eq (pv 3) pe_int (nomark _)) (pw_and1 (pt_cmpR op_in_seq pe_int (pv 1) (by rfl)))))
          (pss_one (ps_set (i := 3) sc_law_kinds.nd rfl (Or.inl rfl) pe_int))
          pss_nil)
        (pss_one (ps_expr (pe_bm PySem.F.plainAttrs_list PySem.F.slot_list_append PySem.F.type_list_append mt_append (pv 1) (pa_cons (pv 3) pa_nil)))))))
      (pss_cut (ps_if (pt_cmpR op_notIn_seq pe_int (pv 1) (by rfl))
        (pss_one (ps_asg pe_int (pg_sub (pv 1) (pe_d c_law_pick (hr.mono (by decide)) pass0 (pa_cons (pv 0) (pa_cons (pe_callB call_len_seq (by rfl) T.b_len boot_len (pa_cons (pv 1) pa_nil)) pa_nil))) set_list)))
        pss_nil)
      (pss_cons (ps_set (i := 4) sc_law_kinds.nd rfl (Or.inr rfl) (pe_d c_law_words (hr.mono (by decide)) pass0 (pa_cons (pv 0) (pa_cons (pe_callB call_len_seq (by rfl) T.b_len boot_len (pa_cons (pv 1) pa_nil)) pa_nil))))
      (pss_one (ps_ret (pe_lc (own := [("k", 2)]) (g := (gName 2)) (tt := tYes) rfl sc_law_kinds.nd (pi_range1 (by rfl) T.b_range (pa_cons (pe_callB call_len_seq (by rfl) T.b_len boot_len (pa_cons (pv 1) pa_nil)) pa_nil)) (blkOk_by (N := N_law_kinds) (sc := defScope s_law_kinds) (by decide +kernel)) (fun _ _ _ _ _ => (pg_name (i := 2) sc_law_kinds.nd rfl (Or.inl rfl))) (fun _ _ _ _ _ => pts_nil) (fun _ _ _ _ _ => (pe_tup (pa_cons (pe_ix (show IxR _ (rIxL K) from ix_list) (pv 4) (pv 2) (fun _ _ => rfl)) (pa_cons (pe_ix (show IxR _ (rIxL K) from ix_list) (pv 1) (pv 2) (fun _ _ => rfl)) pa_nil))))))))))), ?_⟩
    refine ⟨Nat.zero_le _, fun l2 h2 => ?_⟩
    have n2 := hb.ne h2
    have b0 := hb.new (o := .lst []) h2
    have k0 : Kp a H (upd H l2 (.lst [])) := (Kp.refl a H).upd_own h2
    have d0 : (upd H l2 (.lst [])) l2 = some (.lst (([] : List Int).map V.int)) := upd_same
    generalize upd H l2 (.lst []) = H0 at b0 k0 d0
    refine ⟨le_line (show 4 ≤ 100000 by decide), fun t ht => ?_⟩
    have s1 : Same H0 (upd H0 t (.tup [V.int 2, V.int 4, V.int 3, V.int 3])) := (Same.refl H0).upd_new ht
    have t1 : (upd H0 t (.tup [V.int 2, V.int 4, V.int 3, V.int 3])) t = some (.tup [V.int 2, V.int 4, V.int 3, V.int 3]) := upd_same
    have b1 := b0.same s1
    refine ⟨_, rfl, a, c, 4, rfl, b1, by decide, by decide, fun H1 e k1 b2 e0 e1 => ?_⟩
    obtain ⟨y, hy, y2, y4⟩ := two_of e e0 e1
    have nt := b0.ne ht
    refine ⟨t, _, _, _, rfl, rfl, SqT.of (k1 _ _ t1 nt.1), at_ofG (j := e.toNat) (by omega) hy, ?_⟩
    have k01 : Kp a H H1 := (k0.trans (Kp.same s1)).trans k1
    have d1 := k1 _ _ (s1 _ _ d0) n2.1
    refine ⟨_, rfl, by omega, by omega, for_range (n := y.toNat) (fun i σ H' => ∃ (x z : Option V) (ws : List Int), σ = [some (.ref a), some (.ref l2), x, z, none] ∧ Kp a H H' ∧ BagM H' a c ∧ H' l2 = some (.lst (ws.map V.int)) ∧ ws.length = i ∧ ∀ z ∈ ws, 0 ≤ z ∧ z ≤ 3)
      ⟨none, none, [], rfl, k01, b2, d1, rfl, fun z hz => nomatch hz⟩ ?_ ?_⟩
    · rintro i σ H2 hi ⟨x, z, ws, rfl, k2, b3, d2, hl, hw⟩
      refine ⟨le_line (show 7 ≤ 100000 by decide), fun t ht => ?_⟩
      have s1 : Same H2 (upd H2 t (.tup [V.int 0, V.int 2, V.int 1, V.int 2, V.int 1, V.int 0, V.int 3])) := (Same.refl H2).upd_new ht
      have t1 : (upd H2 t (.tup [V.int 0, V.int 2, V.int 1, V.int 2, V.int 1, V.int 0, V.int 3])) t = some (.tup [V.int 0, V.int 2, V.int 1, V.int 2, V.int 1, V.int 0, V.int 3]) := upd_same
      have nt := b3.ne ht
      refine ⟨_, rfl, a, c, 7, rfl, b3.same s1, by decide, by decide, fun H3 e k3 b4 e0 e1 => ?_⟩
      obtain ⟨y, hy, y0, y3⟩ := wid_of e e0 e1
      refine ⟨t, _, _, _, rfl, rfl, SqT.of (k3 _ _ t1 nt.1), at_ofG (j := e.toNat) (by omega) hy, ?_⟩
      have d3 := k3 _ _ (s1 _ _ d2) n2.1
      have k03 := (k2.trans (Kp.same s1)).trans k3
      refine ⟨fun σ H' => H' = H3 ∧ ∃ y : Int, σ = [some (.ref a), some (.ref l2), some (.int (0 + (i : Nat))), some (.int y), none] ∧ 0 ≤ y ∧ y ≤ 3, ?_, ?_⟩
      · refine ⟨_, rfl, rfl, _, rfl, ite2 (fun _ => ?_) (fun _ => ⟨rfl, _, rfl, y0, y3⟩)⟩
        refine ⟨_, rfl, l2, _, rfl, .inl (SqL.of d3), rfl, flat_ints ws, _, rfl, ?_⟩
        exact ite2 (fun _ => ⟨rfl, _, rfl, by decide, by decide⟩) (fun _ => ⟨rfl, _, rfl, y0, y3⟩)
      · rintro σ H4 ⟨rfl, y, rfl, y0, y3⟩
        refine ⟨_, rfl, .inl ⟨rfl, _, SqL.of d3⟩, _, rfl, l2, _, _, rfl, rfl, d3, lt_line (by rw [List.length_map]; omega), ?_⟩
        refine ⟨_, _, ws ++ [y], rfl, k03.upd_own h2, b4.upd_ne n2, by rw [upd_same, List.map_append]; rfl, by rw [List.length_append, hl]; rfl, fun n hn => ?_⟩
        rcases List.mem_append.mp hn with q | q
        · exact hw n q
        · rw [List.mem_singleton.mp q]; exact ⟨y0, y3⟩
    · rintro σ H2 ⟨x, z, ws, rfl, k2, b3, d2, hl, hw⟩
      have hl2 : 2 ≤ ws.length ∧ ws.length ≤ 4 := by omega
      refine ⟨fun σ H' => ∃ ws : List Int, σ = [some (.ref a), some (.ref l2), x, z, none] ∧ Kp a H H' ∧ BagM H' a c ∧ H' l2 = some (.lst (ws.map V.int)) ∧ (2 ≤ ws.length ∧ ws.length ≤ 4) ∧ (∀ z ∈ ws, 0 ≤ z ∧ z ≤ 3) ∧ 0 ∈ ws, ?_, ?_⟩
      · refine ⟨_, rfl, l2, _, rfl, .inl (SqL.of d2), rfl, flat_ints ws, _, rfl, ?_⟩
        show if (!inV (V.int 0) (ws.map V.int)) = true then _ else _
        rw [mem_map_ints]
        refine ite2 (fun h0 => ?_) (fun h0 => ⟨ws, rfl, k2, b3, d2, hl2, hw, by simpa using h0⟩)
        refine ⟨_, rfl, _, rfl, _, rfl, l2, _, rfl, .inl (SqL.of d2), a, c, (ws.length : Int), by rw [List.length_map], b3, by omega, by omega, fun H3 j k3 b4 j0 j1 => ?_⟩
        have d3 := k3 _ _ d2 n2.1
        refine ⟨l2, _, _, j.toNat, rfl, rfl, d3, ?_, ?_⟩
        · have z := ixN_nat (n := (ws.map V.int).length) (j := j.toNat) (by rw [List.length_map]; omega)
          rw [show ((j.toNat : Nat) : Int) = j by omega] at z
          exact z
        · refine ⟨ws.set j.toNat 0, rfl, (k2.trans k3).upd_own h2, b4.upd_ne n2, by rw [upd_same, List.map_set], by rw [List.length_set]; exact hl2, fun z hz => ?_, List.mem_set (by omega) _⟩
          rcases List.mem_or_eq_of_mem_set hz with q | q
          · exact hw z q
          · rw [q]; exact ⟨by decide, by decide⟩
      · rintro σ H3 ⟨ws, rfl, k3, b4, d3, hl3, hw3, h0⟩
        refine ⟨_, rfl, _, rfl, l2, _, rfl, .inl (SqL.of d3), a, c, ws.length, by rw [List.length_map], b4, hl3.2, fun H4 l1 ns k4 b5 f1 na nc q1 hln nd hn => ?_⟩
        have q2 := k4 _ _ d3 n2.1
        have k04 := k3.trans k4
        have h1 : H l1 = none := k3.freeM f1 na
        have n12 : l1 ≠ l2 := fun e => by rw [e, d3] at f1; cases f1
        refine ⟨_, rfl, l2, _, rfl, .inl (SqL.of q2), _, rfl, by rw [List.length_map]; omega, by rw [List.length_map]; omega, fun D hD => lc_range (n := (((ws.map V.int).length : Nat) : Int).toNat)
          (fun i H' => Kp a H H' ∧ BagM H' a c ∧ H' l1 = some (.lst (ns.map V.str)) ∧ H' l2 = some (.lst (ws.map V.int)) ∧ ∃ ts : List Addr, H' D = some (.lst (ts.map V.ref)) ∧ TupsAt H' ts ((ns.zip ws).take i)) ?_ ?_ ?_⟩
        · exact ⟨k04.upd_new hD, b5.new hD, by rw [upd_ne (ne_of_none q1 hD)]; exact q1, by rw [upd_ne (ne_of_none q2 hD)]; exact q2, [], upd_same, rfl, fun i t q hi => by simp at hi⟩
        · rintro i H4 hi ⟨k4, b4, p1, p2, ts, pD, pT⟩
          have hiw : i < ws.length := by simpa using hi
          have hin : i < ns.length := by omega
          have nD := b5.ne hD
          refine ⟨rfl, _, rfl, _, rfl, l1, _, _, _, rfl, rfl, SqL.of p1, at_ofG (j := i) (by omega) (by rw [List.getElem?_map, List.getElem?_eq_getElem hin]; rfl), _, rfl, _, rfl, l2, _, _, _, rfl, rfl, SqL.of p2, at_ofG (j := i) (by omega) (by rw [List.getElem?_map, List.getElem?_eq_getElem hiw]; rfl), ?_⟩
          refine ⟨le_line (show 2 ≤ 100000 by decide), fun t ht => ?_⟩
          have nDt : D ≠ t := ne_of_none pD ht
          have hD3 : H D = none := k04.freeM hD nD.1
          refine ⟨_, by rw [upd_ne nDt]; exact pD, ?_, (k4.upd_new ht).upd_own hD3, (b4.new ht).upd_ne nD, ?_, ?_, ts ++ [t], ?_, ?_⟩
          · rw [List.length_map, pT.1]
            exact lt_line (by rw [List.length_take, List.length_zip]; omega)
          · rw [upd_ne (ne_of_none q1 hD), upd_ne (ne_of_none p1 ht)]; exact p1
          · rw [upd_ne (ne_of_none q2 hD), upd_ne (ne_of_none p2 ht)]; exact p2
          · rw [upd_same, List.map_append]; rfl
          · have e := zip_snoc (ns := ns) (ws := ws) (i := i) (n := ns[i]) (z := ws[i]) (List.getElem?_eq_getElem hin) (List.getElem?_eq_getElem hiw)
            rw [← e]
            have tk : TK H4 (upd (upd H4 t (.tup [.str ns[i], .int ws[i]])) D (.lst (ts.map V.ref ++ [V.ref t]))) :=
              (TK.new ht).trans (TK.lst (ys := ts.map V.ref) (by rw [upd_ne nDt]; exact pD))
            exact (pT.keep tk).snoc (by rw [upd_ne nDt.symm, upd_same])
        · rintro H4 ⟨k4, b4, p1, p2, ts, pD, pT⟩
          have nD := b5.ne hD
          have elen : (((ws.map V.int).length : Nat) : Int).toNat = (ns.zip ws).length := by
            rw [List.length_zip, List.length_map]; omega
          rw [elen, List.take_length] at pT
          refine k _ _ (ns.zip ws) k4 b4 (k04.freeM hD nD.1) nD.1 nD.2 ⟨ts, pD, pT⟩ ⟨?_, ?_, ?_, ?_, ?_, ?_⟩ ?_
          · rw [List.length_zip]; omega
          · rw [List.length_zip]; omega
          · rw [show (ns.zip ws).map (·.1) = ns from by rw [← List.unzip_fst, List.unzip_zip (by omega)]]
            exact nd
          · intro q hq
            exact hn _ (List.of_mem_zip (a := q.1) (b := q.2) hq).1
          · intro q hq
            exact hw3 _ (List.of_mem_zip (a := q.1) (b := q.2) hq).2
          · obtain ⟨j, hj, e⟩ := List.mem_iff_getElem.mp h0
            refine ⟨(ns[j]'(by omega), 0), ?_, rfl⟩
            refine List.mem_iff_getElem?.mpr ⟨j, List.getElem?_zip_eq_some.mpr ⟨List.getElem?_eq_getElem _, ?_⟩⟩
            rw [List.getElem?_eq_getElem hj, e]
          · rw [List.length_zip]; omega
end
end Sh
end
section
set_option Elab.async false
set_option linter.all false
set_option maxRecDepth 100000
set_option maxHeartbeats 2000000
namespace Sh
open PySem PySem.Spec PyProof.Rows L2
open C8 (pss_cut tCut)
open Evl (ixN_nat)
/-- what is begun: with so many forests behind it, it is a plant or a stump -/
def Opn {α : Type} (w : α → Nat) (l : List α) (n : Nat) : Prop := ∀ m, Mth.forest w m n = true → Mth.forest w (l ++ m) 1 = true
theorem Opn.nil {α : Type} {w : α → Nat} : Opn w [] 1 := fun _ h => h
theorem Opn.snoc {α : Type} {w : α → Nat} {l : List α} {n : Nat} (h : Opn w l (n + 1)) (z : α) : Opn w (l ++ [z]) (n + w z) := fun m hm => by
  rw [List.append_assoc]
  refine h _ ?_
  show Mth.forest w (z :: m) (n + 1) = true
  rw [Mth.forest]
  rw [Nat.add_comm] at hm
  first
  | exact hm
  | (rw [Nat.add_comm]; exact hm)
theorem Opn.done {α : Type} {w : α → Nat} {l : List α} (h : Opn w l 0) : Mth.forest w l 1 = true := by
  have q := h [] rfl
  rw [List.append_nil] at q
  exact q
theorem TupsAt.len {H : Hp} {ts : List Addr} {rows : List Row} (x : TupsAt H ts rows) : ts.length = rows.length := x.1
theorem wR_row {rows : List Row} {m : Int} (R : ROk m rows) {q : Row} (h : q ∈ rows) : ((wR rows q.1 : Nat) : Int) = q.2 := by
  obtain ⟨i, hi, rfl⟩ := List.mem_iff_getElem.mp h
  exact row_at R hi
theorem star_no {rows : List Row} {m : Int} (R : ROk m rows) : wR rows "*" = 0 := by
  rcases nm_case R "*" with ⟨_, h, _⟩ | ⟨h, _⟩
  · exact h
  · rw [nm_star R] at h
    omega
theorem flt_snoc {α : Type} {p : α → Bool} {l : List α} {i : Nat} {x : α} (h : l[i]? = some x) : (l.take (i + 1)).filter p = (l.take i).filter p ++ (if p x = true then [x] else []) := by
  rw [← take_snoc h, List.filter_append, List.filter_cons, List.filter_nil]
def rootP (most : Nat) (q : Row) : Bool := decide (0 < q.2 ∧ q.2 < ((most : Nat) : Int))
def roomP (k n most : Nat) (q : Row) : Bool := decide (((k : Nat) : Int) + ((n : Nat) : Int) + q.2 ≤ ((most : Nat) : Int))
def spStumpM : Sp := fun vs H Q _ => ∃ (a c r : Addr) (most : Nat) (rows : List Row), vs = [.ref a, .ref r, .int (most : Nat)] ∧ BagM H a c ∧ r ≠ a ∧ RowsAt H r rows ∧ ROk 4 rows ∧ most ≤ 7 ∧ (∃ q ∈ rows, 0 < q.2 ∧ q.2 < (most : Nat)) ∧
  ∀ (H' : Hp) (t : Addr) (l : List Str), Kp a H H' → BagM H' a c → Tz H' t (sV l) → StumpOk rows l → l.length ≤ most → 2 ≤ l.length → Q (.ref t) H'
abbrev s_law_stump : Stmt := top 39
abbrev N_law_stump : List Str := ["bag", "kinds", "most", "roots", "pair", "row", "need", "k", "choice", "at", "one"]
theorem sc_law_stump : FnScope N_law_stump ["bag", "kinds", "most"] (defScope s_law_stump) := ⟨rfl, rfl, rfl, by decide +kernel, rfl, by decide +kernel, by decide +kernel⟩
section
variable {P : Program} {w : World} {K : PySem.W.Frag} {mg : Str → Option Value} {base : Heap} {C : Addr}
theorem ok_stumpM (T : Bl mg) (c_law_pick : DefOk P w K mg base CX0 1 "_law_pick" spPick) (D : Def0 K mg "_law_stump" s_law_stump) : DefOk P w K mg base CX0 2 "_law_stump" spStumpM := by
  refine D.ok sc_law_stump (fun vs H Q E h => ?_) (fun _ _ _ _ _ _ us hl => match us, hl with | [_, _, _], _ => rfl) (fun f cdv A outer s H vs Q E hr h => ?_)
  · obtain ⟨a, c, r, most, rows, rfl, _⟩ := h
    rfl
  · obtain ⟨a, c, r, most, rows, rfl, hb, nra, ⟨ts, hR, hT⟩, R, hm7, hroot, k⟩ := h
    have R8 := R.up
    refine ⟨_, (pss_cons (ps_setLc (i := 3) (own := [("pair", 4)]) (g := (gName 4)) rfl sc_law_stump.nd rfl rfl (sw_true rfl rfl rfl (by decide +kernel)) (pi_list (pv 1)) (blkOk_by (N := N_law_stump) (sc := defScope s_law_stump) (by decide +kernel)) (fun _ _ _ _ _ => (pg_name (i := 4) sc_law_stump.nd rfl (Or.inl rfl))) (fun _ _ _ _ _ => (pts_one (pt_chain op_lt op_lt pe_int (pe_ix (show IxR _ (rIxT K) from ix_tup) (pv 4) pe_int (fun _ _ => rfl)) (pv 2)))) (fun _ _ _ _ _ => (pv 4)))
      (pss_cons (ps_set (i := 4) sc_law_stump.nd rfl (Or.inl rfl) (pe_ix ix_list (pv 3) (pe_d c_law_pick (hr.mono (by decide)) pass0 (pa_cons (pv 0) (pa_cons (pe_callB call_len_seq (by rfl) T.b_len boot_len (pa_cons (pv 3) pa_nil)) pa_nil))) (fun _ _ => rfl)))
      (pss_cons (ps_set (i := 5) sc_law_stump.nd rfl (Or.inr rfl) (pe_tupF (pa_cons (pe_ix ix_tup (pv 4) pe_int (fun _ _ => rfl)) pa_nil)))
      (pss_cons (ps_set (i := 6) sc_law_stump.nd rfl (Or.inr rfl) (pe_ix ix_tup (pv 4) pe_int (fun _ _ => rfl)))
      (pss_cons (ps_for PassesOwn.never rfl (pi_range1 (by rfl) T.b_range (pa_cons (pv 2) pa_nil)) (pg_name (i := 7) sc_law_stump.nd rfl (Or.inl rfl))
        (pss_cons (ps_if (pt_cmpR op_eq (pv 6) pe_int (nomark _))
          (pss_one ps_break)
          pss_nil)
        (pss_cons (ps_setLc (i := 8) (own := [("one", 10)]) (g := (gName 10)) rfl sc_law_stump.nd rfl rfl (sw_true rfl rfl rfl (by decide +kernel)) (pi_list (pv 1)) (blkOk_by (N := N_law_stump) (sc := defScope s_law_stump) (by decide +kernel)) (fun _ _ _ _ _ => (pg_name (i := 10) sc_law_stump.nd rfl (Or.inl rfl))) (fun _ _ _ _ _ => (pts_one (pt_cmpR op_le (pe_op op_add (pe_op op_add (pe_callB (show CallR _ _ (Evl.rLenS K) from call_len_seq) (by rfl) T.b_len boot_len (pa_cons (pv 5) pa_nil)) (pv 6)) (pe_ix (show IxR _ (rIxT K) from ix_tup) (pv 10) pe_int (fun _ _ => rfl))) (pv 2) (nomark _)))) (fun _ _ _ _ _ => (pv 10)))
        (pss_cons (ps_set (i := 9) sc_law_stump.nd rfl (Or.inl rfl) (pe_d c_law_pick (hr.mono (by decide)) pass0 (pa_cons (pv 0) (pa_cons (pe_op op_mul pe_int (pe_callB call_len_seq (by rfl) T.b_len boot_len (pa_cons (pv 8) pa_nil))) pa_nil))))
        (pss_one (ps_if (pt_cmpR op_lt (pv 9) (pe_callB call_len_seq (by rfl) T.b_len boot_len (pa_cons (pv 8) pa_nil)) (nomark _))
          (pss_cons (ps_set (i := 5) sc_law_stump.nd rfl (Or.inr rfl) (pe_op op_catG (pv 5) (pe_tupF (pa_cons (pe_ix ix_tup (pe_ix ix_list (pv 8) (pv 9) (fun _ _ => rfl)) pe_int (fun _ _ => rfl)) pa_nil))))
          (pss_one (ps_set (i := 6) sc_law_stump.nd rfl (Or.inr rfl) (pe_op op_add (pe_op op_sub (pv 6) pe_int) (pe_ix ix_tup (pe_ix ix_list (pv 8) (pv 9) (fun _ _ => rfl)) pe_int (fun _ _ => rfl))))))
          (pss_cons (ps_set (i := 5) sc_law_stump.nd rfl (Or.inr rfl) (pe_op op_catG (pv 5) (pe_tupF (pa_cons pe_str pa_nil))))
          (pss_one (ps_set (i := 6) sc_law_stump.nd rfl (Or.inr rfl) (pe_op op_sub (pv 6) pe_int))))))))))
      (pss_one (ps_ret (pv 5)))))))), ?_⟩
    refine ⟨_, rfl, r, rfl, ⟨_, SqL.of hR⟩, fun D hD => ?_⟩
    have nD := hb.ne hD
    have nDr : r ≠ D := ne_of_none hR hD
    refine lc_list (xs := ts.map V.ref) (fun i H' => Same H H' ∧ ∃ us, H' D = some (.lst (us.map V.ref)) ∧ TupsAt H' us ((rows.take i).filter (rootP most)))
      ⟨(Same.refl H).upd_new hD, [], upd_same, rfl, fun i t q hi => by simp at hi⟩ (fun i H' _ ⟨q, _⟩ => SqL.of (q _ _ hR)) ?_ ?_
    · rintro i v H1 hv ⟨s1, us, d1, u1⟩
      obtain ⟨t, ht, rfl⟩ := get_map hv
      have hi : i < rows.length := by rw [← hT.1]; exact lt_of_get ht
      have hq := s1 _ _ (hT.2 i t rows[i] ht (List.getElem?_eq_getElem hi))
      have et := flt_snoc (p := rootP most) (List.getElem?_eq_getElem hi)
      have lu : us.length ≤ 8 := by
        rw [u1.1]
        have := List.length_filter_le (rootP most) (rows.take i)
        have := R8.len
        rw [List.length_take] at *
        omega
      have no : ¬ (0 < (rows[i]).2 ∧ (rows[i]).2 < ((most : Nat) : Int)) → Same H H1 ∧ ∃ us, H1 D = some (.lst (us.map V.ref)) ∧ TupsAt H1 us ((rows.take (i + 1)).filter (rootP most)) := fun h => by
        refine ⟨s1, us, d1, ?_⟩
        rw [et, if_neg (show ¬ rootP most rows[i] = true from fun e => h (of_decide_eq_true e)), List.append_nil]
        exact u1
      refine ⟨rfl, _, rfl, t, _, _, _, rfl, rfl, SqT.of hq, atI_nat (j := 1) rfl, _, _, rfl, rfl, _, rfl, ?_⟩
      refine ite2 (fun h0 => ?_) (fun h0 => ⟨_, rfl, no fun q => h0 (decide_eq_true q.1)⟩)
      refine ⟨_, rfl, _, _, rfl, rfl, _, rfl, ?_⟩
      refine ite2 (fun h1 => ?_) (fun h1 => no fun q => h1 (decide_eq_true q.2))
      refine ⟨_, rfl, _, d1, lt_line (by rw [List.length_map]; omega), s1.upd_own hD, us ++ [t], by rw [upd_same, List.map_append]; rfl, ?_⟩
      rw [et, if_pos (show rootP most rows[i] = true from decide_eq_true ⟨of_decide_eq_true h0, of_decide_eq_true h1⟩)]
      have tk : TK H1 (upd H1 D (.lst (us.map V.ref ++ [V.ref t]))) := TK.lst d1
      exact (u1.keep tk).snoc (tk _ _ hq)
    · rintro H1 ⟨s1, us, d1, u1⟩
      have elen : (ts.map V.ref).length = rows.length := by rw [List.length_map]; exact hT.1
      rw [elen, List.take_length] at u1
      have hpos : 0 < (rows.filter (rootP most)).length := by
        obtain ⟨q, q1, q2⟩ := hroot
        exact List.length_pos_of_mem (List.mem_filter.mpr ⟨q1, decide_eq_true q2⟩)
      have hsub : (rows.filter (rootP most)).length ≤ rows.length := List.length_filter_le _ _
      have hin : ∀ q ∈ (rows.filter (rootP most)), q ∈ rows ∧ 0 < q.2 ∧ q.2 < ((most : Nat) : Int) := fun q hq => ⟨(List.mem_filter.mp hq).1, of_decide_eq_true (List.mem_filter.mp hq).2⟩
      generalize (rows.filter (rootP most)) = rts at u1 hpos hsub hin
      have lu := u1.1
      have R8l := R8.len
      refine ⟨_, rfl, _, rfl, _, rfl, D, _, rfl, .inl (SqL.of d1), a, c, (us.length : Int), by rw [List.length_map], hb.same s1, by omega, by omega, fun H2 j k2 b2 j0 j1 => ?_⟩
      have hj : j.toNat < rts.length := by omega
      obtain ⟨t, t1, t2, t3⟩ := u1.at hj
      have d2 := k2 _ _ d1 nD.1
      have t4 := k2.tkM (hb.same s1) _ _ t3
      refine ⟨D, _, _, _, rfl, rfl, SqL.of d2, at_ofG (j := j.toNat) (by omega) t2, ?_⟩
      obtain ⟨m1, m2, m3⟩ := hin _ (List.getElem_mem hj)
      generalize rts[j.toNat] = q0 at t3 t4 m1 m2 m3
      have k02 : Kp a H H2 := (Kp.same s1).trans k2
      have hR2 := k02 _ _ hR nra
      have hT2 : TupsAt H2 ts rows := hT.keep (k02.tkM hb)
      refine ⟨_, rfl, t, _, _, _, rfl, rfl, SqT.of t4, atI_nat (j := 0) rfl, le_line (show 1 ≤ 100000 by decide), fun t5 o5 h5 ho5 => ?_⟩
      have s5 : Same H2 (upd H2 t5 (.frz o5 (.tup [.str q0.1]))) := (Same.refl H2).upd_new h5
      have z5 : Tz (upd H2 t5 (.frz o5 (.tup [.str q0.1]))) t5 (sV [q0.1]) := ⟨o5, upd_same, ho5⟩
      have b5 := b2.same s5
      have k05 : Kp a H (upd H2 t5 (.frz o5 (.tup [.str q0.1]))) := k02.trans (Kp.same s5)
      have t45 := s5 _ _ t4
      generalize upd H2 t5 (.frz o5 (.tup [.str q0.1])) = H5 at s5 z5 b5 k05 t45
      have wq := wR_row R m1
      refine ⟨_, rfl, t, _, _, _, rfl, rfl, SqT.of t45, atI_nat (j := 1) rfl, ?_⟩
      have fin : ∀ (H' : Hp) (tt : Addr) (l : List Str), Kp a H H' → BagM H' a c → Tz H' tt (sV l) → Opn (wR rows) l 0 → (∀ z ∈ l, z = "*" ∨ ∃ q ∈ rows, q.1 = z) → l.length ≤ most → 2 ≤ l.length → Q (.ref tt) H' :=
        fun H' tt l k' b' z' o' e' l' g' => k _ _ l k' b' z' ⟨o'.done, e', by omega⟩ l' g'
      refine ⟨_, rfl, _, rfl, by omega, by omega, for_range (n := most) (fun i σ H' => ∃ (x y z : Option V) (tt : Addr) (l : List Str) (n : Nat), σ = [some (.ref a), some (.ref r), some (.int (most : Nat)), some (.ref D), some (.ref t), some (.ref tt), some (.int (n : Nat)), x, y, z, none] ∧
          Kp a H H' ∧ BagM H' a c ∧ Tz H' tt (sV l) ∧ Opn (wR rows) l n ∧ (∀ z ∈ l, z = "*" ∨ ∃ q ∈ rows, q.1 = z) ∧ l.length + n ≤ most ∧ 2 ≤ l.length + n ∧ (n = 0 ∨ l.length = i + 1))
        ⟨none, none, none, t5, [q0.1], wR rows q0.1, by rw [wq]; rfl, k05, b5, z5, ?_, ?_, ?_, ?_, .inr rfl⟩ ?_ ?_⟩
      · have q := (Opn.nil (w := wR rows)).snoc q0.1
        rw [Nat.zero_add] at q
        exact q
      · intro z hz
        rw [List.mem_singleton.mp hz]
        exact .inr ⟨q0, m1, rfl⟩
      · show 1 + _ ≤ _
        omega
      · show 2 ≤ 1 + _
        omega
      · rintro i σ H6 hi ⟨x, y, z, tt, l, n, rfl, k6, b6, z6, O, em, l1, l2, pr⟩
        have hR6 := k6 _ _ hR nra
        have hT6 : TupsAt H6 ts rows := hT.keep (k6.tkM hb)
        refine ⟨_, rfl, rfl, _, rfl, ite2 (fun h0 => ?_) (fun h0 => ?_)⟩
        · have n0 : n = 0 := by
            have := int_eq0 h0
            omega
          subst n0
          exact ⟨_, rfl, fin _ _ l k6 b6 z6 O em (by omega) (by omega)⟩
        have hn0 : n ≠ 0 := fun e => h0 (by rw [e]; exact decide_eq_true rfl)
        obtain ⟨n, rfl⟩ := Nat.exists_eq_succ_of_ne_zero hn0
        have hli : l.length = i + 1 := by omega
        refine ⟨_, rfl, r, rfl, ⟨_, SqL.of hR6⟩, fun D2 hD2 => ?_⟩
        have nD2 := b6.ne hD2
        have nDr2 : r ≠ D2 := ne_of_none hR6 hD2
        refine lc_list (xs := ts.map V.ref) (fun i H' => Same H6 H' ∧ ∃ us, H' D2 = some (.lst (us.map V.ref)) ∧ TupsAt H' us ((rows.take i).filter (roomP l.length (n + 1) most)))
          ⟨(Same.refl H6).upd_new hD2, [], upd_same, rfl, fun i t q hi => by simp at hi⟩ (fun i H' _ ⟨q, _⟩ => SqL.of (q _ _ hR6)) ?_ ?_
        · rintro j v H7 hv ⟨s7, us, d7, u7⟩
          obtain ⟨t7, ht7, rfl⟩ := get_map hv
          have hj : j < rows.length := by rw [← hT6.1]; exact lt_of_get ht7
          have hq := s7 _ _ (hT6.2 j t7 rows[j] ht7 (List.getElem?_eq_getElem hj))
          have et := flt_snoc (p := roomP l.length (n + 1) most) (List.getElem?_eq_getElem hj)
          have lu : us.length ≤ 8 := by
            rw [u7.1]
            have := List.length_filter_le (roomP l.length (n + 1) most) (rows.take j)
            have := R8.len
            rw [List.length_take] at *
            omega
          have zz : SqT K H7 tt (sV l) := (z6.q.same s7).sq
          refine ⟨rfl, _, rfl, tt, _, rfl, .inr zz, _, rfl, _, _, rfl, rfl, _, rfl, t7, _, _, _, rfl, rfl, SqT.of hq, atI_nat (j := 1) rfl, _, _, rfl, rfl, _, rfl, _, _, rfl, rfl, _, rfl, ?_⟩
          have ll : (sV l).length = l.length := by rw [sV, List.length_map]
          refine ite2 (fun h1 => ?_) (fun h1 => ?_)
          · refine ⟨_, rfl, _, d7, lt_line (by rw [List.length_map]; omega), s7.upd_own hD2, us ++ [t7], by rw [upd_same, List.map_append]; rfl, ?_⟩
            have h1 := of_decide_eq_true h1
            rw [ll] at h1
            rw [et, if_pos (show roomP l.length (n + 1) most rows[j] = true from decide_eq_true h1)]
            have tk : TK H7 (upd H7 D2 (.lst (us.map V.ref ++ [V.ref t7]))) := TK.lst d7
            exact (u7.keep tk).snoc (tk _ _ hq)
          · refine ⟨s7, us, d7, ?_⟩
            rw [et, if_neg (show ¬ roomP l.length (n + 1) most rows[j] = true from fun e => h1 (by rw [ll]; exact decide_eq_true (of_decide_eq_true e))), List.append_nil]
            exact u7
        · rintro H7 ⟨s7, us, d7, u7⟩
          rw [show (ts.map V.ref).length = rows.length by rw [List.length_map]; exact hT.1, List.take_length] at u7
          have hpos : 0 < (rows.filter (roomP l.length (n + 1) most)).length := by
            obtain ⟨q, q1, q2⟩ := R.leaf
            exact List.length_pos_of_mem (List.mem_filter.mpr ⟨q1, decide_eq_true (by rw [q2]; omega)⟩)
          have hsub : (rows.filter (roomP l.length (n + 1) most)).length ≤ rows.length := List.length_filter_le _ _
          have hin : ∀ q ∈ rows.filter (roomP l.length (n + 1) most), q ∈ rows ∧ ((l.length : Nat) : Int) + ((n + 1 : Nat) : Int) + q.2 ≤ ((most : Nat) : Int) := fun q hq => ⟨(List.mem_filter.mp hq).1, of_decide_eq_true (List.mem_filter.mp hq).2⟩
          generalize rows.filter (roomP l.length (n + 1) most) = rts at u7 hpos hsub hin
          have lu := u7.1
          have b7 := b6.same s7
          have k67 := k6.trans (Kp.same s7)
          refine ⟨_, rfl, _, rfl, D2, _, rfl, .inl (SqL.of d7), _, _, rfl, rfl, .inl ⟨by decide, by decide⟩, a, c, 2 * (us.length : Int), by rw [List.length_map], b7, by omega, by omega, fun H8 e k8 b8 e0 e1 => ?_⟩
          have d8 := k8 _ _ d7 nD2.1
          have k68 := k67.trans k8
          have z8 : Tz H8 tt (sV l) := by
            obtain ⟨o, q1, q2⟩ := z6.same s7
            exact ⟨o, k8 _ _ q1 (fun e => by
              obtain ⟨⟨y, q3⟩, _⟩ := b7.lsts
              rw [e, q3] at q1
              cases q1), q2⟩
          refine ⟨_, rfl, _, rfl, D2, _, rfl, .inl (SqL.of d8), _, _, rfl, rfl, _, rfl, ?_⟩
          have lus : (us.map V.ref).length = us.length := List.length_map ..
          have wr : ∀ t6 : Addr, l.length + 1 ≤ 100000 := fun _ => by omega
          refine ite2 (fun h1 => ?_) (fun h1 => ?_)
          · have h1 := of_decide_eq_true h1
            rw [lus] at h1
            have hj : e.toNat < rts.length := by omega
            obtain ⟨u, u1, u2, u3⟩ := u7.at hj
            have u4 := k8.tkM b7 _ _ u3
            obtain ⟨m4, m5⟩ := hin _ (List.getElem_mem hj)
            generalize rts[e.toNat] = q1 at u3 u4 m4 m5
            have hat : atI (us.map V.ref) e = some (.ref u) := at_ofG (j := e.toNat) (by omega) u2
            refine ⟨_, rfl, _, rfl, _, rfl, D2, _, _, _, rfl, rfl, SqL.of d8, hat, u, _, _, _, rfl, rfl, SqT.of u4, atI_nat (j := 0) rfl, le_line (show 1 ≤ 100000 by decide), fun t6 o6 h6 ho6 => ?_⟩
            have s9 : Same H8 (upd H8 t6 (.frz o6 (.tup [.str q1.1]))) := (Same.refl H8).upd_new h6
            have z9 : Tz (upd H8 t6 (.frz o6 (.tup [.str q1.1]))) t6 (sV [q1.1]) := ⟨o6, upd_same, ho6⟩
            have d9 := s9 _ _ d8
            have u9 := s9 _ _ u4
            have b9 := b8.same s9
            have k69 := k68.trans (Kp.same s9)
            have zl9 := z8.same s9
            generalize upd H8 t6 (.frz o6 (.tup [.str q1.1])) = H9 at s9 z9 d9 u9 b9 k69 zl9
            refine ⟨tt, t6, _, _, rfl, rfl, zl9.q.sq, z9.q.sq, le_line (by rw [sV, sV, List.length_map, List.length_map]; show l.length + 1 ≤ _; omega), (fun e => by rw [sV, List.map_eq_nil_iff] at e; rw [e] at hli; simp at hli), (fun _ e => by simp [sV] at e), fun _ _ p o hp ho => ?_⟩
            have s10 : Same H9 (upd H9 p (.frz o (.tup (sV l ++ sV [q1.1])))) := (Same.refl H9).upd_new hp
            have z10 : Tz (upd H9 p (.frz o (.tup (sV l ++ sV [q1.1])))) p (sV (l ++ [q1.1])) := ⟨o, by rw [upd_same, sV, sV, sV, List.map_append], ho⟩
            refine ⟨_, rfl, _, _, rfl, rfl, _, rfl, _, rfl, D2, _, _, _, rfl, rfl, SqL.of (s10 _ _ d9), hat, u, _, _, _, rfl, rfl, SqT.of (s10 _ _ u9), atI_nat (j := 1) rfl, _, _, rfl, rfl, ?_⟩
            have wq1 := wR_row R m4
            refine ⟨some (.int (0 + (i : Nat))), some (.ref D2), some (.int e), p, l ++ [q1.1], n + wR rows q1.1, ?_, k69.trans (Kp.same s10), b9.same s10, z10, O.snoc _, ?_, ?_, ?_, .inr ?_⟩
            · rw [show ((n + wR rows q1.1 : Nat) : Int) = ((n + 1 : Nat) : Int) - 1 + q1.2 by rw [← wq1]; omega]
              rfl
            · intro z hz
              rcases List.mem_append.mp hz with q | q
              · exact em z q
              · rw [List.mem_singleton.mp q]
                exact .inr ⟨q1, m4, rfl⟩
            · rw [List.length_append]
              show l.length + 1 + _ ≤ _
              omega
            · rw [List.length_append]
              show 2 ≤ l.length + 1 + _
              omega
            · rw [List.length_append, hli]
              rfl
          · refine ⟨_, rfl, le_line (show 1 ≤ 100000 by decide), fun t6 o6 h6 ho6 => ?_⟩
            have s9 : Same H8 (upd H8 t6 (.frz o6 (.tup [.str "*"]))) := (Same.refl H8).upd_new h6
            have z9 : Tz (upd H8 t6 (.frz o6 (.tup [.str "*"]))) t6 (sV ["*"]) := ⟨o6, upd_same, ho6⟩
            have b9 := b8.same s9
            have k69 := k68.trans (Kp.same s9)
            have zl9 := z8.same s9
            generalize upd H8 t6 (.frz o6 (.tup [.str "*"])) = H9 at s9 z9 b9 k69 zl9
            refine ⟨tt, t6, _, _, rfl, rfl, zl9.q.sq, z9.q.sq, le_line (by rw [sV, sV, List.length_map, List.length_map]; show l.length + 1 ≤ _; omega), (fun e => by rw [sV, List.map_eq_nil_iff] at e; rw [e] at hli; simp at hli), (fun _ e => by simp [sV] at e), fun _ _ p o hp ho => ?_⟩
            have s10 : Same H9 (upd H9 p (.frz o (.tup (sV l ++ sV ["*"])))) := (Same.refl H9).upd_new hp
            have z10 : Tz (upd H9 p (.frz o (.tup (sV l ++ sV ["*"])))) p (sV (l ++ [("*" : Str)])) := ⟨o, by rw [upd_same, sV, sV, sV, List.map_append], ho⟩
            refine ⟨_, rfl, _, _, rfl, rfl, ?_⟩
            have O2 := O.snoc "*"
            rw [star_no R, Nat.add_zero] at O2
            refine ⟨some (.int (0 + (i : Nat))), some (.ref D2), some (.int e), p, l ++ [("*" : Str)], n, ?_, k69.trans (Kp.same s10), b9.same s10, z10, O2, ?_, ?_, ?_, .inr ?_⟩
            · rw [show ((n : Nat) : Int) = ((n + 1 : Nat) : Int) - 1 by omega]
              rfl
            · intro z hz
              rcases List.mem_append.mp hz with q | q
              · exact em z q
              · exact .inl (List.mem_singleton.mp q)
            · rw [List.length_append]
              show l.length + 1 + _ ≤ _
              omega
            · rw [List.length_append]
              show 2 ≤ l.length + 1 + _
              omega
            · rw [List.length_append, hli]
              rfl
      · rintro σ H6 ⟨x, y, z, tt, l, n, rfl, k6, b6, z6, O, em, l1, l2, pr⟩
        have n0 : n = 0 := by omega
        subst n0
        exact ⟨_, rfl, fin _ _ l k6 b6 z6 O em (by omega) (by omega)⟩
end
end Sh
end
section
set_option Elab.async false
set_option linter.all false
set_option maxRecDepth 100000
set_option maxHeartbeats 2000000
namespace Sh
open PySem PySem.Spec PyProof.Rows L2
open C8 (pss_cut tCut)
open Evl (ixN_nat)
/-- an entry of a result: a kind, or the number of a hole -/
inductive Ent where
  | k (z : Str)
  | n (i : Nat)
def eV : Ent → V
  | .k z => .str z
  | .n i => .int (i : Nat)
def eW (rows : List Row) : Ent → Nat
  | .k z => wR rows z
  | .n _ => 0
def nums (e : List Ent) : List Nat := e.filterMap fun | .n i => some i | .k _ => none
def knE (e : List Ent) : Nat := e.countP fun | .n _ => false | .k _ => true
structure ResOk (rows : List Row) (s : List Str) (e : List Ent) : Prop where
  f : Mth.forest (eW rows) e 1 = true
  kn : ∀ z, .k z ∈ e → ∃ q ∈ rows, q.1 = z
  nn : ∀ i ∈ nums e, i < s.count ("*" : Str)
  nd : (nums e).Nodup
  sm : knE e + s.count ("*" : Str) < s.length
  len : e.length ≤ 7
theorem nums_snoc (e : List Ent) (x : Ent) : nums (e ++ [x]) = nums e ++ nums [x] := List.filterMap_append ..
theorem knE_snoc (e : List Ent) (x : Ent) : knE (e ++ [x]) = knE e + knE [x] := List.countP_append ..
def resP (m n k : Nat) (q : Row) : Bool := decide (0 < ((m : Nat) : Int) ∧ ((n : Nat) : Int) + q.2 ≤ ((m : Nat) : Int) + ((k : Nat) : Int))
def nV (fs : List Nat) : List V := fs.map fun i => V.int ((i : Nat) : Int)
theorem tz_kp {a c : Addr} {H H' : Hp} {t : Addr} {xs : List V} (z : Tz H t xs) (k : Kp a H H') (b : BagM H a c) : Tz H' t xs := by
  obtain ⟨o, q1, q2⟩ := z
  exact ⟨o, k _ _ q1 (fun e => by
    obtain ⟨⟨y, q3⟩, _⟩ := b.lsts
    rw [e, q3] at q1
    cases q1), q2⟩
theorem seq_nat {j L : Nat} (h : j < L) : seqIndex? ((j : Nat) : Int) L = some j := by
  have q : ¬ ((j : Nat) : Int) < 0 := by omega
  simp only [seqIndex?, if_neg q]
  rw [if_pos (by rw [decide_eq_true (show (0 : Int) ≤ (j : Nat) by omega), decide_eq_true (show ((j : Nat) : Int) < (L : Nat) by omega)]; rfl), Int.toNat_natCast]
theorem er_map {α β : Type} (f : α → β) : ∀ (l : List α) (i : Nat), (l.map f).eraseIdx i = (l.eraseIdx i).map f
  | [], _ => rfl
  | _ :: _, 0 => rfl
  | x :: r, i + 1 => by
    show f x :: (r.map f).eraseIdx i = f x :: (r.eraseIdx i).map f
    rw [er_map f r i]
theorem er_perm {α : Type} : ∀ (l : List α) (i : Nat) (h : i < l.length), (l[i] :: l.eraseIdx i).Perm l
  | [], _, h => absurd h (Nat.not_lt_zero _)
  | _ :: _, 0, _ => List.Perm.refl _
  | x :: r, i + 1, h => (List.Perm.swap _ _ _).trans ((er_perm r i (Nat.lt_of_succ_lt_succ h)).cons x)
theorem catG_tz {K : PySem.W.Frag} {H : Hp} {a b : Addr} {xs ys : List V} {Q : VK} (ha : Tz H a xs) (hb : Tz H b ys) (hl : xs.length + ys.length ≤ 100000) (hy : ys ≠ []) (k : ∀ p H', Same H H' → Tz H' p (xs ++ ys) → Q (.ref p) H') : rCatG K (.ref a) (.ref b) H Q :=
  ⟨a, b, xs, ys, rfl, rfl, ha.q.sq, hb.q.sq, le_line hl, fun e => by subst e; exact k b H (Same.refl H) hb, fun _ e => absurd e hy, fun _ _ p o hp ho => k p _ ((Same.refl H).upd_new hp) ⟨o, upd_same, ho⟩⟩
def spResultM : Sp := fun vs H Q _ => ∃ (a c r t : Addr) (rows : List Row) (s : List Str), vs = [.ref a, .ref r, .ref t] ∧ BagM H a c ∧ r ≠ a ∧ RowsAt H r rows ∧ ROk 4 rows ∧ Tz H t (sV s) ∧ StumpOk rows s ∧ 2 ≤ s.length ∧ s.length ≤ 7 ∧ s.count ("*" : Str) < s.length ∧
  ∀ (H' : Hp) (u : Addr) (e : List Ent), Kp a H H' → BagM H' a c → Tz H' u (e.map eV) → ResOk rows s e → Q (.ref u) H'
abbrev s_law_result : Stmt := top 40
abbrev N_law_result : List Str := ["bag", "kinds", "stump", "free", "room", "row", "need", "k", "choice", "at", "one"]
theorem sc_law_result : FnScope N_law_result ["bag", "kinds", "stump"] (defScope s_law_result) := ⟨rfl, rfl, rfl, by decide +kernel, rfl, by decide +kernel, by decide +kernel⟩
section
variable {P : Program} {w : World} {K : PySem.W.Frag} {mg : Str → Option Value} {base : Heap} {C : Addr}
theorem ok_resultM (T : Bl mg) (c_law_pick : DefOk P w K mg base CX0 1 "_law_pick" spPick) (D : Def0 K mg "_law_result" s_law_result) : DefOk P w K mg base CX0 2 "_law_result" spResultM := by
  refine D.ok sc_law_result (fun vs H Q E h => ?_) (fun _ _ _ _ _ _ us hl => match us, hl with | [_, _, _], _ => rfl) (fun f cdv A outer s' H vs Q E hr h => ?_)
  · obtain ⟨a, c, r, t, rows, s, rfl, _⟩ := h
    rfl
  · obtain ⟨a, c, r, t, rows, s, rfl, hb, nra, ⟨ts, hR, hT⟩, R, hs, SO, s2, s7, sh, k⟩ := h
    have R8 := R.up
    have R8l := R8.len
    refine ⟨_, (pss_cons (ps_set (i := 3) sc_law_result.nd rfl (Or.inr rfl) (pe_listRg rfl (by rfl) T.b_list (prg_1 (by rfl) T.b_range (pe_mG ty_Z PySem.F.plainAttrs_tuple PySem.F.slot_tuple_count PySem.F.type_tuple_count mt_tcount (pv 2) (pa_cons pe_str pa_nil)))))
      (pss_cons (ps_set (i := 4) sc_law_result.nd rfl (Or.inr rfl) (pe_op op_sub (pe_op op_sub (pe_callB call_len_seq (by rfl) T.b_len boot_len (pa_cons (pv 2) pa_nil)) (pe_callB call_len_seq (by rfl) T.b_len boot_len (pa_cons (pv 3) pa_nil))) pe_int))
      (pss_cons (ps_set (i := 5) sc_law_result.nd rfl (Or.inl rfl) (pe_tupF pa_nil))
      (pss_cons (ps_set (i := 6) sc_law_result.nd rfl (Or.inr rfl) pe_int)
      (pss_cons (ps_for PassesOwn.never rfl (pi_range1 (by rfl) T.b_range (pa_cons (pe_callB call_len_seq (by rfl) T.b_len boot_len (pa_cons (pv 2) pa_nil)) pa_nil)) (pg_name (i := 7) sc_law_result.nd rfl (Or.inl rfl))
        (pss_cons (ps_if (pt_cmpR op_eq (pv 6) pe_int (nomark _))
          (pss_one ps_break)
          pss_nil)
        (pss_cons (ps_setLc (i := 8) (own := [("one", 10)]) (g := (gName 10)) rfl sc_law_result.nd rfl rfl (sw_true rfl rfl rfl (by decide +kernel)) (pi_list (pv 1)) (blkOk_by (N := N_law_result) (sc := defScope s_law_result) (by decide +kernel)) (fun _ _ _ _ _ => (pg_name (i := 10) sc_law_result.nd rfl (Or.inl rfl))) (fun _ _ _ _ _ => (pts_one (PW.pt (pw_and (pt_cmpR op_gt (pv 4) pe_int (nomark _)) (pw_and1 (pt_cmpR op_le (pe_op op_add (pv 6) (pe_ix (show IxR _ (rIxT K) from ix_tup) (pv 10) pe_int (fun _ _ => rfl))) (pe_op op_add (pv 4) (pe_callB (show CallR _ _ (Evl.rLenS K) from call_len_seq) (by rfl) T.b_len boot_len (pa_cons (pv 3) pa_nil))) (nomark _))))))) (fun _ _ _ _ _ => (pv 10)))
        (pss_cons (ps_set (i := 9) sc_law_result.nd rfl (Or.inl rfl) (pe_d c_law_pick (hr.mono (by decide)) pass0 (pa_cons (pv 0) (pa_cons (pe_op op_add (pe_callB call_len_seq (by rfl) T.b_len boot_len (pa_cons (pv 8) pa_nil)) (pe_op op_mul pe_int (pe_callB call_len_seq (by rfl) T.b_len boot_len (pa_cons (pv 3) pa_nil)))) pa_nil))))
        (pss_one (ps_if (pt_cmpR op_lt (pv 9) (pe_callB call_len_seq (by rfl) T.b_len boot_len (pa_cons (pv 8) pa_nil)) (nomark _))
          (pss_cons (ps_set (i := 5) sc_law_result.nd rfl (Or.inl rfl) (pe_op op_catG (pv 5) (pe_tupF (pa_cons (pe_ix ix_tup (pe_ix ix_list (pv 8) (pv 9) (fun _ _ => rfl)) pe_int (fun _ _ => rfl)) pa_nil))))
          (pss_cons (ps_set (i := 6) sc_law_result.nd rfl (Or.inr rfl) (pe_op op_add (pe_op op_sub (pv 6) pe_int) (pe_ix ix_tup (pe_ix ix_list (pv 8) (pv 9) (fun _ _ => rfl)) pe_int (fun _ _ => rfl))))
          (pss_one (ps_set (i := 4) sc_law_result.nd rfl (Or.inr rfl) (pe_op op_sub (pv 4) pe_int)))))
          (pss_cons (ps_set (i := 5) sc_law_result.nd rfl (Or.inl rfl) (pe_op op_catG (pv 5) (pe_tupF (pa_cons (pe_bm PySem.F.plainAttrs_list PySem.F.slot_list_pop PySem.F.type_list_pop mt_popAt (pv 3) (pa_cons (pe_op op_fdiv (pe_op op_sub (pv 9) (pe_callB call_len_seq (by rfl) T.b_len boot_len (pa_cons (pv 8) pa_nil))) pe_int) pa_nil)) pa_nil))))
          (pss_one (ps_set (i := 6) sc_law_result.nd rfl (Or.inr rfl) (pe_op op_sub (pv 6) pe_int))))))))))
      (pss_one (ps_ret (pv 5)))))))), ?_⟩
    have ls : (sV s).length = s.length := by rw [sV, List.length_map]
    refine ⟨_, rfl, ⟨t, sV s, rfl, hs⟩, t, s, "*", rfl, rfl, hs.q.sq, _, rfl, .of_le (by omega) (by omega) (by omega) (by omega), fun F hF => ?_⟩
    have nF := hb.ne hF
    have e0 : rgV 0 ((s.count ("*" : Str) : Nat) : Int) = nV (List.range (s.count ("*" : Str))) := by
      unfold rgV nV
      rw [show (((s.count ("*" : Str) : Nat) : Int) - 0).toNat = s.count ("*" : Str) by omega]
      exact List.map_congr_left fun i _ => by rw [Int.zero_add]
    rw [e0]
    have s1 : Same H (upd H F (.lst (nV (List.range (s.count ("*" : Str)))))) := (Same.refl H).upd_new hF
    have f1 : (upd H F (.lst (nV (List.range (s.count ("*" : Str)))))) F = some (.lst (nV (List.range (s.count ("*" : Str))))) := upd_same
    have b1 := hb.same s1
    generalize upd H F (.lst (nV (List.range (s.count ("*" : Str))))) = H1 at s1 f1 b1
    have lf : (nV (List.range (s.count ("*" : Str)))).length = s.count ("*" : Str) := by rw [nV, List.length_map, List.length_range]
    refine ⟨_, rfl, t, _, rfl, .inr (hs.q.same s1).sq, _, rfl, F, _, rfl, .inl (SqL.of f1), _, _, rfl, rfl, _, _, rfl, rfl, ?_⟩
    refine ⟨le_line (show 0 ≤ 100000 by decide), fun t5 o5 h5 ho5 => ?_⟩
    have s5 : Same H1 (upd H1 t5 (.frz o5 (.tup []))) := (Same.refl H1).upd_new h5
    have z5 : Tz (upd H1 t5 (.frz o5 (.tup []))) t5 (([] : List Ent).map eV) := ⟨o5, upd_same, ho5⟩
    have b5 := b1.same s5
    have f5 := s5 _ _ f1
    have s15 := s1.trans s5
    generalize upd H1 t5 (.frz o5 (.tup [])) = H5 at s5 z5 b5 f5 s15
    have fin : ∀ (H' : Hp) (tt : Addr) (l : List Ent) (fs : List Nat) (m : Nat), Kp a H H' → BagM H' a c → Tz H' tt (l.map eV) → Opn (eW rows) l 0 → (∀ z, .k z ∈ l → ∃ q ∈ rows, q.1 = z) → (nums l ++ fs).Nodup → (∀ i ∈ nums l ++ fs, i < s.count ("*" : Str)) → knE l + m + s.count ("*" : Str) + 1 = s.length → l.length ≤ 7 → Q (.ref tt) H' :=
      fun H' tt l fs m k' b' z' o' e' nd' nn' kk' l' => k _ _ l k' b' z' ⟨o'.done, e', fun i hi => nn' i (List.mem_append_left _ hi), (List.nodup_append.mp nd').1, by omega, l'⟩
    refine ⟨_, rfl, t, _, rfl, .inr (hs.q.same s15).sq, _, rfl, by omega, by omega, for_range (n := (((sV s).length : Nat) : Int).toNat) (fun i σ H' => ∃ (x y z : Option V) (tt : Addr) (l : List Ent) (fs : List Nat) (m n : Nat), σ = [some (.ref a), some (.ref r), some (.ref t), some (.ref F), some (.int (m : Nat)), some (.ref tt), some (.int (n : Nat)), x, y, z, none] ∧
        Kp a H H' ∧ BagM H' a c ∧ Tz H' tt (l.map eV) ∧ H' F = some (.lst (nV fs)) ∧ Opn (eW rows) l n ∧ (∀ z, .k z ∈ l → ∃ q ∈ rows, q.1 = z) ∧ (nums l ++ fs).Nodup ∧ (∀ i ∈ nums l ++ fs, i < s.count ("*" : Str)) ∧ knE l + m + s.count ("*" : Str) + 1 = s.length ∧ n ≤ m + fs.length ∧ l.length ≤ i ∧ l.length ≤ 7 ∧ (n = 0 ∨ m + fs.length + i + 1 = s.length))
      ⟨none, none, none, t5, [], List.range (s.count ("*" : Str)), s.length - s.count ("*" : Str) - 1, 1, ?_, Kp.same s15, b5, z5, f5, Opn.nil, (fun z hz => nomatch hz), List.nodup_range, (fun i hi => List.mem_range.mp hi), ?_, ?_, Nat.le_refl _, Nat.zero_le _, .inr ?_⟩ ?_ ?_⟩
    · rw [ls, lf, show ((s.length - s.count ("*" : Str) - 1 : Nat) : Int) = ((s.length : Nat) : Int) - ((s.count ("*" : Str) : Nat) : Int) - 1 by omega]
      rfl
    · show 0 + _ + _ + 1 = _
      omega
    · rw [List.length_range]
      omega
    · rw [List.length_range]
      omega
    · rintro i σ H6 hi ⟨x, y, z, tt, l, fs, m, n, rfl, k6, b6, z6, f6, O, em, nd, nn, kk, l1, l2, l7, pr⟩
      have hR6 := k6 _ _ hR nra
      have hT6 : TupsAt H6 ts rows := hT.keep (k6.tkM hb)
      refine ⟨_, rfl, rfl, _, rfl, ite2 (fun h0 => ?_) (fun h0 => ?_)⟩
      · have n0 : n = 0 := by
          have := int_eq0 h0
          omega
        subst n0
        exact ⟨_, rfl, fin _ _ l fs m k6 b6 z6 O em nd nn kk l7⟩
      have hn0 : n ≠ 0 := fun e => h0 (by rw [e]; exact decide_eq_true rfl)
      obtain ⟨n, rfl⟩ := Nat.exists_eq_succ_of_ne_zero hn0
      have hpr : m + fs.length + i + 1 = s.length := by omega
      refine ⟨_, rfl, r, rfl, ⟨_, SqL.of hR6⟩, fun D2 hD2 => ?_⟩
      have nD2 := b6.ne hD2
      have nDr2 : r ≠ D2 := ne_of_none hR6 hD2
      have nDF2 : F ≠ D2 := ne_of_none f6 hD2
      have lnf : (nV fs).length = fs.length := by rw [nV, List.length_map]
      refine lc_list (xs := ts.map V.ref) (fun i H' => Same H6 H' ∧ ∃ us, H' D2 = some (.lst (us.map V.ref)) ∧ TupsAt H' us ((rows.take i).filter (resP m (n + 1) fs.length)))
        ⟨(Same.refl H6).upd_new hD2, [], upd_same, rfl, fun i t q hi => by simp at hi⟩ (fun i H' _ ⟨q, _⟩ => SqL.of (q _ _ hR6)) ?_ ?_
      · rintro j v H7 hv ⟨s7, us, d7, u7⟩
        obtain ⟨t7, ht7, rfl⟩ := get_map hv
        have hj : j < rows.length := by rw [← hT6.1]; exact lt_of_get ht7
        have hq := s7 _ _ (hT6.2 j t7 rows[j] ht7 (List.getElem?_eq_getElem hj))
        have et := flt_snoc (p := resP m (n + 1) fs.length) (List.getElem?_eq_getElem hj)
        have lu : us.length ≤ 8 := by
          rw [u7.1]
          have := List.length_filter_le (resP m (n + 1) fs.length) (rows.take j)
          rw [List.length_take] at *
          omega
        have no : ¬ resP m (n + 1) fs.length rows[j] = true → Same H6 H7 ∧ ∃ us, H7 D2 = some (.lst (us.map V.ref)) ∧ TupsAt H7 us ((rows.take (j + 1)).filter (resP m (n + 1) fs.length)) := fun h => by
          refine ⟨s7, us, d7, ?_⟩
          rw [et, if_neg h, List.append_nil]
          exact u7
        refine ⟨rfl, _, rfl, _, _, rfl, rfl, _, rfl, ?_⟩
        refine ite2 (fun h1 => ?_) (fun h1 => no fun e => h1 (decide_eq_true (of_decide_eq_true e).1))
        refine ⟨_, rfl, _, rfl, t7, _, _, _, rfl, rfl, SqT.of hq, atI_nat (j := 1) rfl, _, _, rfl, rfl, _, rfl, _, rfl, F, _, rfl, .inl (SqL.of (s7 _ _ f6)), _, _, rfl, rfl, _, _, rfl, rfl, _, rfl, ?_⟩
        refine ite2 (fun h2 => ?_) (fun h2 => no fun e => h2 (by rw [lnf]; exact decide_eq_true (of_decide_eq_true e).2))
        refine ⟨_, rfl, _, d7, lt_line (by rw [List.length_map]; omega), s7.upd_own hD2, us ++ [t7], by rw [upd_same, List.map_append]; rfl, ?_⟩
        have h1 := of_decide_eq_true h1
        have h2 := of_decide_eq_true h2
        rw [lnf] at h2
        rw [et, if_pos (show resP m (n + 1) fs.length rows[j] = true from decide_eq_true ⟨h1, h2⟩)]
        have tk : TK H7 (upd H7 D2 (.lst (us.map V.ref ++ [V.ref t7]))) := TK.lst d7
        exact (u7.keep tk).snoc (tk _ _ hq)
      · rintro H7 ⟨s7, us, d7, u7⟩
        rw [show (ts.map V.ref).length = rows.length by rw [List.length_map]; exact hT.1, List.take_length] at u7
        have hsub : (rows.filter (resP m (n + 1) fs.length)).length ≤ rows.length := List.length_filter_le _ _
        have hpos : 0 < (rows.filter (resP m (n + 1) fs.length)).length + 2 * fs.length := by
          by_cases hm : 0 < m
          · obtain ⟨q, q1, q2⟩ := R.leaf
            have := List.length_pos_of_mem (List.mem_filter.mpr ⟨q1, (show resP m (n + 1) fs.length q = true from decide_eq_true (by rw [q2]; omega))⟩)
            omega
          · omega
        have hin : ∀ q ∈ rows.filter (resP m (n + 1) fs.length), q ∈ rows ∧ 0 < m ∧ ((n + 1 : Nat) : Int) + q.2 ≤ ((m : Nat) : Int) + ((fs.length : Nat) : Int) := fun q hq => by
          have z := of_decide_eq_true (List.mem_filter.mp hq).2
          exact ⟨(List.mem_filter.mp hq).1, by omega, z.2⟩
        generalize rows.filter (resP m (n + 1) fs.length) = rts at u7 hpos hsub hin
        have lu := u7.1
        have b7 := b6.same s7
        have f7 := s7 _ _ f6
        have k67 := k6.trans (Kp.same s7)
        refine ⟨_, rfl, _, rfl, D2, _, rfl, .inl (SqL.of d7), _, rfl, F, _, rfl, .inl (SqL.of f7), _, _, rfl, rfl, .inl ⟨by decide, by decide⟩, _, _, rfl, rfl, a, c, (us.length : Int) + 2 * (fs.length : Int), by rw [List.length_map, lnf], b7, by omega, by omega, fun H8 e k8 b8 e0 e1 => ?_⟩
        have d8 := k8 _ _ d7 nD2.1
        have f8 := k8 _ _ f7 nF.1
        have k68 := k67.trans k8
        have z8 := tz_kp (z6.same s7) k8 b7
        refine ⟨_, rfl, _, rfl, D2, _, rfl, .inl (SqL.of d8), _, _, rfl, rfl, _, rfl, ?_⟩
        have lus : (us.map V.ref).length = us.length := List.length_map ..
        refine ite2 (fun h1 => ?_) (fun h1 => ?_)
        · have h1 := of_decide_eq_true h1
          rw [lus] at h1
          have hj : e.toNat < rts.length := by omega
          obtain ⟨u, u1, u2, u3⟩ := u7.at hj
          have u4 := k8.tkM b7 _ _ u3
          obtain ⟨m4, m5, m6⟩ := hin _ (List.getElem_mem hj)
          generalize rts[e.toNat] = q1 at u3 u4 m4 m6
          have hat : atI (us.map V.ref) e = some (.ref u) := at_ofG (j := e.toNat) (by omega) u2
          refine ⟨_, rfl, _, rfl, _, rfl, D2, _, _, _, rfl, rfl, SqL.of d8, hat, u, _, _, _, rfl, rfl, SqT.of u4, atI_nat (j := 0) rfl, le_line (show 1 ≤ 100000 by decide), fun t6 o6 h6 ho6 => ?_⟩
          have s9 : Same H8 (upd H8 t6 (.frz o6 (.tup [.str q1.1]))) := (Same.refl H8).upd_new h6
          have z9 : Tz (upd H8 t6 (.frz o6 (.tup [.str q1.1]))) t6 ([Ent.k q1.1].map eV) := ⟨o6, upd_same, ho6⟩
          have d9 := s9 _ _ d8
          have f9 := s9 _ _ f8
          have u9 := s9 _ _ u4
          have b9 := b8.same s9
          have k69 := k68.trans (Kp.same s9)
          have zl9 := z8.same s9
          generalize upd H8 t6 (.frz o6 (.tup [.str q1.1])) = H9 at s9 z9 d9 f9 u9 b9 k69 zl9
          refine catG_tz zl9 z9 (by rw [List.length_map]; show l.length + 1 ≤ _; omega) (fun e => nomatch e) fun p H10 s10 z10 => ?_
          rw [← List.map_append] at z10
          refine ⟨_, rfl, _, _, rfl, rfl, _, rfl, _, rfl, D2, _, _, _, rfl, rfl, SqL.of (s10 _ _ d9), hat, u, _, _, _, rfl, rfl, SqT.of (s10 _ _ u9), atI_nat (j := 1) rfl, _, _, rfl, rfl, _, rfl, _, _, rfl, rfl, ?_⟩
          have wq1 := wR_row R m4
          obtain ⟨m, rfl⟩ := Nat.exists_eq_succ_of_ne_zero (Nat.ne_of_gt m5)
          refine ⟨some (.int (0 + (i : Nat))), some (.ref D2), some (.int e), p, l ++ [Ent.k q1.1], fs, m, n + wR rows q1.1, ?_, k69.trans (Kp.same s10), b9.same s10, z10, s10 _ _ f9, O.snoc _, ?_, ?_, ?_, ?_, ?_, ?_, ?_, .inr ?_⟩
          · rw [show ((n + wR rows q1.1 : Nat) : Int) = ((n + 1 : Nat) : Int) - 1 + q1.2 by rw [← wq1]; omega, show ((m : Nat) : Int) = ((m + 1 : Nat) : Int) - 1 by omega]
            rfl
          · intro z hz
            rcases List.mem_append.mp hz with q | q
            · exact em z q
            · cases List.mem_singleton.mp q
              exact ⟨q1, m4, rfl⟩
          · rw [nums_snoc]
            show (nums l ++ [] ++ fs).Nodup
            rw [List.append_nil]
            exact nd
          · rw [nums_snoc]
            show ∀ i ∈ nums l ++ [] ++ fs, _
            rw [List.append_nil]
            exact nn
          · rw [knE_snoc]
            show knE l + 1 + m + _ + 1 = _
            omega
          · omega
          · rw [List.length_append]
            show l.length + 1 ≤ _
            omega
          · rw [List.length_append]
            show l.length + 1 ≤ _
            omega
          · omega
        · have h1 : ¬ e < (us.length : Int) := fun q => h1 (by rw [lus]; exact decide_eq_true q)
          have hk : ((e - (us.length : Int)) / 2).toNat < fs.length := by omega
          have hkz : (e - (us.length : Int)) / 2 = ((((e - (us.length : Int)) / 2).toNat : Nat) : Int) := by omega
          generalize hkk : ((e - (us.length : Int)) / 2).toNat = kk2 at hk hkz
          refine ⟨_, rfl, _, rfl, .inl ⟨rfl, _, SqL.of f8⟩, _, rfl, _, rfl, D2, _, rfl, .inl (SqL.of d8), _, _, rfl, rfl, _, _, rfl, rfl, ⟨by decide, by decide⟩, F, _, _, kk2, _, rfl, rfl, f8, by rw [lus]; omega, by rw [lus]; omega, ?_, by rw [nV, List.getElem?_map, List.getElem?_eq_getElem hk]; rfl, ?_⟩
          · rw [lus, hkz, lnf]
            exact seq_nat hk
          have ef : (nV fs).eraseIdx kk2 = nV (fs.eraseIdx kk2) := by rw [nV, nV, er_map]
          rw [ef]
          have f85 : (upd H8 F (.lst (nV (fs.eraseIdx kk2)))) F = some (.lst (nV (fs.eraseIdx kk2))) := upd_same
          have b85 := b8.upd_ne (o := .lst (nV (fs.eraseIdx kk2))) nF
          have k685 : Kp a H (upd H8 F (.lst (nV (fs.eraseIdx kk2)))) := k68.upd_own hF
          have z85 : Tz (upd H8 F (.lst (nV (fs.eraseIdx kk2)))) tt (l.map eV) := by
            obtain ⟨o, q1, q2⟩ := z8
            exact ⟨o, by rw [upd_ne (fun e => by rw [e, f8] at q1; cases q1)]; exact q1, q2⟩
          generalize upd H8 F (.lst (nV (fs.eraseIdx kk2))) = H85 at f85 b85 k685 z85
          refine ⟨le_line (show 1 ≤ 100000 by decide), fun t6 o6 h6 ho6 => ?_⟩
          have s9 : Same H85 (upd H85 t6 (.frz o6 (.tup [.int (fs[kk2] : Nat)]))) := (Same.refl H85).upd_new h6
          have z9 : Tz (upd H85 t6 (.frz o6 (.tup [.int (fs[kk2] : Nat)]))) t6 ([Ent.n fs[kk2]].map eV) := ⟨o6, upd_same, ho6⟩
          have f9 := s9 _ _ f85
          have b9 := b85.same s9
          have k69 := k685.trans (Kp.same s9)
          have zl9 := z85.same s9
          generalize upd H85 t6 (.frz o6 (.tup [.int (fs[kk2] : Nat)])) = H9 at s9 z9 f9 b9 k69 zl9
          refine catG_tz zl9 z9 (by rw [List.length_map]; show l.length + 1 ≤ _; omega) (fun e => nomatch e) fun p H10 s10 z10 => ?_
          rw [← List.map_append] at z10
          refine ⟨_, rfl, _, _, rfl, rfl, ?_⟩
          have pm : (nums l ++ [fs[kk2]] ++ fs.eraseIdx kk2).Perm (nums l ++ fs) := by
            rw [List.append_assoc]
            exact (er_perm fs kk2 hk).append_left _
          have le' : (fs.eraseIdx kk2).length + 1 = fs.length := by rw [List.length_eraseIdx_of_lt hk]; omega
          refine ⟨some (.int (0 + (i : Nat))), some (.ref D2), some (.int e), p, l ++ [Ent.n fs[kk2]], fs.eraseIdx kk2, m, n, ?_, k69.trans (Kp.same s10), b9.same s10, z10, s10 _ _ f9, O.snoc _, ?_, ?_, ?_, ?_, ?_, ?_, ?_, .inr ?_⟩
          · rw [show ((n : Nat) : Int) = ((n + 1 : Nat) : Int) - 1 by omega]
            rfl
          · intro z hz
            rcases List.mem_append.mp hz with q | q
            · exact em z q
            · cases List.mem_singleton.mp q
          · rw [nums_snoc]
            exact pm.nodup_iff.mpr nd
          · rw [nums_snoc]
            exact fun i hi => nn i (pm.mem_iff.mp hi)
          · rw [knE_snoc]
            show knE l + 0 + m + _ + 1 = _
            omega
          · omega
          · rw [List.length_append]
            show l.length + 1 ≤ _
            omega
          · rw [List.length_append]
            show l.length + 1 ≤ _
            omega
          · omega
    · rintro σ H6 ⟨x, y, z, tt, l, fs, m, n, rfl, k6, b6, z6, f6, O, em, nd, nn, kk, l1, l2, l7, pr⟩
      have n0 : n = 0 := by rw [Int.toNat_natCast, ls] at pr; omega
      subst n0
      exact ⟨_, rfl, fin _ _ l fs m k6 b6 z6 O em nd nn kk l7⟩
end
end Sh
end
section
set_option Elab.async false
set_option linter.all false
set_option maxRecDepth 100000
set_option maxHeartbeats 2000000
namespace Sh
open PySem PySem.Spec PyProof.Rows L2
open C8 (pss_cut tCut)
open Evl (ixN_nat)
structure TrimOk (rows : List Row) (s : List Str) (e : List Ent) : Prop where
  st : StumpOk rows s
  l2 : 2 ≤ s.length
  l7 : s.length ≤ 7
  re : ResOk rows s e
/-- a pair of a stump and a result, laid out -/
def PrAt (rows : List Row) (H : Hp) (p : Addr) (q : List Str × List Ent) : Prop := ∃ t u, Tz H p [.ref t, .ref u] ∧ Tz H t (sV q.1) ∧ Tz H u (q.2.map eV) ∧ TrimOk rows q.1 q.2
theorem PrAt.same {rows : List Row} {H H' : Hp} {p : Addr} {q : List Str × List Ent} (x : PrAt rows H p q) (s : Same H H') : PrAt rows H' p q := by
  obtain ⟨t, u, a, b, c, d⟩ := x
  exact ⟨t, u, a.same s, b.same s, c.same s, d⟩
theorem PrAt.kp {rows : List Row} {a c : Addr} {H H' : Hp} {p : Addr} {q : List Str × List Ent} (x : PrAt rows H p q) (k : Kp a H H') (b : BagM H a c) : PrAt rows H' p q := by
  obtain ⟨t, u, x1, x2, x3, d⟩ := x
  exact ⟨t, u, tz_kp x1 k b, tz_kp x2 k b, tz_kp x3 k b, d⟩
theorem Opn.reps {α : Type} {w : α → Nat} {x : α} (hx : w x = 0) : ∀ (k : Nat) {l : List α} {n : Nat}, Opn w l (n + k) → Opn w (l ++ List.replicate k x) n
  | 0, l, n, h => by
    rw [List.replicate_zero, List.append_nil]
    exact h
  | k + 1, l, n, h => by
    have q := Opn.snoc (n := n + k) h x
    rw [hx, Nat.add_zero] at q
    have r := Opn.reps hx k q
    rw [List.append_assoc] at r
    exact r
theorem nm_nstar {z : Str} (h : IsNm z) : z ≠ "*" := fun e => by
  have q := h.2.2 42 (by rw [e]; decide)
  omega
theorem flat_reps (k : Nat) (v : V) : (List.replicate k [v]).flatten = List.replicate k v := by
  induction k with
  | zero => rfl
  | succ k ih => rw [List.replicate_succ, List.flatten_cons, ih, List.replicate_succ]; rfl
/-- (v,) * k, followed with its object -/
theorem repX_tz {K : PySem.W.Frag} {H : Hp} {a : Addr} {v : V} {k : Nat} {Q : VK} (ha : Tz H a [v]) (hk : k ≤ 4000) (kk : ∀ p H', Same H H' → Tz H' p (List.replicate k v) → Q (.ref p) H') : rRepX K (.ref a) (.int (k : Nat)) H Q :=
  ⟨a, (k : Nat), [v], rfl, rfl, ha.q.sq, (fun e => nomatch e), by omega, by omega, by show 1 ≤ 100; decide, fun e => by
    have e1 : k = 1 := by omega
    subst e1
    exact kk a H (Same.refl H) ha, fun _ p o hp ho => kk p _ ((Same.refl H).upd_new hp) ⟨o, by rw [upd_same, Int.toNat_natCast, flat_reps], ho⟩⟩
theorem catG_any {K : PySem.W.Frag} {H : Hp} {a b : Addr} {xs ys : List V} {Q : VK} (ha : Tz H a xs) (hb : Tz H b ys) (hl : xs.length + ys.length ≤ 100000) (k : ∀ p H', Same H H' → Tz H' p (xs ++ ys) → Q (.ref p) H') : rCatG K (.ref a) (.ref b) H Q :=
  ⟨a, b, xs, ys, rfl, rfl, ha.q.sq, hb.q.sq, le_line hl, fun e => by subst e; exact k b H (Same.refl H) hb, fun _ e => by subst e; exact k a H (Same.refl H) (by rw [List.append_nil]; exact ha), fun _ _ p o hp ho => k p _ ((Same.refl H).upd_new hp) ⟨o, upd_same, ho⟩⟩
theorem new_tz {H : Hp} {p : Addr} {o : Obj} {xs : List V} (h : H p = none) (ho : o.dict = none) : Same H (upd H p (.frz o (.tup xs))) ∧ Tz (upd H p (.frz o (.tup xs))) p xs := ⟨(Same.refl H).upd_new h, o, upd_same, ho⟩
def spTameM : Sp := fun vs H Q _ => ∃ (a c r : Addr) (z : Str) (rows rts : List Row) (ts : List Addr), vs = [.ref a, .ref r, .str z] ∧ BagM H a c ∧ r ≠ a ∧ H r = some (.lst (ts.map V.ref)) ∧ TupsAt H ts rts ∧ (∀ q ∈ rts, q ∈ rows ∧ 0 < q.2) ∧ 0 < rts.length ∧ rts.length ≤ 8 ∧ ROk 4 rows ∧ (z, 0) ∈ rows ∧
  ∀ (H' : Hp) (p : Addr) (q : List Str × List Ent), Kp a H H' → BagM H' a c → PrAt rows H' p q → Q (.ref p) H'
abbrev s_law_tame : Stmt := top 41
abbrev N_law_tame : List Str := ["bag", "roots", "zero", "pair", "at", "stump"]
theorem sc_law_tame : FnScope N_law_tame ["bag", "roots", "zero"] (defScope s_law_tame) := ⟨rfl, rfl, rfl, by decide +kernel, rfl, by decide +kernel, by decide +kernel⟩
section
variable {P : Program} {w : World} {K : PySem.W.Frag} {mg : Str → Option Value} {base : Heap} {C : Addr}
theorem ok_tameM (T : Bl mg) (c_law_pick : DefOk P w K mg base CX0 1 "_law_pick" spPick) (D : Def0 K mg "_law_tame" s_law_tame) : DefOk P w K mg base CX0 2 "_law_tame" spTameM := by
  refine D.ok sc_law_tame (fun vs H Q E h => ?_) (fun _ _ _ _ _ _ us hl => match us, hl with | [_, _, _], _ => rfl) (fun f cdv A outer s' H vs Q E hr h => ?_)
  · obtain ⟨a, c, r, z, rows, rts, ts, rfl, _⟩ := h
    rfl
  · obtain ⟨a, c, r, z, rows, rts, ts, rfl, hb, nra, hR, hT, hin, hpos, h8, R, hz, k⟩ := h
    have hl := hT.1
    refine ⟨_, (pss_cons (ps_set (i := 3) sc_law_tame.nd rfl (Or.inl rfl) (pe_ix ix_list (pv 1) (pe_d c_law_pick (hr.mono (by decide)) pass0 (pa_cons (pv 0) (pa_cons (pe_callB call_len_seq (by rfl) T.b_len boot_len (pa_cons (pv 1) pa_nil)) pa_nil))) (fun _ _ => rfl)))
      (pss_cut (ps_if (PW.pt (pw_and (pt_cmpR op_eq (pe_ix ix_tup (pv 3) pe_int (fun _ _ => rfl)) pe_int (nomark _)) (pw_and1 (pt_cmpR op_eq (pe_d c_law_pick (hr.mono (by decide)) pass0 (pa_cons (pv 0) (pa_cons pe_int pa_nil))) pe_int (nomark _)))))
        (pss_one (ps_ret (pe_tupF (pa_cons (pe_tupF (pa_cons (pe_ix ix_tup (pv 3) pe_int (fun _ _ => rfl)) (pa_cons (pe_ix ix_tup (pv 3) pe_int (fun _ _ => rfl)) (pa_cons pe_str pa_nil)))) (pa_cons (pe_tupF (pa_cons (pe_ix ix_tup (pv 3) pe_int (fun _ _ => rfl)) (pa_cons pe_int pa_nil))) pa_nil)))))
        pss_nil)
      (pss_cons (ps_set (i := 4) sc_law_tame.nd rfl (Or.inl rfl) (pe_d c_law_pick (hr.mono (by decide)) pass0 (pa_cons (pv 0) (pa_cons (pe_ix ix_tup (pv 3) pe_int (fun _ _ => rfl)) pa_nil))))
      (pss_cons (ps_set (i := 5) sc_law_tame.nd rfl (Or.inl rfl) (pe_op op_catG (pe_op op_catG (pe_op op_catG (pe_tupF (pa_cons (pe_ix ix_tup (pv 3) pe_int (fun _ _ => rfl)) pa_nil)) (pe_op op_repX (pe_tupF (pa_cons pe_str pa_nil)) (pv 4))) (pe_tupF (pa_cons (pv 2) pa_nil))) (pe_op op_repX (pe_tupF (pa_cons pe_str pa_nil)) (pe_op op_sub (pe_op op_sub (pe_ix ix_tup (pv 3) pe_int (fun _ _ => rfl)) pe_int) (pv 4)))))
      (pss_cut (ps_if (PW.pt (pw_and (pt_cmpR op_gt (pe_ix ix_tup (pv 3) pe_int (fun _ _ => rfl)) pe_int (nomark _)) (pw_and1 (pt_cmpR op_eq (pe_d c_law_pick (hr.mono (by decide)) pass0 (pa_cons (pv 0) (pa_cons pe_int pa_nil))) pe_int (nomark _)))))
        (pss_one (ps_ret (pe_tupF (pa_cons (pv 5) (pa_cons (pe_tupF (pa_cons pe_int pa_nil)) pa_nil)))))
        pss_nil)
      (pss_one (ps_ret (pe_tupF (pa_cons (pv 5) (pa_cons (pe_tupF (pa_cons (pv 2) pa_nil)) pa_nil)))))))))), ?_⟩
    refine ⟨_, rfl, _, rfl, _, rfl, r, _, rfl, .inl (SqL.of hR), a, c, (ts.length : Int), by rw [List.length_map], hb, by omega, by omega, fun H1 j k1 b1 j0 j1 => ?_⟩
    have hj : j.toNat < rts.length := by omega
    obtain ⟨t, t1, t2, t3⟩ := hT.at hj
    have t4 := k1.tkM hb _ _ t3
    refine ⟨r, _, _, _, rfl, rfl, SqL.of (k1 _ _ hR nra), at_ofG (j := j.toNat) (by omega) t2, ?_⟩
    obtain ⟨m1, m2⟩ := hin _ (List.getElem_mem hj)
    generalize rts[j.toNat] = q0 at t3 t4 m1 m2
    have wq := wR_row R m1
    have w0 := star_no R
    have wz : wR rows z = 0 := by
      have h : ((wR rows z : Nat) : Int) = 0 := wR_row R hz
      omega
    have n0 := R.nm _ m1
    have nz := R.nm _ hz
    have w3 : q0.2 ≤ 3 := (R.wd _ m1).2
    refine ⟨fun σ H' => σ = [some (.ref a), some (.ref r), some (.str z), some (.ref t), none, none] ∧ Kp a H H' ∧ BagM H' a c ∧ H' t = some (.tup [.str q0.1, .int q0.2]), ?_, ?_⟩
    · refine ⟨_, rfl, t, _, _, _, rfl, rfl, SqT.of t4, atI_nat (j := 1) rfl, rfl, _, rfl, ?_⟩
      refine ite2 (fun e1 => ?_) (fun _ => ⟨rfl, k1, b1, t4⟩)
      refine ⟨_, rfl, a, c, 2, rfl, b1, by decide, by decide, fun H2 d k2 b2 d0 d1 => ?_⟩
      have t5 := k2.tkM b1 _ _ t4
      have k02 := k1.trans k2
      refine ⟨rfl, _, rfl, ite2 (fun _ => ?_) (fun _ => ⟨rfl, k02, b2, t5⟩)⟩
      have w1 : wR rows q0.1 = 1 := by
        have := int_eq0 e1
        omega
      refine ⟨_, rfl, t, _, _, _, rfl, rfl, SqT.of t5, atI_nat (j := 0) rfl, _, rfl, t, _, _, _, rfl, rfl, SqT.of t5, atI_nat (j := 0) rfl, le_line (show 3 ≤ 100000 by decide), fun p1 o1 h1 ho1 => ?_⟩
      have s3 : Same H2 (upd H2 p1 (.frz o1 (.tup [.str q0.1, .str q0.1, .str "*"]))) := (Same.refl H2).upd_new h1
      have z3 : Tz (upd H2 p1 (.frz o1 (.tup [.str q0.1, .str q0.1, .str "*"]))) p1 (sV [q0.1, q0.1, "*"]) := ⟨o1, upd_same, ho1⟩
      have t6 := s3 _ _ t5
      generalize upd H2 p1 (.frz o1 (.tup [.str q0.1, .str q0.1, .str "*"])) = H3 at s3 z3 t6
      refine ⟨_, rfl, t, _, _, _, rfl, rfl, SqT.of t6, atI_nat (j := 0) rfl, le_line (show 2 ≤ 100000 by decide), fun p2 o2 h2 ho2 => ?_⟩
      have s4 : Same H3 (upd H3 p2 (.frz o2 (.tup [.str q0.1, .int 0]))) := (Same.refl H3).upd_new h2
      have z4 : Tz (upd H3 p2 (.frz o2 (.tup [.str q0.1, .int 0]))) p2 ([Ent.k q0.1, Ent.n 0].map eV) := ⟨o2, upd_same, ho2⟩
      have z34 := z3.same s4
      generalize upd H3 p2 (.frz o2 (.tup [.str q0.1, .int 0])) = H4 at s4 z4 z34
      refine ⟨le_line (show 2 ≤ 100000 by decide), fun p3 o3 h3 ho3 => ?_⟩
      have s5 : Same H4 (upd H4 p3 (.frz o3 (.tup [.ref p1, .ref p2]))) := (Same.refl H4).upd_new h3
      have sall := (s3.trans s4).trans s5
      refine k _ _ ([q0.1, q0.1, "*"], [Ent.k q0.1, Ent.n 0]) (k02.trans (Kp.same sall)) (b2.same sall) ⟨p1, p2, ⟨o3, upd_same, ho3⟩, z34.same s5, z4.same s5, ⟨⟨?_, ?_, ?_⟩, ?_, ?_, ⟨?_, ?_, ?_, ?_, ?_, ?_⟩⟩⟩
      · have q := ((Opn.nil (w := wR rows)).snoc q0.1)
        rw [w1] at q
        have q := Opn.snoc (n := 0) q q0.1
        rw [w1] at q
        have q := Opn.snoc (n := 0) q "*"
        rw [w0] at q
        exact q.done
      · intro y hy
        rcases List.mem_cons.mp hy with e | hy
        · exact .inr ⟨q0, m1, e.symm⟩
        · rcases List.mem_cons.mp hy with e | hy
          · exact .inr ⟨q0, m1, e.symm⟩
          · exact .inl (List.mem_singleton.mp hy)
      · show 3 ≤ 2000
        decide
      · show 2 ≤ 3
        decide
      · show 3 ≤ 7
        decide
      · have q := ((Opn.nil (w := eW rows)).snoc (Ent.k q0.1))
        rw [show eW rows (Ent.k q0.1) = 1 from w1] at q
        have q := Opn.snoc (n := 0) q (Ent.n 0)
        exact q.done
      · intro y hy
        rcases List.mem_cons.mp hy with e | hy
        · cases e
          exact ⟨q0, m1, rfl⟩
        · cases List.mem_singleton.mp hy
      · have cn : List.count ("*" : Str) [q0.1, q0.1, "*"] = 1 := by
          rw [List.count_cons_of_ne (nm_nstar n0), List.count_cons_of_ne (nm_nstar n0)]
          rfl
        intro i hi
        rw [cn]
        have : i = 0 := List.mem_singleton.mp hi
        omega
      · exact List.nodup_cons.mpr ⟨List.not_mem_nil, List.nodup_nil⟩
      · have cn : List.count ("*" : Str) [q0.1, q0.1, "*"] = 1 := by
          rw [List.count_cons_of_ne (nm_nstar n0), List.count_cons_of_ne (nm_nstar n0)]
          rfl
        show 1 + _ < 3
        rw [cn]
        decide
      · show 2 ≤ 7
        decide
    · rintro σ H2 ⟨rfl, k2, b2, t5⟩
      refine ⟨_, rfl, _, rfl, t, _, _, _, rfl, rfl, SqT.of t5, atI_nat (j := 1) rfl, a, c, q0.2, rfl, b2, by omega, by omega, fun H3 j k3 b3 j0 j1 => ?_⟩
      obtain ⟨j, rfl⟩ := Int.eq_ofNat_of_zero_le j0
      have t6 := k3.tkM b2 _ _ t5
      have k03 := k2.trans k3
      obtain ⟨g, hg⟩ : ∃ g : Nat, wR rows q0.1 = j + 1 + g := ⟨wR rows q0.1 - j - 1, by omega⟩
      have hgz : q0.2 - 1 - ((j : Nat) : Int) = ((g : Nat) : Int) := by omega
      refine ⟨_, rfl, t, _, _, _, rfl, rfl, SqT.of t6, atI_nat (j := 0) rfl, le_line (show 1 ≤ 100000 by decide), fun p1 o1 h1 ho1 => ?_⟩
      obtain ⟨s1, z1⟩ := new_tz (xs := [.str q0.1]) h1 ho1
      generalize upd H3 p1 (.frz o1 (.tup [.str q0.1])) = H4 at s1 z1
      refine ⟨le_line (show 1 ≤ 100000 by decide), fun p2 o2 h2 ho2 => ?_⟩
      obtain ⟨s2, z2⟩ := new_tz (xs := [.str "*"]) h2 ho2
      have z1 := z1.same s2
      have s2 := s1.trans s2
      generalize upd H4 p2 (.frz o2 (.tup [.str "*"])) = H5 at s2 z2 z1
      refine ⟨_, rfl, repX_tz z2 (by omega) fun p3 H6 s3 z3 => ?_⟩
      have z1 := z1.same s3
      have s3 := s2.trans s3
      refine catG_any z1 z3 (by rw [List.length_replicate]; show 1 + j ≤ _; omega) fun p4 H7 s4 z4 => ?_
      have s4 := s3.trans s4
      refine ⟨_, rfl, le_line (show 1 ≤ 100000 by decide), fun p5 o5 h5 ho5 => ?_⟩
      obtain ⟨s5, z5⟩ := new_tz (xs := [.str z]) h5 ho5
      have z4 := z4.same s5
      have s5 := s4.trans s5
      generalize upd H7 p5 (.frz o5 (.tup [.str z])) = H8 at s5 z5 z4
      refine catG_any z4 z5 (by rw [List.length_append, List.length_replicate]; show 1 + j + 1 ≤ _; omega) fun p6 H9 s6 z6 => ?_
      have s6 := s5.trans s6
      refine ⟨le_line (show 1 ≤ 100000 by decide), fun p7 o7 h7 ho7 => ?_⟩
      obtain ⟨s7, z7⟩ := new_tz (xs := [.str "*"]) h7 ho7
      have z6 := z6.same s7
      have s7 := s6.trans s7
      generalize upd H9 p7 (.frz o7 (.tup [.str "*"])) = H10 at s7 z7 z6
      refine ⟨_, rfl, t, _, _, _, rfl, rfl, SqT.of (s7 _ _ t6), atI_nat (j := 1) rfl, _, _, rfl, rfl, _, rfl, _, _, rfl, rfl, ?_⟩
      show rRepX _ (V.ref p7) (V.int (q0.2 - 1 - ((j : Nat) : Int))) H10 _
      rw [hgz]
      refine repX_tz z7 (by omega) fun p8 H11 s8 z8 => ?_
      have z6 := z6.same s8
      have s8 := s7.trans s8
      refine catG_any z6 z8 (by rw [List.length_append, List.length_append, List.length_replicate, List.length_replicate]; show 1 + j + 1 + g ≤ _; omega) fun p9 H12 s9 z9 => ?_
      have s9 := s8.trans s9
      have es : ([V.str q0.1] ++ List.replicate j (V.str "*") ++ [V.str z] ++ List.replicate g (V.str "*")) = sV ([q0.1] ++ List.replicate j ("*" : Str) ++ [z] ++ List.replicate g ("*" : Str)) := by
        unfold sV
        rw [List.map_append, List.map_append, List.map_append, List.map_replicate, List.map_replicate]
        rfl
      rw [es] at z9
      have cn : List.count ("*" : Str) ([q0.1] ++ List.replicate j ("*" : Str) ++ [z] ++ List.replicate g ("*" : Str)) = j + g := by
        rw [List.count_append, List.count_append, List.count_append, List.count_replicate_self, List.count_replicate_self, List.count_cons_of_ne (nm_nstar n0), List.count_cons_of_ne (nm_nstar nz)]
        show 0 + j + 0 + g = _
        omega
      have ln : ([q0.1] ++ List.replicate j ("*" : Str) ++ [z] ++ List.replicate g ("*" : Str)).length = j + g + 2 := by
        rw [List.length_append, List.length_append, List.length_append, List.length_replicate, List.length_replicate]
        show 1 + j + 1 + g = _
        omega
      have so : StumpOk rows ([q0.1] ++ List.replicate j ("*" : Str) ++ [z] ++ List.replicate g ("*" : Str)) := by
        refine ⟨?_, ?_, by rw [ln]; omega⟩
        · have q := ((Opn.nil (w := wR rows)).snoc q0.1)
          rw [hg, show 0 + (j + 1 + g) = g + 1 + j by omega] at q
          have q := Opn.reps w0 j q
          have q := Opn.snoc (n := g) q z
          rw [wz, Nat.add_zero, ← Nat.zero_add g] at q
          have q := Opn.reps w0 g q
          exact q.done
        · intro y hy
          rcases List.mem_append.mp hy with hy | hy
          · rcases List.mem_append.mp hy with hy | hy
            · rcases List.mem_append.mp hy with hy | hy
              · rw [List.mem_singleton.mp hy]
                exact .inr ⟨q0, m1, rfl⟩
              · exact .inl (List.eq_of_mem_replicate hy)
            · rw [List.mem_singleton.mp hy]
              exact .inr ⟨_, hz, rfl⟩
          · exact .inl (List.eq_of_mem_replicate hy)
      generalize [q0.1] ++ List.replicate j ("*" : Str) ++ [z] ++ List.replicate g ("*" : Str) = st at z9 cn ln so
      have k09 := k03.trans (Kp.same s9)
      have b9 := b3.same s9
      have t9 := s9 _ _ t6
      refine ⟨fun σ H' => σ = [some (.ref a), some (.ref r), some (.str z), some (.ref t), some (.int (j : Nat)), some (.ref p9)] ∧ Kp a H H' ∧ BagM H' a c ∧ Tz H' p9 (sV st), ?_, ?_⟩
      · refine ⟨_, rfl, t, _, _, _, rfl, rfl, SqT.of t9, atI_nat (j := 1) rfl, _, _, rfl, rfl, _, rfl, ?_⟩
        refine ite2 (fun e1 => ?_) (fun _ => ⟨rfl, k09, b9, z9⟩)
        refine ⟨_, rfl, a, c, 2, rfl, b9, by decide, by decide, fun H13 d k10 b10 d0 d1 => ?_⟩
        have z10 := tz_kp z9 k10 b9
        have k010 := k09.trans k10
        refine ⟨rfl, _, rfl, ite2 (fun _ => ?_) (fun _ => ⟨rfl, k010, b10, z10⟩)⟩
        have e1 := of_decide_eq_true e1
        refine ⟨_, rfl, le_line (show 1 ≤ 100000 by decide), fun pa oa ha hoa => ?_⟩
        obtain ⟨sa, za⟩ := new_tz (xs := [.int 0]) ha hoa
        have z10 := z10.same sa
        generalize upd H13 pa (.frz oa (.tup [.int 0])) = H14 at sa za z10
        refine ⟨le_line (show 2 ≤ 100000 by decide), fun pb ob hb hob => ?_⟩
        obtain ⟨sb, zb⟩ := new_tz (xs := [.ref p9, .ref pa]) hb hob
        refine k _ _ (st, [Ent.n 0]) (k010.trans (Kp.same (sa.trans sb))) (b10.same (sa.trans sb)) ⟨p9, pa, zb, z10.same sb, za.same sb, ⟨so, by rw [ln]; omega, by rw [ln]; omega, ⟨?_, ?_, ?_, ?_, ?_, ?_⟩⟩⟩
        · exact ((Opn.nil (w := eW rows)).snoc (Ent.n 0)).done
        · intro y hy
          cases List.mem_singleton.mp hy
        · intro i hi
          have : i = 0 := List.mem_singleton.mp hi
          rw [cn]
          omega
        · exact List.nodup_cons.mpr ⟨List.not_mem_nil, List.nodup_nil⟩
        · rw [cn, ln]
          show 0 + _ < _
          omega
        · show 1 ≤ 7
          decide
      · rintro σ H13 ⟨rfl, k010, b10, z10⟩
        refine ⟨_, rfl, _, rfl, le_line (show 1 ≤ 100000 by decide), fun pa oa ha hoa => ?_⟩
        obtain ⟨sa, za⟩ := new_tz (xs := [.str z]) ha hoa
        have z10 := z10.same sa
        generalize upd H13 pa (.frz oa (.tup [.str z])) = H14 at sa za z10
        refine ⟨le_line (show 2 ≤ 100000 by decide), fun pb ob hb hob => ?_⟩
        obtain ⟨sb, zb⟩ := new_tz (xs := [.ref p9, .ref pa]) hb hob
        refine k _ _ (st, [Ent.k z]) (k010.trans (Kp.same (sa.trans sb))) (b10.same (sa.trans sb)) ⟨p9, pa, zb, z10.same sb, za.same sb, ⟨so, by rw [ln]; omega, by rw [ln]; omega, ⟨?_, ?_, ?_, ?_, ?_, ?_⟩⟩⟩
        · have q := (Opn.nil (w := eW rows)).snoc (Ent.k z)
          rw [show eW rows (Ent.k z) = 0 from wz] at q
          exact q.done
        · intro y hy
          cases List.mem_singleton.mp hy
          exact ⟨_, hz, rfl⟩
        · intro i hi
          cases hi
        · exact List.nodup_nil
        · rw [cn, ln]
          show 1 + _ < _
          omega
        · show 1 ≤ 7
          decide
end
end Sh
end
section
set_option Elab.async false
set_option linter.all false
set_option maxRecDepth 100000
set_option maxHeartbeats 2000000
namespace Sh
open PySem PySem.Spec PyProof.Rows L2
open C8 (pss_cut tCut)
open Evl (ixN_nat)
def MdAt (rows : List Row) (H : Hp) (ps : List Addr) (prs : List (List Str × List Ent)) : Prop := ps.length = prs.length ∧ ∀ (i : Nat) (p : Addr) (q : List Str × List Ent), ps[i]? = some p → prs[i]? = some q → PrAt rows H p q
theorem MdAt.same {rows : List Row} {H H' : Hp} {ps : List Addr} {prs : List (List Str × List Ent)} (x : MdAt rows H ps prs) (s : Same H H') : MdAt rows H' ps prs := ⟨x.1, fun i p q a b => (x.2 i p q a b).same s⟩
theorem MdAt.kp {rows : List Row} {a c : Addr} {H H' : Hp} {ps : List Addr} {prs : List (List Str × List Ent)} (x : MdAt rows H ps prs) (k : Kp a H H') (b : BagM H a c) : MdAt rows H' ps prs := ⟨x.1, fun i p q u v => (x.2 i p q u v).kp k b⟩
theorem PrAt.lst {rows : List Row} {H : Hp} {p F : Addr} {q : List Str × List Ent} {ys : List V} {o : HO} (x : PrAt rows H p q) (hF : H F = some (.lst ys)) : PrAt rows (upd H F o) p q := by
  obtain ⟨t, u, a, b, c, d⟩ := x
  have z : ∀ {t : Addr} {xs : List V}, Tz H t xs → Tz (upd H F o) t xs := fun {t xs} h => by
    obtain ⟨o', q1, q2⟩ := h
    exact ⟨o', by rw [upd_ne (fun e => by rw [e, hF] at q1; cases q1)]; exact q1, q2⟩
  exact ⟨t, u, z a, z b, z c, d⟩
theorem MdAt.lst {rows : List Row} {H : Hp} {F : Addr} {ps : List Addr} {prs : List (List Str × List Ent)} {ys : List V} {o : HO} (x : MdAt rows H ps prs) (hF : H F = some (.lst ys)) : MdAt rows (upd H F o) ps prs := ⟨x.1, fun i p q u v => (x.2 i p q u v).lst hF⟩
theorem MdAt.snoc {rows : List Row} {H : Hp} {ps : List Addr} {prs : List (List Str × List Ent)} {p : Addr} {q : List Str × List Ent} (x : MdAt rows H ps prs) (h : PrAt rows H p q) : MdAt rows H (ps ++ [p]) (prs ++ [q]) := by
  refine ⟨by rw [List.length_append, List.length_append, x.1]; rfl, fun i p' q' a b => ?_⟩
  by_cases hi : i < ps.length
  · rw [List.getElem?_append_left hi] at a
    rw [List.getElem?_append_left (by rw [← x.1]; exact hi)] at b
    exact x.2 i p' q' a b
  · rw [List.getElem?_append_right (by omega)] at a
    rw [List.getElem?_append_right (by rw [← x.1]; omega)] at b
    rw [x.1] at a
    cases hj : i - prs.length with
    | zero =>
      rw [hj] at a b
      cases a
      cases b
      exact h
    | succ j =>
      rw [hj] at a
      simp at a
theorem nm_ok {z : Str} (h : IsNm z) : PyData.strOk z = true := by
  unfold PyData.strOk
  rw [← Array.all_toList, List.all_eq_true]
  intro c hc
  have := h.2.2 c hc
  exact decide_eq_true (by omega)
def eD : Ent → PyData
  | .k z => .str z
  | .n i => .int (i : Nat)
def prD (q : List Str × List Ent) : PyData := .tuple [.tuple (q.1.map PyData.str), .tuple (q.2.map eD)]
theorem dp_pr {K : PySem.W.Frag} {rows : List Row} {H : Hp} {p : Addr} {q : List Str × List Ent} (x : PrAt rows H p q) : Dp K H (.ref p) (prD q) := by
  obtain ⟨t, u, a, b, c, d⟩ := x
  refine .tup a.q.sq (.cons (.tup b.q.sq (dpa_map (fun z => .str z) _)) (.cons (.tup c.q.sq (dpa_map (fun z => ?_) _)) .nil))
  cases z with
  | k z => exact .str z
  | n i => exact .int _
theorem lay_all {ds : List PyData} (h : ∀ d ∈ ds, d.canLay0 = true ∧ d.depth = 0) : PyData.canLayAll0 ds = true ∧ PyData.depthAll ds = 0 := by
  induction ds with
  | nil => exact ⟨rfl, rfl⟩
  | cons d r ih =>
    obtain ⟨q1, q2⟩ := h d List.mem_cons_self
    obtain ⟨i1, i2⟩ := ih fun x hx => h x (List.mem_cons_of_mem _ hx)
    refine ⟨by simp [PyData.canLayAll0, q1, i1], ?_⟩
    show max (PyData.depth d) (PyData.depthAll r) = 0
    rw [q2, i2]
    rfl
theorem star_ok : PyData.strOk ("*" : Str) = true := by decide +kernel
theorem shp_prs {rows : List Row} {prs : List (List Str × List Ent)} (R : ROk 4 rows) (h : ∀ q ∈ prs, TrimOk rows q.1 q.2) : SeqAt.shaped (.list (prs.map prD)) = true := shp_of fun d hd => by
  obtain ⟨q, hq, rfl⟩ := List.mem_map.mp hd
  have t := h q hq
  have a := lay_all (ds := q.1.map PyData.str) fun d hd => by
    obtain ⟨z, hz, rfl⟩ := List.mem_map.mp hd
    refine ⟨?_, rfl⟩
    rcases t.st.k z hz with e | ⟨r, r1, r2⟩
    · rw [e]
      exact star_ok
    · rw [← r2]
      exact nm_ok (R.nm _ r1)
  have b := lay_all (ds := q.2.map eD) fun d hd => by
    obtain ⟨z, hz, rfl⟩ := List.mem_map.mp hd
    cases z with
    | k z =>
      obtain ⟨r, r1, r2⟩ := t.re.kn z hz
      exact ⟨by rw [← r2]; exact nm_ok (R.nm _ r1), rfl⟩
    | n i => exact ⟨rfl, rfl⟩
  constructor
  · simp [prD, PyData.canLay0, PyData.canLayAll0, a.1, b.1]
  · simp [prD, PyData.depth, PyData.depthAll, a.2, b.2]
theorem MdAt.ok {rows : List Row} {H : Hp} {ps : List Addr} {prs : List (List Str × List Ent)} (x : MdAt rows H ps prs) : ∀ q ∈ prs, TrimOk rows q.1 q.2 := fun q hq => by
  obtain ⟨i, hi, rfl⟩ := List.mem_iff_getElem.mp hq
  have hp : i < ps.length := by rw [x.1]; exact hi
  obtain ⟨t, u, _, _, _, d⟩ := x.2 i ps[i] prs[i] (List.getElem?_eq_getElem hp) (List.getElem?_eq_getElem hi)
  exact d
theorem dp_prs {K : PySem.W.Frag} {rows : List Row} {H : Hp} {M : Addr} {ps : List Addr} {prs : List (List Str × List Ent)} (h : H M = some (.lst (ps.map V.ref))) (x : MdAt rows H ps prs) : Dp K H (.ref M) (.list (prs.map prD)) :=
  .lst (SqL.of h) (dpa_of (by rw [List.length_map]; exact x.1) fun i v q hv hq => by
    obtain ⟨t, ht, rfl⟩ := get_map hv
    exact dp_pr (x.2 i t q ht hq))
theorem eig_of (e : Int) (h0 : 0 ≤ e) (h : e < 8) : ∃ y, ([V.int 3, V.int 2, V.int 1, V.int 2, V.int 0, V.int 1, V.int 3, V.int 2] : List V)[e.toNat]? = some (.int y) ∧ 0 ≤ y ∧ y ≤ 3 := by
  have hh : ∀ j, j < 8 → ∃ y, ([V.int 3, V.int 2, V.int 1, V.int 2, V.int 0, V.int 1, V.int 3, V.int 2] : List V)[j]? = some (.int y) ∧ 0 ≤ y ∧ y ≤ 3 := by
    intro j hj
    match j, hj with
    | 0, _ => exact ⟨3, rfl, by decide, by decide⟩
    | 1, _ => exact ⟨2, rfl, by decide, by decide⟩
    | 2, _ => exact ⟨1, rfl, by decide, by decide⟩
    | 3, _ => exact ⟨2, rfl, by decide, by decide⟩
    | 4, _ => exact ⟨0, rfl, by decide, by decide⟩
    | 5, _ => exact ⟨1, rfl, by decide, by decide⟩
    | 6, _ => exact ⟨3, rfl, by decide, by decide⟩
    | 7, _ => exact ⟨2, rfl, by decide, by decide⟩
    | n + 8, h => exact absurd h (by omega)
  exact hh e.toNat (by omega)
theorem count_lt {rows : List Row} {m : Int} (R : ROk m rows) {s : List Str} (h : StumpOk rows s) (h2 : 2 ≤ s.length) : s.count ("*" : Str) < s.length := by
  refine Nat.lt_of_le_of_ne List.count_le_length fun e => ?_
  have q := List.count_eq_length.mp e
  match s, h2 with
  | x :: y :: r, _ =>
    have e1 : ("*" : Str) = x := q x List.mem_cons_self
    have f := h.f
    rw [← e1] at f
    simp [Mth.forest, star_no R] at f
/-- all that stood stands, but what is at a and at M -/
def KpM (a M : Addr) (H H' : Hp) : Prop := ∀ b o, H b = some o → b ≠ a → b ≠ M → H' b = some o
theorem KpM.of {a M : Addr} {H H' : Hp} (x : Kp a H H') : KpM a M H H' := fun b o h n _ => x b o h n
theorem KpM.trans {a M : Addr} {H H1 H2 : Hp} (x : KpM a M H H1) (y : Kp a H1 H2) : KpM a M H H2 := fun b o h n m => y b o (x b o h n m) n
theorem KpM.upd {a M : Addr} {H H1 : Hp} {o : HO} (x : KpM a M H H1) : KpM a M H (L2.upd H1 M o) := fun b u h n m => by rw [upd_ne m]; exact x b u h n m
theorem KpM.tkM {a c M : Addr} {H H' : Hp} {ys : List V} (x : KpM a M H H') (b : BagM H a c) (m : H M = some (.lst ys)) : TK H H' := fun t xs q => by
  refine x _ _ q (fun e => ?_) (fun e => ?_)
  · obtain ⟨⟨ys, h⟩, _⟩ := b.lsts
    rw [e, h] at q
    cases q
  · rw [e, m] at q
    cases q
def leafP (q : Row) : Bool := decide (V.int q.2 = V.int 0)
def spMadeM : Sp := fun vs H Q _ => ∃ (a c r : Addr) (most : Nat) (rows : List Row), vs = [.ref a, .ref r, .int (most : Nat)] ∧ BagM H a c ∧ r ≠ a ∧ RowsAt H r rows ∧ ROk 4 rows ∧ most ≤ 7 ∧
  ∀ (H' : Hp) (M : Addr) (ps : List Addr) (prs : List (List Str × List Ent)), Kp a H H' → BagM H' a c → H M = none → M ≠ a → H' M = some (.lst (ps.map V.ref)) → MdAt rows H' ps prs → prs.length ≤ 4 → Q (.ref M) H'
abbrev s_law_made : Stmt := top 42
abbrev N_law_made : List Str := ["bag", "kinds", "most", "roots", "leaves", "tame", "zero", "made", "k", "stump", "pair"]
theorem sc_law_made : FnScope N_law_made ["bag", "kinds", "most"] (defScope s_law_made) := ⟨rfl, rfl, rfl, by decide +kernel, rfl, by decide +kernel, by decide +kernel⟩
section
variable {P : Program} {w : World} {K : PySem.W.Frag} {mg : Str → Option Value} {base : Heap} {C : Addr}
theorem ok_madeM (T : Bl mg) (c_law_pick : DefOk P w K mg base CX0 1 "_law_pick" spPick) (c_law_tame : DefOk P w K mg base CX0 2 "_law_tame" spTameM) (c_law_stump : DefOk P w K mg base CX0 2 "_law_stump" spStumpM) (c_law_result : DefOk P w K mg base CX0 2 "_law_result" spResultM) (D : Def0 K mg "_law_made" s_law_made) : DefOk P w K mg base CX0 3 "_law_made" spMadeM := by
  refine D.ok sc_law_made (fun vs H Q E h => ?_) (fun _ _ _ _ _ _ us hl => match us, hl with | [_, _, _], _ => rfl) (fun f cdv A outer s' H vs Q E hr h => ?_)
  · obtain ⟨a, c, r, most, rows, rfl, _⟩ := h
    rfl
  · obtain ⟨a, c, r, most, rows, rfl, hb, nra, ⟨ts, hR, hT⟩, R, hm7, k⟩ := h
    have R8 := R.up
    have R8l := R8.len
    refine ⟨_, (pss_cons (ps_setLc (i := 3) (own := [("pair", 10)]) (g := (gName 10)) rfl sc_law_made.nd rfl rfl (sw_true rfl rfl rfl (by decide +kernel)) (pi_list (pv 1)) (blkOk_by (N := N_law_made) (sc := defScope s_law_made) (by decide +kernel)) (fun _ _ _ _ _ => (pg_name (i := 10) sc_law_made.nd rfl (Or.inl rfl))) (fun _ _ _ _ _ => (pts_one (pt_chain op_lt op_lt pe_int (pe_ix (show IxR _ (rIxT K) from ix_tup) (pv 10) pe_int (fun _ _ => rfl)) (pv 2)))) (fun _ _ _ _ _ => (pv 10)))
      (pss_cons (ps_if (pt_cmpR (op_eqD hr.units) (pv 3) (pe_lst pa_nil) (nomark _))
        (pss_one (ps_ret (pe_lst pa_nil)))
        pss_nil)
      (pss_cons (ps_setLc (i := 4) (own := [("pair", 10)]) (g := (gName 10)) rfl sc_law_made.nd rfl rfl (sw_true rfl rfl rfl (by decide +kernel)) (pi_list (pv 1)) (blkOk_by (N := N_law_made) (sc := defScope s_law_made) (by decide +kernel)) (fun _ _ _ _ _ => (pg_name (i := 10) sc_law_made.nd rfl (Or.inl rfl))) (fun _ _ _ _ _ => (pts_one (pt_cmpR op_eq (pe_ix (show IxR _ (rIxT K) from ix_tup) (pv 10) pe_int (fun _ _ => rfl)) pe_int (nomark _)))) (fun _ _ _ _ _ => (pe_ix (show IxR _ (rIxT K) from ix_tup) (pv 10) pe_int (fun _ _ => rfl))))
      (pss_cons (ps_set (i := 5) sc_law_made.nd rfl (Or.inl rfl) (pe_cmpR op_eq (pe_d c_law_pick (hr.mono (by decide)) pass0 (pa_cons (pv 0) (pa_cons pe_int pa_nil))) pe_int (nomark _)))
      (pss_cons (ps_set (i := 6) sc_law_made.nd rfl (Or.inl rfl) (pe_ix ix_list (pv 4) (pe_d c_law_pick (hr.mono (by decide)) pass0 (pa_cons (pv 0) (pa_cons (pe_callB call_len_seq (by rfl) T.b_len boot_len (pa_cons (pv 4) pa_nil)) pa_nil))) (fun _ _ => rfl)))
      (pss_cons (ps_set (i := 7) sc_law_made.nd rfl (Or.inl rfl) (pe_lst pa_nil))
      (pss_cons (ps_for PassesOwn.never rfl (pi_range1 (by rfl) T.b_range (pa_cons (pe_ix ix_tup (pe_tupF (pa_cons pe_int (pa_cons pe_int (pa_cons pe_int (pa_cons pe_int (pa_cons pe_int (pa_cons pe_int (pa_cons pe_int (pa_cons pe_int pa_nil))))))))) (pe_d c_law_pick (hr.mono (by decide)) pass0 (pa_cons (pv 0) (pa_cons pe_int pa_nil))) (fun _ _ => rfl)) pa_nil)) (pg_name (i := 8) sc_law_made.nd rfl (Or.inl rfl))
        (pss_one (ps_if (pt_val (pv 5))
          (pss_one (ps_expr (pe_bm PySem.F.plainAttrs_list PySem.F.slot_list_append PySem.F.type_list_append mt_append (pv 7) (pa_cons (pe_d c_law_tame (hr.mono (by decide)) pass0 (pa_cons (pv 0) (pa_cons (pv 3) (pa_cons (pv 6) pa_nil)))) pa_nil))))
          (pss_cons (ps_set (i := 9) sc_law_made.nd rfl (Or.inl rfl) (pe_d c_law_stump (hr.mono (by decide)) pass0 (pa_cons (pv 0) (pa_cons (pv 1) (pa_cons (pv 2) pa_nil)))))
          (pss_one (ps_expr (pe_bm PySem.F.plainAttrs_list PySem.F.slot_list_append PySem.F.type_list_append mt_append (pv 7) (pa_cons (pe_tupF (pa_cons (pv 9) (pa_cons (pe_d c_law_result (hr.mono (by decide)) pass0 (pa_cons (pv 0) (pa_cons (pv 1) (pa_cons (pv 9) pa_nil)))) pa_nil))) pa_nil))))))))
      (pss_cut (ps_if (PW.pt (pw_and (pt_cmpR (op_neD hr.units) (pv 7) (pe_lst pa_nil) (nomark _)) (pw_and1 (pt_cmpR op_eq (pe_d c_law_pick (hr.mono (by decide)) pass0 (pa_cons (pv 0) (pa_cons pe_int pa_nil))) pe_int (nomark _)))))
        (pss_one (ps_expr (pe_bm PySem.F.plainAttrs_list PySem.F.slot_list_append PySem.F.type_list_append mt_append (pv 7) (pa_cons (pe_ix ix_list (pv 7) pe_int (fun _ _ => rfl)) pa_nil))))
        pss_nil)
      (pss_one (ps_ret (pv 7))))))))))), ?_⟩
    refine ⟨_, rfl, r, rfl, ⟨_, SqL.of hR⟩, fun D hD => ?_⟩
    have nD := hb.ne hD
    have nDr : r ≠ D := ne_of_none hR hD
    refine lc_list (xs := ts.map V.ref) (fun i H' => Same H H' ∧ ∃ us, H' D = some (.lst (us.map V.ref)) ∧ TupsAt H' us ((rows.take i).filter (rootP most)))
      ⟨(Same.refl H).upd_new hD, [], upd_same, rfl, fun i t q hi => by simp at hi⟩ (fun i H' _ ⟨q, _⟩ => SqL.of (q _ _ hR)) ?_ ?_
    · rintro i v H1 hv ⟨s1, us, d1, u1⟩
      obtain ⟨t, ht, rfl⟩ := get_map hv
      have hi : i < rows.length := by rw [← hT.1]; exact lt_of_get ht
      have hq := s1 _ _ (hT.2 i t rows[i] ht (List.getElem?_eq_getElem hi))
      have et := flt_snoc (p := rootP most) (List.getElem?_eq_getElem hi)
      have lu : us.length ≤ 8 := by
        rw [u1.1]
        have := List.length_filter_le (rootP most) (rows.take i)
        rw [List.length_take] at *
        omega
      have no : ¬ rootP most rows[i] = true → Same H H1 ∧ ∃ us, H1 D = some (.lst (us.map V.ref)) ∧ TupsAt H1 us ((rows.take (i + 1)).filter (rootP most)) := fun h => by
        refine ⟨s1, us, d1, ?_⟩
        rw [et, if_neg h, List.append_nil]
        exact u1
      refine ⟨rfl, _, rfl, t, _, _, _, rfl, rfl, SqT.of hq, atI_nat (j := 1) rfl, _, _, rfl, rfl, _, rfl, ?_⟩
      refine ite2 (fun h0 => ?_) (fun h0 => ⟨_, rfl, no fun q => h0 (decide_eq_true (of_decide_eq_true q).1)⟩)
      refine ⟨_, rfl, _, _, rfl, rfl, _, rfl, ?_⟩
      refine ite2 (fun h1 => ?_) (fun h1 => no fun q => h1 (decide_eq_true (of_decide_eq_true q).2))
      refine ⟨_, rfl, _, d1, lt_line (by rw [List.length_map]; omega), s1.upd_own hD, us ++ [t], by rw [upd_same, List.map_append]; rfl, ?_⟩
      rw [et, if_pos (show rootP most rows[i] = true from decide_eq_true ⟨of_decide_eq_true h0, of_decide_eq_true h1⟩)]
      have tk : TK H1 (upd H1 D (.lst (us.map V.ref ++ [V.ref t]))) := TK.lst d1
      exact (u1.keep tk).snoc (tk _ _ hq)
    · rintro H1 ⟨s1, us, d1, u1⟩
      have elen : (ts.map V.ref).length = rows.length := by rw [List.length_map]; exact hT.1
      rw [elen, List.take_length] at u1
      have hsub : (rows.filter (rootP most)).length ≤ rows.length := List.length_filter_le _ _
      have hin : ∀ q ∈ (rows.filter (rootP most)), q ∈ rows ∧ 0 < q.2 ∧ q.2 < ((most : Nat) : Int) := fun q hq => ⟨(List.mem_filter.mp hq).1, of_decide_eq_true (List.mem_filter.mp hq).2⟩
      generalize (rows.filter (rootP most)) = rts at u1 hsub hin
      refine ⟨_, rfl, le_line (show 0 ≤ 100000 by decide), fun l hl => ?_⟩
      have s2 : Same H1 (upd H1 l (.lst [])) := (Same.refl H1).upd_new hl
      have l2 : (upd H1 l (.lst [])) l = some (.lst []) := upd_same
      have d2 := s2 _ _ d1
      have u2 := u1.sameR s2
      have s02 := s1.trans s2
      generalize upd H1 l (.lst []) = H2 at s2 l2 d2 u2 s02
      refine ⟨_, _, dp_rows (SqL.of d2) u2, dp_nil l2, shp_rows (fun q hq => nm_ok (R.nm _ (hin q hq).1)), shp_nil, _, rfl, ?_⟩
      refine ite2 (fun _ => ?_) (fun h0 => ?_)
      · refine ⟨le_line (show 0 ≤ 100000 by decide), fun M hM => ?_⟩
        have s3 := s02.upd_new (o := .lst []) hM
        exact k _ M [] [] (Kp.same s3) (hb.same s3) (s02.free hM) ((hb.same s02).ne hM).1 upd_same ⟨rfl, fun i p q a => by simp at a⟩ (Nat.zero_le _)
      rw [eqvE] at h0
      have hpos : 0 < rts.length := by
        cases rts with
        | nil => exact absurd rfl h0
        | cons _ _ => exact Nat.succ_pos _
      have hroot : ∃ q ∈ rows, 0 < q.2 ∧ q.2 < ((most : Nat) : Int) := ⟨rts[0], hin _ (List.getElem_mem hpos)⟩
      have hR2 := s02 _ _ hR
      have b2 := hb.same s02
      refine ⟨_, rfl, r, rfl, ⟨_, SqL.of hR2⟩, fun D2 hD2 => ?_⟩
      have nD2 := b2.ne hD2
      refine lc_list (xs := ts.map V.ref) (fun i H' => Same H2 H' ∧ H' D2 = some (.lst (sV (((rows.take i).filter leafP).map (·.1)))))
        ⟨(Same.refl H2).upd_new hD2, upd_same⟩ (fun i H' _ ⟨q, _⟩ => SqL.of (q _ _ hR2)) ?_ ?_
      · rintro i v H3 hv ⟨s3, d3⟩
        obtain ⟨t, ht, rfl⟩ := get_map hv
        have hi : i < rows.length := by rw [← hT.1]; exact lt_of_get ht
        have hq := s3 _ _ (s02 _ _ (hT.2 i t rows[i] ht (List.getElem?_eq_getElem hi)))
        have et := flt_snoc (p := leafP) (List.getElem?_eq_getElem hi)
        refine ⟨rfl, _, rfl, t, _, _, _, rfl, rfl, SqT.of hq, atI_nat (j := 1) rfl, rfl, _, rfl, ?_⟩
        refine ite2 (fun h1 => ?_) (fun h1 => ?_)
        · refine ⟨_, rfl, t, _, _, _, rfl, rfl, SqT.of hq, atI_nat (j := 0) rfl, _, d3, ?_, s3.upd_own hD2, ?_⟩
          · rw [sV, List.length_map, List.length_map]
            refine lt_line (Nat.le_trans (List.length_filter_le _ _) ?_)
            rw [List.length_take]
            omega
          · rw [upd_same, et, if_pos (show leafP rows[i] = true from h1), sV, sV, List.map_append, List.map_append]
            rfl
        · refine ⟨s3, ?_⟩
          rw [et, if_neg (show ¬ leafP rows[i] = true from h1), List.append_nil]
          exact d3
      · rintro H3 ⟨s3, d3⟩
        rw [elen, List.take_length] at d3
        have hlv : ∀ z ∈ (rows.filter leafP).map (·.1), (z, 0) ∈ rows := fun z hz => by
          obtain ⟨q, q1, rfl⟩ := List.mem_map.mp hz
          have e0 : q.2 = 0 := int_eq0 (List.mem_filter.mp q1).2
          have := (List.mem_filter.mp q1).1
          rw [show q = (q.1, 0) from Prod.ext rfl e0] at this
          exact this
        have hlp : 0 < ((rows.filter leafP).map (·.1)).length := by
          obtain ⟨q, q1, q2⟩ := R.leaf
          rw [List.length_map]
          exact List.length_pos_of_mem (List.mem_filter.mpr ⟨q1, decide_eq_true (by rw [q2])⟩)
        have hll : ((rows.filter leafP).map (·.1)).length ≤ 8 := by
          rw [List.length_map]
          have := List.length_filter_le leafP rows
          omega
        generalize (rows.filter leafP).map (·.1) = lvs at d3 hlv hlp hll
        have s03 := s02.trans s3
        have b3 := hb.same s03
        have d13 := s3 _ _ d2
        have u3 := u2.sameR s3
        refine ⟨_, rfl, a, c, 3, rfl, b3, by decide, by decide, fun H4 e k4 b4 e0 e1 => ?_⟩
        refine ⟨rfl, ?_⟩
        generalize decide (V.int e = V.int 2) = tb
        have d4 := k4 _ _ d3 nD2.1
        have d14 := k4 _ _ d13 nD.1
        have u4 := u3.keep (k4.tkM b3)
        have k04 : Kp a H H4 := (Kp.same s03).trans k4
        have llv : (sV lvs).length = lvs.length := by rw [sV, List.length_map]
        refine ⟨_, rfl, _, rfl, _, rfl, D2, _, rfl, .inl (SqL.of d4), a, c, (lvs.length : Int), by rw [llv], b4, by omega, by omega, fun H5 j k5 b5 j0 j1 => ?_⟩
        have hj : j.toNat < lvs.length := by omega
        have d15 := k5 _ _ d14 nD.1
        have u5 := u4.keep (k5.tkM b4)
        have k05 := k04.trans k5
        refine ⟨D2, _, _, _, rfl, rfl, SqL.of (k5 _ _ d4 nD2.1), str_at (j := j.toNat) hj (by omega), ?_⟩
        have hz := hlv _ (List.getElem_mem hj)
        generalize lvs[j.toNat] = z at hz
        refine ⟨le_line (show 0 ≤ 100000 by decide), fun M hM => ?_⟩
        have s6 : Same H5 (upd H5 M (.lst [])) := (Same.refl H5).upd_new hM
        have m6 : (upd H5 M (.lst [])) M = some (.lst (([] : List Addr).map V.ref)) := upd_same
        have nM := b5.ne hM
        have hM0 : H M = none := k05.freeM hM nM.1
        have b6 := b5.same s6
        have d16 := s6 _ _ d15
        have u6 := u5.sameR s6
        have k06 := k05.trans (Kp.same s6)
        have nMD : D ≠ M := ne_of_none d15 hM
        generalize upd H5 M (.lst []) = H6 at s6 m6 b6 d16 u6 k06
        refine ⟨le_line (show 8 ≤ 100000 by decide), fun t ot ht hot => ?_⟩
        obtain ⟨s7, z7⟩ := new_tz (xs := [V.int 3, V.int 2, V.int 1, V.int 2, V.int 0, V.int 1, V.int 3, V.int 2]) ht hot
        generalize upd H6 t (.frz ot (.tup [V.int 3, V.int 2, V.int 1, V.int 2, V.int 0, V.int 1, V.int 3, V.int 2])) = H7 at s7 z7
        have b7 := b6.same s7
        refine ⟨_, rfl, a, c, 8, rfl, b7, by decide, by decide, fun H8 e k8 b8 e0 e1 => ?_⟩
        obtain ⟨y, hy, y0, y3⟩ := eig_of e e0 e1
        have z8 := tz_kp z7 k8 b7
        refine ⟨t, _, _, _, rfl, rfl, z8.q.sq, at_ofG (j := e.toNat) (by omega) hy, ?_⟩
        have k67 := k06.trans (Kp.same s7)
        have k08 := k67.trans k8
        have m8 := k8 _ _ (s7 _ _ m6) nM.1
        have rts8 : rts.length ≤ 8 := by omega
        refine ⟨_, rfl, by omega, by omega, for_range (n := y.toNat) (fun i σ H' => ∃ (x x2 : Option V) (ps : List Addr) (prs : List (List Str × List Ent)), σ = [some (.ref a), some (.ref r), some (.int (most : Nat)), some (.ref D), some (.ref D2), some (.bl tb), some (.str z), some (.ref M), x, x2, none] ∧
            Kp a H H' ∧ KpM a M H6 H' ∧ BagM H' a c ∧ H' M = some (.lst (ps.map V.ref)) ∧ MdAt rows H' ps prs ∧ prs.length = i)
          ⟨none, none, [], [], rfl, k08, KpM.of ((Kp.same s7).trans k8), b8, m8, ⟨rfl, fun i p q a => by simp at a⟩, rfl⟩ ?_ ?_⟩
        · rintro i σ H9 hi ⟨x, x2, ps, prs, rfl, k9, k69, b9, m9, p9, pl⟩
          have d19 := k69 _ _ d16 nD.1 nMD
          have u9 := u6.keep (k69.tkM b6 m6)
          have hR9 := k9 _ _ hR nra
          have hT9 : TupsAt H9 ts rows := hT.keep (k9.tkM hb)
          refine ⟨_, rfl, _, rfl, ite2 (fun _ => ?_) (fun _ => ?_)⟩
          · refine ⟨_, rfl, .inl ⟨rfl, _, SqL.of m9⟩, _, rfl, _, rfl, _, rfl, a, c, D, z, rows, rts, us, rfl, b9, nD.1, d19, u9, (fun q hq => ⟨(hin q hq).1, (hin q hq).2.1⟩), hpos, rts8, R, hz, fun H10 p q k10 b10 p10 => ?_⟩
            have m10 := k10 _ _ m9 nM.1
            have pp := p9.kp k10 b9
            refine ⟨M, _, _, rfl, rfl, m10, lt_line (by rw [List.length_map, p9.1]; omega), ?_⟩
            refine ⟨_, _, ps ++ [p], prs ++ [q], rfl, (k9.trans k10).upd_own hM0, (k69.trans k10).upd, b10.upd_ne nM, by rw [upd_same, List.map_append]; rfl, (pp.lst m10).snoc (p10.lst m10), ?_⟩
            rw [List.length_append, pl]
            rfl
          · refine ⟨_, rfl, _, rfl, _, rfl, a, c, r, most, rows, rfl, b9, nra, ⟨ts, hR9, hT9⟩, R, hm7, hroot, fun H10 st s k10 b10 z10 so sl s2 => ?_⟩
            have m10 := k10 _ _ m9 nM.1
            have p10 := p9.kp k10 b9
            have k010 := k9.trans k10
            refine ⟨_, rfl, .inl ⟨rfl, _, SqL.of m10⟩, _, rfl, _, rfl, _, rfl, _, rfl, a, c, r, st, rows, s, rfl, b10, nra, ⟨ts, k10 _ _ hR9 nra, hT9.keep (k10.tkM b9)⟩, R, z10, so, s2, by omega, count_lt R so s2, fun H11 u e k11 b11 z11 re => ?_⟩
            have m11 := k11 _ _ m10 nM.1
            have p11 := p10.kp k11 b10
            have z12 := tz_kp z10 k11 b10
            refine ⟨le_line (show 2 ≤ 100000 by decide), fun pb ob hb2 hob => ?_⟩
            obtain ⟨sb, zb⟩ := new_tz (xs := [.ref st, .ref u]) hb2 hob
            have m12 := sb _ _ m11
            have p12 := p11.same sb
            have b12 := b11.same sb
            have pr : MdAt rows (upd H11 pb (.frz ob (.tup [.ref st, .ref u]))) (ps ++ [pb]) (prs ++ [(s, e)]) := p12.snoc ⟨st, u, zb, z12.same sb, z11.same sb, so, s2, Nat.le_trans sl hm7, re⟩
            have k12 : Kp a H (upd H11 pb (.frz ob (.tup [.ref st, .ref u]))) := (k010.trans k11).trans (Kp.same sb)
            have k612 : KpM a M H6 (upd H11 pb (.frz ob (.tup [.ref st, .ref u]))) := ((k69.trans k10).trans k11).trans (Kp.same sb)
            generalize upd H11 pb (.frz ob (.tup [.ref st, .ref u])) = H12 at sb zb m12 p12 b12 pr k12 k612
            refine ⟨M, _, _, rfl, rfl, m12, lt_line (by rw [List.length_map, p9.1]; omega), ?_⟩
            refine ⟨_, _, ps ++ [pb], prs ++ [(s, e)], rfl, k12.upd_own hM0, k612.upd, b12.upd_ne nM, by rw [upd_same, List.map_append]; rfl, pr.lst m12, ?_⟩
            rw [List.length_append, pl]
            rfl
        · rintro σ H9 ⟨x, x2, ps, prs, rfl, k9, k69, b9, m9, p9, pl⟩
          refine ⟨fun σ H' => ∃ (ps : List Addr) (prs : List (List Str × List Ent)), σ = [some (.ref a), some (.ref r), some (.int (most : Nat)), some (.ref D), some (.ref D2), some (.bl tb), some (.str z), some (.ref M), x, x2, none] ∧ Kp a H H' ∧ BagM H' a c ∧ H' M = some (.lst (ps.map V.ref)) ∧ MdAt rows H' ps prs ∧ prs.length ≤ 4, ?_, ?_⟩
          · refine ⟨_, rfl, le_line (show 0 ≤ 100000 by decide), fun l hl => ?_⟩
            have s10 : Same H9 (upd H9 l (.lst [])) := (Same.refl H9).upd_new hl
            have l10 : (upd H9 l (.lst [])) l = some (.lst []) := upd_same
            have m10 := s10 _ _ m9
            have p10 := p9.same s10
            have b10 := b9.same s10
            have k10 := k9.trans (Kp.same s10)
            generalize upd H9 l (.lst []) = H10 at s10 l10 m10 p10 b10 k10
            refine ⟨_, _, dp_prs m10 p10, dp_nil l10, shp_prs R p10.ok, shp_nil, _, rfl, ?_⟩
            refine ite2 (fun h1 => ?_) (fun _ => ⟨ps, prs, rfl, k10, b10, m10, p10, by omega⟩)
            rw [eqvE] at h1
            refine ⟨_, rfl, a, c, 8, rfl, b10, by decide, by decide, fun H11 d k11 b11 d0 d1 => ?_⟩
            have m11 := k11 _ _ m10 nM.1
            have p11 := p10.kp k11 b10
            have k011 := k10.trans k11
            refine ⟨rfl, _, rfl, ite2 (fun _ => ?_) (fun _ => ⟨ps, prs, rfl, k011, b11, m11, p11, by omega⟩)⟩
            have hpp : 0 < prs.length := by
              cases prs with
              | nil => cases h1
              | cons _ _ => exact Nat.succ_pos _
            have hp0 : 0 < ps.length := by rw [p11.1]; exact hpp
            refine ⟨_, rfl, .inl ⟨rfl, _, SqL.of m11⟩, _, rfl, M, _, _, _, rfl, rfl, SqL.of m11, atI_nat (j := 0) (by rw [List.getElem?_map, List.getElem?_eq_getElem hp0]; rfl), M, _, _, rfl, rfl, m11, lt_line (by rw [List.length_map, p11.1]; omega), ?_⟩
            refine ⟨ps ++ [ps[0]], prs ++ [prs[0]], rfl, k011.upd_own hM0, b11.upd_ne nM, by rw [upd_same, List.map_append]; rfl, (p11.lst m11).snoc ((p11.2 0 _ _ (List.getElem?_eq_getElem hp0) (List.getElem?_eq_getElem hpp)).lst m11), ?_⟩
            rw [List.length_append]
            show prs.length + 1 ≤ 4
            omega
          · rintro σ H10 ⟨ps, prs, rfl, k10, b10, m10, p10, pl⟩
            exact ⟨_, rfl, k _ _ ps prs k10 b10 hM0 nM.1 m10 p10 pl⟩
end
end Sh
end
section
set_option Elab.async false
set_option linter.all false
set_option maxRecDepth 100000
set_option maxHeartbeats 2000000
namespace L2
open PySem PySem.Spec PyProof.Rows
/-- a bound of a slice that is None -/
theorem po_nonV {X : Cx} {e : Expr} {te : TE} (h : PE X e te) : PO X (some e) (fun σ H Q => te σ H fun x H1 => x = .non ∧ Q none H1) := by
  refine ⟨fun pins s σ H Q I hw => ?_⟩
  rw [evalPart_some]
  refine thn (h.run pins s σ H _ I hw) fun u s1 ⟨x, H1, I1, r1, q1⟩ => ?_
  obtain ⟨rfl, q⟩ := q1
  obtain rfl : u = Value.none := r1
  exact ⟨none, H1, I1, .none, q⟩
end L2
namespace Sh
open PySem PySem.Spec PyProof.Rows L2
open C8 (pss_cut tCut)
open Evl (ixN_nat)
def SeqV (K : PySem.W.Frag) (H : Hp) (e : Addr) (lv : List V) : Prop := ∀ H', Same H H' → SqL K H' e lv ∨ SqT K H' e lv
def spFaultM (K : PySem.W.Frag) (C : Addr) : Sp := fun vs H Q _ => ∃ (b t e : Addr) (rows : List Row) (l : List Ent) (lv : List V), vs = [.ref b, .ref t, .ref e] ∧ BedAt C H b rows ∧ ROk 8 rows ∧ Tq H t (l.map eV) ∧ l.length ≤ 6000 ∧ SeqV K H e lv ∧ lv.all flatV = true ∧
  (∀ x ∈ l, (inV (eV x) lv = true ∧ eW rows x = 0) ∨ (inV (eV x) lv = false ∧ ∃ z, x = .k z ∧ ∃ q ∈ rows, q.1 = z)) ∧ Mth.forest (eW rows) l 1 = true ∧ ∀ H', Same H H' → Q .non H'
def knP : Ent → Bool
  | .n _ => false
  | .k z => decide (z ≠ "*")
def spKnots (C : Addr) : Sp := fun vs H Q _ => ∃ (b t : Addr) (rows : List Row) (l : List Ent), vs = [.ref b, .ref t] ∧ BedAt C H b rows ∧ ROk 8 rows ∧ Tq H t (l.map eV) ∧ l.length ≤ 6000 ∧ (∀ z : Str, Ent.k z ∈ l → z = ("*" : Str) ∨ ∃ q ∈ rows, q.1 = z) ∧
  ∀ H', Same H H' → Q (.int ((l.countP knP : Nat))) H'
def spResF (C : Addr) : Sp := fun vs H Q _ => ∃ (b t : Addr) (rows : List Row) (l : List Ent) (h : Nat), vs = [.ref b, .int (h : Nat), .ref t] ∧ BedAt C H b rows ∧ ROk 8 rows ∧ Tz H t (l.map eV) ∧ l.length ≤ 7 ∧ h ≤ 7 ∧ Mth.forest (eW rows) l 1 = true ∧ (∀ z, .k z ∈ l → ∃ q ∈ rows, q.1 = z) ∧ (∀ i ∈ nums l, i < h) ∧ (nums l).Nodup ∧
  ∀ H', Same H H' → Q .non H'
abbrev s_knots_in : Stmt := top 29
abbrev N_knots_in : List Str := ["bed", "entries", "entry"]
theorem sc_knots_in : FnScope N_knots_in ["bed", "entries"] (defScope s_knots_in) := ⟨rfl, rfl, rfl, by decide +kernel, rfl, by decide +kernel, by decide +kernel⟩
abbrev s_result_fault : Stmt := top 28
abbrev N_result_fault : List Str := ["bed", "holes", "result", "fault", "place", "entry"]
theorem sc_result_fault : FnScope N_result_fault ["bed", "holes", "result"] (defScope s_result_fault) := ⟨rfl, rfl, rfl, by decide +kernel, rfl, by decide +kernel, by decide +kernel⟩
section
variable {P : Program} {w : World} {K : PySem.W.Frag} {mg : Str → Option Value} {base : Heap} {C : Addr}
theorem ok_fault_placeM (T : Bk mg) (B : BedT K C) (D : Def0 K mg "fault_place" s_fault_place) : DefOk P w K mg base CX0 1 "fault_place" (spFaultM K C) := by
  refine D.ok sc_fault_place (fun vs H Q E h => ?_) (fun _ _ _ _ _ _ us hl => match us, hl with | [_, _, _], _ => rfl) (fun f cdv A outer s H vs Q E hr h => ?_)
  · obtain ⟨b, t, e, rows, l, lv, rfl, _⟩ := h
    rfl
  · obtain ⟨b, t, lq, rows, l, lv, rfl, hB, R, ht, hsz, he, hf, hx, hfo, k⟩ := h
    have hu := hu_of hr
    refine ⟨_, (pss_cons (ps_set (i := 3) sc_fault_place.nd rfl (Or.inl rfl) pe_int)
      (pss_cons (ps_for PassesOwn.never rfl (pi_enumT (by rfl) T.b_enumerate (pa_cons (pv 1) pa_nil)) (pg_tup (by rfl) (pgs_cons (pg_name (i := 4) sc_fault_place.nd rfl (Or.inl rfl)) (pgs_cons (pg_name (i := 5) sc_fault_place.nd rfl (Or.inl rfl)) pgs_nil)))
        (pss_cons (ps_if (pt_cmpR op_eq (pv 3) pe_int (nomark _))
          (pss_one (ps_ret (pv 4)))
          pss_nil)
        (pss_one (ps_if (pt_cmpR op_in_seq (pv 5) (pv 2) (by rfl))
          (pss_one (ps_set (i := 3) sc_fault_place.nd rfl (Or.inl rfl) (pe_op op_sub (pv 3) pe_int)))
          (pss_one (ps_if (pt_cmp (pc_din hu (pv 5) (pe_fld (pv 0) rfl)))
            (pss_one (ps_set (i := 3) sc_fault_place.nd rfl (Or.inl rfl) (pe_op op_add (pe_op op_sub (pv 3) pe_int) (pe_dget hu (pe_fld (pv 0) rfl) (pv 5) (fun _ _ => rfl)))))
            (pss_one (ps_ret (pv 4)))))))))
      (pss_one (ps_ret (pe_ifExp (pt_cmpR op_eq (pv 3) pe_int (nomark _)) pe_non (pe_callB call_len_seq (by rfl) T.b_len boot_len (pa_cons (pv 1) pa_nil))))))), ?_⟩
    refine ⟨_, rfl, t, _, rfl, ht.sq, for_it (walk_enumT (xs := l.map eV)) (fun i σ H' => ∃ (x y : Option V) (n : Nat), σ = [some (.ref b), some (.ref t), some (.ref lq), some (.int (n : Nat)), x, y] ∧ Same H H' ∧ Mth.forest (eW rows) (l.drop i) n = true)
      ⟨none, none, 1, rfl, Same.refl H, hfo⟩ (fun i σ H' _ ⟨_, _, _, _, q, _⟩ => (ht.same q).sq) ?_ ?_⟩
    · rintro i v σ H1 H2 hi ⟨x, y, n, rfl, s1, hfo⟩ ⟨P1, v1, v2, rfl, hP1, rfl, e1, e2⟩
      have hil : i < l.length := by rw [List.length_map] at hi; exact hi
      cases e1
      have e2' : (l.map eV)[i]? = some v2 := e2
      rw [List.getElem?_map, List.getElem?_eq_getElem hil] at e2'
      cases e2'
      have s2 := s1.upd_new (o := .tup [.int ((i : Nat) : Int), eV l[i]]) hP1
      rw [List.drop_eq_getElem_cons hil] at hfo
      have hm : l[i] ∈ l := List.getElem_mem hil
      obtain ⟨m, rfl⟩ : ∃ m, n = m + 1 := by
        cases n with
        | zero => cases hfo
        | succ m => exact ⟨m, rfl⟩
      have hfo2 : Mth.forest (eW rows) (l.drop (i + 1)) (m + eW rows l[i]) = true := by
        have q : Mth.forest (eW rows) (l[i] :: l.drop (i + 1)) (m + 1) = true := hfo
        unfold Mth.forest at q
        rw [Nat.add_comm m]
        exact q
      obtain ⟨dx, r, kk, ww, rk, ts, h1, h2, h3, h4, h5, h6⟩ := hB.same s2
      refine ⟨P1, _, rfl, SqT.of upd_same, rfl, _, _, rfl, _, _, rfl, rfl, ?_⟩
      refine ⟨_, rfl, rfl, _, rfl, ifn (fun e => ?_) ?_⟩
      · have := int_eq0 e
        omega
      refine ⟨_, rfl, _, rfl, lq, _, rfl, he _ s2, ?_, hf, _, rfl, ?_⟩
      · cases l[i] <;> rfl
      rcases hx _ hm with ⟨q1, q2⟩ | ⟨q1, z, q2, q3⟩
      · refine ifp q1 ?_
        rw [q2] at hfo2
        refine ⟨_, rfl, _, _, rfl, rfl, some (.int ((i : Nat) : Int)), some (eV l[i]), m, ?_, s2, hfo2⟩
        rw [show ((m : Nat) : Int) = ((m + 1 : Nat) : Int) - 1 by omega]
        rfl
      · refine ifn (fun e => by rw [q1] at e; cases e) ?_
        generalize l[i] = en at *
        subst q2
        refine ⟨_, rfl, _, rfl, b, C, dx, _, _, rfl, h1, B.cl, B.nW, lk_widths _ _ _ _, ww, _, rfl, DGet.k (k := .inr z) h5, _, rfl, ?_⟩
        rw [val_wL R q3]
        refine ifp rfl ?_
        refine ⟨_, rfl, _, _, rfl, rfl, _, rfl, b, C, dx, _, _, rfl, h1, B.cl, B.nW, lk_widths _ _ _ _, _, rfl, ww, _, rfl, (by rw [← val_wL R q3]; exact DGet.k (k := .inr z) h5), _, _, rfl, rfl, ?_⟩
        refine ⟨some (.int ((i : Nat) : Int)), some (.str z), m + wR rows z, ?_, s2, hfo2⟩
        rw [show ((m + wR rows z : Nat) : Int) = ((m + 1 : Nat) : Int) - 1 + ((wR rows z : Nat) : Int) by omega]
        rfl
    · rintro σ H1 ⟨x, y, n, rfl, s1, hfo⟩
      rw [List.length_map, List.drop_length] at hfo
      cases n with
      | zero => exact ⟨_, rfl, rfl, _, rfl, ifp (by simp) (k _ s1)⟩
      | succ m => cases hfo
theorem ok_knots (T : Bk mg) (B : BedT K C) (D : Def0 K mg "knots_in" s_knots_in) : DefOk P w K mg base CX0 1 "knots_in" (spKnots C) := by
  refine D.ok sc_knots_in (fun vs H Q E h => ?_) (fun _ _ _ _ _ _ us hl => match us, hl with | [_, _], _ => rfl) (fun f cdv A outer s H vs Q E hr h => ?_)
  · obtain ⟨b, t, rows, l, rfl, _⟩ := h
    rfl
  · obtain ⟨b, t, rows, l, rfl, hB, R, ht, hsz, hk, k⟩ := h
    have hu := hu_of hr
    refine ⟨_, (pss_one (ps_ret (pe_callB call_len_seq (by rfl) T.b_len boot_len (pa_cons (pe_lc (own := [("entry", 2)]) (g := (gName 2)) rfl sc_knots_in.nd (pi_tup (pv 1)) (blkOk_by (N := N_knots_in) (sc := defScope s_knots_in) (by decide +kernel)) (fun _ _ _ _ _ => (pg_name (i := 2) sc_knots_in.nd rfl (Or.inl rfl))) (fun _ _ _ _ _ => (pts_one (pt_cmp (pc_din hu (pv 2) (show PE _ _ (tFld K _ _) from pe_fld (pv 0) rfl))))) (fun _ _ _ _ _ => (pv 2))) pa_nil)))), ?_⟩
    refine ⟨_, rfl, t, rfl, ⟨_, ht.sq⟩, fun D hD => lc_it (walk_tup (xs := l.map eV)) (fun i H' => Same H H' ∧ H' D = some (.lst (((l.take i).filter knP).map eV)))
      ⟨(Same.refl H).upd_new hD, upd_same⟩ (fun i H' _ ⟨q, _⟩ => (ht.same q).sq) ?_ ?_⟩
    · rintro i v H1 H2 hi ⟨s1, d1⟩ ⟨rfl, hv⟩
      obtain ⟨x, hx, rfl⟩ := get_map hv
      have et := flt_snoc (p := knP) hx
      obtain ⟨dx, r, kk, ww, rk, ts, h1, h2, h3, h4, h5, h6⟩ := hB.same s1
      have hil := lt_of_get hx
      cases x with
      | n j =>
        refine ⟨rfl, _, rfl, _, rfl, b, C, dx, _, _, rfl, h1, B.cl, B.nW, lk_widths _ _ _ _, ww, _, rfl, DGet.k (k := .inl (j : Nat)) h5, _, rfl, ?_⟩
        have e0 : valV (wL rows) (.inl ((j : Nat) : Int)) = none := by
          unfold valV
          rw [List.find?_eq_none.mpr (fun kv hk => by
            obtain ⟨q, _, rfl⟩ := List.mem_map.mp hk
            simp)]
          rfl
        rw [e0]
        refine ifn (by decide) ⟨s1, ?_⟩
        rw [et, if_neg (by show ¬ (false = true); decide), List.append_nil]
        exact d1
      | k z =>
        refine ⟨rfl, _, rfl, _, rfl, b, C, dx, _, _, rfl, h1, B.cl, B.nW, lk_widths _ _ _ _, ww, _, rfl, DGet.k (k := .inr z) h5, _, rfl, ?_⟩
        rcases hk z (mem_of_get hx) with e | q3
        · subst e
          have e0 : valV (wL rows) (.inr "*") = none := by
            rcases nm_case R "*" with ⟨_, _, q, _⟩ | ⟨q, _⟩
            · exact q
            · rw [nm_star R] at q
              omega
          rw [e0]
          refine ifn (by decide) ⟨s1, ?_⟩
          rw [et, if_neg (by show ¬ (decide (("*" : Str) ≠ "*") = true); decide), List.append_nil]
          exact d1
        · have zn : z ≠ "*" := by
            obtain ⟨q, q1, rfl⟩ := q3
            exact nm_nstar (R.nm _ q1)
          rw [val_wL R q3]
          refine ifp rfl ⟨_, rfl, _, d1, ?_, s1.upd_own hD, ?_⟩
          · rw [List.length_map]
            refine lt_line (Nat.le_trans (List.length_filter_le _ _) ?_)
            rw [List.length_take]
            omega
          · rw [upd_same, et, if_pos (show knP (.k z) = true from decide_eq_true zn), List.map_append]
            rfl
    · rintro H1 ⟨s1, d1⟩
      rw [List.length_map, List.take_length] at d1
      refine ⟨D, _, rfl, .inl (SqL.of d1), ?_⟩
      have q := k _ s1
      rw [List.countP_eq_length_filter] at q
      rw [List.length_map]
      exact q
theorem inV_nV (x : V) (fs : List Nat) : (∀ z, x = .str z → inV x (nV fs) = false) ∧ ∀ i : Nat, x = .int (i : Nat) → inV x (nV fs) = decide (i ∈ fs) := by
  constructor
  · rintro z rfl
    induction fs with
    | nil => rfl
    | cons j r ih =>
      have e : inV (.str z) (nV (j :: r)) = (eqV (.int (j : Nat)) (.str z) || inV (.str z) (nV r)) := rfl
      rw [e, ih]
      rfl
  · rintro i rfl
    have e : nV fs = (fs.map fun i => ((i : Nat) : Int)).map V.int := by
      unfold nV
      rw [List.map_map]
      rfl
    rw [e, mem_map_ints]
    refine decide_eq_decide.mpr ⟨fun h => ?_, fun h => List.mem_map.mpr ⟨i, h, rfl⟩⟩
    obtain ⟨j, hj, e⟩ := List.mem_map.mp h
    have : j = i := by omega
    rw [← this]
    exact hj
theorem flat_nV (fs : List Nat) : (nV fs).all flatV = true := by
  rw [List.all_eq_true]
  intro v hv
  obtain ⟨i, _, rfl⟩ := List.mem_map.mp hv
  rfl
theorem inV_ent {j : Nat} (es : List Ent) (h : inV (.int (j : Nat)) (es.map eV) = true) : j ∈ nums es := by
  induction es with
  | nil => cases h
  | cons x r ih =>
    cases x with
    | k z =>
      have e : inV (.int (j : Nat)) ((Ent.k z :: r).map eV) = (false || inV (.int (j : Nat)) (r.map eV)) := rfl
      rw [e, Bool.false_or] at h
      exact ih h
    | n i =>
      have e : inV (.int (j : Nat)) ((Ent.n i :: r).map eV) = (eqV (.int (i : Nat)) (.int (j : Nat)) || inV (.int (j : Nat)) (r.map eV)) := rfl
      have e2 : (eqV (.int (i : Nat)) (.int (j : Nat)) || false) = decide (((j : Nat) : Int) ∈ [((i : Nat) : Int)]) := mem_map_ints (ws := [((i : Nat) : Int)]) (n := ((j : Nat) : Int))
      rw [Bool.or_false] at e2
      rw [e, e2, Bool.or_eq_true] at h
      show j ∈ i :: nums r
      rcases h with h | h
      · have q := List.mem_singleton.mp (of_decide_eq_true h)
        have : j = i := by omega
        rw [this]
        exact List.mem_cons_self
      · exact List.mem_cons_of_mem _ (ih h)
theorem flat_ent (es : List Ent) : (es.map eV).all flatV = true := by
  rw [List.all_eq_true]
  intro v hv
  obtain ⟨i, _, rfl⟩ := List.mem_map.mp hv
  cases i <;> rfl
theorem ok_result_fault (T : Bk mg) (c_fault_place : DefOk P w K mg base CX0 1 "fault_place" (spFaultM K C)) (D : Def0 K mg "result_fault" s_result_fault) : DefOk P w K mg base CX0 2 "result_fault" (spResF C) := by
  refine D.ok sc_result_fault (fun vs H Q E h => ?_) (fun _ _ _ _ _ _ us hl => match us, hl with | [_, _, _], _ => rfl) (fun f cdv A outer s H vs Q E hr h => ?_)
  · obtain ⟨b, t, rows, l, h, rfl, _⟩ := h
    rfl
  · obtain ⟨b, t, rows, l, hh, rfl, hB, R, ht, hsz, h7, hf, hk, hn, nd, k⟩ := h
    refine ⟨_, (pss_cons (ps_set (i := 3) sc_result_fault.nd rfl (Or.inl rfl) (pe_d c_fault_place (hr.mono (by decide)) pass0 (pa_cons (pv 0) (pa_cons (pv 2) (pa_cons (pe_listRg rfl (by rfl) T.b_list (prg_1 (by rfl) T.b_range (pv 1))) pa_nil)))))
      (pss_cons (ps_for PassesOwn.never rfl (pi_enumT (by rfl) T.b_enumerate (pa_cons (pe_slice sl_tupG (pv 2) po_none (po_nonV (pv 3))) pa_nil)) (pg_tup (by rfl) (pgs_cons (pg_name (i := 4) sc_result_fault.nd rfl (Or.inl rfl)) (pgs_cons (pg_name (i := 5) sc_result_fault.nd rfl (Or.inl rfl)) pgs_nil)))
        (pss_one (ps_if (PW.pt (pw_and (pt_val (pe_callB call_isi (by rfl) T.b_isinstance (by decide +kernel) (pa_cons (pv 5) (pa_cons (pe_bltn (v := .ty "int") (by rfl) T.b_int boot_int rfl) pa_nil)))) (pw_and1 (pt_cmpR op_in_seq (pv 5) (pe_slice sl_tupG (pv 2) po_none (po_some (pv 4))) (by rfl)))))
          (pss_one (ps_ret (pv 4)))
          pss_nil)))
      (pss_one (ps_ret (pv 3))))), ?_⟩
    refine ⟨_, rfl, _, rfl, _, rfl, _, rfl, .of_le (by omega) (by omega) (by omega) (by omega), fun F hF => ?_⟩
    have e0 : rgV 0 ((hh : Nat) : Int) = nV (List.range hh) := by
      unfold rgV nV
      rw [show (((hh : Nat) : Int) - 0).toNat = hh by omega]
      exact List.map_congr_left fun i _ => by rw [Int.zero_add]
    rw [e0]
    have s1 : Same H (upd H F (.lst (nV (List.range hh)))) := (Same.refl H).upd_new hF
    have f1 : (upd H F (.lst (nV (List.range hh)))) F = some (.lst (nV (List.range hh))) := upd_same
    generalize upd H F (.lst (nV (List.range hh))) = H1 at s1 f1
    refine ⟨b, t, F, rows, l, nV (List.range hh), rfl, hB.same s1, R, (ht.same s1).q, by omega, fun H' s' => .inl (SqL.of (s' _ _ f1)), flat_nV _, fun x hx => ?_, hf, fun H2 s2 => ?_⟩
    · cases x with
      | k z => exact .inr ⟨(inV_nV _ _).1 z rfl, z, rfl, hk z hx⟩
      | n i =>
        refine .inl ⟨?_, rfl⟩
        have hi : i ∈ nums l := List.mem_filterMap.mpr ⟨_, hx, rfl⟩
        have q := (inV_nV (.int (i : Nat)) (List.range hh)).2 i rfl
        rw [decide_eq_true (List.mem_range.mpr (hn i hi))] at q
        exact q
    · have s02 := s1.trans s2
      have t2 := ht.same s02
      have e1 : HT.sIx (l.map eV).length 0 none = 0 ∧ HT.sIx (l.map eV).length (l.map eV).length none = (l.map eV).length := ⟨rfl, rfl⟩
      refine ⟨_, rfl, _, rfl, rfl, t, _, rfl, t2.q.sq, fun _ => ?_, fun e => absurd e1 e⟩
      have ll : (l.map eV).length = l.length := List.length_map ..
      refine ⟨t, _, rfl, t2.q.sq, for_it (walk_enumT (xs := l.map eV)) (fun i σ H' => ∃ (x y : Option V), σ = [some (.ref b), some (.int (hh : Nat)), some (.ref t), some .non, x, y] ∧ Same H H')
        ⟨none, none, rfl, s02⟩ (fun i σ H' _ ⟨_, _, _, q⟩ => (ht.same q).q.sq) ?_ ?_⟩
      · rintro i v σ H3 H4 hi ⟨x, y, rfl, s3⟩ ⟨P1, v1, v2, rfl, hP1, rfl, e1, e2⟩
        have hil : i < l.length := by rw [ll] at hi; exact hi
        cases e1
        have e2' : (l.map eV)[i]? = some v2 := e2
        rw [List.getElem?_map, List.getElem?_eq_getElem hil] at e2'
        cases e2'
        have s4 := s3.upd_new (o := .tup [.int ((i : Nat) : Int), eV l[i]]) hP1
        have t4 := ht.same s4
        refine ⟨P1, _, rfl, SqT.of upd_same, rfl, _, _, rfl, _, _, rfl, rfl, ?_⟩
        have hnum : ∀ j : Nat, l[i] = .n j → j ∉ nums (l.take i) := fun j e hj => by
          have q : nums l = nums (l.take i) ++ nums (l.drop i) := by
            unfold nums
            rw [← List.filterMap_append, List.take_append_drop]
          rw [q, List.drop_eq_getElem_cons hil, e] at nd
          have z := (List.nodup_append.mp nd).2.2 j hj j List.mem_cons_self
          exact z rfl
        have hgen : ∃ en, l[i] = en := ⟨_, rfl⟩
        obtain ⟨en, hen⟩ := hgen
        rw [hen] at s4 t4
        rw [hen]
        cases en with
        | k z =>
          refine ⟨_, rfl, _, _, _, _, false, rfl, .ty _, .base (.str _), rfl, _, rfl, ?_⟩
          exact ifn (by decide) ⟨_, _, rfl, s4⟩
        | n j =>
          refine ⟨_, rfl, _, _, _, _, true, rfl, .ty _, .base (.int _), rfl, _, rfl, ?_⟩
          refine ifp rfl ?_
          have n1 : ¬ (HT.sIx (l.map eV).length 0 none = 0 ∧ HT.sIx (l.map eV).length (l.map eV).length (some ((i : Nat) : Int)) = (l.map eV).length) := by
            rintro ⟨_, q⟩
            rw [HT.sIx_nat, ll] at q
            omega
          refine ⟨_, rfl, _, rfl, _, rfl, _, rfl, t, _, rfl, t4.q.sq, fun e => absurd e n1, fun _ p o hp ho => ?_⟩
          have ec : cutV (l.map eV) none (some ((i : Nat) : Int)) = (l.take i).map eV := by
            unfold cutV
            have z1 : HT.sIx (l.map eV).length 0 none = 0 := rfl
            have z2 : HT.sIx (l.map eV).length (l.map eV).length (some ((i : Nat) : Int)) = i := by
              rw [HT.sIx_nat, ll]
              omega
            rw [z1, z2, List.drop_zero, Nat.sub_zero, List.map_take]
          rw [ec]
          obtain ⟨s5, z5⟩ := new_tz (xs := (l.take i).map eV) hp ho
          refine ⟨p, _, rfl, .inr z5.q.sq, rfl, flat_ent _, _, rfl, ?_⟩
          refine ifn (fun e => hnum j hen (inV_ent _ e)) ⟨_, _, rfl, s4.trans s5⟩
      · rintro σ H3 ⟨x, y, rfl, s3⟩
        exact ⟨_, rfl, k _ s3⟩
end
end Sh
end
section
set_option Elab.async false
set_option linter.all false
set_option maxRecDepth 100000
set_option maxHeartbeats 2000000
namespace Sh
open PySem PySem.Spec PyProof.Rows L2
open C8 (pss_cut tCut)
open Evl (ixN_nat)
structure Bm (mg : Str → Option Value) : Prop extends Bk mg where
  c_MOST_ENTRIES : ∃ t, mg "MOST_ENTRIES" = some (.int 200 t)
  c_MOST_TRIMS : ∃ t, mg "MOST_TRIMS" = some (.int 8 t)
theorem forest_map {α β : Type} (f : α → β) (w : β → Nat) : ∀ (l : List α) (n : Nat), Mth.forest (fun x => w (f x)) l n = Mth.forest w (l.map f) n
  | [], 0 => rfl
  | [], _ + 1 => rfl
  | _ :: _, 0 => rfl
  | x :: r, n + 1 => by
    rw [List.map_cons]
    unfold Mth.forest
    exact forest_map f w r _
theorem kn_cnt : ∀ s : List Str, (s.map Ent.k).countP knP + s.count ("*" : Str) = s.length
  | [] => rfl
  | z :: r => by
    have ih := kn_cnt r
    by_cases h : z = "*"
    · rw [List.map_cons, List.countP_cons_of_neg (by rw [h]; decide), h, List.count_cons_self, List.length_cons]
      omega
    · rw [List.map_cons, List.countP_cons_of_pos (show knP (.k z) = true from decide_eq_true h), List.count_cons_of_ne h, List.length_cons]
      omega
theorem kn_eq {rows : List Row} {m : Int} (R : ROk m rows) : ∀ e : List Ent, (∀ z, .k z ∈ e → ∃ q ∈ rows, q.1 = z) → e.countP knP = knE e
  | [], _ => rfl
  | .n i :: r, h => by
    rw [List.countP_cons_of_neg (by show ¬ (false = true); decide), kn_eq R r fun z hz => h z (List.mem_cons_of_mem _ hz)]
    unfold knE
    rw [List.countP_cons_of_neg (by show ¬ (false = true); decide)]
  | .k z :: r, h => by
    have hz : z ≠ "*" := by
      obtain ⟨q, q1, rfl⟩ := h z List.mem_cons_self
      exact nm_nstar (R.nm _ q1)
    rw [List.countP_cons_of_pos (show knP (.k z) = true from decide_eq_true hz), kn_eq R r fun z hz => h z (List.mem_cons_of_mem _ hz)]
    unfold knE
    rw [List.countP_cons_of_pos (by rfl)]
theorem map_k (s : List Str) : (s.map Ent.k).map eV = sV s := by
  rw [List.map_map]
  rfl
theorem shp_tstr {l : List Str} (h : ∀ z ∈ l, PyData.strOk z = true) : SeqAt.shaped (.tuple (l.map PyData.str)) = true := by
  have a := lay_all (ds := l.map PyData.str) fun d hd => by
    obtain ⟨z, hz, rfl⟩ := List.mem_map.mp hd
    exact ⟨h z hz, rfl⟩
  have q : PyData.canLay0 (.tuple (l.map PyData.str)) = true := by rw [PyData.canLay0]; exact a.1
  have r : PyData.depth (.tuple (l.map PyData.str)) ≤ 64 := by rw [PyData.depth, a.2]; decide
  unfold SeqAt.shaped
  rw [q, decide_eq_true r]
  rfl
theorem eqv_two {s : List Str} {z : Str} (h : 2 ≤ s.length) : PyData.eqv (.tuple (s.map PyData.str)) (.tuple ([z].map PyData.str)) = false := by
  cases s with
  | nil => exact absurd h (by decide)
  | cons a r =>
    cases r with
    | nil => exact absurd h (by show ¬ 2 ≤ 1; decide)
    | cons b r =>
      show PyData.eqvAll (PyData.str a :: PyData.str b :: r.map PyData.str) [PyData.str z] = false
      rw [PyData.eqvAll, PyData.eqvAll, Bool.and_false]
def spChkT (C : Addr) : Sp := fun vs H Q _ => ∃ (b t u : Addr) (rows : List Row) (s : List Str) (e : List Ent), vs = [.ref b, .ref t, .ref u] ∧ BedAt C H b rows ∧ ROk 8 rows ∧ Tz H t (sV s) ∧ Tz H u (e.map eV) ∧ TrimOk rows s e ∧ ∀ H', Same H H' → Q .non H'
abbrev s_check_trim : Stmt := top 27
abbrev N_check_trim : List Str := ["bed", "stump", "result", "place"]
theorem sc_check_trim : FnScope N_check_trim ["bed", "stump", "result"] (defScope s_check_trim) := ⟨rfl, rfl, rfl, by decide +kernel, rfl, by decide +kernel, by decide +kernel⟩
section
variable {P : Program} {w : World} {K : PySem.W.Frag} {mg : Str → Option Value} {base : Heap} {C : Addr}
theorem ok_check_trim (T : Bm mg) (c_fault_place : DefOk P w K mg base CX0 1 "fault_place" (spFaultM K C)) (c_result_fault : DefOk P w K mg base CX0 2 "result_fault" (spResF C)) (c_knots_in : DefOk P w K mg base CX0 1 "knots_in" (spKnots C)) (D : Def0 K mg "check_trim" s_check_trim) : DefOk P w K mg base CX0 3 "check_trim" (spChkT C) := by
  refine D.ok sc_check_trim (fun vs H Q E h => ?_) (fun _ _ _ _ _ _ us hl => match us, hl with | [_, _, _], _ => rfl) (fun f cdv A outer s' H vs Q E hr h => ?_)
  · obtain ⟨b, t, u, rows, s, e, rfl, _⟩ := h
    rfl
  · obtain ⟨b, t, u, rows, s, e, rfl, hB, R, ht, hu', O, k⟩ := h
    refine ⟨_, (pss_cons (ps_if (PW.pt (pw_or (pt_cmpR op_gt (pe_callB call_len_seq (by rfl) T.b_len boot_len (pa_cons (pv 1) pa_nil)) (pe_cI (by rfl) T.c_MOST_ENTRIES) (nomark _)) (pw_or1 (pt_cmpR op_gt (pe_callB call_len_seq (by rfl) T.b_len boot_len (pa_cons (pv 2) pa_nil)) (pe_cI (by rfl) T.c_MOST_ENTRIES) (nomark _)))))
        (pss_one ps_never)
        pss_nil)
      (pss_cons (ps_set (i := 3) sc_check_trim.nd rfl (Or.inl rfl) (pe_d c_fault_place (hr.mono (by decide)) pass0 (pa_cons (pv 0) (pa_cons (pv 1) (pa_cons (pe_tupF (pa_cons (pe_cS (by rfl) T.c_HOLE) pa_nil)) pa_nil)))))
      (pss_cons (ps_if (pt_cmpR op_notN (pv 3) pe_non (nomark _))
        (pss_one ps_never)
        pss_nil)
      (pss_cons (ps_if (pt_cmpR (op_eqD hr.units) (pv 1) (pe_tupF (pa_cons (pe_cS (by rfl) T.c_HOLE) pa_nil)) (nomark _))
        (pss_one ps_never)
        pss_nil)
      (pss_cons (ps_set (i := 3) sc_check_trim.nd rfl (Or.inl rfl) (pe_d c_result_fault (hr.mono (by decide)) pass0 (pa_cons (pv 0) (pa_cons (pe_mG ty_Z PySem.F.plainAttrs_tuple PySem.F.slot_tuple_count PySem.F.type_tuple_count mt_tcount (pv 1) (pa_cons (pe_cS (by rfl) T.c_HOLE) pa_nil)) (pa_cons (pv 2) pa_nil)))))
      (pss_cons (ps_if (pt_cmpR op_notN (pv 3) pe_non (nomark _))
        (pss_one ps_never)
        pss_nil)
      (pss_one (ps_if (pt_cmpR op_ge (pe_d c_knots_in (hr.mono (by decide)) pass0 (pa_cons (pv 0) (pa_cons (pv 2) pa_nil))) (pe_d c_knots_in (hr.mono (by decide)) pass0 (pa_cons (pv 0) (pa_cons (pv 1) pa_nil))) (nomark _))
        (pss_one ps_never)
        pss_nil)))))))), ?_⟩
    have ls : (sV s).length = s.length := by rw [sV, List.length_map]
    have le : (e.map eV).length = e.length := List.length_map ..
    have l7 := O.l7
    have e7 := O.re.len
    have sok : ∀ z ∈ s, PyData.strOk z = true := fun z hz => by
      rcases O.st.k z hz with q | ⟨r, r1, r2⟩
      · rw [q]
        exact star_ok
      · rw [← r2]
        exact nm_ok (R.nm _ r1)
    refine ⟨_, rfl, t, _, rfl, .inr ht.q.sq, _, _, rfl, rfl, _, rfl, ifn (fun q => by rw [ls] at q; have := of_decide_eq_true q; omega) ?_⟩
    refine ⟨_, rfl, u, _, rfl, .inr hu'.q.sq, _, _, rfl, rfl, _, rfl, ifn (fun q => by rw [le] at q; have := of_decide_eq_true q; omega) ?_⟩
    refine ⟨_, rfl, _, rfl, le_line (show 1 ≤ 100000 by decide), fun p1 o1 h1 ho1 => ?_⟩
    obtain ⟨s1, z1⟩ := new_tz (xs := [.str "*"]) h1 ho1
    have t1 := ht.same s1
    generalize upd H p1 (.frz o1 (.tup [.str "*"])) = H1 at s1 z1 t1
    refine ⟨b, t, p1, rows, s.map Ent.k, [.str "*"], rfl, hB.same s1, R, by rw [map_k]; exact t1.q, by rw [List.length_map]; omega, fun H' s' => .inr (z1.same s').q.sq, rfl, fun x hx => ?_, ?_, fun H2 s2 => ?_⟩
    · obtain ⟨z, hz, rfl⟩ := List.mem_map.mp hx
      have ei : inV (.str z) ([("*" : Str)].map V.str) = decide (z ∈ [("*" : Str)]) := inV_str z ["*"]
      rcases O.st.k z hz with q | q
      · refine .inl ⟨?_, ?_⟩
        · show inV (.str z) ([("*" : Str)].map V.str) = true
          rw [ei]
          exact decide_eq_true (by rw [q]; exact List.mem_singleton.mpr rfl)
        · rw [q]
          exact star_no R
      · refine .inr ⟨?_, z, rfl, q⟩
        obtain ⟨r, r1, r2⟩ := q
        have nz : z ≠ "*" := by rw [← r2]; exact nm_nstar (R.nm _ r1)
        have : inV (.str z) ([("*" : Str)].map V.str) = false := by
          rw [ei]
          exact decide_eq_false fun q => nz (List.mem_singleton.mp q)
        exact this
    · rw [← forest_map]
      exact O.st.f
    have s02 := s1.trans s2
    have t2 := ht.same s02
    refine ⟨_, rfl, rfl, _, rfl, ifn (by decide) ?_⟩
    refine ⟨_, rfl, le_line (show 1 ≤ 100000 by decide), fun p2 o2 h2 ho2 => ?_⟩
    obtain ⟨s3, z3⟩ := new_tz (xs := [.str "*"]) h2 ho2
    have s03 := s02.trans s3
    have t3 := ht.same s03
    have u3 := hu'.same s03
    have B3 := hB.same s03
    generalize upd H2 p2 (.frz o2 (.tup [.str "*"])) = H3 at s3 z3 s03 t3 u3 B3
    refine ⟨.tuple (s.map PyData.str), .tuple ([("*" : Str)].map PyData.str), .tup t3.q.sq (dpa_map (fun z => .str z) _), .tup z3.q.sq (dpa_map (f := V.str) (fun z => .str z) [("*" : Str)]), shp_tstr sok, shp_tstr (fun z hz => by rw [List.mem_singleton.mp hz]; exact star_ok), _, rfl, ifn (fun q => ?_) ?_⟩
    · rw [eqv_two O.l2] at q
      cases q
    refine ⟨_, rfl, _, rfl, ⟨t, sV s, rfl, t3⟩, t, s, "*", rfl, rfl, t3.q.sq, _, rfl, b, u, rows, e, s.count ("*" : Str), rfl, B3, R, u3, e7, ?_, O.re.f, O.re.kn, O.re.nn, O.re.nd, fun H4 s4 => ?_⟩
    · have := List.count_le_length (a := ("*" : Str)) (l := s)
      omega
    have s04 := s03.trans s4
    refine ⟨_, rfl, rfl, _, rfl, ifn (by decide) ?_⟩
    refine ⟨_, rfl, _, rfl, b, u, rows, e, rfl, hB.same s04, R, (hu'.same s04).q, by omega, fun z hz => .inr (O.re.kn z hz), fun H5 s5 => ?_⟩
    have s05 := s04.trans s5
    refine ⟨_, rfl, _, rfl, b, t, rows, s.map Ent.k, rfl, hB.same s05, R, by rw [map_k]; exact (ht.same s05).q, by rw [List.length_map]; omega, fun z hz => ?_, fun H6 s6 => ?_⟩
    · obtain ⟨z', hz', e'⟩ := List.mem_map.mp hz
      cases e'
      exact O.st.k z hz'
    have q1 := kn_cnt s
    have q2 := kn_eq R e O.re.kn
    have q3 := O.re.sm
    refine ⟨_, _, rfl, rfl, _, rfl, ifn (fun q => ?_) (k _ (s05.trans s6))⟩
    have q := of_decide_eq_true q
    omega
end
end Sh
end
section
set_option Elab.async false
set_option linter.all false
set_option maxRecDepth 100000
set_option maxHeartbeats 2000000
namespace Sh
open PySem PySem.Spec PyProof.Rows L2
open C8 (pss_cut tCut)
open Evl (ixN_nat)
/-- holes become tags, from a number on -/
def tgs : Nat → List Str → List Ent
  | _, [] => []
  | n, z :: r => if z = ("*" : Str) then Ent.n n :: tgs (n + 1) r else Ent.k z :: tgs n r
theorem tgs_snoc (z : Str) : ∀ (l : List Str) (n : Nat), tgs n (l ++ [z]) = tgs n l ++ [if z = ("*" : Str) then Ent.n (n + l.count ("*" : Str)) else Ent.k z]
  | [], n => by
    by_cases h : z = ("*" : Str)
    · simp [tgs, h]
    · simp [tgs, h]
  | y :: r, n => by
    have e : (y :: r) ++ [z] = y :: (r ++ [z]) := rfl
    rw [e]
    by_cases h : y = ("*" : Str)
    · have c : (y :: r).count ("*" : Str) = r.count ("*" : Str) + 1 := by rw [h, List.count_cons_self]
      rw [tgs, if_pos h, tgs, if_pos h, tgs_snoc z r (n + 1), c, List.cons_append, show n + 1 + r.count ("*" : Str) = n + (r.count ("*" : Str) + 1) by omega]
    · have c : (y :: r).count ("*" : Str) = r.count ("*" : Str) := List.count_cons_of_ne h
      rw [tgs, if_neg h, tgs, if_neg h, tgs_snoc z r n, c, List.cons_append]
theorem tgs_len : ∀ (l : List Str) (n : Nat), (tgs n l).length = l.length
  | [], _ => rfl
  | y :: r, n => by
    unfold tgs
    split
    · rw [List.length_cons, List.length_cons, tgs_len r]
    · rw [List.length_cons, List.length_cons, tgs_len r]
def spTags (T : List Str → Hp → Addr → Prop) : Sp := fun vs H Q _ => ∃ (t : Addr) (l : List Str), vs = [.ref t] ∧ T l H t ∧ l.length ≤ 6000 ∧ ∀ H' p, Same H H' → Tq H' p ((tgs 0 l).map eV) → Q (.ref p) H'
theorem catA_q {K : PySem.W.Frag} {H : Hp} {a b : Addr} {xs ys : List V} {Q : VK} (ha : Tq H a xs) (hb : Tq H b ys) (hl : xs.length + ys.length ≤ 100000) (k : ∀ r H', Same H H' → Tq H' r (xs ++ ys) → Q (.ref r) H') : rCatA K (.ref a) (.ref b) H Q := catA_of ha hb hl k
abbrev s_law_tagged : Stmt := top 44
abbrev N_law_tagged : List Str := ["row", "built", "tag", "entry"]
theorem sc_law_tagged : FnScope N_law_tagged ["row"] (defScope s_law_tagged) := ⟨rfl, rfl, rfl, by decide +kernel, rfl, by decide +kernel, by decide +kernel⟩
section
variable {P : Program} {w : World} {K : PySem.W.Frag} {mg : Str → Option Value} {base : Heap} {C : Addr}
theorem ok_tagged (T : Bm mg) (D : Def0 K mg "_law_tagged" s_law_tagged) : DefOk P w K mg base CX0 1 "_law_tagged" (spTags fun l H t => Tq H t (sV l)) := by
  refine D.ok sc_law_tagged (fun vs H Q E h => ?_) (fun _ _ _ _ _ _ us hl => match us, hl with | [_], _ => rfl) (fun f cdv A outer s' H vs Q E hr h => ?_)
  · obtain ⟨t, l, rfl, _⟩ := h
    rfl
  · obtain ⟨t, l, rfl, ht, hl, k⟩ := h
    refine ⟨_, (pss_cons (ps_set (i := 1) sc_law_tagged.nd rfl (Or.inl rfl) (pe_tup pa_nil))
      (pss_cons (ps_set (i := 2) sc_law_tagged.nd rfl (Or.inl rfl) pe_int)
      (pss_cons (ps_for PassesOwn.never rfl (pi_tup (pv 0)) (pg_name (i := 3) sc_law_tagged.nd rfl (Or.inl rfl))
        (pss_one (ps_if (pt_cmpR op_eq (pv 3) pe_str (nomark _))
          (pss_cons (ps_set (i := 1) sc_law_tagged.nd rfl (Or.inl rfl) (pe_op op_catA (pv 1) (pe_tup (pa_cons (pv 2) pa_nil))))
          (pss_one (ps_set (i := 2) sc_law_tagged.nd rfl (Or.inl rfl) (pe_op op_add (pv 2) pe_int))))
          (pss_one (ps_set (i := 1) sc_law_tagged.nd rfl (Or.inl rfl) (pe_op op_catA (pv 1) (pe_tup (pa_cons (pv 3) pa_nil))))))))
      (pss_one (ps_ret (pv 1)))))), ?_⟩
    have ls : (sV l).length = l.length := by rw [sV, List.length_map]
    refine ⟨le_line (show 0 ≤ 100000 by decide), fun p0 h0 => ?_⟩
    have s0 := (Same.refl H).upd_new (o := .tup []) h0
    refine ⟨_, rfl, t, rfl, ⟨_, (ht.same s0).sq⟩, for_it (walk_tup (xs := sV l)) (fun i σ H' => ∃ (p : Addr) (x : Option V), σ = [some (.ref t), some (.ref p), some (.int ((l.take i).count ("*" : Str) : Nat)), x] ∧ Same H H' ∧ Tq H' p ((tgs 0 (l.take i)).map eV))
      ⟨p0, none, rfl, s0, .of upd_same⟩ (fun i σ H' _ ⟨_, _, _, q, _⟩ => (ht.same q).sq) ?_ ?_⟩
    · rintro i v σ H1 H2 hi ⟨p, x, rfl, s1, q1⟩ ⟨rfl, hv⟩
      have hil : i < l.length := by rw [ls] at hi; exact hi
      have hv2 : (l.map V.str)[i]? = some v := hv
      rw [List.getElem?_map, List.getElem?_eq_getElem hil] at hv2
      cases hv2
      have es : l.take (i + 1) = l.take i ++ [l[i]] := (take_snoc (List.getElem?_eq_getElem hil)).symm
      have lt : ((tgs 0 (l.take i)).map eV).length ≤ 6000 := by rw [List.length_map, tgs_len, List.length_take]; omega
      refine ⟨_, rfl, rfl, _, rfl, ite2 (fun e => ?_) (fun e => ?_)⟩
      · have ez : l[i] = ("*" : Str) := by
          have := of_decide_eq_true e
          injection this
        refine ⟨_, rfl, _, rfl, le_line (show 1 ≤ 100000 by decide), fun pt hpt => ?_⟩
        have s2 := s1.upd_new (o := .tup [.int ((l.take i).count ("*" : Str) : Nat)]) hpt
        have s12 := (Same.refl H2).upd_new (o := .tup [.int ((l.take i).count ("*" : Str) : Nat)]) hpt
        refine catA_q (q1.same s12) (.of upd_same) (by show _ + 1 ≤ _; omega) fun r H3 s3 z3 => ?_
        refine ⟨_, rfl, _, _, rfl, rfl, ?_⟩
        refine ⟨r, some (.str l[i]), ?_, s2.trans s3, ?_⟩
        · rw [es, List.count_append, ez, show List.count ("*" : Str) [("*" : Str)] = 1 by rfl]
          rfl
        · rw [es, tgs_snoc, if_pos ez, List.map_append, Nat.zero_add]
          exact z3
      · have ez : ¬ l[i] = ("*" : Str) := fun q => e (by rw [q]; exact decide_eq_true rfl)
        refine ⟨_, rfl, _, rfl, le_line (show 1 ≤ 100000 by decide), fun pt hpt => ?_⟩
        have s2 := s1.upd_new (o := .tup [.str l[i]]) hpt
        have s12 := (Same.refl H2).upd_new (o := .tup [.str l[i]]) hpt
        refine catA_q (q1.same s12) (.of upd_same) (by show _ + 1 ≤ _; omega) fun r H3 s3 z3 => ?_
        refine ⟨r, some (.str l[i]), ?_, s2.trans s3, ?_⟩
        · rw [es, List.count_append, List.count_cons_of_ne ez]
          rfl
        · rw [es, tgs_snoc, if_neg ez, List.map_append]
          exact z3
    · rintro σ H1 ⟨p, x, rfl, s1, q1⟩
      rw [ls, List.take_length] at q1
      exact ⟨_, rfl, k _ _ s1 q1⟩
end
end Sh
end
section
set_option Elab.async false
set_option linter.all false
set_option maxRecDepth 100000
set_option maxHeartbeats 2000000
namespace Sh
open PySem PySem.Spec PyProof.Rows L2
open C8 (pss_cut tCut)
open Evl (ixN_nat)
def sk (w : Str → Nat) (l : List Str) (p t m : Nat) : List Int := ((List.range m).map fun u => ((Mth.nxs w l p (t + u + 1) : Nat) : Int)).reverse
theorem sk_succ (w : Str → Nat) (l : List Str) (p t m : Nat) : sk w l p t (m + 1) = sk w l p (t + 1) m ++ [((Mth.nxs w l p (t + 1) : Nat) : Int)] := by
  unfold sk
  rw [List.range_succ_eq_map, List.map_cons, List.reverse_cons, List.map_map]
  have e : ((fun u => ((Mth.nxs w l p (t + u + 1) : Nat) : Int)) ∘ Nat.succ) = fun u => ((Mth.nxs w l p (t + 1 + u + 1) : Nat) : Int) := by
    funext u
    show ((Mth.nxs w l p (t + (u + 1) + 1) : Nat) : Int) = _
    rw [show t + (u + 1) + 1 = t + 1 + u + 1 by omega]
  rw [e]
theorem sk_in {w : Str → Nat} {l : List Str} {p : Nat} {k : Str} (hk : l[p]? = some k) (m : Nat) : sk w l (p + 1) (w k) m = sk w l p 1 m := by
  unfold sk
  have e : (fun u => ((Mth.nxs w l (p + 1) (w k + u + 1) : Nat) : Int)) = fun u => ((Mth.nxs w l p (1 + u + 1) : Nat) : Int) := by
    funext u
    rw [show 1 + u + 1 = (u + 1) + 1 by omega, Mth.nxs_in w (m := 0) hk (u + 1), show w k + u + 1 = w k + (u + 1) by omega]
  rw [e]
theorem forest_uq {α : Type} (w : α → Nat) : ∀ (l : List α) (a b : Nat), Mth.forest w l a = true → Mth.forest w l b = true → a = b
  | [], 0, 0, _, _ => rfl
  | [], _ + 1, _, h, _ => by cases h
  | [], _, _ + 1, _, h => by cases h
  | _ :: _, 0, _, h, _ => by cases h
  | _ :: _, _, 0, _, h => by cases h
  | x :: r, a + 1, b + 1, h, h' => by
    unfold Mth.forest at h h'
    have := forest_uq w r _ _ h h'
    omega
def spStops : Sp := fun vs H Q _ => ∃ (ar t : Addr) (rows : List Row) (l : List Str), vs = [.ref ar, .ref t] ∧ H ar = some (.dK (wL rows)) ∧ ROk 8 rows ∧ Tq H t (sV l) ∧ WfOk rows l ∧ ∀ H' p, Same H H' → H p = none → EndsAt H' p rows l → Q (.ref p) H'
section
variable {P : Program} {w : World} {K : PySem.W.Frag} {mg : Str → Option Value} {base : Heap} {C : Addr}
end
end Sh
end
section
set_option Elab.async false
set_option linter.all false
set_option maxRecDepth 100000
set_option maxHeartbeats 2000000
namespace Sh
open PySem PySem.Spec PyProof.Rows L2
open C8 (pss_cut tCut)
open Evl (ixN_nat)
def UnT (H : Hp) (v : V) (o : Option (List Str)) : Prop := match o with
  | none => v = .non
  | some u => ∃ q, v = .ref q ∧ Tq H q (sV u)
def spUnionM : Sp := fun vs H Q _ => ∃ (ar s t : Addr) (rows : List Row) (l m : List Str), vs = [.ref ar, .ref s, .ref t] ∧ H ar = some (.dK (wL rows)) ∧ ROk 8 rows ∧ Tq H s (sV l) ∧ WfOk rows l ∧ Tq H t (sV m) ∧ WfOk rows m ∧
  ∀ H' v o, Same H H' → Un (wR rows) l m o → UnT H' v o → Q v H'
section
variable {P : Program} {w : World} {K : PySem.W.Frag} {mg : Str → Option Value} {base : Heap} {C : Addr}
end
end Sh
end
section
set_option Elab.async false
set_option linter.all false
set_option maxRecDepth 100000
set_option maxHeartbeats 2000000
namespace Sh
open PySem PySem.Spec PyProof.Rows L2
open C8 (pss_cut tCut)
open Evl (ixN_nat)
def spPathsM : Sp := fun vs H Q _ => ∃ (b t : Addr) (rows : List Row) (l : List Str), vs = [.ref b, .ref t] ∧ H b = some (.dK (wL rows)) ∧ ROk 8 rows ∧ Tq H t (l.map V.str) ∧ WfOk rows l ∧ ∀ H' q, Same H H' → H q = none → PthsL H' q rows l → Q (.ref q) H'
section
variable {P : Program} {w : World} {K : PySem.W.Frag} {mg : Str → Option Value} {base : Heap} {C : Addr}
end
end Sh
end
section
set_option Elab.async false
set_option linter.all false
set_option maxRecDepth 100000
set_option maxHeartbeats 2000000
namespace Sh
open PySem PySem.Spec PyProof.Rows L2
open C8 (pss_cut tCut)
open Evl (ixN_nat)
/-- two values that are the same, of at most n layers: numbers, texts, tuples of such -/
def Sam : Nat → Hp → V → V → Prop
  | 0, _, _, _ => False
  | n + 1, H, v, u => (∃ i, v = .int i ∧ u = .int i) ∨ (∃ z : Str, v = .str z ∧ u = .str z) ∨
    ∃ (a b : Addr) (xs ys : List V), v = .ref a ∧ u = .ref b ∧ Tq H a xs ∧ Tq H b ys ∧ xs.length = ys.length ∧ xs.length ≤ 100000 ∧ ∀ (i : Nat) (x y : V), xs[i]? = some x → ys[i]? = some y → Sam n H x y
theorem Sam.same : ∀ {n : Nat} {H H' : Hp} {v u : V}, Sam n H v u → Same H H' → Sam n H' v u
  | 0, _, _, _, _, h, _ => h
  | n + 1, H, H', v, u, h, s => by
    rcases h with h | h | ⟨a, b, xs, ys, e1, e2, h1, h2, h3, h4, h5⟩
    · exact .inl h
    · exact .inr (.inl h)
    · exact .inr (.inr ⟨a, b, xs, ys, e1, e2, h1.same s, h2.same s, h3, h4, fun i x y p q => (h5 i x y p q).same s⟩)
theorem tyx_tupM {K : PySem.W.Frag} {H : Hp} {a : Addr} {xs : List V} (h : Tq H a xs) : TyX K H (.ref a) (.type "tuple") := by
  rcases h with h | ⟨o, h⟩
  · exact .base (.tup h)
  · exact .fTuple h
def spSam (n : Nat) : Sp := fun vs H Q _ => ∃ v u, vs = [v, u] ∧ Sam n H v u ∧ ∀ H', Same H H' → Q (.bl true) H'
abbrev s_law_same : Stmt := top 43
abbrev N_law_same : List Str := ["actual", "due", "k"]
theorem sc_law_same : FnScope N_law_same ["actual", "due"] (defScope s_law_same) := ⟨rfl, rfl, rfl, by decide +kernel, rfl, by decide +kernel, by decide +kernel⟩
section
variable {P : Program} {w : World} {K : PySem.W.Frag} {mg : Str → Option Value} {base : Heap} {C : Addr}
theorem ok_sam (T : Bm mg) (D : Def0 K mg "_law_same" s_law_same) : ∀ n, DefOk P w K mg base CX0 n "_law_same" (spSam n)
  | 0 => by
    obtain ⟨f, fd, hm, F⟩ := D
    exact ⟨f, hm, F.kp, fun A outer s H us vs Q E hr e0 r hs => by obtain ⟨v, u, _, h, _⟩ := hs; exact h.elim⟩
  | n + 1 => by
    have c_law_same := ok_sam T D n
    refine D.ok sc_law_same (fun vs H Q E h => ?_) (fun _ _ _ _ _ _ us hl => match us, hl with | [_, _], _ => rfl) (fun f cdv A outer s H vs Q E hr h => ?_)
    · obtain ⟨v, u, rfl, _⟩ := h
      rfl
    · obtain ⟨v, u, rfl, hE, k⟩ := h
      refine ⟨_, (pss_cons (ps_if (pt_val (pe_callB call_isi (by rfl) T.b_isinstance (by decide +kernel) (pa_cons (pv 1) (pa_cons (pe_bltn (v := .ty "tuple") (by rfl) T.b_tuple boot_tuple rfl) pa_nil))))
          (pss_cons (ps_if (PW.pt (pw_or (pt_not (pt_val (pe_callB call_isi (by rfl) T.b_isinstance (by decide +kernel) (pa_cons (pv 0) (pa_cons (pe_bltn (v := .ty "tuple") (by rfl) T.b_tuple boot_tuple rfl) pa_nil))))) (pw_or1 (pt_cmpR op_ne (pe_callB call_len_seq (by rfl) T.b_len boot_len (pa_cons (pv 0) pa_nil)) (pe_callB call_len_seq (by rfl) T.b_len boot_len (pa_cons (pv 1) pa_nil)) (nomark _)))))
            (pss_one (ps_ret pe_bl))
            pss_nil)
          (pss_cons (ps_for PassesOwn.never rfl (pi_range1 (by rfl) T.b_range (pa_cons (pe_callB call_len_seq (by rfl) T.b_len boot_len (pa_cons (pv 1) pa_nil)) pa_nil)) (pg_name (i := 2) sc_law_same.nd rfl (Or.inl rfl))
            (pss_one (ps_if (pt_not (pt_val (pe_d c_law_same hr pass0 (pa_cons (pe_ix ix_tup (pv 0) (pv 2) (fun _ _ => rfl)) (pa_cons (pe_ix ix_tup (pv 1) (pv 2) (fun _ _ => rfl)) pa_nil)))))
              (pss_one (ps_ret pe_bl))
              pss_nil)))
          (pss_one (ps_ret pe_bl))))
          pss_nil)
        (pss_cons (ps_if (pt_cmpR op_isN (pv 1) pe_non (nomark _))
          (pss_one (ps_ret (pe_cmpR op_isN (pv 0) pe_non (nomark _))))
          pss_nil)
        (pss_cons (ps_if (pt_val (pe_callB call_isi (by rfl) T.b_isinstance (by decide +kernel) (pa_cons (pv 1) (pa_cons (pe_bltn (v := .ty "bool") (by rfl) T.b_bool boot_bool rfl) pa_nil))))
          (pss_one (ps_ret (pe_and (pe_callB call_isi (by rfl) T.b_isinstance (by decide +kernel) (pa_cons (pv 0) (pa_cons (pe_bltn (v := .ty "bool") (by rfl) T.b_bool boot_bool rfl) pa_nil))) (pe_one (pe_cmpR op_eq (pv 0) (pv 1) (nomark _))))))
          pss_nil)
        (pss_cons (ps_if (pt_val (pe_callB call_isi (by rfl) T.b_isinstance (by decide +kernel) (pa_cons (pv 1) (pa_cons (pe_bltn (v := .ty "str") (by rfl) T.b_str boot_str rfl) pa_nil))))
          (pss_one (ps_ret (pe_and (pe_callB call_isi (by rfl) T.b_isinstance (by decide +kernel) (pa_cons (pv 0) (pa_cons (pe_bltn (v := .ty "str") (by rfl) T.b_str boot_str rfl) pa_nil))) (pe_one (pe_cmpR op_eq (pv 0) (pv 1) (nomark _))))))
          pss_nil)
        (pss_one (ps_ret (pe_and (pe_callB call_isi (by rfl) T.b_isinstance (by decide +kernel) (pa_cons (pv 0) (pa_cons (pe_bltn (v := .ty "int") (by rfl) T.b_int boot_int rfl) pa_nil))) (pe_and (pe_not (pe_callB call_isi (by rfl) T.b_isinstance (by decide +kernel) (pa_cons (pv 0) (pa_cons (pe_bltn (v := .ty "bool") (by rfl) T.b_bool boot_bool rfl) pa_nil)))) (pe_one (pe_cmpR op_eq (pv 0) (pv 1) (nomark _))))))))))), ?_⟩
      rcases hE with ⟨i, rfl, rfl⟩ | ⟨z, rfl, rfl⟩ | ⟨a, b, xs, ys, rfl, rfl, h1, h2, h3, h4, h5⟩
      · refine ⟨_, rfl, _, _, _, _, false, rfl, .ty _, .base (.int _), rfl, _, rfl, ifn (by decide) ?_⟩
        refine ⟨_, rfl, rfl, _, rfl, ifn (fun e => by cases of_decide_eq_true e) ?_⟩
        refine ⟨_, rfl, _, _, _, _, false, rfl, .ty _, .base (.int _), rfl, _, rfl, ifn (by decide) ?_⟩
        refine ⟨_, rfl, _, _, _, _, false, rfl, .ty _, .base (.int _), rfl, _, rfl, ifn (by decide) ?_⟩
        refine ⟨_, rfl, _, _, _, _, true, rfl, .ty _, .base (.int _), rfl, _, rfl, ifp rfl ?_⟩
        refine ⟨_, rfl, _, _, _, _, false, rfl, .ty _, .base (.int _), rfl, _, rfl, _, rfl, ifp rfl ?_⟩
        refine ⟨_, rfl, _, rfl, rfl, ?_⟩
        rw [decide_eq_true rfl]
        exact k _ (Same.refl H)
      · refine ⟨_, rfl, _, _, _, _, false, rfl, .ty _, .base (.str _), rfl, _, rfl, ifn (by decide) ?_⟩
        refine ⟨_, rfl, rfl, _, rfl, ifn (fun e => by cases of_decide_eq_true e) ?_⟩
        refine ⟨_, rfl, _, _, _, _, false, rfl, .ty _, .base (.str _), rfl, _, rfl, ifn (by decide) ?_⟩
        refine ⟨_, rfl, _, _, _, _, true, rfl, .ty _, .base (.str _), rfl, _, rfl, ifp rfl ?_⟩
        refine ⟨_, rfl, _, _, _, _, true, rfl, .ty _, .base (.str _), rfl, _, rfl, ifp rfl ?_⟩
        refine ⟨_, rfl, _, rfl, rfl, ?_⟩
        rw [decide_eq_true rfl]
        exact k _ (Same.refl H)
      · refine ⟨_, rfl, _, _, _, _, true, rfl, .ty _, tyx_tupM h2, rfl, _, rfl, ifp rfl ?_⟩
        refine ⟨_, rfl, _, _, _, _, true, rfl, .ty _, tyx_tupM h1, rfl, _, rfl, ifn (by decide) ?_⟩
        refine ⟨_, rfl, a, _, rfl, .inr h1.sq, _, rfl, b, _, rfl, .inr h2.sq, rfl, _, rfl, ifn (by simp [h3]) ?_⟩
        refine ⟨_, rfl, b, _, rfl, .inr h2.sq, _, rfl, by omega, by omega, for_range (n := (((ys.length : Nat) : Int)).toNat) (fun i σ H' => ∃ x : Option V, σ = [some (.ref a), some (.ref b), x] ∧ Same H H') ⟨none, rfl, Same.refl H⟩ ?_ ?_⟩
        · rintro i σ H1 hi ⟨x, rfl, s1⟩
          have hil : i < ys.length := by rw [Int.toNat_natCast] at hi; exact hi
          have hix : i < xs.length := by omega
          refine ⟨_, rfl, _, rfl, a, _, _, _, rfl, rfl, (h1.same s1).sq, at_ofG (j := i) (by omega) (List.getElem?_eq_getElem hix), _, rfl, _, rfl, b, _, _, _, rfl, rfl, (h2.same s1).sq, at_ofG (j := i) (by omega) (List.getElem?_eq_getElem hil), _, _, rfl, (h5 i _ _ (List.getElem?_eq_getElem hix) (List.getElem?_eq_getElem hil)).same s1, fun H2 s2 => ?_⟩
          exact ⟨_, rfl, ifn (by decide) ⟨_, rfl, s1.trans s2⟩⟩
        · rintro σ H1 ⟨x, rfl, s1⟩
          exact k _ s1
end
end Sh
end
section
set_option Elab.async false
set_option linter.all false
set_option maxRecDepth 100000
set_option maxHeartbeats 2000000
namespace Sh
open PySem PySem.Spec PyProof.Rows L2
open C8 (pss_cut tCut)
open Evl (ixN_nat)
theorem eqv_rows : ∀ rows : List Row, PyData.eqvAll (rows.map rowD) (rows.map rowD) = true
  | [] => rfl
  | q :: r => by
    rw [List.map_cons, PyData.eqvAll, eqv_rows r, Bool.and_true]
    simp [rowD, PyData.eqv, PyData.eqvAll]
theorem shp_trows {rows : List Row} (h : ∀ q ∈ rows, PyData.strOk q.1 = true) : SeqAt.shaped (.tuple (rows.map rowD)) = true := by
  have q := shp_rows h
  unfold SeqAt.shaped at q ⊢
  rw [PyData.canLay0, PyData.depth] at q
  rw [PyData.canLay0, PyData.depth]
  exact q
theorem lk_same (r k w rk : Addr) : (bedF r k w rk).lookup ("same" : Str) = none := by
  have n : ¬ ("same" : Str) = "rows" ∧ ¬ ("same" : Str) = "kinds" ∧ ¬ ("same" : Str) = "widths" ∧ ¬ ("same" : Str) = "ranks" := by decide +kernel
  simp [bedF, List.lookup, n, beq_eq_false_iff_ne.mpr]
def spSmB (C : Addr) : Sp := fun vs H Q _ => ∃ (a b : Addr) (rows : List Row), vs = [.ref a, .ref b] ∧ BedAt C H a rows ∧ BedAt C H b rows ∧ ROk 8 rows ∧ Q (.bl true) H
def SmOk (P : Program) (w : World) (K : PySem.W.Frag) (mg : Str → Option Value) (base : Heap) (C : Addr) : Prop := ∃ f, Meth K C "same" f ∧ FnR P w K mg base CX0 1 f (spSmB C)
def spBeds (C : Addr) : Sp := fun vs H Q _ => ∃ (t : Addr) (bs : List Addr) (rows : List Row), vs = [.ref t] ∧ H t = some (.lst (bs.map V.ref)) ∧ (∀ b ∈ bs, BedAt C H b rows) ∧ ROk 8 rows ∧ bs.length ≤ 1000 ∧ ∀ H', Same H H' → Q .non H'
abbrev s_same : Stmt := inClass (top 22) 6
abbrev N_same : List Str := ["self", "other"]
theorem sc_same : FnScope N_same ["self", "other"] (defScope s_same) := ⟨rfl, rfl, rfl, by decide +kernel, rfl, by decide +kernel, by decide +kernel⟩
abbrev s_check_beds : Stmt := top 21
abbrev N_check_beds : List Str := ["beds", "bed"]
theorem sc_check_beds : FnScope N_check_beds ["beds"] (defScope s_check_beds) := ⟨rfl, rfl, rfl, by decide +kernel, rfl, by decide +kernel, by decide +kernel⟩
section
variable {P : Program} {w : World} {K : PySem.W.Frag} {mg : Str → Option Value} {base : Heap} {C : Addr}
theorem ok_same (B : BedT K C) {f : Addr} {fd : FuncData} (F : FunD K "same" "Bed.same" (defArgs s_same) (defBody s_same) (defScope s_same) [] [] f fd) (M : Meth K C "same" f) : SmOk P w K mg base C := by
  have G : FnOk P w K mg base CX0 1 f fd ["self", "other"] (spSmB C) := F.ok sc_same (fun vs H Q E h => by obtain ⟨a, b, rows, rfl, _⟩ := h; rfl) fun cdv A outer s H vs Q E hr h => by
    obtain ⟨a, b, rows, rfl, hA, hB, R, k⟩ := h
    obtain ⟨dx, r, kk, ww, rk, ts, h1, h2, h3, h4, h5, h6⟩ := hA
    obtain ⟨dx', r', kk', ww', rk', ts', h1', h2', h3', h4', h5', h6'⟩ := hB
    refine ⟨_, (pss_one (ps_ret (pe_cmpR (op_eqD hr.units) (pe_fld (pv 0) rfl) (pe_fld (pv 1) rfl) (nomark _)))), ?_⟩
    refine ⟨_, rfl, a, C, dx, _, _, rfl, h1, B.cl, B.nR, lk_rows _ _ _ _, _, rfl, b, C, dx', _, _, rfl, h1', B.cl, B.nR, lk_rows _ _ _ _, ?_⟩
    have dp : ∀ {r : Addr} {ts : List Addr}, H r = some (.tup (ts.map V.ref)) → TupsAt H ts rows → Dp K H (.ref r) (.tuple (rows.map rowD)) := fun {r ts} h x =>
      .tup (SqT.of h) (dpa_of (by rw [List.length_map]; exact x.1) fun i v q hv hq => by
        obtain ⟨t, ht, rfl⟩ := get_map hv
        exact .tup (SqT.of (x.2 i t q ht hq)) (.cons (.str _) (.cons (.int _) .nil)))
    have so := shp_trows fun q hq => nm_ok (R.nm q hq)
    refine ⟨_, _, dp h2 h3, dp h2' h3', so, so, ?_⟩
    rw [PyData.eqv, eqv_rows]
    exact k
  refine ⟨f, M, fun A' outer s H us vs Q E hr e0 r hs => G.raw (F.bindsN fun _ _ _ _ _ _ us hl => match us, hl with | [_, _], _ => rfl) .nil A' outer s H us vs Q E hr e0 r (by show spSmB C (vs ++ []) H Q E; rw [List.append_nil]; exact hs)⟩
theorem ok_check_beds (T : Bm mg) (B : BedT K C) (c_same : SmOk P w K mg base C) (D : Def0 K mg "check_beds" s_check_beds) : DefOk P w K mg base CX0 2 "check_beds" (spBeds C) := by
  obtain ⟨fM, M_same, F_same⟩ := c_same
  refine D.ok sc_check_beds (fun vs H Q E h => ?_) (fun _ _ _ _ _ _ us hl => match us, hl with | [_], _ => rfl) (fun f cdv A outer s' H vs Q E hr h => ?_)
  · obtain ⟨t, bs, rows, rfl, _⟩ := h
    rfl
  · obtain ⟨t, bs, rows, rfl, ht, hb, R, hl, k⟩ := h
    refine ⟨_, (pss_one (ps_for PassesOwn.never rfl (pi_list (pv 0)) (pg_name (i := 1) sc_check_beds.nd rfl (Or.inl rfl))
        (pss_one (ps_if (pt_not (pt_val (pe_methR (pe_ix ix_list (pv 0) pe_int (fun _ _ => rfl)) B.cl M_same F_same (hr.mono (by decide)) pass0 (pa_cons (pv 1) pa_nil))))
          (pss_one ps_never)
          pss_nil)))), ?_⟩
    refine ⟨_, rfl, t, rfl, ⟨_, SqL.of ht⟩, for_it (walk_list (xs := bs.map V.ref)) (fun i σ H' => ∃ x : Option V, σ = [some (.ref t), x] ∧ Same H H') ⟨none, rfl, Same.refl H⟩ (fun i σ H' _ ⟨_, _, q⟩ => SqL.of (q _ _ ht)) ?_ ?_⟩
    · rintro i v σ H1 H2 hi ⟨x, rfl, s1⟩ ⟨rfl, hv⟩
      obtain ⟨b, hb2, rfl⟩ := get_map hv
      have hpos : 0 < bs.length := Nat.lt_of_le_of_lt (Nat.zero_le i) (lt_of_get hb2)
      have B0 := (hb _ (List.getElem_mem hpos)).same s1
      have B1 := (hb _ (mem_of_get hb2)).same s1
      obtain ⟨dx, r, kk, ww, rk, ts, h1, h2⟩ := id B0
      refine ⟨_, rfl, t, _, _, _, rfl, rfl, SqL.of (s1 _ _ ht), atI_nat (j := 0) (by rw [List.getElem?_map, List.getElem?_eq_getElem hpos]; rfl), bs[0], dx, _, rfl, h1, lk_same _ _ _ _, _, rfl, bs[0], b, rows, rfl, B0, B1, R, ?_⟩
      exact ⟨_, rfl, ifn (by decide) ⟨_, rfl, s1⟩⟩
    · rintro σ H1 ⟨x, rfl, s1⟩
      exact k _ s1
end
end Sh
end
section
set_option Elab.async false
set_option linter.all false
set_option maxRecDepth 100000
set_option maxHeartbeats 2000000
namespace L2
open PySem PySem.Spec PyProof.Rows
/-- a def with a star parameter and one keyword-only parameter with a default, called without keywords -/
theorem FunD.starK {CX : CXT} {P : Program} {w : World} {K : PySem.W.Frag} {mg : Str → Option Value} {base : Heap} {k : Nat} {f : Addr} {fd : FuncData} {x qual : Str} {params : Arguments} {body : List Stmt} {scope : Scope} {N ps : List Str} {kn pv : Str} {dv : V} {sp : Sp}
    (F : FunD K x qual params body scope [] [(kn, dv)] f fd) (S : FnScope N (ps ++ [kn, pv]) scope) (hCX : StX.CXUp CX)
    (hb : ∀ (D : Addr) (doc pm : Value) (an : Option Addr) (cdv ct u : Value) (us rest : List Value), us.length = ps.length →
      ∃ (β γ : Type) (k1 : Option Value → Sem β) (k2 : β → Sem γ) (k3 : γ → Sem (List (Str × Value))) (a : β), bindArgs (PySem.W.fnOf x qual params body scope .none (.ref D) doc pm an cdv ct) ⟨us ++ rest, []⟩ = ((nsGet D kn >>= k1) >>= k2) >>= k3 ∧ k1 (some u) = pure a ∧
        (k2 a >>= k3) = (newTuple rest >>= fun t => pure (ps.zip us ++ [(kn, u), (pv, t)])))
    (hbody : ∀ (cdv : Value) (A : Around) (outer : List Env) (s : Shared) (H : Hp) (vs : List V) (Q : VK) (E : XK), Room k (A.deeper (envOfC qual scope s.heap.objs.size f cdv)) → sp vs H Q E →
      ∃ t, PSs (cxOf CX P w K mg base N qual scope f cdv A outer s H E) body t ∧ t { nx := fun _ H' => Q .non H', rt := Q } (start N vs) H) :
    FnR P w K mg base CX (k + 1) f (fun vs H Q E => ∃ ws rest, vs = ws ++ rest ∧ ws.length = ps.length ∧ rest.length ≤ sizeLine ∧ ∀ p, H p = Option.none → sp (ws ++ [dv, V.ref p]) (upd H p (.tup rest)) Q E) := by
  obtain ⟨oc, od, dV, kV, doc, pm, an, cdv, ct, osl, rfl, lk, hcd, hD, hK⟩ := F.ex
  have hD2 : dV = .none := by
    rcases hD with ⟨_, e⟩ | ⟨e, _⟩
    · exact e
    · exact absurd rfl e
  subst hD2
  rcases hK with e | ⟨D, rfl, hq⟩
  · cases e
  obtain ⟨u, hu, ru⟩ := hq _ List.mem_cons_self
  intro A outer s H us vs Q E hr e0 r hsp
  obtain ⟨ws, rest, ev, hl, hz, hq⟩ := hsp
  subst ev
  obtain ⟨u1, u2, eu, r1, r2⟩ := StX.vals_split r
  subst eu
  have hn : H s.heap.objs.size = Option.none := e0.hok.fresh (Nat.le_refl _)
  have hl1 : u1.length = ps.length := by rw [← r1.length]; exact hl
  have hl2 : u2.length ≤ sizeLine := by rw [← r2.length]; exact hz
  have KX : K.In s.heap := e0.mod.kin.keeps fun b o e => (e0.bs b o e).1
  refine StX.run_bnd lk hcd S hr e0 (G := fun xs H2 => ∃ p, H p = Option.none ∧ xs = ws ++ [dv, V.ref p] ∧ H2 = upd H p (.tup rest)) (fun A' Ex Q' h => ?_) fun s2 H2 xs ⟨p, hp, ex, eH⟩ hr' => ?_
  · obtain ⟨β, γ, k1, k2, k3, a, e1, e2, e3⟩ := hb D doc pm an cdv ct u u1 u2 hl1
    rw [e1, bind_assoc]
    have l1 : PySem.W.Looks (model P w) s.heap (nsGet D kn >>= k1) a := (PySem.W.looks_nsIn KX hu).andThen (PySem.W.Looks.of_pure e2)
    refine wpAny_bind (l1.here ?_)
    rw [e3]
    refine wpAny_bind (wpAny_newTuple (wpAny_pure ?_) hl2)
    have new : ObjOk P w (upd H s.heap.objs.size (.tup rest)) (s.heap.push ({ cls := .type "tuple", data := .seq u2.toArray } : Obj)) s.heap.objs.size (.tup rest) := ⟨hz, u2, r2, ⟨_, Heap.get?_push_size _ rfl, rfl, _, rfl⟩⟩
    have un := StX.un_laid (fs := frs outer) (s := s) (o := ({ cls := .type "tuple", data := .seq u2.toArray } : Obj)) (u := .tup rest) hn
    have z := h _ _ (ws ++ [dv, V.ref s.heap.objs.size]) (u1 ++ [u, Value.ref s.heap.objs.size]) (StX.env0_laid e0 new) un rfl (fun e s' => hCX outer s H _ _ E e s' un (fun b o q => Heap.get?_push_of_some _ q) rfl) (r1.append (.cons ru (.cons rfl .nil)))
      (by rw [List.length_append, List.length_append, hl] <;> rfl) ⟨_, hn, rfl, rfl⟩
    rw [List.zip_append hl1.symm] at z
    exact z
  · subst ex eH
    exact hbody cdv A outer s2 _ _ Q E hr' (hq p hp)
end L2
namespace Sh
open PySem PySem.Spec PyProof.Rows L2
open C8 (pss_cut tCut)
open Evl (ixN_nat)
structure TrT (K : PySem.W.Frag) (C : Addr) : Prop where
  cl : Cls K C
  nB : NoAttr K C "bed"
  nS : NoAttr K C "stump"
  nR : NoAttr K C "result"
structure TsT (K : PySem.W.Frag) (C : Addr) : Prop where
  cl : Cls K C
  nB : NoAttr K C "bed"
  nT : NoAttr K C "trims"
  nN : NoAttr K C "name"
def trF (b t u : Addr) : List (Str × V) := [("bed", .ref b), ("stump", .ref t), ("result", .ref u)]
def tsF (b t : Addr) (z : V) : List (Str × V) := [("bed", .ref b), ("trims", .ref t), ("name", z)]
theorem t_ne : ¬ ("bed" : Str) = "stump" ∧ ¬ ("bed" : Str) = "result" ∧ ¬ ("stump" : Str) = "result" ∧ ¬ ("bed" : Str) = "trims" ∧ ¬ ("bed" : Str) = "name" ∧ ¬ ("trims" : Str) = "name" := by decide +kernel
theorem tr_put2 (b t : Addr) : putF "stump" (.ref t) [("bed", .ref b)] = [(("bed" : Str), V.ref b), ("stump", .ref t)] := by simp [putF, t_ne]
theorem tr_put3 (b t u : Addr) : putF "result" (.ref u) [("bed", .ref b), ("stump", .ref t)] = trF b t u := by simp [putF, t_ne, trF]
theorem ts_put2 (b t : Addr) : putF "trims" (.ref t) [("bed", .ref b)] = [(("bed" : Str), V.ref b), ("trims", .ref t)] := by simp [putF, t_ne]
theorem ts_put3 (b t : Addr) (z : V) : putF "name" z [("bed", .ref b), ("trims", .ref t)] = tsF b t z := by simp [putF, t_ne, tsF]
theorem tr_bed (b t u : Addr) : (trF b t u).lookup ("bed" : Str) = some (.ref b) := by simp [trF, List.lookup]
theorem tr_stump (b t u : Addr) : (trF b t u).lookup ("stump" : Str) = some (.ref t) := by
  have h : (("stump" : Str) == "bed") = false := by decide +kernel
  simp [trF, List.lookup, h]
theorem ts_bed (b t : Addr) (z : V) : (tsF b t z).lookup ("bed" : Str) = some (.ref b) := by simp [tsF, List.lookup]
theorem ts_trims (b t : Addr) (z : V) : (tsF b t z).lookup ("trims" : Str) = some (.ref t) := by
  have h : (("trims" : Str) == "bed") = false := by decide +kernel
  simp [tsF, List.lookup, h]
/-- a trim, laid out -/
def TrmAt (CT : Addr) (H : Hp) (p b : Addr) (rows : List Row) (q : List Str × List Ent) : Prop := ∃ dx t u, H p = some (.ins CT dx (trF b t u)) ∧ Tz H t (sV q.1) ∧ Tz H u (q.2.map eV) ∧ TrimOk rows q.1 q.2
def TrmsAt (CT : Addr) (H : Hp) (ps : List Addr) (b : Addr) (rows : List Row) (qs : List (List Str × List Ent)) : Prop := ps.length = qs.length ∧ ∀ (i : Nat) (p : Addr) (q : List Str × List Ent), ps[i]? = some p → qs[i]? = some q → TrmAt CT H p b rows q
/-- a set of trims, laid out -/
def HeldAt (C CT CS : Addr) (H : Hp) (p b : Addr) (rows : List Row) (qs : List (List Str × List Ent)) : Prop := ∃ (dx tt : Addr) (z : V) (ps : List Addr), H p = some (.ins CS dx (tsF b tt z)) ∧ H tt = some (.tup (ps.map V.ref)) ∧ TrmsAt CT H ps b rows qs ∧ BedAt C H b rows
theorem TrmAt.same {CT : Addr} {H H' : Hp} {p b : Addr} {rows : List Row} {q : List Str × List Ent} (x : TrmAt CT H p b rows q) (s : Same H H') : TrmAt CT H' p b rows q := by
  obtain ⟨dx, t, u, h1, h2, h3, h4⟩ := x
  exact ⟨dx, t, u, s _ _ h1, h2.same s, h3.same s, h4⟩
theorem TrmsAt.same {CT : Addr} {H H' : Hp} {ps : List Addr} {b : Addr} {rows : List Row} {qs : List (List Str × List Ent)} (x : TrmsAt CT H ps b rows qs) (s : Same H H') : TrmsAt CT H' ps b rows qs := ⟨x.1, fun i p q h1 h2 => (x.2 i p q h1 h2).same s⟩
theorem HeldAt.same {C CT CS : Addr} {H H' : Hp} {p b : Addr} {rows : List Row} {qs : List (List Str × List Ent)} (x : HeldAt C CT CS H p b rows qs) (s : Same H H') : HeldAt C CT CS H' p b rows qs := by
  obtain ⟨dx, tt, z, ps, h1, h2, h3, h4⟩ := x
  exact ⟨dx, tt, z, ps, s _ _ h1, s _ _ h2, h3.same s, h4.same s⟩
theorem BedAt.kx {C x D dx : Addr} {H H' : Hp} {b : Addr} {rows : List Row} (B : BedAt C H b rows) (hx : H x = some (.ins D dx [])) (k : Kp x H H') : BedAt C H' b rows := by
  obtain ⟨dx', r, kk, w, rk, ts, h1, h2, h3, h4, h5, h6⟩ := B
  exact ⟨dx', r, kk, w, rk, ts, k _ _ h1 (ne_of h1 hx (fun e => by unfold bedF at e; cases e)), k _ _ h2 (ne_of h2 hx (fun e => nomatch e)), h3.keep (fun t xs q => k _ _ q (ne_of q hx (fun e => nomatch e))),
    k _ _ h4 (ne_of h4 hx (fun e => nomatch e)), k _ _ h5 (ne_of h5 hx (fun e => nomatch e)), k _ _ h6 (ne_of h6 hx (fun e => nomatch e))⟩
theorem tz_kx {x D dx t : Addr} {H H' : Hp} {xs : List V} {fs : List (Str × V)} (z : Tz H t xs) (hx : H x = some (.ins D dx fs)) (k : Kp x H H') : Tz H' t xs := by
  obtain ⟨o, q1, q2⟩ := z
  exact ⟨o, k _ _ q1 (ne_of q1 hx (fun e => nomatch e)), q2⟩
theorem TrmAt.kx {CT x D dx : Addr} {H H' : Hp} {p b : Addr} {rows : List Row} {q : List Str × List Ent} (y : TrmAt CT H p b rows q) (hx : H x = some (.ins D dx [])) (k : Kp x H H') : TrmAt CT H' p b rows q := by
  obtain ⟨dx', t, u, h1, h2, h3, h4⟩ := y
  exact ⟨dx', t, u, k _ _ h1 (ne_of h1 hx (fun e => by unfold trF at e; cases e)), tz_kx h2 hx k, tz_kx h3 hx k, h4⟩
def spTrimI (C CT : Addr) : Sp := fun vs H Q _ => ∃ (x dx b t u : Addr) (rows : List Row) (q : List Str × List Ent), vs = [.ref x, .ref b, .ref t, .ref u] ∧ H x = some (.ins CT dx []) ∧ BedAt C H b rows ∧ ROk 8 rows ∧ Tz H t (sV q.1) ∧ Tz H u (q.2.map eV) ∧ TrimOk rows q.1 q.2 ∧
  ∀ H', Kp x H H' → TrmAt CT H' x b rows q → Q .non H'
def spTrimsI (C CT CS : Addr) : Sp := fun vs H Q _ => ∃ (x dx b p : Addr) (z : V) (ps : List Addr) (rows : List Row) (qs : List (List Str × List Ent)), vs = [.ref x, .ref b, z, .ref p] ∧ H x = some (.ins CS dx []) ∧ H p = some (.tup (ps.map V.ref)) ∧ TrmsAt CT H ps b rows qs ∧ BedAt C H b rows ∧ ROk 8 rows ∧ qs.length ≤ 4 ∧
  ∀ H', Kp x H H' → HeldAt C CT CS H' x b rows qs → Q .non H'
abbrev s_Trim_init__ : Stmt := inClass (top 30) 0
abbrev N_Trim_init__ : List Str := ["self", "bed", "stump", "result"]
theorem sc_Trim_init__ : FnScope N_Trim_init__ ["self", "bed", "stump", "result"] (defScope s_Trim_init__) := ⟨rfl, rfl, rfl, by decide +kernel, rfl, by decide +kernel, by decide +kernel⟩
abbrev s_Trims_init__ : Stmt := inClass (top 31) 0
abbrev N_Trims_init__ : List Str := ["self", "bed", "name", "trims", "trim"]
theorem sc_Trims_init__ : FnScope N_Trims_init__ ["self", "bed", "name", "trims"] (defScope s_Trims_init__) := ⟨rfl, rfl, rfl, by decide +kernel, rfl, by decide +kernel, by decide +kernel⟩
section
variable {P : Program} {w : World} {K : PySem.W.Frag} {mg : Str → Option Value} {base : Heap} {C CT CS : Addr}
theorem body_trimI (T : Bm mg) (B : TrT K CT) (c_check_trim : DefOk P w K mg base CX0 3 "check_trim" (spChkT C)) {f : Addr} {cdv : Value} {A : Around} {outer : List Env} {s : Shared} {H : Hp} {vs : List V} {Q : VK} {E : XK} (hr : Room 3 (A.deeper (envOfC "Trim.__init__" (defScope s_Trim_init__) s.heap.objs.size f cdv))) (h : spTrimI C CT vs H Q E) :
    ∃ t, PSs (cxOf CX0 P w K mg base N_Trim_init__ "Trim.__init__" (defScope s_Trim_init__) f cdv A outer s H E) (defBody s_Trim_init__) t ∧ t { nx := fun _ H' => Q .non H', rt := Q } (start N_Trim_init__ vs) H := by
  obtain ⟨x, dx, b, t, u, rows, q, rfl, hx, hB, R, ht, hu, O, k⟩ := h
  refine ⟨_, (pss_cons (ps_expr (pe_d c_check_trim (hr.mono (by decide)) pass0 (pa_cons (pv 1) (pa_cons (pv 2) (pa_cons (pv 3) pa_nil)))))
    (pss_cons (ps_fld (pv 0) (pv 1) rfl)
    (pss_cons (ps_fld (pv 0) (pv 2) rfl)
    (pss_one (ps_fld (pv 0) (pv 3) rfl))))), ?_⟩
  refine ⟨_, rfl, _, rfl, _, rfl, b, t, u, rows, q.1, q.2, rfl, hB, R, ht, hu, O, fun H1 s1 => ?_⟩
  refine ⟨_, rfl, _, rfl, x, CT, dx, _, rfl, s1 _ _ hx, B.cl, B.nB, (by show 0 < 1000; decide), ?_⟩
  refine ⟨_, rfl, _, rfl, x, CT, dx, _, rfl, upd_same, B.cl, B.nS, (by show 1 < 1000; decide), ?_⟩
  refine ⟨_, rfl, _, rfl, x, CT, dx, _, rfl, upd_same, B.cl, B.nR, ?_, ?_⟩
  · rw [show putF "bed" (.ref b) [] = [(("bed" : Str), V.ref b)] from rfl, tr_put2]
    show 2 < 1000
    decide
  · have kk : ∀ {o1 o2 o3 : HO}, Kp x H (upd (upd (upd H1 x o1) x o2) x o3) := fun {_ _ _} => (((Kp.same s1).upd).upd).upd
    refine k _ kk ⟨dx, t, u, ?_, tz_kx ht hx kk, tz_kx hu hx kk, O⟩
    rw [upd_same, show putF "bed" (.ref b) [] = [(("bed" : Str), V.ref b)] from rfl, tr_put2, tr_put3]
theorem body_trimsI (T : Bm mg) (BT : TrT K CT) (B : TsT K CS) (c_check_beds : DefOk P w K mg base CX0 2 "check_beds" (spBeds C)) {f : Addr} {cdv : Value} {A : Around} {outer : List Env} {s : Shared} {H : Hp} {vs : List V} {Q : VK} {E : XK} (hr : Room 3 (A.deeper (envOfC "Trims.__init__" (defScope s_Trims_init__) s.heap.objs.size f cdv))) (h : spTrimsI C CT CS vs H Q E) :
    ∃ t, PSs (cxOf CX0 P w K mg base N_Trims_init__ "Trims.__init__" (defScope s_Trims_init__) f cdv A outer s H E) (defBody s_Trims_init__) t ∧ t { nx := fun _ H' => Q .non H', rt := Q } (start N_Trims_init__ vs) H := by
  obtain ⟨x, dx, b, p, z, ps, rows, qs, rfl, hx, hp, hT, hB, R, h4, k⟩ := h
  have hl := hT.1
  refine ⟨_, (pss_cons (ps_expr (pe_d c_check_beds (hr.mono (by decide)) pass0 (pa_cons (pe_lst (pa_cons (pv 1) (StX.pa_star (pe_lc (own := [("trim", 4)]) (g := (gName 4)) (tt := tYes) rfl sc_Trims_init__.nd (pi_tup (pv 3)) (blkOk_by (N := N_Trims_init__) (sc := defScope s_Trims_init__) (by decide +kernel)) (fun _ _ _ _ _ => (pg_name (i := 4) sc_Trims_init__.nd rfl (Or.inl rfl))) (fun _ _ _ _ _ => pts_nil) (fun _ _ _ _ _ => (show PE _ _ (tFld K _ _) from pe_fld (pv 4) rfl))) pa_nil))) pa_nil)))
    (pss_cons (ps_if (pt_cmpR op_gt (pe_callB call_len_seq (by rfl) T.b_len boot_len (pa_cons (pv 3) pa_nil)) (pe_cI (by rfl) T.c_MOST_TRIMS) (nomark _))
      (pss_one ps_never)
      pss_nil)
    (pss_cons (ps_fld (pv 0) (pv 1) rfl)
    (pss_cons (ps_fld (pv 0) (pv 3) rfl)
    (pss_one (ps_fld (pv 0) (pv 2) rfl)))))), ?_⟩
  refine ⟨_, rfl, _, rfl, p, rfl, ⟨_, SqT.of hp⟩, fun D hD => lc_it (walk_tup (xs := ps.map V.ref)) (fun i H' => Same H H' ∧ H' D = some (.lst ((List.replicate i b).map V.ref)))
    ⟨(Same.refl H).upd_new hD, upd_same⟩ (fun i H' _ ⟨q, _⟩ => SqT.of (q _ _ hp)) ?_ ?_⟩
  · rintro i v H1 H2 hi ⟨s1, d1⟩ ⟨rfl, hv⟩
    obtain ⟨t, ht, rfl⟩ := get_map hv
    have hi2 : i < qs.length := by rw [← hl]; exact lt_of_get ht
    obtain ⟨dx', t', u', h1, _⟩ := (hT.2 i t qs[i] ht (List.getElem?_eq_getElem hi2)).same s1
    refine ⟨rfl, _, rfl, t, CT, dx', _, _, rfl, h1, BT.cl, BT.nB, tr_bed _ _ _, _, d1, ?_, s1.upd_own hD, ?_⟩
    · rw [List.length_map, List.length_replicate]
      exact lt_line (by omega)
    · rw [upd_same, List.replicate_succ', List.map_append]
      rfl
  · rintro H1 ⟨s1, d1⟩
    refine ⟨D, _, rfl, .inr (SqL.of d1), le_line ?_, fun l hl2 => ?_⟩
    · simp only [List.length_append, List.length_cons, List.length_nil, List.length_map, List.length_replicate]
      omega
    have s2 := s1.upd_new (o := .lst ([V.ref b] ++ ((List.replicate (ps.map V.ref).length b).map V.ref ++ []))) hl2
    refine ⟨l, b :: List.replicate (ps.map V.ref).length b, rows, rfl, ?_, fun b' hb' => ?_, R, ?_, fun H2 s3 => ?_⟩
    · rw [List.append_nil]
      exact upd_same
    · have e : b' = b := by
        rcases List.mem_cons.mp hb' with e | e
        · exact e
        · exact (List.mem_replicate.mp e).2
      rw [e]
      exact hB.same s2
    · simp only [List.length_cons, List.length_map, List.length_replicate]
      omega
    have s03 := s2.trans s3
    refine ⟨_, rfl, p, _, rfl, .inr (SqT.of (s03 _ _ hp)), _, _, rfl, rfl, _, rfl, ifn (fun e => ?_) ?_⟩
    · have := of_decide_eq_true e
      rw [List.length_map] at this
      omega
    refine ⟨_, rfl, _, rfl, x, CS, dx, _, rfl, s03 _ _ hx, B.cl, B.nB, (by show 0 < 1000; decide), ?_⟩
    refine ⟨_, rfl, _, rfl, x, CS, dx, _, rfl, upd_same, B.cl, B.nT, (by show 1 < 1000; decide), ?_⟩
    refine ⟨_, rfl, _, rfl, x, CS, dx, _, rfl, upd_same, B.cl, B.nN, ?_, ?_⟩
    · rw [show putF "bed" (.ref b) [] = [(("bed" : Str), V.ref b)] from rfl, ts_put2]
      show 2 < 1000
      decide
    · have kk : ∀ {o1 o2 o3 : HO}, Kp x H (upd (upd (upd H2 x o1) x o2) x o3) := fun {_ _ _} => (((Kp.same s03).upd).upd).upd
      refine k _ kk ⟨dx, p, z, ps, ?_, kk _ _ hp (ne_of hp hx (fun e => nomatch e)), ⟨hT.1, fun i p q h1 h2 => (hT.2 i p q h1 h2).kx hx kk⟩, hB.kx hx kk⟩
      rw [upd_same, show putF "bed" (.ref b) [] = [(("bed" : Str), V.ref b)] from rfl, ts_put2, ts_put3]
end
end Sh
end
section
set_option Elab.async false
set_option linter.all false
set_option maxRecDepth 100000
set_option maxHeartbeats 2000000
namespace Sh
open PySem PySem.Spec PyProof.Rows L2
open C8 (pss_cut tCut)
open Evl (ixN_nat)
def TrimC (P : Program) (w : World) (K : PySem.W.Frag) (mg : Str → Option Value) (base : Heap) (C CT : Addr) (k : Nat) : Prop := mg "Trim" = some (.ref CT) ∧ ∃ fI, Mk K CT fI ∧ FnR P w K mg base CX0 k fI (spTrimI C CT)
def spTrimsS (C CT CS : Addr) : Sp := fun vs H Q E => ∃ ws rest, vs = ws ++ rest ∧ ws.length = (["self", "bed"] : List Str).length ∧ rest.length ≤ sizeLine ∧ ∀ p, H p = Option.none → spTrimsI C CT CS (ws ++ [V.str "trims", V.ref p]) (upd H p (.tup rest)) Q E
def TrimsC (P : Program) (w : World) (K : PySem.W.Frag) (mg : Str → Option Value) (base : Heap) (C CT CS : Addr) (k : Nat) : Prop := mg "Trims" = some (.ref CS) ∧ ∃ fI, Mk K CS fI ∧ FnR P w K mg base CX0 k fI (spTrimsS C CT CS)
def spTrim (C CT : Addr) : Sp := fun vs H Q _ => ∃ (b t u : Addr) (rows : List Row) (q : List Str × List Ent), vs = [.ref b, .ref t, .ref u] ∧ BedAt C H b rows ∧ ROk 8 rows ∧ Tz H t (sV q.1) ∧ Tz H u (q.2.map eV) ∧ TrimOk rows q.1 q.2 ∧
  ∀ H' p, Same H H' → H p = none → TrmAt CT H' p b rows q → Q (.ref p) H'
def spTrims (C CT CS : Addr) : Sp := fun vs H Q _ => ∃ (b : Addr) (ps : List Addr) (rows : List Row) (qs : List (List Str × List Ent)), vs = .ref b :: ps.map V.ref ∧ TrmsAt CT H ps b rows qs ∧ BedAt C H b rows ∧ ROk 8 rows ∧ qs.length ≤ 4 ∧
  ∀ H' p, Same H H' → H p = none → HeldAt C CT CS H' p b rows qs → Q (.ref p) H'
theorem pe_trim {X : Cx} {C CT : Addr} {k : Nat} {e : Expr} {es : List Expr} {t : TA} {p pos : Pos} (D : TrimC X.prog X.w X.K X.mg X.base C CT k) (hr : Room (k + 1) X.A) (ha : PA X (e :: es) t) (hg : Gl X "Trim" := by rfl)
    (he : starEach (e :: es) X.env = (false, eval e X.env) :: starEach es X.env := by rfl) (hpl : (backTo pos (starEach es X.env)).any (·.1) = false := by rfl) :
    PE X (.Call (.Name "Trim" p) (e :: es) [] pos) (tCallR (spTrim C CT) E0 t) := by
  obtain ⟨hm, fI, M, F⟩ := D
  refine ⟨fun pins s σ H Q I h => ?_⟩
  refine wpAny_Call_Name_kw (ld_glob I hg hm ?_ (by decide))
  refine PySem.W.callWith_K (h₀ := X.base) I.ok.mod.kin M.kp (thn (ha.run pos pins s σ H _ I h) fun us s1 ⟨vs, H1, I1, r, q⟩ => ⟨I1.kIn, ?_⟩) he hpl
  obtain ⟨b, t, u, rows, q, rfl, hB, R, ht, hu, O, k⟩ := q
  refine StX.run_makeR M F hr pass0 I1 r fun x dx hx hd hxd => ?_
  have s1 : Same H1 (upd (upd H1 dx (.own x)) x (.ins CT dx [])) := ((Same.refl H1).upd_new hd).upd_own hx
  refine ⟨x, dx, b, t, u, rows, q, rfl, upd_same, hB.same s1, R, ht.same s1, hu.same s1, O, fun H' kk y => ⟨rfl, ?_⟩⟩
  exact k H' x (fun b o hb => kk b o (s1 b o hb) (ne_of_none hb hx)) hx y
theorem pe_trims {X : Cx} {C CT CS : Addr} {k : Nat} {e : Expr} {es : List Expr} {t : TA} {p pos : Pos} (D : TrimsC X.prog X.w X.K X.mg X.base C CT CS k) (hr : Room (k + 1) X.A) (ha : PA X (e :: es) t) (hg : Gl X "Trims" := by rfl)
    (he : starEach (e :: es) X.env = (false, eval e X.env) :: starEach es X.env := by rfl) (hpl : (backTo pos (starEach es X.env)).any (·.1) = false := by rfl) :
    PE X (.Call (.Name "Trims" p) (e :: es) [] pos) (tCallR (spTrims C CT CS) E0 t) := by
  obtain ⟨hm, fI, M, F⟩ := D
  refine ⟨fun pins s σ H Q I h => ?_⟩
  refine wpAny_Call_Name_kw (ld_glob I hg hm ?_ (by decide))
  refine PySem.W.callWith_K (h₀ := X.base) I.ok.mod.kin M.kp (thn (ha.run pos pins s σ H _ I h) fun us s1 ⟨vs, H1, I1, r, q⟩ => ⟨I1.kIn, ?_⟩) he hpl
  obtain ⟨b, ps, rows, qs, rfl, hT, hB, R, h4, k⟩ := q
  refine StX.run_makeR M F hr pass0 I1 r fun x dx hx hd hxd => ?_
  have s1 : Same H1 (upd (upd H1 dx (.own x)) x (.ins CS dx [])) := ((Same.refl H1).upd_new hd).upd_own hx
  refine ⟨[.ref x, .ref b], ps.map V.ref, rfl, rfl, ?_, fun p hp => ?_⟩
  · rw [List.length_map, hT.1]
    exact le_line (by omega)
  have s2 := s1.upd_new (o := .tup (ps.map V.ref)) hp
  have nxp : x ≠ p := ne_of_none (upd_same (H := upd H1 dx (.own x)) (a := x)) hp
  refine ⟨x, dx, b, p, .str "trims", ps, rows, qs, rfl, by rw [upd_ne nxp, upd_same], upd_same, hT.same s2, hB.same s2, R, h4, fun H' kk y => ⟨rfl, ?_⟩⟩
  exact k H' x (fun b o hb => kk b o (s2 b o hb) (ne_of_none hb hx)) hx y
def spHeld (C CT CS : Addr) : Sp := fun vs H Q _ => ∃ (b M : Addr) (rows : List Row) (ps : List Addr) (prs : List (List Str × List Ent)), vs = [.ref b, .ref M] ∧ BedAt C H b rows ∧ ROk 8 rows ∧ H M = some (.lst (ps.map V.ref)) ∧ MdAt rows H ps prs ∧ prs.length ≤ 4 ∧
  ∀ H' p, Same H H' → HeldAt C CT CS H' p b rows prs → Q (.ref p) H'
theorem TrmsAt.snoc {CT : Addr} {H : Hp} {ps : List Addr} {b : Addr} {rows : List Row} {qs : List (List Str × List Ent)} {p : Addr} {q : List Str × List Ent} (x : TrmsAt CT H ps b rows qs) (h : TrmAt CT H p b rows q) : TrmsAt CT H (ps ++ [p]) b rows (qs ++ [q]) := by
  refine ⟨by rw [List.length_append, List.length_append, x.1]; rfl, fun i p' q' a c => ?_⟩
  by_cases hi : i < ps.length
  · rw [List.getElem?_append_left hi] at a
    rw [List.getElem?_append_left (by rw [← x.1]; exact hi)] at c
    exact x.2 i p' q' a c
  · rw [List.getElem?_append_right (by omega)] at a
    rw [List.getElem?_append_right (by rw [← x.1]; omega)] at c
    rw [x.1] at a
    cases hj : i - qs.length with
    | zero =>
      rw [hj] at a c
      cases a
      cases c
      exact h
    | succ j =>
      rw [hj] at a
      simp at a
theorem TrmAt.lst {CT : Addr} {H : Hp} {p b F : Addr} {rows : List Row} {q : List Str × List Ent} {ys : List V} {o : HO} (x : TrmAt CT H p b rows q) (hF : H F = some (.lst ys)) : TrmAt CT (upd H F o) p b rows q := by
  obtain ⟨dx, t, u, h1, h2, h3, h4⟩ := x
  have z : ∀ {t : Addr} {xs : List V}, Tz H t xs → Tz (upd H F o) t xs := fun {t xs} h => by
    obtain ⟨o', q1, q2⟩ := h
    exact ⟨o', by rw [upd_ne (fun e => by rw [e, hF] at q1; cases q1)]; exact q1, q2⟩
  exact ⟨dx, t, u, by rw [upd_ne (fun e => by rw [e, hF] at h1; cases h1)]; exact h1, z h2, z h3, h4⟩
theorem TrmsAt.lst {CT : Addr} {H : Hp} {ps : List Addr} {b F : Addr} {rows : List Row} {qs : List (List Str × List Ent)} {ys : List V} {o : HO} (x : TrmsAt CT H ps b rows qs) (hF : H F = some (.lst ys)) : TrmsAt CT (upd H F o) ps b rows qs := ⟨x.1, fun i p q a c => (x.2 i p q a c).lst hF⟩
section
variable {P : Program} {w : World} {K : PySem.W.Frag} {mg : Str → Option Value} {base : Heap} {C CT CS : Addr}
end
end Sh
end
section
set_option Elab.async false
set_option linter.all false
set_option maxRecDepth 100000
set_option maxHeartbeats 2000000
namespace Sh
open PySem PySem.Spec PyProof.Rows L2
theorem sl_to {K : PySem.W.Frag} {H : Hp} {a : Addr} {xs : List V} {Q : VK} {j : Nat} (ha : Tq H a xs) (hj : j ≤ xs.length) (k : ∀ r H', Same H H' → Tq H' r (xs.take j) → Q (.ref r) H') : rSlA K (.ref a) none (some (j : Int)) H Q := by
  have e1 : HT.sIx xs.length 0 none = 0 := rfl
  have e2 : HT.sIx xs.length xs.length (some (j : Int)) = j := by rw [HT.sIx_nat]; omega
  refine ⟨a, xs, rfl, ha.sq, fun h => ?_, fun _ p hp => ?_⟩
  · rw [e2] at h
    refine k a H (Same.refl H) ?_
    rw [h.2, List.take_length]
    exact ha
  · refine k p _ ((Same.refl H).upd_new hp) (.of ?_)
    rw [upd_same]
    unfold cutV
    rw [e1, e2, List.drop_zero, Nat.sub_zero]
theorem sl_from {K : PySem.W.Frag} {H : Hp} {a : Addr} {xs : List V} {Q : VK} {i : Nat} (ha : Tq H a xs) (hi : i ≤ xs.length) (k : ∀ r H', Same H H' → Tq H' r (xs.drop i) → Q (.ref r) H') : rSlA K (.ref a) (some (i : Int)) none H Q := by
  have e1 : HT.sIx xs.length 0 (some (i : Int)) = i := by rw [HT.sIx_nat]; omega
  have e2 : HT.sIx xs.length xs.length none = xs.length := rfl
  refine ⟨a, xs, rfl, ha.sq, fun h => ?_, fun _ p hp => ?_⟩
  · rw [e1] at h
    refine k a H (Same.refl H) ?_
    rw [h.1, List.drop_zero]
    exact ha
  · refine k p _ ((Same.refl H).upd_new hp) (.of ?_)
    rw [upd_same]
    unfold cutV
    rw [e1, e2, List.take_of_length_le (by rw [List.length_drop]; exact Nat.le_refl _)]
theorem sl_all {K : PySem.W.Frag} {H : Hp} {a : Addr} {xs : List V} {Q : VK} (ha : Tq H a xs) (k : Q (.ref a) H) : rSlA K (.ref a) none none H Q :=
  ⟨a, xs, rfl, ha.sq, fun _ => k, fun h => absurd ⟨rfl, rfl⟩ h⟩
end Sh
end
section
set_option Elab.async false
set_option linter.all false
set_option maxRecDepth 100000
set_option maxHeartbeats 2000000
set_option autoImplicit false
/-! A def that is handed a caught exception; a try with several clauses that have names; an own exception made without arguments. -/
namespace L2
open PySem PySem.Spec PyProof.Rows
/-! ### a def that is handed an exception: its object stands, and is known -/
def FnP (a : Addr) (oe : Obj) (P : Program) (w : World) (K : PySem.W.Frag) (mg : Str → Option Value) (base : Heap) (CX : CXT) (k : Nat) (f : Addr) (sp : Sp) : Prop :=
  ∀ (A : Around) (outer : List Env) (s : Shared) (H : Hp) (us : List Value) (vs : List V) (Q : VK) (E : XK), L2H.RoomH k A → Env0 P w K mg base A outer s H → L2H.PinOk outer H s (a, oe) → Vals vs us → sp vs H Q E →
    codeAny (model P w) A (.call (.ref f) ⟨us, []⟩) (CR CX outer P w H s Q E) s
theorem fnP_of {a : Addr} {oe : Obj} {CX : CXT} {P : Program} {w : World} {K : PySem.W.Frag} {mg : Str → Option Value} {base : Heap} {k : Nat} {f : Addr} {name qual : Str} {params : Arguments} {body : List Stmt} {scope : Scope} {dV kV doc pm cdv ct oc : Value} {an od : Option Addr}
    {osl : Array (Option Value)} {N ps : List Str} {sp : Sp} (lk : K.lookup f = some ⟨oc, od, .func (PySem.W.fnOf name qual params body scope dV kV doc pm an cdv ct), osl⟩) (hcd : PySem.W.codeIn K cdv qual = true) (S : FnScope N ps scope)
    (len : ∀ vs H Q E, sp vs H Q E → vs.length = ps.length)
    (hb : ∀ us : List Value, us.length = ps.length → bindArgs (PySem.W.fnOf name qual params body scope dV kV doc pm an cdv ct) ⟨us, []⟩ = pure (ps.zip us))
    (hbody : ∀ (A : Around) (outer : List Env) (s : Shared) (H : Hp) (vs : List V) (Q : VK) (E : XK), L2H.RoomH k (A.deeper (envOfC qual scope s.heap.objs.size f cdv)) → sp vs H Q E →
      ∃ t, PSs (L2H.cxH CX P w K mg base N qual scope f cdv A outer s H E (a, oe)) body t ∧ t { nx := fun _ H' => Q .non H', rt := Q } (start N vs) H) :
    FnP a oe P w K mg base CX (k + 1) f sp := by
  intro A outer s H us vs Q E hr e0 pin r hsp
  have hl := len _ _ _ _ hsp
  have hlu : us.length = ps.length := by rw [← r.length]; exact hl
  have KX : K.In s.heap := e0.mod.kin.keeps fun b o e => (e0.bs b o e).1
  have lim : s.heap.NoLimit := e0.mod.nolimit.keeps fun b o e => (e0.bs b o e).1
  have hkind : ∀ y ∈ ps.zip us, scope.names.lookup y.1 = some .local ∨ (scope.names.lookup y.1 = some .cell ∧ ((cellsFrom (s.heap.objs.size + 1) scope.names []).lookup y.1).isSome = true) := fun ⟨n, v⟩ hy => by
    rcases S.par n (List.of_mem_zip hy).1 with q | q
    · exact .inl q
    · exact .inr ⟨q, PySem.W.cellsFrom_some _ _ _ (.inl q)⟩
  refine codeAny_call_function hr.depth (KX _ _ lk) rfl S.co S.gen rfl (PySem.W.codeRec_of KX hcd) ((BindsTo.of_eq (hb us hlu)) _ _ _ _ ?_)
  refine wpAny_newFunctionEnv_cells S.kind hkind fun env he s1 x => ?_
  subst he
  refine ⟨lim.keeps x.toInCall.keep, codeAny_func ?_⟩
  obtain ⟨t, ht, hq⟩ := hbody A outer s H vs Q E (hr.deeper _) hsp
  have I : Inv (L2H.cxH CX P w K mg base N qual scope f cdv A outer s H E (a, oe)) [] (start N vs) H s1 := L2H.inv_startH S pin e0 hl r x
  refine wpAny_mono (ht.run [] s1 (start N vs) H _ I hq) (fun fl s' hs => ?_) fun e s' hs => hs
  have fin : ∀ {σ' : St} {H' : Hp} {v : V} {u : Value}, Inv (L2H.cxH CX P w K mg base N qual scope f cdv A outer s H E (a, oe)) [] σ' H' s' → RelV v u → Q v H' → CE outer P w H s Q u s' :=
    fun {σ' H' v u} J rv q => ⟨v, H', J.os, J.bare, J.base, J.hok, rv, q⟩
  cases fl with
  | ret u =>
    obtain ⟨v, σ', H', J, rv, q⟩ := hs
    exact fin J rv q
  | next =>
    obtain ⟨σ', H', J, q⟩ := hs
    exact fin (v := V.non) (u := Value.none) J rfl q
  | brk =>
    obtain ⟨_, _, _, q⟩ := hs
    exact False.elim q
  | cont =>
    obtain ⟨_, _, _, q⟩ := hs
    exact False.elim q
section
variable {X : Cx}
/-- f(e), e the exception of the suite -/
theorem pe_dP {CX : CXT} {k : Nat} {x : Str} {sp : Sp} {E : XK} {e : Expr} {es : List Expr} {t : TA} {p pos : Pos} {a : Addr} {oe : Obj} (hs : X.stack = X.env :: X.outer) (hfr : X.env.frame = some X.env.locals) (hp : (a, oe) ∈ X.pn)
    (D : ∃ f, X.mg x = some (.ref f) ∧ PySem.W.keepIn X.K (.ref f) = true ∧ FnP a oe X.prog X.w X.K X.mg X.base CX k f sp) (hr : L2H.RoomH k X.A) (hx : Passes CX X E) (ha : PA X (e :: es) t)
    (hg : Gl X x := by rfl) (hd : (x == ("__debug__" : Str)) = false := by decide)
    (he : starEach (e :: es) X.env = (false, eval e X.env) :: starEach es X.env := by rfl) (hpl : (backTo pos (starEach es X.env)).any (·.1) = false := by rfl) :
    PE X (.Call (.Name x p) (e :: es) [] pos) (tCallR sp E t) := by
  obtain ⟨f, hm, hk, F⟩ := D
  refine ⟨fun pins s σ H Q I h => ?_⟩
  refine wpAny_Call_Name_kw (ld_glob I hg hm ?_ hd)
  refine PySem.W.callWith_K (h₀ := X.base) I.ok.mod.kin hk (thn (ha.run pos pins s σ H _ I h) fun us s1 ⟨vs, H1, I1, r, q⟩ => ⟨I1.kIn, ?_⟩) he hpl
  obtain ⟨p1, p2, p3, p4, p5⟩ := I1.pin (a, oe) (List.mem_append.mpr (.inl hp))
  have pin : L2H.PinOk X.stack H1 s1 (a, oe) := ⟨p1, p2, by
    rw [hs]
    intro hm
    obtain ⟨en, hen, q⟩ := List.mem_filterMap.mp hm
    rcases List.mem_cons.mp hen with e | e
    · rw [e, hfr] at q
      exact p3 (Option.some.inj q).symm
    · exact p4 (List.mem_filterMap.mpr ⟨en, e, q⟩), p5⟩
  refine wpAny_call (codeAny_mono (F X.A X.stack s1 H1 us vs Q E hr I1.env0 pin r q) fun r s' hq => ?_)
  cases r with
  | error e => exact hx pins σ H1 s1 e s' I1 hq
  | ok fl =>
    cases fl with
    | ret u => exact I1.after hq
    | next => exact hq.elim
    | brk => exact hq.elim
    | cont => exact hq.elim
/-- isinstance(e, c), e's object known: of an own class, whatever it has in its dict, or without a dict -/
def rIsP (K : PySem.W.Frag) (a : Addr) (cls : Value) (d : Option Addr) : List V → Hp → VK → Prop := fun xs H Q => ∃ (D : Addr) (c : V) (cv : Value) (b : Bool), xs = [.ref a, c] ∧ cls = .ref D ∧ (d = none ∨ ∃ dd fs, d = some dd ∧ H dd = some (.xd fs)) ∧ ExcD K D ∧ (∀ u, RelV c u → u = cv) ∧ PySem.W.kitOne K (.ref D) cv = some b ∧ Q (.bl b) H
theorem call_isP {a : Addr} {oe : Obj} {cls : Value} {d : Option Addr} (hp : (a, oe) ∈ X.pn) (hz : Zc cls d oe) (hf : ∃ vs, oe.data = .fields vs) : CallR X (.builtin "isinstance") (rIsP X.K a cls d) := by
  intro pins s σ H xs us Q I r h
  obtain ⟨D, c, cv, b, rfl, ec, ed, C, hcv, e, q⟩ := h
  subst ec
  cases r with
  | cons rx rr =>
    cases rr with
    | cons rt rr =>
      cases rr
      cases rx
      have ec := hcv _ rt
      subst ec
      obtain ⟨hget, _⟩ := I.pin (a, oe) (List.mem_append.mpr (.inl hp))
      obtain ⟨vs, hv⟩ := hf
      have J : ∃ od, PySem.W.InstAt s.heap a oe D od := by
        rcases ed with ed | ⟨dd, fs, ed, ea⟩
        · exact ⟨none, ⟨hget, hz.1, by unfold PySem.W.notCls; rw [hv] <;> rfl, by rw [hz.2, ed]; trivial⟩⟩
        · obtain ⟨mA, hns, hr⟩ : ObjOk X.prog X.w H s.heap dd (.xd fs) := I.hok dd _ ea
          obtain ⟨od, ho, hl⟩ := lookIn_ns hns
          exact ⟨some od, ⟨hget, hz.1, by unfold PySem.W.notCls; rw [hv] <;> rfl, by rw [hz.2, ed]; exact ho⟩⟩
      obtain ⟨od, J⟩ := J
      exact PySem.W.kia_one (PySem.W.kitx_exc C.cl C.c.hg C.c.hk C.c.hs C.c.ha C.c.hn C.c.ht C.c.hm) I.kIn J e (fun z => nomatch z) fun tk => ⟨.bl b, H, I.kept (t' := tk) fun _ _ z => z, rfl, q⟩
end
/-! ### several clauses with names -/
def wManyAs (K : PySem.W.Frag) (D : Ends) : List (Value × Nat × (Addr → Value → Option Addr → TS)) → WX
  | [] => fun _ _ _ _ => False
  | (c, i, ts) :: r => fun cls d σ H => ∃ b, PySem.W.exmOne K cls c = some b ∧ (b = true → ∀ a, H a = none → ts a cls d { nx := fun σ' H' => D.nx (σ'.set i none) H', rt := D.rt, bk := fun σ' H' => D.bk (σ'.set i none) H', ct := fun σ' H' => D.ct (σ'.set i none) H' } (σ.set i (some (.ref a))) H) ∧
      (b = false → wManyAs K D r cls d σ H)
inductive HdsAs (X : Cx) : List ExceptHandler → List (Value × Nat × (Addr → Value → Option Addr → TS)) → Prop
  | nil : HdsAs X [] []
  | cons {x n : Str} {c : Value} {i : Nat} {ts : Addr → Value → Option Addr → TS} {b₀ : Stmt} {suite : List Stmt} {np pos' : Pos} {hds : List ExceptHandler} {l : List (Value × Nat × (Addr → Value → Option Addr → TS))} (hi : X.N[i]? = some n) (hln : X.env.kindOf n = some .local) (hc : Names X x c)
      (hsu : ∀ (a : Addr) (oe : Obj) (cls : Value) (d : Option Addr) (pn : List (Addr × Obj)), Zc cls d oe → (∃ vs, oe.data = .fields vs) → PSs (X.suite a ((a, oe) :: pn)) (b₀ :: suite) (ts a cls d)) (r : HdsAs X hds l) :
      HdsAs X (.ExceptHandler (some (.Name x np)) (some n) (b₀ :: suite) pos' :: hds) ((c, i, ts) :: l)
section
variable {X : Cx} {pins : List (Addr × Obj)} {σ : St} {H : Hp} {s : Shared} {a : Addr} {cls : Value} {d : Option Addr}
theorem hds_as {D : Ends} (hf : X.env.frame = some X.env.locals) (hN : X.N.Nodup) {hds : List ExceptHandler} {l : List (Value × Nat × (Addr → Value → Option Addr → TS))} (hh : HdsAs X hds l) (ok : X.Ok) (C : Caught X pins σ H s a cls d) (w : wManyAs X.K D l cls d σ H) :
    wpAny (model X.prog X.w) X.A (handleBy (.ref a) X.env hds) (SP X pins D) X.xe s := by
  induction hh with
  | nil => exact w.elim
  | @cons x n c i ts b₀ suite np pos' hds l hi hln hc hsu r ih =>
    obtain ⟨na, B, fl, back⟩ := id C
    obtain ⟨b, hm, hyes, hno⟩ := w
    have I0 : Inv X pins σ H s := back s.heap fl (fun b o e _ => ⟨o.slots, e⟩)
    obtain ⟨oe, hd, he, hz, S⟩ := suite_of hf fl I0 na
    refine wpAny_handleBy_cons (codeAny_handlers_test ?_) (by intro q; cases q)
    have look : PySem.W.Looks (model X.prog X.w) s.heap (typeOf (.ref a)) cls := fun A Q E s k q => wpAny_typeOf_ref (k _ _ he) (by rw [hz.1]; exact q)
    have name : ∀ {Q : Value → Shared → Prop} {E : Value → Shared → Prop}, Q c s → wpAny (model X.prog X.w) (X.A.mark (some (.ref a))) (eval (.Name x np) X.env) Q E s := fun {Q E} q => by
      obtain ⟨hg, hdbg, hm | ⟨hm, hv, hnn⟩⟩ := hc
      · exact ld_glob (X := X.suite a ((a, oe) :: (X.pn ++ pins))) S hg hm q hdbg
      · exact ld_blt (X := X.suite a ((a, oe) :: (X.pn ++ pins))) S hg hm hv q hnn hdbg
    have LM := PySem.W.exm_one (M := model X.prog X.w) I0.kIn look hm
    cases b with
    | false =>
      refine name (LM.here ?_)
      show wpAny _ X.A (handleBy (.ref a) X.env hds) _ _ _
      exact ih (hno rfl)
    | true =>
      refine name (LM.here (codeAny_handlers_suite_as ?_))
      refine HandSPX.lands_againZ fl fun h4 fl4 up4 => ?_
      obtain ⟨oe4, hd4, _, hz4, S4⟩ := suite_of (s := { s with heap := h4 }) hf fl4 (back h4 fl4 up4) na
      refine store_ok (X := X.suite a ((a, oe4) :: (X.pn ++ pins))) (v := .ref a) S4 hN hi (.inl hln) rfl (fun s5 S5 => ?_) (.inr hln)
      have R := (hsu a oe4 cls d (X.pn ++ pins) hz4 hd4).run [] s5 _ H _ S5 (hyes rfl a na)
      refine wpAny_mono R (fun f s6 hsp => ?_) fun _ _ z => z.elim
      cases f with
      | ret u =>
        obtain ⟨v6, σ6, H6, S6, r6, q6⟩ := hsp
        exact gone_ok (S6.unsuite ok) hN hi hln fun s7 J7 => ⟨_, _, _, J7, r6, q6⟩
      | next =>
        obtain ⟨σ6, H6, S6, q6⟩ := hsp
        exact gone_ok (S6.unsuite ok) hN hi hln fun s7 J7 => ⟨_, _, J7, q6⟩
      | brk =>
        obtain ⟨σ6, H6, S6, q6⟩ := hsp
        exact gone_ok (S6.unsuite ok) hN hi hln fun s7 J7 => ⟨_, _, J7, q6⟩
      | cont =>
        obtain ⟨σ6, H6, S6, q6⟩ := hsp
        exact gone_ok (S6.unsuite ok) hN hi hln fun s7 J7 => ⟨_, _, J7, q6⟩
theorem ps_try_as_many {body : List Stmt} {h₀ : ExceptHandler} {hds : List ExceptHandler} {l : List (Value × Nat × (Addr → Value → Option Addr → TS))} {pos : Pos} {tb : WX → TS} (hs : X.stack = X.env :: X.outer) (hf : X.env.frame = some X.env.locals) (hN : X.N.Nodup)
    (hb : ∀ (W : WX) (pn : List (Addr × Obj)) (xe : Value → Shared → Prop), Takes (X.tr pn xe) W → PassesOwn (model X.prog X.w) X.A X.env xe → PSs (X.tr pn xe) body (tb W))
    (hh : HdsAs X (h₀ :: hds) l) : PS X (.Try body (h₀ :: hds) [] [] pos) (fun D σ H => tb (wManyAs X.K D l) D σ H) :=
  ps_try_by (Wd := fun D => wManyAs X.K D l) hs hf hb fun pins D σ H s a cls d ok C w => hds_as hf hN hh ok C w
end
/-! ### an own exception made without arguments -/
section
variable {X : Cx} {C : Addr} {bmB : List Value} {B newId initId : String}
theorem pmk_own0 {x : Str} {p pos : Pos} (F : ExcBaseFacts B newId initId bmB) (q : PySem.W.excIn X.K C bmB newId = true) (gC : X.mg x = some (.ref C)) (kC : PySem.W.keepIn X.K (.ref C) = true) (r : Raises X (.ref C)) (hg : Gl X x)
    (hdb : (x == ("__debug__" : Str)) = false := by decide) : PMk X (.Call (.Name x p) [] [] pos) (fun _ H Q => Q (.ref C) none H) := by
  intro pins s σ H Q I h
  refine wpAny_Call_Name_kw (ld_glob I hg gC ?_ hdb)
  refine PySem.W.callWith_K0 I.kIn kC ?_
  show wpAny _ _ (call (.ref C) []) _ _ _
  obtain ⟨bm, N, nm, qn, bs, hdct, sn, sub, ab, col, dd, k0, k1, k2, k3, k5, mN, hC, hN, hni, T⟩ := exc_obj I.kIn q
  exact wpAny_call_exc_subT F T hC hN hni (fun h' e hm => mk_of I hm r h (I.hok.gone hm.new)) (Nat.zero_le _)
theorem ps_raiseOwn0 {x : Str} {W : WX} {p pos pos2 : Pos} (hc : X.calm = true) (tk : Takes X W) (F : ExcBaseFacts B newId initId bmB) (q : PySem.W.excIn X.K C bmB newId = true) (gC : X.mg x = some (.ref C)) (kC : PySem.W.keepIn X.K (.ref C) = true) (r : Raises X (.ref C)) (hg : Gl X x)
    (hdb : (x == ("__debug__" : Str)) = false := by decide) : PS X (.Raise (some (.Call (.Name x p) [] [] pos)) none pos2) (fun _ σ H => W (.ref C) none σ H) := ps_raise hc tk (pmk_own0 F q gC kC r hg hdb)
end
end L2
end
section
set_option Elab.async false
set_option linter.all false
set_option maxRecDepth 100000
set_option maxHeartbeats 2000000
set_option autoImplicit false
/-! Classes made where exceptions are wished for at the slots at hand; with a keyword beside a star parameter; len of an own object. -/
namespace L2
open PySem PySem.Spec PyProof.Rows
def tMakeS (C : Addr) (sp : Sp) (E : St → XK) (t : TA) : TE := fun σ H Q => t σ H fun vs H1 => ∀ x dx, H1 x = none → H1 dx = none → dx ≠ x → sp (.ref x :: vs) (upd (upd H1 dx (.own x)) x (.ins C dx [])) (fun v H2 => v = .non ∧ Q (.ref x) H2) (E σ)
section
variable {X : Cx} {CX : CXT} {k : Nat} {f C : Addr} {sp : Sp} {E : St → XK} {x : Str} {e : Expr} {es : List Expr} {t : TA} {p pos : Pos}
theorem run_makeS {pins : List (Addr × Obj)} {σ : L2.St} {H : Hp} {s : Shared} {Q : VK} {us : List Value} {vs : List V} {E : XK} (M : Mk X.K C f) (F : FnR X.prog X.w X.K X.mg X.base CX k f sp) (hr : Room (k + 1) X.A) (hx : PassesAt CX X σ E) (I : Inv X pins σ H s) (r : Vals vs us)
    (h : ∀ x dx, H x = Option.none → H dx = Option.none → dx ≠ x → sp (V.ref x :: vs) (upd (upd H dx (.own x)) x (.ins C dx [])) (fun v H2 => v = .non ∧ Q (.ref x) H2) E) :
    wpAny (model X.prog X.w) X.A (call (.ref C) us) (EP X pins σ Q) X.xe s := by
  have hq := h (s.heap.objs.size + 1) s.heap.objs.size (I.hok.fresh (Nat.le_succ _)) (I.hok.fresh (Nat.le_refl _)) (Nat.ne_of_lt (Nat.lt_succ_self _))
  have I2 := Inv.made (C := C) I
  have r2 : Vals (V.ref (s.heap.objs.size + 1) :: vs) (Value.ref (s.heap.objs.size + 1) :: us) := .cons rfl r
  refine wpAny_call (make_map (f := f) I.kIn M.makes M.init (beq_iff_eq.mp M.fn) (codeAny_mono (F _ X.stack _ _ (Value.ref (s.heap.objs.size + 1) :: us) _ _ E (hr.make C us []) (I2.env0.make C us []) r2 hq) fun r s' hq' => ?_))
  cases r with
  | error e => exact hx pins _ _ e s' I2 hq'
  | ok fl =>
    cases fl with
    | ret u =>
      obtain ⟨v, H', I3, rv, ev, q3⟩ := I2.after hq'
      subst ev
      exact ⟨rv, ⟨V.ref (s.heap.objs.size + 1), H', I3, rfl, q3⟩⟩
    | next => exact False.elim hq'
    | brk => exact False.elim hq'
    | cont => exact False.elim hq'
theorem pe_makeS (M : Mk X.K C f) (F : FnR X.prog X.w X.K X.mg X.base CX k f sp) (hr : Room (k + 1) X.A) (hg : Gl X x) (hm : X.mg x = some (.ref C)) (hx : ∀ σ, PassesAt CX X σ (E σ)) (ha : PA X (e :: es) t) (hdb : (x == ("__debug__" : Str)) = false := by decide)
    (he : starEach (e :: es) X.env = (false, eval e X.env) :: starEach es X.env := by rfl) (hpl : (backTo pos (starEach es X.env)).any (·.1) = false := by rfl) : PE X (.Call (.Name x p) (e :: es) [] pos) (tMakeS C sp E t) := by
  refine ⟨fun pins s σ H Q I h => ?_⟩
  refine wpAny_Call_Name_kw (ld_glob I hg hm ?_ hdb)
  refine PySem.W.callWith_K (h₀ := X.base) I.ok.mod.kin M.kp (thn (ha.run pos pins s σ H _ I h) fun us s1 ⟨vs, H1, I1, r, q⟩ => ⟨I1.kIn, ?_⟩) he hpl
  exact run_makeS M F hr (hx σ) I1 r q
end
/-! ### a keyword beside a star parameter -/
def FnK (P : Program) (w : World) (K : PySem.W.Frag) (mg : Str → Option Value) (base : Heap) (CX : CXT) (kn : Str) (k : Nat) (f : Addr) (sp : V → Sp) : Prop :=
  ∀ (A : Around) (outer : List Env) (s : Shared) (H : Hp) (us : List Value) (vs : List V) (z : V) (uz : Value) (Q : VK) (E : XK), Room k A → Env0 P w K mg base A outer s H → Vals vs us → RelV z uz → sp z vs H Q E →
    codeAny (model P w) A (.call (.ref f) ⟨us, [(kn, uz)]⟩) (CR CX outer P w H s Q E) s
theorem FunD.starKK {CX : CXT} {P : Program} {w : World} {K : PySem.W.Frag} {mg : Str → Option Value} {base : Heap} {k : Nat} {f : Addr} {fd : FuncData} {x qual : Str} {params : Arguments} {body : List Stmt} {scope : Scope} {N ps : List Str} {kn pv : Str} {dvs : List V} {kws : List (Str × V)} {sp : Sp}
    (F : FunD K x qual params body scope dvs kws f fd) (hdv : dvs = []) (S : FnScope N (ps ++ [kn, pv]) scope) (hCX : StX.CXUp CX)
    (hb : ∀ (kV doc pm : Value) (an : Option Addr) (cdv ct u : Value) (us rest : List Value), us.length = ps.length →
      bindArgs (PySem.W.fnOf x qual params body scope .none kV doc pm an cdv ct) ⟨us ++ rest, [(kn, u)]⟩ = (newTuple rest >>= fun t => pure (ps.zip us ++ [(kn, u), (pv, t)])))
    (hbody : ∀ (cdv : Value) (A : Around) (outer : List Env) (s : Shared) (H : Hp) (vs : List V) (Q : VK) (E : XK), Room k (A.deeper (envOfC qual scope s.heap.objs.size f cdv)) → sp vs H Q E →
      ∃ t, PSs (cxOf CX P w K mg base N qual scope f cdv A outer s H E) body t ∧ t { nx := fun _ H' => Q .non H', rt := Q } (start N vs) H) :
    FnK P w K mg base CX kn (k + 1) f (fun z vs H Q E => ∃ ws rest, vs = ws ++ rest ∧ ws.length = ps.length ∧ rest.length ≤ sizeLine ∧ ∀ p, H p = Option.none → sp (ws ++ [z, V.ref p]) (upd H p (.tup rest)) Q E) := by
  obtain ⟨oc, od, dV, kV, doc, pm, an, cdv, ct, osl, rfl, lk, hcd, hD, hK⟩ := F.ex
  have hD2 : dV = .none := by
    rcases hD with ⟨_, e⟩ | ⟨e, _⟩
    · exact e
    · exact absurd hdv e
  subst hD2
  intro A outer s H us vs z uz Q E hr e0 r rz hsp
  obtain ⟨ws, rest, ev, hl, hz, hq⟩ := hsp
  subst ev
  obtain ⟨u1, u2, eu, r1, r2⟩ := StX.vals_split r
  subst eu
  have hn : H s.heap.objs.size = Option.none := e0.hok.fresh (Nat.le_refl _)
  have hl1 : u1.length = ps.length := by rw [← r1.length]; exact hl
  have hl2 : u2.length ≤ sizeLine := by rw [← r2.length]; exact hz
  refine StX.run_bnd lk hcd S hr e0 (G := fun xs H2 => ∃ p, H p = Option.none ∧ xs = ws ++ [z, V.ref p] ∧ H2 = upd H p (.tup rest)) (fun A' Ex Q' h => ?_) fun s2 H2 xs ⟨p, hp, ex, eH⟩ hr' => ?_
  · rw [hb kV doc pm an cdv ct uz u1 u2 hl1]
    refine wpAny_bind (wpAny_newTuple (wpAny_pure ?_) hl2)
    have new : ObjOk P w (upd H s.heap.objs.size (.tup rest)) (s.heap.push ({ cls := .type "tuple", data := .seq u2.toArray } : Obj)) s.heap.objs.size (.tup rest) := ⟨hz, u2, r2, ⟨_, Heap.get?_push_size _ rfl, rfl, _, rfl⟩⟩
    have un := StX.un_laid (fs := frs outer) (s := s) (o := ({ cls := .type "tuple", data := .seq u2.toArray } : Obj)) (u := .tup rest) hn
    have q := h _ _ (ws ++ [z, V.ref s.heap.objs.size]) (u1 ++ [uz, Value.ref s.heap.objs.size]) (StX.env0_laid e0 new) un rfl (fun e s' => hCX outer s H _ _ E e s' un (fun b o q => Heap.get?_push_of_some _ q) rfl) (r1.append (.cons rz (.cons rfl .nil)))
      (by rw [List.length_append, List.length_append, hl] <;> rfl) ⟨_, hn, rfl, rfl⟩
    rw [List.zip_append hl1.symm] at q
    exact q
  · subst ex eH
    exact hbody cdv A outer s2 _ _ Q E hr' (hq p hp)
def tMakeK1 (C : Addr) (sp : V → Sp) (E : St → XK) (t tk : TA) : TE := fun σ H Q => t σ H fun vs H1 => tk σ H1 fun zs H2 => ∃ z, zs = [z] ∧ ∀ x dx, H2 x = none → H2 dx = none → dx ≠ x → sp z (.ref x :: vs) (upd (upd H2 dx (.own x)) x (.ins C dx [])) (fun v H3 => v = .non ∧ Q (.ref x) H3) (E σ)
section
variable {X : Cx} {CX : CXT} {k : Nat} {f C : Addr} {sp : V → Sp} {E : St → XK} {x kn : Str} {e : Expr} {es : List Expr} {t tk : TA} {p pos : Pos} {kws : List Keyword}
theorem pe_makeK1 (M : Mk X.K C f) (F : FnK X.prog X.w X.K X.mg X.base CX kn k f sp) (hr : Room (k + 1) X.A) (hg : Gl X x) (hm : X.mg x = some (.ref C)) (hx : ∀ σ, PassesAt CX X σ (E σ)) (ha : PA X (e :: es) t) (hkw : PK X kws tk)
    (hks : (backToKw pos (keywordEach kws X.env)).filterMap (·.1) = [kn] := by rfl) (hall : (backToKw pos (keywordEach kws X.env)).all (·.1.isSome) = true := by rfl)
    (hdb : (x == ("__debug__" : Str)) = false := by decide)
    (he : starEach (e :: es) X.env = (false, eval e X.env) :: starEach es X.env := by rfl) (hpl : ((backTo pos (starEach (e :: es) X.env)).any (·.1) || (backToKw pos (keywordEach kws X.env)).any (·.1.isNone)) = false := by rfl) :
    PE X (.Call (.Name x p) (e :: es) kws pos) (tMakeK1 C sp E t tk) := by
  refine ⟨fun pins s σ H Q I h => ?_⟩
  refine wpAny_Call_Name_kw (ld_glob I hg hm ?_ hdb)
  refine PySem.W.callWith_KW (h₀ := X.base) I.ok.mod.kin M.kp hall (thn (ha.run pos pins s σ H _ I h) fun us s1 ⟨vs, H1, I1, r, q⟩ => ?_) hpl he
  refine thn (hkw.run pos pins s1 σ H1 _ I1 q) fun ws s2 ⟨zs, H2, I2, rz, z, ez, q2⟩ => ⟨I2.kIn, ?_⟩
  rw [hks]
  subst ez
  obtain ⟨uz, rfl, rz1⟩ := vals1 rz
  have hq := q2 (s2.heap.objs.size + 1) s2.heap.objs.size (I2.hok.fresh (Nat.le_succ _)) (I2.hok.fresh (Nat.le_refl _)) (Nat.ne_of_lt (Nat.lt_succ_self _))
  have I3 := Inv.made (C := C) I2
  have r2 : Vals (V.ref (s2.heap.objs.size + 1) :: vs) (Value.ref (s2.heap.objs.size + 1) :: us) := .cons rfl r
  show wpAny _ _ (call (.ref C) us [(kn, uz)]) _ _ _
  refine wpAny_call (make_map (f := f) I2.kIn M.makes M.init (beq_iff_eq.mp M.fn) (codeAny_mono (F _ X.stack _ _ (Value.ref (s2.heap.objs.size + 1) :: us) _ z uz _ (E σ) (hr.make C us [(kn, uz)]) (I3.env0.make C us [(kn, uz)]) r2 rz1 hq) fun r s' hq' => ?_))
  cases r with
  | error e => exact hx σ pins _ _ e s' I3 hq'
  | ok fl =>
    cases fl with
    | ret u =>
      obtain ⟨v, H', I4, rv, ev, q3⟩ := I3.after hq'
      subst ev
      exact ⟨rv, ⟨V.ref (s2.heap.objs.size + 1), H', I4, rfl, q3⟩⟩
    | next => exact False.elim hq'
    | brk => exact False.elim hq'
    | cont => exact False.elim hq'
end
/-! ### len of an own object -/
def tLenO (C : Addr) (sp : Sp) (te : TE) : TE := fun σ H Q => te σ H fun x H1 => ∃ a dx fs, x = .ref a ∧ H1 a = some (.ins C dx fs) ∧ sp [x] H1 (fun v H2 => ∃ n : Nat, v = .int (n : Nat) ∧ n < 2 ^ 62 ∧ Q (.int (n : Nat)) H2) E0
theorem pe_lenO {X : Cx} {k : Nat} {C f : Addr} {sp : Sp} {e : Expr} {te : TE} {p pos : Pos} (he : PE X e te) (c : Cls X.K C) (hm : Meth X.K C "__len__" f) (F : FnR X.prog X.w X.K X.mg X.base CX0 k f sp) (hr : Room (k + 1) X.A) (hg : Gl X "len") (hl : X.mg "len" = none)
    (hs : starEach [e] X.env = (false, eval e X.env) :: starEach [] X.env := by rfl) : PE X (.Call (.Name "len" p) [e] [] pos) (tLenO C sp te) := by
  refine ⟨fun pins s σ H Q I h => ?_⟩
  refine Call_ (ld_blt I hg hl boot_len (PyProof.Rows.callWith_builtin1 (args_cons (thn (he.run pins s σ H _ I h) fun u s1 ⟨v, H1, I1, r1, a, dx, fs, ev, ea, q⟩ => args_nil ?_) hs) hs rfl))
  subst ev
  obtain rfl : u = Value.ref a := r1
  obtain ⟨_, _, _, hobj, mA, hns, _⟩ := (show ObjOk X.prog X.w H1 s1.heap a (.ins C dx fs) from I1.hok a _ ea)
  obtain ⟨od, ho, _⟩ := lookIn_ns hns
  have hI : PySem.W.InstAt s1.heap a (PySem.W.instObj C dx) C (some od) := ⟨hobj, rfl, rfl, ho⟩
  obtain ⟨m, hfr⟩ := I1.fr
  refine PySem.W.len_K hfr I1.ok.mod.kin hI hm.at_ hm.fn ?_
  refine wpAny_call (codeAny_mono (F X.A.in1 X.stack s1 H1 [.ref a] [.ref a] _ E0 hr.in1 I1.env0.in1 (.cons rfl .nil) q) fun r s' hq => ?_)
  cases r with
  | error e => exact hq.elim
  | ok fl =>
    cases fl with
    | ret u =>
      obtain ⟨v, H', I', rv, n, ev, hn, q'⟩ := I1.after hq
      subst ev
      obtain ⟨t, rfl⟩ := rv
      exact ⟨⟨by omega, by omega⟩, .int (n : Nat), H', I'.tok _, ⟨_, rfl⟩, q'⟩
    | next => exact hq.elim
    | brk => exact hq.elim
    | cont => exact hq.elim
end L2
end
section
set_option Elab.async false
set_option linter.all false
set_option maxRecDepth 100000
set_option maxHeartbeats 2000000
namespace Sh
open PySem PySem.Spec PyProof.Rows L2
open C8 (pss_cut tCut)
open Evl (ixN_nat)
/-! ### the exceptions of trims -/
structure A9 where
  T : Addr
  S : Addr
  I : Addr
  O : Addr
inductive E9 where
  | ent
  | trm
  | stump (i : Nat)
  | trim (i : Int)
  | other
def E9.cls (A : A9) : E9 → Addr
  | .ent => A.T
  | .trm => A.T
  | .stump _ => A.S
  | .trim _ => A.I
  | .other => A.O
def E9.fs : E9 → List (Str × V)
  | .ent => xfs ["what", "limit"] [.str "entries", .int 200] []
  | .trm => xfs ["what", "limit"] [.str "trims", .int 8] []
  | .stump i => xfs ["place"] [.int (i : Nat)] []
  | .trim i => xfs ["place"] [.int i] []
  | .other => []
def E9.tag : E9 → Nat
  | .ent => 0
  | .trm => 0
  | .stump _ => 1
  | .trim _ => 2
  | .other => 3
def tm9 : List V → Prop := fun vs => vs = [.str "entries", .int 200] ∨ vs = [.str "trims", .int 8]
def itP : List V → Prop := fun vs => ∃ i : Int, vs = [.int i] ∧ -2 ≤ i ∧ i ≤ 10000
structure X9 (P : Program) (w : World) (K : PySem.W.Frag) (mg : Str → Option Value) (A : A9) : Prop where
  xT : PySem.SupX.SupCls P w K mg "TooMany" A.T ["what", "limit"] tm9
  xS : PySem.SupX.SupCls P w K mg "InvalidStump" A.S ["place"] plP
  xI : PySem.SupX.SupCls P w K mg "InvalidTrim" A.I ["place"] itP
  gO : mg "OtherBed" = some (.ref A.O)
  qO : PySem.W.excIn K A.O He.veBase "ValueError.__new__" = true
  kO : PySem.W.keepIn K (.ref A.O) = true
  exO : PySem.W.subIn K (.ref A.O) (.type "BaseException") = some true
  tyO : PySem.W.typeIn K (.ref A.O) = some (.type "type")
/-- what is wanted where x is raised -/
def Rz9 (A : A9) (E : XK) (H : Hp) : E9 → Prop
  | .other => ∀ H', Same H H' → E (.ref A.O) none H'
  | x => ∀ H' d, Same H H' → H' d = none → E (.ref (x.cls A)) (some d) (upd H' d (.xd x.fs))
theorem Rz9.same {A : A9} {E : XK} {H H1 : Hp} {x : E9} (h : Rz9 A E H x) (s : Same H H1) : Rz9 A E H1 x := by
  cases x with
  | other => exact fun H' s' => h H' (s.trans s')
  | ent => exact fun H' d s' hd => h H' d (s.trans s') hd
  | trm => exact fun H' d s' hd => h H' d (s.trans s') hd
  | stump i => exact fun H' d s' hd => h H' d (s.trans s') hd
  | trim i => exact fun H' d s' hd => h H' d (s.trans s') hd
def Way9 (A : A9) (E : XK) (H : Hp) (o : Option E9) (ok : Prop) : Prop := match o with
  | none => ok
  | some x => Rz9 A E H x
theorem Way9.same {A : A9} {E : XK} {H H1 : Hp} {o : Option E9} {p q : Prop} (h : Way9 A E H o p) (s : Same H H1) (pq : p → q) : Way9 A E H1 o q := by
  cases o with
  | none => exact pq h
  | some x => exact Rz9.same h s
theorem ps_raiseO {X : Cx} {W : WX} {A : A9} {p pos pos2 : Pos} (x : X9 X.prog X.w X.K X.mg A) (hc : X.calm = true) (tk : Takes X W) (hg : Gl X "OtherBed" := by rfl) : PS X (.Raise (some (.Call (.Name "OtherBed" p) [] [] pos)) none pos2) (fun _ σ H => W (.ref A.O) none σ H) :=
  ps_raiseOwn0 hc tk PySem.F.excBase_ValueError x.qO x.gO x.kO (raises_own x.exO x.tyO) hg
/-! ### rows of names and numbers -/
inductive E2 where
  | k (z : Str)
  | i (n : Int)
  deriving DecidableEq
def e2V : E2 → V
  | .k z => .str z
  | .i n => .int n
def toE2 : Ent → E2
  | .k z => .k z
  | .n j => .i ((j : Nat) : Int)
theorem e2V_to (x : Ent) : e2V (toE2 x) = eV x := by cases x <;> rfl
def fl2 (f : E2 → Option Nat) : List E2 → Nat → Nat → Option Nat
  | [], 0, _ => none
  | [], _ + 1, i => some i
  | _ :: _, 0, i => some i
  | z :: r, n + 1, i => match f z with
    | none => some i
    | some k => fl2 f r (n + k) (i + 1)
/-- what an entry asks for: a leaf none, a kind its branches -/
def ask (rows : List Row) (lf : E2 → Bool) (x : E2) : Option Nat := if lf x = true then some 0 else match x with
  | .k z => if nmO rows z < 0 then none else some (wR rows z)
  | .i _ => none
theorem ask_leaf {rows : List Row} {lf : E2 → Bool} {x : E2} (h : lf x = true) : ask rows lf x = some 0 := by unfold ask; rw [if_pos h]
theorem ask_k {rows : List Row} {lf : E2 → Bool} {z : Str} (h : ¬ lf (.k z) = true) : ask rows lf (.k z) = if nmO rows z < 0 then none else some (wR rows z) := by unfold ask; rw [if_neg h]
theorem ask_i {rows : List Row} {lf : E2 → Bool} {j : Int} (h : ¬ lf (.i j) = true) : ask rows lf (.i j) = none := by unfold ask; rw [if_neg h]
def fault2 (rows : List Row) (lf : E2 → Bool) (l : List E2) : Option Nat := fl2 (ask rows lf) l 1 0
theorem fl2_le {f : E2 → Option Nat} : ∀ {l : List E2} {n i j : Nat}, fl2 f l n i = some j → i ≤ j ∧ j ≤ i + l.length
  | [], 0, i, j, h => by cases h
  | [], n + 1, i, j, h => by cases h; exact ⟨Nat.le_refl _, Nat.le_refl _⟩
  | z :: r, 0, i, j, h => by cases h; exact ⟨Nat.le_refl _, Nat.le_add_right _ _⟩
  | z :: r, n + 1, i, j, h => by
    unfold fl2 at h
    split at h
    · cases h; exact ⟨Nat.le_refl _, Nat.le_add_right _ _⟩
    · have := fl2_le h
      rw [List.length_cons]
      omega
def spFault9 (K : PySem.W.Frag) (C : Addr) : Sp := fun vs H Q _ => ∃ (b t e : Addr) (rows : List Row) (l : List E2) (lv : List V) (lf : E2 → Bool), vs = [.ref b, .ref t, .ref e] ∧ BedAt C H b rows ∧ ROk 8 rows ∧ Tq H t (l.map e2V) ∧ l.length ≤ 6000 ∧ SeqV K H e lv ∧ lv.all flatV = true ∧
  (∀ x, inV (e2V x) lv = lf x) ∧ ∀ H', Same H H' → Q (ansF (fault2 rows lf l)) H'
section
variable {P : Program} {w : World} {K : PySem.W.Frag} {mg : Str → Option Value} {base : Heap} {C : Addr}
theorem ok_fault_place9 (T : Bk mg) (B : BedT K C) (D : Def0 K mg "fault_place" s_fault_place) : DefOk P w K mg base CX0 1 "fault_place" (spFault9 K C) := by
  refine D.ok sc_fault_place (fun vs H Q E h => ?_) (fun _ _ _ _ _ _ us hl => match us, hl with | [_, _, _], _ => rfl) (fun f cdv A outer s H vs Q E hr h => ?_)
  · obtain ⟨b, t, e, rows, l, lv, lf, rfl, _⟩ := h
    rfl
  · obtain ⟨b, t, lq, rows, l, lv, lf, rfl, hB, R, ht, hsz, he, hf, hx, k⟩ := h
    have hu := hu_of hr
    have ll : (l.map e2V).length = l.length := List.length_map ..
    refine ⟨_, (pss_cons (ps_set (i := 3) sc_fault_place.nd rfl (Or.inl rfl) pe_int)
      (pss_cons (ps_for PassesOwn.never rfl (pi_enumT (by rfl) T.b_enumerate (pa_cons (pv 1) pa_nil)) (pg_tup (by rfl) (pgs_cons (pg_name (i := 4) sc_fault_place.nd rfl (Or.inl rfl)) (pgs_cons (pg_name (i := 5) sc_fault_place.nd rfl (Or.inl rfl)) pgs_nil)))
        (pss_cons (ps_if (pt_cmpR op_eq (pv 3) pe_int (nomark _))
          (pss_one (ps_ret (pv 4)))
          pss_nil)
        (pss_one (ps_if (pt_cmpR op_in_seq (pv 5) (pv 2) (by rfl))
          (pss_one (ps_set (i := 3) sc_fault_place.nd rfl (Or.inl rfl) (pe_op op_sub (pv 3) pe_int)))
          (pss_one (ps_if (pt_cmp (pc_din hu (pv 5) (pe_fld (pv 0) rfl)))
            (pss_one (ps_set (i := 3) sc_fault_place.nd rfl (Or.inl rfl) (pe_op op_add (pe_op op_sub (pv 3) pe_int) (pe_dget hu (pe_fld (pv 0) rfl) (pv 5) (fun _ _ => rfl)))))
            (pss_one (ps_ret (pv 4)))))))))
      (pss_one (ps_ret (pe_ifExp (pt_cmpR op_eq (pv 3) pe_int (nomark _)) pe_non (pe_callB call_len_seq (by rfl) T.b_len boot_len (pa_cons (pv 1) pa_nil))))))), ?_⟩
    refine ⟨_, rfl, t, _, rfl, ht.sq, for_it (walk_enumT (xs := l.map e2V)) (fun i σ H' => ∃ (x y : Option V) (n : Nat), σ = [some (.ref b), some (.ref t), some (.ref lq), some (.int (n : Nat)), x, y] ∧ Same H H' ∧ fl2 (ask rows lf) (l.drop i) n i = fault2 rows lf l)
      ⟨none, none, 1, rfl, Same.refl H, rfl⟩ (fun i σ H' _ ⟨_, _, _, _, q, _⟩ => (ht.same q).sq) ?_ ?_⟩
    · rintro i v σ H1 H2 hi ⟨x, y, n, rfl, s1, hfo⟩ ⟨P1, v1, v2, rfl, hP1, rfl, e1, e2⟩
      have hil : i < l.length := by rw [ll] at hi; exact hi
      cases e1
      have e2' : (l.map e2V)[i]? = some v2 := e2
      rw [List.getElem?_map, List.getElem?_eq_getElem hil] at e2'
      cases e2'
      have s2 := s1.upd_new (o := .tup [.int ((i : Nat) : Int), e2V l[i]]) hP1
      rw [List.drop_eq_getElem_cons hil] at hfo
      obtain ⟨dx, r, kk, ww, rk, ts, h1, h2, h3, h4, h5, h6⟩ := hB.same s2
      refine ⟨P1, _, rfl, SqT.of upd_same, rfl, _, _, rfl, _, _, rfl, rfl, ?_⟩
      refine ⟨_, rfl, rfl, _, rfl, ite2 (fun e => ?_) (fun e => ?_)⟩
      · have z := V.int.inj (of_decide_eq_true e)
        have z2 : n = 0 := by omega
        subst z2
        have q : some i = fault2 rows lf l := hfo
        have k2 := k _ s2
        rw [← q] at k2
        exact ⟨_, rfl, k2⟩
      obtain ⟨m, rfl⟩ : ∃ m, n = m + 1 := ⟨n - 1, by
        have : n ≠ 0 := fun q => e (by rw [q]; exact decide_eq_true rfl)
        omega⟩
      have hfo : (match ask rows lf l[i] with | none => some i | some k => fl2 (ask rows lf) (l.drop (i + 1)) (m + k) (i + 1)) = fault2 rows lf l := hfo
      refine ⟨_, rfl, _, rfl, lq, _, rfl, he _ s2, ?_, hf, _, rfl, ?_⟩
      · cases l[i] <;> rfl
      rw [hx]
      refine ite2 (fun c => ?_) (fun c => ?_)
      · have c : lf l[i] = true := c
        rw [ask_leaf c] at hfo
        refine ⟨_, rfl, _, _, rfl, rfl, some (.int ((i : Nat) : Int)), some (e2V l[i]), m, ?_, s2, hfo⟩
        rw [show ((m : Nat) : Int) = ((m + 1 : Nat) : Int) - 1 by omega]
        rfl
      · have c : ¬ lf l[i] = true := c
        have hgen : ∃ en, l[i] = en := ⟨_, rfl⟩
        obtain ⟨en, hen⟩ := hgen
        rw [hen] at hfo s2 c
        rw [hen]
        have h1' := h1
        have h5' := h5
        rw [hen] at h1' h5'
        cases en with
        | i j =>
          refine ⟨_, rfl, _, rfl, b, C, dx, _, _, rfl, h1', B.cl, B.nW, lk_widths _ _ _ _, ww, _, rfl, DGet.k (k := .inl j) h5', _, rfl, ?_⟩
          have e0 : valV (wL rows) (.inl j) = none := by
            unfold valV
            rw [List.find?_eq_none.mpr (fun kv hk => by
              obtain ⟨q, _, rfl⟩ := List.mem_map.mp hk
              simp)]
            rfl
          rw [e0]
          refine ifn (by decide) ?_
          rw [ask_i c] at hfo
          have k2 := k _ s2
          rw [← hfo] at k2
          exact ⟨_, rfl, k2⟩
        | k z =>
          refine ⟨_, rfl, _, rfl, b, C, dx, _, _, rfl, h1', B.cl, B.nW, lk_widths _ _ _ _, ww, _, rfl, DGet.k (k := .inr z) h5', _, rfl, ?_⟩
          rcases nm_case R z with q | q
          · rw [q.2.2.1]
            refine ifn (by decide) ?_
            rw [ask_k c] at hfo
            rw [if_pos (show nmO rows z < 0 by omega)] at hfo
            have k2 := k _ s2
            rw [← hfo] at k2
            exact ⟨_, rfl, k2⟩
          · rw [q.2.2.1]
            refine ifp rfl ?_
            rw [ask_k c] at hfo
            rw [if_neg (show ¬ nmO rows z < 0 by omega)] at hfo
            refine ⟨_, rfl, _, _, rfl, rfl, _, rfl, b, C, dx, _, _, rfl, h1', B.cl, B.nW, lk_widths _ _ _ _, _, rfl, ww, _, rfl, (by rw [← q.2.2.1]; exact DGet.k (k := .inr z) h5'), _, _, rfl, rfl, ?_⟩
            refine ⟨some (.int ((i : Nat) : Int)), some (.str z), m + wR rows z, ?_, s2, hfo⟩
            rw [show ((m + wR rows z : Nat) : Int) = ((m + 1 : Nat) : Int) - 1 + ((wR rows z : Nat) : Int) by omega]
            rfl
    · rintro σ H1 ⟨x, y, n, rfl, s1, hfo⟩
      rw [ll, List.drop_length] at hfo
      have k2 := k _ s1
      cases n with
      | zero =>
        have q : none = fault2 rows lf l := hfo
        rw [← q] at k2
        exact ⟨_, rfl, rfl, _, rfl, ifp (by simp) k2⟩
      | succ m =>
        have q : some l.length = fault2 rows lf l := hfo
        rw [← q] at k2
        refine ⟨_, rfl, rfl, _, rfl, ifn (fun c => ?_) ⟨_, rfl, t, _, rfl, .inr ((ht.same s1).sq), ?_⟩⟩
        · have := V.int.inj (of_decide_eq_true c)
          omega
        · rw [ll]
          exact k2
end
end Sh
end
section
set_option Elab.async false
set_option linter.all false
set_option maxRecDepth 100000
set_option maxHeartbeats 2000000
namespace L2
open PySem PySem.Spec PyProof.Rows
/-- a bound of a slice that is None or a number -/
theorem po_anyV {X : Cx} {e : Expr} {te : TE} (h : PE X e te) : PO X (some e) (fun σ H Q => te σ H fun x H1 => (x = .non ∧ Q none H1) ∨ (∃ i, x = .int i ∧ Q (some i) H1)) := by
  refine ⟨fun pins s σ H Q I hw => ?_⟩
  rw [evalPart_some]
  refine thn (h.run pins s σ H _ I hw) fun u s1 ⟨x, H1, I1, r1, q1⟩ => ?_
  rcases q1 with ⟨rfl, q⟩ | ⟨i, rfl, q⟩
  · obtain rfl : u = Value.none := r1
    exact ⟨none, H1, I1, .none, q⟩
  · obtain ⟨t, rfl⟩ := r1
    exact ⟨some i, H1, I1, .int i t, q⟩
end L2
namespace Sh
open PySem PySem.Spec PyProof.Rows L2
open C8 (pss_cut tCut)
open Evl (ixN_nat)
/-! ### what a result is refused for -/
def lfN (h : Nat) : E2 → Bool
  | .i n => decide (0 ≤ n ∧ n < ((h : Nat) : Int))
  | .k _ => false
def lfS (x : E2) : Bool := decide (x = .k "*")
def repAt (l : List E2) (p : Nat) : Bool := match l[p]? with
  | some (.i n) => decide (E2.i n ∈ l.take p)
  | _ => false
def resF (rows : List Row) (h : Nat) (l : List E2) : Option Nat := match (List.range ((fault2 rows (lfN h) l).getD l.length)).find? (repAt l) with
  | some p => some p
  | none => fault2 rows (lfN h) l
def kn9 (rows : List Row) : E2 → Bool
  | .k z => !decide (nmO rows z < 0)
  | .i _ => false
def tdue (rows : List Row) (s : List Str) (l : List E2) : Option E9 :=
  if 200 < s.length ∨ 200 < l.length then some .ent
  else match fault2 rows lfS (s.map .k) with
    | some i => some (.stump i)
    | none => if s = [("*" : Str)] then some (.trim (-1)) else match resF rows (s.count ("*" : Str)) l with
      | some i => some (.trim (i : Nat))
      | none => if (s.map E2.k).countP (kn9 rows) ≤ l.countP (kn9 rows) then some (.trim (-2)) else none
theorem fault2_le {rows : List Row} {lf : E2 → Bool} {l : List E2} {i : Nat} (h : fault2 rows lf l = some i) : i ≤ l.length := by
  have := fl2_le h
  omega
theorem inV_e2 : ∀ (x : E2) (l : List E2), inV (e2V x) (l.map e2V) = decide (x ∈ l)
  | x, [] => by simp [inV]
  | x, y :: r => by
    have ih := inV_e2 x r
    have e : inV (e2V x) ((y :: r).map e2V) = (eqV (e2V y) (e2V x) || inV (e2V x) (r.map e2V)) := rfl
    rw [e, ih]
    have e2 : eqV (e2V y) (e2V x) = decide (x = y) := by
      cases x with
      | k z =>
        cases y with
        | k u =>
          have h : inV (.str z) ([u].map V.str) = decide (z ∈ [u]) := inV_str z [u]
          have h2 : inV (.str z) ([u].map V.str) = (eqV (.str u) (.str z) || false) := rfl
          rw [h2, Bool.or_false] at h
          show eqV (.str u) (.str z) = _
          rw [h]
          simp
        | i n => show false = _; simp
      | i m =>
        cases y with
        | k u => show false = _; simp
        | i n =>
          have h : inV (.int m) ([n].map V.int) = decide (m ∈ [n]) := mem_map_ints (ws := [n]) (n := m)
          have h2 : inV (.int m) ([n].map V.int) = (eqV (.int n) (.int m) || false) := rfl
          rw [h2, Bool.or_false] at h
          show eqV (.int n) (.int m) = _
          rw [h]
          simp
    rw [e2]
    simp [List.mem_cons]
theorem flat_e2 (l : List E2) : (l.map e2V).all flatV = true := by
  rw [List.all_eq_true]
  intro v hv
  obtain ⟨i, _, rfl⟩ := List.mem_map.mp hv
  cases i <;> rfl
theorem inV_lfN (h : Nat) (x : E2) : inV (e2V x) (nV (List.range h)) = lfN h x := by
  cases x with
  | k z => exact (inV_nV (.str z) (List.range h)).1 z rfl
  | i n =>
    have e : nV (List.range h) = ((List.range h).map fun i => ((i : Nat) : Int)).map V.int := by
      unfold nV
      rw [List.map_map]
      rfl
    show inV (.int n) (nV (List.range h)) = _
    rw [e, mem_map_ints]
    refine decide_eq_decide.mpr ⟨fun q => ?_, fun q => ?_⟩
    · obtain ⟨j, hj, e⟩ := List.mem_map.mp q
      have := List.mem_range.mp hj
      omega
    · exact List.mem_map.mpr ⟨n.toNat, List.mem_range.mpr (by omega), by omega⟩
def spKnots9 (C : Addr) : Sp := fun vs H Q _ => ∃ (b t : Addr) (rows : List Row) (l : List E2), vs = [.ref b, .ref t] ∧ BedAt C H b rows ∧ ROk 8 rows ∧ Tq H t (l.map e2V) ∧ l.length ≤ 6000 ∧ ∀ H', Same H H' → Q (.int ((l.countP (kn9 rows) : Nat))) H'
def spResF9 (C : Addr) : Sp := fun vs H Q _ => ∃ (b t : Addr) (rows : List Row) (l : List E2) (h : Nat), vs = [.ref b, .int (h : Nat), .ref t] ∧ BedAt C H b rows ∧ ROk 8 rows ∧ Tq H t (l.map e2V) ∧ l.length ≤ 6000 ∧ h ≤ 6000 ∧ ∀ H', Same H H' → Q (ansF (resF rows h l)) H'
def spChk9 (C : Addr) (A : A9) : Sp := fun vs H Q E => ∃ (b t u : Addr) (rows : List Row) (s : List Str) (l : List E2), vs = [.ref b, .ref t, .ref u] ∧ BedAt C H b rows ∧ ROk 8 rows ∧ Tz H t (sV s) ∧ Tq H u (l.map e2V) ∧ s.length ≤ 6000 ∧ l.length ≤ 6000 ∧ (∀ z ∈ s, PyData.strOk z = true) ∧
  Way9 A E H (tdue rows s l) (∀ H', Same H H' → Q .non H')
section
variable {P : Program} {w : World} {K : PySem.W.Frag} {mg : Str → Option Value} {base : Heap} {C : Addr} {A : A9}
theorem ok_knots9 (T : Bk mg) (B : BedT K C) (D : Def0 K mg "knots_in" s_knots_in) : DefOk P w K mg base CX0 1 "knots_in" (spKnots9 C) := by
  refine D.ok sc_knots_in (fun vs H Q E h => ?_) (fun _ _ _ _ _ _ us hl => match us, hl with | [_, _], _ => rfl) (fun f cdv A outer s H vs Q E hr h => ?_)
  · obtain ⟨b, t, rows, l, rfl, _⟩ := h
    rfl
  · obtain ⟨b, t, rows, l, rfl, hB, R, ht, hsz, k⟩ := h
    have hu := hu_of hr
    refine ⟨_, (pss_one (ps_ret (pe_callB call_len_seq (by rfl) T.b_len boot_len (pa_cons (pe_lc (own := [("entry", 2)]) (g := (gName 2)) rfl sc_knots_in.nd (pi_tup (pv 1)) (blkOk_by (N := N_knots_in) (sc := defScope s_knots_in) (by decide +kernel)) (fun _ _ _ _ _ => (pg_name (i := 2) sc_knots_in.nd rfl (Or.inl rfl))) (fun _ _ _ _ _ => (pts_one (pt_cmp (pc_din hu (pv 2) (show PE _ _ (tFld K _ _) from pe_fld (pv 0) rfl))))) (fun _ _ _ _ _ => (pv 2))) pa_nil)))), ?_⟩
    refine ⟨_, rfl, t, rfl, ⟨_, ht.sq⟩, fun D hD => lc_it (walk_tup (xs := l.map e2V)) (fun i H' => Same H H' ∧ H' D = some (.lst (((l.take i).filter (kn9 rows)).map e2V)))
      ⟨(Same.refl H).upd_new hD, upd_same⟩ (fun i H' _ ⟨q, _⟩ => (ht.same q).sq) ?_ ?_⟩
    · rintro i v H1 H2 hi ⟨s1, d1⟩ ⟨rfl, hv⟩
      obtain ⟨x, hx, rfl⟩ := get_map hv
      have et := flt_snoc (p := kn9 rows) hx
      obtain ⟨dx, r, kk, ww, rk, ts, h1, h2, h3, h4, h5, h6⟩ := hB.same s1
      have hil := lt_of_get hx
      cases x with
      | i j =>
        refine ⟨rfl, _, rfl, _, rfl, b, C, dx, _, _, rfl, h1, B.cl, B.nW, lk_widths _ _ _ _, ww, _, rfl, DGet.k (k := .inl j) h5, _, rfl, ?_⟩
        have e0 : valV (wL rows) (.inl j) = none := by
          unfold valV
          rw [List.find?_eq_none.mpr (fun kv hk => by
            obtain ⟨q, _, rfl⟩ := List.mem_map.mp hk
            simp)]
          rfl
        rw [e0]
        refine ifn (by decide) ⟨s1, ?_⟩
        rw [et, if_neg (by show ¬ (false = true); decide), List.append_nil]
        exact d1
      | k z =>
        refine ⟨rfl, _, rfl, _, rfl, b, C, dx, _, _, rfl, h1, B.cl, B.nW, lk_widths _ _ _ _, ww, _, rfl, DGet.k (k := .inr z) h5, _, rfl, ?_⟩
        rcases nm_case R z with q | q
        · rw [q.2.2.1]
          refine ifn (by decide) ⟨s1, ?_⟩
          rw [et, if_neg (by show ¬ (!decide (nmO rows z < 0)) = true; rw [decide_eq_true (show nmO rows z < 0 by omega)]; decide), List.append_nil]
          exact d1
        · rw [q.2.2.1]
          refine ifp rfl ⟨_, rfl, _, d1, ?_, s1.upd_own hD, ?_⟩
          · rw [List.length_map]
            refine lt_line (Nat.le_trans (List.length_filter_le _ _) ?_)
            rw [List.length_take]
            omega
          · rw [upd_same, et, if_pos (show kn9 rows (.k z) = true by show (!decide (nmO rows z < 0)) = true; rw [decide_eq_false (show ¬ nmO rows z < 0 by omega)]; rfl), List.map_append]
            rfl
    · rintro H1 ⟨s1, d1⟩
      rw [List.length_map, List.take_length] at d1
      refine ⟨D, _, rfl, .inl (SqL.of d1), ?_⟩
      have q := k _ s1
      rw [List.countP_eq_length_filter] at q
      rw [List.length_map]
      exact q
theorem ok_result_fault9 (T : Bk mg) (c_fault_place : DefOk P w K mg base CX0 1 "fault_place" (spFault9 K C)) (D : Def0 K mg "result_fault" s_result_fault) : DefOk P w K mg base CX0 2 "result_fault" (spResF9 C) := by
  refine D.ok sc_result_fault (fun vs H Q E h => ?_) (fun _ _ _ _ _ _ us hl => match us, hl with | [_, _, _], _ => rfl) (fun f cdv A outer s H vs Q E hr h => ?_)
  · obtain ⟨b, t, rows, l, h, rfl, _⟩ := h
    rfl
  · obtain ⟨b, t, rows, l, hh, rfl, hB, R, ht, hsz, h6, k⟩ := h
    have ll : (l.map e2V).length = l.length := List.length_map ..
    refine ⟨_, (pss_cons (ps_set (i := 3) sc_result_fault.nd rfl (Or.inl rfl) (pe_d c_fault_place (hr.mono (by decide)) pass0 (pa_cons (pv 0) (pa_cons (pv 2) (pa_cons (pe_listRg rfl (by rfl) T.b_list (prg_1 (by rfl) T.b_range (pv 1))) pa_nil)))))
      (pss_cons (ps_for PassesOwn.never rfl (pi_enumT (by rfl) T.b_enumerate (pa_cons (pe_slice sl_tupA (pv 2) po_none (po_anyV (pv 3))) pa_nil)) (pg_tup (by rfl) (pgs_cons (pg_name (i := 4) sc_result_fault.nd rfl (Or.inl rfl)) (pgs_cons (pg_name (i := 5) sc_result_fault.nd rfl (Or.inl rfl)) pgs_nil)))
        (pss_one (ps_if (PW.pt (pw_and (pt_val (pe_callB call_isi (by rfl) T.b_isinstance (by decide +kernel) (pa_cons (pv 5) (pa_cons (pe_bltn (v := .ty "int") (by rfl) T.b_int boot_int rfl) pa_nil)))) (pw_and1 (pt_cmpR op_in_seq (pv 5) (pe_slice sl_tupA (pv 2) po_none (po_some (pv 4))) (by rfl)))))
          (pss_one (ps_ret (pv 4)))
          pss_nil)))
      (pss_one (ps_ret (pv 3))))), ?_⟩
    refine ⟨_, rfl, _, rfl, _, rfl, _, rfl, .of_le (by omega) (by omega) (by omega) (by omega), fun F hF => ?_⟩
    have e0 : rgV 0 ((hh : Nat) : Int) = nV (List.range hh) := by
      unfold rgV nV
      rw [show (((hh : Nat) : Int) - 0).toNat = hh by omega]
      exact List.map_congr_left fun i _ => by rw [Int.zero_add]
    rw [e0]
    have s1 : Same H (upd H F (.lst (nV (List.range hh)))) := (Same.refl H).upd_new hF
    have f1 : (upd H F (.lst (nV (List.range hh)))) F = some (.lst (nV (List.range hh))) := upd_same
    generalize upd H F (.lst (nV (List.range hh))) = H1 at s1 f1
    refine ⟨b, t, F, rows, l, nV (List.range hh), lfN hh, rfl, hB.same s1, R, ht.same s1, hsz, fun H' s' => .inl (SqL.of (s' _ _ f1)), flat_nV _, inV_lfN hh, fun H2 s2 => ?_⟩
    have s02 := s1.trans s2
    have t2 := ht.same s02
    generalize hfp : fault2 rows (lfN hh) l = fp
    have hb : fp.getD l.length ≤ l.length := by
      cases fp with
      | none => exact Nat.le_refl _
      | some i => exact fault2_le hfp
    have hres : ∀ p, (List.range (fp.getD l.length)).find? (repAt l) = p → resF rows hh l = match p with | some p => some p | none => fp := fun p hp => by
      unfold resF
      rw [hfp, hp]
    generalize hB' : fp.getD l.length = B at hb hres
    cases fp with
    | none =>
      have eB : B = l.length := hB'.symm
      refine ⟨_, rfl, _, rfl, .inl ⟨rfl, sl_all t2 ?_⟩⟩
      have s3 := s02
      have z3 : Tq H2 t ((l.take B).map e2V) := by rw [eB, List.take_length]; exact t2
      refine ⟨t, _, rfl, z3.sq, for_it (walk_enumT (xs := (l.take B).map e2V)) (fun i σ H' => ∃ x y : Option V, σ = [some (.ref b), some (.int (hh : Nat)), some (.ref t), some .non, x, y] ∧ Same H2 H' ∧ ∀ j, j < i → repAt l j = false)
        ⟨none, none, rfl, Same.refl _, fun j h => absurd h (Nat.not_lt_zero _)⟩ (fun i σ H' _ ⟨_, _, _, q, _⟩ => (z3.same q).sq) ?_ ?_⟩
      · rintro i v σ H4 H5 hi ⟨x, y, rfl, s4, hrep⟩ ⟨P1, v1, v2, rfl, hP1, rfl, e1, e2⟩
        have hiB : i < B := by rw [List.length_map, List.length_take] at hi; omega
        have hil : i < l.length := by omega
        cases e1
        have e2' : ((l.take B).map e2V)[i]? = some v2 := e2
        rw [List.getElem?_map, List.getElem?_take_of_lt hiB, List.getElem?_eq_getElem hil] at e2'
        cases e2'
        have s5 := s4.upd_new (o := .tup [.int ((i : Nat) : Int), e2V l[i]]) hP1
        have hP5 : (upd H4 P1 (.tup [.int ((i : Nat) : Int), e2V l[i]])) P1 = some (.tup [.int ((i : Nat) : Int), e2V l[i]]) := upd_same
        have t5 := ht.same (s3.trans s5)
        refine ⟨P1, _, rfl, SqT.of upd_same, rfl, _, _, rfl, _, _, rfl, rfl, ?_⟩
        have er : ∀ bb, repAt l i = bb → bb = false → ∀ j, j < i + 1 → repAt l j = false := fun bb h1 h2 j hj => by
          rcases Nat.lt_succ_iff_lt_or_eq.mp hj with q | q
          · exact hrep j q
          · rw [q, h1, h2]
        obtain ⟨en, hen⟩ : ∃ en, l[i] = en := ⟨_, rfl⟩
        have hg : l[i]? = some en := by rw [List.getElem?_eq_getElem hil, hen]
        rw [hen] at s5 t5
        rw [hen]
        cases en with
        | k z =>
          refine ⟨_, rfl, _, _, _, _, false, rfl, .ty _, .base (.str _), rfl, _, rfl, ifn (by decide) ⟨_, _, rfl, s5, er false ?_ rfl⟩⟩
          unfold repAt
          rw [hg]
        | i n =>
          have hra : repAt l i = decide (E2.i n ∈ l.take i) := by
            unfold repAt
            rw [hg]
          refine ⟨_, rfl, _, _, _, _, true, rfl, .ty _, .base (.int _), rfl, _, rfl, ifp rfl ?_⟩
          refine ⟨_, rfl, _, rfl, _, rfl, _, rfl, sl_to (j := i) t5 (by rw [ll]; omega) fun p H6 s6 z6 => ?_⟩
          rw [← List.map_take] at z6
          refine ⟨p, _, rfl, .inr z6.sq, rfl, flat_e2 _, _, rfl, ?_⟩
          rw [inV_e2]
          refine ite2 (fun e => ?_) (fun e => ?_)
          · have hf : (List.range B).find? (repAt l) = some i := List.find?_range_eq_some.mpr ⟨by rw [hra]; exact e, List.mem_range.mpr hiB, fun j hj => by rw [hrep j hj]; rfl⟩
            have k2 := k _ ((s3.trans s5).trans s6)
            rw [hres _ hf] at k2
            exact ⟨_, rfl, k2⟩
          · exact ⟨_, _, rfl, s5.trans s6, er _ hra (by rw [decide_eq_false (fun q => e (decide_eq_true q))])⟩
      · rintro σ H4 ⟨x, y, rfl, s4, hrep⟩
        rw [List.length_map, List.length_take, show min B l.length = B by omega] at hrep
        have hf : (List.range B).find? (repAt l) = none := List.find?_range_eq_none.mpr fun j hj => by rw [hrep j hj]; rfl
        have k2 := k _ (s3.trans s4)
        rw [hres _ hf] at k2
        exact ⟨_, rfl, k2⟩
    | some fi =>
      have eB : B = fi := hB'.symm
      subst eB
      refine ⟨_, rfl, _, rfl, .inr ⟨_, rfl, sl_to t2 (by rw [ll]; exact hb) fun c H3 s23 z3 => ?_⟩⟩
      have s3 := s02.trans s23
      rw [← List.map_take] at z3
      refine ⟨c, _, rfl, z3.sq, for_it (walk_enumT (xs := (l.take B).map e2V)) (fun i σ H' => ∃ x y : Option V, σ = [some (.ref b), some (.int (hh : Nat)), some (.ref t), some (.int (B : Nat)), x, y] ∧ Same H3 H' ∧ ∀ j, j < i → repAt l j = false)
        ⟨none, none, rfl, Same.refl _, fun j h => absurd h (Nat.not_lt_zero _)⟩ (fun i σ H' _ ⟨_, _, _, q, _⟩ => (z3.same q).sq) ?_ ?_⟩
      · rintro i v σ H4 H5 hi ⟨x, y, rfl, s4, hrep⟩ ⟨P1, v1, v2, rfl, hP1, rfl, e1, e2⟩
        have hiB : i < B := by rw [List.length_map, List.length_take] at hi; omega
        have hil : i < l.length := by omega
        cases e1
        have e2' : ((l.take B).map e2V)[i]? = some v2 := e2
        rw [List.getElem?_map, List.getElem?_take_of_lt hiB, List.getElem?_eq_getElem hil] at e2'
        cases e2'
        have s5 := s4.upd_new (o := .tup [.int ((i : Nat) : Int), e2V l[i]]) hP1
        have hP5 : (upd H4 P1 (.tup [.int ((i : Nat) : Int), e2V l[i]])) P1 = some (.tup [.int ((i : Nat) : Int), e2V l[i]]) := upd_same
        have t5 := ht.same (s3.trans s5)
        refine ⟨P1, _, rfl, SqT.of upd_same, rfl, _, _, rfl, _, _, rfl, rfl, ?_⟩
        have er : ∀ bb, repAt l i = bb → bb = false → ∀ j, j < i + 1 → repAt l j = false := fun bb h1 h2 j hj => by
          rcases Nat.lt_succ_iff_lt_or_eq.mp hj with q | q
          · exact hrep j q
          · rw [q, h1, h2]
        obtain ⟨en, hen⟩ : ∃ en, l[i] = en := ⟨_, rfl⟩
        have hg : l[i]? = some en := by rw [List.getElem?_eq_getElem hil, hen]
        rw [hen] at s5 t5
        rw [hen]
        cases en with
        | k z =>
          refine ⟨_, rfl, _, _, _, _, false, rfl, .ty _, .base (.str _), rfl, _, rfl, ifn (by decide) ⟨_, _, rfl, s5, er false ?_ rfl⟩⟩
          unfold repAt
          rw [hg]
        | i n =>
          have hra : repAt l i = decide (E2.i n ∈ l.take i) := by
            unfold repAt
            rw [hg]
          refine ⟨_, rfl, _, _, _, _, true, rfl, .ty _, .base (.int _), rfl, _, rfl, ifp rfl ?_⟩
          refine ⟨_, rfl, _, rfl, _, rfl, _, rfl, sl_to (j := i) t5 (by rw [ll]; omega) fun p H6 s6 z6 => ?_⟩
          rw [← List.map_take] at z6
          refine ⟨p, _, rfl, .inr z6.sq, rfl, flat_e2 _, _, rfl, ?_⟩
          rw [inV_e2]
          refine ite2 (fun e => ?_) (fun e => ?_)
          · have hf : (List.range B).find? (repAt l) = some i := List.find?_range_eq_some.mpr ⟨by rw [hra]; exact e, List.mem_range.mpr hiB, fun j hj => by rw [hrep j hj]; rfl⟩
            have k2 := k _ ((s3.trans s5).trans s6)
            rw [hres _ hf] at k2
            exact ⟨_, rfl, k2⟩
          · exact ⟨_, _, rfl, s5.trans s6, er _ hra (by rw [decide_eq_false (fun q => e (decide_eq_true q))])⟩
      · rintro σ H4 ⟨x, y, rfl, s4, hrep⟩
        rw [List.length_map, List.length_take, show min B l.length = B by omega] at hrep
        have hf : (List.range B).find? (repAt l) = none := List.find?_range_eq_none.mpr fun j hj => by rw [hrep j hj]; rfl
        have k2 := k _ (s3.trans s4)
        rw [hres _ hf] at k2
        exact ⟨_, rfl, k2⟩
end
end Sh
end
section
set_option Elab.async false
set_option linter.all false
set_option maxRecDepth 100000
set_option maxHeartbeats 2000000
namespace L2
open PySem PySem.Spec PyProof.Rows
theorem passAtL {X : Cx} : ∀ σ, PassesAt (L2.CX X.prog X.w) X σ ((fun _ => E0 : St → XK) σ) := fun σ pins H s e s' I c => passL pins σ H s e s' I c
end L2
namespace Sh
open PySem PySem.Spec PyProof.Rows L2
open C8 (pss_cut tCut)
open Evl (ixN_nat)
theorem eqv_rows9 : ∀ rows rows' : List Row, PyData.eqvAll (rows.map rowD) (rows'.map rowD) = decide (rows = rows')
  | [], [] => by simp [PyData.eqvAll]
  | [], _ :: _ => by simp [PyData.eqvAll]
  | _ :: _, [] => by simp [PyData.eqvAll]
  | (z, n) :: r, (z', n') :: r' => by
    rw [List.map_cons, List.map_cons, PyData.eqvAll, eqv_rows9 r r']
    have e : PyData.eqv (rowD (z, n)) (rowD (z', n')) = decide ((z, n) = (z', n')) := by
      simp [rowD, PyData.eqv, PyData.eqvAll]
      by_cases h : z = z' <;> by_cases h2 : n = n' <;> simp [h, h2]
    rw [e]
    by_cases h : (z, n) = (z', n') <;> by_cases h2 : r = r' <;> simp [h, h2]
def spSame9 (C : Addr) : Sp := fun vs H Q _ => ∃ (a b : Addr) (rows rows' : List Row), vs = [.ref a, .ref b] ∧ BedAt C H a rows ∧ BedAt C H b rows' ∧ ROk 8 rows ∧ ROk 8 rows' ∧ Q (.bl (decide (rows = rows'))) H
def SmOk9 (P : Program) (w : World) (K : PySem.W.Frag) (mg : Str → Option Value) (base : Heap) (C : Addr) : Prop := ∃ f, Meth K C "same" f ∧ FnR P w K mg base CX0 1 f (spSame9 C)
def bdue (r0 : List Row) (rs : List (List Row)) : Option E9 := if rs.all (fun r => decide (r0 = r)) = true then none else some .other
def BedsX (C : Addr) (H : Hp) (bs : List Addr) (rs : List (List Row)) : Prop := bs.length = rs.length ∧ ∀ (i : Nat) (b : Addr) (r : List Row), bs[i]? = some b → rs[i]? = some r → BedAt C H b r
def spBeds9 (C : Addr) (A : A9) : Sp := fun vs H Q E => ∃ (t b0 : Addr) (r0 : List Row) (bs : List Addr) (rs : List (List Row)), vs = [.ref t] ∧ H t = some (.lst ((b0 :: bs).map V.ref)) ∧ BedAt C H b0 r0 ∧ BedsX C H bs rs ∧ ROk 8 r0 ∧ (∀ r ∈ rs, ROk 8 r) ∧ bs.length ≤ 1000 ∧ Way9 A E H (bdue r0 rs) (∀ H', Same H H' → Q .non H')
/-- a trim over whatever bed -/
abbrev T9 := List Row × List Str × List E2
def TrmX (C CT : Addr) (H : Hp) (p : Addr) (q : T9) : Prop := ∃ dx b t u, H p = some (.ins CT dx (trF b t u)) ∧ BedAt C H b q.1 ∧ Tz H t (sV q.2.1) ∧ Tq H u (q.2.2.map e2V)
def TrmsX (C CT : Addr) (H : Hp) (ps : List Addr) (qs : List T9) : Prop := ps.length = qs.length ∧ ∀ (i : Nat) (p : Addr) (q : T9), ps[i]? = some p → qs[i]? = some q → TrmX C CT H p q
def HeldX (C CT CS : Addr) (H : Hp) (p : Addr) (r0 : List Row) (z : V) (qs : List T9) : Prop := ∃ (dx b tt : Addr) (ps : List Addr), H p = some (.ins CS dx (tsF b tt z)) ∧ H tt = some (.tup (ps.map V.ref)) ∧ TrmsX C CT H ps qs ∧ BedAt C H b r0
theorem TrmX.same {C CT : Addr} {H H' : Hp} {p : Addr} {q : T9} (x : TrmX C CT H p q) (s : Same H H') : TrmX C CT H' p q := by
  obtain ⟨dx, b, t, u, h1, h2, h3, h4⟩ := x
  exact ⟨dx, b, t, u, s _ _ h1, h2.same s, h3.same s, h4.same s⟩
theorem TrmsX.same {C CT : Addr} {H H' : Hp} {ps : List Addr} {qs : List T9} (x : TrmsX C CT H ps qs) (s : Same H H') : TrmsX C CT H' ps qs := ⟨x.1, fun i p q h1 h2 => (x.2 i p q h1 h2).same s⟩
theorem HeldX.same {C CT CS : Addr} {H H' : Hp} {p : Addr} {r0 : List Row} {z : V} {qs : List T9} (x : HeldX C CT CS H p r0 z qs) (s : Same H H') : HeldX C CT CS H' p r0 z qs := by
  obtain ⟨dx, b, tt, ps, h1, h2, h3, h4⟩ := x
  exact ⟨dx, b, tt, ps, s _ _ h1, s _ _ h2, h3.same s, h4.same s⟩
theorem tq_kx {x D dx t : Addr} {H H' : Hp} {xs : List V} {fs : List (Str × V)} (z : Tq H t xs) (hx : H x = some (.ins D dx fs)) (k : Kp x H H') : Tq H' t xs := by
  rcases z with z | ⟨o, z⟩
  · exact .inl (k _ _ z (ne_of z hx (fun e => nomatch e)))
  · exact .inr ⟨o, k _ _ z (ne_of z hx (fun e => nomatch e))⟩
theorem TrmX.kx {C CT x D dx : Addr} {H H' : Hp} {p : Addr} {q : T9} (y : TrmX C CT H p q) (hx : H x = some (.ins D dx [])) (k : Kp x H H') : TrmX C CT H' p q := by
  obtain ⟨dx', b, t, u, h1, h2, h3, h4⟩ := y
  exact ⟨dx', b, t, u, k _ _ h1 (ne_of h1 hx (fun e => by unfold trF at e; cases e)), h2.kx hx k, tz_kx h3 hx k, tq_kx h4 hx k⟩
def sdue (r0 : List Row) (qs : List T9) : Option E9 := match bdue r0 (qs.map (·.1)) with
  | some x => some x
  | none => if 8 < qs.length then some .trm else none
def spTrimI9 (C CT : Addr) (A : A9) : Sp := fun vs H Q E => ∃ (x dx b t u : Addr) (rows : List Row) (s : List Str) (l : List E2), vs = [.ref x, .ref b, .ref t, .ref u] ∧ H x = some (.ins CT dx []) ∧ BedAt C H b rows ∧ ROk 8 rows ∧ Tz H t (sV s) ∧ Tq H u (l.map e2V) ∧ s.length ≤ 6000 ∧ l.length ≤ 6000 ∧ (∀ z ∈ s, PyData.strOk z = true) ∧
  Way9 A E H (tdue rows s l) (∀ H', Kp x H H' → TrmX C CT H' x (rows, s, l) → Q .non H')
def spTrimsI9 (C CT CS : Addr) (A : A9) : Sp := fun vs H Q E => ∃ (x dx b p : Addr) (z : V) (ps : List Addr) (r0 : List Row) (qs : List T9), vs = [.ref x, .ref b, z, .ref p] ∧ H x = some (.ins CS dx []) ∧ H p = some (.tup (ps.map V.ref)) ∧ TrmsX C CT H ps qs ∧ BedAt C H b r0 ∧ ROk 8 r0 ∧ (∀ q ∈ qs, ROk 8 q.1) ∧ qs.length ≤ 100 ∧
  Way9 A E H (sdue r0 qs) (∀ H', Kp x H H' → HeldX C CT CS H' x r0 z qs → Q .non H')
section
variable {P : Program} {w : World} {K : PySem.W.Frag} {mg : Str → Option Value} {base : Heap} {C CT CS : Addr} {A : A9}
theorem ok_check_trim9 (T : Bm mg) (x9 : X9 P w K mg A) (c_fault_place : DefOk P w K mg base CX0 1 "fault_place" (spFault9 K C)) (c_result_fault : DefOk P w K mg base CX0 2 "result_fault" (spResF9 C)) (c_knots_in : DefOk P w K mg base CX0 1 "knots_in" (spKnots9 C)) (D : Def0 K mg "check_trim" s_check_trim) : DefOk P w K mg base (L2.CX P w) 3 "check_trim" (spChk9 C A) := by
  have x_TooMany := x9.xT
  have x_InvalidStump := x9.xS
  have x_InvalidTrim := x9.xI
  refine D.okX sc_check_trim (fun vs H Q E h => ?_) (fun _ _ _ _ _ _ us hl => match us, hl with | [_, _, _], _ => rfl) (fun f cdv A' outer s' H vs Q E hr h => ?_)
  · obtain ⟨b, t, u, rows, s, l, rfl, _⟩ := h
    rfl
  · obtain ⟨b, t, u, rows, s, l, rfl, hB, R, ht, hu', s6, l6, sok, k⟩ := h
    have ls : (sV s).length = s.length := by rw [sV, List.length_map]
    have le : (l.map e2V).length = l.length := List.length_map ..
    refine ⟨_, (pss_cons (ps_if (PW.pt (pw_or (pt_cmpR op_gt (pe_callB call_len_seq (by rfl) T.b_len boot_len (pa_cons (pv 1) pa_nil)) (pe_cI (by rfl) T.c_MOST_ENTRIES) (nomark _)) (pw_or1 (pt_cmpR op_gt (pe_callB call_len_seq (by rfl) T.b_len boot_len (pa_cons (pv 2) pa_nil)) (pe_cI (by rfl) T.c_MOST_ENTRIES) (nomark _)))))
        (pss_one (ps_raiseSup rfl x_TooMany hr (takes_of rfl rfl rfl rfl) (pa_cons pe_str (pa_cons (pe_cI (by rfl) T.c_MOST_ENTRIES) pa_nil))))
        pss_nil)
      (pss_cons (ps_set (i := 3) sc_check_trim.nd rfl (Or.inl rfl) (pe_d c_fault_place (hr.mono (by decide)) pass0 (pa_cons (pv 0) (pa_cons (pv 1) (pa_cons (pe_tupF (pa_cons (pe_cS (by rfl) T.c_HOLE) pa_nil)) pa_nil)))))
      (pss_cons (ps_if (pt_cmpR op_notN (pv 3) pe_non (nomark _))
        (pss_one (ps_raiseSup rfl x_InvalidStump hr (takes_of rfl rfl rfl rfl) (pa_cons (pv 3) pa_nil)))
        pss_nil)
      (pss_cons (ps_if (pt_cmpR (op_eqD hr.units) (pv 1) (pe_tupF (pa_cons (pe_cS (by rfl) T.c_HOLE) pa_nil)) (nomark _))
        (pss_one (ps_raiseSup rfl x_InvalidTrim hr (takes_of rfl rfl rfl rfl) (pa_cons (pe_un un_neg pe_int) pa_nil)))
        pss_nil)
      (pss_cons (ps_set (i := 3) sc_check_trim.nd rfl (Or.inl rfl) (pe_d c_result_fault (hr.mono (by decide)) pass0 (pa_cons (pv 0) (pa_cons (pe_mG ty_Z PySem.F.plainAttrs_tuple PySem.F.slot_tuple_count PySem.F.type_tuple_count mt_tcount (pv 1) (pa_cons (pe_cS (by rfl) T.c_HOLE) pa_nil)) (pa_cons (pv 2) pa_nil)))))
      (pss_cons (ps_if (pt_cmpR op_notN (pv 3) pe_non (nomark _))
        (pss_one (ps_raiseSup rfl x_InvalidTrim hr (takes_of rfl rfl rfl rfl) (pa_cons (pv 3) pa_nil)))
        pss_nil)
      (pss_one (ps_if (pt_cmpR op_ge (pe_d c_knots_in (hr.mono (by decide)) pass0 (pa_cons (pv 0) (pa_cons (pv 2) pa_nil))) (pe_d c_knots_in (hr.mono (by decide)) pass0 (pa_cons (pv 0) (pa_cons (pv 1) pa_nil))) (nomark _))
        (pss_one (ps_raiseSup rfl x_InvalidTrim hr (takes_of rfl rfl rfl rfl) (pa_cons (pe_un un_neg pe_int) pa_nil)))
        pss_nil)))))))), ?_⟩
    have many : (200 < s.length ∨ 200 < l.length) → _ := fun h => (show tdue rows s l = some .ent by unfold tdue; rw [if_pos h])
    refine ⟨_, rfl, t, _, rfl, .inr ht.q.sq, _, _, rfl, rfl, _, rfl, ite2 (fun q => ?_) (fun q1 => ?_)⟩
    · rw [many (.inl (by have := of_decide_eq_true q; omega))] at k
      exact ⟨.inl rfl, rfl, fun d hd => k H d (Same.refl H) hd⟩
    refine ⟨_, rfl, u, _, rfl, .inr hu'.sq, _, _, rfl, rfl, _, rfl, ite2 (fun q => ?_) (fun q2 => ?_)⟩
    · rw [many (.inr (by have := of_decide_eq_true q; omega))] at k
      exact ⟨.inl rfl, rfl, fun d hd => k H d (Same.refl H) hd⟩
    have n1 : ¬ (200 < s.length ∨ 200 < l.length) := by
      have h1 : ¬ (((sV s).length : Nat) : Int) > 200 := fun q => q1 (decide_eq_true q)
      have h2 : ¬ (((l.map e2V).length : Nat) : Int) > 200 := fun q => q2 (decide_eq_true q)
      omega
    unfold tdue at k
    rw [if_neg n1] at k
    refine ⟨_, rfl, _, rfl, le_line (show 1 ≤ 100000 by decide), fun p1 o1 h1 ho1 => ?_⟩
    obtain ⟨s1, z1⟩ := new_tz (xs := [.str "*"]) h1 ho1
    have t1 := ht.same s1
    generalize upd H p1 (.frz o1 (.tup [.str "*"])) = H1 at s1 z1 t1
    have eS : (s.map E2.k).map e2V = sV s := by rw [List.map_map]; rfl
    refine ⟨b, t, p1, rows, s.map E2.k, [.str "*"], lfS, rfl, hB.same s1, R, by rw [eS]; exact t1.q, by rw [List.length_map]; omega, fun H' s' => .inr (z1.same s').q.sq, rfl, fun x => ?_, fun H2 s2 => ?_⟩
    · have := inV_e2 x [.k "*"]
      show inV (e2V x) ([E2.k "*"].map e2V) = _
      rw [this]
      unfold lfS
      simp
    have s02 := s1.trans s2
    have t2 := ht.same s02
    cases hf : fault2 rows lfS (s.map E2.k) with
    | some i =>
      rw [hf] at k
      have := fault2_le hf
      rw [List.length_map] at this
      exact ⟨_, rfl, rfl, _, rfl, ifp (by simp [ansF]) ⟨_, rfl, ⟨i, rfl, by omega⟩, rfl, fun d hd => k _ d s02 hd⟩⟩
    | none =>
      rw [hf] at k
      refine ⟨_, rfl, rfl, _, rfl, ifn (by simp [ansF]) ?_⟩
      refine ⟨_, rfl, le_line (show 1 ≤ 100000 by decide), fun p2 o2 h2 ho2 => ?_⟩
      obtain ⟨s3, z3⟩ := new_tz (xs := [.str "*"]) h2 ho2
      have s03 := s02.trans s3
      have t3 := ht.same s03
      generalize upd H2 p2 (.frz o2 (.tup [.str "*"])) = H3 at s3 z3 s03 t3
      refine ⟨.tuple (s.map PyData.str), .tuple ([("*" : Str)].map PyData.str), .tup t3.q.sq (dpa_map (fun z => .str z) _), .tup z3.q.sq (dpa_map (f := V.str) (fun z => .str z) [("*" : Str)]), shp_tstr sok, shp_tstr (fun z hz => by rw [List.mem_singleton.mp hz]; exact star_ok), _, rfl, ?_⟩
      have ev : PyData.eqv (.tuple (s.map PyData.str)) (.tuple ([("*" : Str)].map PyData.str)) = decide (s = [("*" : Str)]) := by
        rw [PyData.eqv]
        cases s with
        | nil => simp [PyData.eqvAll]
        | cons a r =>
          cases r with
          | nil =>
            simp [PyData.eqvAll, PyData.eqv]
            by_cases h : a = ("*" : Str)
            · rw [h]; rfl
            · rw [decide_eq_false h]; exact beq_eq_false_iff_ne.mpr h
          | cons b r => simp [PyData.eqvAll, PyData.eqv]
      rw [ev]
      refine ite2 (fun q => ?_) (fun q => ?_)
      · rw [if_pos (of_decide_eq_true q)] at k
        exact ⟨_, rfl, ⟨-1, rfl, by decide, by decide⟩, rfl, fun d hd => k _ d s03 hd⟩
      rw [if_neg (fun e => q (decide_eq_true e))] at k
      have hcl := List.count_le_length (a := ("*" : Str)) (l := s)
      refine ⟨_, rfl, _, rfl, ⟨t, sV s, rfl, t3⟩, t, s, "*", rfl, rfl, t3.q.sq, _, rfl, b, u, rows, l, s.count ("*" : Str), rfl, hB.same s03, R, hu'.same s03, l6, by omega, fun H4 s4 => ?_⟩
      have s04 := s03.trans s4
      cases hf2 : resF rows (s.count ("*" : Str)) l with
      | some i =>
        rw [hf2] at k
        have hil : i ≤ l.length := by
          unfold resF at hf2
          split at hf2
          · rename_i p hp
            cases hf2
            have hm := List.mem_of_find?_eq_some hp
            have hm := List.mem_range.mp hm
            cases hff : fault2 rows (lfN (s.count ("*" : Str))) l with
            | none => rw [hff] at hm; exact Nat.le_of_lt hm
            | some j => rw [hff] at hm; have := fault2_le hff; exact Nat.le_trans (Nat.le_of_lt hm) this
          · exact fault2_le hf2
        exact ⟨_, rfl, rfl, _, rfl, ifp (by simp [ansF]) ⟨_, rfl, ⟨(i : Nat), rfl, by omega, by omega⟩, rfl, fun d hd => k _ d s04 hd⟩⟩
      | none =>
        rw [hf2] at k
        refine ⟨_, rfl, rfl, _, rfl, ifn (by simp [ansF]) ?_⟩
        refine ⟨_, rfl, _, rfl, b, u, rows, l, rfl, hB.same s04, R, hu'.same s04, by omega, fun H5 s5 => ?_⟩
        have s05 := s04.trans s5
        refine ⟨_, rfl, _, rfl, b, t, rows, s.map E2.k, rfl, hB.same s05, R, by rw [eS]; exact (ht.same s05).q, by rw [List.length_map]; omega, fun H6 s6 => ?_⟩
        have s06 := s05.trans s6
        refine ⟨_, _, rfl, rfl, _, rfl, ite2 (fun q => ?_) (fun q => ?_)⟩
        · have q := of_decide_eq_true q
          rw [if_pos (by omega)] at k
          exact ⟨_, rfl, ⟨-2, rfl, by decide, by decide⟩, rfl, fun d hd => k _ d s06 hd⟩
        · have q : ¬ (((l.countP (kn9 rows) : Nat) : Int) ≥ (((s.map E2.k).countP (kn9 rows) : Nat) : Int)) := fun e => q (decide_eq_true e)
          rw [if_neg (by omega)] at k
          exact k _ s06
theorem ok_same9 (B : BedT K C) {f : Addr} {fd : FuncData} (F : FunD K "same" "Bed.same" (defArgs s_same) (defBody s_same) (defScope s_same) [] [] f fd) (M : Meth K C "same" f) : SmOk9 P w K mg base C := by
  have G : FnOk P w K mg base CX0 1 f fd ["self", "other"] (spSame9 C) := F.ok sc_same (fun vs H Q E h => by obtain ⟨a, b, rows, rows', rfl, _⟩ := h; rfl) fun cdv A outer s H vs Q E hr h => by
    obtain ⟨a, b, rows, rows', rfl, hA, hB, R, R', k⟩ := h
    obtain ⟨dx, r, kk, ww, rk, ts, h1, h2, h3, h4, h5, h6⟩ := hA
    obtain ⟨dx', r', kk', ww', rk', ts', h1', h2', h3', h4', h5', h6'⟩ := hB
    refine ⟨_, (pss_one (ps_ret (pe_cmpR (op_eqD hr.units) (pe_fld (pv 0) rfl) (pe_fld (pv 1) rfl) (nomark _)))), ?_⟩
    refine ⟨_, rfl, a, C, dx, _, _, rfl, h1, B.cl, B.nR, lk_rows _ _ _ _, _, rfl, b, C, dx', _, _, rfl, h1', B.cl, B.nR, lk_rows _ _ _ _, ?_⟩
    have dp : ∀ {r : Addr} {ts : List Addr} {rows : List Row}, H r = some (.tup (ts.map V.ref)) → TupsAt H ts rows → Dp K H (.ref r) (.tuple (rows.map rowD)) := fun {r ts rows} h x =>
      .tup (SqT.of h) (dpa_of (by rw [List.length_map]; exact x.1) fun i v q hv hq => by
        obtain ⟨t, ht, rfl⟩ := get_map hv
        exact .tup (SqT.of (x.2 i t q ht hq)) (.cons (.str _) (.cons (.int _) .nil)))
    refine ⟨_, _, dp h2 h3, dp h2' h3', shp_trows fun q hq => nm_ok (R.nm q hq), shp_trows fun q hq => nm_ok (R'.nm q hq), ?_⟩
    rw [PyData.eqv, eqv_rows9]
    exact k
  refine ⟨f, M, fun A' outer s H us vs Q E hr e0 r hs => G.raw (F.bindsN fun _ _ _ _ _ _ us hl => match us, hl with | [_, _], _ => rfl) .nil A' outer s H us vs Q E hr e0 r (by show spSame9 C (vs ++ []) H Q E; rw [List.append_nil]; exact hs)⟩
theorem ok_check_beds9 (T : Bm mg) (x9 : X9 P w K mg A) (B : BedT K C) (c_same : SmOk9 P w K mg base C) (D : Def0 K mg "check_beds" s_check_beds) : DefOk P w K mg base (L2.CX P w) 2 "check_beds" (spBeds9 C A) := by
  obtain ⟨fM, M_same, F_same⟩ := c_same
  refine D.okX sc_check_beds (fun vs H Q E h => ?_) (fun _ _ _ _ _ _ us hl => match us, hl with | [_], _ => rfl) (fun f cdv A' outer s' H vs Q E hr h => ?_)
  · obtain ⟨t, b0, r0, bs, rs, rfl, _⟩ := h
    rfl
  · obtain ⟨t, b0, r0, bs, rs, rfl, ht, hB0, hbs, R0, hR, hl, k⟩ := h
    refine ⟨_, (pss_one (ps_for (passes_of rfl) rfl (pi_list (pv 0)) (pg_name (i := 1) sc_check_beds.nd rfl (Or.inl rfl))
        (pss_one (ps_if (pt_not (pt_val (pe_methR (pe_ix ix_list (pv 0) pe_int (fun _ _ => rfl)) B.cl M_same F_same (hr.mono (by decide)) pass0 (pa_cons (pv 1) pa_nil))))
          (pss_one (ps_raiseO x9 rfl (takes_of rfl rfl rfl rfl)))
          pss_nil)))), ?_⟩
    have hlen := hbs.1
    refine ⟨_, rfl, t, rfl, ⟨_, SqL.of ht⟩, for_it (walk_list (xs := (b0 :: bs).map V.ref)) (fun i σ H' => ∃ x : Option V, σ = [some (.ref t), x] ∧ H' = H ∧ ∀ j r, j < i → (r0 :: rs)[j]? = some r → r0 = r) ⟨none, rfl, rfl, fun j r h => absurd h (Nat.not_lt_zero _)⟩ (fun i σ H' _ ⟨_, _, q, _⟩ => by rw [q]; exact SqL.of ht) ?_ ?_⟩
    · rintro i v σ H1 H2 hi ⟨x, rfl, rfl, hall⟩ ⟨rfl, hv⟩
      obtain ⟨b, hb2, rfl⟩ := get_map hv
      have hil : i < (r0 :: rs).length := by
        have := lt_of_get hb2
        rw [List.length_cons] at this ⊢
        omega
      have hg := List.getElem?_eq_getElem hil
      generalize (r0 :: rs)[i] = r at hg
      have B1 : BedAt C H2 b r := by
        cases i with
        | zero => cases hb2; cases hg; exact hB0
        | succ i => exact hbs.2 i b r hb2 hg
      have Rr : ROk 8 r := by
        cases i with
        | zero => cases hg; exact R0
        | succ i => exact hR _ (List.mem_of_getElem? hg)
      obtain ⟨dx, rr, kk, ww, rk, ts, h1, h2⟩ := id hB0
      refine ⟨_, rfl, t, _, _, _, rfl, rfl, SqL.of ht, atI_nat (j := 0) rfl, b0, dx, _, rfl, h1, lk_same _ _ _ _, _, rfl, b0, b, r0, r, rfl, hB0, B1, R0, Rr, ?_⟩
      refine ⟨_, rfl, ?_⟩
      by_cases c : r0 = r
      · refine ifn (by simp [c]) ⟨_, rfl, rfl, fun j r' hj hr' => ?_⟩
        rcases Nat.lt_succ_iff_lt_or_eq.mp hj with q | q
        · exact hall j r' q hr'
        · rw [q, hg] at hr'
          cases hr'
          exact c
      · refine ifp (by simp [c]) ?_
        have hb : bdue r0 rs = some .other := by
          unfold bdue
          rw [if_neg]
          intro q
          cases i with
          | zero => cases hg; exact c rfl
          | succ i => exact c (of_decide_eq_true (List.all_eq_true.mp q r (List.mem_of_getElem? hg)))
        rw [hb] at k
        exact k _ (Same.refl _)
    · rintro σ H1 ⟨x, rfl, rfl, hall⟩
      have hb : bdue r0 rs = none := by
        unfold bdue
        rw [if_pos]
        rw [List.all_eq_true]
        intro r hr
        obtain ⟨j, hj, rfl⟩ := List.mem_iff_getElem.mp hr
        refine decide_eq_true (hall (j + 1) rs[j] ?_ (List.getElem?_eq_getElem (by rw [List.length_cons]; omega)))
        rw [List.length_map, List.length_cons]
        omega
      rw [hb] at k
      exact k _ (Same.refl _)
end
end Sh
end
section
set_option Elab.async false
set_option linter.all false
set_option maxRecDepth 100000
set_option maxHeartbeats 2000000
namespace Sh
open PySem PySem.Spec PyProof.Rows L2
open C8 (pss_cut tCut)
open Evl (ixN_nat)
section
variable {P : Program} {w : World} {K : PySem.W.Frag} {mg : Str → Option Value} {base : Heap} {C CT CS : Addr} {A : A9}
theorem body_trimI9 (T : Bm mg) (B : TrT K CT) (c_check_trim : DefOk P w K mg base (L2.CX P w) 3 "check_trim" (spChk9 C A)) {f : Addr} {cdv : Value} {A' : Around} {outer : List Env} {s' : Shared} {H : Hp} {vs : List V} {Q : VK} {E : XK} (hr : Room 3 (A'.deeper (envOfC "Trim.__init__" (defScope s_Trim_init__) s'.heap.objs.size f cdv))) (h : spTrimI9 C CT A vs H Q E) :
    ∃ t, PSs (cxOf (L2.CX P w) P w K mg base N_Trim_init__ "Trim.__init__" (defScope s_Trim_init__) f cdv A' outer s' H E) (defBody s_Trim_init__) t ∧ t { nx := fun _ H' => Q .non H', rt := Q } (start N_Trim_init__ vs) H := by
  obtain ⟨x, dx, b, t, u, rows, s, l, rfl, hx, hB, R, ht, hu, s6, l6, sok, k⟩ := h
  refine ⟨_, (pss_cons (ps_expr (pe_d c_check_trim (hr.mono (by decide)) (passes_call (takes_of rfl rfl rfl rfl) fun _ _ _ _ h => h) (pa_cons (pv 1) (pa_cons (pv 2) (pa_cons (pv 3) pa_nil)))))
    (pss_cons (ps_fld (pv 0) (pv 1) rfl)
    (pss_cons (ps_fld (pv 0) (pv 2) rfl)
    (pss_one (ps_fld (pv 0) (pv 3) rfl))))), ?_⟩
  refine ⟨_, rfl, _, rfl, _, rfl, b, t, u, rows, s, l, rfl, hB, R, ht, hu, s6, l6, sok, Way9.same k (Same.refl H) fun k H1 s1 => ?_⟩
  refine ⟨_, rfl, _, rfl, x, CT, dx, _, rfl, s1 _ _ hx, B.cl, B.nB, (by show 0 < 1000; decide), ?_⟩
  refine ⟨_, rfl, _, rfl, x, CT, dx, _, rfl, upd_same, B.cl, B.nS, (by show 1 < 1000; decide), ?_⟩
  refine ⟨_, rfl, _, rfl, x, CT, dx, _, rfl, upd_same, B.cl, B.nR, ?_, ?_⟩
  · rw [show putF "bed" (.ref b) [] = [(("bed" : Str), V.ref b)] from rfl, tr_put2]
    show 2 < 1000
    decide
  · have kk : ∀ {o1 o2 o3 : HO}, Kp x H (upd (upd (upd H1 x o1) x o2) x o3) := fun {_ _ _} => (((Kp.same s1).upd).upd).upd
    refine k _ kk ⟨dx, b, t, u, ?_, hB.kx hx kk, tz_kx ht hx kk, tq_kx hu hx kk⟩
    rw [upd_same, show putF "bed" (.ref b) [] = [(("bed" : Str), V.ref b)] from rfl, tr_put2, tr_put3]
theorem body_trimsI9 (T : Bm mg) (x9 : X9 P w K mg A) (BT : TrT K CT) (B : TsT K CS) (c_check_beds : DefOk P w K mg base (L2.CX P w) 2 "check_beds" (spBeds9 C A)) {f : Addr} {cdv : Value} {A' : Around} {outer : List Env} {s' : Shared} {H : Hp} {vs : List V} {Q : VK} {E : XK} (hr : Room 3 (A'.deeper (envOfC "Trims.__init__" (defScope s_Trims_init__) s'.heap.objs.size f cdv))) (h : spTrimsI9 C CT CS A vs H Q E) :
    ∃ t, PSs (cxOf (L2.CX P w) P w K mg base N_Trims_init__ "Trims.__init__" (defScope s_Trims_init__) f cdv A' outer s' H E) (defBody s_Trims_init__) t ∧ t { nx := fun _ H' => Q .non H', rt := Q } (start N_Trims_init__ vs) H := by
  have x_TooMany := x9.xT
  obtain ⟨x, dx, b, p, z, ps, r0, qs, rfl, hx, hp, hT, hB, R, hR, h4, k⟩ := h
  have hl := hT.1
  refine ⟨_, (pss_cons (ps_expr (pe_d c_check_beds (hr.mono (by decide)) (passes_call (takes_of rfl rfl rfl rfl) fun _ _ _ _ h => h) (pa_cons (pe_lst (pa_cons (pv 1) (StX.pa_star (pe_lc (own := [("trim", 4)]) (g := (gName 4)) (tt := tYes) rfl sc_Trims_init__.nd (pi_tup (pv 3)) (blkOk_by (N := N_Trims_init__) (sc := defScope s_Trims_init__) (by decide +kernel)) (fun _ _ _ _ _ => (pg_name (i := 4) sc_Trims_init__.nd rfl (Or.inl rfl))) (fun _ _ _ _ _ => pts_nil) (fun _ _ _ _ _ => (show PE _ _ (tFld K _ _) from pe_fld (pv 4) rfl))) pa_nil))) pa_nil)))
    (pss_cons (ps_if (pt_cmpR op_gt (pe_callB call_len_seq (by rfl) T.b_len boot_len (pa_cons (pv 3) pa_nil)) (pe_cI (by rfl) T.c_MOST_TRIMS) (nomark _))
      (pss_one (ps_raiseSup rfl x_TooMany hr (takes_of rfl rfl rfl rfl) (pa_cons pe_str (pa_cons (pe_cI (by rfl) T.c_MOST_TRIMS) pa_nil))))
      pss_nil)
    (pss_cons (ps_fld (pv 0) (pv 1) rfl)
    (pss_cons (ps_fld (pv 0) (pv 3) rfl)
    (pss_one (ps_fld (pv 0) (pv 2) rfl)))))), ?_⟩
  refine ⟨_, rfl, _, rfl, p, rfl, ⟨_, SqT.of hp⟩, fun D hD => lc_it (walk_tup (xs := ps.map V.ref)) (fun i H' => Same H H' ∧ ∃ bs, H' D = some (.lst (bs.map V.ref)) ∧ BedsX C H bs ((qs.map (·.1)).take i))
    ⟨(Same.refl H).upd_new hD, [], upd_same, by simp, fun i b r h => by simp at h⟩ (fun i H' _ ⟨q, _⟩ => SqT.of (q _ _ hp)) ?_ ?_⟩
  · rintro i v H1 H2 hi ⟨s1, bs, d1, b1⟩ ⟨rfl, hv⟩
    obtain ⟨t, ht, rfl⟩ := get_map hv
    have hi2 : i < qs.length := by rw [← hl]; exact lt_of_get ht
    obtain ⟨dx', b', t', u', g1, g2, _⟩ := hT.2 i t qs[i] ht (List.getElem?_eq_getElem hi2)
    have hg : (qs.map (·.1))[i]? = some qs[i].1 := by rw [List.getElem?_map, List.getElem?_eq_getElem hi2]; rfl
    refine ⟨rfl, _, rfl, t, CT, dx', _, _, rfl, s1 _ _ g1, BT.cl, BT.nB, tr_bed _ _ _, _, d1, ?_, s1.upd_own hD, bs ++ [b'], ?_, ?_⟩
    · rw [List.length_map, b1.1, List.length_take, List.length_map]
      exact lt_line (by omega)
    · rw [upd_same, List.map_append]
      rfl
    · rw [← take_snoc hg]
      refine ⟨by rw [List.length_append, List.length_append, b1.1]; rfl, fun j bb r a c => ?_⟩
      have lb := b1.1
      rw [List.length_take, List.length_map] at lb
      by_cases hj : j < bs.length
      · rw [List.getElem?_append_left hj] at a
        rw [List.getElem?_append_left (by rw [← b1.1]; exact hj)] at c
        exact b1.2 j bb r a c
      · rw [List.getElem?_append_right (by omega)] at a
        rw [List.getElem?_append_right (by rw [← b1.1]; omega)] at c
        rw [b1.1] at a
        generalize j - ((qs.map (·.1)).take i).length = m at a c
        cases m with
        | zero => cases a; cases c; exact g2
        | succ m => simp at a
  · rintro H1 ⟨s1, bs, d1, b1⟩
    rw [List.length_map, hl, ← List.length_map (f := fun q : T9 => q.1), List.take_length] at b1
    have lb : bs.length = qs.length := by rw [b1.1, List.length_map]
    refine ⟨D, _, rfl, .inr (SqL.of d1), le_line ?_, fun g hg2 => ?_⟩
    · simp only [List.length_append, List.length_cons, List.length_nil, List.length_map]
      omega
    have s2 := s1.upd_new (o := .lst (V.ref b :: (bs.map V.ref ++ []))) hg2
    have kb : Way9 A E H (bdue r0 (qs.map (·.1))) (bdue r0 (qs.map (·.1)) = none) := by
      cases hb : bdue r0 (qs.map (·.1)) with
      | none => exact rfl
      | some y =>
        unfold sdue at k
        rw [hb] at k
        exact k
    refine ⟨g, b, r0, bs, qs.map (·.1), rfl, (by rw [upd_same, List.append_nil]; rfl), hB.same s2, ⟨b1.1, fun i bb r a c => (b1.2 i bb r a c).same s2⟩, R, fun r hr => ?_, by omega, Way9.same kb s2 fun hb H3 s3 => ?_⟩
    · obtain ⟨q, hq, rfl⟩ := List.mem_map.mp hr
      exact hR q hq
    have s03 := s2.trans s3
    unfold sdue at k
    rw [hb] at k
    have k : Way9 A E H (if 8 < qs.length then some .trm else none) (∀ H', Kp x H H' → HeldX C CT CS H' x r0 z qs → Q .non H') := k
    refine ⟨_, rfl, p, _, rfl, .inr (SqT.of (s03 _ _ hp)), _, _, rfl, rfl, _, rfl, ite2 (fun e => ?_) (fun e => ?_)⟩
    · have := of_decide_eq_true e
      rw [List.length_map] at this
      rw [if_pos (by omega)] at k
      exact ⟨.inr rfl, rfl, fun d hd => k _ d s03 hd⟩
    have e : ¬ (((ps.map V.ref).length : Nat) : Int) > 8 := fun q => e (decide_eq_true q)
    rw [List.length_map] at e
    rw [if_neg (by omega)] at k
    refine ⟨_, rfl, _, rfl, x, CS, dx, _, rfl, s03 _ _ hx, B.cl, B.nB, (by show 0 < 1000; decide), ?_⟩
    refine ⟨_, rfl, _, rfl, x, CS, dx, _, rfl, upd_same, B.cl, B.nT, (by show 1 < 1000; decide), ?_⟩
    refine ⟨_, rfl, _, rfl, x, CS, dx, _, rfl, upd_same, B.cl, B.nN, ?_, ?_⟩
    · rw [show putF "bed" (.ref b) [] = [(("bed" : Str), V.ref b)] from rfl, ts_put2]
      show 2 < 1000
      decide
    · have kk : ∀ {o1 o2 o3 : HO}, Kp x H (upd (upd (upd H3 x o1) x o2) x o3) := fun {_ _ _} => (((Kp.same s03).upd).upd).upd
      refine k _ kk ⟨dx, b, p, ps, ?_, kk _ _ hp (ne_of hp hx (fun e => nomatch e)), ⟨hT.1, fun i p q h1 h2 => (hT.2 i p q h1 h2).kx hx kk⟩, hB.kx hx kk⟩
      rw [upd_same, show putF "bed" (.ref b) [] = [(("bed" : Str), V.ref b)] from rfl, ts_put2, ts_put3]
end
/-! ### the classes, called -/
def Trim9C (P : Program) (w : World) (K : PySem.W.Frag) (mg : Str → Option Value) (base : Heap) (C CT : Addr) (A : A9) (k : Nat) : Prop := mg "Trim" = some (.ref CT) ∧ ∃ fI, Mk K CT fI ∧ FnR P w K mg base (L2.CX P w) k fI (spTrimI9 C CT A)
def spTrimsS9 (C CT CS : Addr) (A : A9) (z : V) : Sp := fun vs H Q E => ∃ ws rest, vs = ws ++ rest ∧ ws.length = (["self", "bed"] : List Str).length ∧ rest.length ≤ sizeLine ∧ ∀ p, H p = Option.none → spTrimsI9 C CT CS A (ws ++ [z, V.ref p]) (upd H p (.tup rest)) Q E
def Trims9C (P : Program) (w : World) (K : PySem.W.Frag) (mg : Str → Option Value) (base : Heap) (C CT CS : Addr) (A : A9) (k : Nat) : Prop := mg "Trims" = some (.ref CS) ∧ ∃ fI, Mk K CS fI ∧ FnR P w K mg base (L2.CX P w) k fI (spTrimsS9 C CT CS A (.str "trims"))
def Trims9K (P : Program) (w : World) (K : PySem.W.Frag) (mg : Str → Option Value) (base : Heap) (C CT CS : Addr) (A : A9) (k : Nat) : Prop := mg "Trims" = some (.ref CS) ∧ ∃ fI, Mk K CS fI ∧ FnK P w K mg base (L2.CX P w) "name" k fI (spTrimsS9 C CT CS A)
def spTrim9 (C CT : Addr) (A : A9) : Sp := fun vs H Q E => ∃ (b t u : Addr) (rows : List Row) (s : List Str) (l : List E2), vs = [.ref b, .ref t, .ref u] ∧ BedAt C H b rows ∧ ROk 8 rows ∧ Tz H t (sV s) ∧ Tq H u (l.map e2V) ∧ s.length ≤ 6000 ∧ l.length ≤ 6000 ∧ (∀ z ∈ s, PyData.strOk z = true) ∧
  Way9 A E H (tdue rows s l) (∀ H' p, Same H H' → H p = none → TrmX C CT H' p (rows, s, l) → Q (.ref p) H')
def spTrims9 (C CT CS : Addr) (A : A9) (z : V) : Sp := fun vs H Q E => ∃ (b : Addr) (ps : List Addr) (r0 : List Row) (qs : List T9), vs = .ref b :: ps.map V.ref ∧ TrmsX C CT H ps qs ∧ BedAt C H b r0 ∧ ROk 8 r0 ∧ (∀ q ∈ qs, ROk 8 q.1) ∧ qs.length ≤ 100 ∧
  Way9 A E H (sdue r0 qs) (∀ H' p, Same H H' → H p = none → HeldX C CT CS H' p r0 z qs → Q (.ref p) H')
def tTrimsK (C CT CS : Addr) (A : A9) (E : L2.St → XK) (t tk : TA) : TE := fun σ H Q => t σ H fun vs H1 => tk σ H1 fun zs H2 => ∃ z, zs = [z] ∧ spTrims9 C CT CS A z vs H2 Q (E σ)
section
variable {X : Cx} {C CT CS : Addr} {A : A9} {k : Nat} {E : L2.St → XK} {e : Expr} {es : List Expr} {t tk : TA} {p pos : Pos} {kws : List Keyword}
theorem made9 {H : Hp} {x dx : Addr} {D : Addr} (hx : H x = none) (hd : H dx = none) : Same H (upd (upd H dx (.own x)) x (.ins D dx [])) := ((Same.refl H).upd_new hd).upd_own hx
theorem PE.imp {X : Cx} {e : Expr} {t t' : TE} (h : PE X e t) (i : ∀ σ H Q, t' σ H Q → t σ H Q) : PE X e t' := PE.weak h i
theorem trims_sp {H1 : Hp} {vs : List V} {z : V} {Q : VK} {E : XK} {x dx : Addr} (hx : H1 x = none) (hd : H1 dx = none) (q : spTrims9 C CT CS A z vs H1 Q E) : spTrimsS9 C CT CS A z (.ref x :: vs) (upd (upd H1 dx (.own x)) x (.ins CS dx [])) (fun v H2 => v = .non ∧ Q (.ref x) H2) E := by
  obtain ⟨b, ps, r0, qs, rfl, hT, hB, R, hR, h4, k⟩ := q
  have s1 : Same H1 (upd (upd H1 dx (.own x)) x (.ins CS dx [])) := made9 hx hd
  refine ⟨[.ref x, .ref b], ps.map V.ref, rfl, rfl, ?_, fun p hp => ?_⟩
  · rw [List.length_map, hT.1]
    exact le_line (by omega)
  have s2 := s1.upd_new (o := .tup (ps.map V.ref)) hp
  have nxp : x ≠ p := ne_of_none (upd_same (H := upd H1 dx (.own x)) (a := x)) hp
  refine ⟨x, dx, b, p, z, ps, r0, qs, rfl, by rw [upd_ne nxp, upd_same], upd_same, hT.same s2, hB.same s2, R, hR, h4, Way9.same k s2 fun k H' kk y => ⟨rfl, ?_⟩⟩
  exact k H' x (fun b o hb => kk b o (s2 b o hb) (ne_of_none hb hx)) hx y
theorem pe_trim9 (D : Trim9C X.prog X.w X.K X.mg X.base C CT A k) (hr : Room (k + 1) X.A) (hx : ∀ σ, PassesAt (L2.CX X.prog X.w) X σ (E σ)) (ha : PA X (e :: es) t) (hg : Gl X "Trim" := by rfl)
    (he : starEach (e :: es) X.env = (false, eval e X.env) :: starEach es X.env := by rfl) (hpl : (backTo pos (starEach es X.env)).any (·.1) = false := by rfl) :
    PE X (.Call (.Name "Trim" p) (e :: es) [] pos) (tCallS (spTrim9 C CT A) E t) := by
  obtain ⟨hm, fI, M, F⟩ := D
  refine ⟨fun pins s σ H Q I h => ?_⟩
  refine wpAny_Call_Name_kw (ld_glob I hg hm ?_ (by decide))
  refine PySem.W.callWith_K (h₀ := X.base) I.ok.mod.kin M.kp (thn (ha.run pos pins s σ H _ I h) fun us s1 ⟨vs, H1, I1, r, q⟩ => ⟨I1.kIn, ?_⟩) he hpl
  obtain ⟨b, t, u, rows, s, l, rfl, hB, R, ht, hu, s6, l6, sok, k⟩ := q
  refine run_makeS M F hr (hx σ) I1 r fun x dx hx hd hxd => ?_
  have s1 : Same H1 (upd (upd H1 dx (.own x)) x (.ins CT dx [])) := made9 hx hd
  refine ⟨x, dx, b, t, u, rows, s, l, rfl, upd_same, hB.same s1, R, ht.same s1, hu.same s1, s6, l6, sok, Way9.same k s1 fun k H' kk y => ⟨rfl, ?_⟩⟩
  exact k H' x (fun b o hb => kk b o (s1 b o hb) (ne_of_none hb hx)) hx y
theorem pe_trims9 (D : Trims9C X.prog X.w X.K X.mg X.base C CT CS A k) (hr : Room (k + 1) X.A) (hx : ∀ σ, PassesAt (L2.CX X.prog X.w) X σ (E σ)) (ha : PA X (e :: es) t) (hg : Gl X "Trims" := by rfl)
    (he : starEach (e :: es) X.env = (false, eval e X.env) :: starEach es X.env := by rfl) (hpl : (backTo pos (starEach es X.env)).any (·.1) = false := by rfl) :
    PE X (.Call (.Name "Trims" p) (e :: es) [] pos) (tCallS (spTrims9 C CT CS A (.str "trims")) E t) := by
  obtain ⟨hm, fI, M, F⟩ := D
  refine ⟨fun pins s σ H Q I h => ?_⟩
  refine wpAny_Call_Name_kw (ld_glob I hg hm ?_ (by decide))
  refine PySem.W.callWith_K (h₀ := X.base) I.ok.mod.kin M.kp (thn (ha.run pos pins s σ H _ I h) fun us s1 ⟨vs, H1, I1, r, q⟩ => ⟨I1.kIn, ?_⟩) he hpl
  exact run_makeS M F hr (hx σ) I1 r fun x dx hx hd hxd => trims_sp hx hd q
theorem pe_trims9k (D : Trims9K X.prog X.w X.K X.mg X.base C CT CS A k) (hr : Room (k + 1) X.A) (hx : ∀ σ, PassesAt (L2.CX X.prog X.w) X σ (E σ)) (ha : PA X (e :: es) t) (hkw : PK X kws tk) (hg : Gl X "Trims" := by rfl)
    (hks : (backToKw pos (keywordEach kws X.env)).filterMap (·.1) = ([("name" : Str)] : List Str) := by rfl) (hall : (backToKw pos (keywordEach kws X.env)).all (·.1.isSome) = true := by rfl)
    (he : starEach (e :: es) X.env = (false, eval e X.env) :: starEach es X.env := by rfl) (hpl : ((backTo pos (starEach (e :: es) X.env)).any (·.1) || (backToKw pos (keywordEach kws X.env)).any (·.1.isNone)) = false := by rfl) :
    PE X (.Call (.Name "Trims" p) (e :: es) kws pos) (tTrimsK C CT CS A E t tk) := by
  obtain ⟨hm, fI, M, F⟩ := D
  refine ⟨fun pins s σ H Q I h => ?_⟩
  refine wpAny_Call_Name_kw (ld_glob I hg hm ?_ (by decide))
  refine PySem.W.callWith_KW (h₀ := X.base) I.ok.mod.kin M.kp hall (thn (ha.run pos pins s σ H _ I h) fun us s1 ⟨vs, H1, I1, r, q⟩ => ?_) hpl he
  refine thn (hkw.run pos pins s1 σ H1 _ I1 q) fun ws s2 ⟨zs, H2, I2, rz, z, ez, q2⟩ => ⟨I2.kIn, ?_⟩
  rw [hks]
  subst ez
  obtain ⟨uz, rfl, rz1⟩ := vals1 rz
  have x0 : H2 (s2.heap.objs.size + 1) = none := I2.hok.fresh (Nat.le_succ _)
  have d0 : H2 s2.heap.objs.size = none := I2.hok.fresh (Nat.le_refl _)
  have hq := trims_sp (C := C) (CT := CT) (CS := CS) (A := A) x0 d0 q2
  have I3 := Inv.made (C := CS) I2
  have r2 : Vals (V.ref (s2.heap.objs.size + 1) :: vs) (Value.ref (s2.heap.objs.size + 1) :: us) := .cons rfl r
  show wpAny _ _ (call (.ref CS) us [(("name" : Str), uz)]) _ _ _
  refine wpAny_call (make_map (f := fI) I2.kIn M.makes M.init (beq_iff_eq.mp M.fn) (codeAny_mono (F _ X.stack _ _ (Value.ref (s2.heap.objs.size + 1) :: us) _ z uz _ (E σ) (hr.make CS us [(("name" : Str), uz)]) (I3.env0.make CS us [(("name" : Str), uz)]) r2 rz1 hq) fun r s' hq' => ?_))
  cases r with
  | error e => exact hx σ pins _ _ e s' I3 hq'
  | ok fl =>
    cases fl with
    | ret u =>
      obtain ⟨v, H', I4, rv, ev, q3⟩ := I3.after hq'
      subst ev
      exact ⟨rv, ⟨V.ref (s2.heap.objs.size + 1), H', I4, rfl, q3⟩⟩
    | next => exact False.elim hq'
    | brk => exact False.elim hq'
    | cont => exact False.elim hq'
end
end Sh
end
section
set_option Elab.async false
set_option linter.all false
set_option maxRecDepth 100000
set_option maxHeartbeats 2000000
namespace Sh
open PySem PySem.Spec PyProof.Rows L2
open C8 (pss_cut tCut)
open Evl (ixN_nat)
theorem slG_to {K : PySem.W.Frag} {H : Hp} {a : Addr} {xs : List V} {Q : VK} {j : Nat} (ha : Tz H a xs) (hj : j ≤ xs.length) (k : ∀ r H', Same H H' → Tz H' r (xs.take j) → Q (.ref r) H') : rSlG K (.ref a) none (some (j : Int)) H Q := by
  have e1 : HT.sIx xs.length 0 none = 0 := rfl
  have e2 : HT.sIx xs.length xs.length (some (j : Int)) = j := by rw [HT.sIx_nat]; omega
  refine ⟨a, xs, rfl, ha.q.sq, fun h => ?_, fun _ p o hp ho => ?_⟩
  · rw [e2] at h
    refine k a H (Same.refl H) ?_
    rw [h.2, List.take_length]
    exact ha
  · refine k p _ ((Same.refl H).upd_new hp) ⟨o, ?_, ho⟩
    rw [upd_same]
    unfold cutV
    rw [e1, e2, List.drop_zero, Nat.sub_zero]
theorem slG_from {K : PySem.W.Frag} {H : Hp} {a : Addr} {xs : List V} {Q : VK} {i : Nat} (ha : Tz H a xs) (k : ∀ r H', Same H H' → Tz H' r (xs.drop i) → Q (.ref r) H') : rSlG K (.ref a) (some (i : Int)) none H Q := by
  have e1 : HT.sIx xs.length 0 (some (i : Int)) = min i xs.length := by rw [HT.sIx_nat]
  have e2 : HT.sIx xs.length xs.length none = xs.length := rfl
  have ed : xs.drop (min i xs.length) = xs.drop i := by
    by_cases h : i ≤ xs.length
    · rw [Nat.min_eq_left h]
    · rw [Nat.min_eq_right (by omega), List.drop_length, List.drop_of_length_le (by omega)]
  refine ⟨a, xs, rfl, ha.q.sq, fun h => ?_, fun _ p o hp ho => ?_⟩
  · rw [e1] at h
    refine k a H (Same.refl H) ?_
    rw [← ed, h.1, List.drop_zero]
    exact ha
  · refine k p _ ((Same.refl H).upd_new hp) ⟨o, ?_, ho⟩
    rw [upd_same]
    unfold cutV
    rw [e1, e2, List.take_of_length_le (by rw [List.length_drop]; exact Nat.le_refl _), ed]
theorem repX_any {K : PySem.W.Frag} {H : Hp} {a : Addr} {v : V} {n : Int} {k : Nat} {Q : VK} (ha : Tz H a [v]) (e : n = (k : Nat)) (hk : k ≤ 4000) (kk : ∀ p H', Same H H' → Tz H' p (List.replicate k v) → Q (.ref p) H') : rRepX K (.ref a) (.int n) H Q := by
  subst e
  exact repX_tz ha hk kk
def spChain : Sp := fun vs H Q _ => ∃ (t : Addr) (z : Str) (wd m j : Nat), vs = [.ref t, .int (m : Nat), .int (j : Nat)] ∧ H t = some (.tup [.str z, .int (wd : Nat)]) ∧ j < wd ∧ wd ≤ 3 ∧ m ≤ 300 ∧ ∀ (H' : Hp) (u : Addr) (s : List Str), Same H H' → Tz H' u (sV s) → s.length ≤ 1 + m * 3 → (∀ y ∈ s, y = z ∨ y = ("*" : Str)) → Q (.ref u) H'
def spTags9 : Sp := fun vs H Q _ => ∃ (t : Addr) (l : List Str), vs = [.ref t] ∧ Tq H t (sV l) ∧ l.length ≤ 6000 ∧ ∀ (H' : Hp) (p : Addr), Same H H' → Tz H' p ((tgs 0 l).map eV) → Q (.ref p) H'
def spBent9 : Sp := fun vs H Q _ => ∃ (a c r t o : Addr) (rows : List Row) (l : List E2) (os : List Int), vs = [.ref a, .ref r, .ref t, .ref o] ∧ BagM H a c ∧ r ≠ a ∧ RowsAt H r rows ∧ ROk 4 rows ∧ Tz H t (l.map e2V) ∧ H o = some (.lst (os.map V.int)) ∧ os.length ≤ 10 ∧ l.length ≤ 5000 ∧
  ∀ (H' : Hp) (u : Addr) (l' : List E2), Kp a H H' → BagM H' a c → Tz H' u (l'.map e2V) → l'.length ≤ l.length + 1 → (∀ x ∈ l', x ∈ l ∨ (∃ z, x = .k z ∧ PyData.strOk z = true) ∨ ∃ n ∈ os, x = .i n) → Q (.ref u) H'
theorem strOk_nmq {z : Str} (h : IsNm z) : PyData.strOk (z ++ ("q" : Str)) = true := by
  unfold PyData.strOk
  rw [← Array.all_toList, List.all_eq_true]
  intro c hc
  rw [app_tl] at hc
  rcases List.mem_append.mp hc with q | q
  · have := h.2.2 c q
    exact decide_eq_true (by omega)
  · have e : ("q" : Str).cps.toList = [113] := by decide +kernel
    rw [e] at q
    rw [List.mem_singleton.mp q]
    decide
abbrev s_law_chain : Stmt := top 46
abbrev N_law_chain : List Str := ["pair", "many", "at", "row", "k"]
theorem sc_law_chain : FnScope N_law_chain ["pair", "many", "at"] (defScope s_law_chain) := ⟨rfl, rfl, rfl, by decide +kernel, rfl, by decide +kernel, by decide +kernel⟩
abbrev s_law_bent : Stmt := top 47
abbrev N_law_bent : List Str := ["bag", "kinds", "row", "others", "strange", "entry", "at", "turn"]
theorem sc_law_bent : FnScope N_law_bent ["bag", "kinds", "row", "others"] (defScope s_law_bent) := ⟨rfl, rfl, rfl, by decide +kernel, rfl, by decide +kernel, by decide +kernel⟩
section
variable {P : Program} {w : World} {K : PySem.W.Frag} {mg : Str → Option Value} {base : Heap} {C : Addr}
theorem ok_chain (T : Bm mg) (D : Def0 K mg "_law_chain" s_law_chain) : DefOk P w K mg base CX0 1 "_law_chain" spChain := by
  refine D.ok sc_law_chain (fun vs H Q E h => ?_) (fun _ _ _ _ _ _ us hl => match us, hl with | [_, _, _], _ => rfl) (fun f cdv A outer s' H vs Q E hr h => ?_)
  · obtain ⟨t, z, wd, m, j, rfl, _⟩ := h
    rfl
  · obtain ⟨t, z, wd, m, j, rfl, ht, hj, hw, hm, k⟩ := h
    refine ⟨_, (pss_cons (ps_set (i := 3) sc_law_chain.nd rfl (Or.inl rfl) (pe_tupF (pa_cons pe_str pa_nil)))
      (pss_cons (ps_for PassesOwn.never rfl (pi_range1 (by rfl) T.b_range (pa_cons (pv 1) pa_nil)) (pg_name (i := 4) sc_law_chain.nd rfl (Or.inl rfl))
        (pss_one (ps_set (i := 3) sc_law_chain.nd rfl (Or.inl rfl) (pe_op op_catG (pe_op op_catG (pe_op op_catG (pe_tupF (pa_cons (pe_ix ix_tup (pv 0) pe_int (fun _ _ => rfl)) pa_nil)) (pe_op op_repX (pe_tupF (pa_cons pe_str pa_nil)) (pv 2))) (pv 3)) (pe_op op_repX (pe_tupF (pa_cons pe_str pa_nil)) (pe_op op_sub (pe_op op_sub (pe_ix ix_tup (pv 0) pe_int (fun _ _ => rfl)) pe_int) (pv 2)))))))
      (pss_one (ps_ret (pv 3))))), ?_⟩
    refine ⟨le_line (show 1 ≤ 100000 by decide), fun p0 o0 h0 ho0 => ?_⟩
    obtain ⟨s0, z0⟩ := new_tz (xs := [.str "*"]) h0 ho0
    generalize upd H p0 (.frz o0 (.tup [.str "*"])) = H1 at s0 z0
    refine ⟨_, rfl, _, rfl, by omega, by omega, for_range (n := (((m : Nat) : Int)).toNat) (fun i σ H' => ∃ (x : Option V) (u : Addr) (s : List Str), σ = [some (.ref t), some (.int (m : Nat)), some (.int (j : Nat)), some (.ref u), x] ∧ Same H H' ∧ Tz H' u (sV s) ∧ s.length ≤ 1 + i * 3 ∧ s ≠ [] ∧ ∀ y ∈ s, y = z ∨ y = ("*" : Str))
      ⟨none, p0, ["*"], rfl, s0, z0, Nat.le_refl _, (fun e => nomatch e), fun y hy => .inr (List.mem_singleton.mp hy)⟩ ?_ ?_⟩
    · rintro i σ H2 hi ⟨x, u, s, rfl, s2, z2, l2, ne2, e2⟩
      rw [Int.toNat_natCast] at hi
      have lsv : (sV s).length = s.length := by rw [sV, List.length_map]
      refine ⟨_, rfl, t, _, _, _, rfl, rfl, SqT.of (s2 _ _ ht), atI_nat (j := 0) rfl, le_line (show 1 ≤ 100000 by decide), fun p1 o1 h1 ho1 => ?_⟩
      obtain ⟨s3, z3⟩ := new_tz (xs := [.str z]) h1 ho1
      generalize upd H2 p1 (.frz o1 (.tup [.str z])) = H3 at s3 z3
      refine ⟨le_line (show 1 ≤ 100000 by decide), fun p2 o2 h2 ho2 => ?_⟩
      obtain ⟨s4, z4⟩ := new_tz (xs := [.str "*"]) h2 ho2
      generalize upd H3 p2 (.frz o2 (.tup [.str "*"])) = H4 at s4 z4
      refine ⟨_, rfl, repX_any (k := j) z4 rfl (by omega) fun q5 H5 s5 z5 => ?_⟩
      refine catG_any ((z3.same s4).same s5) z5 (by rw [List.length_replicate]; show 1 + j ≤ _; omega) fun q6 H6 s6 z6 => ?_
      have s26 := ((s3.trans s4).trans s5).trans s6
      refine ⟨_, rfl, catG_any z6 (z2.same s26) (by rw [List.length_append, List.length_replicate, lsv]; show 1 + j + _ ≤ _; omega) fun q7 H7 s7 z7 => ?_⟩
      refine ⟨le_line (show 1 ≤ 100000 by decide), fun p8 o8 h8 ho8 => ?_⟩
      obtain ⟨s8, z8⟩ := new_tz (xs := [.str "*"]) h8 ho8
      generalize upd H7 p8 (.frz o8 (.tup [.str "*"])) = H8 at s8 z8
      have s28 := (s26.trans s7).trans s8
      refine ⟨_, rfl, t, _, _, _, rfl, rfl, SqT.of ((s2.trans s28) _ _ ht), atI_nat (j := 1) rfl, _, _, rfl, rfl, _, rfl, _, _, rfl, rfl, repX_any (k := wd - 1 - j) z8 (by omega) (by omega) fun q9 H9 s9 z9 => ?_⟩
      refine catG_any ((z7.same s8).same s9) z9 (by rw [List.length_append, List.length_append, List.length_replicate, List.length_replicate, lsv]; show 1 + j + _ + _ ≤ _; omega) fun q10 H10 s10 z10 => ?_
      have ez : [V.str z] ++ List.replicate j (V.str "*") ++ sV s ++ List.replicate (wd - 1 - j) (V.str "*") = sV ([z] ++ List.replicate j ("*" : Str) ++ s ++ List.replicate (wd - 1 - j) ("*" : Str)) := by
        unfold sV
        rw [List.map_append, List.map_append, List.map_append, List.map_replicate, List.map_replicate]
        rfl
      rw [ez] at z10
      refine ⟨_, q10, _, rfl, ((s2.trans s28).trans s9).trans s10, z10, ?_, (fun e => by simp at e), fun y hy => ?_⟩
      · simp only [List.length_append, List.length_replicate, List.length_cons, List.length_nil]
        omega
      · simp only [List.mem_append, List.mem_singleton, List.mem_replicate] at hy
        rcases hy with ((q | q) | q) | q
        · exact .inl q
        · exact .inr q.2
        · exact e2 y q
        · exact .inr q.2
    · rintro σ H2 ⟨x, u, s, rfl, s2, z2, l2, _, e2⟩
      rw [Int.toNat_natCast] at l2
      exact ⟨_, rfl, k _ u s s2 z2 l2 e2⟩
theorem ok_tagged9 (T : Bm mg) (D : Def0 K mg "_law_tagged" s_law_tagged) : DefOk P w K mg base CX0 1 "_law_tagged" spTags9 := by
  refine D.ok sc_law_tagged (fun vs H Q E h => ?_) (fun _ _ _ _ _ _ us hl => match us, hl with | [_], _ => rfl) (fun f cdv A outer s' H vs Q E hr h => ?_)
  · obtain ⟨t, l, rfl, _⟩ := h
    rfl
  · obtain ⟨t, l, rfl, ht, hl, k⟩ := h
    refine ⟨_, (pss_cons (ps_set (i := 1) sc_law_tagged.nd rfl (Or.inl rfl) (pe_tupF pa_nil))
      (pss_cons (ps_set (i := 2) sc_law_tagged.nd rfl (Or.inl rfl) pe_int)
      (pss_cons (ps_for PassesOwn.never rfl (pi_tup (pv 0)) (pg_name (i := 3) sc_law_tagged.nd rfl (Or.inl rfl))
        (pss_one (ps_if (pt_cmpR op_eq (pv 3) pe_str (nomark _))
          (pss_cons (ps_set (i := 1) sc_law_tagged.nd rfl (Or.inl rfl) (pe_op op_catG (pv 1) (pe_tupF (pa_cons (pv 2) pa_nil))))
          (pss_one (ps_set (i := 2) sc_law_tagged.nd rfl (Or.inl rfl) (pe_op op_add (pv 2) pe_int))))
          (pss_one (ps_set (i := 1) sc_law_tagged.nd rfl (Or.inl rfl) (pe_op op_catG (pv 1) (pe_tupF (pa_cons (pv 3) pa_nil))))))))
      (pss_one (ps_ret (pv 1)))))), ?_⟩
    have ls : (sV l).length = l.length := by rw [sV, List.length_map]
    refine ⟨le_line (show 0 ≤ 100000 by decide), fun p0 o0 h0 ho0 => ?_⟩
    obtain ⟨s0, z0⟩ := new_tz (xs := []) h0 ho0
    refine ⟨_, rfl, t, rfl, ⟨_, (ht.same s0).sq⟩, for_it (walk_tup (xs := sV l)) (fun i σ H' => ∃ (p : Addr) (x : Option V), σ = [some (.ref t), some (.ref p), some (.int ((l.take i).count ("*" : Str) : Nat)), x] ∧ Same H H' ∧ Tz H' p ((tgs 0 (l.take i)).map eV))
      ⟨p0, none, rfl, s0, z0⟩ (fun i σ H' _ ⟨_, _, _, q, _⟩ => (ht.same q).sq) ?_ ?_⟩
    · rintro i v σ H1 H2 hi ⟨p, x, rfl, s1, q1⟩ ⟨rfl, hv⟩
      have hil : i < l.length := by rw [ls] at hi; exact hi
      have hv2 : (l.map V.str)[i]? = some v := hv
      rw [List.getElem?_map, List.getElem?_eq_getElem hil] at hv2
      cases hv2
      have es : l.take (i + 1) = l.take i ++ [l[i]] := (take_snoc (List.getElem?_eq_getElem hil)).symm
      have lt : ((tgs 0 (l.take i)).map eV).length ≤ 6000 := by rw [List.length_map, tgs_len, List.length_take]; omega
      refine ⟨_, rfl, rfl, _, rfl, ite2 (fun e => ?_) (fun e => ?_)⟩
      · have ez : l[i] = ("*" : Str) := by
          have := of_decide_eq_true e
          injection this
        refine ⟨_, rfl, _, rfl, le_line (show 1 ≤ 100000 by decide), fun pt ot hpt hot => ?_⟩
        obtain ⟨s12, zt⟩ := new_tz (xs := [.int ((l.take i).count ("*" : Str) : Nat)]) hpt hot
        refine catG_any (q1.same s12) zt (by show _ + 1 ≤ _; omega) fun r H3 s3 z3 => ?_
        refine ⟨_, rfl, _, _, rfl, rfl, ?_⟩
        refine ⟨r, some (.str l[i]), ?_, (s1.trans s12).trans s3, ?_⟩
        · rw [es, List.count_append, ez, show List.count ("*" : Str) [("*" : Str)] = 1 by rfl]
          rfl
        · rw [es, tgs_snoc, if_pos ez, List.map_append, Nat.zero_add]
          exact z3
      · have ez : ¬ l[i] = ("*" : Str) := fun q => e (by rw [q]; exact decide_eq_true rfl)
        refine ⟨_, rfl, _, rfl, le_line (show 1 ≤ 100000 by decide), fun pt ot hpt hot => ?_⟩
        obtain ⟨s12, zt⟩ := new_tz (xs := [.str l[i]]) hpt hot
        refine catG_any (q1.same s12) zt (by show _ + 1 ≤ _; omega) fun r H3 s3 z3 => ?_
        refine ⟨r, some (.str l[i]), ?_, (s1.trans s12).trans s3, ?_⟩
        · rw [es, List.count_append, List.count_cons_of_ne ez]
          rfl
        · rw [es, tgs_snoc, if_neg ez, List.map_append]
          exact z3
    · rintro σ H1 ⟨p, x, rfl, s1, q1⟩
      rw [ls, List.take_length] at q1
      exact ⟨_, rfl, k _ _ s1 q1⟩
theorem ok_bent9 (T : Bm mg) (c_law_pick : DefOk P w K mg base CX0 1 "_law_pick" spPick) (D : Def0 K mg "_law_bent" s_law_bent) : DefOk P w K mg base CX0 2 "_law_bent" spBent9 := by
  refine D.ok sc_law_bent (fun vs H Q E h => ?_) (fun _ _ _ _ _ _ us hl => match us, hl with | [_, _, _, _], _ => rfl) (fun f cdv A outer s' H vs Q E hr h => ?_)
  · obtain ⟨a, c, r, t, o, rows, l, os, rfl, _⟩ := h
    rfl
  · obtain ⟨a, c, r, t, o, rows, l, os, rfl, hb, nra, ⟨ts, hR, hT⟩, R, ht, ho, los, l5, k⟩ := h
    have rl := R.len
    have hpos := R.pos
    have ll : (l.map e2V).length = l.length := List.length_map ..
    have lts : (ts.map V.ref).length = rows.length := by rw [List.length_map]; exact hT.1
    obtain ⟨t0, a1, a2, a3⟩ := hT.at (i := 0) (by omega)
    obtain ⟨t1, b1, b2, b3⟩ := hT.at (i := rows.length - 1) (by omega)
    have n0 := R.nm _ (List.getElem_mem (l := rows) (n := 0) (by omega))
    have n1 := R.nm _ (List.getElem_mem (l := rows) (n := rows.length - 1) (by omega))
    generalize rows[0] = q0 at a3 n0
    generalize rows[rows.length - 1] = q1 at b3 n1
    refine ⟨_, (pss_cons (ps_set (i := 4) sc_law_bent.nd rfl (Or.inl rfl) (pe_op op_cat (pe_lst (pa_cons pe_str (pa_cons pe_str (pa_cons pe_str (pa_cons (pe_ix ix_tup (pe_ix ix_list (pv 1) pe_int (fun _ _ => rfl)) pe_int (fun _ _ => rfl)) (pa_cons (pe_ix ix_tup (pe_ix ix_list (pv 1) (pe_op op_sub (pe_callB call_len_seq (by rfl) T.b_len boot_len (pa_cons (pv 1) pa_nil)) pe_int) (fun _ _ => rfl)) pe_int (fun _ _ => rfl)) (pa_cons (pe_op op_add_str (pe_ix ix_tup (pe_ix ix_list (pv 1) pe_int (fun _ _ => rfl)) pe_int (fun _ _ => rfl)) pe_str) pa_nil))))))) (pv 3)))
      (pss_cons (ps_set (i := 5) sc_law_bent.nd rfl (Or.inl rfl) (pe_ix ix_list (pv 4) (pe_d c_law_pick (hr.mono (by decide)) pass0 (pa_cons (pv 0) (pa_cons (pe_callB call_len_seq (by rfl) T.b_len boot_len (pa_cons (pv 4) pa_nil)) pa_nil))) (fun _ _ => rfl)))
      (pss_cons (ps_set (i := 6) sc_law_bent.nd rfl (Or.inl rfl) (pe_d c_law_pick (hr.mono (by decide)) pass0 (pa_cons (pv 0) (pa_cons (pe_op op_add (pe_callB call_len_seq (by rfl) T.b_len boot_len (pa_cons (pv 2) pa_nil)) pe_int) pa_nil))))
      (pss_cons (ps_set (i := 7) sc_law_bent.nd rfl (Or.inl rfl) (pe_d c_law_pick (hr.mono (by decide)) pass0 (pa_cons (pv 0) (pa_cons pe_int pa_nil))))
      (pss_cons (ps_if (pt_cmpR op_eq (pv 7) pe_int (nomark _))
        (pss_one (ps_ret (pe_op op_catG (pe_slice sl_tupG (pv 2) po_none (po_some (pv 6))) (pe_slice sl_tupG (pv 2) (po_some (pe_op op_add (pv 6) pe_int)) po_none))))
        pss_nil)
      (pss_cons (ps_if (pt_cmpR op_eq (pv 7) pe_int (nomark _))
        (pss_one (ps_ret (pe_op op_catG (pe_op op_catG (pe_slice sl_tupG (pv 2) po_none (po_some (pv 6))) (pe_tupF (pa_cons (pv 5) pa_nil))) (pe_slice sl_tupG (pv 2) (po_some (pv 6)) po_none))))
        pss_nil)
      (pss_one (ps_ret (pe_op op_catG (pe_op op_catG (pe_slice sl_tupG (pv 2) po_none (po_some (pv 6))) (pe_tupF (pa_cons (pv 5) pa_nil))) (pe_slice sl_tupG (pv 2) (po_some (pe_op op_add (pv 6) pe_int)) po_none)))))))))), ?_⟩
    refine ⟨_, rfl, r, _, _, _, rfl, rfl, SqL.of hR, atI_nat (j := 0) a2, t0, _, _, _, rfl, rfl, SqT.of a3, atI_nat (j := 0) rfl, _, rfl, _, rfl, r, _, rfl, .inl (SqL.of hR), _, _, rfl, rfl, r, _, _, _, rfl, rfl, SqL.of hR, at_ofG (j := rows.length - 1) (by rw [lts]; omega) b2, t1, _, _, _, rfl, rfl, SqT.of b3, atI_nat (j := 0) rfl, ?_⟩
    refine ⟨_, rfl, r, _, _, _, rfl, rfl, SqL.of hR, atI_nat (j := 0) a2, t0, _, _, _, rfl, rfl, SqT.of a3, atI_nat (j := 0) rfl, _, _, rfl, rfl, le_line ?_, le_line (show 6 ≤ 100000 by decide), fun D1 hD1 => ?_⟩
    · have := n0.2.1
      show q0.1.cps.size + 1 ≤ _
      omega
    have es : ∃ es : List E2, [V.str "nokindhere", .str "*", .str "", .str q0.1, .str q1.1, .str (q0.1 ++ ("q" : Str))] ++ os.map V.int = es.map e2V ∧ es.length = 6 + os.length ∧ ∀ x ∈ es, (∃ z, x = .k z ∧ PyData.strOk z = true) ∨ ∃ n ∈ os, x = .i n := by
      refine ⟨[.k "nokindhere", .k "*", .k "", .k q0.1, .k q1.1, .k (q0.1 ++ ("q" : Str))] ++ os.map E2.i, ?_, ?_, fun x hx => ?_⟩
      · rw [List.map_append, List.map_map]
        rfl
      · rw [List.length_append, List.length_map]
        rfl
      · rcases List.mem_append.mp hx with q | q
        · refine .inl ?_
          simp only [List.mem_cons, List.not_mem_nil, or_false] at q
          rcases q with rfl | rfl | rfl | rfl | rfl | rfl
          · exact ⟨_, rfl, by decide +kernel⟩
          · exact ⟨_, rfl, by decide +kernel⟩
          · exact ⟨_, rfl, by decide +kernel⟩
          · exact ⟨_, rfl, nm_ok n0⟩
          · exact ⟨_, rfl, nm_ok n1⟩
          · exact ⟨_, rfl, strOk_nmq n0⟩
        · obtain ⟨n, hn, rfl⟩ := List.mem_map.mp q
          exact .inr ⟨n, hn, rfl⟩
    obtain ⟨es, ees, les, hes⟩ := es
    have sD : Same H (upd H D1 (.lst [.str "nokindhere", .str "*", .str "", .str q0.1, .str q1.1, .str (q0.1 ++ ("q" : Str))])) := (Same.refl H).upd_new hD1
    refine ⟨_, rfl, _, _, _, _, rfl, rfl, upd_same, sD _ _ ho, le_line ?_, fun D2 hD2 => ?_⟩
    · rw [List.length_map]
      show 6 + _ ≤ _
      omega
    have sD2 := sD.upd_new (o := .lst ([V.str "nokindhere", .str "*", .str "", .str q0.1, .str q1.1, .str (q0.1 ++ ("q" : Str))] ++ os.map V.int)) hD2
    have d2 : (upd (upd H D1 (.lst [.str "nokindhere", .str "*", .str "", .str q0.1, .str q1.1, .str (q0.1 ++ ("q" : Str))])) D2 (.lst ([V.str "nokindhere", .str "*", .str "", .str q0.1, .str q1.1, .str (q0.1 ++ ("q" : Str))] ++ os.map V.int))) D2 = some (.lst (es.map e2V)) := by rw [upd_same, ees]
    have nD2a := (hb.same sD).ne hD2
    generalize upd (upd H D1 (.lst [.str "nokindhere", .str "*", .str "", .str q0.1, .str q1.1, .str (q0.1 ++ ("q" : Str))])) D2 (.lst ([V.str "nokindhere", .str "*", .str "", .str q0.1, .str q1.1, .str (q0.1 ++ ("q" : Str))] ++ os.map V.int)) = H2 at sD2 d2
    have b2' := hb.same sD2
    have lem : (es.map e2V).length = es.length := List.length_map ..
    refine ⟨_, rfl, _, rfl, _, rfl, D2, _, rfl, .inl (SqL.of d2), a, c, _, rfl, b2', by omega, by omega, fun H3 e k3 b3' e0 e1 => ?_⟩
    have d3 := k3 _ _ d2 nD2a.1
    have hel : e.toNat < es.length := by omega
    refine ⟨D2, _, _, _, rfl, rfl, SqL.of d3, at_ofG (j := e.toNat) (by omega) (by rw [List.getElem?_map, List.getElem?_eq_getElem hel]; rfl), ?_⟩
    have hen := hes _ (List.getElem_mem hel)
    generalize es[e.toNat] = en at hen
    have t3 := tz_kp (ht.same sD2) k3 b2'
    refine ⟨_, rfl, _, rfl, t, _, rfl, .inr t3.q.sq, _, _, rfl, rfl, a, c, _, rfl, b3', by omega, by omega, fun H4 d k4 b4 d0 d1 => ?_⟩
    obtain ⟨d, rfl⟩ := Int.eq_ofNat_of_zero_le d0
    have t4 := tz_kp t3 k4 b3'
    refine ⟨_, rfl, a, c, 3, rfl, b4, by decide, by decide, fun H5 f k5 b5 f0 f1 => ?_⟩
    have t5 := tz_kp t4 k5 b4
    have k05 : Kp a H H5 := (((Kp.same sD2).trans k3).trans k4).trans k5
    have hdl : d ≤ l.length := by rw [ll] at d1; omega
    have et : (l.map e2V).take d = (l.take d).map e2V := (List.map_take ..).symm
    have ed : ∀ m, (l.map e2V).drop m = (l.drop m).map e2V := fun m => (List.map_drop ..).symm
    have sub : ∀ x, x ∈ l.take d → x ∈ l := fun x h => List.mem_of_mem_take h
    have sub2 : ∀ m x, x ∈ l.drop m → x ∈ l := fun m x h => List.mem_of_mem_drop h
    refine ⟨_, rfl, rfl, _, rfl, ite2 (fun _ => ?_) (fun _ => ?_)⟩
    · refine ⟨_, rfl, _, rfl, _, rfl, slG_to t5 (by rw [ll]; exact hdl) fun u1 H6 s6 z6 => ?_⟩
      refine ⟨_, rfl, _, rfl, _, _, rfl, rfl, ?_⟩
      refine ⟨((d + 1 : Nat) : Int), rfl, ?_⟩
      unfold tNoPart
      refine slG_from (i := d + 1) (t5.same s6) fun u2 H7 s7 z7 => ?_
      rw [et] at z6
      rw [ed] at z7
      refine catG_any (z6.same s7) z7 (by rw [List.length_map, List.length_map, List.length_take, List.length_drop]; omega) fun u3 H8 s8 z8 => ?_
      rw [← List.map_append] at z8
      refine k _ u3 _ (k05.trans (Kp.same ((s6.trans s7).trans s8))) (b5.same ((s6.trans s7).trans s8)) z8 ?_ fun x hx => ?_
      · rw [List.length_append, List.length_take, List.length_drop]; omega
      · rcases List.mem_append.mp hx with q | q
        · exact .inl (sub x q)
        · exact .inl (sub2 _ x q)
    refine ⟨_, rfl, rfl, _, rfl, ite2 (fun _ => ?_) (fun _ => ?_)⟩
    · refine ⟨_, rfl, _, rfl, _, rfl, slG_to t5 (by rw [ll]; exact hdl) fun u1 H6 s6 z6 => ?_⟩
      rw [et] at z6
      refine ⟨_, rfl, le_line (show 1 ≤ 100000 by decide), fun p6 o6 h6 ho6 => ?_⟩
      obtain ⟨s7, z7⟩ := new_tz (xs := [e2V en]) h6 ho6
      generalize upd H6 p6 (.frz o6 (.tup [e2V en])) = H7 at s7 z7
      refine catG_any (z6.same s7) z7 (by rw [List.length_map, List.length_take]; show _ + 1 ≤ _; omega) fun u3 H8 s8 z8 => ?_
      have s58 := (s6.trans s7).trans s8
      refine ⟨_, rfl, _, rfl, _, rfl, ?_⟩
      unfold tNoPart
      refine slG_from (i := d) (t5.same s58) fun u4 H9 s9 z9 => ?_
      rw [ed] at z9
      refine catG_any (z8.same s9) z9 (by rw [List.length_append, List.length_map, List.length_map, List.length_take, List.length_drop]; show _ + 1 + _ ≤ _; omega) fun u5 H10 s10 z10 => ?_
      have e10 : (l.take d).map e2V ++ [e2V en] ++ (l.drop d).map e2V = (l.take d ++ [en] ++ l.drop d).map e2V := by rw [List.map_append, List.map_append]; rfl
      rw [e10] at z10
      refine k _ u5 _ (k05.trans (Kp.same ((s58.trans s9).trans s10))) (b5.same ((s58.trans s9).trans s10)) z10 ?_ fun x hx => ?_
      · simp only [List.length_append, List.length_take, List.length_drop, List.length_cons, List.length_nil]; omega
      · rcases List.mem_append.mp hx with q | q
        · rcases List.mem_append.mp q with q | q
          · exact .inl (sub x q)
          · rw [List.mem_singleton.mp q]; exact .inr hen
        · exact .inl (sub2 _ x q)
    · refine ⟨_, rfl, _, rfl, _, rfl, slG_to t5 (by rw [ll]; exact hdl) fun u1 H6 s6 z6 => ?_⟩
      rw [et] at z6
      refine ⟨_, rfl, le_line (show 1 ≤ 100000 by decide), fun p6 o6 h6 ho6 => ?_⟩
      obtain ⟨s7, z7⟩ := new_tz (xs := [e2V en]) h6 ho6
      generalize upd H6 p6 (.frz o6 (.tup [e2V en])) = H7 at s7 z7
      refine catG_any (z6.same s7) z7 (by rw [List.length_map, List.length_take]; show _ + 1 ≤ _; omega) fun u3 H8 s8 z8 => ?_
      have s58 := (s6.trans s7).trans s8
      refine ⟨_, rfl, _, rfl, _, _, rfl, rfl, ?_⟩
      refine ⟨((d + 1 : Nat) : Int), rfl, ?_⟩
      unfold tNoPart
      refine slG_from (i := d + 1) (t5.same s58) fun u4 H9 s9 z9 => ?_
      rw [ed] at z9
      refine catG_any (z8.same s9) z9 (by rw [List.length_append, List.length_map, List.length_map, List.length_take, List.length_drop]; show _ + 1 + _ ≤ _; omega) fun u5 H10 s10 z10 => ?_
      have e10 : (l.take d).map e2V ++ [e2V en] ++ (l.drop (d + 1)).map e2V = (l.take d ++ [en] ++ l.drop (d + 1)).map e2V := by rw [List.map_append, List.map_append]; rfl
      rw [e10] at z10
      refine k _ u5 _ (k05.trans (Kp.same ((s58.trans s9).trans s10))) (b5.same ((s58.trans s9).trans s10)) z10 ?_ fun x hx => ?_
      · simp only [List.length_append, List.length_take, List.length_drop, List.length_cons, List.length_nil]; omega
      · rcases List.mem_append.mp hx with q | q
        · rcases List.mem_append.mp q with q | q
          · exact .inl (sub x q)
          · rw [List.mem_singleton.mp q]; exact .inr hen
        · exact .inl (sub2 _ x q)
end
end Sh
end
section
set_option Elab.async false
set_option linter.all false
set_option maxRecDepth 100000
set_option maxHeartbeats 2000000
namespace L2
open PySem PySem.Spec PyProof.Rows
theorem room_mark {k j : Nat} {A : Around} {e : Option Value} (r : Room k A) (h : j ≤ k) : L2H.RoomH j (A.mark e) := L2H.RoomH.mono (k := k) ⟨r.dp, r.un⟩ h
/-- a def without defaults that is handed a caught exception -/
theorem Def0okP {a : Addr} {oe : Obj} {P : Program} {w : World} {K : PySem.W.Frag} {mg : Str → Option Value} {base : Heap} {k : Nat} {x : Str} {st : Stmt} {N ps : List Str} {sp : Sp} (D : Sh.Def0 K mg x st) (S : FnScope N ps (defScope st)) (len : ∀ vs H Q E, sp vs H Q E → vs.length = ps.length)
    (hb : ∀ (kV doc pm : Value) (an : Option Addr) (cdv ct : Value) (us : List Value), us.length = ps.length → bindArgs (PySem.W.fnOf x x (defArgs st) (defBody st) (defScope st) .none kV doc pm an cdv ct) ⟨us, []⟩ = pure (ps.zip us))
    (hbody : ∀ (f : Addr) (cdv : Value) (A : Around) (outer : List Env) (s : Shared) (H : Hp) (vs : List V) (Q : VK) (E : XK), L2H.RoomH k (A.deeper (envOfC x (defScope st) s.heap.objs.size f cdv)) → sp vs H Q E →
      ∃ t, PSs (L2H.cxH CX0 P w K mg base N x (defScope st) f cdv A outer s H E (a, oe)) (defBody st) t ∧ t { nx := fun _ H' => Q .non H', rt := Q } (start N vs) H) :
    ∃ f, mg x = some (.ref f) ∧ PySem.W.keepIn K (.ref f) = true ∧ FnP a oe P w K mg base CX0 (k + 1) f sp := by
  obtain ⟨f, fd, hm, F⟩ := D
  refine ⟨f, hm, F.kp, ?_⟩
  obtain ⟨oc, od, dV, kV, doc, pm, an, cdv, ct, osl, rfl, lk, hcd, hD, hK⟩ := F.ex
  have hD2 : dV = .none := by
    rcases hD with ⟨_, e⟩ | ⟨e, _⟩
    · exact e
    · exact absurd rfl e
  subst hD2
  exact fnP_of lk hcd S len (fun us hl => hb kV doc pm an cdv ct us hl) fun A outer s H vs Q E hr h => hbody f cdv A outer s H vs Q E hr h
end L2
namespace Sh
open PySem PySem.Spec PyProof.Rows L2
open C8 (pss_cut tCut)
open Evl (ixN_nat)
/-! ### the same, with truth values -/
def Sam9 : Nat → Hp → V → V → Prop
  | 0, _, _, _ => False
  | n + 1, H, v, u => (∃ i, v = .int i ∧ u = .int i) ∨ (∃ z : Str, v = .str z ∧ u = .str z) ∨ (∃ b : Bool, v = .bl b ∧ u = .bl b) ∨
    ∃ (a b : Addr) (xs ys : List V), v = .ref a ∧ u = .ref b ∧ Tq H a xs ∧ Tq H b ys ∧ xs.length = ys.length ∧ xs.length ≤ 100000 ∧ ∀ (i : Nat) (x y : V), xs[i]? = some x → ys[i]? = some y → Sam9 n H x y
theorem Sam9.same : ∀ {n : Nat} {H H' : Hp} {v u : V}, Sam9 n H v u → Same H H' → Sam9 n H' v u
  | 0, _, _, _, _, h, _ => h
  | n + 1, H, H', v, u, h, s => by
    rcases h with h | h | h | ⟨a, b, xs, ys, e1, e2, h1, h2, h3, h4, h5⟩
    · exact .inl h
    · exact .inr (.inl h)
    · exact .inr (.inr (.inl h))
    · exact .inr (.inr (.inr ⟨a, b, xs, ys, e1, e2, h1.same s, h2.same s, h3, h4, fun i x y p q => (h5 i x y p q).same s⟩))
theorem pe_X {X : Cx} {x : Str} {C : Addr} {pos : Pos} (hg : Gl X x) (h : X.mg x = some (.ref C)) (hd : (x == ("__debug__" : Str)) = false := by decide) : PE X (.Name x pos) (tC (.ref C)) := pe_glob hg h rfl hd
def spSam9 (n : Nat) : Sp := fun vs H Q _ => ∃ v u, vs = [v, u] ∧ Sam9 n H v u ∧ ∀ H', Same H H' → Q (.bl true) H'
/-! ### the exceptions, where they are caught -/
def E9.dx : E9 → Option Addr → Hp → Prop
  | .other, d, _ => d = none
  | x, d, H => ∃ dd, d = some dd ∧ H dd = some (.xd x.fs)
theorem E9.dx_any {x : E9} {d : Option Addr} {H : Hp} (h : x.dx d H) : d = none ∨ ∃ dd fs, d = some dd ∧ H dd = some (.xd fs) := by
  cases x with
  | other => exact .inl h
  | ent => obtain ⟨dd, a, b⟩ := h; exact .inr ⟨dd, _, a, b⟩
  | trm => obtain ⟨dd, a, b⟩ := h; exact .inr ⟨dd, _, a, b⟩
  | stump i => obtain ⟨dd, a, b⟩ := h; exact .inr ⟨dd, _, a, b⟩
  | trim i => obtain ⟨dd, a, b⟩ := h; exact .inr ⟨dd, _, a, b⟩
theorem E9.dx_same {x : E9} {d : Option Addr} {H H' : Hp} (h : x.dx d H) (s : Same H H') : x.dx d H' := by
  cases x with
  | other => exact h
  | ent => obtain ⟨dd, a, b⟩ := h; exact ⟨dd, a, s _ _ b⟩
  | trm => obtain ⟨dd, a, b⟩ := h; exact ⟨dd, a, s _ _ b⟩
  | stump i => obtain ⟨dd, a, b⟩ := h; exact ⟨dd, a, s _ _ b⟩
  | trim i => obtain ⟨dd, a, b⟩ := h; exact ⟨dd, a, s _ _ b⟩
def E9.told : E9 → List V
  | .ent => [.str "TooMany", .str "entries", .int 200]
  | .trm => [.str "TooMany", .str "trims", .int 8]
  | .stump i => [.str "InvalidStump", .int (i : Nat)]
  | .trim i => [.str "InvalidTrim", .int i]
  | .other => [.str "OtherBed"]
structure Kit9 (K : PySem.W.Frag) (mg : Str → Option Value) (A : A9) (CY : Addr) : Prop where
  y : mg "YardError" = some (.ref CY)
  ex : ∀ x : E9, ExcD K (x.cls A)
  oT : XOk K A.T ["what", "limit"]
  oS : XOk K A.S ["place"]
  oI : XOk K A.I ["place"]
  ki : ∀ x y : E9, PySem.W.kitOne K (.ref (x.cls A)) (.ref (y.cls A)) = some (x.tag == y.tag)
  ky : ∀ x : E9, PySem.W.kitOne K (.ref (x.cls A)) (.ref CY) = some true
  kv : ∀ x : E9, PySem.W.kitOne K (.ref (x.cls A)) (.type "ValueError") = some true
  em : ∀ x y : E9, PySem.W.exmOne K (.ref (x.cls A)) (.ref (y.cls A)) = some (x.tag == y.tag)
def spOwn (A : A9) (a : Addr) (cls : Value) (d : Option Addr) : Sp := fun vs H Q _ => ∃ x : E9, vs = [.ref a] ∧ cls = .ref (x.cls A) ∧ x.dx d H ∧ ∀ H', Same H H' → Q (.bl true) H'
def OwnOk (P : Program) (w : World) (K : PySem.W.Frag) (mg : Str → Option Value) (base : Heap) (A : A9) : Prop := ∀ (a : Addr) (oe : Obj) (cls : Value) (d : Option Addr), Zc cls d oe → (∃ vs, oe.data = .fields vs) →
  ∃ f, mg "_law_own" = some (.ref f) ∧ PySem.W.keepIn K (.ref f) = true ∧ FnP a oe P w K mg base CX0 1 f (spOwn A a cls d)
theorem tag_count9 (x : E9) : ([x.tag == 0, x.tag == 1, x.tag == 2, x.tag == 3] : List Bool).count true = 1 := by cases x <;> rfl
def spBed9 (C : Addr) : Sp := fun vs H Q _ => ∃ (r : Addr) (rows : List Row), vs = [.ref r] ∧ RowsAt H r rows ∧ ROk 5 rows ∧ 2 ≤ rows.length ∧ ∀ H' p, Same H H' → H p = none → BedAt C H' p rows → Q (.ref p) H'
theorem ROk.up5 {rows : List Row} (R : ROk 5 rows) : ROk 8 rows := ⟨R.pos, by have := R.len; omega, R.nd, R.nm, R.wd, R.leaf⟩
theorem ROk.up45 {rows : List Row} (R : ROk 4 rows) : ROk 5 rows := ⟨R.pos, by have := R.len; omega, R.nd, R.nm, R.wd, R.leaf⟩
abbrev s_law_own : Stmt := top 51
abbrev N_law_own : List Str := ["e", "told"]
theorem sc_law_own : FnScope N_law_own ["e"] (defScope s_law_own) := ⟨rfl, rfl, rfl, by decide +kernel, rfl, by decide +kernel, by decide +kernel⟩
abbrev s_law_bed : Stmt := top 45
abbrev N_law_bed : List Str := ["kinds"]
theorem sc_law_bed : FnScope N_law_bed ["kinds"] (defScope s_law_bed) := ⟨rfl, rfl, rfl, by decide +kernel, rfl, by decide +kernel, by decide +kernel⟩
section
variable {P : Program} {w : World} {K : PySem.W.Frag} {mg : Str → Option Value} {base : Heap} {C CY : Addr} {A : A9}
theorem ok_sam9 (T : Bm mg) (D : Def0 K mg "_law_same" s_law_same) : ∀ n, DefOk P w K mg base CX0 n "_law_same" (spSam9 n)
  | 0 => by
    obtain ⟨f, fd, hm, F⟩ := D
    exact ⟨f, hm, F.kp, fun A outer s H us vs Q E hr e0 r hs => by obtain ⟨v, u, _, h, _⟩ := hs; exact h.elim⟩
  | n + 1 => by
    have c_law_same := ok_sam9 T D n
    refine D.ok sc_law_same (fun vs H Q E h => ?_) (fun _ _ _ _ _ _ us hl => match us, hl with | [_, _], _ => rfl) (fun f cdv A outer s H vs Q E hr h => ?_)
    · obtain ⟨v, u, rfl, _⟩ := h
      rfl
    · obtain ⟨v, u, rfl, hE, k⟩ := h
      refine ⟨_, (pss_cons (ps_if (pt_val (pe_callB call_isi (by rfl) T.b_isinstance (by decide +kernel) (pa_cons (pv 1) (pa_cons (pe_bltn (v := .ty "tuple") (by rfl) T.b_tuple boot_tuple rfl) pa_nil))))
          (pss_cons (ps_if (PW.pt (pw_or (pt_not (pt_val (pe_callB call_isi (by rfl) T.b_isinstance (by decide +kernel) (pa_cons (pv 0) (pa_cons (pe_bltn (v := .ty "tuple") (by rfl) T.b_tuple boot_tuple rfl) pa_nil))))) (pw_or1 (pt_cmpR op_ne (pe_callB call_len_seq (by rfl) T.b_len boot_len (pa_cons (pv 0) pa_nil)) (pe_callB call_len_seq (by rfl) T.b_len boot_len (pa_cons (pv 1) pa_nil)) (nomark _)))))
            (pss_one (ps_ret pe_bl))
            pss_nil)
          (pss_cons (ps_for PassesOwn.never rfl (pi_range1 (by rfl) T.b_range (pa_cons (pe_callB call_len_seq (by rfl) T.b_len boot_len (pa_cons (pv 1) pa_nil)) pa_nil)) (pg_name (i := 2) sc_law_same.nd rfl (Or.inl rfl))
            (pss_one (ps_if (pt_not (pt_val (pe_d c_law_same hr pass0 (pa_cons (pe_ix ix_tup (pv 0) (pv 2) (fun _ _ => rfl)) (pa_cons (pe_ix ix_tup (pv 1) (pv 2) (fun _ _ => rfl)) pa_nil)))))
              (pss_one (ps_ret pe_bl))
              pss_nil)))
          (pss_one (ps_ret pe_bl))))
          pss_nil)
        (pss_cons (ps_if (pt_cmpR op_isN (pv 1) pe_non (nomark _))
          (pss_one (ps_ret (pe_cmpR op_isN (pv 0) pe_non (nomark _))))
          pss_nil)
        (pss_cons (ps_if (pt_val (pe_callB call_isi (by rfl) T.b_isinstance (by decide +kernel) (pa_cons (pv 1) (pa_cons (pe_bltn (v := .ty "bool") (by rfl) T.b_bool boot_bool rfl) pa_nil))))
          (pss_one (ps_ret (pe_and (pe_callB call_isi (by rfl) T.b_isinstance (by decide +kernel) (pa_cons (pv 0) (pa_cons (pe_bltn (v := .ty "bool") (by rfl) T.b_bool boot_bool rfl) pa_nil))) (pe_one (pe_cmpR op_eq (pv 0) (pv 1) (nomark _))))))
          pss_nil)
        (pss_cons (ps_if (pt_val (pe_callB call_isi (by rfl) T.b_isinstance (by decide +kernel) (pa_cons (pv 1) (pa_cons (pe_bltn (v := .ty "str") (by rfl) T.b_str boot_str rfl) pa_nil))))
          (pss_one (ps_ret (pe_and (pe_callB call_isi (by rfl) T.b_isinstance (by decide +kernel) (pa_cons (pv 0) (pa_cons (pe_bltn (v := .ty "str") (by rfl) T.b_str boot_str rfl) pa_nil))) (pe_one (pe_cmpR op_eq (pv 0) (pv 1) (nomark _))))))
          pss_nil)
        (pss_one (ps_ret (pe_and (pe_callB call_isi (by rfl) T.b_isinstance (by decide +kernel) (pa_cons (pv 0) (pa_cons (pe_bltn (v := .ty "int") (by rfl) T.b_int boot_int rfl) pa_nil))) (pe_and (pe_not (pe_callB call_isi (by rfl) T.b_isinstance (by decide +kernel) (pa_cons (pv 0) (pa_cons (pe_bltn (v := .ty "bool") (by rfl) T.b_bool boot_bool rfl) pa_nil)))) (pe_one (pe_cmpR op_eq (pv 0) (pv 1) (nomark _))))))))))), ?_⟩
      rcases hE with ⟨i, rfl, rfl⟩ | ⟨z, rfl, rfl⟩ | ⟨b, rfl, rfl⟩ | ⟨a, b, xs, ys, rfl, rfl, h1, h2, h3, h4, h5⟩
      · refine ⟨_, rfl, _, _, _, _, false, rfl, .ty _, .base (.int _), rfl, _, rfl, ifn (by decide) ?_⟩
        refine ⟨_, rfl, rfl, _, rfl, ifn (fun e => by cases of_decide_eq_true e) ?_⟩
        refine ⟨_, rfl, _, _, _, _, false, rfl, .ty _, .base (.int _), rfl, _, rfl, ifn (by decide) ?_⟩
        refine ⟨_, rfl, _, _, _, _, false, rfl, .ty _, .base (.int _), rfl, _, rfl, ifn (by decide) ?_⟩
        refine ⟨_, rfl, _, _, _, _, true, rfl, .ty _, .base (.int _), rfl, _, rfl, ifp rfl ?_⟩
        refine ⟨_, rfl, _, _, _, _, false, rfl, .ty _, .base (.int _), rfl, _, rfl, _, rfl, ifp rfl ?_⟩
        refine ⟨_, rfl, _, rfl, rfl, ?_⟩
        rw [decide_eq_true rfl]
        exact k _ (Same.refl H)
      · refine ⟨_, rfl, _, _, _, _, false, rfl, .ty _, .base (.str _), rfl, _, rfl, ifn (by decide) ?_⟩
        refine ⟨_, rfl, rfl, _, rfl, ifn (fun e => by cases of_decide_eq_true e) ?_⟩
        refine ⟨_, rfl, _, _, _, _, false, rfl, .ty _, .base (.str _), rfl, _, rfl, ifn (by decide) ?_⟩
        refine ⟨_, rfl, _, _, _, _, true, rfl, .ty _, .base (.str _), rfl, _, rfl, ifp rfl ?_⟩
        refine ⟨_, rfl, _, _, _, _, true, rfl, .ty _, .base (.str _), rfl, _, rfl, ifp rfl ?_⟩
        refine ⟨_, rfl, _, rfl, rfl, ?_⟩
        rw [decide_eq_true rfl]
        exact k _ (Same.refl H)
      · refine ⟨_, rfl, _, _, _, _, false, rfl, .ty _, .base (.bl _), rfl, _, rfl, ifn (by decide) ?_⟩
        refine ⟨_, rfl, rfl, _, rfl, ifn (fun e => by cases of_decide_eq_true e) ?_⟩
        refine ⟨_, rfl, _, _, _, _, true, rfl, .ty _, .base (.bl _), rfl, _, rfl, ifp rfl ?_⟩
        refine ⟨_, rfl, _, _, _, _, true, rfl, .ty _, .base (.bl _), rfl, _, rfl, ifp rfl ?_⟩
        refine ⟨_, rfl, _, rfl, rfl, ?_⟩
        rw [decide_eq_true rfl]
        exact k _ (Same.refl H)
      · refine ⟨_, rfl, _, _, _, _, true, rfl, .ty _, tyx_tupM h2, rfl, _, rfl, ifp rfl ?_⟩
        refine ⟨_, rfl, _, _, _, _, true, rfl, .ty _, tyx_tupM h1, rfl, _, rfl, ifn (by decide) ?_⟩
        refine ⟨_, rfl, a, _, rfl, .inr h1.sq, _, rfl, b, _, rfl, .inr h2.sq, rfl, _, rfl, ifn (by simp [h3]) ?_⟩
        refine ⟨_, rfl, b, _, rfl, .inr h2.sq, _, rfl, by omega, by omega, for_range (n := (((ys.length : Nat) : Int)).toNat) (fun i σ H' => ∃ x : Option V, σ = [some (.ref a), some (.ref b), x] ∧ Same H H') ⟨none, rfl, Same.refl H⟩ ?_ ?_⟩
        · rintro i σ H1 hi ⟨x, rfl, s1⟩
          have hil : i < ys.length := by rw [Int.toNat_natCast] at hi; exact hi
          have hix : i < xs.length := by omega
          refine ⟨_, rfl, _, rfl, a, _, _, _, rfl, rfl, (h1.same s1).sq, at_ofG (j := i) (by omega) (List.getElem?_eq_getElem hix), _, rfl, _, rfl, b, _, _, _, rfl, rfl, (h2.same s1).sq, at_ofG (j := i) (by omega) (List.getElem?_eq_getElem hil), _, _, rfl, (h5 i _ _ (List.getElem?_eq_getElem hix) (List.getElem?_eq_getElem hil)).same s1, fun H2 s2 => ?_⟩
          exact ⟨_, rfl, ifn (by decide) ⟨_, rfl, s1.trans s2⟩⟩
        · rintro σ H1 ⟨x, rfl, s1⟩
          exact k _ s1
theorem ok_own9 (T : Bm mg) (x9 : X9 P w K mg A) (kt : Kit9 K mg A CY) (D : Def0 K mg "_law_own" s_law_own) : OwnOk P w K mg base A := by
  intro a oe cls d hz hf
  have x_TooMany := x9.xT.gC
  have x_InvalidStump := x9.xS.gC
  have x_InvalidTrim := x9.xI.gC
  have x_OtherBed := x9.gO
  have x_YardError := kt.y
  refine Def0okP D sc_law_own (fun vs H Q E h => ?_) (fun _ _ _ _ _ _ us hl => match us, hl with | [_], _ => rfl) (fun f cdv A' outer s H vs Q E hr h => ?_)
  · obtain ⟨x, rfl, _⟩ := h
    rfl
  · obtain ⟨x, rfl, ec, hd, k⟩ := h
    refine ⟨_, (pss_cons (ps_set (i := 1) sc_law_own.nd rfl (Or.inl rfl) (pe_lst (pa_cons (pe_callB (call_isP (by exact List.mem_cons_self) hz hf) (by rfl) T.b_isinstance (by decide +kernel) (pa_cons (pv 0) (pa_cons (pe_X (by rfl) x_TooMany) pa_nil))) (pa_cons (pe_callB (call_isP (by exact List.mem_cons_self) hz hf) (by rfl) T.b_isinstance (by decide +kernel) (pa_cons (pv 0) (pa_cons (pe_X (by rfl) x_InvalidStump) pa_nil))) (pa_cons (pe_callB (call_isP (by exact List.mem_cons_self) hz hf) (by rfl) T.b_isinstance (by decide +kernel) (pa_cons (pv 0) (pa_cons (pe_X (by rfl) x_InvalidTrim) pa_nil))) (pa_cons (pe_callB (call_isP (by exact List.mem_cons_self) hz hf) (by rfl) T.b_isinstance (by decide +kernel) (pa_cons (pv 0) (pa_cons (pe_X (by rfl) x_OtherBed) pa_nil))) pa_nil))))))
      (pss_one (ps_ret (pe_and (pe_cmpR op_eq (show PE _ _ (tBM K "list" (rCntB K) _ _) from (pe_bm PySem.F.plainAttrs_list PySem.F.slot_list_count PySem.F.type_list_count (show MtR _ _ (rCntB K) from mt_bcount) (pv 1) (pa_cons pe_bl pa_nil))) pe_int (nomark _)) (pe_and (pe_callB (call_isP (by exact List.mem_cons_self) hz hf) (by rfl) T.b_isinstance (by decide +kernel) (pa_cons (pv 0) (pa_cons (pe_X (by rfl) x_YardError) pa_nil))) (pe_one (pe_callB (call_isP (by exact List.mem_cons_self) hz hf) (by rfl) T.b_isinstance (by decide +kernel) (pa_cons (pv 0) (pa_cons (pe_bltn (v := .ty "ValueError") (by rfl) T.b_ValueError (by decide +kernel) rfl) pa_nil))))))))), ?_⟩
    have hda := E9.dx_any (x := x) hd
    refine ⟨_, rfl, _, _, .ref ((E9.ent).cls A), _, rfl, ec, hda, kt.ex x, fun _ h => h, kt.ki x .ent, ?_⟩
    refine ⟨_, rfl, _, _, .ref ((E9.stump 0).cls A), _, rfl, ec, hda, kt.ex x, fun _ h => h, kt.ki x (.stump 0), ?_⟩
    refine ⟨_, rfl, _, _, .ref ((E9.trim 0).cls A), _, rfl, ec, hda, kt.ex x, fun _ h => h, kt.ki x (.trim 0), ?_⟩
    refine ⟨_, rfl, _, _, .ref ((E9.other).cls A), _, rfl, ec, hda, kt.ex x, fun _ h => h, kt.ki x .other, ?_⟩
    refine ⟨le_line (show 4 ≤ 100000 by decide), fun p hp => ?_⟩
    have s1 : Same H (upd H p (.lst ([x.tag == 0, x.tag == 1, x.tag == 2, x.tag == 3].map V.bl))) := (Same.refl H).upd_new hp
    have h1 : (upd H p (.lst ([x.tag == 0, x.tag == 1, x.tag == 2, x.tag == 3].map V.bl))) p = some (.lst ([x.tag == 0, x.tag == 1, x.tag == 2, x.tag == 3].map V.bl)) := upd_same
    have hd1 := E9.dx_any (E9.dx_same (x := x) hd s1)
    refine ⟨_, rfl, .inl ⟨rfl, _, SqL.of h1⟩, p, _, rfl, rfl, SqL.of h1, ?_⟩
    rw [tag_count9 x]
    refine ⟨rfl, _, rfl, ifp (by decide) ?_⟩
    refine ⟨_, rfl, _, _, .ref CY, true, rfl, ec, hd1, kt.ex x, fun _ h => h, kt.ky x, _, rfl, ifp rfl ?_⟩
    exact ⟨_, rfl, _, .ty "ValueError", .type "ValueError", true, rfl, ec, hd1, kt.ex x, fun _ h => h, kt.kv x, k _ s1⟩
theorem ok_bed9 (T : Bl mg) (c_Bed : BedOk P w K mg base C 5) (D : Def0 K mg "_law_bed" s_law_bed) : DefOk P w K mg base CX0 7 "_law_bed" (spBed9 C) := by
  refine D.ok sc_law_bed (fun vs H Q E h => ?_) (fun _ _ _ _ _ _ us hl => match us, hl with | [_], _ => rfl) (fun f cdv A outer s H vs Q E hr h => ?_)
  · obtain ⟨r, rows, rfl, _⟩ := h
    rfl
  · obtain ⟨r, rows, rfl, ⟨ts, hR, hT⟩, R5, h2, k⟩ := h
    have R := R5.up5
    refine ⟨_, (pss_cons (ps_if (pt_cmpR op_eq (pe_callB call_len_seq (by rfl) T.b_len boot_len (pa_cons (pv 0) pa_nil)) pe_int (nomark _))
        (pss_one (ps_ret (pe_bed c_Bed (hr.mono (by decide)) (pa_cons (pe_ix ix_list (pv 0) pe_int (fun _ _ => rfl)) (pa_cons (pe_ix ix_list (pv 0) pe_int (fun _ _ => rfl)) pa_nil)))))
        pss_nil)
      (pss_cons (ps_if (pt_cmpR op_eq (pe_callB call_len_seq (by rfl) T.b_len boot_len (pa_cons (pv 0) pa_nil)) pe_int (nomark _))
        (pss_one (ps_ret (pe_bed c_Bed (hr.mono (by decide)) (pa_cons (pe_ix ix_list (pv 0) pe_int (fun _ _ => rfl)) (pa_cons (pe_ix ix_list (pv 0) pe_int (fun _ _ => rfl)) (pa_cons (pe_ix ix_list (pv 0) pe_int (fun _ _ => rfl)) pa_nil))))))
        pss_nil)
      (pss_cons (ps_if (pt_cmpR op_eq (pe_callB call_len_seq (by rfl) T.b_len boot_len (pa_cons (pv 0) pa_nil)) pe_int (nomark _))
        (pss_one (ps_ret (pe_bed c_Bed (hr.mono (by decide)) (pa_cons (pe_ix ix_list (pv 0) pe_int (fun _ _ => rfl)) (pa_cons (pe_ix ix_list (pv 0) pe_int (fun _ _ => rfl)) (pa_cons (pe_ix ix_list (pv 0) pe_int (fun _ _ => rfl)) (pa_cons (pe_ix ix_list (pv 0) pe_int (fun _ _ => rfl)) pa_nil)))))))
        pss_nil)
      (pss_one (ps_ret (pe_bed c_Bed (hr.mono (by decide)) (pa_cons (pe_ix ix_list (pv 0) pe_int (fun _ _ => rfl)) (pa_cons (pe_ix ix_list (pv 0) pe_int (fun _ _ => rfl)) (pa_cons (pe_ix ix_list (pv 0) pe_int (fun _ _ => rfl)) (pa_cons (pe_ix ix_list (pv 0) pe_int (fun _ _ => rfl)) (pa_cons (pe_ix ix_list (pv 0) pe_int (fun _ _ => rfl)) pa_nil))))))))))), ?_⟩
    have h1 : 2 ≤ ts.length := by rw [hT.1]; exact h2
    have h8 : ts.length ≤ 5 := by rw [hT.1]; have := R5.len; omega
    match ts, And.intro h1 h8 with
    | [], h => exact absurd h.1 (by decide)
    | [t0], h => exact absurd h.1 (by show ¬ 2 ≤ 1; decide)
    | [t0, t1], _ =>
      refine ⟨_, rfl, r, _, rfl, .inl (SqL.of hR), rfl, _, rfl, ?_⟩
      refine ifp (by simp) ?_
      exact ⟨_, rfl, r, _, _, _, rfl, rfl, SqL.of hR, atI_nat (j := 0) rfl, _, rfl, r, _, _, _, rfl, rfl, SqL.of hR, atI_nat (j := 1) rfl, [t0, t1], rows, rfl, hT, R, k⟩
    | [t0, t1, t2], _ =>
      refine ⟨_, rfl, r, _, rfl, .inl (SqL.of hR), rfl, _, rfl, ?_⟩
      refine ifn (fun e => by simp at e) ?_
      refine ⟨_, rfl, r, _, rfl, .inl (SqL.of hR), rfl, _, rfl, ?_⟩
      refine ifp (by simp) ?_
      exact ⟨_, rfl, r, _, _, _, rfl, rfl, SqL.of hR, atI_nat (j := 0) rfl, _, rfl, r, _, _, _, rfl, rfl, SqL.of hR, atI_nat (j := 1) rfl, _, rfl, r, _, _, _, rfl, rfl, SqL.of hR, atI_nat (j := 2) rfl, [t0, t1, t2], rows, rfl, hT, R, k⟩
    | [t0, t1, t2, t3], _ =>
      refine ⟨_, rfl, r, _, rfl, .inl (SqL.of hR), rfl, _, rfl, ?_⟩
      refine ifn (fun e => by simp at e) ?_
      refine ⟨_, rfl, r, _, rfl, .inl (SqL.of hR), rfl, _, rfl, ?_⟩
      refine ifn (fun e => by simp at e) ?_
      refine ⟨_, rfl, r, _, rfl, .inl (SqL.of hR), rfl, _, rfl, ?_⟩
      refine ifp (by simp) ?_
      exact ⟨_, rfl, r, _, _, _, rfl, rfl, SqL.of hR, atI_nat (j := 0) rfl, _, rfl, r, _, _, _, rfl, rfl, SqL.of hR, atI_nat (j := 1) rfl, _, rfl, r, _, _, _, rfl, rfl, SqL.of hR, atI_nat (j := 2) rfl, _, rfl, r, _, _, _, rfl, rfl, SqL.of hR, atI_nat (j := 3) rfl, [t0, t1, t2, t3], rows, rfl, hT, R, k⟩
    | [t0, t1, t2, t3, t4], _ =>
      refine ⟨_, rfl, r, _, rfl, .inl (SqL.of hR), rfl, _, rfl, ?_⟩
      refine ifn (fun e => by simp at e) ?_
      refine ⟨_, rfl, r, _, rfl, .inl (SqL.of hR), rfl, _, rfl, ?_⟩
      refine ifn (fun e => by simp at e) ?_
      refine ⟨_, rfl, r, _, rfl, .inl (SqL.of hR), rfl, _, rfl, ?_⟩
      refine ifn (fun e => by simp at e) ?_
      exact ⟨_, rfl, r, _, _, _, rfl, rfl, SqL.of hR, atI_nat (j := 0) rfl, _, rfl, r, _, _, _, rfl, rfl, SqL.of hR, atI_nat (j := 1) rfl, _, rfl, r, _, _, _, rfl, rfl, SqL.of hR, atI_nat (j := 2) rfl, _, rfl, r, _, _, _, rfl, rfl, SqL.of hR, atI_nat (j := 3) rfl, _, rfl, r, _, _, _, rfl, rfl, SqL.of hR, atI_nat (j := 4) rfl, [t0, t1, t2, t3, t4], rows, rfl, hT, R, k⟩
    | _ :: _ :: _ :: _ :: _ :: _ :: _, h => exact absurd h.2 (by simp)
end
end Sh
end
section
set_option Elab.async false
set_option linter.all false
set_option maxRecDepth 100000
set_option maxHeartbeats 2000000
namespace Sh
open PySem PySem.Spec PyProof.Rows L2
open C8 (pss_cut tCut)
open Evl (ixN_nat)
def resL (rows : List Row) (lf : E2 → Bool) (l : List E2) : Option Nat := match (List.range ((fault2 rows lf l).getD l.length)).find? (repAt l) with
  | some p => some p
  | none => fault2 rows lf l
theorem resF_eq (rows : List Row) (h : Nat) (l : List E2) : resF rows h l = resL rows (lfN h) l := rfl
def lawF (rows : List Row) (lf : E2 → Bool) (l : List E2) (once : Bool) : Option Nat := if once = true then resL rows lf l else fault2 rows lf l
def ansN : Option Nat → V
  | none => .int (-1)
  | some k => .int (k : Nat)
def e2K : E2 → Int ⊕ Str
  | .k z => .inr z
  | .i j => .inl j
theorem find_none {l : List E2} {n : Nat} (h : ∀ j, j < n → repAt l j = false) : (List.range n).find? (repAt l) = none := List.find?_range_eq_none.mpr fun j hj => by rw [h j hj]; rfl
theorem law_at {rows : List Row} {lf : E2 → Bool} {l : List E2} {once : Bool} {i : Nat} (h : fault2 rows lf l = some i) (hr : once = true → ∀ j, j < i → repAt l j = false) : lawF rows lf l once = some i := by
  unfold lawF
  cases once with
  | false => rw [if_neg (by decide)]; exact h
  | true =>
    rw [if_pos rfl]
    unfold resL
    rw [h]
    show (match (List.range i).find? (repAt l) with | some p => some p | none => some i) = some i
    rw [find_none (hr rfl)]
theorem law_none {rows : List Row} {lf : E2 → Bool} {l : List E2} {once : Bool} (h : fault2 rows lf l = none) (hr : once = true → ∀ j, j < l.length → repAt l j = false) : lawF rows lf l once = none := by
  unfold lawF
  cases once with
  | false => rw [if_neg (by decide)]; exact h
  | true =>
    rw [if_pos rfl]
    unfold resL
    rw [h]
    show (match (List.range l.length).find? (repAt l) with | some p => some p | none => none) = none
    rw [find_none (hr rfl)]
theorem law_rep {rows : List Row} {lf : E2 → Bool} {l : List E2} {i : Nat} (hi : i < (fault2 rows lf l).getD l.length) (hr : ∀ j, j < i → repAt l j = false) (h : repAt l i = true) : lawF rows lf l true = some i := by
  unfold lawF resL
  rw [if_pos rfl, List.find?_range_eq_some.mpr ⟨h, List.mem_range.mpr hi, fun j hj => by rw [hr j hj]; rfl⟩]
def spLF : Sp := fun vs H Q _ => ∃ (ar t F : Addr) (rows : List Row) (l : List E2) (lv : List V) (lf : E2 → Bool) (once : Bool), vs = [.ref ar, .ref t, .ref F, .bl once] ∧ H ar = some (.dK (wL rows)) ∧ ROk 8 rows ∧ Tq H t (l.map e2V) ∧ l.length ≤ 6000 ∧ H F = some (.lst lv) ∧ lv.all flatV = true ∧
  (∀ x, inV (e2V x) lv = lf x) ∧ (∀ z, lf (.k z) = true → nmO rows z < 0) ∧ (once = true → ∀ z, lf (.k z) = false) ∧ ∀ H', Same H H' → Q (ansN (lawF rows lf l once)) H'
abbrev s_law_fault : Stmt := top 49
abbrev N_law_fault : List Str := ["arity", "row", "free", "once", "need", "used", "k"]
theorem sc_law_fault : FnScope N_law_fault ["arity", "row", "free", "once"] (defScope s_law_fault) := ⟨rfl, rfl, rfl, by decide +kernel, rfl, by decide +kernel, by decide +kernel⟩
section
variable {P : Program} {w : World} {K : PySem.W.Frag} {mg : Str → Option Value} {base : Heap} {C : Addr}
theorem ok_lfault (T : Bm mg) (D : Def0 K mg "_law_fault" s_law_fault) : DefOk P w K mg base CX0 1 "_law_fault" spLF := by
  refine D.ok sc_law_fault (fun vs H Q E h => ?_) (fun _ _ _ _ _ _ us hl => match us, hl with | [_, _, _, _], _ => rfl) (fun f cdv A outer s' H vs Q E hr h => ?_)
  · obtain ⟨ar, t, F, rows, l, lv, lf, once, rfl, _⟩ := h
    rfl
  · obtain ⟨ar, t, F, rows, l, lv, lf, once, rfl, ha, R, ht, hsz, hF, hfl, hx, hk, ho, k⟩ := h
    have hu := hu_of hr
    have ll : (l.map e2V).length = l.length := List.length_map ..
    refine ⟨_, (pss_cons (ps_set (i := 4) sc_law_fault.nd rfl (Or.inl rfl) pe_int)
      (pss_cons (ps_set (i := 5) sc_law_fault.nd rfl (Or.inl rfl) (pe_lst pa_nil))
      (pss_cons (ps_for PassesOwn.never rfl (pi_range1 (by rfl) T.b_range (pa_cons (pe_callB call_len_seq (by rfl) T.b_len boot_len (pa_cons (pv 1) pa_nil)) pa_nil)) (pg_name (i := 6) sc_law_fault.nd rfl (Or.inl rfl))
        (pss_cons (ps_if (pt_cmpR op_eq (pv 4) pe_int (nomark _))
          (pss_one (ps_ret (pv 6)))
          pss_nil)
        (pss_one (ps_if (pt_cmp (pc_din hu (pe_ix ix_tup (pv 1) (pv 6) (fun _ _ => rfl)) (pv 0)))
          (pss_one (ps_set (i := 4) sc_law_fault.nd rfl (Or.inl rfl) (pe_op op_add (pe_op op_sub (pv 4) pe_int) (pe_dget hu (pv 0) (pe_ix ix_tup (pv 1) (pv 6) (fun _ _ => rfl)) (fun _ _ => rfl)))))
          (pss_one (ps_if (PW.pt (pw_and (pt_cmpR op_in_seq (pe_ix ix_tup (pv 1) (pv 6) (fun _ _ => rfl)) (pv 2) (by rfl)) (pw_and1 (pt_not (PW.pt (pw_and (pt_val (pv 3)) (pw_and1 (pt_cmpR op_in_seq (pe_ix ix_tup (pv 1) (pv 6) (fun _ _ => rfl)) (pv 5) (by rfl)))))))))
            (pss_cons (ps_expr (pe_bm PySem.F.plainAttrs_list PySem.F.slot_list_append PySem.F.type_list_append mt_append (pv 5) (pa_cons (pe_ix ix_tup (pv 1) (pv 6) (fun _ _ => rfl)) pa_nil)))
            (pss_one (ps_set (i := 4) sc_law_fault.nd rfl (Or.inl rfl) (pe_op op_sub (pv 4) pe_int))))
            (pss_one (ps_ret (pv 6)))))))))
      (pss_cons (ps_if (pt_cmpR op_eq (pv 4) pe_int (nomark _))
        (pss_one (ps_ret (pe_un un_neg pe_int)))
        pss_nil)
      (pss_one (ps_ret (pe_callB call_len_seq (by rfl) T.b_len boot_len (pa_cons (pv 1) pa_nil)))))))), ?_⟩
    refine ⟨le_line (show 0 ≤ 100000 by decide), fun U hU => ?_⟩
    have s0 : Same H (upd H U (.lst [])) := (Same.refl H).upd_new hU
    refine ⟨_, rfl, t, _, rfl, .inr ((ht.same s0).sq), _, rfl, by omega, by omega, for_range (n := (((l.map e2V).length : Nat) : Int).toNat) (fun i σ H' => ∃ (x : Option V) (n : Nat), σ = [some (.ref ar), some (.ref t), some (.ref F), some (.bl once), some (.int (n : Nat)), some (.ref U), x] ∧ Same H H' ∧ H' U = some (.lst (((l.take i).filter lf).map e2V)) ∧
        fl2 (ask rows lf) (l.drop i) n i = fault2 rows lf l ∧ (once = true → ∀ j, j < i → repAt l j = false))
      ⟨none, 1, rfl, s0, upd_same, rfl, fun _ j h => absurd h (Nat.not_lt_zero _)⟩ ?_ ?_⟩
    · rintro i σ H1 hi ⟨x, n, rfl, s1, u1, hfo, hrep⟩
      have hil : i < l.length := by rw [ll, Int.toNat_natCast] at hi; exact hi
      have t1 := ht.same s1
      have hv : (l.map e2V)[i]? = some (e2V l[i]) := by rw [List.getElem?_map, List.getElem?_eq_getElem hil]; rfl
      have ei : (0 : Int) + ((i : Nat) : Int) = ((i : Nat) : Int) := Int.zero_add _
      rw [List.drop_eq_getElem_cons hil] at hfo
      refine ⟨_, rfl, rfl, _, rfl, ite2 (fun e => ?_) (fun e => ?_)⟩
      · have z2 : n = 0 := by
          have := int_eq0 e
          omega
        subst z2
        have q : fault2 rows lf l = some i := hfo.symm
        have k2 := k _ s1
        rw [law_at q hrep] at k2
        refine ⟨_, rfl, ?_⟩
        rw [ei]
        exact k2
      obtain ⟨m, rfl⟩ : ∃ m, n = m + 1 := ⟨n - 1, by
        have : n ≠ 0 := fun q => e (by rw [q]; exact decide_eq_true rfl)
        omega⟩
      have hfo : (match ask rows lf l[i] with | none => some i | some k => fl2 (ask rows lf) (l.drop (i + 1)) (m + k) (i + 1)) = fault2 rows lf l := hfo
      have hg : l[i]? = some l[i] := List.getElem?_eq_getElem hil
      have et := flt_snoc (p := lf) hg
      generalize l[i] = en at hfo hg et hv
      have aR := s1 _ _ ha
      have atv := at_ofG (z := 0 + ((i : Nat) : Int)) (j := i) (by omega) hv
      have lim : (((l.take i).filter lf).map e2V).length ≤ 6000 := by
        rw [List.length_map]
        refine Nat.le_trans (List.length_filter_le _ _) ?_
        rw [List.length_take]
        omega
      have nin : ∀ w0, (∀ kk, en = .k kk → valV (wL rows) (.inr kk) = none) → w0 = valV (wL rows) (e2K en) → w0 = none := fun w0 h1 h2 => by
        rw [h2]
        cases en with
        | k z => exact h1 z rfl
        | i j =>
          unfold valV
          rw [List.find?_eq_none.mpr (fun kv hk => by
            obtain ⟨q, _, rfl⟩ := List.mem_map.mp hk
            exact fun e => by simp [e2K] at e)]
          rfl
      have out : ask rows lf en = none → Q (.int (0 + ((i : Nat) : Int))) H1 := fun h => by
        rw [h] at hfo
        have q : fault2 rows lf l = some i := hfo.symm
        have k2 := k _ s1
        rw [law_at q hrep] at k2
        rw [ei]
        exact k2
      have hlt : ∀ a, ask rows lf en = some a → i < (fault2 rows lf l).getD l.length := fun a h => by
        rw [h] at hfo
        have hfo : fl2 (ask rows lf) (l.drop (i + 1)) (m + a) (i + 1) = fault2 rows lf l := hfo
        cases hq : fault2 rows lf l with
        | none => exact hil
        | some j =>
          rw [hq] at hfo
          have := fl2_le hfo
          show i < j
          omega
      have er : ∀ bb, repAt l i = bb → bb = false → once = true → ∀ j, j < i + 1 → repAt l j = false := fun bb h1 h2 ho j hj => by
        rcases Nat.lt_succ_iff_lt_or_eq.mp hj with q | q
        · exact hrep ho j q
        · rw [q, h1, h2]
      by_cases hin : ∃ z, en = .k z ∧ ¬ nmO rows z < 0
      · obtain ⟨z, rfl, hz⟩ := hin
        have nlf : ¬ lf (.k z) = true := fun q => hz (hk z q)
        rcases nm_case R z with q | q
        · exact absurd q.1 (by intro e; rw [e] at hz; exact hz (by decide))
        refine ⟨_, rfl, _, rfl, t, _, _, _, rfl, rfl, t1.sq, atv, _, rfl, ar, _, rfl, DGet.k (k := .inr z) aR, _, rfl, ?_⟩
        rw [q.2.2.1]
        refine ifp rfl ?_
        refine ⟨_, rfl, _, _, rfl, rfl, _, rfl, _, rfl, _, rfl, t, _, _, _, rfl, rfl, t1.sq, atv, ar, _, rfl, (by rw [← q.2.2.1]; exact DGet.k (k := .inr z) aR), _, _, rfl, rfl, ?_⟩
        rw [ask_k nlf, if_neg hz] at hfo
        refine ⟨some (.int (0 + ((i : Nat) : Int))), m + wR rows z, ?_, s1, ?_, hfo, er false ?_ rfl⟩
        · rw [show ((m + wR rows z : Nat) : Int) = ((m + 1 : Nat) : Int) - 1 + ((wR rows z : Nat) : Int) by omega]
          rfl
        · rw [et, if_neg nlf, List.append_nil]
          exact u1
        · unfold repAt
          rw [hg]
      · have hno : ∀ z, en = .k z → nmO rows z < 0 := fun z e => Classical.byContradiction fun c => hin ⟨z, e, c⟩
        have hvn : ∀ z, en = .k z → valV (wL rows) (.inr z) = none := fun z e => by
          rcases nm_case R z with q | q
          · exact q.2.2.1
          · exact absurd (hno z e) (by rw [q.1]; omega)
        have dg : DGet H1 ar (e2V en) none := by
          have h : DGet H1 ar (e2V en) (valV (wL rows) (e2K en)) := by
            cases en with
            | k z => exact DGet.k (k := .inr z) aR
            | i j => exact DGet.k (k := .inl j) aR
          rw [nin _ hvn rfl] at h
          exact h
        refine ⟨_, rfl, _, rfl, t, _, _, _, rfl, rfl, t1.sq, atv, _, rfl, ar, _, rfl, dg, _, rfl, ifn (by decide) ?_⟩
        have hfl1 : flatV (e2V en) = true := by cases en <;> rfl
        refine ⟨_, rfl, _, rfl, t, _, _, _, rfl, rfl, t1.sq, atv, _, rfl, F, _, rfl, .inl (SqL.of (s1 _ _ hF)), hfl1, hfl, _, rfl, ?_⟩
        rw [hx]
        refine ite2 (fun c => ?_) (fun c => ?_)
        · have c : lf en = true := c
          have hask := ask_leaf (rows := rows) c
          have hlt1 := hlt _ hask
          rw [hask] at hfo
          have hra : once = true → repAt l i = decide (en ∈ l.take i) := fun ho1 => by
            unfold repAt
            rw [hg]
            cases en with
            | k z => exact absurd c (by rw [ho ho1 z]; decide)
            | i j => rfl
          have hmem : decide (en ∈ (l.take i).filter lf) = decide (en ∈ l.take i) := decide_eq_decide.mpr ⟨fun q => (List.mem_filter.mp q).1, fun q => List.mem_filter.mpr ⟨q, c⟩⟩
          cases once with
          | false =>
            refine ⟨_, rfl, _, rfl, ifn (by decide) ?_⟩
            refine ⟨_, rfl, .inl ⟨rfl, _, SqL.of u1⟩, _, rfl, _, rfl, t, _, _, _, rfl, rfl, t1.sq, atv, U, _, _, rfl, rfl, u1, lt_line (by omega), ?_⟩
            refine ⟨_, rfl, _, _, rfl, rfl, some (.int (0 + ((i : Nat) : Int))), m, ?_, s1.upd_own hU, ?_, hfo, (fun e => nomatch e)⟩
            · rw [show ((m : Nat) : Int) = ((m + 1 : Nat) : Int) - 1 by omega]
              rfl
            · rw [upd_same, et, if_pos c, List.map_append]
              rfl
          | true =>
            refine ⟨_, rfl, _, rfl, ifp rfl ?_⟩
            refine ⟨_, rfl, _, rfl, t, _, _, _, rfl, rfl, t1.sq, atv, _, rfl, U, _, rfl, .inl (SqL.of u1), hfl1, flat_e2 _, _, rfl, ?_⟩
            rw [inV_e2, hmem]
            refine ite2 (fun c2 => ?_) (fun c2 => ?_)
            · refine ⟨_, rfl, .inl ⟨rfl, _, SqL.of u1⟩, _, rfl, _, rfl, t, _, _, _, rfl, rfl, t1.sq, atv, U, _, _, rfl, rfl, u1, lt_line (by omega), ?_⟩
              refine ⟨_, rfl, _, _, rfl, rfl, some (.int (0 + ((i : Nat) : Int))), m, ?_, s1.upd_own hU, ?_, hfo, er _ (hra rfl) (by simpa using c2)⟩
              · rw [show ((m : Nat) : Int) = ((m + 1 : Nat) : Int) - 1 by omega]
                rfl
              · rw [upd_same, et, if_pos c, List.map_append]
                rfl
            · have k2 := k _ s1
              rw [law_rep hlt1 (hrep rfl) (by rw [hra rfl]; simpa using c2)] at k2
              refine ⟨_, rfl, ?_⟩
              rw [ei]
              exact k2
        · refine ⟨_, rfl, out ?_⟩
          have c : ¬ lf en = true := c
          cases en with
          | k z => rw [ask_k c, if_pos (hno z rfl)]
          | i j => exact ask_i c
    · rintro σ H1 ⟨x, n, rfl, s1, u1, hfo, hrep⟩
      rw [ll, Int.toNat_natCast, List.drop_length] at hfo
      rw [ll, Int.toNat_natCast] at hrep
      have k2 := k _ s1
      cases n with
      | zero =>
        have q : fault2 rows lf l = none := hfo.symm
        rw [law_none q hrep] at k2
        exact ⟨_, rfl, rfl, _, rfl, ifp (by simp) ⟨_, rfl, k2⟩⟩
      | succ m =>
        have q : fault2 rows lf l = some l.length := hfo.symm
        rw [law_at q hrep] at k2
        refine ⟨_, rfl, rfl, _, rfl, ifn (fun c => ?_) ⟨_, rfl, t, _, rfl, .inr ((ht.same s1).sq), ?_⟩⟩
        · have := V.int.inj (of_decide_eq_true c)
          omega
        · rw [ll]
          exact k2
end
end Sh
end
section
set_option Elab.async false
set_option linter.all false
set_option maxRecDepth 100000
set_option maxHeartbeats 2000000
namespace Sh
open PySem PySem.Spec PyProof.Rows L2
open C8 (pss_cut tCut)
open Evl (ixN_nat)
/-- what is told of a trim -/
def GoodAt (H : Hp) (p : Addr) (rows : List Row) (s : List Str) (l : List E2) : Prop := ∃ (r t u : Addr) (ts : List Addr), Tq H p [.str "Good", .ref r, .ref t, .ref u] ∧ Tq H r (ts.map V.ref) ∧ TupsAt H ts rows ∧ Tq H t (sV s) ∧ Tq H u (l.map e2V)
def DueAt (H : Hp) (p : Addr) (rows : List Row) (s : List Str) (l : List E2) : Prop := match tdue rows s l with
  | some x => Tq H p (x.told ++ [.bl true])
  | none => GoodAt H p rows s l
theorem due_some {H : Hp} {p : Addr} {rows : List Row} {s : List Str} {l : List E2} {x : E9} (h : tdue rows s l = some x) (q : Tq H p (x.told ++ [.bl true])) : DueAt H p rows s l := by
  unfold DueAt
  rw [h]
  exact q
theorem due_none {H : Hp} {p : Addr} {rows : List Row} {s : List Str} {l : List E2} (h : tdue rows s l = none) (q : GoodAt H p rows s l) : DueAt H p rows s l := by
  unfold DueAt
  rw [h]
  exact q
def spDue9 : Sp := fun vs H Q _ => ∃ (r ar t u : Addr) (rows : List Row) (s : List Str) (l : List E2), vs = [.ref r, .ref ar, .ref t, .ref u] ∧ RowsAt H r rows ∧ H ar = some (.dK (wL rows)) ∧ ROk 8 rows ∧ Tz H t (sV s) ∧ Tq H u (l.map e2V) ∧ s.length ≤ 6000 ∧ l.length ≤ 6000 ∧ (∀ z ∈ s, PyData.strOk z = true) ∧
  ∀ H' p, Same H H' → DueAt H' p rows s l → Q (.ref p) H'
def spAsk9 (C : Addr) : Sp := fun vs H Q _ => ∃ (b t u : Addr) (rows : List Row) (s : List Str) (l : List E2), vs = [.ref b, .ref t, .ref u] ∧ BedAt C H b rows ∧ ROk 8 rows ∧ Tz H t (sV s) ∧ Tq H u (l.map e2V) ∧ s.length ≤ 6000 ∧ l.length ≤ 6000 ∧ (∀ z ∈ s, PyData.strOk z = true) ∧
  ∀ H' p, Same H H' → DueAt H' p rows s l → Q (.ref p) H'
theorem kn_val {rows : List Row} (R : ROk 8 rows) (en : E2) : (kn9 rows en = true ∧ ∃ v, valV (wL rows) (e2K en) = some v) ∨ (kn9 rows en = false ∧ valV (wL rows) (e2K en) = none) := by
  cases en with
  | i j =>
    refine .inr ⟨rfl, ?_⟩
    unfold valV
    rw [List.find?_eq_none.mpr (fun kv hk => by
      obtain ⟨q, _, rfl⟩ := List.mem_map.mp hk
      exact fun e => by simp [e2K] at e)]
    rfl
  | k z =>
    rcases nm_case R z with q | q
    · refine .inr ⟨?_, q.2.2.1⟩
      show (!decide (nmO rows z < 0)) = false
      rw [decide_eq_true (show nmO rows z < 0 by omega)]
      rfl
    · refine .inl ⟨?_, _, q.2.2.1⟩
      show (!decide (nmO rows z < 0)) = true
      rw [decide_eq_false (show ¬ nmO rows z < 0 by omega)]
      rfl
theorem dget_e2 {H : Hp} {ar : Addr} {rows : List Row} (h : H ar = some (.dK (wL rows))) (en : E2) : DGet H ar (e2V en) (valV (wL rows) (e2K en)) := by
  cases en with
  | k z => exact DGet.k (k := .inr z) h
  | i j => exact DGet.k (k := .inl j) h
theorem lfS_no {rows : List Row} (R : ROk 8 rows) : ∀ z, lfS (.k z) = true → nmO rows z < 0 := fun z h => by
  have e : E2.k z = .k "*" := of_decide_eq_true h
  cases e
  rcases nm_case R "*" with q | q
  · omega
  · obtain ⟨q0, m, e⟩ := q.2.2.2
    exact absurd e (nm_nstar (R.nm _ m))
theorem inV_star (x : E2) : inV (e2V x) [.str "*"] = lfS x := by
  have := inV_e2 x [.k "*"]
  show inV (e2V x) ([E2.k "*"].map e2V) = _
  rw [this]
  unfold lfS
  simp
theorem fs_ent : E9.ent.fs.lookup ("what" : Str) = some (.str "entries") ∧ E9.ent.fs.lookup ("limit" : Str) = some (.int 200) := by constructor <;> decide +kernel
theorem fs_trm : E9.trm.fs.lookup ("what" : Str) = some (.str "trims") ∧ E9.trm.fs.lookup ("limit" : Str) = some (.int 8) := by constructor <;> decide +kernel
theorem fs_stump (i : Nat) : (E9.stump i).fs.lookup ("place" : Str) = some (.int (i : Nat)) := by simp [E9.fs, xfs, List.lookup]
theorem fs_trim (i : Int) : (E9.trim i).fs.lookup ("place" : Str) = some (.int i) := by simp [E9.fs, xfs, List.lookup]
theorem tr_result9 (b t u : Addr) : (trF b t u).lookup ("result" : Str) = some (.ref u) := by
  have h1 : (("result" : Str) == "bed") = false := by decide +kernel
  have h2 : (("result" : Str) == "stump") = false := by decide +kernel
  simp [trF, List.lookup, h1, h2]
theorem tdue_no {rows : List Row} {s : List Str} {l : List E2} : tdue rows s l ≠ some .other ∧ tdue rows s l ≠ some .trm := by
  unfold tdue
  constructor
  · intro h
    split at h
    · cases h
    · split at h
      · cases h
      · split at h
        · cases h
        · split at h
          · cases h
          · split at h <;> cases h
  · intro h
    split at h
    · cases h
    · split at h
      · cases h
      · split at h
        · cases h
        · split at h
          · cases h
          · split at h <;> cases h
abbrev s_law_due : Stmt := top 50
abbrev N_law_due : List Str := ["kinds", "arity", "stump", "result", "place", "entry"]
theorem sc_law_due : FnScope N_law_due ["kinds", "arity", "stump", "result"] (defScope s_law_due) := ⟨rfl, rfl, rfl, by decide +kernel, rfl, by decide +kernel, by decide +kernel⟩
abbrev s_law_asked : Stmt := top 52
abbrev N_law_asked : List Str := ["bed", "stump", "result", "trim", "e"]
theorem sc_law_asked : FnScope N_law_asked ["bed", "stump", "result"] (defScope s_law_asked) := ⟨rfl, rfl, rfl, by decide +kernel, rfl, by decide +kernel, by decide +kernel⟩
section
variable {P : Program} {w : World} {K : PySem.W.Frag} {mg : Str → Option Value} {base : Heap} {C CT CY : Addr} {A : A9}
theorem ok_due9 (T : Bm mg) (c_law_fault : DefOk P w K mg base CX0 1 "_law_fault" spLF) (D : Def0 K mg "_law_due" s_law_due) : DefOk P w K mg base CX0 2 "_law_due" spDue9 := by
  refine D.ok sc_law_due (fun vs H Q E h => ?_) (fun _ _ _ _ _ _ us hl => match us, hl with | [_, _, _, _], _ => rfl) (fun f cdv A' outer s' H vs Q E hr h => ?_)
  · obtain ⟨r, ar, t, u, rows, s, l, rfl, _⟩ := h
    rfl
  · obtain ⟨r, ar, t, u, rows, s, l, rfl, ⟨ts, hR, hT⟩, ha, R, ht, hu', s6, l6, sok, k⟩ := h
    have hu := hu_of hr
    have ls : (sV s).length = s.length := by rw [sV, List.length_map]
    have le : (l.map e2V).length = l.length := List.length_map ..
    refine ⟨_, (pss_cons (ps_if (PW.pt (pw_or (pt_cmpR op_gt (pe_callB call_len_seq (by rfl) T.b_len boot_len (pa_cons (pv 2) pa_nil)) pe_int (nomark _)) (pw_or1 (pt_cmpR op_gt (pe_callB call_len_seq (by rfl) T.b_len boot_len (pa_cons (pv 3) pa_nil)) pe_int (nomark _)))))
        (pss_one (ps_ret (pe_tup (pa_cons pe_str (pa_cons pe_str (pa_cons pe_int (pa_cons pe_bl pa_nil)))))))
        pss_nil)
      (pss_cons (ps_set (i := 4) sc_law_due.nd rfl (Or.inl rfl) (pe_d c_law_fault (hr.mono (by decide)) pass0 (pa_cons (pv 1) (pa_cons (pv 2) (pa_cons (pe_lst (pa_cons pe_str pa_nil)) (pa_cons pe_bl pa_nil))))))
      (pss_cons (ps_if (pt_cmpR op_ge (pv 4) pe_int (nomark _))
        (pss_one (ps_ret (pe_tup (pa_cons pe_str (pa_cons (pv 4) (pa_cons pe_bl pa_nil))))))
        pss_nil)
      (pss_cons (ps_if (pt_cmpR (op_eqD hr.units) (pv 2) (pe_tup (pa_cons pe_str pa_nil)) (nomark _))
        (pss_one (ps_ret (pe_tup (pa_cons pe_str (pa_cons (pe_un un_neg pe_int) (pa_cons pe_bl pa_nil))))))
        pss_nil)
      (pss_cons (ps_set (i := 4) sc_law_due.nd rfl (Or.inl rfl) (pe_d c_law_fault (hr.mono (by decide)) pass0 (pa_cons (pv 1) (pa_cons (pv 3) (pa_cons (pe_listRg rfl (by rfl) T.b_list (prg_1 (by rfl) T.b_range (pe_mG ty_Z PySem.F.plainAttrs_tuple PySem.F.slot_tuple_count PySem.F.type_tuple_count mt_tcount (pv 2) (pa_cons pe_str pa_nil)))) (pa_cons pe_bl pa_nil))))))
      (pss_cons (ps_if (pt_cmpR op_ge (pv 4) pe_int (nomark _))
        (pss_one (ps_ret (pe_tup (pa_cons pe_str (pa_cons (pv 4) (pa_cons pe_bl pa_nil))))))
        pss_nil)
      (pss_cons (ps_if (pt_cmpR op_ge (pe_callB call_len_seq (by rfl) T.b_len boot_len (pa_cons (pe_lc (own := [("entry", 5)]) (g := (gName 5)) rfl sc_law_due.nd (pi_tup (pv 3)) (blkOk_by (N := N_law_due) (sc := defScope s_law_due) (by decide +kernel)) (fun _ _ _ _ _ => (pg_name (i := 5) sc_law_due.nd rfl (Or.inl rfl))) (fun _ _ _ _ _ => (pts_one (pt_cmp (pc_din hu (pv 5) (pv 1))))) (fun _ _ _ _ _ => (pv 5))) pa_nil)) (pe_callB call_len_seq (by rfl) T.b_len boot_len (pa_cons (pe_lc (own := [("entry", 5)]) (g := (gName 5)) rfl sc_law_due.nd (pi_tup (pv 2)) (blkOk_by (N := N_law_due) (sc := defScope s_law_due) (by decide +kernel)) (fun _ _ _ _ _ => (pg_name (i := 5) sc_law_due.nd rfl (Or.inl rfl))) (fun _ _ _ _ _ => (pts_one (pt_cmp (pc_din hu (pv 5) (pv 1))))) (fun _ _ _ _ _ => (pv 5))) pa_nil)) (nomark _))
        (pss_one (ps_ret (pe_tup (pa_cons pe_str (pa_cons (pe_un un_neg pe_int) (pa_cons pe_bl pa_nil))))))
        pss_nil)
      (pss_one (ps_ret (pe_tup (pa_cons pe_str (pa_cons (pe_callTy call_tuple_of (by rfl) T.b_tuple (by decide +kernel) (pa_cons (pv 0) pa_nil)) (pa_cons (pv 2) (pa_cons (pv 3) pa_nil)))))))))))))), ?_⟩
    have many : (200 < s.length ∨ 200 < l.length) → tdue rows s l = some .ent := fun h => by unfold tdue; rw [if_pos h]
    have say : ∀ {H1 : Hp} {p : Addr} (x : E9), Same H H1 → H1 p = none → tdue rows s l = some x → Q (.ref p) (upd H1 p (.tup (x.told ++ [.bl true]))) := fun {H1 p} x s1 hp h => k _ _ (s1.upd_new hp) (due_some h (.of upd_same))
    refine ⟨_, rfl, t, _, rfl, .inr ht.q.sq, _, _, rfl, rfl, _, rfl, ite2 (fun q => ?_) (fun q1 => ?_)⟩
    · exact ⟨le_line (show 4 ≤ 100000 by decide), fun p hp => say .ent (Same.refl H) hp (many (.inl (by have := of_decide_eq_true q; omega)))⟩
    refine ⟨_, rfl, u, _, rfl, .inr hu'.sq, _, _, rfl, rfl, _, rfl, ite2 (fun q => ?_) (fun q2 => ?_)⟩
    · exact ⟨le_line (show 4 ≤ 100000 by decide), fun p hp => say .ent (Same.refl H) hp (many (.inr (by have := of_decide_eq_true q; omega)))⟩
    have n1 : ¬ (200 < s.length ∨ 200 < l.length) := by
      have h1 : ¬ (((sV s).length : Nat) : Int) > 200 := fun q => q1 (decide_eq_true q)
      have h2 : ¬ (((l.map e2V).length : Nat) : Int) > 200 := fun q => q2 (decide_eq_true q)
      omega
    have e1 : tdue rows s l = (match fault2 rows lfS (s.map .k) with
      | some i => some (.stump i)
      | none => if s = [("*" : Str)] then some (.trim (-1)) else match resF rows (s.count ("*" : Str)) l with
        | some i => some (.trim (i : Nat))
        | none => if (s.map E2.k).countP (kn9 rows) ≤ l.countP (kn9 rows) then some (.trim (-2)) else none) := by
      exact if_neg n1
    have eS : (s.map E2.k).map e2V = sV s := by rw [List.map_map]; rfl
    refine ⟨_, rfl, _, rfl, le_line (show 1 ≤ 100000 by decide), fun F hF => ?_⟩
    have s1 : Same H (upd H F (.lst [.str "*"])) := (Same.refl H).upd_new hF
    refine ⟨ar, t, F, rows, s.map E2.k, [.str "*"], lfS, false, rfl, s1 _ _ ha, R, by rw [eS]; exact (ht.same s1).q, by rw [List.length_map]; omega, upd_same, rfl, inV_star, lfS_no R, (fun e => nomatch e), fun H2 s2 => ?_⟩
    have s02 := s1.trans s2
    have ef : lawF rows lfS (s.map E2.k) false = fault2 rows lfS (s.map E2.k) := rfl
    rw [ef]
    cases hf : fault2 rows lfS (s.map E2.k) with
    | some i =>
      rw [hf] at e1
      refine ⟨_, rfl, _, _, rfl, rfl, _, rfl, ifp (decide_eq_true (by omega)) ⟨_, rfl, le_line (show 3 ≤ 100000 by decide), fun p hp => say (.stump i) s02 hp e1⟩⟩
    | none =>
      rw [hf] at e1
      have e1 : tdue rows s l = (if s = [("*" : Str)] then some (.trim (-1)) else match resF rows (s.count ("*" : Str)) l with
        | some i => some (.trim (i : Nat))
        | none => if (s.map E2.k).countP (kn9 rows) ≤ l.countP (kn9 rows) then some (.trim (-2)) else none) := e1
      refine ⟨_, rfl, _, _, rfl, rfl, _, rfl, ifn (by decide) ?_⟩
      refine ⟨_, rfl, le_line (show 1 ≤ 100000 by decide), fun p2 h2 => ?_⟩
      have s3 := (Same.refl H2).upd_new (o := .tup [.str "*"]) h2
      have s03 := s02.trans s3
      have z3 : SqT K (upd H2 p2 (.tup [.str "*"])) p2 ([("*" : Str)].map V.str) := SqT.of upd_same
      have t3 := ht.same s03
      generalize upd H2 p2 (.tup [.str "*"]) = H3 at s3 z3 s03 t3
      refine ⟨.tuple (s.map PyData.str), .tuple ([("*" : Str)].map PyData.str), .tup t3.q.sq (dpa_map (fun z => .str z) _), .tup z3 (dpa_map (f := V.str) (fun z => .str z) [("*" : Str)]), shp_tstr sok, shp_tstr (fun z hz => by rw [List.mem_singleton.mp hz]; exact star_ok), _, rfl, ?_⟩
      have ev : PyData.eqv (.tuple (s.map PyData.str)) (.tuple ([("*" : Str)].map PyData.str)) = decide (s = [("*" : Str)]) := by
        rw [PyData.eqv]
        cases s with
        | nil => simp [PyData.eqvAll]
        | cons a r =>
          cases r with
          | nil =>
            simp [PyData.eqvAll, PyData.eqv]
            by_cases h : a = ("*" : Str)
            · rw [h]; rfl
            · rw [decide_eq_false h]; exact beq_eq_false_iff_ne.mpr h
          | cons b r => simp [PyData.eqvAll, PyData.eqv]
      rw [ev]
      refine ite2 (fun q => ?_) (fun q => ?_)
      · rw [if_pos (of_decide_eq_true q)] at e1
        exact ⟨_, rfl, le_line (show 3 ≤ 100000 by decide), fun p hp => say (.trim (-1)) s03 hp e1⟩
      rw [if_neg (fun e => q (decide_eq_true e))] at e1
      have hcl := List.count_le_length (a := ("*" : Str)) (l := s)
      refine ⟨_, rfl, _, rfl, _, rfl, ⟨t, sV s, rfl, t3⟩, t, s, "*", rfl, rfl, t3.q.sq, _, rfl, .of_le (by omega) (by omega) (by omega) (by omega), fun F4 hF4 => ?_⟩
      have e0 : rgV 0 ((s.count ("*" : Str) : Nat) : Int) = nV (List.range (s.count ("*" : Str))) := by
        unfold rgV nV
        rw [show (((s.count ("*" : Str) : Nat) : Int) - 0).toNat = s.count ("*" : Str) by omega]
        exact List.map_congr_left fun i _ => by rw [Int.zero_add]
      rw [e0]
      have s4 : Same H3 (upd H3 F4 (.lst (nV (List.range (s.count ("*" : Str)))))) := (Same.refl H3).upd_new hF4
      have s04 := s03.trans s4
      refine ⟨ar, u, F4, rows, l, nV (List.range (s.count ("*" : Str))), lfN (s.count ("*" : Str)), true, rfl, s04 _ _ ha, R, hu'.same s04, l6, upd_same, flat_nV _, inV_lfN _, (fun z h => by cases h), fun _ z => rfl, fun H5 s5 => ?_⟩
      have s05 := s04.trans s5
      have ef2 : lawF rows (lfN (s.count ("*" : Str))) l true = resF rows (s.count ("*" : Str)) l := rfl
      rw [ef2]
      cases hf2 : resF rows (s.count ("*" : Str)) l with
      | some i =>
        rw [hf2] at e1
        refine ⟨_, rfl, _, _, rfl, rfl, _, rfl, ifp (decide_eq_true (by omega)) ⟨_, rfl, le_line (show 3 ≤ 100000 by decide), fun p hp => say (.trim (i : Nat)) s05 hp e1⟩⟩
      | none =>
        rw [hf2] at e1
        have e1 : tdue rows s l = (if (s.map E2.k).countP (kn9 rows) ≤ l.countP (kn9 rows) then some (.trim (-2)) else none) := e1
        refine ⟨_, rfl, _, _, rfl, rfl, _, rfl, ifn (by decide) ?_⟩
        have u5 := hu'.same s05
        refine ⟨_, rfl, u, rfl, ⟨_, u5.sq⟩, fun D1 hD1 => lc_it (walk_tup (xs := l.map e2V)) (fun i H' => Same H5 H' ∧ H' D1 = some (.lst (((l.take i).filter (kn9 rows)).map e2V)))
          ⟨(Same.refl H5).upd_new hD1, upd_same⟩ (fun i H' _ ⟨q, _⟩ => (u5.same q).sq) ?_ ?_⟩
        · rintro i v H6 H7 hi ⟨s6', d6⟩ ⟨rfl, hv⟩
          obtain ⟨x, hx, rfl⟩ := get_map hv
          have et := flt_snoc (p := kn9 rows) hx
          have dg := dget_e2 ((s05.trans s6') _ _ ha) x
          have hil := lt_of_get hx
          rcases kn_val R x with ⟨kx, v, ev⟩ | ⟨kx, ev⟩
          · rw [ev] at dg
            refine ⟨rfl, _, rfl, _, rfl, ar, _, rfl, dg, _, rfl, ifp rfl ⟨_, rfl, _, d6, ?_, s6'.upd_own hD1, ?_⟩⟩
            · rw [List.length_map]
              refine lt_line (Nat.le_trans (List.length_filter_le _ _) ?_)
              rw [List.length_take]
              omega
            · rw [upd_same, et, if_pos kx, List.map_append]
              rfl
          · rw [ev] at dg
            refine ⟨rfl, _, rfl, _, rfl, ar, _, rfl, dg, _, rfl, ifn (by decide) ⟨s6', ?_⟩⟩
            rw [et, if_neg (by rw [kx]; decide), List.append_nil]
            exact d6
        · rintro H6 ⟨s56, d6⟩
          rw [le, List.take_length] at d6
          refine ⟨D1, _, rfl, .inl (SqL.of d6), ?_⟩
          have s06 := s05.trans s56
          have t6 : Tq H6 t ((s.map E2.k).map e2V) := by rw [eS]; exact (ht.same s06).q
          have le2 : ((s.map E2.k).map e2V).length = s.length := by rw [List.length_map, List.length_map]
          refine ⟨_, rfl, t, rfl, ⟨_, t6.sq⟩, fun D2 hD2 => lc_it (walk_tup (xs := (s.map E2.k).map e2V)) (fun i H' => Same H6 H' ∧ H' D2 = some (.lst ((((s.map E2.k).take i).filter (kn9 rows)).map e2V)))
            ⟨(Same.refl H6).upd_new hD2, upd_same⟩ (fun i H' _ ⟨q, _⟩ => (t6.same q).sq) ?_ ?_⟩
          · rintro i v H7 H8 hi ⟨s7', d7⟩ ⟨rfl, hv⟩
            obtain ⟨x, hx, rfl⟩ := get_map hv
            have et := flt_snoc (p := kn9 rows) hx
            have dg := dget_e2 ((s06.trans s7') _ _ ha) x
            have hil := lt_of_get hx
            rcases kn_val R x with ⟨kx, v, ev⟩ | ⟨kx, ev⟩
            · rw [ev] at dg
              refine ⟨rfl, _, rfl, _, rfl, ar, _, rfl, dg, _, rfl, ifp rfl ⟨_, rfl, _, d7, ?_, s7'.upd_own hD2, ?_⟩⟩
              · rw [List.length_map]
                refine lt_line (Nat.le_trans (List.length_filter_le _ _) ?_)
                rw [List.length_take, List.length_map]
                omega
              · rw [upd_same, et, if_pos kx, List.map_append]
                rfl
            · rw [ev] at dg
              refine ⟨rfl, _, rfl, _, rfl, ar, _, rfl, dg, _, rfl, ifn (by decide) ⟨s7', ?_⟩⟩
              rw [et, if_neg (by rw [kx]; decide), List.append_nil]
              exact d7
          · rintro H7 ⟨s67, d7⟩
            rw [le2, show s.length = (s.map E2.k).length by rw [List.length_map], List.take_length] at d7
            have s07 := s06.trans s67
            refine ⟨D2, _, rfl, .inl (SqL.of d7), _, _, rfl, rfl, _, rfl, ?_⟩
            rw [List.length_map, List.length_map, ← List.countP_eq_length_filter, ← List.countP_eq_length_filter]
            refine ite2 (fun q => ?_) (fun q => ?_)
            · rw [if_pos (by have := of_decide_eq_true q; omega)] at e1
              exact ⟨_, rfl, le_line (show 3 ≤ 100000 by decide), fun p hp => say (.trim (-2)) s07 hp e1⟩
            · have q : ¬ (((l.countP (kn9 rows) : Nat) : Int) ≥ (((s.map E2.k).countP (kn9 rows) : Nat) : Int)) := fun e => q (decide_eq_true e)
              rw [if_neg (by omega)] at e1
              refine ⟨_, rfl, r, _, rfl, .inl ⟨SqL.of (s07 _ _ hR), fun g hg => ?_⟩⟩
              have s08 := s07.upd_new (o := .tup (ts.map V.ref)) hg
              refine ⟨_, rfl, _, rfl, le_line (show 4 ≤ 100000 by decide), fun p hp => ?_⟩
              have s89 := (Same.refl _).upd_new (H := upd H7 g (.tup (ts.map V.ref))) (o := .tup [.str "Good", .ref g, .ref t, .ref u]) hp
              have s09 := s08.trans s89
              refine k _ _ s09 (due_none e1 ⟨g, t, u, ts, .of upd_same, .of (s89 _ _ upd_same), hT.sameR s09, (ht.same s09).q, hu'.same s09⟩)
theorem ok_asked9 (T : Bm mg) (x9 : X9 P w K mg A) (kt : Kit9 K mg A CY) (B : BedT K C) (BT : TrT K CT) (c_Trim : Trim9C P w K mg base C CT A 4) (c_law_own : OwnOk P w K mg base A) (D : Def0 K mg "_law_asked" s_law_asked) : DefOk P w K mg base CX0 6 "_law_asked" (spAsk9 C) := by
  refine D.ok sc_law_asked (fun vs H Q E h => ?_) (fun _ _ _ _ _ _ us hl => match us, hl with | [_, _, _], _ => rfl) (fun f cdv A' outer s' H vs Q E hr h => ?_)
  · obtain ⟨b, t, u, rows, s, l, rfl, _⟩ := h
    rfl
  · obtain ⟨b, t, u, rows, s, l, rfl, hB, R, ht, hu', s6, l6, sok, k⟩ := h
    have n_TooMany : ∀ {X : Cx}, X.mg = mg → Gl X "TooMany" → Names X "TooMany" (.ref A.T) := fun e g => ⟨g, by decide, .inl (by rw [e]; exact x9.xT.gC)⟩
    have n_InvalidStump : ∀ {X : Cx}, X.mg = mg → Gl X "InvalidStump" → Names X "InvalidStump" (.ref A.S) := fun e g => ⟨g, by decide, .inl (by rw [e]; exact x9.xS.gC)⟩
    have n_InvalidTrim : ∀ {X : Cx}, X.mg = mg → Gl X "InvalidTrim" → Names X "InvalidTrim" (.ref A.I) := fun e g => ⟨g, by decide, .inl (by rw [e]; exact x9.xI.gC)⟩
    have X_TooMany := kt.oT
    have X_InvalidStump := kt.oS
    have X_InvalidTrim := kt.oI
    refine ⟨_, (pss_cons (ps_try_as_many rfl rfl sc_law_asked.nd (fun W pn xe tk po => (pss_one (ps_set (i := 3) sc_law_asked.nd rfl (Or.inl rfl) (pe_trim9 c_Trim (hr.mono (by decide)) (fun _ => passAt tk _) (pa_cons (pv 0) (pa_cons (pv 1) (pa_cons (pv 2) pa_nil))))))) (HdsAs.cons (i := 4) rfl rfl (n_TooMany rfl rfl) (fun a oe cls d pn hz hf => (pss_one (ps_ret (pe_tup (pa_cons pe_str (pa_cons (pe_xf X_TooMany.xf (X_TooMany.no "what" (by decide +kernel)) hz hf (pv 4)) (pa_cons (pe_xf X_TooMany.xf (X_TooMany.no "limit" (by decide +kernel)) hz hf (pv 4)) (pa_cons (pe_dP (CX := CX0) (k := 1) (sp := spOwn A a cls d) rfl rfl (by exact List.mem_cons_self) (c_law_own a oe cls d hz hf) (room_mark hr (by decide)) pass0 (pa_cons (pv 4) pa_nil)) pa_nil)))))))) (HdsAs.cons (i := 4) rfl rfl (n_InvalidStump rfl rfl) (fun a oe cls d pn hz hf => (pss_one (ps_ret (pe_tup (pa_cons pe_str (pa_cons (pe_xf X_InvalidStump.xf (X_InvalidStump.no "place" (by decide +kernel)) hz hf (pv 4)) (pa_cons (pe_dP (CX := CX0) (k := 1) (sp := spOwn A a cls d) rfl rfl (by exact List.mem_cons_self) (c_law_own a oe cls d hz hf) (room_mark hr (by decide)) pass0 (pa_cons (pv 4) pa_nil)) pa_nil))))))) (HdsAs.cons (i := 4) rfl rfl (n_InvalidTrim rfl rfl) (fun a oe cls d pn hz hf => (pss_one (ps_ret (pe_tup (pa_cons pe_str (pa_cons (pe_xf X_InvalidTrim.xf (X_InvalidTrim.no "place" (by decide +kernel)) hz hf (pv 4)) (pa_cons (pe_dP (CX := CX0) (k := 1) (sp := spOwn A a cls d) rfl rfl (by exact List.mem_cons_self) (c_law_own a oe cls d hz hf) (room_mark hr (by decide)) pass0 (pa_cons (pv 4) pa_nil)) pa_nil))))))) .nil))))
      (pss_one (ps_ret (pe_tup (pa_cons pe_str (pa_cons (pe_fld (pe_fld (pv 3) rfl) rfl) (pa_cons (pe_fld (pv 3) rfl) (pa_cons (pe_fld (pv 3) rfl) pa_nil)))))))), ?_⟩
    refine ⟨_, rfl, _, rfl, _, rfl, b, t, u, rows, s, l, rfl, hB, R, ht, hu', s6, l6, sok, ?_⟩
    have fin : ∀ {x : E9} {H1 : Hp} {p : Addr}, tdue rows s l = some x → Same H H1 → H1 p = none → Q (.ref p) (upd H1 p (.tup (x.told ++ [.bl true]))) := fun {x H1 p} e s1 hp => k _ _ (s1.upd_new hp) (due_some e (.of upd_same))
    cases e : tdue rows s l with
    | none =>
      intro H1 p s1 _ tr
      obtain ⟨dx, b', t', u', h1, ⟨dx', r, kk, ww, rk, ts, g1, g2, g3, _⟩, h3, h4⟩ := tr
      refine ⟨_, rfl, p, CT, dx, _, _, rfl, h1, BT.cl, BT.nB, tr_bed _ _ _, b', C, dx', _, _, rfl, g1, B.cl, B.nR, lk_rows _ _ _ _, ?_⟩
      refine ⟨_, rfl, p, CT, dx, _, _, rfl, h1, BT.cl, BT.nS, tr_stump _ _ _, _, rfl, p, CT, dx, _, _, rfl, h1, BT.cl, BT.nR, tr_result9 _ _ _, le_line (show 4 ≤ 100000 by decide), fun q hq => ?_⟩
      have s2 := (Same.refl H1).upd_new (o := .tup [.str "Good", .ref r, .ref t', .ref u']) hq
      exact k _ _ (s1.trans s2) (due_none e ⟨r, t', u', ts, .of upd_same, .of (s2 _ _ g2), g3.sameR s2, (h3.same s2).q, h4.same s2⟩)
    | some x =>
      cases x with
      | other => exact absurd e tdue_no.1
      | trm => exact absurd e tdue_no.2
      | ent =>
        intro H1 d s1 hd
        refine ⟨true, kt.em .ent .ent, fun _ a ha => ?_, fun e => nomatch e⟩
        have s2 := s1.upd_new (o := .xd E9.ent.fs) hd
        exact ⟨_, rfl, rfl, rfl, d, _, _, rfl, upd_same, fs_ent.1, _, rfl, rfl, rfl, d, _, _, rfl, upd_same, fs_ent.2, _, rfl, .ent, rfl, rfl, ⟨d, rfl, upd_same⟩, fun H3 s3 => ⟨le_line (show 4 ≤ 100000 by decide), fun q hq => fin e (s2.trans s3) hq⟩⟩
      | stump i =>
        intro H1 d s1 hd
        refine ⟨false, kt.em (.stump i) .ent, (fun e => nomatch e), fun _ => ⟨true, kt.em (.stump i) (.stump 0), fun _ a ha => ?_, fun e => nomatch e⟩⟩
        have s2 := s1.upd_new (o := .xd (E9.stump i).fs) hd
        exact ⟨_, rfl, rfl, rfl, d, _, _, rfl, upd_same, fs_stump i, _, rfl, .stump i, rfl, rfl, ⟨d, rfl, upd_same⟩, fun H3 s3 => ⟨le_line (show 3 ≤ 100000 by decide), fun q hq => fin e (s2.trans s3) hq⟩⟩
      | trim i =>
        intro H1 d s1 hd
        refine ⟨false, kt.em (.trim i) .ent, (fun e => nomatch e), fun _ => ⟨false, kt.em (.trim i) (.stump 0), (fun e => nomatch e), fun _ => ⟨true, kt.em (.trim i) (.trim 0), fun _ a ha => ?_, fun e => nomatch e⟩⟩⟩
        have s2 := s1.upd_new (o := .xd (E9.trim i).fs) hd
        exact ⟨_, rfl, rfl, rfl, d, _, _, rfl, upd_same, fs_trim i, _, rfl, .trim i, rfl, rfl, ⟨d, rfl, upd_same⟩, fun H3 s3 => ⟨le_line (show 3 ≤ 100000 by decide), fun q hq => fin e (s2.trans s3) hq⟩⟩
end
end Sh
end
section
set_option Elab.async false
set_option linter.all false
set_option maxRecDepth 100000
set_option maxHeartbeats 2000000
namespace Sh
open PySem PySem.Spec PyProof.Rows L2
open C8 (pss_cut tCut)
open Evl (ixN_nat)
/-- a stump and a result at hand -/
def PrS (H : Hp) (t u : Addr) (ls lr : List E2) (n : Nat) : Prop := Tz H t (ls.map e2V) ∧ Tz H u (lr.map e2V) ∧ ls.length ≤ n ∧ lr.length ≤ n ∧ ∀ x ∈ ls, ∃ z, x = .k z ∧ PyData.strOk z = true
theorem PrS.same {H H' : Hp} {t u : Addr} {ls lr : List E2} {n : Nat} (x : PrS H t u ls lr n) (s : Same H H') : PrS H' t u ls lr n := ⟨x.1.same s, x.2.1.same s, x.2.2⟩
theorem PrS.kp {H H' : Hp} {a c t u : Addr} {ls lr : List E2} {n : Nat} (x : PrS H t u ls lr n) (k : Kp a H H') (b : BagM H a c) : PrS H' t u ls lr n := ⟨tz_kp x.1 k b, tz_kp x.2.1 k b, x.2.2⟩
theorem ks_of {l : List E2} (h : ∀ x ∈ l, ∃ z, x = .k z ∧ PyData.strOk z = true) : ∃ s : List Str, l = s.map E2.k ∧ s.length = l.length ∧ ∀ z ∈ s, PyData.strOk z = true := by
  induction l with
  | nil => exact ⟨[], rfl, rfl, fun z h => nomatch h⟩
  | cons x r ih =>
    obtain ⟨s, e, el, hs⟩ := ih fun y hy => h y (List.mem_cons_of_mem _ hy)
    obtain ⟨z, rfl, hz⟩ := h x List.mem_cons_self
    refine ⟨z :: s, by rw [e]; rfl, by rw [List.length_cons, List.length_cons, el], fun y hy => ?_⟩
    rcases List.mem_cons.mp hy with rfl | q
    · exact hz
    · exact hs y q
theorem map_k2 (s : List Str) : (s.map E2.k).map e2V = sV s := by rw [List.map_map]; rfl
theorem map_to2 (e : List Ent) : (e.map toE2).map e2V = e.map eV := by
  rw [List.map_map]
  exact List.map_congr_left fun x _ => e2V_to x
def spPair9 : Sp := fun vs H Q _ => ∃ (a c r : Addr) (rows : List Row), vs = [.ref a, .ref r] ∧ BagM H a c ∧ r ≠ a ∧ RowsAt H r rows ∧ ROk 4 rows ∧
  ∀ (H' : Hp) (p t u : Addr) (s : List Str) (l : List E2), Kp a H H' → BagM H' a c → Tz H' p [.ref t, .ref u] → Tz H' t (sV s) → Tz H' u (l.map e2V) → s.length ≤ 5000 → l.length ≤ 5000 → (∀ z ∈ s, PyData.strOk z = true) → Q (.ref p) H'
theorem two9 (e : Int) (h0 : 0 ≤ e) (h : e < 2) : ∃ y : Nat, ([V.int 4, V.int 6] : List V)[e.toNat]? = some (.int (y : Nat)) ∧ y ≤ 7 := by
  have hh : ∀ j, j < 2 → ∃ y : Nat, ([V.int 4, V.int 6] : List V)[j]? = some (.int (y : Nat)) ∧ y ≤ 7 := by
    intro j hj
    match j, hj with
    | 0, _ => exact ⟨4, rfl, by decide⟩
    | 1, _ => exact ⟨6, rfl, by decide⟩
    | n + 2, h => exact absurd h (by omega)
  exact hh e.toNat (by omega)
theorem four_a (e : Int) (h0 : 0 ≤ e) (h : e < 4) : ∃ y : Nat, ([V.int 0, V.int 0, V.int 1, V.int 2] : List V)[e.toNat]? = some (.int (y : Nat)) ∧ y ≤ 2 := by
  have hh : ∀ j, j < 4 → ∃ y : Nat, ([V.int 0, V.int 0, V.int 1, V.int 2] : List V)[j]? = some (.int (y : Nat)) ∧ y ≤ 2 := by
    intro j hj
    match j, hj with
    | 0, _ => exact ⟨0, rfl, by decide⟩
    | 1, _ => exact ⟨0, rfl, by decide⟩
    | 2, _ => exact ⟨1, rfl, by decide⟩
    | 3, _ => exact ⟨2, rfl, by decide⟩
    | n + 4, h => exact absurd h (by omega)
  exact hh e.toNat (by omega)
theorem four_b (e : Int) (h0 : 0 ≤ e) (h : e < 4) : ∃ y : Nat, ([V.int 0, V.int 1, V.int 1, V.int 2] : List V)[e.toNat]? = some (.int (y : Nat)) ∧ y ≤ 2 := by
  have hh : ∀ j, j < 4 → ∃ y : Nat, ([V.int 0, V.int 1, V.int 1, V.int 2] : List V)[j]? = some (.int (y : Nat)) ∧ y ≤ 2 := by
    intro j hj
    match j, hj with
    | 0, _ => exact ⟨0, rfl, by decide⟩
    | 1, _ => exact ⟨1, rfl, by decide⟩
    | 2, _ => exact ⟨1, rfl, by decide⟩
    | 3, _ => exact ⟨2, rfl, by decide⟩
    | n + 4, h => exact absurd h (by omega)
  exact hh e.toNat (by omega)
abbrev s_law_pair : Stmt := top 48
abbrev N_law_pair : List Str := ["bag", "kinds", "most", "roots", "stump", "result", "pair", "many", "at", "k"]
theorem sc_law_pair : FnScope N_law_pair ["bag", "kinds"] (defScope s_law_pair) := ⟨rfl, rfl, rfl, by decide +kernel, rfl, by decide +kernel, by decide +kernel⟩
section
variable {P : Program} {w : World} {K : PySem.W.Frag} {mg : Str → Option Value} {base : Heap} {C : Addr}
theorem ok_pair9 (T : Bm mg) (c_law_pick : DefOk P w K mg base CX0 1 "_law_pick" spPick) (c_law_stump : DefOk P w K mg base CX0 2 "_law_stump" spStumpM) (c_law_result : DefOk P w K mg base CX0 2 "_law_result" spResultM) (c_law_chain : DefOk P w K mg base CX0 1 "_law_chain" spChain) (c_law_tagged : DefOk P w K mg base CX0 1 "_law_tagged" spTags9) (c_law_bent : DefOk P w K mg base CX0 2 "_law_bent" spBent9) (D : Def0 K mg "_law_pair" s_law_pair) : DefOk P w K mg base CX0 3 "_law_pair" spPair9 := by
  refine D.ok sc_law_pair (fun vs H Q E h => ?_) (fun _ _ _ _ _ _ us hl => match us, hl with | [_, _], _ => rfl) (fun f cdv A' outer s' H vs Q E hr h => ?_)
  · obtain ⟨a, c, r, rows, rfl, _⟩ := h
    rfl
  · obtain ⟨a, c, r, rows, rfl, hb, nra, ⟨ts, hR, hT⟩, R, k⟩ := h
    have R8 := R.up
    have R8l := R8.len
    have lts : (ts.map V.ref).length = rows.length := by rw [List.length_map]; exact hT.1
    refine ⟨_, (pss_cons (ps_set (i := 2) sc_law_pair.nd rfl (Or.inr rfl) (pe_ix ix_tup (pe_tupF (pa_cons pe_int (pa_cons pe_int pa_nil))) (pe_d c_law_pick (hr.mono (by decide)) pass0 (pa_cons (pv 0) (pa_cons pe_int pa_nil))) (fun _ _ => rfl)))
      (pss_cons (ps_setLc (i := 3) (own := [("pair", 6)]) (g := (gName 6)) rfl sc_law_pair.nd rfl rfl (sw_true rfl rfl rfl (by decide +kernel)) (pi_list (pv 1)) (blkOk_by (N := N_law_pair) (sc := defScope s_law_pair) (by decide +kernel)) (fun _ _ _ _ _ => (pg_name (i := 6) sc_law_pair.nd rfl (Or.inl rfl))) (fun _ _ _ _ _ => (pts_one (pt_chain op_lt op_lt pe_int (pe_ix (show IxR _ (rIxT K) from ix_tup) (pv 6) pe_int (fun _ _ => rfl)) (pv 2)))) (fun _ _ _ _ _ => (pv 6)))
      (pss_cons (ps_set (i := 4) sc_law_pair.nd rfl (Or.inl rfl) (pe_tupF (pa_cons (pe_ix ix_tup (pe_ix ix_list (pv 1) pe_int (fun _ _ => rfl)) pe_int (fun _ _ => rfl)) pa_nil)))
      (pss_cons (ps_set (i := 5) sc_law_pair.nd rfl (Or.inl rfl) (pe_tupF (pa_cons (pe_ix ix_tup (pe_ix ix_list (pv 1) (pe_op op_sub (pe_callB call_len_seq (by rfl) T.b_len boot_len (pa_cons (pv 1) pa_nil)) pe_int) (fun _ _ => rfl)) pe_int (fun _ _ => rfl)) pa_nil)))
      (pss_cut (ps_if (PW.pt (pw_and (pt_cmpR (op_neD hr.units) (pv 3) (pe_lst pa_nil) (nomark _)) (pw_and1 (pt_cmpR op_eq (pe_d c_law_pick (hr.mono (by decide)) pass0 (pa_cons (pv 0) (pa_cons pe_int pa_nil))) pe_int (nomark _)))))
        (pss_cons (ps_set (i := 6) sc_law_pair.nd rfl (Or.inl rfl) (pe_ix ix_list (pv 3) (pe_d c_law_pick (hr.mono (by decide)) pass0 (pa_cons (pv 0) (pa_cons (pe_callB call_len_seq (by rfl) T.b_len boot_len (pa_cons (pv 3) pa_nil)) pa_nil))) (fun _ _ => rfl)))
        (pss_cons (ps_set (i := 7) sc_law_pair.nd rfl (Or.inl rfl) (pe_op op_add (pe_op op_fdiv pe_int (pe_ix ix_tup (pv 6) pe_int (fun _ _ => rfl))) (pe_d c_law_pick (hr.mono (by decide)) pass0 (pa_cons (pv 0) (pa_cons pe_int pa_nil)))))
        (pss_cons (ps_set (i := 8) sc_law_pair.nd rfl (Or.inl rfl) (pe_d c_law_pick (hr.mono (by decide)) pass0 (pa_cons (pv 0) (pa_cons (pe_ix ix_tup (pv 6) pe_int (fun _ _ => rfl)) pa_nil))))
        (pss_cons (ps_set (i := 4) sc_law_pair.nd rfl (Or.inl rfl) (pe_d c_law_chain (hr.mono (by decide)) pass0 (pa_cons (pv 6) (pa_cons (pv 7) (pa_cons (pv 8) pa_nil)))))
        (pss_one (ps_set (i := 5) sc_law_pair.nd rfl (Or.inl rfl) (pe_d c_law_tagged (hr.mono (by decide)) pass0 (pa_cons (pe_d c_law_chain (hr.mono (by decide)) pass0 (pa_cons (pv 6) (pa_cons (pe_op op_add (pe_op op_sub (pv 7) pe_int) (pe_d c_law_pick (hr.mono (by decide)) pass0 (pa_cons (pv 0) (pa_cons pe_int pa_nil)))) (pa_cons (pv 8) pa_nil)))) pa_nil))))))))
        (pss_one (ps_if (pt_cmpR (op_neD hr.units) (pv 3) (pe_lst pa_nil) (nomark _))
          (pss_cons (ps_set (i := 4) sc_law_pair.nd rfl (Or.inl rfl) (pe_d c_law_stump (hr.mono (by decide)) pass0 (pa_cons (pv 0) (pa_cons (pv 1) (pa_cons (pv 2) pa_nil)))))
          (pss_one (ps_set (i := 5) sc_law_pair.nd rfl (Or.inl rfl) (pe_d c_law_result (hr.mono (by decide)) pass0 (pa_cons (pv 0) (pa_cons (pv 1) (pa_cons (pv 4) pa_nil)))))))
          pss_nil)))
      (pss_cons (ps_for PassesOwn.never rfl (pi_range1 (by rfl) T.b_range (pa_cons (pe_ix ix_tup (pe_tupF (pa_cons pe_int (pa_cons pe_int (pa_cons pe_int (pa_cons pe_int pa_nil))))) (pe_d c_law_pick (hr.mono (by decide)) pass0 (pa_cons (pv 0) (pa_cons pe_int pa_nil))) (fun _ _ => rfl)) pa_nil)) (pg_name (i := 9) sc_law_pair.nd rfl (Or.inl rfl))
        (pss_one (ps_set (i := 4) sc_law_pair.nd rfl (Or.inl rfl) (pe_d c_law_bent (hr.mono (by decide)) pass0 (pa_cons (pv 0) (pa_cons (pv 1) (pa_cons (pv 4) (pa_cons (pe_lst pa_nil) pa_nil))))))))
      (pss_cons (ps_for PassesOwn.never rfl (pi_range1 (by rfl) T.b_range (pa_cons (pe_ix ix_tup (pe_tupF (pa_cons pe_int (pa_cons pe_int (pa_cons pe_int (pa_cons pe_int pa_nil))))) (pe_d c_law_pick (hr.mono (by decide)) pass0 (pa_cons (pv 0) (pa_cons pe_int pa_nil))) (fun _ _ => rfl)) pa_nil)) (pg_name (i := 9) sc_law_pair.nd rfl (Or.inl rfl))
        (pss_one (ps_set (i := 5) sc_law_pair.nd rfl (Or.inl rfl) (pe_d c_law_bent (hr.mono (by decide)) pass0 (pa_cons (pv 0) (pa_cons (pv 1) (pa_cons (pv 5) (pa_cons (pe_lst (pa_cons (pe_un un_neg pe_int) (pa_cons pe_int (pa_cons pe_int (pa_cons pe_int (pa_cons pe_int pa_nil)))))) pa_nil))))))))
      (pss_one (ps_ret (pe_tupF (pa_cons (pv 4) (pa_cons (pv 5) pa_nil)))))))))))), ?_⟩
    refine ⟨le_line (show 2 ≤ 100000 by decide), fun p1 o1 h1 ho1 => ?_⟩
    obtain ⟨s1, z1⟩ := new_tz (xs := [.int 4, .int 6]) h1 ho1
    generalize upd H p1 (.frz o1 (.tup [.int 4, .int 6])) = H1 at s1 z1
    have b1 := hb.same s1
    refine ⟨_, rfl, a, c, 2, rfl, b1, by decide, by decide, fun H2 e k2 b2 e0 e2 => ?_⟩
    obtain ⟨most, hy, m7⟩ := two9 e e0 e2
    have k02 := (Kp.same s1).trans k2
    have hR2 := k02 _ _ hR nra
    have hT2 : TupsAt H2 ts rows := hT.keep (k02.tkM hb)
    refine ⟨p1, _, _, _, rfl, rfl, (tz_kp z1 k2 b1).q.sq, at_ofG (j := e.toNat) (by omega) hy, ?_⟩
    refine ⟨_, rfl, r, rfl, ⟨_, SqL.of hR2⟩, fun D hD => ?_⟩
    have nD := b2.ne hD
    refine lc_list (xs := ts.map V.ref) (fun i H' => Same H2 H' ∧ ∃ us, H' D = some (.lst (us.map V.ref)) ∧ TupsAt H' us ((rows.take i).filter (rootP most)))
      ⟨(Same.refl H2).upd_new hD, [], upd_same, rfl, fun i t q hi => by simp at hi⟩ (fun i H' _ ⟨q, _⟩ => SqL.of (q _ _ hR2)) ?_ ?_
    · rintro i v H3 hv ⟨s3, us, d3, u3⟩
      obtain ⟨t, ht, rfl⟩ := get_map hv
      have hi : i < rows.length := by rw [← hT.1]; exact lt_of_get ht
      have hq := s3 _ _ (hT2.2 i t rows[i] ht (List.getElem?_eq_getElem hi))
      have et := flt_snoc (p := rootP most) (List.getElem?_eq_getElem hi)
      have lu : us.length ≤ 8 := by
        rw [u3.1]
        have := List.length_filter_le (rootP most) (rows.take i)
        rw [List.length_take] at *
        omega
      have no : ¬ rootP most rows[i] = true → Same H2 H3 ∧ ∃ us, H3 D = some (.lst (us.map V.ref)) ∧ TupsAt H3 us ((rows.take (i + 1)).filter (rootP most)) := fun h => by
        refine ⟨s3, us, d3, ?_⟩
        rw [et, if_neg h, List.append_nil]
        exact u3
      refine ⟨rfl, _, rfl, t, _, _, _, rfl, rfl, SqT.of hq, atI_nat (j := 1) rfl, _, _, rfl, rfl, _, rfl, ?_⟩
      refine ite2 (fun h0 => ?_) (fun h0 => ⟨_, rfl, no fun q => h0 (decide_eq_true (of_decide_eq_true q).1)⟩)
      refine ⟨_, rfl, _, _, rfl, rfl, _, rfl, ?_⟩
      refine ite2 (fun h1 => ?_) (fun h1 => no fun q => h1 (decide_eq_true (of_decide_eq_true q).2))
      refine ⟨_, rfl, _, d3, lt_line (by rw [List.length_map]; omega), s3.upd_own hD, us ++ [t], by rw [upd_same, List.map_append]; rfl, ?_⟩
      rw [et, if_pos (show rootP most rows[i] = true from decide_eq_true ⟨of_decide_eq_true h0, of_decide_eq_true h1⟩)]
      have tk : TK H3 (upd H3 D (.lst (us.map V.ref ++ [V.ref t]))) := TK.lst d3
      exact (u3.keep tk).snoc (tk _ _ hq)
    · rintro H3 ⟨s3, us, d3, u3⟩
      rw [lts, List.take_length] at u3
      have hsub : (rows.filter (rootP most)).length ≤ rows.length := List.length_filter_le _ _
      have hin : ∀ q ∈ (rows.filter (rootP most)), q ∈ rows ∧ 0 < q.2 ∧ q.2 < ((most : Nat) : Int) := fun q hq => ⟨(List.mem_filter.mp hq).1, of_decide_eq_true (List.mem_filter.mp hq).2⟩
      generalize (rows.filter (rootP most)) = rts at u3 hsub hin
      have b3 := b2.same s3
      have k03 := k02.trans (Kp.same s3)
      have hR3 := s3 _ _ hR2
      have hT3 := hT2.sameR s3
      have hpos := R.pos
      obtain ⟨t0, a1, a2, a3⟩ := hT3.at (i := 0) (by omega)
      obtain ⟨t1, c1, c2, c3⟩ := hT3.at (i := rows.length - 1) (by omega)
      have n0 := R.nm _ (List.getElem_mem (l := rows) (n := 0) (by omega))
      have n1 := R.nm _ (List.getElem_mem (l := rows) (n := rows.length - 1) (by omega))
      generalize rows[0] = q0 at a3 n0
      generalize rows[rows.length - 1] = q1 at c3 n1
      refine ⟨_, rfl, r, _, _, _, rfl, rfl, SqL.of hR3, atI_nat (j := 0) a2, t0, _, _, _, rfl, rfl, SqT.of a3, atI_nat (j := 0) rfl, le_line (show 1 ≤ 100000 by decide), fun p4 o4 h4 ho4 => ?_⟩
      obtain ⟨s4, z4⟩ := new_tz (xs := [.str q0.1]) h4 ho4
      generalize upd H3 p4 (.frz o4 (.tup [.str q0.1])) = H4 at s4 z4
      refine ⟨_, rfl, _, rfl, r, _, rfl, .inl (SqL.of (s4 _ _ hR3)), _, _, rfl, rfl, r, _, _, _, rfl, rfl, SqL.of (s4 _ _ hR3), at_ofG (j := rows.length - 1) (by rw [lts]; omega) c2, t1, _, _, _, rfl, rfl, SqT.of (s4 _ _ c3), atI_nat (j := 0) rfl, le_line (show 1 ≤ 100000 by decide), fun p5 o5 h5 ho5 => ?_⟩
      obtain ⟨s5, z5⟩ := new_tz (xs := [.str q1.1]) h5 ho5
      have z45 := z4.same s5
      have s35 := s4.trans s5
      generalize upd H4 p5 (.frz o5 (.tup [.str q1.1])) = H5 at s5 z5 z45 s35
      have pr5 : PrS H5 p4 p5 [.k q0.1] [.k q1.1] 1000 := ⟨z45, z5, by show 1 ≤ 1000; decide, by show 1 ≤ 1000; decide, fun x hx => ⟨_, List.mem_singleton.mp hx, nm_ok n0⟩⟩
      have b5 := b3.same s35
      have k05 := k03.trans (Kp.same s35)
      have d5 := s35 _ _ d3
      have u5 := u3.sameR s35
      refine ⟨fun σ H' => ∃ (x6 x7 x8 : Option V) (t u : Addr) (ls lr : List E2), σ = [some (.ref a), some (.ref r), some (.int (most : Nat)), some (.ref D), some (.ref t), some (.ref u), x6, x7, x8, none] ∧ Kp a H H' ∧ BagM H' a c ∧ PrS H' t u ls lr 1000, ?_, ?_⟩
      · refine ⟨_, rfl, le_line (show 0 ≤ 100000 by decide), fun l6 hl6 => ?_⟩
        have s6 : Same H5 (upd H5 l6 (.lst [])) := (Same.refl H5).upd_new hl6
        have e6 : (upd H5 l6 (.lst [])) l6 = some (.lst []) := upd_same
        have b6 := b5.same s6
        have k06 := k05.trans (Kp.same s6)
        have d6 := s6 _ _ d5
        have u6 := u5.sameR s6
        have pr6 := pr5.same s6
        generalize upd H5 l6 (.lst []) = H6 at s6 e6 b6 k06 d6 u6 pr6
        refine ⟨_, _, dp_rows (SqL.of d6) u6, dp_nil e6, shp_rows (fun q hq => nm_ok (R.nm _ (hin q hq).1)), shp_nil, _, rfl, ?_⟩
        refine ite2 (fun h0 => ?_) (fun h0 => ?_)
        · rw [eqvE] at h0
          have hpos : 0 < rts.length := by
            cases rts with
            | nil => cases h0
            | cons _ _ => exact Nat.succ_pos _
          refine ⟨_, rfl, a, c, 8, rfl, b6, by decide, by decide, fun H7 d k7 b7 d0 d1 => ?_⟩
          have k07 := k06.trans k7
          have d7 := k7 _ _ d6 nD.1
          have u7 := u6.keep (k7.tkM b6)
          have pr7 := pr6.kp k7 b6
          refine ⟨rfl, _, rfl, ite2 (fun _ => ?_) (fun _ => ?_)⟩
          · refine ⟨_, rfl, _, rfl, _, rfl, D, _, rfl, .inl (SqL.of d7), a, c, (rts.length : Int), by rw [List.length_map, u7.1], b7, by omega, by omega, fun H8 j k8 b8 j0 j1 => ?_⟩
            have hj : j.toNat < rts.length := by omega
            obtain ⟨t, t1', t2, t3⟩ := u7.at hj
            have t4 := k8.tkM b7 _ _ t3
            have k08 := k07.trans k8
            refine ⟨D, _, _, _, rfl, rfl, SqL.of (k8 _ _ d7 nD.1), at_ofG (j := j.toNat) (by omega) t2, ?_⟩
            obtain ⟨m1, m2, m3⟩ := hin _ (List.getElem_mem hj)
            generalize rts[j.toNat] = q2 at t3 t4 m1 m2 m3
            have w3 : q2.2 ≤ 3 := (R.wd _ m1).2
            obtain ⟨wd, hwd, wd1, wd3⟩ : ∃ wd : Nat, q2.2 = ((wd : Nat) : Int) ∧ 1 ≤ wd ∧ wd ≤ 3 := ⟨q2.2.toNat, by omega, by omega, by omega⟩
            rw [hwd] at t4
            have hM : ∃ M : Nat, (199 : Int) / ((wd : Nat) : Int) = ((M : Nat) : Int) ∧ 66 ≤ M ∧ M ≤ 199 := by
              rcases (show wd = 1 ∨ wd = 2 ∨ wd = 3 by omega) with rfl | rfl | rfl
              · exact ⟨199, by decide, by decide, by decide⟩
              · exact ⟨99, by decide, by decide, by decide⟩
              · exact ⟨66, by decide, by decide, by decide⟩
            obtain ⟨M, hM, M66, M199⟩ := hM
            have nz := R.nm _ m1
            refine ⟨_, rfl, t, _, _, _, rfl, rfl, SqT.of t4, atI_nat (j := 1) rfl, _, _, rfl, rfl, ⟨by omega, by omega⟩, ?_⟩
            refine ⟨_, rfl, a, c, 2, rfl, b8, by decide, by decide, fun H9 d9 k9 b9 d90 d91 => ?_⟩
            have t9 := k9.tkM b8 _ _ t4
            refine ⟨_, _, rfl, rfl, ?_⟩
            refine ⟨_, rfl, _, rfl, t, _, _, _, rfl, rfl, SqT.of t9, atI_nat (j := 1) rfl, a, c, ((wd : Nat) : Int), rfl, b9, by omega, by omega, fun H10 j10 k10 b10 j100 j101 => ?_⟩
            have t10 := k10.tkM b9 _ _ t9
            have k010 := (k08.trans k9).trans k10
            obtain ⟨m1, hm1⟩ : ∃ m1 : Nat, (199 : Int) / ((wd : Nat) : Int) + d9 = ((m1 : Nat) : Int) := ⟨M + d9.toNat, by rw [hM]; omega⟩
            obtain ⟨jj, hjj⟩ : ∃ jj : Nat, j10 = ((jj : Nat) : Int) := ⟨j10.toNat, by omega⟩
            refine ⟨_, rfl, _, rfl, _, rfl, t, q2.1, wd, m1, jj, by rw [← hm1, ← hjj], t10, by omega, wd3, by omega, fun H11 g s s11 z11 l11 y11 => ?_⟩
            have b11 := b10.same s11
            refine ⟨_, rfl, _, rfl, _, _, rfl, rfl, _, rfl, a, c, 2, rfl, b11, by decide, by decide, fun H12 d12 k12 b12 d120 d121 => ⟨_, _, rfl, rfl, ?_⟩⟩
            obtain ⟨m2, hm2⟩ : ∃ m2 : Nat, (199 : Int) / ((wd : Nat) : Int) + d9 - 1 + d12 = ((m2 : Nat) : Int) := ⟨M + d9.toNat - 1 + d12.toNat, by rw [hM]; omega⟩
            have t12 := k12.tkM b11 _ _ (s11 _ _ t10)
            refine ⟨_, rfl, t, q2.1, wd, m2, jj, by rw [← hm2, ← hjj], t12, by omega, wd3, by omega, fun H13 g2 s2 s13 z13 l13 y13 => ?_⟩
            refine ⟨g2, s2, rfl, z13.q, by omega, fun H14 g3 s14 z14 => ?_⟩
            have sok : ∀ y ∈ s, PyData.strOk y = true := fun y hy => by
              rcases y11 y hy with e | e
              · rw [e]; exact nm_ok nz
              · rw [e]; exact star_ok
            have s1214 := s13.trans s14
            have z11' := (tz_kp z11 k12 b11).same s1214
            refine ⟨_, _, _, g, g3, s.map E2.k, (tgs 0 s2).map toE2, rfl, ((k010.trans (Kp.same s11)).trans k12).trans (Kp.same s1214), b12.same s1214, by rw [map_k2]; exact z11', by rw [map_to2]; exact z14, by rw [List.length_map]; omega, by rw [List.length_map, tgs_len]; omega, fun x hx => ?_⟩
            obtain ⟨y, hy, rfl⟩ := List.mem_map.mp hx
            exact ⟨y, rfl, sok y hy⟩
          · refine ⟨_, rfl, le_line (show 0 ≤ 100000 by decide), fun l8 hl8 => ?_⟩
            have s8 : Same H7 (upd H7 l8 (.lst [])) := (Same.refl H7).upd_new hl8
            have e8 : (upd H7 l8 (.lst [])) l8 = some (.lst []) := upd_same
            have b8 := b7.same s8
            have k08 := k07.trans (Kp.same s8)
            have d8 := s8 _ _ d7
            have u8 := u7.sameR s8
            generalize upd H7 l8 (.lst []) = H8 at s8 e8 b8 k08 d8 u8
            refine ⟨_, _, dp_rows (SqL.of d8) u8, dp_nil e8, shp_rows (fun q hq => nm_ok (R.nm _ (hin q hq).1)), shp_nil, _, rfl, ?_⟩
            refine ifp (by
              rw [eqvE]
              cases rts with
              | nil => exact absurd hpos (Nat.lt_irrefl _)
              | cons _ _ => rfl) ?_
            have hR8 := k08 _ _ hR nra
            refine ⟨_, rfl, _, rfl, _, rfl, a, c, r, most, rows, rfl, b8, nra, ⟨ts, hR8, hT.keep (k08.tkM hb)⟩, R, m7, ⟨rts[0], hin _ (List.getElem_mem hpos)⟩, fun H9 st s k9 b9 z9 so sl s2 => ?_⟩
            have k09 := k08.trans k9
            have hR9 := k09 _ _ hR nra
            refine ⟨_, rfl, _, rfl, _, rfl, a, c, r, st, rows, s, rfl, b9, nra, ⟨ts, hR9, hT.keep (k09.tkM hb)⟩, R, z9, so, s2, by omega, count_lt R so s2, fun H10 u e k10 b10 z10 re => ?_⟩
            have re7 := re.len
            refine ⟨_, _, _, st, u, s.map E2.k, e.map toE2, rfl, k09.trans k10, b10, by rw [map_k2]; exact tz_kp z9 k10 b9, by rw [map_to2]; exact z10, by rw [List.length_map]; omega, by rw [List.length_map]; omega, fun x hx => ?_⟩
            obtain ⟨y, hy, rfl⟩ := List.mem_map.mp hx
            refine ⟨y, rfl, ?_⟩
            rcases so.k y hy with q | ⟨q, q1', q2'⟩
            · rw [q]; exact star_ok
            · rw [← q2']; exact nm_ok (R.nm _ q1')
        · have h0' := h0
          rw [eqvE] at h0
          refine ⟨_, rfl, le_line (show 0 ≤ 100000 by decide), fun l7 hl7 => ?_⟩
          have s7 : Same H6 (upd H6 l7 (.lst [])) := (Same.refl H6).upd_new hl7
          have e7 : (upd H6 l7 (.lst [])) l7 = some (.lst []) := upd_same
          refine ⟨_, _, dp_rows (SqL.of (s7 _ _ d6)) (u6.sameR s7), dp_nil e7, shp_rows (fun q hq => nm_ok (R.nm _ (hin q hq).1)), shp_nil, _, rfl, ifn h0' ?_⟩
          exact ⟨_, _, _, p4, p5, _, _, rfl, k06.trans (Kp.same s7), b6.same s7, pr6.same s7⟩
      · rintro σ H6 ⟨x6, x7, x8, t, u, ls, lr, rfl, k6, b6, pr6⟩
        refine ⟨le_line (show 4 ≤ 100000 by decide), fun p7 o7 h7 ho7 => ?_⟩
        obtain ⟨s7, z7⟩ := new_tz (xs := [.int 0, .int 0, .int 1, .int 2]) h7 ho7
        generalize upd H6 p7 (.frz o7 (.tup [.int 0, .int 0, .int 1, .int 2])) = H7 at s7 z7
        have b7 := b6.same s7
        refine ⟨_, rfl, a, c, 4, rfl, b7, by decide, by decide, fun H8 e k8 b8 e0 e4 => ?_⟩
        obtain ⟨y, hy, y2⟩ := four_a e e0 e4
        have k08 := (k6.trans (Kp.same s7)).trans k8
        refine ⟨p7, _, _, _, rfl, rfl, (tz_kp z7 k8 b7).q.sq, at_ofG (j := e.toNat) (by omega) hy, ?_⟩
        refine ⟨_, rfl, by omega, by omega, for_range (n := (((y : Nat) : Int)).toNat) (fun i σ H' => ∃ (x9 : Option V) (t u : Addr) (ls lr : List E2), σ = [some (.ref a), some (.ref r), some (.int (most : Nat)), some (.ref D), some (.ref t), some (.ref u), x6, x7, x8, x9] ∧ Kp a H H' ∧ BagM H' a c ∧ PrS H' t u ls lr (1000 + i))
          ⟨none, t, u, ls, lr, rfl, k08, b8, (pr6.same s7).kp k8 b7⟩ ?_ ?_⟩
        · rintro i σ H9 hi ⟨x9, t, u, ls, lr, rfl, k9, b9, pr9⟩
          have hi2 : i < 2 := by rw [Int.toNat_natCast] at hi; omega
          refine ⟨_, rfl, _, rfl, _, rfl, le_line (show 0 ≤ 100000 by decide), fun l10 hl10 => ?_⟩
          have s10 : Same H9 (upd H9 l10 (.lst [])) := (Same.refl H9).upd_new hl10
          have e10 : (upd H9 l10 (.lst [])) l10 = some (.lst (([] : List Int).map V.int)) := upd_same
          generalize upd H9 l10 (.lst []) = H10 at s10 e10
          have k010 := k9.trans (Kp.same s10)
          have pr10 := pr9.same s10
          have b10 := b9.same s10
          refine ⟨a, c, r, t, l10, rows, ls, [], rfl, b10, nra, ⟨ts, k010 _ _ hR nra, hT.keep (k010.tkM hb)⟩, R, pr10.1, e10, by decide, by have := pr10.2.2.1; omega, fun H11 u2 l2 k11 b11 z11 l11 m11 => ?_⟩
          have pr11 := pr10.kp k11 b10
          refine ⟨_, u2, u, l2, lr, rfl, k010.trans k11, b11, z11, pr11.2.1, by have := pr10.2.2.1; omega, by have := pr10.2.2.2.1; omega, fun x hx => ?_⟩
          rcases m11 x hx with q | q | ⟨n, hn, _⟩
          · exact pr10.2.2.2.2 x q
          · exact q
          · exact absurd hn (by intro e; cases e)
        · rintro σ H9 ⟨x9, t, u, ls, lr, rfl, k9, b9, pr9⟩
          refine ⟨le_line (show 4 ≤ 100000 by decide), fun p10 o10 h10 ho10 => ?_⟩
          obtain ⟨s10, z10⟩ := new_tz (xs := [.int 0, .int 1, .int 1, .int 2]) h10 ho10
          generalize upd H9 p10 (.frz o10 (.tup [.int 0, .int 1, .int 1, .int 2])) = H10 at s10 z10
          have b10 := b9.same s10
          refine ⟨_, rfl, a, c, 4, rfl, b10, by decide, by decide, fun H11 e2' k11 b11 e20 e24 => ?_⟩
          obtain ⟨y', hy', y2'⟩ := four_b e2' e20 e24
          have k011 := (k9.trans (Kp.same s10)).trans k11
          have y1k : 1000 + (((y : Nat) : Int)).toNat ≤ 1002 := by rw [Int.toNat_natCast]; omega
          have pr11 : PrS H11 t u ls lr 1002 := by
            have q := (pr9.same s10).kp k11 b10
            exact ⟨q.1, q.2.1, Nat.le_trans q.2.2.1 y1k, Nat.le_trans q.2.2.2.1 y1k, q.2.2.2.2⟩
          refine ⟨p10, _, _, _, rfl, rfl, (tz_kp z10 k11 b10).q.sq, at_ofG (j := e2'.toNat) (by omega) hy', ?_⟩
          refine ⟨_, rfl, by omega, by omega, for_range (n := (((y' : Nat) : Int)).toNat) (fun i σ H' => ∃ (x9 : Option V) (u : Addr) (lr : List E2), σ = [some (.ref a), some (.ref r), some (.int (most : Nat)), some (.ref D), some (.ref t), some (.ref u), x6, x7, x8, x9] ∧ Kp a H H' ∧ BagM H' a c ∧ PrS H' t u ls lr (1002 + i))
            ⟨x9, u, lr, rfl, k011, b11, pr11⟩ ?_ ?_⟩
          · rintro i σ H12 hi ⟨x9, u, lr, rfl, k12, b12, pr12⟩
            have hi2 : i < 2 := by rw [Int.toNat_natCast] at hi; omega
            refine ⟨_, rfl, _, rfl, _, rfl, _, rfl, le_line (show 5 ≤ 100000 by decide), fun l13 hl13 => ?_⟩
            have s13 : Same H12 (upd H12 l13 (.lst (([-1, 0, 1, 2, 5] : List Int).map V.int))) := (Same.refl H12).upd_new hl13
            have e13 : (upd H12 l13 (.lst (([-1, 0, 1, 2, 5] : List Int).map V.int))) l13 = some (.lst (([-1, 0, 1, 2, 5] : List Int).map V.int)) := upd_same
            have k013 := k12.trans (Kp.same s13)
            have pr13 := pr12.same s13
            have b13 := b12.same s13
            refine ⟨a, c, r, u, l13, rows, lr, [-1, 0, 1, 2, 5], rfl, b13, nra, ⟨ts, k013 _ _ hR nra, hT.keep (k013.tkM hb)⟩, R, pr13.2.1, e13, by decide, by have := pr13.2.2.2.1; omega, fun H14 u2 l2 k14 b14 z14 l14 m14 => ?_⟩
            have pr14 := pr13.kp k14 b13
            exact ⟨_, u2, l2, rfl, k013.trans k14, b14, pr14.1, z14, by have := pr13.2.2.1; omega, by have := pr13.2.2.2.1; omega, pr14.2.2.2.2⟩
          · rintro σ H12 ⟨x9, u, lr, rfl, k12, b12, pr12⟩
            refine ⟨_, rfl, _, rfl, le_line (show 2 ≤ 100000 by decide), fun p13 o13 h13 ho13 => ?_⟩
            obtain ⟨s13, z13⟩ := new_tz (xs := [.ref t, .ref u]) h13 ho13
            obtain ⟨s, es, el, hs⟩ := ks_of pr12.2.2.2.2
            have pr13 := pr12.same s13
            have y3 : 1002 + (((y' : Nat) : Int)).toNat ≤ 1004 := by rw [Int.toNat_natCast]; omega
            refine k _ p13 t u s lr (k12.trans (Kp.same s13)) (b12.same s13) z13 (by rw [← map_k2, ← es]; exact pr13.1) pr13.2.1 (by have := pr13.2.2.1; omega) (by have := pr13.2.2.2.1; omega) hs
end
end Sh
end
section
set_option Elab.async false
set_option linter.all false
set_option maxRecDepth 100000
set_option maxHeartbeats 2000000
/-! list(reversed(a list)) -/
namespace RT
open PySem PySem.Spec PyProof.Rows
section
variable {prog : Program} {w : World} {A : Around} {E : Value → Shared → Prop} {s : Shared}
theorem wpAny_extend_rev {R : Result → Shared → Prop} {it l : Addr} {items : Array Value} (hh : A.handled = none) (hit : s.heap.IsRevIter it l ((items.size : Int) - 1)) (hl : s.heap.IsList l items) (hne : l ≠ it) (hn : items.size ≤ sizeLine) (S : Addr) (held : Value) (c₀ : Nat) (hSi : S ≠ it) (hSl : S ≠ l)
    (hS : s.heap.get? S = some { cls := .type "list", dict := none, data := .seq #[] c₀, slots := #[] })
    (hR : ∀ h' tk acc' c', (∀ b o, b ≠ S → b ≠ it → s.heap.get? b = some o → h'.get? b = some o) → h'.get? S = some { cls := .type "list", dict := none, data := .seq acc' c', slots := #[] } →
      ItemsOf (fun i v => items[items.size - 1 - i]? = some v) acc' items.size → R (.ok (.ret held)) { s with heap := h', toks := tk }) :
    wpAny (model prog w) A.in1 (Builtin.List.listExtendWith (.ref S) (.ref it) held)
      (fun fin s' => match fin with | .done f => R (.ok f) s' | .again c' => c'.quiet = true ∧ codeAny (model prog w) A c' R s') (fun e s' => R (.error e) s') s := by
  have W := (Walks.listRev (prog := prog) (w := w) (A := A.in1) hh it l hne items).toS
  have hSf : S ∉ [it, l] := by simp only [List.mem_cons, List.not_mem_nil, or_false, not_or]; exact ⟨hSi, hSl⟩
  have hT : s.TypeIs (.ref it) "list_reverseiterator" := Heap.IsRevIter.typeIs hit
  have h1 : Builtin.List.listSameRef (.ref S) (.ref it) = false := by simp [Builtin.List.listSameRef, hSi]
  unfold Builtin.List.listExtendWith
  refine wpAny_bind (wpAny_typeOf hT ?_)
  rw [if_neg (by rw [h1]; decide)]
  refine wpAny_bind (wpAny_pyIter_revIter hit ?_)
  refine wpAny_bind (wpAny_holding ?_)
  unfold Builtin.List.listLengthHint
  refine wpAny_bind (wpAny_specialOf hT nolen_lri ?_)
  show wpAny _ A.in1 (specialOf (Value.ref it) (Str.ofString "__length_hint__") >>= _) _ _ _
  refine wpAny_bind (wpAny_specialOf hT hint_lri ?_)
  generalize hid : ("list_reverseiterator.__length_hint__" : String) = id0
  wp_delta
  rw [show splitId id0 = some ("list_reverseiterator", "__length_hint__") from by subst hid; decide +kernel]
  subst hid
  refine wpAny_bind (wpAny_isInstance (b := true) hT (by rw [isSubtype_type]; kernel_rfl) ?_)
  refine wpAny_pure ?_
  rw [if_neg (by decide)]
  have e0 : ((items.size : Nat) : Int) - 1 - ((0 : Nat) : Int) = (items.size : Int) - 1 := by omega
  refine wpAny_pure ⟨plainId_quiet F.plain_extend_loop _, codeAny_extend_loopS W hn _ hSf _ items.size 0 _ _ _ rfl (Nat.zero_le _) ⟨Nat.zero_le _, by rw [e0]; exact hit, hl⟩ hS (ItemsOf.nil _) fun s' acc' c' hm hS' hacc => ?_⟩
  rw [Moved.eq_with hm]
  refine hR s'.heap s'.toks acc' c' (fun b o hb hi e => hm.heap b o (fun hmem => ?_) e) hS' hacc
  rcases List.mem_cons.mp hmem with e' | hmem
  · exact hb e'
  · exact hi (List.mem_singleton.mp hmem)
theorem wpAny_list_init_rev {R : Result → Shared → Prop} {it l : Addr} {items : Array Value} (hh : A.handled = none) (hit : s.heap.IsRevIter it l ((items.size : Int) - 1)) (hl : s.heap.IsList l items) (hne : l ≠ it) (hn : items.size ≤ sizeLine) (S : Addr) (hSi : S ≠ it) (hSl : S ≠ l)
    (hS : s.heap.get? S = some { cls := .type "list", data := .seq #[] })
    (hR : ∀ h' tk acc' c', (∀ b o, b ≠ S → b ≠ it → s.heap.get? b = some o → h'.get? b = some o) → h'.get? S = some { cls := .type "list", dict := none, data := .seq acc' c', slots := #[] } →
      ItemsOf (fun i v => items[items.size - 1 - i]? = some v) acc' items.size → R (.ok (.ret .none)) { s with heap := h', toks := tk }) :
    wpAny (model prog w) A.in1 (Builtin.«list.__init__» ⟨[.ref S, .ref it], []⟩)
      (fun fin s' => match fin with | .done f => R (.ok f) s' | .again c' => c'.quiet = true ∧ codeAny (model prog w) A c' R s') (fun e s' => R (.error e) s') s := by
  show wpAny _ _ (do let old ← Builtin.List.listItems (.ref S); Builtin.List.listUpdate (.ref S) (fun _ => #[]); letGo old.toList.reverse; Builtin.List.listExtendWith (.ref S) (.ref it) .none) _ _ s
  refine wpAny_bind ?_
  unfold Builtin.List.listItems
  refine wpAny_bind (wpAny_seqItems hS rfl (wpAny_pure ?_))
  show wpAny _ _ (updateSeq S (fun _ => #[]) >>= fun _ => letGo (#[] : Array Value).toList.reverse >>= fun _ => Builtin.List.listExtendWith (.ref S) (.ref it) .none) _ _ s
  refine wpAny_bind (wpAny_updateSeq hS rfl ?_)
  have hS₂ := Heap.get?_update_self (Obj.mapSeq (fun _ => (#[] : Array Value))) hS rfl
  have oth : ∀ b o, b ≠ S → s.heap.get? b = some o → (s.heap.update S (Obj.mapSeq (fun _ => (#[] : Array Value)))).get? b = some o :=
    fun b o hb e => (Heap.get?_update_other _ _ (Ne.symm hb)).trans e
  refine wpAny_bind (wpAny_letGo ?_)
  obtain ⟨ol, hol, hl2⟩ := id hl
  refine wpAny_extend_rev hh (hit.at fun o e => oth it o (Ne.symm hSi) e) ⟨ol, oth l _ (Ne.symm hSl) hol, hl2⟩ hne hn S .none _ hSi hSl hS₂ fun h' tk acc' c' hk hS' hacc => ?_
  exact hR h' tk acc' c' (fun b o hb hi e => hk b o hb hi (oth b o hb e)) hS' hacc
theorem call_list_rev {Q : Value → Shared → Prop} {it l : Addr} {items : Array Value} (hh : A.handled = none) (hit : s.heap.IsRevIter it l ((items.size : Int) - 1)) (hl : s.heap.IsList l items) (hne : l ≠ it) (hn : items.size ≤ sizeLine)
    (hQ : ∀ h' tk acc' c', (∀ b o, b ≠ it → s.heap.get? b = some o → h'.get? b = some o) →
      h'.get? s.heap.objs.size = some { cls := .type "list", dict := none, data := .seq acc' c', slots := #[] } → ItemsOf (fun i v => items[items.size - 1 - i]? = some v) acc' items.size → Q (.ref s.heap.objs.size) { s with heap := h', toks := tk }) :
    wpAny (model prog w) A (call (.type "list") [.ref it]) Q E s := by
  refine callType_codes (Q₁ := fun obj s₁ => obj = .ref s.heap.objs.size ∧ s₁ = { s with heap := s.heap.push { cls := .type "list", data := .seq #[] } }) F.called_list (F.typeCall_list_1 _) F.entry_list_init
    (code_list_new _ ⟨rfl, rfl⟩) fun obj s₁ h₁ => ?_
  obtain ⟨rfl, rfl⟩ := h₁
  have hS : (s.heap.push { cls := .type "list", data := .seq #[] }).get? s.heap.objs.size = some { cls := .type "list", data := .seq #[] } := Heap.get?_push_size _ rfl
  obtain ⟨oi, hoi, _⟩ := id hit
  obtain ⟨ol, hol, _⟩ := id hl
  refine ⟨⟨_, hS, rfl⟩, F.args_list_init_2 _ _, wpAny_list_init_rev (A := A.in1) hh (hit.at fun o e => Heap.get?_push_of_some _ e) (hl.push _) hne hn _ (Nat.ne_of_gt (Heap.lt_size hoi)) (Nat.ne_of_gt (Heap.lt_size hol)) hS fun h' tk acc' c' hk hS' hacc => ?_⟩
  exact ⟨rfl, hQ h' tk acc' c' (fun b o hb e => hk b o (Nat.ne_of_lt (Heap.lt_size e)) hb (Heap.get?_push_of_some _ e)) hS' hacc⟩
end
end RT
namespace RT
open PySem PySem.Spec PyProof.Rows L2
/-- list(reversed(x)), x a list: a new list -/
def tLstRev (K : PySem.W.Frag) (te : TE) : TE := fun σ H Q => te σ H fun v H1 => ∃ (a : Addr) (xs : List V), v = .ref a ∧ SqL K H1 a xs ∧ ∀ q, H1 q = none → Q (.ref q) (upd H1 q (.lst xs.reverse))
section
variable {X : Cx}
theorem pe_listRev {e : Expr} {te : TE} {p p2 pos pos2 : Pos} (hc : X.calm = true) (hg : Gl X "list") (hm : X.mg "list" = none) (hg2 : Gl X "reversed") (hm2 : X.mg "reversed" = none) (he : PE X e te)
    (hs : starEach [e] X.env = (false, eval e X.env) :: starEach [] X.env := by rfl)
    (hs2 : starEach [.Call (.Name "reversed" p2) [e] [] pos2] X.env = (false, eval (.Call (.Name "reversed" p2) [e] [] pos2) X.env) :: starEach [] X.env := by rfl) :
    PE X (.Call (.Name "list" p) [.Call (.Name "reversed" p2) [e] [] pos2] [] pos) (tLstRev X.K te) := by
  refine ⟨fun pins s σ H Q I h => ?_⟩
  refine Call_ (ld_blt I hg hm boot_list (PyProof.Rows.callWith_type1 (args_cons (Call_ (ld_blt I hg2 hm2 PyProof.Rows.boot_reversed (PyProof.Rows.callWith_type1 (args_cons (thn (he.run pins s σ H _ I h) fun u s1 ⟨v, H1, I1, r1, q1⟩ => args_nil ?_) hs) hs rfl))) hs2) hs2 rfl))
  obtain ⟨a, xs, ev, hq, q⟩ := q1
  subst ev
  obtain rfl : u = Value.ref a := r1
  obtain ⟨its, rv, p', hz⟩ := I1.list hq
  refine call_reversed_list p'.isList (args_nil ?_)
  have k0 : ∀ b o, s1.heap.get? b = some o → (s1.heap.push (revObj a ((its.toArray.size : Int) - 1))).get? b = some o := fun b o e => Heap.get?_push_of_some _ e
  have I2 : Inv X pins σ H1 { s1 with heap := s1.heap.push (revObj a ((its.toArray.size : Int) - 1)) } := I1.kept (t' := s1.toks) k0
  obtain ⟨f0, f1, f2, f3, f4, f5⟩ := I1.fpOk (H' := H1) (b := s1.heap.objs.size) (Nat.le_refl _) (I1.hok.fresh (Nat.le_refl _))
  have hl := p'.isList
  obtain ⟨ol, hol, _⟩ := id hl
  have hne : a ≠ s1.heap.objs.size := Nat.ne_of_lt (Heap.lt_size hol)
  have hn : its.toArray.size ≤ sizeLine := by rw [List.size_toArray, ← rv.length]; exact hz
  refine call_list_rev (s := { s1 with heap := s1.heap.push (revObj a ((its.toArray.size : Int) - 1)) }) (I1.ok.hd hc) ⟨_, Heap.get?_push_size _ rfl, rfl, rfl⟩ (hl.push _) hne hn fun h' tk acc c' hk hS hi => ?_
  refine ⟨.ref (s1.heap.push (revObj a ((its.toArray.size : Int) - 1))).objs.size, upd H1 (s1.heap.push (revObj a ((its.toArray.size : Int) - 1))).objs.size (.lst xs.reverse), I2.turnedNew (t' := tk) (ch := [s1.heap.objs.size]) (fun b o hb e => hk b o (fun z => hb (by rw [z]; exact List.mem_singleton.mpr rfl)) e) (fun b hb => ?_) (Nat.le_refl _) (show ObjOk X.prog X.w _ _ _ (.lst xs.reverse) from ⟨by rw [List.length_reverse]; exact hz, acc.toList, c', vals_rev rv hi, ?_⟩), rfl, q _ (I2.hok.fresh (Nat.le_refl _))⟩
  · rw [List.mem_singleton.mp hb]
    exact ⟨f0, f1, f2, f3, f4, f5⟩
  · rw [Array.toArray_toList]
    exact hS
end
end RT
end
section
set_option Elab.async false
set_option linter.all false
set_option maxRecDepth 100000
set_option maxHeartbeats 2000000
namespace Sh
open PySem PySem.Spec PyProof.Rows L2
open C8 (pss_cut tCut)
open Evl (ixN_nat)
theorem ts_name (b t : Addr) (z : V) : (tsF b t z).lookup ("name" : Str) = some z := by
  have h1 : (("name" : Str) == "bed") = false := by decide +kernel
  have h2 : (("name" : Str) == "trims") = false := by decide +kernel
  simp [tsF, List.lookup, h1, h2]
def spLen9 (CS : Addr) : Sp := fun vs H Q _ => ∃ (a dx b tt : Addr) (z : V) (ps : List Addr), vs = [.ref a] ∧ H a = some (.ins CS dx (tsF b tt z)) ∧ H tt = some (.tup (ps.map V.ref)) ∧ Q (.int (ps.length : Nat)) H
def LenOk9 (P : Program) (w : World) (K : PySem.W.Frag) (mg : Str → Option Value) (base : Heap) (CS : Addr) : Prop := ∃ f, Meth K CS "__len__" f ∧ FnR P w K mg base CX0 1 f (spLen9 CS)
/-- a trim, told -/
def TrpAt (H : Hp) (p : Addr) (q : T9) : Prop := ∃ (r t u : Addr) (ts : List Addr), Tq H p [.ref r, .ref t, .ref u] ∧ Tq H r (ts.map V.ref) ∧ TupsAt H ts q.1 ∧ Tq H t (sV q.2.1) ∧ Tq H u (q.2.2.map e2V)
def TrpsAt (H : Hp) (ps : List Addr) (qs : List T9) : Prop := ps.length = qs.length ∧ ∀ (i : Nat) (p : Addr) (q : T9), ps[i]? = some p → qs[i]? = some q → TrpAt H p q
theorem TrpAt.same {H H' : Hp} {p : Addr} {q : T9} (x : TrpAt H p q) (s : Same H H') : TrpAt H' p q := by
  obtain ⟨r, t, u, ts, a, b, c, d, e⟩ := x
  exact ⟨r, t, u, ts, a.same s, b.same s, c.sameR s, d.same s, e.same s⟩
theorem TrpsAt.same {H H' : Hp} {ps : List Addr} {qs : List T9} (x : TrpsAt H ps qs) (s : Same H H') : TrpsAt H' ps qs := ⟨x.1, fun i p q h1 h2 => (x.2 i p q h1 h2).same s⟩
theorem TrpAt.lst {H : Hp} {p F : Addr} {q : T9} {ys zs : List V} (x : TrpAt H p q) (hF : H F = some (.lst ys)) : TrpAt (upd H F (.lst zs)) p q := by
  obtain ⟨r, t, u, ts, a, b, c, d, e⟩ := x
  have z : ∀ {t : Addr} {xs : List V}, Tq H t xs → Tq (upd H F (.lst zs)) t xs := fun {t xs} h => by
    rcases h with q1 | ⟨o', q1⟩
    · exact .inl (by rw [upd_ne (fun e => by rw [e, hF] at q1; cases q1)]; exact q1)
    · exact .inr ⟨o', by rw [upd_ne (fun e => by rw [e, hF] at q1; cases q1)]; exact q1⟩
  exact ⟨r, t, u, ts, z a, z b, c.keep (TK.lst hF), z d, z e⟩
theorem TrpsAt.lst {H : Hp} {F : Addr} {ps : List Addr} {qs : List T9} {ys zs : List V} (x : TrpsAt H ps qs) (hF : H F = some (.lst ys)) : TrpsAt (upd H F (.lst zs)) ps qs := ⟨x.1, fun i p q h1 h2 => (x.2 i p q h1 h2).lst hF⟩
theorem TrpsAt.nil {H : Hp} : TrpsAt H [] [] := ⟨rfl, fun i p q h => by simp at h⟩
theorem TrpsAt.snoc {H : Hp} {ps : List Addr} {qs : List T9} {p : Addr} {q : T9} (x : TrpsAt H ps qs) (h : TrpAt H p q) : TrpsAt H (ps ++ [p]) (qs ++ [q]) := by
  refine ⟨by rw [List.length_append, List.length_append, x.1]; rfl, fun i p' q' a b => ?_⟩
  by_cases hi : i < ps.length
  · rw [List.getElem?_append_left hi] at a
    rw [List.getElem?_append_left (by rw [← x.1]; exact hi)] at b
    exact x.2 i p' q' a b
  · rw [List.getElem?_append_right (by omega)] at a
    rw [List.getElem?_append_right (by rw [← x.1]; omega)] at b
    rw [x.1] at a
    cases hj : i - qs.length with
    | zero =>
      rw [hj] at a b
      cases a
      cases b
      exact h
    | succ j =>
      rw [hj] at a
      simp at a
/-- a set of trims, told -/
def ShownAt (H : Hp) (p : Addr) (r0 : List Row) (z : V) (qs : List T9) : Prop := ∃ (r pr : Addr) (ts pps : List Addr), Tq H p [.str "Good", .ref r, .ref pr, z, .int (qs.length : Nat)] ∧ Tq H r (ts.map V.ref) ∧ TupsAt H ts r0 ∧ Tq H pr (pps.map V.ref) ∧ TrpsAt H pps qs
theorem ShownAt.same {H H' : Hp} {p : Addr} {r0 : List Row} {z : V} {qs : List T9} (x : ShownAt H p r0 z qs) (s : Same H H') : ShownAt H' p r0 z qs := by
  obtain ⟨r, pr, ts, pps, a, b, c, d, e⟩ := x
  exact ⟨r, pr, ts, pps, a.same s, b.same s, c.sameR s, d.same s, e.same s⟩
def SetAt (H : Hp) (p : Addr) (r0 : List Row) (qs : List T9) : Prop := match sdue r0 qs with
  | some x => Tq H p (x.told ++ [.bl true])
  | none => ShownAt H p r0 (.str "trims") qs
theorem set_some {H : Hp} {p : Addr} {r0 : List Row} {qs : List T9} {x : E9} (h : sdue r0 qs = some x) (q : Tq H p (x.told ++ [.bl true])) : SetAt H p r0 qs := by
  unfold SetAt
  rw [h]
  exact q
theorem set_none {H : Hp} {p : Addr} {r0 : List Row} {qs : List T9} (h : sdue r0 qs = none) (q : ShownAt H p r0 (.str "trims") qs) : SetAt H p r0 qs := by
  unfold SetAt
  rw [h]
  exact q
theorem sdue_or {r0 : List Row} {qs : List T9} {x : E9} (h : sdue r0 qs = some x) : x = .other ∨ x = .trm := by
  unfold sdue at h
  split at h
  · rename_i y hy
    cases h
    unfold bdue at hy
    split at hy
    · cases hy
    · cases hy
      exact .inl rfl
  · split at h
    · cases h
      exact .inr rfl
    · cases h
def five9 (n : Nat) : Prop := n = 1 ∨ n = 2 ∨ n = 3 ∨ n = 8 ∨ n = 9
def spSet9 (C CT CS : Addr) (A : A9) : Sp := fun vs H Q E => ∃ (b g : Addr) (ps : List Addr) (r0 : List Row) (qs : List T9), vs = [.ref b, .ref g] ∧ H g = some (.lst (ps.map V.ref)) ∧ TrmsX C CT H ps qs ∧ BedAt C H b r0 ∧ ROk 8 r0 ∧ (∀ q ∈ qs, ROk 8 q.1) ∧ five9 qs.length ∧
  Way9 A E H (sdue r0 qs) (∀ H' p, Same H H' → H p = none → HeldX C CT CS H' p r0 (.str "trims") qs → Q (.ref p) H')
def spShown9 (C CT CS : Addr) : Sp := fun vs H Q _ => ∃ (h : Addr) (r0 : List Row) (z : V) (qs : List T9), vs = [.ref h] ∧ HeldX C CT CS H h r0 z qs ∧ qs.length ≤ 100 ∧ ∀ H' p, Same H H' → ShownAt H' p r0 z qs → Q (.ref p) H'
def spSetA9 (C CT : Addr) : Sp := fun vs H Q _ => ∃ (b g : Addr) (ps : List Addr) (r0 : List Row) (qs : List T9), vs = [.ref b, .ref g] ∧ H g = some (.lst (ps.map V.ref)) ∧ TrmsX C CT H ps qs ∧ BedAt C H b r0 ∧ ROk 8 r0 ∧ (∀ q ∈ qs, ROk 8 q.1) ∧ five9 qs.length ∧
  ∀ H' p, Same H H' → SetAt H' p r0 qs → Q (.ref p) H'
abbrev s_Trims_len__ : Stmt := inClass (top 31) 1
abbrev N_Trims_len__ : List Str := ["self"]
theorem sc_Trims_len__ : FnScope N_Trims_len__ ["self"] (defScope s_Trims_len__) := ⟨rfl, rfl, rfl, by decide +kernel, rfl, by decide +kernel, by decide +kernel⟩
abbrev s_law_set : Stmt := top 53
abbrev N_law_set : List Str := ["bed", "given", "most"]
theorem sc_law_set : FnScope N_law_set ["bed", "given"] (defScope s_law_set) := ⟨rfl, rfl, rfl, by decide +kernel, rfl, by decide +kernel, by decide +kernel⟩
abbrev s_law_shown : Stmt := top 54
abbrev N_law_shown : List Str := ["held", "pairs", "trim"]
theorem sc_law_shown : FnScope N_law_shown ["held"] (defScope s_law_shown) := ⟨rfl, rfl, rfl, by decide +kernel, rfl, by decide +kernel, by decide +kernel⟩
abbrev s_law_set_asked : Stmt := top 55
abbrev N_law_set_asked : List Str := ["bed", "given", "e"]
theorem sc_law_set_asked : FnScope N_law_set_asked ["bed", "given"] (defScope s_law_set_asked) := ⟨rfl, rfl, rfl, by decide +kernel, rfl, by decide +kernel, by decide +kernel⟩
section
variable {P : Program} {w : World} {K : PySem.W.Frag} {mg : Str → Option Value} {base : Heap} {C CT CS CY : Addr} {A : A9}
theorem ok_len9 (T : Bm mg) (B : TsT K CS) {f : Addr} {fd : FuncData} (F : FunD K "__len__" "Trims.__len__" (defArgs s_Trims_len__) (defBody s_Trims_len__) (defScope s_Trims_len__) [] [] f fd) (M : Meth K CS "__len__" f) : LenOk9 P w K mg base CS := by
  have G : FnOk P w K mg base CX0 1 f fd ["self"] (spLen9 CS) := F.ok sc_Trims_len__ (fun vs H Q E h => by obtain ⟨a, dx, b, tt, z, ps, rfl, _⟩ := h; rfl) fun cdv A outer s H vs Q E hr h => by
    obtain ⟨a, dx, b, tt, z, ps, rfl, ha, ht, k⟩ := h
    refine ⟨_, (pss_one (ps_ret (pe_callB call_len_seq (by rfl) T.b_len boot_len (pa_cons (pe_fld (pv 0) rfl) pa_nil)))), ?_⟩
    refine ⟨_, rfl, a, CS, dx, _, _, rfl, ha, B.cl, B.nT, ts_trims _ _ _, tt, _, rfl, .inr (SqT.of ht), ?_⟩
    rw [List.length_map]
    exact k
  refine ⟨f, M, fun A' outer s H us vs Q E hr e0 r hs => G.raw (F.bindsN fun _ _ _ _ _ _ us hl => match us, hl with | [_], _ => rfl) .nil A' outer s H us vs Q E hr e0 r (by show spLen9 CS (vs ++ []) H Q E; rw [List.append_nil]; exact hs)⟩
theorem ok_set9 (T : Bm mg) (c_Trims : Trims9C P w K mg base C CT CS A 4) (D : Def0 K mg "_law_set" s_law_set) : DefOk P w K mg base (L2.CX P w) 6 "_law_set" (spSet9 C CT CS A) := by
  refine D.okX sc_law_set (fun vs H Q E h => ?_) (fun _ _ _ _ _ _ us hl => match us, hl with | [_, _], _ => rfl) (fun f cdv A' outer s' H vs Q E hr h => ?_)
  · obtain ⟨b, g, ps, r0, qs, rfl, _⟩ := h
    rfl
  · obtain ⟨b, g, ps, r0, qs, rfl, hg, hT, hB, R, hR, h5, k⟩ := h
    refine ⟨_, (pss_cons (ps_if (pt_cmpR op_eq (pe_callB call_len_seq (by rfl) T.b_len boot_len (pa_cons (pv 1) pa_nil)) pe_int (nomark _))
        (pss_one (ps_ret (pe_trims9 c_Trims (hr.mono (by decide)) (fun σ pins H s e s' I c => (passes_call (takes_of rfl rfl rfl rfl) fun _ _ _ _ h => h) pins σ H s e s' I c) (pa_cons (pv 0) (pa_cons (pe_ix ix_list (pv 1) pe_int (fun _ _ => rfl)) pa_nil)))))
        pss_nil)
      (pss_cons (ps_if (pt_cmpR op_eq (pe_callB call_len_seq (by rfl) T.b_len boot_len (pa_cons (pv 1) pa_nil)) pe_int (nomark _))
        (pss_one (ps_ret (pe_trims9 c_Trims (hr.mono (by decide)) (fun σ pins H s e s' I c => (passes_call (takes_of rfl rfl rfl rfl) fun _ _ _ _ h => h) pins σ H s e s' I c) (pa_cons (pv 0) (pa_cons (pe_ix ix_list (pv 1) pe_int (fun _ _ => rfl)) (pa_cons (pe_ix ix_list (pv 1) pe_int (fun _ _ => rfl)) pa_nil))))))
        pss_nil)
      (pss_cons (ps_if (pt_cmpR op_eq (pe_callB call_len_seq (by rfl) T.b_len boot_len (pa_cons (pv 1) pa_nil)) pe_int (nomark _))
        (pss_one (ps_ret (pe_trims9 c_Trims (hr.mono (by decide)) (fun σ pins H s e s' I c => (passes_call (takes_of rfl rfl rfl rfl) fun _ _ _ _ h => h) pins σ H s e s' I c) (pa_cons (pv 0) (pa_cons (pe_ix ix_list (pv 1) pe_int (fun _ _ => rfl)) (pa_cons (pe_ix ix_list (pv 1) pe_int (fun _ _ => rfl)) (pa_cons (pe_ix ix_list (pv 1) pe_int (fun _ _ => rfl)) pa_nil)))))))
        pss_nil)
      (pss_cons (ps_set (i := 2) sc_law_set.nd rfl (Or.inl rfl) (pe_lst (pa_cons (pe_ix ix_list (pv 1) pe_int (fun _ _ => rfl)) (pa_cons (pe_ix ix_list (pv 1) pe_int (fun _ _ => rfl)) (pa_cons (pe_ix ix_list (pv 1) pe_int (fun _ _ => rfl)) (pa_cons (pe_ix ix_list (pv 1) pe_int (fun _ _ => rfl)) (pa_cons (pe_ix ix_list (pv 1) pe_int (fun _ _ => rfl)) (pa_cons (pe_ix ix_list (pv 1) pe_int (fun _ _ => rfl)) (pa_cons (pe_ix ix_list (pv 1) pe_int (fun _ _ => rfl)) (pa_cons (pe_ix ix_list (pv 1) pe_int (fun _ _ => rfl)) pa_nil))))))))))
      (pss_cons (ps_if (pt_cmpR op_eq (pe_callB call_len_seq (by rfl) T.b_len boot_len (pa_cons (pv 1) pa_nil)) pe_int (nomark _))
        (pss_one (ps_ret (pe_trims9 c_Trims (hr.mono (by decide)) (fun σ pins H s e s' I c => (passes_call (takes_of rfl rfl rfl rfl) fun _ _ _ _ h => h) pins σ H s e s' I c) (pa_cons (pv 0) (pa_cons (pe_ix ix_list (pv 2) pe_int (fun _ _ => rfl)) (pa_cons (pe_ix ix_list (pv 2) pe_int (fun _ _ => rfl)) (pa_cons (pe_ix ix_list (pv 2) pe_int (fun _ _ => rfl)) (pa_cons (pe_ix ix_list (pv 2) pe_int (fun _ _ => rfl)) (pa_cons (pe_ix ix_list (pv 2) pe_int (fun _ _ => rfl)) (pa_cons (pe_ix ix_list (pv 2) pe_int (fun _ _ => rfl)) (pa_cons (pe_ix ix_list (pv 2) pe_int (fun _ _ => rfl)) (pa_cons (pe_ix ix_list (pv 2) pe_int (fun _ _ => rfl)) pa_nil))))))))))))
        pss_nil)
      (pss_one (ps_ret (pe_trims9 c_Trims (hr.mono (by decide)) (fun σ pins H s e s' I c => (passes_call (takes_of rfl rfl rfl rfl) fun _ _ _ _ h => h) pins σ H s e s' I c) (pa_cons (pv 0) (pa_cons (pe_ix ix_list (pv 2) pe_int (fun _ _ => rfl)) (pa_cons (pe_ix ix_list (pv 2) pe_int (fun _ _ => rfl)) (pa_cons (pe_ix ix_list (pv 2) pe_int (fun _ _ => rfl)) (pa_cons (pe_ix ix_list (pv 2) pe_int (fun _ _ => rfl)) (pa_cons (pe_ix ix_list (pv 2) pe_int (fun _ _ => rfl)) (pa_cons (pe_ix ix_list (pv 2) pe_int (fun _ _ => rfl)) (pa_cons (pe_ix ix_list (pv 2) pe_int (fun _ _ => rfl)) (pa_cons (pe_ix ix_list (pv 2) pe_int (fun _ _ => rfl)) (pa_cons (pe_ix ix_list (pv 1) pe_int (fun _ _ => rfl)) pa_nil)))))))))))))))))), ?_⟩
    have hl := hT.1
    have h5' : five9 ps.length := by rw [hl]; exact h5
    have h9 : qs.length ≤ 9 := by unfold five9 at h5; omega
    match ps, h5' with
    | [], h => exact absurd h (by unfold five9; show ¬ (0 = 1 ∨ _); simp)
    | [_, _, _, _], h => exact absurd h (by unfold five9; simp)
    | [_, _, _, _, _], h => exact absurd h (by unfold five9; simp)
    | [_, _, _, _, _, _], h => exact absurd h (by unfold five9; simp)
    | [_, _, _, _, _, _, _], h => exact absurd h (by unfold five9; simp)
    | _ :: _ :: _ :: _ :: _ :: _ :: _ :: _ :: _ :: _ :: _, h => exact absurd h (by unfold five9; simp only [List.length_cons]; omega)
    | [t0], _ =>
      refine ⟨_, rfl, g, _, rfl, .inl (SqL.of hg), rfl, _, rfl, ifp (by simp) ?_⟩
      exact ⟨_, rfl, _, rfl, g, _, _, _, rfl, rfl, SqL.of hg, atI_nat (j := 0) rfl, b, [t0], r0, qs, rfl, hT, hB, R, hR, by omega, k⟩
    | [t0, t1], _ =>
      refine ⟨_, rfl, g, _, rfl, .inl (SqL.of hg), rfl, _, rfl, ifn (fun e => by simp at e) ?_⟩
      refine ⟨_, rfl, g, _, rfl, .inl (SqL.of hg), rfl, _, rfl, ifp (by simp) ?_⟩
      exact ⟨_, rfl, _, rfl, g, _, _, _, rfl, rfl, SqL.of hg, atI_nat (j := 0) rfl, _, rfl, g, _, _, _, rfl, rfl, SqL.of hg, atI_nat (j := 1) rfl, b, [t0, t1], r0, qs, rfl, hT, hB, R, hR, by omega, k⟩
    | [t0, t1, t2], _ =>
      refine ⟨_, rfl, g, _, rfl, .inl (SqL.of hg), rfl, _, rfl, ifn (fun e => by simp at e) ?_⟩
      refine ⟨_, rfl, g, _, rfl, .inl (SqL.of hg), rfl, _, rfl, ifn (fun e => by simp at e) ?_⟩
      refine ⟨_, rfl, g, _, rfl, .inl (SqL.of hg), rfl, _, rfl, ifp (by simp) ?_⟩
      exact ⟨_, rfl, _, rfl, g, _, _, _, rfl, rfl, SqL.of hg, atI_nat (j := 0) rfl, _, rfl, g, _, _, _, rfl, rfl, SqL.of hg, atI_nat (j := 1) rfl, _, rfl, g, _, _, _, rfl, rfl, SqL.of hg, atI_nat (j := 2) rfl, b, [t0, t1, t2], r0, qs, rfl, hT, hB, R, hR, by omega, k⟩
    | [t0, t1, t2, t3, t4, t5, t6, t7], _ =>
      refine ⟨_, rfl, g, _, rfl, .inl (SqL.of hg), rfl, _, rfl, ifn (fun e => by simp at e) ?_⟩
      refine ⟨_, rfl, g, _, rfl, .inl (SqL.of hg), rfl, _, rfl, ifn (fun e => by simp at e) ?_⟩
      refine ⟨_, rfl, g, _, rfl, .inl (SqL.of hg), rfl, _, rfl, ifn (fun e => by simp at e) ?_⟩
      refine ⟨_, rfl, g, _, _, _, rfl, rfl, SqL.of hg, atI_nat (j := 0) rfl, _, rfl, g, _, _, _, rfl, rfl, SqL.of hg, atI_nat (j := 1) rfl, _, rfl, g, _, _, _, rfl, rfl, SqL.of hg, atI_nat (j := 2) rfl, _, rfl, g, _, _, _, rfl, rfl, SqL.of hg, atI_nat (j := 3) rfl, _, rfl, g, _, _, _, rfl, rfl, SqL.of hg, atI_nat (j := 4) rfl, _, rfl, g, _, _, _, rfl, rfl, SqL.of hg, atI_nat (j := 5) rfl, _, rfl, g, _, _, _, rfl, rfl, SqL.of hg, atI_nat (j := 6) rfl, _, rfl, g, _, _, _, rfl, rfl, SqL.of hg, atI_nat (j := 7) rfl, le_line (show 8 ≤ 100000 by decide), fun m hm => ?_⟩
      have s1 := (Same.refl H).upd_new (o := .lst [.ref t0, .ref t1, .ref t2, .ref t3, .ref t4, .ref t5, .ref t6, .ref t7]) hm
      have hm1 : (upd H m (.lst [.ref t0, .ref t1, .ref t2, .ref t3, .ref t4, .ref t5, .ref t6, .ref t7])) m = some (.lst [.ref t0, .ref t1, .ref t2, .ref t3, .ref t4, .ref t5, .ref t6, .ref t7]) := upd_same
      have hg1 := s1 _ _ hg
      refine ⟨_, rfl, g, _, rfl, .inl (SqL.of hg1), rfl, _, rfl, ifp (by simp) ?_⟩
      exact ⟨_, rfl, _, rfl, m, _, _, _, rfl, rfl, SqL.of hm1, atI_nat (j := 0) rfl, _, rfl, m, _, _, _, rfl, rfl, SqL.of hm1, atI_nat (j := 1) rfl, _, rfl, m, _, _, _, rfl, rfl, SqL.of hm1, atI_nat (j := 2) rfl, _, rfl, m, _, _, _, rfl, rfl, SqL.of hm1, atI_nat (j := 3) rfl, _, rfl, m, _, _, _, rfl, rfl, SqL.of hm1, atI_nat (j := 4) rfl, _, rfl, m, _, _, _, rfl, rfl, SqL.of hm1, atI_nat (j := 5) rfl, _, rfl, m, _, _, _, rfl, rfl, SqL.of hm1, atI_nat (j := 6) rfl, _, rfl, m, _, _, _, rfl, rfl, SqL.of hm1, atI_nat (j := 7) rfl, b, [t0, t1, t2, t3, t4, t5, t6, t7], r0, qs, rfl, hT.same s1, hB.same s1, R, hR, by omega, Way9.same k s1 fun k H' p s hp x => k H' p (s1.trans s) (s1.free hp) x⟩
    | [t0, t1, t2, t3, t4, t5, t6, t7, t8], _ =>
      refine ⟨_, rfl, g, _, rfl, .inl (SqL.of hg), rfl, _, rfl, ifn (fun e => by simp at e) ?_⟩
      refine ⟨_, rfl, g, _, rfl, .inl (SqL.of hg), rfl, _, rfl, ifn (fun e => by simp at e) ?_⟩
      refine ⟨_, rfl, g, _, rfl, .inl (SqL.of hg), rfl, _, rfl, ifn (fun e => by simp at e) ?_⟩
      refine ⟨_, rfl, g, _, _, _, rfl, rfl, SqL.of hg, atI_nat (j := 0) rfl, _, rfl, g, _, _, _, rfl, rfl, SqL.of hg, atI_nat (j := 1) rfl, _, rfl, g, _, _, _, rfl, rfl, SqL.of hg, atI_nat (j := 2) rfl, _, rfl, g, _, _, _, rfl, rfl, SqL.of hg, atI_nat (j := 3) rfl, _, rfl, g, _, _, _, rfl, rfl, SqL.of hg, atI_nat (j := 4) rfl, _, rfl, g, _, _, _, rfl, rfl, SqL.of hg, atI_nat (j := 5) rfl, _, rfl, g, _, _, _, rfl, rfl, SqL.of hg, atI_nat (j := 6) rfl, _, rfl, g, _, _, _, rfl, rfl, SqL.of hg, atI_nat (j := 7) rfl, le_line (show 8 ≤ 100000 by decide), fun m hm => ?_⟩
      have s1 := (Same.refl H).upd_new (o := .lst [.ref t0, .ref t1, .ref t2, .ref t3, .ref t4, .ref t5, .ref t6, .ref t7]) hm
      have hm1 : (upd H m (.lst [.ref t0, .ref t1, .ref t2, .ref t3, .ref t4, .ref t5, .ref t6, .ref t7])) m = some (.lst [.ref t0, .ref t1, .ref t2, .ref t3, .ref t4, .ref t5, .ref t6, .ref t7]) := upd_same
      have hg1 := s1 _ _ hg
      refine ⟨_, rfl, g, _, rfl, .inl (SqL.of hg1), rfl, _, rfl, ifn (fun e => by simp at e) ?_⟩
      exact ⟨_, rfl, _, rfl, m, _, _, _, rfl, rfl, SqL.of hm1, atI_nat (j := 0) rfl, _, rfl, m, _, _, _, rfl, rfl, SqL.of hm1, atI_nat (j := 1) rfl, _, rfl, m, _, _, _, rfl, rfl, SqL.of hm1, atI_nat (j := 2) rfl, _, rfl, m, _, _, _, rfl, rfl, SqL.of hm1, atI_nat (j := 3) rfl, _, rfl, m, _, _, _, rfl, rfl, SqL.of hm1, atI_nat (j := 4) rfl, _, rfl, m, _, _, _, rfl, rfl, SqL.of hm1, atI_nat (j := 5) rfl, _, rfl, m, _, _, _, rfl, rfl, SqL.of hm1, atI_nat (j := 6) rfl, _, rfl, m, _, _, _, rfl, rfl, SqL.of hm1, atI_nat (j := 7) rfl, _, rfl, g, _, _, _, rfl, rfl, SqL.of hg1, atI_nat (j := 8) rfl, b, [t0, t1, t2, t3, t4, t5, t6, t7, t8], r0, qs, rfl, hT.same s1, hB.same s1, R, hR, by omega, Way9.same k s1 fun k H' p s hp x => k H' p (s1.trans s) (s1.free hp) x⟩
theorem ok_shown9 (T : Bm mg) (B : BedT K C) (BT : TrT K CT) (BS : TsT K CS) (c_len : LenOk9 P w K mg base CS) (D : Def0 K mg "_law_shown" s_law_shown) : DefOk P w K mg base CX0 3 "_law_shown" (spShown9 C CT CS) := by
  obtain ⟨fM, M_len, F_len⟩ := c_len
  refine D.ok sc_law_shown (fun vs H Q E h => ?_) (fun _ _ _ _ _ _ us hl => match us, hl with | [_], _ => rfl) (fun f cdv A' outer s' H vs Q E hr h => ?_)
  · obtain ⟨h, r0, z, qs, rfl, _⟩ := h
    rfl
  · obtain ⟨h, r0, z, qs, rfl, ⟨dx, b, tt, ps, hh, ht, hT, hB⟩, h100, k⟩ := h
    refine ⟨_, (pss_cons (ps_if (pt_not (pt_val (pe_callB call_isi (by rfl) T.b_isinstance (by decide +kernel) (pa_cons (pe_fld (pv 0) rfl) (pa_cons (pe_bltn (v := .ty "tuple") (by rfl) T.b_tuple boot_tuple rfl) pa_nil)))))
        (pss_one (ps_ret (pe_tup (pa_cons pe_str pa_nil))))
        pss_nil)
      (pss_cons (ps_setLc (i := 1) (own := [("trim", 2)]) (g := (gName 2)) (tt := tYes) rfl sc_law_shown.nd rfl rfl (sw_true rfl rfl rfl (by decide +kernel)) (pi_tup (pe_fld (pv 0) rfl)) (blkOk_by (N := N_law_shown) (sc := defScope s_law_shown) (by decide +kernel)) (fun _ _ _ _ _ => (pg_name (i := 2) sc_law_shown.nd rfl (Or.inl rfl))) (fun _ _ _ _ _ => pts_nil) (fun _ _ _ _ _ => (pe_tup (pa_cons (show PE _ _ (tFld K _ _) from pe_fld (show PE _ _ (tFld K _ _) from pe_fld (pv 2) rfl) rfl) (pa_cons (show PE _ _ (tFld K _ _) from pe_fld (pv 2) rfl) (pa_cons (show PE _ _ (tFld K _ _) from pe_fld (pv 2) rfl) pa_nil))))))
      (pss_one (ps_ret (pe_tup (pa_cons pe_str (pa_cons (pe_fld (pe_fld (pv 0) rfl) rfl) (pa_cons (pe_callTy call_tuple_of (by rfl) T.b_tuple (by decide +kernel) (pa_cons (pv 1) pa_nil)) (pa_cons (pe_fld (pv 0) rfl) (pa_cons (pe_lenO (pv 0) BS.cl M_len F_len (hr.mono (by decide)) (by rfl) T.b_len) pa_nil)))))))))), ?_⟩
    have hl := hT.1
    refine ⟨_, rfl, h, CS, dx, _, _, rfl, hh, BS.cl, BS.nT, ts_trims _ _ _, _, _, _, _, true, rfl, .ty _, tyx_tupM (.of ht), rfl, _, rfl, ifn (by decide) ?_⟩
    refine ⟨_, rfl, h, CS, dx, _, _, rfl, hh, BS.cl, BS.nT, ts_trims _ _ _, tt, rfl, ⟨_, SqT.of ht⟩, fun D hD => lc_it (walk_tup (xs := ps.map V.ref)) (fun i H' => Same H H' ∧ ∃ pps, H' D = some (.lst (pps.map V.ref)) ∧ TrpsAt H' pps (qs.take i))
      ⟨(Same.refl H).upd_new hD, [], upd_same, TrpsAt.nil⟩ (fun i H' _ ⟨q, _⟩ => SqT.of (q _ _ ht)) ?_ ?_⟩
    · rintro i v H1 H2 hi ⟨s1, pps, d1, p1⟩ ⟨rfl, hv⟩
      obtain ⟨t, ht2, rfl⟩ := get_map hv
      have hi2 : i < qs.length := by rw [← hl]; exact lt_of_get ht2
      obtain ⟨dx', b', t', u', g1, g2, g3, g4⟩ := (hT.2 i t qs[i] ht2 (List.getElem?_eq_getElem hi2)).same s1
      obtain ⟨dx2, r2, kk, ww, rk, ts, e1, e2, e3, _⟩ := g2
      refine ⟨rfl, _, rfl, t, CT, dx', _, _, rfl, g1, BT.cl, BT.nB, tr_bed _ _ _, b', C, dx2, _, _, rfl, e1, B.cl, B.nR, lk_rows _ _ _ _, ?_⟩
      refine ⟨_, rfl, t, CT, dx', _, _, rfl, g1, BT.cl, BT.nS, tr_stump _ _ _, _, rfl, t, CT, dx', _, _, rfl, g1, BT.cl, BT.nR, tr_result9 _ _ _, le_line (show 3 ≤ 100000 by decide), fun q hq => ?_⟩
      have s2 := (Same.refl H2).upd_new (o := .tup [.ref r2, .ref t', .ref u']) hq
      have pq : TrpAt (upd H2 q (.tup [.ref r2, .ref t', .ref u'])) q qs[i] := ⟨r2, t', u', ts, .of upd_same, .of (s2 _ _ e2), e3.sameR s2, (g3.same s2).q, g4.same s2⟩
      have d2 := s2 _ _ d1
      have p2 := p1.same s2
      generalize upd H2 q (.tup [.ref r2, .ref t', .ref u']) = H3 at s2 pq d2 p2
      refine ⟨_, d2, ?_, (s1.trans s2).upd_own hD, pps ++ [q], ?_, ?_⟩
      · rw [List.length_map, p1.1, List.length_take]
        exact lt_line (by omega)
      · rw [upd_same, List.map_append]
        rfl
      · rw [← take_snoc (List.getElem?_eq_getElem hi2)]
        exact (p2.lst d2).snoc (pq.lst d2)
    · rintro H1 ⟨s1, pps, d1, p1⟩
      rw [List.length_map, hl, List.take_length] at p1
      obtain ⟨dx2, r2, kk, ww, rk, ts, e1, e2, e3, _⟩ := hB.same s1
      refine ⟨_, rfl, h, CS, dx, _, _, rfl, s1 _ _ hh, BS.cl, BS.nB, ts_bed _ _ _, b, C, dx2, _, _, rfl, e1, B.cl, B.nR, lk_rows _ _ _ _, ?_⟩
      refine ⟨_, rfl, D, _, rfl, .inl ⟨SqL.of d1, fun pr hpr => ?_⟩⟩
      have s2 := (Same.refl H1).upd_new (o := .tup (pps.map V.ref)) hpr
      have s02 := s1.trans s2
      have pr2 : (upd H1 pr (.tup (pps.map V.ref))) pr = some (.tup (pps.map V.ref)) := upd_same
      have p2 := p1.same s2
      have e2' := s2 _ _ e2
      have e3' := e3.sameR s2
      generalize upd H1 pr (.tup (pps.map V.ref)) = H2 at s2 s02 pr2 p2 e2' e3'
      refine ⟨_, rfl, h, CS, dx, _, _, rfl, s02 _ _ hh, BS.cl, BS.nN, ts_name _ _ _, ?_⟩
      refine ⟨_, rfl, h, dx, _, rfl, s02 _ _ hh, h, dx, b, tt, z, ps, rfl, s02 _ _ hh, s02 _ _ ht, _, rfl, by omega, le_line (show 5 ≤ 100000 by decide), fun q hq => ?_⟩
      have s3 := (Same.refl H2).upd_new (o := .tup [.str "Good", .ref r2, .ref pr, z, .int (ps.length : Nat)]) hq
      refine k _ q (s02.trans s3) ⟨r2, pr, ts, pps, ?_, .of (s3 _ _ e2'), e3'.sameR s3, .of (s3 _ _ pr2), p2.same s3⟩
      rw [← hl]
      exact .of upd_same
theorem ok_set_asked9 (T : Bm mg) (x9 : X9 P w K mg A) (kt : Kit9 K mg A CY) (c_law_set : DefOk P w K mg base (L2.CX P w) 6 "_law_set" (spSet9 C CT CS A)) (c_law_shown : DefOk P w K mg base CX0 3 "_law_shown" (spShown9 C CT CS)) (c_law_own : OwnOk P w K mg base A) (D : Def0 K mg "_law_set_asked" s_law_set_asked) : DefOk P w K mg base CX0 7 "_law_set_asked" (spSetA9 C CT) := by
  refine D.ok sc_law_set_asked (fun vs H Q E h => ?_) (fun _ _ _ _ _ _ us hl => match us, hl with | [_, _], _ => rfl) (fun f cdv A' outer s' H vs Q E hr h => ?_)
  · obtain ⟨b, g, ps, r0, qs, rfl, _⟩ := h
    rfl
  · obtain ⟨b, g, ps, r0, qs, rfl, hg, hT, hB, R, hR, h5, k⟩ := h
    have n_TooMany : ∀ {X : Cx}, X.mg = mg → Gl X "TooMany" → Names X "TooMany" (.ref A.T) := fun e g => ⟨g, by decide, .inl (by rw [e]; exact x9.xT.gC)⟩
    have n_OtherBed : ∀ {X : Cx}, X.mg = mg → Gl X "OtherBed" → Names X "OtherBed" (.ref A.O) := fun e g => ⟨g, by decide, .inl (by rw [e]; exact x9.gO)⟩
    have X_TooMany := kt.oT
    refine ⟨_, (pss_one (ps_try_as_many rfl rfl sc_law_set_asked.nd (fun W pn xe tk po => (pss_one (ps_ret (pe_d c_law_shown (hr.mono (by decide)) pass0 (pa_cons (pe_dS c_law_set (hr.mono (by decide)) (fun _ => passAt tk _) (pa_cons (pv 0) (pa_cons (pv 1) pa_nil))) pa_nil))))) (HdsAs.cons (i := 2) rfl rfl (n_TooMany rfl rfl) (fun a oe cls d pn hz hf => (pss_one (ps_ret (pe_tup (pa_cons pe_str (pa_cons (pe_xf X_TooMany.xf (X_TooMany.no "what" (by decide +kernel)) hz hf (pv 2)) (pa_cons (pe_xf X_TooMany.xf (X_TooMany.no "limit" (by decide +kernel)) hz hf (pv 2)) (pa_cons (pe_dP (CX := CX0) (k := 1) (sp := spOwn A a cls d) rfl rfl (by exact List.mem_cons_self) (c_law_own a oe cls d hz hf) (room_mark hr (by decide)) pass0 (pa_cons (pv 2) pa_nil)) pa_nil)))))))) (HdsAs.cons (i := 2) rfl rfl (n_OtherBed rfl rfl) (fun a oe cls d pn hz hf => (pss_one (ps_ret (pe_tup (pa_cons pe_str (pa_cons (pe_dP (CX := CX0) (k := 1) (sp := spOwn A a cls d) rfl rfl (by exact List.mem_cons_self) (c_law_own a oe cls d hz hf) (room_mark hr (by decide)) pass0 (pa_cons (pv 2) pa_nil)) pa_nil)))))) .nil)))), ?_⟩
    refine ⟨_, rfl, _, rfl, b, g, ps, r0, qs, rfl, hg, hT, hB, R, hR, h5, ?_⟩
    have fin : ∀ {x : E9} {H1 : Hp} {p : Addr}, sdue r0 qs = some x → Same H H1 → H1 p = none → Q (.ref p) (upd H1 p (.tup (x.told ++ [.bl true]))) := fun {x H1 p} e s1 hp => k _ _ (s1.upd_new hp) (set_some e (.of upd_same))
    have h9 : qs.length ≤ 9 := by unfold five9 at h5; omega
    cases e : sdue r0 qs with
    | none =>
      intro H1 p s1 _ tr
      exact ⟨p, r0, _, qs, rfl, tr, by omega, fun H2 q s2 sh => k _ q (s1.trans s2) (set_none e sh)⟩
    | some x =>
      rcases sdue_or e with rfl | rfl
      · intro H1 s1
        refine ⟨false, kt.em .other .ent, (fun e => nomatch e), fun _ => ⟨true, kt.em .other .other, fun _ a ha => ?_, fun e => nomatch e⟩⟩
        exact ⟨_, rfl, .other, rfl, rfl, rfl, fun H3 s3 => ⟨le_line (show 2 ≤ 100000 by decide), fun q hq => fin e (s1.trans s3) hq⟩⟩
      · intro H1 d s1 hd
        refine ⟨true, kt.em .trm .ent, fun _ a ha => ?_, fun e => nomatch e⟩
        have s2 := s1.upd_new (o := .xd E9.trm.fs) hd
        exact ⟨_, rfl, rfl, rfl, d, _, _, rfl, upd_same, fs_trm.1, _, rfl, rfl, rfl, d, _, _, rfl, upd_same, fs_trm.2, _, rfl, .trm, rfl, rfl, ⟨d, rfl, upd_same⟩, fun H3 s3 => ⟨le_line (show 4 ≤ 100000 by decide), fun q hq => fin e (s2.trans s3) hq⟩⟩
end
end Sh
end
section
set_option Elab.async false
set_option linter.all false
set_option maxRecDepth 100000
set_option maxHeartbeats 2000000
namespace Sh
open PySem PySem.Spec PyProof.Rows L2
open C8 (pss_cut tCut)
open Evl (ixN_nat)
def spOther9 : Sp := fun vs H Q _ => ∃ (a c r : Addr) (rows : List Row), vs = [.ref a, .ref r] ∧ BagM H a c ∧ r ≠ a ∧ RowsAt H r rows ∧ ROk 4 rows ∧ 2 ≤ rows.length ∧
  ∀ (H' : Hp) (r' : Addr) (rows' : List Row), Kp a H H' → BagM H' a c → RowsAt H' r' rows' → ROk 5 rows' → 2 ≤ rows'.length → rows' ≠ rows → (∀ q ∈ rows, q ∈ rows') → Q (.ref r') H'
theorem rev_get {α : Type} {l : List α} {i : Nat} {x : α} (h : l.reverse[i]? = some x) : i < l.length ∧ l[l.length - 1 - i]? = some x := by
  have hi : i < l.length := by
    have := (List.getElem?_eq_some_iff.mp h).1
    rwa [List.length_reverse] at this
  exact ⟨hi, by rw [← List.getElem?_reverse hi]; exact h⟩
theorem TupsAt.rev {H : Hp} {ts : List Addr} {rows : List Row} (x : TupsAt H ts rows) : TupsAt H ts.reverse rows.reverse := by
  refine ⟨by rw [List.length_reverse, List.length_reverse]; exact x.1, fun i t q h1 h2 => ?_⟩
  obtain ⟨a1, a2⟩ := rev_get h1
  obtain ⟨b1, b2⟩ := rev_get h2
  rw [x.1] at a2
  exact x.2 _ t q a2 b2
theorem ROk.rev {rows : List Row} (R : ROk 4 rows) : ROk 5 rows.reverse := by
  have hl : rows.reverse.length = rows.length := List.length_reverse
  refine ⟨by rw [hl]; exact R.pos, by have := R.len; rw [hl]; omega, ?_, fun q hq => R.nm q (List.mem_reverse.mp hq), fun q hq => R.wd q (List.mem_reverse.mp hq), ?_⟩
  · rw [List.map_reverse]
    exact List.pairwise_reverse.mpr (List.Pairwise.imp (fun {a b} h => Ne.symm h) R.nd)
  · obtain ⟨q, q1, q2⟩ := R.leaf
    exact ⟨q, List.mem_reverse.mpr q1, q2⟩
theorem rev_ne {rows : List Row} (R : ROk 4 rows) (h : 2 ≤ rows.length) : rows.reverse ≠ rows := fun e => by
  have e0 : rows.reverse[0]? = rows[0]? := by rw [e]
  rw [List.getElem?_reverse (by omega)] at e0
  have g0 := List.getElem?_eq_getElem (l := rows) (i := 0) (by omega)
  have g1 := List.getElem?_eq_getElem (l := rows) (i := rows.length - 1) (by omega)
  rw [show rows.length - 1 - 0 = rows.length - 1 by omega, g0, g1] at e0
  have e1 : rows[rows.length - 1] = rows[0] := Option.some.inj e0
  have nd := R.nd
  have q := nodup_ix nd (i := rows.length - 1) (j := 0) (x := rows[0].1) (by rw [List.getElem?_map, g1, e1]; rfl) (by rw [List.getElem?_map, g0]; rfl)
  omega
theorem ROk.add {rows : List Row} (R : ROk 4 rows) {y : Str} {d : Int} (hy : y ∉ rows.map (·.1)) (hn : IsNm y) (d0 : 0 ≤ d) (d3 : d ≤ 3) : ROk 5 (rows ++ [(y, d)]) := by
  have hl : (rows ++ [(y, d)]).length = rows.length + 1 := by rw [List.length_append]; rfl
  refine ⟨by rw [hl]; omega, by have := R.len; rw [hl]; omega, ?_, fun q hq => ?_, fun q hq => ?_, ?_⟩
  · rw [List.map_append]
    refine List.nodup_append.mpr ⟨R.nd, List.nodup_cons.mpr ⟨List.not_mem_nil, List.nodup_nil⟩, fun x hx z hz e => ?_⟩
    rw [List.mem_singleton.mp hz] at e
    exact hy (by rw [← show x = y from e]; exact hx)
  · rcases List.mem_append.mp hq with q1 | q1
    · exact R.nm q q1
    · rw [List.mem_singleton.mp q1]
      exact hn
  · rcases List.mem_append.mp hq with q1 | q1
    · exact R.wd q q1
    · rw [List.mem_singleton.mp q1]
      exact ⟨d0, d3⟩
  · obtain ⟨q, q1, q2⟩ := R.leaf
    exact ⟨q, List.mem_append_left _ q1, q2⟩
abbrev s_law_other : Stmt := top 56
abbrev N_law_other : List Str := ["bag", "kinds", "words", "spare", "pair", "one"]
theorem sc_law_other : FnScope N_law_other ["bag", "kinds"] (defScope s_law_other) := ⟨rfl, rfl, rfl, by decide +kernel, rfl, by decide +kernel, by decide +kernel⟩
section
variable {P : Program} {w : World} {K : PySem.W.Frag} {mg : Str → Option Value} {base : Heap} {C : Addr}
theorem ok_other9 (T : Bm mg) (b_reversed : mg "reversed" = none) (c_law_pick : DefOk P w K mg base CX0 1 "_law_pick" spPick) (D : Def0 K mg "_law_other" s_law_other) : DefOk P w K mg base CX0 2 "_law_other" spOther9 := by
  refine D.ok sc_law_other (fun vs H Q E h => ?_) (fun _ _ _ _ _ _ us hl => match us, hl with | [_, _], _ => rfl) (fun f cdv A' outer s' H vs Q E hr h => ?_)
  · obtain ⟨a, c, r, rows, rfl, _⟩ := h
    rfl
  · obtain ⟨a, c, r, rows, rfl, hb, nra, ⟨ts, hR, hT⟩, R, h2, k⟩ := h
    have R8 := R.up
    have R8l := R8.len
    refine ⟨_, (pss_cons (ps_if (pt_cmpR op_eq (pe_d c_law_pick (hr.mono (by decide)) pass0 (pa_cons (pv 0) (pa_cons pe_int pa_nil))) pe_int (nomark _))
        (pss_one (ps_ret (RT.pe_listRev rfl (by rfl) T.b_list (by rfl) b_reversed (pv 1))))
        pss_nil)
      (pss_cons (ps_set (i := 2) sc_law_other.nd rfl (Or.inr rfl) (pe_lc (own := [("pair", 4)]) (g := (gName 4)) (tt := tYes) rfl sc_law_other.nd (pi_list (pv 1)) (blkOk_by (N := N_law_other) (sc := defScope s_law_other) (by decide +kernel)) (fun _ _ _ _ _ => (pg_name (i := 4) sc_law_other.nd rfl (Or.inl rfl))) (fun _ _ _ _ _ => pts_nil) (fun _ _ _ _ _ => (pe_ix (show IxR _ (rIxT K) from ix_tup) (pv 4) pe_int (fun _ _ => rfl)))))
      (pss_cons (ps_set (i := 3) sc_law_other.nd rfl (Or.inl rfl) (pe_ix ix_list (pe_lc (own := [("one", 5)]) (g := (gName 5)) rfl sc_law_other.nd (pi_tup (pe_tup (pa_cons pe_str (pa_cons pe_str (pa_cons pe_str (pa_cons pe_str (pa_cons pe_str pa_nil))))))) (blkOk_by (N := N_law_other) (sc := defScope s_law_other) (by decide +kernel)) (fun _ _ _ _ _ => (pg_name (i := 5) sc_law_other.nd rfl (Or.inl rfl))) (fun _ _ _ _ _ => (pts_one (pt_cmpR (show OpR _ _ (rIn K true) from op_notIn_seq) (pv 5) (pv 2) (by rfl)))) (fun _ _ _ _ _ => (pv 5))) pe_int (fun _ _ => rfl)))
      (pss_one (ps_ret (pe_op op_cat (pv 1) (pe_lst (pa_cons (pe_tup (pa_cons (pv 3) (pa_cons (pe_d c_law_pick (hr.mono (by decide)) pass0 (pa_cons (pv 0) (pa_cons pe_int pa_nil))) pa_nil))) pa_nil)))))))), ?_⟩
    refine ⟨_, rfl, a, c, 2, rfl, hb, by decide, by decide, fun H1 d k1 b1 d0 d1 => ?_⟩
    have hR1 := k1 _ _ hR nra
    have hT1 : TupsAt H1 ts rows := hT.keep (k1.tkM hb)
    refine ⟨rfl, _, rfl, ite2 (fun _ => ?_) (fun _ => ?_)⟩
    · refine ⟨_, rfl, r, _, rfl, SqL.of hR1, fun q hq => ?_⟩
      have s2 := (Same.refl H1).upd_new (o := .lst (ts.map V.ref).reverse) hq
      refine k _ q rows.reverse (k1.trans (Kp.same s2)) (b1.same s2) ⟨ts.reverse, by rw [upd_same, List.map_reverse], hT1.rev.sameR s2⟩ R.rev (by rw [List.length_reverse]; exact h2) (rev_ne R h2) fun q hq => List.mem_reverse.mpr hq
    · refine ⟨_, rfl, r, rfl, ⟨_, SqL.of hR1⟩, fun D hD => ?_⟩
      have nD := b1.ne hD
      refine lc_list (xs := ts.map V.ref) (fun i H' => Same H1 H' ∧ H' D = some (.lst (sV ((rows.take i).map (·.1)))))
        ⟨(Same.refl H1).upd_new hD, upd_same⟩ (fun i H' _ ⟨q, _⟩ => SqL.of (q _ _ hR1)) ?_ ?_
      · rintro i v H2 hv ⟨s2, d2⟩
        obtain ⟨t, ht, rfl⟩ := get_map hv
        have hi : i < rows.length := by rw [← hT.1]; exact lt_of_get ht
        have hq := s2 _ _ (hT1.2 i t rows[i] ht (List.getElem?_eq_getElem hi))
        refine ⟨rfl, _, rfl, t, _, _, _, rfl, rfl, SqT.of hq, atI_nat (j := 0) rfl, _, d2, ?_, s2.upd_own hD, ?_⟩
        · rw [sV, List.length_map, List.length_map, List.length_take]
          exact lt_line (by omega)
        · rw [upd_same, ← take_snoc (List.getElem?_eq_getElem hi), List.map_append, sV, sV, List.map_append]
          rfl
      · rintro H2 ⟨s2, d2⟩
        rw [show (ts.map V.ref).length = rows.length by rw [List.length_map]; exact hT.1, List.take_length] at d2
        generalize hns : rows.map (·.1) = ns at d2
        have b2 := b1.same s2
        have k02 := k1.trans (Kp.same s2)
        refine ⟨le_line (show 5 ≤ 100000 by decide), fun t ht => ?_⟩
        have eg : HO.tup [V.str "q", V.str "w", V.str "e", V.str "r", V.str "t"] = .tup (five.map V.str) := rfl
        rw [eg]
        have s3 : Same H2 (upd H2 t (.tup (five.map V.str))) := (Same.refl H2).upd_new ht
        have ht0 : (upd H2 t (.tup (five.map V.str))) t = some (.tup (five.map V.str)) := upd_same
        have d3 := s3 _ _ d2
        generalize upd H2 t (.tup (five.map V.str)) = H3 at s3 ht0 d3
        have b3 := b2.same s3
        refine ⟨t, rfl, ⟨_, SqT.of ht0⟩, fun D2 hD2 => ?_⟩
        refine lc_it (walk_tup (xs := five.map V.str)) (fun i H' => Same H3 H' ∧ H' D2 = some (.lst (((five.take i).filter fun y => decide (y ∉ ns)).map V.str)))
          ⟨(Same.refl H3).upd_new hD2, upd_same⟩ (fun _ _ _ ⟨q, _⟩ => SqT.of (q _ _ ht0)) ?_ ?_
        · rintro i v H4 H5 hi ⟨q1, q5⟩ ⟨rfl, hv⟩
          obtain ⟨y, hy, rfl⟩ := get_map hv
          refine ⟨rfl, _, rfl, _, rfl, D, _, rfl, .inl (SqL.of (q1 _ _ d3)), rfl, flat_strs ns, _, rfl, ?_⟩
          have ez : (!inV (V.str y) (ns.map V.str)) = decide (y ∉ ns) := by
            rw [inV_str]
            simp
          have et : (five.take (i + 1)).filter (fun y => decide (y ∉ ns)) = (five.take i).filter (fun y => decide (y ∉ ns)) ++ (if decide (y ∉ ns) = true then [y] else []) := by
            rw [← take_snoc hy, List.filter_append, List.filter_cons, List.filter_nil]
          show if (!inV (V.str y) (ns.map V.str)) = true then _ else _
          rw [ez]
          refine ite2 (fun h2 => ?_) (fun h2 => ?_)
          · refine ⟨_, rfl, _, q5, ?_, q1.upd_own hD2, ?_⟩
            · rw [List.length_map]
              refine lt_line (Nat.le_trans (List.length_filter_le _ _) ?_)
              rw [List.length_take]
              show min i 5 ≤ _
              omega
            · rw [upd_same, et, if_pos h2, List.map_append]
              rfl
          · refine ⟨q1, ?_⟩
            rw [et, if_neg h2, List.append_nil]
            exact q5
        · rintro H4 ⟨q1, q5⟩
          rw [show five.take (five.map V.str).length = five from rfl] at q5
          have lns : ns.length ≤ 4 := by rw [← hns, List.length_map]; have := R.len; omega
          cases hf : five.filter (fun y => decide (y ∉ ns)) with
          | nil =>
            have hall : ∀ y ∈ five, y ∈ ns := fun y hy => by
              refine Classical.byContradiction fun c => ?_
              have : y ∈ five.filter (fun y => decide (y ∉ ns)) := List.mem_filter.mpr ⟨hy, decide_eq_true c⟩
              rw [hf] at this
              cases this
            have := sub_len five ns (by decide +kernel) hall
            have e5 : five.length = 5 := rfl
            omega
          | cons y ys =>
            rw [hf] at q5
            have hy : y ∈ five.filter (fun y => decide (y ∉ ns)) := by rw [hf]; exact List.mem_cons_self
            obtain ⟨y1, y2⟩ := List.mem_filter.mp hy
            have b4 := b3.same q1
            have k04 := (k02.trans (Kp.same s3)).trans (Kp.same q1)
            refine ⟨D2, _, _, _, rfl, rfl, SqL.of q5, atI_nat (j := 0) rfl, ?_⟩
            refine ⟨_, rfl, _, rfl, _, rfl, a, c, 4, rfl, b4, by decide, by decide, fun H5 d5 k5 b5 d50 d51 => ?_⟩
            have k05 := k04.trans k5
            have hR5 := k05 _ _ hR nra
            have hT5 : TupsAt H5 ts rows := hT.keep (k05.tkM hb)
            refine ⟨le_line (show 2 ≤ 100000 by decide), fun p hp => ?_⟩
            have s6 := (Same.refl H5).upd_new (o := .tup [.str y, .int d5]) hp
            have hp6 : (upd H5 p (.tup [.str y, .int d5])) p = some (.tup [.str y, .int d5]) := upd_same
            have hR6 := s6 _ _ hR5
            have hT6 := hT5.sameR s6
            generalize upd H5 p (.tup [.str y, .int d5]) = H6 at s6 hp6 hR6 hT6
            refine ⟨le_line (show 1 ≤ 100000 by decide), fun l hl => ?_⟩
            have s7 := (Same.refl H6).upd_new (o := .lst [.ref p]) hl
            have l7 : (upd H6 l (.lst [.ref p])) l = some (.lst [.ref p]) := upd_same
            have hp7 := s7 _ _ hp6
            have hR7 := s7 _ _ hR6
            have hT7 := hT6.sameR s7
            generalize upd H6 l (.lst [.ref p]) = H7 at s7 l7 hp7 hR7 hT7
            refine ⟨_, _, _, _, rfl, rfl, hR7, l7, ?_, fun q hq => ?_⟩
            · rw [List.length_map, hT7.1]
              exact le_line (by show _ + 1 ≤ _; omega)
            have s8 := (Same.refl H7).upd_new (o := .lst (ts.map V.ref ++ [.ref p])) hq
            have s58 := (s6.trans s7).trans s8
            refine k _ q (rows ++ [(y, d5)]) (k05.trans (Kp.same s58)) (b5.same s58) ⟨ts ++ [p], by rw [upd_same, List.map_append]; rfl, ?_⟩ (R.add (by rw [hns]; exact of_decide_eq_true y2) (five_nm y y1) d50 (by omega)) (by rw [List.length_append]; omega) (fun e => by
              have := congrArg List.length e
              rw [List.length_append] at this
              simp at this) fun q hq => List.mem_append_left _ hq
            exact (hT7.sameR s8).snoc (s8 _ _ hp7)
end
end Sh
end
section
set_option Elab.async false
set_option linter.all false
set_option maxRecDepth 100000
set_option maxHeartbeats 2000000
namespace Sh
open PySem PySem.Spec PyProof.Rows L2
open C8 (pss_cut tCut)
open Evl (ixN_nat)
/-! ### a trim that is one -/
def w2 (rows : List Row) : E2 → Nat
  | .k z => wR rows z
  | .i _ => 0
theorem fl2_ok {f : E2 → Option Nat} {w : E2 → Nat} : ∀ {l : List E2} {n i : Nat}, (∀ x ∈ l, f x = some (w x)) → Mth.forest w l n = true → fl2 f l n i = none
  | [], 0, _, _, _ => rfl
  | [], _ + 1, _, _, h => by cases h
  | _ :: _, 0, _, _, h => by cases h
  | x :: r, n + 1, i, hf, h => by
    unfold fl2
    rw [hf x List.mem_cons_self]
    unfold Mth.forest at h
    exact fl2_ok (fun y hy => hf y (List.mem_cons_of_mem _ hy)) (by first | exact h | (rw [Nat.add_comm]; exact h))
theorem wR_sub {rows rows' : List Row} {m m' : Int} (R : ROk m rows) (R' : ROk m' rows') (sub : ∀ q ∈ rows, q ∈ rows') {z : Str} (h : z = "*" ∨ ∃ q ∈ rows, q.1 = z) : wR rows' z = wR rows z := by
  rcases h with rfl | ⟨q, hq, rfl⟩
  · rw [star_no R, star_no R']
  · have a := wR_row R hq
    have b := wR_row R' (sub q hq)
    omega
theorem nmO_in {rows : List Row} {m : Int} (R : ROk m rows) {z : Str} (h : ∃ q ∈ rows, q.1 = z) : ¬ nmO rows z < 0 := by
  rcases nm_case R z with q | q
  · obtain ⟨q0, h1, h2⟩ := h
    exact absurd h2 (q.2.2.2 q0 h1)
  · omega
theorem nmO_star {rows : List Row} {m : Int} (R : ROk m rows) : nmO rows "*" < 0 := by
  rcases nm_case R "*" with q | q
  · omega
  · obtain ⟨q0, m, e⟩ := q.2.2.2
    exact absurd e (nm_nstar (R.nm _ m))
theorem kn_s {rows : List Row} {m : Int} (R : ROk m rows) : ∀ {s : List Str}, (∀ z ∈ s, z = "*" ∨ ∃ q ∈ rows, q.1 = z) → (s.map E2.k).countP (kn9 rows) + s.count ("*" : Str) = s.length
  | [], _ => rfl
  | z :: r, h => by
    have ih := kn_s R (s := r) fun y hy => h y (List.mem_cons_of_mem _ hy)
    by_cases e : z = "*"
    · rw [List.map_cons, List.countP_cons_of_neg (by rw [e]; show ¬ (!decide (nmO rows "*" < 0)) = true; rw [decide_eq_true (nmO_star R)]; decide), e, List.count_cons_self, List.length_cons]
      omega
    · have hz := (h z List.mem_cons_self).resolve_left e
      rw [List.map_cons, List.countP_cons_of_pos (by show (!decide (nmO rows z < 0)) = true; rw [decide_eq_false (nmO_in R hz)]; rfl), List.count_cons_of_ne e, List.length_cons]
      omega
theorem kn_e {rows : List Row} : ∀ e : List Ent, (e.map toE2).countP (kn9 rows) ≤ knE e
  | [] => Nat.le_refl _
  | .n i :: r => by
    have ih := kn_e (rows := rows) r
    rw [List.map_cons, List.countP_cons_of_neg (by show ¬ (false = true); decide)]
    unfold knE at ih ⊢
    rw [List.countP_cons_of_neg (by show ¬ (false = true); decide)]
    exact ih
  | .k z :: r => by
    have ih := kn_e (rows := rows) r
    unfold knE at ih ⊢
    have := List.countP_cons (p := kn9 rows) (a := toE2 (.k z)) (l := r.map toE2)
    rw [List.map_cons, this, List.countP_cons_of_pos (by rfl)]
    split <;> omega
theorem rep_no {e : List Ent} (nd : (nums e).Nodup) {p : Nat} : repAt (e.map toE2) p = false := by
  unfold repAt
  cases h : (e.map toE2)[p]? with
  | none => rfl
  | some x =>
    rw [List.getElem?_map] at h
    cases h2 : e[p]? with
    | none => rw [h2] at h; cases h
    | some y =>
      rw [h2] at h
      have h : some (toE2 y) = some x := h
      cases h
      cases y with
      | k z => rfl
      | n i =>
        refine decide_eq_false fun q => ?_
        rw [← List.map_take] at q
        obtain ⟨y, hy, ey⟩ := List.mem_map.mp q
        cases y with
        | k z => cases ey
        | n j =>
          have ej : ((j : Nat) : Int) = ((i : Nat) : Int) := E2.i.inj ey
          have ej : j = i := by omega
          subst ej
          have hp : p < e.length := lt_of_get h2
          have es : e.take (p + 1) = e.take p ++ [.n j] := (take_snoc h2).symm
          have ee : nums e = nums (e.take p ++ [.n j]) ++ nums (e.drop (p + 1)) := by
            rw [← es]
            unfold nums
            rw [← List.filterMap_append, List.take_append_drop]
          rw [ee, nums_snoc] at nd
          have nd2 := (List.nodup_append.mp nd).1
          have nd3 := (List.nodup_append.mp nd2).2.2
          exact nd3 j (List.mem_filterMap.mpr ⟨.n j, hy, rfl⟩) j (List.mem_cons_self) rfl
theorem due_ok {rows rows' : List Row} (R : ROk 4 rows) (R' : ROk 8 rows') (sub : ∀ q ∈ rows, q ∈ rows') {s : List Str} {e : List Ent} (O : TrimOk rows s e) : tdue rows' s (e.map toE2) = none := by
  have l7 := O.l7
  have e7 := O.re.len
  have l2 := O.l2
  have sk := O.st.k
  have sk' : ∀ z ∈ s, z = "*" ∨ ∃ q ∈ rows', q.1 = z := fun z hz => (sk z hz).imp_right fun ⟨q, h1, h2⟩ => ⟨q, sub q h1, h2⟩
  have f1 : fault2 rows' lfS (s.map .k) = none := by
    refine fl2_ok (w := w2 rows) (fun x hx => ?_) ?_
    · obtain ⟨z, hz, rfl⟩ := List.mem_map.mp hx
      show _ = some (wR rows z)
      by_cases c : z = "*"
      · subst c
        rw [ask_leaf (show lfS (.k "*") = true by decide +kernel), star_no R]
      · have hn : ¬ lfS (.k z) = true := fun q => c (E2.k.inj (of_decide_eq_true q))
        rw [ask_k hn, if_neg (nmO_in R' ((sk' z hz).resolve_left c)), wR_sub R R' sub (sk z hz)]
    · rw [← forest_map]
      exact O.st.f
  have f2 : fault2 rows' (lfN (s.count ("*" : Str))) (e.map toE2) = none := by
    refine fl2_ok (w := w2 rows) (fun x hx => ?_) ?_
    · obtain ⟨y, hy, rfl⟩ := List.mem_map.mp hx
      cases y with
      | k z =>
        have hz := O.re.kn z hy
        have hn : ¬ lfN (s.count ("*" : Str)) (.k z) = true := by show ¬ (false = true); decide
        show ask rows' _ (.k z) = some (wR rows z)
        rw [ask_k hn, if_neg (nmO_in R' (by obtain ⟨q, h1, h2⟩ := hz; exact ⟨q, sub q h1, h2⟩)), wR_sub R R' sub (.inr hz)]
      | n i =>
        have hi := O.re.nn i (List.mem_filterMap.mpr ⟨.n i, hy, rfl⟩)
        show ask rows' _ (.i ((i : Nat) : Int)) = some 0
        exact ask_leaf (decide_eq_true (by omega))
    · rw [← forest_map]
      have ew : (fun x => w2 rows (toE2 x)) = eW rows := by
        funext x
        cases x <;> rfl
      rw [ew]
      exact O.re.f
  have f3 : resF rows' (s.count ("*" : Str)) (e.map toE2) = none := law_none (once := true) f2 fun _ j _ => rep_no O.re.nd
  have c1 := kn_s R' sk'
  have c2 := kn_e (rows := rows') e
  have c3 := O.re.sm
  unfold tdue
  rw [if_neg (by rw [List.length_map]; omega), f1]
  show (if s = [("*" : Str)] then some (E9.trim (-1)) else match resF rows' (s.count ("*" : Str)) (e.map toE2) with
    | some i => some (E9.trim (i : Nat))
    | none => if (s.map E2.k).countP (kn9 rows') ≤ (e.map toE2).countP (kn9 rows') then some (E9.trim (-2)) else none) = none
  rw [if_neg (fun q => by rw [q] at l2; exact absurd l2 (by show ¬ 2 ≤ 1; decide)), f3]
  show (if (s.map E2.k).countP (kn9 rows') ≤ (e.map toE2).countP (kn9 rows') then some (E9.trim (-2)) else none) = none
  rw [if_neg (by omega)]
theorem str_ok {rows : List Row} (R : ROk 4 rows) {s : List Str} {e : List Ent} (O : TrimOk rows s e) : ∀ z ∈ s, PyData.strOk z = true := fun z hz => by
  rcases O.st.k z hz with q | ⟨q, q1, q2⟩
  · rw [q]; exact star_ok
  · rw [← q2]; exact nm_ok (R.nm _ q1)
theorem way_none {A : A9} {E : XK} {H : Hp} {o : Option E9} {p : Prop} (h : o = none) (k : p) : Way9 A E H o p := by
  rw [h]
  exact k
theorem sdue_other {r0 : List Row} {qs : List T9} (h : ∃ q ∈ qs, q.1 ≠ r0) : sdue r0 qs = some .other := by
  obtain ⟨q, hq, hne⟩ := h
  unfold sdue bdue
  rw [if_neg]
  intro e
  exact hne (of_decide_eq_true (List.all_eq_true.mp e q.1 (List.mem_map_of_mem hq))).symm
theorem sdue_same {r0 : List Row} {qs : List T9} (h : ∀ q ∈ qs, q.1 = r0) : sdue r0 qs = if 8 < qs.length then some .trm else none := by
  unfold sdue bdue
  rw [if_pos]
  rw [List.all_eq_true]
  intro r hr
  obtain ⟨q, hq, rfl⟩ := List.mem_map.mp hr
  exact decide_eq_true (h q hq).symm
/-! ### the same -/
theorem Sam9.up : ∀ {n : Nat} {H : Hp} {v u : V}, Sam9 n H v u → Sam9 (n + 1) H v u
  | 0, _, _, _, h => h.elim
  | n + 1, H, v, u, h => by
    rcases h with h | h | h | ⟨a, b, xs, ys, e1, e2, h1, h2, h3, h4, h5⟩
    · exact .inl h
    · exact .inr (.inl h)
    · exact .inr (.inr (.inl h))
    · exact .inr (.inr (.inr ⟨a, b, xs, ys, e1, e2, h1, h2, h3, h4, fun i x y p q => (h5 i x y p q).up⟩))
theorem sam9_int {H : Hp} (n : Nat) (i : Int) : Sam9 (n + 1) H (.int i) (.int i) := .inl ⟨i, rfl, rfl⟩
theorem sam9_str {H : Hp} (n : Nat) (z : Str) : Sam9 (n + 1) H (.str z) (.str z) := .inr (.inl ⟨z, rfl, rfl⟩)
theorem sam9_bl {H : Hp} (n : Nat) (b : Bool) : Sam9 (n + 1) H (.bl b) (.bl b) := .inr (.inr (.inl ⟨b, rfl, rfl⟩))
theorem sam9_tup {H : Hp} {n : Nat} {a b : Addr} {xs ys : List V} (h1 : Tq H a xs) (h2 : Tq H b ys) (hl : xs.length = ys.length) (h5 : xs.length ≤ 100000) (h : ∀ (i : Nat) (x y : V), xs[i]? = some x → ys[i]? = some y → Sam9 n H x y) : Sam9 (n + 1) H (.ref a) (.ref b) := .inr (.inr (.inr ⟨a, b, xs, ys, rfl, rfl, h1, h2, hl, h5, h⟩))
theorem sam9_map {α : Type} {H : Hp} {n : Nat} {a b : Addr} {f : α → V} {l : List α} (h1 : Tq H a (l.map f)) (h2 : Tq H b (l.map f)) (h5 : l.length ≤ 100000) (h : ∀ x ∈ l, Sam9 n H (f x) (f x)) : Sam9 (n + 1) H (.ref a) (.ref b) := by
  refine sam9_tup h1 h2 rfl (by rw [List.length_map]; exact h5) fun i x y p q => ?_
  rw [p] at q
  cases q
  obtain ⟨z, hz, rfl⟩ := get_map p
  exact h z (List.mem_of_getElem? hz)
theorem sam9_rows {H : Hp} {a b : Addr} {ts us : List Addr} {rows : List Row} (h1 : Tq H a (ts.map V.ref)) (h2 : Tq H b (us.map V.ref)) (x : TupsAt H ts rows) (y : TupsAt H us rows) (h5 : rows.length ≤ 100000) : Sam9 3 H (.ref a) (.ref b) := by
  refine sam9_tup h1 h2 (by rw [List.length_map, List.length_map, x.1, y.1]) (by rw [List.length_map, x.1]; exact h5) fun i v u p q => ?_
  obtain ⟨t, ht, rfl⟩ := get_map p
  obtain ⟨t', ht', rfl⟩ := get_map q
  have hi : i < rows.length := by rw [← x.1]; exact lt_of_get ht
  have g1 := x.2 i t rows[i] ht (List.getElem?_eq_getElem hi)
  have g2 := y.2 i t' rows[i] ht' (List.getElem?_eq_getElem hi)
  refine sam9_tup (.of g1) (.of g2) rfl (by show 2 ≤ 100000; decide) fun j v u p q => ?_
  rw [p] at q
  cases q
  match j, p with
  | 0, p => cases p; exact sam9_str _ _
  | 1, p => cases p; exact sam9_int _ _
  | j + 2, p => simp at p
theorem sam9_e2 {H : Hp} (n : Nat) (x : E2) : Sam9 (n + 1) H (e2V x) (e2V x) := by
  cases x with
  | k z => exact sam9_str _ _
  | i j => exact sam9_int _ _
theorem sam9_told {H : Hp} {p q : Addr} {x : E9} (h1 : Tq H p (x.told ++ [.bl true])) (h2 : Tq H q (x.told ++ [.bl true])) : Sam9 2 H (.ref p) (.ref q) := by
  refine sam9_tup h1 h2 rfl (by cases x <;> simp [E9.told]) fun i v u a b => ?_
  rw [a] at b
  cases b
  have hm := List.mem_of_getElem? a
  cases x <;> simp only [E9.told, List.cons_append, List.nil_append, List.mem_cons, List.not_mem_nil, or_false] at hm
  · rcases hm with rfl | rfl | rfl | rfl
    · exact sam9_str _ _
    · exact sam9_str _ _
    · exact sam9_int _ _
    · exact sam9_bl _ _
  · rcases hm with rfl | rfl | rfl | rfl
    · exact sam9_str _ _
    · exact sam9_str _ _
    · exact sam9_int _ _
    · exact sam9_bl _ _
  · rcases hm with rfl | rfl | rfl
    · exact sam9_str _ _
    · exact sam9_int _ _
    · exact sam9_bl _ _
  · rcases hm with rfl | rfl | rfl
    · exact sam9_str _ _
    · exact sam9_int _ _
    · exact sam9_bl _ _
  · rcases hm with rfl | rfl
    · exact sam9_str _ _
    · exact sam9_bl _ _
theorem sam9_good {H : Hp} {p q : Addr} {rows : List Row} {s : List Str} {l : List E2} (x : GoodAt H p rows s l) (y : GoodAt H q rows s l) (hr : rows.length ≤ 100000) (hs : s.length ≤ 100000) (hl : l.length ≤ 100000) : Sam9 4 H (.ref p) (.ref q) := by
  obtain ⟨r, t, u, ts, a1, a2, a3, a4, a5⟩ := x
  obtain ⟨r', t', u', ts', b1, b2, b3, b4, b5⟩ := y
  refine sam9_tup a1 b1 rfl (by show 4 ≤ 100000; decide) fun i v w a b => ?_
  match i, a, b with
  | 0, a, b => cases a; cases b; exact sam9_str _ _
  | 1, a, b => cases a; cases b; exact sam9_rows a2 b2 a3 b3 hr
  | 2, a, b => cases a; cases b; exact (sam9_map a4 b4 hs fun z _ => sam9_str 0 z).up
  | 3, a, b => cases a; cases b; exact (sam9_map a5 b5 hl fun z _ => sam9_e2 0 z).up
  | i + 4, a, b => simp at a
theorem sam9_due {H : Hp} {p q : Addr} {rows : List Row} {s : List Str} {l : List E2} (x : DueAt H p rows s l) (y : DueAt H q rows s l) (hr : rows.length ≤ 100000) (hs : s.length ≤ 100000) (hl : l.length ≤ 100000) : Sam9 6 H (.ref p) (.ref q) := by
  unfold DueAt at x y
  cases e : tdue rows s l with
  | none =>
    rw [e] at x y
    exact (sam9_good x y hr hs hl).up.up
  | some z =>
    rw [e] at x y
    exact (sam9_told x y).up.up.up.up
theorem sam9_trp {H : Hp} {p p' : Addr} {q : T9} (x : TrpAt H p q) (y : TrpAt H p' q) (hr : q.1.length ≤ 100000) (hs : q.2.1.length ≤ 100000) (hl : q.2.2.length ≤ 100000) : Sam9 4 H (.ref p) (.ref p') := by
  obtain ⟨r, t, u, ts, a1, a2, a3, a4, a5⟩ := x
  obtain ⟨r', t', u', ts', b1, b2, b3, b4, b5⟩ := y
  refine sam9_tup a1 b1 rfl (by show 3 ≤ 100000; decide) fun i v w a b => ?_
  match i, a, b with
  | 0, a, b => cases a; cases b; exact sam9_rows a2 b2 a3 b3 hr
  | 1, a, b => cases a; cases b; exact (sam9_map a4 b4 hs fun z _ => sam9_str 0 z).up
  | 2, a, b => cases a; cases b; exact (sam9_map a5 b5 hl fun z _ => sam9_e2 0 z).up
  | i + 3, a, b => simp at a
def Small (q : T9) : Prop := q.1.length ≤ 100000 ∧ q.2.1.length ≤ 100000 ∧ q.2.2.length ≤ 100000
theorem sam9_shown {H : Hp} {p p' : Addr} {r0 : List Row} {z : Str} {qs : List T9} (x : ShownAt H p r0 (.str z) qs) (y : ShownAt H p' r0 (.str z) qs) (hr : r0.length ≤ 100000) (hl : qs.length ≤ 100000) (h : ∀ q ∈ qs, Small q) : Sam9 6 H (.ref p) (.ref p') := by
  obtain ⟨r, pr, ts, pps, a1, a2, a3, a4, a5⟩ := x
  obtain ⟨r', pr', ts', pps', b1, b2, b3, b4, b5⟩ := y
  refine sam9_tup a1 b1 rfl (by show 5 ≤ 100000; decide) fun i v w a b => ?_
  match i, a, b with
  | 0, a, b => cases a; cases b; exact sam9_str _ _
  | 1, a, b => cases a; cases b; exact (sam9_rows a2 b2 a3 b3 hr).up.up
  | 2, a, b =>
    cases a; cases b
    refine sam9_tup a4 b4 (by rw [List.length_map, List.length_map, a5.1, b5.1]) (by rw [List.length_map, a5.1]; exact hl) fun j v u c d => ?_
    obtain ⟨t, ht, rfl⟩ := get_map c
    obtain ⟨t', ht', rfl⟩ := get_map d
    have hj : j < qs.length := by rw [← a5.1]; exact lt_of_get ht
    have sm := h _ (List.getElem_mem hj)
    exact sam9_trp (a5.2 j t qs[j] ht (List.getElem?_eq_getElem hj)) (b5.2 j t' qs[j] ht' (List.getElem?_eq_getElem hj)) sm.1 sm.2.1 sm.2.2
  | 3, a, b => cases a; cases b; exact sam9_str _ _
  | 4, a, b => cases a; cases b; exact sam9_int _ _
  | i + 5, a, b => simp at a
theorem sam9_set {H : Hp} {p q : Addr} {r0 : List Row} {qs : List T9} (x : SetAt H p r0 qs) (y : SetAt H q r0 qs) (hr : r0.length ≤ 100000) (hl : qs.length ≤ 100000) (h : ∀ q ∈ qs, Small q) : Sam9 6 H (.ref p) (.ref q) := by
  unfold SetAt at x y
  cases e : sdue r0 qs with
  | none =>
    rw [e] at x y
    exact sam9_shown x y hr hl h
  | some z =>
    rw [e] at x y
    exact (sam9_told x y).up.up.up.up
/-! ### all but lists stays -/
def NL (H H' : Hp) : Prop := ∀ b o, H b = some o → (∀ ys, o ≠ .lst ys) → H' b = some o
theorem NL.same {H H' : Hp} (s : Same H H') : NL H H' := fun b o h _ => s b o h
theorem NL.kp {a c : Addr} {H H' : Hp} (hb : BagM H a c) (k : Kp a H H') : NL H H' := fun b o h n => by
  obtain ⟨⟨ys, ha⟩, _⟩ := hb.lsts
  exact k _ _ h (ne_of h ha (n ys))
theorem NL.lst {H : Hp} {F : Addr} {ys : List V} {o : HO} (hF : H F = some (.lst ys)) : NL H (upd H F o) := fun b u h n => by
  rw [upd_ne (fun e => by rw [e, hF] at h; exact n ys (Option.some.inj h).symm)]
  exact h
theorem NL.trans {H H1 H2 : Hp} (x : NL H H1) (y : NL H1 H2) : NL H H2 := fun b o h n => y b o (x b o h n) n
theorem Tz.nl {H H' : Hp} {t : Addr} {xs : List V} (z : Tz H t xs) (k : NL H H') : Tz H' t xs := by
  obtain ⟨o, q1, q2⟩ := z
  exact ⟨o, k _ _ q1 (fun _ e => nomatch e), q2⟩
theorem Tq.nl {H H' : Hp} {t : Addr} {xs : List V} (z : Tq H t xs) (k : NL H H') : Tq H' t xs := by
  rcases z with q | ⟨o, q⟩
  · exact .inl (k _ _ q (fun _ e => nomatch e))
  · exact .inr ⟨o, k _ _ q (fun _ e => nomatch e)⟩
theorem TupsAt.nl {H H' : Hp} {ts : List Addr} {rows : List Row} (x : TupsAt H ts rows) (k : NL H H') : TupsAt H' ts rows := ⟨x.1, fun i t q a b => k _ _ (x.2 i t q a b) (fun _ e => nomatch e)⟩
theorem BedAt.nl {C : Addr} {H H' : Hp} {p : Addr} {rows : List Row} (x : BedAt C H p rows) (s : NL H H') : BedAt C H' p rows := by
  obtain ⟨dx, r, k, w, rk, ts, h1, h2, h3, h4, h5, h6⟩ := x
  exact ⟨dx, r, k, w, rk, ts, s _ _ h1 (fun _ e => nomatch e), s _ _ h2 (fun _ e => nomatch e), h3.nl s, s _ _ h4 (fun _ e => nomatch e), s _ _ h5 (fun _ e => nomatch e), s _ _ h6 (fun _ e => nomatch e)⟩
theorem TrmX.nl {C CT : Addr} {H H' : Hp} {p : Addr} {q : T9} (x : TrmX C CT H p q) (s : NL H H') : TrmX C CT H' p q := by
  obtain ⟨dx, b, t, u, h1, h2, h3, h4⟩ := x
  exact ⟨dx, b, t, u, s _ _ h1 (fun _ e => nomatch e), BedAt.nl h2 s, Tz.nl h3 s, Tq.nl h4 s⟩
theorem TrmsX.nl {C CT : Addr} {H H' : Hp} {ps : List Addr} {qs : List T9} (x : TrmsX C CT H ps qs) (s : NL H H') : TrmsX C CT H' ps qs := ⟨x.1, fun i p q h1 h2 => (x.2 i p q h1 h2).nl s⟩
theorem TrmsX.nil {C CT : Addr} {H : Hp} : TrmsX C CT H [] [] := ⟨rfl, fun i p q h => by simp at h⟩
theorem TrmsX.snoc {C CT : Addr} {H : Hp} {ps : List Addr} {qs : List T9} {p : Addr} {q : T9} (x : TrmsX C CT H ps qs) (h : TrmX C CT H p q) : TrmsX C CT H (ps ++ [p]) (qs ++ [q]) := by
  refine ⟨by rw [List.length_append, List.length_append, x.1]; rfl, fun i p' q' a b => ?_⟩
  by_cases hi : i < ps.length
  · rw [List.getElem?_append_left hi] at a
    rw [List.getElem?_append_left (by rw [← x.1]; exact hi)] at b
    exact x.2 i p' q' a b
  · rw [List.getElem?_append_right (by omega)] at a
    rw [List.getElem?_append_right (by rw [← x.1]; omega)] at b
    rw [x.1] at a
    cases hj : i - qs.length with
    | zero =>
      rw [hj] at a b
      cases a
      cases b
      exact h
    | succ j =>
      rw [hj] at a
      simp at a
theorem TrpAt.nl {H H' : Hp} {p : Addr} {q : T9} (x : TrpAt H p q) (s : NL H H') : TrpAt H' p q := by
  obtain ⟨r, t, u, ts, a, b, c, d, e⟩ := x
  exact ⟨r, t, u, ts, Tq.nl a s, Tq.nl b s, TupsAt.nl c s, Tq.nl d s, Tq.nl e s⟩
theorem TrpsAt.nl {H H' : Hp} {ps : List Addr} {qs : List T9} (x : TrpsAt H ps qs) (s : NL H H') : TrpsAt H' ps qs := ⟨x.1, fun i p q h1 h2 => (x.2 i p q h1 h2).nl s⟩
end Sh
end
section
set_option Elab.async false
set_option linter.all false
set_option maxRecDepth 100000
set_option maxHeartbeats 4000000
namespace Sh
open PySem PySem.Spec PyProof.Rows L2
open C8 (pss_cut tCut)
open Evl (ixN_nat)
def spSets9 (C : Addr) : Sp := fun vs H Q _ => ∃ (a c r b : Addr) (rows : List Row), vs = [.ref a, .ref r, .ref b] ∧ BagM H a c ∧ r ≠ a ∧ RowsAt H r rows ∧ ROk 4 rows ∧ 2 ≤ rows.length ∧ BedAt C H b rows ∧ ∀ H', Q (.bl true) H'
theorem seven_of (e : Int) (h0 : 0 ≤ e) (h : e < 7) : ∃ y : Nat, ([V.int 2, V.int 9, V.int 1, V.int 8, V.int 3, V.int 9, V.int 8] : List V)[e.toNat]? = some (.int (y : Nat)) ∧ five9 y := by
  have hh : ∀ j, j < 7 → ∃ y : Nat, ([V.int 2, V.int 9, V.int 1, V.int 8, V.int 3, V.int 9, V.int 8] : List V)[j]? = some (.int (y : Nat)) ∧ five9 y := by
    intro j hj
    match j, hj with
    | 0, _ => exact ⟨2, rfl, by unfold five9; omega⟩
    | 1, _ => exact ⟨9, rfl, by unfold five9; omega⟩
    | 2, _ => exact ⟨1, rfl, by unfold five9; omega⟩
    | 3, _ => exact ⟨8, rfl, by unfold five9; omega⟩
    | 4, _ => exact ⟨3, rfl, by unfold five9; omega⟩
    | 5, _ => exact ⟨9, rfl, by unfold five9; omega⟩
    | 6, _ => exact ⟨8, rfl, by unfold five9; omega⟩
    | n + 7, h => exact absurd h (by omega)
  exact hh e.toNat (by omega)
def toT (rows : List Row) (q : List Str × List Ent) : T9 := (rows, q.1, q.2.map toE2)
theorem small_ok {rows rows' : List Row} (R' : ROk 8 rows') {s : List Str} {e : List Ent} (O : TrimOk rows s e) : Small (rows', s, e.map toE2) := by
  have h1 := R'.len
  have h2 := O.l7
  have h3 := O.re.len
  exact ⟨by show rows'.length ≤ _; omega, by show s.length ≤ _; omega, by show (e.map toE2).length ≤ _; rw [List.length_map]; omega⟩
theorem SetAt.same {H H' : Hp} {p : Addr} {r0 : List Row} {qs : List T9} (x : SetAt H p r0 qs) (s : Same H H') : SetAt H' p r0 qs := by
  unfold SetAt at x ⊢
  cases e : sdue r0 qs with
  | none =>
    rw [e] at x
    exact ShownAt.same x s
  | some z =>
    rw [e] at x
    exact Tq.same x s
abbrev s_law_sets : Stmt := top 57
abbrev N_law_sets : List Str := ["bag", "kinds", "bed", "made", "other", "word", "rows", "many", "strange", "given", "pairs", "k", "pair", "due", "held"]
theorem sc_law_sets : FnScope N_law_sets ["bag", "kinds", "bed"] (defScope s_law_sets) := ⟨rfl, rfl, rfl, by decide +kernel, rfl, by decide +kernel, by decide +kernel⟩
section
variable {P : Program} {w : World} {K : PySem.W.Frag} {mg : Str → Option Value} {base : Heap} {C CT CS : Addr} {A : A9}
theorem ok_sets9 (T : Bm mg) (c_law_pick : DefOk P w K mg base CX0 1 "_law_pick" spPick) (c_law_made : DefOk P w K mg base CX0 3 "_law_made" spMadeM) (c_law_other : DefOk P w K mg base CX0 2 "_law_other" spOther9) (c_law_bed : DefOk P w K mg base CX0 7 "_law_bed" (spBed9 C)) (c_law_word : DefOk P w K mg base CX0 2 "_law_word" spWordM) (c_Trim : Trim9C P w K mg base C CT A 4) (c_Trims : Trims9C P w K mg base C CT CS A 4) (c_TrimsK : Trims9K P w K mg base C CT CS A 4) (c_law_shown : DefOk P w K mg base CX0 3 "_law_shown" (spShown9 C CT CS)) (c_law_same : DefOk P w K mg base CX0 6 "_law_same" (spSam9 6)) (c_law_set_asked : DefOk P w K mg base CX0 7 "_law_set_asked" (spSetA9 C CT)) (D : Def0 K mg "_law_sets" s_law_sets) : DefOk P w K mg base CX0 8 "_law_sets" (spSets9 C) := by
  refine D.ok sc_law_sets (fun vs H Q E h => ?_) (fun _ _ _ _ _ _ us hl => match us, hl with | [_, _, _], _ => rfl) (fun f cdv A' outer s' H vs Q E hr h => ?_)
  · obtain ⟨a, c, r, b, rows, rfl, _⟩ := h
    rfl
  · obtain ⟨a, c, r, b, rows, rfl, hb, nra, hR0, R, h2, hB, k⟩ := h
    have R8 := R.up
    have rk : ∀ {H H' : Hp}, RowsAt H r rows → BagM H a c → Kp a H H' → RowsAt H' r rows := fun {H H'} x b q => by
      obtain ⟨ts, u1, u2⟩ := x
      exact ⟨ts, q _ _ u1 nra, u2.keep (q.tkM b)⟩
    have rl := R8.len
    refine ⟨_, (pss_cons (ps_set (i := 3) sc_law_sets.nd rfl (Or.inl rfl) (pe_d c_law_made (hr.mono (by decide)) pass0 (pa_cons (pv 0) (pa_cons (pv 1) (pa_cons pe_int pa_nil)))))
      (pss_cons (ps_set (i := 4) sc_law_sets.nd rfl (Or.inl rfl) (pe_d c_law_bed (hr.mono (by decide)) pass0 (pa_cons (pe_d c_law_other (hr.mono (by decide)) pass0 (pa_cons (pv 0) (pa_cons (pv 1) pa_nil))) pa_nil)))
      (pss_cons (ps_set (i := 5) sc_law_sets.nd rfl (Or.inl rfl) (pe_d c_law_word (hr.mono (by decide)) pass0 (pa_cons (pv 0) pa_nil)))
      (pss_cons (ps_set (i := 6) sc_law_sets.nd rfl (Or.inl rfl) (pe_callTy call_tuple_of (by rfl) T.b_tuple (by decide +kernel) (pa_cons (pv 1) pa_nil)))
      (pss_cons (ps_if (pt_not (pt_val (pe_d c_law_same (hr.mono (by decide)) pass0 (pa_cons (pe_d c_law_shown (hr.mono (by decide)) pass0 (pa_cons (pe_trims9 c_Trims (hr.mono (by decide)) passAtL (pa_cons (pv 2) pa_nil)) pa_nil)) (pa_cons (pe_tup (pa_cons pe_str (pa_cons (pv 6) (pa_cons (pe_tup pa_nil) (pa_cons pe_str (pa_cons pe_int pa_nil)))))) pa_nil)))))
        (pss_one (ps_ret pe_bl))
        pss_nil)
      (pss_cons (ps_if (pt_cmpR (op_eqD hr.units) (pv 3) (pe_lst pa_nil) (nomark _))
        (pss_one (ps_ret (pe_d c_law_same (hr.mono (by decide)) pass0 (pa_cons (pe_d c_law_shown (hr.mono (by decide)) pass0 (pa_cons (pe_trims9k c_TrimsK (hr.mono (by decide)) passAtL (pa_cons (pv 2) pa_nil) (pk_cons (pv 5) pk_nil)) pa_nil)) (pa_cons (pe_tup (pa_cons pe_str (pa_cons (pv 6) (pa_cons (pe_tup pa_nil) (pa_cons (pv 5) (pa_cons pe_int pa_nil)))))) pa_nil)))))
        pss_nil)
      (pss_cons (ps_set (i := 7) sc_law_sets.nd rfl (Or.inl rfl) (pe_ix ix_tup (pe_tup (pa_cons pe_int (pa_cons pe_int (pa_cons pe_int (pa_cons pe_int (pa_cons pe_int (pa_cons pe_int (pa_cons pe_int pa_nil)))))))) (pe_d c_law_pick (hr.mono (by decide)) pass0 (pa_cons (pv 0) (pa_cons pe_int pa_nil))) (fun _ _ => rfl)))
      (pss_cons (ps_set (i := 8) sc_law_sets.nd rfl (Or.inl rfl) (pe_d c_law_pick (hr.mono (by decide)) pass0 (pa_cons (pv 0) (pa_cons (pe_op op_mul pe_int (pv 7)) pa_nil))))
      (pss_cons (ps_set (i := 9) sc_law_sets.nd rfl (Or.inl rfl) (pe_lst pa_nil))
      (pss_cons (ps_set (i := 10) sc_law_sets.nd rfl (Or.inl rfl) (pe_lst pa_nil))
      (pss_cons (ps_for PassesOwn.never rfl (pi_range1 (by rfl) T.b_range (pa_cons (pv 7) pa_nil)) (pg_name (i := 11) sc_law_sets.nd rfl (Or.inl rfl))
        (pss_cons (ps_set (i := 12) sc_law_sets.nd rfl (Or.inl rfl) (pe_ix ix_list (pv 3) (pe_op op_mod (pe_callTy call_int1 (by rfl) T.b_int (by decide +kernel) (pa_cons (pv 11) pa_nil)) (pe_callB call_len_seq (by rfl) T.b_len boot_len (pa_cons (pv 3) pa_nil))) (fun _ _ => rfl)))
        (pss_cons (ps_expr (pe_bm PySem.F.plainAttrs_list PySem.F.slot_list_append PySem.F.type_list_append mt_append (pv 10) (pa_cons (pe_tup (pa_cons (pv 6) (pa_cons (pe_ix ix_tup (pv 12) pe_int (fun _ _ => rfl)) (pa_cons (pe_ix ix_tup (pv 12) pe_int (fun _ _ => rfl)) pa_nil)))) pa_nil)))
        (pss_one (ps_if (pt_cmpR op_eq (pv 11) (pv 8) (nomark _))
          (pss_one (ps_expr (pe_bm PySem.F.plainAttrs_list PySem.F.slot_list_append PySem.F.type_list_append mt_append (pv 9) (pa_cons (pe_trim9 c_Trim (hr.mono (by decide)) passAtL (pa_cons (pv 4) (pa_cons (pe_ix ix_tup (pv 12) pe_int (fun _ _ => rfl)) (pa_cons (pe_ix ix_tup (pv 12) pe_int (fun _ _ => rfl)) pa_nil)))) pa_nil))))
          (pss_one (ps_if (pt_cmpR op_eq (pe_d c_law_pick (hr.mono (by decide)) pass0 (pa_cons (pv 0) (pa_cons pe_int pa_nil))) pe_int (nomark _))
            (pss_one (ps_expr (pe_bm PySem.F.plainAttrs_list PySem.F.slot_list_append PySem.F.type_list_append mt_append (pv 9) (pa_cons (pe_trim9 c_Trim (hr.mono (by decide)) passAtL (pa_cons (pe_d c_law_bed (hr.mono (by decide)) pass0 (pa_cons (pv 1) pa_nil)) (pa_cons (pe_ix ix_tup (pv 12) pe_int (fun _ _ => rfl)) (pa_cons (pe_ix ix_tup (pv 12) pe_int (fun _ _ => rfl)) pa_nil)))) pa_nil))))
            (pss_one (ps_expr (pe_bm PySem.F.plainAttrs_list PySem.F.slot_list_append PySem.F.type_list_append mt_append (pv 9) (pa_cons (pe_trim9 c_Trim (hr.mono (by decide)) passAtL (pa_cons (pv 2) (pa_cons (pe_ix ix_tup (pv 12) pe_int (fun _ _ => rfl)) (pa_cons (pe_ix ix_tup (pv 12) pe_int (fun _ _ => rfl)) pa_nil)))) pa_nil)))))))))))
      (pss_cons (ps_set (i := 13) sc_law_sets.nd rfl (Or.inl rfl) (pe_tup (pa_cons pe_str (pa_cons (pv 6) (pa_cons (pe_callTy call_tuple_of (by rfl) T.b_tuple (by decide +kernel) (pa_cons (pv 10) pa_nil)) (pa_cons pe_str (pa_cons (pv 7) pa_nil)))))))
      (pss_cut (ps_if (pt_cmpR op_gt (pv 7) pe_int (nomark _))
        (pss_one (ps_set (i := 13) sc_law_sets.nd rfl (Or.inl rfl) (pe_tup (pa_cons pe_str (pa_cons pe_str (pa_cons pe_int (pa_cons pe_bl pa_nil)))))))
        pss_nil)
      (pss_cut (ps_if (pt_cmpR op_lt (pv 8) (pv 7) (nomark _))
        (pss_one (ps_set (i := 13) sc_law_sets.nd rfl (Or.inl rfl) (pe_tup (pa_cons pe_str (pa_cons pe_bl pa_nil)))))
        pss_nil)
      (pss_cons (ps_if (pt_not (pt_val (pe_d c_law_same (hr.mono (by decide)) pass0 (pa_cons (pe_d c_law_set_asked (hr.mono (by decide)) pass0 (pa_cons (pv 2) (pa_cons (pv 9) pa_nil))) (pa_cons (pv 13) pa_nil)))))
        (pss_one (ps_ret pe_bl))
        pss_nil)
      (pss_cons (ps_set (i := 12) sc_law_sets.nd rfl (Or.inl rfl) (pe_ix ix_list (pv 3) (pe_op op_sub (pe_callB call_len_seq (by rfl) T.b_len boot_len (pa_cons (pv 3) pa_nil)) pe_int) (fun _ _ => rfl)))
      (pss_cons (ps_set (i := 14) sc_law_sets.nd rfl (Or.inl rfl) (pe_trims9k c_TrimsK (hr.mono (by decide)) passAtL (pa_cons (pv 2) (pa_cons (pe_trim9 c_Trim (hr.mono (by decide)) passAtL (pa_cons (pv 2) (pa_cons (pe_ix ix_tup (pv 12) pe_int (fun _ _ => rfl)) (pa_cons (pe_ix ix_tup (pv 12) pe_int (fun _ _ => rfl)) pa_nil)))) pa_nil)) (pk_cons (pv 5) pk_nil)))
      (pss_one (ps_ret (pe_d c_law_same (hr.mono (by decide)) pass0 (pa_cons (pe_d c_law_shown (hr.mono (by decide)) pass0 (pa_cons (pv 14) pa_nil)) (pa_cons (pe_tup (pa_cons pe_str (pa_cons (pv 6) (pa_cons (pe_tup (pa_cons (pe_tup (pa_cons (pv 6) (pa_cons (pe_ix ix_tup (pv 12) pe_int (fun _ _ => rfl)) (pa_cons (pe_ix ix_tup (pv 12) pe_int (fun _ _ => rfl)) pa_nil)))) pa_nil)) (pa_cons (pv 5) (pa_cons pe_int pa_nil)))))) pa_nil)))))))))))))))))))))), ?_⟩
    refine ⟨_, rfl, _, rfl, a, c, r, 4, rows, rfl, hb, nra, hR0, R, by decide, fun H1 M ps prs k1 b1 _ nM hM hP l4 => ?_⟩
    have hR1 := rk hR0 hb k1
    have hB1 := hB.nl (NL.kp hb k1)
    refine ⟨_, rfl, _, rfl, a, c, r, rows, rfl, b1, nra, hR1, R, h2, fun H2 r' rows' k2 b2 hR' R' h2' hne sub => ?_⟩
    have R8' := R'.up5
    have hR2 := rk hR1 b1 k2
    have hB2 := hB1.nl (NL.kp b1 k2)
    have hM2 := k2 _ _ hM nM
    have hP2 := hP.kp k2 b1
    refine ⟨r', rows', rfl, hR', R', h2', fun H3 o s3 _ hO => ?_⟩
    have b3 := b2.same s3
    refine ⟨_, rfl, a, c, rfl, b3, fun H4 z k4 b4 hz => ?_⟩
    have hR4 := rk (hR2.same s3) b3 k4
    have hB4 := (hB2.same s3).nl (NL.kp b3 k4)
    have hO4 := hO.nl (NL.kp b3 k4)
    have hM4 := k4 _ _ (s3 _ _ hM2) nM
    have hP4 := (hP2.same s3).kp k4 b3
    obtain ⟨ts, hR4, hT4⟩ := hR4
    refine ⟨_, rfl, r, _, rfl, .inl ⟨SqL.of hR4, fun g hg => ?_⟩⟩
    have s5 : Same H4 (upd H4 g (.tup (ts.map V.ref))) := (Same.refl H4).upd_new hg
    have g5 : (upd H4 g (.tup (ts.map V.ref))) g = some (.tup (ts.map V.ref)) := upd_same
    have b5 := b4.same s5
    have hR5 := s5 _ _ hR4
    have hT5 := hT4.sameR s5
    have hB5 := hB4.same s5
    have hO5 := hO4.same s5
    have hM5 := s5 _ _ hM4
    have hP5 := hP4.same s5
    generalize upd H4 g (.tup (ts.map V.ref)) = H5 at s5 g5 b5 hR5 hT5 hB5 hO5 hM5 hP5
    have lpp := hP.1
    clear k1 hM hP hM2 hP2 hM4 hP4 hR1 hR2 hB1 hB2 hB4 hO4
    have empt : ∀ {H6 : Hp} {e d : Addr} {x : V}, Same H5 H6 → H6 e = some (.tup []) → H6 d = some (.tup [.str "Good", .ref g, .ref e, x, .int 0]) → ShownAt H6 d rows x [] := fun {H6 e d x} s6 he hd => ⟨g, e, ts, [], .of hd, .of (s6 _ _ g5), hT5.sameR s6, .of he, TrpsAt.nil⟩
    refine ⟨_, rfl, b, [], rows, [], rfl, TrmsX.nil, hB5, R8, (fun q h => nomatch h), by decide, way_none rfl fun H6 h6 s6 _ held6 => ?_⟩
    refine ⟨h6, rows, .str "trims", [], rfl, held6, by decide, fun H7 q7 s7 sh7 => ?_⟩
    have s57 := s6.trans s7
    refine ⟨_, rfl, le_line (show 0 ≤ 100000 by decide), fun e8 he8 => ?_⟩
    have s8 := (Same.refl H7).upd_new (o := .tup []) he8
    refine ⟨le_line (show 5 ≤ 100000 by decide), fun d9 hd9 => ?_⟩
    have s9 := (Same.refl (upd H7 e8 (.tup []))).upd_new (o := .tup [.str "Good", .ref g, .ref e8, .str "trims", .int 0]) hd9
    have s79 := s8.trans s9
    have s59 := s57.trans s79
    refine ⟨_, _, rfl, sam9_shown (sh7.same s79) (empt s59 (s9 _ _ upd_same) upd_same) (by omega) (by decide) (fun q h => nomatch h), fun H10 s10 => ?_⟩
    refine ⟨_, rfl, ifn (by decide) ?_⟩
    have s510 := s59.trans s10
    clear sh7 held6
    refine ⟨_, rfl, le_line (show 0 ≤ 100000 by decide), fun l11 hl11 => ?_⟩
    have s11 := s510.upd_new (o := .lst []) hl11
    have e11 : (upd H10 l11 (.lst [])) l11 = some (.lst []) := upd_same
    generalize upd H10 l11 (.lst []) = H11 at s11 e11
    have b11 := b5.same s11
    have hM11 := s11 _ _ hM5
    have hP11 := hP5.same s11
    refine ⟨_, _, dp_prs hM11 hP11, dp_nil e11, shp_prs R hP11.ok, shp_nil, _, rfl, ?_⟩
    refine ite2 (fun h0 => ?_) (fun h0 => ?_)
    · refine ⟨_, rfl, _, rfl, .str z, rfl, b, [], rows, [], rfl, TrmsX.nil, hB5.same s11, R8, (fun q h => nomatch h), by decide, way_none rfl fun H12 h12 s12 _ held12 => ?_⟩
      refine ⟨h12, rows, .str z, [], rfl, held12, by decide, fun H13 q13 s13 sh13 => ?_⟩
      refine ⟨_, rfl, le_line (show 0 ≤ 100000 by decide), fun e14 he14 => ?_⟩
      have s14 := (Same.refl H13).upd_new (o := .tup []) he14
      refine ⟨_, rfl, le_line (show 5 ≤ 100000 by decide), fun d15 hd15 => ?_⟩
      have s15 := (Same.refl (upd H13 e14 (.tup []))).upd_new (o := .tup [.str "Good", .ref g, .ref e14, .str z, .int 0]) hd15
      have s1315 := s14.trans s15
      exact ⟨_, _, rfl, sam9_shown (sh13.same s1315) (empt (((s11.trans s12).trans s13).trans s1315) (s15 _ _ upd_same) upd_same) (by omega) (by decide) (fun q h => nomatch h), fun H16 s16 => k _⟩
    have hpos : 0 < prs.length := by
      rw [eqvE] at h0
      cases prs with
      | nil => exact absurd rfl h0
      | cons _ _ => exact Nat.succ_pos _
    clear h0 empt
    refine ⟨le_line (show 7 ≤ 100000 by decide), fun t12 ht12 => ?_⟩
    have s1112 := (Same.refl H11).upd_new (o := .tup [V.int 2, V.int 9, V.int 1, V.int 8, V.int 3, V.int 9, V.int 8]) ht12
    have t12' : (upd H11 t12 (.tup [V.int 2, V.int 9, V.int 1, V.int 8, V.int 3, V.int 9, V.int 8])) t12 = some (.tup [V.int 2, V.int 9, V.int 1, V.int 8, V.int 3, V.int 9, V.int 8]) := upd_same
    have s12 := s11.trans s1112
    generalize upd H11 t12 (.tup [V.int 2, V.int 9, V.int 1, V.int 8, V.int 3, V.int 9, V.int 8]) = H12 at s1112 t12' s12
    have b12 := b5.same s12
    refine ⟨_, rfl, a, c, 7, rfl, b12, by decide, by decide, fun H13 e k13 b13 e0 e7 => ?_⟩
    obtain ⟨many, hy, m5⟩ := seven_of e e0 e7
    have m9 : many ≤ 9 ∧ 1 ≤ many := by unfold five9 at m5; omega
    refine ⟨t12, _, _, _, rfl, rfl, SqT.of (NL.kp b12 k13 _ _ t12' (fun _ e => nomatch e)), at_ofG (j := e.toNat) (by omega) hy, ?_⟩
    have hR12 : RowsAt H12 r rows := ⟨ts, s12 _ _ hR5, hT5.sameR s12⟩
    have hR13 := rk hR12 b12 k13
    have n13 := (NL.same s12).trans (NL.kp b12 k13)
    have hM13 := k13 _ _ (s12 _ _ hM5) nM
    have hP13 := (hP5.same s12).kp k13 b12
    have CM : CMul 2 ((many : Nat) : Int) := by unfold CMul; omega
    refine ⟨_, rfl, _, rfl, _, _, rfl, rfl, CM, a, c, (2 : Int) * ((many : Nat) : Int), rfl, b13, by omega, by omega, fun H14 st k14 b14 st0 st1 => ?_⟩
    have hR14 := rk hR13 b13 k14
    have n14 := n13.trans (NL.kp b13 k14)
    have hM14 := k14 _ _ hM13 nM
    have hP14 := hP13.kp k14 b13
    have g14 := n14 _ _ g5 (fun _ e => nomatch e)
    have hT14 := hT5.nl n14
    have hB14 := hB5.nl n14
    have hO14 := hO5.nl n14
    clear hR0 hR12 hR13 hM13 hP13 hM11 hP11 hM5 hP5 hR5 n13 n14 k14 k13 t12' s1112
    refine ⟨le_line (show 0 ≤ 100000 by decide), fun G hG => ?_⟩
    have nG := b14.ne hG
    have s15 := (Same.refl H14).upd_new (o := .lst []) hG
    have G15 : (upd H14 G (.lst [])) G = some (.lst []) := upd_same
    generalize upd H14 G (.lst []) = H15 at s15 G15
    refine ⟨le_line (show 0 ≤ 100000 by decide), fun L hL => ?_⟩
    have nL := (b14.same s15).ne hL
    have nGL : G ≠ L := ne_of_none G15 hL
    have hL14 : H14 L = none := s15.free hL
    have s16 := s15.upd_new (o := .lst []) hL
    have L16 : (upd H15 L (.lst [])) L = some (.lst []) := upd_same
    have G16 : (upd H15 L (.lst [])) G = some (.lst []) := by rw [upd_ne nGL]; exact G15
    generalize upd H15 L (.lst []) = H16 at s16 L16 G16
    refine ⟨_, rfl, _, rfl, by omega, by omega, for_range (n := (((many : Nat) : Int)).toNat) (fun i σ H' => ∃ (x11 x12 : Option V) (gs pps : List Addr) (qs qd : List T9), σ = [some (.ref a), some (.ref r), some (.ref b), some (.ref M), some (.ref o), some (.str z), some (.ref g), some (.int (many : Nat)), some (.int st), some (.ref G), some (.ref L), x11, x12, none, none] ∧
        Kp a H14 H' ∧ BagM H' a c ∧ H' G = some (.lst (gs.map V.ref)) ∧ H' L = some (.lst (pps.map V.ref)) ∧ TrmsX C CT H' gs qs ∧ TrpsAt H' pps qd ∧ qs.length = i ∧ qd.length = i ∧ (∀ q ∈ qs, ROk 8 q.1 ∧ Small q) ∧ (∀ q ∈ qd, q.1 = rows) ∧ (st < (i : Nat) → ∃ q ∈ qs, q.1 ≠ rows) ∧ (¬ st < (i : Nat) → qs = qd))
      ⟨none, none, [], [], [], [], rfl, Kp.same s16, b14.same s16, G16, L16, TrmsX.nil, TrpsAt.nil, rfl, rfl, (fun q h => nomatch h), (fun q h => nomatch h), (fun h => absurd h (by show ¬ st < 0; omega)), fun _ => rfl⟩ ?_ ?_⟩
    · rintro i σ H17 hi ⟨x11, x12, gs, pps, qs, qd, rfl, k17, b17, G17, L17, X17, Y17, lq, ld, rq, rd, hs1, hs2⟩
      have hi9 : i < 9 := by rw [Int.toNat_natCast] at hi; omega
      have n17 := NL.kp b14 k17
      have hM17 := k17 _ _ hM14 nM
      have hP17 := hP14.kp k17 b14
      have lps : (ps.map V.ref).length = prs.length := by rw [List.length_map]; exact lpp
      have hj : i % prs.length < prs.length := Nat.mod_lt _ hpos
      have hjp : i % prs.length < ps.length := by rw [lpp]; exact hj
      have lgs : gs.length = i := by rw [X17.1]; exact lq
      have lps2 : pps.length = i := by rw [Y17.1]; exact ld
      obtain ⟨t, u, z1, z2, z3, O⟩ := hP17.2 _ _ _ (List.getElem?_eq_getElem hjp) (List.getElem?_eq_getElem hj)
      have hat : (ps.map V.ref)[i % prs.length]? = some (V.ref ps[i % prs.length]) := by rw [List.getElem?_map, List.getElem?_eq_getElem hjp]; rfl
      generalize ps[i % prs.length] = p at z1 hat
      obtain ⟨sq, eq', eqq⟩ : ∃ sq eq', prs[i % prs.length] = (sq, eq') := ⟨_, _, rfl⟩
      rw [eqq] at z2 z3 O
      have z2 : Tz H17 t (sV sq) := z2
      have z3 : Tz H17 u (eq'.map eV) := z3
      have O : TrimOk rows sq eq' := O
      have sok := str_ok R O
      have O7 := O.l7
      have O7' := O.re.len
      refine ⟨_, rfl, _, rfl, .inl ⟨_, rfl, _, rfl, M, _, rfl, .inl (SqL.of hM17), _, _, rfl, rfl, by rw [lps]; omega, M, _, _, _, rfl, rfl, SqL.of hM17, at_ofG (j := i % prs.length) (by rw [lps, Int.zero_add]; omega) hat, ?_⟩⟩
      refine ⟨_, rfl, .inl ⟨rfl, _, SqL.of L17⟩, _, rfl, _, rfl, p, _, _, _, rfl, rfl, z1.q.sq, atI_nat (j := 0) rfl, _, rfl, p, _, _, _, rfl, rfl, z1.q.sq, atI_nat (j := 1) rfl, le_line (show 3 ≤ 100000 by decide), fun q18 hq18 => ?_⟩
      have s18 := (Same.refl H17).upd_new (o := .tup [.ref g, .ref t, .ref u]) hq18
      have q18' : (upd H17 q18 (.tup [.ref g, .ref t, .ref u])) q18 = some (.tup [.ref g, .ref t, .ref u]) := upd_same
      generalize upd H17 q18 (.tup [.ref g, .ref t, .ref u]) = H18 at s18 q18'
      have L18 := s18 _ _ L17
      refine ⟨L, _, _, rfl, rfl, L18, lt_line (by rw [List.length_map]; omega), ?_⟩
      have n19 : NL H17 (upd H18 L (.lst (pps.map V.ref ++ [V.ref q18]))) := (NL.same s18).trans (NL.lst L18)
      have n1819 : NL H18 (upd H18 L (.lst (pps.map V.ref ++ [V.ref q18]))) := NL.lst L18
      have k19 : Kp a H14 (upd H18 L (.lst (pps.map V.ref ++ [V.ref q18]))) := (k17.trans (Kp.same s18)).upd_own hL14
      have b19 : BagM (upd H18 L (.lst (pps.map V.ref ++ [V.ref q18]))) a c := (b17.same s18).upd_ne nL
      have G19 : (upd H18 L (.lst (pps.map V.ref ++ [V.ref q18]))) G = some (.lst (gs.map V.ref)) := by rw [upd_ne nGL]; exact s18 _ _ G17
      have L19 : (upd H18 L (.lst (pps.map V.ref ++ [V.ref q18]))) L = some (.lst ((pps ++ [q18]).map V.ref)) := by rw [upd_same, List.map_append]; rfl
      have q19 := n1819 _ _ q18' (fun _ e => nomatch e)
      have X19 := X17.nl n19
      have n0 := n17.trans n19
      have hT19 := hT14.nl n0
      have g19 := n0 _ _ g14 (fun _ e => nomatch e)
      have hB19 := hB14.nl n0
      have hO19 := hO14.nl n0
      have w1 := Tz.nl z1 n19
      have w2 := Tz.nl z2 n19
      have w3 := Tz.nl z3 n19
      have Y19 := (Y17.nl n19).snoc (q := (rows, sq, eq'.map toE2)) (p := q18) ⟨g, t, u, ts, .of q19, .of g19, hT19, w2.q, by show Tq _ u ((eq'.map toE2).map e2V); rw [map_to2]; exact w3.q⟩
      generalize upd H18 L (.lst (pps.map V.ref ++ [V.ref q18])) = H19 at k19 b19 G19 L19 X19 hB19 hO19 w1 w2 w3 Y19
      clear n19 n1819 n0 hT19 g19 q19 z1 z2 z3 n17 hM17 hP17 X17 Y17 G17 L17 L18 s18 q18'
      have w3' : Tz H19 u ((eq'.map toE2).map e2V) := by rw [map_to2]; exact w3
      have le2 : (eq'.map toE2).length = eq'.length := List.length_map ..
      have fin : ∀ (H20 : Hp) (p20 : Addr) (rx : List Row), Kp a H14 H20 → BagM H20 a c → H20 G = some (.lst (gs.map V.ref)) → H20 L = some (.lst ((pps ++ [q18]).map V.ref)) → TrmsX C CT H20 gs qs → TrpsAt H20 (pps ++ [q18]) (qd ++ [(rows, sq, eq'.map toE2)]) → TrmX C CT H20 p20 (rx, sq, eq'.map toE2) → ROk 8 rx → (((i : Nat) : Int) = st → rx ≠ rows) → (((i : Nat) : Int) ≠ st → rx = rows) →
          Kp a H14 (upd H20 G (.lst (gs.map V.ref ++ [V.ref p20]))) ∧ BagM (upd H20 G (.lst (gs.map V.ref ++ [V.ref p20]))) a c ∧ (upd H20 G (.lst (gs.map V.ref ++ [V.ref p20]))) G = some (.lst ((gs ++ [p20]).map V.ref)) ∧ (upd H20 G (.lst (gs.map V.ref ++ [V.ref p20]))) L = some (.lst ((pps ++ [q18]).map V.ref)) ∧ TrmsX C CT (upd H20 G (.lst (gs.map V.ref ++ [V.ref p20]))) (gs ++ [p20]) (qs ++ [(rx, sq, eq'.map toE2)]) ∧
          TrpsAt (upd H20 G (.lst (gs.map V.ref ++ [V.ref p20]))) (pps ++ [q18]) (qd ++ [(rows, sq, eq'.map toE2)]) ∧ (qs ++ [(rx, sq, eq'.map toE2)]).length = i + 1 ∧ (qd ++ [(rows, sq, eq'.map toE2)]).length = i + 1 ∧ (∀ q ∈ qs ++ [(rx, sq, eq'.map toE2)], ROk 8 q.1 ∧ Small q) ∧ (∀ q ∈ qd ++ [(rows, sq, eq'.map toE2)], q.1 = rows) ∧ (st < ((i + 1 : Nat) : Int) → ∃ q ∈ qs ++ [(rx, sq, eq'.map toE2)], q.1 ≠ rows) ∧ (¬ st < ((i + 1 : Nat) : Int) → qs ++ [(rx, sq, eq'.map toE2)] = qd ++ [(rows, sq, eq'.map toE2)]) := fun H20 p20 rx k20 b20 G20 L20 X20 Y20 T20 rok c1 c2 => by
        have n20 : NL H20 (upd H20 G (.lst (gs.map V.ref ++ [V.ref p20]))) := NL.lst G20
        refine ⟨k20.upd_own hG, b20.upd_ne nG, by rw [upd_same, List.map_append]; rfl, by rw [upd_ne (Ne.symm nGL)]; exact L20, (X20.nl n20).snoc (T20.nl n20), Y20.nl n20, by rw [List.length_append, lq]; rfl, by rw [List.length_append, ld]; rfl, fun q hq => ?_, fun q hq => ?_, fun h => ?_, fun h => ?_⟩
        · rcases List.mem_append.mp hq with q1 | q1
          · exact rq q q1
          · rw [List.mem_singleton.mp q1]
            exact ⟨rok, small_ok rok O⟩
        · rcases List.mem_append.mp hq with q1 | q1
          · exact rd q q1
          · rw [List.mem_singleton.mp q1]
        · by_cases e : ((i : Nat) : Int) = st
          · exact ⟨_, List.mem_append_right _ List.mem_cons_self, c1 e⟩
          · obtain ⟨q, q1, q2⟩ := hs1 (by omega)
            exact ⟨q, List.mem_append_left _ q1, q2⟩
        · rw [hs2 (by omega), c2 (by omega)]
      refine ⟨_, rfl, _, rfl, rfl, _, rfl, ite2 (fun c0 => ?_) (fun c0 => ?_)⟩
      · have e : ((i : Nat) : Int) = st := by
          have := V.int.inj (of_decide_eq_true c0)
          omega
        refine ⟨_, rfl, .inl ⟨rfl, _, SqL.of G19⟩, _, rfl, _, rfl, p, _, _, _, rfl, rfl, w1.q.sq, atI_nat (j := 0) rfl, _, rfl, p, _, _, _, rfl, rfl, w1.q.sq, atI_nat (j := 1) rfl, o, t, u, rows', sq, eq'.map toE2, rfl, hO19, R8', w2, w3'.q, by omega, by omega, sok, way_none (due_ok R R8' sub O) fun H20 p20 s20 hp20 T20 => ?_⟩
        refine ⟨G, _, _, rfl, rfl, s20 _ _ G19, lt_line (by rw [List.length_map]; omega), ?_⟩
        exact ⟨_, _, gs ++ [p20], pps ++ [q18], _, _, rfl, fin H20 p20 rows' (k19.trans (Kp.same s20)) (b19.same s20) (s20 _ _ G19) (s20 _ _ L19) (X19.same s20) (Y19.same s20) T20 R8' (fun _ => hne) (fun h => absurd e h)⟩
      · have e : ((i : Nat) : Int) ≠ st := fun e => c0 (decide_eq_true (by rw [← e, Int.zero_add]))
        refine ⟨_, rfl, a, c, 2, rfl, b19, by decide, by decide, fun H20 d k20 b20 d0 d1 => ?_⟩
        have n20 := NL.kp b19 k20
        have k020 := k19.trans k20
        have G20 := k20 _ _ G19 nG.1
        have L20 := k20 _ _ L19 nL.1
        have X20 := X19.nl n20
        have Y20 := Y19.nl n20
        have hB20 := hB19.nl n20
        have v1 := Tz.nl w1 n20
        have v2 := Tz.nl w2 n20
        have v3 := Tz.nl w3' n20
        have hR20 := rk hR14 b14 k020
        refine ⟨rfl, _, rfl, ite2 (fun _ => ?_) (fun _ => ?_)⟩
        · refine ⟨_, rfl, .inl ⟨rfl, _, SqL.of G20⟩, _, rfl, r, rows, rfl, hR20, R.up45, h2, fun H21 b21 s21 _ hB21 => ?_⟩
          have v1' := v1.same s21
          refine ⟨_, rfl, p, _, _, _, rfl, rfl, v1'.q.sq, atI_nat (j := 0) rfl, _, rfl, p, _, _, _, rfl, rfl, v1'.q.sq, atI_nat (j := 1) rfl, b21, t, u, rows, sq, eq'.map toE2, rfl, hB21, R8, v2.same s21, (v3.same s21).q, by omega, by omega, sok, way_none (due_ok R R8 (fun _ h => h) O) fun H22 p22 s22 hp22 T22 => ?_⟩
          have s2022 := s21.trans s22
          refine ⟨G, _, _, rfl, rfl, s2022 _ _ G20, lt_line (by rw [List.length_map]; omega), ?_⟩
          exact ⟨_, _, gs ++ [p22], pps ++ [q18], _, _, rfl, fin H22 p22 rows (k020.trans (Kp.same s2022)) (b20.same s2022) (s2022 _ _ G20) (s2022 _ _ L20) (X20.same s2022) (Y20.same s2022) T22 R8 (fun h => absurd h e) (fun _ => rfl)⟩
        · refine ⟨_, rfl, .inl ⟨rfl, _, SqL.of G20⟩, _, rfl, _, rfl, p, _, _, _, rfl, rfl, v1.q.sq, atI_nat (j := 0) rfl, _, rfl, p, _, _, _, rfl, rfl, v1.q.sq, atI_nat (j := 1) rfl, b, t, u, rows, sq, eq'.map toE2, rfl, hB20, R8, v2, v3.q, by omega, by omega, sok, way_none (due_ok R R8 (fun _ h => h) O) fun H22 p22 s22 hp22 T22 => ?_⟩
          refine ⟨G, _, _, rfl, rfl, s22 _ _ G20, lt_line (by rw [List.length_map]; omega), ?_⟩
          exact ⟨_, _, gs ++ [p22], pps ++ [q18], _, _, rfl, fin H22 p22 rows (k020.trans (Kp.same s22)) (b20.same s22) (s22 _ _ G20) (s22 _ _ L20) (X20.same s22) (Y20.same s22) T22 R8 (fun h => absurd h e) (fun _ => rfl)⟩
    · rintro σ H17 ⟨x11, x12, gs, pps, qs, qd, rfl, k17, b17, G17, L17, X17, Y17, lq, ld, rq, rd, hs1, hs2⟩
      rw [Int.toNat_natCast] at lq ld hs1 hs2
      have n17 := NL.kp b14 k17
      have hM17 := k17 _ _ hM14 nM
      have hP17 := hP14.kp k17 b14
      have hT17 := hT14.nl n17
      have g17 := n17 _ _ g14 (fun _ e => nomatch e)
      have hB17 := hB14.nl n17
      have smd : ∀ q ∈ qs, Small q := fun q h => (rq q h).2
      refine ⟨_, rfl, _, rfl, L, _, rfl, .inl ⟨SqL.of L17, fun pr hpr => ?_⟩⟩
      have s18 := (Same.refl H17).upd_new (o := .tup (pps.map V.ref)) hpr
      have pr18 : (upd H17 pr (.tup (pps.map V.ref))) pr = some (.tup (pps.map V.ref)) := upd_same
      generalize upd H17 pr (.tup (pps.map V.ref)) = H18 at s18 pr18
      refine ⟨_, rfl, le_line (show 5 ≤ 100000 by decide), fun d19 hd19 => ?_⟩
      have s1819 := (Same.refl H18).upd_new (o := .tup [.str "Good", .ref g, .ref pr, .str "trims", .int (many : Nat)]) hd19
      have d19' : (upd H18 d19 (.tup [.str "Good", .ref g, .ref pr, .str "trims", .int (many : Nat)])) d19 = some (.tup [.str "Good", .ref g, .ref pr, .str "trims", .int (many : Nat)]) := upd_same
      have s19 := s18.trans s1819
      have sh19 : ShownAt (upd H18 d19 (.tup [.str "Good", .ref g, .ref pr, .str "trims", .int (many : Nat)])) d19 rows (.str "trims") qd := ⟨g, pr, ts, pps, by rw [ld]; exact .of d19', .of (s19 _ _ g17), hT17.sameR s19, .of (s1819 _ _ pr18), Y17.same s19⟩
      generalize upd H18 d19 (.tup [.str "Good", .ref g, .ref pr, .str "trims", .int (many : Nat)]) = H19 at s1819 s19 sh19
      refine ⟨fun σ H' => ∃ d, σ = [some (.ref a), some (.ref r), some (.ref b), some (.ref M), some (.ref o), some (.str z), some (.ref g), some (.int (many : Nat)), some (.int st), some (.ref G), some (.ref L), x11, x12, some (.ref d), none] ∧ Same H17 H' ∧ (8 < many → Tq H' d (E9.trm.told ++ [.bl true])) ∧ (¬ 8 < many → ShownAt H' d rows (.str "trims") qd), ?_, ?_⟩
      · refine ⟨_, rfl, _, _, rfl, rfl, _, rfl, ite2 (fun c => ?_) (fun c => ?_)⟩
        · have c := of_decide_eq_true c
          refine ⟨le_line (show 4 ≤ 100000 by decide), fun d hd => ⟨d, rfl, s19.upd_new hd, fun _ => .of upd_same, fun n => absurd (by omega) n⟩⟩
        · have c : ¬ (((many : Nat) : Int) > 8) := fun q => c (decide_eq_true q)
          exact ⟨d19, rfl, s19, fun h => absurd (show ((many : Nat) : Int) > 8 by omega) c, fun _ => sh19⟩
      rintro σ H20 ⟨d20, rfl, s20, dt, dsh⟩
      refine ⟨fun σ H' => ∃ d, σ = [some (.ref a), some (.ref r), some (.ref b), some (.ref M), some (.ref o), some (.str z), some (.ref g), some (.int (many : Nat)), some (.int st), some (.ref G), some (.ref L), x11, x12, some (.ref d), none] ∧ Same H17 H' ∧ SetAt H' d rows qs, ?_, ?_⟩
      · refine ⟨_, rfl, _, rfl, _, _, rfl, rfl, _, rfl, ite2 (fun c => ?_) (fun c => ?_)⟩
        · have c := of_decide_eq_true c
          refine ⟨le_line (show 2 ≤ 100000 by decide), fun d hd => ⟨d, rfl, s20.upd_new hd, set_some (sdue_other (hs1 c)) (.of upd_same)⟩⟩
        · have c : ¬ (st < ((many : Nat) : Int)) := fun q => c (decide_eq_true q)
          have eqd := hs2 c
          have sd := sdue_same (r0 := rows) (qs := qs) (fun q hq => rd q (by rw [← eqd]; exact hq))
          rw [lq] at sd
          refine ⟨d20, rfl, s20, ?_⟩
          by_cases c8 : 8 < many
          · rw [if_pos c8] at sd
            exact set_some sd (dt c8)
          · rw [if_neg c8] at sd
            exact set_none sd (by rw [eqd]; exact dsh c8)
      rintro σ H21 ⟨d21, rfl, s21, set21⟩
      refine ⟨_, rfl, _, rfl, b, G, gs, rows, qs, rfl, s21 _ _ G17, X17.same s21, hB17.same s21, R8, (fun q h => (rq q h).1), (by rw [lq]; exact m5), fun H22 p22 s22 set22 => ?_⟩
      refine ⟨_, rfl, _, _, rfl, sam9_set set22 (set21.same s22) (by omega) (by omega) smd, fun H23 s23 => ⟨_, rfl, ifn (by decide) ?_⟩⟩
      have s1723 := (s21.trans s22).trans s23
      have hM23 := s1723 _ _ hM17
      have hP23 := hP17.same s1723
      have hB23 := hB17.same s1723
      have g23 := s1723 _ _ g17
      have hT23 := hT17.sameR s1723
      clear set22 set21 X17 Y17 sh19 dt dsh
      have lps : (ps.map V.ref).length = prs.length := by rw [List.length_map]; exact lpp
      have hjp : prs.length - 1 < ps.length := by rw [lpp]; omega
      have hj : prs.length - 1 < prs.length := by omega
      obtain ⟨t, u, z1, z2, z3, O⟩ := hP23.2 _ _ _ (List.getElem?_eq_getElem hjp) (List.getElem?_eq_getElem hj)
      have hat : (ps.map V.ref)[prs.length - 1]? = some (V.ref ps[prs.length - 1]) := by rw [List.getElem?_map, List.getElem?_eq_getElem hjp]; rfl
      generalize ps[prs.length - 1] = p at z1 hat
      obtain ⟨sq, eq', eqq⟩ : ∃ sq eq', prs[prs.length - 1] = (sq, eq') := ⟨_, _, rfl⟩
      rw [eqq] at z2 z3 O
      have z2 : Tz H23 t (sV sq) := z2
      have z3 : Tz H23 u (eq'.map eV) := z3
      have O : TrimOk rows sq eq' := O
      have sok := str_ok R O
      have O7 := O.l7
      have O7' := O.re.len
      have le2 : (eq'.map toE2).length = eq'.length := List.length_map ..
      have z3' : Tz H23 u ((eq'.map toE2).map e2V) := by rw [map_to2]; exact z3
      refine ⟨_, rfl, _, rfl, M, _, rfl, .inl (SqL.of hM23), _, _, rfl, rfl, M, _, _, _, rfl, rfl, SqL.of hM23, at_ofG (j := prs.length - 1) (by rw [lps]; omega) hat, ?_⟩
      refine ⟨_, rfl, _, rfl, _, rfl, p, _, _, _, rfl, rfl, z1.q.sq, atI_nat (j := 0) rfl, _, rfl, p, _, _, _, rfl, rfl, z1.q.sq, atI_nat (j := 1) rfl, b, t, u, rows, sq, eq'.map toE2, rfl, hB23, R8, z2, z3'.q, by omega, by omega, sok, way_none (due_ok R R8 (fun _ h => h) O) fun H24 p24 s24 hp24 T24 => ?_⟩
      have sd : sdue rows [(rows, sq, eq'.map toE2)] = none := by
        rw [sdue_same (fun q hq => by rw [List.mem_singleton.mp hq])]
        rfl
      refine ⟨_, rfl, .str z, rfl, b, [p24], rows, [(rows, sq, eq'.map toE2)], rfl, TrmsX.nil.snoc T24, hB23.same s24, R8, (fun q hq => by rw [List.mem_singleton.mp hq]; exact R8), (by show 1 ≤ 100; decide), way_none sd fun H25 h25 s25 _ held25 => ?_⟩
      have s2325 := s24.trans s25
      refine ⟨_, rfl, h25, rows, .str z, [(rows, sq, eq'.map toE2)], rfl, held25, (by show 1 ≤ 100; decide), fun H26 q26 s26 sh26 => ?_⟩
      have s2326 := s2325.trans s26
      have v1 := z1.same s2326
      refine ⟨_, rfl, _, rfl, _, rfl, p, _, _, _, rfl, rfl, v1.q.sq, atI_nat (j := 0) rfl, _, rfl, p, _, _, _, rfl, rfl, v1.q.sq, atI_nat (j := 1) rfl, le_line (show 3 ≤ 100000 by decide), fun t1 ht1 => ?_⟩
      have s27 := (Same.refl H26).upd_new (o := .tup [.ref g, .ref t, .ref u]) ht1
      have t27 : (upd H26 t1 (.tup [.ref g, .ref t, .ref u])) t1 = some (.tup [.ref g, .ref t, .ref u]) := upd_same
      generalize upd H26 t1 (.tup [.ref g, .ref t, .ref u]) = H27 at s27 t27
      refine ⟨le_line (show 1 ≤ 100000 by decide), fun t2 ht2 => ?_⟩
      have s28 := (Same.refl H27).upd_new (o := .tup [.ref t1]) ht2
      have t28 : (upd H27 t2 (.tup [.ref t1])) t2 = some (.tup ([t1].map V.ref)) := upd_same
      generalize upd H27 t2 (.tup [.ref t1]) = H28 at s28 t28
      refine ⟨_, rfl, le_line (show 5 ≤ 100000 by decide), fun t3 ht3 => ?_⟩
      have s29 := (Same.refl H28).upd_new (o := .tup [.str "Good", .ref g, .ref t2, .str z, .int 1]) ht3
      have t29 : (upd H28 t3 (.tup [.str "Good", .ref g, .ref t2, .str z, .int 1])) t3 = some (.tup [.str "Good", .ref g, .ref t2, .str z, .int 1]) := upd_same
      generalize upd H28 t3 (.tup [.str "Good", .ref g, .ref t2, .str z, .int 1]) = H29 at s29 t29
      have s2729 := s28.trans s29
      have s2629 := s27.trans s2729
      have s2329 := s2326.trans s2629
      refine ⟨_, _, rfl, sam9_shown (sh26.same s2629) ⟨g, t2, ts, [t1], .of t29, .of (s2329 _ _ g23), hT23.sameR s2329, .of (s29 _ _ t28), TrpsAt.nil.snoc (q := (rows, sq, eq'.map toE2)) ⟨g, t, u, ts, .of (s2729 _ _ t27), .of (s2329 _ _ g23), hT23.sameR s2329, (z2.same s2329).q, (z3'.same s2329).q⟩⟩ (by omega) (by show 1 ≤ 100000; decide) (fun q hq => by rw [List.mem_singleton.mp hq]; exact small_ok R8 O), fun H30 s30 => k _⟩
end
end Sh
end
section
set_option Elab.async false
set_option linter.all false
set_option maxRecDepth 100000
set_option maxHeartbeats 2000000
namespace Sh
open PySem PySem.Spec PyProof.Rows L2
open C8 (pss_cut tCut)
open Evl (ixN_nat)
def spLaw (K : PySem.W.Frag) : Sp := fun vs H Q _ => ∃ (s : Addr) (ns : List Int), vs = [.ref s] ∧ SqL K H s (ns.map V.int) ∧ ns.length ≤ 63 ∧ ∀ H', Q (.bl true) H'
theorem fnOk0 {P : Program} {w : World} {K : PySem.W.Frag} {mg : Str → Option Value} {base : Heap} {k : Nat} {x : Str} {sp : Sp} {st : Stmt} {N ps : List Str} {f0 : Addr} {fd : FuncData} (F : FunD K x x (defArgs st) (defBody st) (defScope st) [] [] f0 fd) (S : FnScope N ps (defScope st)) (len : ∀ vs H Q E, sp vs H Q E → vs.length = ps.length)
    (hbody : ∀ (cdv : Value) (A : Around) (outer : List Env) (s : Shared) (H : Hp) (vs : List V) (Q : VK) (E : XK), Room k (A.deeper (envOfC x (defScope st) s.heap.objs.size f0 cdv)) → sp vs H Q E →
      ∃ t, PSs (cxOf CX0 P w K mg base N x (defScope st) f0 cdv A outer s H E).nox (defBody st) t ∧ t { nx := fun _ H' => Q .non H', rt := Q } (start N vs) H) : FnOk P w K mg base CX0 (k + 1) f0 fd ps sp :=
  F.ok S len fun cdv A outer s H vs Q E hr h => by
    obtain ⟨t, a, b⟩ := hbody cdv A outer s H vs Q E hr h
    exact ⟨t, a.nox, b⟩
theorem DueAt.same {H H' : Hp} {p : Addr} {rows : List Row} {s : List Str} {l : List E2} (x : DueAt H p rows s l) (k : Same H H') : DueAt H' p rows s l := by
  unfold DueAt at x ⊢
  cases e : tdue rows s l with
  | none =>
    rw [e] at x
    obtain ⟨r, t, u, ts, a, b, c, d, f⟩ := x
    exact ⟨r, t, u, ts, Tq.same a k, Tq.same b k, c.sameR k, Tq.same d k, Tq.same f k⟩
  | some z =>
    rw [e] at x
    exact Tq.same x k
abbrev s_law : Stmt := top 58
abbrev N_law : List Str := ["script", "bag", "kinds", "arity", "bed", "k", "pair", "due"]
theorem sc_law : FnScope N_law ["script"] (defScope s_law) := ⟨rfl, rfl, rfl, by decide +kernel, rfl, by decide +kernel, by decide +kernel⟩
section
variable {P : Program} {w : World} {K : PySem.W.Frag} {mg : Str → Option Value} {base : Heap} {C : Addr}
theorem ok_law9 (T : Bm mg) (c_law_bag : DefOk P w K mg base CX0 1 "_law_bag" (spBagM K)) (c_law_kinds : DefOk P w K mg base CX0 4 "_law_kinds" spKindsM) (c_law_arity : DefOk P w K mg base CX0 1 "_law_arity" spArity) (c_law_bed : DefOk P w K mg base CX0 7 "_law_bed" (spBed9 C)) (c_law_pair : DefOk P w K mg base CX0 3 "_law_pair" spPair9) (c_law_due : DefOk P w K mg base CX0 2 "_law_due" spDue9) (c_law_asked : DefOk P w K mg base CX0 6 "_law_asked" (spAsk9 C)) (c_law_same : DefOk P w K mg base CX0 6 "_law_same" (spSam9 6)) (c_law_sets : DefOk P w K mg base CX0 8 "_law_sets" (spSets9 C)) {f0 : Addr} {fd : FuncData} (F0 : FunD K "law" "law" (defArgs s_law) (defBody s_law) (defScope s_law) [] [] f0 fd) : FnOk P w K mg base CX0 11 f0 fd ["script"] (spLaw K) := by
  refine fnOk0 F0 sc_law (fun vs H Q E h => ?_) (fun cdv A outer s H vs Q E hr h => ?_)
  · obtain ⟨sc, ns, rfl, _⟩ := h
    rfl
  · obtain ⟨sc, ns, rfl, hS, hn, k⟩ := h
    refine ⟨_, (pss_cons (ps_set (i := 1) sc_law.nd rfl (Or.inl rfl) (pe_d c_law_bag (hr.mono (by decide)) pass0 (pa_cons (pv 0) pa_nil)))
      (pss_cons (ps_set (i := 2) sc_law.nd rfl (Or.inl rfl) (pe_d c_law_kinds (hr.mono (by decide)) pass0 (pa_cons (pv 1) pa_nil)))
      (pss_cons (ps_set (i := 3) sc_law.nd rfl (Or.inl rfl) (pe_d c_law_arity (hr.mono (by decide)) pass0 (pa_cons (pv 2) pa_nil)))
      (pss_cons (ps_set (i := 4) sc_law.nd rfl (Or.inl rfl) (pe_d c_law_bed (hr.mono (by decide)) pass0 (pa_cons (pv 2) pa_nil)))
      (pss_cons (ps_for PassesOwn.never rfl (pi_range1 (by rfl) T.b_range (pa_cons pe_int pa_nil)) (pg_name (i := 5) sc_law.nd rfl (Or.inl rfl))
        (pss_cons (ps_set (i := 6) sc_law.nd rfl (Or.inl rfl) (pe_d c_law_pair (hr.mono (by decide)) pass0 (pa_cons (pv 1) (pa_cons (pv 2) pa_nil))))
        (pss_cons (ps_set (i := 7) sc_law.nd rfl (Or.inl rfl) (pe_d c_law_due (hr.mono (by decide)) pass0 (pa_cons (pv 2) (pa_cons (pv 3) (pa_cons (pe_ix ix_tup (pv 6) pe_int (fun _ _ => rfl)) (pa_cons (pe_ix ix_tup (pv 6) pe_int (fun _ _ => rfl)) pa_nil))))))
        (pss_one (ps_if (pt_not (pt_val (pe_d c_law_same (hr.mono (by decide)) pass0 (pa_cons (pe_d c_law_asked (hr.mono (by decide)) pass0 (pa_cons (pv 4) (pa_cons (pe_ix ix_tup (pv 6) pe_int (fun _ _ => rfl)) (pa_cons (pe_ix ix_tup (pv 6) pe_int (fun _ _ => rfl)) pa_nil)))) (pa_cons (pv 7) pa_nil)))))
          (pss_one (ps_ret pe_bl))
          pss_nil)))))
      (pss_one (ps_ret (pe_d c_law_sets (hr.mono (by decide)) pass0 (pa_cons (pv 1) (pa_cons (pv 2) (pa_cons (pv 4) pa_nil))))))))))), ?_⟩
    refine ⟨_, rfl, sc, ns, rfl, hS, fun H1 a c s1 ha hc b1 => ?_⟩
    refine ⟨_, rfl, a, c, rfl, b1, fun H2 r rows k2 b2 hr0 nra nrc hR R4 h2 => ?_⟩
    have R8 := R4.up
    refine ⟨_, rfl, r, rows, rfl, hR, R4, fun H3 d s3 hd0 hd => ?_⟩
    have b3 := b2.same s3
    have hR3 := hR.same s3
    refine ⟨_, rfl, r, rows, rfl, hR3, R4.up45, h2, fun H4 b s4 hb0 hB => ?_⟩
    have b4 := b3.same s4
    have hR4 := hR3.same s4
    have d4 := s4 _ _ hd
    have rk : ∀ {H H' : Hp}, RowsAt H r rows → BagM H a c → Kp a H H' → RowsAt H' r rows := fun {H H'} x b q => by
      obtain ⟨ts, u1, u2⟩ := x
      exact ⟨ts, q _ _ u1 nra, u2.keep (q.tkM b)⟩
    have rl := R8.len
    refine ⟨_, rfl, by decide, by decide, for_range (n := (3 : Int).toNat) (fun i σ H' => ∃ x0 x1 x2 : Option V, σ = [some (.ref sc), some (.ref a), some (.ref r), some (.ref d), some (.ref b), x0, x1, x2] ∧ Kp a H4 H' ∧ BagM H' a c)
      ⟨none, none, none, rfl, Kp.same (Same.refl _), b4⟩ ?_ ?_⟩
    · rintro i σ H5 hi ⟨x0, x1, x2, rfl, k5, b5⟩
      refine ⟨_, rfl, _, rfl, a, c, r, rows, rfl, b5, nra, rk hR4 b4 k5, R4, fun H6 p t u s l k6 b6 z1 z2 z3 ls ll sok => ?_⟩
      have k46 := k5.trans k6
      have n46 := NL.kp b4 k46
      have hR6 := rk hR4 b4 k46
      have d6 := n46 _ _ d4 (fun _ e => nomatch e)
      have hB6 := hB.nl n46
      refine ⟨_, rfl, _, rfl, _, rfl, p, _, _, _, rfl, rfl, z1.q.sq, atI_nat (j := 0) rfl, _, rfl, p, _, _, _, rfl, rfl, z1.q.sq, atI_nat (j := 1) rfl, r, d, t, u, rows, s, l, rfl, hR6, d6, R8, z2, z3.q, by omega, by omega, sok, fun H7 q7 s7 due7 => ?_⟩
      have v1 := z1.same s7
      refine ⟨_, rfl, _, rfl, p, _, _, _, rfl, rfl, v1.q.sq, atI_nat (j := 0) rfl, _, rfl, p, _, _, _, rfl, rfl, v1.q.sq, atI_nat (j := 1) rfl, b, t, u, rows, s, l, rfl, hB6.same s7, R8, z2.same s7, (z3.same s7).q, by omega, by omega, sok, fun H8 q8 s8 due8 => ?_⟩
      refine ⟨_, rfl, _, _, rfl, sam9_due due8 (due7.same s8) (by omega) (by omega) (by omega), fun H9 s9 => ⟨_, rfl, ifn (by decide) ?_⟩⟩
      have s69 := (s7.trans s8).trans s9
      exact ⟨_, _, _, rfl, k46.trans (Kp.same s69), b6.same s69⟩
    · rintro σ H5 ⟨x0, x1, x2, rfl, k5, b5⟩
      exact ⟨_, rfl, _, rfl, _, rfl, a, c, r, b, rows, rfl, b5, nra, rk hR4 b4 k5, R4, h2, hB.nl (NL.kp b4 k5), k⟩
end
end Sh
end
section
set_option Elab.async false
set_option linter.all false
set_option maxRecDepth 100000
set_option maxHeartbeats 2000000
set_option autoImplicit false
/-! The hook of HookY that also tells which except clause takes which own exception, and that all lie below the base. -/
namespace Hx
open PySem PySem.Spec PyProof.Rows L2 He PySem.W
def zB (K : Frag) (base : Str) (ns : List Str) (x : Str) : Bool := yB K base ns x && (decide (kitOne K (.ref (ga K x)) (.ref (ga K base)) = some true) && ns.all fun y => decide (exmOne K (.ref (ga K x)) (.ref (ga K y)) = some (decide (x = y))))
structure ZFacts (K : Frag) (base : Str) (ns : List Str) (x : Str) : Prop extends YFacts K base ns x where
  ky : kitOne K (.ref (ga K x)) (.ref (ga K base)) = some true
  em : ∀ y ∈ ns, exmOne K (.ref (ga K x)) (.ref (ga K y)) = some (decide (x = y))
theorem zB_ok {K : Frag} {base : Str} {ns : List Str} {x : Str} (h : zB K base ns x = true) : ZFacts K base ns x := by
  unfold zB at h
  obtain ⟨h1, h⟩ := ba h
  obtain ⟨h2, h3⟩ := ba h
  exact ⟨yB_ok h1, of_decide_eq_true h2, fun y hy => of_decide_eq_true (List.all_eq_true.mp h3 y hy)⟩
def obsZ (file : Str) (n : Nat) (fa : List Fa) (fn : List DefD) (xs : List XDef) (base : Str) (ns : List Str) (g : Addr → Option Obj) : AlY :=
  ((obsD fa fn (frY n g), (xs.all fun d => d.ok file (frY n g), xs.map fun d => xvOf (frY n g) d.x)), ns.all fun x => zB (frY n g) base ns x)
def hookZ (file : Str) (n : Nat) (fa : List Fa) (fn : List DefD) (xs : List XDef) (base : Str) (ns : List Str) : PySem.W.Hook where
  α := AlY
  obs := fun s => obsZ file n fa fn xs base ns s.heap.get?
  val := fun _ => ((valD fn, (true, xs.map XDef.val)), true)
  says := fun _ h => ∃ K : Frag, K.In h ∧ SaysD fa fn K ∧ (xs.all fun d => d.ok file K) = true ∧ (xs.map fun d => xvOf K d.x) = xs.map XDef.val ∧ (ns.all fun x => zB K base ns x) = true
  of := fun _ _ e => ⟨_, frG_in, congrArg (fun z : AlY => z.1.1) e, congrArg (fun z : AlY => z.1.2.1) e, congrArg (fun z : AlY => z.1.2.2) e, congrArg (fun z : AlY => z.2) e⟩
  keeps := fun _ _ _ ⟨K, hK, c⟩ k => ⟨K, PySem.W.Frag.In.keeps hK k, c⟩
theorem obsZ_eq {file : Str} {n : Nat} {fa : List Fa} {fn : List DefD} {xs : List XDef} {base : Str} {ns : List Str} {g : Addr → Option Obj} {s : Shared} (h : ∀ a, g a = s.heap.get? a) : obsZ file n fa fn xs base ns g = (hookZ file n fa fn xs base ns).obs s := by
  have e : g = s.heap.get? := funext h
  rw [e] <;> rfl
end Hx
end
section
set_option Elab.async false
set_option linter.all false
set_option maxRecDepth 100000
set_option maxHeartbeats 0
namespace Sh
open PySem PySem.Spec PyProof.Rows L2
abbrev TL : PySem.W.OpenLaw := PySem.Challenge.rw_shearyard_k29_trims_refused_at_first_fau
abbrev R : PySem.W.OpenRow := PySem.W.OpenLaw.row TL
def dOf (n : PySem.Str) (st : Stmt) : He.DefD := ⟨(n, none), n, n, defArgs st, defBody st, defScope st, [], []⟩
def dM (c m q : PySem.Str) (st : Stmt) : He.DefD := ⟨(c, some m), m, q, defArgs st, defBody st, defScope st, [], []⟩
def dK (c m q : PySem.Str) (st : Stmt) (ks : List (Str × He.Dv)) : He.DefD := ⟨(c, some m), m, q, defArgs st, defBody st, defScope st, [], ks⟩
def fn : List He.DefD := [dOf "all_letters" s_all_letters, dOf "is_name" s_is_name, dOf "check_pairs" s_check_pairs, dOf "check_beds" s_check_beds, dOf "fault_place" s_fault_place, dOf "check_trim" s_check_trim, dOf "result_fault" s_result_fault, dOf "knots_in" s_knots_in, dOf "_law_bag" s_law_bag, dOf "_law_pick" s_law_pick, dOf "_law_word" s_law_word, dOf "_law_words" s_law_words, dOf "_law_kinds" s_law_kinds, dOf "_law_arity" s_law_arity, dOf "_law_stump" s_law_stump, dOf "_law_result" s_law_result, dOf "_law_tame" s_law_tame, dOf "_law_made" s_law_made, dOf "_law_same" s_law_same, dOf "_law_tagged" s_law_tagged, dOf "_law_bed" s_law_bed, dOf "_law_chain" s_law_chain, dOf "_law_bent" s_law_bent, dOf "_law_pair" s_law_pair, dOf "_law_fault" s_law_fault, dOf "_law_due" s_law_due, dOf "_law_own" s_law_own, dOf "_law_asked" s_law_asked, dOf "_law_set" s_law_set, dOf "_law_shown" s_law_shown, dOf "_law_set_asked" s_law_set_asked, dOf "_law_other" s_law_other, dOf "_law_sets" s_law_sets, dOf "law" s_law] ++ [dM "Bed" "__init__" "Bed.__init__" s_init__, dM "Bed" "same" "Bed.same" s_same, dM "Trims" "__len__" "Trims.__len__" s_Trims_len__, dM "Trim" "__init__" "Trim.__init__" s_Trim_init__, dK "Trims" "__init__" "Trims.__init__" s_Trims_init__ [("name", .str "trims")]]
def fa : List He.Fa := [.glo "all_letters", .glo "is_name", .glo "check_pairs", .glo "check_beds", .glo "fault_place", .glo "check_trim", .glo "result_fault", .glo "knots_in", .glo "_law_bag", .glo "_law_pick", .glo "_law_word", .glo "_law_words", .glo "_law_kinds", .glo "_law_arity", .glo "_law_stump", .glo "_law_result", .glo "_law_tame", .glo "_law_made", .glo "_law_same", .glo "_law_tagged", .glo "_law_bed", .glo "_law_chain", .glo "_law_bent", .glo "_law_pair", .glo "_law_fault", .glo "_law_due", .glo "_law_own", .glo "_law_asked", .glo "_law_set", .glo "_law_shown", .glo "_law_set_asked", .glo "_law_other", .glo "_law_sets", .glo "law", .glo "Bed", .cls "Bed", .mkr "Bed", .noat "Bed" "rows", .noat "Bed" "kinds", .noat "Bed" "widths", .noat "Bed" "ranks", .meth "Bed" "same", .glo "Trim", .cls "Trim", .mkr "Trim", .noat "Trim" "bed", .noat "Trim" "stump", .noat "Trim" "result", .glo "Trims", .cls "Trims", .mkr "Trims", .noat "Trims" "bed", .noat "Trims" "trims", .noat "Trims" "name", .free "len", .free "range", .free "abs", .free "int", .free "max", .free "all", .free "isinstance", .free "set", .free "list", .free "tuple", .free "bool", .free "str", .free "enumerate", .free "zip", .free "ValueError", .free "super", .free "reversed", .glo "YardError", .glo "OtherBed", .exc "OtherBed", .meth "Trims" "__len__", .int "MOST_KINDS" 8, .int "MOST_BRANCHES" 3, .int "LONGEST_NAME" 8, .int "MOST_ENTRIES" 200, .int "MOST_TRIMS" 8, .str "LETTERS" "abcdefghijklmnopqrstuvwxyz", .str "HOLE" "*"]
def s_TooMany : Stmt := inClass (top 8) 0
def s_InvalidStump : Stmt := inClass (top 3) 0
def s_InvalidTrim : Stmt := inClass (top 4) 0
def xTooMany : Hx.XDef := ⟨"TooMany", ["what", "limit"], "TooMany.__init__", defArgs s_TooMany, defBody s_TooMany, defScope s_TooMany⟩
def xInvalidStump : Hx.XDef := ⟨"InvalidStump", ["place"], "InvalidStump.__init__", defArgs s_InvalidStump, defBody s_InvalidStump, defScope s_InvalidStump⟩
def xInvalidTrim : Hx.XDef := ⟨"InvalidTrim", ["place"], "InvalidTrim.__init__", defArgs s_InvalidTrim, defBody s_InvalidTrim, defScope s_InvalidTrim⟩
def xs : List Hx.XDef := [xTooMany, xInvalidStump, xInvalidTrim]
def nsX : List PySem.Str := ["TooMany", "InvalidStump", "InvalidTrim", "OtherBed"]
abbrev hk : PySem.W.Hook := Hx.hookZ TL.prog.main.file 4 fa fn xs "YardError" nsX
def ob (s : PySem.W.SharedT) : Hx.AlY := Hx.obsZ TL.prog.main.file 4 fa fn xs "YardError" nsX (HandSHeadRun.getT s)
def names : List PySem.Str := (["YardError", "InvalidBed", "InvalidStump", "InvalidTrim", "InvalidText", "UnknownKind", "OtherBed", "TooMany", "MOST_KINDS", "MOST_BRANCHES", "MOST_ENTRIES", "MOST_TRIMS", "LETTERS", "LONGEST_NAME", "all_letters", "is_name", "DIGITS", "check_pairs", "check_beds", "Bed", "fault_place", "HOLE", "check_trim", "result_fault", "knots_in"] : List PySem.Str) ++ (["Trim", "Trims", "_law_bag", "_law_pick", "_law_word", "_law_words", "_law_kinds", "_law_arity", "_law_stump", "_law_result", "_law_tame", "_law_made", "_law_same", "_law_tagged", "_law_bed", "_law_chain", "_law_bent", "_law_pair", "_law_fault", "_law_due", "_law_own", "_law_asked", "_law_set", "_law_shown", "_law_set_asked"] : List PySem.Str) ++ (["_law_other", "_law_sets"] : List PySem.Str)
end Sh
end
section
set_option Elab.async false
set_option linter.all false
set_option maxRecDepth 100000
set_option maxHeartbeats 0
namespace Sh
open PySem PySem.W PySem.Spec PyProof.Rows L2 HandSHeadRun
theorem pa (w : World) (os : OsState) : (HandSHeadRun.endF (stepQ (denQ tabQ) R.prog w) 9000 R.prog w os).map (fun s => (looksF R.prog (boot_heap w.params) s.abs, seenQ (PySem.W.view R.prog [58]) names (importedModules R.prog.main.body) (fun s => xlAt (PySem.W.view R.prog [58]) [] s && recOk R.toRowW.records s) s.abs, He.obsD fa fn (Hx.frY 4 (HandSHeadRun.getT s)))) = some (true, openGood (PySem.W.view R.prog [58]) names, He.valD fn) := by
  kernel_rfl
theorem pb (w : World) (os : OsState) : (HandSHeadRun.endF (stepQ (denQ tabQ) R.prog w) 9000 R.prog w os).map (fun s => ((xs.all fun d => d.ok TL.prog.main.file (Hx.frY 4 (HandSHeadRun.getT s))), (xs.map fun d => Hx.xvOf (Hx.frY 4 (HandSHeadRun.getT s)) d.x))) = some (true, xs.map Hx.XDef.val) := by
  kernel_rfl
theorem pc (w : World) (os : OsState) : (HandSHeadRun.endF (stepQ (denQ tabQ) R.prog w) 9000 R.prog w os).map (fun s => (nsX.all fun x => Hx.zB (Hx.frY 4 (HandSHeadRun.getT s)) "YardError" nsX x)) = some true := by
  kernel_rfl
theorem glue {α A B C D E : Type} {e : Option α} {f : α → A} {g : α → B} {d : α → C} {x : α → D} {y : α → E} {a : A} {b : B} {c : C} {x0 : D} {y0 : E} (h1 : e.map (fun s => (f s, g s, d s)) = some (a, b, c)) (h2 : e.map x = some x0) (h3 : e.map y = some y0) : e.map (fun s => (f s, g s, ((d s, x s), y s))) = some (a, b, ((c, x0), y0)) := by
  cases e with
  | none => cases h1
  | some s =>
    have e1 := Option.some.inj h1
    have e2 : x s = x0 := Option.some.inj h2
    have e3 : y s = y0 := Option.some.inj h3
    have e4 : f s = a := congrArg (fun z => z.1) e1
    have e5 : g s = b := congrArg (fun z => z.2.1) e1
    have e6 : d s = c := congrArg (fun z => z.2.2) e1
    show some (f s, g s, ((d s, x s), y s)) = _
    rw [e2, e3, e4, e5, e6]
theorem run (w : World) : HandSHeadRun.RunEq R (PySem.W.view R.prog [58]) hk ob 9000 names w := fun os => glue (pa w os) (pb w os) (pc w os)
end Sh
end
section
set_option Elab.async false
set_option linter.all false
set_option maxRecDepth 100000
set_option maxHeartbeats 2000000
set_option autoImplicit false
namespace Sh
open PySem PySem.Spec PyProof.Rows L2
/-! ### the exception classes -/
theorem app_len (x y : Str) : (x ++ y).length = x.length + y.length := by
  show (x ++ y).cps.size = x.cps.size + y.cps.size
  rw [← Array.length_toList]
  show (TL.tl (x ++ y)).length = _
  rw [TL.tl_append, List.length_append]
  show x.cps.toList.length + y.cps.toList.length = _
  rw [Array.length_toList, Array.length_toList]
theorem acc_le {x y : Str} {n m : Nat} (hx : x.length ≤ n) (hy : y.length ≤ m) (h : n + m ≤ 100000) : (x ++ y).length ≤ sizeLine := by rw [app_len]; exact le_line (by omega)
theorem acc_n {x y : Str} {n m : Nat} (hx : x.length ≤ n) (hy : y.length ≤ m) : (x ++ y).length ≤ n + m := by rw [app_len]; omega
theorem len_i {i : Nat} (h : i ≤ 10000) : (Str.ofString (toString ((i : Nat) : Int))).length ≤ 6 := by
  have e := int_text_length_le10 (a := ((i : Nat) : Int)) (k := 5) (by decide) (by omega)
  rw [PySem.ofString_length]
  exact e
theorem log_i {i : Nat} (h : i ≤ 10000) : (((i : Nat) : Int)).natAbs.log2 < 1920 := by
  rw [Int.natAbs_natCast]
  have : i.log2 ≤ i := Nat.log2_le_self i
  by_cases h0 : i = 0
  · subst h0; decide
  · have h14 : i.log2 < 14 := (Nat.log2_lt h0).mpr (by omega)
    omega
theorem len_z {i : Int} (h0 : -2 ≤ i) (h : i ≤ 10000) : (Str.ofString (toString i)).length ≤ 6 := by
  have e := int_text_length_le10 (a := i) (k := 5) (by decide) (by omega)
  rw [PySem.ofString_length]
  exact e
theorem log_z {i : Int} (h0 : -2 ≤ i) (h : i ≤ 10000) : i.natAbs.log2 < 1920 := by
  have hn : i.natAbs ≤ 10000 := by omega
  have := log_i hn
  rwa [Int.natAbs_natCast] at this
def q0 : Pos := ⟨0, 0, 0, 0⟩
def stpOf : Stmt → SupX.StP
  | .Assign [.Attribute (.Name _ q1) f q2] (.Name _ q3) q4 => ⟨f, q1, q2, q3, q4⟩
  | _ => ⟨"", q0, q0, q0, q0⟩
def headOf : List Stmt → Expr × Pos × Pos × Pos × Pos × Pos
  | .Expr (.Call (.Attribute (.Call (.Name _ p0) [] [] p1) _ p2) [msg] [] p3) p4 :: _ => (msg, p0, p1, p2, p3, p4)
  | _ => (.Name "" q0, q0, q0, q0, q0, q0)
def bodyTooMany : List Stmt := defBody s_TooMany
def zTooMany0 : SupX.StP := stpOf (bodyTooMany.getD 1 (.Pass q0))
def zTooMany1 : SupX.StP := stpOf (bodyTooMany.getD 2 (.Pass q0))
theorem eTooMany : defBody s_TooMany = SupX.iB (headOf bodyTooMany).1 (headOf bodyTooMany).2.1 (headOf bodyTooMany).2.2.1 (headOf bodyTooMany).2.2.2.1 (headOf bodyTooMany).2.2.2.2.1 (headOf bodyTooMany).2.2.2.2.2 [zTooMany0, zTooMany1] := rfl
theorem scTooMany : SupX.SupScope (defScope s_TooMany) [zTooMany0, zTooMany1] := ⟨rfl, rfl, rfl, by decide +kernel, rfl, rfl, rfl, fun z hz => by
  rcases List.mem_cons.mp hz with h | h
  · rw [h]; exact ⟨rfl, by decide +kernel⟩
  · rw [List.mem_singleton.mp h]; exact ⟨rfl, by decide +kernel⟩, by decide +kernel⟩
theorem ppTooMany (fI : Addr) : SupX.SupPos "TooMany.__init__" (defScope s_TooMany) fI (headOf bodyTooMany).1 (headOf bodyTooMany).2.1 (headOf bodyTooMany).2.2.1 (headOf bodyTooMany).2.2.2.1 (headOf bodyTooMany).2.2.2.2.1 (headOf bodyTooMany).2.2.2.2.2 := ⟨fun _ _ _ => ⟨_, rfl⟩, fun _ _ _ => rfl, fun _ _ _ => rfl⟩
def bodyInvalidStump : List Stmt := defBody s_InvalidStump
def zInvalidStump0 : SupX.StP := stpOf (bodyInvalidStump.getD 1 (.Pass q0))
theorem eInvalidStump : defBody s_InvalidStump = SupX.iB (headOf bodyInvalidStump).1 (headOf bodyInvalidStump).2.1 (headOf bodyInvalidStump).2.2.1 (headOf bodyInvalidStump).2.2.2.1 (headOf bodyInvalidStump).2.2.2.2.1 (headOf bodyInvalidStump).2.2.2.2.2 [zInvalidStump0] := rfl
theorem scInvalidStump : SupX.SupScope (defScope s_InvalidStump) [zInvalidStump0] := ⟨rfl, rfl, rfl, by decide +kernel, rfl, rfl, rfl, fun z hz => by
  rw [List.mem_singleton.mp hz]; exact ⟨rfl, by decide +kernel⟩, by decide +kernel⟩
theorem ppInvalidStump (fI : Addr) : SupX.SupPos "InvalidStump.__init__" (defScope s_InvalidStump) fI (headOf bodyInvalidStump).1 (headOf bodyInvalidStump).2.1 (headOf bodyInvalidStump).2.2.1 (headOf bodyInvalidStump).2.2.2.1 (headOf bodyInvalidStump).2.2.2.2.1 (headOf bodyInvalidStump).2.2.2.2.2 := ⟨fun _ _ _ => ⟨_, rfl⟩, fun _ _ _ => rfl, fun _ _ _ => rfl⟩
def bodyInvalidTrim : List Stmt := defBody s_InvalidTrim
def zInvalidTrim0 : SupX.StP := stpOf (bodyInvalidTrim.getD 1 (.Pass q0))
theorem eInvalidTrim : defBody s_InvalidTrim = SupX.iB (headOf bodyInvalidTrim).1 (headOf bodyInvalidTrim).2.1 (headOf bodyInvalidTrim).2.2.1 (headOf bodyInvalidTrim).2.2.2.1 (headOf bodyInvalidTrim).2.2.2.2.1 (headOf bodyInvalidTrim).2.2.2.2.2 [zInvalidTrim0] := rfl
theorem scInvalidTrim : SupX.SupScope (defScope s_InvalidTrim) [zInvalidTrim0] := ⟨rfl, rfl, rfl, by decide +kernel, rfl, rfl, rfl, fun z hz => by
  rw [List.mem_singleton.mp hz]; exact ⟨rfl, by decide +kernel⟩, by decide +kernel⟩
theorem ppInvalidTrim (fI : Addr) : SupX.SupPos "InvalidTrim.__init__" (defScope s_InvalidTrim) fI (headOf bodyInvalidTrim).1 (headOf bodyInvalidTrim).2.1 (headOf bodyInvalidTrim).2.2.1 (headOf bodyInvalidTrim).2.2.2.1 (headOf bodyInvalidTrim).2.2.2.2.1 (headOf bodyInvalidTrim).2.2.2.2.2 := ⟨fun _ _ _ => ⟨_, rfl⟩, fun _ _ _ => rfl, fun _ _ _ => rfl⟩
section
variable {w : World} {K : PySem.W.Frag} {mg : Str → Option Value}
theorem msg_TooMany {prog : Program} {x L fI : Addr} {cda cc : Addr} {vs : List V} {us : List Value} (rv : Vals vs us) (hP : tm9 vs) : SupX.MsgOk prog w (PySem.W.ksEnv "TooMany.__init__" (defScope s_TooMany) L fI (.ref cda) cc) (fun y => (((("self" : Str) :: [zTooMany0, zTooMany1].map (·.f)).zip (.ref x :: us)).reverse).lookup y) (headOf bodyTooMany).1 := by
  rcases hP with rfl | rfl
  · obtain ⟨u1, u2, rfl, ⟨t1, rfl⟩, ⟨t2, rfl⟩⟩ := vals2 rv
    intro A E s Q hn hq
    have e1 : (((("self" : Str) :: [zTooMany0, zTooMany1].map (·.f)).zip [Value.ref x, .str "entries" t1, .int 200 t2]).reverse).lookup ("what" : Str) = some (.str "entries" t1) := rfl
    have e2 : (((("self" : Str) :: [zTooMany0, zTooMany1].map (·.f)).zip [Value.ref x, .str "entries" t1, .int 200 t2]).reverse).lookup ("limit" : Str) = some (.int 200 t2) := rfl
    show wpAny _ _ (eval (.JoinedStr [.Constant (.str "too many ") _ _, .FormattedValue (.Name "what" _) (-1) none _, .Constant (.str ": the limit is ") _ _, .FormattedValue (.Name "limit" _) (-1) none _] _) _) Q E s
    refine wpAny_JoinedStr ?_
    refine wpAny_Constant_str ⟨_, _, rfl, le_line (by decide +kernel), ?_⟩
    refine wpAny_FormattedValue_plain (SupX.ldK hn e1 ?_ rfl rfl (by decide +kernel))
    refine wpAny_formatField_str ⟨_, _, rfl, le_line (by decide +kernel), ?_⟩ ⟨_, _, rfl, le_line (by decide +kernel), ?_⟩ (le_line (by decide +kernel))
    all_goals
      refine wpAny_Constant_str ⟨_, _, rfl, le_line (by decide +kernel), ?_⟩
      refine wpAny_FormattedValue_plain (SupX.ldK hn e2 ?_ rfl rfl (by decide +kernel))
      refine wpAny_formatField_int (by decide +kernel) ⟨_, _, rfl, le_line (by decide +kernel), ?_⟩
      exact ⟨le_line (by decide +kernel), hq _ _⟩
  · obtain ⟨u1, u2, rfl, ⟨t1, rfl⟩, ⟨t2, rfl⟩⟩ := vals2 rv
    intro A E s Q hn hq
    have e1 : (((("self" : Str) :: [zTooMany0, zTooMany1].map (·.f)).zip [Value.ref x, .str "trims" t1, .int 8 t2]).reverse).lookup ("what" : Str) = some (.str "trims" t1) := rfl
    have e2 : (((("self" : Str) :: [zTooMany0, zTooMany1].map (·.f)).zip [Value.ref x, .str "trims" t1, .int 8 t2]).reverse).lookup ("limit" : Str) = some (.int 8 t2) := rfl
    show wpAny _ _ (eval (.JoinedStr [.Constant (.str "too many ") _ _, .FormattedValue (.Name "what" _) (-1) none _, .Constant (.str ": the limit is ") _ _, .FormattedValue (.Name "limit" _) (-1) none _] _) _) Q E s
    refine wpAny_JoinedStr ?_
    refine wpAny_Constant_str ⟨_, _, rfl, le_line (by decide +kernel), ?_⟩
    refine wpAny_FormattedValue_plain (SupX.ldK hn e1 ?_ rfl rfl (by decide +kernel))
    refine wpAny_formatField_str ⟨_, _, rfl, le_line (by decide +kernel), ?_⟩ ⟨_, _, rfl, le_line (by decide +kernel), ?_⟩ (le_line (by decide +kernel))
    all_goals
      refine wpAny_Constant_str ⟨_, _, rfl, le_line (by decide +kernel), ?_⟩
      refine wpAny_FormattedValue_plain (SupX.ldK hn e2 ?_ rfl rfl (by decide +kernel))
      refine wpAny_formatField_int (by decide +kernel) ⟨_, _, rfl, le_line (by decide +kernel), ?_⟩
      exact ⟨le_line (by decide +kernel), hq _ _⟩
theorem msg_InvalidStump {prog : Program} {x L fI : Addr} {cda cc : Addr} {vs : List V} {us : List Value} (rv : Vals vs us) (hP : plP vs) : SupX.MsgOk prog w (PySem.W.ksEnv "InvalidStump.__init__" (defScope s_InvalidStump) L fI (.ref cda) cc) (fun y => (((("self" : Str) :: [zInvalidStump0].map (·.f)).zip (.ref x :: us)).reverse).lookup y) (headOf bodyInvalidStump).1 := by
  obtain ⟨i, rfl, hi⟩ := hP
  obtain ⟨u1, rfl, ⟨t1, rfl⟩⟩ := vals1 rv
  intro A E s Q hn hq
  have e1 : (((("self" : Str) :: [zInvalidStump0].map (·.f)).zip [Value.ref x, .int ((i : Nat) : Int) t1]).reverse).lookup ("place" : Str) = some (.int ((i : Nat) : Int) t1) := rfl
  show wpAny _ _ (eval (.JoinedStr [.Constant (.str "invalid stump at ") _ _, .FormattedValue (.Name "place" _) (-1) none _] _) _) Q E s
  refine wpAny_JoinedStr ?_
  refine wpAny_Constant_str ⟨_, _, rfl, le_line (by decide +kernel), ?_⟩
  refine wpAny_FormattedValue_plain (SupX.ldK hn e1 ?_ rfl rfl (by decide +kernel))
  have hl := acc_le (x := Str.empty ++ ("invalid stump at " : Str)) (n := 17) (by decide +kernel) (len_i hi) (by decide)
  refine wpAny_formatField_int (log_i hi) ⟨_, _, rfl, hl, ?_⟩
  exact ⟨hl, hq _ _⟩
theorem msg_InvalidTrim {prog : Program} {x L fI : Addr} {cda cc : Addr} {vs : List V} {us : List Value} (rv : Vals vs us) (hP : itP vs) : SupX.MsgOk prog w (PySem.W.ksEnv "InvalidTrim.__init__" (defScope s_InvalidTrim) L fI (.ref cda) cc) (fun y => (((("self" : Str) :: [zInvalidTrim0].map (·.f)).zip (.ref x :: us)).reverse).lookup y) (headOf bodyInvalidTrim).1 := by
  obtain ⟨i, rfl, hi0, hi⟩ := hP
  obtain ⟨u1, rfl, ⟨t1, rfl⟩⟩ := vals1 rv
  intro A E s Q hn hq
  have e1 : (((("self" : Str) :: [zInvalidTrim0].map (·.f)).zip [Value.ref x, .int i t1]).reverse).lookup ("place" : Str) = some (.int i t1) := rfl
  show wpAny _ _ (eval (.JoinedStr [.Constant (.str "invalid trim at ") _ _, .FormattedValue (.Name "place" _) (-1) none _] _) _) Q E s
  refine wpAny_JoinedStr ?_
  refine wpAny_Constant_str ⟨_, _, rfl, le_line (by decide +kernel), ?_⟩
  refine wpAny_FormattedValue_plain (SupX.ldK hn e1 ?_ rfl rfl (by decide +kernel))
  have hl := acc_le (x := Str.empty ++ ("invalid trim at " : Str)) (n := 17) (by decide +kernel) (len_z hi0 hi) (by decide)
  refine wpAny_formatField_int (log_z hi0 hi) ⟨_, _, rfl, hl, ?_⟩
  exact ⟨hl, hq _ _⟩
theorem sup_TooMany {h : Heap} (X : K.In h) (G : h.Ns mainGlobals mg) (gs : mg "super" = none) (F : Hx.XFacts TL.prog K xTooMany [zTooMany0, zTooMany1]) : PySem.SupX.SupCls TL.prog w K mg "TooMany" (He.ga K "TooMany") ["what", "limit"] tm9 := by
  have T := F.txt
  have T2 : SupX.SupTxt TL.prog K (He.ga K "TooMany") (Hx.iOf K "TooMany") "TooMany.__init__" (defArgs s_TooMany) (SupX.iB (headOf bodyTooMany).1 (headOf bodyTooMany).2.1 (headOf bodyTooMany).2.2.1 (headOf bodyTooMany).2.2.2.1 (headOf bodyTooMany).2.2.2.2.1 (headOf bodyTooMany).2.2.2.2.2 [zTooMany0, zTooMany1]) (defScope s_TooMany) [zTooMany0, zTooMany1] := by
    rw [← eTooMany]
    exact T
  refine ⟨PySem.W.mg_of X G F.gl, gs, T.kC, T.exC, T.tyC, fun A s R mb vs us rv hP hl K1 hlim hG hB hbs hroom hq => ?_⟩
  exact SupX.sup_made (ppTooMany _) T2 scTooMany (by decide +kernel) ⟨_, rfl, rfl⟩ (fun _ _ _ _ _ _ _ us hu => match us, hu with | [_, _, _], _ => rfl) K1 hlim hG gs hB hbs (by rw [← rv.length, hl]; rfl) hroom (by decide) (fun x L cda cc => msg_TooMany rv hP) hq
theorem sup_InvalidStump {h : Heap} (X : K.In h) (G : h.Ns mainGlobals mg) (gs : mg "super" = none) (F : Hx.XFacts TL.prog K xInvalidStump [zInvalidStump0]) : PySem.SupX.SupCls TL.prog w K mg "InvalidStump" (He.ga K "InvalidStump") ["place"] plP := by
  have T := F.txt
  have T2 : SupX.SupTxt TL.prog K (He.ga K "InvalidStump") (Hx.iOf K "InvalidStump") "InvalidStump.__init__" (defArgs s_InvalidStump) (SupX.iB (headOf bodyInvalidStump).1 (headOf bodyInvalidStump).2.1 (headOf bodyInvalidStump).2.2.1 (headOf bodyInvalidStump).2.2.2.1 (headOf bodyInvalidStump).2.2.2.2.1 (headOf bodyInvalidStump).2.2.2.2.2 [zInvalidStump0]) (defScope s_InvalidStump) [zInvalidStump0] := by
    rw [← eInvalidStump]
    exact T
  refine ⟨PySem.W.mg_of X G F.gl, gs, T.kC, T.exC, T.tyC, fun A s R mb vs us rv hP hl K1 hlim hG hB hbs hroom hq => ?_⟩
  exact SupX.sup_made (ppInvalidStump _) T2 scInvalidStump (by decide +kernel) ⟨_, rfl, rfl⟩ (fun _ _ _ _ _ _ _ us hu => match us, hu with | [_, _], _ => rfl) K1 hlim hG gs hB hbs (by rw [← rv.length, hl]; rfl) hroom (by decide) (fun x L cda cc => msg_InvalidStump rv hP) hq
theorem sup_InvalidTrim {h : Heap} (X : K.In h) (G : h.Ns mainGlobals mg) (gs : mg "super" = none) (F : Hx.XFacts TL.prog K xInvalidTrim [zInvalidTrim0]) : PySem.SupX.SupCls TL.prog w K mg "InvalidTrim" (He.ga K "InvalidTrim") ["place"] itP := by
  have T := F.txt
  have T2 : SupX.SupTxt TL.prog K (He.ga K "InvalidTrim") (Hx.iOf K "InvalidTrim") "InvalidTrim.__init__" (defArgs s_InvalidTrim) (SupX.iB (headOf bodyInvalidTrim).1 (headOf bodyInvalidTrim).2.1 (headOf bodyInvalidTrim).2.2.1 (headOf bodyInvalidTrim).2.2.2.1 (headOf bodyInvalidTrim).2.2.2.2.1 (headOf bodyInvalidTrim).2.2.2.2.2 [zInvalidTrim0]) (defScope s_InvalidTrim) [zInvalidTrim0] := by
    rw [← eInvalidTrim]
    exact T
  refine ⟨PySem.W.mg_of X G F.gl, gs, T.kC, T.exC, T.tyC, fun A s R mb vs us rv hP hl K1 hlim hG hB hbs hroom hq => ?_⟩
  exact SupX.sup_made (ppInvalidTrim _) T2 scInvalidTrim (by decide +kernel) ⟨_, rfl, rfl⟩ (fun _ _ _ _ _ _ _ us hu => match us, hu with | [_, _], _ => rfl) K1 hlim hG gs hB hbs (by rw [← rv.length, hl]; rfl) hroom (by decide) (fun x L cda cc => msg_InvalidTrim rv hP) hq
end
end Sh
end
section
set_option Elab.async false
set_option linter.all false
set_option maxRecDepth 100000
set_option maxHeartbeats 4000000
set_option autoImplicit false
namespace Sh
open PySem PySem.Spec PyProof.Rows L2
theorem ob_eq (s : PySem.W.SharedT) : ob s = hk.obs s.abs := Hx.obsZ_eq (HandSHeadRun.getT_eq s)
def AK (K : PySem.W.Frag) : A9 := ⟨He.ga K "TooMany", He.ga K "InvalidStump", He.ga K "InvalidTrim", He.ga K "OtherBed"⟩
def E9.nm : E9 → Str
  | .ent => "TooMany"
  | .trm => "TooMany"
  | .stump _ => "InvalidStump"
  | .trim _ => "InvalidTrim"
  | .other => "OtherBed"
theorem E9.nm_mem (x : E9) : x.nm ∈ nsX := by cases x <;> simp [E9.nm, nsX]
theorem E9.nm_cls (K : PySem.W.Frag) (x : E9) : x.cls (AK K) = He.ga K x.nm := by cases x <;> rfl
def nmT : Nat → Str
  | 0 => "TooMany"
  | 1 => "InvalidStump"
  | 2 => "InvalidTrim"
  | _ => "OtherBed"
theorem nmT_tag : ∀ a b : Fin 4, decide (nmT a.val = nmT b.val) = (a.val == b.val) := by decide +kernel
theorem E9.tag_lt (x : E9) : x.tag < 4 := by cases x <;> simp [E9.tag]
theorem E9.nm_t (x : E9) : x.nm = nmT x.tag := by cases x <;> rfl
theorem E9.nm_tag (x y : E9) : decide (x.nm = y.nm) = (x.tag == y.tag) := by
  rw [x.nm_t, y.nm_t]
  exact nmT_tag ⟨x.tag, x.tag_lt⟩ ⟨y.tag, y.tag_lt⟩
theorem facts {w : World} {K : PySem.W.Frag} {h : Heap} {mg : Str → Option Value} {f : Addr} (X : K.In h) (G : h.Ns mainGlobals mg) (hfa : mg ("law" : Str) = some (.ref f)) (c : He.SaysD fa fn K) (x1 : (xs.all fun d => d.ok TL.prog.main.file K) = true) (x2 : (xs.map fun d => Hx.xvOf K d.x) = xs.map Hx.XDef.val) (x3 : (nsX.all fun x => Hx.zB K "YardError" nsX x) = true) :
    ∃ fd : FuncData, (∀ (s : Shared) (v : Value), BindsTo s fd ⟨[v], []⟩ [("script", v)]) ∧ ∀ base : Heap, K.In base → base.Ns mainGlobals mg → FnOk TL.prog w K mg base CX0 11 f fd ["script"] (spLaw K) := by
  have D_all_letters : Def0 K mg "all_letters" s_all_letters := by
    obtain ⟨fd, F⟩ := c.def_ 0 (d := dOf "all_letters" s_all_letters) rfl
    exact ⟨_, fd, He.glo_ok X G (c.fact 0 (f := .glo "all_letters") rfl), F⟩
  have D_is_name : Def0 K mg "is_name" s_is_name := by
    obtain ⟨fd, F⟩ := c.def_ 1 (d := dOf "is_name" s_is_name) rfl
    exact ⟨_, fd, He.glo_ok X G (c.fact 1 (f := .glo "is_name") rfl), F⟩
  have D_check_pairs : Def0 K mg "check_pairs" s_check_pairs := by
    obtain ⟨fd, F⟩ := c.def_ 2 (d := dOf "check_pairs" s_check_pairs) rfl
    exact ⟨_, fd, He.glo_ok X G (c.fact 2 (f := .glo "check_pairs") rfl), F⟩
  have D_check_beds : Def0 K mg "check_beds" s_check_beds := by
    obtain ⟨fd, F⟩ := c.def_ 3 (d := dOf "check_beds" s_check_beds) rfl
    exact ⟨_, fd, He.glo_ok X G (c.fact 3 (f := .glo "check_beds") rfl), F⟩
  have D_fault_place : Def0 K mg "fault_place" s_fault_place := by
    obtain ⟨fd, F⟩ := c.def_ 4 (d := dOf "fault_place" s_fault_place) rfl
    exact ⟨_, fd, He.glo_ok X G (c.fact 4 (f := .glo "fault_place") rfl), F⟩
  have D_check_trim : Def0 K mg "check_trim" s_check_trim := by
    obtain ⟨fd, F⟩ := c.def_ 5 (d := dOf "check_trim" s_check_trim) rfl
    exact ⟨_, fd, He.glo_ok X G (c.fact 5 (f := .glo "check_trim") rfl), F⟩
  have D_result_fault : Def0 K mg "result_fault" s_result_fault := by
    obtain ⟨fd, F⟩ := c.def_ 6 (d := dOf "result_fault" s_result_fault) rfl
    exact ⟨_, fd, He.glo_ok X G (c.fact 6 (f := .glo "result_fault") rfl), F⟩
  have D_knots_in : Def0 K mg "knots_in" s_knots_in := by
    obtain ⟨fd, F⟩ := c.def_ 7 (d := dOf "knots_in" s_knots_in) rfl
    exact ⟨_, fd, He.glo_ok X G (c.fact 7 (f := .glo "knots_in") rfl), F⟩
  have D__law_bag : Def0 K mg "_law_bag" s_law_bag := by
    obtain ⟨fd, F⟩ := c.def_ 8 (d := dOf "_law_bag" s_law_bag) rfl
    exact ⟨_, fd, He.glo_ok X G (c.fact 8 (f := .glo "_law_bag") rfl), F⟩
  have D__law_pick : Def0 K mg "_law_pick" s_law_pick := by
    obtain ⟨fd, F⟩ := c.def_ 9 (d := dOf "_law_pick" s_law_pick) rfl
    exact ⟨_, fd, He.glo_ok X G (c.fact 9 (f := .glo "_law_pick") rfl), F⟩
  have D__law_word : Def0 K mg "_law_word" s_law_word := by
    obtain ⟨fd, F⟩ := c.def_ 10 (d := dOf "_law_word" s_law_word) rfl
    exact ⟨_, fd, He.glo_ok X G (c.fact 10 (f := .glo "_law_word") rfl), F⟩
  have D__law_words : Def0 K mg "_law_words" s_law_words := by
    obtain ⟨fd, F⟩ := c.def_ 11 (d := dOf "_law_words" s_law_words) rfl
    exact ⟨_, fd, He.glo_ok X G (c.fact 11 (f := .glo "_law_words") rfl), F⟩
  have D__law_kinds : Def0 K mg "_law_kinds" s_law_kinds := by
    obtain ⟨fd, F⟩ := c.def_ 12 (d := dOf "_law_kinds" s_law_kinds) rfl
    exact ⟨_, fd, He.glo_ok X G (c.fact 12 (f := .glo "_law_kinds") rfl), F⟩
  have D__law_arity : Def0 K mg "_law_arity" s_law_arity := by
    obtain ⟨fd, F⟩ := c.def_ 13 (d := dOf "_law_arity" s_law_arity) rfl
    exact ⟨_, fd, He.glo_ok X G (c.fact 13 (f := .glo "_law_arity") rfl), F⟩
  have D__law_stump : Def0 K mg "_law_stump" s_law_stump := by
    obtain ⟨fd, F⟩ := c.def_ 14 (d := dOf "_law_stump" s_law_stump) rfl
    exact ⟨_, fd, He.glo_ok X G (c.fact 14 (f := .glo "_law_stump") rfl), F⟩
  have D__law_result : Def0 K mg "_law_result" s_law_result := by
    obtain ⟨fd, F⟩ := c.def_ 15 (d := dOf "_law_result" s_law_result) rfl
    exact ⟨_, fd, He.glo_ok X G (c.fact 15 (f := .glo "_law_result") rfl), F⟩
  have D__law_tame : Def0 K mg "_law_tame" s_law_tame := by
    obtain ⟨fd, F⟩ := c.def_ 16 (d := dOf "_law_tame" s_law_tame) rfl
    exact ⟨_, fd, He.glo_ok X G (c.fact 16 (f := .glo "_law_tame") rfl), F⟩
  have D__law_made : Def0 K mg "_law_made" s_law_made := by
    obtain ⟨fd, F⟩ := c.def_ 17 (d := dOf "_law_made" s_law_made) rfl
    exact ⟨_, fd, He.glo_ok X G (c.fact 17 (f := .glo "_law_made") rfl), F⟩
  have D__law_same : Def0 K mg "_law_same" s_law_same := by
    obtain ⟨fd, F⟩ := c.def_ 18 (d := dOf "_law_same" s_law_same) rfl
    exact ⟨_, fd, He.glo_ok X G (c.fact 18 (f := .glo "_law_same") rfl), F⟩
  have D__law_tagged : Def0 K mg "_law_tagged" s_law_tagged := by
    obtain ⟨fd, F⟩ := c.def_ 19 (d := dOf "_law_tagged" s_law_tagged) rfl
    exact ⟨_, fd, He.glo_ok X G (c.fact 19 (f := .glo "_law_tagged") rfl), F⟩
  have D__law_bed : Def0 K mg "_law_bed" s_law_bed := by
    obtain ⟨fd, F⟩ := c.def_ 20 (d := dOf "_law_bed" s_law_bed) rfl
    exact ⟨_, fd, He.glo_ok X G (c.fact 20 (f := .glo "_law_bed") rfl), F⟩
  have D__law_chain : Def0 K mg "_law_chain" s_law_chain := by
    obtain ⟨fd, F⟩ := c.def_ 21 (d := dOf "_law_chain" s_law_chain) rfl
    exact ⟨_, fd, He.glo_ok X G (c.fact 21 (f := .glo "_law_chain") rfl), F⟩
  have D__law_bent : Def0 K mg "_law_bent" s_law_bent := by
    obtain ⟨fd, F⟩ := c.def_ 22 (d := dOf "_law_bent" s_law_bent) rfl
    exact ⟨_, fd, He.glo_ok X G (c.fact 22 (f := .glo "_law_bent") rfl), F⟩
  have D__law_pair : Def0 K mg "_law_pair" s_law_pair := by
    obtain ⟨fd, F⟩ := c.def_ 23 (d := dOf "_law_pair" s_law_pair) rfl
    exact ⟨_, fd, He.glo_ok X G (c.fact 23 (f := .glo "_law_pair") rfl), F⟩
  have D__law_fault : Def0 K mg "_law_fault" s_law_fault := by
    obtain ⟨fd, F⟩ := c.def_ 24 (d := dOf "_law_fault" s_law_fault) rfl
    exact ⟨_, fd, He.glo_ok X G (c.fact 24 (f := .glo "_law_fault") rfl), F⟩
  have D__law_due : Def0 K mg "_law_due" s_law_due := by
    obtain ⟨fd, F⟩ := c.def_ 25 (d := dOf "_law_due" s_law_due) rfl
    exact ⟨_, fd, He.glo_ok X G (c.fact 25 (f := .glo "_law_due") rfl), F⟩
  have D__law_own : Def0 K mg "_law_own" s_law_own := by
    obtain ⟨fd, F⟩ := c.def_ 26 (d := dOf "_law_own" s_law_own) rfl
    exact ⟨_, fd, He.glo_ok X G (c.fact 26 (f := .glo "_law_own") rfl), F⟩
  have D__law_asked : Def0 K mg "_law_asked" s_law_asked := by
    obtain ⟨fd, F⟩ := c.def_ 27 (d := dOf "_law_asked" s_law_asked) rfl
    exact ⟨_, fd, He.glo_ok X G (c.fact 27 (f := .glo "_law_asked") rfl), F⟩
  have D__law_set : Def0 K mg "_law_set" s_law_set := by
    obtain ⟨fd, F⟩ := c.def_ 28 (d := dOf "_law_set" s_law_set) rfl
    exact ⟨_, fd, He.glo_ok X G (c.fact 28 (f := .glo "_law_set") rfl), F⟩
  have D__law_shown : Def0 K mg "_law_shown" s_law_shown := by
    obtain ⟨fd, F⟩ := c.def_ 29 (d := dOf "_law_shown" s_law_shown) rfl
    exact ⟨_, fd, He.glo_ok X G (c.fact 29 (f := .glo "_law_shown") rfl), F⟩
  have D__law_set_asked : Def0 K mg "_law_set_asked" s_law_set_asked := by
    obtain ⟨fd, F⟩ := c.def_ 30 (d := dOf "_law_set_asked" s_law_set_asked) rfl
    exact ⟨_, fd, He.glo_ok X G (c.fact 30 (f := .glo "_law_set_asked") rfl), F⟩
  have D__law_other : Def0 K mg "_law_other" s_law_other := by
    obtain ⟨fd, F⟩ := c.def_ 31 (d := dOf "_law_other" s_law_other) rfl
    exact ⟨_, fd, He.glo_ok X G (c.fact 31 (f := .glo "_law_other") rfl), F⟩
  have D__law_sets : Def0 K mg "_law_sets" s_law_sets := by
    obtain ⟨fd, F⟩ := c.def_ 32 (d := dOf "_law_sets" s_law_sets) rfl
    exact ⟨_, fd, He.glo_ok X G (c.fact 32 (f := .glo "_law_sets") rfl), F⟩
  obtain ⟨fdL, F_law⟩ := c.def_ 33 (d := dOf "law" s_law) rfl
  have e := hfa.symm.trans (He.glo_ok X G (c.fact 33 (f := .glo "law") rfl))
  cases e
  have bnd := FunD.bindsA (ps := ["script"]) F_law fun _ _ _ _ _ _ us hl => match us, hl with | [_], _ => rfl
  have T0 : Bl mg := ⟨He.free_ok X G (c.fact 54 (f := .free "len") rfl), He.free_ok X G (c.fact 55 (f := .free "range") rfl), He.free_ok X G (c.fact 56 (f := .free "abs") rfl), He.free_ok X G (c.fact 57 (f := .free "int") rfl), He.free_ok X G (c.fact 58 (f := .free "max") rfl), He.free_ok X G (c.fact 59 (f := .free "all") rfl), He.free_ok X G (c.fact 60 (f := .free "isinstance") rfl), He.free_ok X G (c.fact 61 (f := .free "set") rfl), He.free_ok X G (c.fact 62 (f := .free "list") rfl), He.free_ok X G (c.fact 63 (f := .free "tuple") rfl), He.free_ok X G (c.fact 64 (f := .free "bool") rfl), He.free_ok X G (c.fact 65 (f := .free "str") rfl), He.free_ok X G (c.fact 66 (f := .free "enumerate") rfl), He.int_ok X G (c.fact 75 (f := .int "MOST_KINDS" 8) rfl), He.int_ok X G (c.fact 76 (f := .int "MOST_BRANCHES" 3) rfl), He.int_ok X G (c.fact 77 (f := .int "LONGEST_NAME" 8) rfl), He.str_ok X G (c.fact 80 (f := .str "LETTERS" "abcdefghijklmnopqrstuvwxyz") rfl)⟩
  have T1 : Bk mg := ⟨T0, He.free_ok X G (c.fact 67 (f := .free "zip") rfl), He.free_ok X G (c.fact 68 (f := .free "ValueError") rfl), He.str_ok X G (c.fact 81 (f := .str "HOLE" "*") rfl)⟩
  have T : Bm mg := ⟨T1, He.int_ok X G (c.fact 78 (f := .int "MOST_ENTRIES" 200) rfl), He.int_ok X G (c.fact 79 (f := .int "MOST_TRIMS" 8) rfl)⟩
  have B : BedT K (He.ga K "Bed") := ⟨He.cls_ok (c.fact 35 (f := .cls "Bed") rfl), He.noat_ok (c.fact 37 (f := .noat "Bed" "rows") rfl), He.noat_ok (c.fact 38 (f := .noat "Bed" "kinds") rfl), He.noat_ok (c.fact 39 (f := .noat "Bed" "widths") rfl), He.noat_ok (c.fact 40 (f := .noat "Bed" "ranks") rfl)⟩
  have BT : TrT K (He.ga K "Trim") := ⟨He.cls_ok (c.fact 43 (f := .cls "Trim") rfl), He.noat_ok (c.fact 45 (f := .noat "Trim" "bed") rfl), He.noat_ok (c.fact 46 (f := .noat "Trim" "stump") rfl), He.noat_ok (c.fact 47 (f := .noat "Trim" "result") rfl)⟩
  have BS : TsT K (He.ga K "Trims") := ⟨He.cls_ok (c.fact 49 (f := .cls "Trims") rfl), He.noat_ok (c.fact 51 (f := .noat "Trims" "bed") rfl), He.noat_ok (c.fact 52 (f := .noat "Trims" "trims") rfl), He.noat_ok (c.fact 53 (f := .noat "Trims" "name") rfl)⟩
  obtain ⟨fd_init__, F_init__⟩ := c.def_ 34 (d := dM "Bed" "__init__" "Bed.__init__" s_init__) rfl
  obtain ⟨fd_same, F_same⟩ := c.def_ 35 (d := dM "Bed" "same" "Bed.same" s_same) rfl
  obtain ⟨fd_Trims_len__, F_Trims_len__⟩ := c.def_ 36 (d := dM "Trims" "__len__" "Trims.__len__" s_Trims_len__) rfl
  obtain ⟨fd_Trim_init__, F_Trim_init__⟩ := c.def_ 37 (d := dM "Trim" "__init__" "Trim.__init__" s_Trim_init__) rfl
  obtain ⟨fd_Trims_init__, F_Trims_init__⟩ := c.def_ 38 (d := dK "Trims" "__init__" "Trims.__init__" s_Trims_init__ [("name", .str "trims")]) rfl
  have gBed := He.glo_ok X G (c.fact 34 (f := .glo "Bed") rfl)
  have mkBed := He.mkr_ok (c.fact 36 (f := .mkr "Bed") rfl)
  have gTrim := He.glo_ok X G (c.fact 42 (f := .glo "Trim") rfl)
  have mkTrim := He.mkr_ok (c.fact 44 (f := .mkr "Trim") rfl)
  have gTrims := He.glo_ok X G (c.fact 48 (f := .glo "Trims") rfl)
  have mkTrims := He.mkr_ok (c.fact 50 (f := .mkr "Trims") rfl)
  have mtSame := He.meth_ok (c.fact 41 (f := .meth "Bed" "same") rfl)
  have gs : mg "super" = none := He.free_ok X G (c.fact 69 (f := .free "super") rfl)
  have b_reversed : mg "reversed" = none := He.free_ok X G (c.fact 70 (f := .free "reversed") rfl)
  have gY := He.glo_ok X G (c.fact 71 (f := .glo "YardError") rfl)
  have gO := He.glo_ok X G (c.fact 72 (f := .glo "OtherBed") rfl)
  have eO := He.exc_ok (c.fact 73 (f := .exc "OtherBed") rfl)
  have mtLen := He.meth_ok (c.fact 74 (f := .meth "Trims" "__len__") rfl)
  obtain ⟨ea0, eb0⟩ := Hx.x_of x1 x2 0 (d := xTooMany) rfl
  have FTooMany : Hx.XFacts TL.prog K xTooMany [zTooMany0, zTooMany1] := Hx.facts_of ea0 eb0 (fun z hz => by
    rcases List.mem_cons.mp hz with h | h
    · rw [h]; exact List.mem_cons_self
    · rw [List.mem_singleton.mp h]; exact List.mem_cons_of_mem _ List.mem_cons_self)
  obtain ⟨ea1, eb1⟩ := Hx.x_of x1 x2 1 (d := xInvalidStump) rfl
  have FInvalidStump : Hx.XFacts TL.prog K xInvalidStump [zInvalidStump0] := Hx.facts_of ea1 eb1 (fun z hz => by rw [List.mem_singleton.mp hz]; exact List.mem_cons_self)
  obtain ⟨ea2, eb2⟩ := Hx.x_of x1 x2 2 (d := xInvalidTrim) rfl
  have FInvalidTrim : Hx.XFacts TL.prog K xInvalidTrim [zInvalidTrim0] := Hx.facts_of ea2 eb2 (fun z hz => by rw [List.mem_singleton.mp hz]; exact List.mem_cons_self)
  have x9 : X9 TL.prog w K mg (AK K) := ⟨sup_TooMany X G gs FTooMany, sup_InvalidStump X G gs FInvalidStump, sup_InvalidTrim X G gs FInvalidTrim, gO, eO.1, eO.2.1, eO.2.2.1, eO.2.2.2⟩
  have yf : ∀ e : E9, Hx.ZFacts K "YardError" nsX e.nm := fun e => Hx.zB_ok (List.all_eq_true.mp x3 _ e.nm_mem)
  have kt : Kit9 K mg (AK K) (He.ga K "YardError") := ⟨gY, fun e => by rw [e.nm_cls]; exact (yf e).ex, ⟨FTooMany.xf, FTooMany.no, FTooMany.me⟩, ⟨FInvalidStump.xf, FInvalidStump.no, FInvalidStump.me⟩, ⟨FInvalidTrim.xf, FInvalidTrim.no, FInvalidTrim.me⟩, fun e e2 => by rw [e.nm_cls, e2.nm_cls, ← e.nm_tag e2]; exact (yf e).ki _ e2.nm_mem, fun e => by rw [e.nm_cls]; exact (yf e).ky, fun e => by rw [e.nm_cls]; exact (yf e).kv, fun e e2 => by rw [e.nm_cls, e2.nm_cls, ← e.nm_tag e2]; exact (yf e).em _ e2.nm_mem⟩
  refine ⟨fdL, fun s v => bnd s [v] rfl, fun base _ _ => ?_⟩
  have c_all_letters := ok_all_letters (P := TL.prog) (w := w) (base := base) T0 D_all_letters
  have c_is_name := ok_is_name (P := TL.prog) (w := w) (base := base) T0 c_all_letters D_is_name
  have c_check_pairs := ok_check_pairs (P := TL.prog) (w := w) (base := base) T0 c_is_name D_check_pairs
  have c_Bed : BedOk TL.prog w K mg base (He.ga K "Bed") 5 := by
    refine ⟨gBed, _, mkBed, ?_⟩
    obtain ⟨oc, od, dV, kV, doc, pm, an, cdv, ct, osl, rfl, lk, hcd, hdv, _⟩ := F_init__.ex
    have hd : dV = .none := by
      rcases hdv with ⟨_, h⟩ | h
      · exact h
      · exact absurd rfl h.1
    subst hd
    refine (StX.fn_star (ps := ["self"]) (pv := "kinds") lk hcd sc_init__ StX.cxUp_none (StX.bind_star1 (B := fun us => bindArgs (PySem.W.fnOf "__init__" "Bed.__init__" (defArgs s_init__) (defBody s_init__) (defScope s_init__) .none kV doc pm an cdv ct) ⟨us, []⟩) (fun _ => rfl) (fun _ _ _ => rfl)) (sp := spBedI (He.ga K "Bed")) (k := 3) fun A outer s H vs Q E hr hsp => ?_).mono (by decide)
    obtain ⟨t, a, b⟩ := body_bedI T0 B c_check_pairs hr hsp
    exact ⟨t, a.nox, b⟩
  have c_law_bag := ok_bagM (P := TL.prog) (w := w) (base := base) T0 D__law_bag
  have c_law_pick := ok_pick (P := TL.prog) (w := w) (base := base) T0 D__law_pick
  have c_law_word := ok_wordM (P := TL.prog) (w := w) (base := base) T0 c_law_pick D__law_word
  have c_law_words := ok_wordsM (P := TL.prog) (w := w) (base := base) T0 c_law_pick c_law_word D__law_words
  have c_law_arity := ok_arity (P := TL.prog) (w := w) (base := base) T0 D__law_arity
  have c_law_kinds := ok_kindsM (P := TL.prog) (w := w) (base := base) T0 c_law_pick c_law_words D__law_kinds
  have c_law_stump := ok_stumpM (P := TL.prog) (w := w) (base := base) T0 c_law_pick D__law_stump
  have c_law_result := ok_resultM (P := TL.prog) (w := w) (base := base) T0 c_law_pick D__law_result
  have c_law_tame := ok_tameM (P := TL.prog) (w := w) (base := base) T0 c_law_pick D__law_tame
  have c_law_made := ok_madeM (P := TL.prog) (w := w) (base := base) T0 c_law_pick c_law_tame c_law_stump c_law_result D__law_made
  have c_fault_place := ok_fault_place9 (P := TL.prog) (w := w) (base := base) T1 B D_fault_place
  have c_knots_in := ok_knots9 (P := TL.prog) (w := w) (base := base) T1 B D_knots_in
  have c_result_fault := ok_result_fault9 (P := TL.prog) (w := w) (base := base) T1 c_fault_place D_result_fault
  have c_check_trim := ok_check_trim9 (P := TL.prog) (w := w) (base := base) T x9 c_fault_place c_result_fault c_knots_in D_check_trim
  have c_same : SmOk9 TL.prog w K mg base (He.ga K "Bed") := ok_same9 B F_same mtSame
  have c_check_beds := ok_check_beds9 (P := TL.prog) (w := w) (base := base) T x9 B c_same D_check_beds
  have c_Trim : Trim9C TL.prog w K mg base (He.ga K "Bed") (He.ga K "Trim") (AK K) 4 := by
    have G : FnOk TL.prog w K mg base (L2.CX TL.prog w) 4 _ _ ["self", "bed", "stump", "result"] (spTrimI9 (He.ga K "Bed") (He.ga K "Trim") (AK K)) := F_Trim_init__.ok sc_Trim_init__ (fun vs H Q E h => by obtain ⟨x, dx, b, t, u, rows, s, l, rfl, _⟩ := h; rfl) fun cdv A outer s H vs Q E hr h => body_trimI9 T BT c_check_trim hr h
    refine ⟨gTrim, _, mkTrim, fun A' outer s H us vs Q E hr e0 r hs => G.raw (F_Trim_init__.bindsN fun _ _ _ _ _ _ us hl => match us, hl with | [_, _, _, _], _ => rfl) .nil A' outer s H us vs Q E hr e0 r ?_⟩
    show spTrimI9 _ _ _ (vs ++ []) H Q E
    rw [List.append_nil]
    exact hs
  have c_Trims : Trims9C TL.prog w K mg base (He.ga K "Bed") (He.ga K "Trim") (He.ga K "Trims") (AK K) 4 :=
    ⟨gTrims, _, mkTrims, F_Trims_init__.starK (ps := ["self", "bed"]) (pv := "trims") sc_Trims_init__ StX.cxUp (fun D doc pm an cdv ct u us rest hl => match us, rest, hl with
      | [_, _], [], _ => ⟨_, _, _, _, _, _, rfl, rfl, rfl⟩
      | [_, _], _ :: _, _ => ⟨_, _, _, _, _, _, rfl, rfl, rfl⟩) fun cdv A outer s H vs Q E hr h => body_trimsI9 T x9 BT BS c_check_beds hr h⟩
  have c_TrimsK : Trims9K TL.prog w K mg base (He.ga K "Bed") (He.ga K "Trim") (He.ga K "Trims") (AK K) 4 :=
    ⟨gTrims, _, mkTrims, F_Trims_init__.starKK (ps := ["self", "bed"]) (kn := "name") (pv := "trims") rfl sc_Trims_init__ StX.cxUp (fun kV doc pm an cdv ct u us rest hl => match us, rest, hl with
      | [_, _], [], _ => rfl
      | [_, _], _ :: _, _ => rfl) fun cdv A outer s H vs Q E hr h => body_trimsI9 T x9 BT BS c_check_beds hr h⟩
  have c_law_chain := ok_chain (P := TL.prog) (w := w) (base := base) T D__law_chain
  have c_law_tagged := ok_tagged9 (P := TL.prog) (w := w) (base := base) T D__law_tagged
  have c_law_bent := ok_bent9 (P := TL.prog) (w := w) (base := base) T c_law_pick D__law_bent
  have c_law_same := ok_sam9 (P := TL.prog) (w := w) (base := base) T D__law_same 6
  have c_law_own : OwnOk TL.prog w K mg base (AK K) := ok_own9 T x9 kt D__law_own
  have c_law_bed := ok_bed9 (P := TL.prog) (w := w) (base := base) T0 c_Bed D__law_bed
  have c_law_fault := ok_lfault (P := TL.prog) (w := w) (base := base) T D__law_fault
  have c_law_due := ok_due9 (P := TL.prog) (w := w) (base := base) T c_law_fault D__law_due
  have c_law_asked := ok_asked9 (P := TL.prog) (w := w) (base := base) T x9 kt B BT c_Trim c_law_own D__law_asked
  have c_law_pair := ok_pair9 (P := TL.prog) (w := w) (base := base) T c_law_pick c_law_stump c_law_result c_law_chain c_law_tagged c_law_bent D__law_pair
  have c_len : LenOk9 TL.prog w K mg base (He.ga K "Trims") := ok_len9 T BS F_Trims_len__ mtLen
  have c_law_set := ok_set9 (P := TL.prog) (w := w) (base := base) T c_Trims D__law_set
  have c_law_shown := ok_shown9 (P := TL.prog) (w := w) (base := base) T B BT BS c_len D__law_shown
  have c_law_set_asked := ok_set_asked9 (P := TL.prog) (w := w) (base := base) T x9 kt c_law_set c_law_shown c_law_own D__law_set_asked
  have c_law_other := ok_other9 (P := TL.prog) (w := w) (base := base) T b_reversed c_law_pick D__law_other
  have c_law_sets := ok_sets9 (P := TL.prog) (w := w) (base := base) T c_law_pick c_law_made c_law_other c_law_bed c_law_word c_Trim c_Trims c_TrimsK c_law_shown c_law_same c_law_set_asked D__law_sets
  exact ok_law9 T c_law_bag c_law_kinds c_law_arity c_law_bed c_law_pair c_law_due c_law_asked c_law_same c_law_sets F_law
end Sh
end
set_option Elab.async false
set_option linter.all false
set_option maxRecDepth 100000
set_option maxHeartbeats 4000000
open PySem PySem.W PySem.Calls PyProof.Rows
theorem PySem.Challenge.cw_shearyard_k29_trims_refused_at_first_fau_holds : PySem.Challenge.rw_shearyard_k29_trims_refused_at_first_fau.Holds := by
  w_on; o_law
  refine HandSHeadRun.head_any (r := OpenLaw.row PySem.Challenge.rw_shearyard_k29_trims_refused_at_first_fau) (q := view (OpenLaw.row PySem.Challenge.rw_shearyard_k29_trims_refused_at_first_fau).prog [58]) (H := Sh.hk) (ob := Sh.ob) (M := 9000) (loose := Sh.names) (d := HandSHeadRun.topDef (OpenLaw.row PySem.Challenge.rw_shearyard_k29_trims_refused_at_first_fau).prog 58) (kwd := []) Sh.ob_eq
    (by kernel_rfl) (fun s => by kernel_rfl) Sh.run (by kernel_rfl) (by kernel_rfl) (by kernel_rfl) (by rfl) (by first | assumption | decide +kernel) (by decide +kernel) ⟨rfl, rfl, rfl, rfl, rfl, by decide +kernel⟩ ?hw ?hc
  case hw => w_witness2
  case hc =>
    refine L2.walk_ofE (l := PySem.Challenge.rw_shearyard_k29_trims_refused_at_first_fau) (n := 63) (k := 11) (x := "script") (CX := L2.CX0) rfl (by decide) (by kernel_rfl) ⟨rfl, by decide, by decide⟩ ?F (fun _ _ _ _ z => z)
    intro w mg fa h Y G hmg0
    obtain ⟨K, KX, c, x1, x2, x3⟩ := Y
    have hmg : mg ("law" : PySem.Str) = some (.ref fa) := by
      have e : (HandSHeadRun.topDef (OpenLaw.row PySem.Challenge.rw_shearyard_k29_trims_refused_at_first_fau).prog 58).name = ("law" : PySem.Str) := by kernel_rfl
      rw [← e]
      exact hmg0
    obtain ⟨fd, hb, hF⟩ := Sh.facts (w := w) KX G hmg c x1 x2 x3
    exact ⟨K, fd, Sh.spLaw K, KX, hb, fun H a ns hn _ hS => ⟨a, ns, rfl, hS, hn, fun _ => rfl⟩, hF⟩
