import PyProof.Rows.All
import Wide.All
import OpenK.AllK
import Wide.FinOn
import KE.KExcSuper
import HandS.ForMost
import HandS.Exc
import HandS.ExcInit
import KE.GoesEnum
import HandS.Star
import HandS.TupAny
import HandS.TupMul
import HandS.SetKeys
import HandS.DictComp
import HandS.IsInst
import HandS.Defaults
import HandS.WordsExc
import HandS.ReCall
import HandS.TryMany
import HandS.ExcOwn
import HandS.ExcField
import HandS.HeadHook1
import HandS.HeadHook2
import HandS.Evl
import HandS.Codes
import HandS.Walk
import KE.KStateDown
import HandS.Ends
import HandS.Head0
import HandS.Head1
import HandS.Head2
import HandS.HeadEnd
import PyProof.FString
import PySem.Challenge.RW_shearyard_k01_branches_paths_and_counts
section
set_option Elab.async false
set_option linter.all false
set_option maxRecDepth 100000
set_option maxHeartbeats 2000000
/-! An own exception class (any number of own base classes over ValueError) whose __init__ says super().__init__(message) and then self.f = f for each of its parameters. -/
namespace PySem
namespace SupX
open PySem.W PySem.Calls PyProof.Rows PySem.HandSPX

structure StP where
  f : Str
  q1 : Pos
  q2 : Pos
  q3 : Pos
  q4 : Pos
def stB : List StP → List Stmt
  | [] => []
  | z :: r => .Assign [.Attribute (.Name "self" z.q1) z.f z.q2] (.Name z.f z.q3) z.q4 :: stB r
def iB (msg : Expr) (p0 p1 p2 p3 p4 : Pos) (l : List StP) : List Stmt :=
  .Expr (.Call (.Attribute (.Call (.Name "super" p0) [] [] p1) "__init__" p2) [msg] [] p3) p4 :: stB l
def putAll : List (Str × Value) → (Str → Option Value) → (Str → Option Value)
  | [], m => m
  | (f, v) :: r, m => putAll r (fun y => if y = f then some v else m y)
/-- the message's expression gives some value and writes nothing -/
def MsgOk (prog : Program) (w : World) (env : Env) (m : Str → Option Value) (msg : Expr) : Prop :=
  ∀ (A : Around) (E : Value → Shared → Prop) (s : Shared) (Q : Value → Shared → Prop), s.heap.Ns env.locals m → (∀ v t, Q v { s with toks := t }) → wpAny (model prog w) A (eval msg env) Q E s

theorem lookup_nd {k : Str} {v : Value} : ∀ {l : List (Str × Value)}, (l.map (·.1)).Nodup → (k, v) ∈ l → l.lookup k = some v
  | [], _, h => nomatch h
  | (a, b) :: r, nd, h => by
    rw [List.map_cons, List.nodup_cons] at nd
    rcases List.mem_cons.mp h with e | e
    · cases e
      simp [List.lookup]
    · have ne : ¬ k = a := fun z => nd.1 (by rw [← z]; exact List.mem_map_of_mem (f := (·.1)) e)
      have nb : (k == a) = false := by simpa using ne
      show (match k == a with | true => some b | false => r.lookup k) = some v
      rw [nb]
      exact lookup_nd nd.2 e
theorem lookup_rev {k : Str} {v : Value} {l : List (Str × Value)} (nd : (l.map (·.1)).Nodup) (h : (k, v) ∈ l) : l.reverse.lookup k = some v :=
  lookup_nd (by rw [List.map_reverse]; exact List.pairwise_reverse.mpr (List.Pairwise.imp (fun z => Ne.symm z) nd)) (List.mem_reverse.mpr h)

section
variable {prog : Program} {w : World} {M : Model} {A : Around} {E : Value → Shared → Prop} {R : Result → Shared → Prop} {s : Shared} {K : Frag}
theorem ldK {name : Str} {scope : Scope} {L a : Addr} {cd : Value} {cells : List (Str × Addr)} {m : Str → Option Value} {x : Str} {pos : Pos} {v : Value} {Q : Value → Shared → Prop}
    (hn : s.heap.Ns L m) (hv : m x = some v) (h : Q v s) (hk : scope.kind = .function) (hl : scope.names.lookup x = some .local) (hd : (x == ("__debug__" : Str)) = false) :
    wpAny M A (eval (.Name x pos) (envX name scope L a cd cells)) Q E s := wpAny_Name (wpAny_loadName_local (env := envX name scope L a cd cells) hk hl hn hv h) hd

/-- the method-wrapper of ValueError.__init__ called on the fresh exception -/
theorem call_mw {h : Heap} {g : Array GenState} {d : Drawn} {t : Nat} {os : OsState} {nm q : Str} {C N : Addr} {bs bm : List Value} {hdct : Bool} {sn : List Str} {sub : List Value} {ab : Bool} {col : Option Bool} {dd : Option Addr} {k0 k1 k2 k3 k5 : Option Value}
    {u e t0 : Addr} {rest : List Value} {Q : Value → Shared → Prop} (hC : h.get? C = some (excClassObj nm q C N bs bm hdct sn sub ab col dd k0 k1 k2 k3 k5 "ValueError.__new__")) (hbm : refsVE bm = true)
    (he : h.get? e = some (excO C t0)) (hu : h.get? u = some (kxs_mw "ValueError.__init__" e)) (hrest : rest.length ≤ sizeLine)
    (hq : ∀ h' t1, (∀ b o, b ≠ e → h.get? b = some o → h'.get? b = some o) → h'.get? e = some (excO C t1) → Q .none ⟨h', g, d, t, os⟩) :
    wpAny (model prog w) A (call (.ref u) rest) Q E ⟨h, g, d, t, os⟩ := by
  refine wpAny_call (codeAny_of_tree ?_)
  show wpAny _ A.in1 (callAny (.ref u) ⟨rest, []⟩) _ _ _
  simp only [callAny]
  refine wpAny_bind (wpAny_load hu ?_)
  simp only [kxs_mw, show (Value.type "method-wrapper" == Value.type "method" || Value.type "method-wrapper" == Value.type "builtin_function_or_method" || Value.type "method-wrapper" == Value.type "method-wrapper") = true by decide, if_true]
  refine KFB.if_so (by decide) ?_
  refine wpAny_bind (check_bound_init F.excBase_ValueError.toExcCallFacts hC he rfl ?_)
  refine wpAny_bind (wpAny_pure (wpAny_pure ?_))
  refine ⟨Code.quiet_builtin _ (by decide +kernel), codeAny_builtin F.excBase_ValueError.initEntry ?_⟩
  rw [Around.under_plainId F.excBase_ValueError.init.plain _]
  wp_walk
  refine hq _ h.objs.size (fun b o hb ho => ?_) ?_
  · rw [Heap.get?_update_other _ _ (Ne.symm hb)]
    exact Heap.get?_push_of_some _ ho
  · rw [Heap.get?_update_self _ (Heap.get?_push_of_some _ he) rfl]
    rfl

/-- self.f = f, the further ones -/
theorem stores_old {name : Str} {scope : Scope} {L a C x dx : Addr} {cd : Value} {cells : List (Str × Addr)} {m : Str → Option Value} {fv : Array Value} {cdt : ClassData}
    (hk : scope.kind = .function) (hcd : clsIn K C = some cdt) (hm : refsVE cdt.mro = true) (hh : cdt.hasDict = true) (hsa : findIn K (.ref C) "__setattr__" = some (some (.builtin "object.__setattr__")))
    (hself : m "self" = some (.ref x)) (lself : scope.names.lookup ("self" : Str) = some .local) (hxL : x ≠ L) (hdL : dx ≠ L) (hnx : K.lookup x = none) (hnd : K.lookup dx = none) (hxd : x ≠ dx) :
    ∀ (l : List StP) (vs : List Value) (s : Shared) (m0 : Str → Option Value) (nl : List Str), vs.length = l.length → K.In s.heap → s.heap.Ns L m → s.heap.get? x = some { cls := .ref C, dict := some dx, data := .fields fv } → s.heap.Ns1 dx m0 → Within m0 nl → nl.length + l.length ≤ 900 →
      (∀ z ∈ l, scope.names.lookup z.f = some .local ∧ (z.f == ("__debug__" : Str)) = false ∧ findIn K (.ref C) z.f = some none) → (∀ (i : Nat) (z : StP) (v : Value), l[i]? = some z → vs[i]? = some v → m z.f = some v) →
      (∀ h' tk', (∀ b o, b ≠ dx → s.heap.get? b = some o → h'.get? b = some o) → h'.Ns1 dx (putAll ((l.map (·.f)).zip vs) m0) → R (.ok (.ret .none)) { s with heap := h', toks := tk' }) →
      wpAny (model prog w) A (execs (stB l) (envX name scope L a cd cells)) (fun fl s' => R (.ok (.ret (match fl with | .ret v => v | _ => .none))) s') E s := by
  intro l
  induction l with
  | nil =>
    intro vs s m0 nl hl X hn hx hns hw hz hloc hval hq
    cases vs with
    | cons _ _ => cases hl
    | nil => exact wpAny_execs_nil (hq s.heap s.toks (fun b o _ e => e) hns)
  | cons z r ih =>
    intro vs s m0 nl hl X hn hx hns hw hz hloc hval hq
    cases vs with
    | nil => cases hl
    | cons v vs =>
      obtain ⟨l1, l2, l3⟩ := hloc z List.mem_cons_self
      obtain ⟨oD, esD, epD, hoD, _, _⟩ := hns.count hw
      refine wpAny_execs_cons (plainObj_wpAny_Assign_Attribute ?_)
      refine ldK hn (hval 0 z v rfl rfl) ?_ hk l1 l2
      refine ldK hn hself ?_ hk lself (by decide)
      refine set_plain X (ox := { cls := .ref C, dict := some dx, data := .fields fv }) (od := some oD) ⟨hx, rfl, rfl, hoD⟩ hsa ?_
      refine PySem.OEX.osa_old X hx hns hw (by rw [List.length_cons] at hz; omega) hcd hm hh l3 fun h' tk' k hn' => ?_
      have X' : K.In h' := fun b o e => k b o (fun q => by rw [q, hnd] at e; cases e) (X b o e)
      obtain ⟨oL, esL, epL, hL, hrL⟩ := hn
      refine ih vs ⟨h', s.gens, s.drawn, tk', s.os⟩ _ (z.f :: nl) (by simpa using hl) X' ⟨oL, esL, epL, k _ _ (Ne.symm hdL) hL, hrL⟩ (k _ _ hxd hx) hn' (Within.cons z.f v hw) (by rw [List.length_cons] at hz ⊢; omega)
        (fun y hy => hloc y (List.mem_cons_of_mem _ hy)) (fun i y u h1 h2 => hval (i + 1) y u h1 h2) fun h2 t2 k2 n2 => ?_
      exact hq h2 t2 (fun b o hb e => k2 b o hb (k b o hb e)) n2
end
end SupX
end PySem
end
section
set_option Elab.async false
set_option linter.all false
set_option maxRecDepth 100000
set_option maxHeartbeats 2000000
namespace PySem
namespace SupX
open PySem.W PySem.Calls PyProof.Rows PySem.HandSPX

structure SupScope (scope : Scope) (l : List StP) : Prop where
  kind : scope.kind = .function
  co : scope.isCoroutine = false
  gen : scope.isGenerator = false
  cell : ∀ x ∈ scope.names, x.2 ≠ .cell
  self : scope.names.lookup ("self" : Str) = some .local
  sup : scope.names.lookup ("super" : Str) = some .globalImplicit
  clsv : scope.names.lookup ("__class__" : Str) = some .free
  loc : ∀ z ∈ l, scope.names.lookup z.f = some .local ∧ (z.f == ("__debug__" : Str)) = false
  nd : (("self" : Str) :: l.map (·.f)).Nodup
structure SupTxt (prog : Program) (K : Frag) (C fI : Addr) (qual : Str) (params : Arguments) (body : List Stmt) (scope : Scope) (l : List StP) : Prop where
  cls : ∃ nm q N bs bm sn sub ab col dd k0 k1 k2 k3 k5, K.lookup C = some (excClassObj nm q C N bs bm true sn sub ab col dd k0 k1 k2 k3 k5 "ValueError.__new__") ∧ refsVE bm = true
  sa : findIn K (.ref C) "__setattr__" = some (some (.builtin "object.__setattr__"))
  noat : ∀ z ∈ l, findIn K (.ref C) z.f = some none
  iC : findIn K (.ref C) "__init__" = some (some (.ref fI))
  tC : typeIn K (.ref fI) = some (.type "function")
  kC : keepIn K (.ref C) = true
  exC : subIn K (.ref C) (.type "BaseException") = some true
  veC : subIn K (.ref C) (.type "ValueError") = some true
  tyC : typeIn K (.ref C) = some (.type "type")
  mro : mroIn K C (.ref C) = some true
  sup : ks_superIn K C C "__init__" = some (some (.builtin "ValueError.__init__"))
  opq : nsIn K cStatics "thirdparty.any" = some none
  fn : ∃ (oc : Value) (od : Option Addr) (osl : Array (Option Value)) (kV doc pm : Value) (an : Option Addr) (cda : Addr) (ct : Value) (cc : Addr) (ccl : Value) (cdd : Option Addr) (cvs : Array Value) (ccs : Array (Option Value)) (file : Str) (tf : Tok) (cl : Value) (cld : Option Addr) (csl : Array (Option Value)),
    K.lookup fI = some ⟨oc, od, .func (ksFn "__init__" qual params body scope .none kV doc pm an (.ref cda) ct cc), osl⟩ ∧ codeIn K (.ref cda) qual = true ∧
    K.lookup cda = some ⟨ccl, cdd, .fields cvs, ccs⟩ ∧ cvs[2]? = some (.str file tf) ∧ ((prog.main.file : Str) == file) = true ∧ K.lookup cc = some ⟨cl, cld, .cell (some (.ref C)), csl⟩
structure InitEnd (h h' : Heap) (x C dx t1 : Addr) (l : List StP) (vs : List Value) : Prop where
  keep : ∀ b o, b ≠ x → h.get? b = some o → h'.get? b = some o
  obj : h'.get? x = some { cls := .ref C, dict := some dx, data := .fields #[.ref t1, .none, .none, .none, .bool false, .none] }
  dbig : h.objs.size ≤ dx
  dne : dx ≠ x
  ns : h'.Ns1 dx (putAll ((l.map (·.f)).zip vs) fun _ => none)

section
variable {prog : Program} {w : World} {A : Around} {E : Value → Shared → Prop} {R : Result → Shared → Prop} {s : Shared} {K : Frag} {mg mb : Str → Option Value} {C fI : Addr} {qual : Str} {params : Arguments} {scope : Scope} {msg : Expr} {p0 p1 p2 p3 p4 : Pos} {z0 : StP} {l : List StP}
/-- what the places of the text decide -/
structure SupPos (qual : Str) (scope : Scope) (fI : Addr) (msg : Expr) (p0 p1 p2 p3 p4 : Pos) : Prop where
  ev : ∀ (L : Addr) (cda cc : Addr), ∃ pl : Sem Bool, eval (.Call (.Attribute (.Call (.Name "super" p0) [] [] p1) "__init__" p2) [msg] [] p3) (ksEnv qual scope L fI (.ref cda) cc) = (do
      let ov ← attributeBase (.Call (.Name "super" p0) [] [] p1) "__init__" (ksEnv qual scope L fI (.ref cda) cc) (eval (.Call (.Name "super" p0) [] [] p1) (ksEnv qual scope L fI (.ref cda) cc))
      standAt p2.atName
      let (f, first) ← holding [ov] (getMethod ov "__init__" pl)
      callWith p3 f first (backTo p3 (starEach [msg] (ksEnv qual scope L fI (.ref cda) cc))) [])
  it : ∀ (L : Addr) (cda cc : Addr), interactive (ksEnv qual scope L fI (.ref cda) cc) = false
  st : ∀ (L : Addr) (cda cc : Addr), backTo p3 (starEach [msg] (ksEnv qual scope L fI (.ref cda) cc)) = [(false, eval msg (ksEnv qual scope L fI (.ref cda) cc))]
theorem sup_init (PP : SupPos qual scope fI msg p0 p1 p2 p3 p4) (T : SupTxt prog K C fI qual params (iB msg p0 p1 p2 p3 p4 (z0 :: l)) scope (z0 :: l)) (S : SupScope scope (z0 :: l)) (htop : (prog.main.scope.names.lookup ("super" : Str)).isSome = false)
    (hhead : ∃ ar : Arg, (params.posonlyargs ++ params.args).head? = some ar ∧ ar.arg = "self")
    (hbind : ∀ (kV doc pm : Value) (an : Option Addr) (cda : Addr) (ct : Value) (cc : Addr) (us : List Value), us.length = l.length + 2 →
      bindArgs (ksFn "__init__" qual params (iB msg p0 p1 p2 p3 p4 (z0 :: l)) scope .none kV doc pm an (.ref cda) ct cc) ⟨us, []⟩ = pure ((("self" : Str) :: (z0 :: l).map (·.f)).zip us))
    {x t0 : Addr} {vs : List Value} (X : K.In s.heap) (hlim : s.heap.NoLimit) (hG : s.heap.Ns mainGlobals mg) (gs : mg "super" = none) (hB : s.heap.Ns builtinsNs mb) (bsup : mb "super" = some (.type "super"))
    (hl : vs.length = l.length + 1) (hx : s.heap.get? x = some (excO C t0)) (hnx : K.lookup x = none) (hroom : A.depth < recursionLimit) (hl2 : l.length ≤ 800)
    (hmsg : ∀ (L cda cc : Addr), MsgOk prog w (ksEnv qual scope L fI (.ref cda) cc) (fun y => (((("self" : Str) :: (z0 :: l).map (·.f)).zip (.ref x :: vs)).reverse).lookup y) msg)
    (hq : ∀ h' tk dx t1, InitEnd s.heap h' x C dx t1 (z0 :: l) vs → R (.ok (.ret .none)) { s with heap := h', toks := tk }) :
    codeAny (model prog w) A (.call (.ref fI) ⟨.ref x :: vs, []⟩) R s := by
  obtain ⟨oc, od, osl, kV, doc, pm, an, cda, ct, cc, ccl, cdd, cvs, ccs, file, tf, cl, cld, csl, ho, hcd, hcode, hvs, hfile, hcell⟩ := T.fn
  obtain ⟨nm, q, N, bs, bm, sn, sub, ab, col, dd, k0, k1, k2, k3, k5, hC, hbm⟩ := T.cls
  have hcl : clsIn K C = some { name := nm, bases := bs, mro := .ref C :: bm, ns := N, qualname := q, hasDict := true, slotNames := sn, subclasses := sub, abstract := ab, collection := col, hasDel := false } := by unfold clsIn; rw [hC] <;> rfl
  obtain ⟨ar, har, hself⟩ := hhead
  have hlen : (Value.ref x :: vs).length = l.length + 2 := by rw [List.length_cons, hl]
  have hzl : ((("self" : Str) :: (z0 :: l).map (·.f)).zip (Value.ref x :: vs)).map (·.1) = ("self" : Str) :: (z0 :: l).map (·.f) := by
    rw [← List.unzip_fst, List.unzip_zip (by rw [hlen]; simp)]
  have hnd : (((("self" : Str) :: (z0 :: l).map (·.f)).zip (Value.ref x :: vs)).map (·.1)).Nodup := by rw [hzl]; exact S.nd
  have hm0 : ((("self" : Str) :: (z0 :: l).map (·.f)).zip (Value.ref x :: vs)).reverse.lookup ("self" : Str) = some (.ref x) := lookup_rev hnd List.mem_cons_self
  have hmi : ∀ (i : Nat) (z : StP) (v : Value), (z0 :: l)[i]? = some z → vs[i]? = some v → ((("self" : Str) :: (z0 :: l).map (·.f)).zip (Value.ref x :: vs)).reverse.lookup z.f = some v := fun i z v h1 h2 => by
    refine lookup_rev hnd (List.mem_cons_of_mem _ ?_)
    refine List.mem_iff_getElem?.mpr ⟨i, ?_⟩
    exact List.getElem?_zip_eq_some.mpr ⟨by rw [List.getElem?_map, h1]; rfl, h2⟩
  refine ks_codeAny_call_defAt (fd := ksFn "__init__" qual params (iB msg p0 p1 p2 p3 p4 (z0 :: l)) scope .none kV doc pm an (.ref cda) ct cc) (body := iB msg p0 p1 p2 p3 p4 (z0 :: l)) (binds := (("self" : Str) :: (z0 :: l).map (·.f)).zip (Value.ref x :: vs)) hroom (X _ _ ho) rfl hlim (codeRec_of X hcd) rfl (BindsTo.of_eq (hbind kV doc pm an cda ct cc _ hlen)) S.cell (fun y hy => ?_) (fun h₁ hns k => ?_) S.co S.gen S.kind
  · have hy1 : y.1 ∈ ("self" : Str) :: (z0 :: l).map (·.f) := (List.of_mem_zip (a := y.1) (b := y.2) hy).1
    rcases List.mem_cons.mp hy1 with e | e
    · rw [e]; exact S.self
    · obtain ⟨z, hz, e2⟩ := List.mem_map.mp e
      rw [← e2]; exact (S.loc z hz).1
  · obtain ⟨hh, g, d, t, os⟩ := s
    have X₁ : K.In h₁ := X.keeps k
    have hx₁ := k _ _ hx
    have hxL : x ≠ hh.objs.size := Nat.ne_of_lt (Heap.lt_size hx)
    show _root_.PySem.wpAt (model prog w) (A.deeper (ksEnv qual scope hh.objs.size fI (.ref cda) cc)) (.func _ (ksEnv qual scope hh.objs.size fI (.ref cda) cc)) (execs (iB msg p0 p1 p2 p3 p4 (z0 :: l)) (ksEnv qual scope hh.objs.size fI (.ref cda) cc)) _ _ _
    obtain ⟨pl, hev⟩ := PP.ev hh.objs.size cda cc
    refine ks_wpAt_execs_cons (ks_wpAt_Expr_any (ks_wpAt_MethodCall (pl := pl) ?_ hev) (PP.it _ _ _))
    have I₁ : InstAt h₁ x (excO C t0) C none := ⟨hx₁, rfl, rfl, trivial⟩
    refine ks_wpAt_super_base (env := ksEnv qual scope hh.objs.size fI (.ref cda) cc) S.sup S.clsv (by decide) rfl (X₁ _ _ ho) rfl har rfl (X₁ _ _ hcode) rfl hvs hfile htop ?_
    refine ks_loadName_global S.kind S.sup (loadGlobal_builtin (env := ksEnv qual scope hh.objs.size fI (.ref cda) cc) (hG.keeps k) gs (hB.keeps k) bsup ⟨rfl, ?_⟩)
    refine wpAny_loadName_free S.kind S.clsv rfl ⟨_, X₁ _ _ hcell, rfl⟩ ?_
    rw [hself]
    refine wpAny_loadName_local S.kind S.self hns hm0 ?_
    refine ks_wpAny_isType_cls (X₁ _ _ hC) rfl ⟨rfl, ?_⟩
    refine ks_wpAny_call_super (X₁ _ _ hC) rfl I₁.at_ I₁.cls (fun c e => by cases e) (looks_mroIn X₁ T.mro) (fun h₂ e₂ k₂ => ?_)
    have X₂ : K.In h₂ := X₁.keeps k₂
    have I₂ : InstAt h₂ x (excO C t0) C none := ⟨k₂ _ _ hx₁, rfl, rfl, trivial⟩
    have hsup := T.sup
    unfold ks_superIn at hsup
    rw [hcl] at hsup
    refine kxs_getMethod kxs_ValueError e₂ (looks_opaque X₂ T.opq) (l₀ := .ref C :: bm) (fun A Q E s k q => wpAny_bind ((looks_clsIn X₂ hcl) A _ E s k (wpAny_pure q))) rfl X₂ hsup (I₂.type.andThen (looks_subIn X₂ T.veC)) (ks_ne X₂ I₂ hcl) (by decide) ?_
    rw [PP.st]
    refine kxs_callWith (i := "ValueError.__init__") (x := x) (by rfl) (evalArgs_plain ?_)
    obtain ⟨oL, esL, epL, hL, hrL⟩ := hns
    have k₃ : ∀ b o, h₂.get? b = some o → (h₂.push (kxs_mw "ValueError.__init__" x)).get? b = some o := fun b o e => Heap.get?_push_of_some _ e
    refine spliced_cons ?_
    refine hmsg hh.objs.size cda cc _ _ _ _ ⟨oL, esL, epL, k₃ _ _ (k₂ _ _ hL), hrL⟩ fun v tk => ?_
    refine spliced_nil ?_
    have hmw : (h₂.push (kxs_mw "ValueError.__init__" x)).get? h₂.objs.size = some (kxs_mw "ValueError.__init__" x) := Heap.get?_push_at rfl rfl
    refine ⟨hmw, ?_⟩
    have X₃ : K.In (h₂.push (kxs_mw "ValueError.__init__" x)) := X₂.keeps k₃
    refine call_mw (X₃ _ _ hC) hbm (k₃ _ _ I₂.at_) hmw (by show 1 ≤ sizeLine; rw [sizeLine_eq]; decide) fun h₄ t₄ k₄ e₄ => ?_
    have kx : ∀ b o, b ≠ x → h₁.get? b = some o → h₄.get? b = some o := fun b o hb e => k₄ b o hb (k₃ _ _ (k₂ _ _ e))
    refine wpAt_of_wpAny ?_
    have hn₄ : h₄.Ns hh.objs.size (fun y => (((("self" : Str) :: (z0 :: l).map (·.f)).zip (Value.ref x :: vs)).reverse).lookup y) := ⟨oL, esL, epL, kx _ _ (Ne.symm hxL) hL, hrL⟩
    have X₄ : K.In h₄ := fun b o e => kx b o (fun q => by rw [q, hnx] at e; cases e) (X₁ b o e)
    cases vs with
    | nil => cases hl
    | cons v0 vr =>
      obtain ⟨l1, l2⟩ := S.loc z0 List.mem_cons_self
      show wpAny _ _ (execs (stB (z0 :: l)) _) _ _ _
      refine wpAny_execs_cons (plainObj_wpAny_Assign_Attribute ?_)
      refine ldK hn₄ (hmi 0 z0 v0 rfl rfl) ?_ S.kind l1 l2
      refine ldK hn₄ hm0 ?_ S.kind S.self (by decide)
      refine set_plain X₄ (ox := excO C t₄) (od := none) ⟨e₄, rfl, rfl, trivial⟩ T.sa ?_
      refine exc_osa X₄ e₄ hcl (show refsVE (.ref C :: bm) = true from hbm) rfl (T.noat z0 List.mem_cons_self) fun h₅ tk₅ dx k₅ dn dne hx₅ hn₅ => ?_
      have dL : dx ≠ hh.objs.size := fun q => by
        have z := Heap.lt_size (kx _ _ (Ne.symm hxL) hL)
        rw [← q] at z
        exact absurd (Nat.lt_of_lt_of_le z dn) (Nat.lt_irrefl _)
      have sz : hh.objs.size ≤ dx := Nat.le_trans (Nat.le_of_lt (Heap.lt_size (kx _ _ (Ne.symm hxL) hL))) dn
      have dK : K.lookup dx = none := by
        cases e : K.lookup dx with
        | none => rfl
        | some o => exact absurd (Nat.lt_of_lt_of_le (Heap.lt_size (X₄ _ _ e)) dn) (Nat.lt_irrefl _)
      have X₅ : K.In h₅ := fun b o e => k₅ b o (fun q => by rw [q, hnx] at e; cases e) (X₄ b o e)
      refine stores_old S.kind hcl (show refsVE (.ref C :: bm) = true from hbm) rfl T.sa hm0 S.self hxL dL hnx dK (Ne.symm dne) l vr ⟨h₅, g, d, tk₅, os⟩ _ [z0.f] (by simpa using hl) X₅ ⟨oL, esL, epL, k₅ _ _ (Ne.symm hxL) (kx _ _ (Ne.symm hxL) hL), hrL⟩ hx₅ hn₅ ?_ (by show 1 + l.length ≤ 900; omega)
        (fun z hz => ⟨(S.loc z (List.mem_cons_of_mem _ hz)).1, (S.loc z (List.mem_cons_of_mem _ hz)).2, T.noat z (List.mem_cons_of_mem _ hz)⟩) (fun i z u e1 e2 => hmi (i + 1) z u e1 e2) fun h₆ t₆ k₆ n₆ => ?_
      · intro y hy
        by_cases e : y = z0.f
        · rw [e]; exact List.mem_cons_self
        · have hy2 : (if y = z0.f then some v0 else none) ≠ none := hy
          rw [if_neg e] at hy2
          exact absurd rfl hy2
      · refine hq h₆ t₆ dx t₄ ⟨fun b o hb e => ?_, k₆ _ _ (Ne.symm dne) hx₅, sz, dne, n₆⟩
        have hbd : b ≠ dx := fun q => by
          have z := Heap.lt_size e
          rw [q] at z
          exact absurd (Nat.lt_of_lt_of_le z sz) (Nat.lt_irrefl _)
        exact k₆ _ _ hbd (k₅ _ _ hb (kx _ _ hb (k _ _ e)))

/-- a made one -/
structure Made (h h' : Heap) (e C d : Addr) (fs : List Str) (us : List Value) : Prop where
  keep : ∀ b o, h.get? b = some o → h'.get? b = some o
  new : h.objs.size ≤ e
  obj : ∃ oe vs, h'.get? e = some oe ∧ oe.cls = .ref C ∧ oe.dict = some d ∧ oe.data = .fields vs ∧ vs[1]? = some .none
  dbig : h.objs.size ≤ d
  dne : d ≠ e
  ns : h'.Ns1 d (putAll (fs.zip us) fun _ => none)
theorem sup_made (PP : SupPos qual scope fI msg p0 p1 p2 p3 p4) (T : SupTxt prog K C fI qual params (iB msg p0 p1 p2 p3 p4 (z0 :: l)) scope (z0 :: l)) (S : SupScope scope (z0 :: l)) (htop : (prog.main.scope.names.lookup ("super" : Str)).isSome = false)
    (hhead : ∃ ar : Arg, (params.posonlyargs ++ params.args).head? = some ar ∧ ar.arg = "self")
    (hbind : ∀ (kV doc pm : Value) (an : Option Addr) (cda : Addr) (ct : Value) (cc : Addr) (us : List Value), us.length = l.length + 2 →
      bindArgs (ksFn "__init__" qual params (iB msg p0 p1 p2 p3 p4 (z0 :: l)) scope .none kV doc pm an (.ref cda) ct cc) ⟨us, []⟩ = pure ((("self" : Str) :: (z0 :: l).map (·.f)).zip us))
    {vs : List Value} (X : K.In s.heap) (hlim : s.heap.NoLimit) (hG : s.heap.Ns mainGlobals mg) (gs : mg "super" = none) (hB : s.heap.Ns builtinsNs mb) (bsup : mb "super" = some (.type "super"))
    (hl : vs.length = l.length + 1) (hroom : A.depth + 1 < recursionLimit) (hl2 : l.length ≤ 800)
    (hmsg : ∀ (x L cda cc : Addr), MsgOk prog w (ksEnv qual scope L fI (.ref cda) cc) (fun y => (((("self" : Str) :: (z0 :: l).map (·.f)).zip (.ref x :: vs)).reverse).lookup y) msg)
    (hq : ∀ h' tk e d, Made s.heap h' e C d ((z0 :: l).map (·.f)) vs → R (.ok (.ret (.ref e))) { s with heap := h', toks := tk }) :
    codeAny (model prog w) A (.call (.ref C) ⟨vs, []⟩) R s := by
  obtain ⟨nm, q, N, bs, bm, sn, sub, ab, col, dd, k0, k1, k2, k3, k5, hC, hbm⟩ := T.cls
  obtain ⟨hp, g, dr, tk, os⟩ := s
  have k : ∀ b o, hp.get? b = some o → ((hp.push (kdv_tup vs)).push (excO C hp.objs.size)).get? b = some o := fun b o e => Heap.get?_push_of_some _ (Heap.get?_push_of_some _ e)
  have hget : ((hp.push (kdv_tup vs)).push (excO C hp.objs.size)).get? (hp.objs.size + 1) = some (excO C hp.objs.size) := by heap_get
  have hnx : K.lookup (hp.objs.size + 1) = none := by
    cases e : K.lookup (hp.objs.size + 1) with
    | none => rfl
    | some o =>
      have z : hp.get? (hp.objs.size + 1) = some o := X _ _ e
      exact absurd (Nat.lt_of_succ_lt (Heap.lt_size z)) (Nat.lt_irrefl _)
  have hvl : vs.length ≤ sizeLine := by
    rw [sizeLine_eq]
    omega
  refine call_own F.excBase_ValueError (fun X => refsVE_contains X bm hbm) (X _ _ hC) (looks_findIn X T.iC) (fun self => bind_fn X self T.tC) hvl ?_
  refine sup_init (s := ⟨(hp.push (kdv_tup vs)).push (excO C hp.objs.size), g, dr, tk, os⟩) PP T S htop hhead hbind (X.keeps k) (hlim.keeps k) (hG.keeps k) gs (hB.keeps k) bsup hl hget hnx ?_ hl2 (hmsg _) fun h' tk' dx t1 M => ?_
  · show A.depth + 1 < recursionLimit
    exact hroom
  · have dn : ((hp.push (kdv_tup vs)).push (excO C hp.objs.size)).objs.size ≤ dx := M.dbig
    have old : ∀ b o, hp.get? b = some o → h'.get? b = some o := fun b o e => M.keep b o (Nat.ne_of_lt (Nat.lt_succ_of_lt (Heap.lt_size e))) (k b o e)
    rw [Heap.size_push, Heap.size_push] at dn
    exact ⟨rfl, hq h' tk' (hp.objs.size + 1) dx ⟨old, Nat.le_succ _, ⟨_, _, M.obj, rfl, rfl, rfl, rfl⟩, (by show hp.objs.size ≤ dx; omega), M.dne, M.ns⟩⟩
end
/-- a class that is made by C(..): what its caller needs -/
structure SupCls (prog : Program) (w : World) (K : Frag) (mg : Str → Option Value) (x : Str) (C : Addr) (fs : List Str) (P : List L2.V → Prop) : Prop where
  gC : mg x = some (.ref C)
  gs : mg "super" = none
  kC : keepIn K (.ref C) = true
  exC : subIn K (.ref C) (.type "BaseException") = some true
  tyC : typeIn K (.ref C) = some (.type "type")
  made : ∀ (A : Around) (s : Shared) (R : Result → Shared → Prop) (mb : Str → Option Value) (vs : List L2.V) (us : List Value), L2.Vals vs us → P vs → vs.length = fs.length → K.In s.heap → s.heap.NoLimit → s.heap.Ns mainGlobals mg → s.heap.Ns builtinsNs mb → mb "super" = some (.type "super") → A.depth + 1 < recursionLimit →
    (∀ h' tk e d, Made s.heap h' e C d fs us → R (.ok (.ret (.ref e))) { s with heap := h', toks := tk }) → codeAny (model prog w) A (.call (.ref C) ⟨us, []⟩) R s
end SupX
end PySem
namespace L2
open PySem PySem.Spec PyProof.Rows
/-- the fields, the last one first -/
def xfs : List Str → List V → List (Str × V) → List (Str × V)
  | f :: fs, v :: vs, acc => xfs fs vs ((f, v) :: acc)
  | _, _, acc => acc
theorem xfs_ok : ∀ {fs : List Str} {vs : List V} {us : List Value} {acc : List (Str × V)} {m : Str → Option Value}, Vals vs us → (∀ f, RelO (acc.lookup f) (m f)) → ∀ f, RelO ((xfs fs vs acc).lookup f) (PySem.SupX.putAll (fs.zip us) m f)
  | [], _, _, _, _, _, r => r
  | _ :: _, [], _, _, _, .nil, r => r
  | g :: fs, v :: vs, _ :: us, acc, m, .cons rv rt, r => xfs_ok (fs := fs) rt (relO_put rv r)
section
variable {X : Cx} {C : Addr} {x : Str} {fs : List Str} {P : List V → Prop}
/-- C(e, ..) -/
def tMkSup (C : Addr) (fs : List Str) (P : List V → Prop) (ta : TA) : St → Hp → XK → Prop := fun σ H Q => ta σ H fun vs H1 => P vs ∧ vs.length = fs.length ∧ ∀ d, H1 d = none → Q (.ref C) (some d) (upd H1 d (.xd (xfs fs vs [])))
theorem pmk_sup {e : Expr} {es : List Expr} {ta : TA} {p pos : Pos} {k : Nat} (T : PySem.SupX.SupCls X.prog X.w X.K X.mg x C fs P) (hr : Room k X.A) (ha : PA X (e :: es) ta) (hg : Gl X x := by rfl) (hx : (x == ("__debug__" : Str)) = false := by decide)
    (he : starEach (e :: es) X.env = (false, eval e X.env) :: starEach es X.env := by rfl) (hpl : (backTo pos (starEach es X.env)).any (·.1) = false := by rfl) :
    PMk X (.Call (.Name x p) (e :: es) [] pos) (tMkSup C fs P ta) := by
  intro pins s σ H Q I h
  refine wpAny_Call_Name_kw (ld_glob I hg T.gC ?_ hx)
  refine PySem.W.callWith_K (h₀ := X.base) I.ok.mod.kin T.kC (thn (ha.run pos pins s σ H _ I h) fun us s1 hh => ?_) he hpl
  obtain ⟨vs, H1, I1, r1, hP, hl, q1⟩ := hh
  refine ⟨I1.kIn, ?_⟩
  show wpAny _ _ (call (.ref C) us) _ _ _
  have hlim := I1.nolimit
  obtain ⟨mb, hb1, hb2⟩ := I1.mod.blt
  have hG : s1.heap.Ns mainGlobals X.mg := I1.mod.glob.keeps I1.bk
  have hB : s1.heap.Ns builtinsNs mb := hb1.keeps I1.bk
  obtain ⟨hp, g, dr, tk, os⟩ := s1
  refine wpAny_call (T.made _ _ _ mb vs us r1 hP hl I1.kIn hlim hG hB ((hb2 _ (by decide)).trans (by decide +kernel)) (by have := hr.dp; omega) fun h' tk' e d M => ?_)
  show MkP X pins σ Q (.ref e) ⟨h', g, dr, tk', os⟩
  obtain ⟨oe, fv, hoe, hc, hd, hdat, h1⟩ := M.obj
  have hns := M.ns
  obtain ⟨G', g1, g2⟩ := restrict h' fun b => decide (b ≠ e)
  have gk : ∀ b, b ≠ e → G'.get? b = h'.get? b := fun b hb => g1 b (decide_eq_true hb)
  have ge : G'.get? e = none := g2 e (by simp)
  have old : ∀ b o, hp.get? b = some o → G'.get? b = some o := fun b o q => (gk b (Nat.ne_of_lt (Nat.lt_of_lt_of_le (Heap.lt_size q) M.new))).trans (M.keep b o q)
  have ob : ObjOk X.prog X.w (upd H1 d (.xd (xfs fs vs []))) G' d (.xd (xfs fs vs [])) :=
    ⟨_, hns.at (fun o q => (gk d M.dne).trans q), fun f => xfs_ok (acc := []) (m := fun _ => none) r1 (fun _ => True.intro) f⟩
  have J : Inv X pins σ (upd H1 d (.xd (xfs fs vs []))) ⟨G', g, dr, tk', os⟩ := I1.laid (t' := tk') old M.dbig ob
  refine ⟨e, oe, fv, ⟨G', g, dr, tk', os⟩, _, .ref C, some d, rfl, J, fun b o q => ?_, ge, hoe, ⟨hc, hd⟩, hdat, h1, ?_, rfl, I1.bare, raises_own T.exC T.tyC, q1 d (I1.hok.fresh M.dbig)⟩
  · by_cases hb : b = e
    · have q' : G'.get? b = some o := q
      rw [hb, ge] at q'
      cases q'
    · exact (gk b hb).symm.trans q
  · rw [upd_ne (Ne.symm M.dne)]
    exact I1.hok.fresh M.new
/-- raise C(e, ..) -/
def tRaiseSup (C : Addr) (fs : List Str) (P : List V → Prop) (W : WX) (ta : TA) : TS := fun _ σ H => tMkSup C fs P ta σ H fun cls d H' => W cls d σ H'
theorem ps_raiseSup {e : Expr} {es : List Expr} {ta : TA} {W : WX} {p pos pos2 : Pos} {k : Nat} (hc : X.calm = true) (T : PySem.SupX.SupCls X.prog X.w X.K X.mg x C fs P) (hr : Room k X.A) (tk : Takes X W) (ha : PA X (e :: es) ta) (hg : Gl X x := by rfl) (hx : (x == ("__debug__" : Str)) = false := by decide)
    (he : starEach (e :: es) X.env = (false, eval e X.env) :: starEach es X.env := by rfl) (hpl : (backTo pos (starEach es X.env)).any (·.1) = false := by rfl) :
    PS X (.Raise (some (.Call (.Name x p) (e :: es) [] pos)) none pos2) (tRaiseSup C fs P W ta) := ps_raise hc tk (pmk_sup T hr ha hg hx he hpl)
end
end L2
end
section
set_option Elab.async false
set_option linter.all false
set_option maxRecDepth 100000
set_option maxHeartbeats 2000000
/-! enumerate(t), t a tuple. -/
namespace PySem
theorem meets_enum_oneB {v : Value} {o : Obj} {H : Heap → Prop} (B : Begins v o H) :
    Meets (Builtin.«enumerate.__new__» ⟨[.type "enumerate", v], []⟩) (fun _ R s => H s.heap ∧
      R (.ok (.ret (.ref (s.heap.push o).objs.size))) { s with heap := (s.heap.push o).push { cls := .type "enumerate", data := .fields #[.none, .bool false, .ref s.heap.objs.size, rawInt 0, .none, .none] } }) :=
  .of_wp fun prog w A R s hh => by
    obtain ⟨hp, g, d, tk, os⟩ := s
    obtain ⟨hb, hr⟩ := hh
    have hsub := sub_enumerate
    have begun : ∀ {A' : Around} {E : Value → Shared → Prop} {Q : Value → Shared → Prop}, Q (.ref hp.objs.size) ⟨hp.push o, g, d, tk, os⟩ → wpAny (model prog w) A' (pyIter v) Q E ⟨hp, g, d, tk, os⟩ :=
      fun q => B.iter prog w _ _ ⟨hp, g, d, tk, os⟩ _ hb q
    wp_walk using begun
    refine wpAny_stack_any fun st => wpAny_pure ?_
    split
    · rename_i c _ _ _ _ _
      cases (c == Value.type "enumerate")
      all_goals
        wp_walk using begun
        exact ⟨_, rfl, hr⟩
    · wp_walk using begun
      exact ⟨_, rfl, hr⟩
section
variable {prog : Program} {w : World} {A : Around} {E : Value → Shared → Prop} {s : Shared}
theorem enum_begins1 {v : Value} {o : Obj} {H : Heap → Prop} {Q : Value → Shared → Prop} (B : Begins v o H) (h1 : H s.heap)
    (h : ∀ h', IsEnum h' (s.heap.objs.size + 1) s.heap.objs.size 0 .none → h'.get? s.heap.objs.size = some o → h'.objs.size = s.heap.objs.size + 2 →
      (∀ b o, s.heap.get? b = some o → h'.get? b = some o) → Q (.ref (s.heap.objs.size + 1)) { s with heap := h' }) :
    wpAny (model prog w) A (call (.type "enumerate") [v]) Q E s := by
  refine callType_new F.called_enumerate (by decide) (F.typeCall_enumerate_1 _) (F.newCall_enumerate_1 _) (fun obj => F.args_object_init_2 obj _) F.entry_enumerate_new (meets_enum_oneB B) ⟨h1, ?_⟩
  have hz : (s.heap.push o).objs.size = s.heap.objs.size + 1 := Heap.size_push ..
  show _ ∧ _
  rw [hz]
  have he : IsEnum ((s.heap.push o).push { cls := .type "enumerate", data := .fields #[.none, .bool false, .ref s.heap.objs.size, rawInt 0, .none, .none] }) (s.heap.objs.size + 1) s.heap.objs.size 0 .none := by
    have q := Heap.get?_push_size (s.heap.push o) (o := { cls := .type "enumerate", data := .fields #[.none, .bool false, .ref s.heap.objs.size, rawInt 0, .none, .none] }) rfl
    rw [hz] at q
    exact q
  exact ⟨⟨_, he, rfl⟩, h _ he (Heap.get?_push_of_some _ (Heap.get?_push_size _ B.free)) (by rw [Heap.size_push, hz]) fun b o x => Heap.get?_push_of_some _ (Heap.get?_push_of_some _ x)⟩
theorem enum_endT {e it l : Addr} {i : Nat} {items : Array Value} {c : Int} {old : Value} {Q : Option Value → Shared → Prop} (hh : A.in1.handled = none)
    (he : IsEnum s.heap e it c old) (hit : s.heap.IsTupleIter it l i) (hl : s.heap.IsTuple l items) (hx : items[i]? = none)
    (hQ : ∀ h', Heap.ExtBut it s.heap h' → Q none { s with heap := h' }) : wpAny (model prog w) A (pyNext (.ref e)) Q E s := by
  have ht : s.TypeIs (.ref e) "enumerate" := ⟨_, he, rfl⟩
  unfold pyNext
  refine wpAny_bind (wpAny_attempt (wpAny_callSpecial?_slot (name := Str.ofString "__next__") ht F.slot_enumerate_next
    (wpAny_call_entry F.slot_enumerate_next ht F.entry_enumerate_next ?_ (F.args_enumerate_next_1 _))))
  show wpAny _ _ (field (.ref e) 2 >>= _) _ _ _
  refine wpAny_bind (wpAny_field he rfl (x := .ref it) rfl (wpAny_bind (wpAny_nextOf_tuple_end hh hit hl hx fun h' x he' hx' => ?_)))
  obtain ⟨o, ho, hc⟩ := hx'
  refine wpAny_bind (wpAny_isInstance (T := "StopIteration") (b := true) ⟨o, ho, hc⟩ isSubtype_stop ?_)
  exact wpAny_pure (hQ _ he')
end
end PySem
namespace L2
open PySem PySem.Spec PyProof.Rows
/-- the tuple at a as it stands at each turn, each item in a new pair -/
def IteT (K : PySem.W.Frag) (a : Addr) : It :=
  ⟨fun i H => ∃ (xs : List V) (x : V), SqT K H a xs ∧ xs[i]? = some x, fun i H v H' => ∃ T x, v = .ref T ∧ H T = none ∧ H' = upd H T (.tup [.int (i : Nat), x]) ∧ ∀ xs, SqT K H a xs → xs[i]? = some x, fun i H => ∃ xs : List V, SqT K H a xs ∧ xs.length ≤ i⟩
theorem turn_enumT {P : Program} {w : World} {K : PySem.W.Frag} {elts : List Expr} {kk : Nat} {tpos : Pos} (a e it : Addr) (ha : a ≠ it) (hae : a ≠ e) :
    Turn P w K (.Tuple elts kk tpos) (IteT K a) [e, it] e (fun i h => (∃ old, IsEnum h e it ((i : Nat) : Int) old) ∧ h.IsTupleIter it a i ∧ e ≠ it) where
  mem := by simp
  obj := fun i h st b hb => by
    obtain ⟨⟨old, he⟩, ⟨o, ho, hc, hd⟩, _⟩ := st
    have e' : b = e ∨ b = it := by simpa using hb
    rcases e' with z | z
    · rw [z]; exact ⟨_, he, fun v q => nomatch q⟩
    · rw [z]; exact ⟨o, ho, fun v q => by rw [hd] at q; cases q⟩
  keep := fun i h h' st k => let ⟨⟨old, he⟩, hi, hne⟩ := st; ⟨⟨old, k e (by simp) _ he⟩, hi.at fun o q => k it (by simp) o q, hne⟩
  item := by
    intro X hP hw hK hc i pins s σ H E I hf st hg
    subst hP hw hK
    obtain ⟨⟨old, he⟩, hit, hne⟩ := st
    obtain ⟨xs, x, hq, hx⟩ := hg
    obtain ⟨its, rv, p, hz⟩ := I.tuple hq
    obtain ⟨u, hu, ru⟩ := rv.get hx
    have hil : i < its.toArray.size := by
      have z := (List.getElem?_eq_some_iff.mp hu).1
      simpa using z
    have D := Draws.tuple (prog := X.prog) (w := X.w) (A := X.A.in1) (I.ok.hd hc) it a ha its.toArray
    have hel : e < s.heap.objs.size := Heap.lt_size he
    have hill : it < s.heap.objs.size := by obtain ⟨_, q, _⟩ := hit; exact Heap.lt_size q
    refine wpAny_pyNext_enum_itemD D he ⟨hit, p⟩ hil hne (by simp [hne, Ne.symm hae]) fun x1 h' tk hP ho hit' hT hsz hk => ?_
    obtain rfl : x1 = u := by
      have z : its.toArray[i]? = some x1 := hP
      have z2 : its[i]? = some x1 := by simpa using z
      rw [hu] at z2
      exact (Option.some.inj z2).symm
    refine ⟨_, rfl, wpAny_letOwnedTupleGo_enum (s := { s with heap := h', toks := tk + 1 }) ho fun h'' he' sb => ?_⟩
    have hT2 : h''.get? s.heap.objs.size = some { cls := .type "tuple", data := .seq #[.int i tk, x1] } := (sb.2 _ (Nat.ne_of_gt hel)).trans hT
    have new : ObjOk X.prog X.w (upd H s.heap.objs.size (.tup [.int (i : Nat), x])) h'' s.heap.objs.size (.tup [.int (i : Nat), x]) :=
      ⟨by show 2 ≤ sizeLine; decide, [.int i tk, x1], .cons ⟨_, rfl⟩ (.cons ru .nil), ⟨_, hT2, rfl, _, rfl⟩⟩
    have I1 : Inv X pins σ (upd H s.heap.objs.size (.tup [.int (i : Nat), x])) { s with heap := h'', toks := tk + 1 } :=
      I.turnedNew (ch := [e, it]) (fun b ob hb q => (sb.2 b (fun z => hb (by simp [z]))).trans (hk b ob (fun z => hb (by simp [z])) (fun z => hb (by simp [z])) q)) hf (Nat.le_refl _) new
    refine ⟨.ref s.heap.objs.size, _, I1, rfl, ⟨_, x, rfl, I.hok.fresh (Nat.le_refl _), rfl, fun ys hy => by rw [I.tuple_inj hy hq]; exact hx⟩, ⟨⟨x1, ?_⟩, hit'.1.at fun o q => (sb.2 it (Ne.symm hne)).trans q, hne⟩, fun b hb => ?_⟩
    · have e1 : ((i + 1 : Nat) : Int) = (i : Int) + 1 := by omega
      rw [e1]; exact he'
    · have hb' : b < s.heap.objs.size := by
        have e' : b = e ∨ b = it := by simpa using hb
        rcases e' with z | z
        · rw [z]; exact hel
        · rw [z]; exact hill
      rw [upd_ne (Nat.ne_of_lt hb')]
      exact (hf b hb).1
  done := by
    intro X hP hw hK hc i pins s σ H E I hf st hg
    subst hP hw hK
    obtain ⟨⟨old, he⟩, hit, hne⟩ := st
    obtain ⟨xs, hq, hx⟩ := hg
    obtain ⟨its, rv, p, hz⟩ := I.tuple hq
    obtain ⟨f0, f1, f2, f3, f4, f5⟩ := hf it (by simp)
    have hl := rv.length
    exact enum_endT (I.ok.hd hc) he hit (show s.heap.IsTuple a its.toArray from p) (by simp; omega) fun h' eb => ⟨rfl, I.turned (t' := s.toks) (fun b o hb q => eb b o hb q) f0 f1 f3 f4 f5⟩
  self := fun A i s Q E st h => let ⟨⟨_, he⟩, _⟩ := st; wpAny_pyIter_enum he h
def iEnumT (K : PySem.W.Frag) (ta : TA) : TI := fun σ H R => ta σ H fun vs H1 => ∃ a xs, vs = [.ref a] ∧ SqT K H1 a xs ∧ R (IteT K a) H1
theorem pi_enumT {X : Cx} {e : Expr} {ta : TA} {p pos tpos : Pos} {elts : List Expr} {kk : Nat} (hg : Gl X "enumerate") (hm : X.mg "enumerate" = none) (ha : PA X [e] ta) (hs : starEach [e] X.env = [(false, eval e X.env)] := by rfl) :
    PI X (.Tuple elts kk tpos) (.Call (.Name "enumerate" p) [e] [] pos) (iEnumT X.K ta) := by
  refine ⟨fun pins s σ H R I h => ?_⟩
  refine Call_ (ld_blt I hg hm boot_enumerate (PyProof.Rows.callWith_type1 (thn (ha.run pos pins s σ H _ I h) fun us s1 ⟨vs, H1, I1, r1, q1⟩ => ?_) hs rfl))
  obtain ⟨a, xs, ex, hq, q⟩ := q1
  subst ex
  cases r1 with
  | cons r rr =>
    cases rr
    cases r
    obtain ⟨its, rv, p', hz⟩ := I1.tuple hq
    have hal : a < s1.heap.objs.size := by obtain ⟨_, z, _⟩ := p'; exact Heap.lt_size z
    refine enum_begins1 (begins_tuple a its.toArray) p' fun h' he hit hsz hk => wpAny_pyIter_enum he ?_
    have I2 : Inv X pins σ H1 { s1 with heap := h' } := I1.kept (t' := s1.toks) hk
    refine ⟨s1.heap.objs.size + 1, [s1.heap.objs.size + 1, s1.heap.objs.size], _, _, H1, rfl, I2, turn_enumT a (s1.heap.objs.size + 1) s1.heap.objs.size (Nat.ne_of_lt hal) (Nat.ne_of_lt (Nat.lt_succ_of_lt hal)), ⟨⟨.none, he⟩, ⟨_, hit, rfl, rfl⟩, Nat.succ_ne_self _⟩, fun b hb => ?_, q⟩
    have e' : b = s1.heap.objs.size + 1 ∨ b = s1.heap.objs.size := by simpa using hb
    have hle : s1.heap.objs.size ≤ b := by
      rcases e' with z | z
      · rw [z]; exact Nat.le_add_right _ _
      · rw [z]; exact Nat.le_refl _
    exact I1.fpOk hle (I1.hok.fresh hle)
end L2
end
section
set_option Elab.async false
set_option linter.all false
set_option maxRecDepth 100000
set_option maxHeartbeats 4000000
/-! What all laws of the yard lean on, over the hand layer. -/
namespace L2
open PySem PySem.Spec PyProof.Rows
section
variable {X : Cx}
/-! ### t * k, t not empty, 0 ≤ k -/
theorem tuple_mul0 (l : Addr) (items : Array Value) (n : Nat) (dd : Option Addr) (sl : Array (Option Value)) (x : Int) (u : Tok) (c0 : (decide (x < -(2 ^ 63)) || decide (x ≥ 2 ^ 63)) = false) (c1 : (items.isEmpty || x == 1) = false) (c2 : (decide (x ≤ 0) || items.isEmpty) = true) :
    Meets (Builtin.«tuple.__mul__» ⟨[.ref l, .int x u], []⟩) (fun _ R s => s.heap.get? l = some { cls := .type "tuple", dict := dd, data := .seq items n, slots := sl } ∧
      R (.ok (.ret (Value.ref s.heap.objs.size))) { s with heap := s.heap.push { cls := Value.type "tuple", data := Data.seq #[] }, toks := s.toks }) :=
  .of_wp fun prog w A R s h => by
    obtain ⟨hp, g, d, tk, os⟩ := s
    obtain ⟨hl, h⟩ := h
    have f1 := AutoSeq1.idx_int
    wp_walk using wpAny_loadPart' hl
    repeat (first
      | (refine wpAny_ite_false (decide_eq_false (by rw [c0]; exact Bool.false_ne_true)) ?_; wp_walk using wpAny_loadPart' hl)
      | (refine wpAny_ite_false (decide_eq_false (by rw [c1]; exact Bool.false_ne_true)) ?_; wp_walk using wpAny_loadPart' hl)
      | (refine wpAny_ite_true (decide_eq_true c2) ?_; wp_walk using wpAny_loadPart' hl))
    exact ⟨_, rfl, h⟩
theorem tuple_mul1 (l : Addr) (items : Array Value) (n : Nat) (sl : Array (Option Value)) (dd : Option Addr) (x : Int) (u : Tok) (c0 : (decide (x < -(2 ^ 63)) || decide (x ≥ 2 ^ 63)) = false) (c1 : (items.isEmpty || x == 1) = true) :
    Meets (Builtin.«tuple.__mul__» ⟨[.ref l, .int x u], []⟩) (fun _ R s => s.heap.get? l = some { cls := .type "tuple", dict := dd, data := .seq items n, slots := sl } ∧ R (.ok (.ret (Value.ref l))) s) :=
  .of_wp fun prog w A R s h => by
    obtain ⟨hp, g, d, tk, os⟩ := s
    obtain ⟨hl, h⟩ := h
    have f1 := AutoSeq1.idx_int
    wp_walk using wpAny_loadPart' hl
    repeat (first
      | (refine wpAny_ite_false (decide_eq_false (by rw [c0]; exact Bool.false_ne_true)) ?_; wp_walk using wpAny_loadPart' hl)
      | (refine wpAny_ite_true (decide_eq_true c1) ?_; wp_walk using wpAny_loadPart' hl))
    exact ⟨_, rfl, h⟩
def rRepG (K : PySem.W.Frag) : R2 := fun x y H Q => ∃ l k xs, x = .ref l ∧ y = .int k ∧ SqT K H l xs ∧ xs ≠ [] ∧ 0 ≤ k ∧ k ≤ 4000 ∧ xs.length ≤ 100 ∧ (k = 1 → Q (.ref l) H) ∧ (k ≠ 1 → ∀ p, H p = none → Q (.ref p) (upd H p (.tup (List.replicate k.toNat xs).flatten)))
theorem op_repG : OpR X (binaryOp .Mult) (rRepG X.K) := by
  intro pins s σ H x y v u Q I rx ry h
  obtain ⟨l, k, xs, rfl, rfl, hT, hne, h1, h2, hz, qs, qn⟩ := h
  cases rx
  obtain ⟨t, rfl⟩ := ry
  obtain ⟨its, r, ⟨⟨cls, dd, data, sl⟩, ho, hc, n, hd⟩, hs⟩ := I.tuple hT
  simp only at hc hd
  subst hc hd
  have hle : its.length = xs.length := r.length.symm
  have hn : its ≠ [] := fun e => hne (by
    rw [e] at hle
    exact List.eq_nil_of_length_eq_zero hle.symm)
  have hi : its.toArray.isEmpty = false := by
    cases its with
    | nil => exact absurd rfl hn
    | cons a b => rfl
  have hsz0 : its.toArray.size = xs.length := by rw [List.size_toArray, hle]
  have c0 : (decide (k < -(2 ^ 63)) || decide (k ≥ 2 ^ 63)) = false := by
    rw [decide_eq_false (by omega), decide_eq_false (by omega)] <;> rfl
  by_cases e1 : k = 1
  · have c1 : (its.toArray.isEmpty || k == 1) = true := by
      rw [hi, Bool.false_or]
      exact beq_iff_eq.mpr e1
    refine wpAny_binaryOp_repeat_ref (T := "tuple") (U := "int") (by decide) ⟨_, ho, rfl⟩ (fun s' => typeIs_int s' k t) noFill_tuple_mul F.fills_int_mul F.slot_int_rmul repeat_tuple F.slot_int_index.lookup
      (call_meets F.slot_int_rmul (typeIs_int s k t) F.entry_int_rmul (F.args_int_rmul_2 _ _) (int_rmul_tuple k t l its.toArray n dd sl)
        ⟨ho, rfl, ⟨_, ho, rfl⟩, call_meets F.slot_tuple_mul ⟨_, ho, rfl⟩ F.entry_tuple_mul (F.args_tuple_mul_2 _ _) (tuple_mul1 l its.toArray n sl dd k t c0 c1) ⟨ho, ?_⟩⟩)
    exact ⟨.ref l, H, I, rfl, qs e1⟩
  · have c1 : (its.toArray.isEmpty || k == 1) = false := by
      rw [hi, Bool.false_or]
      exact beq_eq_false_iff_ne.mpr e1
    by_cases e0 : k = 0
    · subst e0
      refine wpAny_binaryOp_repeat_ref (T := "tuple") (U := "int") (by decide) ⟨_, ho, rfl⟩ (fun s' => typeIs_int s' 0 t) noFill_tuple_mul F.fills_int_mul F.slot_int_rmul repeat_tuple F.slot_int_index.lookup
        (call_meets F.slot_int_rmul (typeIs_int s 0 t) F.entry_int_rmul (F.args_int_rmul_2 _ _) (int_rmul_tuple 0 t l its.toArray n dd sl)
          ⟨ho, rfl, ⟨_, ho, rfl⟩, call_meets F.slot_tuple_mul ⟨_, ho, rfl⟩ F.entry_tuple_mul (F.args_tuple_mul_2 _ _) (tuple_mul0 l its.toArray n dd sl 0 t c0 c1 rfl) ⟨ho, ?_⟩⟩)
      refine ⟨.ref s.heap.objs.size, _, I.laid (t' := s.toks) (o := .tup (List.replicate (0 : Int).toNat xs).flatten) (fun b ob q => Heap.get?_push_of_some _ q) (Nat.le_refl _) ?_, rfl, qn (by decide) _ (I.hok.fresh (Nat.le_refl _))⟩
      exact ⟨by rw [sizeLine_eq]; exact Nat.zero_le _, [], .nil, IsTup.new _ _⟩
    · have hm : ((its.toArray.size : Nat) : Int) * k ≤ 400000 := by
        rw [hsz0]
        have a1 : ((xs.length : Nat) : Int) * k ≤ 100 * k := Int.mul_le_mul_of_nonneg_right (by omega) (by omega)
        omega
      have flen : (List.replicate k.toNat its).flatten.length ≤ sizeLine := by
        rw [PyProof.Rows.lm_len_rep_flat, hle, sizeLine_eq]
        have a1 : k.toNat * xs.length ≤ 4000 * 100 := Nat.mul_le_mul (by omega) hz
        omega
      have c2 : (decide (k ≤ 0) || its.toArray.isEmpty) = false := by
        rw [hi, Bool.or_false]
        exact decide_eq_false (by omega)
      have c4 : Builtin.Tuple.tupleTooMany (((its.toArray.size : Nat) : Int) * k) = false := by
        unfold Builtin.Tuple.tupleTooMany
        rw [sizeLine_eq]
        exact decide_eq_false (by omega)
      refine wpAny_binaryOp_repeat_ref (T := "tuple") (U := "int") (by decide) ⟨_, ho, rfl⟩ (fun s' => typeIs_int s' k t) noFill_tuple_mul F.fills_int_mul F.slot_int_rmul repeat_tuple F.slot_int_index.lookup
        (call_meets F.slot_int_rmul (typeIs_int s k t) F.entry_int_rmul (F.args_int_rmul_2 _ _) (int_rmul_tuple k t l its.toArray n dd sl)
          ⟨ho, rfl, ⟨_, ho, rfl⟩, call_meets F.slot_tuple_mul ⟨_, ho, rfl⟩ F.entry_tuple_mul (F.args_tuple_mul_2 _ _) (tuple_mulW l its.toArray n dd sl k t c0 c1 c2 (by omega) c4 (by rw [size_rep, List.size_toArray]; exact flen)) ⟨ho, ?_⟩⟩)
      rw [size_rep]
      refine ⟨.ref s.heap.objs.size, _, I.laid (t' := s.toks) (o := .tup (List.replicate k.toNat xs).flatten) (fun b ob q => Heap.get?_push_of_some _ q) (Nat.le_refl _) ?_, rfl, qn e1 _ (I.hok.fresh (Nat.le_refl _))⟩
      exact ⟨by rw [PyProof.Rows.lm_len_rep_flat, sizeLine_eq]; have a1 : k.toNat * xs.length ≤ 4000 * 100 := Nat.mul_le_mul (by omega) hz; omega, _, r.rep k.toNat, IsTup.new _ _⟩

/-! ### t.count(x), t a tuple of texts -/
def eqs (z : Str) (v : Value) : Bool := match v with
  | .str y _ => y == z
  | _ => false
theorem eqs_count {z : Str} : ∀ {ys : List Str} {us : List Value}, Vals (ys.map V.str) us → us.countP (eqs z) = ys.count z
  | [], _, .nil => rfl
  | y :: ys, _, .cons r rt => by
    obtain ⟨t, rfl⟩ := r
    have ih := eqs_count (z := z) rt
    rw [List.countP_cons, List.count_cons, ih]
    rfl
theorem eqs_at {A : Around} {s : Shared} {z : Str} {t : Tok} : ∀ {ys : List Str} {us : List Value}, Vals (ys.map V.str) us → ∀ y ∈ us, SeqAt.EqAt A s y (.str z t) (eqs z y)
  | [], _, .nil, _, h => nomatch h
  | y :: ys, _, .cons r rt, u, h => by
    rcases List.mem_cons.mp h with e | e
    · subst e
      obtain ⟨k, rfl⟩ := r
      exact SeqAt.EqAt.str_str y k z t
    · exact eqs_at rt u e
def rCntT (K : PySem.W.Frag) : V → List V → Hp → VK → Prop := fun x xs H Q => ∃ (p : Addr) (ys : List Str) (z : Str), x = .ref p ∧ xs = [.str z] ∧ SqT K H p (ys.map V.str) ∧ Q (.int (ys.count z : Nat)) H
theorem mt_tcount : MtR X "tuple.count" (rCntT X.K) := by
  intro pins s σ H x xs v us Q I rx rxs h
  obtain ⟨p, ys, z, rfl, rfl, hs, q⟩ := h
  cases rx
  obtain ⟨u, rfl, ru⟩ := rxs.one
  obtain ⟨t, rfl⟩ := ru
  obtain ⟨its, rv, ⟨⟨cls, dd, data, sl⟩, ho, hc, n, hd⟩, hlen⟩ := I.tuple hs
  simp only at hc hd
  subst hc hd
  refine call_meets PySem.F.slot_tuple_count ⟨_, ho, rfl⟩ PySem.F.entry_tuple_count (PySem.F.args_tuple_count_2 _ _)
    (SeqAt.tuple_countAt p its.toArray n dd sl (.str z t) (eqs z)) ⟨ho, fun y hy => eqs_at rv y (by simpa using hy), ?_⟩
  have ec : its.toArray.toList.countP (eqs z) = ys.count z := eqs_count rv
  refine ⟨.int (ys.count z : Nat), H, I.tok _, ⟨s.toks, ?_⟩, q⟩
  show Value.int ((its.toArray.toList.countP (eqs z) : Nat) : Int) s.toks = Value.int ((ys.count z : Nat) : Int) s.toks
  rw [ec]

/-! ### f(e, ..), f a def of the module by its positional promise -/
def tCallR (sp : Sp) (E : XK) (t : TA) : TE := fun σ H Q => t σ H fun vs H1 => sp vs H1 Q E
theorem pe_callR {CX : CXT} {k : Nat} {f : Addr} {x : Str} {sp : Sp} {E : XK} {e : Expr} {es : List Expr} {t : TA} {p pos : Pos} (F : FnR X.prog X.w X.K X.mg X.base CX k f sp) (hr : Room k X.A) (hk : PySem.W.keepIn X.K (.ref f) = true) (hm : X.mg x = some (.ref f)) (hx : Passes CX X E) (ha : PA X (e :: es) t)
    (hg : Gl X x) (hd : (x == ("__debug__" : Str)) = false)
    (he : starEach (e :: es) X.env = (false, eval e X.env) :: starEach es X.env) (hpl : (backTo pos (starEach es X.env)).any (·.1) = false) :
    PE X (.Call (.Name x p) (e :: es) [] pos) (tCallR sp E t) := by
  refine ⟨fun pins s σ H Q I h => ?_⟩
  refine wpAny_Call_Name_kw (ld_glob I hg hm ?_ hd)
  refine PySem.W.callWith_K (h₀ := X.base) I.ok.mod.kin hk (thn (ha.run pos pins s σ H _ I h) fun us s1 ⟨vs, H1, I1, r, q⟩ => ⟨I1.kIn, ?_⟩) he hpl
  exact wpAny_call (run_fnR F hr hx I1 r q)
end
end L2
namespace Sh
open PySem PySem.Spec PyProof.Rows L2
/-! ### a def of the module keeps a promise -/
def DefOk (P : Program) (w : World) (K : PySem.W.Frag) (mg : Str → Option Value) (base : Heap) (CX : CXT) (k : Nat) (x : Str) (sp : Sp) : Prop :=
  ∃ f, mg x = some (.ref f) ∧ PySem.W.keepIn K (.ref f) = true ∧ FnR P w K mg base CX k f sp
/-- where a def stands -/
def Def0 (K : PySem.W.Frag) (mg : Str → Option Value) (x : Str) (st : Stmt) : Prop := ∃ f fd, mg x = some (.ref f) ∧ FunD K x x (defArgs st) (defBody st) (defScope st) [] [] f fd
section
variable {P : Program} {w : World} {K : PySem.W.Frag} {mg : Str → Option Value} {base : Heap} {k j : Nat} {x : Str} {sp : Sp} {st : Stmt}
theorem DefOk.mono {CX : CXT} (D : DefOk P w K mg base CX j x sp) (h : j ≤ k) : DefOk P w K mg base CX k x sp := by
  obtain ⟨f, a, b, c⟩ := D
  exact ⟨f, a, b, c.mono h⟩
theorem DefOk.imp {CX : CXT} {sp' : Sp} (D : DefOk P w K mg base CX k x sp) (h : ∀ vs H Q E, sp' vs H Q E → sp vs H Q E) : DefOk P w K mg base CX k x sp' := by
  obtain ⟨f, a, b, c⟩ := D
  exact ⟨f, a, b, c.imp h⟩
theorem pe_d {X : Cx} {CX : CXT} {E : XK} {e : Expr} {es : List Expr} {t : TA} {p pos : Pos} (D : DefOk X.prog X.w X.K X.mg X.base CX k x sp) (hr : Room k X.A) (hx : Passes CX X E) (ha : PA X (e :: es) t)
    (hg : Gl X x := by rfl) (hd : (x == ("__debug__" : Str)) = false := by decide)
    (he : starEach (e :: es) X.env = (false, eval e X.env) :: starEach es X.env := by rfl) (hpl : (backTo pos (starEach es X.env)).any (·.1) = false := by rfl) :
    PE X (.Call (.Name x p) (e :: es) [] pos) (tCallR sp E t) := by
  obtain ⟨f, a, b, c⟩ := D
  exact pe_callR c hr b a hx ha hg hd he hpl
/-- a def without defaults that raises nothing -/
theorem Def0.ok {N ps : List Str} (D : Def0 K mg x st) (S : FnScope N ps (defScope st)) (len : ∀ vs H Q E, sp vs H Q E → vs.length = ps.length)
    (hb : ∀ (kV doc pm : Value) (an : Option Addr) (cdv ct : Value) (us : List Value), us.length = ps.length → bindArgs (PySem.W.fnOf x x (defArgs st) (defBody st) (defScope st) .none kV doc pm an cdv ct) ⟨us, []⟩ = pure (ps.zip us))
    (hbody : ∀ (f : Addr) (cdv : Value) (A : Around) (outer : List Env) (s : Shared) (H : Hp) (vs : List V) (Q : VK) (E : XK), Room k (A.deeper (envOfC x (defScope st) s.heap.objs.size f cdv)) → sp vs H Q E →
      ∃ t, PSs (cxOf CX0 P w K mg base N x (defScope st) f cdv A outer s H E).nox (defBody st) t ∧ t { nx := fun _ H' => Q .non H', rt := Q } (start N vs) H) : DefOk P w K mg base CX0 (k + 1) x sp := by
  obtain ⟨f, fd, hm, F⟩ := D
  have G : FnOk P w K mg base CX0 (k + 1) f fd ps sp := F.ok S len fun cdv A outer s H vs Q E hr h => by
    obtain ⟨t, a, b⟩ := hbody f cdv A outer s H vs Q E hr h
    exact ⟨t, a.nox, b⟩
  have B : Binds K fd ps [] := F.bindsN hb
  refine ⟨f, hm, F.kp, fun A outer s H us vs Q E hr e0 r hs => G.raw B .nil A outer s H us vs Q E hr e0 r (by show sp (vs ++ []) H Q E; rw [List.append_nil]; exact hs)⟩
/-- a def without defaults that may raise -/
theorem Def0.okX {N ps : List Str} (D : Def0 K mg x st) (S : FnScope N ps (defScope st)) (len : ∀ vs H Q E, sp vs H Q E → vs.length = ps.length)
    (hb : ∀ (kV doc pm : Value) (an : Option Addr) (cdv ct : Value) (us : List Value), us.length = ps.length → bindArgs (PySem.W.fnOf x x (defArgs st) (defBody st) (defScope st) .none kV doc pm an cdv ct) ⟨us, []⟩ = pure (ps.zip us))
    (hbody : ∀ (f : Addr) (cdv : Value) (A : Around) (outer : List Env) (s : Shared) (H : Hp) (vs : List V) (Q : VK) (E : XK), Room k (A.deeper (envOfC x (defScope st) s.heap.objs.size f cdv)) → sp vs H Q E →
      ∃ t, PSs (cxOf (L2.CX P w) P w K mg base N x (defScope st) f cdv A outer s H E) (defBody st) t ∧ t { nx := fun _ H' => Q .non H', rt := Q } (start N vs) H) : DefOk P w K mg base (L2.CX P w) (k + 1) x sp := by
  obtain ⟨f, fd, hm, F⟩ := D
  have G : FnOk P w K mg base (L2.CX P w) (k + 1) f fd ps sp := F.ok S len fun cdv A outer s H vs Q E hr h => by
    obtain ⟨t, a, b⟩ := hbody f cdv A outer s H vs Q E hr h
    exact ⟨t, a, b⟩
  have B : Binds K fd ps [] := F.bindsN hb
  refine ⟨f, hm, F.kp, fun A outer s H us vs Q E hr e0 r hs => G.raw B .nil A outer s H us vs Q E hr e0 r (by show sp (vs ++ []) H Q E; rw [List.append_nil]; exact hs)⟩
end
end Sh
end
section
set_option Elab.async false
set_option linter.all false
set_option maxRecDepth 100000
set_option maxHeartbeats 2000000
set_option autoImplicit false
/-! Tuples whose object is known to have no dict: how they are made, and their methods. -/
namespace L2
open PySem PySem.Spec PyProof.Rows
/-- a tuple that is followed -/
def Tq (H : Hp) (a : Addr) (xs : List V) : Prop := Rd H a (.tup xs)
/-- .. whose object has no dict -/
def Tz (H : Hp) (a : Addr) (xs : List V) : Prop := ∃ o, H a = some (.frz o (.tup xs)) ∧ o.dict = none
theorem Tq.of {H : Hp} {a : Addr} {xs : List V} (h : H a = some (.tup xs)) : Tq H a xs := .inl h
theorem Tq.sq {K : PySem.W.Frag} {H : Hp} {a : Addr} {xs : List V} (h : Tq H a xs) : SqT K H a xs := .inl h
theorem Tq.same {H H' : Hp} {a : Addr} {xs : List V} (h : Tq H a xs) (s : ∀ b o, H b = some o → H' b = some o) : Tq H' a xs := by
  rcases h with h | ⟨o, h⟩
  · exact .inl (s _ _ h)
  · exact .inr ⟨o, s _ _ h⟩
theorem Tz.q {H : Hp} {a : Addr} {xs : List V} (h : Tz H a xs) : Tq H a xs := by
  obtain ⟨o, h, _⟩ := h
  exact .inr ⟨o, h⟩
theorem Tz.same {H H' : Hp} {a : Addr} {xs : List V} (h : Tz H a xs) (s : ∀ b o, H b = some o → H' b = some o) : Tz H' a xs := by
  obtain ⟨o, h, d⟩ := h
  exact ⟨o, s _ _ h, d⟩
theorem Tq.ne_none {H : Hp} {a p : Addr} {xs : List V} (h : Tq H a xs) (hp : H p = none) : a ≠ p := by
  rcases h with h | ⟨o, h⟩
  · exact ne_of_none h hp
  · exact ne_of_none h hp
/-- followed tuples stay -/
def TQ (H H' : Hp) : Prop := ∀ t xs, Tq H t xs → Tq H' t xs
theorem TQ.refl (H : Hp) : TQ H H := fun _ _ h => h
theorem TQ.trans {H H1 H2 : Hp} (x : TQ H H1) (y : TQ H1 H2) : TQ H H2 := fun t xs h => y t xs (x t xs h)
theorem TQ.of_same {H H' : Hp} (s : ∀ b o, H b = some o → H' b = some o) : TQ H H' := fun t xs q => q.same s
theorem TQ.new {H : Hp} {p : Addr} {o : HO} (h : H p = none) : TQ H (upd H p o) := fun t xs q => by
  have n := q.ne_none h
  rcases q with q | ⟨o, q⟩
  · exact .inl (by rw [upd_ne n]; exact q)
  · exact .inr ⟨o, by rw [upd_ne n]; exact q⟩
theorem TQ.lst {H : Hp} {p : Addr} {ys : List V} {o : HO} (h : H p = some (.lst ys)) : TQ H (upd H p o) := fun t xs q => by
  rcases q with q | ⟨o, q⟩
  · exact .inl (by rw [upd_ne (ne_of q h (by intro e; cases e))]; exact q)
  · exact .inr ⟨o, by rw [upd_ne (ne_of q h (by intro e; cases e))]; exact q⟩
section
variable {X : Cx}
/-- tuple(list) -/
def rTupF (K : PySem.W.Frag) : List V → Hp → VK → Prop := fun xs H Q => ∃ p ys, xs = [.ref p] ∧ SqL K H p ys ∧ ∀ l o, H l = none → o.dict = none → Q (.ref l) (upd H l (.frz o (.tup ys)))
theorem call_tupleF : CallR X (.type "tuple") (rTupF X.K) := by
  intro pins s σ H xs us Q I r h
  obtain ⟨p, ys, rfl, hq, q⟩ := h
  obtain ⟨u, rfl, rx⟩ := vals1 r
  cases rx
  obtain ⟨its, r', pl, hz⟩ := I.list hq
  have hlen := r'.length
  refine call_tuple_list pl.isList (fun h' kp => ?_) (by simp only [List.size_toArray] <;> omega)
  have I1 : Inv X pins σ H { s with heap := h' } := I.kept (t' := s.toks) kp
  have I2 : Inv X pins σ (upd H h'.objs.size (.frz { cls := .type "tuple", data := .seq its.toArray } (.tup ys))) { s with heap := h'.push { cls := .type "tuple", data := .seq its.toArray } } :=
    I1.laid (t' := s.toks) (fun b o e => Heap.get?_push_of_some _ e) (Nat.le_refl _) (show ObjOk X.prog X.w _ _ _ (.frz _ (.tup ys)) from ⟨Heap.get?_push_size _ rfl, hz, its, r', IsTup.new _ _⟩)
  exact ⟨.ref h'.objs.size, _, I2, rfl, q _ _ (I1.hok.fresh (Nat.le_refl _)) rfl⟩
/-- t + u, u not empty -/
def rCatF (K : PySem.W.Frag) : R2 := fun x y H Q => ∃ a b xs ys, x = .ref a ∧ y = .ref b ∧ SqT K H a xs ∧ SqT K H b ys ∧ ys ≠ [] ∧ xs.length + ys.length ≤ sizeLine ∧
  (xs = [] → Q (.ref b) H) ∧ (xs ≠ [] → ∀ p o, H p = none → o.dict = none → Q (.ref p) (upd H p (.frz o (.tup (xs ++ ys)))))
theorem op_catF : OpR X (binaryOp .Add) (rCatF X.K) := by
  intro pins s σ H x y v u Q I rx ry h
  obtain ⟨a, b, xs, ys, rfl, rfl, ha, hb, hy, hz, q0, q2⟩ := h
  by_cases hx : xs = []
  · exact op_catA pins s σ H _ _ v u Q I rx ry ⟨a, b, xs, ys, rfl, rfl, ha, hb, hz, q0, fun h => absurd hx h, fun h => absurd hx h⟩
  cases rx
  cases ry
  obtain ⟨its, r1, p1, _⟩ := I.tuple ha
  obtain ⟨its2, r2, p2, _⟩ := I.tuple hb
  refine HT.cat_tup p1 p2 (fun z => hx (r1.nil_iff.mp z)) (fun z => absurd (r2.nil_iff.mp z) hy) (fun z => ?_) (by rw [← r1.length, ← r2.length]; exact hz)
  refine ⟨.ref s.heap.objs.size, _, I.laid (t' := s.toks) (o := .frz { cls := .type "tuple", data := .seq (its ++ its2).toArray } (.tup (xs ++ ys))) (fun b ob q => Heap.get?_push_of_some _ q) (Nat.le_refl _) ?_, rfl, q2 hx _ _ (I.hok.fresh (Nat.le_refl _)) rfl⟩
  exact ⟨Heap.get?_push_size _ rfl, by rw [List.length_append]; exact hz, _, r1.append r2, IsTup.new _ _⟩
/-- (a, b) -/
def tTupF (t : TA) : TE := fun σ H Q => t σ H fun xs H1 => xs.length ≤ sizeLine ∧ ∀ p o, H1 p = none → o.dict = none → Q (.ref p) (upd H1 p (.frz o (.tup xs)))
theorem pe_tupF {es : List Expr} {x1 : Nat} {t : TA} {pos : Pos} (h : PA X es t) : PE X (.Tuple es x1 pos) (tTupF t) := by
  refine ⟨fun pins s σ H Q I hq => ?_⟩
  refine wpAny_Tuple_spliced (thn (h.run pos pins s σ H _ I hq) fun us s1 ⟨xs, H1, I1, r, z, q⟩ => ⟨by rw [← r.length]; exact z, ?_⟩)
  have hf : H1 s1.heap.objs.size = none := I1.hok.fresh (Nat.le_refl _)
  refine ⟨.ref s1.heap.objs.size, upd H1 s1.heap.objs.size (.frz { cls := .type "tuple", data := .seq us.toArray } (.tup xs)), I1.laid (t' := s1.toks) (fun b u e => Heap.get?_push_of_some _ e) (Nat.le_refl _) ?_, rfl, q _ _ hf rfl⟩
  exact ⟨Heap.get?_push_size _ rfl, z, us, r, ⟨_, Heap.get?_push_size _ rfl, rfl, _, rfl⟩⟩
/-- a method of it -/
def tyZ (x : V) (H : Hp) : Prop := ∃ a xs, x = .ref a ∧ Tz H a xs
theorem ty_Z : TyOk X "tuple" tyZ := by
  intro pins σ H s x v I r ty
  obtain ⟨a, xs, rfl, o, ho, hd⟩ := ty
  cases r
  obtain ⟨e, _, its, _, ⟨o2, e2, c, _⟩⟩ := I.hok a _ ho
  rw [e] at e2
  cases e2
  exact ⟨⟨o, e, c⟩, fun b eb => by cases eb; exact ⟨o, e, hd⟩⟩
end
end L2
end
section
set_option Elab.async false
set_option linter.all false
set_option maxRecDepth 100000
set_option maxHeartbeats 2000000
set_option autoImplicit false
/-! try with a first clause that has a name and takes what comes, whatever clauses follow. -/
namespace L2
open PySem PySem.Spec PyProof.Rows
/-- an exception that lies in the state s at hand, ahead of the clauses -/
structure Caught (X : Cx) (pins : List (Addr × Obj)) (σ : St) (H : Hp) (s : Shared) (a : Addr) (cls : Value) (d : Option Addr) : Prop where
  na : H a = none
  fly : ∃ B, HandSPX.FlyingZ B (X.env :: X.outer) a (Zc cls d) s.heap ∧ ∀ h, HandSPX.FlyingZ B (X.env :: X.outer) a (Zc cls d) h → s.heap.UpToSlots h → Inv X pins σ H { s with heap := h }
section
variable {X : Cx} {pins : List (Addr × Obj)} {σ : St} {H : Hp} {s : Shared} {a : Addr} {cls : Value} {d : Option Addr}
/-- into the suite of a clause -/
theorem suite_of {B : Heap} (hf : X.env.frame = some X.env.locals) (fl : HandSPX.FlyingZ B (X.env :: X.outer) a (Zc cls d) s.heap) (I : Inv X pins σ H s) (na : H a = none) :
    ∃ oe, (∃ vs, oe.data = .fields vs) ∧ s.heap.get? a = some oe ∧ Zc cls d oe ∧ Inv (X.suite a ((a, oe) :: (X.pn ++ pins))) [] σ H s := by
  obtain ⟨oe, vs, he, hz, hd⟩ := fl.there
  have off : ∀ f ∈ frs (X.env :: X.outer), a ≠ f := fun f hm e => by
    subst e
    obtain ⟨_, o, e2, nf⟩ := fl.2.2.1.mem hm
    rw [he] at e2
    cases e2
    exact nf _ hd
  refine ⟨oe, ⟨vs, hd⟩, he, hz, I.suite he hd na (off _ (List.mem_filterMap.mpr ⟨X.env, List.mem_cons_self, hf⟩)) fun hm => ?_⟩
  obtain ⟨en, hen, q⟩ := List.mem_filterMap.mp hm
  exact off a (List.mem_filterMap.mpr ⟨en, List.mem_cons_of_mem _ hen, q⟩) rfl
/-- a try statement by what its clauses do with what is caught -/
theorem ps_try_by {body : List Stmt} {hds : List ExceptHandler} {h₀ : ExceptHandler} {pos : Pos} {tb : WX → TS} {Wd : Ends → WX} (hs : X.stack = X.env :: X.outer) (hf : X.env.frame = some X.env.locals)
    (hb : ∀ (W : WX) (pn : List (Addr × Obj)) (xe : Value → Shared → Prop), Takes (X.tr pn xe) W → PassesOwn (model X.prog X.w) X.A X.env xe → PSs (X.tr pn xe) body (tb W))
    (hk : ∀ (pins : List (Addr × Obj)) (D : Ends) (σ : St) (H : Hp) (s : Shared) (a : Addr) (cls : Value) (d : Option Addr), X.Ok → Caught X pins σ H s a cls d → Wd D cls d σ H →
      wpAny (model X.prog X.w) X.A (handleBy (.ref a) X.env (h₀ :: hds)) (SP X pins D) X.xe s) :
    PS X (.Try body (h₀ :: hds) [] [] pos) (fun D σ H => tb (Wd D) D σ H) := by
  refine ⟨fun pins s σ H D I h => wpAny_Try_except ?_⟩
  have ok := I.ok
  have hfr : X.A.frames = some (X.env :: X.outer) := by rw [ok.frames, hs]
  have P := (hb (Wd D) (X.pn ++ pins) (fun e s₁ => wpAny (model X.prog X.w) X.A (noteFrame e X.env) (fun _ s₂ => wpAny (model X.prog X.w) X.A (setFlight e none) (fun _ s₃ =>
    wpAny (model X.prog X.w) X.A (handleBy e X.env (h₀ :: hds)) (SP X pins D) X.xe s₃) X.xe s₂) X.xe s₁) (fun u s' xx => by
      obtain ⟨a, B, sI, pins', σ', H', cls, d, rfl, J', nb, up, sky, na, os, ag, w⟩ := xx
      have sky' : Sky B (X.env :: X.outer) a (Zc cls d) X.env.locals s'.heap := by rw [← hs]; exact sky
      refine Sky.land Zc.steady hfr hf sky' fun h3 fl3 up3 => hk pins D σ' H' { s' with heap := h3 } a cls d ok ⟨na, B, fl3, fun h fl up4 => ?_⟩ w
      exact (J'.ofTry ok).landed nb fl.1 ((up.trans up3).trans up4) os ag) PassesOwn.looking).run [] s σ H D (I.toTry _) h
  refine wpAny_mono P (fun f s1 hsp => ?_) fun _ _ he => he
  cases f with
  | ret u =>
    obtain ⟨v, σ', H', J', r, q⟩ := hsp
    exact ⟨v, σ', H', J'.ofTry ok, r, q⟩
  | next =>
    obtain ⟨σ', H', J', q⟩ := hsp
    exact wpAny_execs_nil ⟨σ', H', J'.ofTry ok, q⟩
  | brk =>
    obtain ⟨σ', H', J', q⟩ := hsp
    exact ⟨σ', H', J'.ofTry ok, q⟩
  | cont =>
    obtain ⟨σ', H', J', q⟩ := hsp
    exact ⟨σ', H', J'.ofTry ok, q⟩
/-- the wish of a first clause 'except x as n' that takes it -/
def wFirst (K : PySem.W.Frag) (c : Value) (i : Nat) (ts : Addr → Value → Option Addr → TS) (D : Ends) : WX := fun cls d σ H =>
  PySem.W.exmOne K cls c = some true ∧ ∀ a, H a = none → ts a cls d { nx := fun σ' H' => D.nx (σ'.set i none) H', rt := D.rt, bk := fun σ' H' => D.bk (σ'.set i none) H', ct := fun σ' H' => D.ct (σ'.set i none) H' } (σ.set i (some (.ref a))) H
theorem ps_try_first {x n : Str} {c : Value} {i : Nat} {body suite : List Stmt} {b₀ : Stmt} {np pos pos' : Pos} {hds : List ExceptHandler} {tb : WX → TS} {ts : Addr → Value → Option Addr → TS} (hs : X.stack = X.env :: X.outer) (hf : X.env.frame = some X.env.locals) (hN : X.N.Nodup) (hi : X.N[i]? = some n) (hln : X.env.kindOf n = some .local) (hc : Names X x c)
    (hb : ∀ (W : WX) (pn : List (Addr × Obj)) (xe : Value → Shared → Prop), Takes (X.tr pn xe) W → PassesOwn (model X.prog X.w) X.A X.env xe → PSs (X.tr pn xe) body (tb W))
    (hsu : ∀ (a : Addr) (oe : Obj) (cls : Value) (d : Option Addr) (pn : List (Addr × Obj)), Zc cls d oe → (∃ vs, oe.data = .fields vs) → PSs (X.suite a ((a, oe) :: pn)) (b₀ :: suite) (ts a cls d)) :
    PS X (.Try body (.ExceptHandler (some (.Name x np)) (some n) (b₀ :: suite) pos' :: hds) [] [] pos) (fun D σ H => tb (wFirst X.K c i ts D) D σ H) := by
  refine ps_try_by (Wd := wFirst X.K c i ts) hs hf hb fun pins D σ H s a cls d ok C w => ?_
  obtain ⟨na, B, fl, back⟩ := C
  obtain ⟨hm, hw⟩ := w
  have I0 : Inv X pins σ H s := back s.heap fl (fun b o e _ => ⟨o.slots, e⟩)
  obtain ⟨oe, hd, he, hz, S⟩ := suite_of hf fl I0 na
  refine wpAny_handleBy_cons (codeAny_handlers_test ?_) (by intro q; cases q)
  have look : PySem.W.Looks (model X.prog X.w) s.heap (typeOf (.ref a)) cls := fun A Q E s k q => wpAny_typeOf_ref (k _ _ he) (by rw [hz.1]; exact q)
  have name : ∀ {Q : Value → Shared → Prop} {E : Value → Shared → Prop}, Q c s → wpAny (model X.prog X.w) (X.A.mark (some (.ref a))) (eval (.Name x np) X.env) Q E s := fun {Q E} q => by
    obtain ⟨hg, hdbg, hm | ⟨hm, hv, hnn⟩⟩ := hc
    · exact ld_glob (X := X.suite a ((a, oe) :: (X.pn ++ pins))) S hg hm q hdbg
    · exact ld_blt (X := X.suite a ((a, oe) :: (X.pn ++ pins))) S hg hm hv q hnn hdbg
  refine name ((PySem.W.exm_one (M := model X.prog X.w) I0.kIn look hm).here (codeAny_handlers_suite_as ?_))
  refine HandSPX.lands_againZ fl fun h4 fl4 up4 => ?_
  obtain ⟨oe4, hd4, _, hz4, S4⟩ := suite_of (s := { s with heap := h4 }) hf fl4 (back h4 fl4 up4) na
  refine store_ok (X := X.suite a ((a, oe4) :: (X.pn ++ pins))) (v := .ref a) S4 hN hi (.inl hln) rfl (fun s5 S5 => ?_) (.inr hln)
  have R := (hsu a oe4 cls d (X.pn ++ pins) hz4 hd4).run [] s5 _ H _ S5 (hw a na)
  refine wpAny_mono R (fun f s6 hsp => ?_) fun _ _ z => z.elim
  cases f with
  | ret u =>
    obtain ⟨v6, σ6, H6, S6, r6, q6⟩ := hsp
    exact gone_ok (S6.unsuite ok) hN hi hln fun s7 J7 => ⟨_, _, _, J7, r6, q6⟩
  | next =>
    obtain ⟨σ6, H6, S6, q6⟩ := hsp
    exact gone_ok (S6.unsuite ok) hN hi hln fun s7 J7 => ⟨_, _, J7, q6⟩
  | brk =>
    obtain ⟨σ6, H6, S6, q6⟩ := hsp
    exact gone_ok (S6.unsuite ok) hN hi hln fun s7 J7 => ⟨_, _, J7, q6⟩
  | cont =>
    obtain ⟨σ6, H6, S6, q6⟩ := hsp
    exact gone_ok (S6.unsuite ok) hN hi hln fun s7 J7 => ⟨_, _, J7, q6⟩
end
end L2
namespace Sh
open PySem PySem.Spec PyProof.Rows L2
/-- an own exception class in except clauses -/
structure XOk (K : PySem.W.Frag) (C : Addr) (fs : List Str) : Prop where
  xf : XfC K C
  no : ∀ f ∈ fs, PySem.W.findIn K (.ref C) f = some none
  me : PySem.W.exmOne K (.ref C) (.ref C) = some true
/-- a call whose exceptions are wished for at the slots at hand -/
theorem pe_dS {X : Cx} {CX : CXT} {E : L2.St → XK} {k : Nat} {x : Str} {sp : Sp} {e : Expr} {es : List Expr} {t : TA} {p pos : Pos} (D : DefOk X.prog X.w X.K X.mg X.base CX k x sp) (hr : Room k X.A) (hx : ∀ σ, PassesAt CX X σ (E σ)) (ha : PA X (e :: es) t)
    (hg : Gl X x := by rfl) (hd : (x == ("__debug__" : Str)) = false := by decide)
    (he : starEach (e :: es) X.env = (false, eval e X.env) :: starEach es X.env := by rfl) (hpl : (backTo pos (starEach es X.env)).any (·.1) = false := by rfl) :
    PE X (.Call (.Name x p) (e :: es) [] pos) (tCallS sp E t) := by
  obtain ⟨f, hm, hk, F⟩ := D
  refine ⟨fun pins s σ H Q I h => ?_⟩
  refine wpAny_Call_Name_kw (ld_glob I hg hm ?_ hd)
  refine PySem.W.callWith_K (h₀ := X.base) I.ok.mod.kin hk (thn (ha.run pos pins s σ H _ I h) fun us s1 ⟨vs, H1, I1, r, q⟩ => ⟨I1.kIn, ?_⟩) he hpl
  refine wpAny_call (codeAny_mono (F X.A X.stack s1 H1 us vs Q (E σ) hr I1.env0 r q) fun r s' hq => ?_)
  cases r with
  | error e => exact hx σ pins H1 s1 e s' I1 hq
  | ok fl =>
    cases fl with
    | ret u => exact I1.after hq
    | next => exact hq.elim
    | brk => exact hq.elim
    | cont => exact hq.elim
end Sh
end
section
set_option Elab.async false
set_option linter.all false
set_option maxRecDepth 100000
set_option maxHeartbeats 2000000
set_option autoImplicit false
/-! A hook that also tells of own exception classes with `super().__init__(..)`. -/
namespace Hx
open PySem PySem.Spec PyProof.Rows L2 He PySem.W
/-- an own exception class: its name, its fields, its __init__ as written -/
structure XDef where
  x : Str
  fs : List Str
  qual : Str
  params : Arguments
  body : List Stmt
  scope : Scope
abbrev XV : Type := Option (Str × Str × Arguments × FuncBody × Scope × Addr × Addr)
def iOf (K : Frag) (x : Str) : Addr := ma K (ga K x) "__init__"
def xvOf (K : Frag) (x : Str) : XV := match K.lookup (iOf K x) with
  | some ⟨_, _, .func fd, _⟩ => some (fd.name, fd.qualname, fd.params, fd.body, fd.scope, fd.globals, fd.builtins)
  | _ => none
def XDef.val (d : XDef) : XV := some ("__init__", d.qual, d.params, .stmts d.body, d.scope, mainGlobals, builtinsNs)
def cellB (K : Frag) (C : Addr) (cl : List (Str × Addr)) : Bool := match cl with
  | [(n, cc)] => decide (n = "__class__") && (match K.lookup cc with
    | some ⟨_, _, .cell (some (.ref D)), _⟩ => decide (D = C)
    | _ => false)
  | _ => false
def codeB (K : Frag) (file : Str) (cd : Value) : Bool := match cd with
  | .ref cda => (match K.lookup cda with
    | some ⟨_, _, .fields cvs, _⟩ => (match (cvs[2]? : Option Value) with
      | some (.str f _) => file == f
      | _ => false)
    | _ => false)
  | _ => false
def noneB (v : Value) : Bool := match v with
  | .none => true
  | _ => false
def funB (K : Frag) (file : Str) (d : XDef) : Bool := match K.lookup (iOf K d.x) with
  | some ⟨_, _, .func fd, _⟩ => noneB fd.defaults && (codeIn K fd.code d.qual && (codeB K file fd.code && cellB K (ga K d.x) fd.closure))
  | _ => false
def clsB (K : Frag) (C : Addr) : Bool := match K.lookup C with
  | some ⟨.type "type", _, .cls cd, sl⟩ => (match cd.mro, sl.toList with
    | .ref C' :: bm, [_, _, _, _, some (.builtin n), _] => decide (C' = C) && (decide (n = "ValueError.__new__") && (!cd.hasDel && (cd.hasDict && HandSPX.refsVE bm)))
    | _, _ => false)
  | _ => false
def XDef.ok (file : Str) (K : Frag) (d : XDef) : Bool :=
  clsB K (ga K d.x) && (funB K file d && (eqO (findIn K (.ref (ga K d.x)) "__setattr__") (some (some (.builtin "object.__setattr__"))) && ((d.fs.all fun f => eqO (findIn K (.ref (ga K d.x)) f) (some none)) &&
  (eqO (findIn K (.ref (ga K d.x)) "__init__") (some (some (.ref (iOf K d.x)))) && (decide (typeIn K (.ref (iOf K d.x)) = some (.type "function")) && (keepIn K (.ref (ga K d.x)) && (decide (subIn K (.ref (ga K d.x)) (.type "BaseException") = some true) &&
  (decide (subIn K (.ref (ga K d.x)) (.type "ValueError") = some true) && (decide (typeIn K (.ref (ga K d.x)) = some (.type "type")) && (decide (mroIn K (ga K d.x) (.ref (ga K d.x)) = some true) && (eqO (ks_superIn K (ga K d.x) (ga K d.x) "__init__") (some (some (.builtin "ValueError.__init__"))) &&
  (eqO (nsIn K cStatics "thirdparty.any") (some none) && (L2.xfB K (ga K d.x) && (decide (exmOne K (.ref (ga K d.x)) (.ref (ga K d.x)) = some true) && eqO (nsIn K mainGlobals d.x) (some (some (.ref (ga K d.x))))))))))))))))))
structure XFacts (prog : Program) (K : Frag) (d : XDef) (l : List SupX.StP) : Prop where
  txt : SupX.SupTxt prog K (ga K d.x) (iOf K d.x) d.qual d.params d.body d.scope l
  xf : L2.XfC K (ga K d.x)
  no : ∀ f ∈ d.fs, findIn K (.ref (ga K d.x)) f = some none
  me : exmOne K (.ref (ga K d.x)) (.ref (ga K d.x)) = some true
  gl : nsIn K mainGlobals d.x = some (some (.ref (ga K d.x)))
theorem facts_of {prog : Program} {K : Frag} {d : XDef} {l : List SupX.StP} (e : xvOf K d.x = d.val) (c : d.ok prog.main.file K = true) (hl : ∀ z ∈ l, z.f ∈ d.fs) : XFacts prog K d l := by
  unfold XDef.ok at c
  obtain ⟨c1, c⟩ := ba c
  obtain ⟨c2, c⟩ := ba c
  obtain ⟨c3, c⟩ := ba c
  obtain ⟨c4, c⟩ := ba c
  obtain ⟨c5, c⟩ := ba c
  obtain ⟨c6, c⟩ := ba c
  obtain ⟨c7, c⟩ := ba c
  obtain ⟨c8, c⟩ := ba c
  obtain ⟨c9, c⟩ := ba c
  obtain ⟨c10, c⟩ := ba c
  obtain ⟨c11, c⟩ := ba c
  obtain ⟨c12, c⟩ := ba c
  obtain ⟨c13, c⟩ := ba c
  obtain ⟨c14, c⟩ := ba c
  obtain ⟨c15, c16⟩ := ba c
  have no : ∀ f ∈ d.fs, findIn K (.ref (ga K d.x)) f = some none := fun f hf => eqO_ok (List.all_eq_true.mp c4 f hf)
  refine ⟨⟨?_, eqO_ok c3, fun z hz => no _ (hl z hz), eqO_ok c5, of_decide_eq_true c6, c7, of_decide_eq_true c8, of_decide_eq_true c9, of_decide_eq_true c10, of_decide_eq_true c11, eqO_ok c12, eqO_ok c13, ?_⟩, L2.xfB_ok c14, no, of_decide_eq_true c15, eqO_ok c16⟩
  · unfold clsB at c1
    split at c1
    · rename_i dd cd sl ho
      split at c1
      · rename_i C' bm k0 k1 k2 k3 n k5 hm hs
        obtain ⟨y1, y⟩ := ba c1
        obtain ⟨y2, y⟩ := ba y
        obtain ⟨y3, y⟩ := ba y
        obtain ⟨y4, y5⟩ := ba y
        have y1 := of_decide_eq_true y1
        have y2 := of_decide_eq_true y2
        have y3' : cd.hasDel = false := by
          cases h : cd.hasDel with
          | false => rfl
          | true => rw [h] at y3; cases y3
        clear y3
        obtain ⟨nm, bs, mro, ns, qn, hd, sn, sub, ab, col, del⟩ := cd
        dsimp only at hm y3' y4
        subst y1 y2 hm y3' y4
        have hsl : sl = #[k0, k1, k2, k3, some (.builtin "ValueError.__new__"), k5] := by
          obtain ⟨l⟩ := sl
          simp only at hs
          rw [hs]
        subst hsl
        exact ⟨nm, qn, ns, bs, bm, sn, sub, ab, col, dd, k0, k1, k2, k3, k5, ho, y5⟩
      · cases c1
    · cases c1
  · unfold funB at c2
    unfold xvOf at e
    cases q : K.lookup (iOf K d.x) with
    | none =>
      rw [q] at c2
      cases c2
    | some o =>
      obtain ⟨oc, od, dt, osl⟩ := o
      rw [q] at c2 e
      cases dt with
      | func fd =>
        obtain ⟨n1, n2, n3, n4, n5, n6, n7, n8, n9, n10, n11, n12, n13, n14, n15⟩ := fd
        have e2 : (some (n1, n2, n3, n4, n5, n6, n15) : XV) = (some (("__init__" : Str), d.qual, d.params, FuncBody.stmts d.body, d.scope, mainGlobals, builtinsNs) : XV) := e
        simp only [Option.some.injEq, Prod.mk.injEq] at e2
        obtain ⟨h1, h2, h3, h4, h5, h6, h8⟩ := e2
        subst h1 h2 h3 h4 h5 h6 h8
        have c3 : (noneB n8 && (codeIn K n13 d.qual && (codeB K prog.main.file n13 && cellB K (ga K d.x) n7))) = true := c2
        obtain ⟨k1, k2⟩ := ba c3
        obtain ⟨k3, k4⟩ := ba k2
        obtain ⟨k5, k6⟩ := ba k4
        have hn8 : n8 = .none := by
          cases n8 with
          | none => rfl
          | _ => cases k1
        subst hn8
        unfold codeB at k5
        unfold cellB at k6
        split at k5
        · rename_i cda
          split at k5
          · rename_i ccl cdd cvs ccs hcda
            split at k5
            · rename_i f tf hf
              split at k6
              · rename_i n cc
                obtain ⟨z1, z2⟩ := ba k6
                have z1 := of_decide_eq_true z1
                subst z1
                split at z2
                · rename_i cl cld D csl hcc
                  have z2 := of_decide_eq_true z2
                  subst z2
                  exact ⟨oc, od, osl, n9, n10, n11, n12, cda, n14, cc, ccl, cdd, cvs, ccs, f, tf, cl, cld, csl, rfl, k3, hcda, hf, k5, hcc⟩
                · cases z2
              · cases k6
            · cases k5
          · cases k5
        · cases k5
      | _ => cases c2
abbrev AlX : Type := AlD × (Bool × List XV)
def frX (n : Nat) (g : Addr → Option Obj) : Frag := frG g (asD g n ++ [cStatics])
def obsX (file : Str) (n : Nat) (fa : List Fa) (fn : List DefD) (xs : List XDef) (g : Addr → Option Obj) : AlX :=
  (obsD fa fn (frX n g), (xs.all fun d => d.ok file (frX n g), xs.map fun d => xvOf (frX n g) d.x))
def hookX (file : Str) (n : Nat) (fa : List Fa) (fn : List DefD) (xs : List XDef) : PySem.W.Hook where
  α := AlX
  obs := fun s => obsX file n fa fn xs s.heap.get?
  val := fun _ => (valD fn, (true, xs.map XDef.val))
  says := fun _ h => ∃ K : Frag, K.In h ∧ SaysD fa fn K ∧ (xs.all fun d => d.ok file K) = true ∧ (xs.map fun d => xvOf K d.x) = xs.map XDef.val
  of := fun _ _ e => ⟨_, frG_in, congrArg (fun z : AlX => z.1) e, congrArg (fun z : AlX => z.2.1) e, congrArg (fun z : AlX => z.2.2) e⟩
  keeps := fun _ _ _ ⟨K, hK, c⟩ k => ⟨K, PySem.W.Frag.In.keeps hK k, c⟩
theorem obsX_eq {file : Str} {n : Nat} {fa : List Fa} {fn : List DefD} {xs : List XDef} {g : Addr → Option Obj} {s : Shared} (h : ∀ a, g a = s.heap.get? a) : obsX file n fa fn xs g = (hookX file n fa fn xs).obs s := by
  have e : g = s.heap.get? := funext h
  rw [e] <;> rfl
theorem x_of {file : Str} {K : Frag} {xs : List XDef} (h1 : (xs.all fun d => d.ok file K) = true) (h2 : (xs.map fun d => xvOf K d.x) = xs.map XDef.val) (i : Nat) {d : XDef} (h : xs[i]? = some d := by rfl) : xvOf K d.x = d.val ∧ d.ok file K = true := by
  refine ⟨?_, List.all_eq_true.mp h1 d (List.mem_of_getElem? h)⟩
  have e2 : (xs.map fun d => xvOf K d.x)[i]? = (xs.map XDef.val)[i]? := by rw [h2]
  rw [List.getElem?_map, List.getElem?_map, h] at e2
  exact Option.some.inj e2
end Hx
end
section
set_option linter.all false
set_option autoImplicit false
/-! Plants as preorder lists: whole rows of branches, skipping, places, paths. -/
namespace Mth
variable {α : Type} (w : α → Nat)
/-- n plants one behind the other, and nothing else -/
def forest : List α → Nat → Bool
  | [], n => n == 0
  | _ :: _, 0 => false
  | k :: r, n + 1 => forest r (w k + n)
/-- behind n plants -/
def skip : List α → Nat → List α
  | [], _ => []
  | k :: r, 0 => k :: r
  | k :: r, n + 1 => skip r (w k + n)
theorem skip_zero (l : List α) : skip w l 0 = l := by cases l <;> rfl
theorem skip_add : ∀ (l : List α) (a b : Nat), skip w l (a + b) = skip w (skip w l a) b
  | [], _, _ => rfl
  | k :: r, 0, b => by rw [Nat.zero_add]; rfl
  | k :: r, a + 1, b => by
    rw [show a + 1 + b = (a + b) + 1 by omega]
    show skip w r (w k + (a + b)) = skip w (skip w r (w k + a)) b
    rw [← skip_add r (w k + a) b, Nat.add_assoc]
theorem forest_skip : ∀ (l : List α) (a b : Nat), forest w l (a + b) = true → forest w (skip w l a) b = true
  | [], a, b, h => by
    have e : a + b = 0 := eq_of_beq h
    have e2 : b = 0 := by omega
    rw [e2]; rfl
  | k :: r, 0, b, h => by rw [Nat.zero_add] at h; exact h
  | k :: r, a + 1, b, h => by
    rw [show a + 1 + b = (a + b) + 1 by omega] at h
    have h2 : forest w r (w k + (a + b)) = true := h
    show forest w (skip w r (w k + a)) b = true
    exact forest_skip r (w k + a) b (by rw [Nat.add_assoc]; exact h2)
theorem skip_suffix : ∀ (l : List α) (n : Nat), ∃ j, j ≤ l.length ∧ skip w l n = l.drop j
  | [], _ => ⟨0, Nat.le_refl _, rfl⟩
  | k :: r, 0 => ⟨0, Nat.zero_le _, rfl⟩
  | k :: r, n + 1 => by
    obtain ⟨j, hj, e⟩ := skip_suffix r (w k + n)
    exact ⟨j + 1, by rw [List.length_cons]; omega, e⟩
theorem skip_len (l : List α) (n : Nat) : (skip w l n).length ≤ l.length := by
  obtain ⟨j, hj, e⟩ := skip_suffix w l n
  rw [e, List.length_drop]; omega
theorem skip_lt (l : List α) (n : Nat) (h : l ≠ []) : (skip w l (n + 1)).length < l.length := by
  cases l with
  | nil => exact absurd rfl h
  | cons k r => exact Nat.lt_succ_of_le (skip_len w r _)
theorem forest_nil {n : Nat} (h : forest w [] n = true) : n = 0 := eq_of_beq h
theorem forest_zero {l : List α} (h : forest w l 0 = true) : l = [] := by
  cases l with
  | nil => rfl
  | cons _ _ => cases h
theorem forest_pos {l : List α} {n : Nat} (h : forest w l (n + 1) = true) : l ≠ [] := fun e => by
  rw [e] at h
  exact absurd (eq_of_beq h : n + 1 = 0) (by omega)
theorem forest_app : ∀ (l r : List α) (a b : Nat), forest w l a = true → forest w r b = true → forest w (l ++ r) (a + b) = true
  | [], r, a, b, h, g => by
    rw [forest_nil w h, Nat.zero_add]; exact g
  | k :: l, r, 0, b, h, g => by cases h
  | k :: l, r, a + 1, b, h, g => by
    rw [show a + 1 + b = (a + b) + 1 by omega]
    show forest w (l ++ r) (w k + (a + b)) = true
    rw [← Nat.add_assoc]
    exact forest_app l r (w k + a) b h g
theorem skip_app : ∀ (l r : List α) (a : Nat), forest w l a = true → skip w (l ++ r) a = r
  | [], r, a, h => by rw [forest_nil w h]; exact skip_zero w r
  | k :: l, r, 0, h => by cases h
  | k :: l, r, a + 1, h => skip_app l r (w k + a) h
/-- the part up to the skip is a forest -/
theorem forest_take : ∀ (l : List α) (a b : Nat), forest w l (a + b) = true → forest w (l.take (l.length - (skip w l a).length)) a = true
  | [], a, b, h => by
    have := forest_nil w h
    rw [show a = 0 by omega]; rfl
  | k :: r, 0, b, h => by
    rw [skip_zero, Nat.sub_self]; rfl
  | k :: r, a + 1, b, h => by
    rw [show a + 1 + b = (a + b) + 1 by omega] at h
    have h2 : forest w r ((w k + a) + b) = true := by rw [Nat.add_assoc]; exact h
    have q := forest_take r (w k + a) b h2
    have hl := skip_len w r (w k + a)
    show forest w ((k :: r).take ((k :: r).length - (skip w r (w k + a)).length)) (a + 1) = true
    rw [List.length_cons, show r.length + 1 - (skip w r (w k + a)).length = (r.length - (skip w r (w k + a)).length) + 1 by omega, List.take_succ_cons]
    exact q
/-! ### places -/
/-- the place behind n plants from place i on -/
def nxs (l : List α) (i n : Nat) : Nat := l.length - (skip w (l.drop i) n).length
theorem drop_nxs (l : List α) (i n : Nat) : l.drop (nxs w l i n) = skip w (l.drop i) n := by
  obtain ⟨j, hj, e⟩ := skip_suffix w (l.drop i) n
  unfold nxs
  rw [e, List.drop_drop, List.length_drop]
  rw [List.length_drop] at hj
  by_cases h : i ≤ l.length
  · rw [show l.length - (l.length - (i + j)) = i + j by omega]
  · rw [List.drop_eq_nil_of_le (by omega), List.drop_eq_nil_of_le (by omega)]
theorem nxs_le (l : List α) (i n : Nat) : nxs w l i n ≤ l.length := Nat.sub_le _ _
theorem nxs_zero {l : List α} {i : Nat} (h : i ≤ l.length) : nxs w l i 0 = i := by
  unfold nxs
  rw [skip_zero, List.length_drop]; omega
theorem nxs_add (l : List α) (i a b : Nat) : nxs w l i (a + b) = nxs w l (nxs w l i a) b := by
  unfold nxs
  rw [skip_add]
  have e := drop_nxs w l i a
  unfold nxs at e
  rw [e]
theorem nxs_ge (l : List α) {i : Nat} (n : Nat) (h : i ≤ l.length) : i ≤ nxs w l i n := by
  have q := skip_len w (l.drop i) n
  rw [List.length_drop] at q
  unfold nxs; omega
theorem nxs_gt {l : List α} {i : Nat} (n : Nat) (h : i < l.length) : i < nxs w l i (n + 1) := by
  have q := skip_lt w (l.drop i) n (by intro e; have := congrArg List.length e; rw [List.length_drop] at this; simp at this; omega)
  rw [List.length_drop] at q
  unfold nxs; omega
/-- m plants stand from place i to the end -/
def Fst (l : List α) (i m : Nat) : Prop := i ≤ l.length ∧ forest w (l.drop i) m = true
theorem Fst.lt {l : List α} {i m : Nat} (h : Fst w l i (m + 1)) : i < l.length := by
  refine Nat.lt_of_not_le fun q => ?_
  have e := h.2
  rw [List.drop_eq_nil_of_le q] at e
  exact forest_pos w e rfl
theorem Fst.skip {l : List α} {i a b : Nat} (h : Fst w l i (a + b)) : Fst w l (nxs w l i a) b :=
  ⟨nxs_le w l i a, by rw [drop_nxs]; exact forest_skip w _ a b h.2⟩
theorem Fst.in {l : List α} {i m : Nat} {k : α} (h : Fst w l i (m + 1)) (hk : l[i]? = some k) : Fst w l (i + 1) (w k + m) := by
  have hi := (List.getElem?_eq_some_iff.mp hk).1
  have e := h.2
  have d : l.drop i = k :: l.drop (i + 1) := by
    rw [List.drop_eq_getElem_cons hi]
    have := (List.getElem?_eq_some_iff.mp hk).2
    rw [this]
  rw [d] at e
  exact ⟨hi, e⟩
theorem nxs_in {l : List α} {i m : Nat} {k : α} (hk : l[i]? = some k) (n : Nat) : nxs w l i (n + 1) = nxs w l (i + 1) (w k + n) := by
  have hi := (List.getElem?_eq_some_iff.mp hk).1
  have d : l.drop i = k :: l.drop (i + 1) := by
    rw [List.drop_eq_getElem_cons hi]
    have := (List.getElem?_eq_some_iff.mp hk).2
    rw [this]
  unfold nxs
  rw [d]
  rfl
theorem nxs_lt_of {l : List α} {i a b : Nat} (h : Fst w l i (a + b)) (hb : 0 < b) : nxs w l i a < l.length := by
  obtain ⟨c, rfl⟩ : ∃ c, b = c + 1 := ⟨b - 1, by omega⟩
  exact Fst.lt w (h.skip w)
theorem nxs_mono {l : List α} {i m a b : Nat} (h : Fst w l i m) (hab : a < b) (hb : b ≤ m) : nxs w l i a < nxs w l i b := by
  obtain ⟨c, rfl⟩ : ∃ c, b = a + (c + 1) := ⟨b - a - 1, by omega⟩
  obtain ⟨d, rfl⟩ : ∃ d, m = a + (c + 1) + d := ⟨m - (a + (c + 1)), by omega⟩
  rw [nxs_add]
  exact nxs_gt w c (nxs_lt_of w (b := c + 1 + d) (by rw [← Nat.add_assoc]; exact h) (by omega))
theorem Fst.all {l : List α} (h : forest w l 1 = true) : ∀ i, i ≤ l.length → ∃ m, Fst w l i m
  | 0, _ => ⟨1, Nat.zero_le _, by rw [List.drop_zero]; exact h⟩
  | i + 1, hi => by
    obtain ⟨m, F⟩ := Fst.all h i (by omega)
    cases m with
    | zero =>
      have z := forest_zero w F.2
      have := congrArg List.length z
      rw [List.length_drop] at this
      simp at this
      omega
    | succ m => exact ⟨_, F.in w (List.getElem?_eq_getElem (by omega))⟩
theorem Fst.pos {l : List α} {i m : Nat} (h : Fst w l i m) (hi : i < l.length) : ∃ n, m = n + 1 := by
  cases m with
  | succ n => exact ⟨n, rfl⟩
  | zero =>
    have z := forest_zero w h.2
    have := congrArg List.length z
    rw [List.length_drop] at this
    simp at this
    omega
/-! ### paths -/
def kids (p : List Nat) (n : Nat) : List (List Nat) := (List.range n).map fun i => p ++ [i]
def pths : List α → List (List Nat) → List (List Nat)
  | [], _ => []
  | _ :: _, [] => []
  | k :: r, p :: st => p :: pths r (kids p (w k) ++ st)
/-- the paths that wait ahead of place i -/
def stk (l : List α) : Nat → List (List Nat)
  | 0 => [[]]
  | i + 1 => match stk l i, l[i]? with
    | p :: st, some k => kids p (w k) ++ st
    | st, _ => st
def pth (l : List α) (i : Nat) : List Nat := (stk w l i).headD []
theorem kids_len (p : List Nat) (n : Nat) : (kids p n).length = n := by simp [kids]
theorem stk_len {l : List α} (h : forest w l 1 = true) : ∀ i, i ≤ l.length → Fst w l i (stk w l i).length
  | 0, _ => ⟨Nat.zero_le _, by rw [List.drop_zero]; exact h⟩
  | i + 1, hi => by
    have F := stk_len h i (by omega)
    have hi' : i < l.length := by omega
    obtain ⟨n, hn⟩ := F.pos w hi'
    cases e : stk w l i with
    | nil => rw [e] at hn; cases hn
    | cons p st =>
      have hk : l[i]? = some l[i] := List.getElem?_eq_getElem hi'
      have q : stk w l (i + 1) = kids p (w l[i]) ++ st := by
        show (match stk w l i, l[i]? with
          | p :: st, some k => kids p (w k) ++ st
          | st, _ => st) = _
        rw [e, hk]
      rw [q, List.length_append, kids_len]
      rw [e, List.length_cons] at F
      exact F.in w hk
theorem stk_step {l : List α} (h : forest w l 1 = true) {i : Nat} (hi : i < l.length) : ∃ st, stk w l i = pth w l i :: st ∧ stk w l (i + 1) = kids (pth w l i) (w l[i]) ++ st := by
  have F := stk_len w h i (Nat.le_of_lt hi)
  obtain ⟨n, hn⟩ := F.pos w hi
  cases e : stk w l i with
  | nil => rw [e] at hn; cases hn
  | cons p st =>
    have ep : pth w l i = p := by unfold pth; rw [e]; rfl
    refine ⟨st, by rw [ep], ?_⟩
    have hk : l[i]? = some l[i] := List.getElem?_eq_getElem hi
    show (match stk w l i, l[i]? with
      | p :: st, some k => kids p (w k) ++ st
      | st, _ => st) = _
    rw [e, hk, ep]
/-- where a path leads, from a place -/
def walk (l : List α) : Nat → List Nat → Option Nat
  | p, [] => some p
  | p, c :: cs => match l[p]? with
    | some k => if c < w k then walk l (nxs w l (p + 1) c) cs else none
    | none => none
theorem walk_app (l : List α) : ∀ (a : List Nat) (p : Nat) (b : List Nat), walk w l p (a ++ b) = (walk w l p a).bind fun q => walk w l q b
  | [], p, b => rfl
  | c :: a, p, b => by
    show (match l[p]? with
      | some k => if c < w k then walk w l (nxs w l (p + 1) c) (a ++ b) else none
      | none => none) = _
    show _ = (match l[p]? with
      | some k => if c < w k then walk w l (nxs w l (p + 1) c) a else none
      | none => none : Option Nat).bind _
    cases l[p]? with
    | none => rfl
    | some k =>
      dsimp only
      by_cases hc : c < w k
      · rw [if_pos hc, if_pos hc]
        exact walk_app l a _ b
      · rw [if_neg hc, if_neg hc]; rfl
theorem walk_one {l : List α} {p c : Nat} {k : α} (hk : l[p]? = some k) : walk w l p [c] = if c < w k then some (nxs w l (p + 1) c) else none := by
  show (match l[p]? with
    | some k => if c < w k then walk w l (nxs w l (p + 1) c) [] else none
    | none => none) = _
  rw [hk]; rfl
theorem kids_get {p : List Nat} {n t : Nat} (h : t < n) : (kids p n)[t]? = some (p ++ [t]) := by
  unfold kids
  rw [List.getElem?_map, List.getElem?_range h]; rfl
theorem stk_walk {l : List α} (h : forest w l 1 = true) : ∀ i, i ≤ l.length → ∀ (t : Nat) (p : List Nat), (stk w l i)[t]? = some p → walk w l 0 p = some (nxs w l i t)
  | 0, _, t, p, hp => by
    have e : (([[]] : List (List Nat)))[t]? = some p := hp
    cases t with
    | zero =>
      cases e
      rw [nxs_zero w (Nat.zero_le _)]; rfl
    | succ t => simp at e
  | i + 1, hi, t, p, hp => by
    have hi' : i < l.length := by omega
    obtain ⟨st, e1, e2⟩ := stk_step w h hi'
    have ih := stk_walk h i (by omega)
    have hk : l[i]? = some l[i] := List.getElem?_eq_getElem hi'
    rw [e2] at hp
    by_cases ht : t < w l[i]
    · rw [List.getElem?_append_left (by rw [kids_len]; exact ht), kids_get ht] at hp
      cases hp
      have q := ih 0 (pth w l i) (by rw [e1]; rfl)
      rw [nxs_zero w (by omega)] at q
      rw [walk_app, q]
      show walk w l i [t] = _
      rw [walk_one w hk, if_pos ht]
    · rw [List.getElem?_append_right (by rw [kids_len]; omega), kids_len] at hp
      have q := ih (t - w l[i] + 1) p (by rw [e1]; exact hp)
      rw [q, nxs_in w (m := 0) hk, show w l[i] + (t - w l[i]) = t by omega]
theorem pth_walk {l : List α} (h : forest w l 1 = true) {i : Nat} (hi : i < l.length) : walk w l 0 (pth w l i) = some i := by
  obtain ⟨st, e1, _⟩ := stk_step w h hi
  have q := stk_walk w h i (Nat.le_of_lt hi) 0 (pth w l i) (by rw [e1]; rfl)
  rw [nxs_zero w (Nat.le_of_lt hi)] at q
  exact q
/-! ### another branch in the place of one -/
theorem skip_swap : ∀ (x y y' : List α) (c : Nat) (x' : List α), y ≠ [] → skip w (x ++ y) c = x' ++ y → skip w (x ++ y') c = x' ++ y'
  | x, y, y', 0, x', hy, h => by
    rw [skip_zero] at h ⊢
    rw [List.append_cancel_right h]
  | [], y, y', c + 1, x', hy, h => by
    have q := skip_lt w y c hy
    rw [List.nil_append] at h
    rw [h, List.length_append] at q
    omega
  | k :: x, y, y', c + 1, x', hy, h => skip_swap x y y' (w k + c) x' hy h
theorem suffix_len {x' y z : List α} (h : x' ++ y = z) : y.length ≤ z.length := by rw [← h, List.length_append]; omega
/-- a path that leads to the place behind x leads there as well when another row stands from there on -/
theorem walk_swap {pre y y' : List α} (hy : y ≠ []) : ∀ (cs : List Nat) (u x : List α), pre = u ++ x → walk w (pre ++ y) u.length cs = some pre.length → walk w (pre ++ y') u.length cs = some pre.length
  | [], u, x, e, h => by
    have h2 : u.length = pre.length := Option.some.inj h
    show some u.length = _
    rw [h2]
  | c :: cs, u, [], e, h => by
    -- the walk goes on beyond the place: it cannot come back
    exfalso
    rw [List.append_nil] at e
    subst e
    have go : ∀ (cs : List Nat) (q : Nat), pre.length < q → walk w (pre ++ y) q cs ≠ some pre.length := by
      intro cs
      induction cs with
      | nil => intro q hq e; exact absurd (Option.some.inj e) (by omega)
      | cons c cs ih =>
        intro q hq e
        have e' : (match (pre ++ y)[q]? with
          | some k => if c < w k then walk w (pre ++ y) (nxs w (pre ++ y) (q + 1) c) cs else none
          | none => none) = some pre.length := e
        cases hk : (pre ++ y)[q]? with
        | none => rw [hk] at e'; cases e'
        | some k =>
          rw [hk] at e'
          dsimp only at e'
          by_cases hc : c < w k
          · rw [if_pos hc] at e'
            have hq2 := (List.getElem?_eq_some_iff.mp hk).1
            exact ih _ (Nat.lt_of_lt_of_le (by omega) (nxs_ge w _ c (show q + 1 ≤ _ from hq2))) e'
          · rw [if_neg hc] at e'; cases e'
    have e' : (match (pre ++ y)[pre.length]? with
      | some k => if c < w k then walk w (pre ++ y) (nxs w (pre ++ y) (pre.length + 1) c) cs else none
      | none => none) = some pre.length := h
    cases hk : (pre ++ y)[pre.length]? with
    | none => rw [hk] at e'; cases e'
    | some k =>
      rw [hk] at e'
      dsimp only at e'
      by_cases hc : c < w k
      · rw [if_pos hc] at e'
        have hq2 := (List.getElem?_eq_some_iff.mp hk).1
        exact go cs _ (Nat.lt_of_lt_of_le (by omega) (nxs_ge w _ c (show pre.length + 1 ≤ _ from hq2))) e'
      · rw [if_neg hc] at e'; cases e'
  | c :: cs, u, k :: x, e, h => by
    have hg : ∀ z : List α, (pre ++ z)[u.length]? = some k := fun z => by
      rw [e, List.append_assoc, List.getElem?_append_right (Nat.le_refl _), Nat.sub_self]; rfl
    have hd : ∀ z : List α, (pre ++ z).drop (u.length + 1) = x ++ z := fun z => by
      rw [e, List.append_assoc, List.drop_append, List.drop_eq_nil_of_le (by omega), show u.length + 1 - u.length = 1 by omega]; rfl
    have h' : (match (pre ++ y)[u.length]? with
      | some k => if c < w k then walk w (pre ++ y) (nxs w (pre ++ y) (u.length + 1) c) cs else none
      | none => none) = some pre.length := h
    show (match (pre ++ y')[u.length]? with
      | some k => if c < w k then walk w (pre ++ y') (nxs w (pre ++ y') (u.length + 1) c) cs else none
      | none => none) = some pre.length
    rw [hg] at h' ⊢
    dsimp only at h' ⊢
    by_cases hc : c < w k
    · rw [if_pos hc] at h' ⊢
      -- the place behind c branches lies at or ahead of the end of pre
      have back : ∀ (cs : List Nat) (q r : Nat), walk w (pre ++ y) q cs = some r → q ≤ r := by
        intro cs
        induction cs with
        | nil => intro q r e; exact Nat.le_of_eq (Option.some.inj e)
        | cons c cs ih =>
          intro q r e
          have e' : (match (pre ++ y)[q]? with
            | some k => if c < w k then walk w (pre ++ y) (nxs w (pre ++ y) (q + 1) c) cs else none
            | none => none) = some r := e
          cases hk : (pre ++ y)[q]? with
          | none => rw [hk] at e'; cases e'
          | some k =>
            rw [hk] at e'
            dsimp only at e'
            by_cases hc : c < w k
            · rw [if_pos hc] at e'
              have hq2 := (List.getElem?_eq_some_iff.mp hk).1
              have z1 := ih _ _ e'
              have z2 := nxs_ge w (pre ++ y) c (show q + 1 ≤ _ from hq2)
              omega
            · rw [if_neg hc] at e'; cases e'
      have hb := back cs _ _ h'
      have hs := drop_nxs w (pre ++ y) (u.length + 1) c
      rw [hd] at hs
      have hle : nxs w (pre ++ y) (u.length + 1) c ≤ pre.length := hb
      have ha : (pre ++ y).drop (nxs w (pre ++ y) (u.length + 1) c) = pre.drop (nxs w (pre ++ y) (u.length + 1) c) ++ y := by
        rw [List.drop_append, show nxs w (pre ++ y) (u.length + 1) c - pre.length = 0 by omega, List.drop_zero]
      rw [ha] at hs
      have sw := skip_swap w x y y' c _ hy hs.symm
      have en : nxs w (pre ++ y') (u.length + 1) c = nxs w (pre ++ y) (u.length + 1) c := by
        show (pre ++ y').length - (skip w ((pre ++ y').drop (u.length + 1)) c).length = _
        rw [hd, sw, List.length_append, List.length_append, List.length_drop]
        omega
      rw [en]
      have el : (pre.take (nxs w (pre ++ y) (u.length + 1) c)).length = nxs w (pre ++ y) (u.length + 1) c := by rw [List.length_take]; omega
      have r := walk_swap (y' := y') hy cs (pre.take (nxs w (pre ++ y) (u.length + 1) c)) (pre.drop (nxs w (pre ++ y) (u.length + 1) c)) (List.take_append_drop _ _).symm (by rw [el]; exact h')
      rw [el] at r
      exact r
    · rw [if_neg hc] at h'; cases h'
end Mth
namespace Mth
variable {α : Type} (w : α → Nat)
theorem end_step {l : List α} (h : forest w l 1 = true) {p t : Nat} {k : α} (hk : l[p]? = some k) (ht : t < w k) : nxs w l (p + 1) t < l.length ∧ p + 1 ≤ nxs w l (p + 1) t ∧ nxs w l (nxs w l (p + 1) t) 1 = nxs w l (p + 1) (t + 1) := by
  have hp := (List.getElem?_eq_some_iff.mp hk).1
  obtain ⟨m, F⟩ := Fst.all w h p (Nat.le_of_lt hp)
  obtain ⟨n, rfl⟩ := F.pos w hp
  have G := F.in w hk
  refine ⟨nxs_lt_of w (b := w k - t + n) (by rw [show t + (w k - t + n) = w k + n by omega]; exact G) (by omega), nxs_ge w l t hp, ?_⟩
  rw [nxs_add]
theorem end_last {l : List α} {p : Nat} {k : α} (hk : l[p]? = some k) : nxs w l (p + 1) (w k) = nxs w l p 1 := by
  have q := nxs_in w (m := 0) hk 0
  rw [Nat.add_zero] at q
  exact q.symm
/-- the ends of the branches at all places -/
def ends (l : List α) : List Int := (List.range l.length).map fun j => ((nxs w l j 1 : Nat) : Int)
theorem ends_len (l : List α) : (ends w l).length = l.length := by simp [ends]
theorem ends_get {l : List α} {j : Nat} (h : j < l.length) : (ends w l)[j]? = some ((nxs w l j 1 : Nat) : Int) := by
  unfold ends
  rw [List.getElem?_map, List.getElem?_range h]; rfl
theorem ends_of_get {l : List α} {es : List Int} (hl : es.length = l.length) (h : ∀ j, j < l.length → es[j]? = some ((nxs w l j 1 : Nat) : Int)) : es = ends w l := by
  refine List.ext_getElem? fun j => ?_
  by_cases hj : j < l.length
  · rw [h j hj, ends_get w hj]
  · rw [List.getElem?_eq_none (by omega), List.getElem?_eq_none (by rw [ends_len]; omega)]
/-- how much is missing ahead of place i -/
theorem miss {l : List α} (h : forest w l 1 = true) : ∀ i, i ≤ l.length → Fst w l i (1 + ((l.take i).map w).sum - i) ∧ i ≤ 1 + ((l.take i).map w).sum
  | 0, _ => ⟨⟨Nat.zero_le _, by rw [List.drop_zero]; exact h⟩, Nat.zero_le _⟩
  | i + 1, hi => by
    obtain ⟨F, q⟩ := miss h i (by omega)
    have hi' : i < l.length := by omega
    obtain ⟨n, hn⟩ := F.pos w hi'
    have hk : l[i]? = some l[i] := List.getElem?_eq_getElem hi'
    have e : ((l.take (i + 1)).map w).sum = ((l.take i).map w).sum + w l[i] := by
      rw [List.take_add_one, hk, List.map_append, List.sum_append]
      show _ + (w l[i] + 0) = _
      rw [Nat.add_zero]
    rw [hn] at F
    have G := F.in w hk
    rw [e]
    rw [show 1 + (((l.take i).map w).sum + w l[i]) - (i + 1) = w l[i] + n by omega]
    exact ⟨G, by omega⟩
end Mth
end
section
set_option Elab.async false
set_option linter.all false
set_option maxRecDepth 100000
set_option maxHeartbeats 2000000
namespace Sh
open PySem PySem.Spec PyProof.Rows L2
def top (i : Nat) : Stmt := PySem.Challenge.pw_shearyard_k01_branches_paths_and_counts.main.body.getD i (.Pass ⟨0, 0, 0, 0⟩)
/-- the built-ins and constants by their names -/
structure Bl (mg : Str → Option Value) : Prop where
  b_len : mg "len" = none
  b_range : mg "range" = none
  b_abs : mg "abs" = none
  b_int : mg "int" = none
  b_max : mg "max" = none
  b_all : mg "all" = none
  b_isinstance : mg "isinstance" = none
  b_set : mg "set" = none
  b_list : mg "list" = none
  b_tuple : mg "tuple" = none
  b_bool : mg "bool" = none
  b_str : mg "str" = none
  b_enumerate : mg "enumerate" = none
  c_MOST_KINDS : ∃ t, mg "MOST_KINDS" = some (.int 8 t)
  c_MOST_BRANCHES : ∃ t, mg "MOST_BRANCHES" = some (.int 3 t)
  c_MOST_KNOTS : ∃ t, mg "MOST_KNOTS" = some (.int 2000 t)
  c_LONGEST_NAME : ∃ t, mg "LONGEST_NAME" = some (.int 8 t)
  c_LETTERS : ∃ t, mg "LETTERS" = some (.str "abcdefghijklmnopqrstuvwxyz" t)
theorem pe_cI {X : Cx} {x : Str} {i : Int} {pos : Pos} (hg : Gl X x) (h : ∃ t, X.mg x = some (.int i t)) (hd : (x == ("__debug__" : Str)) = false := by decide) : PE X (.Name x pos) (tC (.int i)) := by
  obtain ⟨t, e⟩ := h
  exact pe_glob hg e ⟨t, rfl⟩ hd
theorem pe_cS {X : Cx} {x z : Str} {pos : Pos} (hg : Gl X x) (h : ∃ t, X.mg x = some (.str z t)) (hd : (x == ("__debug__" : Str)) = false := by decide) : PE X (.Name x pos) (tC (.str z)) := by
  obtain ⟨t, e⟩ := h
  exact pe_glob hg e ⟨t, rfl⟩ hd
/-! ### the bag -/
/-- all that stood stands, but what is at a -/
def Kp (a : Addr) (H H' : Hp) : Prop := ∀ b o, H b = some o → b ≠ a → H' b = some o
theorem Kp.refl (a : Addr) (H : Hp) : Kp a H H := fun _ _ h _ => h
theorem Kp.trans {a : Addr} {H H1 H2 : Hp} (x : Kp a H H1) (y : Kp a H1 H2) : Kp a H H2 := fun b o h n => y b o (x b o h n) n
theorem Kp.upd {a : Addr} {H H1 : Hp} {o : HO} (x : Kp a H H1) : Kp a H (upd H1 a o) := fun b u h n => by rw [upd_ne n]; exact x b u h n
theorem Kp.same {a : Addr} {H H' : Hp} (x : Same H H') : Kp a H H' := fun b o h _ => x b o h
structure Bg (z0 z1 z2 z3 : Int) (cs : List Int) : Prop where
  lo : 4 ≤ z3
  hi : z3 ≤ 4 + cs.length
  sz : cs.length ≤ 63
  nn : ∀ c ∈ cs, 0 ≤ c
def bgL (z0 z1 z2 z3 : Int) (cs : List Int) : List V := .int z0 :: .int z1 :: .int z2 :: .int z3 :: cs.map V.int
def BagAt (H : Hp) (a : Addr) : Prop := ∃ z0 z1 z2 z3 cs, H a = some (.lst (bgL z0 z1 z2 z3 cs)) ∧ Bg z0 z1 z2 z3 cs
def spDraw : Sp := fun vs H Q _ => ∃ (a : Addr) (n : Int), vs = [.ref a, .int n] ∧ BagAt H a ∧ 1 ≤ n ∧ n < 1000000 ∧ ∀ H' d, Kp a H H' → BagAt H' a → 0 ≤ d → d < n → Q (.int d) H'
open C8 (pss_cut tCut)
open Evl (ixN_nat)
theorem bgi {z0 z1 z2 z3 : Int} {cs : List Int} (j : Nat) (h : j < 4) : ixN (bgL z0 z1 z2 z3 cs).length (j : Int) = some j := ixN_nat (by unfold bgL; simp only [List.length_cons]; omega)
theorem int_eq0 {a b : Int} (h : decide (V.int a = V.int b) = true) : a = b := V.int.inj (of_decide_eq_true h)
abbrev s_law_draw : Stmt := top 42
abbrev N_law_draw : List Str := ["bag", "size", "cell", "digit", "mixed"]
theorem sc_law_draw : FnScope N_law_draw ["bag", "size"] (defScope s_law_draw) := ⟨rfl, rfl, rfl, by decide +kernel, rfl, by decide +kernel, by decide +kernel⟩
section
variable {P : Program} {w : World} {K : PySem.W.Frag} {mg : Str → Option Value} {base : Heap}
theorem ok_draw (T : Bl mg) (D : Def0 K mg "_law_draw" s_law_draw) : DefOk P w K mg base CX0 1 "_law_draw" spDraw := by
  refine D.ok sc_law_draw (fun vs H Q E h => ?_) (fun _ _ _ _ _ _ us hl => match us, hl with | [_, _], _ => rfl) (fun f cdv A outer s H vs Q E hr h => ?_)
  · obtain ⟨a, n, rfl, _⟩ := h
    rfl
  · obtain ⟨a, n, rfl, ⟨z0, z1, z2, z3, cs, hb, B⟩, n1, n2, k⟩ := h
    refine ⟨_, (pss_cons (ps_asg (pe_op op_add (pe_ix ix_list (pv 0) pe_int (fun _ _ => rfl)) pe_int) (pg_sub (pv 0) pe_int set_list))
      (pss_cut (ps_if (PW.pt (pw_and (pt_cmpR op_eq (pe_ix ix_list (pv 0) pe_int (fun _ _ => rfl)) pe_int (nomark _)) (pw_and1 (pt_cmpR op_lt (pe_ix ix_list (pv 0) pe_int (fun _ _ => rfl)) (pe_callB call_len_seq (by rfl) T.b_len boot_len (pa_cons (pv 0) pa_nil)) (nomark _)))))
        (pss_cons (ps_set (i := 2) sc_law_draw.nd rfl (Or.inl rfl) (pe_ix ix_list (pv 0) (pe_ix ix_list (pv 0) pe_int (fun _ _ => rfl)) (fun _ _ => rfl)))
        (pss_cons (ps_asg (pe_op op_add (pe_ix ix_list (pv 0) pe_int (fun _ _ => rfl)) pe_int) (pg_sub (pv 0) pe_int set_list))
        (pss_one (ps_if (pt_cmpR op_lt (pv 2) (pe_op op_pow pe_int pe_int) (nomark _))
          (pss_one (ps_asg (pe_op op_mod (pe_callTy call_int1 (by rfl) T.b_int (by decide +kernel) (pa_cons (pe_op op_add (pe_op op_add (pe_op op_mul (pe_ix ix_list (pv 0) pe_int (fun _ _ => rfl)) pe_int) (pv 2)) pe_int) pa_nil)) pe_int) (pg_sub (pv 0) pe_int set_list)))
          (pss_one (ps_asg (pv 2) (pg_sub (pv 0) pe_int set_list)))))))
        pss_nil)
      (pss_cons (ps_if (pt_cmpR op_gt (pe_ix ix_list (pv 0) pe_int (fun _ _ => rfl)) pe_int (nomark _))
        (pss_cons (ps_set (i := 3) sc_law_draw.nd rfl (Or.inl rfl) (pe_op op_mod (pe_callTy call_int1 (by rfl) T.b_int (by decide +kernel) (pa_cons (pe_ix ix_list (pv 0) pe_int (fun _ _ => rfl)) pa_nil)) (pv 1)))
        (pss_cons (ps_asg (pe_op op_fdiv (pe_ix ix_list (pv 0) pe_int (fun _ _ => rfl)) (pv 1)) (pg_sub (pv 0) pe_int set_list))
        (pss_one (ps_ret (pv 3)))))
        pss_nil)
      (pss_cons (ps_set (i := 4) sc_law_draw.nd rfl (Or.inl rfl) (pe_op op_mod (pe_callTy call_int1 (by rfl) T.b_int (by decide +kernel) (pa_cons (pe_op op_add (pe_op op_add (pe_op op_mul (pe_ix ix_list (pv 0) pe_int (fun _ _ => rfl)) pe_int) (pe_op op_mul (pe_ix ix_list (pv 0) pe_int (fun _ _ => rfl)) pe_int)) pe_int) pa_nil)) pe_int))
      (pss_cons (ps_set (i := 4) sc_law_draw.nd rfl (Or.inl rfl) (pe_op op_mod (pe_callTy call_int1 (by rfl) T.b_int (by decide +kernel) (pa_cons (pe_op op_add (pe_op op_mul (pv 4) (pe_op op_add (pe_op op_fdiv (pv 4) pe_int) pe_int)) (pe_ix ix_list (pv 0) pe_int (fun _ _ => rfl))) pa_nil)) pe_int))
      (pss_one (ps_ret (pe_op op_mod (pe_callTy call_int1 (by rfl) T.b_int (by decide +kernel) (pa_cons (pe_op op_fdiv (pv 4) pe_int) pa_nil)) (pv 1))))))))), ?_⟩
    refine ⟨_, rfl, a, _, _, _, rfl, rfl, SqL.of hb, atI_nat (j := 2) rfl, _, _, rfl, rfl, _, rfl, a, _, _, 2, rfl, rfl, hb, bgi 2 (by decide), ?_⟩
    have k1 : Kp a H (upd H a (.lst (bgL z0 z1 (z2 + 1) z3 cs))) := (Kp.refl a H).upd
    refine ⟨fun σ H' => ∃ (z0 z1 z2 z3 : Int) (c d m : Option V), σ = [some (.ref a), some (.int n), c, d, m] ∧ H' a = some (.lst (bgL z0 z1 z2 z3 cs)) ∧ Bg z0 z1 z2 z3 cs ∧ Kp a H H', ?_, ?_⟩
    · have hb1 : (upd H a (.lst (bgL z0 z1 (z2 + 1) z3 cs))) a = some (.lst (bgL z0 z1 (z2 + 1) z3 cs)) := upd_same
      have B1 : Bg z0 z1 (z2 + 1) z3 cs := ⟨B.lo, B.hi, B.sz, B.nn⟩
      have cut0 : ∀ H', H' = upd H a (.lst (bgL z0 z1 (z2 + 1) z3 cs)) → ∃ (y0 y1 y2 y3 : Int) (c d m : Option V), [some (V.ref a), some (V.int n), none, none, none] = [some (.ref a), some (.int n), c, d, m] ∧ H' a = some (.lst (bgL y0 y1 y2 y3 cs)) ∧ Bg y0 y1 y2 y3 cs ∧ Kp a H H' :=
        fun H' e => ⟨z0, z1, z2 + 1, z3, none, none, none, rfl, by rw [e]; exact hb1, B1, by rw [e]; exact k1⟩
      refine ⟨_, rfl, a, _, _, _, rfl, rfl, SqL.of hb1, atI_nat (j := 0) rfl, rfl, _, rfl, ?_⟩
      refine ite2 (fun h0 => ?_) (fun h0 => ?_)
      · refine ⟨_, rfl, a, _, _, _, rfl, rfl, SqL.of hb1, atI_nat (j := 3) rfl, _, rfl, a, _, rfl, .inl (SqL.of hb1), _, _, rfl, rfl, _, rfl, ?_⟩
        have hlen : (bgL z0 z1 (z2 + 1) z3 cs).length = 4 + cs.length := by
          unfold bgL
          simp only [List.length_cons, List.length_map]
          omega
        refine ite2 (fun h1 => ?_) (fun h1 => ?_)
        · have h3 : z3 < 4 + (cs.length : Int) := by
            have q := of_decide_eq_true h1
            rw [hlen] at q
            omega
          obtain ⟨j, hj⟩ : ∃ j : Nat, z3 = ((4 + j : Nat) : Int) := ⟨(z3 - 4).toNat, by have := B.lo; omega⟩
          have hjl : j < cs.length := by omega
          have hjc : (bgL z0 z1 (z2 + 1) z3 cs)[4 + j]? = some (.int cs[j]) := by
            unfold bgL
            rw [show 4 + j = j + 1 + 1 + 1 + 1 by omega]
            simp only [List.getElem?_cons_succ, List.getElem?_map, List.getElem?_eq_getElem hjl, Option.map_some]
          have hat : atI (bgL z0 z1 (z2 + 1) z3 cs) z3 = some (.int cs[j]) := at_of hj hjc
          refine ⟨_, rfl, _, rfl, a, _, _, _, rfl, rfl, SqL.of hb1, atI_nat (j := 3) rfl, a, _, _, _, rfl, rfl, SqL.of hb1, hat, ?_⟩
          refine ⟨_, rfl, a, _, _, _, rfl, rfl, SqL.of hb1, atI_nat (j := 3) rfl, _, _, rfl, rfl, _, rfl, a, _, _, 3, rfl, rfl, hb1, bgi 3 (by decide), ?_⟩
          have hb2 : (upd (upd H a (.lst (bgL z0 z1 (z2 + 1) z3 cs))) a (.lst (bgL z0 z1 (z2 + 1) (z3 + 1) cs))) a = some (.lst (bgL z0 z1 (z2 + 1) (z3 + 1) cs)) := upd_same
          have B2 : ∀ y0 y1, Bg y0 y1 (z2 + 1) (z3 + 1) cs := fun _ _ => ⟨by have := B.lo; omega, by omega, B.sz, B.nn⟩
          refine ⟨_, rfl, _, _, rfl, rfl, ⟨by decide, by decide, by decide⟩, _, _, rfl, rfl, _, rfl, ?_⟩
          refine ite2 (fun h2 => ?_) (fun h2 => ?_)
          · refine ⟨_, rfl, a, _, _, _, rfl, rfl, SqL.of hb2, atI_nat (j := 1) rfl, _, _, rfl, rfl, .inr ⟨by decide, by decide⟩, _, rfl, _, _, rfl, rfl, _, _, rfl, rfl, .inl ⟨_, rfl, ?_⟩⟩
            refine ⟨_, _, rfl, rfl, (show (0 : Int) < 1000000007 by decide), _, rfl, a, _, _, 1, rfl, rfl, hb2, bgi 1 (by decide), ?_⟩
            exact ⟨z0, _, z2 + 1, z3 + 1, _, _, _, rfl, upd_same, B2 _ _, k1.upd.upd⟩
          · refine ⟨_, rfl, _, rfl, a, _, _, 0, rfl, rfl, hb2, bgi 0 (by decide), ?_⟩
            exact ⟨_, z1, z2 + 1, z3 + 1, _, _, _, rfl, upd_same, B2 _ _, k1.upd.upd⟩
        · exact cut0 _ rfl
      · exact cut0 _ rfl
    · rintro σ H' ⟨z0, z1, z2, z3, c, d, m, rfl, hb2, B2, k2⟩
      have bag2 : ∀ H'' y0 y1 y2, H'' a = some (.lst (bgL y0 y1 y2 z3 cs)) → BagAt H'' a := fun H'' y0 y1 y2 e => ⟨y0, y1, y2, z3, cs, e, B2.lo, B2.hi, B2.sz, B2.nn⟩
      refine ⟨_, rfl, a, _, _, _, rfl, rfl, SqL.of hb2, atI_nat (j := 0) rfl, _, _, rfl, rfl, _, rfl, ?_⟩
      refine ite2 (fun h0 => ?_) (fun h0 => ?_)
      · refine ⟨_, rfl, a, _, _, _, rfl, rfl, SqL.of hb2, atI_nat (j := 0) rfl, .inl ⟨_, rfl, ?_⟩⟩
        refine ⟨_, rfl, _, _, rfl, rfl, (show (0 : Int) < n by omega), ?_⟩
        refine ⟨_, rfl, a, _, _, _, rfl, rfl, SqL.of hb2, atI_nat (j := 0) rfl, _, rfl, _, _, rfl, rfl, ⟨by omega, by omega⟩, _, rfl, a, _, _, 0, rfl, rfl, hb2, bgi 0 (by decide), ?_⟩
        refine ⟨_, rfl, ?_⟩
        exact k _ _ k2.upd (bag2 _ _ _ _ upd_same) (Int.emod_nonneg _ (by omega)) (Int.emod_lt_of_pos _ (by omega))
      · refine ⟨_, rfl, a, _, _, _, rfl, rfl, SqL.of hb2, atI_nat (j := 1) rfl, _, _, rfl, rfl, .inr ⟨by decide, by decide⟩, _, rfl, a, _, _, _, rfl, rfl, SqL.of hb2, atI_nat (j := 2) rfl, _, _, rfl, rfl, .inr ⟨by decide, by decide⟩, _, _, rfl, rfl, _, _, rfl, rfl, .inl ⟨_, rfl, ?_⟩⟩
        refine ⟨_, _, rfl, rfl, (show (0 : Int) < 2147483647 by decide), ?_⟩
        have m0 := Int.emod_nonneg (z1 * 1103515245 + z2 * 1640531527 + 12345) (show (2147483647 : Int) ≠ 0 by decide)
        have m1 := Int.emod_lt_of_pos (z1 * 1103515245 + z2 * 1640531527 + 12345) (show (0 : Int) < 2147483647 by decide)
        refine ⟨_, rfl, _, rfl, _, _, rfl, rfl, ⟨by decide, by decide⟩, _, _, rfl, rfl, _, _, rfl, rfl, .inl ⟨by omega, by omega⟩, _, rfl, a, _, _, _, rfl, rfl, SqL.of hb2, atI_nat (j := 2) rfl, _, _, rfl, rfl, .inl ⟨_, rfl, ?_⟩⟩
        refine ⟨_, _, rfl, rfl, (show (0 : Int) < 2147483399 by decide), ?_⟩
        refine ⟨_, rfl, _, _, rfl, rfl, ⟨by decide, by decide⟩, .inl ⟨_, rfl, ?_⟩⟩
        refine ⟨_, rfl, _, _, rfl, rfl, (show (0 : Int) < n by omega), ?_⟩
        exact k _ _ k2 (bag2 _ _ _ _ hb2) (Int.emod_nonneg _ (by omega)) (Int.emod_lt_of_pos _ (by omega))
end
end Sh
end
section
set_option Elab.async false
set_option linter.all false
set_option maxRecDepth 100000
set_option maxHeartbeats 2000000
set_option autoImplicit false
namespace Sh
open PySem PySem.Spec PyProof.Rows L2
open C8 (pss_cut tCut)
open Evl (ixN_nat)
open TL (tl joinL tl_join join_eq)
end Sh
namespace L2
open PySem PySem.Spec PyProof.Rows
theorem Same.upd_new {H H1 : Hp} {p : Addr} {o : HO} (s : Same H H1) (hp : H1 p = none) : Same H (upd H1 p o) := fun b u h => by
  rw [upd_ne (ne_of_none (s b u h) hp)]
  exact s b u h
theorem Same.upd_own {H H1 : Hp} {p : Addr} {o : HO} (s : Same H H1) (hp : H p = none) : Same H (upd H1 p o) := fun b u h => by
  rw [upd_ne (ne_of_none h hp)]
  exact s b u h
end L2
namespace Sh
open PySem PySem.Spec PyProof.Rows L2
open C8 (pss_cut tCut)
open Evl (ixN_nat)
open TL (tl joinL tl_join join_eq)
theorem get_map {α β : Type} {f : α → β} {l : List α} {i : Nat} {y : β} (h : (l.map f)[i]? = some y) : ∃ x, l[i]? = some x ∧ y = f x := by
  rw [List.getElem?_map] at h
  cases e : l[i]? with
  | none => rw [e] at h; cases h
  | some x => rw [e] at h; exact ⟨x, rfl, (Option.some.inj h).symm⟩
theorem take_snoc {α : Type} {l : List α} {i : Nat} {x : α} (h : l[i]? = some x) : l.take i ++ [x] = l.take (i + 1) := by
  rw [List.take_add_one, h]
  rfl
theorem lt_of_get {α : Type} {l : List α} {i : Nat} {x : α} (h : l[i]? = some x) : i < l.length := (List.getElem?_eq_some_iff.mp h).1
theorem mem_of_get {α : Type} {l : List α} {i : Nat} {x : α} (h : l[i]? = some x) : x ∈ l := List.mem_of_getElem? h
theorem le_line {n : Nat} (h : n ≤ 100000) : n ≤ sizeLine := Nat.le_trans h (by rw [sizeLine_eq]; decide)
theorem lt_line {n : Nat} (h : n ≤ 100000) : n < sizeLine := Nat.lt_of_le_of_lt h (by rw [sizeLine_eq]; decide)
theorem at_ofG {α : Type} {xs : List α} {z : Int} {j : Nat} {v : α} (e : z = (j : Int)) (h : xs[j]? = some v) : atI xs z = some v := by
  rw [e]
  exact atI_nat h
/-! ### names -/
def IsNm (z : Str) : Prop := 1 ≤ z.cps.size ∧ z.cps.size ≤ 8 ∧ ∀ c ∈ z.cps.toList, 97 ≤ c ∧ c ≤ 122
def sg (c : Nat) : Str := ⟨#[c]⟩
theorem tl_sg (c : Nat) : tl (sg c) = [c] := rfl
theorem joinL_nil : ∀ l : List (List Nat), joinL [] l = l.flatten
  | [] => rfl
  | [p] => by simp [joinL]
  | p :: q :: r => by
    show p ++ ([] ++ joinL [] (q :: r)) = _
    rw [List.nil_append, joinL_nil (q :: r)]
    simp only [List.flatten_cons]
theorem join_sgs (cs : List Nat) : (Txt.join "" (cs.map sg)).cps.toList = cs := by
  have e : tl (Txt.join "" (cs.map sg)) = cs := by
    rw [join_eq, tl_join, show tl ("" : Str) = [] from rfl, joinL_nil, List.map_map]
    induction cs with
    | nil => rfl
    | cons c r ih =>
      rw [List.map_cons, List.flatten_cons, ih]
      rfl
  exact e
theorem letters_at (d : Nat) (h : d < 26) : (("abcdefghijklmnopqrstuvwxyz" : Str).cps.toList)[d]? = some (97 + d) := by
  have z : ∀ d, d < 26 → (("abcdefghijklmnopqrstuvwxyz" : Str).cps.toList)[d]? = some (97 + d) := by decide +kernel
  exact z d h
theorem letters_len : ("abcdefghijklmnopqrstuvwxyz" : Str).length = 26 := by decide +kernel
def spBag (K : PySem.W.Frag) : Sp := fun vs H Q _ => ∃ (a : Addr) (ns : List Int), vs = [.ref a] ∧ SqL K H a (ns.map V.int) ∧ ns.length ≤ 63 ∧ ∀ H' p, Same H H' → H p = none → BagAt H' p → Q (.ref p) H'
def spWord : Sp := fun vs H Q _ => ∃ a, vs = [.ref a] ∧ BagAt H a ∧ ∀ H' z, Kp a H H' → BagAt H' a → IsNm z → Q (.str z) H'
theorem Kp.bag_ne {a b : Addr} {H : Hp} (hb : BagAt H a) (h : H b = none) : b ≠ a := fun e => by
  obtain ⟨z0, z1, z2, z3, cs, q, _⟩ := hb
  rw [e, q] at h
  cases h
theorem Kp.upd_new {a p : Addr} {H H1 : Hp} {o : HO} (x : Kp a H H1) (hp : H1 p = none) : Kp a H (L2.upd H1 p o) := fun b u h n => by
  have q := x b u h n
  rw [upd_ne (ne_of_none q hp)]
  exact q
theorem Kp.upd_own {a p : Addr} {H H1 : Hp} {o : HO} (x : Kp a H H1) (hp : H p = none) : Kp a H (L2.upd H1 p o) := fun b u h n => by
  rw [upd_ne (ne_of_none h hp)]
  exact x b u h n
theorem BagAt.upd_ne {a p : Addr} {H : Hp} {o : HO} (h : BagAt H a) (n : p ≠ a) : BagAt (upd H p o) a := by
  obtain ⟨z0, z1, z2, z3, cs, q, B⟩ := h
  exact ⟨z0, z1, z2, z3, cs, by rw [L2.upd_ne (Ne.symm n)]; exact q, B⟩
abbrev s_law_bag : Stmt := top 41
abbrev N_law_bag : List Str := ["script", "cell"]
theorem sc_law_bag : FnScope N_law_bag ["script"] (defScope s_law_bag) := ⟨rfl, rfl, rfl, by decide +kernel, rfl, by decide +kernel, by decide +kernel⟩
abbrev s_law_word : Stmt := top 43
abbrev N_law_word : List Str := ["bag", "letters", "k"]
theorem sc_law_word : FnScope N_law_word ["bag"] (defScope s_law_word) := ⟨rfl, rfl, rfl, by decide +kernel, rfl, by decide +kernel, by decide +kernel⟩
section
variable {P : Program} {w : World} {K : PySem.W.Frag} {mg : Str → Option Value} {base : Heap}
theorem ok_bag (T : Bl mg) (D : Def0 K mg "_law_bag" s_law_bag) : DefOk P w K mg base CX0 1 "_law_bag" (spBag K) := by
  refine D.ok sc_law_bag (fun vs H Q E h => ?_) (fun _ _ _ _ _ _ us hl => match us, hl with | [_], _ => rfl) (fun f cdv A outer s H vs Q E hr h => ?_)
  · obtain ⟨a, n, rfl, _⟩ := h
    rfl
  · obtain ⟨a, ns, rfl, hs, hl, k⟩ := h
    refine ⟨_, (pss_one (ps_ret (pe_op op_cat (pe_lst (pa_cons pe_int (pa_cons pe_int (pa_cons pe_int (pa_cons pe_int pa_nil))))) (pe_lc (own := [("cell", 1)]) (g := (gName 1)) (tt := tYes) rfl sc_law_bag.nd (pi_list (pv 0)) (blkOk_by (N := N_law_bag) (sc := defScope s_law_bag) (by decide +kernel)) (fun _ _ _ _ _ => (pg_name (i := 1) sc_law_bag.nd rfl (Or.inl rfl))) (fun _ _ _ _ _ => pts_nil) (fun _ _ _ _ _ => (pe_callB call_abs (by rfl) T.b_abs (by decide +kernel) (pa_cons (pe_callTy call_int1 (by rfl) T.b_int (by decide +kernel) (pa_cons (pv 1) pa_nil)) pa_nil))))))), ?_⟩
    refine ⟨by show 4 ≤ sizeLine; exact le_line (by decide), fun l hl4 => ?_⟩
    have s1 : Same H (upd H l (.lst [.int 0, .int 0, .int 0, .int 4])) := (Same.refl H).upd_new hl4
    refine ⟨_, rfl, a, rfl, ⟨_, s1.seq hs⟩, fun D hD => lc_list (xs := ns.map V.int) (fun i H' => Same (upd H l (.lst [.int 0, .int 0, .int 0, .int 4])) H' ∧ H' D = some (.lst ((ns.take i).map fun n => V.int (if n < 0 then -n else n))))
      ⟨(Same.refl _).upd_new hD, upd_same⟩ (fun i H' _ ⟨q, _⟩ => (s1.trans q).seq hs) ?_ ?_⟩
    · rintro i x H' hi ⟨q1, q2⟩
      obtain ⟨n, hn, rfl⟩ := get_map hi
      refine ⟨rfl, _, rfl, .inl ⟨_, rfl, _, rfl, _, q2, ?_, (q1.upd_own hD), ?_⟩⟩
      · rw [List.length_map, List.length_take]
        exact lt_line (by omega)
      · rw [upd_same, ← take_snoc hn, List.map_append]
        rfl
    · rintro H' ⟨q1, q2⟩
      have ld : D ≠ l := fun e => by rw [e, upd_same] at hD; cases hD
      refine ⟨_, _, _, _, rfl, rfl, q1 _ _ upd_same, q2, ?_, fun p hp => ?_⟩
      · rw [List.length_map, List.length_take]
        exact le_line (by simp; omega)
      · have s2 : Same H H' := s1.trans q1
        refine k _ _ (s2.upd_new hp) (s2.free hp) ⟨0, 0, 0, 4, ns.map fun n => if n < 0 then -n else n, ?_, by decide, by omega, by rw [List.length_map]; exact hl, fun c hc => ?_⟩
        · rw [upd_same, List.length_map, List.take_length]
          unfold bgL
          rw [List.map_map]
          rfl
        · obtain ⟨n, _, rfl⟩ := List.mem_map.mp hc
          show 0 ≤ if n < 0 then -n else n
          split <;> omega
theorem ok_word (T : Bl mg) (c_law_draw : DefOk P w K mg base CX0 1 "_law_draw" spDraw) (D : Def0 K mg "_law_word" s_law_word) : DefOk P w K mg base CX0 2 "_law_word" spWord := by
  refine D.ok sc_law_word (fun vs H Q E h => ?_) (fun _ _ _ _ _ _ us hl => match us, hl with | [_], _ => rfl) (fun f cdv A outer s H vs Q E hr h => ?_)
  · obtain ⟨a, rfl, _⟩ := h
    rfl
  · obtain ⟨a, rfl, hb, k⟩ := h
    refine ⟨_, (pss_cons (ps_set (i := 1) sc_law_word.nd rfl (Or.inr rfl) pe_str)
      (pss_one (ps_ret (pe_bm PySem.F.plainAttrs_str PySem.F.slot_str_join PySem.F.type_str_join mt_join pe_str (pa_cons (pe_lc (own := [("k", 2)]) (g := (gName 2)) (tt := tYes) rfl sc_law_word.nd (pi_range1 (by rfl) T.b_range (pa_cons (pe_op op_add pe_int (pe_d c_law_draw (hr.mono (by decide)) pass0 (pa_cons (pv 0) (pa_cons pe_int pa_nil)))) pa_nil)) (blkOk_by (N := N_law_word) (sc := defScope s_law_word) (by decide +kernel)) (fun _ _ _ _ _ => (pg_name (i := 2) sc_law_word.nd rfl (Or.inl rfl))) (fun _ _ _ _ _ => pts_nil) (fun _ _ _ _ _ => (pe_ix ix_str (pv 1) (pe_d c_law_draw (hr.mono (by decide)) pass0 (pa_cons (pv 0) (pa_cons pe_int pa_nil))) (fun _ _ => rfl)))) pa_nil))))), ?_⟩
    refine ⟨rfl, _, rfl, a, 8, rfl, hb, by decide, by decide, fun H1 d k1 b1 d0 d8 => ?_⟩
    refine ⟨_, _, rfl, rfl, _, rfl, by omega, by omega, fun D hD => lc_range (n := (1 + d).toNat) (fun i H' => Kp a H1 H' ∧ BagAt H' a ∧ ∃ cs : List Nat, cs.length = i ∧ (∀ c ∈ cs, 97 ≤ c ∧ c ≤ 122) ∧ H' D = some (.lst ((cs.map sg).map V.str)))
      ⟨(Kp.refl _ _).upd_new hD, b1.upd_ne (Kp.bag_ne b1 hD), [], rfl, (fun c hc => nomatch hc), upd_same⟩ ?_ ?_⟩
    · rintro i H' hi ⟨k2, b2, cs, hc, hcs, hD2⟩
      have nDa : D ≠ a := Kp.bag_ne b1 hD
      refine ⟨rfl, _, rfl, _, rfl, a, 26, rfl, b2, by decide, by decide, fun H2 e k3 b3 e0 e1 => ?_⟩
      refine ⟨_, _, 97 + e.toNat, rfl, rfl, (by rw [letters_len]; exact le_line (by decide)), at_ofG (z := e) (j := e.toNat) (by omega) (letters_at e.toNat (by omega)), _, k3 _ _ hD2 nDa, ?_, (k2.trans k3).upd_own hD, b3.upd_ne nDa, cs ++ [97 + e.toNat], ?_, ?_, ?_⟩
      · simp only [List.length_map]
        exact lt_line (by omega)
      · rw [List.length_append, hc]; rfl
      · intro c hc2
        rcases List.mem_append.mp hc2 with q | q
        · exact hcs c q
        · rw [List.mem_singleton.mp q]; omega
      · rw [upd_same, List.map_append, List.map_append]
        rfl
    · rintro H' ⟨k2, b2, cs, hc, hcs, hD2⟩
      refine ⟨_, _, _, rfl, rfl, .inl (SqL.of hD2), ?_, ?_⟩
      · have e : ((cs.map sg).map (·.length)).sum = cs.length := by
          rw [List.map_map]
          clear hc hcs hD2
          induction cs with
          | nil => rfl
          | cons c r ih =>
            rw [List.map_cons, List.sum_cons, ih, List.length_cons]
            show 1 + r.length = _
            omega
        rw [e]
        simp only [List.length_map]
        show cs.length + cs.length * 0 ≤ _
        omega
      · have z := join_sgs cs
        have zl : (Txt.join "" (cs.map sg)).cps.size = cs.length := by rw [← Array.length_toList, z]
        exact k _ _ (k1.trans k2) b2 ⟨by rw [zl, hc]; omega, by rw [zl, hc]; omega, fun c q => hcs c (by rw [z] at q; exact q)⟩
end
end Sh
end
section
set_option Elab.async false
set_option linter.all false
set_option maxRecDepth 100000
set_option maxHeartbeats 2000000
set_option autoImplicit false
namespace Sh
open PySem PySem.Spec PyProof.Rows L2
open C8 (pss_cut tCut)
open Evl (ixN_nat)
open TL (tl joinL tl_join join_eq tl_append)
theorem Kp.free_of {a p : Addr} {H H1 : Hp} (x : Kp a H H1) (h : H1 p = none) (n : p ≠ a) : H p = none := by
  cases e : H p with
  | none => rfl
  | some o =>
    rw [x p o e n] at h
    cases h
theorem inV_str (w : Str) (ns : List Str) : inV (.str w) (ns.map V.str) = decide (w ∈ ns) := by
  induction ns with
  | nil => rfl
  | cons n r ih =>
    have e : inV (.str w) ((n :: r).map V.str) = ((n == w) || inV (.str w) (r.map V.str)) := rfl
    rw [e, ih, Bool.eq_iff_iff, Bool.or_eq_true, beq_iff_eq, decide_eq_true_iff, decide_eq_true_iff, List.mem_cons]
    exact or_congr_left eq_comm
theorem flat_strs (ns : List Str) : (ns.map V.str).all flatV = true := by
  rw [List.all_eq_true]
  intro x hx
  obtain ⟨y, _, rfl⟩ := List.mem_map.mp hx
  rfl
theorem flat_ints (ns : List Int) : (ns.map V.int).all flatV = true := by
  rw [List.all_eq_true]
  intro x hx
  obtain ⟨y, _, rfl⟩ := List.mem_map.mp hx
  rfl
theorem sub_len {α : Type} [DecidableEq α] : ∀ (l m : List α), l.Nodup → (∀ x ∈ l, x ∈ m) → l.length ≤ m.length
  | [], _, _, _ => Nat.zero_le _
  | a :: l, m, nd, h => by
    rw [List.nodup_cons] at nd
    have ha := h a List.mem_cons_self
    have z := sub_len l (m.erase a) nd.2 fun x hx => (List.mem_erase_of_ne (fun e => nd.1 (by rw [← e]; exact hx))).mpr (h x (List.mem_cons_of_mem _ hx))
    rw [List.length_erase_of_mem ha] at z
    have p := List.length_pos_of_mem ha
    rw [List.length_cons]
    omega
def lets : List Str := (List.range 26).map fun d => sg (97 + d)
theorem lets_nd : lets.Nodup := by decide +kernel
theorem lets_get {i : Nat} (h : i < 26) : (("abcdefghijklmnopqrstuvwxyz" : Str).cps)[i]? = some (97 + i) := by
  rw [← Array.getElem?_toList]
  exact letters_at i h
theorem nm_sg {c : Nat} (h : 97 ≤ c ∧ c ≤ 122) : IsNm (sg c) := ⟨by show 1 ≤ 1; decide, by show 1 ≤ 8; decide, fun x hx => by
  have z : x = c := List.mem_singleton.mp hx
  rw [z]; exact h⟩
def spName (K : PySem.W.Frag) : Sp := fun vs H Q _ => ∃ (a t : Addr) (ns : List Str), vs = [.ref a, .ref t] ∧ BagAt H a ∧ t ≠ a ∧ H t = some (.lst (ns.map V.str)) ∧ (∀ n ∈ ns, IsNm n) ∧ ns.length ≤ 7 ∧ ∀ H' z, Kp a H H' → BagAt H' a → IsNm z → z ∉ ns → Q (.str z) H'
theorem str_len (z : Str) : z.length = z.cps.size := rfl
theorem nm_line {z : Str} (h : IsNm z) : z.length ≤ sizeLine := le_line (Nat.le_trans h.2.1 (by decide))
theorem nm_app {x y : Str} (hx : IsNm x) (hy : IsNm y) (hl : x.length < 8) {c : Nat} (hc : y.cps.toList[0]? = some c) : IsNm (x ++ sg c) := by
  have e : (x ++ sg c).cps.toList = x.cps.toList ++ [c] := tl_append x (sg c)
  have el : (x ++ sg c).cps.size = x.cps.size + 1 := by
    rw [← Array.length_toList, e, List.length_append, Array.length_toList]
    rfl
  refine ⟨by rw [el]; omega, by rw [el]; rw [str_len] at hl; omega, fun z hz => ?_⟩
  rw [e] at hz
  rcases List.mem_append.mp hz with q | q
  · exact hx.2.2 z q
  · rw [List.mem_singleton.mp q]
    exact hy.2.2 c (List.mem_of_getElem? hc)
theorem nm_cut {x : Str} (hx : IsNm x) (hl : 1 < x.length) : IsNm (cutS x none (some (-1))) := by
  have e : (cutS x none (some (-1))).cps.toList = x.cps.toList.take (x.cps.size - 1) := by
    have h1 : HT.sIx x.length 0 none = 0 := rfl
    have h2 : HT.sIx x.length x.length (some (-1)) = x.cps.size - 1 := by
      rw [str_len] at hl ⊢
      unfold HT.sIx
      simp
      omega
    unfold cutS
    rw [h1, h2]
    simp
  have el : (cutS x none (some (-1))).cps.size = x.cps.size - 1 := by
    rw [← Array.length_toList, e, List.length_take, Array.length_toList]
    omega
  rw [str_len] at hl
  refine ⟨by rw [el]; omega, by rw [el]; have := hx.2.1; omega, fun z hz => ?_⟩
  rw [e] at hz
  exact hx.2.2 z (List.mem_of_mem_take hz)
theorem nm_first {x : Str} (hx : IsNm x) : ∃ c, x.cps.toList[0]? = some c := by
  have h := hx.1
  rw [← Array.length_toList] at h
  exact ⟨_, List.getElem?_eq_getElem (by omega)⟩
abbrev s_law_name : Stmt := top 44
abbrev N_law_name : List Str := ["bag", "taken", "word", "near", "elder", "one"]
theorem sc_law_name : FnScope N_law_name ["bag", "taken"] (defScope s_law_name) := ⟨rfl, rfl, rfl, by decide +kernel, rfl, by decide +kernel, by decide +kernel⟩
section
variable {P : Program} {w : World} {K : PySem.W.Frag} {mg : Str → Option Value} {base : Heap}
theorem ok_name (T : Bl mg) (c_law_draw : DefOk P w K mg base CX0 1 "_law_draw" spDraw) (c_law_word : DefOk P w K mg base CX0 2 "_law_word" spWord) (D : Def0 K mg "_law_name" s_law_name) : DefOk P w K mg base CX0 3 "_law_name" (spName K) := by
  refine D.ok sc_law_name (fun vs H Q E h => ?_) (fun _ _ _ _ _ _ us hl => match us, hl with | [_, _], _ => rfl) (fun f cdv A outer s H vs Q E hr h => ?_)
  · obtain ⟨a, t, ns, rfl, _⟩ := h
    rfl
  · obtain ⟨a, t, ns, rfl, hb, hta, ht, hn, hl, k⟩ := h
    refine ⟨_, (pss_cons (ps_set (i := 2) sc_law_name.nd rfl (Or.inl rfl) (pe_d c_law_word (hr.mono (by decide)) pass0 (pa_cons (pv 0) pa_nil)))
      (pss_cons (ps_set (i := 3) sc_law_name.nd rfl (Or.inl rfl) (pe_d c_law_draw (hr.mono (by decide)) pass0 (pa_cons (pv 0) (pa_cons pe_int pa_nil))))
      (pss_cut (ps_if (PW.pt (pw_and (pt_truth (pv 1) (by intro _; rfl)) (pw_and1 (pt_cmpR op_lt (pv 3) pe_int (nomark _)))))
        (pss_cons (ps_set (i := 4) sc_law_name.nd rfl (Or.inl rfl) (pe_ix ix_list (pv 1) (pe_d c_law_draw (hr.mono (by decide)) pass0 (pa_cons (pv 0) (pa_cons (pe_callB call_len_seq (by rfl) T.b_len boot_len (pa_cons (pv 1) pa_nil)) pa_nil))) (fun _ _ => rfl)))
        (pss_one (ps_if (PW.pt (pw_and (pt_cmpR op_eq (pv 3) pe_int (nomark _)) (pw_and1 (pt_cmpR op_lt (pe_callB call_len_str (by rfl) T.b_len boot_len (pa_cons (pv 4) pa_nil)) pe_int (nomark _)))))
          (pss_one (ps_set (i := 2) sc_law_name.nd rfl (Or.inl rfl) (pe_op op_add_str (pv 4) (pe_ix ix_str (pv 2) pe_int (fun _ _ => rfl)))))
          (pss_one (ps_if (pt_cmpR op_gt (pe_callB call_len_str (by rfl) T.b_len boot_len (pa_cons (pv 4) pa_nil)) pe_int (nomark _))
            (pss_one (ps_set (i := 2) sc_law_name.nd rfl (Or.inl rfl) (pe_slice sl_str (pv 4) po_none (po_some (pe_un un_neg pe_int)))))
            pss_nil)))))
        pss_nil)
      (pss_cut (ps_if (pt_cmpR op_in_seq (pv 2) (pv 1) (by rfl))
        (pss_one (ps_set (i := 2) sc_law_name.nd rfl (Or.inl rfl) (pe_ix ix_list (pe_lc (own := [("one", 5)]) (g := (gName 5)) rfl sc_law_name.nd (pi_str pe_str) (blkOk_by (N := N_law_name) (sc := defScope s_law_name) (by decide +kernel)) (fun _ _ _ _ _ => (pg_name (i := 5) sc_law_name.nd rfl (Or.inl rfl))) (fun _ _ _ _ _ => (pts_one (pt_cmpR (show OpR _ _ (rIn K true) from op_notIn_seq) (pv 5) (pv 1) (by rfl)))) (fun _ _ _ _ _ => (pv 5))) pe_int (fun _ _ => rfl))))
        pss_nil)
      (pss_one (ps_ret (pv 2))))))), ?_⟩
    refine ⟨_, rfl, a, rfl, hb, fun H1 w1 k1 b1 n1 => ?_⟩
    refine ⟨_, rfl, a, 4, rfl, b1, by decide, by decide, fun H2 d k2 b2 d0 d4 => ?_⟩
    have k02 := k1.trans k2
    refine ⟨fun σ H' => ∃ (z : Str) (e : Option V), σ = [some (.ref a), some (.ref t), some (.str z), some (.int d), e, none] ∧ Kp a H H' ∧ BagAt H' a ∧ IsNm z, ?_, ?_⟩
    · have out0 : ∀ (e : Option V) H', Kp a H H' → BagAt H' a → ∃ (z : Str) (e2 : Option V), [some (V.ref a), some (V.ref t), some (V.str w1), some (V.int d), e, none] = [some (.ref a), some (.ref t), some (.str z), some (.int d), e2, none] ∧ Kp a H H' ∧ BagAt H' a ∧ IsNm z :=
        fun e H' q b => ⟨w1, e, rfl, q, b, n1⟩
      have ht2 := k02 _ _ ht hta
      refine ⟨_, rfl, _, .inl ⟨_, SqL.of ht2, rfl⟩, ?_⟩
      refine ite2 (fun he => ?_) (fun he => out0 _ _ k02 b2)
      refine ⟨_, rfl, _, _, rfl, rfl, _, rfl, ?_⟩
      refine ite2 (fun h2 => ?_) (fun h2 => out0 _ _ k02 b2)
      have hpos : 0 < ns.length := by
        cases ns with
        | nil => cases he
        | cons _ _ => exact Nat.succ_pos _
      refine ⟨_, rfl, _, rfl, _, rfl, t, _, rfl, .inl (SqL.of ht2), a, (ns.length : Int), by rw [List.length_map], b2, by omega, by omega, fun H3 j k3 b3 j0 j1 => ?_⟩
      have ht3 := k3 _ _ ht2 hta
      have hj : j.toNat < ns.length := by omega
      refine ⟨t, _, _, _, rfl, rfl, SqL.of ht3, at_ofG (j := j.toNat) (by omega) (by rw [List.getElem?_map, List.getElem?_eq_getElem hj]; rfl), ?_⟩
      have ne := hn _ (List.getElem_mem hj)
      have k03 := k02.trans k3
      refine ⟨_, rfl, rfl, _, rfl, ?_⟩
      have other : ∀ (e : Option V), e = some (.str ns[j.toNat]) → _ := fun e he => out0 e H3 k03 b3
      refine ite2 (fun h3 => ?_) (fun h3 => ?_)
      · refine ⟨_, rfl, _, rfl, nm_line ne, _, _, rfl, rfl, _, rfl, ?_⟩
        refine ite2 (fun h4 => ?_) (fun h4 => ?_)
        · obtain ⟨c, hc⟩ := nm_first n1
          have h5 : ns[j.toNat].length < 8 := by
            have q := of_decide_eq_true h4
            omega
          refine ⟨_, rfl, _, rfl, _, _, c, rfl, rfl, nm_line n1, atI_nat (j := 0) hc, _, _, rfl, rfl, ?_, ?_⟩
          · exact le_line (by show ns[j.toNat].length + 1 ≤ _; omega)
          · exact ⟨_, _, rfl, k03, b3, nm_app ne n1 h5 hc⟩
        · refine ⟨_, rfl, _, rfl, nm_line ne, _, _, rfl, rfl, _, rfl, ?_⟩
          refine ite2 (fun h5 => ?_) (fun h5 => out0 _ _ k03 b3)
          refine ⟨_, rfl, _, rfl, _, rfl, _, rfl, nm_line ne, ?_⟩
          exact ⟨_, _, rfl, k03, b3, nm_cut ne (by have q := of_decide_eq_true h5; omega)⟩
      · refine ⟨_, rfl, _, rfl, nm_line ne, _, _, rfl, rfl, _, rfl, ?_⟩
        refine ite2 (fun h5 => ?_) (fun h5 => out0 _ _ k03 b3)
        refine ⟨_, rfl, _, rfl, _, rfl, _, rfl, nm_line ne, ?_⟩
        exact ⟨_, _, rfl, k03, b3, nm_cut ne (by have q := of_decide_eq_true h5; omega)⟩
    · rintro σ H3 ⟨z, e, rfl, k3, b3, nz⟩
      have ht3 := k3 _ _ ht hta
      refine ⟨fun σ H' => ∃ (z : Str) (e : Option V), σ = [some (.ref a), some (.ref t), some (.str z), some (.int d), e, none] ∧ Kp a H H' ∧ BagAt H' a ∧ IsNm z ∧ z ∉ ns, ?_, ?_⟩
      · refine ⟨_, rfl, _, rfl, t, _, rfl, .inl (SqL.of ht3), rfl, flat_strs ns, _, rfl, ?_⟩
        refine ite2 (fun h1 => ?_) (fun h1 => ?_)
        · refine ⟨_, rfl, fun D hD => ?_⟩
          have nDa : D ≠ a := Kp.bag_ne b3 hD
          have nDt : t ≠ D := ne_of_none ht3 hD
          refine lc_it (walk_str (z := "abcdefghijklmnopqrstuvwxyz")) (fun i H' => Kp a H H' ∧ BagAt H' a ∧ H' D = some (.lst (((lets.take i).filter fun y => decide (y ∉ ns)).map V.str)))
            ⟨k3.upd_new hD, b3.upd_ne nDa, upd_same⟩ (fun _ _ _ _ => trivial) ?_ ?_
          · rintro i x H1 H2 hi ⟨q1, q2, q3⟩ ⟨rfl, c, hc, rfl⟩
            have hi26 : i < 26 := by rw [← letters_len]; exact hi
            have ec : c = 97 + i := by
              rw [lets_get hi26] at hc
              exact (Option.some.inj hc).symm
            subst ec
            have hg : lets[i]? = some (sg (97 + i)) := by
              unfold lets
              rw [List.getElem?_map, List.getElem?_range hi26]
              rfl
            refine ⟨rfl, _, rfl, _, rfl, t, _, rfl, .inl (SqL.of (q1 _ _ ht hta)), rfl, flat_strs ns, _, rfl, ?_⟩
            have ez : (!inV (V.str (sg (97 + i))) (ns.map V.str)) = decide (sg (97 + i) ∉ ns) := by
              rw [inV_str]
              simp
            have et : (lets.take (i + 1)).filter (fun y => decide (y ∉ ns)) = (lets.take i).filter (fun y => decide (y ∉ ns)) ++ (if decide (sg (97 + i) ∉ ns) = true then [sg (97 + i)] else []) := by
              rw [← take_snoc hg, List.filter_append, List.filter_cons, List.filter_nil]
            show if (!inV (V.str (sg (97 + i))) (ns.map V.str)) = true then _ else _
            rw [ez]
            refine ite2 (fun h2 => ?_) (fun h2 => ?_)
            · refine ⟨_, rfl, _, q3, ?_, q1.upd_own (k3.free_of hD nDa), q2.upd_ne nDa, ?_⟩
              · rw [List.length_map]
                refine lt_line (Nat.le_trans (List.length_filter_le _ _) ?_)
                rw [List.length_take]
                omega
              · rw [upd_same, et, if_pos h2, List.map_append]
                rfl
            · refine ⟨q1, q2, ?_⟩
              rw [et, if_neg h2, List.append_nil]
              exact q3
          · rintro H4 ⟨q1, q2, q3⟩
            have hz : ("abcdefghijklmnopqrstuvwxyz" : Str).cps.size = 26 := letters_len
            rw [hz, show lets.take 26 = lets from List.take_of_length_le (by decide)] at q3
            cases hf : lets.filter (fun y => decide (y ∉ ns)) with
            | nil =>
              have hall : ∀ y ∈ lets, y ∈ ns := fun y hy => by
                refine Classical.byContradiction fun c => ?_
                have : y ∈ lets.filter (fun y => decide (y ∉ ns)) := List.mem_filter.mpr ⟨hy, decide_eq_true c⟩
                rw [hf] at this
                cases this
              have := sub_len lets ns lets_nd hall
              have e26 : lets.length = 26 := by decide
              omega
            | cons y r =>
              rw [hf] at q3
              have hy : y ∈ lets.filter (fun y => decide (y ∉ ns)) := by rw [hf]; exact List.mem_cons_self
              obtain ⟨y1, y2⟩ := List.mem_filter.mp hy
              refine ⟨D, _, _, _, rfl, rfl, SqL.of q3, atI_nat (j := 0) rfl, y, e, rfl, q1, q2, ?_, of_decide_eq_true y2⟩
              unfold lets at y1
              obtain ⟨dd, hd1, rfl⟩ := List.mem_map.mp y1
              have := List.mem_range.mp hd1
              exact nm_sg ⟨by omega, by omega⟩
        · refine ⟨z, e, rfl, k3, b3, nz, ?_⟩
          have h2 : inV (V.str z) (ns.map V.str) ≠ true := h1
          rw [inV_str] at h2
          exact fun q => h2 (decide_eq_true q)
      · rintro σ H5 ⟨z, e, rfl, k5, b5, nz, hz⟩
        exact ⟨_, rfl, k _ _ k5 b5 nz hz⟩
end
end Sh
end
section
set_option Elab.async false
set_option linter.all false
set_option maxRecDepth 100000
set_option maxHeartbeats 2000000
set_option autoImplicit false
namespace Sh
open PySem PySem.Spec PyProof.Rows L2
open C8 (pss_cut tCut)
open Evl (ixN_nat)
abbrev Row := Str × Int
/-- tuples stay -/
def TK (H H' : Hp) : Prop := ∀ t xs, H t = some (.tup xs) → H' t = some (.tup xs)
theorem TK.refl (H : Hp) : TK H H := fun _ _ h => h
theorem TK.trans {H H1 H2 : Hp} (x : TK H H1) (y : TK H1 H2) : TK H H2 := fun t xs h => y t xs (x t xs h)
theorem TK.new {H : Hp} {p : Addr} {o : HO} (h : H p = none) : TK H (upd H p o) := fun t xs q => by
  rw [upd_ne (ne_of_none q h)]
  exact q
theorem TK.lst {H : Hp} {p : Addr} {ys : List V} {o : HO} (h : H p = some (.lst ys)) : TK H (upd H p o) := fun t xs q => by
  rw [upd_ne (ne_of q h (fun e => nomatch e))]
  exact q
theorem TK.of_same {H H' : Hp} (s : Same H H') : TK H H' := fun t xs q => s t _ q
theorem Kp.tk {a : Addr} {H H' : Hp} (x : Kp a H H') (b : BagAt H a) : TK H H' := fun t xs q => by
  obtain ⟨z0, z1, z2, z3, cs, hb, _⟩ := b
  exact x t _ q (ne_of q hb (fun e => nomatch e))
def TupsAt (H : Hp) (ts : List Addr) (rows : List Row) : Prop := ts.length = rows.length ∧ ∀ (i : Nat) (t : Addr) (q : Row), ts[i]? = some t → rows[i]? = some q → H t = some (.tup [.str q.1, .int q.2])
theorem TupsAt.keep {H H' : Hp} {ts : List Addr} {rows : List Row} (x : TupsAt H ts rows) (k : TK H H') : TupsAt H' ts rows := ⟨x.1, fun i t q a b => k _ _ (x.2 i t q a b)⟩
theorem TupsAt.snoc {H : Hp} {ts : List Addr} {rows : List Row} {t : Addr} {q : Row} (x : TupsAt H ts rows) (h : H t = some (.tup [.str q.1, .int q.2])) : TupsAt H (ts ++ [t]) (rows ++ [q]) := by
  refine ⟨by simp [x.1], fun i t' q' a b => ?_⟩
  by_cases hi : i < ts.length
  · rw [List.getElem?_append_left hi] at a
    rw [List.getElem?_append_left (by rw [← x.1]; exact hi)] at b
    exact x.2 i t' q' a b
  · have hl := lt_of_get a
    rw [List.length_append, List.length_singleton] at hl
    have e : i = ts.length := by omega
    subst e
    rw [List.getElem?_append_right (Nat.le_refl _), Nat.sub_self] at a
    rw [x.1, List.getElem?_append_right (Nat.le_refl _), Nat.sub_self] at b
    cases a
    cases b
    exact h
def RowsAt (H : Hp) (r : Addr) (rows : List Row) : Prop := ∃ ts, H r = some (.lst (ts.map V.ref)) ∧ TupsAt H ts rows
structure ROk (most : Int) (rows : List Row) : Prop where
  pos : 1 ≤ rows.length
  len : (rows.length : Int) ≤ most
  nd : (rows.map (·.1)).Nodup
  nm : ∀ q ∈ rows, IsNm q.1
  wd : ∀ q ∈ rows, 0 ≤ q.2 ∧ q.2 ≤ 3
  leaf : ∃ q ∈ rows, q.2 = 0
def spRows : Sp := fun vs H Q _ => ∃ (a : Addr) (m : Int), vs = [.ref a, .int m] ∧ BagAt H a ∧ 1 ≤ m ∧ m ≤ 8 ∧ ∀ H' r rows, Kp a H H' → BagAt H' a → H r = none → RowsAt H' r rows → ROk m rows → Q (.ref r) H'
theorem mem_map_ints {ws : List Int} {n : Int} : inV (.int n) (ws.map V.int) = decide (n ∈ ws) := by
  induction ws with
  | nil => rfl
  | cons z r ih =>
    have e : inV (.int n) ((z :: r).map V.int) = ((z == n) || inV (.int n) (r.map V.int)) := rfl
    rw [e, ih, Bool.eq_iff_iff, Bool.or_eq_true, beq_iff_eq, decide_eq_true_iff, decide_eq_true_iff, List.mem_cons]
    exact or_congr_left eq_comm
theorem zip_snoc {ns : List Str} {ws : List Int} {i : Nat} {n : Str} {z : Int} (h1 : ns[i]? = some n) (h2 : ws[i]? = some z) : (ns.zip ws).take i ++ [(n, z)] = (ns.zip ws).take (i + 1) :=
  take_snoc (List.getElem?_zip_eq_some.mpr ⟨h1, h2⟩)
abbrev s_law_rows : Stmt := top 45
abbrev N_law_rows : List Str := ["bag", "most", "names", "numbers", "k", "place"]
theorem sc_law_rows : FnScope N_law_rows ["bag", "most"] (defScope s_law_rows) := ⟨rfl, rfl, rfl, by decide +kernel, rfl, by decide +kernel, by decide +kernel⟩
section
variable {P : Program} {w : World} {K : PySem.W.Frag} {mg : Str → Option Value} {base : Heap}
theorem ok_rows (T : Bl mg) (c_law_draw : DefOk P w K mg base CX0 1 "_law_draw" spDraw) (c_law_name : DefOk P w K mg base CX0 3 "_law_name" (spName K)) (D : Def0 K mg "_law_rows" s_law_rows) : DefOk P w K mg base CX0 4 "_law_rows" spRows := by
  refine D.ok sc_law_rows (fun vs H Q E h => ?_) (fun _ _ _ _ _ _ us hl => match us, hl with | [_, _], _ => rfl) (fun f cdv A outer s H vs Q E hr h => ?_)
  · obtain ⟨a, m, rfl, _⟩ := h
    rfl
  · obtain ⟨a, m, rfl, hb, m1, m8, k⟩ := h
    refine ⟨_, (pss_cons (ps_set (i := 2) sc_law_rows.nd rfl (Or.inr rfl) (pe_lst pa_nil))
      (pss_cons (ps_set (i := 3) sc_law_rows.nd rfl (Or.inr rfl) (pe_lst pa_nil))
      (pss_cons (ps_for PassesOwn.never rfl (pi_range1 (by rfl) T.b_range (pa_cons (pe_op op_add pe_int (pe_d c_law_draw (hr.mono (by decide)) pass0 (pa_cons (pv 0) (pa_cons (pv 1) pa_nil)))) pa_nil)) (pg_name (i := 4) sc_law_rows.nd rfl (Or.inl rfl))
        (pss_cons (ps_expr (pe_bm PySem.F.plainAttrs_list PySem.F.slot_list_append PySem.F.type_list_append mt_append (pv 2) (pa_cons (pe_d c_law_name (hr.mono (by decide)) pass0 (pa_cons (pv 0) (pa_cons (pv 2) pa_nil))) pa_nil)))
        (pss_one (ps_expr (pe_bm PySem.F.plainAttrs_list PySem.F.slot_list_append PySem.F.type_list_append mt_append (pv 3) (pa_cons (pe_ix ix_list (pe_lst (pa_cons pe_int (pa_cons pe_int (pa_cons pe_int (pa_cons pe_int (pa_cons pe_int (pa_cons pe_int (pa_cons pe_int pa_nil)))))))) (pe_d c_law_draw (hr.mono (by decide)) pass0 (pa_cons (pv 0) (pa_cons pe_int pa_nil))) (fun _ _ => rfl)) pa_nil))))))
      (pss_cut (ps_if (pt_cmpR op_notIn_seq pe_int (pv 3) (by rfl))
        (pss_cons (ps_set (i := 5) sc_law_rows.nd rfl (Or.inl rfl) (pe_d c_law_draw (hr.mono (by decide)) pass0 (pa_cons (pv 0) (pa_cons (pe_callB call_len_seq (by rfl) T.b_len boot_len (pa_cons (pv 3) pa_nil)) pa_nil))))
        (pss_one (ps_asg pe_int (pg_sub (pv 3) (pv 5) set_list))))
        pss_nil)
      (pss_one (ps_ret (pe_lc (own := [("k", 4)]) (g := (gName 4)) (tt := tYes) rfl sc_law_rows.nd (pi_range1 (by rfl) T.b_range (pa_cons (pe_callB call_len_seq (by rfl) T.b_len boot_len (pa_cons (pv 2) pa_nil)) pa_nil)) (blkOk_by (N := N_law_rows) (sc := defScope s_law_rows) (by decide +kernel)) (fun _ _ _ _ _ => (pg_name (i := 4) sc_law_rows.nd rfl (Or.inl rfl))) (fun _ _ _ _ _ => pts_nil) (fun _ _ _ _ _ => (pe_tup (pa_cons (pe_ix (show IxR _ (rIxL K) from ix_list) (pv 2) (pv 4) (fun _ _ => rfl)) (pa_cons (pe_ix (show IxR _ (rIxL K) from ix_list) (pv 3) (pv 4) (fun _ _ => rfl)) pa_nil))))))))))), ?_⟩
    refine ⟨Nat.zero_le _, fun l1 h1 => ⟨Nat.zero_le _, fun l2 h2 => ?_⟩⟩
    have n1a : l1 ≠ a := Kp.bag_ne hb h1
    have b0 : BagAt (upd H l1 (.lst [])) a := hb.upd_ne n1a
    have n2a : l2 ≠ a := Kp.bag_ne b0 h2
    have n21 : l2 ≠ l1 := fun e => by rw [e, upd_same] at h2; cases h2
    have h20 : H l2 = none := by rw [upd_ne n21] at h2; exact h2
    have k0 : Kp a H (upd (upd H l1 (.lst [])) l2 (.lst [])) := ((Kp.refl a H).upd_own h1).upd_own h20
    refine ⟨_, rfl, _, rfl, a, m, rfl, b0.upd_ne n2a, m1, by omega, fun H1 d k1 b1 d0 d1 => ?_⟩
    refine ⟨_, _, rfl, rfl, _, rfl, by omega, by omega, for_range (n := (1 + d).toNat) (fun i σ H' => ∃ (x : Option V) (ns : List Str) (ws : List Int), σ = [some (.ref a), some (.int m), some (.ref l1), some (.ref l2), x, none] ∧ Kp a H H' ∧ BagAt H' a ∧ H' l1 = some (.lst (ns.map V.str)) ∧ H' l2 = some (.lst (ws.map V.int)) ∧
        ns.length = i ∧ ws.length = i ∧ ns.Nodup ∧ (∀ n ∈ ns, IsNm n) ∧ ∀ z ∈ ws, 0 ≤ z ∧ z ≤ 3) ?_ ?_ ?_⟩
    · exact ⟨none, [], [], rfl, k0.trans k1, b1, k1 _ _ (by rw [upd_ne n21.symm, upd_same]; rfl) n1a, k1 _ _ upd_same n2a, rfl, rfl, List.nodup_nil, (fun n hn => nomatch hn), fun z hz => nomatch hz⟩
    · rintro i σ H2 hi ⟨x, ns, ws, rfl, k2, b2, q1, q2, e1, e2, nd, hn, hw⟩
      refine ⟨_, rfl, .inl ⟨rfl, _, SqL.of q1⟩, _, rfl, _, rfl, a, l1, ns, rfl, b2, n1a, q1, hn, by omega, fun H3 z k3 b3 nz zn => ?_⟩
      have q13 := k3 _ _ q1 n1a
      have q23 := k3 _ _ q2 n2a
      refine ⟨l1, _, _, rfl, rfl, q13, lt_line (by rw [List.length_map]; omega), ?_⟩
      have b4 : BagAt (upd H3 l1 (.lst (ns.map V.str ++ [V.str z]))) a := b3.upd_ne n1a
      have q24 : (upd H3 l1 (.lst (ns.map V.str ++ [V.str z]))) l2 = some (.lst (ws.map V.int)) := by rw [upd_ne n21]; exact q23
      have k4 : Kp a H (upd H3 l1 (.lst (ns.map V.str ++ [V.str z]))) := (k2.trans k3).upd_own h1
      refine ⟨_, rfl, .inl ⟨rfl, _, SqL.of q24⟩, by show 7 ≤ sizeLine; exact le_line (by decide), fun l5 h5 => ?_⟩
      have n5a : l5 ≠ a := Kp.bag_ne b4 h5
      refine ⟨_, rfl, a, 7, rfl, b4.upd_ne n5a, by decide, by decide, fun H6 e k6 b6 e0 e7 => ?_⟩
      have q56 := k6 _ _ (upd_same (H := upd H3 l1 (.lst (ns.map V.str ++ [V.str z]))) (a := l5)) n5a
      obtain ⟨y, hy, y0, y3⟩ : ∃ y, ([0, 1, 2, 0, 2, 1, 3] : List Int)[e.toNat]? = some y ∧ 0 ≤ y ∧ y ≤ 3 := by
        have hh : ∀ j, j < 7 → ∃ y, ([0, 1, 2, 0, 2, 1, 3] : List Int)[j]? = some y ∧ 0 ≤ y ∧ y ≤ 3 := by
          intro j hj
          match j, hj with
          | 0, _ => exact ⟨0, rfl, by decide, by decide⟩
          | 1, _ => exact ⟨1, rfl, by decide, by decide⟩
          | 2, _ => exact ⟨2, rfl, by decide, by decide⟩
          | 3, _ => exact ⟨0, rfl, by decide, by decide⟩
          | 4, _ => exact ⟨2, rfl, by decide, by decide⟩
          | 5, _ => exact ⟨1, rfl, by decide, by decide⟩
          | 6, _ => exact ⟨3, rfl, by decide, by decide⟩
          | n + 7, h => exact absurd h (by omega)
        exact hh e.toNat (by omega)
      have hyv : ([V.int 0, V.int 1, V.int 2, V.int 0, V.int 2, V.int 1, V.int 3] : List V)[e.toNat]? = some (.int y) := by
        have q : (([0, 1, 2, 0, 2, 1, 3] : List Int).map V.int)[e.toNat]? = some (V.int y) := by rw [List.getElem?_map, hy]; rfl
        exact q
      refine ⟨l5, _, _, _, rfl, rfl, SqL.of q56, at_ofG (j := e.toNat) (by omega) hyv, ?_⟩
      have q26 := k6 _ _ (show (upd (upd H3 l1 (.lst (ns.map V.str ++ [V.str z]))) l5 _) l2 = some (.lst (ws.map V.int)) by rw [upd_ne (ne_of_none q24 h5)]; exact q24) n2a
      have q14 : (upd H3 l1 (.lst (ns.map V.str ++ [V.str z]))) l1 = some (.lst (ns.map V.str ++ [V.str z])) := upd_same
      have q16 := k6 _ _ (show (upd (upd H3 l1 (.lst (ns.map V.str ++ [V.str z]))) l5 _) l1 = some (.lst (ns.map V.str ++ [V.str z])) by rw [upd_ne (ne_of_none q14 h5)]; exact q14) n1a
      refine ⟨l2, _, _, rfl, rfl, q26, lt_line (by rw [List.length_map]; omega), ?_⟩
      refine ⟨_, ns ++ [z], ws ++ [y], rfl, ((k4.upd_new h5).trans k6).upd_own h20, b6.upd_ne n2a, ?_, ?_, ?_, ?_, ?_, ?_, ?_⟩
      · rw [upd_ne n21.symm, q16, List.map_append]
        rfl
      · rw [upd_same, List.map_append]
        rfl
      · rw [List.length_append, e1]; rfl
      · rw [List.length_append, e2]; rfl
      · rw [List.nodup_append]
        exact ⟨nd, (List.nodup_cons.mpr ⟨List.not_mem_nil, List.nodup_nil⟩), fun u hu v hv e => zn (by rw [List.mem_singleton.mp hv] at e; rw [← e]; exact hu)⟩
      · intro n hn2
        rcases List.mem_append.mp hn2 with q | q
        · exact hn n q
        · rw [List.mem_singleton.mp q]; exact nz
      · intro n hn2
        rcases List.mem_append.mp hn2 with q | q
        · exact hw n q
        · rw [List.mem_singleton.mp q]; exact ⟨y0, y3⟩
    · rintro σ H2 ⟨x, ns, ws, rfl, k2, b2, q1, q2, e1, e2, nd, hn, hw⟩
      refine ⟨fun σ H' => ∃ (x y : Option V) (ws : List Int), σ = [some (.ref a), some (.int m), some (.ref l1), some (.ref l2), x, y] ∧ Kp a H H' ∧ BagAt H' a ∧ H' l1 = some (.lst (ns.map V.str)) ∧ H' l2 = some (.lst (ws.map V.int)) ∧ ws.length = ns.length ∧ (∀ z ∈ ws, 0 ≤ z ∧ z ≤ 3) ∧ 0 ∈ ws, ?_, ?_⟩
      · refine ⟨_, rfl, l2, _, rfl, .inl (SqL.of q2), rfl, flat_ints ws, _, rfl, ?_⟩
        show if (!inV (V.int 0) (ws.map V.int)) = true then _ else _
        rw [mem_map_ints]
        refine ite2 (fun h0 => ?_) (fun h0 => ?_)
        · refine ⟨_, rfl, _, rfl, l2, _, rfl, .inl (SqL.of q2), a, (ws.length : Int), by rw [List.length_map], b2, by omega, by omega, fun H3 j k3 b3 j0 j1 => ?_⟩
          have q23 := k3 _ _ q2 n2a
          refine ⟨_, rfl, _, rfl, l2, _, _, j.toNat, rfl, rfl, q23, ?_, ?_⟩
          · have z := ixN_nat (n := (ws.map V.int).length) (j := j.toNat) (by rw [List.length_map]; omega)
            rw [show ((j.toNat : Nat) : Int) = j by omega] at z
            exact z
          · refine ⟨_, _, ws.set j.toNat 0, rfl, (k2.trans k3).upd_own h20, b3.upd_ne n2a, ?_, ?_, by rw [List.length_set, e1, e2], fun z hz => ?_, ?_⟩
            · rw [upd_ne n21.symm]
              exact k3 _ _ q1 n1a
            · rw [upd_same, List.map_set]
            · rcases List.mem_or_eq_of_mem_set hz with q | q
              · exact hw z q
              · rw [q]; exact ⟨by decide, by decide⟩
            · exact List.mem_set (by omega) _
        · refine ⟨_, _, ws, rfl, k2, b2, q1, q2, by omega, hw, ?_⟩
          simpa using h0
      · rintro σ H3 ⟨x, y, ws, rfl, k3, b3, q1, q2, el, hw, h0⟩
        refine ⟨_, rfl, l1, _, rfl, .inl (SqL.of q1), _, rfl, by rw [List.length_map]; omega, by rw [List.length_map]; omega, fun D hD => lc_range (n := (((ns.map V.str).length : Nat) : Int).toNat)
          (fun i H' => Kp a H H' ∧ BagAt H' a ∧ H' l1 = some (.lst (ns.map V.str)) ∧ H' l2 = some (.lst (ws.map V.int)) ∧ ∃ ts : List Addr, H' D = some (.lst (ts.map V.ref)) ∧ TupsAt H' ts ((ns.zip ws).take i)) ?_ ?_ ?_⟩
        · have nDa : D ≠ a := Kp.bag_ne b3 hD
          refine ⟨k3.upd_new hD, b3.upd_ne nDa, by rw [upd_ne (ne_of_none q1 hD)]; exact q1, by rw [upd_ne (ne_of_none q2 hD)]; exact q2, [], upd_same, rfl, fun i t q hi => by simp at hi⟩
        · rintro i H4 hi ⟨k4, b4, p1, p2, ts, pD, pT⟩
          have hin : i < ns.length := by simpa using hi
          have hiw : i < ws.length := by omega
          have nDa : D ≠ a := Kp.bag_ne b3 hD
          refine ⟨rfl, _, rfl, _, rfl, l1, _, _, _, rfl, rfl, SqL.of p1, at_ofG (j := i) (by omega) (by rw [List.getElem?_map, List.getElem?_eq_getElem hin]; rfl), _, rfl, _, rfl, l2, _, _, _, rfl, rfl, SqL.of p2, at_ofG (j := i) (by omega) (by rw [List.getElem?_map, List.getElem?_eq_getElem hiw]; rfl), ?_⟩
          refine ⟨le_line (show 2 ≤ 100000 by decide), fun t ht => ?_⟩
          have nDt : D ≠ t := ne_of_none pD ht
          have hD3 : H D = none := k3.free_of hD nDa
          refine ⟨_, by rw [upd_ne nDt]; exact pD, ?_, (k4.upd_new ht).upd_own hD3, (b4.upd_ne (Kp.bag_ne b4 ht)).upd_ne nDa, ?_, ?_, ts ++ [t], ?_, ?_⟩
          · rw [List.length_map, pT.1]
            exact lt_line (by rw [List.length_take, List.length_zip]; omega)
          · rw [upd_ne (ne_of_none q1 hD), upd_ne (ne_of_none p1 ht)]; exact p1
          · rw [upd_ne (ne_of_none q2 hD), upd_ne (ne_of_none p2 ht)]; exact p2
          · rw [upd_same, List.map_append]; rfl
          · have e := zip_snoc (ns := ns) (ws := ws) (i := i) (n := ns[i]) (z := ws[i]) (List.getElem?_eq_getElem hin) (List.getElem?_eq_getElem hiw)
            rw [← e]
            have tk : TK H4 (upd (upd H4 t (.tup [.str ns[i], .int ws[i]])) D (.lst (ts.map V.ref ++ [V.ref t]))) :=
              (TK.new ht).trans (TK.lst (ys := ts.map V.ref) (by rw [upd_ne nDt]; exact pD))
            exact (pT.keep tk).snoc (by rw [upd_ne nDt.symm, upd_same])
        · rintro H4 ⟨k4, b4, p1, p2, ts, pD, pT⟩
          have nDa : D ≠ a := Kp.bag_ne b3 hD
          have elen : (((ns.map V.str).length : Nat) : Int).toNat = (ns.zip ws).length := by
            rw [List.length_zip, List.length_map]; omega
          rw [elen, List.take_length] at pT
          refine k _ _ (ns.zip ws) k4 b4 (k3.free_of hD nDa) ⟨ts, pD, pT⟩ ⟨?_, ?_, ?_, ?_, ?_, ?_⟩
          · rw [List.length_zip]; omega
          · rw [List.length_zip]; omega
          · rw [show (ns.zip ws).map (·.1) = ns from by rw [← List.unzip_fst, List.unzip_zip (by omega)]]
            exact nd
          · intro q hq
            exact hn _ (List.of_mem_zip (a := q.1) (b := q.2) hq).1
          · intro q hq
            exact hw _ (List.of_mem_zip (a := q.1) (b := q.2) hq).2
          · obtain ⟨j, hj, e⟩ := List.mem_iff_getElem.mp h0
            refine ⟨(ns[j]'(by omega), 0), ?_, rfl⟩
            refine List.mem_iff_getElem?.mpr ⟨j, List.getElem?_zip_eq_some.mpr ⟨List.getElem?_eq_getElem _, ?_⟩⟩
            rw [List.getElem?_eq_getElem hj, e]
end
end Sh
end
section
set_option Elab.async false
set_option linter.all false
set_option maxRecDepth 100000
set_option maxHeartbeats 2000000
set_option autoImplicit false
namespace Sh
open PySem PySem.Spec PyProof.Rows L2
open C8 (pss_cut tCut)
open Evl (ixN_nat)
theorem iteNN {c A B : Prop} [Decidable c] (hc : ¬ c) (h : A) : if (!decide c) = true then A else B := by
  rw [decide_eq_false hc]
  exact iteT h
def spTrueNm : Sp := fun vs H Q _ => ∃ z, vs = [.str z] ∧ IsNm z ∧ ∀ H', Same H H' → Q (.bl true) H'
theorem in_letters (c : Nat) (h : 97 ≤ c ∧ c ≤ 122) : c ∈ ("abcdefghijklmnopqrstuvwxyz" : Str).cps.toList := by
  have z := letters_at (c - 97) (by omega)
  rw [show 97 + (c - 97) = c by omega] at z
  exact List.mem_of_getElem? z
abbrev s_all_letters : Stmt := top 34
abbrev N_all_letters : List Str := ["text", "letter"]
theorem sc_all_letters : FnScope N_all_letters ["text"] (defScope s_all_letters) := ⟨rfl, rfl, rfl, by decide +kernel, rfl, by decide +kernel, by decide +kernel⟩
abbrev s_is_name : Stmt := top 35
abbrev N_is_name : List Str := ["text"]
theorem sc_is_name : FnScope N_is_name ["text"] (defScope s_is_name) := ⟨rfl, rfl, rfl, by decide +kernel, rfl, by decide +kernel, by decide +kernel⟩
abbrev s_check_pairs : Stmt := top 38
abbrev N_check_pairs : List Str := ["pairs", "seen", "place", "name", "many", "_"]
theorem sc_check_pairs : FnScope N_check_pairs ["pairs"] (defScope s_check_pairs) := ⟨rfl, rfl, rfl, by decide +kernel, rfl, by decide +kernel, by decide +kernel⟩
theorem walk_enumT {K : PySem.W.Frag} {a : Addr} {xs : List V} : Walk (IteT K a) xs.length (fun H => SqT K H a xs) (YPair (fun i => some (.int (i : Nat))) (fun i => xs[i]?)) := by
  refine ⟨fun i _ hi q => ⟨xs, xs[i], q, by simp [hi]⟩, fun _ q => ⟨xs, q, Nat.le_refl _⟩, fun i H v H' _ q y => ?_⟩
  obtain ⟨T, x, h1, h2, h3, h4⟩ := y
  exact ⟨T, .int (i : Nat), x, h1, h2, h3, rfl, h4 xs q⟩
theorem TupsAt.at {H : Hp} {ts : List Addr} {rows : List Row} (x : TupsAt H ts rows) {i : Nat} (h : i < rows.length) : ∃ t, ts[i]? = some t ∧ (ts.map V.ref)[i]? = some (.ref t) ∧ H t = some (.tup [.str (rows[i]).1, .int (rows[i]).2]) := by
  have h2 : i < ts.length := by rw [x.1]; exact h
  exact ⟨ts[i], List.getElem?_eq_getElem h2, by rw [List.getElem?_map, List.getElem?_eq_getElem h2]; rfl, x.2 i _ _ (List.getElem?_eq_getElem h2) (List.getElem?_eq_getElem h)⟩
theorem nd_take {α : Type} {l : List α} (nd : l.Nodup) {i : Nat} (h : i < l.length) : l[i] ∉ l.take i := fun q => by
  obtain ⟨j, hj, e⟩ := List.mem_iff_getElem.mp q
  rw [List.getElem_take] at e
  rw [List.length_take] at hj
  have := (List.getElem_inj nd).mp e
  omega
def spPairs : Sp := fun vs H Q _ => ∃ (p : Addr) (ts : List Addr) (rows : List Row), vs = [.ref p] ∧ H p = some (.tup (ts.map V.ref)) ∧ TupsAt H ts rows ∧ ROk 8 rows ∧ ∀ H', Same H H' → Q .non H'
section
variable {P : Program} {w : World} {K : PySem.W.Frag} {mg : Str → Option Value} {base : Heap}
theorem ok_all_letters (T : Bl mg) (D : Def0 K mg "all_letters" s_all_letters) : DefOk P w K mg base CX0 1 "all_letters" spTrueNm := by
  refine D.ok sc_all_letters (fun vs H Q E h => ?_) (fun _ _ _ _ _ _ us hl => match us, hl with | [_], _ => rfl) (fun f cdv A outer s H vs Q E hr h => ?_)
  · obtain ⟨z, rfl, _⟩ := h
    rfl
  · obtain ⟨z, rfl, nz, k⟩ := h
    refine ⟨_, (pss_one (ps_ret (pe_and (pe_cmpR op_ne (pv 0) pe_str (nomark _)) (pe_one (pe_callB (cr_all rfl) (by rfl) T.b_all (by decide +kernel) (pa_cons (pe_lc (own := [("letter", 1)]) (g := (gName 1)) (tt := tYes) rfl sc_all_letters.nd (pi_str (pv 0)) (blkOk_by (N := N_all_letters) (sc := defScope s_all_letters) (by decide +kernel)) (fun _ _ _ _ _ => (pg_name (i := 1) sc_all_letters.nd rfl (Or.inl rfl))) (fun _ _ _ _ _ => pts_nil) (fun _ _ _ _ _ => (pe_cmpR op_in_sign (pv 1) (pe_cS (by rfl) T.c_LETTERS) (by rfl)))) pa_nil)))))), ?_⟩
    have hne : ¬ V.str z = V.str "" := fun e => by
      have e2 := V.str.inj e
      have := nz.1
      rw [e2] at this
      exact absurd this (by decide)
    refine ⟨_, rfl, rfl, _, rfl, iteNN hne ?_⟩
    refine ⟨_, rfl, _, rfl, fun D hD => lc_it walk_str (fun i H' => Same H H' ∧ H' D = some (.lst ((List.replicate i true).map V.bl))) ⟨(Same.refl H).upd_new hD, upd_same⟩ (fun _ _ _ _ => trivial) ?_ ?_⟩
    · rintro i x H1 H2 hi ⟨q1, q2⟩ ⟨rfl, c, hc, rfl⟩
      have hcm : c ∈ z.cps.toList := List.mem_of_getElem? (by rw [Array.getElem?_toList]; exact hc)
      refine ⟨rfl, _, rfl, c, _, rfl, rfl, ?_⟩
      rw [decide_eq_true (in_letters c (nz.2.2 c hcm))]
      refine ⟨_, q2, ?_, q1.upd_own hD, ?_⟩
      · rw [List.length_map, List.length_replicate]
        have := nz.2.1
        exact lt_line (by omega)
      · rw [upd_same, List.replicate_succ', List.map_append]
        rfl
    · rintro H1 ⟨q1, q2⟩
      refine ⟨D, _, rfl, SqL.of q2, ?_⟩
      rw [show (List.replicate z.cps.size true).all id = true from by rw [List.all_eq_true]; intro x hx; exact (List.mem_replicate.mp hx).2]
      exact k H1 q1
theorem ok_is_name (T : Bl mg) (c_all_letters : DefOk P w K mg base CX0 1 "all_letters" spTrueNm) (D : Def0 K mg "is_name" s_is_name) : DefOk P w K mg base CX0 2 "is_name" spTrueNm := by
  refine D.ok sc_is_name (fun vs H Q E h => ?_) (fun _ _ _ _ _ _ us hl => match us, hl with | [_], _ => rfl) (fun f cdv A outer s H vs Q E hr h => ?_)
  · obtain ⟨z, rfl, _⟩ := h
    rfl
  · obtain ⟨z, rfl, nz, k⟩ := h
    refine ⟨_, (pss_one (ps_ret (pe_and (pe_cmpR op_le (pe_callB call_len_str (by rfl) T.b_len boot_len (pa_cons (pv 0) pa_nil)) (pe_cI (by rfl) T.c_LONGEST_NAME) (nomark _)) (pe_one (pe_d c_all_letters (hr.mono (by decide)) pass0 (pa_cons (pv 0) pa_nil)))))), ?_⟩
    refine ⟨_, rfl, _, rfl, nm_line nz, _, _, rfl, rfl, _, rfl, ?_⟩
    rw [decide_eq_true (show ((z.length : Nat) : Int) ≤ 8 by have := nz.2.1; rw [str_len]; omega)]
    refine iteT ?_
    exact ⟨_, rfl, z, rfl, nz, k⟩
theorem ok_check_pairs (T : Bl mg) (c_is_name : DefOk P w K mg base CX0 2 "is_name" spTrueNm) (D : Def0 K mg "check_pairs" s_check_pairs) : DefOk P w K mg base CX0 3 "check_pairs" spPairs := by
  refine D.ok sc_check_pairs (fun vs H Q E h => ?_) (fun _ _ _ _ _ _ us hl => match us, hl with | [_], _ => rfl) (fun f cdv A outer s H vs Q E hr h => ?_)
  · obtain ⟨p, ts, rows, rfl, _⟩ := h
    rfl
  · obtain ⟨p, ts, rows, rfl, hp, hT, R, k⟩ := h
    refine ⟨_, (pss_cons (ps_if (pt_cmpR op_gt (pe_callB call_len_seq (by rfl) T.b_len boot_len (pa_cons (pv 0) pa_nil)) (pe_cI (by rfl) T.c_MOST_KINDS) (nomark _))
        (pss_one ps_never)
        pss_nil)
      (pss_cons (ps_set (i := 1) sc_check_pairs.nd rfl (Or.inl rfl) (pe_callTy0 cr_set0K (by rfl) T.b_set (by decide +kernel)))
      (pss_cons (ps_for PassesOwn.never rfl (pi_enumT (by rfl) T.b_enumerate (pa_cons (pv 0) pa_nil)) (pg_tup (by rfl) (pgs_cons (pg_name (i := 2) sc_check_pairs.nd rfl (Or.inl rfl)) (pgs_cons (pg_tup (by rfl) (pgs_cons (pg_name (i := 3) sc_check_pairs.nd rfl (Or.inl rfl)) (pgs_cons (pg_name (i := 4) sc_check_pairs.nd rfl (Or.inl rfl)) pgs_nil))) pgs_nil)))
        (pss_cons (ps_if (PW.pt (pw_or (pt_not (pt_val (pe_d c_is_name (hr.mono (by decide)) pass0 (pa_cons (pv 3) pa_nil)))) (pw_or (pt_cmpR op_lt (pv 4) pe_int (nomark _)) (pw_or (pt_cmpR op_gt (pv 4) (pe_cI (by rfl) T.c_MOST_BRANCHES) (nomark _)) (pw_or1 (pt_cmpR or_sinK (pv 3) (pv 1) (by rfl)))))))
          (pss_one ps_never)
          pss_nil)
        (pss_one (ps_expr (pe_saddK (pv 1) (pa_cons (pv 3) pa_nil))))))
      (pss_one (ps_if (pt_cmpR op_notIn_seq pe_int (pe_lc (own := [("_", 5), ("many", 4)]) (g := (gTup K 2 (gCons (gName 5) (gCons (gName 4) gNil)))) (tt := tYes) rfl sc_check_pairs.nd (pi_tup (pv 0)) (blkOk_by (N := N_check_pairs) (sc := defScope s_check_pairs) (by decide +kernel)) (fun _ _ _ _ _ => (pg_tup (by rfl) (pgs_cons (pg_name (i := 5) sc_check_pairs.nd rfl (Or.inl rfl)) (pgs_cons (pg_name (i := 4) sc_check_pairs.nd rfl (Or.inl rfl)) pgs_nil)))) (fun _ _ _ _ _ => pts_nil) (fun _ _ _ _ _ => (pv 4))) (by rfl))
        (pss_one ps_never)
        pss_nil))))), ?_⟩
    have hlen : ts.length = rows.length := hT.1
    have R8 : rows.length ≤ 8 := by have := R.len; omega
    refine ⟨_, rfl, p, _, rfl, .inr (SqT.of hp), _, _, rfl, rfl, _, rfl, ?_⟩
    rw [decide_eq_false (show ¬ (8 : Int) < (((ts.map V.ref).length : Nat) : Int) by rw [List.length_map]; omega)]
    refine iteF ?_
    refine ⟨rfl, fun d hd => ?_⟩
    have s0 : Same H (upd H d (SetK P w d (fun _ => false) 0)) := (Same.refl H).upd_new hd
    have npd : ∀ {H' : Hp}, Same H H' → H' p = some (.tup (ts.map V.ref)) := fun q => q _ _ hp
    refine ⟨_, rfl, p, _, rfl, SqT.of (npd s0), for_it (walk_enumT (xs := ts.map V.ref)) (fun i σ H' => ∃ (x y z : Option V), σ = [some (.ref p), some (.ref d), x, y, z, none] ∧ Same H H' ∧ ∃ (S : Key → Bool) (n : Nat), H' d = some (SetK P w d S n) ∧ n ≤ i ∧ ∀ u : Str, S (.inr u) = true → u ∈ (rows.map (·.1)).take i)
      ⟨none, none, none, rfl, s0, _, 0, upd_same, Nat.le_refl _, fun u h => nomatch h⟩ (fun i σ H' _ ⟨_, _, _, _, q, _⟩ => SqT.of (npd q)) ?_ ?_⟩
    · rintro i v σ H1 H2 hi ⟨x, y, z, rfl, s1, S, n, hS, hn, hu⟩ ⟨P1, v1, v2, rfl, hP1, rfl, e1, e2⟩
      have hir : i < rows.length := by rw [List.length_map, hlen] at hi; exact hi
      obtain ⟨t, t1, t2, t3⟩ := hT.at hir
      have t2' : (ts.map V.ref)[i]? = some v2 := e2
      rw [t2] at t2'
      cases t2'
      cases e1
      have s2 := s1.upd_new (o := .tup [.int ((i : Nat) : Int), .ref t]) hP1
      have nm := R.nm _ (List.getElem_mem hir)
      have wd := R.wd _ (List.getElem_mem hir)
      refine ⟨P1, _, rfl, SqT.of upd_same, rfl, _, _, rfl, _, _, rfl, ?_⟩
      refine ⟨t, _, rfl, SqT.of (s2 _ _ t3), rfl, _, _, rfl, _, _, rfl, rfl, rfl, ?_⟩
      refine ⟨_, rfl, (rows[i]).1, rfl, nm, fun H3 s3 => ⟨true, rfl, ?_⟩⟩
      show if false = true then _ else _
      refine iteF ⟨_, rfl, _, _, rfl, rfl, _, rfl, ?_⟩
      rw [decide_eq_false (show ¬ (rows[i]).2 < 0 by omega)]
      refine iteF ⟨_, rfl, _, _, rfl, rfl, _, rfl, ?_⟩
      rw [decide_eq_false (show ¬ (3 : Int) < (rows[i]).2 by omega)]
      have hS3 : H3 d = some (SetK P w d S n) := s3 _ _ (by rw [upd_ne (ne_of_none hS hP1)]; exact hS)
      have hSf : S (.inr (rows[i]).1) = false := by
        cases q : S (.inr (rows[i]).1) with
        | false => rfl
        | true =>
          have z1 := hu _ q
          have z2 := nd_take (l := rows.map (·.1)) R.nd (i := i) (by rw [List.length_map]; exact hir)
          rw [List.getElem_map] at z2
          exact absurd z1 z2
      refine iteF ⟨_, rfl, _, rfl, .inr (rows[i]).1, d, S, n, rfl, rfl, hS3, _, rfl, ?_⟩
      rw [show (if false = true then !S (.inr (rows[i]).1) else S (.inr (rows[i]).1)) = false from hSf]
      refine iteF ?_
      refine ⟨_, rfl, ⟨d, S, n, rfl, hS3⟩, _, rfl, d, .inr (rows[i]).1, S, n, rfl, rfl, hS3, ?_, ?_⟩
      · show n + 1 < 4096
        omega
      · refine ⟨_, _, _, rfl, ?_, _, _, upd_same, ?_, ?_⟩
        · exact (s2.trans s3).upd_own hd
        · show (if S (Sum.inr (rows[i]).1) = true then n else n + 1) ≤ i + 1
          split <;> omega
        · intro u hu2
          have hg : (rows.map (·.1))[i]? = some (rows[i]).1 := by rw [List.getElem?_map, List.getElem?_eq_getElem hir]; rfl
          rw [← take_snoc hg]
          rcases Bool.or_eq_true_iff.mp hu2 with q | q
          · exact List.mem_append_left _ (hu u q)
          · have := of_decide_eq_true q
            rw [Sum.inr.inj this]
            exact List.mem_append_right _ List.mem_cons_self
    · rintro σ H1 ⟨x, y, z, rfl, s1, S, n, hS, hn, hu⟩
      refine ⟨_, rfl, p, rfl, ⟨_, SqT.of (npd s1)⟩, fun D hD => lc_it (walk_tup (xs := ts.map V.ref)) (fun i H' => Same H1 H' ∧ H' D = some (.lst (((rows.map (·.2)).take i).map V.int))) ⟨(Same.refl H1).upd_new hD, upd_same⟩ (fun i H' _ ⟨q, _⟩ => SqT.of (npd (s1.trans q))) ?_ ?_⟩
      · rintro i v H2 H3 hi ⟨q1, q2⟩ ⟨rfl, hv⟩
        have hir : i < rows.length := by rw [List.length_map, hlen] at hi; exact hi
        obtain ⟨t, t1, t2, t3⟩ := hT.at hir
        rw [t2] at hv
        cases hv
        refine ⟨t, _, rfl, SqT.of ((s1.trans q1) _ _ t3), rfl, _, _, rfl, _, _, rfl, rfl, rfl, ?_⟩
        refine ⟨_, rfl, _, q2, ?_, q1.upd_own hD, ?_⟩
        · rw [List.length_map, List.length_take]
          exact lt_line (by omega)
        · have hg : (rows.map (·.2))[i]? = some (rows[i]).2 := by rw [List.getElem?_map, List.getElem?_eq_getElem hir]; rfl
          rw [upd_same, ← take_snoc hg, List.map_append]
          rfl
      · rintro H2 ⟨q1, q2⟩
        rw [show (ts.map V.ref).length = (rows.map (·.2)).length by rw [List.length_map, List.length_map, hlen], List.take_length] at q2
        refine ⟨D, _, rfl, .inl (SqL.of q2), rfl, flat_ints _, _, rfl, ?_⟩
        have h0 : (0 : Int) ∈ rows.map (·.2) := by
          obtain ⟨q, hq, e⟩ := R.leaf
          rw [← e]
          exact List.mem_map_of_mem hq
        show if (!inV (V.int 0) ((rows.map (·.2)).map V.int)) = true then _ else _
        rw [mem_map_ints, decide_eq_true h0]
        refine iteF ?_
        exact k H2 (s1.trans q1)
end
end Sh
end
section
set_option Elab.async false
set_option linter.all false
set_option maxRecDepth 100000
set_option maxHeartbeats 2000000
set_option autoImplicit false
namespace L2
open PySem PySem.Spec PyProof.Rows
theorem PE.weak {X : Cx} {e : Expr} {t t' : TE} (h : PE X e t) (i : ∀ σ H Q, t' σ H Q → t σ H Q) : PE X e t' := ⟨fun pins s σ H Q I q => h.run pins s σ H Q I (i σ H Q q)⟩
/-- a dict comprehension over any walk -/
theorem dc_it {J : It} {n : Nat} {G : Hp → Prop} {Y : Nat → Hp → V → Hp → Prop} (w : Walk J n G Y) {g : TG} {tt : TT} {tk tv : TE} {vs : List Nat} {σ : St} {H1 : Hp} {D : Addr} {Qd : Hp → Prop} (Pv : Nat → Hp → Prop) (h0 : Pv 0 (upd H1 D (.dK []))) (hG : ∀ i H, i ≤ n → Pv i H → G H)
    (hs : ∀ i x H H', i < n → Pv i H → Y i H x H' → g x (wipe σ vs) H' fun σ2 H2 => wipe σ2 vs = wipe σ vs ∧ tt σ2 H2 fun b H3 =>
      if b = true then tk σ2 H3 fun y H4 => tv σ2 H4 fun z H5 => ∃ kvs k, y = kV k ∧ H5 D = some (.dK kvs) ∧ kvs.length < sizeLine ∧ Pv (i + 1) (upd H5 D (.dK (putK kvs k z))) else Pv (i + 1) H3) (hd : ∀ H, Pv n H → Qd H) :
    ∃ W : Nat → Nat → Hp → Prop, (∃ m, W 0 m (upd H1 D (.dK []))) ∧ ∀ i m H, W i m H →
      (J.stop i H ∧ Qd H) ∨ (J.go i H ∧ ∃ Nx : Hp → Prop, (∀ H', Nx H' → ∃ m', m' < m ∧ W (i + 1) m' H') ∧ ∀ x H', J.yld i H x H' → g x (wipe σ vs) H' fun σ2 H2 => wipe σ2 vs = wipe σ vs ∧ tt σ2 H2 fun b H3 =>
        if b = true then tk σ2 H3 fun y H4 => tv σ2 H4 fun z H5 => ∃ kvs k, y = kV k ∧ H5 D = some (.dK kvs) ∧ kvs.length < sizeLine ∧ Nx (upd H5 D (.dK (putK kvs k z))) else Nx H3) := by
  refine ⟨fun i m H => m = n - i ∧ i ≤ n ∧ Pv i H, ⟨n, by simp, Nat.zero_le _, h0⟩, ?_⟩
  rintro i m H ⟨rfl, hi, p⟩
  have q := hG i H hi p
  by_cases hlt : i < n
  · exact .inr ⟨w.goes i H hlt q, Pv (i + 1), fun H' p' => ⟨n - (i + 1), by omega, rfl, hlt, p'⟩, fun x H' y => hs i x H H' hlt p (w.yields i H x H' hlt q y)⟩
  · have e : i = n := by omega
    subst e
    exact .inl ⟨w.stops H q, hd H p⟩
end L2
namespace Sh
open PySem PySem.Spec PyProof.Rows L2
open C8 (pss_cut tCut)
open Evl (ixN_nat)
def bedF (r k w rk : Addr) : List (Str × V) := [("rows", .ref r), ("kinds", .ref k), ("widths", .ref w), ("ranks", .ref rk)]
def wL (rows : List Row) : List (Key × V) := rows.map fun q => (.inr q.1, .int q.2)
def rkL (ns : List Str) : List (Key × V) := ns.zipIdx.map fun q => (.inr q.1, .int ((q.2 : Nat) : Int))
def BedAt (C : Addr) (H : Hp) (p : Addr) (rows : List Row) : Prop := ∃ (dx r k w rk : Addr) (ts : List Addr), H p = some (.ins C dx (bedF r k w rk)) ∧ H r = some (.tup (ts.map V.ref)) ∧ TupsAt H ts rows ∧
  H k = some (.tup ((rows.map (·.1)).map V.str)) ∧ H w = some (.dK (wL rows)) ∧ H rk = some (.dK (rkL (rows.map (·.1))))
theorem BedAt.same {C : Addr} {H H' : Hp} {p : Addr} {rows : List Row} (x : BedAt C H p rows) (s : Same H H') : BedAt C H' p rows := by
  obtain ⟨dx, r, k, w, rk, ts, h1, h2, h3, h4, h5, h6⟩ := x
  exact ⟨dx, r, k, w, rk, ts, s _ _ h1, s _ _ h2, h3.keep (TK.of_same s), s _ _ h4, s _ _ h5, s _ _ h6⟩
theorem BedAt.kp {C a : Addr} {H H' : Hp} {p : Addr} {rows : List Row} (x : BedAt C H p rows) (b : BagAt H a) (s : Kp a H H') : BedAt C H' p rows := by
  obtain ⟨dx, r, k, w, rk, ts, h1, h2, h3, h4, h5, h6⟩ := x
  have tk := s.tk b
  obtain ⟨z0, z1, z2, z3, cs, hb, _⟩ := b
  exact ⟨dx, r, k, w, rk, ts, s _ _ h1 (ne_of h1 hb (fun e => nomatch e)), tk _ _ h2, h3.keep tk, tk _ _ h4, s _ _ h5 (ne_of h5 hb (fun e => nomatch e)), s _ _ h6 (ne_of h6 hb (fun e => nomatch e))⟩
/-- what the written part says of the class Bed -/
structure BedT (K : PySem.W.Frag) (C : Addr) : Prop where
  cl : Cls K C
  nR : NoAttr K C "rows"
  nK : NoAttr K C "kinds"
  nW : NoAttr K C "widths"
  nRk : NoAttr K C "ranks"
theorem s_ne : ¬ ("rows" : Str) = "kinds" ∧ ¬ ("rows" : Str) = "widths" ∧ ¬ ("rows" : Str) = "ranks" ∧ ¬ ("kinds" : Str) = "widths" ∧ ¬ ("kinds" : Str) = "ranks" ∧ ¬ ("widths" : Str) = "ranks" := by decide +kernel
theorem put1 (r k : Addr) : putF "kinds" (.ref k) [("rows", .ref r)] = [(("rows" : Str), V.ref r), ("kinds", .ref k)] := by simp [putF, s_ne]
theorem put2 (r k w : Addr) : putF "widths" (.ref w) [("rows", .ref r), ("kinds", .ref k)] = [(("rows" : Str), V.ref r), ("kinds", .ref k), ("widths", .ref w)] := by simp [putF, s_ne]
theorem put3 (r k w rk : Addr) : putF "ranks" (.ref rk) [("rows", .ref r), ("kinds", .ref k), ("widths", .ref w)] = bedF r k w rk := by simp [putF, s_ne, bedF]
theorem lk_k2 (r k w : Addr) : ([("rows", .ref r), ("kinds", .ref k), ("widths", .ref w)] : List (Str × V)).lookup ("kinds" : Str) = some (.ref k) := by
  have h : (("kinds" : Str) == "rows") = false := by decide +kernel
  simp [List.lookup, h]
theorem lk_rows (r k w rk : Addr) : (bedF r k w rk).lookup ("rows" : Str) = some (.ref r) := by simp [bedF, List.lookup]
theorem lk_kinds (r k w rk : Addr) : (bedF r k w rk).lookup ("kinds" : Str) = some (.ref k) := by
  have h : (("kinds" : Str) == "rows") = false := by decide +kernel
  simp [bedF, List.lookup, h]
theorem lk_widths (r k w rk : Addr) : (bedF r k w rk).lookup ("widths" : Str) = some (.ref w) := by
  have h : (("widths" : Str) == "rows") = false := by decide +kernel
  have h2 : (("widths" : Str) == "kinds") = false := by decide +kernel
  simp [bedF, List.lookup, h, h2]
theorem lk_ranks (r k w rk : Addr) : (bedF r k w rk).lookup ("ranks" : Str) = some (.ref rk) := by
  have h : (("ranks" : Str) == "rows") = false := by decide +kernel
  have h2 : (("ranks" : Str) == "kinds") = false := by decide +kernel
  have h3 : (("ranks" : Str) == "widths") = false := by decide +kernel
  simp [bedF, List.lookup, h, h2, h3]
theorem valV_none {kvs : List (Key × V)} {s : Str} (h : ∀ kv ∈ kvs, kv.1 ≠ .inr s) : valV kvs (.inr s) = none := by
  unfold valV
  rw [List.find?_eq_none.mpr (fun kv hk => by simpa using h kv hk)]
  rfl
/-- __init__ at a new instance -/
def spBedI (C : Addr) : Sp := fun vs H Q _ => ∃ (x dx p : Addr) (ts : List Addr) (rows : List Row), vs = [.ref x, .ref p] ∧ H x = some (.ins C dx []) ∧ H p = some (.tup (ts.map V.ref)) ∧ TupsAt H ts rows ∧ ROk 8 rows ∧ ∀ H', (∀ b o, H b = some o → b ≠ x → H' b = some o) → BedAt C H' x rows → Q .non H'
abbrev s_init__ : Stmt := inClass (top 39) 0
abbrev N_init__ : List Str := ["self", "kinds", "name", "_", "many", "rank"]
theorem sc_init__ : FnScope N_init__ ["self", "kinds"] (defScope s_init__) := ⟨rfl, rfl, rfl, by decide +kernel, rfl, by decide +kernel, by decide +kernel⟩
section
variable {P : Program} {w : World} {K : PySem.W.Frag} {mg : Str → Option Value} {base : Heap} {C : Addr}
theorem body_bedI (T : Bl mg) (B : BedT K C) (c_check_pairs : DefOk P w K mg base CX0 3 "check_pairs" spPairs) {f : Addr} {cdv : Value} {A : Around} {outer : List Env} {s : Shared} {H : Hp} {vs : List V} {Q : VK} {E : XK} (hr : Room 3 (A.deeper (envOfC "Bed.__init__" (defScope s_init__) s.heap.objs.size f cdv))) (h : spBedI C vs H Q E) :
    ∃ t, PSs (cxOf CX0 P w K mg base N_init__ "Bed.__init__" (defScope s_init__) f cdv A outer s H E).nox (defBody s_init__) t ∧ t { nx := fun _ H' => Q .non H', rt := Q } (start N_init__ vs) H := by
  obtain ⟨x, dx, p, ts, rows, rfl, hx, hp, hT, R, k⟩ := h
  refine ⟨_, (pss_cons (ps_expr (pe_d c_check_pairs (hr.mono (by decide)) pass0 (pa_cons (pv 1) pa_nil)))
    (pss_cons (ps_fld (pv 0) (pv 1) rfl)
    (pss_cons (ps_fld (pv 0) (pe_callTy call_tuple_of (by rfl) T.b_tuple (by decide +kernel) (pa_cons (pe_lc (own := [("name", 2), ("_", 3)]) (g := (gTup K 2 (gCons (gName 2) (gCons (gName 3) gNil)))) (tt := tYes) rfl sc_init__.nd (pi_tup (pv 1)) (blkOk_by (N := N_init__) (sc := defScope s_init__) (by decide +kernel)) (fun _ _ _ _ _ => (pg_tup (by rfl) (pgs_cons (pg_name (i := 2) sc_init__.nd rfl (Or.inl rfl)) (pgs_cons (pg_name (i := 3) sc_init__.nd rfl (Or.inl rfl)) pgs_nil)))) (fun _ _ _ _ _ => pts_nil) (fun _ _ _ _ _ => (pv 2))) pa_nil)) rfl)
    (pss_cons (ps_fld (pv 0) (pe_dc (own := [("name", 2), ("many", 4)]) (g := (gTup K 2 (gCons (gName 2) (gCons (gName 4) gNil)))) (tt := tYes) rfl sc_init__.nd (pi_tup (pv 1)) (blkOk_by (N := N_init__) (sc := defScope s_init__) (by decide +kernel)) (fun _ _ _ _ _ => (pg_tup (by rfl) (pgs_cons (pg_name (i := 2) sc_init__.nd rfl (Or.inl rfl)) (pgs_cons (pg_name (i := 4) sc_init__.nd rfl (Or.inl rfl)) pgs_nil)))) (fun _ _ _ _ _ => pts_nil) (fun _ _ _ _ _ => (pv 2)) (fun _ _ _ _ _ => (pv 4))) rfl)
    (pss_one (ps_fld (pv 0) (pe_dc (own := [("rank", 5), ("name", 2)]) (g := (gTup K 2 (gCons (gName 5) (gCons (gName 2) gNil)))) (tt := tYes) rfl sc_init__.nd (pi_enumT (by rfl) T.b_enumerate (pa_cons (pe_fld (pv 0) rfl) pa_nil)) (blkOk_by (N := N_init__) (sc := defScope s_init__) (by decide +kernel)) (fun _ _ _ _ _ => (pg_tup (by rfl) (pgs_cons (pg_name (i := 5) sc_init__.nd rfl (Or.inl rfl)) (pgs_cons (pg_name (i := 2) sc_init__.nd rfl (Or.inl rfl)) pgs_nil)))) (fun _ _ _ _ _ => pts_nil) (fun _ _ _ _ _ => (pv 2)) (fun _ _ _ _ _ => (pv 5))) rfl)))))), ?_⟩
  have hlen : ts.length = rows.length := hT.1
  have R8 : rows.length ≤ 8 := by have := R.len; omega
  have npx : p ≠ x := ne_of hp hx (fun e => nomatch e)
  refine ⟨_, rfl, p, ts, rows, rfl, hp, hT, R, fun H1 s1 => ?_⟩
  refine ⟨_, rfl, _, rfl, x, C, dx, _, rfl, s1 _ _ hx, B.cl, B.nR, (by show 0 < 1000; decide), ?_⟩
  generalize e2 : upd H1 x (.ins C dx (putF "rows" (.ref p) [])) = H2
  have hx2 : H2 x = some (.ins C dx [(("rows" : Str), V.ref p)]) := by rw [← e2, upd_same]; rfl
  have k2 : Kp x H H2 := by rw [← e2]; exact (Kp.same s1).upd
  have tk1 : ∀ {H H' : Hp} {fs : List (Str × V)}, H x = some (.ins C dx fs) → Kp x H H' → TK H H' := fun h q t xs ht => q t _ ht (ne_of ht h (fun e => nomatch e))
  have tk2 := tk1 hx k2
  have hp2 : H2 p = some (.tup (ts.map V.ref)) := tk2 _ _ hp
  have hT2 := hT.keep tk2
  clear e2
  -- kinds
  refine ⟨_, rfl, p, rfl, ⟨_, SqT.of hp2⟩, fun D hD => lc_it (walk_tup (xs := ts.map V.ref)) (fun i H' => Same H2 H' ∧ H' D = some (.lst (((rows.map (·.1)).take i).map V.str))) ⟨(Same.refl H2).upd_new hD, upd_same⟩ (fun i H' _ ⟨q, _⟩ => SqT.of (q _ _ hp2)) ?_ ?_⟩
  · rintro i v H3 H4 hi ⟨q1, q2⟩ ⟨rfl, hv⟩
    have hir : i < rows.length := by rw [List.length_map, hlen] at hi; exact hi
    obtain ⟨t, t1, t2, t3⟩ := hT2.at hir
    rw [t2] at hv
    cases hv
    refine ⟨t, _, rfl, SqT.of (q1 _ _ t3), rfl, _, _, rfl, _, _, rfl, rfl, rfl, ?_⟩
    refine ⟨_, rfl, _, q2, ?_, q1.upd_own hD, ?_⟩
    · rw [List.length_map, List.length_take]
      exact lt_line (by omega)
    · have hg : (rows.map (·.1))[i]? = some (rows[i]).1 := by rw [List.getElem?_map, List.getElem?_eq_getElem hir]; rfl
      rw [upd_same, ← take_snoc hg, List.map_append]
      rfl
  rintro H3 ⟨q1, q2⟩
  rw [show (ts.map V.ref).length = (rows.map (·.1)).length by rw [List.length_map, List.length_map, hlen], List.take_length] at q2
  refine ⟨D, _, rfl, .inl ⟨SqL.of q2, fun l hl => ?_⟩⟩
  have nlx : l ≠ x := (ne_of_none (q1 _ _ hx2) hl).symm
  refine ⟨_, rfl, x, C, dx, _, rfl, (by rw [upd_ne nlx.symm]; exact q1 _ _ hx2), B.cl, B.nK, (by show 1 < 1000; decide), ?_⟩
  rw [put1]
  have k3 : Kp x H (upd H3 l (.tup ((rows.map (·.1)).map V.str))) := (k2.trans (Kp.same q1)).upd_new hl
  generalize e4 : upd (upd H3 l (.tup ((rows.map (·.1)).map V.str))) x (.ins C dx [(("rows" : Str), V.ref p), ("kinds", .ref l)]) = H4
  have hx4 : H4 x = some (.ins C dx [(("rows" : Str), V.ref p), ("kinds", .ref l)]) := by rw [← e4, upd_same]
  have k4 : Kp x H H4 := by rw [← e4]; exact k3.upd
  have hl4 : H4 l = some (.tup ((rows.map (·.1)).map V.str)) := by rw [← e4, upd_ne nlx, upd_same]
  have tk4 := tk1 hx k4
  have hp4 : H4 p = some (.tup (ts.map V.ref)) := tk4 _ _ hp
  have hT4 := hT.keep tk4
  clear e4
  -- widths
  refine ⟨_, rfl, p, rfl, ⟨_, SqT.of hp4⟩, fun D2 hD2 => dc_it (walk_tup (xs := ts.map V.ref)) (fun i H' => Same H4 H' ∧ H' D2 = some (.dK (wL (rows.take i)))) ⟨(Same.refl H4).upd_new hD2, upd_same⟩ (fun i H' _ ⟨q, _⟩ => SqT.of (q _ _ hp4)) ?_ ?_⟩
  · rintro i v H5 H6 hi ⟨p1, p2⟩ ⟨rfl, hv⟩
    have hir : i < rows.length := by rw [List.length_map, hlen] at hi; exact hi
    obtain ⟨t, t1, t2, t3⟩ := hT4.at hir
    rw [t2] at hv
    cases hv
    refine ⟨t, _, rfl, SqT.of (p1 _ _ t3), rfl, _, _, rfl, _, _, rfl, rfl, rfl, ?_⟩
    refine ⟨_, rfl, _, rfl, _, .inr (rows[i]).1, rfl, p2, ?_, p1.upd_own hD2, ?_⟩
    · unfold wL
      rw [List.length_map, List.length_take]
      exact lt_line (by omega)
    · rw [upd_same, putK_new, ← take_snoc (List.getElem?_eq_getElem hir)]
      · unfold wL
        rw [List.map_append]
        rfl
      · refine valV_none fun kv hk e => ?_
        obtain ⟨q, hq, rfl⟩ := List.mem_map.mp hk
        have z2 := nd_take (l := rows.map (·.1)) R.nd (i := i) (by rw [List.length_map]; exact hir)
        rw [List.getElem_map, ← List.map_take] at z2
        have e2 : q.1 = (rows[i]).1 := Sum.inr.inj e
        exact z2 (by rw [← e2]; exact List.mem_map_of_mem hq)
  rintro H5 ⟨p1, p2⟩
  rw [show (ts.map V.ref).length = rows.length by rw [List.length_map, hlen], List.take_length] at p2
  have nDx2 : D2 ≠ x := (ne_of_none hx4 hD2).symm
  refine ⟨_, rfl, x, C, dx, _, rfl, p1 _ _ hx4, B.cl, B.nW, (by show 2 < 1000; decide), ?_⟩
  rw [put2]
  generalize e6 : upd H5 x (.ins C dx [(("rows" : Str), V.ref p), ("kinds", .ref l), ("widths", .ref D2)]) = H6
  have hx6 : H6 x = some (.ins C dx [(("rows" : Str), V.ref p), ("kinds", .ref l), ("widths", .ref D2)]) := by rw [← e6, upd_same]
  have k46 : Kp x H4 H6 := by rw [← e6]; exact (Kp.same p1).upd
  have k6 : Kp x H H6 := k4.trans k46
  have hl6 : H6 l = some (.tup ((rows.map (·.1)).map V.str)) := k46 _ _ hl4 nlx
  have hw6 : H6 D2 = some (.dK (wL rows)) := by rw [← e6, upd_ne nDx2]; exact p2
  clear e6
  -- ranks
  refine ⟨_, rfl, x, C, dx, _, _, rfl, hx6, B.cl, B.nK, lk_k2 _ _ _, l, _, rfl, SqT.of hl6, fun D3 hD3 => dc_it (walk_enumT (xs := (rows.map (·.1)).map V.str)) (fun i H' => Same H6 H' ∧ H' D3 = some (.dK ((rkL (rows.map (·.1))).take i))) ⟨(Same.refl H6).upd_new hD3, upd_same⟩ (fun i H' _ ⟨q, _⟩ => SqT.of (q _ _ hl6)) ?_ ?_⟩
  · rintro i v H7 H8 hi ⟨p3, p4⟩ ⟨P1, v1, v2, rfl, hP1, rfl, e1, e2⟩
    have hir : i < rows.length := by rw [List.length_map, List.length_map] at hi; exact hi
    cases e1
    have e2' : ((rows.map (·.1)).map V.str)[i]? = some v2 := e2
    rw [List.getElem?_map, List.getElem?_map, List.getElem?_eq_getElem hir] at e2'
    cases e2'
    have hD3' : (upd H7 P1 (.tup [.int ((i : Nat) : Int), .str (rows[i]).1])) D3 = some (.dK ((rkL (rows.map (·.1))).take i)) := by rw [upd_ne (ne_of_none p4 hP1)]; exact p4
    refine ⟨P1, _, rfl, SqT.of upd_same, rfl, _, _, rfl, _, _, rfl, rfl, rfl, ?_⟩
    refine ⟨_, rfl, _, rfl, _, .inr (rows[i]).1, rfl, hD3', ?_, (p3.upd_new hP1).upd_own hD3, ?_⟩
    · rw [List.length_take]
      unfold rkL
      rw [List.length_map, List.length_zipIdx, List.length_map]
      exact lt_line (by omega)
    · have hg : (rkL (rows.map (·.1)))[i]? = some (.inr (rows[i]).1, .int ((i : Nat) : Int)) := by
        unfold rkL
        rw [List.getElem?_map, List.getElem?_zipIdx, List.getElem?_map, List.getElem?_eq_getElem hir]
        simp
      rw [upd_same, putK_new, ← take_snoc hg]
      refine valV_none fun kv hk e => ?_
      obtain ⟨j, hj, ej⟩ := List.mem_iff_getElem.mp hk
      rw [List.length_take] at hj
      rw [List.getElem_take] at ej
      have hjr : j < rows.length := by omega
      have hg2 : (rkL (rows.map (·.1)))[j]? = some (.inr (rows[j]).1, .int ((j : Nat) : Int)) := by
        unfold rkL
        rw [List.getElem?_map, List.getElem?_zipIdx, List.getElem?_map, List.getElem?_eq_getElem hjr]
        simp
      have ej2 := List.getElem?_eq_getElem (l := rkL (rows.map (·.1))) (i := j) (by unfold rkL; rw [List.length_map, List.length_zipIdx, List.length_map]; exact hjr)
      rw [hg2] at ej2
      rw [← ej, ← Option.some.inj ej2] at e
      have e3 : (rows[j]).1 = (rows[i]).1 := Sum.inr.inj e
      have nd := R.nd
      have e4 : (rows.map (·.1))[j]'(by rw [List.length_map]; exact hjr) = (rows.map (·.1))[i]'(by rw [List.length_map]; exact hir) := by rw [List.getElem_map, List.getElem_map]; exact e3
      have := (List.getElem_inj nd).mp e4
      omega
  rintro H7 ⟨p3, p4⟩
  rw [show ((rows.map (·.1)).map V.str).length = (rkL (rows.map (·.1))).length by unfold rkL; simp, List.take_length] at p4
  have nDx3 : D3 ≠ x := (ne_of_none hx6 hD3).symm
  refine ⟨_, rfl, x, C, dx, _, rfl, p3 _ _ hx6, B.cl, B.nRk, (by show 3 < 1000; decide), ?_⟩
  rw [put3]
  have k8 : Kp x H (upd H7 x (.ins C dx (bedF p l D2 D3))) := (k6.trans (Kp.same p3)).upd
  refine k _ k8 ⟨dx, p, l, D2, D3, ts, upd_same, k8 _ _ hp npx, hT.keep (tk1 hx k8), ?_, ?_, ?_⟩
  · rw [upd_ne nlx]; exact p3 _ _ hl6
  · rw [upd_ne nDx2]; exact p3 _ _ hw6
  · rw [upd_ne nDx3]; exact p4
end
end Sh
end
section
set_option Elab.async false
set_option linter.all false
set_option maxRecDepth 100000
set_option maxHeartbeats 2000000
set_option autoImplicit false
namespace Sh
open PySem PySem.Spec PyProof.Rows L2
open C8 (pss_cut tCut)
open Evl (ixN_nat)
theorem ifn {c A B : Prop} [Decidable c] (h : ¬ c) (b : B) : if c then A else B := by
  rw [if_neg h]
  exact b
theorem ifp {c A B : Prop} [Decidable c] (h : c) (a : A) : if c then A else B := by
  rw [if_pos h]
  exact a
def spBedS (C : Addr) : Sp := fun vs H Q E => ∃ ws rest, vs = ws ++ rest ∧ ws.length = (["self"] : List Str).length ∧ rest.length ≤ sizeLine ∧ ∀ p, H p = Option.none → spBedI C (ws ++ [V.ref p]) (upd H p (.tup rest)) Q E
def BedOk (P : Program) (w : World) (K : PySem.W.Frag) (mg : Str → Option Value) (base : Heap) (C : Addr) (k : Nat) : Prop := mg "Bed" = some (.ref C) ∧ ∃ fI, Mk K C fI ∧ FnR P w K mg base CX0 k fI (spBedS C)
def spBed (C : Addr) : Sp := fun vs H Q _ => ∃ (ts : List Addr) (rows : List Row), vs = ts.map V.ref ∧ TupsAt H ts rows ∧ ROk 8 rows ∧ ∀ H' p, Same H H' → H p = none → BedAt C H' p rows → Q (.ref p) H'
theorem pe_bed {X : Cx} {C : Addr} {k : Nat} {e : Expr} {es : List Expr} {t : TA} {p pos : Pos} (D : BedOk X.prog X.w X.K X.mg X.base C k) (hr : Room (k + 1) X.A) (ha : PA X (e :: es) t) (hg : Gl X "Bed" := by rfl)
    (he : starEach (e :: es) X.env = (false, eval e X.env) :: starEach es X.env := by rfl) (hpl : (backTo pos (starEach es X.env)).any (·.1) = false := by rfl) :
    PE X (.Call (.Name "Bed" p) (e :: es) [] pos) (tCallR (spBed C) E0 t) := by
  obtain ⟨hm, fI, M, F⟩ := D
  refine ⟨fun pins s σ H Q I h => ?_⟩
  refine wpAny_Call_Name_kw (ld_glob I hg hm ?_ (by decide))
  refine PySem.W.callWith_K (h₀ := X.base) I.ok.mod.kin M.kp (thn (ha.run pos pins s σ H _ I h) fun us s1 ⟨vs, H1, I1, r, q⟩ => ⟨I1.kIn, ?_⟩) he hpl
  obtain ⟨ts, rows, rfl, hT, R, k⟩ := q
  refine StX.run_makeR M F hr pass0 I1 r fun x dx hx hd hxd => ?_
  have s1 : Same H1 (upd (upd H1 dx (.own x)) x (.ins C dx [])) := ((Same.refl H1).upd_new hd).upd_own hx
  refine ⟨[.ref x], ts.map V.ref, rfl, rfl, ?_, fun p hp => ?_⟩
  · rw [List.length_map, hT.1]
    have := R.len
    exact le_line (by omega)
  have s2 := s1.upd_new (o := .tup (ts.map V.ref)) hp
  have nxp : x ≠ p := ne_of_none (upd_same (H := upd H1 dx (.own x)) (a := x)) hp
  refine ⟨x, dx, p, ts, rows, rfl, by rw [upd_ne nxp, upd_same], upd_same, hT.keep (TK.of_same s2), R, fun H' kk b => ⟨rfl, ?_⟩⟩
  exact k H' x (fun b o hb => kk b o (s2 b o hb) (ne_of_none hb hx)) hx b
abbrev s_law_bed : Stmt := top 46
abbrev N_law_bed : List Str := ["rows"]
theorem sc_law_bed : FnScope N_law_bed ["rows"] (defScope s_law_bed) := ⟨rfl, rfl, rfl, by decide +kernel, rfl, by decide +kernel, by decide +kernel⟩
def spLawBed (C : Addr) : Sp := fun vs H Q _ => ∃ (r : Addr) (rows : List Row), vs = [.ref r] ∧ RowsAt H r rows ∧ ROk 8 rows ∧ ∀ H' p, Same H H' → H p = none → BedAt C H' p rows → Q (.ref p) H'
section
variable {P : Program} {w : World} {K : PySem.W.Frag} {mg : Str → Option Value} {base : Heap} {C : Addr}
theorem ok_law_bed (T : Bl mg) (c_Bed : BedOk P w K mg base C 5) (D : Def0 K mg "_law_bed" s_law_bed) : DefOk P w K mg base CX0 7 "_law_bed" (spLawBed C) := by
  refine D.ok sc_law_bed (fun vs H Q E h => ?_) (fun _ _ _ _ _ _ us hl => match us, hl with | [_], _ => rfl) (fun f cdv A outer s H vs Q E hr h => ?_)
  · obtain ⟨r, rows, rfl, _⟩ := h
    rfl
  · obtain ⟨r, rows, rfl, ⟨ts, hR, hT⟩, R, k⟩ := h
    refine ⟨_, (pss_cons (ps_if (pt_cmpR op_eq (pe_callB call_len_seq (by rfl) T.b_len boot_len (pa_cons (pv 0) pa_nil)) pe_int (nomark _))
        (pss_one (ps_ret (pe_bed c_Bed (hr.mono (by decide)) (pa_cons (pe_ix ix_list (pv 0) pe_int (fun _ _ => rfl)) pa_nil))))
        pss_nil)
      (pss_cons (ps_if (pt_cmpR op_eq (pe_callB call_len_seq (by rfl) T.b_len boot_len (pa_cons (pv 0) pa_nil)) pe_int (nomark _))
        (pss_one (ps_ret (pe_bed c_Bed (hr.mono (by decide)) (pa_cons (pe_ix ix_list (pv 0) pe_int (fun _ _ => rfl)) (pa_cons (pe_ix ix_list (pv 0) pe_int (fun _ _ => rfl)) pa_nil)))))
        pss_nil)
      (pss_cons (ps_if (pt_cmpR op_eq (pe_callB call_len_seq (by rfl) T.b_len boot_len (pa_cons (pv 0) pa_nil)) pe_int (nomark _))
        (pss_one (ps_ret (pe_bed c_Bed (hr.mono (by decide)) (pa_cons (pe_ix ix_list (pv 0) pe_int (fun _ _ => rfl)) (pa_cons (pe_ix ix_list (pv 0) pe_int (fun _ _ => rfl)) (pa_cons (pe_ix ix_list (pv 0) pe_int (fun _ _ => rfl)) pa_nil))))))
        pss_nil)
      (pss_cons (ps_if (pt_cmpR op_eq (pe_callB call_len_seq (by rfl) T.b_len boot_len (pa_cons (pv 0) pa_nil)) pe_int (nomark _))
        (pss_one (ps_ret (pe_bed c_Bed (hr.mono (by decide)) (pa_cons (pe_ix ix_list (pv 0) pe_int (fun _ _ => rfl)) (pa_cons (pe_ix ix_list (pv 0) pe_int (fun _ _ => rfl)) (pa_cons (pe_ix ix_list (pv 0) pe_int (fun _ _ => rfl)) (pa_cons (pe_ix ix_list (pv 0) pe_int (fun _ _ => rfl)) pa_nil)))))))
        pss_nil)
      (pss_cons (ps_if (pt_cmpR op_eq (pe_callB call_len_seq (by rfl) T.b_len boot_len (pa_cons (pv 0) pa_nil)) pe_int (nomark _))
        (pss_one (ps_ret (pe_bed c_Bed (hr.mono (by decide)) (pa_cons (pe_ix ix_list (pv 0) pe_int (fun _ _ => rfl)) (pa_cons (pe_ix ix_list (pv 0) pe_int (fun _ _ => rfl)) (pa_cons (pe_ix ix_list (pv 0) pe_int (fun _ _ => rfl)) (pa_cons (pe_ix ix_list (pv 0) pe_int (fun _ _ => rfl)) (pa_cons (pe_ix ix_list (pv 0) pe_int (fun _ _ => rfl)) pa_nil))))))))
        pss_nil)
      (pss_cons (ps_if (pt_cmpR op_eq (pe_callB call_len_seq (by rfl) T.b_len boot_len (pa_cons (pv 0) pa_nil)) pe_int (nomark _))
        (pss_one (ps_ret (pe_bed c_Bed (hr.mono (by decide)) (pa_cons (pe_ix ix_list (pv 0) pe_int (fun _ _ => rfl)) (pa_cons (pe_ix ix_list (pv 0) pe_int (fun _ _ => rfl)) (pa_cons (pe_ix ix_list (pv 0) pe_int (fun _ _ => rfl)) (pa_cons (pe_ix ix_list (pv 0) pe_int (fun _ _ => rfl)) (pa_cons (pe_ix ix_list (pv 0) pe_int (fun _ _ => rfl)) (pa_cons (pe_ix ix_list (pv 0) pe_int (fun _ _ => rfl)) pa_nil)))))))))
        pss_nil)
      (pss_cons (ps_if (pt_cmpR op_eq (pe_callB call_len_seq (by rfl) T.b_len boot_len (pa_cons (pv 0) pa_nil)) pe_int (nomark _))
        (pss_one (ps_ret (pe_bed c_Bed (hr.mono (by decide)) (pa_cons (pe_ix ix_list (pv 0) pe_int (fun _ _ => rfl)) (pa_cons (pe_ix ix_list (pv 0) pe_int (fun _ _ => rfl)) (pa_cons (pe_ix ix_list (pv 0) pe_int (fun _ _ => rfl)) (pa_cons (pe_ix ix_list (pv 0) pe_int (fun _ _ => rfl)) (pa_cons (pe_ix ix_list (pv 0) pe_int (fun _ _ => rfl)) (pa_cons (pe_ix ix_list (pv 0) pe_int (fun _ _ => rfl)) (pa_cons (pe_ix ix_list (pv 0) pe_int (fun _ _ => rfl)) pa_nil))))))))))
        pss_nil)
      (pss_one (ps_ret (pe_bed c_Bed (hr.mono (by decide)) (pa_cons (pe_ix ix_list (pv 0) pe_int (fun _ _ => rfl)) (pa_cons (pe_ix ix_list (pv 0) pe_int (fun _ _ => rfl)) (pa_cons (pe_ix ix_list (pv 0) pe_int (fun _ _ => rfl)) (pa_cons (pe_ix ix_list (pv 0) pe_int (fun _ _ => rfl)) (pa_cons (pe_ix ix_list (pv 0) pe_int (fun _ _ => rfl)) (pa_cons (pe_ix ix_list (pv 0) pe_int (fun _ _ => rfl)) (pa_cons (pe_ix ix_list (pv 0) pe_int (fun _ _ => rfl)) (pa_cons (pe_ix ix_list (pv 0) pe_int (fun _ _ => rfl)) pa_nil)))))))))))))))))), ?_⟩
    have h1 : 1 ≤ ts.length := by rw [hT.1]; exact R.pos
    have h8 : ts.length ≤ 8 := by rw [hT.1]; have := R.len; omega
    match ts, And.intro h1 h8 with
    | [], h => exact absurd h.1 (by decide)
    | [t0], _ =>
      refine ⟨_, rfl, r, _, rfl, .inl (SqL.of hR), rfl, _, rfl, ?_⟩
      refine ifp (by simp) ?_
      exact ⟨_, rfl, r, _, _, _, rfl, rfl, SqL.of hR, atI_nat (j := 0) rfl, [t0], rows, rfl, hT, R, k⟩
    | [t0, t1], _ =>
      refine ⟨_, rfl, r, _, rfl, .inl (SqL.of hR), rfl, _, rfl, ?_⟩
      refine ifn (fun e => by simp at e) ?_
      refine ⟨_, rfl, r, _, rfl, .inl (SqL.of hR), rfl, _, rfl, ?_⟩
      refine ifp (by simp) ?_
      exact ⟨_, rfl, r, _, _, _, rfl, rfl, SqL.of hR, atI_nat (j := 0) rfl, _, rfl, r, _, _, _, rfl, rfl, SqL.of hR, atI_nat (j := 1) rfl, [t0, t1], rows, rfl, hT, R, k⟩
    | [t0, t1, t2], _ =>
      refine ⟨_, rfl, r, _, rfl, .inl (SqL.of hR), rfl, _, rfl, ?_⟩
      refine ifn (fun e => by simp at e) ?_
      refine ⟨_, rfl, r, _, rfl, .inl (SqL.of hR), rfl, _, rfl, ?_⟩
      refine ifn (fun e => by simp at e) ?_
      refine ⟨_, rfl, r, _, rfl, .inl (SqL.of hR), rfl, _, rfl, ?_⟩
      refine ifp (by simp) ?_
      exact ⟨_, rfl, r, _, _, _, rfl, rfl, SqL.of hR, atI_nat (j := 0) rfl, _, rfl, r, _, _, _, rfl, rfl, SqL.of hR, atI_nat (j := 1) rfl, _, rfl, r, _, _, _, rfl, rfl, SqL.of hR, atI_nat (j := 2) rfl, [t0, t1, t2], rows, rfl, hT, R, k⟩
    | [t0, t1, t2, t3], _ =>
      refine ⟨_, rfl, r, _, rfl, .inl (SqL.of hR), rfl, _, rfl, ?_⟩
      refine ifn (fun e => by simp at e) ?_
      refine ⟨_, rfl, r, _, rfl, .inl (SqL.of hR), rfl, _, rfl, ?_⟩
      refine ifn (fun e => by simp at e) ?_
      refine ⟨_, rfl, r, _, rfl, .inl (SqL.of hR), rfl, _, rfl, ?_⟩
      refine ifn (fun e => by simp at e) ?_
      refine ⟨_, rfl, r, _, rfl, .inl (SqL.of hR), rfl, _, rfl, ?_⟩
      refine ifp (by simp) ?_
      exact ⟨_, rfl, r, _, _, _, rfl, rfl, SqL.of hR, atI_nat (j := 0) rfl, _, rfl, r, _, _, _, rfl, rfl, SqL.of hR, atI_nat (j := 1) rfl, _, rfl, r, _, _, _, rfl, rfl, SqL.of hR, atI_nat (j := 2) rfl, _, rfl, r, _, _, _, rfl, rfl, SqL.of hR, atI_nat (j := 3) rfl, [t0, t1, t2, t3], rows, rfl, hT, R, k⟩
    | [t0, t1, t2, t3, t4], _ =>
      refine ⟨_, rfl, r, _, rfl, .inl (SqL.of hR), rfl, _, rfl, ?_⟩
      refine ifn (fun e => by simp at e) ?_
      refine ⟨_, rfl, r, _, rfl, .inl (SqL.of hR), rfl, _, rfl, ?_⟩
      refine ifn (fun e => by simp at e) ?_
      refine ⟨_, rfl, r, _, rfl, .inl (SqL.of hR), rfl, _, rfl, ?_⟩
      refine ifn (fun e => by simp at e) ?_
      refine ⟨_, rfl, r, _, rfl, .inl (SqL.of hR), rfl, _, rfl, ?_⟩
      refine ifn (fun e => by simp at e) ?_
      refine ⟨_, rfl, r, _, rfl, .inl (SqL.of hR), rfl, _, rfl, ?_⟩
      refine ifp (by simp) ?_
      exact ⟨_, rfl, r, _, _, _, rfl, rfl, SqL.of hR, atI_nat (j := 0) rfl, _, rfl, r, _, _, _, rfl, rfl, SqL.of hR, atI_nat (j := 1) rfl, _, rfl, r, _, _, _, rfl, rfl, SqL.of hR, atI_nat (j := 2) rfl, _, rfl, r, _, _, _, rfl, rfl, SqL.of hR, atI_nat (j := 3) rfl, _, rfl, r, _, _, _, rfl, rfl, SqL.of hR, atI_nat (j := 4) rfl, [t0, t1, t2, t3, t4], rows, rfl, hT, R, k⟩
    | [t0, t1, t2, t3, t4, t5], _ =>
      refine ⟨_, rfl, r, _, rfl, .inl (SqL.of hR), rfl, _, rfl, ?_⟩
      refine ifn (fun e => by simp at e) ?_
      refine ⟨_, rfl, r, _, rfl, .inl (SqL.of hR), rfl, _, rfl, ?_⟩
      refine ifn (fun e => by simp at e) ?_
      refine ⟨_, rfl, r, _, rfl, .inl (SqL.of hR), rfl, _, rfl, ?_⟩
      refine ifn (fun e => by simp at e) ?_
      refine ⟨_, rfl, r, _, rfl, .inl (SqL.of hR), rfl, _, rfl, ?_⟩
      refine ifn (fun e => by simp at e) ?_
      refine ⟨_, rfl, r, _, rfl, .inl (SqL.of hR), rfl, _, rfl, ?_⟩
      refine ifn (fun e => by simp at e) ?_
      refine ⟨_, rfl, r, _, rfl, .inl (SqL.of hR), rfl, _, rfl, ?_⟩
      refine ifp (by simp) ?_
      exact ⟨_, rfl, r, _, _, _, rfl, rfl, SqL.of hR, atI_nat (j := 0) rfl, _, rfl, r, _, _, _, rfl, rfl, SqL.of hR, atI_nat (j := 1) rfl, _, rfl, r, _, _, _, rfl, rfl, SqL.of hR, atI_nat (j := 2) rfl, _, rfl, r, _, _, _, rfl, rfl, SqL.of hR, atI_nat (j := 3) rfl, _, rfl, r, _, _, _, rfl, rfl, SqL.of hR, atI_nat (j := 4) rfl, _, rfl, r, _, _, _, rfl, rfl, SqL.of hR, atI_nat (j := 5) rfl, [t0, t1, t2, t3, t4, t5], rows, rfl, hT, R, k⟩
    | [t0, t1, t2, t3, t4, t5, t6], _ =>
      refine ⟨_, rfl, r, _, rfl, .inl (SqL.of hR), rfl, _, rfl, ?_⟩
      refine ifn (fun e => by simp at e) ?_
      refine ⟨_, rfl, r, _, rfl, .inl (SqL.of hR), rfl, _, rfl, ?_⟩
      refine ifn (fun e => by simp at e) ?_
      refine ⟨_, rfl, r, _, rfl, .inl (SqL.of hR), rfl, _, rfl, ?_⟩
      refine ifn (fun e => by simp at e) ?_
      refine ⟨_, rfl, r, _, rfl, .inl (SqL.of hR), rfl, _, rfl, ?_⟩
      refine ifn (fun e => by simp at e) ?_
      refine ⟨_, rfl, r, _, rfl, .inl (SqL.of hR), rfl, _, rfl, ?_⟩
      refine ifn (fun e => by simp at e) ?_
      refine ⟨_, rfl, r, _, rfl, .inl (SqL.of hR), rfl, _, rfl, ?_⟩
      refine ifn (fun e => by simp at e) ?_
      refine ⟨_, rfl, r, _, rfl, .inl (SqL.of hR), rfl, _, rfl, ?_⟩
      refine ifp (by simp) ?_
      exact ⟨_, rfl, r, _, _, _, rfl, rfl, SqL.of hR, atI_nat (j := 0) rfl, _, rfl, r, _, _, _, rfl, rfl, SqL.of hR, atI_nat (j := 1) rfl, _, rfl, r, _, _, _, rfl, rfl, SqL.of hR, atI_nat (j := 2) rfl, _, rfl, r, _, _, _, rfl, rfl, SqL.of hR, atI_nat (j := 3) rfl, _, rfl, r, _, _, _, rfl, rfl, SqL.of hR, atI_nat (j := 4) rfl, _, rfl, r, _, _, _, rfl, rfl, SqL.of hR, atI_nat (j := 5) rfl, _, rfl, r, _, _, _, rfl, rfl, SqL.of hR, atI_nat (j := 6) rfl, [t0, t1, t2, t3, t4, t5, t6], rows, rfl, hT, R, k⟩
    | [t0, t1, t2, t3, t4, t5, t6, t7], _ =>
      refine ⟨_, rfl, r, _, rfl, .inl (SqL.of hR), rfl, _, rfl, ?_⟩
      refine ifn (fun e => by simp at e) ?_
      refine ⟨_, rfl, r, _, rfl, .inl (SqL.of hR), rfl, _, rfl, ?_⟩
      refine ifn (fun e => by simp at e) ?_
      refine ⟨_, rfl, r, _, rfl, .inl (SqL.of hR), rfl, _, rfl, ?_⟩
      refine ifn (fun e => by simp at e) ?_
      refine ⟨_, rfl, r, _, rfl, .inl (SqL.of hR), rfl, _, rfl, ?_⟩
      refine ifn (fun e => by simp at e) ?_
      refine ⟨_, rfl, r, _, rfl, .inl (SqL.of hR), rfl, _, rfl, ?_⟩
      refine ifn (fun e => by simp at e) ?_
      refine ⟨_, rfl, r, _, rfl, .inl (SqL.of hR), rfl, _, rfl, ?_⟩
      refine ifn (fun e => by simp at e) ?_
      refine ⟨_, rfl, r, _, rfl, .inl (SqL.of hR), rfl, _, rfl, ?_⟩
      refine ifn (fun e => by simp at e) ?_
      exact ⟨_, rfl, r, _, _, _, rfl, rfl, SqL.of hR, atI_nat (j := 0) rfl, _, rfl, r, _, _, _, rfl, rfl, SqL.of hR, atI_nat (j := 1) rfl, _, rfl, r, _, _, _, rfl, rfl, SqL.of hR, atI_nat (j := 2) rfl, _, rfl, r, _, _, _, rfl, rfl, SqL.of hR, atI_nat (j := 3) rfl, _, rfl, r, _, _, _, rfl, rfl, SqL.of hR, atI_nat (j := 4) rfl, _, rfl, r, _, _, _, rfl, rfl, SqL.of hR, atI_nat (j := 5) rfl, _, rfl, r, _, _, _, rfl, rfl, SqL.of hR, atI_nat (j := 6) rfl, _, rfl, r, _, _, _, rfl, rfl, SqL.of hR, atI_nat (j := 7) rfl, [t0, t1, t2, t3, t4, t5, t6, t7], rows, rfl, hT, R, k⟩
    | _ :: _ :: _ :: _ :: _ :: _ :: _ :: _ :: _ :: l, h => exact absurd h.2 (by simp only [List.length_cons]; omega)
end
end Sh
end
section
set_option Elab.async false
set_option linter.all false
set_option maxRecDepth 100000
set_option maxHeartbeats 2000000
set_option autoImplicit false
namespace Sh
open PySem PySem.Spec PyProof.Rows L2
open C8 (pss_cut tCut)
open Evl (ixN_nat)
/-- the number of branches of a kind -/
def wR (rows : List Row) (z : Str) : Nat := match rows.find? (fun q => decide (q.1 = z)) with
  | some q => q.2.toNat
  | none => 0
theorem find_wL (rows : List Row) (z : Str) : valV (wL rows) (.inr z) = (rows.find? (fun q => decide (q.1 = z))).map fun q => V.int q.2 := by
  unfold valV wL
  rw [List.find?_map]
  have e : ((fun kv : Key × V => decide (kv.1 = Sum.inr z)) ∘ fun q : Row => ((.inr q.1 : Key), V.int q.2)) = fun q => decide (q.1 = z) := by
    funext q
    exact key_rr q.1 z
  rw [e, Option.map_map]
  rfl
theorem wR_mem {rows : List Row} {m : Int} (R : ROk m rows) {z : Str} (h : ∃ q ∈ rows, q.1 = z) : ∃ q ∈ rows, q.1 = z ∧ rows.find? (fun q => decide (q.1 = z)) = some q ∧ ((wR rows z : Nat) : Int) = q.2 ∧ wR rows z ≤ 3 := by
  obtain ⟨q, hq, e⟩ := h
  cases hf : rows.find? (fun q => decide (q.1 = z)) with
  | none => exact absurd (List.find?_eq_none.mp hf q hq) (by simp [e])
  | some q2 =>
    have hm := List.mem_of_find?_eq_some hf
    have hp := List.find?_some hf
    have wd := R.wd q2 hm
    have ew : wR rows z = q2.2.toNat := by unfold wR; rw [hf]
    exact ⟨q2, hm, of_decide_eq_true hp, rfl, by rw [ew]; omega, by rw [ew]; omega⟩
theorem val_wL {rows : List Row} {m : Int} (R : ROk m rows) {z : Str} (h : ∃ q ∈ rows, q.1 = z) : valV (wL rows) (.inr z) = some (.int ((wR rows z : Nat) : Int)) := by
  obtain ⟨q, _, _, hf, e, _⟩ := wR_mem R h
  rw [find_wL, hf, e]
  rfl
structure PlantOk (rows : List Row) (l : List Str) : Prop where
  f : Mth.forest (wR rows) l 1 = true
  k : ∀ z ∈ l, ∃ q ∈ rows, q.1 = z
  sz : l.length ≤ 2000
theorem PlantOk.pos {rows : List Row} {l : List Str} (x : PlantOk rows l) : 0 < l.length := List.length_pos_iff.mpr (Mth.forest_pos _ x.f)
def tmF : List (Str × V) := xfs ["what", "limit"] [.str "knots", .int 2000] []
def tmP : List V → Prop := fun vs => vs = [.str "knots", .int 2000]
def spSize (K : PySem.W.Frag) (CT : Addr) : Sp := fun vs H Q E => ∃ (t : Addr) (xs : List V), vs = [.ref t] ∧ SqT K H t xs ∧ (xs.length ≤ 2000 → Q .non H) ∧ (2000 < xs.length → ∀ d, H d = none → E (.ref CT) (some d) (upd H d (.xd tmF)))
def spFault (K : PySem.W.Frag) (C : Addr) : Sp := fun vs H Q _ => ∃ (b t e : Addr) (rows : List Row) (l : List Str), vs = [.ref b, .ref t, .ref e] ∧ BedAt C H b rows ∧ ROk 8 rows ∧ Tq H t (l.map V.str) ∧ PlantOk rows l ∧ H e = some (.tup []) ∧ ∀ H', Same H H' → Q .non H'
def spCheck (C : Addr) : Sp := fun vs H Q _ => ∃ (b t : Addr) (rows : List Row) (l : List Str), vs = [.ref b, .ref t] ∧ BedAt C H b rows ∧ ROk 8 rows ∧ Tq H t (l.map V.str) ∧ PlantOk rows l ∧ ∀ H', Same H H' → Q .non H'
/-- a list of the ends -/
def EndsAt (H : Hp) (p : Addr) (rows : List Row) (l : List Str) : Prop := H p = some (.lst ((Mth.ends (wR rows) l).map V.int))
def spEnds (C : Addr) : Sp := fun vs H Q _ => ∃ (b t : Addr) (rows : List Row) (l : List Str), vs = [.ref b, .ref t] ∧ BedAt C H b rows ∧ ROk 8 rows ∧ Tq H t (l.map V.str) ∧ PlantOk rows l ∧ ∀ H' p, Same H H' → H p = none → EndsAt H' p rows l → Q (.ref p) H'
def spNumber : Sp := fun vs H Q _ => ∃ (r : Addr) (rows : List Row) (z : Str), vs = [.ref r, .str z] ∧ RowsAt H r rows ∧ ROk 8 rows ∧ (∃ q ∈ rows, q.1 = z) ∧ Q (.int ((wR rows z : Nat) : Int)) H
def spLawEnds : Sp := fun vs H Q _ => ∃ (r t : Addr) (rows : List Row) (l : List Str), vs = [.ref r, .ref t] ∧ RowsAt H r rows ∧ ROk 8 rows ∧ Tq H t (l.map V.str) ∧ PlantOk rows l ∧ ∀ H' p, Same H H' → H p = none → EndsAt H' p rows l → Q (.ref p) H'
theorem str_at {l : List Str} {j : Nat} {z : Int} (h : j < l.length) (e : z = (j : Int)) : atI (l.map V.str) z = some (.str l[j]) := at_ofG e (by rw [List.getElem?_map, List.getElem?_eq_getElem h]; rfl)
theorem int_at {l : List Int} {j : Nat} {z x : Int} (h : l[j]? = some x) (e : z = (j : Int)) : atI (l.map V.int) z = some (.int x) := at_ofG e (by rw [List.getElem?_map, h]; rfl)
theorem ixz {n : Nat} {z : Int} {j : Nat} (h : j < n) (e : z = (j : Int)) : ixN n z = some j := by
  rw [e]
  exact ixN_nat h
theorem RowsAt.same {H H' : Hp} {r : Addr} {rows : List Row} (x : RowsAt H r rows) (s : Same H H') : RowsAt H' r rows := by
  obtain ⟨ts, a, b⟩ := x
  exact ⟨ts, s _ _ a, b.keep (TK.of_same s)⟩
abbrev s_check_size : Stmt := top 14
abbrev N_check_size : List Str := ["entries"]
theorem sc_check_size : FnScope N_check_size ["entries"] (defScope s_check_size) := ⟨rfl, rfl, rfl, by decide +kernel, rfl, by decide +kernel, by decide +kernel⟩
abbrev s_fault_place : Stmt := top 15
abbrev N_fault_place : List Str := ["bed", "entries", "leaves", "missing", "place", "entry"]
theorem sc_fault_place : FnScope N_fault_place ["bed", "entries", "leaves"] (defScope s_fault_place) := ⟨rfl, rfl, rfl, by decide +kernel, rfl, by decide +kernel, by decide +kernel⟩
abbrev s_check_plant : Stmt := top 22
abbrev N_check_plant : List Str := ["bed", "plant", "place"]
theorem sc_check_plant : FnScope N_check_plant ["bed", "plant"] (defScope s_check_plant) := ⟨rfl, rfl, rfl, by decide +kernel, rfl, by decide +kernel, by decide +kernel⟩
abbrev s_ends_of : Stmt := top 16
abbrev N_ends_of : List Str := ["bed", "tree", "ends", "place", "end", "_"]
theorem sc_ends_of : FnScope N_ends_of ["bed", "tree"] (defScope s_ends_of) := ⟨rfl, rfl, rfl, by decide +kernel, rfl, by decide +kernel, by decide +kernel⟩
abbrev s_law_number : Stmt := top 47
abbrev N_law_number : List Str := ["rows", "word", "row"]
theorem sc_law_number : FnScope N_law_number ["rows", "word"] (defScope s_law_number) := ⟨rfl, rfl, rfl, by decide +kernel, rfl, by decide +kernel, by decide +kernel⟩
abbrev s_law_ends : Stmt := top 51
abbrev N_law_ends : List Str := ["rows", "plant", "ends", "k", "place", "behind", "turn"]
theorem sc_law_ends : FnScope N_law_ends ["rows", "plant"] (defScope s_law_ends) := ⟨rfl, rfl, rfl, by decide +kernel, rfl, by decide +kernel, by decide +kernel⟩
section
variable {P : Program} {w : World} {K : PySem.W.Frag} {mg : Str → Option Value} {base : Heap} {C CT : Addr}
theorem ok_check_size (T : Bl mg) (x_TooMany : PySem.SupX.SupCls P w K mg "TooMany" CT ["what", "limit"] tmP) (D : Def0 K mg "check_size" s_check_size) : DefOk P w K mg base (L2.CX P w) 2 "check_size" (spSize K CT) := by
  refine D.okX sc_check_size (fun vs H Q E h => ?_) (fun _ _ _ _ _ _ us hl => match us, hl with | [_], _ => rfl) (fun f cdv A outer s H vs Q E hr h => ?_)
  · obtain ⟨t, xs, rfl, _⟩ := h
    rfl
  · obtain ⟨t, xs, rfl, ht, k1, k2⟩ := h
    refine ⟨_, (pss_one (ps_if (pt_cmpR op_gt (pe_callB call_len_seq (by rfl) T.b_len boot_len (pa_cons (pv 0) pa_nil)) (pe_cI (by rfl) T.c_MOST_KNOTS) (nomark _))
        (pss_one (ps_raiseSup rfl x_TooMany hr (takes_of rfl rfl rfl rfl) (pa_cons pe_str (pa_cons (pe_cI (by rfl) T.c_MOST_KNOTS) pa_nil))))
        pss_nil)), ?_⟩
    refine ⟨_, rfl, t, _, rfl, .inr ht, _, _, rfl, rfl, _, rfl, ?_⟩
    refine ite2 (fun h => ?_) (fun h => ?_)
    · exact ⟨rfl, rfl, fun d hd => k2 (by have := of_decide_eq_true h; omega) d hd⟩
    · exact k1 (by have : ¬ (2000 : Int) < ((xs.length : Nat) : Int) := fun q => h (decide_eq_true q); omega)
theorem ok_fault_place (T : Bl mg) (B : BedT K C) (D : Def0 K mg "fault_place" s_fault_place) : DefOk P w K mg base CX0 1 "fault_place" (spFault K C) := by
  refine D.ok sc_fault_place (fun vs H Q E h => ?_) (fun _ _ _ _ _ _ us hl => match us, hl with | [_, _, _], _ => rfl) (fun f cdv A outer s H vs Q E hr h => ?_)
  · obtain ⟨b, t, e, rows, l, rfl, _⟩ := h
    rfl
  · obtain ⟨b, t, e, rows, l, rfl, hB, R, ht, O, he, k⟩ := h
    have hu := hu_of hr
    refine ⟨_, (pss_cons (ps_set (i := 3) sc_fault_place.nd rfl (Or.inl rfl) pe_int)
      (pss_cons (ps_for PassesOwn.never rfl (pi_enumT (by rfl) T.b_enumerate (pa_cons (pv 1) pa_nil)) (pg_tup (by rfl) (pgs_cons (pg_name (i := 4) sc_fault_place.nd rfl (Or.inl rfl)) (pgs_cons (pg_name (i := 5) sc_fault_place.nd rfl (Or.inl rfl)) pgs_nil)))
        (pss_cons (ps_if (pt_cmpR op_eq (pv 3) pe_int (nomark _))
          (pss_one (ps_ret (pv 4)))
          pss_nil)
        (pss_one (ps_if (pt_cmpR op_in_seq (pv 5) (pv 2) (by rfl))
          (pss_one (ps_set (i := 3) sc_fault_place.nd rfl (Or.inl rfl) (pe_op op_sub (pv 3) pe_int)))
          (pss_one (ps_if (pt_cmp (pc_din hu (pv 5) (pe_fld (pv 0) rfl)))
            (pss_one (ps_set (i := 3) sc_fault_place.nd rfl (Or.inl rfl) (pe_op op_add (pe_op op_sub (pv 3) pe_int) (pe_dget hu (pe_fld (pv 0) rfl) (pv 5) (fun _ _ => rfl)))))
            (pss_one (ps_ret (pv 4)))))))))
      (pss_one (ps_ret (pe_ifExp (pt_cmpR op_eq (pv 3) pe_int (nomark _)) pe_non (pe_callB call_len_seq (by rfl) T.b_len boot_len (pa_cons (pv 1) pa_nil))))))), ?_⟩
    refine ⟨_, rfl, t, _, rfl, ht.sq, for_it (walk_enumT (xs := l.map V.str)) (fun i σ H' => ∃ (x y : Option V), σ = [some (.ref b), some (.ref t), some (.ref e), some (.int ((1 + ((l.take i).map (wR rows)).sum - i : Nat) : Int)), x, y] ∧ Same H H')
      ⟨none, none, rfl, Same.refl H⟩ (fun i σ H' _ ⟨_, _, _, q⟩ => (ht.same q).sq) ?_ ?_⟩
    · rintro i v σ H1 H2 hi ⟨x, y, rfl, s1⟩ ⟨P1, v1, v2, rfl, hP1, rfl, e1, e2⟩
      have hil : i < l.length := by rw [List.length_map] at hi; exact hi
      cases e1
      have e2' : (l.map V.str)[i]? = some v2 := e2
      rw [List.getElem?_map, List.getElem?_eq_getElem hil] at e2'
      cases e2'
      have s2 := s1.upd_new (o := .tup [.int ((i : Nat) : Int), .str l[i]]) hP1
      obtain ⟨F, q⟩ := Mth.miss (wR rows) O.f i (Nat.le_of_lt hil)
      obtain ⟨F2, q2⟩ := Mth.miss (wR rows) O.f (i + 1) hil
      obtain ⟨n, hn⟩ := F.pos _ hil
      have hk := O.k _ (List.getElem_mem hil)
      obtain ⟨dx, r, kk, ww, rk, ts, h1, h2, h3, h4, h5, h6⟩ := hB.same s2
      refine ⟨P1, _, rfl, SqT.of upd_same, rfl, _, _, rfl, _, _, rfl, rfl, ?_⟩
      refine ⟨_, rfl, rfl, _, rfl, ifn (fun e => ?_) ?_⟩
      · have z := V.int.inj (of_decide_eq_true e)
        omega
      refine ⟨_, rfl, _, rfl, e, [], rfl, .inr (SqT.of (s2 _ _ he)), rfl, rfl, _, rfl, iteF ?_⟩
      refine ⟨_, rfl, _, rfl, b, C, dx, _, _, rfl, h1, B.cl, B.nW, lk_widths _ _ _ _, ww, _, rfl, DGet.k (k := .inr l[i]) h5, _, rfl, ?_⟩
      rw [val_wL R hk]
      refine ifp rfl ?_
      refine ⟨_, rfl, _, _, rfl, rfl, _, rfl, b, C, dx, _, _, rfl, h1, B.cl, B.nW, lk_widths _ _ _ _, _, rfl, ww, _, rfl, (by rw [← val_wL R hk]; exact DGet.k (k := .inr l[i]) h5), _, _, rfl, rfl, ?_⟩
      refine ⟨some (.int ((i : Nat) : Int)), some (.str l[i]), ?_, s2⟩
      have es : ((l.take (i + 1)).map (wR rows)).sum = ((l.take i).map (wR rows)).sum + wR rows l[i] := by
        rw [List.take_add_one, List.getElem?_eq_getElem hil, List.map_append, List.sum_append]
        show _ + (wR rows l[i] + 0) = _
        rw [Nat.add_zero]
      have ez : ((1 + ((l.take (i + 1)).map (wR rows)).sum - (i + 1) : Nat) : Int) = ((1 + ((l.take i).map (wR rows)).sum - i : Nat) : Int) - 1 + ((wR rows l[i] : Nat) : Int) := by
        rw [es]
        omega
      rw [ez]
      rfl
    · rintro σ H1 ⟨x, y, rfl, s1⟩
      obtain ⟨F, q⟩ := Mth.miss (wR rows) O.f l.length (Nat.le_refl _)
      have z : 1 + ((l.take l.length).map (wR rows)).sum - l.length = 0 := by
        have F2 := F.2
        rw [List.drop_length] at F2
        exact Mth.forest_nil _ F2
      rw [List.length_map, z]
      exact ⟨_, rfl, rfl, _, rfl, ifp (by simp) (k _ s1)⟩
theorem ok_check_plant (T : Bl mg) (c_check_size : DefOk P w K mg base (L2.CX P w) 2 "check_size" (spSize K CT)) (c_fault_place : DefOk P w K mg base CX0 1 "fault_place" (spFault K C)) (D : Def0 K mg "check_plant" s_check_plant) : DefOk P w K mg base CX0 3 "check_plant" (spCheck C) := by
  refine D.ok sc_check_plant (fun vs H Q E h => ?_) (fun _ _ _ _ _ _ us hl => match us, hl with | [_, _], _ => rfl) (fun f cdv A outer s H vs Q E hr h => ?_)
  · obtain ⟨b, t, rows, l, rfl, _⟩ := h
    rfl
  · obtain ⟨b, t, rows, l, rfl, hB, R, ht, O, k⟩ := h
    refine ⟨_, (pss_cons (ps_expr (pe_d c_check_size (hr.mono (by decide)) passL (pa_cons (pv 1) pa_nil)))
      (pss_cons (ps_set (i := 2) sc_check_plant.nd rfl (Or.inl rfl) (pe_d c_fault_place (hr.mono (by decide)) pass0 (pa_cons (pv 0) (pa_cons (pv 1) (pa_cons (pe_tup pa_nil) pa_nil)))))
      (pss_one (ps_if (pt_cmpR op_notN (pv 2) pe_non (nomark _))
        (pss_one ps_never)
        pss_nil)))), ?_⟩
    refine ⟨_, rfl, t, _, rfl, ht.sq, fun _ => ?_, fun q => absurd q (by rw [List.length_map]; have := O.sz; omega)⟩
    refine ⟨_, rfl, _, rfl, Nat.zero_le _, fun e he => ?_⟩
    have s1 := (Same.refl H).upd_new (o := .tup []) he
    refine ⟨b, t, e, rows, l, rfl, hB.same s1, R, (ht.same s1), O, upd_same, fun H' s2 => ?_⟩
    refine ⟨_, rfl, rfl, _, rfl, ifn (by simp) ?_⟩
    exact k _ (s1.trans s2)
theorem ok_ends_of (T : Bl mg) (B : BedT K C) (D : Def0 K mg "ends_of" s_ends_of) : DefOk P w K mg base CX0 1 "ends_of" (spEnds C) := by
  refine D.ok sc_ends_of (fun vs H Q E h => ?_) (fun _ _ _ _ _ _ us hl => match us, hl with | [_, _], _ => rfl) (fun f cdv A outer s H vs Q E hr h => ?_)
  · obtain ⟨b, t, rows, l, rfl, _⟩ := h
    rfl
  · obtain ⟨b, t, rows, l, rfl, hB, R, ht, O, k⟩ := h
    have hu := hu_of hr
    have hsz := O.sz
    refine ⟨_, (pss_cons (ps_setLc (i := 2) (own := [("_", 5)]) (g := (gName 5)) (tt := tYes) rfl sc_ends_of.nd rfl rfl (sw_true rfl rfl rfl (by decide +kernel)) (pi_tup (pv 1)) (blkOk_by (N := N_ends_of) (sc := defScope s_ends_of) (by decide +kernel)) (fun _ _ _ _ _ => (pg_name (i := 5) sc_ends_of.nd rfl (Or.inl rfl))) (fun _ _ _ _ _ => pts_nil) (fun _ _ _ _ _ => pe_int))
      (pss_cons (ps_for PassesOwn.never rfl (pi_range3 (by rfl) T.b_range (pa_cons (pe_op op_sub (pe_callB call_len_seq (by rfl) T.b_len boot_len (pa_cons (pv 1) pa_nil)) pe_int) (pa_cons (pe_un un_neg pe_int) (pa_cons (pe_un un_neg pe_int) pa_nil)))) (pg_name (i := 3) sc_ends_of.nd rfl (Or.inl rfl))
        (pss_cons (ps_set (i := 4) sc_ends_of.nd rfl (Or.inl rfl) (pe_op op_add (pv 3) pe_int))
        (pss_cons (ps_for PassesOwn.never rfl (pi_range1 (by rfl) T.b_range (pa_cons (pe_dget2 hu (pe_fld (pv 0) rfl) (pe_ix ix_tup (pv 1) (pv 3) (fun _ _ => rfl)) pe_int ⟨rfl, rfl, rfl, rfl⟩) pa_nil)) (pg_name (i := 5) sc_ends_of.nd rfl (Or.inl rfl))
          (pss_one (ps_set (i := 4) sc_ends_of.nd rfl (Or.inl rfl) (pe_ix ix_list (pv 2) (pv 4) (fun _ _ => rfl)))))
        (pss_one (ps_asg (pv 4) (pg_sub (pv 2) (pv 3) set_list))))))
      (pss_one (ps_ret (pv 2))))), ?_⟩
    refine ⟨_, rfl, t, rfl, ⟨_, ht.sq⟩, fun D hD => lc_it (walk_tup (xs := l.map V.str)) (fun i H' => Same H H' ∧ H' D = some (.lst ((List.replicate i (0 : Int)).map V.int))) ⟨(Same.refl H).upd_new hD, upd_same⟩ (fun i H' _ ⟨q, _⟩ => (ht.same q).sq) ?_ ?_⟩
    · rintro i v H1 H2 hi ⟨q1, q2⟩ ⟨rfl, hv⟩
      refine ⟨rfl, _, q2, ?_, q1.upd_own hD, ?_⟩
      · rw [List.length_map, List.length_replicate]
        rw [List.length_map] at hi
        exact lt_line (by omega)
      · rw [upd_same, List.replicate_succ', List.map_append]
        rfl
    · rintro H1 ⟨q1, q2⟩
      rw [List.length_map] at q2
      refine ⟨_, rfl, t, _, rfl, .inr ((ht.same q1).sq), _, _, rfl, rfl, _, rfl, _, rfl, _, _, _, _, rfl, RgC.neg (by rw [List.length_map]; omega) (by rw [List.length_map]; omega) (by decide) (by decide), ?_⟩
      rw [show ((((l.map V.str).length : Nat) : Int) - 1 - -1).toNat = l.length by rw [List.length_map]; omega]
      refine for_rangeC (fun i σ H' => ∃ (x y z : Option V) (es : List Int), σ = [some (.ref b), some (.ref t), some (.ref D), x, y, z] ∧ Same H H' ∧ H' D = some (.lst (es.map V.int)) ∧ es.length = l.length ∧ ∀ j, l.length - i ≤ j → j < l.length → es[j]? = some ((Mth.nxs (wR rows) l j 1 : Nat) : Int)) ?_ ?_ ?_
      · exact ⟨none, none, none, _, rfl, q1, q2, List.length_replicate, fun j h1 h2 => absurd h1 (by omega)⟩
      · rintro i σ H2 hi ⟨x, y, z, es, rfl, s2, p2, el, eh⟩
        have epl : (((l.map V.str).length : Nat) : Int) - 1 + ((i : Nat) : Int) * -1 = ((l.length - 1 - i : Nat) : Int) := by rw [List.length_map]; omega
        rw [epl]
        generalize hp : l.length - 1 - i = p
        have hpl : p < l.length := by omega
        have hk : l[p]? = some l[p] := List.getElem?_eq_getElem hpl
        have hkk := O.k _ (List.getElem_mem hpl)
        obtain ⟨dx, r, kk, ww, rk, ts, h1, h2, h3, h4, h5, h6⟩ := hB.same s2
        refine ⟨_, rfl, _, _, rfl, rfl, ?_⟩
        refine ⟨_, rfl, b, C, dx, _, _, rfl, h1, B.cl, B.nW, lk_widths _ _ _ _, ww, rfl, .inl ⟨_, .inl h5⟩, _, rfl, _, rfl, t, _, _, _, rfl, rfl, (ht.same s2).sq, str_at hpl rfl, _, DGet.k (k := .inr l[p]) h5, ?_⟩
        rw [val_wL R hkk]
        obtain ⟨_, _, _, _, _, hw3⟩ := wR_mem R hkk
        refine ⟨_, rfl, (show -(2 ^ 62) ≤ ((wR rows l[p] : Nat) : Int) by omega), (show ((wR rows l[p] : Nat) : Int) < 2 ^ 62 by omega), ?_⟩
        rw [Int.toNat_natCast]
        refine for_range (fun i2 σ H' => ∃ (z : Option V), σ = [some (.ref b), some (.ref t), some (.ref D), some (.int ((p : Nat) : Int)), some (.int ((Mth.nxs (wR rows) l (p + 1) i2 : Nat) : Int)), z] ∧ H' = H2) ?_ ?_ ?_
        · refine ⟨z, ?_, rfl⟩
          rw [Mth.nxs_zero _ hpl]
          rfl
        · rintro i2 σ H3 hi2 ⟨z, rfl, rfl⟩
          obtain ⟨m1, m2, m3⟩ := Mth.end_step (wR rows) O.f hk hi2
          refine ⟨_, rfl, _, rfl, D, _, _, _, rfl, rfl, SqL.of p2, int_at (eh _ (by omega) m1) rfl, ?_⟩
          rw [m3]
          exact ⟨_, rfl, rfl⟩
        · rintro σ H3 ⟨z, rfl, rfl⟩
          rw [Mth.end_last _ hk]
          refine ⟨_, rfl, _, rfl, _, rfl, D, _, _, p, rfl, rfl, p2, ixz (by rw [List.length_map, el]; exact hpl) rfl, ?_⟩
          refine ⟨_, _, _, es.set p ((Mth.nxs (wR rows) l p 1 : Nat) : Int), rfl, s2.upd_own hD, by rw [upd_same, List.map_set], by rw [List.length_set]; exact el, fun j h1 h2 => ?_⟩
          by_cases e : j = p
          · subst e
            rw [List.getElem?_set_self (by omega)]
          · rw [List.getElem?_set_ne (Ne.symm e)]
            exact eh j (by omega) h2
      · rintro σ H2 ⟨x, y, z, es, rfl, s2, p2, el, eh⟩
        refine ⟨_, rfl, ?_⟩
        refine k _ _ s2 hD ?_
        unfold EndsAt
        rw [← Mth.ends_of_get (wR rows) el (fun j hj => eh j (by omega) hj)]
        exact p2
end
end Sh
end
section
set_option Elab.async false
set_option linter.all false
set_option maxRecDepth 100000
set_option maxHeartbeats 2000000
set_option autoImplicit false
namespace Mth
/-- the starts of the first n branches above p -/
def starts {α : Type} (w : α → Nat) (l : List α) (p n : Nat) : List Int := (List.range n).map fun j => ((nxs w l (p + 1) j : Nat) : Int)
theorem starts_len {α : Type} (w : α → Nat) (l : List α) (p n : Nat) : (starts w l p n).length = n := by simp [starts]
theorem starts_succ {α : Type} (w : α → Nat) (l : List α) (p n : Nat) : starts w l p (n + 1) = starts w l p n ++ [((nxs w l (p + 1) n : Nat) : Int)] := by
  simp [starts, List.range_succ]
theorem starts_get {α : Type} (w : α → Nat) (l : List α) (p : Nat) {n j : Nat} (h : j < n) : (starts w l p n)[j]? = some ((nxs w l (p + 1) j : Nat) : Int) := by
  simp [starts, h]
theorem kids_drop (p : List Nat) {n j : Nat} (h : j < n) : (kids p n).drop (n - (j + 1)) = (p ++ [n - 1 - j]) :: (kids p n).drop (n - j) := by
  have e : n - (j + 1) < (kids p n).length := by rw [kids_len]; omega
  rw [List.drop_eq_getElem_cons e, show n - (j + 1) + 1 = n - j by omega]
  have q := kids_get (p := p) (n := n) (t := n - 1 - j) (by omega)
  rw [show n - 1 - j = n - (j + 1) by omega, List.getElem?_eq_getElem e] at q
  rw [Option.some.inj q, show n - 1 - j = n - (j + 1) by omega]
theorem forest_le {α : Type} (w : α → Nat) : ∀ (l : List α) (n : Nat), forest w l n = true → n ≤ l.length
  | [], n, h => by rw [forest_nil w h]; exact Nat.le_refl _
  | k :: r, 0, _ => Nat.zero_le _
  | k :: r, n + 1, h => by
    have q := forest_le w r (w k + n) h
    rw [List.length_cons]
    omega
theorem stk_le {α : Type} (w : α → Nat) {l : List α} (h : forest w l 1 = true) {i : Nat} (hi : i ≤ l.length) : (stk w l i).length ≤ l.length := by
  have q := forest_le w _ _ (stk_len w h i hi).2
  rw [List.length_drop] at q
  omega
theorem stk_dep {α : Type} (w : α → Nat) {l : List α} (h : forest w l 1 = true) : ∀ i, i ≤ l.length → ∀ p ∈ stk w l i, p.length ≤ i
  | 0, _, p, hp => by
    have e : p = [] := List.mem_singleton.mp hp
    rw [e]
    exact Nat.le_refl 0
  | i + 1, hi, p, hp => by
    obtain ⟨st, e1, e2⟩ := stk_step w h (i := i) (by omega)
    have ih := stk_dep w h i (by omega)
    rw [e2] at hp
    rcases List.mem_append.mp hp with q | q
    · unfold kids at q
      obtain ⟨j, _, rfl⟩ := List.mem_map.mp q
      have z := ih (pth w l i) (by rw [e1]; exact List.mem_cons_self)
      rw [List.length_append]
      exact Nat.succ_le_succ z
    · have z := ih p (by rw [e1]; exact List.mem_cons_of_mem _ q)
      omega
theorem pth_dep {α : Type} (w : α → Nat) {l : List α} (h : forest w l 1 = true) {i : Nat} (hi : i < l.length) : (pth w l i).length ≤ i := by
  obtain ⟨st, e1, e2⟩ := stk_step w h hi
  exact stk_dep w h i (Nat.le_of_lt hi) _ (by rw [e1]; exact List.mem_cons_self)
end Mth
namespace Sh
open PySem PySem.Spec PyProof.Rows L2
open C8 (pss_cut tCut)
open Evl (ixN_nat)
theorem row_at {rows : List Row} {m : Int} (R : ROk m rows) {i : Nat} (h : i < rows.length) : ((wR rows (rows[i]).1 : Nat) : Int) = (rows[i]).2 := by
  obtain ⟨q, hq, e, hf, ew, _⟩ := wR_mem R ⟨rows[i], List.getElem_mem h, rfl⟩
  obtain ⟨j, hj, ej⟩ := List.mem_iff_getElem.mp hq
  have h1 : (rows.map (·.1))[j]'(by rw [List.length_map]; exact hj) = (rows.map (·.1))[i]'(by rw [List.length_map]; exact h) := by
    rw [List.getElem_map, List.getElem_map, ej, e]
  have e2 := (List.getElem_inj R.nd).mp h1
  subst e2
  rw [ew, ← ej]
/-- tuples of what f says -/
def TsAt {α : Type} (f : α → List V) (H : Hp) (ts : List Addr) (xs : List α) : Prop := ts.length = xs.length ∧ ∀ (i : Nat) (t : Addr) (x : α), ts[i]? = some t → xs[i]? = some x → Tq H t (f x)
theorem TsAt.keep {α : Type} {f : α → List V} {H H' : Hp} {ts : List Addr} {xs : List α} (x : TsAt f H ts xs) (k : TQ H H') : TsAt f H' ts xs := ⟨x.1, fun i t q a b => k _ _ (x.2 i t q a b)⟩
theorem TsAt.nil {α : Type} {f : α → List V} {H : Hp} : TsAt f H [] [] := ⟨rfl, fun i t x a => by simp at a⟩
theorem TsAt.snoc {α : Type} {f : α → List V} {H : Hp} {ts : List Addr} {xs : List α} {t : Addr} {q : α} (x : TsAt f H ts xs) (h : Tq H t (f q)) : TsAt f H (ts ++ [t]) (xs ++ [q]) := by
  refine ⟨by rw [List.length_append, List.length_append, x.1]; rfl, fun i u y a b => ?_⟩
  by_cases e : i < ts.length
  · rw [List.getElem?_append_left e] at a
    rw [List.getElem?_append_left (by rw [← x.1]; exact e)] at b
    exact x.2 i u y a b
  · rw [List.getElem?_append_right (by omega)] at a
    rw [List.getElem?_append_right (by rw [← x.1]; omega), ← x.1] at b
    have z : i - ts.length = 0 := by
      have := lt_of_get a
      simp at this
      omega
    rw [z] at a b
    cases a
    cases b
    exact h
theorem TsAt.pop {α : Type} {f : α → List V} {H : Hp} {ts : List Addr} {xs : List α} {q : α} (x : TsAt f H ts (xs ++ [q])) : ∃ t, ts[ts.length - 1]? = some t ∧ TsAt f H ts.dropLast xs ∧ Tq H t (f q) ∧ ts = ts.dropLast ++ [t] := by
  have hl : ts.length = xs.length + 1 := by rw [x.1, List.length_append]; rfl
  have hi : ts.length - 1 < ts.length := by omega
  refine ⟨ts[ts.length - 1], List.getElem?_eq_getElem hi, ⟨by rw [List.length_dropLast]; omega, fun i t y a b => ?_⟩, x.2 (ts.length - 1) _ _ (List.getElem?_eq_getElem hi) (by rw [hl]; simp), ?_⟩
  · have hb := lt_of_get b
    rw [List.getElem?_dropLast] at a
    rw [if_pos (by omega)] at a
    exact x.2 i t y a (by rw [List.getElem?_append_left hb]; exact b)
  · have hn : ts ≠ [] := fun e => by rw [e] at hl; simp at hl
    have := List.dropLast_concat_getLast hn
    rw [List.getLast_eq_getElem] at this
    exact this.symm
theorem TsAt.at {α : Type} {f : α → List V} {H : Hp} {ts : List Addr} {xs : List α} (x : TsAt f H ts xs) {i : Nat} (h : i < xs.length) : ∃ t, ts[i]? = some t ∧ (ts.map V.ref)[i]? = some (.ref t) ∧ Tq H t (f xs[i]) := by
  have h2 : i < ts.length := by rw [x.1]; exact h
  exact ⟨ts[i], List.getElem?_eq_getElem h2, by rw [List.getElem?_map, List.getElem?_eq_getElem h2]; rfl, x.2 i _ _ (List.getElem?_eq_getElem h2) (List.getElem?_eq_getElem h)⟩
def pV (p : List Nat) : List V := p.map fun n => V.int ((n : Nat) : Int)
theorem catA_of {K : PySem.W.Frag} {H : Hp} {a b : Addr} {xs ys : List V} {Q : VK} (ha : Tq H a xs) (hb : Tq H b ys) (hl : xs.length + ys.length ≤ 100000) (k : ∀ r H', Same H H' → Tq H' r (xs ++ ys) → Q (.ref r) H') : rCatA K (.ref a) (.ref b) H Q := by
  refine ⟨a, b, xs, ys, rfl, rfl, ha.sq, hb.sq, le_line hl, fun e => k b H (Same.refl H) (by rw [e]; exact hb), fun _ e => k a H (Same.refl H) (by rw [e, List.append_nil]; exact ha), fun _ _ p hp => k p _ ((Same.refl H).upd_new hp) (.of upd_same)⟩
theorem slA_of {K : PySem.W.Frag} {H : Hp} {a : Addr} {xs : List V} {Q : VK} {i j : Nat} (ha : Tq H a xs) (hj : j ≤ xs.length) (hi : i ≤ j) (k : ∀ r H', Same H H' → Tq H' r ((xs.drop i).take (j - i)) → Q (.ref r) H') : rSlA K (.ref a) (some (i : Int)) (some (j : Int)) H Q := by
  have e1 : HT.sIx xs.length 0 (some (i : Int)) = i := by rw [HT.sIx_nat]; omega
  have e2 : HT.sIx xs.length xs.length (some (j : Int)) = j := by rw [HT.sIx_nat]; omega
  refine ⟨a, xs, rfl, ha.sq, fun h => ?_, fun _ p hp => ?_⟩
  · rw [e1, e2] at h
    refine k a H (Same.refl H) ?_
    rw [h.1, h.2, List.drop_zero, Nat.sub_zero, List.take_length]
    exact ha
  · have hc : cutV xs (some (i : Int)) (some (j : Int)) = (xs.drop i).take (j - i) := by
      unfold cutV
      rw [e1, e2]
    rw [hc]
    exact k p _ ((Same.refl H).upd_new hp) (.of upd_same)
def spStarts (C : Addr) : Sp := fun vs H Q _ => ∃ (b t e : Addr) (p : Nat) (rows : List Row) (l : List Str) (hp : p < l.length), vs = [.ref b, .ref t, .ref e, .int ((p : Nat) : Int)] ∧ BedAt C H b rows ∧ ROk 8 rows ∧ Tq H t (l.map V.str) ∧ PlantOk rows l ∧ EndsAt H e rows l ∧
  ∀ H' q, Same H H' → H q = none → H' q = some (.lst ((Mth.starts (wR rows) l p (wR rows l[p])).map V.int)) → Q (.ref q) H'
/-- a list of tuples, the paths of all knots -/
def PthsL (H : Hp) (q : Addr) (rows : List Row) (l : List Str) : Prop := ∃ ts, H q = some (.lst (ts.map V.ref)) ∧ TsAt pV H ts ((List.range l.length).map (Mth.pth (wR rows) l))
def spPaths (C : Addr) : Sp := fun vs H Q _ => ∃ (b t : Addr) (rows : List Row) (l : List Str), vs = [.ref b, .ref t] ∧ BedAt C H b rows ∧ ROk 8 rows ∧ Tq H t (l.map V.str) ∧ PlantOk rows l ∧ ∀ H' q, Same H H' → H q = none → PthsL H' q rows l → Q (.ref q) H'
abbrev s_starts_above : Stmt := top 17
abbrev N_starts_above : List Str := ["bed", "tree", "ends", "place", "starts", "start", "_"]
theorem sc_starts_above : FnScope N_starts_above ["bed", "tree", "ends", "place"] (defScope s_starts_above) := ⟨rfl, rfl, rfl, by decide +kernel, rfl, by decide +kernel, by decide +kernel⟩
abbrev s_paths_of : Stmt := top 18
abbrev N_paths_of : List Str := ["bed", "tree", "paths", "waiting", "entry", "path", "index"]
theorem sc_paths_of : FnScope N_paths_of ["bed", "tree"] (defScope s_paths_of) := ⟨rfl, rfl, rfl, by decide +kernel, rfl, by decide +kernel, by decide +kernel⟩
section
variable {P : Program} {w : World} {K : PySem.W.Frag} {mg : Str → Option Value} {base : Heap} {C CT : Addr}
theorem ok_law_number (T : Bl mg) (D : Def0 K mg "_law_number" s_law_number) : DefOk P w K mg base CX0 1 "_law_number" spNumber := by
  refine D.ok sc_law_number (fun vs H Q E h => ?_) (fun _ _ _ _ _ _ us hl => match us, hl with | [_, _], _ => rfl) (fun f cdv A outer s H vs Q E hr h => ?_)
  · obtain ⟨r, rows, z, rfl, _⟩ := h
    rfl
  · obtain ⟨r, rows, z, rfl, ⟨ts, hR, hT⟩, R, hz, k⟩ := h
    refine ⟨_, (pss_cons (ps_for PassesOwn.never rfl (pi_list (pv 0)) (pg_name (i := 2) sc_law_number.nd rfl (Or.inl rfl))
        (pss_one (ps_if (pt_cmpR op_eq (pe_ix ix_tup (pv 2) pe_int (fun _ _ => rfl)) (pv 1) (nomark _))
          (pss_one (ps_ret (pe_ix ix_tup (pv 2) pe_int (fun _ _ => rfl))))
          pss_nil)))
      (pss_one (ps_ret (pe_un un_neg pe_int)))), ?_⟩
    refine ⟨_, rfl, r, rfl, ⟨_, SqL.of hR⟩, for_it (walk_list (xs := ts.map V.ref)) (fun i σ H' => ∃ (x : Option V), σ = [some (.ref r), some (.str z), x] ∧ H' = H ∧ ∀ q ∈ rows.take i, q.1 ≠ z)
      ⟨none, rfl, rfl, fun q h => by simp at h⟩ (fun i σ H' _ ⟨_, _, q, _⟩ => SqL.of (q ▸ hR)) ?_ ?_⟩
    · rintro i v σ H1 H2 hi ⟨x, rfl, rfl, hn⟩ ⟨rfl, hv⟩
      have hir : i < rows.length := by rw [List.length_map, hT.1] at hi; exact hi
      obtain ⟨t, t1, t2, t3⟩ := hT.at hir
      rw [t2] at hv
      cases hv
      refine ⟨_, rfl, t, _, _, _, rfl, rfl, SqT.of t3, atI_nat (j := 0) rfl, _, rfl, rfl, _, rfl, ite2 (fun h => ?_) (fun h => ?_)⟩
      · have e := V.str.inj (of_decide_eq_true h)
        refine ⟨_, rfl, t, _, _, _, rfl, rfl, SqT.of t3, atI_nat (j := 1) rfl, ?_⟩
        rw [← row_at R hir, e]
        exact k
      · refine ⟨_, rfl, rfl, fun q hq => ?_⟩
        rw [List.take_add_one, List.getElem?_eq_getElem hir] at hq
        rcases List.mem_append.mp hq with a | a
        · exact hn q a
        · rw [List.mem_singleton.mp a]
          exact fun e => h (decide_eq_true (congrArg V.str e))
    · rintro σ H1 ⟨x, rfl, rfl, hn⟩
      obtain ⟨q, hq, e⟩ := hz
      refine absurd e (hn q ?_)
      rw [List.length_map, hT.1, List.take_length]
      exact hq
theorem ok_starts_above (T : Bl mg) (B : BedT K C) (D : Def0 K mg "starts_above" s_starts_above) : DefOk P w K mg base CX0 1 "starts_above" (spStarts C) := by
  refine D.ok sc_starts_above (fun vs H Q E h => ?_) (fun _ _ _ _ _ _ us hl => match us, hl with | [_, _, _, _], _ => rfl) (fun f cdv A outer s H vs Q E hr h => ?_)
  · obtain ⟨b, t, e, p, rows, l, hp, rfl, _⟩ := h
    rfl
  · obtain ⟨b, t, e, p, rows, l, hp, rfl, hB, R, ht, O, he, k⟩ := h
    have hu := hu_of hr
    have hsz := O.sz
    refine ⟨_, (pss_cons (ps_set (i := 4) sc_starts_above.nd rfl (Or.inl rfl) (pe_lst pa_nil))
      (pss_cons (ps_set (i := 5) sc_starts_above.nd rfl (Or.inl rfl) (pe_op op_add (pv 3) pe_int))
      (pss_cons (ps_for PassesOwn.never rfl (pi_range1 (by rfl) T.b_range (pa_cons (pe_dget2 hu (pe_fld (pv 0) rfl) (pe_ix ix_tup (pv 1) (pv 3) (fun _ _ => rfl)) pe_int ⟨rfl, rfl, rfl, rfl⟩) pa_nil)) (pg_name (i := 6) sc_starts_above.nd rfl (Or.inl rfl))
        (pss_cons (ps_expr (pe_bm PySem.F.plainAttrs_list PySem.F.slot_list_append PySem.F.type_list_append mt_append (pv 4) (pa_cons (pv 5) pa_nil)))
        (pss_one (ps_set (i := 5) sc_starts_above.nd rfl (Or.inl rfl) (pe_ix ix_list (pv 2) (pv 5) (fun _ _ => rfl))))))
      (pss_one (ps_ret (pv 4)))))), ?_⟩
    refine ⟨le_line (by decide), fun D hD => ?_⟩
    have s1 := (Same.refl H).upd_new (o := .lst []) hD
    refine ⟨_, rfl, _, _, rfl, rfl, ?_⟩
    have hk : l[p]? = some l[p] := List.getElem?_eq_getElem hp
    have hkk := O.k _ (List.getElem_mem hp)
    obtain ⟨dx, r, kk, ww, rk, ts, h1, h2, h3, h4, h5, h6⟩ := hB.same s1
    refine ⟨_, rfl, b, C, dx, _, _, rfl, h1, B.cl, B.nW, lk_widths _ _ _ _, ww, rfl, .inl ⟨_, .inl h5⟩, _, rfl, _, rfl, t, _, _, _, rfl, rfl, (ht.same s1).sq, str_at hp rfl, _, DGet.k (k := .inr l[p]) h5, ?_⟩
    rw [val_wL R hkk]
    obtain ⟨_, _, _, _, _, hw3⟩ := wR_mem R hkk
    refine ⟨_, rfl, (show -(2 ^ 62) ≤ ((wR rows l[p] : Nat) : Int) by omega), (show ((wR rows l[p] : Nat) : Int) < 2 ^ 62 by omega), ?_⟩
    rw [Int.toNat_natCast]
    refine for_range (fun i σ H' => ∃ (z : Option V), σ = [some (.ref b), some (.ref t), some (.ref e), some (.int ((p : Nat) : Int)), some (.ref D), some (.int ((Mth.nxs (wR rows) l (p + 1) i : Nat) : Int)), z] ∧ Same H H' ∧ H' D = some (.lst ((Mth.starts (wR rows) l p i).map V.int))) ?_ ?_ ?_
    · refine ⟨none, ?_, s1, upd_same⟩
      rw [Mth.nxs_zero _ hp]
      rfl
    · rintro i σ H2 hi ⟨z, rfl, s2, q2⟩
      obtain ⟨m1, m2, m3⟩ := Mth.end_step (wR rows) O.f hk hi
      refine ⟨_, rfl, .inl ⟨rfl, _, SqL.of q2⟩, _, rfl, D, _, _, rfl, rfl, q2, lt_line (by rw [List.length_map, Mth.starts_len]; omega), ?_⟩
      have s3 := s2.upd_own (o := .lst ((Mth.starts (wR rows) l p i).map V.int ++ [V.int ((Mth.nxs (wR rows) l (p + 1) i : Nat) : Int)])) hD
      refine ⟨_, rfl, _, rfl, e, _, _, _, rfl, rfl, SqL.of (s3 _ _ he), int_at (Mth.ends_get (wR rows) m1) rfl, ?_⟩
      rw [m3]
      refine ⟨_, rfl, s3, ?_⟩
      rw [upd_same, Mth.starts_succ, List.map_append]
      rfl
    · rintro σ H2 ⟨z, rfl, s2, q2⟩
      exact ⟨_, rfl, k _ _ s2 hD q2⟩
theorem ok_paths_of (T : Bl mg) (B : BedT K C) (D : Def0 K mg "paths_of" s_paths_of) : DefOk P w K mg base CX0 1 "paths_of" (spPaths C) := by
  refine D.ok sc_paths_of (fun vs H Q E h => ?_) (fun _ _ _ _ _ _ us hl => match us, hl with | [_, _], _ => rfl) (fun f cdv A outer s H vs Q E hr h => ?_)
  · obtain ⟨b, t, rows, l, rfl, _⟩ := h
    rfl
  · obtain ⟨b, t, rows, l, rfl, hB, R, ht, O, k⟩ := h
    have hu := hu_of hr
    have hsz := O.sz
    refine ⟨_, (pss_cons (ps_set (i := 2) sc_paths_of.nd rfl (Or.inl rfl) (pe_lst pa_nil))
      (pss_cons (ps_set (i := 3) sc_paths_of.nd rfl (Or.inl rfl) (pe_lst (pa_cons (pe_tup pa_nil) pa_nil)))
      (pss_cons (ps_for PassesOwn.never rfl (pi_tup (pv 1)) (pg_name (i := 4) sc_paths_of.nd rfl (Or.inl rfl))
        (pss_cons (ps_set (i := 5) sc_paths_of.nd rfl (Or.inl rfl) (pe_bm0 PySem.F.plainAttrs_list PySem.F.slot_list_pop PySem.F.type_list_pop mt_pop (pv 3)))
        (pss_cons (ps_expr (pe_bm PySem.F.plainAttrs_list PySem.F.slot_list_append PySem.F.type_list_append mt_append (pv 2) (pa_cons (pv 5) pa_nil)))
        (pss_one (ps_for PassesOwn.never rfl (pi_range3 (by rfl) T.b_range (pa_cons (pe_op op_sub (pe_dget2 hu (pe_fld (pv 0) rfl) (pv 4) pe_int ⟨rfl, rfl, rfl, rfl⟩) pe_int) (pa_cons (pe_un un_neg pe_int) (pa_cons (pe_un un_neg pe_int) pa_nil)))) (pg_name (i := 6) sc_paths_of.nd rfl (Or.inl rfl))
          (pss_one (ps_expr (pe_bm PySem.F.plainAttrs_list PySem.F.slot_list_append PySem.F.type_list_append mt_append (pv 3) (pa_cons (pe_op op_catA (pv 5) (pe_tup (pa_cons (pv 6) pa_nil))) pa_nil)))))))))
      (pss_one (ps_ret (pv 2)))))), ?_⟩
    refine ⟨le_line (by decide), fun p hp => ?_⟩
    have s1 := (Same.refl H).upd_new (o := .lst []) hp
    refine ⟨le_line (by decide), fun e he => ?_⟩
    have s2 := s1.upd_new (o := .tup []) he
    have pn2 : (upd (upd H p (.lst [])) e (.tup [])) p = some (.lst []) := by rw [upd_ne (ne_of_none upd_same he)]; exact upd_same
    refine ⟨le_line (show 1 ≤ 100000 by decide), fun q hq => ?_⟩
    have s3 := s2.upd_new (o := .lst [.ref e]) hq
    have pq : p ≠ q := ne_of_none pn2 hq
    have eq : e ≠ q := ne_of_none upd_same hq
    have hpN : H p = none := hp
    have hqN : H q = none := by
      cases z : H q with
      | none => rfl
      | some o => rw [s2 _ _ z] at hq; cases hq
    refine ⟨_, rfl, t, rfl, ⟨_, (ht.same s3).sq⟩, for_it (walk_tup (xs := l.map V.str)) (fun i σ H' => ∃ (x y z : Option V) (ps ws : List Addr), σ = [some (.ref b), some (.ref t), some (.ref p), some (.ref q), x, y, z] ∧ Same H H' ∧
      H' p = some (.lst (ps.map V.ref)) ∧ H' q = some (.lst (ws.map V.ref)) ∧ TsAt pV H' ps ((List.range i).map (Mth.pth (wR rows) l)) ∧ TsAt pV H' ws (Mth.stk (wR rows) l i).reverse)
      ⟨none, none, none, [], [e], rfl, s3, by rw [upd_ne pq]; exact pn2, upd_same, TsAt.nil, ?_⟩ (fun i σ H' _ ⟨_, _, _, _, _, _, q, _⟩ => (ht.same q).sq) ?_ ?_⟩
    · exact TsAt.nil.snoc (q := []) (.of (by rw [upd_ne eq]; exact upd_same))
    · rintro i v σ H1 H2 hi ⟨x, y, z, ps, ws, rfl, s4, hP, hQ, tP, tQ⟩ ⟨rfl, hv⟩
      have hil : i < l.length := by rw [List.length_map] at hi; exact hi
      rw [List.getElem?_map, List.getElem?_eq_getElem hil] at hv
      cases hv
      obtain ⟨st, e1, e2⟩ := Mth.stk_step (wR rows) O.f hil
      have F := Mth.stk_len (wR rows) O.f i (Nat.le_of_lt hil)
      rw [e1, List.reverse_cons] at tQ
      obtain ⟨a, a1, a2, a3, a4⟩ := tQ.pop
      refine ⟨_, rfl, .inl ⟨rfl, _, SqL.of hQ⟩, q, _, _, rfl, rfl, hQ, (by rw [List.length_map, List.getElem?_map, a1]; rfl), ?_⟩
      have hqp : q ≠ p := pq.symm
      have hda : (ws.map V.ref).dropLast = ws.dropLast.map V.ref := (List.map_dropLast ..).symm
      rw [hda]
      have s5 := s4.upd_own (o := .lst (ws.dropLast.map V.ref)) hqN
      refine ⟨_, rfl, .inl ⟨rfl, _, SqL.of (by rw [upd_ne pq]; exact hP)⟩, _, rfl, p, _, _, rfl, rfl, (by rw [upd_ne pq]; exact hP), lt_line (by rw [List.length_map, tP.1, List.length_map, List.length_range]; omega), ?_⟩
      have s6 := s5.upd_own (o := .lst (ps.map V.ref ++ [V.ref a])) hpN
      obtain ⟨dx, r, kk, ww, rk, ts, h1, h2, h3, h4, h5, h6⟩ := hB.same s6
      have hkk := O.k _ (List.getElem_mem hil)
      obtain ⟨_, _, _, _, _, hw3⟩ := wR_mem R hkk
      refine ⟨_, rfl, b, C, dx, _, _, rfl, h1, B.cl, B.nW, lk_widths _ _ _ _, ww, rfl, .inl ⟨_, .inl h5⟩, _, rfl, _, DGet.k (k := .inr l[i]) h5, ?_⟩
      rw [val_wL R hkk]
      refine ⟨_, _, rfl, rfl, _, rfl, _, rfl, _, _, _, _, rfl, RgC.neg (by omega) (by omega) (by decide) (by decide), ?_⟩
      rw [show (((wR rows l[i] : Nat) : Int) - 1 - -1).toNat = wR rows l[i] by omega]
      have tk6 : TQ H2 (upd (upd H2 q (.lst (ws.dropLast.map V.ref))) p (.lst (ps.map V.ref ++ [V.ref a]))) := (TQ.lst hQ).trans (TQ.lst (ys := ps.map V.ref) (by rw [upd_ne pq]; exact hP))
      refine for_rangeC (fun j σ H' => ∃ (z : Option V) (ws : List Addr), σ = [some (.ref b), some (.ref t), some (.ref p), some (.ref q), some (.str l[i]), some (.ref a), z] ∧ Same H H' ∧
        H' p = some (.lst ((ps ++ [a]).map V.ref)) ∧ H' q = some (.lst (ws.map V.ref)) ∧ TsAt pV H' (ps ++ [a]) ((List.range (i + 1)).map (Mth.pth (wR rows) l)) ∧ TsAt pV H' ws (st.reverse ++ ((Mth.kids (Mth.pth (wR rows) l i) (wR rows l[i])).drop (wR rows l[i] - j)).reverse) ∧ Tq H' a (pV (Mth.pth (wR rows) l i))) ?_ ?_ ?_
      · refine ⟨z, ws.dropLast, rfl, s6, by rw [upd_same, List.map_append]; rfl, by rw [upd_ne hqp, upd_same], ?_, ?_, tk6 _ _ a3⟩
        · rw [List.range_succ, List.map_append]
          exact (tP.keep tk6).snoc (tk6 _ _ a3)
        · rw [Nat.sub_zero, List.drop_of_length_le (by rw [Mth.kids_len]; exact Nat.le_refl _), List.reverse_nil, List.append_nil]
          exact a2.keep tk6
      · rintro j σ H3 hj ⟨z, ws, rfl, s7, hP3, hQ3, tP3, tQ3, a3'⟩
        refine ⟨_, rfl, .inl ⟨rfl, _, SqL.of hQ3⟩, _, rfl, _, rfl, le_line (show 1 ≤ 100000 by decide), fun u hu1 => ?_⟩
        have na : a ≠ u := a3'.ne_none hu1
        have nq : q ≠ u := ne_of_none hQ3 hu1
        have np : p ≠ u := ne_of_none hP3 hu1
        have hdep := Mth.pth_dep (wR rows) O.f hil
        refine catA_of (TQ.new hu1 _ _ a3') (.of upd_same) (by unfold pV; rw [List.length_map, List.length_singleton]; omega) (fun c H4 s8 hc => ?_)
        have s9 := (Same.refl H3).upd_new (o := .tup [V.int (((wR rows l[i] : Nat) : Int) - 1 + ((j : Nat) : Int) * -1)]) hu1
        have s10 := s9.trans s8
        have hle := Mth.stk_le (wR rows) O.f (i := i + 1) hil
        rw [e2, List.length_append, Mth.kids_len] at hle
        refine ⟨q, _, _, rfl, rfl, s10 _ _ hQ3, ?_, ?_⟩
        · rw [List.length_map, tQ3.1, List.length_append, List.length_reverse, List.length_reverse, List.length_drop, Mth.kids_len]
          exact lt_line (by omega)
        have tk10 : TQ H3 (upd H4 q (.lst (ws.map V.ref ++ [V.ref c]))) := (TQ.of_same s10).trans (TQ.lst (s10 _ _ hQ3))
        refine ⟨_, ws ++ [c], rfl, (s7.trans s10).upd_own hqN, by rw [upd_ne pq]; exact s10 _ _ hP3, by rw [upd_same, List.map_append]; rfl, ?_, ?_, ?_⟩
        · exact tP3.keep tk10
        · rw [Mth.kids_drop _ hj, List.reverse_cons, ← List.append_assoc]
          refine (tQ3.keep tk10).snoc ?_
          refine TQ.lst (s10 _ _ hQ3) _ _ ?_
          have hc2 := hc
          rw [show ((wR rows l[i] : Nat) : Int) - 1 + ((j : Nat) : Int) * -1 = ((wR rows l[i] - 1 - j : Nat) : Int) by omega] at hc2
          unfold pV at hc2 ⊢
          rw [List.map_append]
          exact hc2
        · exact tk10 _ _ a3'
      · rintro σ H3 ⟨z, ws, rfl, s7, hP3, hQ3, tP3, tQ3, a3'⟩
        refine ⟨_, _, _, _, ws, rfl, s7, hP3, hQ3, tP3, ?_⟩
        rw [Nat.sub_self, List.drop_zero, ← List.reverse_append, ← e2] at tQ3
        exact tQ3
    · rintro σ H1 ⟨x, y, z, ps, ws, rfl, s4, hP, hQ, tP, tQ⟩
      refine ⟨_, rfl, k _ _ s4 hpN ⟨ps, hP, ?_⟩⟩
      rw [List.length_map] at tP
      exact tP
end
end Sh
end
section
set_option Elab.async false
set_option linter.all false
set_option maxRecDepth 100000
set_option maxHeartbeats 2000000
set_option autoImplicit false
namespace Mth
def tall {α : Type} (w : α → Nat) (l : List α) : Nat → Nat
  | 0 => 0
  | i + 1 => max (tall w l i) ((pth w l i).length + 1)
/-- the branch at a place -/
def cut {α : Type} (w : α → Nat) (l : List α) (a : Nat) : List α := (l.drop a).take (nxs w l a 1 - a)
def brs {α : Type} (w : α → Nat) (l : List α) (p n : Nat) : List (List α) := (List.range n).map fun c => cut w l (nxs w l (p + 1) c)
theorem brs_succ {α : Type} (w : α → Nat) (l : List α) (p n : Nat) : brs w l p (n + 1) = brs w l p n ++ [cut w l (nxs w l (p + 1) n)] := by
  simp [brs, List.range_succ]
def wd {α : Type} (w : α → Nat) (l : List α) (p : Nat) : Nat := match l[p]? with
  | some k => w k
  | none => 0
theorem wd_of {α : Type} (w : α → Nat) {l : List α} {p : Nat} (h : p < l.length) : wd w l p = w l[p] := by
  unfold wd
  rw [List.getElem?_eq_getElem h]
theorem brs_len {α : Type} (w : α → Nat) (l : List α) (p n : Nat) : (brs w l p n).length = n := by simp [brs]
theorem kids_lens (p : List Nat) (n : Nat) : ((kids p n).reverse.map fun p => ((p.length + 1 : Nat) : Int)) = List.replicate n ((p.length + 2 : Nat) : Int) := by
  refine List.eq_replicate_iff.mpr ⟨by rw [List.length_map, List.length_reverse, kids_len], fun b hb => ?_⟩
  obtain ⟨q, hq, rfl⟩ := List.mem_map.mp hb
  unfold kids at hq
  obtain ⟨a, _, rfl⟩ := List.mem_map.mp (List.mem_reverse.mp hq)
  rw [List.length_append]
  rfl
end Mth
namespace Sh
open PySem PySem.Spec PyProof.Rows L2
open C8 (pss_cut tCut)
open Evl (ixN_nat)
theorem valV_rk {ns : List Str} (nd : ns.Nodup) {j : Nat} (h : j < ns.length) : valV (rkL ns) (.inr ns[j]) = some (.int ((j : Nat) : Int)) := by
  unfold valV rkL
  rw [List.find?_map]
  have e : ((fun kv : Key × V => decide (kv.1 = Sum.inr ns[j])) ∘ fun q : Str × Nat => ((.inr q.1 : Key), V.int ((q.2 : Nat) : Int))) = fun q => decide (q.1 = ns[j]) := by
    funext q
    exact key_rr q.1 _
  rw [e]
  have hm : (ns[j], j) ∈ ns.zipIdx := by
    rw [List.mem_iff_getElem?]
    exact ⟨j, by rw [List.getElem?_zipIdx, List.getElem?_eq_getElem h]; simp⟩
  cases hf : ns.zipIdx.find? (fun q => decide (q.1 = ns[j])) with
  | none => exact absurd (List.find?_eq_none.mp hf _ hm) (by simp)
  | some q =>
    have h1 := List.mem_of_find?_eq_some hf
    have h2 : q.1 = ns[j] := by simpa using List.find?_some hf
    obtain ⟨i, hi, ei⟩ := List.mem_iff_getElem.mp h1
    rw [List.getElem_zipIdx] at ei
    rw [List.length_zipIdx] at hi
    rw [← ei] at h2
    have h3 := (List.getElem_inj nd).mp h2
    subst h3
    rw [← ei]
    simp
/-- the ranks of a plant's knots -/
def RanksOf (ns : List Str) (l : List Str) (ks : List Int) : Prop := ks.length = l.length ∧ ∀ (i : Nat) (z : Str), l[i]? = some z → ∃ j : Nat, ns[j]? = some z ∧ ks[i]? = some ((j : Nat) : Int)
theorem RanksOf.uniq {ns l : List Str} (nd : ns.Nodup) {ks ks' : List Int} (x : RanksOf ns l ks) (y : RanksOf ns l ks') : ks = ks' := by
  refine List.ext_getElem? fun i => ?_
  by_cases h : i < l.length
  · obtain ⟨j, a, b⟩ := x.2 i _ (List.getElem?_eq_getElem h)
    obtain ⟨j', a', b'⟩ := y.2 i _ (List.getElem?_eq_getElem h)
    obtain ⟨hj, ej⟩ := List.getElem?_eq_some_iff.mp a
    obtain ⟨hj', ej'⟩ := List.getElem?_eq_some_iff.mp a'
    have := (List.getElem_inj nd).mp (ej.trans ej'.symm)
    subst this
    rw [b, b']
  · have a := x.1
    have b := y.1
    rw [List.getElem?_eq_none (by omega), List.getElem?_eq_none (by omega)]
theorem RanksOf.snoc {ns l : List Str} {ks : List Int} {i j : Nat} {z : Str} (x : RanksOf ns (l.take i) ks) (h : l[i]? = some z) (hj : ns[j]? = some z) : RanksOf ns (l.take (i + 1)) (ks ++ [((j : Nat) : Int)]) := by
  have hi := lt_of_get h
  have hk : ks.length = i := by rw [x.1, List.length_take]; omega
  refine ⟨by rw [List.length_append, hk, List.length_take]; simp; omega, fun k u hu => ?_⟩
  rw [← take_snoc h] at hu
  by_cases e : k < i
  · rw [List.getElem?_append_left (by rw [List.length_take]; omega)] at hu
    obtain ⟨j', a, b⟩ := x.2 k u hu
    exact ⟨j', a, by rw [List.getElem?_append_left (by omega)]; exact b⟩
  · have hlt := lt_of_get hu
    rw [List.length_append, List.length_take] at hlt
    have ek : k = i := by simp at hlt; omega
    subst ek
    rw [List.getElem?_append_right (by rw [List.length_take]; omega), List.length_take] at hu
    rw [show k - min k l.length = 0 by omega] at hu
    cases hu
    exact ⟨j, hj, by rw [List.getElem?_append_right (by omega), hk, Nat.sub_self]; rfl⟩
def spPlantI (C : Addr) (f : List Row → List Str → Int) : Sp := fun vs H Q _ => ∃ (b t : Addr) (rows : List Row) (l : List Str), vs = [.ref b, .ref t] ∧ BedAt C H b rows ∧ ROk 8 rows ∧ Tq H t (l.map V.str) ∧ PlantOk rows l ∧ ∀ H', Same H H' → Q (.int (f rows l)) H'
def spPlantR (C : Addr) (f : List Row → List Str → Hp → Addr → Prop) : Sp := fun vs H Q _ => ∃ (b t : Addr) (rows : List Row) (l : List Str), vs = [.ref b, .ref t] ∧ BedAt C H b rows ∧ ROk 8 rows ∧ Tq H t (l.map V.str) ∧ PlantOk rows l ∧ ∀ H' q, Same H H' → f rows l H' q → Q (.ref q) H'
def spPlantZ (C : Addr) (f : List Row → List Str → Hp → Addr → Prop) : Sp := fun vs H Q _ => ∃ (b t : Addr) (rows : List Row) (l : List Str), vs = [.ref b, .ref t] ∧ BedAt C H b rows ∧ ROk 8 rows ∧ Tz H t (l.map V.str) ∧ PlantOk rows l ∧ ∀ H' q, Same H H' → f rows l H' q → Q (.ref q) H'
def KeyAt (rows : List Row) (l : List Str) (H : Hp) (q : Addr) : Prop := ∃ u ks, H q = some (.tup [.int ((l.length : Nat) : Int), .ref u]) ∧ H u = some (.tup (ks.map V.int)) ∧ RanksOf (rows.map (·.1)) l ks
def CntAt (rows : List Row) (l : List Str) (H : Hp) (q : Addr) : Prop := H q = some (.tup ((rows.map fun r => ((l.count r.1 : Nat) : Int)).map V.int))
def PthsAt (rows : List Row) (l : List Str) (H : Hp) (q : Addr) : Prop := ∃ ts, H q = some (.tup (ts.map V.ref)) ∧ TsAt pV H ts ((List.range l.length).map (Mth.pth (wR rows) l))
def sV (l : List Str) : List V := l.map V.str
def BrsAt (rows : List Row) (l : List Str) (H : Hp) (q : Addr) : Prop := ∃ ts, H q = some (.tup (ts.map V.ref)) ∧ TsAt sV H ts (Mth.brs (wR rows) l 0 (Mth.wd (wR rows) l 0))
def spLawPaths : Sp := fun vs H Q _ => ∃ (r t e : Addr) (rows : List Row) (l : List Str), vs = [.ref r, .ref t, .ref e] ∧ RowsAt H r rows ∧ ROk 8 rows ∧ Tq H t (l.map V.str) ∧ PlantOk rows l ∧ EndsAt H e rows l ∧ ∀ H' q, Same H H' → PthsAt rows l H' q → Q (.ref q) H'
abbrev s_plant_key : Stmt := top 23
abbrev N_plant_key : List Str := ["bed", "plant", "kind"]
theorem sc_plant_key : FnScope N_plant_key ["bed", "plant"] (defScope s_plant_key) := ⟨rfl, rfl, rfl, by decide +kernel, rfl, by decide +kernel, by decide +kernel⟩
abbrev s_levels_in : Stmt := top 19
abbrev N_levels_in : List Str := ["bed", "tree", "best", "levels", "entry", "level", "_"]
theorem sc_levels_in : FnScope N_levels_in ["bed", "tree"] (defScope s_levels_in) := ⟨rfl, rfl, rfl, by decide +kernel, rfl, by decide +kernel, by decide +kernel⟩
abbrev s_height : Stmt := top 24
abbrev N_height : List Str := ["bed", "plant"]
theorem sc_height : FnScope N_height ["bed", "plant"] (defScope s_height) := ⟨rfl, rfl, rfl, by decide +kernel, rfl, by decide +kernel, by decide +kernel⟩
abbrev s_counted : Stmt := top 25
abbrev N_counted : List Str := ["bed", "plant", "kind"]
theorem sc_counted : FnScope N_counted ["bed", "plant"] (defScope s_counted) := ⟨rfl, rfl, rfl, by decide +kernel, rfl, by decide +kernel, by decide +kernel⟩
abbrev s_branches_of : Stmt := top 26
abbrev N_branches_of : List Str := ["bed", "plant", "ends", "start"]
theorem sc_branches_of : FnScope N_branches_of ["bed", "plant"] (defScope s_branches_of) := ⟨rfl, rfl, rfl, by decide +kernel, rfl, by decide +kernel, by decide +kernel⟩
abbrev s_paths : Stmt := top 28
abbrev N_paths : List Str := ["bed", "plant"]
theorem sc_paths : FnScope N_paths ["bed", "plant"] (defScope s_paths) := ⟨rfl, rfl, rfl, by decide +kernel, rfl, by decide +kernel, by decide +kernel⟩
section
variable {P : Program} {w : World} {K : PySem.W.Frag} {mg : Str → Option Value} {base : Heap} {C CT : Addr}
theorem ok_law_ends (T : Bl mg) (c_law_number : DefOk P w K mg base CX0 1 "_law_number" spNumber) (D : Def0 K mg "_law_ends" s_law_ends) : DefOk P w K mg base CX0 2 "_law_ends" spLawEnds := by
  refine D.ok sc_law_ends (fun vs H Q E h => ?_) (fun _ _ _ _ _ _ us hl => match us, hl with | [_, _], _ => rfl) (fun f cdv A outer s H vs Q E hr h => ?_)
  · obtain ⟨r, t, rows, l, rfl, _⟩ := h
    rfl
  · obtain ⟨r, t, rows, l, rfl, hR, R, ht, O, k⟩ := h
    have hsz := O.sz
    refine ⟨_, (pss_cons (ps_set (i := 2) sc_law_ends.nd rfl (Or.inl rfl) (pe_op op_rep (pe_lst (pa_cons pe_int pa_nil)) (pe_callB call_len_seq (by rfl) T.b_len boot_len (pa_cons (pv 1) pa_nil))))
      (pss_cons (ps_for PassesOwn.never rfl (pi_range1 (by rfl) T.b_range (pa_cons (pe_callB call_len_seq (by rfl) T.b_len boot_len (pa_cons (pv 1) pa_nil)) pa_nil)) (pg_name (i := 3) sc_law_ends.nd rfl (Or.inl rfl))
        (pss_cons (ps_set (i := 4) sc_law_ends.nd rfl (Or.inl rfl) (pe_op op_sub (pe_op op_sub (pe_callB call_len_seq (by rfl) T.b_len boot_len (pa_cons (pv 1) pa_nil)) pe_int) (pv 3)))
        (pss_cons (ps_set (i := 5) sc_law_ends.nd rfl (Or.inl rfl) (pe_op op_add (pv 4) pe_int))
        (pss_cons (ps_for PassesOwn.never rfl (pi_range1 (by rfl) T.b_range (pa_cons (pe_d c_law_number (hr.mono (by decide)) pass0 (pa_cons (pv 0) (pa_cons (pe_ix ix_tup (pv 1) (pv 4) (fun _ _ => rfl)) pa_nil))) pa_nil)) (pg_name (i := 6) sc_law_ends.nd rfl (Or.inl rfl))
          (pss_one (ps_set (i := 5) sc_law_ends.nd rfl (Or.inl rfl) (pe_ix ix_list (pv 2) (pv 5) (fun _ _ => rfl)))))
        (pss_one (ps_asg (pv 5) (pg_sub (pv 2) (pv 4) set_list)))))))
      (pss_one (ps_ret (pv 2))))), ?_⟩
    refine ⟨le_line (show 1 ≤ 100000 by decide), fun L hL => ?_⟩
    have s1 := (Same.refl H).upd_new (o := .lst [.int 0]) hL
    refine ⟨_, rfl, t, _, rfl, .inr ((ht.same s1).sq), _, _, _, rfl, rfl, upd_same, ?_, ?_, ?_, fun D hD => ?_⟩
    · omega
    · rw [List.length_map]
      omega
    · rw [List.length_map, Int.toNat_natCast]
      exact le_line (show 1 * l.length ≤ 100000 by omega)
    · have hLn : H L = none := hL
      have hDn : H D = none := by
        cases z : H D with
        | none => rfl
        | some o => rw [s1 _ _ z] at hD; cases hD
      have s2 := s1.upd_new (o := .lst (List.replicate (((l.map V.str).length : Nat) : Int).toNat [V.int 0]).flatten) hD
      have e0 : (List.replicate (((l.map V.str).length : Nat) : Int).toNat [V.int 0]).flatten = (List.replicate l.length (0 : Int)).map V.int := by
        rw [List.length_map, Int.toNat_natCast, List.map_replicate, List.flatten_replicate_singleton]
      refine ⟨_, rfl, t, _, rfl, .inr (ht.same s2).sq, _, rfl, by rw [List.length_map]; omega, by rw [List.length_map]; omega, ?_⟩
      rw [show (((l.map V.str).length : Nat) : Int).toNat = l.length by rw [List.length_map, Int.toNat_natCast]]
      rw [show (((l.map V.str).length : Nat) : Int).toNat = l.length by rw [List.length_map, Int.toNat_natCast]] at e0 s2
      refine for_range (fun i σ H' => ∃ (x y z u : Option V) (es : List Int), σ = [some (.ref r), some (.ref t), some (.ref D), x, y, z, u] ∧ Same H H' ∧ H' D = some (.lst (es.map V.int)) ∧ es.length = l.length ∧ ∀ j, l.length - i ≤ j → j < l.length → es[j]? = some ((Mth.nxs (wR rows) l j 1 : Nat) : Int)) ?_ ?_ ?_
      · exact ⟨none, none, none, none, _, rfl, s2, by rw [upd_same, e0], List.length_replicate, fun j h1 h2 => absurd h1 (by omega)⟩
      · rintro i σ H2 hi ⟨x, y, z, u, es, rfl, s3, p2, el, eh⟩
        generalize hp : l.length - 1 - i = p
        have hpl : p < l.length := by omega
        have epl : (((l.map V.str).length : Nat) : Int) - 1 - (0 + ((i : Nat) : Int)) = ((p : Nat) : Int) := by rw [List.length_map]; omega
        have hk : l[p]? = some l[p] := List.getElem?_eq_getElem hpl
        have hkk := O.k _ (List.getElem_mem hpl)
        refine ⟨_, rfl, t, _, rfl, .inr (ht.same s3).sq, _, _, rfl, rfl, _, rfl, _, _, rfl, rfl, ?_⟩
        dsimp only
        rw [epl]
        refine ⟨_, rfl, _, _, rfl, rfl, ?_⟩
        obtain ⟨_, _, _, _, _, hw3⟩ := wR_mem R hkk
        refine ⟨_, rfl, _, rfl, _, rfl, t, _, _, _, rfl, rfl, (ht.same s3).sq, str_at hpl rfl, r, rows, l[p], rfl, hR.same s3, R, hkk, _, rfl, (show -(2 ^ 62) ≤ ((wR rows l[p] : Nat) : Int) by omega), (show ((wR rows l[p] : Nat) : Int) < 2 ^ 62 by omega), ?_⟩
        rw [Int.toNat_natCast]
        refine for_range (fun i2 σ H' => ∃ (z : Option V), σ = [some (.ref r), some (.ref t), some (.ref D), some (.int (0 + ((i : Nat) : Int))), some (.int ((p : Nat) : Int)), some (.int ((Mth.nxs (wR rows) l (p + 1) i2 : Nat) : Int)), z] ∧ H' = H2) ?_ ?_ ?_
        · refine ⟨u, ?_, rfl⟩
          rw [Mth.nxs_zero _ hpl]
          rfl
        · rintro i2 σ H3 hi2 ⟨z, rfl, rfl⟩
          obtain ⟨m1, m2, m3⟩ := Mth.end_step (wR rows) O.f hk hi2
          refine ⟨_, rfl, _, rfl, D, _, _, _, rfl, rfl, SqL.of p2, int_at (eh _ (by omega) m1) rfl, ?_⟩
          rw [m3]
          exact ⟨_, rfl, rfl⟩
        · rintro σ H3 ⟨z, rfl, rfl⟩
          rw [Mth.end_last _ hk]
          refine ⟨_, rfl, _, rfl, _, rfl, D, _, _, p, rfl, rfl, p2, ixz (by rw [List.length_map, el]; exact hpl) rfl, ?_⟩
          refine ⟨_, _, _, _, es.set p ((Mth.nxs (wR rows) l p 1 : Nat) : Int), rfl, s3.upd_own hDn, by rw [upd_same, List.map_set], by rw [List.length_set]; exact el, fun j h1 h2 => ?_⟩
          by_cases e : j = p
          · subst e
            rw [List.getElem?_set_self (by omega)]
          · rw [List.getElem?_set_ne (Ne.symm e)]
            exact eh j (by omega) h2
      · rintro σ H2 ⟨x, y, z, u, es, rfl, s3, p2, el, eh⟩
        refine ⟨_, rfl, ?_⟩
        refine k _ _ s3 hDn ?_
        unfold EndsAt
        rw [← Mth.ends_of_get (wR rows) el (fun j hj => eh j (by omega) hj)]
        exact p2
theorem ok_plant_key (T : Bl mg) (B : BedT K C) (c_check_plant : DefOk P w K mg base CX0 3 "check_plant" (spCheck C)) (D : Def0 K mg "plant_key" s_plant_key) : DefOk P w K mg base CX0 4 "plant_key" (spPlantR C KeyAt) := by
  refine D.ok sc_plant_key (fun vs H Q E h => ?_) (fun _ _ _ _ _ _ us hl => match us, hl with | [_, _], _ => rfl) (fun f cdv A outer s H vs Q E hr h => ?_)
  · obtain ⟨b, t, rows, l, rfl, _⟩ := h
    rfl
  · obtain ⟨b, t, rows, l, rfl, hB, R, ht, O, k⟩ := h
    have hu := hu_of hr
    have hsz := O.sz
    refine ⟨_, (pss_cons (ps_expr (pe_d c_check_plant (hr.mono (by decide)) pass0 (pa_cons (pv 0) (pa_cons (pv 1) pa_nil))))
      (pss_one (ps_ret (pe_tup (pa_cons (pe_callB call_len_seq (by rfl) T.b_len boot_len (pa_cons (pv 1) pa_nil)) (pa_cons (pe_callTy call_tuple_of (by rfl) T.b_tuple (by decide +kernel) (pa_cons (pe_lc (own := [("kind", 2)]) (g := (gName 2)) (tt := tYes) rfl sc_plant_key.nd (pi_tup (pv 1)) (blkOk_by (N := N_plant_key) (sc := defScope s_plant_key) (by decide +kernel)) (fun _ _ _ _ _ => (pg_name (i := 2) sc_plant_key.nd rfl (Or.inl rfl))) (fun _ _ _ _ _ => pts_nil) (fun _ _ _ _ _ => (pe_dget hu (show PE _ _ (tFld K _ _) from pe_fld (pv 0) rfl) (pv 2) (fun _ _ => rfl)))) pa_nil)) pa_nil)))))), ?_⟩
    refine ⟨_, rfl, _, rfl, b, t, rows, l, rfl, hB, R, ht, O, fun H1 s1 => ?_⟩
    refine ⟨_, rfl, t, _, rfl, .inr ((ht.same s1).sq), _, rfl, t, rfl, ⟨_, (ht.same s1).sq⟩, fun D hD => lc_it (walk_tup (xs := l.map V.str)) (fun i H' => Same H1 H' ∧ ∃ ks, H' D = some (.lst (ks.map V.int)) ∧ RanksOf (rows.map (·.1)) (l.take i) ks) ⟨(Same.refl H1).upd_new hD, [], upd_same, rfl, fun i z h => by simp at h⟩ (fun i H' _ ⟨q, _⟩ => ((ht.same s1).same q).sq) ?_ ?_⟩
    · rintro i v H2 H3 hi ⟨s2, ks, q1, q2⟩ ⟨rfl, hv⟩
      have hil : i < l.length := by rw [List.length_map] at hi; exact hi
      rw [List.getElem?_map, List.getElem?_eq_getElem hil] at hv
      cases hv
      obtain ⟨dx, r, kk, ww, rk, ts, h1, h2, h3, h4, h5, h6⟩ := (hB.same s1).same s2
      obtain ⟨q, hq, eq⟩ := O.k _ (List.getElem_mem hil)
      obtain ⟨j, hj, ej⟩ := List.mem_iff_getElem.mp (List.mem_map_of_mem (f := (·.1)) hq)
      have hjz : (rows.map (·.1))[j]? = some l[i] := by rw [List.getElem?_eq_getElem hj, ej, eq]
      refine ⟨rfl, _, rfl, b, C, dx, _, _, rfl, h1, B.cl, B.nRk, lk_ranks _ _ _ _, _, rfl, rk, .int ((j : Nat) : Int), rfl, ?_, ?_⟩
      · rw [← valV_rk R.nd hj, ej, eq]
        exact DGet.k (k := .inr l[i]) h6
      · refine ⟨_, q1, ?_, s2.upd_own hD, ks ++ [((j : Nat) : Int)], by rw [upd_same, List.map_append]; rfl, q2.snoc (List.getElem?_eq_getElem hil) hjz⟩
        have := q2.1
        rw [List.length_take] at this
        rw [List.length_map]
        exact lt_line (by omega)
    · rintro H2 ⟨s2, ks, q1, q2⟩
      rw [List.length_map, List.take_length] at q2
      refine ⟨D, _, rfl, .inl ⟨SqL.of q1, fun u hu1 => ?_⟩⟩
      have s3 := (s1.trans s2).upd_new (o := .tup (ks.map V.int)) hu1
      refine ⟨le_line (show 2 ≤ 100000 by decide), fun q hq => k _ q (s3.upd_new hq) ⟨u, ks, ?_, ?_, q2⟩⟩
      · rw [upd_same, List.length_map]
      · rw [upd_ne (ne_of_none upd_same hq)]
        exact upd_same
theorem ok_levels_in (T : Bl mg) (B : BedT K C) (D : Def0 K mg "levels_in" s_levels_in) : DefOk P w K mg base CX0 1 "levels_in" (spPlantI C fun rows l => ((Mth.tall (wR rows) l l.length : Nat) : Int)) := by
  refine D.ok sc_levels_in (fun vs H Q E h => ?_) (fun _ _ _ _ _ _ us hl => match us, hl with | [_, _], _ => rfl) (fun f cdv A outer s H vs Q E hr h => ?_)
  · obtain ⟨b, t, rows, l, rfl, _⟩ := h
    rfl
  · obtain ⟨b, t, rows, l, rfl, hB, R, ht, O, k⟩ := h
    have hu := hu_of hr
    have hsz := O.sz
    refine ⟨_, (pss_cons (ps_set (i := 2) sc_levels_in.nd rfl (Or.inl rfl) pe_int)
      (pss_cons (ps_set (i := 3) sc_levels_in.nd rfl (Or.inl rfl) (pe_lst (pa_cons pe_int pa_nil)))
      (pss_cons (ps_for PassesOwn.never rfl (pi_tup (pv 1)) (pg_name (i := 4) sc_levels_in.nd rfl (Or.inl rfl))
        (pss_cons (ps_set (i := 5) sc_levels_in.nd rfl (Or.inl rfl) (pe_bm0 PySem.F.plainAttrs_list PySem.F.slot_list_pop PySem.F.type_list_pop mt_pop (pv 3)))
        (pss_cons (ps_set (i := 2) sc_levels_in.nd rfl (Or.inl rfl) (pe_callB (call_max2 rfl) (by rfl) T.b_max (by decide +kernel) (pa_cons (pv 2) (pa_cons (pv 5) pa_nil))))
        (pss_one (ps_for PassesOwn.never rfl (pi_range1 (by rfl) T.b_range (pa_cons (pe_dget2 hu (pe_fld (pv 0) rfl) (pv 4) pe_int ⟨rfl, rfl, rfl, rfl⟩) pa_nil)) (pg_name (i := 6) sc_levels_in.nd rfl (Or.inl rfl))
          (pss_one (ps_expr (pe_bm PySem.F.plainAttrs_list PySem.F.slot_list_append PySem.F.type_list_append mt_append (pv 3) (pa_cons (pe_op op_add (pv 5) pe_int) pa_nil)))))))))
      (pss_one (ps_ret (pv 2)))))), ?_⟩
    refine ⟨le_line (show 1 ≤ 100000 by decide), fun q hq => ?_⟩
    have s2 := (Same.refl H).upd_new (o := .lst [.int 1]) hq
    have hqN := hq
    refine ⟨_, rfl, t, rfl, ⟨_, (ht.same s2).sq⟩, for_it (walk_tup (xs := l.map V.str)) (fun i σ H' => ∃ (x y z : Option V), σ = [some (.ref b), some (.ref t), some (.int ((Mth.tall (wR rows) l i : Nat) : Int)), some (.ref q), x, y, z] ∧ Same H H' ∧
      H' q = some (.lst (((Mth.stk (wR rows) l i).reverse.map fun p => ((p.length + 1 : Nat) : Int)).map V.int)))
      ⟨none, none, none, rfl, s2, upd_same⟩ (fun i σ H' _ ⟨_, _, _, _, q, _⟩ => (ht.same q).sq) ?_ ?_⟩
    · rintro i v σ H2 H3 hi ⟨x, y, z, rfl, s3, q3⟩ ⟨rfl, hv⟩
      have hil : i < l.length := by rw [List.length_map] at hi; exact hi
      rw [List.getElem?_map, List.getElem?_eq_getElem hil] at hv
      cases hv
      obtain ⟨st, e1, e2⟩ := Mth.stk_step (wR rows) O.f hil
      rw [e1, List.reverse_cons, List.map_append, List.map_append] at q3
      refine ⟨_, rfl, .inl ⟨rfl, _, SqL.of q3⟩, q, _, _, rfl, rfl, q3, (by rw [List.length_append]; exact List.getElem?_concat_length), ?_⟩
      refine ⟨_, rfl, _, rfl, _, _, rfl, ?_⟩
      dsimp only
      rw [show (if (((Mth.pth (wR rows) l i).length + 1 : Nat) : Int) > ((Mth.tall (wR rows) l i : Nat) : Int) then (((Mth.pth (wR rows) l i).length + 1 : Nat) : Int) else ((Mth.tall (wR rows) l i : Nat) : Int)) = ((Mth.tall (wR rows) l (i + 1) : Nat) : Int) by
        show _ = ((max _ _ : Nat) : Int)
        split <;> omega]
      have hqN2 : ∀ o, Same H (upd H3 q o) := fun o => s3.upd_own hqN
      have edl : (((st.reverse.map fun p => ((p.length + 1 : Nat) : Int)).map V.int ++ List.map V.int (List.map (fun p : List Nat => ((p.length + 1 : Nat) : Int)) [Mth.pth (wR rows) l i])).dropLast) = (st.reverse.map fun p => ((p.length + 1 : Nat) : Int)).map V.int := by
        show (_ ++ [_]).dropLast = _
        rw [List.dropLast_concat]
      rw [edl]
      have s4 := hqN2 (.lst ((st.reverse.map fun p => ((p.length + 1 : Nat) : Int)).map V.int))
      obtain ⟨dx, r, kk, ww, rk, ts, h1, h2, h3, h4, h5, h6⟩ := hB.same s4
      have hkk := O.k _ (List.getElem_mem hil)
      obtain ⟨_, _, _, _, _, hw3⟩ := wR_mem R hkk
      have hle := Mth.stk_le (wR rows) O.f (i := i + 1) hil
      rw [e2, List.length_append, Mth.kids_len] at hle
      refine ⟨_, rfl, b, C, dx, _, _, rfl, h1, B.cl, B.nW, lk_widths _ _ _ _, ww, rfl, .inl ⟨_, .inl h5⟩, _, rfl, _, DGet.k (k := .inr l[i]) h5, ?_⟩
      rw [val_wL R hkk]
      refine ⟨_, rfl, (show -(2 ^ 62) ≤ ((wR rows l[i] : Nat) : Int) by omega), (show ((wR rows l[i] : Nat) : Int) < 2 ^ 62 by omega), ?_⟩
      rw [Int.toNat_natCast]
      refine for_range (fun j σ H' => ∃ (z : Option V), σ = [some (.ref b), some (.ref t), some (.int ((Mth.tall (wR rows) l (i + 1) : Nat) : Int)), some (.ref q), some (.str l[i]), some (.int (((Mth.pth (wR rows) l i).length + 1 : Nat) : Int)), z] ∧ Same H H' ∧
        H' q = some (.lst ((st.reverse.map (fun p => ((p.length + 1 : Nat) : Int)) ++ List.replicate j (((Mth.pth (wR rows) l i).length + 2 : Nat) : Int)).map V.int))) ?_ ?_ ?_
      · exact ⟨z, rfl, s4, by rw [upd_same, List.replicate_zero, List.append_nil]⟩
      · rintro j σ H4 hj ⟨z, rfl, s5, q5⟩
        refine ⟨_, rfl, .inl ⟨rfl, _, SqL.of q5⟩, _, rfl, _, _, rfl, rfl, q, _, _, rfl, rfl, q5, ?_, ?_⟩
        · rw [List.length_map, List.length_append, List.length_map, List.length_reverse, List.length_replicate]
          exact lt_line (by omega)
        · refine ⟨_, rfl, s5.upd_own hqN, ?_⟩
          rw [upd_same, List.replicate_succ', ← List.append_assoc, List.map_append (l₁ := _ ++ _)]
          rfl
      · rintro σ H4 ⟨z, rfl, s5, q5⟩
        refine ⟨_, _, _, rfl, s5, ?_⟩
        rw [q5, e2, List.reverse_append, List.map_append, List.map_append, Mth.kids_lens, List.map_append]
    · rintro σ H2 ⟨x, y, z, rfl, s3, q3⟩
      rw [List.length_map]
      exact ⟨_, rfl, k _ s3⟩
theorem ok_height (T : Bl mg) (B : BedT K C) (c_levels_in : DefOk P w K mg base CX0 1 "levels_in" (spPlantI C fun rows l => ((Mth.tall (wR rows) l l.length : Nat) : Int))) (c_check_plant : DefOk P w K mg base CX0 3 "check_plant" (spCheck C)) (D : Def0 K mg "height" s_height) : DefOk P w K mg base CX0 4 "height" (spPlantI C fun rows l => ((Mth.tall (wR rows) l l.length : Nat) : Int)) := by
  refine D.ok sc_height (fun vs H Q E h => ?_) (fun _ _ _ _ _ _ us hl => match us, hl with | [_, _], _ => rfl) (fun f cdv A outer s H vs Q E hr h => ?_)
  · obtain ⟨b, t, rows, l, rfl, _⟩ := h
    rfl
  · obtain ⟨b, t, rows, l, rfl, hB, R, ht, O, k⟩ := h
    refine ⟨_, (pss_cons (ps_expr (pe_d c_check_plant (hr.mono (by decide)) pass0 (pa_cons (pv 0) (pa_cons (pv 1) pa_nil))))
      (pss_one (ps_ret (pe_d c_levels_in (hr.mono (by decide)) pass0 (pa_cons (pv 0) (pa_cons (pv 1) pa_nil)))))), ?_⟩
    refine ⟨_, rfl, _, rfl, b, t, rows, l, rfl, hB, R, ht, O, fun H1 s1 => ?_⟩
    exact ⟨_, rfl, _, rfl, b, t, rows, l, rfl, hB.same s1, R, ht.same s1, O, fun H' s2 => k _ (s1.trans s2)⟩
theorem ok_counted (T : Bl mg) (B : BedT K C) (c_check_plant : DefOk P w K mg base CX0 3 "check_plant" (spCheck C)) (D : Def0 K mg "counted" s_counted) : DefOk P w K mg base CX0 4 "counted" (spPlantZ C CntAt) := by
  refine D.ok sc_counted (fun vs H Q E h => ?_) (fun _ _ _ _ _ _ us hl => match us, hl with | [_, _], _ => rfl) (fun f cdv A outer s H vs Q E hr h => ?_)
  · obtain ⟨b, t, rows, l, rfl, _⟩ := h
    rfl
  · obtain ⟨b, t, rows, l, rfl, hB, R, hz, O, k⟩ := h
    have ht := hz.q
    have hu := hu_of hr
    refine ⟨_, (pss_cons (ps_expr (pe_d c_check_plant (hr.mono (by decide)) pass0 (pa_cons (pv 0) (pa_cons (pv 1) pa_nil))))
      (pss_one (ps_ret (pe_callTy call_tuple_of (by rfl) T.b_tuple (by decide +kernel) (pa_cons (pe_lc (own := [("kind", 2)]) (g := (gName 2)) (tt := tYes) rfl sc_counted.nd (pi_tup (pe_fld (pv 0) rfl)) (blkOk_by (N := N_counted) (sc := defScope s_counted) (by decide +kernel)) (fun _ _ _ _ _ => (pg_name (i := 2) sc_counted.nd rfl (Or.inl rfl))) (fun _ _ _ _ _ => pts_nil) (fun _ _ _ _ _ => (pe_mG ty_Z PySem.F.plainAttrs_tuple PySem.F.slot_tuple_count PySem.F.type_tuple_count (show MtR _ _ (rCntT K) from mt_tcount) (pv 1) (pa_cons (pv 2) pa_nil)))) pa_nil))))), ?_⟩
    refine ⟨_, rfl, _, rfl, b, t, rows, l, rfl, hB, R, ht, O, fun H1 s1 => ?_⟩
    obtain ⟨dx, r, kk, ww, rk, ts, h1, h2, h3, h4, h5, h6⟩ := hB.same s1
    refine ⟨_, rfl, b, C, dx, _, _, rfl, h1, B.cl, B.nK, lk_kinds _ _ _ _, kk, rfl, ⟨_, SqT.of h4⟩, fun D hD => lc_it (walk_tup (xs := (rows.map (·.1)).map V.str)) (fun i H' => Same H1 H' ∧ H' D = some (.lst (((rows.take i).map fun r => ((l.count r.1 : Nat) : Int)).map V.int))) ⟨(Same.refl H1).upd_new hD, upd_same⟩ (fun i H' _ ⟨q, _⟩ => SqT.of (q _ _ h4)) ?_ ?_⟩
    · rintro i v H2 H3 hi ⟨s2, q2⟩ ⟨rfl, hv⟩
      have hir : i < rows.length := by rw [List.length_map, List.length_map] at hi; exact hi
      rw [List.getElem?_map, List.getElem?_map, List.getElem?_eq_getElem hir] at hv
      cases hv
      refine ⟨rfl, _, rfl, ⟨t, _, rfl, (hz.same s1).same s2⟩, _, rfl, t, l, _, rfl, rfl, ((ht.same s1).same s2).sq, ?_⟩
      have hrl := R.len
      refine ⟨_, q2, lt_line (by rw [List.length_map, List.length_map, List.length_take]; omega), s2.upd_own hD, ?_⟩
      rw [upd_same, ← take_snoc (List.getElem?_eq_getElem hir), List.map_append, List.map_append]
      rfl
    · rintro H2 ⟨s2, q2⟩
      rw [List.length_map, List.length_map, List.take_length] at q2
      exact ⟨D, _, rfl, .inl ⟨SqL.of q2, fun u hu1 => k _ u ((s1.trans s2).upd_new hu1) upd_same⟩⟩
theorem ok_paths (T : Bl mg) (c_check_plant : DefOk P w K mg base CX0 3 "check_plant" (spCheck C)) (c_paths_of : DefOk P w K mg base CX0 1 "paths_of" (spPaths C)) (D : Def0 K mg "paths" s_paths) : DefOk P w K mg base CX0 4 "paths" (spPlantR C PthsAt) := by
  refine D.ok sc_paths (fun vs H Q E h => ?_) (fun _ _ _ _ _ _ us hl => match us, hl with | [_, _], _ => rfl) (fun f cdv A outer s H vs Q E hr h => ?_)
  · obtain ⟨b, t, rows, l, rfl, _⟩ := h
    rfl
  · obtain ⟨b, t, rows, l, rfl, hB, R, ht, O, k⟩ := h
    refine ⟨_, (pss_cons (ps_expr (pe_d c_check_plant (hr.mono (by decide)) pass0 (pa_cons (pv 0) (pa_cons (pv 1) pa_nil))))
      (pss_one (ps_ret (pe_callTy call_tuple_of (by rfl) T.b_tuple (by decide +kernel) (pa_cons (pe_d c_paths_of (hr.mono (by decide)) pass0 (pa_cons (pv 0) (pa_cons (pv 1) pa_nil))) pa_nil))))), ?_⟩
    refine ⟨_, rfl, _, rfl, b, t, rows, l, rfl, hB, R, ht, O, fun H1 s1 => ?_⟩
    refine ⟨_, rfl, _, rfl, b, t, rows, l, rfl, hB.same s1, R, (ht.same s1), O, fun H2 q s2 hq ⟨ts, q1, q2⟩ => ?_⟩
    refine ⟨q, _, rfl, .inl ⟨SqL.of q1, fun u hu => k _ u ((s1.trans s2).upd_new hu) ⟨ts, upd_same, q2.keep (TQ.new hu)⟩⟩⟩
theorem ok_branches_of (T : Bl mg) (B : BedT K C) (c_check_plant : DefOk P w K mg base CX0 3 "check_plant" (spCheck C)) (c_ends_of : DefOk P w K mg base CX0 1 "ends_of" (spEnds C)) (c_starts_above : DefOk P w K mg base CX0 1 "starts_above" (spStarts C)) (D : Def0 K mg "branches_of" s_branches_of) : DefOk P w K mg base CX0 4 "branches_of" (spPlantR C BrsAt) := by
  refine D.ok sc_branches_of (fun vs H Q E h => ?_) (fun _ _ _ _ _ _ us hl => match us, hl with | [_, _], _ => rfl) (fun f cdv A outer s H vs Q E hr h => ?_)
  · obtain ⟨b, t, rows, l, rfl, _⟩ := h
    rfl
  · obtain ⟨b, t, rows, l, rfl, hB, R, ht, O, k⟩ := h
    have hsz := O.sz
    refine ⟨_, (pss_cons (ps_expr (pe_d c_check_plant (hr.mono (by decide)) pass0 (pa_cons (pv 0) (pa_cons (pv 1) pa_nil))))
      (pss_cons (ps_set (i := 2) sc_branches_of.nd rfl (Or.inr rfl) (pe_d c_ends_of (hr.mono (by decide)) pass0 (pa_cons (pv 0) (pa_cons (pv 1) pa_nil))))
      (pss_one (ps_ret (pe_callTy call_tuple_of (by rfl) T.b_tuple (by decide +kernel) (pa_cons (pe_lc (own := [("start", 3)]) (g := (gName 3)) (tt := tYes) rfl sc_branches_of.nd (pi_list (pe_d c_starts_above (hr.mono (by decide)) pass0 (pa_cons (pv 0) (pa_cons (pv 1) (pa_cons (pv 2) (pa_cons pe_int pa_nil)))))) (blkOk_by (N := N_branches_of) (sc := defScope s_branches_of) (by decide +kernel)) (fun _ _ _ _ _ => (pg_name (i := 3) sc_branches_of.nd rfl (Or.inl rfl))) (fun _ _ _ _ _ => pts_nil) (fun _ _ _ _ _ => (pe_slice (show SlR _ (rSlA K) from sl_tupA) (pv 1) (po_some (pv 3)) (po_some (pe_ix (show IxR _ (rIxL K) from ix_list) (pv 2) (pv 3) (fun _ _ => rfl)))))) pa_nil)))))), ?_⟩
    refine ⟨_, rfl, _, rfl, b, t, rows, l, rfl, hB, R, ht, O, fun H1 s1 => ?_⟩
    refine ⟨_, rfl, _, rfl, b, t, rows, l, rfl, hB.same s1, R, (ht.same s1), O, fun H2 e s2 _ he => ?_⟩
    have s3 := s1.trans s2
    refine ⟨_, rfl, _, rfl, _, rfl, b, t, e, 0, rows, l, O.pos, rfl, hB.same s3, R, (ht.same s3), O, he, fun H4 q s4 _ hq => ?_⟩
    have hp0 : 0 < l.length := O.pos
    refine ⟨q, rfl, ⟨_, SqL.of hq⟩, fun D hD => lc_it (walk_list (xs := (Mth.starts (wR rows) l 0 (wR rows l[0])).map V.int)) (fun i H' => Same H4 H' ∧ ∃ ts, H' D = some (.lst (ts.map V.ref)) ∧ TsAt sV H' ts (Mth.brs (wR rows) l 0 i)) ⟨(Same.refl H4).upd_new hD, [], upd_same, TsAt.nil⟩ (fun i H' _ ⟨q, _⟩ => SqL.of (q _ _ hq)) ?_ ?_⟩
    · rintro i v H5 H6 hi ⟨s5, ts, q5, t5⟩ ⟨rfl, hv⟩
      rw [List.length_map, Mth.starts_len] at hi
      rw [List.getElem?_map, Mth.starts_get _ _ _ hi] at hv
      cases hv
      obtain ⟨m1, m2, m3⟩ := Mth.end_step (wR rows) O.f (List.getElem?_eq_getElem hp0) hi
      have st := s3.trans (s4.trans s5)
      refine ⟨rfl, _, rfl, _, rfl, _, rfl, _, rfl, _, rfl, e, _, _, _, rfl, rfl, SqL.of ((s4.trans s5) _ _ he), int_at (Mth.ends_get (wR rows) m1) rfl, _, rfl, ?_⟩
      have hm : Mth.nxs (wR rows) l (0 + 1) i ≤ Mth.nxs (wR rows) l (Mth.nxs (wR rows) l (0 + 1) i) 1 := Mth.nxs_ge _ _ _ (Nat.le_of_lt m1)
      refine slA_of (ht.same st) (by rw [List.length_map]; exact Mth.nxs_le _ _ _ _) hm (fun c H7 s6 hc => ?_)
      have hDn : H4 D = none := hD
      have hD7 := s6 _ _ q5
      have tk : TQ H6 (upd H7 D (.lst (ts.map V.ref ++ [V.ref c]))) := (TQ.of_same s6).trans (TQ.lst hD7)
      refine ⟨_, hD7, ?_, (s5.trans s6).upd_own hDn, ts ++ [c], by rw [upd_same, List.map_append]; rfl, ?_⟩
      · rw [List.length_map, t5.1, Mth.brs_len]
        obtain ⟨_, _, _, _, _, hw3⟩ := wR_mem R (O.k _ (List.getElem_mem hp0))
        exact lt_line (by omega)
      · rw [Mth.brs_succ]
        refine (t5.keep tk).snoc (TQ.lst hD7 _ _ ?_)
        unfold sV Mth.cut
        rw [List.map_take, List.map_drop]
        exact hc
    · rintro H5 ⟨s5, ts, q5, t5⟩
      rw [List.length_map, Mth.starts_len] at t5
      refine ⟨D, _, rfl, .inl ⟨SqL.of q5, fun u hu1 => k _ u ((s3.trans (s4.trans s5)).upd_new hu1) ⟨ts, upd_same, ?_⟩⟩⟩
      rw [Mth.wd_of _ hp0]
      exact t5.keep (TQ.new hu1)
end
end Sh
end
section
set_option Elab.async false
set_option linter.all false
set_option maxRecDepth 100000
set_option maxHeartbeats 2000000
set_option autoImplicit false
namespace Mth
theorem nxs_inj {α : Type} (w : α → Nat) {l : List α} {i m a b : Nat} (h : Fst w l i m) (ha : a ≤ m) (hb : b ≤ m) (e : nxs w l i a = nxs w l i b) : a = b := by
  rcases Nat.lt_trichotomy a b with q | q | q
  · have := nxs_mono w h q hb
    omega
  · exact q
  · have := nxs_mono w h q ha
    omega
end Mth
namespace Sh
open PySem PySem.Spec PyProof.Rows L2
open C8 (pss_cut tCut)
open Evl (ixN_nat)
/-- the j-th of the found paths -/
def Fnd (H : Hp) (fs : List Addr) (j : Nat) (p : List Nat) : Prop := ∃ t, fs[j]? = some t ∧ Tq H t (pV p)
theorem Fnd.keep {H H' : Hp} {fs : List Addr} {j : Nat} {p : List Nat} (x : Fnd H fs j p) (k : TQ H H') : Fnd H' fs j p := by
  obtain ⟨t, a, b⟩ := x
  exact ⟨t, a, k _ _ b⟩
theorem Fnd.ne {H : Hp} {fs : List Addr} {j i : Nat} {c : Addr} {p : List Nat} (x : Fnd H fs j p) (h : i ≠ j) : Fnd H (fs.set i c) j p := by
  obtain ⟨t, a, b⟩ := x
  exact ⟨t, by rw [List.getElem?_set_ne h]; exact a, b⟩
abbrev s_law_paths : Stmt := top 52
abbrev N_law_paths : List Str := ["rows", "plant", "ends", "found", "place", "at", "k"]
theorem sc_law_paths : FnScope N_law_paths ["rows", "plant", "ends"] (defScope s_law_paths) := ⟨rfl, rfl, rfl, by decide +kernel, rfl, by decide +kernel, by decide +kernel⟩
section
variable {P : Program} {w : World} {K : PySem.W.Frag} {mg : Str → Option Value} {base : Heap} {C CT : Addr}
theorem ok_law_paths (T : Bl mg) (c_law_number : DefOk P w K mg base CX0 1 "_law_number" spNumber) (D : Def0 K mg "_law_paths" s_law_paths) : DefOk P w K mg base CX0 2 "_law_paths" spLawPaths := by
  refine D.ok sc_law_paths (fun vs H Q E h => ?_) (fun _ _ _ _ _ _ us hl => match us, hl with | [_, _, _], _ => rfl) (fun f cdv A outer s H vs Q E hr h => ?_)
  · obtain ⟨r, t, e, rows, l, rfl, _⟩ := h
    rfl
  · obtain ⟨r, t, e, rows, l, rfl, hR, R, ht, O, he, k⟩ := h
    have hsz := O.sz
    refine ⟨_, (pss_cons (ps_set (i := 3) sc_law_paths.nd rfl (Or.inl rfl) (pe_op op_rep (pe_lst (pa_cons (pe_tup pa_nil) pa_nil)) (pe_callB call_len_seq (by rfl) T.b_len boot_len (pa_cons (pv 1) pa_nil))))
      (pss_cons (ps_for PassesOwn.never rfl (pi_range1 (by rfl) T.b_range (pa_cons (pe_callB call_len_seq (by rfl) T.b_len boot_len (pa_cons (pv 1) pa_nil)) pa_nil)) (pg_name (i := 4) sc_law_paths.nd rfl (Or.inl rfl))
        (pss_cons (ps_set (i := 5) sc_law_paths.nd rfl (Or.inl rfl) (pe_op op_add (pv 4) pe_int))
        (pss_one (ps_for PassesOwn.never rfl (pi_range1 (by rfl) T.b_range (pa_cons (pe_d c_law_number (hr.mono (by decide)) pass0 (pa_cons (pv 0) (pa_cons (pe_ix ix_tup (pv 1) (pv 4) (fun _ _ => rfl)) pa_nil))) pa_nil)) (pg_name (i := 6) sc_law_paths.nd rfl (Or.inl rfl))
          (pss_cons (ps_asg (pe_op op_catA (pe_ix ix_list (pv 3) (pv 4) (fun _ _ => rfl)) (pe_tup (pa_cons (pv 6) pa_nil))) (pg_sub (pv 3) (pv 5) set_list))
          (pss_one (ps_set (i := 5) sc_law_paths.nd rfl (Or.inl rfl) (pe_ix ix_list (pv 2) (pv 5) (fun _ _ => rfl)))))))))
      (pss_one (ps_ret (pe_callTy call_tuple_of (by rfl) T.b_tuple (by decide +kernel) (pa_cons (pv 3) pa_nil)))))), ?_⟩
    refine ⟨le_line (show 0 ≤ 100000 by decide), fun e0 he0 => ?_⟩
    have s1 := (Same.refl H).upd_new (o := .tup []) he0
    refine ⟨le_line (show 1 ≤ 100000 by decide), fun L hL => ?_⟩
    have s2 := s1.upd_new (o := .lst [.ref e0]) hL
    refine ⟨_, rfl, t, _, rfl, .inr (ht.same s2).sq, _, _, _, rfl, rfl, upd_same, by omega, by rw [List.length_map]; omega, by rw [List.length_map, Int.toNat_natCast]; exact le_line (show 1 * l.length ≤ 100000 by omega), fun D hD => ?_⟩
    have hDn : H D = none := by
      cases z : H D with
      | none => rfl
      | some o => rw [s2 _ _ z] at hD; cases hD
    have hE : Tq (upd (upd H e0 (.tup [])) L (.lst [.ref e0])) e0 [] := TQ.new hL _ _ (.of upd_same)
    have e1 : (List.replicate (((l.map V.str).length : Nat) : Int).toNat [V.ref e0]).flatten = (List.replicate l.length e0).map V.ref := by
      rw [List.length_map, Int.toNat_natCast, List.map_replicate, List.flatten_replicate_singleton]
    rw [e1]
    have s3 := s2.upd_new (o := .lst ((List.replicate l.length e0).map V.ref)) hD
    have hE3 := TQ.new (o := .lst ((List.replicate l.length e0).map V.ref)) hD _ _ hE
    refine ⟨_, rfl, t, _, rfl, .inr (ht.same s3).sq, _, rfl, by rw [List.length_map]; omega, by rw [List.length_map]; omega, ?_⟩
    rw [show (((l.map V.str).length : Nat) : Int).toNat = l.length by rw [List.length_map, Int.toNat_natCast]]
    refine for_range (fun i σ H' => ∃ (x y z : Option V) (fs : List Addr), σ = [some (.ref r), some (.ref t), some (.ref e), some (.ref D), x, y, z] ∧ Same H H' ∧ H' D = some (.lst (fs.map V.ref)) ∧ fs.length = l.length ∧
      (∀ j, j < i → Fnd H' fs j (Mth.pth (wR rows) l j)) ∧ ∀ c p, (Mth.stk (wR rows) l i)[c]? = some p → Fnd H' fs (Mth.nxs (wR rows) l i c) p) ?_ ?_ ?_
    · refine ⟨none, none, none, _, rfl, s3, upd_same, List.length_replicate, fun j h => absurd h (Nat.not_lt_zero _), fun c p h => ?_⟩
      have hc : c = 0 := by
        have := lt_of_get h
        change c < 1 at this
        omega
      subst hc
      cases h
      rw [Mth.nxs_zero _ (Nat.zero_le _)]
      exact ⟨e0, by rw [List.getElem?_replicate, if_pos O.pos], hE3⟩
    · rintro p σ H2 hp ⟨x, y, z, fs, rfl, s4, p2, fl, f1, f2⟩
      have ez : (0 : Int) + ((p : Nat) : Int) = ((p : Nat) : Int) := by omega
      rw [ez]
      obtain ⟨st, st1, st2⟩ := Mth.stk_step (wR rows) O.f hp
      have F := Mth.stk_len (wR rows) O.f (p + 1) hp
      have hk : l[p]? = some l[p] := List.getElem?_eq_getElem hp
      have hkk := O.k _ (List.getElem_mem hp)
      obtain ⟨_, _, _, _, _, hw3⟩ := wR_mem R hkk
      have hfp : Fnd H2 fs p (Mth.pth (wR rows) l p) := by
        have q := f2 0 _ (by rw [st1]; rfl)
        rw [Mth.nxs_zero _ (Nat.le_of_lt hp)] at q
        exact q
      have hlen : (Mth.stk (wR rows) l (p + 1)).length = wR rows l[p] + st.length := by rw [st2, List.length_append, Mth.kids_len]
      refine ⟨_, rfl, _, _, rfl, rfl, ?_⟩
      refine ⟨_, rfl, _, rfl, _, rfl, t, _, _, _, rfl, rfl, (ht.same s4).sq, str_at hp rfl, r, rows, l[p], rfl, hR.same s4, R, hkk, _, rfl, (show -(2 ^ 62) ≤ ((wR rows l[p] : Nat) : Int) by omega), (show ((wR rows l[p] : Nat) : Int) < 2 ^ 62 by omega), ?_⟩
      rw [Int.toNat_natCast]
      refine for_range (fun c σ H' => ∃ (z : Option V) (fs : List Addr), σ = [some (.ref r), some (.ref t), some (.ref e), some (.ref D), some (.int ((p : Nat) : Int)), some (.int ((Mth.nxs (wR rows) l (p + 1) c : Nat) : Int)), z] ∧ Same H H' ∧ H' D = some (.lst (fs.map V.ref)) ∧ fs.length = l.length ∧
        (∀ j, j < p + 1 → Fnd H' fs j (Mth.pth (wR rows) l j)) ∧ ∀ c' q, (Mth.stk (wR rows) l (p + 1))[c']? = some q → (c' < c ∨ wR rows l[p] ≤ c') → Fnd H' fs (Mth.nxs (wR rows) l (p + 1) c') q) ?_ ?_ ?_
      · refine ⟨z, fs, ?_, s4, p2, fl, fun j h => ?_, fun c' q h1 h2 => ?_⟩
        · rw [Mth.nxs_zero _ hp]
          rfl
        · rcases Nat.lt_or_ge j p with h | h
          · exact f1 j h
          · have e : j = p := by omega
            subst e
            exact hfp
        · have h3 : wR rows l[p] ≤ c' := by omega
          rw [st2, List.getElem?_append_right (by rw [Mth.kids_len]; exact h3), Mth.kids_len] at h1
          have q1 := f2 (c' - wR rows l[p] + 1) q (by rw [st1]; exact h1)
          rw [Mth.nxs_in _ (m := 0) hk, show wR rows l[p] + (c' - wR rows l[p]) = c' by omega] at q1
          exact q1
      · rintro c σ H3 hc ⟨z, fs, rfl, s5, p3, fl3, g1, g2⟩
        obtain ⟨m1, m2, m3⟩ := Mth.end_step (wR rows) O.f hk hc
        obtain ⟨u, u1, u2⟩ := g1 p (Nat.lt_succ_self p)
        have hdep := Mth.pth_dep (wR rows) O.f hp
        refine ⟨_, rfl, _, rfl, D, _, _, _, rfl, rfl, SqL.of p3, at_ofG (j := p) rfl (by rw [List.getElem?_map, u1]; rfl), _, rfl, le_line (show 1 ≤ 100000 by decide), fun v hv => ?_⟩
        refine catA_of (TQ.new hv _ _ u2) (.of upd_same) (by unfold pV; rw [List.length_map, List.length_singleton]; omega) (fun b H4 s6 hb => ?_)
        have s7 := ((Same.refl H3).upd_new (o := .tup [.int (0 + ((c : Nat) : Int))]) hv).trans s6
        have tk : TQ H3 (upd H4 D (.lst ((fs.map V.ref).set (Mth.nxs (wR rows) l (p + 1) c) (.ref b)))) := (TQ.of_same s7).trans (TQ.lst (s7 _ _ p3))
        refine ⟨_, rfl, _, rfl, D, _, _, _, rfl, rfl, s7 _ _ p3, ixz (by rw [List.length_map, fl3]; exact m1) rfl, ?_⟩
        have s8 : Same H (upd H4 D (.lst ((fs.map V.ref).set (Mth.nxs (wR rows) l (p + 1) c) (.ref b)))) := (s5.trans s7).upd_own hDn
        have he8 := s8 _ _ he
        refine ⟨_, rfl, _, rfl, e, _, _, _, rfl, rfl, SqL.of he8, int_at (Mth.ends_get (wR rows) m1) rfl, ?_⟩
        rw [m3]
        refine ⟨_, fs.set (Mth.nxs (wR rows) l (p + 1) c) b, rfl, s8, by rw [upd_same, List.map_set], by rw [List.length_set]; exact fl3, fun j h => ?_, fun c' q h1 h2 => ?_⟩
        · exact ((g1 j h).keep tk).ne (by omega)
        · by_cases ec : c' = c
          · subst ec
            rw [st2, List.getElem?_append_left (by rw [Mth.kids_len]; exact hc), Mth.kids_get hc] at h1
            cases h1
            refine ⟨b, List.getElem?_set_self (by omega), TQ.lst (s7 _ _ p3) _ _ ?_⟩
            have hb2 := hb
            rw [show (0 : Int) + ((c' : Nat) : Int) = ((c' : Nat) : Int) by omega] at hb2
            unfold pV at hb2 ⊢
            rw [List.map_append]
            exact hb2
          · have hc' := lt_of_get h1
            refine ((g2 c' q h1 (by omega)).keep tk).ne fun e => ec ?_
            exact (Mth.nxs_inj (wR rows) F (by omega) (by omega) e).symm
      · rintro σ H3 ⟨z, fs, rfl, s5, p3, fl3, g1, g2⟩
        refine ⟨_, _, _, fs, rfl, s5, p3, fl3, g1, fun c q h => g2 c q h (by omega)⟩
    · rintro σ H2 ⟨x, y, z, fs, rfl, s4, p2, fl, f1, f2⟩
      refine ⟨_, rfl, D, _, rfl, .inl ⟨SqL.of p2, fun u hu1 => k _ u (s4.upd_new hu1) ⟨fs, upd_same, by rw [fl, List.length_map, List.length_range], fun j t' x' a b => ?_⟩⟩⟩
      have hj := lt_of_get a
      rw [List.getElem?_map, List.getElem?_range (by omega)] at b
      cases b
      obtain ⟨t2, a2, b2⟩ := f1 j (by omega)
      rw [a] at a2
      cases a2
      exact TQ.new hu1 _ _ b2
end
end Sh
end
section
set_option Elab.async false
set_option linter.all false
set_option maxRecDepth 100000
set_option maxHeartbeats 2000000
set_option autoImplicit false
namespace Mth
/-- where a path of whole numbers leads from a place -/
def walkI {α : Type} (w : α → Nat) (l : List α) : Nat → List Int → Option Nat
  | p, [] => some p
  | p, c :: cs => if 0 ≤ c ∧ c < (wd w l p : Int) then walkI w l (nxs w l (p + 1) c.toNat) cs else none
end Mth
namespace Sh
open PySem PySem.Spec PyProof.Rows L2
open C8 (pss_cut tCut)
open Evl (ixN_nat)
theorem Def0.star {P : Program} {w : World} {K : PySem.W.Frag} {mg : Str → Option Value} {base : Heap} {k : Nat} {x : Str} {sp : Sp} {st : Stmt} {N ps : List Str} {pv : Str} (D : Def0 K mg x st) (S : FnScope N (ps ++ [pv]) (defScope st))
    (hb : ∀ (kV doc pm : Value) (an : Option Addr) (cdv ct : Value) (us rest : List Value), us.length = ps.length → bindArgs (PySem.W.fnOf x x (defArgs st) (defBody st) (defScope st) .none kV doc pm an cdv ct) ⟨us ++ rest, []⟩ = (newTuple rest >>= fun t => pure (ps.zip us ++ [(pv, t)])))
    (hbody : ∀ (f : Addr) (cdv : Value) (A : Around) (outer : List Env) (s : Shared) (H : Hp) (vs : List V) (Q : VK) (E : XK), Room k (A.deeper (envOfC x (defScope st) s.heap.objs.size f cdv)) → sp vs H Q E →
      ∃ t, PSs (cxOf (L2.CX P w) P w K mg base N x (defScope st) f cdv A outer s H E) (defBody st) t ∧ t { nx := fun _ H' => Q .non H', rt := Q } (start N vs) H) :
    DefOk P w K mg base (L2.CX P w) (k + 1) x (fun vs H Q E => ∃ ws rest, vs = ws ++ rest ∧ ws.length = ps.length ∧ rest.length ≤ sizeLine ∧ ∀ p, H p = Option.none → sp (ws ++ [V.ref p]) (upd H p (.tup rest)) Q E) := by
  obtain ⟨f, fd, hm, F⟩ := D
  obtain ⟨oc, od, dV, kV, doc, pm, an, cdv, ct, osl, rfl, lk, hcd, hdv, _⟩ := F.ex
  have hd : dV = .none := by
    rcases hdv with ⟨_, h⟩ | h
    · exact h
    · exact absurd rfl h.1
  subst hd
  exact ⟨f, hm, F.kp, StX.fn_star lk hcd S StX.cxUp (hb kV doc pm an cdv ct) fun A outer s H vs Q E hr hsp => hbody f cdv A outer s H vs Q E hr hsp⟩
theorem slA_lo {K : PySem.W.Frag} {H : Hp} {a : Addr} {xs : List V} {Q : VK} {j : Nat} (ha : Tq H a xs) (hj : j ≤ xs.length) (k : ∀ r H', Same H H' → Tq H' r (xs.take j) → Q (.ref r) H') : rSlA K (.ref a) none (some (j : Int)) H Q := by
  have e2 : HT.sIx xs.length xs.length (some (j : Int)) = j := by rw [HT.sIx_nat]; omega
  have e1 : HT.sIx xs.length 0 none = 0 := rfl
  refine ⟨a, xs, rfl, ha.sq, fun h => ?_, fun _ p hp => ?_⟩
  · rw [e2] at h
    refine k a H (Same.refl H) ?_
    rw [h.2, List.take_length]
    exact ha
  · have hc : cutV xs none (some (j : Int)) = xs.take j := by
      unfold cutV
      rw [e1, e2, List.drop_zero, Nat.sub_zero]
    rw [hc]
    exact k p _ ((Same.refl H).upd_new hp) (.of upd_same)
theorem slA_hi {K : PySem.W.Frag} {H : Hp} {a : Addr} {xs : List V} {Q : VK} {i : Nat} (ha : Tq H a xs) (hi : i ≤ xs.length) (k : ∀ r H', Same H H' → Tq H' r (xs.drop i) → Q (.ref r) H') : rSlA K (.ref a) (some (i : Int)) none H Q := by
  have e1 : HT.sIx xs.length 0 (some (i : Int)) = i := by rw [HT.sIx_nat]; omega
  have e2 : HT.sIx xs.length xs.length none = xs.length := rfl
  refine ⟨a, xs, rfl, ha.sq, fun h => ?_, fun _ p hp => ?_⟩
  · rw [e1] at h
    refine k a H (Same.refl H) ?_
    rw [h.1, List.drop_zero]
    exact ha
  · have hc : cutV xs (some (i : Int)) none = xs.drop i := by
      unfold cutV
      rw [e1, e2]
      exact List.take_of_length_le (by rw [List.length_drop]; omega)
    rw [hc]
    exact k p _ ((Same.refl H).upd_new hp) (.of upd_same)
theorem flat_le : ∀ {ls : List (List Str)} {n : Nat}, (∀ l ∈ ls, l.length ≤ 2000) → ls.length ≤ n → ls.flatten.length ≤ 2000 * n
  | [], n, _, _ => Nat.zero_le _
  | l :: ls, n, h, hn => by
    obtain ⟨m, rfl⟩ : ∃ m, n = m + 1 := ⟨n - 1, by rw [List.length_cons] at hn; omega⟩
    have h1 := h l List.mem_cons_self
    have h2 := flat_le (ls := ls) (n := m) (fun l hl => h l (List.mem_cons_of_mem _ hl)) (by rw [List.length_cons] at hn; omega)
    rw [List.flatten_cons, List.length_append]
    omega
theorem lk_branches (r k w rk : Addr) : (bedF r k w rk).lookup ("branches" : Str) = none := by
  have h : (("branches" : Str) == "rows") = false := by decide +kernel
  have h2 : (("branches" : Str) == "kinds") = false := by decide +kernel
  have h3 : (("branches" : Str) == "widths") = false := by decide +kernel
  have h4 : (("branches" : Str) == "ranks") = false := by decide +kernel
  simp [bedF, List.lookup, h, h2, h3, h4]
def npP : List V → Prop := fun vs => ∃ a, vs = [.ref a]
def npF (a : Addr) : List (Str × V) := xfs ["path"] [.ref a] []
def iV (zs : List Int) : List V := zs.map V.int
def spSpan (C CN : Addr) : Sp := fun vs H Q E => ∃ (b t a : Addr) (rows : List Row) (l : List Str) (zs : List Int), vs = [.ref b, .ref t, .ref a] ∧ BedAt C H b rows ∧ ROk 8 rows ∧ Tq H t (l.map V.str) ∧ PlantOk rows l ∧ Tq H a (iV zs) ∧
  (∀ q, Mth.walkI (wR rows) l 0 zs = some q → q < l.length → ∀ H' r, Same H H' → Tq H' r [.int ((q : Nat) : Int), .int ((Mth.nxs (wR rows) l q 1 : Nat) : Int)] → Q (.ref r) H') ∧
  (Mth.walkI (wR rows) l 0 zs = none → ∀ H' d, Same H H' → H' d = none → E (.ref CN) (some d) (upd H' d (.xd (npF a))))
def spBranch (C CN : Addr) : Sp := fun vs H Q E => ∃ (b t a : Addr) (rows : List Row) (l : List Str) (zs : List Int), vs = [.ref b, .ref t, .ref a] ∧ BedAt C H b rows ∧ ROk 8 rows ∧ Tq H t (l.map V.str) ∧ PlantOk rows l ∧ Tq H a (iV zs) ∧
  (∀ q, Mth.walkI (wR rows) l 0 zs = some q → q < l.length → ∀ H' r, Same H H' → Tq H' r (sV (Mth.cut (wR rows) l q)) → Q (.ref r) H') ∧
  (Mth.walkI (wR rows) l 0 zs = none → ∀ H' d, Same H H' → H' d = none → E (.ref CN) (some d) (upd H' d (.xd (npF a))))
def put (w : Str → Nat) (l : List Str) (q : Nat) (o : List Str) : List Str := l.take q ++ o ++ l.drop (Mth.nxs w l q 1)
def spReplaced (C CN CT : Addr) : Sp := fun vs H Q E => ∃ (b t a u : Addr) (rows : List Row) (l o : List Str) (zs : List Int), vs = [.ref b, .ref t, .ref a, .ref u] ∧ BedAt C H b rows ∧ ROk 8 rows ∧ Tq H t (l.map V.str) ∧ PlantOk rows l ∧ Tq H a (iV zs) ∧ Tq H u (o.map V.str) ∧ PlantOk rows o ∧
  (∀ q, Mth.walkI (wR rows) l 0 zs = some q → q < l.length → (put (wR rows) l q o).length ≤ 2000 → ∀ H' r, Same H H' → Tq H' r (sV (put (wR rows) l q o)) → Q (.ref r) H') ∧
  (∀ q, Mth.walkI (wR rows) l 0 zs = some q → q < l.length → 2000 < (put (wR rows) l q o).length → ∀ H' d, Same H H' → H' d = none → E (.ref CT) (some d) (upd H' d (.xd tmF))) ∧
  (Mth.walkI (wR rows) l 0 zs = none → ∀ H' d, Same H H' → H' d = none → E (.ref CN) (some d) (upd H' d (.xd (npF a))))
def spBr (C : Addr) : Sp := fun vs H Q _ => ∃ (b : Addr) (z : Str) (rows : List Row), vs = [.ref b, .str z] ∧ BedAt C H b rows ∧ ROk 8 rows ∧ (∃ q ∈ rows, q.1 = z) ∧ Q (.int ((wR rows z : Nat) : Int)) H
def spPlanted (C CT : Addr) : Sp := fun vs H Q E => ∃ (b p : Addr) (z : Str) (rows : List Row) (ts : List Addr) (ls : List (List Str)), vs = [.ref b, .str z, .ref p] ∧ BedAt C H b rows ∧ ROk 8 rows ∧ (∃ q ∈ rows, q.1 = z) ∧ Tq H p (ts.map V.ref) ∧ TsAt sV H ts ls ∧ (∀ l ∈ ls, PlantOk rows l) ∧ ls.length = wR rows z ∧
  ((z :: ls.flatten).length ≤ 2000 → ∀ H' r, Same H H' → Tq H' r (sV (z :: ls.flatten)) → Q (.ref r) H') ∧
  (2000 < (z :: ls.flatten).length → ∀ H' d, Same H H' → H' d = none → E (.ref CT) (some d) (upd H' d (.xd tmF)))
def spStar (n : Nat) (sp : Sp) : Sp := fun vs H Q E => ∃ ws rest, vs = ws ++ rest ∧ ws.length = n ∧ rest.length ≤ sizeLine ∧ ∀ p, H p = Option.none → sp (ws ++ [V.ref p]) (upd H p (.tup rest)) Q E
def BrOk (P : Program) (w : World) (K : PySem.W.Frag) (mg : Str → Option Value) (base : Heap) (C : Addr) : Prop := ∃ f, Meth K C "branches" f ∧ FnR P w K mg base CX0 1 f (spBr C)
abbrev s_span_at : Stmt := top 20
abbrev N_span_at : List Str := ["bed", "tree", "path", "ends", "place", "index", "starts"]
theorem sc_span_at : FnScope N_span_at ["bed", "tree", "path"] (defScope s_span_at) := ⟨rfl, rfl, rfl, by decide +kernel, rfl, by decide +kernel, by decide +kernel⟩
abbrev s_branch_at : Stmt := top 29
abbrev N_branch_at : List Str := ["bed", "plant", "path", "start", "end"]
theorem sc_branch_at : FnScope N_branch_at ["bed", "plant", "path"] (defScope s_branch_at) := ⟨rfl, rfl, rfl, by decide +kernel, rfl, by decide +kernel, by decide +kernel⟩
abbrev s_replaced : Stmt := top 30
abbrev N_replaced : List Str := ["bed", "plant", "path", "other", "start", "end", "result"]
theorem sc_replaced : FnScope N_replaced ["bed", "plant", "path", "other"] (defScope s_replaced) := ⟨rfl, rfl, rfl, by decide +kernel, rfl, by decide +kernel, by decide +kernel⟩
abbrev s_planted : Stmt := top 27
abbrev N_planted : List Str := ["bed", "kind", "below", "wanted", "plant", "branch"]
theorem sc_planted : FnScope N_planted ["bed", "kind", "below"] (defScope s_planted) := ⟨rfl, rfl, rfl, by decide +kernel, rfl, by decide +kernel, by decide +kernel⟩
abbrev s_branches : Stmt := inClass (top 39) 4
abbrev N_branches : List Str := ["self", "kind"]
theorem sc_branches : FnScope N_branches ["self", "kind"] (defScope s_branches) := ⟨rfl, rfl, rfl, by decide +kernel, rfl, by decide +kernel, by decide +kernel⟩
section
variable {P : Program} {w : World} {K : PySem.W.Frag} {mg : Str → Option Value} {base : Heap} {C CN CT : Addr}
theorem ok_span_at (T : Bl mg) (x_NoPath : PySem.SupX.SupCls P w K mg "NoPath" CN ["path"] npP) (c_ends_of : DefOk P w K mg base CX0 1 "ends_of" (spEnds C)) (c_starts_above : DefOk P w K mg base CX0 1 "starts_above" (spStarts C)) (D : Def0 K mg "span_at" s_span_at) : DefOk P w K mg base (L2.CX P w) 2 "span_at" (spSpan C CN) := by
  refine D.okX sc_span_at (fun vs H Q E h => ?_) (fun _ _ _ _ _ _ us hl => match us, hl with | [_, _, _], _ => rfl) (fun f cdv A outer s H vs Q E hr h => ?_)
  · obtain ⟨b, t, a, rows, l, zs, rfl, _⟩ := h
    rfl
  · obtain ⟨b, t, a, rows, l, zs, rfl, hB, R, ht, O, ha, k1, k2⟩ := h
    have hsz := O.sz
    refine ⟨_, (pss_cons (ps_set (i := 3) sc_span_at.nd rfl (Or.inl rfl) (pe_d c_ends_of (hr.mono (by decide)) pass0 (pa_cons (pv 0) (pa_cons (pv 1) pa_nil))))
      (pss_cons (ps_set (i := 4) sc_span_at.nd rfl (Or.inl rfl) pe_int)
      (pss_cons (ps_for (passes_of rfl) rfl (pi_tup (pv 2)) (pg_name (i := 5) sc_span_at.nd rfl (Or.inl rfl))
        (pss_cons (ps_set (i := 6) sc_span_at.nd rfl (Or.inl rfl) (pe_d c_starts_above (hr.mono (by decide)) pass0 (pa_cons (pv 0) (pa_cons (pv 1) (pa_cons (pv 3) (pa_cons (pv 4) pa_nil))))))
        (pss_cons (ps_if (PW.pt (pw_or (pt_cmpR op_lt (pv 5) pe_int (nomark _)) (pw_or1 (pt_cmpR op_ge (pv 5) (pe_callB call_len_seq (by rfl) T.b_len boot_len (pa_cons (pv 6) pa_nil)) (nomark _)))))
          (pss_one (ps_raiseSup rfl x_NoPath hr (takes_of rfl rfl rfl rfl) (pa_cons (pv 2) pa_nil)))
          pss_nil)
        (pss_one (ps_set (i := 4) sc_span_at.nd rfl (Or.inl rfl) (pe_ix ix_list (pv 6) (pv 5) (fun _ _ => rfl)))))))
      (pss_one (ps_ret (pe_tup (pa_cons (pv 4) (pa_cons (pe_ix ix_list (pv 3) (pv 4) (fun _ _ => rfl)) pa_nil)))))))), ?_⟩
    refine ⟨_, rfl, _, rfl, b, t, rows, l, rfl, hB, R, ht, O, fun H1 e s1 _ he => ?_⟩
    refine ⟨_, rfl, a, rfl, ⟨_, (ha.same s1).sq⟩, for_it (walk_tup (xs := iV zs)) (fun i σ H' => ∃ (x y : Option V) (p : Nat), σ = [some (.ref b), some (.ref t), some (.ref a), some (.ref e), some (.int ((p : Nat) : Int)), x, y] ∧ Same H1 H' ∧ p < l.length ∧ Mth.walkI (wR rows) l 0 zs = Mth.walkI (wR rows) l p (zs.drop i))
      ⟨none, none, 0, rfl, Same.refl H1, O.pos, by rw [List.drop_zero]⟩ (fun i σ H' _ ⟨_, _, _, _, q, _⟩ => ((ha.same s1).same q).sq) ?_ ?_⟩
    · rintro i v σ H2 H3 hi ⟨x, y, p, rfl, s2, hp, hw⟩ ⟨rfl, hv⟩
      have hiz : i < zs.length := by unfold iV at hi; rw [List.length_map] at hi; exact hi
      have hv' : (zs.map V.int)[i]? = some v := hv
      rw [List.getElem?_map, List.getElem?_eq_getElem hiz] at hv'
      cases hv'
      have st := s1.trans s2
      rw [List.drop_eq_getElem_cons hiz] at hw
      have hk : l[p]? = some l[p] := List.getElem?_eq_getElem hp
      refine ⟨_, rfl, _, rfl, _, rfl, _, rfl, b, t, e, p, rows, l, hp, rfl, hB.same st, R, ht.same st, O, (s2 _ _ he), fun H4 q s3 hqn hq => ?_⟩
      have hno : ¬ (0 ≤ zs[i] ∧ zs[i] < (wR rows l[p] : Int)) → Mth.walkI (wR rows) l 0 zs = none := fun h => by
        rw [hw]
        unfold Mth.walkI
        rw [Mth.wd_of _ hp, if_neg h]
      have hlen : ((Mth.starts (wR rows) l p (wR rows l[p])).map V.int).length = wR rows l[p] := by rw [List.length_map, Mth.starts_len]
      refine ⟨_, rfl, _, _, rfl, rfl, _, rfl, ?_⟩
      refine ite2 (fun h => ?_) (fun h => ?_)
      · have hneg := of_decide_eq_true h
        exact ⟨_, rfl, ⟨a, rfl⟩, rfl, fun d hd => k2 (hno (by omega)) _ d (st.trans s3) hd⟩
      have hnn : 0 ≤ zs[i] := Int.not_lt.mp fun q => h (decide_eq_true q)
      refine ⟨_, rfl, _, rfl, q, _, rfl, .inl (SqL.of hq), _, _, rfl, rfl, _, rfl, ?_⟩
      rw [hlen]
      refine ite2 (fun h2 => ?_) (fun h2 => ?_)
      · have hge : ((wR rows l[p] : Nat) : Int) ≤ zs[i] := of_decide_eq_true h2
        exact ⟨_, rfl, ⟨a, rfl⟩, rfl, fun d hd => k2 (hno (by omega)) _ d (st.trans s3) hd⟩
      have hlt : zs[i] < ((wR rows l[p] : Nat) : Int) := Int.not_le.mp fun q => h2 (decide_eq_true q)
      have hltn : zs[i].toNat < wR rows l[p] := by omega
      obtain ⟨m1, m2, m3⟩ := Mth.end_step (wR rows) O.f hk hltn
      refine ⟨_, rfl, _, rfl, q, _, _, _, rfl, rfl, SqL.of hq, int_at (Mth.starts_get (wR rows) l p hltn) (by omega), ?_⟩
      refine ⟨_, _, _, rfl, s2.trans s3, m1, ?_⟩
      rw [hw]
      show (if 0 ≤ zs[i] ∧ zs[i] < (Mth.wd (wR rows) l p : Int) then _ else none) = _
      rw [Mth.wd_of _ hp, if_pos ⟨hnn, hlt⟩]
    · rintro σ H2 ⟨x, y, p, rfl, s2, hp, hw⟩
      unfold iV at hw
      rw [List.length_map, List.drop_length] at hw
      refine ⟨_, rfl, _, rfl, _, rfl, e, _, _, _, rfl, rfl, SqL.of (s2 _ _ he), int_at (Mth.ends_get (wR rows) hp) rfl, le_line (show 2 ≤ 100000 by decide), fun r hr2 => ?_⟩
      exact k1 p hw hp _ r ((s1.trans s2).upd_new hr2) (.of upd_same)
theorem ok_branch_at (T : Bl mg) (c_check_plant : DefOk P w K mg base CX0 3 "check_plant" (spCheck C)) (c_span_at : DefOk P w K mg base (L2.CX P w) 2 "span_at" (spSpan C CN)) (D : Def0 K mg "branch_at" s_branch_at) : DefOk P w K mg base (L2.CX P w) 4 "branch_at" (spBranch C CN) := by
  refine D.okX sc_branch_at (fun vs H Q E h => ?_) (fun _ _ _ _ _ _ us hl => match us, hl with | [_, _, _], _ => rfl) (fun f cdv A outer s H vs Q E hr h => ?_)
  · obtain ⟨b, t, a, rows, l, zs, rfl, _⟩ := h
    rfl
  · obtain ⟨b, t, a, rows, l, zs, rfl, hB, R, ht, O, ha, k1, k2⟩ := h
    refine ⟨_, (pss_cons (ps_expr (pe_d c_check_plant (hr.mono (by decide)) pass0 (pa_cons (pv 0) (pa_cons (pv 1) pa_nil))))
      (pss_cons (ps_asg (pe_d c_span_at (hr.mono (by decide)) (passes_call (takes_of rfl rfl rfl rfl) fun _ _ _ _ h => h) (pa_cons (pv 0) (pa_cons (pv 1) (pa_cons (pv 2) pa_nil)))) (pg_tup (by rfl) (pgs_cons (pg_name (i := 3) sc_branch_at.nd rfl (Or.inl rfl)) (pgs_cons (pg_name (i := 4) sc_branch_at.nd rfl (Or.inl rfl)) pgs_nil))))
      (pss_one (ps_ret (pe_slice sl_tupA (pv 1) (po_some (pv 3)) (po_some (pv 4))))))), ?_⟩
    refine ⟨_, rfl, _, rfl, b, t, rows, l, rfl, hB, R, ht, O, fun H1 s1 => ?_⟩
    refine ⟨_, rfl, _, rfl, _, rfl, b, t, a, rows, l, zs, rfl, hB.same s1, R, ht.same s1, O, ha.same s1, fun q hw hq H2 r s2 hr2 => ?_, fun hw H2 d s2 hd => k2 hw H2 d (s1.trans s2) hd⟩
    refine ⟨r, _, rfl, hr2.sq, rfl, _, _, rfl, _, _, rfl, rfl, ?_⟩
    refine ⟨_, rfl, _, rfl, _, rfl, _, rfl, _, rfl, ?_⟩
    have st := s1.trans s2
    refine slA_of (ht.same st) (by rw [List.length_map]; exact Mth.nxs_le _ _ _ _) (Mth.nxs_ge _ _ _ (Nat.le_of_lt hq)) (fun c H3 s3 hc => ?_)
    refine k1 q hw hq H3 c (st.trans s3) ?_
    unfold sV Mth.cut
    rw [List.map_take, List.map_drop]
    exact hc
theorem ok_replaced (T : Bl mg) (c_check_size : DefOk P w K mg base (L2.CX P w) 2 "check_size" (spSize K CT)) (c_check_plant : DefOk P w K mg base CX0 3 "check_plant" (spCheck C)) (c_span_at : DefOk P w K mg base (L2.CX P w) 2 "span_at" (spSpan C CN)) (D : Def0 K mg "replaced" s_replaced) : DefOk P w K mg base (L2.CX P w) 4 "replaced" (spReplaced C CN CT) := by
  refine D.okX sc_replaced (fun vs H Q E h => ?_) (fun _ _ _ _ _ _ us hl => match us, hl with | [_, _, _, _], _ => rfl) (fun f cdv A outer s H vs Q E hr h => ?_)
  · obtain ⟨b, t, a, u, rows, l, o, zs, rfl, _⟩ := h
    rfl
  · obtain ⟨b, t, a, u, rows, l, o, zs, rfl, hB, R, ht, O, ha, hu1, O2, k1, k2, k3⟩ := h
    have z1 := O.sz
    have z2 := O2.sz
    refine ⟨_, (pss_cons (ps_expr (pe_d c_check_plant (hr.mono (by decide)) pass0 (pa_cons (pv 0) (pa_cons (pv 1) pa_nil))))
      (pss_cons (ps_asg (pe_d c_span_at (hr.mono (by decide)) (passes_call (takes_of rfl rfl rfl rfl) fun _ _ _ _ h => h) (pa_cons (pv 0) (pa_cons (pv 1) (pa_cons (pv 2) pa_nil)))) (pg_tup (by rfl) (pgs_cons (pg_name (i := 4) sc_replaced.nd rfl (Or.inl rfl)) (pgs_cons (pg_name (i := 5) sc_replaced.nd rfl (Or.inl rfl)) pgs_nil))))
      (pss_cons (ps_expr (pe_d c_check_plant (hr.mono (by decide)) pass0 (pa_cons (pv 0) (pa_cons (pv 3) pa_nil))))
      (pss_cons (ps_set (i := 6) sc_replaced.nd rfl (Or.inl rfl) (pe_op op_catA (pe_op op_catA (pe_slice sl_tupA (pv 1) po_none (po_some (pv 4))) (pv 3)) (pe_slice sl_tupA (pv 1) (po_some (pv 5)) po_none)))
      (pss_cons (ps_expr (pe_d c_check_size (hr.mono (by decide)) (passes_call (takes_of rfl rfl rfl rfl) fun _ _ _ _ h => h) (pa_cons (pv 6) pa_nil)))
      (pss_one (ps_ret (pv 6)))))))), ?_⟩
    refine ⟨_, rfl, _, rfl, b, t, rows, l, rfl, hB, R, ht, O, fun H1 s1 => ?_⟩
    refine ⟨_, rfl, _, rfl, _, rfl, b, t, a, rows, l, zs, rfl, hB.same s1, R, ht.same s1, O, ha.same s1, fun q hw hq H2 r s2 hr2 => ?_, fun hw H2 d s2 hd => k3 hw H2 d (s1.trans s2) hd⟩
    refine ⟨r, _, rfl, hr2.sq, rfl, _, _, rfl, _, _, rfl, rfl, ?_⟩
    have st := s1.trans s2
    refine ⟨_, rfl, _, rfl, b, u, rows, o, rfl, hB.same st, R, hu1.same st, O2, fun H3 s3 => ?_⟩
    have st3 := st.trans s3
    have hnx := Mth.nxs_le (wR rows) l q 1
    refine ⟨_, rfl, _, rfl, _, rfl, ?_⟩
    refine slA_lo (ht.same st3) (by rw [List.length_map]; exact Nat.le_of_lt hq) (fun c1 H4 s4 hc1 => ?_)
    have st4 := st3.trans s4
    refine ⟨_, rfl, ?_⟩
    refine catA_of hc1 (hu1.same st4) (by rw [List.length_take, List.length_map, List.length_map]; omega) (fun c2 H5 s5 hc2 => ?_)
    have st5 := st4.trans s5
    refine ⟨_, rfl, _, rfl, _, rfl, ?_⟩
    dsimp only [tNoPart]
    refine slA_hi (ht.same st5) (by rw [List.length_map]; exact hnx) (fun c3 H6 s6 hc3 => ?_)
    have st6 := st5.trans s6
    refine catA_of (hc2.same s6) hc3 (by rw [List.length_append, List.length_take, List.length_drop, List.length_map, List.length_map]; omega) (fun c4 H7 s7 hc4 => ?_)
    have st7 := st6.trans s7
    have hall : Tq H7 c4 (sV (put (wR rows) l q o)) := by
      unfold sV put
      rw [List.map_append, List.map_append, List.map_take, List.map_drop]
      exact hc4
    have hln : (sV (put (wR rows) l q o)).length = (put (wR rows) l q o).length := by unfold sV; rw [List.length_map]
    refine ⟨_, rfl, c4, _, rfl, hall.sq, fun hle => ?_, fun hgt d hd => ?_⟩
    · exact ⟨_, rfl, k1 q hw hq (by rw [← hln]; exact hle) _ c4 st7 hall⟩
    · exact k2 q hw hq (by rw [← hln]; exact hgt) _ d st7 hd
theorem ok_branches (B : BedT K C) {x : Str} {f : Addr} {fd : FuncData} (F : FunD K "branches" "Bed.branches" (defArgs s_branches) (defBody s_branches) (defScope s_branches) [] [] f fd) (M : Meth K C "branches" f) : BrOk P w K mg base C := by
  have G : FnOk P w K mg base CX0 1 f fd ["self", "kind"] (spBr C) := F.ok sc_branches (fun vs H Q E h => by obtain ⟨b, z, rows, rfl, _⟩ := h; rfl) fun cdv A outer s H vs Q E hr h => by
    obtain ⟨b, z, rows, rfl, hB, R, hz, k⟩ := h
    have hu := hu_of hr
    obtain ⟨dx, r, kk, ww, rk, ts, h1, h2, h3, h4, h5, h6⟩ := hB
    refine ⟨_, (pss_cons (ps_if (pt_cmp (pc_dnotin hu (pv 1) (pe_fld (pv 0) rfl)))
        (pss_one ps_never)
        pss_nil)
      (pss_one (ps_ret (pe_dget hu (pe_fld (pv 0) rfl) (pv 1) (fun _ _ => rfl))))), ?_⟩
    refine ⟨_, rfl, _, rfl, b, C, dx, _, _, rfl, h1, B.cl, B.nW, lk_widths _ _ _ _, ww, _, rfl, DGet.k (k := .inr z) h5, _, rfl, ?_⟩
    rw [val_wL R hz]
    refine ifn (by simp) ?_
    exact ⟨_, rfl, b, C, dx, _, _, rfl, h1, B.cl, B.nW, lk_widths _ _ _ _, _, rfl, ww, _, rfl, (by rw [← val_wL R hz]; exact DGet.k (k := .inr z) h5), k⟩
  refine ⟨f, M, fun A outer s H us vs Q E hr e0 r hs => G.raw (F.bindsN fun _ _ _ _ _ _ us hl => match us, hl with | [_, _], _ => rfl) .nil A outer s H us vs Q E hr e0 r (by show spBr C (vs ++ []) H Q E; rw [List.append_nil]; exact hs)⟩
theorem ok_planted (T : Bl mg) (B : BedT K C) (c_branches : BrOk P w K mg base C) (c_check_size : DefOk P w K mg base (L2.CX P w) 2 "check_size" (spSize K CT)) (c_check_plant : DefOk P w K mg base CX0 3 "check_plant" (spCheck C)) (D : Def0 K mg "planted" s_planted) : DefOk P w K mg base (L2.CX P w) 4 "planted" (spStar 2 (spPlanted C CT)) := by
  obtain ⟨fM, M_branches, F_branches⟩ := c_branches
  refine Def0.star (ps := ["bed", "kind"]) (pv := "below") D sc_planted (fun kV doc pm an cdv ct => StX.bind_star2 (B := fun us => bindArgs (PySem.W.fnOf "planted" "planted" (defArgs s_planted) (defBody s_planted) (defScope s_planted) .none kV doc pm an cdv ct) ⟨us, []⟩) (fun _ _ => rfl) (fun _ _ _ _ => rfl)) (fun f cdv A outer s H vs Q E hr h => ?_)
  obtain ⟨b, p, z, rows, ts, ls, rfl, hB, R, hz, hp, hT, hO, hl, k1, k2⟩ := h
  refine ⟨_, (pss_cons (ps_set (i := 3) sc_planted.nd rfl (Or.inl rfl) (pe_methR (pv 0) B.cl M_branches F_branches (hr.mono (by decide)) pass0 (pa_cons (pv 1) pa_nil)))
    (pss_cons (ps_if (pt_cmpR op_ne (pe_callB call_len_seq (by rfl) T.b_len boot_len (pa_cons (pv 2) pa_nil)) (pv 3) (nomark _))
      (pss_one ps_never)
      pss_nil)
    (pss_cons (ps_set (i := 4) sc_planted.nd rfl (Or.inl rfl) (pe_tup (pa_cons (pv 1) pa_nil)))
    (pss_cons (ps_for (passes_of rfl) rfl (pi_tup (pv 2)) (pg_name (i := 5) sc_planted.nd rfl (Or.inl rfl))
      (pss_cons (ps_expr (pe_d c_check_plant (hr.mono (by decide)) pass0 (pa_cons (pv 0) (pa_cons (pv 5) pa_nil))))
      (pss_one (ps_set (i := 4) sc_planted.nd rfl (Or.inl rfl) (pe_op op_catA (pv 4) (pv 5))))))
    (pss_cons (ps_expr (pe_d c_check_size (hr.mono (by decide)) (passes_call (takes_of rfl rfl rfl rfl) fun _ _ _ _ h => h) (pa_cons (pv 4) pa_nil)))
    (pss_one (ps_ret (pv 4)))))))), ?_⟩
  have hw3 : wR rows z ≤ 3 := by obtain ⟨_, _, _, _, _, h⟩ := wR_mem R hz; exact h
  obtain ⟨dx, r, kk, ww, rk, tr, h1, _⟩ := id hB
  refine ⟨_, rfl, b, dx, _, rfl, h1, lk_branches _ _ _ _, _, rfl, b, z, rows, rfl, hB, R, hz, ?_⟩
  have hlt : (ts.map V.ref).length = wR rows z := by rw [List.length_map, hT.1, hl]
  refine ⟨_, rfl, p, _, rfl, .inr hp.sq, _, rfl, rfl, _, rfl, ?_⟩
  rw [hlt]
  refine ifn (by simp) ?_
  refine ⟨_, rfl, le_line (show 1 ≤ 100000 by decide), fun c hc => ?_⟩
  have s1 := (Same.refl H).upd_new (o := .tup [.str z]) hc
  have hsum : ∀ i, ((ls.take i).flatten).length ≤ 2000 * i := fun i => by
    exact flat_le (fun l hl => (hO l (List.mem_of_mem_take hl)).sz) (List.length_take_le _ _)
  refine ⟨_, rfl, p, rfl, ⟨_, (hp.same s1).sq⟩, for_it (walk_tup (xs := ts.map V.ref)) (fun i σ H' => ∃ (x : Option V) (c : Addr), σ = [some (.ref b), some (.str z), some (.ref p), some (.int ((wR rows z : Nat) : Int)), some (.ref c), x] ∧ Same H H' ∧ Tq H' c (sV (z :: (ls.take i).flatten)))
    ⟨none, c, rfl, s1, .of upd_same⟩ (fun i σ H' _ ⟨_, _, _, q, _⟩ => (hp.same q).sq) ?_ ?_⟩
  · rintro i v σ H2 H3 hi ⟨x, c, rfl, s2, hc2⟩ ⟨rfl, hv⟩
    have hil : i < ls.length := by rw [hlt, ← hl] at hi; exact hi
    obtain ⟨t, t1, t2, t3⟩ := hT.at hil
    rw [t2] at hv
    cases hv
    refine ⟨_, rfl, _, rfl, b, t, rows, ls[i], rfl, hB.same s2, R, t3.same s2, hO _ (List.getElem_mem hil), fun H4 s3 => ?_⟩
    have st := s2.trans s3
    have hsz := (hO _ (List.getElem_mem hil)).sz
    have hsi := hsum i
    refine ⟨_, rfl, _, rfl, catA_of (hc2.same s3) (t3.same st) ?_ (fun c3 H5 s4 hc3 => ?_)⟩
    · unfold sV
      rw [List.length_map, List.length_map, List.length_cons]
      omega
    · refine ⟨_, c3, rfl, st.trans s4, ?_⟩
      rw [List.take_add_one, List.getElem?_eq_getElem hil, List.flatten_append]
      have e : sV (z :: ((ls.take i).flatten ++ (some ls[i]).toList.flatten)) = sV (z :: (ls.take i).flatten) ++ sV ls[i] := by
        unfold sV
        simp
      rw [e]
      exact hc3
  · rintro σ H2 ⟨x, c, rfl, s2, hc2⟩
    rw [hlt, ← hl, List.take_length] at hc2
    have hln : (sV (z :: ls.flatten)).length = (z :: ls.flatten).length := by unfold sV; rw [List.length_map]
    refine ⟨_, rfl, c, _, rfl, hc2.sq, fun hle => ?_, fun hgt d hd => ?_⟩
    · exact ⟨_, rfl, k1 (by rw [← hln]; exact hle) _ c s2 hc2⟩
    · exact k2 (by rw [← hln]; exact hgt) _ d s2 hd
end
end Sh
end
section
set_option linter.all false
set_option autoImplicit false
namespace Mth
variable {α : Type} (w : α → Nat)
theorem nxs_all {l : List α} (h : forest w l 1 = true) : nxs w l 0 1 = l.length := by
  have q := forest_skip w l 1 0 h
  have e := forest_zero w q
  unfold nxs
  rw [List.drop_zero, e]
  rfl
theorem cut_forest {l : List α} (h : forest w l 1 = true) {p : Nat} (hp : p < l.length) : forest w (cut w l p) 1 = true := by
  obtain ⟨m, F⟩ := Fst.all w h p (Nat.le_of_lt hp)
  obtain ⟨n, rfl⟩ := F.pos w hp
  have q := forest_take w (l.drop p) 1 n (by rw [Nat.add_comm]; exact F.2)
  unfold cut nxs
  have e : l.length - (skip w (l.drop p) 1).length - p = (l.drop p).length - (skip w (l.drop p) 1).length := by
    rw [List.length_drop]
    omega
  rw [e]
  exact q
theorem cut_len (l : List α) (p : Nat) : (cut w l p).length ≤ l.length := by
  unfold cut
  rw [List.length_take, List.length_drop]
  omega
theorem cut_mem {l : List α} {p : Nat} {z : α} (h : z ∈ cut w l p) : z ∈ l := List.mem_of_mem_drop (List.mem_of_mem_take h)
theorem brs_flat {l : List α} (h : forest w l 1 = true) {p : Nat} {k : α} (hk : l[p]? = some k) : ∀ c, c ≤ w k → (brs w l p c).flatten = (l.drop (p + 1)).take (nxs w l (p + 1) c - (p + 1))
  | 0, _ => by
    have hp := (List.getElem?_eq_some_iff.mp hk).1
    rw [nxs_zero w hp, Nat.sub_self, List.take_zero]
    rfl
  | c + 1, hc => by
    obtain ⟨m1, m2, m3⟩ := end_step w h hk (t := c) (by omega)
    rw [brs_succ, List.flatten_append, brs_flat h hk c (by omega), List.flatten_singleton]
    have g := nxs_ge w l 1 (Nat.le_of_lt m1)
    rw [m3] at g
    unfold cut
    rw [m3, show nxs w l (p + 1) (c + 1) - (p + 1) = (nxs w l (p + 1) c - (p + 1)) + (nxs w l (p + 1) (c + 1) - nxs w l (p + 1) c) by omega, List.take_add, List.drop_drop]
    congr 3
    omega
theorem brs_all {l : List α} (h : forest w l 1 = true) {k : α} (hk : l[0]? = some k) : k :: (brs w l 0 (w k)).flatten = l := by
  have hp := (List.getElem?_eq_some_iff.mp hk).1
  rw [brs_flat w h hk _ (Nat.le_refl _), end_last w hk, nxs_all w h, List.take_of_length_le (by rw [List.length_drop]; omega)]
  have e := (List.getElem?_eq_some_iff.mp hk).2
  cases l with
  | nil => cases hp
  | cons a r =>
    have e2 : a = k := e
    rw [e2]
    rfl
theorem put_cut (l : List α) (p : Nat) (h : p ≤ l.length) : l.take p ++ cut w l p ++ l.drop (nxs w l p 1) = l := by
  have g := nxs_ge w l 1 h
  unfold cut
  have e : l.drop p = (l.drop p).take (nxs w l p 1 - p) ++ l.drop (nxs w l p 1) := by
    have q := (List.take_append_drop (nxs w l p 1 - p) (l.drop p)).symm
    rw [List.drop_drop, show p + (nxs w l p 1 - p) = nxs w l p 1 by omega] at q
    exact q
  rw [List.append_assoc, ← e, List.take_append_drop]
theorem forest_swap {a o r : List α} (ha : forest w a 1 = true) (ho : forest w o 1 = true) : ∀ (pre : List α) (n : Nat), forest w (pre ++ (a ++ r)) n = true → forest w (pre ++ (o ++ r)) n = true
  | [], n, h => by
    have hn : ∃ m, n = m + 1 := by
      cases n with
      | succ m => exact ⟨m, rfl⟩
      | zero =>
        have e : a ++ r = [] := forest_zero w h
        have e2 : a = [] := (List.append_eq_nil_iff.mp e).1
        exact absurd e2 (forest_pos w ha)
    obtain ⟨m, rfl⟩ := hn
    have q := forest_skip w (a ++ r) 1 m (by rw [Nat.add_comm]; exact h)
    rw [skip_app w a r 1 ha] at q
    have z := forest_app w o r 1 m ho q
    rw [Nat.add_comm] at z
    exact z
  | k :: pre, 0, h => by cases h
  | k :: pre, n + 1, h => forest_swap ha ho pre (w k + n) h
def pu (l : List α) (p : Nat) (o : List α) : List α := l.take p ++ o ++ l.drop (nxs w l p 1)
theorem pu_forest {l o : List α} (h : forest w l 1 = true) (ho : forest w o 1 = true) {p : Nat} (hp : p < l.length) : forest w (pu w l p o) 1 = true := by
  unfold pu
  rw [List.append_assoc]
  refine forest_swap w (cut_forest w h hp) ho (l.take p) 1 ?_
  rw [← List.append_assoc, put_cut w l p (Nat.le_of_lt hp)]
  exact h
theorem pu_drop {l o : List α} {p : Nat} (hp : p < l.length) : (pu w l p o).drop p = o ++ l.drop (nxs w l p 1) := by
  unfold pu
  rw [List.append_assoc, List.drop_append_of_le_length (by rw [List.length_take]; omega), List.drop_take, Nat.sub_self, List.take_zero, List.nil_append]
theorem pu_take {l o : List α} {p : Nat} (hp : p < l.length) : (pu w l p o).take p = l.take p := by
  unfold pu
  rw [List.append_assoc, List.take_append_of_le_length (by rw [List.length_take]; omega), List.take_take, Nat.min_self]
theorem pu_nxs {l o : List α} (ho : forest w o 1 = true) {p : Nat} (hp : p < l.length) : nxs w (pu w l p o) p 1 = p + o.length := by
  unfold nxs
  rw [pu_drop w hp, skip_app w o _ 1 ho]
  unfold pu
  rw [List.length_append, List.length_append, List.length_take]
  omega
theorem pu_cut {l o : List α} (ho : forest w o 1 = true) {p : Nat} (hp : p < l.length) : cut w (pu w l p o) p = o := by
  unfold cut
  rw [pu_nxs w ho hp, pu_drop w hp, show p + o.length - p = o.length by omega, List.take_left']
  rfl
theorem pu_back {l o : List α} (ho : forest w o 1 = true) {p : Nat} (hp : p < l.length) : pu w (pu w l p o) p (cut w l p) = l := by
  show (pu w l p o).take p ++ cut w l p ++ (pu w l p o).drop (nxs w (pu w l p o) p 1) = l
  rw [pu_take w hp, pu_nxs w ho hp]
  have e : (pu w l p o).drop (p + o.length) = l.drop (nxs w l p 1) := by
    rw [← List.drop_drop, pu_drop w hp, List.drop_left']
    rfl
  rw [e]
  exact put_cut w l p (Nat.le_of_lt hp)
theorem pu_self {l : List α} {p : Nat} (hp : p < l.length) : pu w l p (cut w l p) = l := put_cut w l p (Nat.le_of_lt hp)
theorem walkI_nat (l : List α) : ∀ (cs : List Nat) (p : Nat), walkI w l p (cs.map fun n => ((n : Nat) : Int)) = walk w l p cs
  | [], p => rfl
  | c :: cs, p => by
    show (if 0 ≤ ((c : Nat) : Int) ∧ ((c : Nat) : Int) < (wd w l p : Int) then walkI w l (nxs w l (p + 1) ((c : Nat) : Int).toNat) (cs.map fun n => ((n : Nat) : Int)) else none) = walk w l p (c :: cs)
    unfold walk wd
    rw [Int.toNat_natCast, walkI_nat l cs]
    cases l[p]? with
    | none => exact if_neg (by simp)
    | some k =>
      by_cases h : c < w k
      · exact (if_pos (show 0 ≤ ((c : Nat) : Int) ∧ ((c : Nat) : Int) < ((w k : Nat) : Int) from ⟨by omega, by omega⟩)).trans (if_pos h).symm
      · exact (if_neg (show ¬ (0 ≤ ((c : Nat) : Int) ∧ ((c : Nat) : Int) < ((w k : Nat) : Int)) from fun q => by omega)).trans (if_neg h).symm
theorem walkI_app (l : List α) : ∀ (a : List Int) (p : Nat) (b : List Int), walkI w l p (a ++ b) = (walkI w l p a).bind fun q => walkI w l q b
  | [], p, b => rfl
  | c :: a, p, b => by
    show (if 0 ≤ c ∧ c < (wd w l p : Int) then walkI w l (nxs w l (p + 1) c.toNat) (a ++ b) else none) = (if 0 ≤ c ∧ c < (wd w l p : Int) then walkI w l (nxs w l (p + 1) c.toNat) a else none).bind fun q => walkI w l q b
    by_cases h : 0 ≤ c ∧ c < (wd w l p : Int)
    · rw [if_pos h, if_pos h]
      exact walkI_app l a _ b
    · rw [if_neg h, if_neg h]
      rfl
theorem walk_pu {l o : List α} (h : forest w l 1 = true) {p : Nat} (hp : p < l.length) : walk w (pu w l p o) 0 (pth w l p) = some p := by
  have q := pth_walk w h hp
  have hl : (l.take p).length = p := by rw [List.length_take]; omega
  have e : l = l.take p ++ l.drop p := (List.take_append_drop p l).symm
  have hy : l.drop p ≠ [] := fun e => by
    have := congrArg List.length e
    rw [List.length_drop] at this
    simp at this
    omega
  have z := walk_swap (w := w) (pre := l.take p) (y := l.drop p) (y' := o ++ l.drop (nxs w l p 1)) hy (pth w l p) [] (l.take p) rfl (by rw [← e, hl]; exact q)
  rw [hl] at z
  unfold pu
  rw [List.append_assoc]
  exact z
end Mth
end
section
set_option Elab.async false
set_option linter.all false
set_option maxRecDepth 100000
set_option maxHeartbeats 2000000
set_option autoImplicit false
namespace Mth
variable {α : Type} (w : α → Nat)
/-- what stands so far: n branches are still wanted -/
def Pre (l : List α) (n : Nat) : Prop := ∀ r, forest w r n = true → forest w (l ++ r) 1 = true
theorem Pre.nil : Pre w ([] : List α) 1 := fun _ h => h
theorem Pre.snoc {l : List α} {n : Nat} {k : α} (h : Pre w l (n + 1)) : Pre w (l ++ [k]) (w k + n) := fun r hr => by
  rw [List.append_assoc]
  exact h (k :: r) hr
theorem Pre.done {l : List α} (h : Pre w l 0) : forest w l 1 = true := by
  have q := h [] rfl
  rw [List.append_nil] at q
  exact q
theorem rep1 {a : α} (ha : w a = 1) (r : List α) (n : Nat) : ∀ k, forest w (List.replicate k a ++ r) (n + 1) = forest w r (n + 1)
  | 0 => rfl
  | k + 1 => by
    show forest w (List.replicate k a ++ r) (w a + n) = _
    rw [ha, Nat.add_comm 1 n]
    exact rep1 ha r n k
theorem rep2 {a b : α} (ha : w a = 2) (hb : w b = 0) (r : List α) (n : Nat) : ∀ k, forest w ((List.replicate k [a, b]).flatten ++ r) (n + 1) = forest w r (n + 1)
  | 0 => rfl
  | k + 1 => by
    rw [List.replicate_succ, List.flatten_cons, List.append_assoc]
    show forest w (b :: ((List.replicate k [a, b]).flatten ++ r)) (w a + n) = _
    rw [ha, show 2 + n = (n + 1) + 1 by omega]
    show forest w ((List.replicate k [a, b]).flatten ++ r) (w b + (n + 1)) = _
    rw [hb, Nat.zero_add]
    exact rep2 ha hb r n k
theorem rep3 {a : α} (ha : w a = 2) (r : List α) : ∀ (k n : Nat), forest w (List.replicate k a ++ r) (n + 1) = forest w r (n + 1 + k)
  | 0, n => rfl
  | k + 1, n => by
    show forest w (List.replicate k a ++ r) (w a + n) = _
    rw [ha, show 2 + n = (n + 1) + 1 by omega, rep3 ha r k (n + 1)]
    congr 1
    omega
theorem rep4 {b : α} (hb : w b = 0) : ∀ k, forest w (List.replicate k b) k = true
  | 0 => rfl
  | k + 1 => by
    show forest w (List.replicate k b) (w b + k) = true
    rw [hb, Nat.zero_add]
    exact rep4 hb k
end Mth
namespace Sh
open PySem PySem.Spec PyProof.Rows L2
open C8 (pss_cut tCut)
open Evl (ixN_nat)
theorem row_mem {rows : List Row} {m : Int} (R : ROk m rows) {q : Row} (h : q ∈ rows) : ((wR rows q.1 : Nat) : Int) = q.2 := by
  obtain ⟨i, hi, e⟩ := List.mem_iff_getElem.mp h
  rw [← e]
  exact row_at R hi
def spLawPlant : Sp := fun vs H Q _ => ∃ (a r : Addr) (rows : List Row) (m : Nat), vs = [.ref a, .ref r, .int ((m : Nat) : Int), .bl false] ∧ BagAt H a ∧ r ≠ a ∧ RowsAt H r rows ∧ ROk 8 rows ∧ 1 ≤ m ∧ m ≤ 100 ∧
  ∀ H' t l, Kp a H H' → BagAt H' a → Tz H' t (l.map V.str) → PlantOk rows l → l.length ≤ m → Q (.ref t) H'
theorem take_filter {α : Type} (p : α → Bool) {l : List α} {i : Nat} {x : α} (h : l[i]? = some x) : (l.take (i + 1)).filter p = (l.take i).filter p ++ if p x = true then [x] else [] := by
  rw [← take_snoc h, List.filter_append, List.filter_cons, List.filter_nil]
theorem TupsAt.nil {H : Hp} : TupsAt H [] [] := ⟨rfl, fun i t q a => by simp at a⟩
theorem Kp.free {a p : Addr} {H H1 : Hp} (x : Kp a H H1) (b : BagAt H a) (h : H1 p = none) (b1 : BagAt H1 a) : H p = none := x.free_of h (Kp.bag_ne b1 h)
structure LF (a mu pl : Addr) (H H' : Hp) (ts : List Addr) (rows : List Row) (l : List Str) : Prop where
  k : Kp a H H'
  b : BagAt H' a
  m : H' mu = some (.lst (ts.map V.ref))
  t : TupsAt H' ts rows
  p : H' pl = some (.lst (l.map V.str))
theorem LF.new {a mu pl p : Addr} {H H' : Hp} {ts : List Addr} {rows : List Row} {l : List Str} {o : HO} (x : LF a mu pl H H' ts rows l) (h : H' p = none) : LF a mu pl H (upd H' p o) ts rows l :=
  ⟨x.k.upd_new h, x.b.upd_ne (Kp.bag_ne x.b h), by rw [upd_ne (ne_of_none x.m h)]; exact x.m, x.t.keep (TK.new h), by rw [upd_ne (ne_of_none x.p h)]; exact x.p⟩
theorem LF.own {a mu pl p : Addr} {H H' : Hp} {ts : List Addr} {rows : List Row} {l : List Str} {o : HO} {ys : List V} (x : LF a mu pl H H' ts rows l) (h : H p = none) (n1 : p ≠ a) (n2 : p ≠ mu) (n3 : p ≠ pl) (hp : H' p = some (.lst ys)) : LF a mu pl H (upd H' p o) ts rows l :=
  ⟨x.k.upd_own h, x.b.upd_ne n1, by rw [upd_ne n2.symm]; exact x.m, x.t.keep (TK.lst hp), by rw [upd_ne n3.symm]; exact x.p⟩
theorem LF.kp {a mu pl : Addr} {H H' H2 : Hp} {ts : List Addr} {rows : List Row} {l : List Str} (x : LF a mu pl H H' ts rows l) (k : Kp a H' H2) (b : BagAt H2 a) (n2 : mu ≠ a) (n3 : pl ≠ a) : LF a mu pl H H2 ts rows l :=
  ⟨x.k.trans k, b, k _ _ x.m n2, x.t.keep (k.tk x.b), k _ _ x.p n3⟩
abbrev s_law_plant : Stmt := top 48
abbrev N_law_plant : List Str := ["bag", "rows", "most", "with_holes", "menu", "least", "plant", "need", "k", "room", "let", "wide", "chosen", "row"]
theorem sc_law_plant : FnScope N_law_plant ["bag", "rows", "most", "with_holes"] (defScope s_law_plant) := ⟨rfl, rfl, rfl, by decide +kernel, rfl, by decide +kernel, by decide +kernel⟩
section
variable {P : Program} {w : World} {K : PySem.W.Frag} {mg : Str → Option Value} {base : Heap} {C CT : Addr}
theorem ok_law_plant (T : Bl mg) (c_law_draw : DefOk P w K mg base CX0 1 "_law_draw" spDraw) (D : Def0 K mg "_law_plant" s_law_plant) : DefOk P w K mg base CX0 2 "_law_plant" spLawPlant := by
  refine D.ok sc_law_plant (fun vs H Q E h => ?_) (fun _ _ _ _ _ _ us hl => match us, hl with | [_, _, _, _], _ => rfl) (fun f cdv A outer s H vs Q E hr h => ?_)
  · obtain ⟨a, r, rows, m, rfl, _⟩ := h
    rfl
  · obtain ⟨a, r, rows, m, rfl, bA, nra, ⟨ts, hR, hT⟩, R, m1, m2, k⟩ := h
    have R8 : rows.length ≤ 8 := by have := R.len; omega
    refine ⟨_, (pss_cons (ps_set (i := 4) sc_law_plant.nd rfl (Or.inl rfl) (pe_callTy call_list_of (by rfl) T.b_list (by decide +kernel) (pa_cons (pv 1) pa_nil)))
      (pss_cut (ps_if (pt_val (pv 3))
        (pss_one (ps_expr (pe_bm PySem.F.plainAttrs_list PySem.F.slot_list_append PySem.F.type_list_append mt_append (pv 4) (pa_cons (pe_tup (pa_cons pe_str (pa_cons pe_int pa_nil))) pa_nil))))
        pss_nil)
      (pss_cons (ps_set (i := 5) sc_law_plant.nd rfl (Or.inl rfl) (pe_d c_law_draw (hr.mono (by decide)) pass0 (pa_cons (pv 0) (pa_cons (pe_op op_add (pv 2) pe_int) pa_nil))))
      (pss_cons (ps_set (i := 6) sc_law_plant.nd rfl (Or.inl rfl) (pe_lst pa_nil))
      (pss_cons (ps_set (i := 7) sc_law_plant.nd rfl (Or.inl rfl) pe_int)
      (pss_cons (ps_for PassesOwn.never rfl (pi_range1 (by rfl) T.b_range (pa_cons (pv 2) pa_nil)) (pg_name (i := 8) sc_law_plant.nd rfl (Or.inl rfl))
        (pss_one (ps_if (pt_cmpR op_gt (pv 7) pe_int (nomark _))
          (pss_cons (ps_set (i := 9) sc_law_plant.nd rfl (Or.inr rfl) (pe_op op_sub (pe_op op_sub (pv 2) (pe_callB call_len_seq (by rfl) T.b_len boot_len (pa_cons (pv 6) pa_nil))) (pv 7)))
          (pss_cons (ps_setLc (i := 10) (own := [("row", 13)]) (g := (gName 13)) rfl sc_law_plant.nd rfl rfl (sw_true rfl rfl rfl (by decide +kernel)) (pi_list (pv 4)) (blkOk_by (N := N_law_plant) (sc := defScope s_law_plant) (by decide +kernel)) (fun _ _ _ _ _ => (pg_name (i := 13) sc_law_plant.nd rfl (Or.inl rfl))) (fun _ _ _ _ _ => (pts_one (pt_cmpR op_le (pe_ix (show IxR _ (rIxT K) from ix_tup) (pv 13) pe_int (fun _ _ => rfl)) (pv 9) (nomark _)))) (fun _ _ _ _ _ => (pv 13)))
          (pss_cons (ps_setLc (i := 11) (own := [("row", 13)]) (g := (gName 13)) rfl sc_law_plant.nd rfl rfl (sw_true rfl rfl rfl (by decide +kernel)) (pi_list (pv 10)) (blkOk_by (N := N_law_plant) (sc := defScope s_law_plant) (by decide +kernel)) (fun _ _ _ _ _ => (pg_name (i := 13) sc_law_plant.nd rfl (Or.inl rfl))) (fun _ _ _ _ _ => (pts_one (pt_cmpR op_gt (pe_ix (show IxR _ (rIxT K) from ix_tup) (pv 13) pe_int (fun _ _ => rfl)) pe_int (nomark _)))) (fun _ _ _ _ _ => (pv 13)))
          (pss_cut (ps_if (PW.pt (pw_and (pt_truth (pv 11) (by intro _; rfl)) (pw_and (pt_cmpR op_eq (pv 7) pe_int (nomark _)) (pw_and1 (pt_cmpR op_lt (pe_op op_add (pe_callB call_len_seq (by rfl) T.b_len boot_len (pa_cons (pv 6) pa_nil)) pe_int) (pv 5) (nomark _))))))
            (pss_one (ps_set (i := 10) sc_law_plant.nd rfl (Or.inl rfl) (pv 11)))
            pss_nil)
          (pss_cons (ps_set (i := 12) sc_law_plant.nd rfl (Or.inl rfl) (pe_ix ix_list (pv 10) (pe_d c_law_draw (hr.mono (by decide)) pass0 (pa_cons (pv 0) (pa_cons (pe_callB call_len_seq (by rfl) T.b_len boot_len (pa_cons (pv 10) pa_nil)) pa_nil))) (fun _ _ => rfl)))
          (pss_cons (ps_expr (pe_bm PySem.F.plainAttrs_list PySem.F.slot_list_append PySem.F.type_list_append mt_append (pv 6) (pa_cons (pe_ix ix_tup (pv 12) pe_int (fun _ _ => rfl)) pa_nil)))
          (pss_one (ps_set (i := 7) sc_law_plant.nd rfl (Or.inl rfl) (pe_op op_sub (pe_op op_add (pv 7) (pe_ix ix_tup (pv 12) pe_int (fun _ _ => rfl))) pe_int)))))))))
          pss_nil)))
      (pss_one (ps_ret (pe_callTy call_tupleF (by rfl) T.b_tuple (by decide +kernel) (pa_cons (pv 6) pa_nil)))))))))), ?_⟩
    refine ⟨_, rfl, r, _, rfl, .inl (SqL.of hR), fun mu hmu => ?_⟩
    have nmu : mu ≠ a := Kp.bag_ne bA hmu
    have k1 := (Kp.refl a H).upd_new (o := .lst (ts.map V.ref)) hmu
    have b1 := bA.upd_ne (o := .lst (ts.map V.ref)) nmu
    have hTk : TK H (upd H mu (.lst (ts.map V.ref))) := TK.new hmu
    generalize e1 : upd H mu (.lst (ts.map V.ref)) = H1 at k1 b1 hTk
    have q1 : H1 mu = some (.lst (ts.map V.ref)) := by rw [← e1]; exact upd_same
    have hT1 := hT.keep hTk
    refine ⟨fun σ' H' => σ' = (L2.start N_law_plant [.ref a, .ref r, .int ((m : Nat) : Int), .bl false]).set 4 (some (.ref mu)) ∧ H' = H1, ?_, ?_⟩
    · refine ⟨_, rfl, _, rfl, ifn (by decide) ?_⟩
      exact ⟨rfl, rfl⟩
    rintro _ _ ⟨rfl, rfl⟩
    refine ⟨_, rfl, _, rfl, _, _, rfl, rfl, a, _, rfl, b1, by omega, by omega, fun H2 le k2 b2 l0 l1 => ?_⟩
    refine ⟨le_line (by decide), fun pl hpl => ?_⟩
    have nmu2 := k2 _ _ q1 nmu
    have L0 : LF a mu pl H (upd H2 pl (.lst [])) ts rows [] := ⟨(k1.trans k2).upd_new hpl, b2.upd_ne (Kp.bag_ne b2 hpl), by rw [upd_ne (ne_of_none nmu2 hpl)]; exact nmu2, (hT1.keep (k2.tk b1)).keep (TK.new hpl), upd_same⟩
    have npl : pl ≠ a := Kp.bag_ne b2 hpl
    have hplN : H pl = none := (k1.trans k2).free_of hpl npl
    have nmp : mu ≠ pl := ne_of_none nmu2 hpl
    refine ⟨_, rfl, _, rfl, by omega, by omega, ?_⟩
    rw [Int.toNat_natCast]
    refine for_range (fun i σ H' => ∃ (x8 x9 x10 x11 x12 x13 : Option V) (l : List Str) (n : Nat), σ = [some (.ref a), some (.ref r), some (.int ((m : Nat) : Int)), some (.bl false), some (.ref mu), some (.int le), some (.ref pl), some (.int ((n : Nat) : Int)), x8, x9, x10, x11, x12, x13] ∧
      LF a mu pl H H' ts rows l ∧ Mth.Pre (wR rows) l n ∧ (∀ z ∈ l, ∃ q ∈ rows, q.1 = z) ∧ l.length + n ≤ m ∧ (0 < n → l.length = i)) ?_ ?_ ?_
    · exact ⟨none, none, none, none, none, none, [], 1, rfl, L0, Mth.Pre.nil _, fun z h => by simp at h, by rw [List.length_nil]; omega, fun _ => rfl⟩
    · rintro i σ H3 hi ⟨x8, x9, x10, x11, x12, x13, l, n, rfl, L, Pr, hk, hln, hl⟩
      refine ⟨_, rfl, _, _, rfl, rfl, _, rfl, ?_⟩
      refine ite2 (fun h => ?_) (fun h => ?_)
      · have hn : 0 < n := by have := of_decide_eq_true h; omega
        have hle : l.length ≤ 100 := by omega
        refine ⟨_, rfl, _, rfl, pl, _, rfl, .inl (SqL.of L.p), _, _, rfl, rfl, _, rfl, _, _, rfl, rfl, ?_⟩
        dsimp only
        have hroomE : ((m : Nat) : Int) - (((l.map V.str).length : Nat) : Int) - ((n : Nat) : Int) = ((m : Nat) : Int) - ((l.length : Nat) : Int) - ((n : Nat) : Int) := by rw [List.length_map]
        generalize ((m : Nat) : Int) - (((l.map V.str).length : Nat) : Int) - ((n : Nat) : Int) = room at hroomE
        have hroom0 : 0 ≤ room := by omega
        refine ⟨_, rfl, mu, rfl, ⟨_, SqL.of L.m⟩, fun D hD => lc_it (walk_list (xs := ts.map V.ref)) (fun i H' => LF a mu pl H H' ts rows l ∧ ∃ ts', H' D = some (.lst (ts'.map V.ref)) ∧ TupsAt H' ts' ((rows.take i).filter fun q => decide (q.2 ≤ room))) ⟨L.new hD, [], upd_same, TupsAt.nil⟩ (fun i H' _ ⟨q, _⟩ => SqL.of q.m) ?_ ?_⟩
        · rintro j v H4 H5 hj ⟨L4, t1, d1, u1⟩ ⟨rfl, hv⟩
          have hjr : j < rows.length := by rw [List.length_map, hT.1] at hj; exact hj
          obtain ⟨t, w1, w2, w3⟩ := L4.t.at hjr
          rw [w2] at hv
          cases hv
          have nDa : D ≠ a := Kp.bag_ne L.b hD
          refine ⟨rfl, _, rfl, t, _, _, _, rfl, rfl, SqT.of w3, atI_nat (j := 1) rfl, _, rfl, _, _, rfl, rfl, _, rfl, ?_⟩
          refine ite2 (fun h2 => ?_) (fun h2 => ?_)
          · refine ⟨_, rfl, _, d1, ?_, L4.own (L.k.free_of hD nDa) nDa (ne_of_none L.m hD).symm (ne_of_none L.p hD).symm d1, t1 ++ [t], by rw [upd_same, List.map_append]; rfl, ?_⟩
            · rw [List.length_map, u1.1]
              exact lt_line (Nat.le_trans (List.length_filter_le _ _) (by rw [List.length_take]; omega))
            · rw [take_filter _ (List.getElem?_eq_getElem hjr), if_pos h2]
              exact (u1.keep (TK.lst d1)).snoc (TK.lst d1 _ _ w3)
          · refine ⟨L4, t1, d1, ?_⟩
            rw [take_filter _ (List.getElem?_eq_getElem hjr), if_neg h2, List.append_nil]
            exact u1
        · rintro H4 ⟨L4, t1, d1, u1⟩
          rw [List.length_map, hT.1, List.take_length] at u1
          have nDa : D ≠ a := Kp.bag_ne L.b hD
          have hDN : H D = none := L.k.free_of hD nDa
          have nDm := (ne_of_none L.m hD).symm
          have nDp := (ne_of_none L.p hD).symm
          generalize hls : (rows.filter fun q => decide (q.2 ≤ room)) = lr at u1
          have hl8 : lr.length ≤ 8 := by rw [← hls]; exact Nat.le_trans (List.length_filter_le _ _) R8
          refine ⟨_, rfl, D, rfl, ⟨_, SqL.of d1⟩, fun G hG => lc_it (walk_list (xs := t1.map V.ref)) (fun i H' => (LF a mu pl H H' ts rows l ∧ H' D = some (.lst (t1.map V.ref)) ∧ TupsAt H' t1 lr) ∧ ∃ t2, H' G = some (.lst (t2.map V.ref)) ∧ TupsAt H' t2 ((lr.take i).filter fun q => decide (0 < q.2))) ⟨⟨L4.new hG, by rw [upd_ne (ne_of_none d1 hG)]; exact d1, u1.keep (TK.new hG)⟩, [], upd_same, TupsAt.nil⟩ (fun i H' _ ⟨⟨_, q, _⟩, _⟩ => SqL.of q) ?_ ?_⟩
          · rintro j v H5 H6 hj ⟨⟨L5, d5, u5⟩, t2, g1, v1⟩ ⟨rfl, hv⟩
            have hjr : j < lr.length := by rw [List.length_map, u1.1] at hj; exact hj
            obtain ⟨t, w1, w2, w3⟩ := u5.at hjr
            rw [w2] at hv
            cases hv
            have nGa : G ≠ a := Kp.bag_ne L4.b hG
            have nGD : G ≠ D := (ne_of_none d1 hG).symm
            refine ⟨rfl, _, rfl, t, _, _, _, rfl, rfl, SqT.of w3, atI_nat (j := 1) rfl, _, _, rfl, rfl, _, rfl, ?_⟩
            refine ite2 (fun h2 => ?_) (fun h2 => ?_)
            · refine ⟨_, rfl, _, g1, ?_, ⟨L5.own (L4.k.free_of hG nGa) nGa (ne_of_none L4.m hG).symm (ne_of_none L4.p hG).symm g1, by rw [upd_ne nGD.symm]; exact d5, u5.keep (TK.lst g1)⟩, t2 ++ [t], by rw [upd_same, List.map_append]; rfl, ?_⟩
              · rw [List.length_map, v1.1]
                exact lt_line (Nat.le_trans (List.length_filter_le _ _) (by rw [List.length_take]; omega))
              · rw [take_filter _ (List.getElem?_eq_getElem hjr), if_pos h2]
                exact (v1.keep (TK.lst g1)).snoc (TK.lst g1 _ _ w3)
            · refine ⟨⟨L5, d5, u5⟩, t2, g1, ?_⟩
              rw [take_filter _ (List.getElem?_eq_getElem hjr), if_neg h2, List.append_nil]
              exact v1
          · rintro H5 ⟨⟨L5, d5, u5⟩, t2, g1, v1⟩
            rw [List.length_map, u1.1, List.take_length] at v1
            refine ⟨fun σ' H' => ∃ (D' : Addr) (t3 : List Addr) (sub : List Row), σ' = [some (.ref a), some (.ref r), some (.int ((m : Nat) : Int)), some (.bl false), some (.ref mu), some (.int le), some (.ref pl), some (.int ((n : Nat) : Int)), some (.int (0 + ((i : Nat) : Int))), some (.int room), some (.ref D'), some (.ref G), x12, x13] ∧ H' = H5 ∧ H5 D' = some (.lst (t3.map V.ref)) ∧ TupsAt H5 t3 sub ∧ sub ≠ [] ∧ (∀ q ∈ sub, q ∈ rows ∧ q.2 ≤ room) ∧ D' ≠ a ∧ sub.length ≤ 8, ?_, ?_⟩
            · have hne : lr ≠ [] := fun e => by
                obtain ⟨q, hq, e0⟩ := R.leaf
                have : q ∈ rows.filter fun q => decide (q.2 ≤ room) := List.mem_filter.mpr ⟨hq, decide_eq_true (by omega)⟩
                rw [hls, e] at this
                cases this
              have hin : ∀ q ∈ lr, q ∈ rows ∧ q.2 ≤ room := fun q hq => by
                rw [← hls] at hq
                obtain ⟨y1, y2⟩ := List.mem_filter.mp hq
                exact ⟨y1, of_decide_eq_true y2⟩
              have keep : ∃ (D' : Addr) (t3 : List Addr) (sub : List Row), [some (.ref a), some (.ref r), some (.int ((m : Nat) : Int)), some (.bl false), some (.ref mu), some (.int le), some (.ref pl), some (.int ((n : Nat) : Int)), some (.int (0 + ((i : Nat) : Int))), some (.int room), some (.ref D), some (.ref G), x12, x13] = [some (.ref a), some (.ref r), some (.int ((m : Nat) : Int)), some (.bl false), some (.ref mu), some (.int le), some (.ref pl), some (.int ((n : Nat) : Int)), some (.int (0 + ((i : Nat) : Int))), some (.int room), some (.ref D'), some (.ref G), x12, x13] ∧ H5 = H5 ∧ H5 D' = some (.lst (t3.map V.ref)) ∧ TupsAt H5 t3 sub ∧ sub ≠ [] ∧ (∀ q ∈ sub, q ∈ rows ∧ q.2 ≤ room) ∧ D' ≠ a ∧ sub.length ≤ 8 := ⟨D, t1, lr, rfl, rfl, d5, u5, hne, hin, nDa, hl8⟩
              refine ⟨_, rfl, _, .inl ⟨_, SqL.of g1, rfl⟩, ?_⟩
              refine ite2 (fun he => ?_) (fun _ => keep)
              refine ⟨_, rfl, rfl, _, rfl, ?_⟩
              refine ite2 (fun _ => ?_) (fun _ => keep)
              refine ⟨_, rfl, pl, _, rfl, .inl (SqL.of L5.p), _, _, rfl, rfl, _, rfl, _, _, rfl, rfl, _, rfl, ?_⟩
              refine ite2 (fun _ => ?_) (fun _ => keep)
              refine ⟨_, rfl, G, t2, _, rfl, rfl, g1, v1, fun e => ?_, fun q hq => hin q (List.mem_filter.mp hq).1, Kp.bag_ne L4.b hG, Nat.le_trans (List.length_filter_le _ _) hl8⟩
              have z := v1.1
              rw [e] at z
              rw [List.eq_nil_of_length_eq_zero z] at he
              cases he
            · rintro _ _ ⟨D', t3, sub, rfl, rfl, d3, u3, ne3, hs3, nDa', h8⟩
              have hsp : 0 < sub.length := List.length_pos_iff.mpr ne3
              refine ⟨_, rfl, _, rfl, _, rfl, D', _, rfl, .inl (SqL.of d3), a, ((sub.length : Nat) : Int), by rw [List.length_map, u3.1], L5.b, by omega, by omega, fun H6 j k6 b6 j0 j1 => ?_⟩
              have d6 := k6 _ _ d3 nDa'
              have hj : j.toNat < sub.length := by omega
              obtain ⟨t, w1, w2, w3⟩ := (u3.keep (k6.tk L5.b)).at hj
              refine ⟨D', _, _, _, rfl, rfl, SqL.of d6, at_ofG (j := j.toNat) (by omega) w2, ?_⟩
              have L6 := L5.kp k6 b6 nmu npl
              refine ⟨_, rfl, .inl ⟨rfl, _, SqL.of L6.p⟩, _, rfl, t, _, _, _, rfl, rfl, SqT.of w3, atI_nat (j := 0) rfl, pl, _, _, rfl, rfl, L6.p, lt_line (by rw [List.length_map]; omega), ?_⟩
              have w3' := TK.lst (o := .lst (l.map V.str ++ [V.str (sub[j.toNat]).1])) L6.p _ _ w3
              refine ⟨_, rfl, _, rfl, t, _, _, _, rfl, rfl, SqT.of w3', atI_nat (j := 1) rfl, _, _, rfl, rfl, _, _, rfl, rfl, ?_⟩
              obtain ⟨hq1, hq2⟩ := hs3 _ (List.getElem_mem hj)
              have hrm := row_mem R hq1
              obtain ⟨n', rfl⟩ : ∃ n', n = n' + 1 := ⟨n - 1, by omega⟩
              have en : (((n' + 1 : Nat) : Int)) + (sub[j.toNat]).2 - 1 = ((wR rows (sub[j.toNat]).1 + n' : Nat) : Int) := by omega
              have hl1 := hl hn
              refine ⟨_, _, _, _, _, _, l ++ [(sub[j.toNat]).1], wR rows (sub[j.toNat]).1 + n', by rw [← en]; rfl, ⟨L6.k.upd_own hplN, L6.b.upd_ne npl, by rw [upd_ne nmp]; exact L6.m, L6.t.keep (TK.lst L6.p), by rw [upd_same, List.map_append]; rfl⟩, Pr.snoc _, fun z hz => ?_, ?_, fun _ => ?_⟩
              · rcases List.mem_append.mp hz with h3 | h3
                · exact hk z h3
                · rw [List.mem_singleton.mp h3]
                  exact ⟨_, hq1, rfl⟩
              · rw [List.length_append, List.length_singleton]
                omega
              · rw [List.length_append, List.length_singleton]
                omega
      · have hn : n = 0 := by
          have q : ¬ (0 : Int) < ((n : Nat) : Int) := fun q => h (decide_eq_true q)
          omega
        exact ⟨_, _, _, _, _, _, l, n, rfl, L, Pr, hk, hln, fun q => absurd q (by omega)⟩
    · rintro σ H3 ⟨x8, x9, x10, x11, x12, x13, l, n, rfl, L, Pr, hk, hln, hl⟩
      have hn : n = 0 := by
        rcases Nat.eq_zero_or_pos n with h | h
        · exact h
        · have := hl h
          omega
      subst hn
      refine ⟨_, rfl, pl, _, rfl, SqL.of L.p, fun t o ht ho => ?_⟩
      exact k _ t l (L.k.upd_new ht) (L.b.upd_ne (Kp.bag_ne L.b ht)) ⟨o, upd_same, ho⟩ ⟨Pr.done _, hk, by omega⟩ (by omega)
end
end Sh
end
section
set_option Elab.async false
set_option linter.all false
set_option maxRecDepth 100000
set_option maxHeartbeats 2000000
set_option autoImplicit false
namespace Sh
open PySem PySem.Spec PyProof.Rows L2
open C8 (pss_cut tCut)
open Evl (ixN_nat)
theorem repG_of {K : PySem.W.Frag} {H : Hp} {l : Addr} {xs : List V} {k : Int} {Q : VK} (hl : Tq H l xs) (hne : xs ≠ []) (h0 : 0 ≤ k) (h1 : k ≤ 4000) (h2 : xs.length ≤ 100) (kk : ∀ r H', Same H H' → Tq H' r (List.replicate k.toNat xs).flatten → (k = 1 → r = l) → Q (.ref r) H') : rRepG K (.ref l) (.int k) H Q := by
  refine ⟨l, k, xs, rfl, rfl, hl.sq, hne, h0, h1, h2, fun e => kk l H (Same.refl H) ?_ (fun _ => rfl), fun e p hp => kk p _ ((Same.refl H).upd_new hp) (.of upd_same) (fun h => absurd h e)⟩
  subst e
  show Tq H l (xs ++ [])
  rw [List.append_nil]
  exact hl
theorem catF_of {K : PySem.W.Frag} {H : Hp} {a b : Addr} {xs ys : List V} {Q : VK} (ha : Tq H a xs) (hb : Tq H b ys) (hy : ys ≠ []) (hl : xs.length + ys.length ≤ 100000) (hz : xs = [] → Tz H b ys) (k : ∀ r H', Same H H' → Tz H' r (xs ++ ys) → Q (.ref r) H') : rCatF K (.ref a) (.ref b) H Q :=
  ⟨a, b, xs, ys, rfl, rfl, ha.sq, hb.sq, hy, le_line hl, fun e => k b H (Same.refl H) (by rw [e]; exact hz e), fun _ p o hp ho => k p _ ((Same.refl H).upd_new hp) ⟨o, upd_same, ho⟩⟩
def spLawSome (m : Nat) : Sp := fun vs H Q _ => ∃ (a r : Addr) (rows : List Row), vs = [.ref a, .ref r] ∧ BagAt H a ∧ r ≠ a ∧ RowsAt H r rows ∧ ROk 8 rows ∧
  ∀ H' t l, Kp a H H' → BagAt H' a → Tz H' t (l.map V.str) → PlantOk rows l → Q (.ref t) H'
/-- the names of the rows with a number -/
def nmsOf (rows : List Row) (c : Int) : List Str := (rows.filter fun q => decide (V.int q.2 = V.int c)).map (·.1)
theorem nmsOf_mem {rows : List Row} {m c : Int} (R : ROk m rows) {z : Str} (h : z ∈ nmsOf rows c) : (∃ q ∈ rows, q.1 = z) ∧ ((wR rows z : Nat) : Int) = c := by
  obtain ⟨q, hq, rfl⟩ := List.mem_map.mp h
  obtain ⟨h1, h2⟩ := List.mem_filter.mp hq
  exact ⟨⟨q, h1, rfl⟩, (row_mem R h1).trans (V.int.inj (of_decide_eq_true h2))⟩
theorem nmsOf_len (rows : List Row) (c : Int) : (nmsOf rows c).length ≤ rows.length := by
  unfold nmsOf
  rw [List.length_map]
  exact List.length_filter_le _ _
theorem bag_same {H H' : Hp} {a : Addr} (x : BagAt H a) (s : Same H H') : BagAt H' a := by
  obtain ⟨z0, z1, z2, z3, cs, x1, x2⟩ := x
  exact ⟨z0, z1, z2, z3, cs, s _ _ x1, x2⟩
abbrev s_law_long : Stmt := top 49
abbrev N_law_long : List Str := ["bag", "rows", "ones", "twos", "leaves", "leaf", "many", "shape", "row"]
theorem sc_law_long : FnScope N_law_long ["bag", "rows"] (defScope s_law_long) := ⟨rfl, rfl, rfl, by decide +kernel, rfl, by decide +kernel, by decide +kernel⟩
abbrev s_law_some_plant : Stmt := top 50
abbrev N_law_some_plant : List Str := ["bag", "rows", "size"]
theorem sc_law_some_plant : FnScope N_law_some_plant ["bag", "rows"] (defScope s_law_some_plant) := ⟨rfl, rfl, rfl, by decide +kernel, rfl, by decide +kernel, by decide +kernel⟩
section
variable {P : Program} {w : World} {K : PySem.W.Frag} {mg : Str → Option Value} {base : Heap} {C CT : Addr}
theorem ok_law_long (T : Bl mg) (c_law_draw : DefOk P w K mg base CX0 1 "_law_draw" spDraw) (D : Def0 K mg "_law_long" s_law_long) : DefOk P w K mg base CX0 2 "_law_long" (spLawSome 0) := by
  refine D.ok sc_law_long (fun vs H Q E h => ?_) (fun _ _ _ _ _ _ us hl => match us, hl with | [_, _], _ => rfl) (fun f cdv A outer s H vs Q E hr h => ?_)
  · obtain ⟨a, r, rows, rfl, _⟩ := h
    rfl
  · obtain ⟨a, r, rows, rfl, bA, nra, ⟨ts, hR, hT⟩, R, k⟩ := h
    have R8 : rows.length ≤ 8 := by have := R.len; omega
    refine ⟨_, (pss_cons (ps_setLc (i := 2) (own := [("row", 8)]) (g := (gName 8)) rfl sc_law_long.nd rfl rfl (sw_true rfl rfl rfl (by decide +kernel)) (pi_list (pv 1)) (blkOk_by (N := N_law_long) (sc := defScope s_law_long) (by decide +kernel)) (fun _ _ _ _ _ => (pg_name (i := 8) sc_law_long.nd rfl (Or.inl rfl))) (fun _ _ _ _ _ => (pts_one (pt_cmpR op_eq (pe_ix (show IxR _ (rIxT K) from ix_tup) (pv 8) pe_int (fun _ _ => rfl)) pe_int (nomark _)))) (fun _ _ _ _ _ => (pe_ix (show IxR _ (rIxT K) from ix_tup) (pv 8) pe_int (fun _ _ => rfl))))
      (pss_cons (ps_setLc (i := 3) (own := [("row", 8)]) (g := (gName 8)) rfl sc_law_long.nd rfl rfl (sw_true rfl rfl rfl (by decide +kernel)) (pi_list (pv 1)) (blkOk_by (N := N_law_long) (sc := defScope s_law_long) (by decide +kernel)) (fun _ _ _ _ _ => (pg_name (i := 8) sc_law_long.nd rfl (Or.inl rfl))) (fun _ _ _ _ _ => (pts_one (pt_cmpR op_eq (pe_ix (show IxR _ (rIxT K) from ix_tup) (pv 8) pe_int (fun _ _ => rfl)) pe_int (nomark _)))) (fun _ _ _ _ _ => (pe_ix (show IxR _ (rIxT K) from ix_tup) (pv 8) pe_int (fun _ _ => rfl))))
      (pss_cons (ps_setLc (i := 4) (own := [("row", 8)]) (g := (gName 8)) rfl sc_law_long.nd rfl rfl (sw_true rfl rfl rfl (by decide +kernel)) (pi_list (pv 1)) (blkOk_by (N := N_law_long) (sc := defScope s_law_long) (by decide +kernel)) (fun _ _ _ _ _ => (pg_name (i := 8) sc_law_long.nd rfl (Or.inl rfl))) (fun _ _ _ _ _ => (pts_one (pt_cmpR op_eq (pe_ix (show IxR _ (rIxT K) from ix_tup) (pv 8) pe_int (fun _ _ => rfl)) pe_int (nomark _)))) (fun _ _ _ _ _ => (pe_ix (show IxR _ (rIxT K) from ix_tup) (pv 8) pe_int (fun _ _ => rfl))))
      (pss_cons (ps_set (i := 5) sc_law_long.nd rfl (Or.inl rfl) (pe_ix ix_list (pv 4) (pe_d c_law_draw (hr.mono (by decide)) pass0 (pa_cons (pv 0) (pa_cons (pe_callB call_len_seq (by rfl) T.b_len boot_len (pa_cons (pv 4) pa_nil)) pa_nil))) (fun _ _ => rfl)))
      (pss_cons (ps_set (i := 6) sc_law_long.nd rfl (Or.inl rfl) (pe_ix ix_list (pe_lst (pa_cons pe_int (pa_cons pe_int (pa_cons (pe_op op_add pe_int (pe_d c_law_draw (hr.mono (by decide)) pass0 (pa_cons (pv 0) (pa_cons pe_int pa_nil)))) pa_nil)))) (pe_d c_law_draw (hr.mono (by decide)) pass0 (pa_cons (pv 0) (pa_cons pe_int pa_nil))) (fun _ _ => rfl)))
      (pss_cons (ps_set (i := 7) sc_law_long.nd rfl (Or.inl rfl) (pe_d c_law_draw (hr.mono (by decide)) pass0 (pa_cons (pv 0) (pa_cons pe_int pa_nil))))
      (pss_cut (ps_if (PW.pt (pw_and (pt_truth (pv 2) (by intro _; rfl)) (pw_and1 (PW.pt (pw_or (pt_cmpR op_eq (pv 7) pe_int (nomark _)) (pw_or1 (pt_not (pt_truth (pv 3) (by intro _; rfl)))))))))
        (pss_one (ps_ret (pe_op op_catF (pe_op op_repG (pe_tupF (pa_cons (pe_ix ix_list (pv 2) (pe_d c_law_draw (hr.mono (by decide)) pass0 (pa_cons (pv 0) (pa_cons (pe_callB call_len_seq (by rfl) T.b_len boot_len (pa_cons (pv 2) pa_nil)) pa_nil))) (fun _ _ => rfl)) pa_nil)) (pe_op op_sub (pv 6) pe_int)) (pe_tupF (pa_cons (pv 5) pa_nil)))))
        pss_nil)
      (pss_cut (ps_if (PW.pt (pw_and (pt_truth (pv 3) (by intro _; rfl)) (pw_and1 (pt_cmpR op_eq (pv 7) pe_int (nomark _)))))
        (pss_one (ps_ret (pe_op op_catF (pe_op op_repG (pe_tupF (pa_cons (pe_ix ix_list (pv 3) (pe_d c_law_draw (hr.mono (by decide)) pass0 (pa_cons (pv 0) (pa_cons (pe_callB call_len_seq (by rfl) T.b_len boot_len (pa_cons (pv 3) pa_nil)) pa_nil))) (fun _ _ => rfl)) (pa_cons (pv 5) pa_nil))) (pe_op op_fdiv (pe_op op_sub (pv 6) pe_int) pe_int)) (pe_tupF (pa_cons (pv 5) pa_nil)))))
        pss_nil)
      (pss_cut (ps_if (pt_truth (pv 3) (by intro _; rfl))
        (pss_one (ps_ret (pe_op op_catF (pe_op op_repG (pe_tupF (pa_cons (pe_ix ix_list (pv 3) (pe_d c_law_draw (hr.mono (by decide)) pass0 (pa_cons (pv 0) (pa_cons (pe_callB call_len_seq (by rfl) T.b_len boot_len (pa_cons (pv 3) pa_nil)) pa_nil))) (fun _ _ => rfl)) pa_nil)) (pe_op op_fdiv (pe_op op_sub (pv 6) pe_int) pe_int)) (pe_op op_repG (pe_tupF (pa_cons (pv 5) pa_nil)) (pe_op op_add (pe_op op_fdiv (pe_op op_sub (pv 6) pe_int) pe_int) pe_int)))))
        pss_nil)
      (pss_one (ps_ret (pe_tupF (pa_cons (pv 5) pa_nil))))))))))))), ?_⟩
    have s0 := Same.refl H
    refine ⟨_, rfl, r, rfl, ⟨_, SqL.of (s0 _ _ hR)⟩, fun D1 hD1 => lc_it (walk_list (xs := ts.map V.ref)) (fun i H' => Same H H' ∧ H' D1 = some (.lst ((((rows.take i).filter fun q => decide (V.int q.2 = V.int 1)).map (·.1)).map V.str))) ⟨s0.upd_new hD1, upd_same⟩ (fun i H' _ ⟨q, _⟩ => SqL.of (q _ _ hR)) ?_ ?_⟩
    · rintro j v H4 H5 hj ⟨s4, dv⟩ ⟨rfl, hv⟩
      have hjr : j < rows.length := by rw [List.length_map, hT.1] at hj; exact hj
      obtain ⟨t, w1, w2, w3⟩ := (hT.keep (TK.of_same s4)).at hjr
      rw [w2] at hv
      cases hv
      refine ⟨rfl, _, rfl, t, _, _, _, rfl, rfl, SqT.of w3, atI_nat (j := 1) rfl, rfl, _, rfl, ?_⟩
      refine ite2 (fun h2 => ?_) (fun h2 => ?_)
      · refine ⟨_, rfl, t, _, _, _, rfl, rfl, SqT.of w3, atI_nat (j := 0) rfl, _, dv, ?_, s4.upd_own (s0.free hD1), ?_⟩
        · rw [List.length_map, List.length_map]
          exact lt_line (Nat.le_trans (List.length_filter_le _ _) (by rw [List.length_take]; omega))
        · rw [upd_same, take_filter _ (List.getElem?_eq_getElem hjr), if_pos h2, List.map_append, List.map_append]
          rfl
      · refine ⟨s4, ?_⟩
        rw [take_filter _ (List.getElem?_eq_getElem hjr), if_neg h2, List.append_nil]
        exact dv
    rintro H1 ⟨s1, d1⟩
    rw [List.length_map, hT.1, List.take_length] at d1
    have nD1 : D1 ≠ a := fun e => Kp.bag_ne bA (s0.free hD1) e
    change H1 D1 = some (.lst ((nmsOf rows 1).map V.str)) at d1
    refine ⟨_, rfl, r, rfl, ⟨_, SqL.of (s1 _ _ hR)⟩, fun D2 hD2 => lc_it (walk_list (xs := ts.map V.ref)) (fun i H' => Same H H' ∧ H' D1 = some (.lst ((nmsOf rows 1).map V.str)) ∧ H' D2 = some (.lst ((((rows.take i).filter fun q => decide (V.int q.2 = V.int 2)).map (·.1)).map V.str))) ⟨s1.upd_new hD2, by rw [upd_ne (ne_of_none d1 hD2)]; exact d1, upd_same⟩ (fun i H' _ ⟨q, _⟩ => SqL.of (q _ _ hR)) ?_ ?_⟩
    · rintro j v H4 H5 hj ⟨s4, e1, dv⟩ ⟨rfl, hv⟩
      have hjr : j < rows.length := by rw [List.length_map, hT.1] at hj; exact hj
      obtain ⟨t, w1, w2, w3⟩ := (hT.keep (TK.of_same s4)).at hjr
      rw [w2] at hv
      cases hv
      refine ⟨rfl, _, rfl, t, _, _, _, rfl, rfl, SqT.of w3, atI_nat (j := 1) rfl, rfl, _, rfl, ?_⟩
      refine ite2 (fun h2 => ?_) (fun h2 => ?_)
      · refine ⟨_, rfl, t, _, _, _, rfl, rfl, SqT.of w3, atI_nat (j := 0) rfl, _, dv, ?_, s4.upd_own (s1.free hD2), by rw [upd_ne (ne_of_none d1 hD2)]; exact e1, ?_⟩
        · rw [List.length_map, List.length_map]
          exact lt_line (Nat.le_trans (List.length_filter_le _ _) (by rw [List.length_take]; omega))
        · rw [upd_same, take_filter _ (List.getElem?_eq_getElem hjr), if_pos h2, List.map_append, List.map_append]
          rfl
      · refine ⟨s4, e1, ?_⟩
        rw [take_filter _ (List.getElem?_eq_getElem hjr), if_neg h2, List.append_nil]
        exact dv
    rintro H2 ⟨s2, d1, d2⟩
    rw [List.length_map, hT.1, List.take_length] at d2
    have nD2 : D2 ≠ a := fun e => Kp.bag_ne bA (s1.free hD2) e
    change H2 D2 = some (.lst ((nmsOf rows 2).map V.str)) at d2
    refine ⟨_, rfl, r, rfl, ⟨_, SqL.of (s2 _ _ hR)⟩, fun D3 hD3 => lc_it (walk_list (xs := ts.map V.ref)) (fun i H' => Same H H' ∧ H' D1 = some (.lst ((nmsOf rows 1).map V.str)) ∧ H' D2 = some (.lst ((nmsOf rows 2).map V.str)) ∧ H' D3 = some (.lst ((((rows.take i).filter fun q => decide (V.int q.2 = V.int 0)).map (·.1)).map V.str))) ⟨s2.upd_new hD3, by rw [upd_ne (ne_of_none d1 hD3)]; exact d1, by rw [upd_ne (ne_of_none d2 hD3)]; exact d2, upd_same⟩ (fun i H' _ ⟨q, _⟩ => SqL.of (q _ _ hR)) ?_ ?_⟩
    · rintro j v H4 H5 hj ⟨s4, e1, e2, dv⟩ ⟨rfl, hv⟩
      have hjr : j < rows.length := by rw [List.length_map, hT.1] at hj; exact hj
      obtain ⟨t, w1, w2, w3⟩ := (hT.keep (TK.of_same s4)).at hjr
      rw [w2] at hv
      cases hv
      refine ⟨rfl, _, rfl, t, _, _, _, rfl, rfl, SqT.of w3, atI_nat (j := 1) rfl, rfl, _, rfl, ?_⟩
      refine ite2 (fun h2 => ?_) (fun h2 => ?_)
      · refine ⟨_, rfl, t, _, _, _, rfl, rfl, SqT.of w3, atI_nat (j := 0) rfl, _, dv, ?_, s4.upd_own (s2.free hD3), by rw [upd_ne (ne_of_none d1 hD3)]; exact e1, by rw [upd_ne (ne_of_none d2 hD3)]; exact e2, ?_⟩
        · rw [List.length_map, List.length_map]
          exact lt_line (Nat.le_trans (List.length_filter_le _ _) (by rw [List.length_take]; omega))
        · rw [upd_same, take_filter _ (List.getElem?_eq_getElem hjr), if_pos h2, List.map_append, List.map_append]
          rfl
      · refine ⟨s4, e1, e2, ?_⟩
        rw [take_filter _ (List.getElem?_eq_getElem hjr), if_neg h2, List.append_nil]
        exact dv
    rintro H3 ⟨s3, d1, d2, d3⟩
    rw [List.length_map, hT.1, List.take_length] at d3
    have nD3 : D3 ≠ a := fun e => Kp.bag_ne bA (s2.free hD3) e
    change H3 D3 = some (.lst ((nmsOf rows 0).map V.str)) at d3
    have b3 : BagAt H3 a := by
      obtain ⟨z0, z1, z2, z3, cs, x1, x2⟩ := bA
      exact ⟨z0, z1, z2, z3, cs, s3 _ _ x1, x2⟩
    have h3len : 0 < (nmsOf rows 0).length := by
      obtain ⟨q, hq, e0⟩ := R.leaf
      refine List.length_pos_iff.mpr fun e => ?_
      have : q.1 ∈ nmsOf rows 0 := List.mem_map.mpr ⟨q, List.mem_filter.mpr ⟨hq, decide_eq_true (by rw [e0])⟩, rfl⟩
      rw [e] at this
      cases this
    have n1 := nmsOf_len rows 1
    have n2 := nmsOf_len rows 2
    have n3 := nmsOf_len rows 0
    refine ⟨_, rfl, _, rfl, _, rfl, D3, _, rfl, .inl (SqL.of d3), a, (((nmsOf rows 0).length : Nat) : Int), by rw [List.length_map], b3, by omega, by omega, fun H4 j k4 b4 j0 j1 => ?_⟩
    have hj : j.toNat < (nmsOf rows 0).length := by omega
    refine ⟨D3, _, _, _, rfl, rfl, SqL.of (k4 _ _ d3 nD3), at_ofG (j := j.toNat) (by omega) (by rw [List.getElem?_map, List.getElem?_eq_getElem hj]; rfl), ?_⟩
    obtain ⟨lf1, lf2⟩ := nmsOf_mem R (List.getElem_mem hj)
    generalize (nmsOf rows 0)[j.toNat] = leaf at lf1 lf2
    have wl : wR rows leaf = 0 := by omega
    refine ⟨_, rfl, a, 1999, rfl, b4, by decide, by decide, fun H5 d k5 b5 q0 q1 => ?_⟩
    refine ⟨_, _, rfl, rfl, le_line (show 3 ≤ 100000 by decide), fun L hL => ?_⟩
    have nLa : L ≠ a := Kp.bag_ne b5 hL
    refine ⟨_, rfl, a, 3, rfl, b5.upd_ne nLa, by decide, by decide, fun H6 e k6 b6 e0 e3 => ?_⟩
    have dL := k6 _ _ upd_same nLa
    have k06 : Kp a H3 H6 := (k4.trans k5).trans (((Kp.refl a H5).upd_new hL).trans k6)
    obtain ⟨many, hmany, mn2, mn0⟩ : ∃ many : Int, ([V.int 2000, V.int 1999, V.int (2 + d)] : List V)[e.toNat]? = some (.int many) ∧ 2 ≤ many ∧ many ≤ 2000 := by
      have hh : ∀ j, j < 3 → ∃ many : Int, ([V.int 2000, V.int 1999, V.int (2 + d)] : List V)[j]? = some (.int many) ∧ 2 ≤ many ∧ many ≤ 2000 := by
        intro j hj
        match j, hj with
        | 0, _ => exact ⟨2000, rfl, by decide, by decide⟩
        | 1, _ => exact ⟨1999, rfl, by decide, by decide⟩
        | 2, _ => exact ⟨2 + d, rfl, by omega, by omega⟩
        | n + 3, h => exact absurd h (by omega)
      exact hh e.toNat (by omega)
    refine ⟨L, _, _, _, rfl, rfl, SqL.of dL, at_ofG (j := e.toNat) (by omega) hmany, ?_⟩
    refine ⟨_, rfl, a, 3, rfl, b6, by decide, by decide, fun H7 sh k7 b7 sh0 sh3 => ?_⟩
    have k37 := k06.trans k7
    have g1 := k37 _ _ d1 nD1
    have g2 := k37 _ _ d2 nD2
    have kH7 : Kp a H H7 := (Kp.same s3).trans k37
    obtain ⟨mm, rfl⟩ : ∃ mm : Nat, many = ((mm : Nat) : Int) := ⟨many.toNat, by omega⟩
    have mlf : (mm - 1) / 2 * 2 + 1 ≤ 2000 := by omega
    have hdv : (((mm : Nat) : Int) - 1) / 2 = (((mm - 1) / 2 : Nat) : Int) := by omega
    have base : ∀ (H8 : Hp) (t : Addr) (l : List Str), Kp a H7 H8 → BagAt H8 a → Tz H8 t (l.map V.str) → PlantOk rows l → Q (.ref t) H8 := fun H8 t l q b z o => k H8 t l (kH7.trans q) b z o
    have hfd : (((mm : Nat) : Int) - 1) / 2 = (((mm - 1) / 2 : Nat) : Int) := by omega
    refine ⟨fun σ' H' => σ' = [some (.ref a), some (.ref r), some (.ref D1), some (.ref D2), some (.ref D3), some (.str leaf), some (.int ((mm : Nat) : Int)), some (.int sh), none] ∧ H7 = H', ?_, ?_⟩
    · refine ⟨_, rfl, _, .inl ⟨_, SqL.of g1, rfl⟩, ?_⟩
      refine ite2 (fun he => ?_) (fun _ => ⟨rfl, rfl⟩)
      refine ⟨_, rfl, rfl, _, rfl, ?_⟩
      refine ite2 (fun h1 => ?_) (fun h1 => ?_)
      · refine ifp rfl ?_
        have hj : 0 < (nmsOf rows 1).length := by
          refine List.length_pos_iff.mpr fun e => ?_
          rw [e] at he
          cases he
        refine ⟨_, rfl, _, rfl, _, rfl, D1, _, rfl, .inl (SqL.of g1), a, (((nmsOf rows 1).length : Nat) : Int), by rw [List.length_map], b7, by omega, by omega, fun H8 j k8 b8 j0 j1 => ?_⟩
        have hj2 : j.toNat < (nmsOf rows 1).length := by omega
        refine ⟨D1, _, _, _, rfl, rfl, SqL.of (k8 _ _ g1 nD1), at_ofG (j := j.toNat) (by omega) (by rw [List.getElem?_map, List.getElem?_eq_getElem hj2]; rfl), ?_⟩
        obtain ⟨f1, f2⟩ := nmsOf_mem R (List.getElem_mem hj2)
        generalize (nmsOf rows 1)[j.toNat] = z at f1 f2
        have wz : wR rows z = 1 := by omega
        refine ⟨le_line (show 1 ≤ 100000 by decide), fun t o ht ho => ?_⟩
        have kt : Kp a H7 _ := k8.trans ((Kp.refl a H8).upd_new (o := .frz o (.tup [.str z])) ht)
        have bt := b8.upd_ne (o := .frz o (.tup [.str z])) (Kp.bag_ne b8 ht)
        have zt : Tz (upd H8 t (.frz o (.tup [.str z]))) t [.str z] := ⟨o, upd_same, ho⟩
        refine ⟨_, rfl, _, _, rfl, rfl, repG_of zt.q (fun e => nomatch e) (by omega) (by omega) (show 1 ≤ 100 by decide) (fun rr H9 s9 q9 _ => ?_)⟩
        refine ⟨_, rfl, le_line (show 1 ≤ 100000 by decide), fun t2 o2 ht2 ho2 => ?_⟩
        have k9 := kt.trans (Kp.same s9)
        have b9 := bag_same bt s9
        have s10 := (Same.refl H9).upd_new (o := .frz o2 (.tup [.str leaf])) ht2
        have z2 : Tz (upd H9 t2 (.frz o2 (.tup [.str leaf]))) t2 [.str leaf] := ⟨o2, upd_same, ho2⟩
        have ek : (((mm : Nat) : Int) - 1).toNat = mm - 1 := by omega
        rw [ek, List.flatten_replicate_singleton] at q9
        refine catF_of (q9.same s10) z2.q (fun e => nomatch e) (by rw [List.length_replicate, List.length_singleton]; omega) (fun _ => z2) (fun r2 H11 s11 q11 => ?_)
        have k11 := k9.trans (Kp.same (s10.trans s11))
        have b11 := bag_same b9 (s10.trans s11)
        refine base H11 r2 (List.replicate (mm - 1) z ++ [leaf]) k11 b11 (by rw [List.map_append, List.map_replicate]; exact q11) ⟨?_, fun y hy => ?_, by rw [List.length_append, List.length_replicate, List.length_singleton]; omega⟩
        · rw [Mth.rep1 _ wz [leaf] 0]
          show Mth.forest (wR rows) ([] : List Str) (wR rows leaf + 0) = true
          rw [wl]
          rfl
        · rcases List.mem_append.mp hy with h | h
          · rw [List.eq_of_mem_replicate h]
            exact f1
          · rw [List.mem_singleton.mp h]
            exact lf1
      · refine ⟨_, rfl, _, .inl ⟨_, SqL.of g2, rfl⟩, ?_⟩
        refine ite2 (fun h2 => ?_) (fun _ => ⟨rfl, rfl⟩)
        have hj : 0 < (nmsOf rows 1).length := by
          refine List.length_pos_iff.mpr fun e => ?_
          rw [e] at he
          cases he
        refine ⟨_, rfl, _, rfl, _, rfl, D1, _, rfl, .inl (SqL.of g1), a, (((nmsOf rows 1).length : Nat) : Int), by rw [List.length_map], b7, by omega, by omega, fun H8 j k8 b8 j0 j1 => ?_⟩
        have hj2 : j.toNat < (nmsOf rows 1).length := by omega
        refine ⟨D1, _, _, _, rfl, rfl, SqL.of (k8 _ _ g1 nD1), at_ofG (j := j.toNat) (by omega) (by rw [List.getElem?_map, List.getElem?_eq_getElem hj2]; rfl), ?_⟩
        obtain ⟨f1, f2⟩ := nmsOf_mem R (List.getElem_mem hj2)
        generalize (nmsOf rows 1)[j.toNat] = z at f1 f2
        have wz : wR rows z = 1 := by omega
        refine ⟨le_line (show 1 ≤ 100000 by decide), fun t o ht ho => ?_⟩
        have kt : Kp a H7 _ := k8.trans ((Kp.refl a H8).upd_new (o := .frz o (.tup [.str z])) ht)
        have bt := b8.upd_ne (o := .frz o (.tup [.str z])) (Kp.bag_ne b8 ht)
        have zt : Tz (upd H8 t (.frz o (.tup [.str z]))) t [.str z] := ⟨o, upd_same, ho⟩
        refine ⟨_, rfl, _, _, rfl, rfl, repG_of zt.q (fun e => nomatch e) (by omega) (by omega) (show 1 ≤ 100 by decide) (fun rr H9 s9 q9 _ => ?_)⟩
        refine ⟨_, rfl, le_line (show 1 ≤ 100000 by decide), fun t2 o2 ht2 ho2 => ?_⟩
        have k9 := kt.trans (Kp.same s9)
        have b9 := bag_same bt s9
        have s10 := (Same.refl H9).upd_new (o := .frz o2 (.tup [.str leaf])) ht2
        have z2 : Tz (upd H9 t2 (.frz o2 (.tup [.str leaf]))) t2 [.str leaf] := ⟨o2, upd_same, ho2⟩
        have ek : (((mm : Nat) : Int) - 1).toNat = mm - 1 := by omega
        rw [ek, List.flatten_replicate_singleton] at q9
        refine catF_of (q9.same s10) z2.q (fun e => nomatch e) (by rw [List.length_replicate, List.length_singleton]; omega) (fun _ => z2) (fun r2 H11 s11 q11 => ?_)
        have k11 := k9.trans (Kp.same (s10.trans s11))
        have b11 := bag_same b9 (s10.trans s11)
        refine base H11 r2 (List.replicate (mm - 1) z ++ [leaf]) k11 b11 (by rw [List.map_append, List.map_replicate]; exact q11) ⟨?_, fun y hy => ?_, by rw [List.length_append, List.length_replicate, List.length_singleton]; omega⟩
        · rw [Mth.rep1 _ wz [leaf] 0]
          show Mth.forest (wR rows) ([] : List Str) (wR rows leaf + 0) = true
          rw [wl]
          rfl
        · rcases List.mem_append.mp hy with h | h
          · rw [List.eq_of_mem_replicate h]
            exact f1
          · rw [List.mem_singleton.mp h]
            exact lf1
    rintro _ _ ⟨rfl, rfl⟩
    refine ⟨fun σ' H' => σ' = [some (.ref a), some (.ref r), some (.ref D1), some (.ref D2), some (.ref D3), some (.str leaf), some (.int ((mm : Nat) : Int)), some (.int sh), none] ∧ H7 = H', ?_, ?_⟩
    · refine ⟨_, rfl, _, .inl ⟨_, SqL.of g2, rfl⟩, ?_⟩
      refine ite2 (fun he => ?_) (fun _ => ⟨rfl, rfl⟩)
      refine ⟨_, rfl, rfl, _, rfl, ?_⟩
      refine ite2 (fun _ => ?_) (fun _ => ⟨rfl, rfl⟩)
      have hj : 0 < (nmsOf rows 2).length := by
        refine List.length_pos_iff.mpr fun e => ?_
        rw [e] at he
        cases he
      refine ⟨_, rfl, _, rfl, _, rfl, D2, _, rfl, .inl (SqL.of g2), a, (((nmsOf rows 2).length : Nat) : Int), by rw [List.length_map], b7, by omega, by omega, fun H8 j k8 b8 j0 j1 => ?_⟩
      have hj2 : j.toNat < (nmsOf rows 2).length := by omega
      refine ⟨D2, _, _, _, rfl, rfl, SqL.of (k8 _ _ g2 nD2), at_ofG (j := j.toNat) (by omega) (by rw [List.getElem?_map, List.getElem?_eq_getElem hj2]; rfl), ?_⟩
      obtain ⟨f1, f2⟩ := nmsOf_mem R (List.getElem_mem hj2)
      generalize (nmsOf rows 2)[j.toNat] = z at f1 f2
      have wz : wR rows z = 2 := by omega
      refine ⟨_, rfl, le_line (show 2 ≤ 100000 by decide), fun t o ht ho => ?_⟩
      have kt : Kp a H7 _ := k8.trans ((Kp.refl a H8).upd_new (o := .frz o (.tup [.str z, .str leaf])) ht)
      have bt := b8.upd_ne (o := .frz o (.tup [.str z, .str leaf])) (Kp.bag_ne b8 ht)
      have zt : Tz (upd H8 t (.frz o (.tup [.str z, .str leaf]))) t [.str z, .str leaf] := ⟨o, upd_same, ho⟩
      refine ⟨_, rfl, _, _, rfl, rfl, _, _, rfl, rfl, ⟨by decide, by decide⟩, ?_⟩
      dsimp only
      rw [hfd]
      refine repG_of zt.q (fun e => nomatch e) (by omega) (by omega) (show 2 ≤ 100 by decide) (fun rr H9 s9 q9 _ => ?_)
      refine ⟨_, rfl, le_line (show 1 ≤ 100000 by decide), fun t2 o2 ht2 ho2 => ?_⟩
      have k9 := kt.trans (Kp.same s9)
      have b9 := bag_same bt s9
      have s10 := (Same.refl H9).upd_new (o := .frz o2 (.tup [.str leaf])) ht2
      have z2 : Tz (upd H9 t2 (.frz o2 (.tup [.str leaf]))) t2 [.str leaf] := ⟨o2, upd_same, ho2⟩
      rw [Int.toNat_natCast] at q9
      have q9' : Tq H9 rr ((List.replicate ((mm - 1) / 2) [z, leaf]).flatten.map V.str) := by
        rw [List.map_flatten, List.map_replicate]
        exact q9
      have hlen9 : ((List.replicate ((mm - 1) / 2) [z, leaf]).flatten).length = (mm - 1) / 2 * 2 := by
        rw [List.length_flatten, List.map_replicate, List.sum_replicate_nat]
        rfl
      refine catF_of (xs := (List.replicate ((mm - 1) / 2) [z, leaf]).flatten.map V.str) (q9'.same s10) z2.q (fun e => nomatch e) (by rw [List.length_map, hlen9, List.length_singleton]; omega) (fun _ => z2) (fun r2 H11 s11 q11 => ?_)
      have k11 := k9.trans (Kp.same (s10.trans s11))
      have b11 := bag_same b9 (s10.trans s11)
      refine base H11 r2 ((List.replicate ((mm - 1) / 2) [z, leaf]).flatten ++ [leaf]) k11 b11 (by rw [List.map_append]; exact q11) ⟨?_, fun y hy => ?_, by rw [List.length_append, hlen9, List.length_singleton]; omega⟩
      · rw [Mth.rep2 _ wz wl [leaf] 0]
        show Mth.forest (wR rows) ([] : List Str) (wR rows leaf + 0) = true
        rw [wl]
        rfl
      · rcases List.mem_append.mp hy with h | h
        · obtain ⟨u, hu1, hu2⟩ := List.mem_flatten.mp h
          rw [List.eq_of_mem_replicate hu1] at hu2
          rcases List.mem_cons.mp hu2 with h | h
          · rw [h]
            exact f1
          · rw [List.mem_singleton.mp h]
            exact lf1
        · rw [List.mem_singleton.mp h]
          exact lf1
    rintro _ _ ⟨rfl, rfl⟩
    refine ⟨fun σ' H' => σ' = [some (.ref a), some (.ref r), some (.ref D1), some (.ref D2), some (.ref D3), some (.str leaf), some (.int ((mm : Nat) : Int)), some (.int sh), none] ∧ H7 = H', ?_, ?_⟩
    · refine ⟨_, rfl, _, .inl ⟨_, SqL.of g2, rfl⟩, ?_⟩
      refine ite2 (fun he => ?_) (fun _ => ⟨rfl, rfl⟩)
      have hj : 0 < (nmsOf rows 2).length := by
        refine List.length_pos_iff.mpr fun e => ?_
        rw [e] at he
        cases he
      refine ⟨_, rfl, _, rfl, _, rfl, D2, _, rfl, .inl (SqL.of g2), a, (((nmsOf rows 2).length : Nat) : Int), by rw [List.length_map], b7, by omega, by omega, fun H8 j k8 b8 j0 j1 => ?_⟩
      have hj2 : j.toNat < (nmsOf rows 2).length := by omega
      refine ⟨D2, _, _, _, rfl, rfl, SqL.of (k8 _ _ g2 nD2), at_ofG (j := j.toNat) (by omega) (by rw [List.getElem?_map, List.getElem?_eq_getElem hj2]; rfl), ?_⟩
      obtain ⟨f1, f2⟩ := nmsOf_mem R (List.getElem_mem hj2)
      generalize (nmsOf rows 2)[j.toNat] = z at f1 f2
      have wz : wR rows z = 2 := by omega
      refine ⟨le_line (show 1 ≤ 100000 by decide), fun t o ht ho => ?_⟩
      have kt : Kp a H7 _ := k8.trans ((Kp.refl a H8).upd_new (o := .frz o (.tup [.str z])) ht)
      have bt := b8.upd_ne (o := .frz o (.tup [.str z])) (Kp.bag_ne b8 ht)
      have zt : Tz (upd H8 t (.frz o (.tup [.str z]))) t [.str z] := ⟨o, upd_same, ho⟩
      refine ⟨_, rfl, _, _, rfl, rfl, _, _, rfl, rfl, ⟨by decide, by decide⟩, ?_⟩
      dsimp only
      rw [hfd]
      refine repG_of zt.q (fun e => nomatch e) (by omega) (by omega) (show 1 ≤ 100 by decide) (fun rr H9 s9 q9 _ => ?_)
      refine ⟨_, rfl, le_line (show 1 ≤ 100000 by decide), fun t2 o2 ht2 ho2 => ?_⟩
      have k9 := kt.trans (Kp.same s9)
      have b9 := bag_same bt s9
      have s10 := (Same.refl H9).upd_new (o := .frz o2 (.tup [.str leaf])) ht2
      have z2 : Tz (upd H9 t2 (.frz o2 (.tup [.str leaf]))) t2 [.str leaf] := ⟨o2, upd_same, ho2⟩
      rw [Int.toNat_natCast, List.flatten_replicate_singleton] at q9
      refine ⟨_, rfl, _, _, rfl, rfl, _, _, rfl, rfl, ⟨by decide, by decide⟩, _, _, rfl, rfl, ?_⟩
      dsimp only
      rw [hfd]
      refine repG_of z2.q (fun e => nomatch e) (by omega) (by omega) (show 1 ≤ 100 by decide) (fun r3 H10 s3' q3 hk1 => ?_)
      have ek : ((((mm - 1) / 2 : Nat) : Int) + 1).toNat = (mm - 1) / 2 + 1 := by omega
      rw [ek, List.flatten_replicate_singleton] at q3
      have s10 := s10.trans s3'
      refine catF_of (q9.same s10) q3 (fun e => nomatch e) (by rw [List.length_replicate, List.length_replicate]; omega) (fun e => ?_) (fun r2 H11 s11 q11 => ?_)
      · have ez : (mm - 1) / 2 = 0 := by
          have := congrArg List.length e
          rw [List.length_replicate] at this
          exact this
        rw [hk1 (by omega), ez]
        exact z2.same s3'
      have k11 := k9.trans (Kp.same (s10.trans s11))
      have b11 := bag_same b9 (s10.trans s11)
      refine base H11 r2 (List.replicate ((mm - 1) / 2) z ++ List.replicate ((mm - 1) / 2 + 1) leaf) k11 b11 (by rw [List.map_append, List.map_replicate, List.map_replicate]; exact q11) ⟨?_, fun y hy => ?_, by rw [List.length_append, List.length_replicate, List.length_replicate]; omega⟩
      · rw [Mth.rep3 _ wz _ _ 0, show 0 + 1 + (mm - 1) / 2 = (mm - 1) / 2 + 1 by omega]
        exact Mth.rep4 _ wl _
      · rcases List.mem_append.mp hy with h | h
        · rw [List.eq_of_mem_replicate h]
          exact f1
        · rw [List.eq_of_mem_replicate h]
          exact lf1
    rintro _ _ ⟨rfl, rfl⟩
    refine ⟨_, rfl, le_line (show 1 ≤ 100000 by decide), fun t o ht ho => ?_⟩
    refine base _ t [leaf] ((Kp.refl a H7).upd_new ht) (b7.upd_ne (Kp.bag_ne b7 ht)) ⟨o, upd_same, ho⟩ ⟨?_, fun y hy => ?_, show 1 ≤ 2000 by decide⟩
    · show Mth.forest (wR rows) ([] : List Str) (wR rows leaf + 0) = true
      rw [wl]
      rfl
    · rw [List.mem_singleton.mp hy]
      exact lf1
theorem ok_law_some_plant (T : Bl mg) (c_law_draw : DefOk P w K mg base CX0 1 "_law_draw" spDraw) (c_law_plant : DefOk P w K mg base CX0 2 "_law_plant" spLawPlant) (c_law_long : DefOk P w K mg base CX0 2 "_law_long" (spLawSome 0)) (D : Def0 K mg "_law_some_plant" s_law_some_plant) : DefOk P w K mg base CX0 3 "_law_some_plant" (spLawSome 0) := by
  refine D.ok sc_law_some_plant (fun vs H Q E h => ?_) (fun _ _ _ _ _ _ us hl => match us, hl with | [_, _], _ => rfl) (fun f cdv A outer s H vs Q E hr h => ?_)
  · obtain ⟨a, r, rows, rfl, _⟩ := h
    rfl
  · obtain ⟨a, r, rows, rfl, bA, nra, hR, R, k⟩ := h
    refine ⟨_, (pss_cons (ps_set (i := 2) sc_law_some_plant.nd rfl (Or.inl rfl) (pe_d c_law_draw (hr.mono (by decide)) pass0 (pa_cons (pv 0) (pa_cons pe_int pa_nil))))
      (pss_cons (ps_if (pt_cmpR op_eq (pv 2) pe_int (nomark _))
        (pss_one (ps_ret (pe_d c_law_long (hr.mono (by decide)) pass0 (pa_cons (pv 0) (pa_cons (pv 1) pa_nil)))))
        pss_nil)
      (pss_cons (ps_if (pt_cmpR op_lt (pv 2) pe_int (nomark _))
        (pss_one (ps_ret (pe_d c_law_plant (hr.mono (by decide)) pass0 (pa_cons (pv 0) (pa_cons (pv 1) (pa_cons (pe_op op_add pe_int (pe_d c_law_draw (hr.mono (by decide)) pass0 (pa_cons (pv 0) (pa_cons pe_int pa_nil)))) (pa_cons pe_bl pa_nil)))))))
        pss_nil)
      (pss_one (ps_ret (pe_d c_law_plant (hr.mono (by decide)) pass0 (pa_cons (pv 0) (pa_cons (pv 1) (pa_cons (pe_op op_add pe_int (pe_d c_law_draw (hr.mono (by decide)) pass0 (pa_cons (pv 0) (pa_cons pe_int pa_nil)))) (pa_cons pe_bl pa_nil)))))))))), ?_⟩
    have hRk : ∀ H', Kp a H H' → RowsAt H' r rows := fun H' q => by
      obtain ⟨ts, hR, hT⟩ := hR
      exact ⟨ts, q _ _ hR nra, hT.keep (q.tk bA)⟩
    refine ⟨_, rfl, a, 16, rfl, bA, by decide, by decide, fun H1 d k1 b1 d0 d1 => ?_⟩
    refine ⟨_, rfl, rfl, _, rfl, ?_⟩
    refine ite2 (fun h1 => ?_) (fun h1 => ?_)
    · exact ⟨_, rfl, _, rfl, a, r, rows, rfl, b1, nra, hRk _ k1, R, fun H2 t l k2 b2 z o => k H2 t l (k1.trans k2) b2 z o⟩
    refine ⟨_, rfl, _, _, rfl, rfl, _, rfl, ?_⟩
    refine ite2 (fun h2 => ?_) (fun h2 => ?_)
    · refine ⟨_, rfl, _, rfl, _, rfl, a, 60, rfl, b1, by decide, by decide, fun H2 e k2 b2 e0 e1 => ?_⟩
      refine ⟨_, _, rfl, rfl, a, r, rows, (1 + e).toNat, ?_, b2, nra, hRk _ (k1.trans k2), R, by omega, by omega, fun H3 t l k3 b3 z o _ => k H3 t l ((k1.trans k2).trans k3) b3 z o⟩
      rw [show (((1 + e).toNat : Nat) : Int) = 1 + e by omega]
    · refine ⟨_, rfl, _, rfl, _, rfl, a, 9, rfl, b1, by decide, by decide, fun H2 e k2 b2 e0 e1 => ?_⟩
      refine ⟨_, _, rfl, rfl, a, r, rows, (1 + e).toNat, ?_, b2, nra, hRk _ (k1.trans k2), R, by omega, by omega, fun H3 t l k3 b3 z o _ => k H3 t l ((k1.trans k2).trans k3) b3 z o⟩
      rw [show (((1 + e).toNat : Nat) : Int) = 1 + e by omega]
end
end Sh
end
section
set_option Elab.async false
set_option linter.all false
set_option maxRecDepth 100000
set_option maxHeartbeats 2000000
set_option autoImplicit false
namespace Sh
open PySem PySem.Spec PyProof.Rows L2
open C8 (pss_cut tCut)
open Evl (ixN_nat)
/-- two values that _law_same takes as the same, of at most n layers -/
def Eqs : Nat → Hp → V → V → Prop
  | 0, _, _, _ => False
  | n + 1, H, v, u => (∃ i, v = .int i ∧ u = .int i) ∨ (∃ z : Str, v = .str z ∧ u = .str z) ∨
    ∃ (a b : Addr) (xs ys : List V), v = .ref a ∧ u = .ref b ∧ Tq H a xs ∧ Tq H b ys ∧ xs.length = ys.length ∧ xs.length ≤ 100000 ∧ ∀ (i : Nat) (x y : V), xs[i]? = some x → ys[i]? = some y → Eqs n H x y
theorem Eqs.same : ∀ {n : Nat} {H H' : Hp} {v u : V}, Eqs n H v u → Same H H' → Eqs n H' v u
  | 0, _, _, _, _, h, _ => h
  | n + 1, H, H', v, u, h, s => by
    rcases h with h | h | ⟨a, b, xs, ys, e1, e2, h1, h2, h3, h4, h5⟩
    · exact .inl h
    · exact .inr (.inl h)
    · exact .inr (.inr ⟨a, b, xs, ys, e1, e2, h1.same s, h2.same s, h3, h4, fun i x y p q => (h5 i x y p q).same s⟩)
def spSame (n : Nat) : Sp := fun vs H Q _ => ∃ v u, vs = [v, u] ∧ Eqs n H v u ∧ ∀ H', Same H H' → Q (.bl true) H'
theorem tyx_tup {K : PySem.W.Frag} {H : Hp} {a : Addr} {xs : List V} (h : Tq H a xs) : TyX K H (.ref a) (.type "tuple") := by
  rcases h with h | ⟨o, h⟩
  · exact .base (.tup h)
  · exact .fTuple h
abbrev s_law_same : Stmt := top 53
abbrev N_law_same : List Str := ["told", "due", "k"]
theorem sc_law_same : FnScope N_law_same ["told", "due"] (defScope s_law_same) := ⟨rfl, rfl, rfl, by decide +kernel, rfl, by decide +kernel, by decide +kernel⟩
section
variable {P : Program} {w : World} {K : PySem.W.Frag} {mg : Str → Option Value} {base : Heap} {C CT : Addr}
theorem ok_law_same (T : Bl mg) (D : Def0 K mg "_law_same" s_law_same) : ∀ n, DefOk P w K mg base CX0 n "_law_same" (spSame n)
  | 0 => by
    obtain ⟨f, fd, hm, F⟩ := D
    exact ⟨f, hm, F.kp, fun A outer s H us vs Q E hr e0 r hs => by obtain ⟨v, u, _, h, _⟩ := hs; exact h.elim⟩
  | n + 1 => by
    have c_law_same := ok_law_same T D n
    refine D.ok sc_law_same (fun vs H Q E h => ?_) (fun _ _ _ _ _ _ us hl => match us, hl with | [_, _], _ => rfl) (fun f cdv A outer s H vs Q E hr h => ?_)
    · obtain ⟨v, u, rfl, _⟩ := h
      rfl
    · obtain ⟨v, u, rfl, hE, k⟩ := h
      refine ⟨_, (pss_cons (ps_if (pt_cmpR op_isN (pv 1) pe_non (nomark _))
          (pss_one (ps_ret (pe_cmpR op_isN (pv 0) pe_non (nomark _))))
          pss_nil)
        (pss_cons (ps_if (pt_val (pe_callB call_isi (by rfl) T.b_isinstance (by decide +kernel) (pa_cons (pv 1) (pa_cons (pe_bltn (v := .ty "tuple") (by rfl) T.b_tuple boot_tuple rfl) pa_nil))))
          (pss_cons (ps_if (PW.pt (pw_or (pt_not (pt_val (pe_callB call_isi (by rfl) T.b_isinstance (by decide +kernel) (pa_cons (pv 0) (pa_cons (pe_bltn (v := .ty "tuple") (by rfl) T.b_tuple boot_tuple rfl) pa_nil))))) (pw_or1 (pt_cmpR op_ne (pe_callB call_len_seq (by rfl) T.b_len boot_len (pa_cons (pv 0) pa_nil)) (pe_callB call_len_seq (by rfl) T.b_len boot_len (pa_cons (pv 1) pa_nil)) (nomark _)))))
            (pss_one (ps_ret pe_bl))
            pss_nil)
          (pss_cons (ps_for PassesOwn.never rfl (pi_range1 (by rfl) T.b_range (pa_cons (pe_callB call_len_seq (by rfl) T.b_len boot_len (pa_cons (pv 1) pa_nil)) pa_nil)) (pg_name (i := 2) sc_law_same.nd rfl (Or.inl rfl))
            (pss_one (ps_if (pt_not (pt_val (pe_d c_law_same hr pass0 (pa_cons (pe_ix ix_tup (pv 0) (pv 2) (fun _ _ => rfl)) (pa_cons (pe_ix ix_tup (pv 1) (pv 2) (fun _ _ => rfl)) pa_nil)))))
              (pss_one (ps_ret pe_bl))
              pss_nil)))
          (pss_one (ps_ret pe_bl))))
          pss_nil)
        (pss_cons (ps_if (pt_val (pe_callB call_isi (by rfl) T.b_isinstance (by decide +kernel) (pa_cons (pv 1) (pa_cons (pe_bltn (v := .ty "bool") (by rfl) T.b_bool boot_bool rfl) pa_nil))))
          (pss_one (ps_ret (pe_and (pe_callB call_isi (by rfl) T.b_isinstance (by decide +kernel) (pa_cons (pv 0) (pa_cons (pe_bltn (v := .ty "bool") (by rfl) T.b_bool boot_bool rfl) pa_nil))) (pe_one (pe_cmpR op_eq (pv 0) (pv 1) (nomark _))))))
          pss_nil)
        (pss_cons (ps_if (pt_val (pe_callB call_isi (by rfl) T.b_isinstance (by decide +kernel) (pa_cons (pv 1) (pa_cons (pe_bltn (v := .ty "int") (by rfl) T.b_int boot_int rfl) pa_nil))))
          (pss_one (ps_ret (pe_and (pe_callB call_isi (by rfl) T.b_isinstance (by decide +kernel) (pa_cons (pv 0) (pa_cons (pe_bltn (v := .ty "int") (by rfl) T.b_int boot_int rfl) pa_nil))) (pe_and (pe_not (pe_callB call_isi (by rfl) T.b_isinstance (by decide +kernel) (pa_cons (pv 0) (pa_cons (pe_bltn (v := .ty "bool") (by rfl) T.b_bool boot_bool rfl) pa_nil)))) (pe_one (pe_cmpR op_eq (pv 0) (pv 1) (nomark _)))))))
          pss_nil)
        (pss_one (ps_ret (pe_and (pe_callB call_isi (by rfl) T.b_isinstance (by decide +kernel) (pa_cons (pv 0) (pa_cons (pe_bltn (v := .ty "str") (by rfl) T.b_str boot_str rfl) pa_nil))) (pe_one (pe_cmpR op_eq (pv 0) (pv 1) (nomark _)))))))))), ?_⟩
      rcases hE with ⟨i, rfl, rfl⟩ | ⟨z, rfl, rfl⟩ | ⟨a, b, xs, ys, rfl, rfl, h1, h2, h3, h4, h5⟩
      · refine ⟨_, rfl, rfl, _, rfl, ?_⟩
        refine ifn (fun e => by cases of_decide_eq_true e) ?_
        refine ⟨_, rfl, _, _, _, _, false, rfl, .ty _, .base (.int _), rfl, _, rfl, ?_⟩
        refine ifn (by decide) ?_
        refine ⟨_, rfl, _, _, _, _, false, rfl, .ty _, .base (.int _), rfl, _, rfl, ?_⟩
        refine ifn (by decide) ?_
        refine ⟨_, rfl, _, _, _, _, true, rfl, .ty _, .base (.int _), rfl, _, rfl, ?_⟩
        refine ifp rfl ?_
        refine ⟨_, rfl, _, _, _, _, true, rfl, .ty _, .base (.int _), rfl, _, rfl, ?_⟩
        refine ifp rfl ?_
        refine ⟨_, rfl, _, _, _, _, false, rfl, .ty _, .base (.int _), rfl, _, rfl, _, rfl, ?_⟩
        refine ifp rfl ?_
        refine ⟨_, rfl, _, rfl, rfl, ?_⟩
        rw [decide_eq_true rfl]
        exact k _ (Same.refl H)
      · refine ⟨_, rfl, rfl, _, rfl, ?_⟩
        refine ifn (fun e => by cases of_decide_eq_true e) ?_
        refine ⟨_, rfl, _, _, _, _, false, rfl, .ty _, .base (.str _), rfl, _, rfl, ?_⟩
        refine ifn (by decide) ?_
        refine ⟨_, rfl, _, _, _, _, false, rfl, .ty _, .base (.str _), rfl, _, rfl, ?_⟩
        refine ifn (by decide) ?_
        refine ⟨_, rfl, _, _, _, _, false, rfl, .ty _, .base (.str _), rfl, _, rfl, ?_⟩
        refine ifn (by decide) ?_
        refine ⟨_, rfl, _, _, _, _, true, rfl, .ty _, .base (.str _), rfl, _, rfl, ?_⟩
        refine ifp rfl ?_
        refine ⟨_, rfl, _, rfl, rfl, ?_⟩
        rw [decide_eq_true rfl]
        exact k _ (Same.refl H)
      · refine ⟨_, rfl, rfl, _, rfl, ?_⟩
        refine ifn (fun e => by cases of_decide_eq_true e) ?_
        refine ⟨_, rfl, _, _, _, _, true, rfl, .ty _, tyx_tup h2, rfl, _, rfl, ?_⟩
        refine ifp rfl ?_
        refine ⟨_, rfl, _, _, _, _, true, rfl, .ty _, tyx_tup h1, rfl, _, rfl, ?_⟩
        refine ifn (by decide) ?_
        refine ⟨_, rfl, a, _, rfl, .inr h1.sq, _, rfl, b, _, rfl, .inr h2.sq, rfl, _, rfl, ?_⟩
        rw [h3, decide_eq_true rfl]
        refine ifn (by decide) ?_
        refine ⟨_, rfl, b, _, rfl, .inr h2.sq, _, rfl, by omega, by omega, ?_⟩
        rw [Int.toNat_natCast]
        refine for_range (fun i σ H' => ∃ x : Option V, σ = [some (.ref a), some (.ref b), x] ∧ Same H H') ⟨none, rfl, Same.refl H⟩ ?_ ?_
        · rintro i σ H1 hi ⟨x, rfl, s1⟩
          have hx : i < xs.length := by omega
          refine ⟨_, rfl, _, rfl, a, _, _, _, rfl, rfl, (h1.same s1).sq, at_ofG (j := i) (by omega) (List.getElem?_eq_getElem hx), _, rfl, _, rfl, b, _, _, _, rfl, rfl, (h2.same s1).sq, at_ofG (j := i) (by omega) (List.getElem?_eq_getElem hi), ?_⟩
          refine ⟨_, _, rfl, (h5 i _ _ (List.getElem?_eq_getElem hx) (List.getElem?_eq_getElem hi)).same s1, fun H2 s2 => ?_⟩
          refine ⟨_, rfl, ifn (by decide) ?_⟩
          exact ⟨_, rfl, s1.trans s2⟩
        · rintro σ H1 ⟨x, rfl, s1⟩
          exact k _ s1
end
end Sh
end
section
set_option Elab.async false
set_option linter.all false
set_option maxRecDepth 100000
set_option maxHeartbeats 2000000
set_option autoImplicit false
namespace Sh
open PySem PySem.Spec PyProof.Rows L2
open C8 (pss_cut tCut)
open Evl (ixN_nat)
theorem Eqs.succ : ∀ {n : Nat} {H : Hp} {v u : V}, Eqs n H v u → Eqs (n + 1) H v u
  | 0, _, _, _, h => h.elim
  | n + 1, H, v, u, h => by
    rcases h with h | h | ⟨a, b, xs, ys, e1, e2, h1, h2, h3, h4, h5⟩
    · exact .inl h
    · exact .inr (.inl h)
    · exact .inr (.inr ⟨a, b, xs, ys, e1, e2, h1, h2, h3, h4, fun i x y p q => (h5 i x y p q).succ⟩)
theorem Eqs.int {n : Nat} {H : Hp} (i : Int) : Eqs (n + 1) H (.int i) (.int i) := .inl ⟨i, rfl, rfl⟩
theorem Eqs.str {n : Nat} {H : Hp} (z : Str) : Eqs (n + 1) H (.str z) (.str z) := .inr (.inl ⟨z, rfl, rfl⟩)
theorem Eqs.tup {n : Nat} {H : Hp} {a b : Addr} {xs ys : List V} (ha : Tq H a xs) (hb : Tq H b ys) (hl : xs.length = ys.length) (hz : xs.length ≤ 100000) (h : ∀ (i : Nat) (x y : V), xs[i]? = some x → ys[i]? = some y → Eqs n H x y) : Eqs (n + 1) H (.ref a) (.ref b) :=
  .inr (.inr ⟨a, b, xs, ys, rfl, rfl, ha, hb, hl, hz, h⟩)
theorem Eqs.strs {H : Hp} {a b : Addr} {l : List Str} (ha : Tq H a (sV l)) (hb : Tq H b (sV l)) (hz : l.length ≤ 100000) : Eqs 2 H (.ref a) (.ref b) :=
  .tup ha hb rfl (by unfold sV; rw [List.length_map]; exact hz) fun i x y p q => by
    rw [p] at q
    cases q
    obtain ⟨z, _, rfl⟩ := get_map p
    exact .str z
theorem Eqs.ints {H : Hp} {a b : Addr} {l : List Int} (ha : Tq H a (l.map V.int)) (hb : Tq H b (l.map V.int)) (hz : l.length ≤ 100000) : Eqs 2 H (.ref a) (.ref b) :=
  .tup ha hb rfl (by rw [List.length_map]; exact hz) fun i x y p q => by
    rw [p] at q
    cases q
    obtain ⟨z, _, rfl⟩ := get_map p
    exact .int z
theorem Eqs.pair {n : Nat} {H : Hp} {a b : Addr} {z : Str} {x y : V} (ha : Tq H a [.str z, x]) (hb : Tq H b [.str z, y]) (h : Eqs (n + 1) H x y) : Eqs (n + 2) H (.ref a) (.ref b) :=
  .tup ha hb rfl (show 2 ≤ 100000 by decide) fun i u v p q => by
    match i, p, q with
    | 0, p, q => cases p; cases q; exact .str z
    | 1, p, q => cases p; cases q; exact h
    | i + 2, p, _ => simp at p
theorem tm_what : tmF.lookup ("what" : Str) = some (.str "knots") := by decide +kernel
theorem tm_limit : tmF.lookup ("limit" : Str) = some (.int 2000) := by decide +kernel
theorem np_path (a : Addr) : (npF a).lookup ("path" : Str) = some (.ref a) := by
  simp [npF, xfs, List.lookup]
def spLPl (C CT : Addr) : Sp := fun vs H Q E => ∃ (b be : Addr) (z : Str) (rows : List Row) (ts : List Addr) (ls : List (List Str)), vs = [.ref b, .str z, .ref be] ∧ BedAt C H b rows ∧ ROk 8 rows ∧ (∃ q ∈ rows, q.1 = z) ∧ H be = some (.lst (ts.map V.ref)) ∧ TsAt sV H ts ls ∧ (∀ l ∈ ls, PlantOk rows l) ∧ ls.length = wR rows z ∧
  ((z :: ls.flatten).length ≤ 2000 → ∀ H' r, Same H H' → Tq H' r (sV (z :: ls.flatten)) → Q (.ref r) H') ∧
  (2000 < (z :: ls.flatten).length → ∀ H' d, Same H H' → H' d = none → E (.ref CT) (some d) (upd H' d (.xd tmF)))
def Told (H : Hp) (r : Addr) (l : List Str) : Prop := ∃ u, Tq H r [.str "told", .ref u] ∧ Tq H u (sV l)
def Many (H : Hp) (r : Addr) : Prop := Tq H r [.str "many", .str "knots", .int 2000]
def spPlMet (C : Addr) : Sp := fun vs H Q _ => ∃ (b be : Addr) (z : Str) (rows : List Row) (ts : List Addr) (ls : List (List Str)), vs = [.ref b, .str z, .ref be] ∧ BedAt C H b rows ∧ ROk 8 rows ∧ (∃ q ∈ rows, q.1 = z) ∧ H be = some (.lst (ts.map V.ref)) ∧ TsAt sV H ts ls ∧ (∀ l ∈ ls, PlantOk rows l) ∧ ls.length = wR rows z ∧
  ((z :: ls.flatten).length ≤ 2000 → ∀ H' r, Same H H' → Told H' r (z :: ls.flatten) → Q (.ref r) H') ∧ (2000 < (z :: ls.flatten).length → ∀ H' r, Same H H' → Many H' r → Q (.ref r) H')
def spReMet (C : Addr) : Sp := fun vs H Q _ => ∃ (b t a u : Addr) (rows : List Row) (l o : List Str) (zs : List Int) (q : Nat), vs = [.ref b, .ref t, .ref a, .ref u] ∧ BedAt C H b rows ∧ ROk 8 rows ∧ Tq H t (l.map V.str) ∧ PlantOk rows l ∧ Tq H a (iV zs) ∧ Tq H u (o.map V.str) ∧ PlantOk rows o ∧ Mth.walkI (wR rows) l 0 zs = some q ∧
  ((put (wR rows) l q o).length ≤ 2000 → ∀ H' r, Same H H' → Told H' r (put (wR rows) l q o) → Q (.ref r) H') ∧ (2000 < (put (wR rows) l q o).length → ∀ H' r, Same H H' → Many H' r → Q (.ref r) H')
def spNowhere (C : Addr) : Sp := fun vs H Q _ => ∃ (b t a u : Addr) (rows : List Row) (l o : List Str) (zs : List Int), vs = [.ref b, .ref t, .ref a, .ref u] ∧ BedAt C H b rows ∧ ROk 8 rows ∧ Tq H t (l.map V.str) ∧ PlantOk rows l ∧ Tq H a (iV zs) ∧ zs.length ≤ 3000 ∧ Tq H u (o.map V.str) ∧ PlantOk rows o ∧ Mth.walkI (wR rows) l 0 zs = none ∧
  ∀ H', Same H H' → Q (.bl true) H'
abbrev s_law_planted : Stmt := top 54
abbrev N_law_planted : List Str := ["bed", "word", "below"]
theorem sc_law_planted : FnScope N_law_planted ["bed", "word", "below"] (defScope s_law_planted) := ⟨rfl, rfl, rfl, by decide +kernel, rfl, by decide +kernel, by decide +kernel⟩
abbrev s_law_planted_met : Stmt := top 55
abbrev N_law_planted_met : List Str := ["bed", "word", "below", "e"]
theorem sc_law_planted_met : FnScope N_law_planted_met ["bed", "word", "below"] (defScope s_law_planted_met) := ⟨rfl, rfl, rfl, by decide +kernel, rfl, by decide +kernel, by decide +kernel⟩
abbrev s_law_replaced_met : Stmt := top 56
abbrev N_law_replaced_met : List Str := ["bed", "plant", "path", "other", "e"]
theorem sc_law_replaced_met : FnScope N_law_replaced_met ["bed", "plant", "path", "other"] (defScope s_law_replaced_met) := ⟨rfl, rfl, rfl, by decide +kernel, rfl, by decide +kernel, by decide +kernel⟩
abbrev s_law_nowhere : Stmt := top 57
abbrev N_law_nowhere : List Str := ["bed", "plant", "path", "other", "met", "e", "f"]
theorem sc_law_nowhere : FnScope N_law_nowhere ["bed", "plant", "path", "other"] (defScope s_law_nowhere) := ⟨rfl, rfl, rfl, by decide +kernel, rfl, by decide +kernel, by decide +kernel⟩
theorem xd_same {H H' : Hp} {d : Addr} {o : HO} (s : Same H H') (h : H' d = none) : Same H (upd H' d o) := s.upd_new h
section
variable {P : Program} {w : World} {K : PySem.W.Frag} {mg : Str → Option Value} {base : Heap} {C CN CT : Addr}
theorem ok_law_planted (T : Bl mg) (c_planted : DefOk P w K mg base (L2.CX P w) 4 "planted" (spStar 2 (spPlanted C CT))) (D : Def0 K mg "_law_planted" s_law_planted) : DefOk P w K mg base (L2.CX P w) 5 "_law_planted" (spLPl C CT) := by
  refine D.okX sc_law_planted (fun vs H Q E h => ?_) (fun _ _ _ _ _ _ us hl => match us, hl with | [_, _, _], _ => rfl) (fun f cdv A outer s H vs Q E hr h => ?_)
  · obtain ⟨b, be, z, rows, ts, ls, rfl, _⟩ := h
    rfl
  · obtain ⟨b, be, z, rows, ts, ls, rfl, hB, R, hz, hbe, hT, hO, hl, k1, k2⟩ := h
    refine ⟨_, (pss_cons (ps_if (pt_cmpR op_eq (pe_callB call_len_seq (by rfl) T.b_len boot_len (pa_cons (pv 2) pa_nil)) pe_int (nomark _))
        (pss_one (ps_ret (pe_d c_planted (hr.mono (by decide)) (passes_call (takes_of rfl rfl rfl rfl) fun _ _ _ _ h => h) (pa_cons (pv 0) (pa_cons (pv 1) pa_nil)))))
        pss_nil)
      (pss_cons (ps_if (pt_cmpR op_eq (pe_callB call_len_seq (by rfl) T.b_len boot_len (pa_cons (pv 2) pa_nil)) pe_int (nomark _))
        (pss_one (ps_ret (pe_d c_planted (hr.mono (by decide)) (passes_call (takes_of rfl rfl rfl rfl) fun _ _ _ _ h => h) (pa_cons (pv 0) (pa_cons (pv 1) (pa_cons (pe_ix ix_list (pv 2) pe_int (fun _ _ => rfl)) pa_nil))))))
        pss_nil)
      (pss_cons (ps_if (pt_cmpR op_eq (pe_callB call_len_seq (by rfl) T.b_len boot_len (pa_cons (pv 2) pa_nil)) pe_int (nomark _))
        (pss_one (ps_ret (pe_d c_planted (hr.mono (by decide)) (passes_call (takes_of rfl rfl rfl rfl) fun _ _ _ _ h => h) (pa_cons (pv 0) (pa_cons (pv 1) (pa_cons (pe_ix ix_list (pv 2) pe_int (fun _ _ => rfl)) (pa_cons (pe_ix ix_list (pv 2) pe_int (fun _ _ => rfl)) pa_nil)))))))
        pss_nil)
      (pss_one (ps_ret (pe_d c_planted (hr.mono (by decide)) (passes_call (takes_of rfl rfl rfl rfl) fun _ _ _ _ h => h) (pa_cons (pv 0) (pa_cons (pv 1) (pa_cons (pe_ix ix_list (pv 2) pe_int (fun _ _ => rfl)) (pa_cons (pe_ix ix_list (pv 2) pe_int (fun _ _ => rfl)) (pa_cons (pe_ix ix_list (pv 2) pe_int (fun _ _ => rfl)) pa_nil))))))))))), ?_⟩
    have hw3 : wR rows z ≤ 3 := by obtain ⟨_, _, _, _, _, h⟩ := wR_mem R hz; exact h
    have h3 : ts.length ≤ 3 := by rw [hT.1, hl]; exact hw3
    have go : ∀ p, H p = none → spPlanted C CT [.ref b, .str z, .ref p] (upd H p (.tup (ts.map V.ref))) Q E := fun p hp => by
      have s1 := (Same.refl H).upd_new (o := .tup (ts.map V.ref)) hp
      exact ⟨b, p, z, rows, ts, ls, rfl, hB.same s1, R, hz, .of upd_same, hT.keep (TQ.new hp), hO, hl, fun h H' r s r' => k1 h H' r (s1.trans s) r', fun h H' d s hd => k2 h H' d (s1.trans s) hd⟩
    match ts, h3 with
    | [], _ =>
      refine ⟨_, rfl, be, _, rfl, .inl (SqL.of hbe), rfl, _, rfl, ifp (by simp) ?_⟩
      exact ⟨_, rfl, _, rfl, [.ref b, .str z], [], rfl, rfl, le_line (Nat.zero_le _), go⟩
    | [t0], _ =>
      refine ⟨_, rfl, be, _, rfl, .inl (SqL.of hbe), rfl, _, rfl, ifn (fun e => by simp at e) ?_⟩
      refine ⟨_, rfl, be, _, rfl, .inl (SqL.of hbe), rfl, _, rfl, ifp (by simp) ?_⟩
      exact ⟨_, rfl, _, rfl, _, rfl, be, _, _, _, rfl, rfl, SqL.of hbe, atI_nat (j := 0) rfl, [.ref b, .str z], [.ref t0], rfl, rfl, le_line (show 1 ≤ 100000 by decide), go⟩
    | [t0, t1], _ =>
      refine ⟨_, rfl, be, _, rfl, .inl (SqL.of hbe), rfl, _, rfl, ifn (fun e => by simp at e) ?_⟩
      refine ⟨_, rfl, be, _, rfl, .inl (SqL.of hbe), rfl, _, rfl, ifn (fun e => by simp at e) ?_⟩
      refine ⟨_, rfl, be, _, rfl, .inl (SqL.of hbe), rfl, _, rfl, ifp (by simp) ?_⟩
      exact ⟨_, rfl, _, rfl, _, rfl, be, _, _, _, rfl, rfl, SqL.of hbe, atI_nat (j := 0) rfl, _, rfl, be, _, _, _, rfl, rfl, SqL.of hbe, atI_nat (j := 1) rfl, [.ref b, .str z], [.ref t0, .ref t1], rfl, rfl, le_line (show 2 ≤ 100000 by decide), go⟩
    | [t0, t1, t2], _ =>
      refine ⟨_, rfl, be, _, rfl, .inl (SqL.of hbe), rfl, _, rfl, ifn (fun e => by simp at e) ?_⟩
      refine ⟨_, rfl, be, _, rfl, .inl (SqL.of hbe), rfl, _, rfl, ifn (fun e => by simp at e) ?_⟩
      refine ⟨_, rfl, be, _, rfl, .inl (SqL.of hbe), rfl, _, rfl, ifn (fun e => by simp at e) ?_⟩
      exact ⟨_, rfl, _, rfl, _, rfl, be, _, _, _, rfl, rfl, SqL.of hbe, atI_nat (j := 0) rfl, _, rfl, be, _, _, _, rfl, rfl, SqL.of hbe, atI_nat (j := 1) rfl, _, rfl, be, _, _, _, rfl, rfl, SqL.of hbe, atI_nat (j := 2) rfl, [.ref b, .str z], [.ref t0, .ref t1, .ref t2], rfl, rfl, le_line (show 3 ≤ 100000 by decide), go⟩
    | _ :: _ :: _ :: _ :: _, h => exact absurd h (by simp)
theorem ok_law_planted_met (T : Bl mg) (x_TooMany : PySem.SupX.SupCls P w K mg "TooMany" CT ["what", "limit"] tmP) (X_TooMany : XOk K CT ["what", "limit"]) (c_law_planted : DefOk P w K mg base (L2.CX P w) 5 "_law_planted" (spLPl C CT)) (D : Def0 K mg "_law_planted_met" s_law_planted_met) : DefOk P w K mg base CX0 6 "_law_planted_met" (spPlMet C) := by
  refine D.ok sc_law_planted_met (fun vs H Q E h => ?_) (fun _ _ _ _ _ _ us hl => match us, hl with | [_, _, _], _ => rfl) (fun f cdv A outer s H vs Q E hr h => ?_)
  · obtain ⟨b, be, z, rows, ts, ls, rfl, _⟩ := h
    rfl
  · obtain ⟨b, be, z, rows, ts, ls, rfl, hB, R, hz, hbe, hT, hO, hl, k1, k2⟩ := h
    have n_TooMany : ∀ {X : Cx}, X.mg = mg → Gl X "TooMany" → Names X "TooMany" (.ref CT) := fun e g => ⟨g, by decide, .inl (by rw [e]; exact x_TooMany.gC)⟩
    refine ⟨_, (pss_one (ps_try_first (i := 3) rfl rfl sc_law_planted_met.nd rfl rfl (n_TooMany rfl rfl) (fun W pn xe tk po => (pss_one (ps_ret (pe_tup (pa_cons pe_str (pa_cons (pe_dS c_law_planted (hr.mono (by decide)) (fun _ => passAt tk _) (pa_cons (pv 0) (pa_cons (pv 1) (pa_cons (pv 2) pa_nil)))) pa_nil)))))) (fun a oe cls d pn hz hf => (pss_one (ps_ret (pe_tup (pa_cons pe_str (pa_cons (pe_xf X_TooMany.xf (X_TooMany.no "what" (by decide +kernel)) hz hf (pv 3)) (pa_cons (pe_xf X_TooMany.xf (X_TooMany.no "limit" (by decide +kernel)) hz hf (pv 3)) pa_nil))))))))), ?_⟩
    refine ⟨_, rfl, _, rfl, _, rfl, b, be, z, rows, ts, ls, rfl, hB, R, hz, hbe, hT, hO, hl, fun hle H1 r s1 hr1 => ?_, fun hgt H1 d s1 hd => ⟨X_TooMany.me, fun e he => ?_⟩⟩
    · refine ⟨le_line (show 2 ≤ 100000 by decide), fun p hp => k1 hle _ p (s1.upd_new hp) ⟨r, .of upd_same, TQ.new hp _ _ hr1⟩⟩
    · have s2 := s1.upd_new (o := .xd tmF) hd
      refine ⟨_, rfl, rfl, rfl, d, tmF, _, rfl, upd_same, tm_what, _, rfl, rfl, rfl, d, tmF, _, rfl, upd_same, tm_limit, ?_⟩
      exact ⟨le_line (show 3 ≤ 100000 by decide), fun p hp => k2 hgt _ p (s2.upd_new hp) (.of upd_same)⟩
theorem ok_law_replaced_met (T : Bl mg) (x_TooMany : PySem.SupX.SupCls P w K mg "TooMany" CT ["what", "limit"] tmP) (X_TooMany : XOk K CT ["what", "limit"]) (c_replaced : DefOk P w K mg base (L2.CX P w) 4 "replaced" (spReplaced C CN CT)) (D : Def0 K mg "_law_replaced_met" s_law_replaced_met) : DefOk P w K mg base CX0 5 "_law_replaced_met" (spReMet C) := by
  refine D.ok sc_law_replaced_met (fun vs H Q E h => ?_) (fun _ _ _ _ _ _ us hl => match us, hl with | [_, _, _, _], _ => rfl) (fun f cdv A outer s H vs Q E hr h => ?_)
  · obtain ⟨b, t, a, u, rows, l, o, zs, q, rfl, _⟩ := h
    rfl
  · obtain ⟨b, t, a, u, rows, l, o, zs, q, rfl, hB, R, ht, O, ha, hu1, O2, hw, k1, k2⟩ := h
    have n_TooMany : ∀ {X : Cx}, X.mg = mg → Gl X "TooMany" → Names X "TooMany" (.ref CT) := fun e g => ⟨g, by decide, .inl (by rw [e]; exact x_TooMany.gC)⟩
    refine ⟨_, (pss_one (ps_try_first (i := 4) rfl rfl sc_law_replaced_met.nd rfl rfl (n_TooMany rfl rfl) (fun W pn xe tk po => (pss_one (ps_ret (pe_tup (pa_cons pe_str (pa_cons (pe_dS c_replaced (hr.mono (by decide)) (fun _ => passAt tk _) (pa_cons (pv 0) (pa_cons (pv 1) (pa_cons (pv 2) (pa_cons (pv 3) pa_nil))))) pa_nil)))))) (fun a oe cls d pn hz hf => (pss_one (ps_ret (pe_tup (pa_cons pe_str (pa_cons (pe_xf X_TooMany.xf (X_TooMany.no "what" (by decide +kernel)) hz hf (pv 4)) (pa_cons (pe_xf X_TooMany.xf (X_TooMany.no "limit" (by decide +kernel)) hz hf (pv 4)) pa_nil))))))))), ?_⟩
    refine ⟨_, rfl, _, rfl, _, rfl, _, rfl, b, t, a, u, rows, l, o, zs, rfl, hB, R, ht, O, ha, hu1, O2, fun q' hw' _ hle H1 r s1 hr1 => ?_, fun q' hw' _ hgt H1 d s1 hd => ⟨X_TooMany.me, fun e he => ?_⟩, fun hn => absurd (hw.symm.trans hn) (fun h => nomatch h)⟩
    · rw [hw] at hw'
      cases hw'
      refine ⟨le_line (show 2 ≤ 100000 by decide), fun p hp => k1 hle _ p (s1.upd_new hp) ⟨r, .of upd_same, TQ.new hp _ _ hr1⟩⟩
    · rw [hw] at hw'
      cases hw'
      have s2 := s1.upd_new (o := .xd tmF) hd
      refine ⟨_, rfl, rfl, rfl, d, tmF, _, rfl, upd_same, tm_what, _, rfl, rfl, rfl, d, tmF, _, rfl, upd_same, tm_limit, ?_⟩
      exact ⟨le_line (show 3 ≤ 100000 by decide), fun p hp => k2 hgt _ p (s2.upd_new hp) (.of upd_same)⟩
theorem ok_law_nowhere (T : Bl mg) (x_NoPath : PySem.SupX.SupCls P w K mg "NoPath" CN ["path"] npP) (X_NoPath : XOk K CN ["path"]) (c_branch_at : DefOk P w K mg base (L2.CX P w) 4 "branch_at" (spBranch C CN)) (c_replaced : DefOk P w K mg base (L2.CX P w) 4 "replaced" (spReplaced C CN CT)) (c_law_same : DefOk P w K mg base CX0 3 "_law_same" (spSame 3)) (D : Def0 K mg "_law_nowhere" s_law_nowhere) : DefOk P w K mg base CX0 5 "_law_nowhere" (spNowhere C) := by
  refine D.ok sc_law_nowhere (fun vs H Q E h => ?_) (fun _ _ _ _ _ _ us hl => match us, hl with | [_, _, _, _], _ => rfl) (fun f cdv A outer s H vs Q E hr h => ?_)
  · obtain ⟨b, t, a, u, rows, l, o, zs, rfl, _⟩ := h
    rfl
  · obtain ⟨b, t, a, u, rows, l, o, zs, rfl, hB, R, ht, O, ha, hzl, hu1, O2, hw, k⟩ := h
    have n_NoPath : ∀ {X : Cx}, X.mg = mg → Gl X "NoPath" → Names X "NoPath" (.ref CN) := fun e g => ⟨g, by decide, .inl (by rw [e]; exact x_NoPath.gC)⟩
    refine ⟨_, (pss_cons (ps_set (i := 4) sc_law_nowhere.nd rfl (Or.inl rfl) (pe_tup pa_nil))
      (pss_cons (ps_try_first (i := 5) rfl rfl sc_law_nowhere.nd rfl rfl (n_NoPath rfl rfl) (fun W pn xe tk po => (pss_one (ps_set (i := 4) sc_law_nowhere.nd rfl (Or.inl rfl) (pe_tup (pa_cons pe_str (pa_cons (pe_dS c_branch_at (hr.mono (by decide)) (fun _ => passAt tk _) (pa_cons (pv 0) (pa_cons (pv 1) (pa_cons (pv 2) pa_nil)))) pa_nil)))))) (fun a oe cls d pn hz hf => (pss_one (ps_set (i := 4) sc_law_nowhere.nd rfl (Or.inl rfl) (pe_tup (pa_cons pe_str (pa_cons (pe_xf X_NoPath.xf (X_NoPath.no "path" (by decide +kernel)) hz hf (pv 5)) pa_nil)))))))
      (pss_cons (ps_if (pt_not (pt_val (pe_d c_law_same (hr.mono (by decide)) pass0 (pa_cons (pv 4) (pa_cons (pe_tup (pa_cons pe_str (pa_cons (pv 2) pa_nil))) pa_nil)))))
        (pss_one (ps_ret pe_bl))
        pss_nil)
      (pss_cons (ps_try_first (i := 6) rfl rfl sc_law_nowhere.nd rfl rfl (n_NoPath rfl rfl) (fun W pn xe tk po => (pss_one (ps_set (i := 4) sc_law_nowhere.nd rfl (Or.inl rfl) (pe_tup (pa_cons pe_str (pa_cons (pe_dS c_replaced (hr.mono (by decide)) (fun _ => passAt tk _) (pa_cons (pv 0) (pa_cons (pv 1) (pa_cons (pv 2) (pa_cons (pv 3) pa_nil))))) pa_nil)))))) (fun a oe cls d pn hz hf => (pss_one (ps_set (i := 4) sc_law_nowhere.nd rfl (Or.inl rfl) (pe_tup (pa_cons pe_str (pa_cons (pe_xf X_NoPath.xf (X_NoPath.no "path" (by decide +kernel)) hz hf (pv 6)) pa_nil)))))))
      (pss_one (ps_ret (pe_d c_law_same (hr.mono (by decide)) pass0 (pa_cons (pv 4) (pa_cons (pe_tup (pa_cons pe_str (pa_cons (pv 2) pa_nil))) pa_nil))))))))), ?_⟩
    refine ⟨le_line (show 0 ≤ 100000 by decide), fun m0 hm0 => ?_⟩
    have s1 := (Same.refl H).upd_new (o := .tup []) hm0
    refine ⟨_, rfl, _, rfl, _, rfl, b, t, a, rows, l, zs, rfl, hB.same s1, R, ht.same s1, O, ha.same s1, fun q hq => absurd (hw.symm.trans hq) (fun h => nomatch h), fun _ H1 d s2 hd => ⟨X_NoPath.me, fun e he => ?_⟩⟩
    have s3 := (s1.trans s2).upd_new (o := .xd (npF a)) hd
    refine ⟨_, rfl, rfl, rfl, d, npF a, _, rfl, upd_same, np_path a, le_line (show 2 ≤ 100000 by decide), fun m1 hm1 => ?_⟩
    have s4 := s3.upd_new (o := .tup [.str "path", .ref a]) hm1
    refine ⟨_, rfl, _, rfl, le_line (show 2 ≤ 100000 by decide), fun m2 hm2 => ?_⟩
    have s5 := s4.upd_new (o := .tup [.str "path", .ref a]) hm2
    have e1 : Eqs 3 (upd (upd (upd H1 d (.xd (npF a))) m1 (.tup [.str "path", .ref a])) m2 (.tup [.str "path", .ref a])) (.ref m1) (.ref m2) :=
      .pair (TQ.new hm2 _ _ (.of upd_same)) (.of upd_same) (Eqs.ints (ha.same s5) (ha.same s5) (by omega))
    refine ⟨_, _, rfl, e1, fun H2 s6 => ?_⟩
    have s7 := s5.trans s6
    refine ⟨_, rfl, ifn (by decide) ?_⟩
    refine ⟨_, rfl, _, rfl, _, rfl, _, rfl, b, t, a, u, rows, l, o, zs, rfl, hB.same s7, R, ht.same s7, O, ha.same s7, hu1.same s7, O2, fun q hq => absurd (hw.symm.trans hq) (fun h => nomatch h), fun q hq => absurd (hw.symm.trans hq) (fun h => nomatch h), fun _ H3 d2 s8 hd2 => ⟨X_NoPath.me, fun e2 he2 => ?_⟩⟩
    have s9 := (s7.trans s8).upd_new (o := .xd (npF a)) hd2
    refine ⟨_, rfl, rfl, rfl, d2, npF a, _, rfl, upd_same, np_path a, le_line (show 2 ≤ 100000 by decide), fun m3 hm3 => ?_⟩
    have s10 := s9.upd_new (o := .tup [.str "again", .ref a]) hm3
    refine ⟨_, rfl, _, rfl, le_line (show 2 ≤ 100000 by decide), fun m4 hm4 => ?_⟩
    have s11 := s10.upd_new (o := .tup [.str "again", .ref a]) hm4
    refine ⟨_, _, rfl, .pair (TQ.new hm4 _ _ (.of upd_same)) (.of upd_same) (Eqs.ints (ha.same s11) (ha.same s11) (by omega)), fun H4 s12 => k _ (s11.trans s12)⟩
end
end Sh
end
section
set_option Elab.async false
set_option linter.all false
set_option maxRecDepth 100000
set_option maxHeartbeats 2000000
set_option autoImplicit false
namespace Sh
open PySem PySem.Spec PyProof.Rows L2
open C8 (pss_cut tCut)
open Evl (ixN_nat)
theorem PlantOk.cut {rows : List Row} {l : List Str} (O : PlantOk rows l) {p : Nat} (hp : p < l.length) : PlantOk rows (Mth.cut (wR rows) l p) :=
  ⟨Mth.cut_forest _ O.f hp, fun z h => O.k z (Mth.cut_mem _ h), Nat.le_trans (Mth.cut_len _ l p) O.sz⟩
theorem PlantOk.putOk {rows : List Row} {l o : List Str} (O : PlantOk rows l) (O2 : PlantOk rows o) {p : Nat} (hp : p < l.length) (hs : (put (wR rows) l p o).length ≤ 2000) : PlantOk rows (put (wR rows) l p o) :=
  ⟨Mth.pu_forest _ O.f O2.f hp, fun z h => by
    unfold put at h
    rcases List.mem_append.mp h with h | h
    · rcases List.mem_append.mp h with h | h
      · exact O.k z (List.mem_of_mem_take h)
      · exact O2.k z h
    · exact O.k z (List.mem_of_mem_drop h), hs⟩
def spAbove (C : Addr) : Sp := fun vs H Q _ => ∃ (r b t : Addr) (rows : List Row) (l : List Str), vs = [.ref r, .ref b, .ref t] ∧ RowsAt H r rows ∧ BedAt C H b rows ∧ ROk 8 rows ∧ Tq H t (l.map V.str) ∧ PlantOk rows l ∧ ∀ H', Same H H' → Q (.bl true) H'
def spKnot (C : Addr) : Sp := fun vs H Q _ => ∃ (r b t u a : Addr) (rows : List Row) (l o : List Str) (p : Nat), vs = [.ref r, .ref b, .ref t, .ref u, .int ((p : Nat) : Int), .int ((Mth.nxs (wR rows) l p 1 : Nat) : Int), .ref a] ∧ RowsAt H r rows ∧ BedAt C H b rows ∧ ROk 8 rows ∧ Tq H t (l.map V.str) ∧ PlantOk rows l ∧ Tq H u (o.map V.str) ∧ PlantOk rows o ∧ p < l.length ∧
  Tq H a (pV (Mth.pth (wR rows) l p)) ∧ ∀ H', Same H H' → Q (.bl true) H'
theorem Eqs.told {H : Hp} {r p u : Addr} {l : List Str} (h : Told H r l) (hp : Tq H p [.str "told", .ref u]) (hu : Tq H u (sV l)) (hz : l.length ≤ 100000) : Eqs 3 H (.ref r) (.ref p) := by
  obtain ⟨v, h1, h2⟩ := h
  exact .pair h1 hp (Eqs.strs h2 hu hz)
theorem Eqs.many {H : Hp} {r p : Addr} (h : Many H r) (hp : Many H p) : Eqs 3 H (.ref r) (.ref p) :=
  .tup h hp rfl (show 3 ≤ 100000 by decide) fun i x y a b => by
    match i, a, b with
    | 0, a, b => cases a; cases b; exact .str _
    | 1, a, b => cases a; cases b; exact .str _
    | 2, a, b => cases a; cases b; exact .int _
    | i + 3, a, _ => simp at a
theorem Told.same {H H' : Hp} {r : Addr} {l : List Str} (h : Told H r l) (s : Same H H') : Told H' r l := by
  obtain ⟨v, h1, h2⟩ := h
  exact ⟨v, h1.same s, h2.same s⟩
abbrev s_law_above_right : Stmt := top 59
abbrev N_law_above_right : List Str := ["rows", "bed", "plant", "due", "row"]
theorem sc_law_above_right : FnScope N_law_above_right ["rows", "bed", "plant"] (defScope s_law_above_right) := ⟨rfl, rfl, rfl, by decide +kernel, rfl, by decide +kernel, by decide +kernel⟩
abbrev s_law_knot_right : Stmt := top 60
abbrev N_law_knot_right : List Str := ["rows", "bed", "plant", "other", "place", "behind", "path", "branch", "many", "steps", "step", "whole"]
theorem sc_law_knot_right : FnScope N_law_knot_right ["rows", "bed", "plant", "other", "place", "behind", "path"] (defScope s_law_knot_right) := ⟨rfl, rfl, rfl, by decide +kernel, rfl, by decide +kernel, by decide +kernel⟩
section
variable {P : Program} {w : World} {K : PySem.W.Frag} {mg : Str → Option Value} {base : Heap} {C CN CT : Addr}
theorem ok_law_above_right (T : Bl mg) (c_law_planted_met : DefOk P w K mg base CX0 6 "_law_planted_met" (spPlMet C)) (c_law_same : DefOk P w K mg base CX0 3 "_law_same" (spSame 3)) (D : Def0 K mg "_law_above_right" s_law_above_right) : DefOk P w K mg base CX0 7 "_law_above_right" (spAbove C) := by
  refine D.ok sc_law_above_right (fun vs H Q E h => ?_) (fun _ _ _ _ _ _ us hl => match us, hl with | [_, _, _], _ => rfl) (fun f cdv A outer s H vs Q E hr h => ?_)
  · obtain ⟨r, b, t, rows, l, rfl, _⟩ := h
    rfl
  · obtain ⟨r, b, t, rows, l, rfl, ⟨ts, hR, hT⟩, hB, R, ht, O, k⟩ := h
    have hsz := O.sz
    refine ⟨_, (pss_cons (ps_set (i := 3) sc_law_above_right.nd rfl (Or.inl rfl) (pe_tup (pa_cons pe_str (pa_cons pe_str (pa_cons pe_int pa_nil)))))
      (pss_cons (ps_for PassesOwn.never rfl (pi_list (pv 0)) (pg_name (i := 4) sc_law_above_right.nd rfl (Or.inl rfl))
        (pss_one (ps_if (pt_cmpR op_eq (pe_ix ix_tup (pv 4) pe_int (fun _ _ => rfl)) pe_int (nomark _))
          (pss_cut (ps_if (pt_cmpR op_lt (pe_callB call_len_seq (by rfl) T.b_len boot_len (pa_cons (pv 2) pa_nil)) pe_int (nomark _))
            (pss_one (ps_set (i := 3) sc_law_above_right.nd rfl (Or.inl rfl) (pe_tup (pa_cons pe_str (pa_cons (pe_op op_catA (pe_tup (pa_cons (pe_ix ix_tup (pv 4) pe_int (fun _ _ => rfl)) pa_nil)) (pv 2)) pa_nil)))))
            pss_nil)
          (pss_one (ps_if (pt_not (pt_val (pe_d c_law_same (hr.mono (by decide)) pass0 (pa_cons (pe_d c_law_planted_met (hr.mono (by decide)) pass0 (pa_cons (pv 1) (pa_cons (pe_ix ix_tup (pv 4) pe_int (fun _ _ => rfl)) (pa_cons (pe_lst (pa_cons (pv 2) pa_nil)) pa_nil)))) (pa_cons (pv 3) pa_nil)))))
            (pss_one (ps_ret pe_bl))
            pss_nil)))
          pss_nil)))
      (pss_one (ps_ret pe_bl)))), ?_⟩
    refine ⟨le_line (show 3 ≤ 100000 by decide), fun d0 hd0 => ?_⟩
    have s1 := (Same.refl H).upd_new (o := .tup [.str "many", .str "knots", .int 2000]) hd0
    refine ⟨_, rfl, r, rfl, ⟨_, SqL.of (s1 _ _ hR)⟩, for_it (walk_list (xs := ts.map V.ref)) (fun i σ H' => ∃ (d : Addr) (x : Option V), σ = [some (.ref r), some (.ref b), some (.ref t), some (.ref d), x] ∧ Same H H' ∧ (¬ l.length < 2000 → Many H' d))
      ⟨d0, none, rfl, s1, fun _ => .of upd_same⟩ (fun i σ H' _ ⟨_, _, _, q, _⟩ => SqL.of (q _ _ hR)) ?_ ?_⟩
    · rintro i v σ H1 H2 hi ⟨d, x, rfl, s2, hm⟩ ⟨rfl, hv⟩
      have hir : i < rows.length := by rw [List.length_map, hT.1] at hi; exact hi
      obtain ⟨q, w1, w2, w3⟩ := (hT.keep (TK.of_same s2)).at hir
      rw [w2] at hv
      cases hv
      refine ⟨_, rfl, q, _, _, _, rfl, rfl, SqT.of w3, atI_nat (j := 1) rfl, rfl, _, rfl, ?_⟩
      refine ite2 (fun h1 => ?_) (fun h1 => ⟨d, _, rfl, s2, hm⟩)
      have e1 : (rows[i]).2 = 1 := V.int.inj (of_decide_eq_true h1)
      have hq := List.getElem_mem hir
      have hwz : wR rows (rows[i]).1 = 1 := by have := row_mem R hq; omega
      refine ⟨fun σ' H' => ∃ d' : Addr, σ' = [some (.ref r), some (.ref b), some (.ref t), some (.ref d'), some (.ref q)] ∧ Same H2 H' ∧ (¬ l.length < 2000 → Many H' d') ∧ (l.length < 2000 → Told H' d' ((rows[i]).1 :: l)), ?_, ?_⟩
      · refine ⟨_, rfl, t, _, rfl, .inr (ht.same s2).sq, _, _, rfl, rfl, _, rfl, ?_⟩
        rw [List.length_map]
        refine ite2 (fun h2 => ?_) (fun h2 => ?_)
        · have hlt : l.length < 2000 := by have := of_decide_eq_true h2; omega
          refine ⟨_, rfl, q, _, _, _, rfl, rfl, SqT.of w3, atI_nat (j := 0) rfl, le_line (show 1 ≤ 100000 by decide), fun c hc => ?_⟩
          have s3 := (Same.refl H2).upd_new (o := .tup [.str (rows[i]).1]) hc
          refine ⟨_, rfl, catA_of (.of upd_same) ((ht.same s2).same s3) (by rw [List.length_map, List.length_singleton]; omega) (fun c2 H3 s4 hc2 => ?_)⟩
          refine ⟨le_line (show 2 ≤ 100000 by decide), fun c3 hc3 => ?_⟩
          have s5 := (s3.trans s4).upd_new (o := .tup [.str "told", .ref c2]) hc3
          exact ⟨c3, rfl, s5, fun n => absurd hlt n, fun _ => ⟨c2, .of upd_same, TQ.new hc3 _ _ hc2⟩⟩
        · have hge : ¬ l.length < 2000 := fun q => h2 (decide_eq_true (by omega))
          exact ⟨d, rfl, Same.refl H2, hm, fun q => absurd q hge⟩
      rintro _ H3 ⟨d', rfl, s3, hm', ht'⟩
      have w3' := s3 _ _ w3
      have s23 := s2.trans s3
      refine ⟨_, rfl, _, rfl, q, _, _, _, rfl, rfl, SqT.of w3', atI_nat (j := 0) rfl, _, rfl, le_line (show 1 ≤ 100000 by decide), fun be hbe => ?_⟩
      have s4 := s23.upd_new (o := .lst [.ref t]) hbe
      have hls : TsAt sV (upd H3 be (.lst [.ref t])) [t] [l] := TsAt.nil.snoc (ht.same s4)
      have hpos := O.pos
      refine ⟨b, be, (rows[i]).1, rows, [t], [l], rfl, hB.same s4, R, ⟨_, hq, rfl⟩, upd_same, hls, fun l' h => by rw [List.mem_singleton.mp h]; exact O, hwz.symm, fun hle H4 c s5 hc => ?_, fun hgt H4 c s5 hc => ?_⟩
      · have hlt : l.length < 2000 := by
          rw [List.flatten_singleton, List.length_cons] at hle
          omega
        rw [List.flatten_singleton] at hc
        obtain ⟨u, y1, y2⟩ := ((ht' hlt).same ((Same.refl H3).upd_new (o := .lst [.ref t]) hbe)).same s5
        refine ⟨_, rfl, _, _, rfl, Eqs.told hc y1 y2 (by rw [List.length_cons]; omega), fun H5 s6 => ?_⟩
        refine ⟨_, rfl, ifn (by decide) ?_⟩
        exact ⟨d', _, rfl, (s4.trans s5).trans s6, fun n => absurd hlt n⟩
      · have hge : ¬ l.length < 2000 := by
          rw [List.flatten_singleton, List.length_cons] at hgt
          omega
        have hmm : Many H4 d' := ((hm' hge).same ((Same.refl H3).upd_new (o := .lst [.ref t]) hbe)).same s5
        refine ⟨_, rfl, _, _, rfl, Eqs.many hc hmm, fun H5 s6 => ?_⟩
        refine ⟨_, rfl, ifn (by decide) ?_⟩
        exact ⟨d', _, rfl, (s4.trans s5).trans s6, fun _ => hmm.same s6⟩
    · rintro σ H1 ⟨d, x, rfl, s2, hm⟩
      exact k _ s2
theorem ok_law_knot_right (T : Bl mg) (c_branch_at : DefOk P w K mg base (L2.CX P w) 4 "branch_at" (spBranch C CN)) (c_law_replaced_met : DefOk P w K mg base CX0 5 "_law_replaced_met" (spReMet C)) (c_law_nowhere : DefOk P w K mg base CX0 5 "_law_nowhere" (spNowhere C)) (c_law_number : DefOk P w K mg base CX0 1 "_law_number" spNumber) (c_law_same : DefOk P w K mg base CX0 3 "_law_same" (spSame 3)) (D : Def0 K mg "_law_knot_right" s_law_knot_right) : DefOk P w K mg base CX0 6 "_law_knot_right" (spKnot C) := by
  refine D.ok sc_law_knot_right (fun vs H Q E h => ?_) (fun _ _ _ _ _ _ us hl => match us, hl with | [_, _, _, _, _, _, _], _ => rfl) (fun f cdv A outer s H vs Q E hr h => ?_)
  · obtain ⟨r, b, t, u, a, rows, l, o, p, rfl, _⟩ := h
    rfl
  · obtain ⟨r, b, t, u, a, rows, l, o, p, rfl, hR, hB, R, ht, O, hu1, O2, hp, ha, k⟩ := h
    have hsz := O.sz
    have hsz2 := O2.sz
    have hcl := Mth.cut_len (wR rows) l p
    have hpi : iV ((Mth.pth (wR rows) l p).map fun n => ((n : Nat) : Int)) = pV (Mth.pth (wR rows) l p) := by
      unfold iV pV
      rw [List.map_map]
      rfl
    have ha2 : Tq H a (iV ((Mth.pth (wR rows) l p).map fun n => ((n : Nat) : Int))) := by rw [hpi]; exact ha
    have hwk : Mth.walkI (wR rows) l 0 ((Mth.pth (wR rows) l p).map fun n => ((n : Nat) : Int)) = some p := (Mth.walkI_nat _ _ _ _).trans (Mth.pth_walk _ O.f hp)
    have hdep := Mth.pth_dep (wR rows) O.f hp
    have hk : l[p]? = some l[p] := List.getElem?_eq_getElem hp
    have hkk := O.k _ (List.getElem_mem hp)
    refine ⟨_, (pss_cons (ps_set (i := 7) sc_law_knot_right.nd rfl (Or.inl rfl) (pe_slice sl_tupA (pv 2) (po_some (pv 4)) (po_some (pv 5))))
      (pss_cons (ps_if (pt_not (pt_val (pe_d c_law_same (hr.mono (by decide)) pass0 (pa_cons (pe_d c_branch_at (hr.mono (by decide)) passL (pa_cons (pv 1) (pa_cons (pv 2) (pa_cons (pv 6) pa_nil)))) (pa_cons (pv 7) pa_nil)))))
        (pss_one (ps_ret pe_bl))
        pss_nil)
      (pss_cons (ps_if (pt_not (pt_val (pe_d c_law_same (hr.mono (by decide)) pass0 (pa_cons (pe_d c_law_replaced_met (hr.mono (by decide)) pass0 (pa_cons (pv 1) (pa_cons (pv 2) (pa_cons (pv 6) (pa_cons (pv 7) pa_nil))))) (pa_cons (pe_tup (pa_cons pe_str (pa_cons (pv 2) pa_nil))) pa_nil)))))
        (pss_one (ps_ret pe_bl))
        pss_nil)
      (pss_cons (ps_set (i := 8) sc_law_knot_right.nd rfl (Or.inl rfl) (pe_d c_law_number (hr.mono (by decide)) pass0 (pa_cons (pv 0) (pa_cons (pe_ix ix_tup (pv 2) (pv 4) (fun _ _ => rfl)) pa_nil))))
      (pss_cons (ps_set (i := 9) sc_law_knot_right.nd rfl (Or.inl rfl) (pe_lst (pa_cons (pv 8) (pa_cons (pe_op op_sub pe_int pe_int) (pa_cons (pe_op op_add (pv 8) pe_int) pa_nil)))))
      (pss_cut (ps_if (pt_cmpR op_gt (pe_callB call_len_seq (by rfl) T.b_len boot_len (pa_cons (pv 2) pa_nil)) pe_int (nomark _))
        (pss_one (ps_set (i := 9) sc_law_knot_right.nd rfl (Or.inl rfl) (pe_lst (pa_cons (pv 8) pa_nil))))
        pss_nil)
      (pss_cons (ps_for PassesOwn.never rfl (pi_list (pv 9)) (pg_name (i := 10) sc_law_knot_right.nd rfl (Or.inl rfl))
        (pss_cons (ps_if (pt_not (pt_val (pe_d c_law_nowhere (hr.mono (by decide)) pass0 (pa_cons (pv 1) (pa_cons (pv 2) (pa_cons (pe_op op_catA (pv 6) (pe_tup (pa_cons (pv 10) pa_nil))) (pa_cons (pv 3) pa_nil)))))))
          (pss_one (ps_ret pe_bl))
          pss_nil)
        (pss_one (ps_if (pt_not (pt_val (pe_d c_law_nowhere (hr.mono (by decide)) pass0 (pa_cons (pv 1) (pa_cons (pv 2) (pa_cons (pe_op op_catA (pv 6) (pe_tup (pa_cons (pv 10) (pa_cons pe_int pa_nil)))) (pa_cons (pv 3) pa_nil)))))))
          (pss_one (ps_ret pe_bl))
          pss_nil))))
      (pss_cons (ps_set (i := 11) sc_law_knot_right.nd rfl (Or.inl rfl) (pe_op op_catA (pe_op op_catA (pe_slice sl_tupA (pv 2) po_none (po_some (pv 4))) (pv 3)) (pe_slice sl_tupA (pv 2) (po_some (pv 5)) po_none)))
      (pss_cons (ps_if (pt_cmpR op_gt (pe_callB call_len_seq (by rfl) T.b_len boot_len (pa_cons (pv 11) pa_nil)) pe_int (nomark _))
        (pss_one (ps_ret (pe_d c_law_same (hr.mono (by decide)) pass0 (pa_cons (pe_d c_law_replaced_met (hr.mono (by decide)) pass0 (pa_cons (pv 1) (pa_cons (pv 2) (pa_cons (pv 6) (pa_cons (pv 3) pa_nil))))) (pa_cons (pe_tup (pa_cons pe_str (pa_cons pe_str (pa_cons pe_int pa_nil)))) pa_nil)))))
        pss_nil)
      (pss_cons (ps_if (pt_not (pt_val (pe_d c_law_same (hr.mono (by decide)) pass0 (pa_cons (pe_d c_law_replaced_met (hr.mono (by decide)) pass0 (pa_cons (pv 1) (pa_cons (pv 2) (pa_cons (pv 6) (pa_cons (pv 3) pa_nil))))) (pa_cons (pe_tup (pa_cons pe_str (pa_cons (pv 11) pa_nil))) pa_nil)))))
        (pss_one (ps_ret pe_bl))
        pss_nil)
      (pss_cons (ps_if (pt_not (pt_val (pe_d c_law_same (hr.mono (by decide)) pass0 (pa_cons (pe_d c_branch_at (hr.mono (by decide)) passL (pa_cons (pv 1) (pa_cons (pv 11) (pa_cons (pv 6) pa_nil)))) (pa_cons (pv 3) pa_nil)))))
        (pss_one (ps_ret pe_bl))
        pss_nil)
      (pss_one (ps_ret (pe_d c_law_same (hr.mono (by decide)) pass0 (pa_cons (pe_d c_law_replaced_met (hr.mono (by decide)) pass0 (pa_cons (pv 1) (pa_cons (pv 11) (pa_cons (pv 6) (pa_cons (pv 7) pa_nil))))) (pa_cons (pe_tup (pa_cons pe_str (pa_cons (pv 2) pa_nil))) pa_nil)))))))))))))))), ?_⟩
    refine ⟨_, rfl, _, rfl, _, rfl, _, rfl, _, rfl, slA_of ht (by rw [List.length_map]; exact Mth.nxs_le _ _ _ _) (Mth.nxs_ge _ _ _ (Nat.le_of_lt hp)) (fun c H1 s1 hc0 => ?_)⟩
    have hc : Tq H1 c (sV (Mth.cut (wR rows) l p)) := by
      unfold sV Mth.cut
      rw [List.map_take, List.map_drop]
      exact hc0
    refine ⟨_, rfl, _, rfl, _, rfl, b, t, a, rows, l, _, rfl, hB.same s1, R, ht.same s1, O, ha2.same s1, fun q hq _ H2 d s2 hd => ?_, fun hn => absurd (hwk.symm.trans hn) (fun h => nomatch h)⟩
    rw [hwk] at hq
    cases hq
    refine ⟨_, rfl, _, _, rfl, (Eqs.strs hd (hc.same s2) (by omega)).succ, fun H3 s3 => ?_⟩
    have s13 := (s1.trans s2).trans s3
    have hc3 := (hc.same s2).same s3
    refine ⟨_, rfl, ifn (by decide) ?_⟩
    refine ⟨_, rfl, _, rfl, _, rfl, _, rfl, b, t, a, c, rows, l, _, _, p, rfl, hB.same s13, R, ht.same s13, O, ha2.same s13, hc3, O.cut hp, hwk, fun _ H4 e s4 he => ?_, fun hgt => ?_⟩
    rotate_left
    · have e : (put (wR rows) l p (Mth.cut (wR rows) l p)).length = l.length := by
        show (Mth.pu (wR rows) l p (Mth.cut (wR rows) l p)).length = _
        rw [Mth.pu_self _ hp]
      omega
    have he2 : Told H4 e l := by
      have q : put (wR rows) l p (Mth.cut (wR rows) l p) = l := Mth.pu_self _ hp
      rw [q] at he
      exact he
    have s14 := s13.trans s4
    refine ⟨_, rfl, le_line (show 2 ≤ 100000 by decide), fun e1 he1 => ?_⟩
    have s15 := s14.upd_new (o := .tup [.str "told", .ref t]) he1
    refine ⟨_, _, rfl, Eqs.told (he2.same ((Same.refl H4).upd_new he1)) (.of upd_same) (ht.same s15) (by omega), fun H5 s5 => ?_⟩
    have s16 := s15.trans s5
    refine ⟨_, rfl, ifn (by decide) ?_⟩
    refine ⟨_, rfl, _, rfl, _, rfl, t, _, _, _, rfl, rfl, (ht.same s16).sq, str_at hp rfl, r, rows, l[p], rfl, hR.same s16, R, hkk, ?_⟩
    obtain ⟨_, _, _, _, _, hw3⟩ := wR_mem R hkk
    refine ⟨_, rfl, _, _, rfl, rfl, _, rfl, _, _, rfl, rfl, le_line (show 3 ≤ 100000 by decide), fun L hL => ?_⟩
    have s17 := s16.upd_new (o := .lst [.int ((wR rows l[p] : Nat) : Int), .int (0 - 1), .int (((wR rows l[p] : Nat) : Int) + 1)]) hL
    have hn1 : ∀ x : Int, ¬ (0 ≤ x ∧ x < ((wR rows l[p] : Nat) : Int)) → ∀ ys, Mth.walkI (wR rows) l 0 (((Mth.pth (wR rows) l p).map fun n => ((n : Nat) : Int)) ++ x :: ys) = none := fun x hx ys => by
      rw [Mth.walkI_app, hwk]
      show (if 0 ≤ x ∧ x < (Mth.wd (wR rows) l p : Int) then _ else none) = none
      rw [Mth.wd_of _ hp, if_neg hx]
    refine ⟨fun σ' H' => ∃ (L' : Addr) (xs : List Int), σ' = [some (.ref r), some (.ref b), some (.ref t), some (.ref u), some (.int ((p : Nat) : Int)), some (.int ((Mth.nxs (wR rows) l p 1 : Nat) : Int)), some (.ref a), some (.ref c), some (.int ((wR rows l[p] : Nat) : Int)), some (.ref L'), none, none] ∧ Same H1 H' ∧ H' L' = some (.lst (xs.map V.int)) ∧ ∀ x ∈ xs, ¬ (0 ≤ x ∧ x < ((wR rows l[p] : Nat) : Int)), ?_, ?_⟩
    · have s2L : Same H1 (upd H5 L (.lst [.int ((wR rows l[p] : Nat) : Int), .int (0 - 1), .int (((wR rows l[p] : Nat) : Int) + 1)])) := ((((s2.trans s3).trans s4).upd_new he1).trans s5).upd_new hL
      refine ⟨_, rfl, t, _, rfl, .inr (ht.same s17).sq, _, _, rfl, rfl, _, rfl, ?_⟩
      refine ite2 (fun _ => ?_) (fun _ => ?_)
      · refine ⟨_, rfl, le_line (show 1 ≤ 100000 by decide), fun L2 hL2 => ?_⟩
        exact ⟨L2, [((wR rows l[p] : Nat) : Int)], rfl, s2L.upd_new hL2, upd_same, fun x hx => by rw [List.mem_singleton.mp hx]; omega⟩
      · refine ⟨L, [((wR rows l[p] : Nat) : Int), 0 - 1, ((wR rows l[p] : Nat) : Int) + 1], rfl, s2L, upd_same, fun x hx => ?_⟩
        rcases List.mem_cons.mp hx with e | hx
        · omega
        · rcases List.mem_cons.mp hx with e | hx
          · omega
          · have e := List.mem_singleton.mp hx
            omega
    rintro _ H6 ⟨L', xs, rfl, s6, hL', hxs⟩
    have s06 := s1.trans s6
    refine ⟨_, rfl, L', rfl, ⟨_, SqL.of hL'⟩, for_it (walk_list (xs := xs.map V.int)) (fun i σ H' => ∃ (y : Option V), σ = [some (.ref r), some (.ref b), some (.ref t), some (.ref u), some (.int ((p : Nat) : Int)), some (.int ((Mth.nxs (wR rows) l p 1 : Nat) : Int)), some (.ref a), some (.ref c), some (.int ((wR rows l[p] : Nat) : Int)), some (.ref L'), y, none] ∧ Same H6 H')
      ⟨none, rfl, Same.refl H6⟩ (fun i σ H' _ ⟨_, _, q⟩ => SqL.of (q _ _ hL')) ?_ ?_⟩
    · rintro i v σ H7 H8 hi ⟨y, rfl, s7⟩ ⟨rfl, hv⟩
      have hix : i < xs.length := by rw [List.length_map] at hi; exact hi
      rw [List.getElem?_map, List.getElem?_eq_getElem hix] at hv
      cases hv
      have hnx := hn1 xs[i] (hxs _ (List.getElem_mem hix))
      generalize xs[i] = x at hnx
      have s07 := s06.trans s7
      refine ⟨_, rfl, _, rfl, _, rfl, _, rfl, le_line (show 1 ≤ 100000 by decide), fun v1 hv1 => ?_⟩
      have s8 := s07.upd_new (o := .tup [.int x]) hv1
      refine catA_of (ha.same s8) (.of upd_same) (by unfold pV; rw [List.length_map, List.length_singleton]; omega) (fun v2 H9 s9 hv2 => ?_)
      have s09 := s8.trans s9
      have hv2' : Tq H9 v2 (iV (((Mth.pth (wR rows) l p).map fun n => ((n : Nat) : Int)) ++ [x])) := by
        unfold iV at hpi ⊢
        rw [List.map_append, hpi]
        exact hv2
      refine ⟨_, rfl, b, t, v2, u, rows, l, o, _, rfl, hB.same s09, R, ht.same s09, O, hv2', by rw [List.length_append, List.length_map, List.length_singleton]; omega, hu1.same s09, O2, hnx [], fun H10 s10 => ?_⟩
      have s010 := s09.trans s10
      refine ⟨_, rfl, ifn (by decide) ?_⟩
      refine ⟨_, rfl, _, rfl, _, rfl, _, rfl, le_line (show 2 ≤ 100000 by decide), fun v3 hv3 => ?_⟩
      have s11 := s010.upd_new (o := .tup [.int x, .int 0]) hv3
      refine catA_of (ha.same s11) (.of upd_same) (by unfold pV; rw [List.length_map]; show _ + 2 ≤ _; omega) (fun v4 H11 s12 hv4 => ?_)
      have s012 := s11.trans s12
      have hv4' : Tq H11 v4 (iV (((Mth.pth (wR rows) l p).map fun n => ((n : Nat) : Int)) ++ [x, 0])) := by
        unfold iV at hpi ⊢
        rw [List.map_append, hpi]
        exact hv4
      refine ⟨_, rfl, b, t, v4, u, rows, l, o, _, rfl, hB.same s012, R, ht.same s012, O, hv4', by rw [List.length_append, List.length_map]; show _ + 2 ≤ _; omega, hu1.same s012, O2, hnx [0], fun H12 s13 => ?_⟩
      refine ⟨_, rfl, ifn (by decide) ?_⟩
      exact ⟨_, rfl, ((((s7.upd_new hv1).trans s9).trans s10).upd_new hv3).trans (s12.trans s13)⟩
    · rintro σ H7 ⟨y, rfl, s7⟩
      have s07 := s06.trans s7
      have hc7 := (hc.same s6).same s7
      have hnx := Mth.nxs_le (wR rows) l p 1
      refine ⟨_, rfl, _, rfl, _, rfl, ?_⟩
      refine slA_lo (ht.same s07) (by rw [List.length_map]; exact Nat.le_of_lt hp) (fun c1 H8 s8 hc1 => ?_)
      have s08 := s07.trans s8
      refine ⟨_, rfl, ?_⟩
      refine catA_of hc1 (hu1.same s08) (by rw [List.length_take, List.length_map, List.length_map]; omega) (fun c2 H9 s9 hc2 => ?_)
      have s09 := s08.trans s9
      refine ⟨_, rfl, _, rfl, _, rfl, ?_⟩
      dsimp only [tNoPart]
      refine slA_hi (ht.same s09) (by rw [List.length_map]; exact hnx) (fun c3 H10 s10 hc3 => ?_)
      have s010 := s09.trans s10
      refine catA_of (hc2.same s10) hc3 (by rw [List.length_append, List.length_take, List.length_drop, List.length_map, List.length_map]; omega) (fun wh H11 s11 hwh0 => ?_)
      have s011 := s010.trans s11
      have hwh : Tq H11 wh (sV (put (wR rows) l p o)) := by
        unfold sV put
        rw [List.map_append, List.map_append, List.map_take, List.map_drop]
        exact hwh0
      have hln : (List.map V.str (l.take p) ++ List.map V.str o ++ List.map V.str (l.drop (Mth.nxs (wR rows) l p 1))).length = (put (wR rows) l p o).length := by
        unfold put
        rw [← List.map_append, ← List.map_append, List.length_map]
      have hlw : (put (wR rows) l p o).length ≤ 6000 := by
        unfold put
        rw [List.length_append, List.length_append, List.length_take, List.length_drop]
        omega
      have hc11 := (((hc7.same s8).same s9).same s10).same s11
      have a11 := ha2.same s011
      refine ⟨_, rfl, wh, _, rfl, .inr hwh.sq, _, _, rfl, rfl, _, rfl, ?_⟩
      rw [show (sV (put (wR rows) l p o)).length = (put (wR rows) l p o).length by unfold sV; rw [List.length_map]]
      refine ite2 (fun hgt => ?_) (fun hgt => ?_)
      · have hgt' : 2000 < (put (wR rows) l p o).length := by have := of_decide_eq_true hgt; omega
        refine ⟨_, rfl, _, rfl, _, rfl, _, rfl, b, t, a, u, rows, l, o, _, p, rfl, hB.same s011, R, ht.same s011, O, a11, hu1.same s011, O2, hwk, fun hle => absurd hle (by omega), fun _ H12 m1 s12 hm1 => ?_⟩
        refine ⟨le_line (show 3 ≤ 100000 by decide), fun m2 hm2 => ?_⟩
        have s13 := (s011.trans s12).upd_new (o := .tup [.str "many", .str "knots", .int 2000]) hm2
        exact ⟨_, _, rfl, Eqs.many (TQ.new hm2 _ _ hm1) (.of upd_same), fun H13 s14 => k _ (s13.trans s14)⟩
      · have hle : (put (wR rows) l p o).length ≤ 2000 := by
          have h3 : ¬ (2000 : Int) < (((put (wR rows) l p o).length : Nat) : Int) := fun q => hgt (decide_eq_true q)
          omega
        have O3 := O.putOk O2 hp hle
        have hwk3 : Mth.walkI (wR rows) (put (wR rows) l p o) 0 ((Mth.pth (wR rows) l p).map fun n => ((n : Nat) : Int)) = some p := (Mth.walkI_nat _ _ _ _).trans (Mth.walk_pu _ O.f hp)
        refine ⟨_, rfl, _, rfl, _, rfl, _, rfl, b, t, a, u, rows, l, o, _, p, rfl, hB.same s011, R, ht.same s011, O, a11, hu1.same s011, O2, hwk, fun _ H12 m1 s12 hm1 => ?_, fun h => absurd hle (by omega)⟩
        have s012 := s011.trans s12
        refine ⟨_, rfl, le_line (show 2 ≤ 100000 by decide), fun m2 hm2 => ?_⟩
        have s13 := s012.upd_new (o := .tup [.str "told", .ref wh]) hm2
        refine ⟨_, _, rfl, Eqs.told (hm1.same ((Same.refl H12).upd_new hm2)) (.of upd_same) (TQ.new hm2 _ _ (hwh.same s12)) (by omega), fun H13 s14 => ?_⟩
        have s014 := s13.trans s14
        have hwh13 := (TQ.new (o := .tup [.str "told", .ref wh]) hm2 _ _ (hwh.same s12)).same s14
        refine ⟨_, rfl, ifn (by decide) ?_⟩
        refine ⟨_, rfl, _, rfl, _, rfl, b, wh, a, rows, _, _, rfl, hB.same s014, R, hwh13, O3, ha2.same s014, fun q hq _ H14 d s15 hd => ?_, fun hn => absurd (hwk3.symm.trans hn) (fun h => nomatch h)⟩
        rw [hwk3] at hq
        cases hq
        have hpc : Mth.cut (wR rows) (put (wR rows) l p o) p = o := Mth.pu_cut _ O2.f hp
        rw [hpc] at hd
        have s015 := s014.trans s15
        refine ⟨_, rfl, _, _, rfl, (Eqs.strs hd (hu1.same s015) (by omega)).succ, fun H15 s16 => ?_⟩
        have s016 := s015.trans s16
        refine ⟨_, rfl, ifn (by decide) ?_⟩
        have hc15 := ((((hc11.same s12).same ((Same.refl H12).upd_new (o := .tup [.str "told", .ref wh]) hm2)).same s14).same s15).same s16
        have hbk : put (wR rows) (put (wR rows) l p o) p (Mth.cut (wR rows) l p) = l := Mth.pu_back _ O2.f hp
        refine ⟨_, rfl, _, rfl, _, rfl, _, rfl, b, wh, a, c, rows, _, _, _, p, rfl, hB.same s016, R, (hwh13.same s15).same s16, O3, ha2.same s016, hc15, O.cut hp, hwk3, fun _ H16 m3 s17 hm3 => ?_, fun h => absurd h (by rw [hbk]; omega)⟩
        rw [hbk] at hm3
        refine ⟨_, rfl, le_line (show 2 ≤ 100000 by decide), fun m4 hm4 => ?_⟩
        have s18 := (s016.trans s17).upd_new (o := .tup [.str "told", .ref t]) hm4
        exact ⟨_, _, rfl, Eqs.told (hm3.same ((Same.refl H16).upd_new hm4)) (.of upd_same) (ht.same s18) (by omega), fun H17 s19 => k _ (s18.trans s19)⟩
end
end Sh
end
section
set_option Elab.async false
set_option linter.all false
set_option maxRecDepth 100000
set_option maxHeartbeats 2000000
set_option autoImplicit false
namespace Sh
open PySem PySem.Spec PyProof.Rows L2
open C8 (pss_cut tCut)
open Evl (ixN_nat)
def spWhole (C : Addr) : Sp := fun vs H Q _ => ∃ (r b t e f : Addr) (rows : List Row) (l : List Str), vs = [.ref r, .ref b, .ref t, .ref e, .ref f] ∧ RowsAt H r rows ∧ BedAt C H b rows ∧ ROk 8 rows ∧ Tz H t (l.map V.str) ∧ PlantOk rows l ∧ EndsAt H e rows l ∧ PthsAt rows l H f ∧ ∀ H', Same H H' → Q (.bl true) H'
def nD (p : List Nat) : PyData := .tuple (p.map fun n => .int ((n : Nat) : Int))
def psD (ps : List (List Nat)) : PyData := .tuple (ps.map nD)
theorem dp_ints {K : PySem.W.Frag} {H : Hp} : ∀ p : List Nat, DpAll K H (pV p) (p.map fun n => .int ((n : Nat) : Int))
  | [] => .nil
  | _ :: p => .cons (.int _) (dp_ints p)
theorem dp_paths {K : PySem.W.Frag} {H : Hp} : ∀ (ts : List Addr) (ps : List (List Nat)), TsAt pV H ts ps → DpAll K H (ts.map V.ref) (ps.map nD)
  | [], [], _ => .nil
  | [], _ :: _, h => by cases h.1
  | _ :: _, [], h => by cases h.1
  | t :: ts, p :: ps, h => .cons (.tup (h.2 0 t p rfl rfl).sq (dp_ints p)) (dp_paths ts ps ⟨Nat.succ.inj h.1, fun i u x a b => h.2 (i + 1) u x a b⟩)
theorem lay_ints : ∀ p : List Nat, PyData.canLayAll0 (p.map fun n => .int ((n : Nat) : Int)) = true
  | [] => rfl
  | _ :: p => by
    show (true && PyData.canLayAll0 (p.map fun n => .int ((n : Nat) : Int))) = true
    rw [lay_ints p]
    rfl
theorem lay_paths : ∀ ps : List (List Nat), PyData.canLayAll0 (ps.map nD) = true
  | [] => rfl
  | p :: ps => by
    show (PyData.canLayAll0 (p.map fun n => .int ((n : Nat) : Int)) && PyData.canLayAll0 (ps.map nD)) = true
    rw [lay_ints p, lay_paths ps]
    rfl
theorem dep_ints : ∀ p : List Nat, PyData.depthAll (p.map fun n => .int ((n : Nat) : Int)) = 0
  | [] => rfl
  | _ :: p => by
    show max 0 (PyData.depthAll (p.map fun n => .int ((n : Nat) : Int))) = 0
    rw [dep_ints p]
    rfl
theorem dep_paths : ∀ ps : List (List Nat), PyData.depthAll (ps.map nD) ≤ 1
  | [] => Nat.zero_le _
  | p :: ps => by
    show max (PyData.depthAll (p.map fun n => .int ((n : Nat) : Int)) + 1) (PyData.depthAll (ps.map nD)) ≤ 1
    rw [dep_ints p]
    have := dep_paths ps
    omega
theorem psD_shaped (ps : List (List Nat)) : SeqAt.shaped (psD ps) = true := by
  have h := dep_paths ps
  show (PyData.canLayAll0 (ps.map nD) && decide (PyData.depthAll (ps.map nD) + 1 ≤ 64)) = true
  rw [lay_paths ps, decide_eq_true (by omega)]
  rfl
theorem psD_eqv (ps : List (List Nat)) : PyData.eqv (psD ps) (psD ps) = true := SeqAt.eqv_refl _ (lay_paths ps)
theorem Eqs.paths {rows : List Row} {l : List Str} {H : Hp} {a b : Addr} (ha : PthsAt rows l H a) (hb : PthsAt rows l H b) (O : PlantOk rows l) : Eqs 3 H (.ref a) (.ref b) := by
  obtain ⟨ts, h1, h2⟩ := ha
  obtain ⟨us, h3, h4⟩ := hb
  have hsz := O.sz
  have e1 := h2.1
  have e2 := h4.1
  rw [List.length_map, List.length_range] at e1 e2
  refine .tup (.of h1) (.of h3) (by rw [List.length_map, List.length_map]; omega) (by rw [List.length_map]; omega) fun i x y p q => ?_
  obtain ⟨t, t1, rfl⟩ := get_map p
  obtain ⟨u, u1, rfl⟩ := get_map q
  have hi := lt_of_get t1
  have hx : ((List.range l.length).map (Mth.pth (wR rows) l))[i]? = some (Mth.pth (wR rows) l i) := by rw [List.getElem?_map, List.getElem?_range (by omega)]; rfl
  have hd := Mth.pth_dep (wR rows) O.f (i := i) (by omega)
  have w1 := h2.2 i t _ t1 hx
  have w2 := h4.2 i u _ u1 hx
  have e : pV (Mth.pth (wR rows) l i) = ((Mth.pth (wR rows) l i).map fun n => ((n : Nat) : Int)).map V.int := by
    unfold pV
    rw [List.map_map]
    rfl
  rw [e] at w1 w2
  exact Eqs.ints w1 w2 (by rw [List.length_map]; omega)
theorem Eqs.tss {H : Hp} {a b : Addr} {ts us : List Addr} {ls : List (List Str)} (ha : Tq H a (ts.map V.ref)) (hb : Tq H b (us.map V.ref)) (h2 : TsAt sV H ts ls) (h4 : TsAt sV H us ls) (hn : ls.length ≤ 100000) (hz : ∀ l ∈ ls, l.length ≤ 100000) : Eqs 3 H (.ref a) (.ref b) := by
  have e1 := h2.1
  have e2 := h4.1
  refine .tup ha hb (by rw [List.length_map, List.length_map]; omega) (by rw [List.length_map]; omega) fun i x y p q => ?_
  obtain ⟨t, t1, rfl⟩ := get_map p
  obtain ⟨u, u1, rfl⟩ := get_map q
  have hi : i < ls.length := by have := lt_of_get t1; omega
  exact Eqs.strs (h2.2 i t _ t1 (List.getElem?_eq_getElem hi)) (h4.2 i u _ u1 (List.getElem?_eq_getElem hi)) (hz _ (List.getElem_mem hi))
abbrev s_law_whole_right : Stmt := top 58
abbrev N_law_whole_right : List Str := ["rows", "bed", "plant", "ends", "found", "tallest", "path", "names", "told", "below", "at", "k", "row", "word"]
theorem sc_law_whole_right : FnScope N_law_whole_right ["rows", "bed", "plant", "ends", "found"] (defScope s_law_whole_right) := ⟨rfl, rfl, rfl, by decide +kernel, rfl, by decide +kernel, by decide +kernel⟩
section
variable {P : Program} {w : World} {K : PySem.W.Frag} {mg : Str → Option Value} {base : Heap} {C CN CT : Addr}
theorem ok_law_whole_right (T : Bl mg) (c_height : DefOk P w K mg base CX0 4 "height" (spPlantI C fun rows l => ((Mth.tall (wR rows) l l.length : Nat) : Int))) (c_counted : DefOk P w K mg base CX0 4 "counted" (spPlantZ C CntAt)) (c_plant_key : DefOk P w K mg base CX0 4 "plant_key" (spPlantR C KeyAt)) (c_paths : DefOk P w K mg base CX0 4 "paths" (spPlantR C PthsAt)) (c_branches_of : DefOk P w K mg base CX0 4 "branches_of" (spPlantR C BrsAt)) (c_law_number : DefOk P w K mg base CX0 1 "_law_number" spNumber) (c_law_planted_met : DefOk P w K mg base CX0 6 "_law_planted_met" (spPlMet C)) (c_law_same : DefOk P w K mg base CX0 3 "_law_same" (spSame 3)) (D : Def0 K mg "_law_whole_right" s_law_whole_right) : DefOk P w K mg base CX0 7 "_law_whole_right" (spWhole C) := by
  refine D.ok sc_law_whole_right (fun vs H Q E h => ?_) (fun _ _ _ _ _ _ us hl => match us, hl with | [_, _, _, _, _], _ => rfl) (fun f cdv A outer s H vs Q E hr h => ?_)
  · obtain ⟨r, b, t, e, f, rows, l, rfl, _⟩ := h
    rfl
  · obtain ⟨r, b, t, e, fo, rows, l, rfl, hRR, hB, R, hz, O, he, hf, k⟩ := h
    obtain ⟨ts, hR, hT⟩ := id hRR
    obtain ⟨fs, hf1, hf2⟩ := id hf
    have ht := hz.q
    have hsz := O.sz
    have hp0 := O.pos
    have R8 : rows.length ≤ 8 := by have := R.len; omega
    refine ⟨_, (pss_cons (ps_set (i := 5) sc_law_whole_right.nd rfl (Or.inl rfl) pe_int)
      (pss_cons (ps_for PassesOwn.never rfl (pi_tup (pv 4)) (pg_name (i := 6) sc_law_whole_right.nd rfl (Or.inl rfl))
        (pss_one (ps_if (pt_cmpR op_ge (pe_callB call_len_seq (by rfl) T.b_len boot_len (pa_cons (pv 6) pa_nil)) (pv 5) (nomark _))
          (pss_one (ps_set (i := 5) sc_law_whole_right.nd rfl (Or.inl rfl) (pe_op op_add (pe_callB call_len_seq (by rfl) T.b_len boot_len (pa_cons (pv 6) pa_nil)) pe_int)))
          pss_nil)))
      (pss_cons (ps_if (pt_not (pt_val (pe_d c_law_same (hr.mono (by decide)) pass0 (pa_cons (pe_d c_height (hr.mono (by decide)) pass0 (pa_cons (pv 1) (pa_cons (pv 2) pa_nil))) (pa_cons (pv 5) pa_nil)))))
        (pss_one (ps_ret pe_bl))
        pss_nil)
      (pss_cons (ps_if (pt_not (pt_val (pe_d c_law_same (hr.mono (by decide)) pass0 (pa_cons (pe_d c_counted (hr.mono (by decide)) pass0 (pa_cons (pv 1) (pa_cons (pv 2) pa_nil))) (pa_cons (pe_callTy call_tuple_of (by rfl) T.b_tuple (by decide +kernel) (pa_cons (pe_lc (own := [("row", 12)]) (g := (gName 12)) (tt := tYes) rfl sc_law_whole_right.nd (pi_list (pv 0)) (blkOk_by (N := N_law_whole_right) (sc := defScope s_law_whole_right) (by decide +kernel)) (fun _ _ _ _ _ => (pg_name (i := 12) sc_law_whole_right.nd rfl (Or.inl rfl))) (fun _ _ _ _ _ => pts_nil) (fun _ _ _ _ _ => (pe_mG ty_Z PySem.F.plainAttrs_tuple PySem.F.slot_tuple_count PySem.F.type_tuple_count (show MtR _ _ (rCntT K) from mt_tcount) (pv 2) (pa_cons (pe_ix (show IxR _ (rIxT K) from ix_tup) (pv 12) pe_int (fun _ _ => rfl)) pa_nil)))) pa_nil)) pa_nil)))))
        (pss_one (ps_ret pe_bl))
        pss_nil)
      (pss_cons (ps_set (i := 7) sc_law_whole_right.nd rfl (Or.inr rfl) (pe_lc (own := [("row", 12)]) (g := (gName 12)) (tt := tYes) rfl sc_law_whole_right.nd (pi_list (pv 0)) (blkOk_by (N := N_law_whole_right) (sc := defScope s_law_whole_right) (by decide +kernel)) (fun _ _ _ _ _ => (pg_name (i := 12) sc_law_whole_right.nd rfl (Or.inl rfl))) (fun _ _ _ _ _ => pts_nil) (fun _ _ _ _ _ => (pe_ix (show IxR _ (rIxT K) from ix_tup) (pv 12) pe_int (fun _ _ => rfl)))))
      (pss_cons (ps_if (pt_not (pt_val (pe_d c_law_same (hr.mono (by decide)) pass0 (pa_cons (pe_d c_plant_key (hr.mono (by decide)) pass0 (pa_cons (pv 1) (pa_cons (pv 2) pa_nil))) (pa_cons (pe_tup (pa_cons (pe_callB call_len_seq (by rfl) T.b_len boot_len (pa_cons (pv 2) pa_nil)) (pa_cons (pe_callTy call_tuple_of (by rfl) T.b_tuple (by decide +kernel) (pa_cons (pe_lc (own := [("word", 13)]) (g := (gName 13)) (tt := tYes) rfl sc_law_whole_right.nd (pi_tup (pv 2)) (blkOk_by (N := N_law_whole_right) (sc := defScope s_law_whole_right) (by decide +kernel)) (fun _ _ _ _ _ => (pg_name (i := 13) sc_law_whole_right.nd rfl (Or.inl rfl))) (fun _ _ _ _ _ => pts_nil) (fun _ _ _ _ _ => (show PE _ _ (tBM K "list" (rIndex K) _ _) from (pe_bm PySem.F.plainAttrs_list PySem.F.slot_list_index PySem.F.type_list_index (show MtR _ _ (rIndex K) from mt_index) (pv 7) (pa_cons (pv 13) pa_nil))))) pa_nil)) pa_nil))) pa_nil)))))
        (pss_one (ps_ret pe_bl))
        pss_nil)
      (pss_cons (ps_set (i := 8) sc_law_whole_right.nd rfl (Or.inl rfl) (pe_d c_paths (hr.mono (by decide)) pass0 (pa_cons (pv 1) (pa_cons (pv 2) pa_nil))))
      (pss_cut (ps_if (pt_cmpR op_gt (pe_callB call_len_seq (by rfl) T.b_len boot_len (pa_cons (pv 2) pa_nil)) pe_int (nomark _))
        (pss_one (ps_if (PW.pt (pw_or (pt_not (pt_val (pe_callB call_isi (by rfl) T.b_isinstance (by decide +kernel) (pa_cons (pv 8) (pa_cons (pe_bltn (v := .ty "tuple") (by rfl) T.b_tuple boot_tuple rfl) pa_nil))))) (pw_or1 (pt_cmpR (op_neD hr.units) (pv 8) (pv 4) (nomark _)))))
          (pss_one (ps_ret pe_bl))
          pss_nil))
        (pss_one (ps_if (pt_not (pt_val (pe_d c_law_same (hr.mono (by decide)) pass0 (pa_cons (pv 8) (pa_cons (pv 4) pa_nil)))))
          (pss_one (ps_ret pe_bl))
          pss_nil)))
      (pss_cons (ps_set (i := 9) sc_law_whole_right.nd rfl (Or.inl rfl) (pe_lst pa_nil))
      (pss_cons (ps_set (i := 10) sc_law_whole_right.nd rfl (Or.inl rfl) pe_int)
      (pss_cons (ps_for PassesOwn.never rfl (pi_range1 (by rfl) T.b_range (pa_cons (pe_d c_law_number (hr.mono (by decide)) pass0 (pa_cons (pv 0) (pa_cons (pe_ix ix_tup (pv 2) pe_int (fun _ _ => rfl)) pa_nil))) pa_nil)) (pg_name (i := 11) sc_law_whole_right.nd rfl (Or.inl rfl))
        (pss_cons (ps_expr (pe_bm PySem.F.plainAttrs_list PySem.F.slot_list_append PySem.F.type_list_append mt_append (pv 9) (pa_cons (pe_slice sl_tupA (pv 2) (po_some (pv 10)) (po_some (pe_ix ix_list (pv 3) (pv 10) (fun _ _ => rfl)))) pa_nil)))
        (pss_one (ps_set (i := 10) sc_law_whole_right.nd rfl (Or.inl rfl) (pe_ix ix_list (pv 3) (pv 10) (fun _ _ => rfl))))))
      (pss_cons (ps_if (pt_not (pt_val (pe_d c_law_same (hr.mono (by decide)) pass0 (pa_cons (pe_d c_branches_of (hr.mono (by decide)) pass0 (pa_cons (pv 1) (pa_cons (pv 2) pa_nil))) (pa_cons (pe_callTy call_tuple_of (by rfl) T.b_tuple (by decide +kernel) (pa_cons (pv 9) pa_nil)) pa_nil)))))
        (pss_one (ps_ret pe_bl))
        pss_nil)
      (pss_one (ps_ret (pe_d c_law_same (hr.mono (by decide)) pass0 (pa_cons (pe_d c_law_planted_met (hr.mono (by decide)) pass0 (pa_cons (pv 1) (pa_cons (pe_ix ix_tup (pv 2) pe_int (fun _ _ => rfl)) (pa_cons (pv 9) pa_nil)))) (pa_cons (pe_tup (pa_cons pe_str (pa_cons (pv 2) pa_nil))) pa_nil))))))))))))))))), ?_⟩
    have hfl : fs.length = l.length := by have := hf2.1; rw [List.length_map, List.length_range] at this; exact this
    refine ⟨_, rfl, fo, rfl, ⟨_, SqT.of hf1⟩, for_it (walk_tup (xs := fs.map V.ref)) (fun i σ H' => ∃ (x : Option V), σ = [some (.ref r), some (.ref b), some (.ref t), some (.ref e), some (.ref fo), some (.int ((Mth.tall (wR rows) l i : Nat) : Int)), x, none, none, none, none, none, none, none] ∧ Same H H')
      ⟨none, rfl, Same.refl H⟩ (fun i σ H' _ ⟨_, _, q⟩ => SqT.of (q _ _ hf1)) ?_ ?_⟩
    · rintro i v σ H1 H2 hi ⟨x, rfl, s1⟩ ⟨rfl, hv⟩
      have hil : i < l.length := by rw [List.length_map] at hi; omega
      obtain ⟨q, w1, w2, w3⟩ := hf2.at (i := i) (by rw [List.length_map, List.length_range]; exact hil)
      rw [w2] at hv
      cases hv
      rw [List.getElem_map, List.getElem_range] at w3
      have hlp : (pV (Mth.pth (wR rows) l i)).length = (Mth.pth (wR rows) l i).length := by unfold pV; rw [List.length_map]
      refine ⟨_, rfl, q, _, rfl, .inr (w3.same s1).sq, _, rfl, _, _, rfl, rfl, _, rfl, ?_⟩
      refine ite2 (fun h1 => ?_) (fun h1 => ?_)
      · have h2 := of_decide_eq_true h1
        have e5 : (((pV (Mth.pth (wR rows) l i)).length : Nat) : Int) + 1 = ((Mth.tall (wR rows) l (i + 1) : Nat) : Int) := by
          show _ = ((max _ _ : Nat) : Int)
          omega
        refine ⟨_, rfl, q, _, rfl, .inr (w3.same s1).sq, _, _, rfl, rfl, some (.ref q), ?_, s1⟩
        rw [← e5]
        rfl
      · have h2 : ¬ ((Mth.tall (wR rows) l i : Nat) : Int) ≤ (((pV (Mth.pth (wR rows) l i)).length : Nat) : Int) := fun q => h1 (decide_eq_true q)
        have e5 : ((Mth.tall (wR rows) l i : Nat) : Int) = ((Mth.tall (wR rows) l (i + 1) : Nat) : Int) := by
          show _ = ((max _ _ : Nat) : Int)
          omega
        refine ⟨some (.ref q), ?_, s1⟩
        rw [← e5]
        rfl
    · rintro σ H1 ⟨x, rfl, s1⟩
      rw [List.length_map, hfl]
      refine ⟨_, rfl, _, rfl, b, t, rows, l, rfl, hB.same s1, R, ht.same s1, O, fun H2 s2 => ?_⟩
      have s12 := s1.trans s2
      refine ⟨_, rfl, _, _, rfl, Eqs.int _, fun H3 s3 => ?_⟩
      have s13 := s12.trans s3
      refine ⟨_, rfl, ifn (by decide) ?_⟩
      -- counted
      refine ⟨_, rfl, _, rfl, b, t, rows, l, rfl, hB.same s13, R, hz.same s13, O, fun H4 q4 s4 hq4 => ?_⟩
      have s14 := s13.trans s4
      have hR4 := s14 _ _ hR
      refine ⟨_, rfl, r, rfl, ⟨_, SqL.of hR4⟩, fun D hD => lc_it (walk_list (xs := ts.map V.ref)) (fun i H' => Same H4 H' ∧ H' D = some (.lst (((rows.take i).map fun r => ((l.count r.1 : Nat) : Int)).map V.int))) ⟨(Same.refl H4).upd_new hD, upd_same⟩ (fun i H' _ ⟨q, _⟩ => SqL.of (q _ _ hR4)) ?_ ?_⟩
      · rintro i v H5 H6 hi ⟨s5, q5⟩ ⟨rfl, hv⟩
        have hir : i < rows.length := by rw [List.length_map, hT.1] at hi; exact hi
        obtain ⟨q, w1, w2, w3⟩ := (hT.keep (TK.of_same (s14.trans s5))).at hir
        rw [w2] at hv
        cases hv
        refine ⟨rfl, _, rfl, ⟨t, _, rfl, (hz.same s14).same s5⟩, _, rfl, q, _, _, _, rfl, rfl, SqT.of w3, atI_nat (j := 0) rfl, t, l, _, rfl, rfl, ((ht.same s14).same s5).sq, ?_⟩
        refine ⟨_, q5, lt_line (by rw [List.length_map, List.length_map, List.length_take]; omega), s5.upd_own hD, ?_⟩
        rw [upd_same, ← take_snoc (List.getElem?_eq_getElem hir), List.map_append, List.map_append]
        rfl
      rintro H5 ⟨s5, q5⟩
      rw [List.length_map, hT.1, List.take_length] at q5
      refine ⟨D, _, rfl, .inl ⟨SqL.of q5, fun c1 hc1 => ?_⟩⟩
      have s15 := (s14.trans s5).upd_new (o := .tup ((rows.map fun r => ((l.count r.1 : Nat) : Int)).map V.int)) hc1
      refine ⟨_, _, rfl, (Eqs.ints (l := rows.map fun r => ((l.count r.1 : Nat) : Int)) (.of (((Same.refl H5).upd_new hc1) _ _ (s5 _ _ (show H4 q4 = some (.tup ((rows.map fun r => ((l.count r.1 : Nat) : Int)).map V.int)) from hq4)))) (.of upd_same) (by rw [List.length_map]; omega)).succ, fun H6 s6 => ?_⟩
      have s16 := s15.trans s6
      refine ⟨_, rfl, ifn (by decide) ?_⟩
      -- names
      have hR6 := s16 _ _ hR
      refine ⟨_, rfl, r, rfl, ⟨_, SqL.of hR6⟩, fun N hN => lc_it (walk_list (xs := ts.map V.ref)) (fun i H' => Same H6 H' ∧ H' N = some (.lst (((rows.take i).map (·.1)).map V.str))) ⟨(Same.refl H6).upd_new hN, upd_same⟩ (fun i H' _ ⟨q, _⟩ => SqL.of (q _ _ hR6)) ?_ ?_⟩
      · rintro i v H7 H8 hi ⟨s7, q7⟩ ⟨rfl, hv⟩
        have hir : i < rows.length := by rw [List.length_map, hT.1] at hi; exact hi
        obtain ⟨q, w1, w2, w3⟩ := (hT.keep (TK.of_same (s16.trans s7))).at hir
        rw [w2] at hv
        cases hv
        refine ⟨rfl, _, rfl, q, _, _, _, rfl, rfl, SqT.of w3, atI_nat (j := 0) rfl, ?_⟩
        refine ⟨_, q7, lt_line (by rw [List.length_map, List.length_map, List.length_take]; omega), s7.upd_own hN, ?_⟩
        rw [upd_same, ← take_snoc (List.getElem?_eq_getElem hir), List.map_append, List.map_append]
        rfl
      rintro H7 ⟨s7, q7⟩
      rw [List.length_map, hT.1, List.take_length] at q7
      have s17 := s16.trans s7
      -- the key
      refine ⟨_, rfl, _, rfl, b, t, rows, l, rfl, hB.same s17, R, ht.same s17, O, fun H8 q8 s8 ⟨u8, ks, x1, x2, x3⟩ => ?_⟩
      have s18 := s17.trans s8
      have hN8 := s8 _ _ q7
      refine ⟨_, rfl, t, _, rfl, .inr (ht.same s18).sq, _, rfl, t, rfl, ⟨_, (ht.same s18).sq⟩, fun G hG => lc_it (walk_tup (xs := l.map V.str)) (fun i H' => Same H8 H' ∧ ∃ ks, H' G = some (.lst (ks.map V.int)) ∧ RanksOf (rows.map (·.1)) (l.take i) ks) ⟨(Same.refl H8).upd_new hG, [], upd_same, rfl, fun i z h => by simp at h⟩ (fun i H' _ ⟨q, _⟩ => ((ht.same s18).same q).sq) ?_ ?_⟩
      · rintro i v H9 H10 hi ⟨s9, ks9, y1, y2⟩ ⟨rfl, hv⟩
        have hil : i < l.length := by rw [List.length_map] at hi; exact hi
        rw [List.getElem?_map, List.getElem?_eq_getElem hil] at hv
        cases hv
        obtain ⟨q, hq, eq⟩ := O.k _ (List.getElem_mem hil)
        obtain ⟨j, hj, ej⟩ := List.mem_iff_getElem.mp (List.mem_map_of_mem (f := (·.1)) hq)
        have hjz : (rows.map (·.1))[j]? = some l[i] := by rw [List.getElem?_eq_getElem hj, ej, eq]
        refine ⟨rfl, _, rfl, .inl ⟨rfl, _, SqL.of (s9 _ _ hN8)⟩, _, rfl, N, _, _, j, _, rfl, rfl, SqL.of (s9 _ _ hN8), rfl, flat_strs _, (by rw [List.getElem?_map, hjz]; rfl), (beq_self_eq_true _), fun m z' hm hz' => ?_, ?_⟩
        · obtain ⟨z2, hz2, rfl⟩ := get_map hz'
          obtain ⟨hm2, em⟩ := List.getElem?_eq_some_iff.mp hz2
          refine beq_eq_false_iff_ne.mpr fun e => ?_
          have h1 : (rows.map (·.1))[m] = (rows.map (·.1))[j] := by rw [em, ej, eq, e]
          have := (List.getElem_inj R.nd).mp h1
          omega
        · refine ⟨_, y1, ?_, s9.upd_own hG, ks9 ++ [((j : Nat) : Int)], by rw [upd_same, List.map_append]; rfl, y2.snoc (List.getElem?_eq_getElem hil) hjz⟩
          have := y2.1
          rw [List.length_take] at this
          rw [List.length_map]
          exact lt_line (by omega)
      rintro H9 ⟨s9, ks9, y1, y2⟩
      rw [List.length_map, List.take_length] at y2
      have s19 := s18.trans s9
      have ek := x3.uniq R.nd y2
      subst ek
      have hkl := x3.1
      refine ⟨G, _, rfl, .inl ⟨SqL.of y1, fun c2 hc2 => ?_⟩⟩
      have s20 := (Same.refl H9).upd_new (o := .tup (ks.map V.int)) hc2
      refine ⟨le_line (show 2 ≤ 100000 by decide), fun c3 hc3 => ?_⟩
      have s21 := s20.upd_new (o := .tup [.int (((l.map V.str).length : Nat) : Int), .ref c2]) hc3
      refine ⟨_, _, rfl, .tup (.of (s21 _ _ (s9 _ _ x1))) (.of upd_same) rfl (show 2 ≤ 100000 by decide) (fun i x y p q => ?_), fun H10 s22 => ?_⟩
      · match i, p, q with
        | 0, p, q =>
          cases p
          cases q
          rw [List.length_map]
          exact .int _
        | 1, p, q =>
          cases p
          cases q
          exact Eqs.ints (.of (s21 _ _ (s9 _ _ x2))) (TQ.new hc3 _ _ (.of upd_same)) (by omega)
        | i + 2, p, _ => simp at p
      have s23 := (s19.trans s21).trans s22
      refine ⟨_, rfl, ifn (by decide) ?_⟩
      -- the paths
      refine ⟨_, rfl, _, rfl, b, t, rows, l, rfl, hB.same s23, R, ht.same s23, O, fun H11 q11 s24 hq11 => ?_⟩
      have s25 := s23.trans s24
      have hf11 : PthsAt rows l H11 fo := ⟨fs, s25 _ _ hf1, hf2.keep (TQ.of_same s25)⟩
      have hk0 : l[0]? = some l[0] := List.getElem?_eq_getElem hp0
      have hkk := O.k _ (List.getElem_mem hp0)
      obtain ⟨_, _, _, _, _, hw3⟩ := wR_mem R hkk
      refine ⟨fun σ' H' => ∃ x : Option V, σ' = [some (.ref r), some (.ref b), some (.ref t), some (.ref e), some (.ref fo), some (.int ((Mth.tall (wR rows) l l.length : Nat) : Int)), x, some (.ref N), some (.ref q11), none, none, none, none, none] ∧ Same H11 H', ?_, ?_⟩
      · refine ⟨_, rfl, t, _, rfl, .inr (ht.same s25).sq, _, _, rfl, rfl, _, rfl, ?_⟩
        refine ite2 (fun _ => ?_) (fun _ => ?_)
        · obtain ⟨us, z1, z2⟩ := hq11
          obtain ⟨vs, z3, z4⟩ := hf11
          refine ⟨_, rfl, _, _, _, _, true, rfl, .ty _, tyx_tup (.of z1), rfl, _, rfl, ?_⟩
          refine ifn (by decide) ?_
          refine ⟨_, rfl, _, rfl, psD _, psD _, .tup (SqT.of z1) (dp_paths us _ z2), .tup (SqT.of z3) (dp_paths vs _ z4), psD_shaped _, psD_shaped _, _, rfl, ?_⟩
          rw [psD_eqv]
          refine ifn (by decide) ?_
          exact ⟨x, rfl, Same.refl H11⟩
        · refine ⟨_, rfl, _, rfl, _, _, rfl, Eqs.paths hq11 hf11 O, fun H12 s26 => ?_⟩
          refine ⟨_, rfl, ifn (by decide) ?_⟩
          exact ⟨x, rfl, s26⟩
      rintro _ H12 ⟨x2, rfl, s26⟩
      have s27 := s25.trans s26
      refine ⟨le_line (show 0 ≤ 100000 by decide), fun be hbe => ?_⟩
      have hbeN : H be = none := s27.free hbe
      have s28 := s27.upd_new (o := .lst []) hbe
      refine ⟨_, rfl, _, rfl, t, _, _, _, rfl, rfl, (ht.same s28).sq, str_at hp0 rfl, r, rows, l[0], rfl, hRR.same s28, R, hkk, _, rfl, (show -(2 ^ 62) ≤ ((wR rows l[0] : Nat) : Int) by omega), (show ((wR rows l[0] : Nat) : Int) < 2 ^ 62 by omega), ?_⟩
      rw [Int.toNat_natCast]
      refine for_range (fun i σ H' => ∃ (y : Option V) (bs : List Addr), σ = [some (.ref r), some (.ref b), some (.ref t), some (.ref e), some (.ref fo), some (.int ((Mth.tall (wR rows) l l.length : Nat) : Int)), x2, some (.ref N), some (.ref q11), some (.ref be), some (.int ((Mth.nxs (wR rows) l (0 + 1) i : Nat) : Int)), y, none, none] ∧ Same H H' ∧ H' be = some (.lst (bs.map V.ref)) ∧ TsAt sV H' bs (Mth.brs (wR rows) l 0 i)) ?_ ?_ ?_
      · refine ⟨none, [], ?_, s28, upd_same, TsAt.nil⟩
        rw [Mth.nxs_zero _ hp0]
        rfl
      · rintro i σ H13 hi ⟨y, bs, rfl, s29, hb1, hb2⟩
        obtain ⟨m1, m2, m3⟩ := Mth.end_step (wR rows) O.f hk0 hi
        have hm : Mth.nxs (wR rows) l (0 + 1) i ≤ Mth.nxs (wR rows) l (Mth.nxs (wR rows) l (0 + 1) i) 1 := Mth.nxs_ge _ _ _ (Nat.le_of_lt m1)
        refine ⟨_, rfl, .inl ⟨rfl, _, SqL.of hb1⟩, _, rfl, _, rfl, _, rfl, _, rfl, _, rfl, e, _, _, _, rfl, rfl, SqL.of (s29 _ _ he), int_at (Mth.ends_get (wR rows) m1) rfl, _, rfl, ?_⟩
        refine slA_of (ht.same s29) (by rw [List.length_map]; exact Mth.nxs_le _ _ _ _) hm (fun c H14 s30 hc => ?_)
        have hb14 := s30 _ _ hb1
        have tk : TQ H13 (upd H14 be (.lst (bs.map V.ref ++ [V.ref c]))) := (TQ.of_same s30).trans (TQ.lst hb14)
        have s31 := (s29.trans s30).upd_own (o := .lst (bs.map V.ref ++ [V.ref c])) hbeN
        refine ⟨be, _, _, rfl, rfl, hb14, lt_line (by rw [List.length_map, hb2.1, Mth.brs_len]; omega), ?_⟩
        refine ⟨_, rfl, _, rfl, e, _, _, _, rfl, rfl, SqL.of (s31 _ _ he), int_at (Mth.ends_get (wR rows) m1) rfl, ?_⟩
        rw [m3]
        refine ⟨_, bs ++ [c], rfl, s31, by rw [upd_same, List.map_append]; rfl, ?_⟩
        rw [Mth.brs_succ]
        refine (hb2.keep tk).snoc (TQ.lst hb14 _ _ ?_)
        unfold sV Mth.cut
        rw [List.map_take, List.map_drop]
        exact hc
      · rintro σ H13 ⟨y, bs, rfl, s29, hb1, hb2⟩
        have hbl : ∀ l' ∈ Mth.brs (wR rows) l 0 (wR rows l[0]), ∃ p, p < l.length ∧ l' = Mth.cut (wR rows) l p := fun l' h => by
          unfold Mth.brs at h
          obtain ⟨c, hc, rfl⟩ := List.mem_map.mp h
          have hc' := List.mem_range.mp hc
          exact ⟨_, (Mth.end_step (wR rows) O.f hk0 hc').1, rfl⟩
        refine ⟨_, rfl, _, rfl, b, t, rows, l, rfl, hB.same s29, R, ht.same s29, O, fun H14 q14 s30 ⟨us, z1, z2⟩ => ?_⟩
        have s31 := s29.trans s30
        rw [Mth.wd_of _ hp0] at z2
        refine ⟨_, rfl, be, _, rfl, .inl ⟨SqL.of (s30 _ _ hb1), fun tb htb => ?_⟩⟩
        have s32 := (Same.refl H14).upd_new (o := .tup (bs.map V.ref)) htb
        refine ⟨_, _, rfl, Eqs.tss (.of (s32 _ _ z1)) (.of upd_same) (z2.keep (TQ.new htb)) ((hb2.keep (TQ.of_same s30)).keep (TQ.new htb)) (by rw [Mth.brs_len]; omega) (fun l' h => ?_), fun H15 s33 => ?_⟩
        · obtain ⟨p, _, rfl⟩ := hbl l' h
          have := Mth.cut_len (wR rows) l p
          omega
        have s34 := (s31.trans s32).trans s33
        refine ⟨_, rfl, ifn (by decide) ?_⟩
        have hal : l[0] :: (Mth.brs (wR rows) l 0 (wR rows l[0])).flatten = l := Mth.brs_all _ O.f hk0
        refine ⟨_, rfl, _, rfl, t, _, _, _, rfl, rfl, (ht.same s34).sq, str_at hp0 rfl, _, rfl, b, be, l[0], rows, bs, _, rfl, hB.same s34, R, hkk, ((s30.trans s32).trans s33) _ _ hb1, ((hb2.keep (TQ.of_same s30)).keep (TQ.new htb)).keep (TQ.of_same s33), fun l' h => ?_, Mth.brs_len _ _ _ _, fun _ H16 m1 s35 hm1 => ?_, fun h => absurd h (by rw [hal]; omega)⟩
        · obtain ⟨p, hp, rfl⟩ := hbl l' h
          exact O.cut hp
        rw [hal] at hm1
        refine ⟨_, rfl, le_line (show 2 ≤ 100000 by decide), fun m2 hm2 => ?_⟩
        have s36 := (s34.trans s35).upd_new (o := .tup [.str "told", .ref t]) hm2
        exact ⟨_, _, rfl, Eqs.told (hm1.same ((Same.refl H16).upd_new hm2)) (.of upd_same) (ht.same s36) (by omega), fun H17 s37 => k _ (s36.trans s37)⟩
end
end Sh
end
section
set_option Elab.async false
set_option linter.all false
set_option maxRecDepth 100000
set_option maxHeartbeats 2000000
set_option autoImplicit false
namespace Sh
open PySem PySem.Spec PyProof.Rows L2
open C8 (pss_cut tCut)
open Evl (ixN_nat)
theorem ROk.mono {rows : List Row} {m m' : Int} (R : ROk m rows) (h : m ≤ m') : ROk m' rows := ⟨R.pos, Int.le_trans R.len h, R.nd, R.nm, R.wd, R.leaf⟩
theorem Kp.ne_bag {a p : Addr} {H : Hp} {o : HO} (b : BagAt H a) (h : H p = some o) (d : ∀ xs, o ≠ .lst xs) : p ≠ a := fun e => by
  obtain ⟨z0, z1, z2, z3, cs, x1, _⟩ := b
  rw [e, x1] at h
  exact d _ (Option.some.inj h).symm
theorem Kp.tq {a : Addr} {H H' : Hp} (x : Kp a H H') (b : BagAt H a) : TQ H H' := fun t xs q => by
  rcases q with q | ⟨o, q⟩
  · exact .inl (x _ _ q (Kp.ne_bag b q fun _ e => nomatch e))
  · exact .inr ⟨o, x _ _ q (Kp.ne_bag b q fun _ e => nomatch e)⟩
theorem Kp.tz {a t : Addr} {H H' : Hp} {xs : List V} (x : Kp a H H') (b : BagAt H a) (h : Tz H t xs) : Tz H' t xs := by
  obtain ⟨o, q, d⟩ := h
  exact ⟨o, x _ _ q (Kp.ne_bag b q fun _ e => nomatch e), d⟩
theorem RowsAt.kp {a r : Addr} {H H' : Hp} {rows : List Row} (h : RowsAt H r rows) (b : BagAt H a) (x : Kp a H H') (n : r ≠ a) : RowsAt H' r rows := by
  obtain ⟨ts, h1, h2⟩ := h
  exact ⟨ts, x _ _ h1 n, h2.keep (x.tk b)⟩
/-- what stands while the knots are asked -/
structure LFm (C a r b t u e f : Addr) (rows : List Row) (l o : List Str) (H : Hp) : Prop where
  g : BagAt H a
  r : RowsAt H r rows
  b : BedAt C H b rows
  t : Tz H t (l.map V.str)
  u : Tz H u (o.map V.str)
  e : EndsAt H e rows l
  f : PthsAt rows l H f
theorem LFm.kp {C a r b t u e f : Addr} {rows : List Row} {l o : List Str} {H H' : Hp} (x : LFm C a r b t u e f rows l o H) (k : Kp a H H') (g : BagAt H' a) (nr : r ≠ a) (ne : e ≠ a) : LFm C a r b t u e f rows l o H' := by
  obtain ⟨ts, f1, f2⟩ := x.f
  exact ⟨g, x.r.kp x.g k nr, x.b.kp x.g k, k.tz x.g x.t, k.tz x.g x.u, k _ _ x.e ne, ts, k _ _ f1 (Kp.ne_bag x.g f1 fun _ e => nomatch e), f2.keep (k.tq x.g)⟩
theorem LFm.same {C a r b t u e f : Addr} {rows : List Row} {l o : List Str} {H H' : Hp} (x : LFm C a r b t u e f rows l o H) (s : Same H H') : LFm C a r b t u e f rows l o H' := by
  obtain ⟨ts, f1, f2⟩ := x.f
  exact ⟨bag_same x.g s, x.r.same s, x.b.same s, x.t.same s, x.u.same s, s _ _ x.e, ts, s _ _ f1, f2.keep (TQ.of_same s)⟩
def spLaw (K : PySem.W.Frag) : Sp := fun vs H Q _ => ∃ (s : Addr) (ns : List Int), vs = [.ref s] ∧ SqL K H s (ns.map V.int) ∧ ns.length ≤ 63 ∧ ∀ H', Q (.bl true) H'
theorem fnOk0 {P : Program} {w : World} {K : PySem.W.Frag} {mg : Str → Option Value} {base : Heap} {k : Nat} {x : Str} {sp : Sp} {st : Stmt} {N ps : List Str} {f0 : Addr} {fd : FuncData} (F : FunD K x x (defArgs st) (defBody st) (defScope st) [] [] f0 fd) (S : FnScope N ps (defScope st)) (len : ∀ vs H Q E, sp vs H Q E → vs.length = ps.length)
    (hbody : ∀ (cdv : Value) (A : Around) (outer : List Env) (s : Shared) (H : Hp) (vs : List V) (Q : VK) (E : XK), Room k (A.deeper (envOfC x (defScope st) s.heap.objs.size f0 cdv)) → sp vs H Q E →
      ∃ t, PSs (cxOf CX0 P w K mg base N x (defScope st) f0 cdv A outer s H E).nox (defBody st) t ∧ t { nx := fun _ H' => Q .non H', rt := Q } (start N vs) H) : FnOk P w K mg base CX0 (k + 1) f0 fd ps sp :=
  F.ok S len fun cdv A outer s H vs Q E hr h => by
    obtain ⟨t, a, b⟩ := hbody cdv A outer s H vs Q E hr h
    exact ⟨t, a.nox, b⟩
abbrev s_law : Stmt := top 61
abbrev N_law : List Str := ["script", "bag", "rows", "bed", "plant", "other", "ends", "found", "asked", "place", "k"]
theorem sc_law : FnScope N_law ["script"] (defScope s_law) := ⟨rfl, rfl, rfl, by decide +kernel, rfl, by decide +kernel, by decide +kernel⟩
section
variable {P : Program} {w : World} {K : PySem.W.Frag} {mg : Str → Option Value} {base : Heap} {C CN CT : Addr}
theorem ok_law (T : Bl mg) (c_law_bag : DefOk P w K mg base CX0 1 "_law_bag" (spBag K)) (c_law_rows : DefOk P w K mg base CX0 4 "_law_rows" spRows) (c_law_bed : DefOk P w K mg base CX0 7 "_law_bed" (spLawBed C)) (c_law_some_plant : DefOk P w K mg base CX0 3 "_law_some_plant" (spLawSome 0)) (c_law_draw : DefOk P w K mg base CX0 1 "_law_draw" spDraw) (c_law_plant : DefOk P w K mg base CX0 2 "_law_plant" spLawPlant)
    (c_law_ends : DefOk P w K mg base CX0 2 "_law_ends" spLawEnds) (c_law_paths : DefOk P w K mg base CX0 2 "_law_paths" spLawPaths) (c_law_whole_right : DefOk P w K mg base CX0 7 "_law_whole_right" (spWhole C)) (c_law_above_right : DefOk P w K mg base CX0 7 "_law_above_right" (spAbove C)) (c_law_knot_right : DefOk P w K mg base CX0 6 "_law_knot_right" (spKnot C)) {f0 : Addr} {fd : FuncData} (F0 : FunD K "law" "law" (defArgs s_law) (defBody s_law) (defScope s_law) [] [] f0 fd) : FnOk P w K mg base CX0 8 f0 fd ["script"] (spLaw K) := by
  refine fnOk0 F0 sc_law (fun vs H Q E h => ?_) (fun cdv A outer s H vs Q E hr h => ?_)
  · obtain ⟨sc, ns, rfl, _⟩ := h
    rfl
  · obtain ⟨sc, ns, rfl, hS, hn, k⟩ := h
    refine ⟨_, (pss_cons (ps_set (i := 1) sc_law.nd rfl (Or.inr rfl) (pe_d c_law_bag (hr.mono (by decide)) pass0 (pa_cons (pv 0) pa_nil)))
      (pss_cons (ps_set (i := 2) sc_law.nd rfl (Or.inl rfl) (pe_d c_law_rows (hr.mono (by decide)) pass0 (pa_cons (pv 1) (pa_cons pe_int pa_nil))))
      (pss_cons (ps_set (i := 3) sc_law.nd rfl (Or.inl rfl) (pe_d c_law_bed (hr.mono (by decide)) pass0 (pa_cons (pv 2) pa_nil)))
      (pss_cons (ps_set (i := 4) sc_law.nd rfl (Or.inr rfl) (pe_d c_law_some_plant (hr.mono (by decide)) pass0 (pa_cons (pv 1) (pa_cons (pv 2) pa_nil))))
      (pss_cons (ps_set (i := 5) sc_law.nd rfl (Or.inl rfl) (pe_d c_law_plant (hr.mono (by decide)) pass0 (pa_cons (pv 1) (pa_cons (pv 2) (pa_cons (pe_op op_add pe_int (pe_d c_law_draw (hr.mono (by decide)) pass0 (pa_cons (pv 1) (pa_cons pe_int pa_nil)))) (pa_cons pe_bl pa_nil))))))
      (pss_cons (ps_set (i := 6) sc_law.nd rfl (Or.inl rfl) (pe_d c_law_ends (hr.mono (by decide)) pass0 (pa_cons (pv 2) (pa_cons (pv 4) pa_nil))))
      (pss_cons (ps_set (i := 7) sc_law.nd rfl (Or.inl rfl) (pe_d c_law_paths (hr.mono (by decide)) pass0 (pa_cons (pv 2) (pa_cons (pv 4) (pa_cons (pv 6) pa_nil)))))
      (pss_cons (ps_if (PW.pt (pw_or (pt_not (pt_val (pe_d c_law_whole_right (hr.mono (by decide)) pass0 (pa_cons (pv 2) (pa_cons (pv 3) (pa_cons (pv 4) (pa_cons (pv 6) (pa_cons (pv 7) pa_nil)))))))) (pw_or1 (pt_not (pt_val (pe_d c_law_above_right (hr.mono (by decide)) pass0 (pa_cons (pv 2) (pa_cons (pv 3) (pa_cons (pv 4) pa_nil)))))))))
        (pss_one (ps_ret pe_bl))
        pss_nil)
      (pss_cons (ps_setLc (i := 8) (own := [("place", 9)]) (g := (gName 9)) (tt := tYes) rfl sc_law.nd rfl rfl (sw_true rfl rfl rfl (by decide +kernel)) (pi_range1 (by rfl) T.b_range (pa_cons (pe_callB call_len_seq (by rfl) T.b_len boot_len (pa_cons (pv 4) pa_nil)) pa_nil)) (blkOk_by (N := N_law) (sc := defScope s_law) (by decide +kernel)) (fun _ _ _ _ _ => (pg_name (i := 9) sc_law.nd rfl (Or.inl rfl))) (fun _ _ _ _ _ => pts_nil) (fun _ _ _ _ _ => (pv 9)))
      (pss_cut (ps_if (pt_cmpR op_gt (pe_callB call_len_seq (by rfl) T.b_len boot_len (pa_cons (pv 4) pa_nil)) pe_int (nomark _))
        (pss_one (ps_setLc (i := 8) (own := [("k", 10)]) (g := (gName 10)) (tt := tYes) rfl sc_law.nd rfl rfl (sw_true rfl rfl rfl (by decide +kernel)) (pi_range1 (by rfl) T.b_range (pa_cons pe_int pa_nil)) (blkOk_by (N := N_law) (sc := defScope s_law) (by decide +kernel)) (fun _ _ _ _ _ => (pg_name (i := 10) sc_law.nd rfl (Or.inl rfl))) (fun _ _ _ _ _ => pts_nil) (fun _ _ _ _ _ => (pe_d c_law_draw (hr.mono (by decide)) pass0 (pa_cons (pv 1) (pa_cons (pe_callB (show CallR _ _ (Evl.rLenS K) from call_len_seq) (by rfl) T.b_len boot_len (pa_cons (pv 4) pa_nil)) pa_nil))))))
        pss_nil)
      (pss_cons (ps_for PassesOwn.never rfl (pi_list (pv 8)) (pg_name (i := 9) sc_law.nd rfl (Or.inl rfl))
        (pss_one (ps_if (pt_not (pt_val (pe_d c_law_knot_right (hr.mono (by decide)) pass0 (pa_cons (pv 2) (pa_cons (pv 3) (pa_cons (pv 4) (pa_cons (pv 5) (pa_cons (pv 9) (pa_cons (pe_ix ix_list (pv 6) (pv 9) (fun _ _ => rfl)) (pa_cons (pe_ix ix_tup (pv 7) (pv 9) (fun _ _ => rfl)) pa_nil))))))))))
          (pss_one (ps_ret pe_bl))
          pss_nil)))
      (pss_one (ps_ret pe_bl))))))))))))), ?_⟩
    refine ⟨_, rfl, sc, ns, rfl, hS, hn, fun H1 a s1 ha b1 => ?_⟩
    refine ⟨_, rfl, a, 6, rfl, b1, by decide, by decide, fun H2 r rows k2 b2 hr2 hR2 R6 => ?_⟩
    have R := R6.mono (m' := 8) (by decide)
    have nra : r ≠ a := Kp.bag_ne b1 hr2
    refine ⟨_, rfl, r, rows, rfl, hR2, R, fun H3 b s3 hb hB3 => ?_⟩
    have b3 := bag_same b2 s3
    have hR3 := hR2.same s3
    refine ⟨_, rfl, _, rfl, a, r, rows, rfl, b3, nra, hR3, R, fun H4 t l k4 b4 ht4 O => ?_⟩
    have hR4 := hR3.kp b3 k4 nra
    have hB4 := hB3.kp b3 k4
    refine ⟨_, rfl, _, rfl, _, rfl, a, 7, rfl, b4, by decide, by decide, fun H5 d k5 b5 d0 d7 => ?_⟩
    have hR5 := hR4.kp b4 k5 nra
    have hB5 := hB4.kp b4 k5
    have ht5 := k5.tz b4 ht4
    refine ⟨_, _, rfl, rfl, a, r, rows, (1 + d).toNat, (by rw [show (((1 + d).toNat : Nat) : Int) = 1 + d by omega]), b5, nra, hR5, R, by omega, by omega, fun H6 u o k6 b6 hu6 O2 _ => ?_⟩
    have hR6 := hR5.kp b5 k6 nra
    have hB6 := hB5.kp b5 k6
    have ht6 := k6.tz b5 ht5
    refine ⟨_, rfl, _, rfl, r, t, rows, l, rfl, hR6, R, ht6.q, O, fun H7 e s7 he he7 => ?_⟩
    have nea : e ≠ a := Kp.bag_ne b6 he
    refine ⟨_, rfl, _, rfl, _, rfl, r, t, e, rows, l, rfl, hR6.same s7, R, ht6.q.same s7, O, he7, fun H8 f s8 hf8 => ?_⟩
    have s78 := s7.trans s8
    have L8 : LFm C a r b t u e f rows l o H8 := ⟨bag_same b6 s78, hR6.same s78, hB6.same s78, ht6.same s78, hu6.same s78, s8 _ _ he7, hf8⟩
    have hsz := O.sz
    refine ⟨_, rfl, _, rfl, _, rfl, _, rfl, _, rfl, r, b, t, e, f, rows, l, rfl, L8.r, L8.b, R, L8.t, O, L8.e, L8.f, fun H9 s9 => ?_⟩
    have L9 := L8.same s9
    refine ⟨_, rfl, ifn (by decide) ?_⟩
    refine ⟨_, rfl, _, rfl, _, rfl, r, b, t, rows, l, rfl, L9.r, L9.b, R, L9.t.q, O, fun H10 s10 => ?_⟩
    have L10 := L9.same s10
    refine ⟨_, rfl, ifn (by decide) ?_⟩
    refine ⟨_, rfl, t, _, rfl, .inr L10.t.q.sq, _, rfl, by rw [List.length_map]; omega, by rw [List.length_map]; omega, fun D hD => ?_⟩
    refine lc_range (fun i H' => Same H10 H' ∧ H' D = some (.lst (((List.range i).map fun n => ((n : Nat) : Int)).map V.int))) ⟨(Same.refl H10).upd_new hD, upd_same⟩ ?_ ?_
    · rintro i H11 hi ⟨s11, q11⟩
      rw [List.length_map, Int.toNat_natCast] at hi
      refine ⟨rfl, _, rfl, _, q11, lt_line (by rw [List.length_map, List.length_map, List.length_range]; omega), s11.upd_own hD, ?_⟩
      rw [upd_same, List.range_succ, List.map_append, List.map_append, show (0 : Int) + ((i : Nat) : Int) = ((i : Nat) : Int) by omega]
      rfl
    rintro H11 ⟨s11, q11⟩
    rw [List.length_map, Int.toNat_natCast] at q11
    have L11 := L10.same s11
    have nDa : D ≠ a := Kp.bag_ne L10.g hD
    refine ⟨fun σ' H' => ∃ (A : Addr) (js : List Nat) (y : Option V), σ' = [some (.ref sc), some (.ref a), some (.ref r), some (.ref b), some (.ref t), some (.ref u), some (.ref e), some (.ref f), some (.ref A), none, y] ∧ LFm C a r b t u e f rows l o H' ∧ H' A = some (.lst ((js.map fun n => ((n : Nat) : Int)).map V.int)) ∧ ∀ j ∈ js, j < l.length, ?_, ?_⟩
    · refine ⟨_, rfl, t, _, rfl, .inr L11.t.q.sq, _, _, rfl, rfl, _, rfl, ?_⟩
      refine ite2 (fun _ => ?_) (fun _ => ?_)
      · refine ⟨_, rfl, by decide, by decide, fun D2 hD2 => lc_range (fun i H' => (Kp a H11 H' ∧ LFm C a r b t u e f rows l o H') ∧ ∃ js : List Nat, js.length = i ∧ H' D2 = some (.lst ((js.map fun n => ((n : Nat) : Int)).map V.int)) ∧ ∀ j ∈ js, j < l.length) ?_ ?_ ?_⟩
        · exact ⟨⟨(Kp.refl a H11).upd_new hD2, L11.same ((Same.refl H11).upd_new hD2)⟩, [], rfl, upd_same, fun j h => by simp at h⟩
        · rintro i H12 hi ⟨⟨k12, L12⟩, js, j1, j2, j3⟩
          have nD2 : D2 ≠ a := Kp.bag_ne L11.g hD2
          refine ⟨rfl, _, rfl, _, rfl, t, _, rfl, .inr L12.t.q.sq, a, ((l.length : Nat) : Int), by rw [List.length_map], L12.g, by have := O.pos; omega, by omega, fun H13 d2 k13 b13 p0 p1 => ?_⟩
          have L13 := L12.kp k13 b13 nra nea
          have j2' := k13 _ _ j2 nD2
          have hD2e : D2 ≠ e := (ne_of_none L11.e hD2).symm
          have hD2r : D2 ≠ r := by
            obtain ⟨ts, h1, _⟩ := L11.r
            exact (ne_of_none h1 hD2).symm
          refine ⟨_, j2', ?_, ⟨(k12.trans k13).upd_own hD2, ?_⟩, js ++ [d2.toNat], by rw [List.length_append, j1]; rfl, ?_, fun j hj => ?_⟩
          · have h3 : i < 3 := hi
            rw [List.length_map, List.length_map, j1]
            exact lt_line (by omega)
          · exact L11.kp ((k12.trans k13).upd_own hD2) (b13.upd_ne nD2) nra nea
          · rw [upd_same, List.map_append, List.map_append, show ([d2.toNat].map fun n => ((n : Nat) : Int)) = [d2] by rw [List.map_singleton]; congr 1; omega]
            rfl
          · rcases List.mem_append.mp hj with h | h
            · exact j3 j h
            · rw [List.mem_singleton.mp h]
              omega
        · rintro H12 ⟨⟨k12, L12⟩, js, j1, j2, j3⟩
          exact ⟨D2, js, _, rfl, L12, j2, j3⟩
      · exact ⟨D, List.range l.length, _, rfl, L11, q11, fun j hj => List.mem_range.mp hj⟩
    rintro _ H12 ⟨A, js, y, rfl, L12, j2, j3⟩
    refine ⟨_, rfl, A, rfl, ⟨_, SqL.of j2⟩, for_it (walk_list (xs := (js.map fun n => ((n : Nat) : Int)).map V.int)) (fun i σ H' => ∃ (z : Option V), σ = [some (.ref sc), some (.ref a), some (.ref r), some (.ref b), some (.ref t), some (.ref u), some (.ref e), some (.ref f), some (.ref A), z, y] ∧ Same H12 H')
      ⟨none, rfl, Same.refl H12⟩ (fun i σ H' _ ⟨_, _, q⟩ => SqL.of (q _ _ j2)) ?_ ?_⟩
    · rintro i v σ H13 H14 hi ⟨z, rfl, s13⟩ ⟨rfl, hv⟩
      have hij : i < js.length := by rw [List.length_map, List.length_map] at hi; exact hi
      rw [List.getElem?_map, List.getElem?_map, List.getElem?_eq_getElem hij] at hv
      cases hv
      have hp := j3 _ (List.getElem_mem hij)
      generalize js[i] = p at hp
      have L13 := L12.same s13
      obtain ⟨fs, f1, f2⟩ := L13.f
      have hfl : p < ((List.range l.length).map (Mth.pth (wR rows) l)).length := by rw [List.length_map, List.length_range]; exact hp
      obtain ⟨pa, w1, w2, w3⟩ := f2.at hfl
      rw [List.getElem_map, List.getElem_range] at w3
      refine ⟨_, rfl, _, rfl, _, rfl, _, rfl, _, rfl, _, rfl, _, rfl, e, _, _, _, rfl, rfl, SqL.of L13.e, int_at (Mth.ends_get (wR rows) hp) rfl, _, rfl, _, rfl, f, _, _, _, rfl, rfl, SqT.of f1, at_ofG (j := p) rfl w2, ?_⟩
      refine ⟨r, b, t, u, pa, rows, l, o, p, rfl, L13.r, L13.b, R, L13.t.q, O, L13.u.q, O2, hp, w3, fun H15 s15 => ?_⟩
      refine ⟨_, rfl, ifn (by decide) ?_⟩
      exact ⟨_, rfl, s13.trans s15⟩
    · rintro σ H13 ⟨z, rfl, s13⟩
      exact k _
end
end Sh
end
section
set_option Elab.async false
set_option linter.all false
set_option maxRecDepth 100000
set_option maxHeartbeats 0
namespace Sh
open PySem PySem.Spec PyProof.Rows L2
abbrev TL : PySem.W.OpenLaw := PySem.Challenge.rw_shearyard_k01_branches_paths_and_counts
abbrev R : PySem.W.OpenRow := PySem.W.OpenLaw.row TL
def dOf (n : PySem.Str) (st : Stmt) : He.DefD := ⟨(n, none), n, n, defArgs st, defBody st, defScope st, [], []⟩
def dM (c m q : PySem.Str) (st : Stmt) : He.DefD := ⟨(c, some m), m, q, defArgs st, defBody st, defScope st, [], []⟩
def s_TooMany : Stmt := inClass (top 7) 0
def s_NoPath : Stmt := inClass (top 9) 0
def fn : List He.DefD := [dOf "check_size" s_check_size, dOf "fault_place" s_fault_place, dOf "ends_of" s_ends_of, dOf "starts_above" s_starts_above, dOf "paths_of" s_paths_of, dOf "span_at" s_span_at, dOf "check_plant" s_check_plant, dOf "plant_key" s_plant_key, dOf "height" s_height, dOf "counted" s_counted, dOf "branches_of" s_branches_of, dOf "planted" s_planted, dOf "paths" s_paths, dOf "branch_at" s_branch_at, dOf "replaced" s_replaced, dOf "all_letters" s_all_letters, dOf "is_name" s_is_name, dOf "check_pairs" s_check_pairs, dOf "_law_bag" s_law_bag, dOf "_law_draw" s_law_draw, dOf "_law_word" s_law_word, dOf "_law_name" s_law_name, dOf "_law_rows" s_law_rows, dOf "_law_bed" s_law_bed, dOf "_law_number" s_law_number, dOf "_law_plant" s_law_plant, dOf "_law_long" s_law_long, dOf "_law_some_plant" s_law_some_plant, dOf "_law_ends" s_law_ends, dOf "_law_paths" s_law_paths, dOf "_law_same" s_law_same, dOf "_law_planted" s_law_planted, dOf "_law_planted_met" s_law_planted_met, dOf "_law_replaced_met" s_law_replaced_met, dOf "_law_nowhere" s_law_nowhere, dOf "_law_whole_right" s_law_whole_right, dOf "_law_above_right" s_law_above_right, dOf "_law_knot_right" s_law_knot_right, dOf "levels_in" s_levels_in, dOf "law" s_law] ++ [dM "Bed" "__init__" "Bed.__init__" s_init__, dM "Bed" "branches" "Bed.branches" s_branches]
def fa : List He.Fa := [.glo "check_size", .glo "fault_place", .glo "ends_of", .glo "starts_above", .glo "paths_of", .glo "span_at", .glo "check_plant", .glo "plant_key", .glo "height", .glo "counted", .glo "branches_of", .glo "planted", .glo "paths", .glo "branch_at", .glo "replaced", .glo "all_letters", .glo "is_name", .glo "check_pairs", .glo "_law_bag", .glo "_law_draw", .glo "_law_word", .glo "_law_name", .glo "_law_rows", .glo "_law_bed", .glo "_law_number", .glo "_law_plant", .glo "_law_long", .glo "_law_some_plant", .glo "_law_ends", .glo "_law_paths", .glo "_law_same", .glo "_law_planted", .glo "_law_planted_met", .glo "_law_replaced_met", .glo "_law_nowhere", .glo "_law_whole_right", .glo "_law_above_right", .glo "_law_knot_right", .glo "levels_in", .glo "law"] ++ [.glo "Bed", .cls "Bed", .mkr "Bed", .meth "Bed" "branches", .noat "Bed" "rows", .noat "Bed" "kinds", .noat "Bed" "widths", .noat "Bed" "ranks", .free "len", .free "range", .free "abs", .free "int", .free "max", .free "all", .free "isinstance", .free "set", .free "list", .free "tuple", .free "bool", .free "str", .free "enumerate", .free "super", .int "MOST_KINDS" 8, .int "MOST_BRANCHES" 3, .int "MOST_KNOTS" 2000, .int "LONGEST_NAME" 8, .str "LETTERS" "abcdefghijklmnopqrstuvwxyz"]
def xs : List Hx.XDef := [⟨"TooMany", ["what", "limit"], "TooMany.__init__", defArgs s_TooMany, defBody s_TooMany, defScope s_TooMany⟩, ⟨"NoPath", ["path"], "NoPath.__init__", defArgs s_NoPath, defBody s_NoPath, defScope s_NoPath⟩]
abbrev hk : PySem.W.Hook := Hx.hookX TL.prog.main.file 5 fa fn xs
def ob (s : PySem.W.SharedT) : Hx.AlX := Hx.obsX TL.prog.main.file 5 fa fn xs (HandSHeadRun.getT s)
def names : List PySem.Str := (["_wall", "YardError", "InvalidBed", "InvalidPlant", "InvalidText", "UnknownKind", "TooMany", "WrongBranches", "NoPath", "MOST_KINDS", "MOST_BRANCHES", "MOST_KNOTS", "check_size", "fault_place", "ends_of", "starts_above", "paths_of", "levels_in", "span_at", "check_plant", "plant_key", "height", "counted", "branches_of", "planted", "paths", "branch_at", "replaced", "LETTERS", "LONGEST_NAME"] : List PySem.Str) ++ (["all_letters", "is_name", "DIGITS", "check_pairs", "Bed", "_law_bag", "_law_draw", "_law_word", "_law_name", "_law_rows", "_law_bed", "_law_number", "_law_plant", "_law_long", "_law_some_plant", "_law_ends", "_law_paths", "_law_same", "_law_planted", "_law_planted_met", "_law_replaced_met", "_law_nowhere", "_law_whole_right", "_law_above_right", "_law_knot_right"] : List PySem.Str)
end Sh
end
section
set_option Elab.async false
set_option linter.all false
set_option maxRecDepth 100000
set_option maxHeartbeats 0
namespace Sh
open PySem PySem.Spec PyProof.Rows L2
theorem run (w : World) : HandSHeadRun.RunEq R (PySem.W.view R.prog [61]) hk ob 9000 names w := by
  intro os
  kernel_rfl
end Sh
end
section
set_option Elab.async false
set_option linter.all false
set_option maxRecDepth 100000
set_option maxHeartbeats 2000000
set_option autoImplicit false
namespace Sh
open PySem PySem.Spec PyProof.Rows L2
/-! ### the two exception classes -/
def q0 : Pos := ⟨0, 0, 0, 0⟩
def stpOf : Stmt → SupX.StP
  | .Assign [.Attribute (.Name _ q1) f q2] (.Name _ q3) q4 => ⟨f, q1, q2, q3, q4⟩
  | _ => ⟨"", q0, q0, q0, q0⟩
def headOf : List Stmt → Expr × Pos × Pos × Pos × Pos × Pos
  | .Expr (.Call (.Attribute (.Call (.Name _ p0) [] [] p1) _ p2) [msg] [] p3) p4 :: _ => (msg, p0, p1, p2, p3, p4)
  | _ => (.Name "" q0, q0, q0, q0, q0, q0)
def bodyT : List Stmt := defBody s_TooMany
def bodyN : List Stmt := defBody s_NoPath
def zT1 : SupX.StP := stpOf (bodyT.getD 1 (.Pass q0))
def zT2 : SupX.StP := stpOf (bodyT.getD 2 (.Pass q0))
def zN1 : SupX.StP := stpOf (bodyN.getD 1 (.Pass q0))
theorem eT : defBody s_TooMany = SupX.iB (headOf bodyT).1 (headOf bodyT).2.1 (headOf bodyT).2.2.1 (headOf bodyT).2.2.2.1 (headOf bodyT).2.2.2.2.1 (headOf bodyT).2.2.2.2.2 [zT1, zT2] := rfl
theorem eN : defBody s_NoPath = SupX.iB (headOf bodyN).1 (headOf bodyN).2.1 (headOf bodyN).2.2.1 (headOf bodyN).2.2.2.1 (headOf bodyN).2.2.2.2.1 (headOf bodyN).2.2.2.2.2 [zN1] := rfl
theorem scT : SupX.SupScope (defScope s_TooMany) [zT1, zT2] := ⟨rfl, rfl, rfl, by decide +kernel, rfl, rfl, rfl, fun z hz => by
  rcases List.mem_cons.mp hz with h | h
  · rw [h]; exact ⟨rfl, by decide +kernel⟩
  · rw [List.mem_singleton.mp h]; exact ⟨rfl, by decide +kernel⟩, by decide +kernel⟩
theorem scN : SupX.SupScope (defScope s_NoPath) [zN1] := ⟨rfl, rfl, rfl, by decide +kernel, rfl, rfl, rfl, fun z hz => by
  rw [List.mem_singleton.mp hz]; exact ⟨rfl, by decide +kernel⟩, by decide +kernel⟩
theorem ppT (fI : Addr) : SupX.SupPos "TooMany.__init__" (defScope s_TooMany) fI (headOf bodyT).1 (headOf bodyT).2.1 (headOf bodyT).2.2.1 (headOf bodyT).2.2.2.1 (headOf bodyT).2.2.2.2.1 (headOf bodyT).2.2.2.2.2 := ⟨fun _ _ _ => ⟨_, rfl⟩, fun _ _ _ => rfl, fun _ _ _ => rfl⟩
theorem ppN (fI : Addr) : SupX.SupPos "NoPath.__init__" (defScope s_NoPath) fI (headOf bodyN).1 (headOf bodyN).2.1 (headOf bodyN).2.2.1 (headOf bodyN).2.2.2.1 (headOf bodyN).2.2.2.2.1 (headOf bodyN).2.2.2.2.2 := ⟨fun _ _ _ => ⟨_, rfl⟩, fun _ _ _ => rfl, fun _ _ _ => rfl⟩
def xT : Hx.XDef := ⟨"TooMany", ["what", "limit"], "TooMany.__init__", defArgs s_TooMany, defBody s_TooMany, defScope s_TooMany⟩
def xN : Hx.XDef := ⟨"NoPath", ["path"], "NoPath.__init__", defArgs s_NoPath, defBody s_NoPath, defScope s_NoPath⟩
section
variable {w : World} {K : PySem.W.Frag} {mg : Str → Option Value}
theorem msg_TooMany {prog : Program} {x L fI : Addr} {cda cc : Addr} {vs : List V} {us : List Value} (rv : Vals vs us) (hP : tmP vs) : SupX.MsgOk prog w (PySem.W.ksEnv "TooMany.__init__" (defScope s_TooMany) L fI (.ref cda) cc) (fun y => (((("self" : Str) :: [zT1, zT2].map (·.f)).zip (.ref x :: us)).reverse).lookup y) (headOf bodyT).1 := by
  subst hP
  obtain ⟨u1, u2, rfl, ⟨t1, rfl⟩, ⟨t2, rfl⟩⟩ := vals2 rv
  intro A E s Q hn hq
  have e1 : (((("self" : Str) :: [zT1, zT2].map (·.f)).zip [Value.ref x, .str "knots" t1, .int 2000 t2]).reverse).lookup ("what" : Str) = some (.str "knots" t1) := rfl
  have e2 : (((("self" : Str) :: [zT1, zT2].map (·.f)).zip [Value.ref x, .str "knots" t1, .int 2000 t2]).reverse).lookup ("limit" : Str) = some (.int 2000 t2) := rfl
  show wpAny _ _ (eval (.JoinedStr [.Constant (.str "too many ") _ _, .FormattedValue (.Name "what" _) (-1) none _, .Constant (.str ": the limit is ") _ _, .FormattedValue (.Name "limit" _) (-1) none _] _) _) Q E s
  refine wpAny_JoinedStr ?_
  refine wpAny_Constant_str ⟨_, _, rfl, le_line (by decide +kernel), ?_⟩
  refine wpAny_FormattedValue_plain (SupX.ldK hn e1 ?_ rfl rfl (by decide +kernel))
  refine wpAny_formatField_str ⟨_, _, rfl, le_line (by decide +kernel), ?_⟩ ⟨_, _, rfl, le_line (by decide +kernel), ?_⟩ (le_line (by decide +kernel))
  all_goals
    refine wpAny_Constant_str ⟨_, _, rfl, le_line (by decide +kernel), ?_⟩
    refine wpAny_FormattedValue_plain (SupX.ldK hn e2 ?_ rfl rfl (by decide +kernel))
    refine wpAny_formatField_int (by decide +kernel) ⟨_, _, rfl, le_line (by decide +kernel), ?_⟩
    exact ⟨le_line (by decide +kernel), hq _ _⟩
theorem msg_NoPath {prog : Program} {x L fI : Addr} {cda cc : Addr} {us : List Value} : SupX.MsgOk prog w (PySem.W.ksEnv "NoPath.__init__" (defScope s_NoPath) L fI (.ref cda) cc) (fun y => (((("self" : Str) :: [zN1].map (·.f)).zip (.ref x :: us)).reverse).lookup y) (headOf bodyN).1 := by
  intro A E s Q hn hq
  show wpAny _ _ (eval (.Constant (.str "the path leads to no knot") _ _) _) Q E s
  exact wpAny_Constant_str (hq _ _)
theorem sup_NoPath {h : Heap} (X : K.In h) (G : h.Ns mainGlobals mg) (gs : mg "super" = none) (F : Hx.XFacts TL.prog K xN [zN1]) : PySem.SupX.SupCls TL.prog w K mg "NoPath" (He.ga K "NoPath") ["path"] npP := by
  have T := F.txt
  have T2 : SupX.SupTxt TL.prog K (He.ga K "NoPath") (Hx.iOf K "NoPath") "NoPath.__init__" (defArgs s_NoPath) (SupX.iB (headOf bodyN).1 (headOf bodyN).2.1 (headOf bodyN).2.2.1 (headOf bodyN).2.2.2.1 (headOf bodyN).2.2.2.2.1 (headOf bodyN).2.2.2.2.2 [zN1]) (defScope s_NoPath) [zN1] := by
    rw [← eN]
    exact T
  refine ⟨PySem.W.mg_of X G F.gl, gs, T.kC, T.exC, T.tyC, fun A s R mb vs us rv hP hl K1 hlim hG hB hbs hroom hq => ?_⟩
  exact SupX.sup_made (ppN _) T2 scN (by decide +kernel) ⟨_, rfl, rfl⟩ (fun _ _ _ _ _ _ _ us hu => match us, hu with | [_, _], _ => rfl) K1 hlim hG gs hB hbs (by rw [← rv.length, hl]; rfl) hroom (by decide) (fun x L cda cc => msg_NoPath) hq
theorem sup_TooMany {h : Heap} (X : K.In h) (G : h.Ns mainGlobals mg) (gs : mg "super" = none) (F : Hx.XFacts TL.prog K xT [zT1, zT2]) : PySem.SupX.SupCls TL.prog w K mg "TooMany" (He.ga K "TooMany") ["what", "limit"] tmP := by
  have T := F.txt
  have T2 : SupX.SupTxt TL.prog K (He.ga K "TooMany") (Hx.iOf K "TooMany") "TooMany.__init__" (defArgs s_TooMany) (SupX.iB (headOf bodyT).1 (headOf bodyT).2.1 (headOf bodyT).2.2.1 (headOf bodyT).2.2.2.1 (headOf bodyT).2.2.2.2.1 (headOf bodyT).2.2.2.2.2 [zT1, zT2]) (defScope s_TooMany) [zT1, zT2] := by
    rw [← eT]
    exact T
  refine ⟨PySem.W.mg_of X G F.gl, gs, T.kC, T.exC, T.tyC, fun A s R mb vs us rv hP hl K1 hlim hG hB hbs hroom hq => ?_⟩
  exact SupX.sup_made (ppT _) T2 scT (by decide +kernel) ⟨_, rfl, rfl⟩ (fun _ _ _ _ _ _ _ us hu => match us, hu with | [_, _, _], _ => rfl) K1 hlim hG gs hB hbs (by rw [← rv.length, hl]; rfl) hroom (by decide) (fun x L cda cc => msg_TooMany rv hP) hq
end
end Sh
end
section
set_option Elab.async false
set_option linter.all false
set_option maxRecDepth 100000
set_option maxHeartbeats 4000000
set_option autoImplicit false
namespace Sh
open PySem PySem.Spec PyProof.Rows L2
theorem ob_eq (s : PySem.W.SharedT) : ob s = hk.obs s.abs := Hx.obsX_eq (HandSHeadRun.getT_eq s)
theorem facts {w : World} {K : PySem.W.Frag} {h : Heap} {mg : Str → Option Value} {f : Addr} (X : K.In h) (G : h.Ns mainGlobals mg) (hfa : mg ("law" : Str) = some (.ref f)) (c : He.SaysD fa fn K) (x1 : (xs.all fun d => d.ok TL.prog.main.file K) = true) (x2 : (xs.map fun d => Hx.xvOf K d.x) = xs.map Hx.XDef.val) :
    ∃ fd : FuncData, (∀ (s : Shared) (v : Value), BindsTo s fd ⟨[v], []⟩ [("script", v)]) ∧ ∀ base : Heap, K.In base → base.Ns mainGlobals mg → FnOk TL.prog w K mg base CX0 8 f fd ["script"] (spLaw K) := by
  have D_check_size : Def0 K mg "check_size" s_check_size := by
    obtain ⟨fd, F⟩ := c.def_ 0 (d := dOf "check_size" s_check_size) rfl
    exact ⟨_, fd, He.glo_ok X G (c.fact 0 (f := .glo "check_size") rfl), F⟩
  have D_fault_place : Def0 K mg "fault_place" s_fault_place := by
    obtain ⟨fd, F⟩ := c.def_ 1 (d := dOf "fault_place" s_fault_place) rfl
    exact ⟨_, fd, He.glo_ok X G (c.fact 1 (f := .glo "fault_place") rfl), F⟩
  have D_ends_of : Def0 K mg "ends_of" s_ends_of := by
    obtain ⟨fd, F⟩ := c.def_ 2 (d := dOf "ends_of" s_ends_of) rfl
    exact ⟨_, fd, He.glo_ok X G (c.fact 2 (f := .glo "ends_of") rfl), F⟩
  have D_starts_above : Def0 K mg "starts_above" s_starts_above := by
    obtain ⟨fd, F⟩ := c.def_ 3 (d := dOf "starts_above" s_starts_above) rfl
    exact ⟨_, fd, He.glo_ok X G (c.fact 3 (f := .glo "starts_above") rfl), F⟩
  have D_paths_of : Def0 K mg "paths_of" s_paths_of := by
    obtain ⟨fd, F⟩ := c.def_ 4 (d := dOf "paths_of" s_paths_of) rfl
    exact ⟨_, fd, He.glo_ok X G (c.fact 4 (f := .glo "paths_of") rfl), F⟩
  have D_span_at : Def0 K mg "span_at" s_span_at := by
    obtain ⟨fd, F⟩ := c.def_ 5 (d := dOf "span_at" s_span_at) rfl
    exact ⟨_, fd, He.glo_ok X G (c.fact 5 (f := .glo "span_at") rfl), F⟩
  have D_check_plant : Def0 K mg "check_plant" s_check_plant := by
    obtain ⟨fd, F⟩ := c.def_ 6 (d := dOf "check_plant" s_check_plant) rfl
    exact ⟨_, fd, He.glo_ok X G (c.fact 6 (f := .glo "check_plant") rfl), F⟩
  have D_plant_key : Def0 K mg "plant_key" s_plant_key := by
    obtain ⟨fd, F⟩ := c.def_ 7 (d := dOf "plant_key" s_plant_key) rfl
    exact ⟨_, fd, He.glo_ok X G (c.fact 7 (f := .glo "plant_key") rfl), F⟩
  have D_levels_in : Def0 K mg "levels_in" s_levels_in := by
    obtain ⟨fd, F⟩ := c.def_ 38 (d := dOf "levels_in" s_levels_in) rfl
    exact ⟨_, fd, He.glo_ok X G (c.fact 38 (f := .glo "levels_in") rfl), F⟩
  have D_height : Def0 K mg "height" s_height := by
    obtain ⟨fd, F⟩ := c.def_ 8 (d := dOf "height" s_height) rfl
    exact ⟨_, fd, He.glo_ok X G (c.fact 8 (f := .glo "height") rfl), F⟩
  have D_counted : Def0 K mg "counted" s_counted := by
    obtain ⟨fd, F⟩ := c.def_ 9 (d := dOf "counted" s_counted) rfl
    exact ⟨_, fd, He.glo_ok X G (c.fact 9 (f := .glo "counted") rfl), F⟩
  have D_branches_of : Def0 K mg "branches_of" s_branches_of := by
    obtain ⟨fd, F⟩ := c.def_ 10 (d := dOf "branches_of" s_branches_of) rfl
    exact ⟨_, fd, He.glo_ok X G (c.fact 10 (f := .glo "branches_of") rfl), F⟩
  have D_planted : Def0 K mg "planted" s_planted := by
    obtain ⟨fd, F⟩ := c.def_ 11 (d := dOf "planted" s_planted) rfl
    exact ⟨_, fd, He.glo_ok X G (c.fact 11 (f := .glo "planted") rfl), F⟩
  have D_paths : Def0 K mg "paths" s_paths := by
    obtain ⟨fd, F⟩ := c.def_ 12 (d := dOf "paths" s_paths) rfl
    exact ⟨_, fd, He.glo_ok X G (c.fact 12 (f := .glo "paths") rfl), F⟩
  have D_branch_at : Def0 K mg "branch_at" s_branch_at := by
    obtain ⟨fd, F⟩ := c.def_ 13 (d := dOf "branch_at" s_branch_at) rfl
    exact ⟨_, fd, He.glo_ok X G (c.fact 13 (f := .glo "branch_at") rfl), F⟩
  have D_replaced : Def0 K mg "replaced" s_replaced := by
    obtain ⟨fd, F⟩ := c.def_ 14 (d := dOf "replaced" s_replaced) rfl
    exact ⟨_, fd, He.glo_ok X G (c.fact 14 (f := .glo "replaced") rfl), F⟩
  have D_all_letters : Def0 K mg "all_letters" s_all_letters := by
    obtain ⟨fd, F⟩ := c.def_ 15 (d := dOf "all_letters" s_all_letters) rfl
    exact ⟨_, fd, He.glo_ok X G (c.fact 15 (f := .glo "all_letters") rfl), F⟩
  have D_is_name : Def0 K mg "is_name" s_is_name := by
    obtain ⟨fd, F⟩ := c.def_ 16 (d := dOf "is_name" s_is_name) rfl
    exact ⟨_, fd, He.glo_ok X G (c.fact 16 (f := .glo "is_name") rfl), F⟩
  have D_check_pairs : Def0 K mg "check_pairs" s_check_pairs := by
    obtain ⟨fd, F⟩ := c.def_ 17 (d := dOf "check_pairs" s_check_pairs) rfl
    exact ⟨_, fd, He.glo_ok X G (c.fact 17 (f := .glo "check_pairs") rfl), F⟩
  have D_law_bag : Def0 K mg "_law_bag" s_law_bag := by
    obtain ⟨fd, F⟩ := c.def_ 18 (d := dOf "_law_bag" s_law_bag) rfl
    exact ⟨_, fd, He.glo_ok X G (c.fact 18 (f := .glo "_law_bag") rfl), F⟩
  have D_law_draw : Def0 K mg "_law_draw" s_law_draw := by
    obtain ⟨fd, F⟩ := c.def_ 19 (d := dOf "_law_draw" s_law_draw) rfl
    exact ⟨_, fd, He.glo_ok X G (c.fact 19 (f := .glo "_law_draw") rfl), F⟩
  have D_law_word : Def0 K mg "_law_word" s_law_word := by
    obtain ⟨fd, F⟩ := c.def_ 20 (d := dOf "_law_word" s_law_word) rfl
    exact ⟨_, fd, He.glo_ok X G (c.fact 20 (f := .glo "_law_word") rfl), F⟩
  have D_law_name : Def0 K mg "_law_name" s_law_name := by
    obtain ⟨fd, F⟩ := c.def_ 21 (d := dOf "_law_name" s_law_name) rfl
    exact ⟨_, fd, He.glo_ok X G (c.fact 21 (f := .glo "_law_name") rfl), F⟩
  have D_law_rows : Def0 K mg "_law_rows" s_law_rows := by
    obtain ⟨fd, F⟩ := c.def_ 22 (d := dOf "_law_rows" s_law_rows) rfl
    exact ⟨_, fd, He.glo_ok X G (c.fact 22 (f := .glo "_law_rows") rfl), F⟩
  have D_law_bed : Def0 K mg "_law_bed" s_law_bed := by
    obtain ⟨fd, F⟩ := c.def_ 23 (d := dOf "_law_bed" s_law_bed) rfl
    exact ⟨_, fd, He.glo_ok X G (c.fact 23 (f := .glo "_law_bed") rfl), F⟩
  have D_law_number : Def0 K mg "_law_number" s_law_number := by
    obtain ⟨fd, F⟩ := c.def_ 24 (d := dOf "_law_number" s_law_number) rfl
    exact ⟨_, fd, He.glo_ok X G (c.fact 24 (f := .glo "_law_number") rfl), F⟩
  have D_law_plant : Def0 K mg "_law_plant" s_law_plant := by
    obtain ⟨fd, F⟩ := c.def_ 25 (d := dOf "_law_plant" s_law_plant) rfl
    exact ⟨_, fd, He.glo_ok X G (c.fact 25 (f := .glo "_law_plant") rfl), F⟩
  have D_law_long : Def0 K mg "_law_long" s_law_long := by
    obtain ⟨fd, F⟩ := c.def_ 26 (d := dOf "_law_long" s_law_long) rfl
    exact ⟨_, fd, He.glo_ok X G (c.fact 26 (f := .glo "_law_long") rfl), F⟩
  have D_law_some_plant : Def0 K mg "_law_some_plant" s_law_some_plant := by
    obtain ⟨fd, F⟩ := c.def_ 27 (d := dOf "_law_some_plant" s_law_some_plant) rfl
    exact ⟨_, fd, He.glo_ok X G (c.fact 27 (f := .glo "_law_some_plant") rfl), F⟩
  have D_law_ends : Def0 K mg "_law_ends" s_law_ends := by
    obtain ⟨fd, F⟩ := c.def_ 28 (d := dOf "_law_ends" s_law_ends) rfl
    exact ⟨_, fd, He.glo_ok X G (c.fact 28 (f := .glo "_law_ends") rfl), F⟩
  have D_law_paths : Def0 K mg "_law_paths" s_law_paths := by
    obtain ⟨fd, F⟩ := c.def_ 29 (d := dOf "_law_paths" s_law_paths) rfl
    exact ⟨_, fd, He.glo_ok X G (c.fact 29 (f := .glo "_law_paths") rfl), F⟩
  have D_law_same : Def0 K mg "_law_same" s_law_same := by
    obtain ⟨fd, F⟩ := c.def_ 30 (d := dOf "_law_same" s_law_same) rfl
    exact ⟨_, fd, He.glo_ok X G (c.fact 30 (f := .glo "_law_same") rfl), F⟩
  have D_law_planted : Def0 K mg "_law_planted" s_law_planted := by
    obtain ⟨fd, F⟩ := c.def_ 31 (d := dOf "_law_planted" s_law_planted) rfl
    exact ⟨_, fd, He.glo_ok X G (c.fact 31 (f := .glo "_law_planted") rfl), F⟩
  have D_law_planted_met : Def0 K mg "_law_planted_met" s_law_planted_met := by
    obtain ⟨fd, F⟩ := c.def_ 32 (d := dOf "_law_planted_met" s_law_planted_met) rfl
    exact ⟨_, fd, He.glo_ok X G (c.fact 32 (f := .glo "_law_planted_met") rfl), F⟩
  have D_law_replaced_met : Def0 K mg "_law_replaced_met" s_law_replaced_met := by
    obtain ⟨fd, F⟩ := c.def_ 33 (d := dOf "_law_replaced_met" s_law_replaced_met) rfl
    exact ⟨_, fd, He.glo_ok X G (c.fact 33 (f := .glo "_law_replaced_met") rfl), F⟩
  have D_law_nowhere : Def0 K mg "_law_nowhere" s_law_nowhere := by
    obtain ⟨fd, F⟩ := c.def_ 34 (d := dOf "_law_nowhere" s_law_nowhere) rfl
    exact ⟨_, fd, He.glo_ok X G (c.fact 34 (f := .glo "_law_nowhere") rfl), F⟩
  have D_law_whole_right : Def0 K mg "_law_whole_right" s_law_whole_right := by
    obtain ⟨fd, F⟩ := c.def_ 35 (d := dOf "_law_whole_right" s_law_whole_right) rfl
    exact ⟨_, fd, He.glo_ok X G (c.fact 35 (f := .glo "_law_whole_right") rfl), F⟩
  have D_law_above_right : Def0 K mg "_law_above_right" s_law_above_right := by
    obtain ⟨fd, F⟩ := c.def_ 36 (d := dOf "_law_above_right" s_law_above_right) rfl
    exact ⟨_, fd, He.glo_ok X G (c.fact 36 (f := .glo "_law_above_right") rfl), F⟩
  have D_law_knot_right : Def0 K mg "_law_knot_right" s_law_knot_right := by
    obtain ⟨fd, F⟩ := c.def_ 37 (d := dOf "_law_knot_right" s_law_knot_right) rfl
    exact ⟨_, fd, He.glo_ok X G (c.fact 37 (f := .glo "_law_knot_right") rfl), F⟩
  obtain ⟨fdL, F_law⟩ := c.def_ 39 (d := dOf "law" s_law) rfl
  have e := hfa.symm.trans (He.glo_ok X G (c.fact 39 (f := .glo "law") rfl))
  cases e
  have bnd := FunD.bindsA (ps := ["script"]) F_law fun _ _ _ _ _ _ us hl => match us, hl with | [_], _ => rfl
  have T : Bl mg := ⟨He.free_ok X G (c.fact 48 (f := .free "len") rfl), He.free_ok X G (c.fact 49 (f := .free "range") rfl), He.free_ok X G (c.fact 50 (f := .free "abs") rfl), He.free_ok X G (c.fact 51 (f := .free "int") rfl), He.free_ok X G (c.fact 52 (f := .free "max") rfl), He.free_ok X G (c.fact 53 (f := .free "all") rfl), He.free_ok X G (c.fact 54 (f := .free "isinstance") rfl), He.free_ok X G (c.fact 55 (f := .free "set") rfl), He.free_ok X G (c.fact 56 (f := .free "list") rfl), He.free_ok X G (c.fact 57 (f := .free "tuple") rfl), He.free_ok X G (c.fact 58 (f := .free "bool") rfl), He.free_ok X G (c.fact 59 (f := .free "str") rfl), He.free_ok X G (c.fact 60 (f := .free "enumerate") rfl), He.int_ok X G (c.fact 62 (f := .int "MOST_KINDS" 8) rfl), He.int_ok X G (c.fact 63 (f := .int "MOST_BRANCHES" 3) rfl), He.int_ok X G (c.fact 64 (f := .int "MOST_KNOTS" 2000) rfl), He.int_ok X G (c.fact 65 (f := .int "LONGEST_NAME" 8) rfl), He.str_ok X G (c.fact 66 (f := .str "LETTERS" "abcdefghijklmnopqrstuvwxyz") rfl)⟩
  have gs : mg "super" = none := He.free_ok X G (c.fact 61 (f := .free "super") rfl)
  have B : BedT K (He.ga K "Bed") := ⟨He.cls_ok (c.fact 41 (f := .cls "Bed") rfl), He.noat_ok (c.fact 44 (f := .noat "Bed" "rows") rfl), He.noat_ok (c.fact 45 (f := .noat "Bed" "kinds") rfl), He.noat_ok (c.fact 46 (f := .noat "Bed" "widths") rfl), He.noat_ok (c.fact 47 (f := .noat "Bed" "ranks") rfl)⟩
  obtain ⟨fdI, F_init⟩ := c.def_ 40 (d := dM "Bed" "__init__" "Bed.__init__" s_init__) rfl
  obtain ⟨fdB, F_br⟩ := c.def_ 41 (d := dM "Bed" "branches" "Bed.branches" s_branches) rfl
  have gBed := He.glo_ok X G (c.fact 40 (f := .glo "Bed") rfl)
  have mkBed := He.mkr_ok (c.fact 42 (f := .mkr "Bed") rfl)
  have mtBed := He.meth_ok (c.fact 43 (f := .meth "Bed" "branches") rfl)
  obtain ⟨eT1, eT2⟩ := Hx.x_of x1 x2 0 (d := xT) rfl
  obtain ⟨eN1, eN2⟩ := Hx.x_of x1 x2 1 (d := xN) rfl
  have FT : Hx.XFacts TL.prog K xT [zT1, zT2] := Hx.facts_of eT1 eT2 (fun z hz => by
    rcases List.mem_cons.mp hz with h | h
    · rw [h]; exact List.mem_cons_self
    · rw [List.mem_singleton.mp h]; exact List.mem_cons_of_mem _ List.mem_cons_self)
  have FN : Hx.XFacts TL.prog K xN [zN1] := Hx.facts_of eN1 eN2 (fun z hz => by rw [List.mem_singleton.mp hz]; exact List.mem_cons_self)
  have x_TooMany : PySem.SupX.SupCls TL.prog w K mg "TooMany" (He.ga K "TooMany") ["what", "limit"] tmP := sup_TooMany X G gs FT
  have x_NoPath : PySem.SupX.SupCls TL.prog w K mg "NoPath" (He.ga K "NoPath") ["path"] npP := sup_NoPath X G gs FN
  have X_TooMany : XOk K (He.ga K "TooMany") ["what", "limit"] := ⟨FT.xf, FT.no, FT.me⟩
  have X_NoPath : XOk K (He.ga K "NoPath") ["path"] := ⟨FN.xf, FN.no, FN.me⟩
  refine ⟨fdL, fun s v => bnd s [v] rfl, fun base _ _ => ?_⟩
  have c_law_draw := ok_draw (P := TL.prog) (w := w) (base := base) T D_law_draw
  have c_law_bag := ok_bag (P := TL.prog) (w := w) (base := base) T D_law_bag
  have c_law_word := ok_word T c_law_draw D_law_word
  have c_law_name := ok_name T c_law_draw c_law_word D_law_name
  have c_law_rows := ok_rows T c_law_draw c_law_name D_law_rows
  have c_all_letters := ok_all_letters (P := TL.prog) (w := w) (base := base) T D_all_letters
  have c_is_name := ok_is_name T c_all_letters D_is_name
  have c_check_pairs := ok_check_pairs T c_is_name D_check_pairs
  have c_Bed : BedOk TL.prog w K mg base (He.ga K "Bed") 5 := by
    refine ⟨gBed, _, mkBed, ?_⟩
    obtain ⟨oc, od, dV, kV, doc, pm, an, cdv, ct, osl, rfl, lk, hcd, hdv, _⟩ := F_init.ex
    have hd : dV = .none := by
      rcases hdv with ⟨_, h⟩ | h
      · exact h
      · exact absurd rfl h.1
    subst hd
    refine (StX.fn_star (ps := ["self"]) (pv := "kinds") lk hcd sc_init__ StX.cxUp_none (StX.bind_star1 (B := fun us => bindArgs (PySem.W.fnOf "__init__" "Bed.__init__" (defArgs s_init__) (defBody s_init__) (defScope s_init__) .none kV doc pm an cdv ct) ⟨us, []⟩) (fun _ => rfl) (fun _ _ _ => rfl)) (sp := spBedI (He.ga K "Bed")) (k := 3) fun A outer s H vs Q E hr hsp => ?_).mono (by decide)
    obtain ⟨t, a, b⟩ := body_bedI T B c_check_pairs hr hsp
    exact ⟨t, a.nox, b⟩
  have c_law_bed := ok_law_bed T c_Bed D_law_bed
  have c_check_size := ok_check_size (base := base) T x_TooMany D_check_size
  have c_fault_place := ok_fault_place (P := TL.prog) (w := w) (base := base) T B D_fault_place
  have c_check_plant := ok_check_plant T c_check_size c_fault_place D_check_plant
  have c_ends_of := ok_ends_of (P := TL.prog) (w := w) (base := base) T B D_ends_of
  have c_law_number := ok_law_number (P := TL.prog) (w := w) (base := base) T D_law_number
  have c_starts_above := ok_starts_above (P := TL.prog) (w := w) (base := base) T B D_starts_above
  have c_paths_of := ok_paths_of (P := TL.prog) (w := w) (base := base) T B D_paths_of
  have c_law_ends := ok_law_ends T c_law_number D_law_ends
  have c_plant_key := ok_plant_key T B c_check_plant D_plant_key
  have c_levels_in := ok_levels_in (P := TL.prog) (w := w) (base := base) T B D_levels_in
  have c_height := ok_height T B c_levels_in c_check_plant D_height
  have c_counted := ok_counted T B c_check_plant D_counted
  have c_paths := ok_paths T c_check_plant c_paths_of D_paths
  have c_branches_of := ok_branches_of T B c_check_plant c_ends_of c_starts_above D_branches_of
  have c_law_paths := ok_law_paths T c_law_number D_law_paths
  have c_span_at := ok_span_at T x_NoPath c_ends_of c_starts_above D_span_at
  have c_branch_at := ok_branch_at T c_check_plant c_span_at D_branch_at
  have c_replaced := ok_replaced T c_check_size c_check_plant c_span_at D_replaced
  have c_branches := ok_branches (x := "branches") (P := TL.prog) (w := w) (mg := mg) (base := base) B F_br mtBed
  have c_planted := ok_planted T B c_branches c_check_size c_check_plant D_planted
  have c_law_plant := ok_law_plant T c_law_draw D_law_plant
  have c_law_long := ok_law_long T c_law_draw D_law_long
  have c_law_some_plant := ok_law_some_plant T c_law_draw c_law_plant c_law_long D_law_some_plant
  have c_law_same := ok_law_same (P := TL.prog) (w := w) (base := base) T D_law_same 3
  have c_law_planted := ok_law_planted T c_planted D_law_planted
  have c_law_planted_met := ok_law_planted_met T x_TooMany X_TooMany c_law_planted D_law_planted_met
  have c_law_replaced_met := ok_law_replaced_met T x_TooMany X_TooMany c_replaced D_law_replaced_met
  have c_law_nowhere := ok_law_nowhere T x_NoPath X_NoPath c_branch_at c_replaced c_law_same D_law_nowhere
  have c_law_whole_right := ok_law_whole_right T c_height c_counted c_plant_key c_paths c_branches_of c_law_number c_law_planted_met c_law_same D_law_whole_right
  have c_law_above_right := ok_law_above_right T c_law_planted_met c_law_same D_law_above_right
  have c_law_knot_right := ok_law_knot_right T c_branch_at c_law_replaced_met c_law_nowhere c_law_number c_law_same D_law_knot_right
  exact ok_law T c_law_bag c_law_rows c_law_bed c_law_some_plant c_law_draw c_law_plant c_law_ends c_law_paths c_law_whole_right c_law_above_right c_law_knot_right F_law
end Sh
end
set_option Elab.async false
set_option linter.all false
set_option maxRecDepth 100000
set_option maxHeartbeats 4000000
open PySem PySem.W PySem.Calls PyProof.Rows
theorem PySem.Challenge.cw_shearyard_k01_branches_paths_and_counts_holds : PySem.Challenge.rw_shearyard_k01_branches_paths_and_counts.Holds := by
  w_on; o_law
  refine HandSHeadRun.head_any (r := OpenLaw.row PySem.Challenge.rw_shearyard_k01_branches_paths_and_counts) (q := view (OpenLaw.row PySem.Challenge.rw_shearyard_k01_branches_paths_and_counts).prog [61]) (H := Sh.hk) (ob := Sh.ob) (M := 9000) (loose := Sh.names) (d := HandSHeadRun.topDef (OpenLaw.row PySem.Challenge.rw_shearyard_k01_branches_paths_and_counts).prog 61) (kwd := []) Sh.ob_eq
    (by kernel_rfl) (fun s => by kernel_rfl) Sh.run (by kernel_rfl) (by kernel_rfl) (by kernel_rfl) (by rfl) (by first | assumption | decide +kernel) (by decide +kernel) ⟨rfl, rfl, rfl, rfl, rfl, by decide +kernel⟩ ?hw ?hc
  case hw => w_witness2
  case hc =>
    refine L2.walk_ofE (l := PySem.Challenge.rw_shearyard_k01_branches_paths_and_counts) (n := 63) (k := 8) (x := "script") (CX := L2.CX0) rfl (by decide) (by kernel_rfl) ⟨rfl, by decide, by decide⟩ ?F (fun _ _ _ _ z => z)
    intro w mg fa h Y G hmg0
    obtain ⟨K, KX, c, x1, x2⟩ := Y
    have hmg : mg ("law" : PySem.Str) = some (.ref fa) := by
      have e : (HandSHeadRun.topDef (OpenLaw.row PySem.Challenge.rw_shearyard_k01_branches_paths_and_counts).prog 61).name = ("law" : PySem.Str) := by kernel_rfl
      rw [← e]
      exact hmg0
    obtain ⟨fd, hb, hF⟩ := Sh.facts (w := w) KX G hmg c x1 x2
    exact ⟨K, fd, Sh.spLaw K, KX, hb, fun H a ns hn _ hS => ⟨a, ns, rfl, hS, hn, fun _ => rfl⟩, hF⟩
