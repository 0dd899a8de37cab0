import PyProof.Rows.All
import Wide.All
import OpenK.AllK
import Wide.FinOn
import HandS.ForMost
import HandS.Exc
import HandS.ExcInit
import HandS.Star
import HandS.TupAny
import HandS.TupMul
import HandS.SetKeys
import HandS.DictComp
import HandS.IsInst
import HandS.Defaults
import HandS.WordsExc
import KE.GoesEnum
import KE.KExcSuper
import HandS.Evl
import HandS.Codes
import HandS.ReCall
import HandS.TryMany
import HandS.ExcOwn
import HandS.ExcField
import HandS.HeadHook1
import HandS.HeadHook2
import HandS.ExcIs
import KE.KExcIs
import PyProof.EqKinds
import HandS.Nested
import KE.SortKeyHeap
import KE.DataMinKey
import KE.DataCmp
import HandS.HeadHook4
import HandS.HeadNt
import KE.KStateDown
import HandS.Ends
import HandS.Head0
import HandS.Head1
import HandS.Head2
import HandS.HeadEnd
import HandS.Walk
import HandS.Dict
import HandS.Iter
import HandS.Style
import HandS.Comp
import HandS.TupLe
import HandS.MakeKwOnly
import HandS.Conv
import KE.SortData
import HandS.More
import HandS.WordsDict
import HandS.ClsMeth
import PyProof.FString
import PyProof.FString4
import PyProof.FitsInt
import PyProof.StrLawsRepr
import HandS.HeadWalk
import PySem.Challenge.RW_shearyard_k06_whole_least_plants
section
set_option Elab.async false
set_option linter.all false
set_option maxRecDepth 100000
set_option maxHeartbeats 4000000
namespace L2
open PySem PySem.Spec PyProof.Rows
section
variable {X : Cx}
theorem tuple_mul0 (l : Addr) (items : Array Value) (n : Nat) (dd : Option Addr) (sl : Array (Option Value)) (x : Int) (u : Tok) (c0 : (decide (x < -(2 ^ 63)) || decide (x ≥ 2 ^ 63)) = false) (c1 : (items.isEmpty || x == 1) = false) (c2 : (decide (x ≤ 0) || items.isEmpty) = true) :
    Meets (Builtin.«tuple.__mul__» ⟨[.ref l, .int x u], []⟩) (fun _ R s => s.heap.get? l = some { cls := .type "tuple", dict := dd, data := .seq items n, slots := sl } ∧
      R (.ok (.ret (Value.ref s.heap.objs.size))) { s with heap := s.heap.push { cls := Value.type "tuple", data := Data.seq #[] }, toks := s.toks }) :=
  .of_wp fun prog w A R s h => by
    obtain ⟨hp, g, d, tk, os⟩ := s
    obtain ⟨hl, h⟩ := h
    have f1 := AutoSeq1.idx_int
    wp_walk using wpAny_loadPart' hl
    repeat (first
      | (refine wpAny_ite_false (decide_eq_false (by rw [c0]; exact Bool.false_ne_true)) ?_; wp_walk using wpAny_loadPart' hl)
      | (refine wpAny_ite_false (decide_eq_false (by rw [c1]; exact Bool.false_ne_true)) ?_; wp_walk using wpAny_loadPart' hl)
      | (refine wpAny_ite_true (decide_eq_true c2) ?_; wp_walk using wpAny_loadPart' hl))
    exact ⟨_, rfl, h⟩
theorem tuple_mul1 (l : Addr) (items : Array Value) (n : Nat) (sl : Array (Option Value)) (dd : Option Addr) (x : Int) (u : Tok) (c0 : (decide (x < -(2 ^ 63)) || decide (x ≥ 2 ^ 63)) = false) (c1 : (items.isEmpty || x == 1) = true) :
    Meets (Builtin.«tuple.__mul__» ⟨[.ref l, .int x u], []⟩) (fun _ R s => s.heap.get? l = some { cls := .type "tuple", dict := dd, data := .seq items n, slots := sl } ∧ R (.ok (.ret (Value.ref l))) s) :=
  .of_wp fun prog w A R s h => by
    obtain ⟨hp, g, d, tk, os⟩ := s
    obtain ⟨hl, h⟩ := h
    have f1 := AutoSeq1.idx_int
    wp_walk using wpAny_loadPart' hl
    repeat (first
      | (refine wpAny_ite_false (decide_eq_false (by rw [c0]; exact Bool.false_ne_true)) ?_; wp_walk using wpAny_loadPart' hl)
      | (refine wpAny_ite_true (decide_eq_true c1) ?_; wp_walk using wpAny_loadPart' hl))
    exact ⟨_, rfl, h⟩
def rRepG (K : PySem.W.Frag) : R2 := fun x y H Q => ∃ l k xs, x = .ref l ∧ y = .int k ∧ SqT K H l xs ∧ xs ≠ [] ∧ 0 ≤ k ∧ k ≤ 4000 ∧ xs.length ≤ 100 ∧ (k = 1 → Q (.ref l) H) ∧ (k ≠ 1 → ∀ p, H p = none → Q (.ref p) (upd H p (.tup (List.replicate k.toNat xs).flatten)))
theorem op_repG : OpR X (binaryOp .Mult) (rRepG X.K) := by
  intro pins s σ H x y v u Q I rx ry h
  obtain ⟨l, k, xs, rfl, rfl, hT, hne, h1, h2, hz, qs, qn⟩ := h
  cases rx
  obtain ⟨t, rfl⟩ := ry
  obtain ⟨its, r, ⟨⟨cls, dd, data, sl⟩, ho, hc, n, hd⟩, hs⟩ := I.tuple hT
  simp only at hc hd
  subst hc hd
  have hle : its.length = xs.length := r.length.symm
  have hn : its ≠ [] := fun e => hne (by
    rw [e] at hle
    exact List.eq_nil_of_length_eq_zero hle.symm)
  have hi : its.toArray.isEmpty = false := by
    cases its with
    | nil => exact absurd rfl hn
    | cons a b => rfl
  have hsz0 : its.toArray.size = xs.length := by rw [List.size_toArray, hle]
  have c0 : (decide (k < -(2 ^ 63)) || decide (k ≥ 2 ^ 63)) = false := by
    rw [decide_eq_false (by omega), decide_eq_false (by omega)] <;> rfl
  by_cases e1 : k = 1
  · have c1 : (its.toArray.isEmpty || k == 1) = true := by
      rw [hi, Bool.false_or]
      exact beq_iff_eq.mpr e1
    refine wpAny_binaryOp_repeat_ref (T := "tuple") (U := "int") (by decide) ⟨_, ho, rfl⟩ (fun s' => typeIs_int s' k t) noFill_tuple_mul F.fills_int_mul F.slot_int_rmul repeat_tuple F.slot_int_index.lookup
      (call_meets F.slot_int_rmul (typeIs_int s k t) F.entry_int_rmul (F.args_int_rmul_2 _ _) (int_rmul_tuple k t l its.toArray n dd sl)
        ⟨ho, rfl, ⟨_, ho, rfl⟩, call_meets F.slot_tuple_mul ⟨_, ho, rfl⟩ F.entry_tuple_mul (F.args_tuple_mul_2 _ _) (tuple_mul1 l its.toArray n sl dd k t c0 c1) ⟨ho, ?_⟩⟩)
    exact ⟨.ref l, H, I, rfl, qs e1⟩
  · have c1 : (its.toArray.isEmpty || k == 1) = false := by
      rw [hi, Bool.false_or]
      exact beq_eq_false_iff_ne.mpr e1
    by_cases e0 : k = 0
    · subst e0
      refine wpAny_binaryOp_repeat_ref (T := "tuple") (U := "int") (by decide) ⟨_, ho, rfl⟩ (fun s' => typeIs_int s' 0 t) noFill_tuple_mul F.fills_int_mul F.slot_int_rmul repeat_tuple F.slot_int_index.lookup
        (call_meets F.slot_int_rmul (typeIs_int s 0 t) F.entry_int_rmul (F.args_int_rmul_2 _ _) (int_rmul_tuple 0 t l its.toArray n dd sl)
          ⟨ho, rfl, ⟨_, ho, rfl⟩, call_meets F.slot_tuple_mul ⟨_, ho, rfl⟩ F.entry_tuple_mul (F.args_tuple_mul_2 _ _) (tuple_mul0 l its.toArray n dd sl 0 t c0 c1 rfl) ⟨ho, ?_⟩⟩)
      refine ⟨.ref s.heap.objs.size, _, I.laid (t' := s.toks) (o := .tup (List.replicate (0 : Int).toNat xs).flatten) (fun b ob q => Heap.get?_push_of_some _ q) (Nat.le_refl _) ?_, rfl, qn (by decide) _ (I.hok.fresh (Nat.le_refl _))⟩
      exact ⟨by rw [sizeLine_eq]; exact Nat.zero_le _, [], .nil, IsTup.new _ _⟩
    · have hm : ((its.toArray.size : Nat) : Int) * k ≤ 400000 := by
        rw [hsz0]
        have a1 : ((xs.length : Nat) : Int) * k ≤ 100 * k := Int.mul_le_mul_of_nonneg_right (by omega) (by omega)
        omega
      have flen : (List.replicate k.toNat its).flatten.length ≤ sizeLine := by
        rw [PyProof.Rows.lm_len_rep_flat, hle, sizeLine_eq]
        have a1 : k.toNat * xs.length ≤ 4000 * 100 := Nat.mul_le_mul (by omega) hz
        omega
      have c2 : (decide (k ≤ 0) || its.toArray.isEmpty) = false := by
        rw [hi, Bool.or_false]
        exact decide_eq_false (by omega)
      have c4 : Builtin.Tuple.tupleTooMany (((its.toArray.size : Nat) : Int) * k) = false := by
        unfold Builtin.Tuple.tupleTooMany
        rw [sizeLine_eq]
        exact decide_eq_false (by omega)
      refine wpAny_binaryOp_repeat_ref (T := "tuple") (U := "int") (by decide) ⟨_, ho, rfl⟩ (fun s' => typeIs_int s' k t) noFill_tuple_mul F.fills_int_mul F.slot_int_rmul repeat_tuple F.slot_int_index.lookup
        (call_meets F.slot_int_rmul (typeIs_int s k t) F.entry_int_rmul (F.args_int_rmul_2 _ _) (int_rmul_tuple k t l its.toArray n dd sl)
          ⟨ho, rfl, ⟨_, ho, rfl⟩, call_meets F.slot_tuple_mul ⟨_, ho, rfl⟩ F.entry_tuple_mul (F.args_tuple_mul_2 _ _) (tuple_mulW l its.toArray n dd sl k t c0 c1 c2 (by omega) c4 (by rw [size_rep, List.size_toArray]; exact flen)) ⟨ho, ?_⟩⟩)
      rw [size_rep]
      refine ⟨.ref s.heap.objs.size, _, I.laid (t' := s.toks) (o := .tup (List.replicate k.toNat xs).flatten) (fun b ob q => Heap.get?_push_of_some _ q) (Nat.le_refl _) ?_, rfl, qn e1 _ (I.hok.fresh (Nat.le_refl _))⟩
      exact ⟨by rw [PyProof.Rows.lm_len_rep_flat, sizeLine_eq]; have a1 : k.toNat * xs.length ≤ 4000 * 100 := Nat.mul_le_mul (by omega) hz; omega, _, r.rep k.toNat, IsTup.new _ _⟩

def tCallR (sp : Sp) (E : XK) (t : TA) : TE := fun σ H Q => t σ H fun vs H1 => sp vs H1 Q E
theorem pe_callR {CX : CXT} {k : Nat} {f : Addr} {x : Str} {sp : Sp} {E : XK} {e : Expr} {es : List Expr} {t : TA} {p pos : Pos} (F : FnR X.prog X.w X.K X.mg X.base CX k f sp) (hr : Room k X.A) (hk : PySem.W.keepIn X.K (.ref f) = true) (hm : X.mg x = some (.ref f)) (hx : Passes CX X E) (ha : PA X (e :: es) t)
    (hg : Gl X x) (hd : (x == ("__debug__" : Str)) = false)
    (he : starEach (e :: es) X.env = (false, eval e X.env) :: starEach es X.env) (hpl : (backTo pos (starEach es X.env)).any (·.1) = false) :
    PE X (.Call (.Name x p) (e :: es) [] pos) (tCallR sp E t) := by
  refine ⟨fun pins s σ H Q I h => ?_⟩
  refine wpAny_Call_Name_kw (ld_glob I hg hm ?_ hd)
  refine PySem.W.callWith_K (h₀ := X.base) I.ok.mod.kin hk (thn (ha.run pos pins s σ H _ I h) fun us s1 ⟨vs, H1, I1, r, q⟩ => ⟨I1.kIn, ?_⟩) he hpl
  exact wpAny_call (run_fnR F hr hx I1 r q)
end
end L2
namespace Sh
open PySem PySem.Spec PyProof.Rows L2
def DefOk (P : Program) (w : World) (K : PySem.W.Frag) (mg : Str → Option Value) (base : Heap) (CX : CXT) (k : Nat) (x : Str) (sp : Sp) : Prop :=
  ∃ f, mg x = some (.ref f) ∧ PySem.W.keepIn K (.ref f) = true ∧ FnR P w K mg base CX k f sp
/-- where a def stands -/
def Def0 (K : PySem.W.Frag) (mg : Str → Option Value) (x : Str) (st : Stmt) : Prop := ∃ f fd, mg x = some (.ref f) ∧ FunD K x x (defArgs st) (defBody st) (defScope st) [] [] f fd
section
variable {P : Program} {w : World} {K : PySem.W.Frag} {mg : Str → Option Value} {base : Heap} {k j : Nat} {x : Str} {sp : Sp} {st : Stmt}
theorem DefOk.mono {CX : CXT} (D : DefOk P w K mg base CX j x sp) (h : j ≤ k) : DefOk P w K mg base CX k x sp := by
  obtain ⟨f, a, b, c⟩ := D
  exact ⟨f, a, b, c.mono h⟩
theorem DefOk.imp {CX : CXT} {sp' : Sp} (D : DefOk P w K mg base CX k x sp) (h : ∀ vs H Q E, sp' vs H Q E → sp vs H Q E) : DefOk P w K mg base CX k x sp' := by
  obtain ⟨f, a, b, c⟩ := D
  exact ⟨f, a, b, c.imp h⟩
theorem pe_d {X : Cx} {CX : CXT} {E : XK} {e : Expr} {es : List Expr} {t : TA} {p pos : Pos} (D : DefOk X.prog X.w X.K X.mg X.base CX k x sp) (hr : Room k X.A) (hx : Passes CX X E) (ha : PA X (e :: es) t)
    (hg : Gl X x := by rfl) (hd : (x == ("__debug__" : Str)) = false := by decide)
    (he : starEach (e :: es) X.env = (false, eval e X.env) :: starEach es X.env := by rfl) (hpl : (backTo pos (starEach es X.env)).any (·.1) = false := by rfl) :
    PE X (.Call (.Name x p) (e :: es) [] pos) (tCallR sp E t) := by
  obtain ⟨f, a, b, c⟩ := D
  exact pe_callR c hr b a hx ha hg hd he hpl
/-- a def without defaults that raises nothing -/
theorem Def0.ok {N ps : List Str} (D : Def0 K mg x st) (S : FnScope N ps (defScope st)) (len : ∀ vs H Q E, sp vs H Q E → vs.length = ps.length)
    (hb : ∀ (kV doc pm : Value) (an : Option Addr) (cdv ct : Value) (us : List Value), us.length = ps.length → bindArgs (PySem.W.fnOf x x (defArgs st) (defBody st) (defScope st) .none kV doc pm an cdv ct) ⟨us, []⟩ = pure (ps.zip us))
    (hbody : ∀ (f : Addr) (cdv : Value) (A : Around) (outer : List Env) (s : Shared) (H : Hp) (vs : List V) (Q : VK) (E : XK), Room k (A.deeper (envOfC x (defScope st) s.heap.objs.size f cdv)) → sp vs H Q E →
      ∃ t, PSs (cxOf CX0 P w K mg base N x (defScope st) f cdv A outer s H E).nox (defBody st) t ∧ t { nx := fun _ H' => Q .non H', rt := Q } (start N vs) H) : DefOk P w K mg base CX0 (k + 1) x sp := by
  obtain ⟨f, fd, hm, F⟩ := D
  have G : FnOk P w K mg base CX0 (k + 1) f fd ps sp := F.ok S len fun cdv A outer s H vs Q E hr h => by
    obtain ⟨t, a, b⟩ := hbody f cdv A outer s H vs Q E hr h
    exact ⟨t, a.nox, b⟩
  have B : Binds K fd ps [] := F.bindsN hb
  refine ⟨f, hm, F.kp, fun A outer s H us vs Q E hr e0 r hs => G.raw B .nil A outer s H us vs Q E hr e0 r (by show sp (vs ++ []) H Q E; rw [List.append_nil]; exact hs)⟩
/-- a def without defaults that may raise -/
theorem Def0.okX {N ps : List Str} (D : Def0 K mg x st) (S : FnScope N ps (defScope st)) (len : ∀ vs H Q E, sp vs H Q E → vs.length = ps.length)
    (hb : ∀ (kV doc pm : Value) (an : Option Addr) (cdv ct : Value) (us : List Value), us.length = ps.length → bindArgs (PySem.W.fnOf x x (defArgs st) (defBody st) (defScope st) .none kV doc pm an cdv ct) ⟨us, []⟩ = pure (ps.zip us))
    (hbody : ∀ (f : Addr) (cdv : Value) (A : Around) (outer : List Env) (s : Shared) (H : Hp) (vs : List V) (Q : VK) (E : XK), Room k (A.deeper (envOfC x (defScope st) s.heap.objs.size f cdv)) → sp vs H Q E →
      ∃ t, PSs (cxOf (L2.CX P w) P w K mg base N x (defScope st) f cdv A outer s H E) (defBody st) t ∧ t { nx := fun _ H' => Q .non H', rt := Q } (start N vs) H) : DefOk P w K mg base (L2.CX P w) (k + 1) x sp := by
  obtain ⟨f, fd, hm, F⟩ := D
  have G : FnOk P w K mg base (L2.CX P w) (k + 1) f fd ps sp := F.ok S len fun cdv A outer s H vs Q E hr h => by
    obtain ⟨t, a, b⟩ := hbody f cdv A outer s H vs Q E hr h
    exact ⟨t, a, b⟩
  have B : Binds K fd ps [] := F.bindsN hb
  refine ⟨f, hm, F.kp, fun A outer s H us vs Q E hr e0 r hs => G.raw B .nil A outer s H us vs Q E hr e0 r (by show sp (vs ++ []) H Q E; rw [List.append_nil]; exact hs)⟩
end
end Sh
end
section
set_option Elab.async false
set_option linter.all false
set_option maxRecDepth 100000
set_option maxHeartbeats 2000000
namespace PySem
theorem meets_enum_oneB {v : Value} {o : Obj} {H : Heap → Prop} (B : Begins v o H) :
    Meets (Builtin.«enumerate.__new__» ⟨[.type "enumerate", v], []⟩) (fun _ R s => H s.heap ∧
      R (.ok (.ret (.ref (s.heap.push o).objs.size))) { s with heap := (s.heap.push o).push { cls := .type "enumerate", data := .fields #[.none, .bool false, .ref s.heap.objs.size, rawInt 0, .none, .none] } }) :=
  .of_wp fun prog w A R s hh => by
    obtain ⟨hp, g, d, tk, os⟩ := s
    obtain ⟨hb, hr⟩ := hh
    have hsub := sub_enumerate
    have begun : ∀ {A' : Around} {E : Value → Shared → Prop} {Q : Value → Shared → Prop}, Q (.ref hp.objs.size) ⟨hp.push o, g, d, tk, os⟩ → wpAny (model prog w) A' (pyIter v) Q E ⟨hp, g, d, tk, os⟩ :=
      fun q => B.iter prog w _ _ ⟨hp, g, d, tk, os⟩ _ hb q
    wp_walk using begun
    refine wpAny_stack_any fun st => wpAny_pure ?_
    split
    · rename_i c _ _ _ _ _
      cases (c == Value.type "enumerate")
      all_goals
        wp_walk using begun
        exact ⟨_, rfl, hr⟩
    · wp_walk using begun
      exact ⟨_, rfl, hr⟩
section
variable {prog : Program} {w : World} {A : Around} {E : Value → Shared → Prop} {s : Shared}
theorem enum_begins1 {v : Value} {o : Obj} {H : Heap → Prop} {Q : Value → Shared → Prop} (B : Begins v o H) (h1 : H s.heap)
    (h : ∀ h', IsEnum h' (s.heap.objs.size + 1) s.heap.objs.size 0 .none → h'.get? s.heap.objs.size = some o → h'.objs.size = s.heap.objs.size + 2 →
      (∀ b o, s.heap.get? b = some o → h'.get? b = some o) → Q (.ref (s.heap.objs.size + 1)) { s with heap := h' }) :
    wpAny (model prog w) A (call (.type "enumerate") [v]) Q E s := by
  refine callType_new F.called_enumerate (by decide) (F.typeCall_enumerate_1 _) (F.newCall_enumerate_1 _) (fun obj => F.args_object_init_2 obj _) F.entry_enumerate_new (meets_enum_oneB B) ⟨h1, ?_⟩
  have hz : (s.heap.push o).objs.size = s.heap.objs.size + 1 := Heap.size_push ..
  show _ ∧ _
  rw [hz]
  have he : IsEnum ((s.heap.push o).push { cls := .type "enumerate", data := .fields #[.none, .bool false, .ref s.heap.objs.size, rawInt 0, .none, .none] }) (s.heap.objs.size + 1) s.heap.objs.size 0 .none := by
    have q := Heap.get?_push_size (s.heap.push o) (o := { cls := .type "enumerate", data := .fields #[.none, .bool false, .ref s.heap.objs.size, rawInt 0, .none, .none] }) rfl
    rw [hz] at q
    exact q
  exact ⟨⟨_, he, rfl⟩, h _ he (Heap.get?_push_of_some _ (Heap.get?_push_size _ B.free)) (by rw [Heap.size_push, hz]) fun b o x => Heap.get?_push_of_some _ (Heap.get?_push_of_some _ x)⟩
theorem enum_endT {e it l : Addr} {i : Nat} {items : Array Value} {c : Int} {old : Value} {Q : Option Value → Shared → Prop} (hh : A.in1.handled = none)
    (he : IsEnum s.heap e it c old) (hit : s.heap.IsTupleIter it l i) (hl : s.heap.IsTuple l items) (hx : items[i]? = none)
    (hQ : ∀ h', Heap.ExtBut it s.heap h' → Q none { s with heap := h' }) : wpAny (model prog w) A (pyNext (.ref e)) Q E s := by
  have ht : s.TypeIs (.ref e) "enumerate" := ⟨_, he, rfl⟩
  unfold pyNext
  refine wpAny_bind (wpAny_attempt (wpAny_callSpecial?_slot (name := Str.ofString "__next__") ht F.slot_enumerate_next
    (wpAny_call_entry F.slot_enumerate_next ht F.entry_enumerate_next ?_ (F.args_enumerate_next_1 _))))
  show wpAny _ _ (field (.ref e) 2 >>= _) _ _ _
  refine wpAny_bind (wpAny_field he rfl (x := .ref it) rfl (wpAny_bind (wpAny_nextOf_tuple_end hh hit hl hx fun h' x he' hx' => ?_)))
  obtain ⟨o, ho, hc⟩ := hx'
  refine wpAny_bind (wpAny_isInstance (T := "StopIteration") (b := true) ⟨o, ho, hc⟩ isSubtype_stop ?_)
  exact wpAny_pure (hQ _ he')
end
end PySem
namespace L2
open PySem PySem.Spec PyProof.Rows
/-- the tuple at a as it stands at each turn, each item in a new pair -/
def IteT (K : PySem.W.Frag) (a : Addr) : It :=
  ⟨fun i H => ∃ (xs : List V) (x : V), SqT K H a xs ∧ xs[i]? = some x, fun i H v H' => ∃ T x, v = .ref T ∧ H T = none ∧ H' = upd H T (.tup [.int (i : Nat), x]) ∧ ∀ xs, SqT K H a xs → xs[i]? = some x, fun i H => ∃ xs : List V, SqT K H a xs ∧ xs.length ≤ i⟩
theorem turn_enumT {P : Program} {w : World} {K : PySem.W.Frag} {elts : List Expr} {kk : Nat} {tpos : Pos} (a e it : Addr) (ha : a ≠ it) (hae : a ≠ e) :
    Turn P w K (.Tuple elts kk tpos) (IteT K a) [e, it] e (fun i h => (∃ old, IsEnum h e it ((i : Nat) : Int) old) ∧ h.IsTupleIter it a i ∧ e ≠ it) where
  mem := by simp
  obj := fun i h st b hb => by
    obtain ⟨⟨old, he⟩, ⟨o, ho, hc, hd⟩, _⟩ := st
    have e' : b = e ∨ b = it := by simpa using hb
    rcases e' with z | z
    · rw [z]; exact ⟨_, he, fun v q => nomatch q⟩
    · rw [z]; exact ⟨o, ho, fun v q => by rw [hd] at q; cases q⟩
  keep := fun i h h' st k => let ⟨⟨old, he⟩, hi, hne⟩ := st; ⟨⟨old, k e (by simp) _ he⟩, hi.at fun o q => k it (by simp) o q, hne⟩
  item := by
    intro X hP hw hK hc i pins s σ H E I hf st hg
    subst hP hw hK
    obtain ⟨⟨old, he⟩, hit, hne⟩ := st
    obtain ⟨xs, x, hq, hx⟩ := hg
    obtain ⟨its, rv, p, hz⟩ := I.tuple hq
    obtain ⟨u, hu, ru⟩ := rv.get hx
    have hil : i < its.toArray.size := by
      have z := (List.getElem?_eq_some_iff.mp hu).1
      simpa using z
    have D := Draws.tuple (prog := X.prog) (w := X.w) (A := X.A.in1) (I.ok.hd hc) it a ha its.toArray
    have hel : e < s.heap.objs.size := Heap.lt_size he
    have hill : it < s.heap.objs.size := by obtain ⟨_, q, _⟩ := hit; exact Heap.lt_size q
    refine wpAny_pyNext_enum_itemD D he ⟨hit, p⟩ hil hne (by simp [hne, Ne.symm hae]) fun x1 h' tk hP ho hit' hT hsz hk => ?_
    obtain rfl : x1 = u := by
      have z : its.toArray[i]? = some x1 := hP
      have z2 : its[i]? = some x1 := by simpa using z
      rw [hu] at z2
      exact (Option.some.inj z2).symm
    refine ⟨_, rfl, wpAny_letOwnedTupleGo_enum (s := { s with heap := h', toks := tk + 1 }) ho fun h'' he' sb => ?_⟩
    have hT2 : h''.get? s.heap.objs.size = some { cls := .type "tuple", data := .seq #[.int i tk, x1] } := (sb.2 _ (Nat.ne_of_gt hel)).trans hT
    have new : ObjOk X.prog X.w (upd H s.heap.objs.size (.tup [.int (i : Nat), x])) h'' s.heap.objs.size (.tup [.int (i : Nat), x]) :=
      ⟨by show 2 ≤ sizeLine; decide, [.int i tk, x1], .cons ⟨_, rfl⟩ (.cons ru .nil), ⟨_, hT2, rfl, _, rfl⟩⟩
    have I1 : Inv X pins σ (upd H s.heap.objs.size (.tup [.int (i : Nat), x])) { s with heap := h'', toks := tk + 1 } :=
      I.turnedNew (ch := [e, it]) (fun b ob hb q => (sb.2 b (fun z => hb (by simp [z]))).trans (hk b ob (fun z => hb (by simp [z])) (fun z => hb (by simp [z])) q)) hf (Nat.le_refl _) new
    refine ⟨.ref s.heap.objs.size, _, I1, rfl, ⟨_, x, rfl, I.hok.fresh (Nat.le_refl _), rfl, fun ys hy => by rw [I.tuple_inj hy hq]; exact hx⟩, ⟨⟨x1, ?_⟩, hit'.1.at fun o q => (sb.2 it (Ne.symm hne)).trans q, hne⟩, fun b hb => ?_⟩
    · have e1 : ((i + 1 : Nat) : Int) = (i : Int) + 1 := by omega
      rw [e1]; exact he'
    · have hb' : b < s.heap.objs.size := by
        have e' : b = e ∨ b = it := by simpa using hb
        rcases e' with z | z
        · rw [z]; exact hel
        · rw [z]; exact hill
      rw [upd_ne (Nat.ne_of_lt hb')]
      exact (hf b hb).1
  done := by
    intro X hP hw hK hc i pins s σ H E I hf st hg
    subst hP hw hK
    obtain ⟨⟨old, he⟩, hit, hne⟩ := st
    obtain ⟨xs, hq, hx⟩ := hg
    obtain ⟨its, rv, p, hz⟩ := I.tuple hq
    obtain ⟨f0, f1, f2, f3, f4, f5⟩ := hf it (by simp)
    have hl := rv.length
    exact enum_endT (I.ok.hd hc) he hit (show s.heap.IsTuple a its.toArray from p) (by simp; omega) fun h' eb => ⟨rfl, I.turned (t' := s.toks) (fun b o hb q => eb b o hb q) f0 f1 f3 f4 f5⟩
  self := fun A i s Q E st h => let ⟨⟨_, he⟩, _⟩ := st; wpAny_pyIter_enum he h
def iEnumT (K : PySem.W.Frag) (ta : TA) : TI := fun σ H R => ta σ H fun vs H1 => ∃ a xs, vs = [.ref a] ∧ SqT K H1 a xs ∧ R (IteT K a) H1
theorem pi_enumT {X : Cx} {e : Expr} {ta : TA} {p pos tpos : Pos} {elts : List Expr} {kk : Nat} (hg : Gl X "enumerate") (hm : X.mg "enumerate" = none) (ha : PA X [e] ta) (hs : starEach [e] X.env = [(false, eval e X.env)] := by rfl) :
    PI X (.Tuple elts kk tpos) (.Call (.Name "enumerate" p) [e] [] pos) (iEnumT X.K ta) := by
  refine ⟨fun pins s σ H R I h => ?_⟩
  refine Call_ (ld_blt I hg hm boot_enumerate (PyProof.Rows.callWith_type1 (thn (ha.run pos pins s σ H _ I h) fun us s1 ⟨vs, H1, I1, r1, q1⟩ => ?_) hs rfl))
  obtain ⟨a, xs, ex, hq, q⟩ := q1
  subst ex
  cases r1 with
  | cons r rr =>
    cases rr
    cases r
    obtain ⟨its, rv, p', hz⟩ := I1.tuple hq
    have hal : a < s1.heap.objs.size := by obtain ⟨_, z, _⟩ := p'; exact Heap.lt_size z
    refine enum_begins1 (begins_tuple a its.toArray) p' fun h' he hit hsz hk => wpAny_pyIter_enum he ?_
    have I2 : Inv X pins σ H1 { s1 with heap := h' } := I1.kept (t' := s1.toks) hk
    refine ⟨s1.heap.objs.size + 1, [s1.heap.objs.size + 1, s1.heap.objs.size], _, _, H1, rfl, I2, turn_enumT a (s1.heap.objs.size + 1) s1.heap.objs.size (Nat.ne_of_lt hal) (Nat.ne_of_lt (Nat.lt_succ_of_lt hal)), ⟨⟨.none, he⟩, ⟨_, hit, rfl, rfl⟩, Nat.succ_ne_self _⟩, fun b hb => ?_, q⟩
    have e' : b = s1.heap.objs.size + 1 ∨ b = s1.heap.objs.size := by simpa using hb
    have hle : s1.heap.objs.size ≤ b := by
      rcases e' with z | z
      · rw [z]; exact Nat.le_add_right _ _
      · rw [z]; exact Nat.le_refl _
    exact I1.fpOk hle (I1.hok.fresh hle)
end L2
end
section
set_option Elab.async false
set_option linter.all false
set_option maxRecDepth 100000
set_option maxHeartbeats 2000000
namespace PySem
namespace SupX
open PySem.W PySem.Calls PyProof.Rows PySem.HandSPX

structure StP where
  f : Str
  q1 : Pos
  q2 : Pos
  q3 : Pos
  q4 : Pos
def stB : List StP → List Stmt
  | [] => []
  | z :: r => .Assign [.Attribute (.Name "self" z.q1) z.f z.q2] (.Name z.f z.q3) z.q4 :: stB r
def iB (msg : Expr) (p0 p1 p2 p3 p4 : Pos) (l : List StP) : List Stmt :=
  .Expr (.Call (.Attribute (.Call (.Name "super" p0) [] [] p1) "__init__" p2) [msg] [] p3) p4 :: stB l
def putAll : List (Str × Value) → (Str → Option Value) → (Str → Option Value)
  | [], m => m
  | (f, v) :: r, m => putAll r (fun y => if y = f then some v else m y)
/-- the message's expression gives some value and writes nothing -/
def MsgOk (prog : Program) (w : World) (env : Env) (m : Str → Option Value) (msg : Expr) : Prop :=
  ∀ (A : Around) (E : Value → Shared → Prop) (s : Shared) (Q : Value → Shared → Prop), s.heap.Ns env.locals m → (∀ v t, Q v { s with toks := t }) → wpAny (model prog w) A (eval msg env) Q E s

theorem lookup_nd {k : Str} {v : Value} : ∀ {l : List (Str × Value)}, (l.map (·.1)).Nodup → (k, v) ∈ l → l.lookup k = some v
  | [], _, h => nomatch h
  | (a, b) :: r, nd, h => by
    rw [List.map_cons, List.nodup_cons] at nd
    rcases List.mem_cons.mp h with e | e
    · cases e
      simp [List.lookup]
    · have ne : ¬ k = a := fun z => nd.1 (by rw [← z]; exact List.mem_map_of_mem (f := (·.1)) e)
      have nb : (k == a) = false := by simpa using ne
      show (match k == a with | true => some b | false => r.lookup k) = some v
      rw [nb]
      exact lookup_nd nd.2 e
theorem lookup_rev {k : Str} {v : Value} {l : List (Str × Value)} (nd : (l.map (·.1)).Nodup) (h : (k, v) ∈ l) : l.reverse.lookup k = some v :=
  lookup_nd (by rw [List.map_reverse]; exact List.pairwise_reverse.mpr (List.Pairwise.imp (fun z => Ne.symm z) nd)) (List.mem_reverse.mpr h)

section
variable {prog : Program} {w : World} {M : Model} {A : Around} {E : Value → Shared → Prop} {R : Result → Shared → Prop} {s : Shared} {K : Frag}
theorem ldK {name : Str} {scope : Scope} {L a : Addr} {cd : Value} {cells : List (Str × Addr)} {m : Str → Option Value} {x : Str} {pos : Pos} {v : Value} {Q : Value → Shared → Prop}
    (hn : s.heap.Ns L m) (hv : m x = some v) (h : Q v s) (hk : scope.kind = .function) (hl : scope.names.lookup x = some .local) (hd : (x == ("__debug__" : Str)) = false) :
    wpAny M A (eval (.Name x pos) (envX name scope L a cd cells)) Q E s := wpAny_Name (wpAny_loadName_local (env := envX name scope L a cd cells) hk hl hn hv h) hd

/-- the method-wrapper of ValueError.__init__ called on the fresh exception -/
theorem call_mw {h : Heap} {g : Array GenState} {d : Drawn} {t : Nat} {os : OsState} {nm q : Str} {C N : Addr} {bs bm : List Value} {hdct : Bool} {sn : List Str} {sub : List Value} {ab : Bool} {col : Option Bool} {dd : Option Addr} {k0 k1 k2 k3 k5 : Option Value}
    {u e t0 : Addr} {rest : List Value} {Q : Value → Shared → Prop} (hC : h.get? C = some (excClassObj nm q C N bs bm hdct sn sub ab col dd k0 k1 k2 k3 k5 "ValueError.__new__")) (hbm : refsVE bm = true)
    (he : h.get? e = some (excO C t0)) (hu : h.get? u = some (kxs_mw "ValueError.__init__" e)) (hrest : rest.length ≤ sizeLine)
    (hq : ∀ h' t1, (∀ b o, b ≠ e → h.get? b = some o → h'.get? b = some o) → h'.get? e = some (excO C t1) → Q .none ⟨h', g, d, t, os⟩) :
    wpAny (model prog w) A (call (.ref u) rest) Q E ⟨h, g, d, t, os⟩ := by
  refine wpAny_call (codeAny_of_tree ?_)
  show wpAny _ A.in1 (callAny (.ref u) ⟨rest, []⟩) _ _ _
  simp only [callAny]
  refine wpAny_bind (wpAny_load hu ?_)
  simp only [kxs_mw, show (Value.type "method-wrapper" == Value.type "method" || Value.type "method-wrapper" == Value.type "builtin_function_or_method" || Value.type "method-wrapper" == Value.type "method-wrapper") = true by decide, if_true]
  refine KFB.if_so (by decide) ?_
  refine wpAny_bind (check_bound_init F.excBase_ValueError.toExcCallFacts hC he rfl ?_)
  refine wpAny_bind (wpAny_pure (wpAny_pure ?_))
  refine ⟨Code.quiet_builtin _ (by decide +kernel), codeAny_builtin F.excBase_ValueError.initEntry ?_⟩
  rw [Around.under_plainId F.excBase_ValueError.init.plain _]
  wp_walk
  refine hq _ h.objs.size (fun b o hb ho => ?_) ?_
  · rw [Heap.get?_update_other _ _ (Ne.symm hb)]
    exact Heap.get?_push_of_some _ ho
  · rw [Heap.get?_update_self _ (Heap.get?_push_of_some _ he) rfl]
    rfl

/-- self.f = f, the further ones -/
theorem stores_old {name : Str} {scope : Scope} {L a C x dx : Addr} {cd : Value} {cells : List (Str × Addr)} {m : Str → Option Value} {fv : Array Value} {cdt : ClassData}
    (hk : scope.kind = .function) (hcd : clsIn K C = some cdt) (hm : refsVE cdt.mro = true) (hh : cdt.hasDict = true) (hsa : findIn K (.ref C) "__setattr__" = some (some (.builtin "object.__setattr__")))
    (hself : m "self" = some (.ref x)) (lself : scope.names.lookup ("self" : Str) = some .local) (hxL : x ≠ L) (hdL : dx ≠ L) (hnx : K.lookup x = none) (hnd : K.lookup dx = none) (hxd : x ≠ dx) :
    ∀ (l : List StP) (vs : List Value) (s : Shared) (m0 : Str → Option Value) (nl : List Str), vs.length = l.length → K.In s.heap → s.heap.Ns L m → s.heap.get? x = some { cls := .ref C, dict := some dx, data := .fields fv } → s.heap.Ns1 dx m0 → Within m0 nl → nl.length + l.length ≤ 900 →
      (∀ z ∈ l, scope.names.lookup z.f = some .local ∧ (z.f == ("__debug__" : Str)) = false ∧ findIn K (.ref C) z.f = some none) → (∀ (i : Nat) (z : StP) (v : Value), l[i]? = some z → vs[i]? = some v → m z.f = some v) →
      (∀ h' tk', (∀ b o, b ≠ dx → s.heap.get? b = some o → h'.get? b = some o) → h'.Ns1 dx (putAll ((l.map (·.f)).zip vs) m0) → R (.ok (.ret .none)) { s with heap := h', toks := tk' }) →
      wpAny (model prog w) A (execs (stB l) (envX name scope L a cd cells)) (fun fl s' => R (.ok (.ret (match fl with | .ret v => v | _ => .none))) s') E s := by
  intro l
  induction l with
  | nil =>
    intro vs s m0 nl hl X hn hx hns hw hz hloc hval hq
    cases vs with
    | cons _ _ => cases hl
    | nil => exact wpAny_execs_nil (hq s.heap s.toks (fun b o _ e => e) hns)
  | cons z r ih =>
    intro vs s m0 nl hl X hn hx hns hw hz hloc hval hq
    cases vs with
    | nil => cases hl
    | cons v vs =>
      obtain ⟨l1, l2, l3⟩ := hloc z List.mem_cons_self
      obtain ⟨oD, esD, epD, hoD, _, _⟩ := hns.count hw
      refine wpAny_execs_cons (plainObj_wpAny_Assign_Attribute ?_)
      refine ldK hn (hval 0 z v rfl rfl) ?_ hk l1 l2
      refine ldK hn hself ?_ hk lself (by decide)
      refine set_plain X (ox := { cls := .ref C, dict := some dx, data := .fields fv }) (od := some oD) ⟨hx, rfl, rfl, hoD⟩ hsa ?_
      refine PySem.OEX.osa_old X hx hns hw (by rw [List.length_cons] at hz; omega) hcd hm hh l3 fun h' tk' k hn' => ?_
      have X' : K.In h' := fun b o e => k b o (fun q => by rw [q, hnd] at e; cases e) (X b o e)
      obtain ⟨oL, esL, epL, hL, hrL⟩ := hn
      refine ih vs ⟨h', s.gens, s.drawn, tk', s.os⟩ _ (z.f :: nl) (by simpa using hl) X' ⟨oL, esL, epL, k _ _ (Ne.symm hdL) hL, hrL⟩ (k _ _ hxd hx) hn' (Within.cons z.f v hw) (by rw [List.length_cons] at hz ⊢; omega)
        (fun y hy => hloc y (List.mem_cons_of_mem _ hy)) (fun i y u h1 h2 => hval (i + 1) y u h1 h2) fun h2 t2 k2 n2 => ?_
      exact hq h2 t2 (fun b o hb e => k2 b o hb (k b o hb e)) n2
end
end SupX
end PySem
end
section
set_option Elab.async false
set_option linter.all false
set_option maxRecDepth 100000
set_option maxHeartbeats 2000000
namespace PySem
namespace SupX
open PySem.W PySem.Calls PyProof.Rows PySem.HandSPX

structure SupScope (scope : Scope) (l : List StP) : Prop where
  kind : scope.kind = .function
  co : scope.isCoroutine = false
  gen : scope.isGenerator = false
  cell : ∀ x ∈ scope.names, x.2 ≠ .cell
  self : scope.names.lookup ("self" : Str) = some .local
  sup : scope.names.lookup ("super" : Str) = some .globalImplicit
  clsv : scope.names.lookup ("__class__" : Str) = some .free
  loc : ∀ z ∈ l, scope.names.lookup z.f = some .local ∧ (z.f == ("__debug__" : Str)) = false
  nd : (("self" : Str) :: l.map (·.f)).Nodup
structure SupTxt (prog : Program) (K : Frag) (C fI : Addr) (qual : Str) (params : Arguments) (body : List Stmt) (scope : Scope) (l : List StP) : Prop where
  cls : ∃ nm q N bs bm sn sub ab col dd k0 k1 k2 k3 k5, K.lookup C = some (excClassObj nm q C N bs bm true sn sub ab col dd k0 k1 k2 k3 k5 "ValueError.__new__") ∧ refsVE bm = true
  sa : findIn K (.ref C) "__setattr__" = some (some (.builtin "object.__setattr__"))
  noat : ∀ z ∈ l, findIn K (.ref C) z.f = some none
  iC : findIn K (.ref C) "__init__" = some (some (.ref fI))
  tC : typeIn K (.ref fI) = some (.type "function")
  kC : keepIn K (.ref C) = true
  exC : subIn K (.ref C) (.type "BaseException") = some true
  veC : subIn K (.ref C) (.type "ValueError") = some true
  tyC : typeIn K (.ref C) = some (.type "type")
  mro : mroIn K C (.ref C) = some true
  sup : ks_superIn K C C "__init__" = some (some (.builtin "ValueError.__init__"))
  opq : nsIn K cStatics "thirdparty.any" = some none
  fn : ∃ (oc : Value) (od : Option Addr) (osl : Array (Option Value)) (kV doc pm : Value) (an : Option Addr) (cda : Addr) (ct : Value) (cc : Addr) (ccl : Value) (cdd : Option Addr) (cvs : Array Value) (ccs : Array (Option Value)) (file : Str) (tf : Tok) (cl : Value) (cld : Option Addr) (csl : Array (Option Value)),
    K.lookup fI = some ⟨oc, od, .func (ksFn "__init__" qual params body scope .none kV doc pm an (.ref cda) ct cc), osl⟩ ∧ codeIn K (.ref cda) qual = true ∧
    K.lookup cda = some ⟨ccl, cdd, .fields cvs, ccs⟩ ∧ cvs[2]? = some (.str file tf) ∧ ((prog.main.file : Str) == file) = true ∧ K.lookup cc = some ⟨cl, cld, .cell (some (.ref C)), csl⟩
structure InitEnd (h h' : Heap) (x C dx t1 : Addr) (l : List StP) (vs : List Value) : Prop where
  keep : ∀ b o, b ≠ x → h.get? b = some o → h'.get? b = some o
  obj : h'.get? x = some { cls := .ref C, dict := some dx, data := .fields #[.ref t1, .none, .none, .none, .bool false, .none] }
  dbig : h.objs.size ≤ dx
  dne : dx ≠ x
  ns : h'.Ns1 dx (putAll ((l.map (·.f)).zip vs) fun _ => none)

section
variable {prog : Program} {w : World} {A : Around} {E : Value → Shared → Prop} {R : Result → Shared → Prop} {s : Shared} {K : Frag} {mg mb : Str → Option Value} {C fI : Addr} {qual : Str} {params : Arguments} {scope : Scope} {msg : Expr} {p0 p1 p2 p3 p4 : Pos} {z0 : StP} {l : List StP}
/-- what the places of the text decide -/
structure SupPos (qual : Str) (scope : Scope) (fI : Addr) (msg : Expr) (p0 p1 p2 p3 p4 : Pos) : Prop where
  ev : ∀ (L : Addr) (cda cc : Addr), ∃ pl : Sem Bool, eval (.Call (.Attribute (.Call (.Name "super" p0) [] [] p1) "__init__" p2) [msg] [] p3) (ksEnv qual scope L fI (.ref cda) cc) = (do
      let ov ← attributeBase (.Call (.Name "super" p0) [] [] p1) "__init__" (ksEnv qual scope L fI (.ref cda) cc) (eval (.Call (.Name "super" p0) [] [] p1) (ksEnv qual scope L fI (.ref cda) cc))
      standAt p2.atName
      let (f, first) ← holding [ov] (getMethod ov "__init__" pl)
      callWith p3 f first (backTo p3 (starEach [msg] (ksEnv qual scope L fI (.ref cda) cc))) [])
  it : ∀ (L : Addr) (cda cc : Addr), interactive (ksEnv qual scope L fI (.ref cda) cc) = false
  st : ∀ (L : Addr) (cda cc : Addr), backTo p3 (starEach [msg] (ksEnv qual scope L fI (.ref cda) cc)) = [(false, eval msg (ksEnv qual scope L fI (.ref cda) cc))]
theorem sup_init (PP : SupPos qual scope fI msg p0 p1 p2 p3 p4) (T : SupTxt prog K C fI qual params (iB msg p0 p1 p2 p3 p4 (z0 :: l)) scope (z0 :: l)) (S : SupScope scope (z0 :: l)) (htop : (prog.main.scope.names.lookup ("super" : Str)).isSome = false)
    (hhead : ∃ ar : Arg, (params.posonlyargs ++ params.args).head? = some ar ∧ ar.arg = "self")
    (hbind : ∀ (kV doc pm : Value) (an : Option Addr) (cda : Addr) (ct : Value) (cc : Addr) (us : List Value), us.length = l.length + 2 →
      bindArgs (ksFn "__init__" qual params (iB msg p0 p1 p2 p3 p4 (z0 :: l)) scope .none kV doc pm an (.ref cda) ct cc) ⟨us, []⟩ = pure ((("self" : Str) :: (z0 :: l).map (·.f)).zip us))
    {x t0 : Addr} {vs : List Value} (X : K.In s.heap) (hlim : s.heap.NoLimit) (hG : s.heap.Ns mainGlobals mg) (gs : mg "super" = none) (hB : s.heap.Ns builtinsNs mb) (bsup : mb "super" = some (.type "super"))
    (hl : vs.length = l.length + 1) (hx : s.heap.get? x = some (excO C t0)) (hnx : K.lookup x = none) (hroom : A.depth < recursionLimit) (hl2 : l.length ≤ 800)
    (hmsg : ∀ (L cda cc : Addr), MsgOk prog w (ksEnv qual scope L fI (.ref cda) cc) (fun y => (((("self" : Str) :: (z0 :: l).map (·.f)).zip (.ref x :: vs)).reverse).lookup y) msg)
    (hq : ∀ h' tk dx t1, InitEnd s.heap h' x C dx t1 (z0 :: l) vs → R (.ok (.ret .none)) { s with heap := h', toks := tk }) :
    codeAny (model prog w) A (.call (.ref fI) ⟨.ref x :: vs, []⟩) R s := by
  obtain ⟨oc, od, osl, kV, doc, pm, an, cda, ct, cc, ccl, cdd, cvs, ccs, file, tf, cl, cld, csl, ho, hcd, hcode, hvs, hfile, hcell⟩ := T.fn
  obtain ⟨nm, q, N, bs, bm, sn, sub, ab, col, dd, k0, k1, k2, k3, k5, hC, hbm⟩ := T.cls
  have hcl : clsIn K C = some { name := nm, bases := bs, mro := .ref C :: bm, ns := N, qualname := q, hasDict := true, slotNames := sn, subclasses := sub, abstract := ab, collection := col, hasDel := false } := by unfold clsIn; rw [hC] <;> rfl
  obtain ⟨ar, har, hself⟩ := hhead
  have hlen : (Value.ref x :: vs).length = l.length + 2 := by rw [List.length_cons, hl]
  have hzl : ((("self" : Str) :: (z0 :: l).map (·.f)).zip (Value.ref x :: vs)).map (·.1) = ("self" : Str) :: (z0 :: l).map (·.f) := by
    rw [← List.unzip_fst, List.unzip_zip (by rw [hlen]; simp)]
  have hnd : (((("self" : Str) :: (z0 :: l).map (·.f)).zip (Value.ref x :: vs)).map (·.1)).Nodup := by rw [hzl]; exact S.nd
  have hm0 : ((("self" : Str) :: (z0 :: l).map (·.f)).zip (Value.ref x :: vs)).reverse.lookup ("self" : Str) = some (.ref x) := lookup_rev hnd List.mem_cons_self
  have hmi : ∀ (i : Nat) (z : StP) (v : Value), (z0 :: l)[i]? = some z → vs[i]? = some v → ((("self" : Str) :: (z0 :: l).map (·.f)).zip (Value.ref x :: vs)).reverse.lookup z.f = some v := fun i z v h1 h2 => by
    refine lookup_rev hnd (List.mem_cons_of_mem _ ?_)
    refine List.mem_iff_getElem?.mpr ⟨i, ?_⟩
    exact List.getElem?_zip_eq_some.mpr ⟨by rw [List.getElem?_map, h1]; rfl, h2⟩
  refine ks_codeAny_call_defAt (fd := ksFn "__init__" qual params (iB msg p0 p1 p2 p3 p4 (z0 :: l)) scope .none kV doc pm an (.ref cda) ct cc) (body := iB msg p0 p1 p2 p3 p4 (z0 :: l)) (binds := (("self" : Str) :: (z0 :: l).map (·.f)).zip (Value.ref x :: vs)) hroom (X _ _ ho) rfl hlim (codeRec_of X hcd) rfl (BindsTo.of_eq (hbind kV doc pm an cda ct cc _ hlen)) S.cell (fun y hy => ?_) (fun h₁ hns k => ?_) S.co S.gen S.kind
  · have hy1 : y.1 ∈ ("self" : Str) :: (z0 :: l).map (·.f) := (List.of_mem_zip (a := y.1) (b := y.2) hy).1
    rcases List.mem_cons.mp hy1 with e | e
    · rw [e]; exact S.self
    · obtain ⟨z, hz, e2⟩ := List.mem_map.mp e
      rw [← e2]; exact (S.loc z hz).1
  · obtain ⟨hh, g, d, t, os⟩ := s
    have X₁ : K.In h₁ := X.keeps k
    have hx₁ := k _ _ hx
    have hxL : x ≠ hh.objs.size := Nat.ne_of_lt (Heap.lt_size hx)
    show _root_.PySem.wpAt (model prog w) (A.deeper (ksEnv qual scope hh.objs.size fI (.ref cda) cc)) (.func _ (ksEnv qual scope hh.objs.size fI (.ref cda) cc)) (execs (iB msg p0 p1 p2 p3 p4 (z0 :: l)) (ksEnv qual scope hh.objs.size fI (.ref cda) cc)) _ _ _
    obtain ⟨pl, hev⟩ := PP.ev hh.objs.size cda cc
    refine ks_wpAt_execs_cons (ks_wpAt_Expr_any (ks_wpAt_MethodCall (pl := pl) ?_ hev) (PP.it _ _ _))
    have I₁ : InstAt h₁ x (excO C t0) C none := ⟨hx₁, rfl, rfl, trivial⟩
    refine ks_wpAt_super_base (env := ksEnv qual scope hh.objs.size fI (.ref cda) cc) S.sup S.clsv (by decide) rfl (X₁ _ _ ho) rfl har rfl (X₁ _ _ hcode) rfl hvs hfile htop ?_
    refine ks_loadName_global S.kind S.sup (loadGlobal_builtin (env := ksEnv qual scope hh.objs.size fI (.ref cda) cc) (hG.keeps k) gs (hB.keeps k) bsup ⟨rfl, ?_⟩)
    refine wpAny_loadName_free S.kind S.clsv rfl ⟨_, X₁ _ _ hcell, rfl⟩ ?_
    rw [hself]
    refine wpAny_loadName_local S.kind S.self hns hm0 ?_
    refine ks_wpAny_isType_cls (X₁ _ _ hC) rfl ⟨rfl, ?_⟩
    refine ks_wpAny_call_super (X₁ _ _ hC) rfl I₁.at_ I₁.cls (fun c e => by cases e) (looks_mroIn X₁ T.mro) (fun h₂ e₂ k₂ => ?_)
    have X₂ : K.In h₂ := X₁.keeps k₂
    have I₂ : InstAt h₂ x (excO C t0) C none := ⟨k₂ _ _ hx₁, rfl, rfl, trivial⟩
    have hsup := T.sup
    unfold ks_superIn at hsup
    rw [hcl] at hsup
    refine kxs_getMethod kxs_ValueError e₂ (looks_opaque X₂ T.opq) (l₀ := .ref C :: bm) (fun A Q E s k q => wpAny_bind ((looks_clsIn X₂ hcl) A _ E s k (wpAny_pure q))) rfl X₂ hsup (I₂.type.andThen (looks_subIn X₂ T.veC)) (ks_ne X₂ I₂ hcl) (by decide) ?_
    rw [PP.st]
    refine kxs_callWith (i := "ValueError.__init__") (x := x) (by rfl) (evalArgs_plain ?_)
    obtain ⟨oL, esL, epL, hL, hrL⟩ := hns
    have k₃ : ∀ b o, h₂.get? b = some o → (h₂.push (kxs_mw "ValueError.__init__" x)).get? b = some o := fun b o e => Heap.get?_push_of_some _ e
    refine spliced_cons ?_
    refine hmsg hh.objs.size cda cc _ _ _ _ ⟨oL, esL, epL, k₃ _ _ (k₂ _ _ hL), hrL⟩ fun v tk => ?_
    refine spliced_nil ?_
    have hmw : (h₂.push (kxs_mw "ValueError.__init__" x)).get? h₂.objs.size = some (kxs_mw "ValueError.__init__" x) := Heap.get?_push_at rfl rfl
    refine ⟨hmw, ?_⟩
    have X₃ : K.In (h₂.push (kxs_mw "ValueError.__init__" x)) := X₂.keeps k₃
    refine call_mw (X₃ _ _ hC) hbm (k₃ _ _ I₂.at_) hmw (by show 1 ≤ sizeLine; rw [sizeLine_eq]; decide) fun h₄ t₄ k₄ e₄ => ?_
    have kx : ∀ b o, b ≠ x → h₁.get? b = some o → h₄.get? b = some o := fun b o hb e => k₄ b o hb (k₃ _ _ (k₂ _ _ e))
    refine wpAt_of_wpAny ?_
    have hn₄ : h₄.Ns hh.objs.size (fun y => (((("self" : Str) :: (z0 :: l).map (·.f)).zip (Value.ref x :: vs)).reverse).lookup y) := ⟨oL, esL, epL, kx _ _ (Ne.symm hxL) hL, hrL⟩
    have X₄ : K.In h₄ := fun b o e => kx b o (fun q => by rw [q, hnx] at e; cases e) (X₁ b o e)
    cases vs with
    | nil => cases hl
    | cons v0 vr =>
      obtain ⟨l1, l2⟩ := S.loc z0 List.mem_cons_self
      show wpAny _ _ (execs (stB (z0 :: l)) _) _ _ _
      refine wpAny_execs_cons (plainObj_wpAny_Assign_Attribute ?_)
      refine ldK hn₄ (hmi 0 z0 v0 rfl rfl) ?_ S.kind l1 l2
      refine ldK hn₄ hm0 ?_ S.kind S.self (by decide)
      refine set_plain X₄ (ox := excO C t₄) (od := none) ⟨e₄, rfl, rfl, trivial⟩ T.sa ?_
      refine exc_osa X₄ e₄ hcl (show refsVE (.ref C :: bm) = true from hbm) rfl (T.noat z0 List.mem_cons_self) fun h₅ tk₅ dx k₅ dn dne hx₅ hn₅ => ?_
      have dL : dx ≠ hh.objs.size := fun q => by
        have z := Heap.lt_size (kx _ _ (Ne.symm hxL) hL)
        rw [← q] at z
        exact absurd (Nat.lt_of_lt_of_le z dn) (Nat.lt_irrefl _)
      have sz : hh.objs.size ≤ dx := Nat.le_trans (Nat.le_of_lt (Heap.lt_size (kx _ _ (Ne.symm hxL) hL))) dn
      have dK : K.lookup dx = none := by
        cases e : K.lookup dx with
        | none => rfl
        | some o => exact absurd (Nat.lt_of_lt_of_le (Heap.lt_size (X₄ _ _ e)) dn) (Nat.lt_irrefl _)
      have X₅ : K.In h₅ := fun b o e => k₅ b o (fun q => by rw [q, hnx] at e; cases e) (X₄ b o e)
      refine stores_old S.kind hcl (show refsVE (.ref C :: bm) = true from hbm) rfl T.sa hm0 S.self hxL dL hnx dK (Ne.symm dne) l vr ⟨h₅, g, d, tk₅, os⟩ _ [z0.f] (by simpa using hl) X₅ ⟨oL, esL, epL, k₅ _ _ (Ne.symm hxL) (kx _ _ (Ne.symm hxL) hL), hrL⟩ hx₅ hn₅ ?_ (by show 1 + l.length ≤ 900; omega)
        (fun z hz => ⟨(S.loc z (List.mem_cons_of_mem _ hz)).1, (S.loc z (List.mem_cons_of_mem _ hz)).2, T.noat z (List.mem_cons_of_mem _ hz)⟩) (fun i z u e1 e2 => hmi (i + 1) z u e1 e2) fun h₆ t₆ k₆ n₆ => ?_
      · intro y hy
        by_cases e : y = z0.f
        · rw [e]; exact List.mem_cons_self
        · have hy2 : (if y = z0.f then some v0 else none) ≠ none := hy
          rw [if_neg e] at hy2
          exact absurd rfl hy2
      · refine hq h₆ t₆ dx t₄ ⟨fun b o hb e => ?_, k₆ _ _ (Ne.symm dne) hx₅, sz, dne, n₆⟩
        have hbd : b ≠ dx := fun q => by
          have z := Heap.lt_size e
          rw [q] at z
          exact absurd (Nat.lt_of_lt_of_le z sz) (Nat.lt_irrefl _)
        exact k₆ _ _ hbd (k₅ _ _ hb (kx _ _ hb (k _ _ e)))

/-- a made one -/
structure Made (h h' : Heap) (e C d : Addr) (fs : List Str) (us : List Value) : Prop where
  keep : ∀ b o, h.get? b = some o → h'.get? b = some o
  new : h.objs.size ≤ e
  obj : ∃ oe vs, h'.get? e = some oe ∧ oe.cls = .ref C ∧ oe.dict = some d ∧ oe.data = .fields vs ∧ vs[1]? = some .none
  dbig : h.objs.size ≤ d
  dne : d ≠ e
  ns : h'.Ns1 d (putAll (fs.zip us) fun _ => none)
theorem sup_made (PP : SupPos qual scope fI msg p0 p1 p2 p3 p4) (T : SupTxt prog K C fI qual params (iB msg p0 p1 p2 p3 p4 (z0 :: l)) scope (z0 :: l)) (S : SupScope scope (z0 :: l)) (htop : (prog.main.scope.names.lookup ("super" : Str)).isSome = false)
    (hhead : ∃ ar : Arg, (params.posonlyargs ++ params.args).head? = some ar ∧ ar.arg = "self")
    (hbind : ∀ (kV doc pm : Value) (an : Option Addr) (cda : Addr) (ct : Value) (cc : Addr) (us : List Value), us.length = l.length + 2 →
      bindArgs (ksFn "__init__" qual params (iB msg p0 p1 p2 p3 p4 (z0 :: l)) scope .none kV doc pm an (.ref cda) ct cc) ⟨us, []⟩ = pure ((("self" : Str) :: (z0 :: l).map (·.f)).zip us))
    {vs : List Value} (X : K.In s.heap) (hlim : s.heap.NoLimit) (hG : s.heap.Ns mainGlobals mg) (gs : mg "super" = none) (hB : s.heap.Ns builtinsNs mb) (bsup : mb "super" = some (.type "super"))
    (hl : vs.length = l.length + 1) (hroom : A.depth + 1 < recursionLimit) (hl2 : l.length ≤ 800)
    (hmsg : ∀ (x L cda cc : Addr), MsgOk prog w (ksEnv qual scope L fI (.ref cda) cc) (fun y => (((("self" : Str) :: (z0 :: l).map (·.f)).zip (.ref x :: vs)).reverse).lookup y) msg)
    (hq : ∀ h' tk e d, Made s.heap h' e C d ((z0 :: l).map (·.f)) vs → R (.ok (.ret (.ref e))) { s with heap := h', toks := tk }) :
    codeAny (model prog w) A (.call (.ref C) ⟨vs, []⟩) R s := by
  obtain ⟨nm, q, N, bs, bm, sn, sub, ab, col, dd, k0, k1, k2, k3, k5, hC, hbm⟩ := T.cls
  obtain ⟨hp, g, dr, tk, os⟩ := s
  have k : ∀ b o, hp.get? b = some o → ((hp.push (kdv_tup vs)).push (excO C hp.objs.size)).get? b = some o := fun b o e => Heap.get?_push_of_some _ (Heap.get?_push_of_some _ e)
  have hget : ((hp.push (kdv_tup vs)).push (excO C hp.objs.size)).get? (hp.objs.size + 1) = some (excO C hp.objs.size) := by heap_get
  have hnx : K.lookup (hp.objs.size + 1) = none := by
    cases e : K.lookup (hp.objs.size + 1) with
    | none => rfl
    | some o =>
      have z : hp.get? (hp.objs.size + 1) = some o := X _ _ e
      exact absurd (Nat.lt_of_succ_lt (Heap.lt_size z)) (Nat.lt_irrefl _)
  have hvl : vs.length ≤ sizeLine := by
    rw [sizeLine_eq]
    omega
  refine call_own F.excBase_ValueError (fun X => refsVE_contains X bm hbm) (X _ _ hC) (looks_findIn X T.iC) (fun self => bind_fn X self T.tC) hvl ?_
  refine sup_init (s := ⟨(hp.push (kdv_tup vs)).push (excO C hp.objs.size), g, dr, tk, os⟩) PP T S htop hhead hbind (X.keeps k) (hlim.keeps k) (hG.keeps k) gs (hB.keeps k) bsup hl hget hnx ?_ hl2 (hmsg _) fun h' tk' dx t1 M => ?_
  · show A.depth + 1 < recursionLimit
    exact hroom
  · have dn : ((hp.push (kdv_tup vs)).push (excO C hp.objs.size)).objs.size ≤ dx := M.dbig
    have old : ∀ b o, hp.get? b = some o → h'.get? b = some o := fun b o e => M.keep b o (Nat.ne_of_lt (Nat.lt_succ_of_lt (Heap.lt_size e))) (k b o e)
    rw [Heap.size_push, Heap.size_push] at dn
    exact ⟨rfl, hq h' tk' (hp.objs.size + 1) dx ⟨old, Nat.le_succ _, ⟨_, _, M.obj, rfl, rfl, rfl, rfl⟩, (by show hp.objs.size ≤ dx; omega), M.dne, M.ns⟩⟩
end
/-- a class that is made by C(..): what its caller needs -/
structure SupCls (prog : Program) (w : World) (K : Frag) (mg : Str → Option Value) (x : Str) (C : Addr) (fs : List Str) (P : List L2.V → Prop) : Prop where
  gC : mg x = some (.ref C)
  gs : mg "super" = none
  kC : keepIn K (.ref C) = true
  exC : subIn K (.ref C) (.type "BaseException") = some true
  tyC : typeIn K (.ref C) = some (.type "type")
  made : ∀ (A : Around) (s : Shared) (R : Result → Shared → Prop) (mb : Str → Option Value) (vs : List L2.V) (us : List Value), L2.Vals vs us → P vs → vs.length = fs.length → K.In s.heap → s.heap.NoLimit → s.heap.Ns mainGlobals mg → s.heap.Ns builtinsNs mb → mb "super" = some (.type "super") → A.depth + 1 < recursionLimit →
    (∀ h' tk e d, Made s.heap h' e C d fs us → R (.ok (.ret (.ref e))) { s with heap := h', toks := tk }) → codeAny (model prog w) A (.call (.ref C) ⟨us, []⟩) R s
end SupX
end PySem
namespace L2
open PySem PySem.Spec PyProof.Rows
/-- the fields, the last one first -/
def xfs : List Str → List V → List (Str × V) → List (Str × V)
  | f :: fs, v :: vs, acc => xfs fs vs ((f, v) :: acc)
  | _, _, acc => acc
theorem xfs_ok : ∀ {fs : List Str} {vs : List V} {us : List Value} {acc : List (Str × V)} {m : Str → Option Value}, Vals vs us → (∀ f, RelO (acc.lookup f) (m f)) → ∀ f, RelO ((xfs fs vs acc).lookup f) (PySem.SupX.putAll (fs.zip us) m f)
  | [], _, _, _, _, _, r => r
  | _ :: _, [], _, _, _, .nil, r => r
  | g :: fs, v :: vs, _ :: us, acc, m, .cons rv rt, r => xfs_ok (fs := fs) rt (relO_put rv r)
section
variable {X : Cx} {C : Addr} {x : Str} {fs : List Str} {P : List V → Prop}
/-- C(e, ..) -/
def tMkSup (C : Addr) (fs : List Str) (P : List V → Prop) (ta : TA) : St → Hp → XK → Prop := fun σ H Q => ta σ H fun vs H1 => P vs ∧ vs.length = fs.length ∧ ∀ d, H1 d = none → Q (.ref C) (some d) (upd H1 d (.xd (xfs fs vs [])))
theorem pmk_sup {e : Expr} {es : List Expr} {ta : TA} {p pos : Pos} {k : Nat} (T : PySem.SupX.SupCls X.prog X.w X.K X.mg x C fs P) (hr : Room k X.A) (ha : PA X (e :: es) ta) (hg : Gl X x := by rfl) (hx : (x == ("__debug__" : Str)) = false := by decide)
    (he : starEach (e :: es) X.env = (false, eval e X.env) :: starEach es X.env := by rfl) (hpl : (backTo pos (starEach es X.env)).any (·.1) = false := by rfl) :
    PMk X (.Call (.Name x p) (e :: es) [] pos) (tMkSup C fs P ta) := by
  intro pins s σ H Q I h
  refine wpAny_Call_Name_kw (ld_glob I hg T.gC ?_ hx)
  refine PySem.W.callWith_K (h₀ := X.base) I.ok.mod.kin T.kC (thn (ha.run pos pins s σ H _ I h) fun us s1 hh => ?_) he hpl
  obtain ⟨vs, H1, I1, r1, hP, hl, q1⟩ := hh
  refine ⟨I1.kIn, ?_⟩
  show wpAny _ _ (call (.ref C) us) _ _ _
  have hlim := I1.nolimit
  obtain ⟨mb, hb1, hb2⟩ := I1.mod.blt
  have hG : s1.heap.Ns mainGlobals X.mg := I1.mod.glob.keeps I1.bk
  have hB : s1.heap.Ns builtinsNs mb := hb1.keeps I1.bk
  obtain ⟨hp, g, dr, tk, os⟩ := s1
  refine wpAny_call (T.made _ _ _ mb vs us r1 hP hl I1.kIn hlim hG hB ((hb2 _ (by decide)).trans (by decide +kernel)) (by have := hr.dp; omega) fun h' tk' e d M => ?_)
  show MkP X pins σ Q (.ref e) ⟨h', g, dr, tk', os⟩
  obtain ⟨oe, fv, hoe, hc, hd, hdat, h1⟩ := M.obj
  have hns := M.ns
  obtain ⟨G', g1, g2⟩ := restrict h' fun b => decide (b ≠ e)
  have gk : ∀ b, b ≠ e → G'.get? b = h'.get? b := fun b hb => g1 b (decide_eq_true hb)
  have ge : G'.get? e = none := g2 e (by simp)
  have old : ∀ b o, hp.get? b = some o → G'.get? b = some o := fun b o q => (gk b (Nat.ne_of_lt (Nat.lt_of_lt_of_le (Heap.lt_size q) M.new))).trans (M.keep b o q)
  have ob : ObjOk X.prog X.w (upd H1 d (.xd (xfs fs vs []))) G' d (.xd (xfs fs vs [])) :=
    ⟨_, hns.at (fun o q => (gk d M.dne).trans q), fun f => xfs_ok (acc := []) (m := fun _ => none) r1 (fun _ => True.intro) f⟩
  have J : Inv X pins σ (upd H1 d (.xd (xfs fs vs []))) ⟨G', g, dr, tk', os⟩ := I1.laid (t' := tk') old M.dbig ob
  refine ⟨e, oe, fv, ⟨G', g, dr, tk', os⟩, _, .ref C, some d, rfl, J, fun b o q => ?_, ge, hoe, ⟨hc, hd⟩, hdat, h1, ?_, rfl, I1.bare, raises_own T.exC T.tyC, q1 d (I1.hok.fresh M.dbig)⟩
  · by_cases hb : b = e
    · have q' : G'.get? b = some o := q
      rw [hb, ge] at q'
      cases q'
    · exact (gk b hb).symm.trans q
  · rw [upd_ne (Ne.symm M.dne)]
    exact I1.hok.fresh M.new
/-- raise C(e, ..) -/
def tRaiseSup (C : Addr) (fs : List Str) (P : List V → Prop) (W : WX) (ta : TA) : TS := fun _ σ H => tMkSup C fs P ta σ H fun cls d H' => W cls d σ H'
theorem ps_raiseSup {e : Expr} {es : List Expr} {ta : TA} {W : WX} {p pos pos2 : Pos} {k : Nat} (hc : X.calm = true) (T : PySem.SupX.SupCls X.prog X.w X.K X.mg x C fs P) (hr : Room k X.A) (tk : Takes X W) (ha : PA X (e :: es) ta) (hg : Gl X x := by rfl) (hx : (x == ("__debug__" : Str)) = false := by decide)
    (he : starEach (e :: es) X.env = (false, eval e X.env) :: starEach es X.env := by rfl) (hpl : (backTo pos (starEach es X.env)).any (·.1) = false := by rfl) :
    PS X (.Raise (some (.Call (.Name x p) (e :: es) [] pos)) none pos2) (tRaiseSup C fs P W ta) := ps_raise hc tk (pmk_sup T hr ha hg hx he hpl)
end
end L2
end
section
set_option Elab.async false
set_option linter.all false
set_option maxRecDepth 100000
set_option maxHeartbeats 2000000
namespace Sh
open PySem PySem.Spec PyProof.Rows L2
def top (i : Nat) : Stmt := PySem.Challenge.pw_shearyard_k06_whole_least_plants.main.body.getD i (.Pass ⟨0, 0, 0, 0⟩)
/-- the built-ins and constants by their names -/
structure Bl (mg : Str → Option Value) : Prop where
  b_len : mg "len" = none
  b_range : mg "range" = none
  b_abs : mg "abs" = none
  b_int : mg "int" = none
  b_max : mg "max" = none
  b_all : mg "all" = none
  b_isinstance : mg "isinstance" = none
  b_set : mg "set" = none
  b_list : mg "list" = none
  b_tuple : mg "tuple" = none
  b_bool : mg "bool" = none
  b_str : mg "str" = none
  b_enumerate : mg "enumerate" = none
  c_MOST_KINDS : ∃ t, mg "MOST_KINDS" = some (.int 8 t)
  c_MOST_BRANCHES : ∃ t, mg "MOST_BRANCHES" = some (.int 3 t)
  c_MOST_KNOTS : ∃ t, mg "MOST_KNOTS" = some (.int 2000 t)
  c_LONGEST_NAME : ∃ t, mg "LONGEST_NAME" = some (.int 8 t)
  c_LETTERS : ∃ t, mg "LETTERS" = some (.str "abcdefghijklmnopqrstuvwxyz" t)
theorem pe_cI {X : Cx} {x : Str} {i : Int} {pos : Pos} (hg : Gl X x) (h : ∃ t, X.mg x = some (.int i t)) (hd : (x == ("__debug__" : Str)) = false := by decide) : PE X (.Name x pos) (tC (.int i)) := by
  obtain ⟨t, e⟩ := h
  exact pe_glob hg e ⟨t, rfl⟩ hd
theorem pe_cS {X : Cx} {x z : Str} {pos : Pos} (hg : Gl X x) (h : ∃ t, X.mg x = some (.str z t)) (hd : (x == ("__debug__" : Str)) = false := by decide) : PE X (.Name x pos) (tC (.str z)) := by
  obtain ⟨t, e⟩ := h
  exact pe_glob hg e ⟨t, rfl⟩ hd
/-- all that stood stands, but what is at a -/
def Kp (a : Addr) (H H' : Hp) : Prop := ∀ b o, H b = some o → b ≠ a → H' b = some o
theorem Kp.refl (a : Addr) (H : Hp) : Kp a H H := fun _ _ h _ => h
theorem Kp.trans {a : Addr} {H H1 H2 : Hp} (x : Kp a H H1) (y : Kp a H1 H2) : Kp a H H2 := fun b o h n => y b o (x b o h n) n
theorem Kp.upd {a : Addr} {H H1 : Hp} {o : HO} (x : Kp a H H1) : Kp a H (upd H1 a o) := fun b u h n => by rw [upd_ne n]; exact x b u h n
theorem Kp.same {a : Addr} {H H' : Hp} (x : Same H H') : Kp a H H' := fun b o h _ => x b o h
structure Bg (z0 z1 z2 z3 : Int) (cs : List Int) : Prop where
  lo : 4 ≤ z3
  hi : z3 ≤ 4 + cs.length
  sz : cs.length ≤ 63
  nn : ∀ c ∈ cs, 0 ≤ c
def bgL (z0 z1 z2 z3 : Int) (cs : List Int) : List V := .int z0 :: .int z1 :: .int z2 :: .int z3 :: cs.map V.int
def BagAt (H : Hp) (a : Addr) : Prop := ∃ z0 z1 z2 z3 cs, H a = some (.lst (bgL z0 z1 z2 z3 cs)) ∧ Bg z0 z1 z2 z3 cs
open C8 (pss_cut tCut)
open Evl (ixN_nat)
section
variable {P : Program} {w : World} {K : PySem.W.Frag} {mg : Str → Option Value} {base : Heap}
end
end Sh
end
section
set_option Elab.async false
set_option linter.all false
set_option maxRecDepth 100000
set_option maxHeartbeats 2000000
set_option autoImplicit false
namespace L2
open PySem PySem.Spec PyProof.Rows
/-- a tuple that is followed -/
def Tq (H : Hp) (a : Addr) (xs : List V) : Prop := Rd H a (.tup xs)
/-- .. whose object has no dict -/
def Tz (H : Hp) (a : Addr) (xs : List V) : Prop := ∃ o, H a = some (.frz o (.tup xs)) ∧ o.dict = none
theorem Tq.of {H : Hp} {a : Addr} {xs : List V} (h : H a = some (.tup xs)) : Tq H a xs := .inl h
theorem Tq.sq {K : PySem.W.Frag} {H : Hp} {a : Addr} {xs : List V} (h : Tq H a xs) : SqT K H a xs := .inl h
theorem Tq.same {H H' : Hp} {a : Addr} {xs : List V} (h : Tq H a xs) (s : ∀ b o, H b = some o → H' b = some o) : Tq H' a xs := by
  rcases h with h | ⟨o, h⟩
  · exact .inl (s _ _ h)
  · exact .inr ⟨o, s _ _ h⟩
theorem Tz.q {H : Hp} {a : Addr} {xs : List V} (h : Tz H a xs) : Tq H a xs := by
  obtain ⟨o, h, _⟩ := h
  exact .inr ⟨o, h⟩
theorem Tz.same {H H' : Hp} {a : Addr} {xs : List V} (h : Tz H a xs) (s : ∀ b o, H b = some o → H' b = some o) : Tz H' a xs := by
  obtain ⟨o, h, d⟩ := h
  exact ⟨o, s _ _ h, d⟩
theorem Tq.ne_none {H : Hp} {a p : Addr} {xs : List V} (h : Tq H a xs) (hp : H p = none) : a ≠ p := by
  rcases h with h | ⟨o, h⟩
  · exact ne_of_none h hp
  · exact ne_of_none h hp
/-- followed tuples stay -/
def TQ (H H' : Hp) : Prop := ∀ t xs, Tq H t xs → Tq H' t xs
theorem TQ.refl (H : Hp) : TQ H H := fun _ _ h => h
theorem TQ.trans {H H1 H2 : Hp} (x : TQ H H1) (y : TQ H1 H2) : TQ H H2 := fun t xs h => y t xs (x t xs h)
theorem TQ.of_same {H H' : Hp} (s : ∀ b o, H b = some o → H' b = some o) : TQ H H' := fun t xs q => q.same s
theorem TQ.new {H : Hp} {p : Addr} {o : HO} (h : H p = none) : TQ H (upd H p o) := fun t xs q => by
  have n := q.ne_none h
  rcases q with q | ⟨o, q⟩
  · exact .inl (by rw [upd_ne n]; exact q)
  · exact .inr ⟨o, by rw [upd_ne n]; exact q⟩
theorem TQ.lst {H : Hp} {p : Addr} {ys : List V} {o : HO} (h : H p = some (.lst ys)) : TQ H (upd H p o) := fun t xs q => by
  rcases q with q | ⟨o, q⟩
  · exact .inl (by rw [upd_ne (ne_of q h (by intro e; cases e))]; exact q)
  · exact .inr ⟨o, by rw [upd_ne (ne_of q h (by intro e; cases e))]; exact q⟩
section
variable {X : Cx}
end
end L2
end
section
set_option Elab.async false
set_option linter.all false
set_option maxRecDepth 100000
set_option maxHeartbeats 2000000
set_option autoImplicit false
namespace L2
open PySem PySem.Spec PyProof.Rows
/-- an exception that lies in the state s at hand, ahead of the clauses -/
structure Caught (X : Cx) (pins : List (Addr × Obj)) (σ : St) (H : Hp) (s : Shared) (a : Addr) (cls : Value) (d : Option Addr) : Prop where
  na : H a = none
  fly : ∃ B, HandSPX.FlyingZ B (X.env :: X.outer) a (Zc cls d) s.heap ∧ ∀ h, HandSPX.FlyingZ B (X.env :: X.outer) a (Zc cls d) h → s.heap.UpToSlots h → Inv X pins σ H { s with heap := h }
section
variable {X : Cx} {pins : List (Addr × Obj)} {σ : St} {H : Hp} {s : Shared} {a : Addr} {cls : Value} {d : Option Addr}
/-- into the suite of a clause -/
theorem suite_of {B : Heap} (hf : X.env.frame = some X.env.locals) (fl : HandSPX.FlyingZ B (X.env :: X.outer) a (Zc cls d) s.heap) (I : Inv X pins σ H s) (na : H a = none) :
    ∃ oe, (∃ vs, oe.data = .fields vs) ∧ s.heap.get? a = some oe ∧ Zc cls d oe ∧ Inv (X.suite a ((a, oe) :: (X.pn ++ pins))) [] σ H s := by
  obtain ⟨oe, vs, he, hz, hd⟩ := fl.there
  have off : ∀ f ∈ frs (X.env :: X.outer), a ≠ f := fun f hm e => by
    subst e
    obtain ⟨_, o, e2, nf⟩ := fl.2.2.1.mem hm
    rw [he] at e2
    cases e2
    exact nf _ hd
  refine ⟨oe, ⟨vs, hd⟩, he, hz, I.suite he hd na (off _ (List.mem_filterMap.mpr ⟨X.env, List.mem_cons_self, hf⟩)) fun hm => ?_⟩
  obtain ⟨en, hen, q⟩ := List.mem_filterMap.mp hm
  exact off a (List.mem_filterMap.mpr ⟨en, List.mem_cons_of_mem _ hen, q⟩) rfl
/-- a try statement by what its clauses do with what is caught -/
theorem ps_try_by {body : List Stmt} {hds : List ExceptHandler} {h₀ : ExceptHandler} {pos : Pos} {tb : WX → TS} {Wd : Ends → WX} (hs : X.stack = X.env :: X.outer) (hf : X.env.frame = some X.env.locals)
    (hb : ∀ (W : WX) (pn : List (Addr × Obj)) (xe : Value → Shared → Prop), Takes (X.tr pn xe) W → PassesOwn (model X.prog X.w) X.A X.env xe → PSs (X.tr pn xe) body (tb W))
    (hk : ∀ (pins : List (Addr × Obj)) (D : Ends) (σ : St) (H : Hp) (s : Shared) (a : Addr) (cls : Value) (d : Option Addr), X.Ok → Caught X pins σ H s a cls d → Wd D cls d σ H →
      wpAny (model X.prog X.w) X.A (handleBy (.ref a) X.env (h₀ :: hds)) (SP X pins D) X.xe s) :
    PS X (.Try body (h₀ :: hds) [] [] pos) (fun D σ H => tb (Wd D) D σ H) := by
  refine ⟨fun pins s σ H D I h => wpAny_Try_except ?_⟩
  have ok := I.ok
  have hfr : X.A.frames = some (X.env :: X.outer) := by rw [ok.frames, hs]
  have P := (hb (Wd D) (X.pn ++ pins) (fun e s₁ => wpAny (model X.prog X.w) X.A (noteFrame e X.env) (fun _ s₂ => wpAny (model X.prog X.w) X.A (setFlight e none) (fun _ s₃ =>
    wpAny (model X.prog X.w) X.A (handleBy e X.env (h₀ :: hds)) (SP X pins D) X.xe s₃) X.xe s₂) X.xe s₁) (fun u s' xx => by
      obtain ⟨a, B, sI, pins', σ', H', cls, d, rfl, J', nb, up, sky, na, os, ag, w⟩ := xx
      have sky' : Sky B (X.env :: X.outer) a (Zc cls d) X.env.locals s'.heap := by rw [← hs]; exact sky
      refine Sky.land Zc.steady hfr hf sky' fun h3 fl3 up3 => hk pins D σ' H' { s' with heap := h3 } a cls d ok ⟨na, B, fl3, fun h fl up4 => ?_⟩ w
      exact (J'.ofTry ok).landed nb fl.1 ((up.trans up3).trans up4) os ag) PassesOwn.looking).run [] s σ H D (I.toTry _) h
  refine wpAny_mono P (fun f s1 hsp => ?_) fun _ _ he => he
  cases f with
  | ret u =>
    obtain ⟨v, σ', H', J', r, q⟩ := hsp
    exact ⟨v, σ', H', J'.ofTry ok, r, q⟩
  | next =>
    obtain ⟨σ', H', J', q⟩ := hsp
    exact wpAny_execs_nil ⟨σ', H', J'.ofTry ok, q⟩
  | brk =>
    obtain ⟨σ', H', J', q⟩ := hsp
    exact ⟨σ', H', J'.ofTry ok, q⟩
  | cont =>
    obtain ⟨σ', H', J', q⟩ := hsp
    exact ⟨σ', H', J'.ofTry ok, q⟩
/-- the wish of a first clause 'except x as n' that takes it -/
def wFirst (K : PySem.W.Frag) (c : Value) (i : Nat) (ts : Addr → Value → Option Addr → TS) (D : Ends) : WX := fun cls d σ H =>
  PySem.W.exmOne K cls c = some true ∧ ∀ a, H a = none → ts a cls d { nx := fun σ' H' => D.nx (σ'.set i none) H', rt := D.rt, bk := fun σ' H' => D.bk (σ'.set i none) H', ct := fun σ' H' => D.ct (σ'.set i none) H' } (σ.set i (some (.ref a))) H
theorem ps_try_first {x n : Str} {c : Value} {i : Nat} {body suite : List Stmt} {b₀ : Stmt} {np pos pos' : Pos} {hds : List ExceptHandler} {tb : WX → TS} {ts : Addr → Value → Option Addr → TS} (hs : X.stack = X.env :: X.outer) (hf : X.env.frame = some X.env.locals) (hN : X.N.Nodup) (hi : X.N[i]? = some n) (hln : X.env.kindOf n = some .local) (hc : Names X x c)
    (hb : ∀ (W : WX) (pn : List (Addr × Obj)) (xe : Value → Shared → Prop), Takes (X.tr pn xe) W → PassesOwn (model X.prog X.w) X.A X.env xe → PSs (X.tr pn xe) body (tb W))
    (hsu : ∀ (a : Addr) (oe : Obj) (cls : Value) (d : Option Addr) (pn : List (Addr × Obj)), Zc cls d oe → (∃ vs, oe.data = .fields vs) → PSs (X.suite a ((a, oe) :: pn)) (b₀ :: suite) (ts a cls d)) :
    PS X (.Try body (.ExceptHandler (some (.Name x np)) (some n) (b₀ :: suite) pos' :: hds) [] [] pos) (fun D σ H => tb (wFirst X.K c i ts D) D σ H) := by
  refine ps_try_by (Wd := wFirst X.K c i ts) hs hf hb fun pins D σ H s a cls d ok C w => ?_
  obtain ⟨na, B, fl, back⟩ := C
  obtain ⟨hm, hw⟩ := w
  have I0 : Inv X pins σ H s := back s.heap fl (fun b o e _ => ⟨o.slots, e⟩)
  obtain ⟨oe, hd, he, hz, S⟩ := suite_of hf fl I0 na
  refine wpAny_handleBy_cons (codeAny_handlers_test ?_) (by intro q; cases q)
  have look : PySem.W.Looks (model X.prog X.w) s.heap (typeOf (.ref a)) cls := fun A Q E s k q => wpAny_typeOf_ref (k _ _ he) (by rw [hz.1]; exact q)
  have name : ∀ {Q : Value → Shared → Prop} {E : Value → Shared → Prop}, Q c s → wpAny (model X.prog X.w) (X.A.mark (some (.ref a))) (eval (.Name x np) X.env) Q E s := fun {Q E} q => by
    obtain ⟨hg, hdbg, hm | ⟨hm, hv, hnn⟩⟩ := hc
    · exact ld_glob (X := X.suite a ((a, oe) :: (X.pn ++ pins))) S hg hm q hdbg
    · exact ld_blt (X := X.suite a ((a, oe) :: (X.pn ++ pins))) S hg hm hv q hnn hdbg
  refine name ((PySem.W.exm_one (M := model X.prog X.w) I0.kIn look hm).here (codeAny_handlers_suite_as ?_))
  refine HandSPX.lands_againZ fl fun h4 fl4 up4 => ?_
  obtain ⟨oe4, hd4, _, hz4, S4⟩ := suite_of (s := { s with heap := h4 }) hf fl4 (back h4 fl4 up4) na
  refine store_ok (X := X.suite a ((a, oe4) :: (X.pn ++ pins))) (v := .ref a) S4 hN hi (.inl hln) rfl (fun s5 S5 => ?_) (.inr hln)
  have R := (hsu a oe4 cls d (X.pn ++ pins) hz4 hd4).run [] s5 _ H _ S5 (hw a na)
  refine wpAny_mono R (fun f s6 hsp => ?_) fun _ _ z => z.elim
  cases f with
  | ret u =>
    obtain ⟨v6, σ6, H6, S6, r6, q6⟩ := hsp
    exact gone_ok (S6.unsuite ok) hN hi hln fun s7 J7 => ⟨_, _, _, J7, r6, q6⟩
  | next =>
    obtain ⟨σ6, H6, S6, q6⟩ := hsp
    exact gone_ok (S6.unsuite ok) hN hi hln fun s7 J7 => ⟨_, _, J7, q6⟩
  | brk =>
    obtain ⟨σ6, H6, S6, q6⟩ := hsp
    exact gone_ok (S6.unsuite ok) hN hi hln fun s7 J7 => ⟨_, _, J7, q6⟩
  | cont =>
    obtain ⟨σ6, H6, S6, q6⟩ := hsp
    exact gone_ok (S6.unsuite ok) hN hi hln fun s7 J7 => ⟨_, _, J7, q6⟩
end
end L2
namespace Sh
open PySem PySem.Spec PyProof.Rows L2
/-- an own exception class in except clauses -/
structure XOk (K : PySem.W.Frag) (C : Addr) (fs : List Str) : Prop where
  xf : XfC K C
  no : ∀ f ∈ fs, PySem.W.findIn K (.ref C) f = some none
  me : PySem.W.exmOne K (.ref C) (.ref C) = some true
/-- a call whose exceptions are wished for at the slots at hand -/
theorem pe_dS {X : Cx} {CX : CXT} {E : L2.St → XK} {k : Nat} {x : Str} {sp : Sp} {e : Expr} {es : List Expr} {t : TA} {p pos : Pos} (D : DefOk X.prog X.w X.K X.mg X.base CX k x sp) (hr : Room k X.A) (hx : ∀ σ, PassesAt CX X σ (E σ)) (ha : PA X (e :: es) t)
    (hg : Gl X x := by rfl) (hd : (x == ("__debug__" : Str)) = false := by decide)
    (he : starEach (e :: es) X.env = (false, eval e X.env) :: starEach es X.env := by rfl) (hpl : (backTo pos (starEach es X.env)).any (·.1) = false := by rfl) :
    PE X (.Call (.Name x p) (e :: es) [] pos) (tCallS sp E t) := by
  obtain ⟨f, hm, hk, F⟩ := D
  refine ⟨fun pins s σ H Q I h => ?_⟩
  refine wpAny_Call_Name_kw (ld_glob I hg hm ?_ hd)
  refine PySem.W.callWith_K (h₀ := X.base) I.ok.mod.kin hk (thn (ha.run pos pins s σ H _ I h) fun us s1 ⟨vs, H1, I1, r, q⟩ => ⟨I1.kIn, ?_⟩) he hpl
  refine wpAny_call (codeAny_mono (F X.A X.stack s1 H1 us vs Q (E σ) hr I1.env0 r q) fun r s' hq => ?_)
  cases r with
  | error e => exact hx σ pins H1 s1 e s' I1 hq
  | ok fl =>
    cases fl with
    | ret u => exact I1.after hq
    | next => exact hq.elim
    | brk => exact hq.elim
    | cont => exact hq.elim
end Sh
end
section
set_option Elab.async false
set_option linter.all false
set_option maxRecDepth 100000
set_option maxHeartbeats 2000000
set_option autoImplicit false
namespace Hx
open PySem PySem.Spec PyProof.Rows L2 He PySem.W
/-- an own exception class: its name, its fields, its __init__ as written -/
structure XDef where
  x : Str
  fs : List Str
  qual : Str
  params : Arguments
  body : List Stmt
  scope : Scope
abbrev XV : Type := Option (Str × Str × Arguments × FuncBody × Scope × Addr × Addr)
def iOf (K : Frag) (x : Str) : Addr := ma K (ga K x) "__init__"
def xvOf (K : Frag) (x : Str) : XV := match K.lookup (iOf K x) with
  | some ⟨_, _, .func fd, _⟩ => some (fd.name, fd.qualname, fd.params, fd.body, fd.scope, fd.globals, fd.builtins)
  | _ => none
def XDef.val (d : XDef) : XV := some ("__init__", d.qual, d.params, .stmts d.body, d.scope, mainGlobals, builtinsNs)
def cellB (K : Frag) (C : Addr) (cl : List (Str × Addr)) : Bool := match cl with
  | [(n, cc)] => decide (n = "__class__") && (match K.lookup cc with
    | some ⟨_, _, .cell (some (.ref D)), _⟩ => decide (D = C)
    | _ => false)
  | _ => false
def codeB (K : Frag) (file : Str) (cd : Value) : Bool := match cd with
  | .ref cda => (match K.lookup cda with
    | some ⟨_, _, .fields cvs, _⟩ => (match (cvs[2]? : Option Value) with
      | some (.str f _) => file == f
      | _ => false)
    | _ => false)
  | _ => false
def noneB (v : Value) : Bool := match v with
  | .none => true
  | _ => false
def funB (K : Frag) (file : Str) (d : XDef) : Bool := match K.lookup (iOf K d.x) with
  | some ⟨_, _, .func fd, _⟩ => noneB fd.defaults && (codeIn K fd.code d.qual && (codeB K file fd.code && cellB K (ga K d.x) fd.closure))
  | _ => false
def clsB (K : Frag) (C : Addr) : Bool := match K.lookup C with
  | some ⟨.type "type", _, .cls cd, sl⟩ => (match cd.mro, sl.toList with
    | .ref C' :: bm, [_, _, _, _, some (.builtin n), _] => decide (C' = C) && (decide (n = "ValueError.__new__") && (!cd.hasDel && (cd.hasDict && HandSPX.refsVE bm)))
    | _, _ => false)
  | _ => false
def XDef.ok (file : Str) (K : Frag) (d : XDef) : Bool :=
  clsB K (ga K d.x) && (funB K file d && (eqO (findIn K (.ref (ga K d.x)) "__setattr__") (some (some (.builtin "object.__setattr__"))) && ((d.fs.all fun f => eqO (findIn K (.ref (ga K d.x)) f) (some none)) &&
  (eqO (findIn K (.ref (ga K d.x)) "__init__") (some (some (.ref (iOf K d.x)))) && (decide (typeIn K (.ref (iOf K d.x)) = some (.type "function")) && (keepIn K (.ref (ga K d.x)) && (decide (subIn K (.ref (ga K d.x)) (.type "BaseException") = some true) &&
  (decide (subIn K (.ref (ga K d.x)) (.type "ValueError") = some true) && (decide (typeIn K (.ref (ga K d.x)) = some (.type "type")) && (decide (mroIn K (ga K d.x) (.ref (ga K d.x)) = some true) && (eqO (ks_superIn K (ga K d.x) (ga K d.x) "__init__") (some (some (.builtin "ValueError.__init__"))) &&
  (eqO (nsIn K cStatics "thirdparty.any") (some none) && (L2.xfB K (ga K d.x) && (decide (exmOne K (.ref (ga K d.x)) (.ref (ga K d.x)) = some true) && eqO (nsIn K mainGlobals d.x) (some (some (.ref (ga K d.x))))))))))))))))))
structure XFacts (prog : Program) (K : Frag) (d : XDef) (l : List SupX.StP) : Prop where
  txt : SupX.SupTxt prog K (ga K d.x) (iOf K d.x) d.qual d.params d.body d.scope l
  xf : L2.XfC K (ga K d.x)
  no : ∀ f ∈ d.fs, findIn K (.ref (ga K d.x)) f = some none
  me : exmOne K (.ref (ga K d.x)) (.ref (ga K d.x)) = some true
  gl : nsIn K mainGlobals d.x = some (some (.ref (ga K d.x)))
theorem facts_of {prog : Program} {K : Frag} {d : XDef} {l : List SupX.StP} (e : xvOf K d.x = d.val) (c : d.ok prog.main.file K = true) (hl : ∀ z ∈ l, z.f ∈ d.fs) : XFacts prog K d l := by
  unfold XDef.ok at c
  obtain ⟨c1, c⟩ := ba c
  obtain ⟨c2, c⟩ := ba c
  obtain ⟨c3, c⟩ := ba c
  obtain ⟨c4, c⟩ := ba c
  obtain ⟨c5, c⟩ := ba c
  obtain ⟨c6, c⟩ := ba c
  obtain ⟨c7, c⟩ := ba c
  obtain ⟨c8, c⟩ := ba c
  obtain ⟨c9, c⟩ := ba c
  obtain ⟨c10, c⟩ := ba c
  obtain ⟨c11, c⟩ := ba c
  obtain ⟨c12, c⟩ := ba c
  obtain ⟨c13, c⟩ := ba c
  obtain ⟨c14, c⟩ := ba c
  obtain ⟨c15, c16⟩ := ba c
  have no : ∀ f ∈ d.fs, findIn K (.ref (ga K d.x)) f = some none := fun f hf => eqO_ok (List.all_eq_true.mp c4 f hf)
  refine ⟨⟨?_, eqO_ok c3, fun z hz => no _ (hl z hz), eqO_ok c5, of_decide_eq_true c6, c7, of_decide_eq_true c8, of_decide_eq_true c9, of_decide_eq_true c10, of_decide_eq_true c11, eqO_ok c12, eqO_ok c13, ?_⟩, L2.xfB_ok c14, no, of_decide_eq_true c15, eqO_ok c16⟩
  · unfold clsB at c1
    split at c1
    · rename_i dd cd sl ho
      split at c1
      · rename_i C' bm k0 k1 k2 k3 n k5 hm hs
        obtain ⟨y1, y⟩ := ba c1
        obtain ⟨y2, y⟩ := ba y
        obtain ⟨y3, y⟩ := ba y
        obtain ⟨y4, y5⟩ := ba y
        have y1 := of_decide_eq_true y1
        have y2 := of_decide_eq_true y2
        have y3' : cd.hasDel = false := by
          cases h : cd.hasDel with
          | false => rfl
          | true => rw [h] at y3; cases y3
        clear y3
        obtain ⟨nm, bs, mro, ns, qn, hd, sn, sub, ab, col, del⟩ := cd
        dsimp only at hm y3' y4
        subst y1 y2 hm y3' y4
        have hsl : sl = #[k0, k1, k2, k3, some (.builtin "ValueError.__new__"), k5] := by
          obtain ⟨l⟩ := sl
          simp only at hs
          rw [hs]
        subst hsl
        exact ⟨nm, qn, ns, bs, bm, sn, sub, ab, col, dd, k0, k1, k2, k3, k5, ho, y5⟩
      · cases c1
    · cases c1
  · unfold funB at c2
    unfold xvOf at e
    cases q : K.lookup (iOf K d.x) with
    | none =>
      rw [q] at c2
      cases c2
    | some o =>
      obtain ⟨oc, od, dt, osl⟩ := o
      rw [q] at c2 e
      cases dt with
      | func fd =>
        obtain ⟨n1, n2, n3, n4, n5, n6, n7, n8, n9, n10, n11, n12, n13, n14, n15⟩ := fd
        have e2 : (some (n1, n2, n3, n4, n5, n6, n15) : XV) = (some (("__init__" : Str), d.qual, d.params, FuncBody.stmts d.body, d.scope, mainGlobals, builtinsNs) : XV) := e
        simp only [Option.some.injEq, Prod.mk.injEq] at e2
        obtain ⟨h1, h2, h3, h4, h5, h6, h8⟩ := e2
        subst h1 h2 h3 h4 h5 h6 h8
        have c3 : (noneB n8 && (codeIn K n13 d.qual && (codeB K prog.main.file n13 && cellB K (ga K d.x) n7))) = true := c2
        obtain ⟨k1, k2⟩ := ba c3
        obtain ⟨k3, k4⟩ := ba k2
        obtain ⟨k5, k6⟩ := ba k4
        have hn8 : n8 = .none := by
          cases n8 with
          | none => rfl
          | _ => cases k1
        subst hn8
        unfold codeB at k5
        unfold cellB at k6
        split at k5
        · rename_i cda
          split at k5
          · rename_i ccl cdd cvs ccs hcda
            split at k5
            · rename_i f tf hf
              split at k6
              · rename_i n cc
                obtain ⟨z1, z2⟩ := ba k6
                have z1 := of_decide_eq_true z1
                subst z1
                split at z2
                · rename_i cl cld D csl hcc
                  have z2 := of_decide_eq_true z2
                  subst z2
                  exact ⟨oc, od, osl, n9, n10, n11, n12, cda, n14, cc, ccl, cdd, cvs, ccs, f, tf, cl, cld, csl, rfl, k3, hcda, hf, k5, hcc⟩
                · cases z2
              · cases k6
            · cases k5
          · cases k5
        · cases k5
      | _ => cases c2
theorem x_of {file : Str} {K : Frag} {xs : List XDef} (h1 : (xs.all fun d => d.ok file K) = true) (h2 : (xs.map fun d => xvOf K d.x) = xs.map XDef.val) (i : Nat) {d : XDef} (h : xs[i]? = some d := by rfl) : xvOf K d.x = d.val ∧ d.ok file K = true := by
  refine ⟨?_, List.all_eq_true.mp h1 d (List.mem_of_getElem? h)⟩
  have e2 : (xs.map fun d => xvOf K d.x)[i]? = (xs.map XDef.val)[i]? := by rw [h2]
  rw [List.getElem?_map, List.getElem?_map, h] at e2
  exact Option.some.inj e2
end Hx
end
section
set_option linter.all false
set_option autoImplicit false
namespace Mth
variable {α : Type} (w : α → Nat)
/-- n plants one behind the other, and nothing else -/
def forest : List α → Nat → Bool
  | [], n => n == 0
  | _ :: _, 0 => false
  | k :: r, n + 1 => forest r (w k + n)
/-- behind n plants -/
def skip : List α → Nat → List α
  | [], _ => []
  | k :: r, 0 => k :: r
  | k :: r, n + 1 => skip r (w k + n)
theorem forest_skip : ∀ (l : List α) (a b : Nat), forest w l (a + b) = true → forest w (skip w l a) b = true
  | [], a, b, h => by
    have e : a + b = 0 := eq_of_beq h
    have e2 : b = 0 := by omega
    rw [e2]; rfl
  | k :: r, 0, b, h => by rw [Nat.zero_add] at h; exact h
  | k :: r, a + 1, b, h => by
    rw [show a + 1 + b = (a + b) + 1 by omega] at h
    have h2 : forest w r (w k + (a + b)) = true := h
    show forest w (skip w r (w k + a)) b = true
    exact forest_skip r (w k + a) b (by rw [Nat.add_assoc]; exact h2)
theorem skip_suffix : ∀ (l : List α) (n : Nat), ∃ j, j ≤ l.length ∧ skip w l n = l.drop j
  | [], _ => ⟨0, Nat.le_refl _, rfl⟩
  | k :: r, 0 => ⟨0, Nat.zero_le _, rfl⟩
  | k :: r, n + 1 => by
    obtain ⟨j, hj, e⟩ := skip_suffix r (w k + n)
    exact ⟨j + 1, by rw [List.length_cons]; omega, e⟩
theorem forest_zero {l : List α} (h : forest w l 0 = true) : l = [] := by
  cases l with
  | nil => rfl
  | cons _ _ => cases h
theorem forest_pos {l : List α} {n : Nat} (h : forest w l (n + 1) = true) : l ≠ [] := fun e => by
  rw [e] at h
  exact absurd (eq_of_beq h : n + 1 = 0) (by omega)
/-- the place behind n plants from place i on -/
def nxs (l : List α) (i n : Nat) : Nat := l.length - (skip w (l.drop i) n).length
theorem drop_nxs (l : List α) (i n : Nat) : l.drop (nxs w l i n) = skip w (l.drop i) n := by
  obtain ⟨j, hj, e⟩ := skip_suffix w (l.drop i) n
  unfold nxs
  rw [e, List.drop_drop, List.length_drop]
  rw [List.length_drop] at hj
  by_cases h : i ≤ l.length
  · rw [show l.length - (l.length - (i + j)) = i + j by omega]
  · rw [List.drop_eq_nil_of_le (by omega), List.drop_eq_nil_of_le (by omega)]
theorem nxs_le (l : List α) (i n : Nat) : nxs w l i n ≤ l.length := Nat.sub_le _ _
/-- m plants stand from place i to the end -/
def Fst (l : List α) (i m : Nat) : Prop := i ≤ l.length ∧ forest w (l.drop i) m = true
theorem Fst.lt {l : List α} {i m : Nat} (h : Fst w l i (m + 1)) : i < l.length := by
  refine Nat.lt_of_not_le fun q => ?_
  have e := h.2
  rw [List.drop_eq_nil_of_le q] at e
  exact forest_pos w e rfl
theorem Fst.skip {l : List α} {i a b : Nat} (h : Fst w l i (a + b)) : Fst w l (nxs w l i a) b :=
  ⟨nxs_le w l i a, by rw [drop_nxs]; exact forest_skip w _ a b h.2⟩
theorem Fst.in {l : List α} {i m : Nat} {k : α} (h : Fst w l i (m + 1)) (hk : l[i]? = some k) : Fst w l (i + 1) (w k + m) := by
  have hi := (List.getElem?_eq_some_iff.mp hk).1
  have e := h.2
  have d : l.drop i = k :: l.drop (i + 1) := by
    rw [List.drop_eq_getElem_cons hi]
    have := (List.getElem?_eq_some_iff.mp hk).2
    rw [this]
  rw [d] at e
  exact ⟨hi, e⟩
theorem Fst.all {l : List α} (h : forest w l 1 = true) : ∀ i, i ≤ l.length → ∃ m, Fst w l i m
  | 0, _ => ⟨1, Nat.zero_le _, by rw [List.drop_zero]; exact h⟩
  | i + 1, hi => by
    obtain ⟨m, F⟩ := Fst.all h i (by omega)
    cases m with
    | zero =>
      have z := forest_zero w F.2
      have := congrArg List.length z
      rw [List.length_drop] at this
      simp at this
      omega
    | succ m => exact ⟨_, F.in w (List.getElem?_eq_getElem (by omega))⟩
theorem Fst.pos {l : List α} {i m : Nat} (h : Fst w l i m) (hi : i < l.length) : ∃ n, m = n + 1 := by
  cases m with
  | succ n => exact ⟨n, rfl⟩
  | zero =>
    have z := forest_zero w h.2
    have := congrArg List.length z
    rw [List.length_drop] at this
    simp at this
    omega
/-- where a path leads, from a place -/
def walk (l : List α) : Nat → List Nat → Option Nat
  | p, [] => some p
  | p, c :: cs => match l[p]? with
    | some k => if c < w k then walk l (nxs w l (p + 1) c) cs else none
    | none => none
end Mth
namespace Mth
variable {α : Type} (w : α → Nat)
end Mth
end
section
set_option Elab.async false
set_option linter.all false
set_option maxRecDepth 100000
set_option maxHeartbeats 4000000
set_option autoImplicit false
namespace Lx
open PySem PySem.Spec PyProof.Rows L2 LamX NdefX
/-- the object at f is the lambda F with the body e -/
def LamO (f : Addr) (F : NF) (e : Expr) : HO := .ext fun h => ∃ (pm ctv : Value), h.get? f = some (PySem.W.kla_obj F.name F.qual F.params e F.scope F.cl pm F.c ctv)
theorem lamO_at {P : Program} {w : World} {H : Hp} {h : Heap} {f : Addr} {F : NF} {e : Expr} (hok : HOk P w H h) (x : H f = some (LamO f F e)) : ∃ (pm ctv : Value), h.get? f = some (PySem.W.kla_obj F.name F.qual F.params e F.scope F.cl pm F.c ctv) := by
  obtain ⟨z, _, _⟩ := hok f _ x
  exact z
section
variable {CX : CXT} {P : Program} {w : World} {K : PySem.W.Frag} {mg : Str → Option Value} {base : Heap} {N ps fr : List Str} {F : NF} {f : Addr} {k : Nat}
theorem lam_run (S : NScope N ps fr F.scope) {body : Expr} {A : Around} {outer : List Env} {s : Shared} {H : Hp} {us : List Value} {vs : List V} {ws : List (Option V)} {Q : VK} {E : XK}
    (hr : Room (k + 1) A) (e0 : Env0 P w K mg base A outer s H) (ho : H f = some (LamO f F body)) (hc : H F.c = some (CodeO F.c F.qual)) (C : CellsAt F.cl fr ws s.heap H) (r : Vals vs us) (hl : vs.length = ps.length)
    (hb : ∀ pm ctv, bindArgs (PySem.W.kla_fn F.name F.qual F.params body F.scope F.cl pm (.ref F.c) ctv) ⟨us, []⟩ = pure (ps.zip us))
    (hbody : Room k (A.deeper (envF F f s.heap.objs.size)) → ∃ t, PE (ncx CX P w K mg base N F f A outer s H E) body t ∧ t (startF N vs ws) H Q) :
    codeAny (model P w) A (.call (.ref f) ⟨us, []⟩) (CR CX outer P w H s Q E) s := by
  have lim : s.heap.NoLimit := e0.mod.nolimit.keeps fun b o e => (e0.bs b o e).1
  obtain ⟨pm, ctv, of⟩ := lamO_at e0.hok ho
  refine PySem.W.kla_callFunE hr.depth of rfl S.co S.gen rfl (codeO_at e0.hok hc) ?_
  rw [hb pm ctv]
  refine wpAny_pure (wpAny_newFunctionEnv S.nocell (fun ⟨n, _⟩ hy => S.par n (List.of_mem_zip hy).1) (fun h₁ hns hsb => ⟨lim.fresh _ hsb, ?_⟩) S.kind)
  show codeAny _ _ (.expr body (envF F f s.heap.objs.size)) _ _
  have kp : ∀ b o, s.heap.get? b = some o → h₁.get? b = some o := fun b o e => hsb.extBut b o (Nat.ne_of_lt (Heap.lt_size e)) (Heap.get?_push_of_some _ e)
  obtain ⟨t, ht, hq⟩ := hbody (hr.deeper _)
  have I : Inv (ncx CX P w K mg base N F f A outer s H E) [] (startF N vs ws) H { s with heap := h₁, toks := s.toks + (ps.zip us).length } := inv_startN S hr.hd e0 hl r C hns kp
  refine PySem.W.kla_codeExpr (wpAny_mono (ht.run [] _ _ H Q I hq) (fun v s' hq => ?_) fun e s' hq => hq)
  obtain ⟨w', H', J', rv, q⟩ := hq
  exact ⟨w', H', J'.os, J'.bare, J'.base, J'.hok, rv, q⟩
end
section
variable {X : Cx} {pins : List (Addr × Obj)} {σ : L2.St} {H : Hp} {s : Shared}
theorem inv_lam {F : NF} {e : Expr} {o : Obj} {t' : Nat} {pm ctv : Value} (I : Inv X pins σ H s) (ho : o = PySem.W.kla_obj F.name F.qual F.params e F.scope F.cl pm F.c ctv) :
    Inv X pins σ (upd H s.heap.objs.size (LamO s.heap.objs.size F e)) { s with heap := s.heap.push o, toks := t' } := by
  subst ho
  refine I.laid (a := s.heap.objs.size) (fun b u e => Heap.get?_push_of_some _ e) (Nat.le_refl _) ?_
  have e : (s.heap.push (PySem.W.kla_obj F.name F.qual F.params e F.scope F.cl pm F.c ctv)).get? s.heap.objs.size = some (PySem.W.kla_obj F.name F.qual F.params e F.scope F.cl pm F.c ctv) := Heap.get?_push_size _ rfl
  exact ⟨⟨pm, ctv, e⟩, ⟨_, e⟩, fun h1 h2 ⟨p, t, z⟩ st => ⟨p, t, st _ z⟩⟩
/-- the lambda is made: its code object is new, or found in the table -/
theorem lam_made {T : List (Addr × Str)} {c P : Addr} {params : Arguments} {body : Expr} {scope : Scope} {pos : Pos} {E : Value → Shared → Prop} {Q : Value → Shared → Prop} (I : Inv X pins σ H s) (TB : TabB X.base X.mg c P) (hcode : X.env.code = .ref c)
    (hm : (P, X.env.qual ++ "<lambda>") ∈ T) (hu : ∀ p ∈ T, p.1 = P → p.2 = X.env.qual ++ "<lambda>") (hT : Tabs T H) (hdef : defaultsOf params X.env = ([], [])) (hfree : ∀ y ∈ scope.names, y.2 = .free → ∃ c, X.env.cells.lookup y.1 = some c)
    (h : ∀ (f c' : Addr) (H1 : Hp) (s' : Shared), Inv X pins σ H1 s' → ExtN H H1 → (∀ b, H1 b = Option.none → H b = Option.none) → Tabs T H1 → H f = none → H1 f = some (LamO f ⟨"<lambda>", X.env.qual ++ "<lambda>", params, [], scope, cloFrom X.env.cells scope.names [], c'⟩ body) → H1 c' = some (CodeO c' (X.env.qual ++ "<lambda>")) → Q (.ref f) s') :
    wpAny (model X.prog X.w) X.A (eval (.Lambda params body scope pos) X.env) Q E s := by
  obtain ⟨ps, hP, ht, ha⟩ := hT _ hm
  refine PySem.W.kla_eval hdef ?_
  have bP : s.heap.BuiltinsAt X.mg P := TB.bm.keeps I.bk
  have hP' : s.heap.get? P = some { cls := .none, data := .fields ps } := I.hok P _ hP
  cases hc : codeAmong pos ps.toList with
  | none =>
    refine PySem.W.kla_makeFunction (mg := X.mg) (c := c) (P := P) (ps := ps) (closure_ok hfree) I.ok.glob (I.mod.glob.keeps I.bk) hcode (TB.code.keeps I.bk) hP' ht hc TB.gP bP fun c' ctv h' tk hx hge hlt hrec htb => ?_
    obtain ⟨c2, oc, vs, t, e2, hoc, hd, hv⟩ := hrec
    cases e2
    have nC : H c' = none := I.hok.fresh hge
    have I1 := inv_table (t' := tk) (more := #[rawInt pos.line, rawInt pos.col, .ref c']) (h' := h') I hP (fun b o hb e => hx b o hb e) htb hge ⟨oc, vs, t, hoc, hd, hv⟩
    have hE : ExtN H (upd (upd H P (.tbl (ps ++ #[rawInt pos.line, rawInt pos.col, .ref c']))) c' (CodeO c' (X.env.qual ++ "<lambda>"))) := fun b o e n => by
      rw [upd_ne (ne_of_none e nC), upd_ne (fun z => n ps (Option.some.inj (e.symm.trans (by rw [z]; exact hP))))]
      exact e
    have eL : (ps ++ #[rawInt pos.line, rawInt pos.col, .ref c']).toList = ps.toList ++ [rawInt pos.line, rawInt pos.col, .ref c'] := by simp
    have T1 : Tabs T (upd (upd H P (.tbl (ps ++ #[rawInt pos.line, rawInt pos.col, .ref c']))) c' (CodeO c' (X.env.qual ++ "<lambda>"))) := fun p hp => by
      by_cases hb : p.1 = P
      · rw [hu p hp hb, hb]
        refine ⟨_, by rw [upd_ne (ne_of_none hP nC), upd_same], by rw [eL]; exact PySem.TriplesOk_snoc _ _ _ _ ht, fun p' cv hcv => ?_⟩
        rw [eL] at hcv
        rcases among_app _ ht hcv with z | z
        · obtain ⟨c0, e1, e2⟩ := ha p' cv z
          exact ⟨c0, e1, hE _ _ e2 codeO_ne⟩
        · exact ⟨c', z, upd_same⟩
      · obtain ⟨ps', a1, a2, a3⟩ := hT p hp
        refine ⟨ps', by rw [upd_ne (ne_of_none a1 nC), upd_ne hb]; exact a1, a2, fun p' cv hcv => ?_⟩
        obtain ⟨c0, e1, e2⟩ := a3 p' cv hcv
        exact ⟨c0, e1, hE _ _ e2 codeO_ne⟩
    have nF := I1.hok.fresh (Nat.le_refl _)
    have I2 := inv_lam (F := ⟨"<lambda>", X.env.qual ++ "<lambda>", params, [], scope, cloFrom X.env.cells scope.names [], c'⟩) (e := body) (t' := tk) (pm := (X.mg "__name__").getD .none) (ctv := ctv) I1 rfl
    refine h h'.objs.size c' _ _ I2 (fun b o e n => ?_) (fun b e => upd_none (upd_none (upd_none e))) (T1.ext fun b o e => ?_) (I.hok.fresh (Nat.le_trans hge (Nat.le_of_lt hlt))) upd_same ?_
    · have e1 := hE b o e n
      exact (upd_ne (ne_of_none e1 nF)).trans e1
    · exact (upd_ne (ne_of_none e nF)).trans e
    · exact (upd_ne (Nat.ne_of_lt hlt)).trans upd_same
  | some cv =>
    obtain ⟨c', e, hco⟩ := ha pos cv hc
    subst e
    refine PySem.W.kla_makeFunctionHit (mg := X.mg) (c := c) (P := P) (ps := ps) (closure_ok hfree) I.ok.glob (I.mod.glob.keeps I.bk) hcode (TB.code.keeps I.bk) hP' ht hc bP fun ctv h' tk hx hsz => ?_
    have I1 : Inv X pins σ H { s with heap := h', toks := tk } := I.kept hx
    have nF : H h'.objs.size = none := I1.hok.fresh (Nat.le_refl _)
    have I2 := inv_lam (F := ⟨"<lambda>", X.env.qual ++ "<lambda>", params, [], scope, cloFrom X.env.cells scope.names [], c'⟩) (e := body) (t' := tk) (pm := (X.mg "__name__").getD .none) (ctv := ctv) I1 rfl
    refine h h'.objs.size c' _ _ I2 (fun b o e n => ?_) (fun b e => upd_none e) (hT.ext fun b o e => ?_) nF upd_same ?_
    · exact (upd_ne (ne_of_none e nF)).trans e
    · exact (upd_ne (ne_of_none e nF)).trans e
    · exact (upd_ne (ne_of_none hco nF)).trans hco
end
end Lx
end
section
set_option Elab.async false
set_option linter.all false
set_option maxRecDepth 100000
set_option maxHeartbeats 4000000
set_option autoImplicit false
namespace Lx
open PySem PySem.Spec PyProof.Rows L2 LamX NdefX
mutual
theorem dp_same {K : PySem.W.Frag} {H H' : Hp} (e : Same H H') : ∀ {v : V} {d : PyData}, Dp K H v d → Dp K H' v d
  | _, _, .non => .non
  | _, _, .bl b => .bl b
  | _, _, .int i => .int i
  | _, _, .str x => .str x
  | _, _, .lst h x => .lst (e.seq h) (dpa_same e x)
  | _, _, .tup h x => .tup (by
      rcases h with (h | ⟨o, h⟩) | h
      · exact .inl (.inl (e _ _ h))
      · exact .inl (.inr ⟨o, e _ _ h⟩)
      · exact .inr h) (dpa_same e x)
theorem dpa_same {K : PySem.W.Frag} {H H' : Hp} (e : Same H H') : ∀ {vs : List V} {ds : List PyData}, DpAll K H vs ds → DpAll K H' vs ds
  | _, _, .nil => .nil
  | _, _, .cons h x => .cons (dp_same e h) (dpa_same e x)
end
section
variable {X : Cx} {pins : List (Addr × Obj)} {σ : L2.St} {H : Hp} {s : Shared}
theorem FpOk.at {H H' : Hp} {b : Addr} (f : FpOk X pins H b) (n : H' b = none) : FpOk X pins H' b := ⟨n, f.2⟩
end
end Lx
end
section
set_option Elab.async false
set_option linter.all false
set_option maxRecDepth 100000
set_option maxHeartbeats 4000000
set_option autoImplicit false
namespace Lx
open PySem PySem.Spec PyProof.Rows L2 LamX NdefX
section
variable {X : Cx} {pins : List (Addr × Obj)} {σ : L2.St} {H H2 : Hp} {s : Shared}
end
section
variable {X : Cx}
/-- what a lambda with one parameter asks of its maker -/
structure LamK (X : Cx) (T : List (Addr × Str)) (c P : Addr) (N fr : List Str) (js : List Nat) (a : Str) (params : Arguments) (body : Expr) (scope : Scope) : Prop where
  TB : TabB X.base X.mg c P
  code : X.env.code = .ref c
  mem : (P, X.env.qual ++ "<lambda>") ∈ T
  one : ∀ p ∈ T, p.1 = P → p.2 = X.env.qual ++ "<lambda>"
  dft : defaultsOf params X.env = ([], [])
  S : NScope N [a] fr scope
  free : ∀ y ∈ scope.names, y.2 = .free → X.env.scope.names.lookup y.1 = some .cell ∨ X.env.scope.names.lookup y.1 = some .free
  frm : ∀ y ∈ fr, (y, NameKind.free) ∈ scope.names
  js : js.map (fun j => X.N[j]?) = fr.map some
  bind : ∀ (q : Str) (cl : List (Str × Addr)) (pm cv ctv u : Value), bindArgs (PySem.W.kla_fn "<lambda>" q params body scope cl pm cv ctv) ⟨[u], []⟩ = pure [(a, u)]
theorem LamK.has {T : List (Addr × Str)} {c P : Addr} {N fr : List Str} {js : List Nat} {a : Str} {params : Arguments} {body : Expr} {scope : Scope} (L : LamK X T c P N fr js a params body scope) (ok : X.Ok) : ∀ y ∈ scope.names, y.2 = .free → ∃ c, X.env.cells.lookup y.1 = some c := fun y hy e =>
  (L.free y hy e).elim (fun z => ok.has _ (.inl z)) fun z => ok.has _ (.inr z)
/-- the lambda's body, told of every frame that it may run in -/
def LamB (X : Cx) (N : List Str) (k : Nat) (scope : Scope) (body : Expr) (tb : TE) : Prop := ∀ (F : NF) (f : Addr) (A : Around) (outer : List Env) (s : Shared) (H : Hp), F.scope = scope → Room k (A.deeper (envF F f s.heap.objs.size)) → PE (ncx C8.CX0 X.prog X.w X.K X.mg X.base N F f A outer s H C8.E0) body tb
/-- a call of the lambda, within a built-in -/
theorem LamK.call {T : List (Addr × Str)} {c P : Addr} {N fr : List Str} {js : List Nat} {a : Str} {params : Arguments} {body : Expr} {scope : Scope} {k : Nat} {tb : TE} (L : LamK X T c P N fr js a params body scope) (B : LamB X N k scope body tb)
    {A : Around} {pins : List (Addr × Obj)} {σ : L2.St} {H : Hp} {s : Shared} {f c' : Addr} {x : V} {v : Value} {Q : VK} {E : Value → Shared → Prop} (hr : Room (k + 1) A) (hA : ∀ {s : Shared} {H : Hp}, Env0 X.prog X.w X.K X.mg X.base X.A X.stack s H → Env0 X.prog X.w X.K X.mg X.base A X.stack s H)
    (I : Inv X pins σ H s) (hf : H f = some (LamO f ⟨"<lambda>", X.env.qual ++ "<lambda>", params, [], scope, cloFrom X.env.cells scope.names [], c'⟩ body)) (hc : H c' = some (CodeO c' (X.env.qual ++ "<lambda>"))) (rx : RelV x v) (q : tb (startF N [x] (js.map (slotAt σ))) H Q) :
    wpAny (model X.prog X.w) A (call (.ref f) [v]) (EP X pins σ Q) E s := by
  have C : CellsAt (cloFrom X.env.cells scope.names []) fr (js.map (slotAt σ)) s.heap H := cells_of I (Caps.made I.ok L.free L.frm L.js)
  have rc := lam_run (CX := C8.CX0) (F := ⟨"<lambda>", X.env.qual ++ "<lambda>", params, [], scope, cloFrom X.env.cells scope.names [], c'⟩) (f := f) (k := k) (E := C8.E0) (Q := Q) (vs := [x]) (us := [v]) (ps := [a]) L.S hr (hA I.env0) hf hc C (.cons rx .nil) rfl (fun pm ctv => L.bind _ _ _ _ _ _) (fun hr' => ⟨tb, B _ _ _ _ _ _ rfl hr', q⟩)
  refine wpAny_call (codeAny_mono rc fun r s' hq => ?_)
  cases r with
  | error e => exact (show False from hq).elim
  | ok fl =>
    cases fl with
    | ret u => exact I.after hq
    | next => exact False.elim hq
    | brk => exact False.elim hq
    | cont => exact False.elim hq
end
end Lx
end
section
set_option Elab.async false
set_option linter.all false
set_option maxRecDepth 100000
set_option maxHeartbeats 4000000
set_option autoImplicit false
namespace Lx
open PySem PySem.Spec PyProof.Rows L2 LamX NdefX
/-- the first place of a least key among the first ones -/
def bestK (kz : List PyData) : Nat → Nat := argBest fun i j => PySem.W.dataLt (kz.getD i .none) (kz.getD j .none)
theorem bestK_succ (kz : List PyData) (j : Nat) : bestK kz (j + 1) = if PySem.W.dataLt (kz.getD (j + 1) .none) (kz.getD (bestK kz j) .none) = true then j + 1 else bestK kz j := rfl
section
variable {X : Cx} {pins : List (Addr × Obj)} {σ : L2.St} {H H2 : Hp} {s : Shared}
/-- a call of the lambda, within a built-in; what it keeps is told -/
theorem lam_callC {T : List (Addr × Str)} {c P : Addr} {N fr : List Str} {js : List Nat} {a : Str} {params : Arguments} {body : Expr} {scope : Scope} {k : Nat} {tb : TE} (L : LamK X T c P N fr js a params body scope) (B : LamB X N k scope body tb)
    {A : Around} {f c' : Addr} {x : V} {v : Value} {Q : VK} {E : Value → Shared → Prop} (hr : Room (k + 1) A) (hA : ∀ {s : Shared} {H : Hp}, Env0 X.prog X.w X.K X.mg X.base X.A X.stack s H → Env0 X.prog X.w X.K X.mg X.base A X.stack s H)
    (I : Inv X pins σ H s) (hf : H f = some (LamO f ⟨"<lambda>", X.env.qual ++ "<lambda>", params, [], scope, cloFrom X.env.cells scope.names [], c'⟩ body)) (hc : H c' = some (CodeO c' (X.env.qual ++ "<lambda>"))) (rx : RelV x v) (q : tb (startF N [x] (js.map (slotAt σ))) H Q) :
    wpAny (model X.prog X.w) A (PySem.call (Value.ref f) [v]) (fun u s' => CE X.stack X.prog X.w H s Q u s') E s := by
  have C : CellsAt (cloFrom X.env.cells scope.names []) fr (js.map (slotAt σ)) s.heap H := cells_of I (Caps.made I.ok L.free L.frm L.js)
  have rc := lam_run (CX := C8.CX0) (F := ⟨"<lambda>", X.env.qual ++ "<lambda>", params, [], scope, cloFrom X.env.cells scope.names [], c'⟩) (f := f) (k := k) (E := C8.E0) (Q := Q) (vs := [x]) (us := [v]) (ps := [a]) L.S hr (hA I.env0) hf hc C (.cons rx .nil) rfl (fun pm ctv => L.bind _ _ _ _ _ _) (fun hr' => ⟨tb, B _ _ _ _ _ _ rfl hr', q⟩)
  refine wpAny_call (codeAny_mono rc fun r s' hq => ?_)
  cases r with
  | error e => exact (show False from hq).elim
  | ok fl =>
    cases fl with
    | ret u => exact hq
    | next => exact False.elim hq
    | brk => exact False.elim hq
    | cont => exact False.elim hq
theorem after_un {Q : VK} {u : Value} {s' : Shared} (I : Inv X pins σ H s) (h : CE X.stack X.prog X.w H s Q u s') : ∃ v H', Inv X pins σ H' s' ∧ Un (frs X.stack) [] H H' s.heap s'.heap ∧ RelV v u ∧ Q v H' := by
  obtain ⟨v, H', os, bare, un, hok, r, q⟩ := h
  obtain ⟨hh, g, d, t, os'⟩ := s'
  obtain rfl : os' = s.os := os
  exact ⟨v, H', I.call (h' := hh) (g' := g) (d' := d) (t' := t) (ch := []) un hok bare (fun b z => absurd z (by simp)), un, r, q⟩
theorem fp_nst {b : Addr} (I : Inv X pins σ H s) (f : FpOk X pins H2 b) : b ∉ frs X.stack := fun hb => (List.mem_cons.mp (I.stkSub b hb)).elim f.2.1 f.2.2.1
end
end Lx
end
section
set_option Elab.async false
set_option linter.all false
set_option maxRecDepth 100000
set_option maxHeartbeats 4000000
set_option autoImplicit false
namespace Sh
open PySem PySem.Spec PyProof.Rows L2 LamX NdefX Lx
/-- where a def stands, and its code object -/
def DefC (K : PySem.W.Frag) (mg : Str → Option Value) (x : Str) (st : Stmt) (c : Addr) : Prop := ∃ f fd, mg x = some (.ref f) ∧ FunD K x x (defArgs st) (defBody st) (defScope st) [] [] f fd ∧ fd.code = .ref c
section
variable {P : Program} {w : World} {K : PySem.W.Frag} {mg : Str → Option Value} {base : Heap} {k j : Nat} {x : Str} {sp : Sp} {st : Stmt} {c : Addr}
theorem DefC.okG {CX : CXT} {N ps : List Str} (D : DefC K mg x st c) (S : FnScope N ps (defScope st)) (len : ∀ vs H Q E, sp vs H Q E → vs.length = ps.length)
    (hb : ∀ (kV doc pm : Value) (an : Option Addr) (cdv ct : Value) (us : List Value), us.length = ps.length → bindArgs (PySem.W.fnOf x x (defArgs st) (defBody st) (defScope st) .none kV doc pm an cdv ct) ⟨us, []⟩ = pure (ps.zip us))
    (hbody : ∀ (f : Addr) (A : Around) (outer : List Env) (s : Shared) (H : Hp) (vs : List V) (Q : VK) (E : XK), Room k (A.deeper (envOfC x (defScope st) s.heap.objs.size f (.ref c))) → sp vs H Q E →
      ∃ t, PSs (cxOf CX P w K mg base N x (defScope st) f (.ref c) A outer s H E) (defBody st) t ∧ t { nx := fun _ H' => Q .non H', rt := Q } (start N vs) H) : DefOk P w K mg base CX (k + 1) x sp := by
  obtain ⟨f, fd, hm, F, hc⟩ := D
  have B : Binds K fd ps [] := F.bindsN hb
  have kp := F.kp
  obtain ⟨oc, od, dV, kV, doc, pm, an, cdv, ct, osl, rfl, lk, hcd, _, _⟩ := F.ex
  obtain rfl : cdv = .ref c := hc
  have G : FnOk P w K mg base CX (k + 1) f (PySem.W.fnOf x x (defArgs st) (defBody st) (defScope st) dV kV doc pm an (.ref c) ct) ps sp := fn_of lk hcd S len fun A outer s H vs Q E hr h => hbody f A outer s H vs Q E hr h
  refine ⟨f, hm, kp, fun A outer s H us vs Q E hr e0 r hs => G.raw B .nil A outer s H us vs Q E hr e0 r (by show sp (vs ++ []) H Q E; rw [List.append_nil]; exact hs)⟩
/-- it may raise -/
theorem DefC.okX {N ps : List Str} (D : DefC K mg x st c) (S : FnScope N ps (defScope st)) (len : ∀ vs H Q E, sp vs H Q E → vs.length = ps.length)
    (hb : ∀ (kV doc pm : Value) (an : Option Addr) (cdv ct : Value) (us : List Value), us.length = ps.length → bindArgs (PySem.W.fnOf x x (defArgs st) (defBody st) (defScope st) .none kV doc pm an cdv ct) ⟨us, []⟩ = pure (ps.zip us))
    (hbody : ∀ (f : Addr) (A : Around) (outer : List Env) (s : Shared) (H : Hp) (vs : List V) (Q : VK) (E : XK), Room k (A.deeper (envOfC x (defScope st) s.heap.objs.size f (.ref c))) → sp vs H Q E →
      ∃ t, PSs (cxOf (L2.CX P w) P w K mg base N x (defScope st) f (.ref c) A outer s H E) (defBody st) t ∧ t { nx := fun _ H' => Q .non H', rt := Q } (start N vs) H) : DefOk P w K mg base (L2.CX P w) (k + 1) x sp := D.okG S len hb hbody
/-- it raises nothing -/
theorem DefC.ok {N ps : List Str} (D : DefC K mg x st c) (S : FnScope N ps (defScope st)) (len : ∀ vs H Q E, sp vs H Q E → vs.length = ps.length)
    (hb : ∀ (kV doc pm : Value) (an : Option Addr) (cdv ct : Value) (us : List Value), us.length = ps.length → bindArgs (PySem.W.fnOf x x (defArgs st) (defBody st) (defScope st) .none kV doc pm an cdv ct) ⟨us, []⟩ = pure (ps.zip us))
    (hbody : ∀ (f : Addr) (A : Around) (outer : List Env) (s : Shared) (H : Hp) (vs : List V) (Q : VK) (E : XK), Room k (A.deeper (envOfC x (defScope st) s.heap.objs.size f (.ref c))) → sp vs H Q E →
      ∃ t, PSs (cxOf CX0 P w K mg base N x (defScope st) f (.ref c) A outer s H E).nox (defBody st) t ∧ t { nx := fun _ H' => Q .non H', rt := Q } (start N vs) H) : DefOk P w K mg base CX0 (k + 1) x sp :=
  D.okG S len hb fun f A outer s H vs Q E hr h => by
    obtain ⟨t, a, b⟩ := hbody f A outer s H vs Q E hr h
    exact ⟨t, a.nox, b⟩
end
/-- the lambda that is handed as a key -/
def kwLam : Expr → Option (Arguments × Expr × Scope)
  | .Call _ _ [⟨_, .Lambda a b s _, _⟩] _ => some (a, b, s)
  | .Call _ [.Call _ _ [⟨_, .Lambda a b s _, _⟩] _] [] _ => some (a, b, s)
  | .Tuple [_, .Call _ _ [⟨_, .Lambda a b s _, _⟩] _] _ _ => some (a, b, s)
  | _ => none
def stLam : Stmt → Option (Arguments × Expr × Scope)
  | .Return (some e) _ => kwLam e
  | .Assign _ e _ => kwLam e
  | _ => none
theorem lamB_of {X : Cx} {N : List Str} {k : Nat} {scope : Scope} {body : Expr} {tb : TE} (h : ∀ (name qual : Str) (params : Arguments) (b : List Stmt) (cl : List (Str × Addr)) (c f : Addr) (A : Around) (outer : List Env) (s : Shared) (H : Hp), Room k (A.deeper (envF ⟨name, qual, params, b, scope, cl, c⟩ f s.heap.objs.size)) → PE (ncx C8.CX0 X.prog X.w X.K X.mg X.base N ⟨name, qual, params, b, scope, cl, c⟩ f A outer s H C8.E0) body tb) : LamB X N k scope body tb := by
  intro F f A outer s H hF hr
  obtain ⟨name, qual, params, b, sc, cl, c⟩ := F
  subst hF
  exact h name qual params b cl c f A outer s H hr
/-- what is told of the code objects' tables -/
def TabKit (base : Heap) (mg : Str → Option Value) (T : List (Addr × Str)) (x : Str) (c P : Addr) : Prop := TabB base mg c P ∧ (P, x ++ ".<locals>." ++ "<lambda>") ∈ T ∧ ∀ p ∈ T, p.1 = P → p.2 = x ++ ".<locals>." ++ "<lambda>"
theorem lamK_of {X : Cx} {T : List (Addr × Str)} {x : Str} {c P : Addr} {N fr : List Str} {js : List Nat} {a : Str} {params : Arguments} {body : Expr} {scope : Scope} (kit : TabKit X.base X.mg T x c P) (hc : X.env.code = .ref c) (hq : X.env.qual = x ++ ".<locals>.") {sc : Scope} (hsc : X.env.scope = sc) (dft : defaultsOf params X.env = ([], [])) (S : nscB N [a] fr scope = true)
    (free : ∀ y ∈ scope.names, y.2 = .free → sc.names.lookup y.1 = some .cell ∨ sc.names.lookup y.1 = some .free) (frm : ∀ y ∈ fr, (y, NameKind.free) ∈ scope.names) (hjs : js.map (fun j => X.N[j]?) = fr.map some)
    (bind : ∀ (q : Str) (cl : List (Str × Addr)) (pm cv ctv u : Value), bindArgs (PySem.W.kla_fn "<lambda>" q params body scope cl pm cv ctv) ⟨[u], []⟩ = pure [(a, u)]) : LamK X T c P N fr js a params body scope := by
  obtain ⟨k1, k2, k3⟩ := kit
  subst hsc
  rw [← hq] at k2 k3
  exact ⟨k1, hc, k2, k3, dft, nscope_by S, free, frm, hjs, bind⟩
end Sh
end
section
set_option Elab.async false
set_option linter.all false
set_option maxRecDepth 100000
set_option maxHeartbeats 2000000
set_option autoImplicit false
namespace Hx
open PySem PySem.Spec PyProof.Rows L2 He PySem.W
def exB (K : Frag) (C : Addr) : Bool := xfB K C && (eqO (findIn K (.ref C) "__class__") (some (some (.builtin "object.__class__"))) && (eqO (specialIn K (.builtin "object.__class__") "__get__") (some (some (.builtin "getset_descriptor.__get__"))) && (decide (takesIn K (.builtin "object.__class__") = some true) && (decide (mroIn K C (.type "object") = some true) && (clsIn K C).isSome))))
def yB (K : Frag) (base : Str) (ns : List Str) (x : Str) : Bool := exB K (ga K x) && (decide (kitOne K (.ref (ga K x)) (.type "ValueError") = some true) && (decide (exmOne K (.ref (ga K x)) (.ref (ga K base)) = some true) && ns.all fun y => decide (kitOne K (.ref (ga K x)) (.ref (ga K y)) = some (decide (x = y)))))
/-- what can be reached in n steps, twice told where it is reached twice -/
def bfs (g : Addr → Option Obj) : Nat → List Addr → List Addr
  | 0, l => l
  | n + 1, l => l ++ bfs g n (l.flatMap fun a => match g a with
    | some o => refsD o
    | none => [])
abbrev AlY : Type := (AlD × (Bool × List XV)) × Bool
end Hx
end
section
set_option Elab.async false
set_option linter.all false
set_option maxRecDepth 100000
set_option maxHeartbeats 2000000
set_option autoImplicit false
namespace Hx
open PySem PySem.Spec PyProof.Rows L2 He PySem.W
def zB (K : Frag) (base : Str) (ns : List Str) (x : Str) : Bool := yB K base ns x && (decide (kitOne K (.ref (ga K x)) (.ref (ga K base)) = some true) && ns.all fun y => decide (exmOne K (.ref (ga K x)) (.ref (ga K y)) = some (decide (x = y))))
end Hx
end
section
set_option Elab.async false
set_option linter.all false
set_option maxRecDepth 100000
set_option maxHeartbeats 2000000
set_option autoImplicit false
namespace Hx
open PySem PySem.Spec PyProof.Rows L2 He PySem.W
def frW (n : Nat) (g : Addr → Option Obj) : Frag := frT g (bfs g n [mainGlobals] ++ [cStatics])
def tabsW (g : Addr → Option Obj) (tf : List Defn) (K : Frag) : Bool := tabsB g tf K && decide ((tf.map fun p => (cT K p).2).Nodup)
structure TabsW (tf : List Defn) (h : Heap) (K : Frag) : Prop where
  hd : ∀ p ∈ tf, codeHdIn K (cT K p).1 (cT K p).2 = true
  out : ∀ p ∈ tf, K.lookup (cT K p).2 = none
  empty : ∀ p ∈ tf, h.get? (cT K p).2 = some { cls := .none, data := .fields #[] }
  nd : (tf.map fun p => (cT K p).2).Nodup
theorem tabsW_of {n : Nat} {tf : List Defn} {h : Heap} (e : tabsW h.get? tf (frW n h.get?) = true) : TabsW tf h (frW n h.get?) := by
  unfold tabsW at e
  obtain ⟨h1, h2⟩ := ba e
  have key : ∀ p ∈ tf, codeHdIn (frW n h.get?) (cT (frW n h.get?) p).1 (cT (frW n h.get?) p).2 = true ∧ ∃ o, h.get? (cT (frW n h.get?) p).2 = some o ∧ emptyTab o = true := fun p hp => by
    obtain ⟨h3, h4⟩ := ba (List.all_eq_true.mp h1 p hp)
    refine ⟨h3, ?_⟩
    cases q : h.get? (cT (frW n h.get?) p).2 with
    | none =>
      rw [q] at h4
      cases h4
    | some o =>
      rw [q] at h4
      exact ⟨o, rfl, h4⟩
  exact ⟨fun p hp => (key p hp).1, fun p hp => by
    obtain ⟨_, o, q, z⟩ := key p hp
    exact frT_none q z, fun p hp => by
    obtain ⟨_, o, q, z⟩ := key p hp
    rw [q, emptyTab_eq z], of_decide_eq_true h2⟩
end Hx
namespace Sh
open PySem PySem.Spec PyProof.Rows L2 LamX
theorem defC_of {K : PySem.W.Frag} {mg : Str → Option Value} {x : Str} {st : Stmt} {fd : FuncData} (hm : mg x = some (.ref (He.fAd K (x, none)))) (F : FunD K x x (defArgs st) (defBody st) (defScope st) [] [] (He.fAd K (x, none)) fd) : DefC K mg x st (He.cT K (x, none)).1 := by
  refine ⟨_, fd, hm, F, ?_⟩
  obtain ⟨oc, od, dV, kV, doc, pm, an, cdv, ct, osl, rfl, lk, hcd, _, _⟩ := F.ex
  obtain ⟨c, rfl⟩ := He.codeIn_ref hcd
  show Value.ref c = .ref (He.codeOf K (x, none))
  rw [He.codeOf_eq (c := c) lk rfl]
end Sh
end
section
set_option Elab.async false
set_option linter.all false
set_option maxRecDepth 100000
set_option maxHeartbeats 2000000
set_option autoImplicit false
namespace Hx
open PySem PySem.Spec PyProof.Rows L2 He He5 PySem.W
def cmB (K : Frag) (p : Str × Str) : Bool := readsIn K (ga K p.1) (.type "type") && (wrapB K (ga K p.1) "classmethod" "classmethod.__get__" p.2 && fnIn K (wf K (ga K p.1) "classmethod" p.2))
theorem cread_ok {K : Frag} {C : Addr} (h : readsIn K C (.type "type") = true) : ClX.CRead K C (.type "type") := by
  refine ⟨h, ?_⟩
  unfold readsIn at h
  obtain ⟨h, _⟩ := ba h
  obtain ⟨h, _⟩ := ba h
  obtain ⟨h, h3⟩ := ba h
  obtain ⟨_, h2⟩ := ba h
  unfold specialIn
  rw [beq_iff_eq.mp h2, Option.bind_some]
  exact beq_iff_eq.mp h3
theorem cmB_ok {K : Frag} {p : Str × Str} (h : cmB K p = true) : ClX.CRead K (ga K p.1) (.type "type") ∧ ClX.CMet K (ga K p.1) (.type "type") p.2 (ma K (ga K p.1) p.2) (wf K (ga K p.1) "classmethod" p.2) := by
  obtain ⟨h1, h⟩ := ba h
  obtain ⟨h2, h3⟩ := ba h
  exact ⟨cread_ok h1, cmet_of h2 h3⟩
def obsV (file : Str) (n : Nat) (fa : List Fa) (fn : List DefA) (xs : List XDef) (base : Str) (ns : List Str) (tf : List Defn) (cm : List (Str × Str)) (g : Addr → Option Obj) : AlY :=
  ((obsA fa fn (frW n g), (xs.all fun d => d.ok file (frW n g), xs.map fun d => xvOf (frW n g) d.x)), ((ns.all fun x => zB (frW n g) base ns x) && tabsW g tf (frW n g)) && cm.all fun p => cmB (frW n g) p)
def hookV (file : Str) (n : Nat) (fa : List Fa) (fn : List DefA) (xs : List XDef) (base : Str) (ns : List Str) (tf : List Defn) (cm : List (Str × Str)) : PySem.W.Hook where
  α := AlY
  obs := fun s => obsV file n fa fn xs base ns tf cm s.heap.get?
  val := fun _ => ((valA fn, (true, xs.map XDef.val)), true)
  says := fun _ h => ∃ K : Frag, K.In h ∧ SaysA fa fn K ∧ (xs.all fun d => d.ok file K) = true ∧ (xs.map fun d => xvOf K d.x) = xs.map XDef.val ∧ (ns.all fun x => zB K base ns x) = true ∧ TabsW tf h K ∧ (cm.all fun p => cmB K p) = true
  of := fun _ s e => by
    have e2 : (((ns.all fun x => zB (frW n s.heap.get?) base ns x) && tabsW s.heap.get? tf (frW n s.heap.get?)) && cm.all fun p => cmB (frW n s.heap.get?) p) = true := congrArg (fun z : AlY => z.2) e
    obtain ⟨e2, e5⟩ := ba e2
    obtain ⟨e3, e4⟩ := ba e2
    exact ⟨_, frT_in, congrArg (fun z : AlY => z.1.1) e, congrArg (fun z : AlY => z.1.2.1) e, congrArg (fun z : AlY => z.1.2.2) e, e3, tabsW_of e4, e5⟩
  keeps := fun _ _ _ ⟨K, hK, c1, c2, c3, c4, c5, c6⟩ k => ⟨K, PySem.W.Frag.In.keeps hK k, c1, c2, c3, c4, ⟨c5.hd, c5.out, fun p hp => k _ _ (c5.empty p hp), c5.nd⟩, c6⟩
theorem obsV_eq {file : Str} {n : Nat} {fa : List Fa} {fn : List DefA} {xs : List XDef} {base : Str} {ns : List Str} {tf : List Defn} {cm : List (Str × Str)} {g : Addr → Option Obj} {s : Shared} (h : ∀ a, g a = s.heap.get? a) : obsV file n fa fn xs base ns tf cm g = (hookV file n fa fn xs base ns tf cm).obs s := by
  have e : g = s.heap.get? := funext h
  rw [e] <;> rfl
end Hx
end
section
set_option Elab.async false
set_option linter.all false
set_option maxRecDepth 100000
namespace Sh
open PySem PySem.Spec PyProof.Rows L2
abbrev s_all_letters : Stmt := top 43
abbrev s_is_name : Stmt := top 44
abbrev s_check_pairs : Stmt := top 47
abbrev s_init__ : Stmt := inClass (top 48) 0
abbrev s_law_box : Stmt := top 50
abbrev s_law_take : Stmt := top 51
abbrev s_law_bed : Stmt := top 52
abbrev s_law_text : Stmt := top 53
abbrev s_read : Stmt := inClass (top 48) 1
abbrev s_check_states : Stmt := top 30
abbrev s_are_states : Stmt := top 32
abbrev s_check_marks : Stmt := top 33
abbrev s_rows_by_kind : Stmt := top 31
abbrev s_Reader_init__ : Stmt := inClass (top 34) 0
abbrev s_law_tuples : Stmt := top 54
abbrev s_law_marks : Stmt := top 55
abbrev s_law_reader : Stmt := top 56
abbrev s_law_long : Stmt := top 57
abbrev s_law_doubler : Stmt := top 58
abbrev s_all_rows : Stmt := top 16
abbrev s_rows_from : Stmt := top 17
abbrev s_rows_with : Stmt := top 18
abbrev s_joint_machine : Stmt := top 37
abbrev s_leaves : Stmt := inClass (top 48) 3
abbrev s_Machine_number_for : Stmt := inClass (top 36) 1
abbrev s_Machine_init__ : Stmt := inClass (top 36) 0
abbrev s_offer : Stmt := top 21
abbrev s_offer_rows : Stmt := top 22
abbrev s_decoded : Stmt := top 23
abbrev s_least_codes : Stmt := top 20
abbrev s_least_plants : Stmt := top 39
abbrev s_law_same : Stmt := top 60
abbrev s_law_sizes : Stmt := top 61
abbrev s_law_fault : Stmt := top 62
abbrev s_law_is_plant : Stmt := top 66
abbrev s_law_ranked : Stmt := top 67
abbrev s_law_told : Stmt := top 65
abbrev s_law_row_states : Stmt := top 63
abbrev s_Reader_table : Stmt := inClass (top 34) 5
abbrev s_law_kept : Stmt := top 64
abbrev s_law_made : Stmt := top 59
abbrev s_law_least_right : Stmt := top 68
abbrev s_law_doubled_right : Stmt := top 69
abbrev s_law : Stmt := top 70
end Sh
end
section
set_option Elab.async false
set_option linter.all false
set_option maxRecDepth 100000
set_option maxHeartbeats 0
namespace Sh
open PySem PySem.Spec PyProof.Rows L2
abbrev TL : PySem.W.OpenLaw := PySem.Challenge.rw_shearyard_k06_whole_least_plants
abbrev R : PySem.W.OpenRow := PySem.W.OpenLaw.row TL
def dOf (n : PySem.Str) (st : Stmt) : He.DefD := ⟨(n, none), n, n, defArgs st, defBody st, defScope st, [], []⟩
def dM (c m q : PySem.Str) (st : Stmt) : He.DefD := ⟨(c, some m), m, q, defArgs st, defBody st, defScope st, [], []⟩
def dK (c m q : PySem.Str) (st : Stmt) (ks : List (Str × He.Dv)) : He.DefD := ⟨(c, some m), m, q, defArgs st, defBody st, defScope st, [], ks⟩
def toA (d : He.DefD) : He5.DefA := ⟨fun K => He.fAd K d.at_, d.name, d.qual, d.params, d.body, d.scope, d.dfl, d.kwd⟩
def dR : He5.DefA := ⟨fun K => He5.wf K (He.ga K "Bed") "classmethod" "read", "read", "Bed.read", defArgs s_read, defBody s_read, defScope s_read, [], []⟩
def fn : List He5.DefA := [toA (dOf "all_rows" s_all_rows), toA (dOf "rows_from" s_rows_from), toA (dOf "rows_with" s_rows_with), toA (dOf "least_codes" s_least_codes), toA (dOf "offer" s_offer), toA (dOf "offer_rows" s_offer_rows), toA (dOf "decoded" s_decoded), toA (dOf "check_states" s_check_states), toA (dOf "rows_by_kind" s_rows_by_kind), toA (dOf "are_states" s_are_states), toA (dOf "check_marks" s_check_marks), toA (dOf "joint_machine" s_joint_machine), toA (dOf "least_plants" s_least_plants), toA (dOf "all_letters" s_all_letters), toA (dOf "is_name" s_is_name), toA (dOf "check_pairs" s_check_pairs), toA (dOf "_law_box" s_law_box), toA (dOf "_law_take" s_law_take), toA (dOf "_law_bed" s_law_bed), toA (dOf "_law_text" s_law_text), toA (dOf "_law_tuples" s_law_tuples), toA (dOf "_law_marks" s_law_marks), toA (dOf "_law_reader" s_law_reader), toA (dOf "_law_long" s_law_long), toA (dOf "_law_doubler" s_law_doubler), toA (dOf "_law_made" s_law_made), toA (dOf "_law_same" s_law_same), toA (dOf "_law_sizes" s_law_sizes), toA (dOf "_law_fault" s_law_fault), toA (dOf "_law_row_states" s_law_row_states), toA (dOf "_law_kept" s_law_kept), toA (dOf "_law_told" s_law_told), toA (dOf "_law_is_plant" s_law_is_plant), toA (dOf "_law_ranked" s_law_ranked), toA (dOf "_law_least_right" s_law_least_right), toA (dOf "_law_doubled_right" s_law_doubled_right), toA (dOf "law" s_law)] ++ [toA (dM "Bed" "__init__" "Bed.__init__" s_init__), toA (dM "Bed" "leaves" "Bed.leaves" s_leaves), toA (dK "Reader" "__init__" "Reader.__init__" s_Reader_init__ [("otherwise", .int 0)]), toA (dM "Reader" "table" "Reader.table" s_Reader_table), toA (dM "Machine" "__init__" "Machine.__init__" s_Machine_init__), toA (dM "Machine" "number_for" "Machine.number_for" s_Machine_number_for)] ++ [dR]
def fa : List He.Fa := [.glo "all_rows", .glo "rows_from", .glo "rows_with", .glo "least_codes", .glo "offer", .glo "offer_rows", .glo "decoded", .glo "check_states", .glo "rows_by_kind", .glo "are_states", .glo "check_marks", .glo "joint_machine", .glo "least_plants", .glo "all_letters", .glo "is_name", .glo "check_pairs", .glo "_law_box", .glo "_law_take", .glo "_law_bed", .glo "_law_text", .glo "_law_tuples", .glo "_law_marks", .glo "_law_reader", .glo "_law_long", .glo "_law_doubler", .glo "_law_made", .glo "_law_same", .glo "_law_sizes", .glo "_law_fault", .glo "_law_row_states", .glo "_law_kept", .glo "_law_told", .glo "_law_is_plant", .glo "_law_ranked", .glo "_law_least_right", .glo "_law_doubled_right", .glo "law", .glo "Bed", .cls "Bed", .mkr "Bed", .noat "Bed" "rows", .noat "Bed" "kinds", .noat "Bed" "widths", .noat "Bed" "ranks", .glo "Reader", .cls "Reader", .mkr "Reader", .noat "Reader" "bed", .noat "Reader" "states", .noat "Reader" "cells", .noat "Reader" "marks", .noat "Reader" "otherwise", .glo "Machine", .cls "Machine", .mkr "Machine", .noat "Machine" "bed", .noat "Machine" "joints", .noat "Machine" "numbers", .noat "Machine" "cells", .meth "Bed" "leaves", .meth "Reader" "table", .meth "Machine" "number_for", .free "len", .free "range", .free "abs", .free "int", .free "max", .free "all", .free "isinstance", .free "set", .free "list", .free "tuple", .free "bool", .free "str", .free "enumerate", .free "super", .free "min", .free "sum", .glo "YardError", .int "MOST_KINDS" 8, .int "MOST_BRANCHES" 3, .int "MOST_KNOTS" 2000, .int "LONGEST_NAME" 8, .int "MOST_STATES" 40, .str "LETTERS" "abcdefghijklmnopqrstuvwxyz", .str "DIGITS" "0123456789"]
def s_TooMany : Stmt := inClass (top 8) 0
def xTooMany : Hx.XDef := ⟨"TooMany", ["what", "limit"], "TooMany.__init__", defArgs s_TooMany, defBody s_TooMany, defScope s_TooMany⟩
def xs : List Hx.XDef := [xTooMany]
def nsX : List PySem.Str := ["TooMany"]
def tbN : List PySem.Str := ["joint_machine", "least_codes"]
def tbF : List He.Defn := tbN.map fun x => (x, none)
def cmN : List (PySem.Str × PySem.Str) := [("Bed", "read")]
abbrev hk : PySem.W.Hook := Hx.hookV TL.prog.main.file 5 fa fn xs "YardError" nsX tbF cmN
def ob (s : PySem.W.SharedT) : Hx.AlY := Hx.obsV TL.prog.main.file 5 fa fn xs "YardError" nsX tbF cmN (HandSHeadRun.getT s)
def names : List PySem.Str := (["_wall", "YardError", "InvalidBed", "InvalidPlant", "InvalidReader", "InvalidText", "UnknownKind", "TooMany", "WrongBranches", "NoState", "MOST_KINDS", "MOST_BRANCHES", "MOST_KNOTS", "MOST_STATES", "all_rows", "rows_from", "rows_with", "least_codes", "offer", "offer_rows", "decoded", "check_size", "fault_place", "check_plant", "check_states"] : List PySem.Str) ++ (["rows_by_kind", "are_states", "check_marks", "Reader", "Machine", "joint_machine", "least_plants", "LETTERS", "LONGEST_NAME", "all_letters", "is_name", "DIGITS", "check_pairs", "Bed", "_law_box", "_law_take", "_law_bed", "_law_text", "_law_tuples", "_law_marks", "_law_reader", "_law_long", "_law_doubler", "_law_made", "_law_same"] : List PySem.Str) ++ (["_law_sizes", "_law_fault", "_law_row_states", "_law_kept", "_law_told", "_law_is_plant", "_law_ranked", "_law_least_right", "_law_doubled_right"] : List PySem.Str)
end Sh
end
section
set_option Elab.async false
set_option linter.all false
set_option maxRecDepth 100000
set_option maxHeartbeats 0
namespace Sh
open PySem PySem.W PySem.Spec PyProof.Rows L2 HandSHeadRun
theorem run_pa (w : World) (os : OsState) : (HandSHeadRun.endF (stepQ (denQ tabQ) R.prog w) 9000 R.prog w os).map (fun s => (looksF R.prog (boot_heap w.params) s.abs, seenQ (PySem.W.view R.prog [70]) names (importedModules R.prog.main.body) (fun s => xlAt (PySem.W.view R.prog [70]) [] s && recOk R.toRowW.records s) s.abs, He5.obsA fa fn (Hx.frW 5 (HandSHeadRun.getT s)))) = some (true, openGood (PySem.W.view R.prog [70]) names, He5.valA fn) := by
  kernel_rfl
theorem run_pb (w : World) (os : OsState) : (HandSHeadRun.endF (stepQ (denQ tabQ) R.prog w) 9000 R.prog w os).map (fun s => ((xs.all fun d => d.ok TL.prog.main.file (Hx.frW 5 (HandSHeadRun.getT s))), (xs.map fun d => Hx.xvOf (Hx.frW 5 (HandSHeadRun.getT s)) d.x))) = some (true, xs.map Hx.XDef.val) := by
  kernel_rfl
theorem run_pc (w : World) (os : OsState) : (HandSHeadRun.endF (stepQ (denQ tabQ) R.prog w) 9000 R.prog w os).map (fun s => (((nsX.all fun x => Hx.zB (Hx.frW 5 (HandSHeadRun.getT s)) "YardError" nsX x) && Hx.tabsW (HandSHeadRun.getT s) tbF (Hx.frW 5 (HandSHeadRun.getT s))) && cmN.all fun p => Hx.cmB (Hx.frW 5 (HandSHeadRun.getT s)) p)) = some true := by
  kernel_rfl
theorem glue {α A B C D E : Type} {e : Option α} {f : α → A} {g : α → B} {d : α → C} {x : α → D} {y : α → E} {a : A} {b : B} {c : C} {x0 : D} {y0 : E} (h1 : e.map (fun s => (f s, g s, d s)) = some (a, b, c)) (h2 : e.map x = some x0) (h3 : e.map y = some y0) : e.map (fun s => (f s, g s, ((d s, x s), y s))) = some (a, b, ((c, x0), y0)) := by
  cases e with
  | none => cases h1
  | some s =>
    have e1 := Option.some.inj h1
    have e2 : x s = x0 := Option.some.inj h2
    have e3 : y s = y0 := Option.some.inj h3
    have e4 : f s = a := congrArg (fun z => z.1) e1
    have e5 : g s = b := congrArg (fun z => z.2.1) e1
    have e6 : d s = c := congrArg (fun z => z.2.2) e1
    show some (f s, g s, ((d s, x s), y s)) = _
    rw [e2, e3, e4, e5, e6]
theorem run (w : World) : HandSHeadRun.RunEq R (PySem.W.view R.prog [70]) hk ob 9000 names w := fun os => glue (run_pa w os) (run_pb w os) (run_pc w os)
end Sh
end
section
set_option Elab.async false
set_option linter.all false
set_option maxRecDepth 100000
set_option maxHeartbeats 2000000
set_option autoImplicit false
namespace Sh
open PySem PySem.Spec PyProof.Rows L2
open C8 (pss_cut tCut)
open Evl (ixN_nat)
open TL (tl joinL tl_join join_eq)
end Sh
namespace L2
open PySem PySem.Spec PyProof.Rows
theorem Same.upd_new {H H1 : Hp} {p : Addr} {o : HO} (s : Same H H1) (hp : H1 p = none) : Same H (upd H1 p o) := fun b u h => by
  rw [upd_ne (ne_of_none (s b u h) hp)]
  exact s b u h
theorem Same.upd_own {H H1 : Hp} {p : Addr} {o : HO} (s : Same H H1) (hp : H p = none) : Same H (upd H1 p o) := fun b u h => by
  rw [upd_ne (ne_of_none h hp)]
  exact s b u h
end L2
namespace Sh
open PySem PySem.Spec PyProof.Rows L2
open C8 (pss_cut tCut)
open Evl (ixN_nat)
open TL (tl joinL tl_join join_eq)
theorem get_map {α β : Type} {f : α → β} {l : List α} {i : Nat} {y : β} (h : (l.map f)[i]? = some y) : ∃ x, l[i]? = some x ∧ y = f x := by
  rw [List.getElem?_map] at h
  cases e : l[i]? with
  | none => rw [e] at h; cases h
  | some x => rw [e] at h; exact ⟨x, rfl, (Option.some.inj h).symm⟩
theorem take_snoc {α : Type} {l : List α} {i : Nat} {x : α} (h : l[i]? = some x) : l.take i ++ [x] = l.take (i + 1) := by
  rw [List.take_add_one, h]
  rfl
theorem lt_of_get {α : Type} {l : List α} {i : Nat} {x : α} (h : l[i]? = some x) : i < l.length := (List.getElem?_eq_some_iff.mp h).1
theorem le_line {n : Nat} (h : n ≤ 10000000) : n ≤ sizeLine := Nat.le_trans h (by rw [sizeLine_eq]; decide)
theorem lt_line {n : Nat} (h : n ≤ 10000000) : n < sizeLine := Nat.lt_of_le_of_lt h (by rw [sizeLine_eq]; decide)
theorem at_ofG {α : Type} {xs : List α} {z : Int} {j : Nat} {v : α} (e : z = (j : Int)) (h : xs[j]? = some v) : atI xs z = some v := by
  rw [e]
  exact atI_nat h
def IsNm (z : Str) : Prop := 1 ≤ z.cps.size ∧ z.cps.size ≤ 8 ∧ ∀ c ∈ z.cps.toList, 97 ≤ c ∧ c ≤ 122
def sg (c : Nat) : Str := ⟨#[c]⟩
theorem letters_at (d : Nat) (h : d < 26) : (("abcdefghijklmnopqrstuvwxyz" : Str).cps.toList)[d]? = some (97 + d) := by
  have z : ∀ d, d < 26 → (("abcdefghijklmnopqrstuvwxyz" : Str).cps.toList)[d]? = some (97 + d) := by decide +kernel
  exact z d h
theorem letters_len : ("abcdefghijklmnopqrstuvwxyz" : Str).length = 26 := by decide +kernel
theorem Kp.upd_new {a p : Addr} {H H1 : Hp} {o : HO} (x : Kp a H H1) (hp : H1 p = none) : Kp a H (L2.upd H1 p o) := fun b u h n => by
  have q := x b u h n
  rw [upd_ne (ne_of_none q hp)]
  exact q
theorem Kp.upd_own {a p : Addr} {H H1 : Hp} {o : HO} (x : Kp a H H1) (hp : H p = none) : Kp a H (L2.upd H1 p o) := fun b u h n => by
  rw [upd_ne (ne_of_none h hp)]
  exact x b u h n
theorem BagAt.upd_ne {a p : Addr} {H : Hp} {o : HO} (h : BagAt H a) (n : p ≠ a) : BagAt (upd H p o) a := by
  obtain ⟨z0, z1, z2, z3, cs, q, B⟩ := h
  exact ⟨z0, z1, z2, z3, cs, by rw [L2.upd_ne (Ne.symm n)]; exact q, B⟩
section
variable {P : Program} {w : World} {K : PySem.W.Frag} {mg : Str → Option Value} {base : Heap}
end
end Sh
end
section
set_option Elab.async false
set_option linter.all false
set_option maxRecDepth 100000
set_option maxHeartbeats 2000000
set_option autoImplicit false
namespace Sh
open PySem PySem.Spec PyProof.Rows L2
open C8 (pss_cut tCut)
open Evl (ixN_nat)
open TL (tl joinL tl_join join_eq tl_append)
theorem Kp.free_of {a p : Addr} {H H1 : Hp} (x : Kp a H H1) (h : H1 p = none) (n : p ≠ a) : H p = none := by
  cases e : H p with
  | none => rfl
  | some o =>
    rw [x p o e n] at h
    cases h
theorem flat_ints (ns : List Int) : (ns.map V.int).all flatV = true := by
  rw [List.all_eq_true]
  intro x hx
  obtain ⟨y, _, rfl⟩ := List.mem_map.mp hx
  rfl
theorem sub_len {α : Type} [DecidableEq α] : ∀ (l m : List α), l.Nodup → (∀ x ∈ l, x ∈ m) → l.length ≤ m.length
  | [], _, _, _ => Nat.zero_le _
  | a :: l, m, nd, h => by
    rw [List.nodup_cons] at nd
    have ha := h a List.mem_cons_self
    have z := sub_len l (m.erase a) nd.2 fun x hx => (List.mem_erase_of_ne (fun e => nd.1 (by rw [← e]; exact hx))).mpr (h x (List.mem_cons_of_mem _ hx))
    rw [List.length_erase_of_mem ha] at z
    have p := List.length_pos_of_mem ha
    rw [List.length_cons]
    omega
theorem str_len (z : Str) : z.length = z.cps.size := rfl
theorem nm_line {z : Str} (h : IsNm z) : z.length ≤ sizeLine := le_line (Nat.le_trans h.2.1 (by decide))
section
variable {P : Program} {w : World} {K : PySem.W.Frag} {mg : Str → Option Value} {base : Heap}
end
end Sh
end
section
set_option Elab.async false
set_option linter.all false
set_option maxRecDepth 100000
set_option maxHeartbeats 2000000
set_option autoImplicit false
namespace Sh
open PySem PySem.Spec PyProof.Rows L2
open C8 (pss_cut tCut)
open Evl (ixN_nat)
abbrev Row := Str × Int
/-- tuples stay -/
def TK (H H' : Hp) : Prop := ∀ t xs, H t = some (.tup xs) → H' t = some (.tup xs)
theorem TK.refl (H : Hp) : TK H H := fun _ _ h => h
theorem TK.trans {H H1 H2 : Hp} (x : TK H H1) (y : TK H1 H2) : TK H H2 := fun t xs h => y t xs (x t xs h)
theorem TK.new {H : Hp} {p : Addr} {o : HO} (h : H p = none) : TK H (upd H p o) := fun t xs q => by
  rw [upd_ne (ne_of_none q h)]
  exact q
theorem TK.lst {H : Hp} {p : Addr} {ys : List V} {o : HO} (h : H p = some (.lst ys)) : TK H (upd H p o) := fun t xs q => by
  rw [upd_ne (ne_of q h (fun e => nomatch e))]
  exact q
theorem TK.of_same {H H' : Hp} (s : Same H H') : TK H H' := fun t xs q => s t _ q
theorem Kp.tk {a : Addr} {H H' : Hp} (x : Kp a H H') (b : BagAt H a) : TK H H' := fun t xs q => by
  obtain ⟨z0, z1, z2, z3, cs, hb, _⟩ := b
  exact x t _ q (ne_of q hb (fun e => nomatch e))
def TupsAt (H : Hp) (ts : List Addr) (rows : List Row) : Prop := ts.length = rows.length ∧ ∀ (i : Nat) (t : Addr) (q : Row), ts[i]? = some t → rows[i]? = some q → H t = some (.tup [.str q.1, .int q.2])
theorem TupsAt.keep {H H' : Hp} {ts : List Addr} {rows : List Row} (x : TupsAt H ts rows) (k : TK H H') : TupsAt H' ts rows := ⟨x.1, fun i t q a b => k _ _ (x.2 i t q a b)⟩
theorem TupsAt.snoc {H : Hp} {ts : List Addr} {rows : List Row} {t : Addr} {q : Row} (x : TupsAt H ts rows) (h : H t = some (.tup [.str q.1, .int q.2])) : TupsAt H (ts ++ [t]) (rows ++ [q]) := by
  refine ⟨by simp [x.1], fun i t' q' a b => ?_⟩
  by_cases hi : i < ts.length
  · rw [List.getElem?_append_left hi] at a
    rw [List.getElem?_append_left (by rw [← x.1]; exact hi)] at b
    exact x.2 i t' q' a b
  · have hl := lt_of_get a
    rw [List.length_append, List.length_singleton] at hl
    have e : i = ts.length := by omega
    subst e
    rw [List.getElem?_append_right (Nat.le_refl _), Nat.sub_self] at a
    rw [x.1, List.getElem?_append_right (Nat.le_refl _), Nat.sub_self] at b
    cases a
    cases b
    exact h
def RowsAt (H : Hp) (r : Addr) (rows : List Row) : Prop := ∃ ts, H r = some (.lst (ts.map V.ref)) ∧ TupsAt H ts rows
structure ROk (most : Int) (rows : List Row) : Prop where
  pos : 1 ≤ rows.length
  len : (rows.length : Int) ≤ most
  nd : (rows.map (·.1)).Nodup
  nm : ∀ q ∈ rows, IsNm q.1
  wd : ∀ q ∈ rows, 0 ≤ q.2 ∧ q.2 ≤ 3
  leaf : ∃ q ∈ rows, q.2 = 0
theorem mem_map_ints {ws : List Int} {n : Int} : inV (.int n) (ws.map V.int) = decide (n ∈ ws) := by
  induction ws with
  | nil => rfl
  | cons z r ih =>
    have e : inV (.int n) ((z :: r).map V.int) = ((z == n) || inV (.int n) (r.map V.int)) := rfl
    rw [e, ih, Bool.eq_iff_iff, Bool.or_eq_true, beq_iff_eq, decide_eq_true_iff, decide_eq_true_iff, List.mem_cons]
    exact or_congr_left eq_comm
section
variable {P : Program} {w : World} {K : PySem.W.Frag} {mg : Str → Option Value} {base : Heap}
end
end Sh
end
section
set_option Elab.async false
set_option linter.all false
set_option maxRecDepth 100000
set_option maxHeartbeats 2000000
set_option autoImplicit false
namespace Sh
open PySem PySem.Spec PyProof.Rows L2
open C8 (pss_cut tCut)
open Evl (ixN_nat)
theorem iteNN {c A B : Prop} [Decidable c] (hc : ¬ c) (h : A) : if (!decide c) = true then A else B := by
  rw [decide_eq_false hc]
  exact iteT h
def spTrueNm : Sp := fun vs H Q _ => ∃ z, vs = [.str z] ∧ IsNm z ∧ ∀ H', Same H H' → Q (.bl true) H'
theorem in_letters (c : Nat) (h : 97 ≤ c ∧ c ≤ 122) : c ∈ ("abcdefghijklmnopqrstuvwxyz" : Str).cps.toList := by
  have z := letters_at (c - 97) (by omega)
  rw [show 97 + (c - 97) = c by omega] at z
  exact List.mem_of_getElem? z
abbrev N_all_letters : List Str := ["text", "letter"]
theorem sc_all_letters : FnScope N_all_letters ["text"] (defScope s_all_letters) := ⟨rfl, rfl, rfl, by decide +kernel, rfl, by decide +kernel, by decide +kernel⟩
abbrev N_is_name : List Str := ["text"]
theorem sc_is_name : FnScope N_is_name ["text"] (defScope s_is_name) := ⟨rfl, rfl, rfl, by decide +kernel, rfl, by decide +kernel, by decide +kernel⟩
abbrev N_check_pairs : List Str := ["pairs", "seen", "place", "name", "many", "_"]
theorem sc_check_pairs : FnScope N_check_pairs ["pairs"] (defScope s_check_pairs) := ⟨rfl, rfl, rfl, by decide +kernel, rfl, by decide +kernel, by decide +kernel⟩
theorem walk_enumT {K : PySem.W.Frag} {a : Addr} {xs : List V} : Walk (IteT K a) xs.length (fun H => SqT K H a xs) (YPair (fun i => some (.int (i : Nat))) (fun i => xs[i]?)) := by
  refine ⟨fun i _ hi q => ⟨xs, xs[i], q, by simp [hi]⟩, fun _ q => ⟨xs, q, Nat.le_refl _⟩, fun i H v H' _ q y => ?_⟩
  obtain ⟨T, x, h1, h2, h3, h4⟩ := y
  exact ⟨T, .int (i : Nat), x, h1, h2, h3, rfl, h4 xs q⟩
theorem TupsAt.at {H : Hp} {ts : List Addr} {rows : List Row} (x : TupsAt H ts rows) {i : Nat} (h : i < rows.length) : ∃ t, ts[i]? = some t ∧ (ts.map V.ref)[i]? = some (.ref t) ∧ H t = some (.tup [.str (rows[i]).1, .int (rows[i]).2]) := by
  have h2 : i < ts.length := by rw [x.1]; exact h
  exact ⟨ts[i], List.getElem?_eq_getElem h2, by rw [List.getElem?_map, List.getElem?_eq_getElem h2]; rfl, x.2 i _ _ (List.getElem?_eq_getElem h2) (List.getElem?_eq_getElem h)⟩
theorem nd_take {α : Type} {l : List α} (nd : l.Nodup) {i : Nat} (h : i < l.length) : l[i] ∉ l.take i := fun q => by
  obtain ⟨j, hj, e⟩ := List.mem_iff_getElem.mp q
  rw [List.getElem_take] at e
  rw [List.length_take] at hj
  have := (List.getElem_inj nd).mp e
  omega
def spPairs : Sp := fun vs H Q _ => ∃ (p : Addr) (ts : List Addr) (rows : List Row), vs = [.ref p] ∧ H p = some (.tup (ts.map V.ref)) ∧ TupsAt H ts rows ∧ ROk 8 rows ∧ ∀ H', Same H H' → Q .non H'
section
variable {P : Program} {w : World} {K : PySem.W.Frag} {mg : Str → Option Value} {base : Heap}
theorem ok_all_letters (T : Bl mg) (D : Def0 K mg "all_letters" s_all_letters) : DefOk P w K mg base CX0 1 "all_letters" spTrueNm := by
  refine D.ok sc_all_letters (fun vs H Q E h => ?_) (fun _ _ _ _ _ _ us hl => match us, hl with | [_], _ => rfl) (fun f cdv A outer s H vs Q E hr h => ?_)
  · obtain ⟨z, rfl, _⟩ := h
    rfl
  · obtain ⟨z, rfl, nz, k⟩ := h
    refine ⟨_, (pss_one (ps_ret (pe_and (pe_cmpR op_ne (pv 0) pe_str (nomark _)) (pe_one (pe_callB (cr_all rfl) (by rfl) T.b_all (by decide +kernel) (pa_cons (pe_lc (own := [("letter", 1)]) (g := (gName 1)) (tt := tYes) rfl sc_all_letters.nd (pi_str (pv 0)) (blkOk_by (N := N_all_letters) (sc := defScope s_all_letters) (by decide +kernel)) (fun _ _ _ _ _ => (pg_name (i := 1) sc_all_letters.nd rfl (Or.inl rfl))) (fun _ _ _ _ _ => pts_nil) (fun _ _ _ _ _ => (pe_cmpR op_in_sign (pv 1) (pe_cS (by rfl) T.c_LETTERS) (by rfl)))) pa_nil)))))), ?_⟩
    have hne : ¬ V.str z = V.str "" := fun e => by
      have e2 := V.str.inj e
      have := nz.1
      rw [e2] at this
      exact absurd this (by decide)
    refine ⟨_, rfl, rfl, _, rfl, iteNN hne ?_⟩
    refine ⟨_, rfl, _, rfl, fun D hD => lc_it walk_str (fun i H' => Same H H' ∧ H' D = some (.lst ((List.replicate i true).map V.bl))) ⟨(Same.refl H).upd_new hD, upd_same⟩ (fun _ _ _ _ => trivial) ?_ ?_⟩
    · rintro i x H1 H2 hi ⟨q1, q2⟩ ⟨rfl, c, hc, rfl⟩
      have hcm : c ∈ z.cps.toList := List.mem_of_getElem? (by rw [Array.getElem?_toList]; exact hc)
      refine ⟨rfl, _, rfl, c, _, rfl, rfl, ?_⟩
      rw [decide_eq_true (in_letters c (nz.2.2 c hcm))]
      refine ⟨_, q2, ?_, q1.upd_own hD, ?_⟩
      · rw [List.length_map, List.length_replicate]
        have := nz.2.1
        exact lt_line (by omega)
      · rw [upd_same, List.replicate_succ', List.map_append]
        rfl
    · rintro H1 ⟨q1, q2⟩
      refine ⟨D, _, rfl, SqL.of q2, ?_⟩
      rw [show (List.replicate z.cps.size true).all id = true from by rw [List.all_eq_true]; intro x hx; exact (List.mem_replicate.mp hx).2]
      exact k H1 q1
theorem ok_is_name (T : Bl mg) (c_all_letters : DefOk P w K mg base CX0 1 "all_letters" spTrueNm) (D : Def0 K mg "is_name" s_is_name) : DefOk P w K mg base CX0 2 "is_name" spTrueNm := by
  refine D.ok sc_is_name (fun vs H Q E h => ?_) (fun _ _ _ _ _ _ us hl => match us, hl with | [_], _ => rfl) (fun f cdv A outer s H vs Q E hr h => ?_)
  · obtain ⟨z, rfl, _⟩ := h
    rfl
  · obtain ⟨z, rfl, nz, k⟩ := h
    refine ⟨_, (pss_one (ps_ret (pe_and (pe_cmpR op_le (pe_callB call_len_str (by rfl) T.b_len boot_len (pa_cons (pv 0) pa_nil)) (pe_cI (by rfl) T.c_LONGEST_NAME) (nomark _)) (pe_one (pe_d c_all_letters (hr.mono (by decide)) pass0 (pa_cons (pv 0) pa_nil)))))), ?_⟩
    refine ⟨_, rfl, _, rfl, nm_line nz, _, _, rfl, rfl, _, rfl, ?_⟩
    rw [decide_eq_true (show ((z.length : Nat) : Int) ≤ 8 by have := nz.2.1; rw [str_len]; omega)]
    refine iteT ?_
    exact ⟨_, rfl, z, rfl, nz, k⟩
theorem ok_check_pairs (T : Bl mg) (c_is_name : DefOk P w K mg base CX0 2 "is_name" spTrueNm) (D : Def0 K mg "check_pairs" s_check_pairs) : DefOk P w K mg base CX0 3 "check_pairs" spPairs := by
  refine D.ok sc_check_pairs (fun vs H Q E h => ?_) (fun _ _ _ _ _ _ us hl => match us, hl with | [_], _ => rfl) (fun f cdv A outer s H vs Q E hr h => ?_)
  · obtain ⟨p, ts, rows, rfl, _⟩ := h
    rfl
  · obtain ⟨p, ts, rows, rfl, hp, hT, R, k⟩ := h
    refine ⟨_, (pss_cons (ps_if (pt_cmpR op_gt (pe_callB call_len_seq (by rfl) T.b_len boot_len (pa_cons (pv 0) pa_nil)) (pe_cI (by rfl) T.c_MOST_KINDS) (nomark _))
        (pss_one ps_never)
        pss_nil)
      (pss_cons (ps_set (i := 1) sc_check_pairs.nd rfl (Or.inl rfl) (pe_callTy0 cr_set0K (by rfl) T.b_set (by decide +kernel)))
      (pss_cons (ps_for PassesOwn.never rfl (pi_enumT (by rfl) T.b_enumerate (pa_cons (pv 0) pa_nil)) (pg_tup (by rfl) (pgs_cons (pg_name (i := 2) sc_check_pairs.nd rfl (Or.inl rfl)) (pgs_cons (pg_tup (by rfl) (pgs_cons (pg_name (i := 3) sc_check_pairs.nd rfl (Or.inl rfl)) (pgs_cons (pg_name (i := 4) sc_check_pairs.nd rfl (Or.inl rfl)) pgs_nil))) pgs_nil)))
        (pss_cons (ps_if (PW.pt (pw_or (pt_not (pt_val (pe_d c_is_name (hr.mono (by decide)) pass0 (pa_cons (pv 3) pa_nil)))) (pw_or (pt_cmpR op_lt (pv 4) pe_int (nomark _)) (pw_or (pt_cmpR op_gt (pv 4) (pe_cI (by rfl) T.c_MOST_BRANCHES) (nomark _)) (pw_or1 (pt_cmpR or_sinK (pv 3) (pv 1) (by rfl)))))))
          (pss_one ps_never)
          pss_nil)
        (pss_one (ps_expr (pe_saddK (pv 1) (pa_cons (pv 3) pa_nil))))))
      (pss_one (ps_if (pt_cmpR op_notIn_seq pe_int (pe_lc (own := [("_", 5), ("many", 4)]) (g := (gTup K 2 (gCons (gName 5) (gCons (gName 4) gNil)))) (tt := tYes) rfl sc_check_pairs.nd (pi_tup (pv 0)) (blkOk_by (N := N_check_pairs) (sc := defScope s_check_pairs) (by decide +kernel)) (fun _ _ _ _ _ => (pg_tup (by rfl) (pgs_cons (pg_name (i := 5) sc_check_pairs.nd rfl (Or.inl rfl)) (pgs_cons (pg_name (i := 4) sc_check_pairs.nd rfl (Or.inl rfl)) pgs_nil)))) (fun _ _ _ _ _ => pts_nil) (fun _ _ _ _ _ => (pv 4))) (by rfl))
        (pss_one ps_never)
        pss_nil))))), ?_⟩
    have hlen : ts.length = rows.length := hT.1
    have R8 : rows.length ≤ 8 := by have := R.len; omega
    refine ⟨_, rfl, p, _, rfl, .inr (SqT.of hp), _, _, rfl, rfl, _, rfl, ?_⟩
    rw [decide_eq_false (show ¬ (8 : Int) < (((ts.map V.ref).length : Nat) : Int) by rw [List.length_map]; omega)]
    refine iteF ?_
    refine ⟨rfl, fun d hd => ?_⟩
    have s0 : Same H (upd H d (SetK P w d (fun _ => false) 0)) := (Same.refl H).upd_new hd
    have npd : ∀ {H' : Hp}, Same H H' → H' p = some (.tup (ts.map V.ref)) := fun q => q _ _ hp
    refine ⟨_, rfl, p, _, rfl, SqT.of (npd s0), for_it (walk_enumT (xs := ts.map V.ref)) (fun i σ H' => ∃ (x y z : Option V), σ = [some (.ref p), some (.ref d), x, y, z, none] ∧ Same H H' ∧ ∃ (S : Key → Bool) (n : Nat), H' d = some (SetK P w d S n) ∧ n ≤ i ∧ ∀ u : Str, S (.inr u) = true → u ∈ (rows.map (·.1)).take i)
      ⟨none, none, none, rfl, s0, _, 0, upd_same, Nat.le_refl _, fun u h => nomatch h⟩ (fun i σ H' _ ⟨_, _, _, _, q, _⟩ => SqT.of (npd q)) ?_ ?_⟩
    · rintro i v σ H1 H2 hi ⟨x, y, z, rfl, s1, S, n, hS, hn, hu⟩ ⟨P1, v1, v2, rfl, hP1, rfl, e1, e2⟩
      have hir : i < rows.length := by rw [List.length_map, hlen] at hi; exact hi
      obtain ⟨t, t1, t2, t3⟩ := hT.at hir
      have t2' : (ts.map V.ref)[i]? = some v2 := e2
      rw [t2] at t2'
      cases t2'
      cases e1
      have s2 := s1.upd_new (o := .tup [.int ((i : Nat) : Int), .ref t]) hP1
      have nm := R.nm _ (List.getElem_mem hir)
      have wd := R.wd _ (List.getElem_mem hir)
      refine ⟨P1, _, rfl, SqT.of upd_same, rfl, _, _, rfl, _, _, rfl, ?_⟩
      refine ⟨t, _, rfl, SqT.of (s2 _ _ t3), rfl, _, _, rfl, _, _, rfl, rfl, rfl, ?_⟩
      refine ⟨_, rfl, (rows[i]).1, rfl, nm, fun H3 s3 => ⟨true, rfl, ?_⟩⟩
      show if false = true then _ else _
      refine iteF ⟨_, rfl, _, _, rfl, rfl, _, rfl, ?_⟩
      rw [decide_eq_false (show ¬ (rows[i]).2 < 0 by omega)]
      refine iteF ⟨_, rfl, _, _, rfl, rfl, _, rfl, ?_⟩
      rw [decide_eq_false (show ¬ (3 : Int) < (rows[i]).2 by omega)]
      have hS3 : H3 d = some (SetK P w d S n) := s3 _ _ (by rw [upd_ne (ne_of_none hS hP1)]; exact hS)
      have hSf : S (.inr (rows[i]).1) = false := by
        cases q : S (.inr (rows[i]).1) with
        | false => rfl
        | true =>
          have z1 := hu _ q
          have z2 := nd_take (l := rows.map (·.1)) R.nd (i := i) (by rw [List.length_map]; exact hir)
          rw [List.getElem_map] at z2
          exact absurd z1 z2
      refine iteF ⟨_, rfl, _, rfl, .inr (rows[i]).1, d, S, n, rfl, rfl, hS3, _, rfl, ?_⟩
      rw [show (if false = true then !S (.inr (rows[i]).1) else S (.inr (rows[i]).1)) = false from hSf]
      refine iteF ?_
      refine ⟨_, rfl, ⟨d, S, n, rfl, hS3⟩, _, rfl, d, .inr (rows[i]).1, S, n, rfl, rfl, hS3, ?_, ?_⟩
      · show n + 1 < 4096
        omega
      · refine ⟨_, _, _, rfl, ?_, _, _, upd_same, ?_, ?_⟩
        · exact (s2.trans s3).upd_own hd
        · show (if S (Sum.inr (rows[i]).1) = true then n else n + 1) ≤ i + 1
          split <;> omega
        · intro u hu2
          have hg : (rows.map (·.1))[i]? = some (rows[i]).1 := by rw [List.getElem?_map, List.getElem?_eq_getElem hir]; rfl
          rw [← take_snoc hg]
          rcases Bool.or_eq_true_iff.mp hu2 with q | q
          · exact List.mem_append_left _ (hu u q)
          · have := of_decide_eq_true q
            rw [Sum.inr.inj this]
            exact List.mem_append_right _ List.mem_cons_self
    · rintro σ H1 ⟨x, y, z, rfl, s1, S, n, hS, hn, hu⟩
      refine ⟨_, rfl, p, rfl, ⟨_, SqT.of (npd s1)⟩, fun D hD => lc_it (walk_tup (xs := ts.map V.ref)) (fun i H' => Same H1 H' ∧ H' D = some (.lst (((rows.map (·.2)).take i).map V.int))) ⟨(Same.refl H1).upd_new hD, upd_same⟩ (fun i H' _ ⟨q, _⟩ => SqT.of (npd (s1.trans q))) ?_ ?_⟩
      · rintro i v H2 H3 hi ⟨q1, q2⟩ ⟨rfl, hv⟩
        have hir : i < rows.length := by rw [List.length_map, hlen] at hi; exact hi
        obtain ⟨t, t1, t2, t3⟩ := hT.at hir
        rw [t2] at hv
        cases hv
        refine ⟨t, _, rfl, SqT.of ((s1.trans q1) _ _ t3), rfl, _, _, rfl, _, _, rfl, rfl, rfl, ?_⟩
        refine ⟨_, rfl, _, q2, ?_, q1.upd_own hD, ?_⟩
        · rw [List.length_map, List.length_take]
          exact lt_line (by omega)
        · have hg : (rows.map (·.2))[i]? = some (rows[i]).2 := by rw [List.getElem?_map, List.getElem?_eq_getElem hir]; rfl
          rw [upd_same, ← take_snoc hg, List.map_append]
          rfl
      · rintro H2 ⟨q1, q2⟩
        rw [show (ts.map V.ref).length = (rows.map (·.2)).length by rw [List.length_map, List.length_map, hlen], List.take_length] at q2
        refine ⟨D, _, rfl, .inl (SqL.of q2), rfl, flat_ints _, _, rfl, ?_⟩
        have h0 : (0 : Int) ∈ rows.map (·.2) := by
          obtain ⟨q, hq, e⟩ := R.leaf
          rw [← e]
          exact List.mem_map_of_mem hq
        show if (!inV (V.int 0) ((rows.map (·.2)).map V.int)) = true then _ else _
        rw [mem_map_ints, decide_eq_true h0]
        refine iteF ?_
        exact k H2 (s1.trans q1)
end
end Sh
end
section
set_option Elab.async false
set_option linter.all false
set_option maxRecDepth 100000
set_option maxHeartbeats 2000000
set_option autoImplicit false
namespace L2
open PySem PySem.Spec PyProof.Rows
/-- a dict comprehension over any walk -/
theorem dc_it {J : It} {n : Nat} {G : Hp → Prop} {Y : Nat → Hp → V → Hp → Prop} (w : Walk J n G Y) {g : TG} {tt : TT} {tk tv : TE} {vs : List Nat} {σ : St} {H1 : Hp} {D : Addr} {Qd : Hp → Prop} (Pv : Nat → Hp → Prop) (h0 : Pv 0 (upd H1 D (.dK []))) (hG : ∀ i H, i ≤ n → Pv i H → G H)
    (hs : ∀ i x H H', i < n → Pv i H → Y i H x H' → g x (wipe σ vs) H' fun σ2 H2 => wipe σ2 vs = wipe σ vs ∧ tt σ2 H2 fun b H3 =>
      if b = true then tk σ2 H3 fun y H4 => tv σ2 H4 fun z H5 => ∃ kvs k, y = kV k ∧ H5 D = some (.dK kvs) ∧ kvs.length < sizeLine ∧ Pv (i + 1) (upd H5 D (.dK (putK kvs k z))) else Pv (i + 1) H3) (hd : ∀ H, Pv n H → Qd H) :
    ∃ W : Nat → Nat → Hp → Prop, (∃ m, W 0 m (upd H1 D (.dK []))) ∧ ∀ i m H, W i m H →
      (J.stop i H ∧ Qd H) ∨ (J.go i H ∧ ∃ Nx : Hp → Prop, (∀ H', Nx H' → ∃ m', m' < m ∧ W (i + 1) m' H') ∧ ∀ x H', J.yld i H x H' → g x (wipe σ vs) H' fun σ2 H2 => wipe σ2 vs = wipe σ vs ∧ tt σ2 H2 fun b H3 =>
        if b = true then tk σ2 H3 fun y H4 => tv σ2 H4 fun z H5 => ∃ kvs k, y = kV k ∧ H5 D = some (.dK kvs) ∧ kvs.length < sizeLine ∧ Nx (upd H5 D (.dK (putK kvs k z))) else Nx H3) := by
  refine ⟨fun i m H => m = n - i ∧ i ≤ n ∧ Pv i H, ⟨n, by simp, Nat.zero_le _, h0⟩, ?_⟩
  rintro i m H ⟨rfl, hi, p⟩
  have q := hG i H hi p
  by_cases hlt : i < n
  · exact .inr ⟨w.goes i H hlt q, Pv (i + 1), fun H' p' => ⟨n - (i + 1), by omega, rfl, hlt, p'⟩, fun x H' y => hs i x H H' hlt p (w.yields i H x H' hlt q y)⟩
  · have e : i = n := by omega
    subst e
    exact .inl ⟨w.stops H q, hd H p⟩
end L2
namespace Sh
open PySem PySem.Spec PyProof.Rows L2
open C8 (pss_cut tCut)
open Evl (ixN_nat)
def bedF (r k w rk : Addr) : List (Str × V) := [("rows", .ref r), ("kinds", .ref k), ("widths", .ref w), ("ranks", .ref rk)]
def wL (rows : List Row) : List (Key × V) := rows.map fun q => (.inr q.1, .int q.2)
def rkL (ns : List Str) : List (Key × V) := ns.zipIdx.map fun q => (.inr q.1, .int ((q.2 : Nat) : Int))
def BedAt (C : Addr) (H : Hp) (p : Addr) (rows : List Row) : Prop := ∃ (dx r k w rk : Addr) (ts : List Addr), H p = some (.ins C dx (bedF r k w rk)) ∧ H r = some (.tup (ts.map V.ref)) ∧ TupsAt H ts rows ∧
  H k = some (.tup ((rows.map (·.1)).map V.str)) ∧ H w = some (.dK (wL rows)) ∧ H rk = some (.dK (rkL (rows.map (·.1))))
theorem BedAt.same {C : Addr} {H H' : Hp} {p : Addr} {rows : List Row} (x : BedAt C H p rows) (s : Same H H') : BedAt C H' p rows := by
  obtain ⟨dx, r, k, w, rk, ts, h1, h2, h3, h4, h5, h6⟩ := x
  exact ⟨dx, r, k, w, rk, ts, s _ _ h1, s _ _ h2, h3.keep (TK.of_same s), s _ _ h4, s _ _ h5, s _ _ h6⟩
theorem BedAt.kp {C a : Addr} {H H' : Hp} {p : Addr} {rows : List Row} (x : BedAt C H p rows) (b : BagAt H a) (s : Kp a H H') : BedAt C H' p rows := by
  obtain ⟨dx, r, k, w, rk, ts, h1, h2, h3, h4, h5, h6⟩ := x
  have tk := s.tk b
  obtain ⟨z0, z1, z2, z3, cs, hb, _⟩ := b
  exact ⟨dx, r, k, w, rk, ts, s _ _ h1 (ne_of h1 hb (fun e => nomatch e)), tk _ _ h2, h3.keep tk, tk _ _ h4, s _ _ h5 (ne_of h5 hb (fun e => nomatch e)), s _ _ h6 (ne_of h6 hb (fun e => nomatch e))⟩
/-- what the written part says of the class Bed -/
structure BedT (K : PySem.W.Frag) (C : Addr) : Prop where
  cl : Cls K C
  nR : NoAttr K C "rows"
  nK : NoAttr K C "kinds"
  nW : NoAttr K C "widths"
  nRk : NoAttr K C "ranks"
theorem s_ne : ¬ ("rows" : Str) = "kinds" ∧ ¬ ("rows" : Str) = "widths" ∧ ¬ ("rows" : Str) = "ranks" ∧ ¬ ("kinds" : Str) = "widths" ∧ ¬ ("kinds" : Str) = "ranks" ∧ ¬ ("widths" : Str) = "ranks" := by decide +kernel
theorem put1 (r k : Addr) : putF "kinds" (.ref k) [("rows", .ref r)] = [(("rows" : Str), V.ref r), ("kinds", .ref k)] := by simp [putF, s_ne]
theorem put2 (r k w : Addr) : putF "widths" (.ref w) [("rows", .ref r), ("kinds", .ref k)] = [(("rows" : Str), V.ref r), ("kinds", .ref k), ("widths", .ref w)] := by simp [putF, s_ne]
theorem put3 (r k w rk : Addr) : putF "ranks" (.ref rk) [("rows", .ref r), ("kinds", .ref k), ("widths", .ref w)] = bedF r k w rk := by simp [putF, s_ne, bedF]
theorem lk_k2 (r k w : Addr) : ([("rows", .ref r), ("kinds", .ref k), ("widths", .ref w)] : List (Str × V)).lookup ("kinds" : Str) = some (.ref k) := by
  have h : (("kinds" : Str) == "rows") = false := by decide +kernel
  simp [List.lookup, h]
theorem lk_rows (r k w rk : Addr) : (bedF r k w rk).lookup ("rows" : Str) = some (.ref r) := by simp [bedF, List.lookup]
theorem lk_kinds (r k w rk : Addr) : (bedF r k w rk).lookup ("kinds" : Str) = some (.ref k) := by
  have h : (("kinds" : Str) == "rows") = false := by decide +kernel
  simp [bedF, List.lookup, h]
theorem lk_widths (r k w rk : Addr) : (bedF r k w rk).lookup ("widths" : Str) = some (.ref w) := by
  have h : (("widths" : Str) == "rows") = false := by decide +kernel
  have h2 : (("widths" : Str) == "kinds") = false := by decide +kernel
  simp [bedF, List.lookup, h, h2]
theorem lk_ranks (r k w rk : Addr) : (bedF r k w rk).lookup ("ranks" : Str) = some (.ref rk) := by
  have h : (("ranks" : Str) == "rows") = false := by decide +kernel
  have h2 : (("ranks" : Str) == "kinds") = false := by decide +kernel
  have h3 : (("ranks" : Str) == "widths") = false := by decide +kernel
  simp [bedF, List.lookup, h, h2, h3]
theorem valV_none {kvs : List (Key × V)} {s : Str} (h : ∀ kv ∈ kvs, kv.1 ≠ .inr s) : valV kvs (.inr s) = none := by
  unfold valV
  rw [List.find?_eq_none.mpr (fun kv hk => by simpa using h kv hk)]
  rfl
/-- __init__ at a new instance -/
def spBedI (C : Addr) : Sp := fun vs H Q _ => ∃ (x dx p : Addr) (ts : List Addr) (rows : List Row), vs = [.ref x, .ref p] ∧ H x = some (.ins C dx []) ∧ H p = some (.tup (ts.map V.ref)) ∧ TupsAt H ts rows ∧ ROk 8 rows ∧ ∀ H', (∀ b o, H b = some o → b ≠ x → H' b = some o) → BedAt C H' x rows → Q .non H'
abbrev N_init__ : List Str := ["self", "kinds", "name", "_", "many", "rank"]
theorem sc_init__ : FnScope N_init__ ["self", "kinds"] (defScope s_init__) := ⟨rfl, rfl, rfl, by decide +kernel, rfl, by decide +kernel, by decide +kernel⟩
section
variable {P : Program} {w : World} {K : PySem.W.Frag} {mg : Str → Option Value} {base : Heap} {C : Addr}
theorem body_bedI (T : Bl mg) (B : BedT K C) (c_check_pairs : DefOk P w K mg base CX0 3 "check_pairs" spPairs) {f : Addr} {cdv : Value} {A : Around} {outer : List Env} {s : Shared} {H : Hp} {vs : List V} {Q : VK} {E : XK} (hr : Room 3 (A.deeper (envOfC "Bed.__init__" (defScope s_init__) s.heap.objs.size f cdv))) (h : spBedI C vs H Q E) :
    ∃ t, PSs (cxOf CX0 P w K mg base N_init__ "Bed.__init__" (defScope s_init__) f cdv A outer s H E).nox (defBody s_init__) t ∧ t { nx := fun _ H' => Q .non H', rt := Q } (start N_init__ vs) H := by
  obtain ⟨x, dx, p, ts, rows, rfl, hx, hp, hT, R, k⟩ := h
  refine ⟨_, (pss_cons (ps_expr (pe_d c_check_pairs (hr.mono (by decide)) pass0 (pa_cons (pv 1) pa_nil)))
    (pss_cons (ps_fld (pv 0) (pv 1) rfl)
    (pss_cons (ps_fld (pv 0) (pe_callTy call_tuple_of (by rfl) T.b_tuple (by decide +kernel) (pa_cons (pe_lc (own := [("name", 2), ("_", 3)]) (g := (gTup K 2 (gCons (gName 2) (gCons (gName 3) gNil)))) (tt := tYes) rfl sc_init__.nd (pi_tup (pv 1)) (blkOk_by (N := N_init__) (sc := defScope s_init__) (by decide +kernel)) (fun _ _ _ _ _ => (pg_tup (by rfl) (pgs_cons (pg_name (i := 2) sc_init__.nd rfl (Or.inl rfl)) (pgs_cons (pg_name (i := 3) sc_init__.nd rfl (Or.inl rfl)) pgs_nil)))) (fun _ _ _ _ _ => pts_nil) (fun _ _ _ _ _ => (pv 2))) pa_nil)) rfl)
    (pss_cons (ps_fld (pv 0) (pe_dc (own := [("name", 2), ("many", 4)]) (g := (gTup K 2 (gCons (gName 2) (gCons (gName 4) gNil)))) (tt := tYes) rfl sc_init__.nd (pi_tup (pv 1)) (blkOk_by (N := N_init__) (sc := defScope s_init__) (by decide +kernel)) (fun _ _ _ _ _ => (pg_tup (by rfl) (pgs_cons (pg_name (i := 2) sc_init__.nd rfl (Or.inl rfl)) (pgs_cons (pg_name (i := 4) sc_init__.nd rfl (Or.inl rfl)) pgs_nil)))) (fun _ _ _ _ _ => pts_nil) (fun _ _ _ _ _ => (pv 2)) (fun _ _ _ _ _ => (pv 4))) rfl)
    (pss_one (ps_fld (pv 0) (pe_dc (own := [("rank", 5), ("name", 2)]) (g := (gTup K 2 (gCons (gName 5) (gCons (gName 2) gNil)))) (tt := tYes) rfl sc_init__.nd (pi_enumT (by rfl) T.b_enumerate (pa_cons (pe_fld (pv 0) rfl) pa_nil)) (blkOk_by (N := N_init__) (sc := defScope s_init__) (by decide +kernel)) (fun _ _ _ _ _ => (pg_tup (by rfl) (pgs_cons (pg_name (i := 5) sc_init__.nd rfl (Or.inl rfl)) (pgs_cons (pg_name (i := 2) sc_init__.nd rfl (Or.inl rfl)) pgs_nil)))) (fun _ _ _ _ _ => pts_nil) (fun _ _ _ _ _ => (pv 2)) (fun _ _ _ _ _ => (pv 5))) rfl)))))), ?_⟩
  have hlen : ts.length = rows.length := hT.1
  have R8 : rows.length ≤ 8 := by have := R.len; omega
  have npx : p ≠ x := ne_of hp hx (fun e => nomatch e)
  refine ⟨_, rfl, p, ts, rows, rfl, hp, hT, R, fun H1 s1 => ?_⟩
  refine ⟨_, rfl, _, rfl, x, C, dx, _, rfl, s1 _ _ hx, B.cl, B.nR, (by show 0 < 1000; decide), ?_⟩
  generalize e2 : upd H1 x (.ins C dx (putF "rows" (.ref p) [])) = H2
  have hx2 : H2 x = some (.ins C dx [(("rows" : Str), V.ref p)]) := by rw [← e2, upd_same]; rfl
  have k2 : Kp x H H2 := by rw [← e2]; exact (Kp.same s1).upd
  have tk1 : ∀ {H H' : Hp} {fs : List (Str × V)}, H x = some (.ins C dx fs) → Kp x H H' → TK H H' := fun h q t xs ht => q t _ ht (ne_of ht h (fun e => nomatch e))
  have tk2 := tk1 hx k2
  have hp2 : H2 p = some (.tup (ts.map V.ref)) := tk2 _ _ hp
  have hT2 := hT.keep tk2
  clear e2
  -- kinds
  refine ⟨_, rfl, p, rfl, ⟨_, SqT.of hp2⟩, fun D hD => lc_it (walk_tup (xs := ts.map V.ref)) (fun i H' => Same H2 H' ∧ H' D = some (.lst (((rows.map (·.1)).take i).map V.str))) ⟨(Same.refl H2).upd_new hD, upd_same⟩ (fun i H' _ ⟨q, _⟩ => SqT.of (q _ _ hp2)) ?_ ?_⟩
  · rintro i v H3 H4 hi ⟨q1, q2⟩ ⟨rfl, hv⟩
    have hir : i < rows.length := by rw [List.length_map, hlen] at hi; exact hi
    obtain ⟨t, t1, t2, t3⟩ := hT2.at hir
    rw [t2] at hv
    cases hv
    refine ⟨t, _, rfl, SqT.of (q1 _ _ t3), rfl, _, _, rfl, _, _, rfl, rfl, rfl, ?_⟩
    refine ⟨_, rfl, _, q2, ?_, q1.upd_own hD, ?_⟩
    · rw [List.length_map, List.length_take]
      exact lt_line (by omega)
    · have hg : (rows.map (·.1))[i]? = some (rows[i]).1 := by rw [List.getElem?_map, List.getElem?_eq_getElem hir]; rfl
      rw [upd_same, ← take_snoc hg, List.map_append]
      rfl
  rintro H3 ⟨q1, q2⟩
  rw [show (ts.map V.ref).length = (rows.map (·.1)).length by rw [List.length_map, List.length_map, hlen], List.take_length] at q2
  refine ⟨D, _, rfl, .inl ⟨SqL.of q2, fun l hl => ?_⟩⟩
  have nlx : l ≠ x := (ne_of_none (q1 _ _ hx2) hl).symm
  refine ⟨_, rfl, x, C, dx, _, rfl, (by rw [upd_ne nlx.symm]; exact q1 _ _ hx2), B.cl, B.nK, (by show 1 < 1000; decide), ?_⟩
  rw [put1]
  have k3 : Kp x H (upd H3 l (.tup ((rows.map (·.1)).map V.str))) := (k2.trans (Kp.same q1)).upd_new hl
  generalize e4 : upd (upd H3 l (.tup ((rows.map (·.1)).map V.str))) x (.ins C dx [(("rows" : Str), V.ref p), ("kinds", .ref l)]) = H4
  have hx4 : H4 x = some (.ins C dx [(("rows" : Str), V.ref p), ("kinds", .ref l)]) := by rw [← e4, upd_same]
  have k4 : Kp x H H4 := by rw [← e4]; exact k3.upd
  have hl4 : H4 l = some (.tup ((rows.map (·.1)).map V.str)) := by rw [← e4, upd_ne nlx, upd_same]
  have tk4 := tk1 hx k4
  have hp4 : H4 p = some (.tup (ts.map V.ref)) := tk4 _ _ hp
  have hT4 := hT.keep tk4
  clear e4
  -- widths
  refine ⟨_, rfl, p, rfl, ⟨_, SqT.of hp4⟩, fun D2 hD2 => dc_it (walk_tup (xs := ts.map V.ref)) (fun i H' => Same H4 H' ∧ H' D2 = some (.dK (wL (rows.take i)))) ⟨(Same.refl H4).upd_new hD2, upd_same⟩ (fun i H' _ ⟨q, _⟩ => SqT.of (q _ _ hp4)) ?_ ?_⟩
  · rintro i v H5 H6 hi ⟨p1, p2⟩ ⟨rfl, hv⟩
    have hir : i < rows.length := by rw [List.length_map, hlen] at hi; exact hi
    obtain ⟨t, t1, t2, t3⟩ := hT4.at hir
    rw [t2] at hv
    cases hv
    refine ⟨t, _, rfl, SqT.of (p1 _ _ t3), rfl, _, _, rfl, _, _, rfl, rfl, rfl, ?_⟩
    refine ⟨_, rfl, _, rfl, _, .inr (rows[i]).1, rfl, p2, ?_, p1.upd_own hD2, ?_⟩
    · unfold wL
      rw [List.length_map, List.length_take]
      exact lt_line (by omega)
    · rw [upd_same, putK_new, ← take_snoc (List.getElem?_eq_getElem hir)]
      · unfold wL
        rw [List.map_append]
        rfl
      · refine valV_none fun kv hk e => ?_
        obtain ⟨q, hq, rfl⟩ := List.mem_map.mp hk
        have z2 := nd_take (l := rows.map (·.1)) R.nd (i := i) (by rw [List.length_map]; exact hir)
        rw [List.getElem_map, ← List.map_take] at z2
        have e2 : q.1 = (rows[i]).1 := Sum.inr.inj e
        exact z2 (by rw [← e2]; exact List.mem_map_of_mem hq)
  rintro H5 ⟨p1, p2⟩
  rw [show (ts.map V.ref).length = rows.length by rw [List.length_map, hlen], List.take_length] at p2
  have nDx2 : D2 ≠ x := (ne_of_none hx4 hD2).symm
  refine ⟨_, rfl, x, C, dx, _, rfl, p1 _ _ hx4, B.cl, B.nW, (by show 2 < 1000; decide), ?_⟩
  rw [put2]
  generalize e6 : upd H5 x (.ins C dx [(("rows" : Str), V.ref p), ("kinds", .ref l), ("widths", .ref D2)]) = H6
  have hx6 : H6 x = some (.ins C dx [(("rows" : Str), V.ref p), ("kinds", .ref l), ("widths", .ref D2)]) := by rw [← e6, upd_same]
  have k46 : Kp x H4 H6 := by rw [← e6]; exact (Kp.same p1).upd
  have k6 : Kp x H H6 := k4.trans k46
  have hl6 : H6 l = some (.tup ((rows.map (·.1)).map V.str)) := k46 _ _ hl4 nlx
  have hw6 : H6 D2 = some (.dK (wL rows)) := by rw [← e6, upd_ne nDx2]; exact p2
  clear e6
  -- ranks
  refine ⟨_, rfl, x, C, dx, _, _, rfl, hx6, B.cl, B.nK, lk_k2 _ _ _, l, _, rfl, SqT.of hl6, fun D3 hD3 => dc_it (walk_enumT (xs := (rows.map (·.1)).map V.str)) (fun i H' => Same H6 H' ∧ H' D3 = some (.dK ((rkL (rows.map (·.1))).take i))) ⟨(Same.refl H6).upd_new hD3, upd_same⟩ (fun i H' _ ⟨q, _⟩ => SqT.of (q _ _ hl6)) ?_ ?_⟩
  · rintro i v H7 H8 hi ⟨p3, p4⟩ ⟨P1, v1, v2, rfl, hP1, rfl, e1, e2⟩
    have hir : i < rows.length := by rw [List.length_map, List.length_map] at hi; exact hi
    cases e1
    have e2' : ((rows.map (·.1)).map V.str)[i]? = some v2 := e2
    rw [List.getElem?_map, List.getElem?_map, List.getElem?_eq_getElem hir] at e2'
    cases e2'
    have hD3' : (upd H7 P1 (.tup [.int ((i : Nat) : Int), .str (rows[i]).1])) D3 = some (.dK ((rkL (rows.map (·.1))).take i)) := by rw [upd_ne (ne_of_none p4 hP1)]; exact p4
    refine ⟨P1, _, rfl, SqT.of upd_same, rfl, _, _, rfl, _, _, rfl, rfl, rfl, ?_⟩
    refine ⟨_, rfl, _, rfl, _, .inr (rows[i]).1, rfl, hD3', ?_, (p3.upd_new hP1).upd_own hD3, ?_⟩
    · rw [List.length_take]
      unfold rkL
      rw [List.length_map, List.length_zipIdx, List.length_map]
      exact lt_line (by omega)
    · have hg : (rkL (rows.map (·.1)))[i]? = some (.inr (rows[i]).1, .int ((i : Nat) : Int)) := by
        unfold rkL
        rw [List.getElem?_map, List.getElem?_zipIdx, List.getElem?_map, List.getElem?_eq_getElem hir]
        simp
      rw [upd_same, putK_new, ← take_snoc hg]
      refine valV_none fun kv hk e => ?_
      obtain ⟨j, hj, ej⟩ := List.mem_iff_getElem.mp hk
      rw [List.length_take] at hj
      rw [List.getElem_take] at ej
      have hjr : j < rows.length := by omega
      have hg2 : (rkL (rows.map (·.1)))[j]? = some (.inr (rows[j]).1, .int ((j : Nat) : Int)) := by
        unfold rkL
        rw [List.getElem?_map, List.getElem?_zipIdx, List.getElem?_map, List.getElem?_eq_getElem hjr]
        simp
      have ej2 := List.getElem?_eq_getElem (l := rkL (rows.map (·.1))) (i := j) (by unfold rkL; rw [List.length_map, List.length_zipIdx, List.length_map]; exact hjr)
      rw [hg2] at ej2
      rw [← ej, ← Option.some.inj ej2] at e
      have e3 : (rows[j]).1 = (rows[i]).1 := Sum.inr.inj e
      have nd := R.nd
      have e4 : (rows.map (·.1))[j]'(by rw [List.length_map]; exact hjr) = (rows.map (·.1))[i]'(by rw [List.length_map]; exact hir) := by rw [List.getElem_map, List.getElem_map]; exact e3
      have := (List.getElem_inj nd).mp e4
      omega
  rintro H7 ⟨p3, p4⟩
  rw [show ((rows.map (·.1)).map V.str).length = (rkL (rows.map (·.1))).length by unfold rkL; simp, List.take_length] at p4
  have nDx3 : D3 ≠ x := (ne_of_none hx6 hD3).symm
  refine ⟨_, rfl, x, C, dx, _, rfl, p3 _ _ hx6, B.cl, B.nRk, (by show 3 < 1000; decide), ?_⟩
  rw [put3]
  have k8 : Kp x H (upd H7 x (.ins C dx (bedF p l D2 D3))) := (k6.trans (Kp.same p3)).upd
  refine k _ k8 ⟨dx, p, l, D2, D3, ts, upd_same, k8 _ _ hp npx, hT.keep (tk1 hx k8), ?_, ?_, ?_⟩
  · rw [upd_ne nlx]; exact p3 _ _ hl6
  · rw [upd_ne nDx2]; exact p3 _ _ hw6
  · rw [upd_ne nDx3]; exact p4
end
end Sh
end
section
set_option Elab.async false
set_option linter.all false
set_option maxRecDepth 100000
set_option maxHeartbeats 2000000
set_option autoImplicit false
namespace Sh
open PySem PySem.Spec PyProof.Rows L2
open C8 (pss_cut tCut)
open Evl (ixN_nat)
theorem ifn {c A B : Prop} [Decidable c] (h : ¬ c) (b : B) : if c then A else B := by
  rw [if_neg h]
  exact b
theorem ifp {c A B : Prop} [Decidable c] (h : c) (a : A) : if c then A else B := by
  rw [if_pos h]
  exact a
def spBedS (C : Addr) : Sp := fun vs H Q E => ∃ ws rest, vs = ws ++ rest ∧ ws.length = (["self"] : List Str).length ∧ rest.length ≤ sizeLine ∧ ∀ p, H p = Option.none → spBedI C (ws ++ [V.ref p]) (upd H p (.tup rest)) Q E
def BedOk (P : Program) (w : World) (K : PySem.W.Frag) (mg : Str → Option Value) (base : Heap) (C : Addr) (k : Nat) : Prop := mg "Bed" = some (.ref C) ∧ ∃ fI, Mk K C fI ∧ FnR P w K mg base CX0 k fI (spBedS C)
section
variable {P : Program} {w : World} {K : PySem.W.Frag} {mg : Str → Option Value} {base : Heap} {C : Addr}
end
end Sh
end
section
set_option Elab.async false
set_option linter.all false
set_option maxRecDepth 100000
set_option maxHeartbeats 2000000
set_option autoImplicit false
namespace Sh
open PySem PySem.Spec PyProof.Rows L2
open C8 (pss_cut tCut)
open Evl (ixN_nat)
def sV (l : List Str) : List V := l.map V.str
/-- the number of branches of a kind; 0 of what is no kind -/
def wR (rows : List Row) (z : Str) : Nat := match rows.find? (fun q => decide (q.1 = z)) with
  | some q => q.2.toNat
  | none => 0
/-- .. or -1 -/
def nmO (rows : List Row) (z : Str) : Int := match rows.find? (fun q => decide (q.1 = z)) with
  | some q => q.2
  | none => -1
theorem find_wL (rows : List Row) (z : Str) : valV (wL rows) (.inr z) = (rows.find? (fun q => decide (q.1 = z))).map fun q => V.int q.2 := by
  unfold valV wL
  rw [List.find?_map]
  have e : ((fun kv : Key × V => decide (kv.1 = Sum.inr z)) ∘ fun q : Row => ((.inr q.1 : Key), V.int q.2)) = fun q => decide (q.1 = z) := by
    funext q
    exact key_rr q.1 z
  rw [e, Option.map_map]
  rfl
theorem nm_case {rows : List Row} {m : Int} (R : ROk m rows) (z : Str) : (nmO rows z = -1 ∧ wR rows z = 0 ∧ valV (wL rows) (.inr z) = none ∧ ∀ q ∈ rows, q.1 ≠ z) ∨ (nmO rows z = ((wR rows z : Nat) : Int) ∧ wR rows z ≤ 3 ∧ valV (wL rows) (.inr z) = some (.int ((wR rows z : Nat) : Int)) ∧ ∃ q ∈ rows, q.1 = z) := by
  rw [find_wL]
  unfold nmO wR
  cases hf : rows.find? (fun q => decide (q.1 = z)) with
  | none => exact .inl ⟨rfl, rfl, rfl, fun q hq e => absurd (List.find?_eq_none.mp hf q hq) (by simp [e])⟩
  | some q =>
    have hm := List.mem_of_find?_eq_some hf
    have wd := R.wd q hm
    have e : ((q.2.toNat : Nat) : Int) = q.2 := by omega
    exact .inr ⟨e.symm, by show q.2.toNat ≤ 3; omega, by rw [Option.map_some]; show some (V.int q.2) = some (V.int ((q.2.toNat : Nat) : Int)); rw [e], q, hm, by have hp := List.find?_some hf; exact of_decide_eq_true hp⟩
theorem wR_le {rows : List Row} {m : Int} (R : ROk m rows) (z : Str) : wR rows z ≤ 3 := by
  rcases nm_case R z with h | h <;> omega
theorem wR_mem {rows : List Row} {m : Int} (R : ROk m rows) {z : Str} (h : ∃ q ∈ rows, q.1 = z) : ∃ q ∈ rows, q.1 = z ∧ rows.find? (fun q => decide (q.1 = z)) = some q ∧ ((wR rows z : Nat) : Int) = q.2 ∧ wR rows z ≤ 3 := by
  obtain ⟨q, hq, e⟩ := h
  cases hf : rows.find? (fun q => decide (q.1 = z)) with
  | none => exact absurd (List.find?_eq_none.mp hf q hq) (by simp [e])
  | some q2 =>
    have hm := List.mem_of_find?_eq_some hf
    have hp := List.find?_some hf
    have wd := R.wd q2 hm
    have ew : wR rows z = q2.2.toNat := by unfold wR; rw [hf]
    exact ⟨q2, hm, of_decide_eq_true hp, rfl, by rw [ew]; omega, by rw [ew]; omega⟩
theorem val_wL {rows : List Row} {m : Int} (R : ROk m rows) {z : Str} (h : ∃ q ∈ rows, q.1 = z) : valV (wL rows) (.inr z) = some (.int ((wR rows z : Nat) : Int)) := by
  obtain ⟨q, _, _, hf, e, _⟩ := wR_mem R h
  rw [find_wL, hf, e]
  rfl
structure PlantOk (rows : List Row) (l : List Str) : Prop where
  f : Mth.forest (wR rows) l 1 = true
  k : ∀ z ∈ l, ∃ q ∈ rows, q.1 = z
  sz : l.length ≤ 2000
theorem PlantOk.pos {rows : List Row} {l : List Str} (x : PlantOk rows l) : 0 < l.length := List.length_pos_iff.mpr (Mth.forest_pos _ x.f)
/-- a stump -/
structure StumpOk (rows : List Row) (l : List Str) : Prop where
  f : Mth.forest (wR rows) l 1 = true
  k : ∀ z ∈ l, z = "*" ∨ ∃ q ∈ rows, q.1 = z
  sz : l.length ≤ 2000
theorem StumpOk.pos {rows : List Row} {l : List Str} (x : StumpOk rows l) : 0 < l.length := List.length_pos_iff.mpr (Mth.forest_pos _ x.f)
/-- the least place at which a row stops being one -/
def wO (rows : List Row) (hole : Bool) (z : Str) : Option Nat := if hole = true ∧ z = "*" then some 0 else if nmO rows z < 0 then none else some (wR rows z)
def fl (f : Str → Option Nat) : List Str → Nat → Nat → Option Nat
  | [], 0, _ => none
  | [], _ + 1, i => some i
  | _ :: _, 0, i => some i
  | z :: r, n + 1, i => match f z with
    | none => some i
    | some k => fl f r (n + k) (i + 1)
def fault (rows : List Row) (hole : Bool) (l : List Str) : Option Nat := fl (wO rows hole) l 1 0
theorem fl_le {f : Str → Option Nat} : ∀ {l : List Str} {n i j : Nat}, fl f l n i = some j → j ≤ i + l.length
  | [], 0, _, _, h => nomatch h
  | [], _ + 1, i, j, h => by cases h; exact Nat.le_refl _
  | _ :: _, 0, i, j, h => by cases h; omega
  | z :: r, n + 1, i, j, h => by
    unfold fl at h
    rw [List.length_cons]
    cases e : f z with
    | none => rw [e] at h; cases h; omega
    | some k => rw [e] at h; have := fl_le h; omega
end Sh
end
section
set_option Elab.async false
set_option linter.all false
set_option maxRecDepth 100000
set_option maxHeartbeats 2000000
set_option autoImplicit false
namespace Sh
open PySem PySem.Spec PyProof.Rows L2
open C8 (pss_cut tCut)
open Evl (ixN_nat)
theorem RowsAt.same {H H' : Hp} {r : Addr} {rows : List Row} (x : RowsAt H r rows) (s : Same H H') : RowsAt H' r rows := by
  obtain ⟨ts, a, b⟩ := x
  exact ⟨ts, s _ _ a, b.keep (TK.of_same s)⟩
structure XA where
  T : Addr
  P : Addr
  S : Addr
  N : Addr
  U : Addr
  W : Addr
inductive Ex where
  | many
  | plant (i : Nat)
  | stump (i : Nat)
  | path (a : Addr)
  | kind (z : Str)
  | wrong (i j : Nat)
def Ex.cls (A : XA) : Ex → Addr
  | .many => A.T
  | .plant _ => A.P
  | .stump _ => A.S
  | .path _ => A.N
  | .kind _ => A.U
  | .wrong _ _ => A.W
def tmF : List (Str × V) := xfs ["what", "limit"] [.str "knots", .int 2000] []
def Ex.fs : Ex → List (Str × V)
  | .many => tmF
  | .plant i => xfs ["place"] [.int (i : Nat)] []
  | .stump i => xfs ["place"] [.int (i : Nat)] []
  | .path a => xfs ["path"] [.ref a] []
  | .kind z => xfs ["kind"] [.str z] []
  | .wrong i j => xfs ["wanted", "given"] [.int (i : Nat), .int (j : Nat)] []
/-- what is wanted where x is raised -/
def Rz (A : XA) (E : XK) (H : Hp) (x : Ex) : Prop := ∀ H' d, Same H H' → H' d = none → E (.ref (x.cls A)) (some d) (upd H' d (.xd x.fs))
theorem Rz.same {A : XA} {E : XK} {H H1 : Hp} {x : Ex} (h : Rz A E H x) (s : Same H H1) : Rz A E H1 x := fun H' d s' hd => h H' d (s.trans s') hd
def due (rows : List Row) (hole : Bool) (l : List Str) : Option Ex := if 2000 < l.length then some .many else (fault rows hole l).map (if hole = true then Ex.stump else Ex.plant)
/-- either way -/
def Way (A : XA) (E : XK) (H : Hp) (o : Option Ex) (ok : Prop) : Prop := match o with
  | none => ok
  | some x => Rz A E H x
def lvs (hole : Bool) : List V := if hole = true then [.str "*"] else []
section
variable {P : Program} {w : World} {K : PySem.W.Frag} {mg : Str → Option Value} {base : Heap} {C : Addr} {A : XA}
end
end Sh
end
section
set_option Elab.async false
set_option linter.all false
set_option maxRecDepth 100000
set_option maxHeartbeats 2000000
set_option autoImplicit false
namespace Mth
/-- the starts of the first n branches above p -/
def starts {α : Type} (w : α → Nat) (l : List α) (p n : Nat) : List Int := (List.range n).map fun j => ((nxs w l (p + 1) j : Nat) : Int)
end Mth
namespace Sh
open PySem PySem.Spec PyProof.Rows L2
open C8 (pss_cut tCut)
open Evl (ixN_nat)
structure WfOk (rows : List Row) (l : List Str) : Prop where
  f : Mth.forest (wR rows) l 1 = true
  sz : l.length ≤ 2000
theorem PlantOk.wf {rows : List Row} {l : List Str} (x : PlantOk rows l) : WfOk rows l := ⟨x.f, x.sz⟩
theorem StumpOk.wf {rows : List Row} {l : List Str} (x : StumpOk rows l) : WfOk rows l := ⟨x.f, x.sz⟩
theorem row_at {rows : List Row} {m : Int} (R : ROk m rows) {i : Nat} (h : i < rows.length) : ((wR rows (rows[i]).1 : Nat) : Int) = (rows[i]).2 := by
  obtain ⟨q, hq, e, hf, ew, _⟩ := wR_mem R ⟨rows[i], List.getElem_mem h, rfl⟩
  obtain ⟨j, hj, ej⟩ := List.mem_iff_getElem.mp hq
  have h1 : (rows.map (·.1))[j]'(by rw [List.length_map]; exact hj) = (rows.map (·.1))[i]'(by rw [List.length_map]; exact h) := by
    rw [List.getElem_map, List.getElem_map, ej, e]
  have e2 := (List.getElem_inj R.nd).mp h1
  subst e2
  rw [ew, ← ej]
/-- tuples of what f says -/
def TsAt {α : Type} (f : α → List V) (H : Hp) (ts : List Addr) (xs : List α) : Prop := ts.length = xs.length ∧ ∀ (i : Nat) (t : Addr) (x : α), ts[i]? = some t → xs[i]? = some x → Tq H t (f x)
theorem TsAt.keep {α : Type} {f : α → List V} {H H' : Hp} {ts : List Addr} {xs : List α} (x : TsAt f H ts xs) (k : TQ H H') : TsAt f H' ts xs := ⟨x.1, fun i t q a b => k _ _ (x.2 i t q a b)⟩
theorem TsAt.nil {α : Type} {f : α → List V} {H : Hp} : TsAt f H [] [] := ⟨rfl, fun i t x a => by simp at a⟩
theorem TsAt.snoc {α : Type} {f : α → List V} {H : Hp} {ts : List Addr} {xs : List α} {t : Addr} {q : α} (x : TsAt f H ts xs) (h : Tq H t (f q)) : TsAt f H (ts ++ [t]) (xs ++ [q]) := by
  refine ⟨by rw [List.length_append, List.length_append, x.1]; rfl, fun i u y a b => ?_⟩
  by_cases e : i < ts.length
  · rw [List.getElem?_append_left e] at a
    rw [List.getElem?_append_left (by rw [← x.1]; exact e)] at b
    exact x.2 i u y a b
  · rw [List.getElem?_append_right (by omega)] at a
    rw [List.getElem?_append_right (by rw [← x.1]; omega), ← x.1] at b
    have z : i - ts.length = 0 := by
      have := lt_of_get a
      simp at this
      omega
    rw [z] at a b
    cases a
    cases b
    exact h
theorem TsAt.pop {α : Type} {f : α → List V} {H : Hp} {ts : List Addr} {xs : List α} {q : α} (x : TsAt f H ts (xs ++ [q])) : ∃ t, ts[ts.length - 1]? = some t ∧ TsAt f H ts.dropLast xs ∧ Tq H t (f q) ∧ ts = ts.dropLast ++ [t] := by
  have hl : ts.length = xs.length + 1 := by rw [x.1, List.length_append]; rfl
  have hi : ts.length - 1 < ts.length := by omega
  refine ⟨ts[ts.length - 1], List.getElem?_eq_getElem hi, ⟨by rw [List.length_dropLast]; omega, fun i t y a b => ?_⟩, x.2 (ts.length - 1) _ _ (List.getElem?_eq_getElem hi) (by rw [hl]; simp), ?_⟩
  · have hb := lt_of_get b
    rw [List.getElem?_dropLast] at a
    rw [if_pos (by omega)] at a
    exact x.2 i t y a (by rw [List.getElem?_append_left hb]; exact b)
  · have hn : ts ≠ [] := fun e => by rw [e] at hl; simp at hl
    have := List.dropLast_concat_getLast hn
    rw [List.getLast_eq_getElem] at this
    exact this.symm
theorem TsAt.at {α : Type} {f : α → List V} {H : Hp} {ts : List Addr} {xs : List α} (x : TsAt f H ts xs) {i : Nat} (h : i < xs.length) : ∃ t, ts[i]? = some t ∧ (ts.map V.ref)[i]? = some (.ref t) ∧ Tq H t (f xs[i]) := by
  have h2 : i < ts.length := by rw [x.1]; exact h
  exact ⟨ts[i], List.getElem?_eq_getElem h2, by rw [List.getElem?_map, List.getElem?_eq_getElem h2]; rfl, x.2 i _ _ (List.getElem?_eq_getElem h2) (List.getElem?_eq_getElem h)⟩
section
variable {P : Program} {w : World} {K : PySem.W.Frag} {mg : Str → Option Value} {base : Heap} {C CT : Addr}
end
end Sh
end
section
set_option Elab.async false
set_option linter.all false
set_option maxRecDepth 100000
set_option maxHeartbeats 2000000
set_option autoImplicit false
namespace Mth
def wd {α : Type} (w : α → Nat) (l : List α) (p : Nat) : Nat := match l[p]? with
  | some k => w k
  | none => 0
end Mth
namespace Sh
open PySem PySem.Spec PyProof.Rows L2
open C8 (pss_cut tCut)
open Evl (ixN_nat)
theorem valV_rk {ns : List Str} (nd : ns.Nodup) {j : Nat} (h : j < ns.length) : valV (rkL ns) (.inr ns[j]) = some (.int ((j : Nat) : Int)) := by
  unfold valV rkL
  rw [List.find?_map]
  have e : ((fun kv : Key × V => decide (kv.1 = Sum.inr ns[j])) ∘ fun q : Str × Nat => ((.inr q.1 : Key), V.int ((q.2 : Nat) : Int))) = fun q => decide (q.1 = ns[j]) := by
    funext q
    exact key_rr q.1 _
  rw [e]
  have hm : (ns[j], j) ∈ ns.zipIdx := by
    rw [List.mem_iff_getElem?]
    exact ⟨j, by rw [List.getElem?_zipIdx, List.getElem?_eq_getElem h]; simp⟩
  cases hf : ns.zipIdx.find? (fun q => decide (q.1 = ns[j])) with
  | none => exact absurd (List.find?_eq_none.mp hf _ hm) (by simp)
  | some q =>
    have h1 := List.mem_of_find?_eq_some hf
    have h2 : q.1 = ns[j] := by simpa using List.find?_some hf
    obtain ⟨i, hi, ei⟩ := List.mem_iff_getElem.mp h1
    rw [List.getElem_zipIdx] at ei
    rw [List.length_zipIdx] at hi
    rw [← ei] at h2
    have h3 := (List.getElem_inj nd).mp h2
    subst h3
    rw [← ei]
    simp
/-- the ranks of a plant's knots -/
def RanksOf (ns : List Str) (l : List Str) (ks : List Int) : Prop := ks.length = l.length ∧ ∀ (i : Nat) (z : Str), l[i]? = some z → ∃ j : Nat, ns[j]? = some z ∧ ks[i]? = some ((j : Nat) : Int)
theorem RanksOf.uniq {ns l : List Str} (nd : ns.Nodup) {ks ks' : List Int} (x : RanksOf ns l ks) (y : RanksOf ns l ks') : ks = ks' := by
  refine List.ext_getElem? fun i => ?_
  by_cases h : i < l.length
  · obtain ⟨j, a, b⟩ := x.2 i _ (List.getElem?_eq_getElem h)
    obtain ⟨j', a', b'⟩ := y.2 i _ (List.getElem?_eq_getElem h)
    obtain ⟨hj, ej⟩ := List.getElem?_eq_some_iff.mp a
    obtain ⟨hj', ej'⟩ := List.getElem?_eq_some_iff.mp a'
    have := (List.getElem_inj nd).mp (ej.trans ej'.symm)
    subst this
    rw [b, b']
  · have a := x.1
    have b := y.1
    rw [List.getElem?_eq_none (by omega), List.getElem?_eq_none (by omega)]
theorem RanksOf.snoc {ns l : List Str} {ks : List Int} {i j : Nat} {z : Str} (x : RanksOf ns (l.take i) ks) (h : l[i]? = some z) (hj : ns[j]? = some z) : RanksOf ns (l.take (i + 1)) (ks ++ [((j : Nat) : Int)]) := by
  have hi := lt_of_get h
  have hk : ks.length = i := by rw [x.1, List.length_take]; omega
  refine ⟨by rw [List.length_append, hk, List.length_take]; simp; omega, fun k u hu => ?_⟩
  rw [← take_snoc h] at hu
  by_cases e : k < i
  · rw [List.getElem?_append_left (by rw [List.length_take]; omega)] at hu
    obtain ⟨j', a, b⟩ := x.2 k u hu
    exact ⟨j', a, by rw [List.getElem?_append_left (by omega)]; exact b⟩
  · have hlt := lt_of_get hu
    rw [List.length_append, List.length_take] at hlt
    have ek : k = i := by simp at hlt; omega
    subst ek
    rw [List.getElem?_append_right (by rw [List.length_take]; omega), List.length_take] at hu
    rw [show k - min k l.length = 0 by omega] at hu
    cases hu
    exact ⟨j, hj, by rw [List.getElem?_append_right (by omega), hk, Nat.sub_self]; rfl⟩
theorem Way.same {A : XA} {E : XK} {H H1 : Hp} {p q : Prop} (s : Same H H1) (h : p → q) : ∀ {o : Option Ex}, Way A E H o p → Way A E H1 o q
  | none, k => h k
  | some _, k => Rz.same k s
section
variable {P : Program} {w : World} {K : PySem.W.Frag} {mg : Str → Option Value} {base : Heap} {C CT : Addr} {A : XA}
end
end Sh
end
section
set_option Elab.async false
set_option linter.all false
set_option maxRecDepth 100000
set_option maxHeartbeats 2000000
set_option autoImplicit false
namespace Mth
end Mth
namespace Sh
open PySem PySem.Spec PyProof.Rows L2
open C8 (pss_cut tCut)
open Evl (ixN_nat)
def put (w : Str → Nat) (l : List Str) (q : Nat) (o : List Str) : List Str := l.take q ++ o ++ l.drop (Mth.nxs w l q 1)
section
variable {P : Program} {w : World} {K : PySem.W.Frag} {mg : Str → Option Value} {base : Heap} {C CN CT : Addr} {A : XA}
end
end Sh
end
section
set_option Elab.async false
set_option linter.all false
set_option maxRecDepth 100000
set_option maxHeartbeats 2000000
namespace PySem
open Sem (wp)
section
variable {prog : Program} {w : World} {K : Type} [DecidableEq K] (knd : KeyKind prog w K)
def IsNestKey (h : Heap) (k : K × List K) (a : Addr) : Prop := ∃ o x b n, h.get? a = some o ∧ o.cls = .type "tuple" ∧ o.data = .seq #[x, .ref b] n ∧ knd.is k.1 x = true ∧ IsTupleKey knd h k.2 b
def nestHash (k : K × List K) : Int := reduceHash (Builtin.Tuple.tupleHashOf [knd.hash k.1, tupleKeyHash knd k.2])
variable {knd}
theorem IsNestKey.typeIs {s : Shared} {k : K × List K} {a : Addr} (x : IsNestKey knd s.heap k a) : s.TypeIs (.ref a) "tuple" := let ⟨o, _, _, _, ho, hc, _⟩ := x; ⟨o, ho, hc⟩
theorem IsNestKey.inj {h : Heap} {a : Addr} {k l : K × List K} (hx : IsNestKey knd h k a) (hy : IsNestKey knd h l a) : k = l := by
  obtain ⟨o, x, b, n, ho, _, hd, hi, ht⟩ := hx
  obtain ⟨o', x', b', n', ho', _, hd', hi', ht'⟩ := hy
  obtain rfl : o = o' := Option.some.inj (ho.symm.trans ho')
  rw [hd] at hd'
  injection hd' with h1 _
  have h1 : [x, Value.ref b] = [x', .ref b'] := congrArg Array.toList h1
  injection h1 with e1 e2
  injection e2 with e3 _
  injection e3 with e4
  subst e1 e4
  exact Prod.ext (knd.inj _ _ _ hi hi') (ht.inj ht')
theorem IsNestKey.keeps {h h' : Heap} {k : K × List K} {a d : Addr} {o : Obj} {es ep} (x : IsNestKey knd h k a) (ho : h.get? d = some o) (hd : o.data = .dict es ep) (hs : Heap.SameBut d h h') : IsNestKey knd h' k a := by
  obtain ⟨o', x, b, n, ho', hc, hd', hi, ht⟩ := x
  have hne : a ≠ d := by
    rintro rfl
    obtain rfl : o' = o := Option.some.inj (ho'.symm.trans ho)
    rw [hd] at hd'
    exact nomatch hd'
  exact ⟨o', x, b, n, (hs.2 a hne).trans ho', hc, hd', hi, ht.keeps ho hd hs⟩
variable {A : Around} {E : Value → Shared → Prop} {s : Shared}
theorem pyHash_nest {k : K × List K} {a : Addr} {Q : Int → Shared → Prop} (hu : A.units + 1 < cLine) (hk : IsNestKey knd s.heap k a) (h : Q (nestHash knd k) { s with toks := s.toks + (k.2.length + 3) }) :
    wpAny (model prog w) A (pyHash (.ref a)) Q E s := by
  have hT := hk.typeIs
  obtain ⟨o, x, b, n, ho, _, hd, hi, ht⟩ := hk
  unfold pyHash
  first | unfold pyHashByItsType | skip
  first | refine wpAny_bind (wpAny_cRoomFor_or (.inr (by omega)) ?_) | skip
  refine wpAny_bind (wpAny_specialOf hT F.slot_tuple_hash.lookup ?_)
  show wpAny _ _ (if (some (Value.builtin "tuple.__hash__") == some Value.none) = true then _ else _) Q E s
  rw [if_neg (by rw [beq_builtin_none]; exact Bool.false_ne_true)]
  refine wpAny_bind (wpAny_specialOf hT F.slot_tuple_hash.lookup ?_)
  show wpAny _ _ (callSpecialIfBoundUnlessNone? (.ref a) "__hash__" _ >>= _) Q E s
  refine wpAny_bind (wpAny_callSpecialIfBoundUnlessNone?_slot hT F.slot_tuple_hash (wpAny_call_entry F.slot_tuple_hash hT F.entry_tuple_hash ?_ (F.args_tuple_hash_1 _)))
  show wpAny _ _ (Builtin.Tuple.tupleItemsOf (.ref a) >>= _) _ _ s
  refine wpAny_bind (wpAny_tupleItemsOf ho hd ?_)
  refine wpAny_bind ?_
  rw [← Array.forIn_toList]
  refine wpAny_forIn_list _
    (fun rest (c : Array Int) s' => (rest = [x, .ref b] ∧ c.toList = [] ∧ s' = s) ∨ (rest = [.ref b] ∧ c.toList = [knd.hash k.1] ∧ s' = { s with toks := s.toks + 1 }) ∨ (rest = [] ∧ c.toList = [knd.hash k.1, tupleKeyHash knd k.2] ∧ s' = { s with toks := s.toks + 1 + (k.2.length + 1) }))
    _ ?_ ?_ _ _ (.inl ⟨rfl, rfl, rfl⟩)
  · rintro y rest c s' (⟨er, hb, rfl⟩ | ⟨er, hb, rfl⟩ | ⟨er, _⟩)
    · injection er with e1 e2
      subst e1 e2
      refine wpAny_bind (knd.pyHash hi ?_)
      first
        | exact wpAny_pure (.inr (.inl ⟨rfl, by simp [hb], rfl⟩))
        | exact wpAny_bind (wpAny_pure (wpAny_pure (.inr (.inl ⟨rfl, by simp [hb], rfl⟩))))
    · injection er with e1 e2
      subst e1 e2
      refine wpAny_bind (wpAny_pyHash_tuple (knd := knd) (ks := k.2) (s := { s with toks := s.toks + 1 }) (by show A.units + 1 < cLine; exact hu) ht ?_)
      first
        | exact wpAny_pure (.inr (.inr ⟨rfl, by simp [hb], rfl⟩))
        | exact wpAny_bind (wpAny_pure (wpAny_pure (.inr (.inr ⟨rfl, by simp [hb], rfl⟩))))
    · exact nomatch er
  · rintro c s' (⟨er, _⟩ | ⟨er, _⟩ | ⟨_, hb, rfl⟩)
    · exact nomatch er
    · exact nomatch er
    show wpAny _ _ (retInt (Builtin.Tuple.tupleHashOf c.toList)) _ _ _
    rw [hb]
    refine wpAny_ret_mkInt ?_
    show wpAny _ _ (if (decide (-(2 : Int) ^ 63 ≤ Builtin.Tuple.tupleHashOf [knd.hash k.1, tupleKeyHash knd k.2]) && decide (Builtin.Tuple.tupleHashOf [knd.hash k.1, tupleKeyHash knd k.2] < 2 ^ 63)) = true then _ else _) Q E _
    unfold nestHash reduceHash at h
    have ek : s.toks + 1 + (k.2.length + 1) + 1 = s.toks + (k.2.length + 3) := by omega
    by_cases hr : (decide (-(2 : Int) ^ 63 ≤ Builtin.Tuple.tupleHashOf [knd.hash k.1, tupleKeyHash knd k.2]) && decide (Builtin.Tuple.tupleHashOf [knd.hash k.1, tupleKeyHash knd k.2] < 2 ^ 63)) = true
    · rw [if_pos hr]
      rw [if_pos hr] at h
      exact wpAny_pure (by rw [← ek] at h; exact h)
    · rw [if_neg hr]
      rw [if_neg hr] at h
      exact wpAny_bind (wpAny_rule (wpAny_pure (by rw [← ek] at h; exact h)))
theorem nest_eq_tree {k l : K × List K} {a c : Addr} {P : Fin → Shared → Prop} (hu : A.units < cLine) (hx : IsNestKey knd s.heap k a) (hy : IsNestKey knd s.heap l c) (h : P (.done (.ret (.bool (decide (k = l))))) s) :
    wpAny (model prog w) A (Builtin.«tuple.__eq__» ⟨[.ref a, .ref c], []⟩) P E s := by
  have hTb := hy.typeIs
  obtain ⟨oa, x, b, na, hoa, _, hda, hia, hta⟩ := hx
  obtain ⟨ob, y, d, nb, hob, _, hdb, hib, htb⟩ := hy
  have ed : decide (k = l) = (decide (k.1 = l.1) && decide (k.2 = l.2)) := by
    obtain ⟨k1, k2⟩ := k
    obtain ⟨l1, l2⟩ := l
    by_cases h1 : k1 = l1 <;> by_cases h2 : k2 = l2 <;> simp [h1, h2]
  rw [ed] at h
  show wpAny _ _ (isInstance (.ref c) (.type "tuple") >>= _) _ _ s
  refine wpAny_bind (wpAny_isInstance hTb isSubtype_tuple_tuple ?_)
  simp only [Bool.not_true, Bool.false_eq_true, if_false]
  refine wpAny_bind (wpAny_tupleItemsOf hoa hda ?_)
  refine wpAny_bind (wpAny_tupleItemsOf hob hdb ?_)
  refine wpAny_bind ?_
  refine wpAny_forIn_list _
    (fun rest r s' => r.1 = none ∧ s' = s ∧ (rest = [(x, y), (Value.ref b, .ref d)] ∨ (rest = [(Value.ref b, .ref d)] ∧ decide (k.1 = l.1) = true) ∨ (rest = [] ∧ decide (k.1 = l.1) = true ∧ decide (k.2 = l.2) = true)))
    _ ?_ ?_ _ _ ⟨rfl, rfl, .inl rfl⟩
  · rintro ⟨u, v⟩ rest r s' ⟨hr, rfl, er | ⟨er, e1⟩ | ⟨er, _⟩⟩
    · injection er with q1 q2
      injection q1 with q3 q4
      subst q2 q3 q4
      refine wpAny_bind (knd.eqBool (a := k.1) (b := l.1) hia hib ?_)
      by_cases hk : k.1 = l.1
      · rw [decide_eq_true hk]
        simp only [Bool.not_true, Bool.false_eq_true, if_false]
        exact wpAny_pure ⟨by first | trivial | rfl, by first | trivial | rfl, .inr (.inl ⟨by first | trivial | rfl, by first | trivial | exact decide_eq_true hk⟩)⟩
      · rw [decide_eq_false hk]
        simp only [Bool.not_false, if_true]
        rw [decide_eq_false hk] at h
        exact wpAny_bind (wpAny_pure (wpAny_pure (wpAny_pure h)))
    · injection er with q1 q2
      injection q1 with q3 q4
      subst q2 q3 q4
      refine wpAny_bind (wpAny_eqBool_tuple (knd := knd) (x := k.2) (y := l.2) (by show A.units < cLine; exact hu) hta htb ?_)
      by_cases hk : k.2 = l.2
      · rw [decide_eq_true hk]
        simp only [Bool.not_true, Bool.false_eq_true, if_false]
        exact wpAny_pure ⟨by first | trivial | rfl, by first | trivial | rfl, .inr (.inr ⟨by first | trivial | rfl, by first | exact e1 | trivial, by first | trivial | exact decide_eq_true hk⟩)⟩
      · rw [decide_eq_false hk]
        simp only [Bool.not_false, if_true]
        rw [decide_eq_false hk, e1] at h
        exact wpAny_bind (wpAny_pure (wpAny_pure (wpAny_pure h)))
    · exact nomatch er
  · rintro ⟨r1, r2⟩ s' ⟨hr, rfl, er | ⟨er, _⟩ | ⟨_, e1, e2⟩⟩
    · exact nomatch er
    · exact nomatch er
    simp only at hr
    subst hr
    refine wpAny_pure ?_
    rw [e1, e2] at h
    exact h
theorem eqBool_nest {k l : K × List K} {a c : Addr} {Q : Bool → Shared → Prop} (hu : A.units + 1 < cLine) (hx : IsNestKey knd s.heap k a) (hy : IsNestKey knd s.heap l c) (h : Q (decide (k = l)) s) :
    wpAny (model prog w) A (eqBool (.ref a) (.ref c)) Q E s := by
  unfold eqBool
  try with_reducible refine wpAny_holding ?_
  show wpAny _ _ (if (Value.ref a == Value.ref c) = true then _ else _) Q E s
  by_cases hab : (Value.ref a == Value.ref c) = true
  · rw [if_pos hab]
    have e : a = c := by have := eq_of_beq hab; injection this
    subst e
    obtain rfl := hx.inj hy
    exact wpAny_bind (wpAny_rule (wpAny_pure (by simpa using h)))
  · rw [if_neg hab]
    exact wpAny_bind (wpAny_richCompare_same_room (op := .Eq) hx.typeIs hy.typeIs F.slot_tuple_eq
      (wpAny_call_entry F.slot_tuple_eq hx.typeIs F.entry_tuple_eq (nest_eq_tree (by show A.units + 1 < cLine; exact hu) hx hy ⟨_, rfl, (fun e => nomatch e), wpAny_truthy_bool h⟩) (F.args_tuple_eq_2 _ _)) (by omega))
theorem quiet_tup {ks : List K} {a : Addr} {n : Nat} {Q : Bool → Shared → Prop} (hk : IsTupleKey knd s.heap ks a) (h : Q true s) : wpAny (model prog w) A (eqIsQuiet (n + 1) (.ref a)) Q E s := by
  have hT := hk.typeIs
  obtain ⟨o, items, n, ho, _, hd, hi⟩ := hk
  unfold eqIsQuiet
  refine wpAny_bind (wpAny_specialOf hT F.slot_tuple_eq.lookup ?_)
  show wpAny _ _ (isInstance (.ref a) (.type "tuple") >>= _) _ _ s
  refine wpAny_bind (wpAny_isInstance hT isSubtype_tuple_tuple ?_)
  simp only [Bool.not_true, Bool.false_eq_true, if_false]
  refine wpAny_bind (wpAny_seqItems ho hd ?_)
  refine wpAny_bind ?_
  show wpAny _ _ (forIn items _ _) _ _ s
  rw [← Array.forIn_toList]
  refine wpAny_forIn_list _ (fun rest r s' => r.1 = none ∧ s' = s ∧ ∀ v ∈ rest, carriedByValue v = true) _ ?_ ?_ _ _ ⟨rfl, rfl, hi.byValue⟩
  · rintro v rest r s' ⟨hr, rfl, hall⟩
    rw [eqIsQuiet_byValue _ (hall v List.mem_cons_self)]
    refine wpAny_bind (wpAny_pure ?_)
    simp only [Bool.not_true, Bool.false_eq_true, if_false]
    exact wpAny_pure ⟨rfl, rfl, fun u hu' => hall u (List.mem_cons_of_mem _ hu')⟩
  · rintro ⟨r1, r2⟩ s' ⟨hr, rfl, _⟩
    simp only at hr
    subst hr
    exact wpAny_pure h
theorem quiet_nest {k : K × List K} {a : Addr} {Q : Bool → Shared → Prop} (hk : IsNestKey knd s.heap k a) (h : Q true s) : wpAny (model prog w) A (eqIsQuiet 8 (.ref a)) Q E s := by
  have hT := hk.typeIs
  obtain ⟨o, x, b, n, ho, _, hd, hi, ht⟩ := hk
  unfold eqIsQuiet
  refine wpAny_bind (wpAny_specialOf hT F.slot_tuple_eq.lookup ?_)
  show wpAny _ _ (isInstance (.ref a) (.type "tuple") >>= _) _ _ s
  refine wpAny_bind (wpAny_isInstance hT isSubtype_tuple_tuple ?_)
  simp only [Bool.not_true, Bool.false_eq_true, if_false]
  refine wpAny_bind (wpAny_seqItems ho hd ?_)
  refine wpAny_bind ?_
  show wpAny _ _ (forIn (#[x, Value.ref b] : Array Value) _ _) _ _ s
  rw [← Array.forIn_toList]
  refine wpAny_forIn_list _ (fun rest r s' => r.1 = none ∧ s' = s ∧ ∀ v ∈ rest, v = x ∨ v = .ref b) _ ?_ ?_ _ _ ⟨rfl, rfl, fun v hv => ?_⟩
  · rintro v rest r s' ⟨hr, rfl, hall⟩
    have rest' : ∀ u ∈ rest, u = x ∨ u = .ref b := fun u hu' => hall u (List.mem_cons_of_mem _ hu')
    rcases hall v List.mem_cons_self with rfl | rfl
    · rw [eqIsQuiet_byValue _ (knd.byValue _ _ hi)]
      refine wpAny_bind (wpAny_pure ?_)
      simp only [Bool.not_true, Bool.false_eq_true, if_false]
      exact wpAny_pure ⟨rfl, rfl, rest'⟩
    · refine wpAny_bind (quiet_tup ht ?_)
      simp only [Bool.not_true, Bool.false_eq_true, if_false]
      exact wpAny_pure ⟨rfl, rfl, rest'⟩
  · rintro ⟨r1, r2⟩ s' ⟨hr, rfl, _⟩
    simp only at hr
    subst hr
    exact wpAny_pure h
  · have hv : v ∈ [x, Value.ref b] := hv
    rcases List.mem_cons.mp hv with e | e
    · exact .inl e
    · exact .inr (List.mem_singleton.mp e)
end
def nestKind {prog : Program} {w : World} {K : Type} [DecidableEq K] (knd : KeyKind prog w K) : HeapKind prog w (K × List K) where
  is := IsNestKey knd
  hash := nestHash knd
  draws := fun k => k.2.length + 3
  room := fun A => A.units + 1 < cLine
  inj := fun hx hy => hx.inj hy
  keeps := fun x ho hd hs => x.keeps ho hd hs
  pyHash := fun hu hk h => pyHash_nest hu hk h
  eqBool := fun hu hx hy h => eqBool_nest hu hx hy h
  quiet := fun hk h => quiet_nest hk h
end PySem
end
section
set_option Elab.async false
set_option linter.all false
set_option maxRecDepth 100000
set_option maxHeartbeats 2000000
namespace L2
open PySem PySem.Spec PyProof.Rows
abbrev NKey : Type := Key × List Key
/-- the pair at a -/
def NKAt (H : Hp) (k : NKey) (a : Addr) : Prop := ∃ b, H a = some (.tup [kV k.1, .ref b]) ∧ H b = some (.tup (k.2.map kV))
abbrev NT (H : Hp) : List (NKey × V) → List (NKey × Addr × Value) → Prop := Paired fun p q => p.1 = q.1 ∧ NKAt H p.1 q.2.1 ∧ RelV p.2 q.2.2
/-- the dict's own object -/
def NdO (P : Program) (w : World) (a : Addr) (xs : List (NKey × Addr × Value)) : HO := .ext fun h => ∃ o es ep, h.get? a = some o ∧ o.ExactDict ∧ o.data = .dict es ep ∧ es.toList = xs.map (entryOfKey (nestKind (mixKind P w))) ∧ (xs.map (·.1)).Nodup
/-- the dict at a holds kvs -/
def NdAt (P : Program) (w : World) (H : Hp) (a : Addr) (kvs : List (NKey × V)) : Prop := kvs.length ≤ sizeLine ∧ (a == sysModules) = false ∧ ∃ xs, NT H kvs xs ∧ H a = some (NdO P w a xs)
theorem NKAt.keeps {H H' : Hp} {k : NKey} {a : Addr} (x : NKAt H k a) (ht : ∀ b ys, H b = some (.tup ys) → H' b = some (.tup ys)) : NKAt H' k a := by
  obtain ⟨b, h1, h2⟩ := x
  exact ⟨b, ht _ _ h1, ht _ _ h2⟩
theorem NT.keeps {H H' : Hp} {kvs : List (NKey × V)} {xs : List (NKey × Addr × Value)} (r : NT H kvs xs) (ht : ∀ b ys, H b = some (.tup ys) → H' b = some (.tup ys)) : NT H' kvs xs :=
  Paired.mapP r fun _ _ z => ⟨z.1, z.2.1.keeps ht, z.2.2⟩
theorem NdAt.keeps {P : Program} {w : World} {H H' : Hp} {a : Addr} {kvs : List (NKey × V)} (x : NdAt P w H a kvs) (ht : ∀ b ys, H b = some (.tup ys) → H' b = some (.tup ys)) (ha : H' a = H a) : NdAt P w H' a kvs := by
  obtain ⟨h1, h2, xs, r, h3⟩ := x
  exact ⟨h1, h2, xs, r.keeps ht, by rw [ha]; exact h3⟩
theorem NT.val {H : Hp} {kvs : List (NKey × V)} {xs : List (NKey × Addr × Value)} (r : NT H kvs xs) (k : NKey) : RelO (valV kvs k) ((atKey xs k).map (·.2)) := by
  induction r with
  | nil => exact True.intro
  | @cons p q ps qs h t ih =>
    obtain ⟨h1, _, h2⟩ := h
    by_cases e : p.1 = k
    · have b : atKey (q :: qs) k = some q.2 := by simp [atKey, List.find?_cons, h1.symm.trans e]
      rw [valV_pos e, b]
      exact h2
    · have e' : ¬ q.1 = k := fun z => e (h1.trans z)
      have b : atKey (q :: qs) k = atKey qs k := by simp [atKey, List.find?_cons, e']
      rw [valV_neg e, b]
      exact ih
theorem NT.new {H : Hp} {kvs : List (NKey × V)} {xs : List (NKey × Addr × Value)} (r : NT H kvs xs) {k : NKey} {b : Addr} {y : V} {u : Value} (hk : valV kvs k = none) (hb : NKAt H k b) (ry : RelV y u) : NT H (kvs ++ [(k, y)]) (storedH xs k b u) := by
  have e := (r.val k).isSome_eq
  rw [hk, Option.isSome_map] at e
  have hn : atKey xs k = none := by
    cases h : atKey xs k with
    | none => rfl
    | some p => rw [h] at e; cases e
  rw [storedH_new hn]
  exact Paired.snoc r ⟨rfl, hb, ry⟩
section
variable {P : Program} {w : World} {H : Hp} {h : Heap} {a : Addr}
theorem nkey_of {k : NKey} (ok : HOk P w H h) (e : NKAt H k a) : (nestKind (mixKind P w)).is h k a := by
  obtain ⟨b, h1, h2⟩ := e
  obtain ⟨_, its, r, o, g1, g2, n, g3⟩ := (show ObjOk P w H h a (.tup [kV k.1, .ref b]) from ok a _ h1)
  obtain ⟨u1, u2, rfl, r1, r2⟩ := vals2 r
  obtain rfl : u2 = Value.ref b := r2
  exact ⟨o, u1, b, _, g1, g2, g3, kV_is r1, key_of ok h2⟩
theorem nd_rd {kvs : List (NKey × V)} (ok : HOk P w H h) (e : NdAt P w H a kvs) : kvs.length ≤ sizeLine ∧ (a == sysModules) = false ∧ ∃ xs, NT H kvs xs ∧ H a = some (NdO P w a xs) ∧ h.DictOfH (nestKind (mixKind P w)) a xs := by
  obtain ⟨z, y, xs, r, h3⟩ := e
  obtain ⟨⟨o, es, ep, g1, g2, g3, g4, g5⟩, _⟩ := (show ObjOk P w H h a (NdO P w a xs) from ok a _ h3)
  refine ⟨z, y, xs, r, h3, o, es, ep, g1, g2, g3, g4, fun x hx => ?_, g5⟩
  have all : ∀ {l : List (NKey × V)} {m : List (NKey × Addr × Value)}, NT H l m → ∀ x ∈ m, (nestKind (mixKind P w)).is h x.1 x.2.1 := by
    intro l m q
    induction q with
    | nil => intro x hx; exact nomatch hx
    | @cons p q ps qs hq t ih =>
      intro x hx
      rcases List.mem_cons.mp hx with e | hx
      · subst e
        exact nkey_of ok (by rw [← hq.1]; exact hq.2.1)
      · exact ih x hx
  exact all r x hx
theorem ndO_ok {xs : List (NKey × Addr × Value)} (dd : h.DictOfH (nestKind (mixKind P w)) a xs) : ObjOk P w H h a (NdO P w a xs) := by
  obtain ⟨o, es, ep, g1, g2, g3, g4, _, g5⟩ := dd
  exact ⟨⟨o, es, ep, g1, g2, g3, g4, g5⟩, ⟨o, g1⟩, fun h1 h2 ⟨o', es', ep', q1, q2⟩ k => ⟨o', es', ep', k _ q1, q2⟩⟩
end
section
variable {X : Cx} {pins : List (Addr × Obj)} {σ : St} {H : Hp} {s : Shared} {a b : Addr} {kvs : List (NKey × V)} {k : NKey} {v : V} {r : Value} {A : Around} {E : Value → Shared → Prop}
theorem nest_room (hu : A.units + 2 < cLine) : (nestKind (mixKind X.prog X.w)).room A.in1 := hu
theorem nd_getItem {Q : Value → Shared → Prop} (hu : A.units + 2 < cLine) (I : Inv X pins σ H s) (e : NdAt X.prog X.w H a kvs) (eb : NKAt H k b) (l : valV kvs k = some v) (h : ∀ w' s', Inv X pins σ H s' → RelV v w' → Q w' s') :
    wpAny (model X.prog X.w) A (getItem (.ref a) (.ref b)) Q E s := by
  obtain ⟨z, hd, xs, rel, _, dd⟩ := nd_rd I.hok e
  obtain ⟨w', hw, rw'⟩ := RelO.some_of (v := v) (o := (atKey xs k).map (·.2)) (by rw [← l]; exact rel.val k)
  obtain ⟨p, hp, hp2⟩ := Option.map_eq_some_iff.mp hw
  refine wpAny_getItem_heap (nest_room hu) (nkey_of I.hok eb) dd hp ?_
  rw [hp2]
  exact h w' _ (I.tok _) rw'
/-- d[k] = v, k not yet there -/
theorem nd_setNew {Q : Unit → Shared → Prop} (hu : A.units + 2 < cLine) (I : Inv X pins σ H s) (e : NdAt X.prog X.w H a kvs) (eb : NKAt H k b) (l : valV kvs k = none) (hl : kvs.length < sizeLine) (rv : RelV v r)
    (h : ∀ H' s', (∀ c, c ≠ a → H' c = H c) → NdAt X.prog X.w H' a (kvs ++ [(k, v)]) → Inv X pins σ H' s' → Q () s') : wpAny (model X.prog X.w) A (setItem (.ref a) (.ref b) r) Q E s := by
  obtain ⟨z, hd, xs, rel, ha, dd⟩ := nd_rd I.hok e
  have hz : xs.length ≤ sizeLine := by rw [← Paired.length rel]; exact z
  refine wpAny_setItem_heap (hsz := hz) (nest_room hu) (nkey_of I.hok eb) dd fun h' dd' hs => ?_
  obtain ⟨q, hq⟩ : ∃ q, h'.get? a = some q := let ⟨q, _, _, hq, _⟩ := dd'; ⟨q, hq⟩
  have ot : ∀ c, c ≠ a → upd H a (NdO X.prog X.w a (storedH xs k b r)) c = H c := fun c hc => upd_ne hc
  refine h (upd H a (NdO X.prog X.w a (storedH xs k b r))) _ ot ⟨by rw [List.length_append]; exact hl, hd, _, (rel.new l eb rv).keeps fun c ys ec => ?_, upd_same⟩ (d_write I (by rw [ha]; exact True.intro) hs ⟨q, hq⟩ (ndO_ok dd'))
  rw [upd_ne (fun e => by rw [e, ha] at ec; cases ec)]
  exact ec
end
/-- d[k] -/
def tNGet (P : Program) (w : World) (td ty : TE) : TE := fun σ H Q => td σ H fun x H1 => ty σ H1 fun y H2 => ∃ a b kvs k v, x = .ref a ∧ y = .ref b ∧ NdAt P w H2 a kvs ∧ NKAt H2 k b ∧ valV kvs k = some v ∧ Q v H2
/-- d[k] = v, k new -/
def sNPut (P : Program) (w : World) (td ty tv : TE) : TS := fun D σ H => tv σ H fun v H1 => td σ H1 fun x H2 => ty σ H2 fun y H3 => ∃ a b kvs k, x = .ref a ∧ y = .ref b ∧ NdAt P w H3 a kvs ∧ NKAt H3 k b ∧ valV kvs k = none ∧ kvs.length < sizeLine ∧
  ∀ H', (∀ c, c ≠ a → H' c = H3 c) → NdAt P w H' a (kvs ++ [(k, v)]) → D.nx σ H'
/-- {}, to be such a dict -/
def tNNew (P : Program) (w : World) : TE := fun _ H Q => ∀ p, H p = none → NdAt P w (upd H p (NdO P w p [])) p [] → Q (.ref p) (upd H p (NdO P w p []))
section
variable {X : Cx} {o i e value : Expr} {pos pos' tpos : Pos} {td ty tv : TE}
theorem pe_dnewN : PE X (.Dict [] [] pos) (tNNew X.prog X.w) := ⟨fun pins s σ H Q I h => by
  have hn : (s.heap.objs.size == sysModules) = false := beq_eq_false_iff_ne.mpr (Ne.symm (Nat.ne_of_lt I.big))
  have h0 := I.hok.fresh (Nat.le_refl s.heap.objs.size)
  refine wpAny_Dict_empty ⟨.ref s.heap.objs.size, _, I.laid (a := s.heap.objs.size) (o := NdO X.prog X.w s.heap.objs.size []) (t' := s.toks) (fun _ _ q => Heap.get?_push_of_some _ q) (Nat.le_refl _) (ndO_ok ⟨_, #[], 0, Heap.get?_push_size _ rfl, ⟨rfl, rfl, rfl⟩, rfl, rfl, (fun x hx => nomatch hx), List.nodup_nil⟩), rfl, h _ h0 ⟨Nat.zero_le _, hn, [], .nil, upd_same⟩⟩⟩
theorem nd_typeIs {pins : List (Addr × Obj)} {σ : St} {H : Hp} {s : Shared} {a : Addr} {kvs : List (NKey × V)} (I : Inv X pins σ H s) (g : NdAt X.prog X.w H a kvs) : s.TypeIs (.ref a) "dict" := by
  obtain ⟨_, _, xs, _, _, dd⟩ := nd_rd I.hok g
  exact dd.typeIs
theorem pe_nget (hu : X.A.units + 2 < cLine) (ho : PE X o td) (hi : PE X i ty) (hs : NoSl i) : PE X (.Subscript o i pos) (tNGet X.prog X.w td ty) := by
  refine ⟨fun pins s σ H Q I h => ?_⟩
  refine subD_of PySem.F.slot_dict_getitem.lookup hs (thn (ho.run pins s σ H _ I h) fun u s1 ⟨x, H1, I1, rx, q1⟩ => thn (hi.run pins s1 σ H1 _ I1 q1) fun iv s2 ⟨y, H2, I2, ry, a, b, kvs, k, v, ex, ey, g, gk, l, q2⟩ => ?_)
  subst ex ey
  obtain rfl : u = Value.ref a := rx
  obtain rfl : iv = Value.ref b := ry
  exact ⟨nd_typeIs I2 g, nd_getItem hu I2 g gk l fun w' s3 I3 rw' => ⟨v, H2, I3, rw', q2⟩⟩
theorem ps_nput (hu : X.A.units + 2 < cLine) (ho : PE X o td) (hi : PE X i ty) (hv : PE X value tv) (hs : swapsWith value (some (.Subscript o i pos')) pos.line X.env = pure false) :
    PS X (.Assign [.Subscript o i pos'] value pos) (sNPut X.prog X.w td ty tv) := by
  refine ⟨fun pins s σ H D I h => ?_⟩
  refine wpAny_Assign_Subscript (thn (hv.run pins s σ H _ I h) fun r s1 ⟨v, H1, I1, rv, q1⟩ => thn (ho.run pins s1 σ H1 _ I1 q1) fun u s2 ⟨x, H2, I2, rx, q2⟩ => thn (hi.run pins s2 σ H2 _ I2 q2) fun iv s3 ⟨y, H3, I3, ry, a, b, kvs, k, ex, ey, g, gk, l, hl, q3⟩ => ?_) hs
  subst ex ey
  obtain rfl : u = Value.ref a := rx
  obtain rfl : iv = Value.ref b := ry
  exact nd_setNew hu I3 g gk l hl rv fun H' s4 ot g' I4 => ⟨σ, H', I4, q3 H' ot g'⟩
end
end L2
end
section
set_option Elab.async false
set_option linter.all false
set_option maxRecDepth 100000
set_option maxHeartbeats 4000000
set_option autoImplicit false
namespace Lx
open PySem PySem.Spec PyProof.Rows L2 LamX NdefX
abbrev kdf : Key × V := (.inl 0, .non)
section
variable {X : Cx} {pins : List (Addr × Obj)} {σ : L2.St} {H H2 : Hp} {s : Shared}
theorem min_loopD {d it S q : Addr} {o : Obj} {kvs : List (Key × V)} {es : Array DictEntry} {ep : Nat} {kz : List PyData} {R : Result → Shared → Prop} (hh : X.A.handled = none) (hd : H2 d = some (.frz o (.dK kvs))) (hod : o.data = .dict es ep) (hlen : kz.length = kvs.length) (fi : FpOk X pins H2 it) (fS : FpOk X pins H2 S) (nSi : S ≠ it)
    (hal : PySem.W.AllAlike kz) (hnn : ∀ d, d ∈ kz → d ≠ .none) (hu : ∀ d, d ∈ kz → X.A.units + 1 + d.depth < cLine)
    (turn : ∀ (i : Nat) (k : Key) (x : V) (v : Value) (kd : PyData) (s' : Shared) (H' : Hp) (Qc E : Value → Shared → Prop), kvs[i]? = some (k, x) → RelV (kV k) v → kz[i]? = some kd → Inv X pins σ H' s' → Same H2 H' → (∀ u s'', CE X.stack X.prog X.w H' s' (fun r H'' => Same H' H'' ∧ Dp X.K H'' r kd) u s'' → Qc u s'') → wpAny (model X.prog X.w) X.A.in1 (call (.ref q) [v]) Qc E s')
    (hR : ∀ s' H' v, Inv X pins σ H' s' → Same H2 H' → RelV (kV (kvs.getD (bestK kz (kvs.length - 1)) kdf).1) v → R (.ok (.ret v)) s') :
    ∀ (r j : Nat) (s : Shared) (H' : Hp) (bv kb : Value) (rb : V) (c : Nat), kvs.length - (j + 1) = r → j + 1 ≤ kvs.length → Inv X pins σ H' s → Same H2 H' → H' it = none → H' S = none → s.heap.get? S = some (seqObj "list" #[bv, kb] c) → RelV (kV (kvs.getD (bestK kz j) kdf).1) bv → RelV rb kb → bestK kz j ≤ j → Dp X.K H' rb (kz.getD (bestK kz j) .none) → s.heap.IsKeyIter it d (j + 1) kvs.length ep →
      codeAny (model X.prog X.w) X.A (.builtin "min.loop" ⟨[.ref it, .ref q, .ref S], []⟩) R s := by
  have hname : (toString "min" ++ toString ".loop" : String) = "min.loop" := by decide
  have hlI : d ≠ it := fun z => by
    rw [z, fi.1] at hd
    cases hd
  have look : ∀ {s : Shared} {H' : Hp}, Inv X pins σ H' s → Same H2 H' → ∃ vs : List (Key × Value), KV kvs vs ∧ vs.length = kvs.length ∧ s.heap.DictAt (mixKind X.prog X.w) d vs ep := fun I s2 => by
    obtain ⟨hs, hgd, hx, es', ep', vs, hdt, hsz, kv, hm⟩ := I.frzK (s2 _ _ hd)
    obtain ⟨rfl, rfl⟩ := dict_ep hod hdt
    exact ⟨vs, kv, (Paired.length kv).symm, hm⟩
  intro r
  induction r with
  | zero =>
    intro j s H' bv kb rb c hr hj I s2 ni nS gS rv rk lj dk hit
    have hin : j + 1 = kvs.length := by omega
    obtain ⟨vs, kv, hl, hm⟩ := look I s2
    have W := Walks.dictKeys (prog := X.prog) (w := X.w) (knd := mixKind X.prog X.w) (A := X.A.in1) hh it d hlI vs ep
    refine codeAny_builtin PySem.F.entry_min_loop ?_
    rw [Around.under_plainId PySem.F.plain_min_loop _]
    show wpAny _ X.A.in1 (seqItems? (.ref S) >>= _) _ _ _
    refine wpAny_bind (wpAny_seqItems gS rfl ?_)
    show wpAny _ X.A.in1 (tryCatch (pyNext (.ref it)) _ >>= _) _ _ _
    refine wpAny_bind (wpAny_tryCatch (W.done _ _ _ ⟨by rw [hl, ← hin]; rw [← hin] at hit; exact hit, hm⟩ fun h' tk' hk' => ?_))
    have k1 : ∀ b o, b ≠ it → s.heap.get? b = some o → h'.get? b = some o := fun b o hb e => hk' b o (by simpa using hb) e
    have I1 : Inv X pins σ H' { s with heap := h', toks := tk' } := I.turned k1 ni fi.2.1 fi.2.2.2.1 fi.2.2.2.2.1 fi.2.2.2.2.2
    have hS' := k1 S _ nSi gS
    have s1 := Heap.SameBut.update h' S (Obj.mapSeq fun _ => (#[] : Array Value))
    show wpAny _ X.A.in1 (updateSeq S (fun _ => #[]) >>= _) _ _ _
    refine wpAny_bind ?_
    refine wpAny_updateSeq hS' rfl (wpAny_bind (wpAny_letGo (wpAny_pure ?_)))
    have I2 : Inv X pins σ H' { s with heap := h'.update S (Obj.mapSeq fun _ => (#[] : Array Value)), toks := tk' } := I1.turned (t' := tk') (fun b o hb e => (s1.2 b hb).trans e) nS fS.2.1 fS.2.2.2.1 fS.2.2.2.2.1 fS.2.2.2.2.2
    have ej : kvs.length - 1 = j := by omega
    rw [ej] at hR
    exact hR _ H' bv I2 s2 rv
  | succ r ih =>
    intro j s H' bv kb rb c hr hj I s2 ni nS gS rv rk lj dk hit
    have hlt : j + 1 < kvs.length := by omega
    obtain ⟨vs, kv, hl, hm⟩ := look I s2
    have W := Walks.dictKeys (prog := X.prog) (w := X.w) (knd := mixKind X.prog X.w) (A := X.A.in1) hh it d hlI vs ep
    refine codeAny_builtin PySem.F.entry_min_loop ?_
    rw [Around.under_plainId PySem.F.plain_min_loop _]
    show wpAny _ X.A.in1 (seqItems? (.ref S) >>= _) _ _ _
    refine wpAny_bind (wpAny_seqItems gS rfl ?_)
    show wpAny _ X.A.in1 (tryCatch (pyNext (.ref it)) _ >>= _) _ _ _
    refine wpAny_bind (wpAny_tryCatch (W.item (j + 1) _ _ _ (by rw [hl]; exact hlt) ⟨by rw [hl]; exact hit, hm⟩ fun v h' tk' hP hst' hk' => ?_))
    obtain ⟨ky, kx, hvx, hkey⟩ := hP
    have hkv := List.getElem?_eq_getElem hlt
    obtain ⟨u0, hu0, _⟩ := kv_get kv (show kvs[j + 1]? = some ((kvs[j + 1]).1, (kvs[j + 1]).2) from hkv)
    rw [hvx] at hu0
    obtain ⟨ek1, _⟩ := Prod.mk.inj (Option.some.inj hu0)
    have rkv : RelV (kV (kvs[j + 1]).1) v := by rw [← ek1]; exact relV_key (show keyIs ky v = true from hkey)
    have egd : kvs.getD (j + 1) kdf = kvs[j + 1] := by rw [List.getD_eq_getElem?_getD, hkv]; rfl
    have k1 : ∀ b o, b ≠ it → s.heap.get? b = some o → h'.get? b = some o := fun b o hb e => hk' b o (by simpa using hb) e
    have I1 : Inv X pins σ H' { s with heap := h', toks := tk' } := I.turned k1 ni fi.2.1 fi.2.2.2.1 fi.2.2.2.2.1 fi.2.2.2.2.2
    have gS1 := k1 S _ nSi gS
    obtain ⟨oI, goI, hoc, hod'⟩ := id hst'.1
    obtain ⟨k, hk⟩ : ∃ k, kz[j + 1]? = some k := ⟨_, List.getElem?_eq_getElem (by omega)⟩
    have ek : kz.getD (j + 1) .none = k := by rw [List.getD_eq_getElem?_getD, hk]; rfl
    show wpAny _ X.A.in1 (tryCatch (holding [v] (call (.ref q) [v])) _ >>= _) _ _ _
    refine wpAny_bind (wpAny_tryCatch (wpAny_holding (turn (j + 1) _ _ v k _ H' _ _ hkv rkv hk I1 s2 fun u s'' ce => ?_)))
    obtain ⟨rn, H3, I3, un, rrn, s3, dn⟩ := after_un I1 ce
    have gS3 := un.keep S _ gS1 nS (fp_nst I1 fS) (by simp)
    have gI3 := un.keep it _ goI ni (fp_nst I1 fi) (by simp)
    have nS3 := un.free S _ gS1 nS (by simp)
    have ni3 := un.free it _ goI ni (by simp)
    have s23 := s2.trans s3
    obtain ⟨b1, r1⟩ := Dp.reads I3 _ _ _ dn rrn
    have dk3 := dp_same s3 dk
    obtain ⟨b2, r2⟩ := Dp.reads I3 _ _ _ dk3 rk
    have hb : bestK kz j < kz.length := by omega
    have mb : kz.getD (bestK kz j) .none ∈ kz := by
      rw [List.getD_eq_getElem?_getD, List.getElem?_eq_getElem hb]
      exact List.getElem_mem hb
    have mk : k ∈ kz := List.mem_of_getElem? hk
    have hit3 : s''.heap.IsKeyIter it d (j + 1 + 1) kvs.length ep := by rw [hl] at hod'; exact ⟨oI, gI3, hoc, hod'⟩
    show wpAny _ X.A.in1 (tryCatch (holding [v, u] (richCompare .Lt u kb >>= _)) _ >>= _) _ _ _
    refine wpAny_bind (wpAny_tryCatch (wpAny_holding (wpAny_bind (PySem.W.lt_data r1 r2 (hal k mk _ mb) (hnn k mk) (Nat.lt_of_le_of_lt (Nat.add_le_add_left (Nat.min_le_left _ _) _) (hu k mk)) ?_))))
    refine wpAny_bind (wpAny_holding (wpAny_truthy_bool ?_))
    refine wpAny_bind (wpAny_letGo (wpAny_pure ?_))
    have bs := bestK_succ kz j
    rw [ek] at bs
    cases hb' : PySem.W.dataLt k (kz.getD (bestK kz j) .none) with
    | true =>
      rw [hb', if_pos rfl] at bs
      have s1 := Heap.SameBut.update s''.heap S (Obj.mapSeq fun _ => #[v, u])
      obtain ⟨c2, hc2⟩ : ∃ c2, (s''.heap.update S (Obj.mapSeq fun _ => #[v, u])).get? S = some (seqObj "list" #[v, u] c2) := ⟨_, get?_update_seq gS3 fun _ => #[v, u]⟩
      simp only [if_true]
      refine wpAny_bind ?_
      refine wpAny_updateSeq gS3 rfl (wpAny_bind (wpAny_letGo ?_))
      rw [hname]
      have I4 : Inv X pins σ H3 { s'' with heap := s''.heap.update S (Obj.mapSeq fun _ => #[v, u]) } := I3.turned (t' := s''.toks) (fun b o hb e => (s1.2 b hb).trans e) nS3 fS.2.1 fS.2.2.2.1 fS.2.2.2.2.1 fS.2.2.2.2.2
      refine wpAny_pure ⟨plainId_quiet PySem.F.plain_min_loop _, ih (j + 1) _ H3 v u rn c2 (by omega) hlt I4 s23 ni3 nS3 hc2 (by rw [bs, egd]; exact rkv) rrn (by rw [bs]; exact Nat.le_refl _) (by rw [bs, ek]; exact dn) ?_⟩
      obtain ⟨oI', gI', hoc', hod''⟩ := hit3
      exact ⟨oI', (s1.2 it (Ne.symm nSi)).trans gI', hoc', hod''⟩
    | false =>
      rw [hb', if_neg (by decide)] at bs
      simp only [Bool.false_eq_true, if_false]
      refine wpAny_bind (wpAny_letGo ?_)
      rw [hname]
      refine wpAny_pure ⟨plainId_quiet PySem.F.plain_min_loop _, ih (j + 1) s'' H3 bv kb rb c (by omega) hlt I3 s23 ni3 nS3 gS3 (by rw [bs]; exact rv) rk (by rw [bs]; omega) (by rw [bs]; exact dk3) hit3⟩
theorem min_keyD {d q : Addr} {o : Obj} {kvs : List (Key × V)} {kz : List PyData} {Q : VK} (hh : X.A.handled = none) (I : Inv X pins σ H2 s) (hd : H2 d = some (.frz o (.dK kvs))) (hne : 0 < kvs.length) (hlen : kz.length = kvs.length)
    (hal : PySem.W.AllAlike kz) (hnn : ∀ d, d ∈ kz → d ≠ .none) (hu : ∀ d, d ∈ kz → X.A.units + 1 + d.depth < cLine)
    (turn : ∀ (i : Nat) (k : Key) (x : V) (v : Value) (kd : PyData) (s' : Shared) (H' : Hp) (Qc E : Value → Shared → Prop), kvs[i]? = some (k, x) → RelV (kV k) v → kz[i]? = some kd → Inv X pins σ H' s' → Same H2 H' → (∀ u s'', CE X.stack X.prog X.w H' s' (fun r H'' => Same H' H'' ∧ Dp X.K H'' r kd) u s'' → Qc u s'') → wpAny (model X.prog X.w) X.A.in1 (call (.ref q) [v]) Qc E s')
    (h : ∀ H' k x, Same H2 H' → kvs[bestK kz (kvs.length - 1)]? = some (k, x) → Q (kV k) H') :
    wpAny (model X.prog X.w) X.A (call (.builtin "min") [.ref d] [(Str.ofString "key", .ref q)]) (EP X pins σ Q) X.xe s := by
  have hname : (toString "min" ++ toString ".loop" : String) = "min.loop" := by decide
  obtain ⟨hsys, hgd, hx, es, ep, vs, hod, hsz, kv, hm⟩ := I.frzK hd
  have hvl : vs.length = kvs.length := (Paired.length kv).symm
  have hlt : d < s.heap.objs.size := Heap.lt_size hgd
  refine kmk_tree PySem.F.kind_min PySem.F.plain_min PySem.F.entry_min (kmk_min_key _ _) ?_
  show wpAny _ X.A.in1 (Builtin.Builtins.bindParams "min" ["key", "default"] 0 ⟨[], [(Str.ofString "key", .ref q)]⟩ >>= _) _ _ s
  refine wpAny_bind (wpAny_of_eq (show Builtin.Builtins.bindParams "min" ["key", "default"] 0 ⟨[], [(Str.ofString "key", .ref q)]⟩ = pure [some (.ref q), none] from rfl) ?_)
  refine wpAny_bind (wpAny_pure ?_)
  refine wpAny_bind (wpAny_pyIter_dict hsys hm ?_)
  refine wpAny_bind (wpAny_newList ?_ (Nat.zero_le _))
  rw [hname, hvl]
  have hS : (s.heap.push { cls := .type "dict_keyiterator", data := .fields #[.ref d, .int 0 0, .int kvs.length 0, .int ep 0] }).objs.size = s.heap.objs.size + 1 := size_push' ..
  have kp : ∀ b o, s.heap.get? b = some o → ((s.heap.push { cls := .type "dict_keyiterator", data := .fields #[.ref d, .int 0 0, .int kvs.length 0, .int ep 0] }).push (seqObj "list" #[] 0)).get? b = some o := fun b o e => Heap.get?_push_of_some _ (Heap.get?_push_of_some _ e)
  have I0 : Inv X pins σ H2 { s with heap := (s.heap.push { cls := .type "dict_keyiterator", data := .fields #[.ref d, .int 0 0, .int kvs.length 0, .int ep 0] }).push (seqObj "list" #[] 0) } := I.kept (t' := s.toks) kp
  have fi : FpOk X pins H2 s.heap.objs.size := I.fpOk (Nat.le_refl _) (I.hok.fresh (Nat.le_refl _))
  have fS : FpOk X pins H2 (s.heap.objs.size + 1) := I.fpOk (Nat.le_succ _) (I.hok.fresh (Nat.le_succ _))
  have nSi : s.heap.objs.size + 1 ≠ s.heap.objs.size := Nat.succ_ne_self _
  have goI0 : ((s.heap.push { cls := .type "dict_keyiterator", data := .fields #[.ref d, .int 0 0, .int kvs.length 0, .int ep 0] }).push (seqObj "list" #[] 0)).get? s.heap.objs.size = some { cls := .type "dict_keyiterator", data := .fields #[.ref d, .int 0 0, .int kvs.length 0, .int ep 0] } :=
    Heap.get?_push_of_some _ (Heap.get?_push_size _ rfl)
  have gS0 : ((s.heap.push { cls := .type "dict_keyiterator", data := .fields #[.ref d, .int 0 0, .int kvs.length 0, .int ep 0] }).push (seqObj "list" #[] 0)).get? (s.heap.objs.size + 1) = some (seqObj "list" #[] 0) := by
    rw [← hS]
    exact Heap.get?_push_size _ rfl
  refine wpAny_pure ⟨plainId_quiet PySem.F.plain_min_loop _, ?_⟩
  show codeAny (model X.prog X.w) X.A (.builtin "min.loop" ⟨[.ref s.heap.objs.size, .ref q, .ref (s.heap.push { cls := .type "dict_keyiterator", data := .fields #[.ref d, .int 0 0, .int kvs.length 0, .int ep 0] }).objs.size], []⟩) _ { s with heap := (s.heap.push { cls := .type "dict_keyiterator", data := .fields #[.ref d, .int 0 0, .int kvs.length 0, .int ep 0] }).push (seqObj "list" #[] 0) }
  rw [hS]
  have hlI : d ≠ s.heap.objs.size := Nat.ne_of_lt hlt
  have W := Walks.dictKeys (prog := X.prog) (w := X.w) (knd := mixKind X.prog X.w) (A := X.A.in1) hh s.heap.objs.size d hlI vs ep
  refine codeAny_builtin PySem.F.entry_min_loop ?_
  rw [Around.under_plainId PySem.F.plain_min_loop _]
  show wpAny _ X.A.in1 (seqItems? (.ref (s.heap.objs.size + 1)) >>= _) _ _ _
  refine wpAny_bind (wpAny_seqItems gS0 rfl ?_)
  show wpAny _ X.A.in1 (tryCatch (pyNext (.ref s.heap.objs.size)) _ >>= _) _ _ _
  refine wpAny_bind (wpAny_tryCatch (W.item 0 _ _ _ (by rw [hvl]; exact hne) ⟨by rw [hvl]; exact ⟨_, goI0, rfl, rfl⟩, (hm.push _).push _⟩ fun v h' tk' hP hst' hk' => ?_))
  obtain ⟨ky, kx, hvx, hkey⟩ := hP
  have hkv := List.getElem?_eq_getElem hne
  obtain ⟨u0, hu0, _⟩ := kv_get kv (show kvs[0]? = some ((kvs[0]).1, (kvs[0]).2) from hkv)
  rw [hvx] at hu0
  obtain ⟨ek1, _⟩ := Prod.mk.inj (Option.some.inj hu0)
  have rkv : RelV (kV (kvs[0]).1) v := by rw [← ek1]; exact relV_key (show keyIs ky v = true from hkey)
  have egd : kvs.getD 0 kdf = kvs[0] := by rw [List.getD_eq_getElem?_getD, hkv]; rfl
  have k1 : ∀ b o, b ≠ s.heap.objs.size → ((s.heap.push { cls := .type "dict_keyiterator", data := .fields #[.ref d, .int 0 0, .int kvs.length 0, .int ep 0] }).push (seqObj "list" #[] 0)).get? b = some o → h'.get? b = some o := fun b o hb e => hk' b o (by simpa using hb) e
  have I1 : Inv X pins σ H2 { s with heap := h', toks := tk' } := I0.turned (t' := tk') k1 fi.1 fi.2.1 fi.2.2.2.1 fi.2.2.2.2.1 fi.2.2.2.2.2
  have gS1 := k1 _ _ nSi gS0
  obtain ⟨oI, goI, hoc, hod'⟩ := id hst'.1
  obtain ⟨k, hk⟩ : ∃ k, kz[0]? = some k := ⟨_, List.getElem?_eq_getElem (by omega)⟩
  have ek : kz.getD 0 .none = k := by rw [List.getD_eq_getElem?_getD, hk]; rfl
  show wpAny _ X.A.in1 (tryCatch (holding [v] (call (.ref q) [v])) _ >>= _) _ _ _
  refine wpAny_bind (wpAny_tryCatch (wpAny_holding (turn 0 _ _ v k _ H2 _ _ hkv rkv hk I1 (Same.refl H2) fun u s'' ce => ?_)))
  obtain ⟨rn, H3, I3, un, rrn, s3, dn⟩ := after_un I1 ce
  have gS3 := un.keep _ _ gS1 fS.1 (fp_nst I1 fS) (by simp)
  have gI3 := un.keep _ _ goI fi.1 (fp_nst I1 fi) (by simp)
  have nS3 := un.free _ _ gS1 fS.1 (by simp)
  have ni3 := un.free _ _ goI fi.1 (by simp)
  have s1 := Heap.SameBut.update s''.heap (s.heap.objs.size + 1) (Obj.mapSeq fun _ => #[v, u])
  obtain ⟨c2, hc2⟩ : ∃ c2, (s''.heap.update (s.heap.objs.size + 1) (Obj.mapSeq fun _ => #[v, u])).get? (s.heap.objs.size + 1) = some (seqObj "list" #[v, u] c2) := ⟨_, get?_update_seq gS3 fun _ => #[v, u]⟩
  have I4 : Inv X pins σ H3 { s'' with heap := s''.heap.update (s.heap.objs.size + 1) (Obj.mapSeq fun _ => #[v, u]) } := I3.turned (t' := s''.toks) (fun b o hb e => (s1.2 b hb).trans e) nS3 fS.2.1 fS.2.2.2.1 fS.2.2.2.2.1 fS.2.2.2.2.2
  show wpAny _ X.A.in1 (updateSeq (s.heap.objs.size + 1) (fun _ => #[v, u]) >>= _) _ _ _
  refine wpAny_bind ?_
  refine wpAny_updateSeq gS3 rfl ?_
  rw [hname]
  refine wpAny_pure ⟨plainId_quiet PySem.F.plain_min_loop _, min_loopD hh hd hod hlen fi fS nSi hal hnn hu turn (fun s' H' v' I' s2 rv' => ?_) _ 0 _ H3 v u rn c2 rfl hne I4 s3 ni3 nS3 hc2 (by show RelV (kV (kvs.getD 0 kdf).1) v; rw [egd]; exact rkv) rrn (Nat.le_refl _) (by show Dp X.K H3 rn (kz.getD 0 .none); rw [ek]; exact dn) ⟨oI, (s1.2 _ (Ne.symm nSi)).trans gI3, hoc, by rw [hvl] at hod'; exact hod'⟩⟩
  have hb : bestK kz (kvs.length - 1) < kvs.length := by
    have : ∀ j, bestK kz j ≤ j := fun j => by
      induction j with
      | zero => exact Nat.le_refl _
      | succ j ih =>
        rw [bestK_succ]
        split
        · exact Nat.le_refl _
        · omega
    have := this (kvs.length - 1)
    omega
  have e := List.getElem?_eq_getElem hb
  have eg : kvs.getD (bestK kz (kvs.length - 1)) kdf = kvs[bestK kz (kvs.length - 1)] := by rw [List.getD_eq_getElem?_getD, e]; rfl
  rw [eg] at rv'
  exact ⟨_, H', I', rv', h H' _ _ s2 e⟩
end
/-- the reading of min(d, key=lambda a: body), d a locked dict -/
def tMinLamD (T : List (Addr × Str)) (N : List Str) (js : List Nat) (K : PySem.W.Frag) (tb : TE) (ta : TA) : TE := fun σ H Q => ta σ H fun ys H1 => Tabs T H1 ∧ ∃ (d : Addr) (o : Obj) (kvs : List (Key × V)), ys = [.ref d] ∧ H1 d = some (.frz o (.dK kvs)) ∧ 0 < kvs.length ∧
  ∀ H2, ExtN H1 H2 → (∀ b, H2 b = none → H1 b = none) → Tabs T H2 → ∃ kz : List PyData, kz.length = kvs.length ∧ PySem.W.AllAlike kz ∧ (∀ d, d ∈ kz → d ≠ .none) ∧ (∀ d, d ∈ kz → d.depth ≤ 60) ∧
    (∀ (i : Nat) (k : Key) (x : V) (kd : PyData) (H' : Hp), kvs[i]? = some (k, x) → kz[i]? = some kd → Same H2 H' → tb (startF N [kV k] (js.map (slotAt σ))) H' fun r H'' => Same H' H'' ∧ Dp K H'' r kd) ∧
    ∀ H' k x, Same H2 H' → kvs[bestK kz (kvs.length - 1)]? = some (k, x) → Q (kV k) H'
section
variable {X : Cx}
theorem pe_minLamD {T : List (Addr × Str)} {c P : Addr} {N fr : List Str} {js : List Nat} {a : Str} {params : Arguments} {body e : Expr} {scope : Scope} {k : Nat} {tb : TE} {ta : TA} {p lpos kpos pos : Pos} (L : LamK X T c P N fr js a params body scope) (B : LamB X N k scope body tb) (hr : Room (k + 8) X.A)
    (hg : Gl X "min") (hm : X.mg "min" = none) (ha : PA X [e] ta)
    (hs : backTo pos (starEach [e] X.env) = (false, eval e X.env) :: backTo pos (starEach [] X.env) := by rfl) (hpl : (backTo pos (starEach [e] X.env)).any (·.1) = false := by rfl)
    (hall : (backToKw pos (keywordEach [⟨some "key", .Lambda params body scope lpos, kpos⟩] X.env)).all (·.1.isSome) = true := by rfl) (hnone : (backToKw pos (keywordEach [⟨some "key", .Lambda params body scope lpos, kpos⟩] X.env)).any (·.1.isNone) = false := by rfl) (hks : (backToKw pos (keywordEach [⟨some "key", .Lambda params body scope lpos, kpos⟩] X.env)).filterMap (·.1) = [Str.ofString "key"] := by rfl) :
    PE X (.Call (.Name "min" p) [e] [⟨some "key", .Lambda params body scope lpos, kpos⟩] pos) (tMinLamD T N js X.K tb ta) := by
  refine ⟨fun pins s σ H Q I h => ?_⟩
  refine wpAny_Call_Name_kw (ld_blt I hg hm rfl ?_ (by decide) (by decide))
  refine PyProof.Rows.callWith_kw (thn (ha.run pos pins s σ H _ I h) fun us s1 ⟨vs, H1, I1, r1, q1⟩ => ?_) hs hpl hall hnone
  · obtain ⟨hT, d, o, kvs, rfl, hd, hne, q⟩ := q1
    obtain rfl := Vals.ref1 r1
    show wpAny _ _ (evalAll ((do let v ← eval (.Lambda params body scope lpos) X.env; standAt pos; pure v) :: [])) _ _ s1
    refine wpAny_evalAll_cons (wpAny_bind (lam_made I1 L.TB L.code L.mem L.one hT L.dft (L.has I1.ok) fun f c' H2 s2 I2 eN nn T2 f0 f1 c1 => wpAny_bind (wpAny_standAt (wpAny_pure (wpAny_evalAll_nil ?_)))))
    obtain ⟨kz, k1, k2, k3, k4, k5, k6⟩ := q H2 eN nn T2
    rw [hks]
    have un := hr.un
    refine min_keyD hr.hd I2 (eN _ _ hd (fun _ e => nomatch e)) hne k1 k2 k3 (fun d hd => by have := k4 d hd; omega) (fun i ky x v kd s' H' Qc E hx rx hk I' s2 hq => ?_) k6
    exact wpAny_mono (lam_callC L B (A := X.A.in1) (E := E) (hr.mono (by omega)).in1 (fun e => e.in1) I' (s2 _ _ f1) (s2 _ _ c1) rx (k5 i ky x kd H' hx hk s2)) (fun u s'' z => hq u s'' z) (fun _ _ z => z)
end
end Lx
end
section
set_option Elab.async false
set_option linter.all false
set_option maxRecDepth 100000
set_option maxHeartbeats 4000000
set_option autoImplicit false
namespace PySem
section
variable {M : Model} {A : Around} {E : Value → Shared → Prop} {s₀ s : Shared} {m cm : Str → Option Value} {env : Env} {cs : List (Str × Addr)}
theorem stLC2 {n : Str} {v : Value} {Q : Unit → Shared → Prop} (x : InCallC s₀ env.locals m cs cm s) (hk : env.scope.kind = .function) (hl : env.kindOf n = some .local)
    (h : ∀ s', InCallC s₀ env.locals (fun y => if y = n then some v else m y) cs cm s' → Q () s') : wpAny M A (storeName env n v) Q E s := by
  refine wpAny_storeName_local hl x.toInCall.ns (fun h' hn' hs' => h _ ⟨⟨?_, hn', fun b o e => ?_, x.toInCall.fresh⟩, fun k c hc => ?_, x.apart, x.above⟩) (by rw [hk]; rfl)
  · obtain ⟨h₁, tk, rfl⟩ := x.toInCall.same
    exact ⟨h', _, rfl⟩
  · exact hs'.extBut b o (Nat.ne_of_lt (Nat.lt_of_lt_of_le (Heap.lt_size e) x.toInCall.fresh)) (x.toInCall.keep b o e)
  · exact (x.cell k c hc).sameBut hs' (Nat.ne_of_gt (x.above k c (mem_of_lookup hc)))
theorem stCC2 {n : Str} {c : Addr} {v : Value} {Q : Unit → Shared → Prop} (x : InCallC s₀ env.locals m cs cm s) (hk : env.scope.kind = .function) (hl : env.kindOf n = some .cell)
    (hc0 : env.cells.lookup n = some c) (hc : cs.lookup n = some c)
    (h : ∀ s', InCallC s₀ env.locals m cs (fun y => if y = n then some v else cm y) s' → Q () s') : wpAny M A (storeName env n v) Q E s := by
  have hLc := x.above n c (mem_of_lookup hc)
  refine wpAny_storeName_cell hk hl hc0 (x.cell n c hc) fun h' hc' hs' => h _ ⟨⟨?_, x.toInCall.ns.sameBut hs' (Nat.ne_of_lt hLc), fun b o e => ?_, x.toInCall.fresh⟩, fun k c' hk' => ?_, x.apart, x.above⟩
  · obtain ⟨h₁, tk, rfl⟩ := x.toInCall.same
    exact ⟨h', _, rfl⟩
  · exact hs'.extBut b o (Nat.ne_of_lt (Nat.lt_trans (Nat.lt_of_lt_of_le (Heap.lt_size e) x.toInCall.fresh) hLc)) (x.toInCall.keep b o e)
  · by_cases hkn : k = n
    · subst hkn
      rw [hc] at hk'; cases hk'
      simpa using hc'
    · rw [if_neg hkn]
      exact (x.cell k c' hk').sameBut hs' fun e => hkn (name_of_addr x.apart (mem_of_lookup hk') (e ▸ mem_of_lookup hc))
theorem wpAny_bindParams2 (f : Str × Value → PUnit → Sem (ForInStep PUnit)) (hf : ∀ n v u, f (n, v) u = (do storeName env n v; pure (.yield ⟨⟩))) (hk : env.scope.kind = .function) (hsub : ∀ n c, cs.lookup n = some c → env.cells.lookup n = some c) :
    ∀ (binds : List (Str × Value)) (m cm : Str → Option Value) (s : Shared) (Q : PUnit → Shared → Prop), InCallC s₀ env.locals m cs cm s →
      (∀ x ∈ binds, env.kindOf x.1 = some .local ∨ (env.kindOf x.1 = some .cell ∧ (cs.lookup x.1).isSome = true)) →
      (∀ s', InCallC s₀ env.locals (bindL env.kindOf binds m) cs (bindC env.kindOf binds cm) s' → Q ⟨⟩ s') → wpAny M A (forIn binds ⟨⟩ f) Q E s
  | [], m, cm, s, Q, x, _, h => by rw [List.forIn_nil]; exact wpAny_pure (h s x)
  | (n, v) :: r, m, cm, s, Q, x, hkind, h => by
    rw [List.forIn_cons, hf]
    have hr : ∀ y ∈ r, env.kindOf y.1 = some .local ∨ (env.kindOf y.1 = some .cell ∧ (cs.lookup y.1).isSome = true) := fun y hy => hkind y (List.mem_cons_of_mem _ hy)
    rcases hkind (n, v) List.mem_cons_self with hl | ⟨hl, hc⟩
    · refine wpAny_bind (wpAny_bind (stLC2 x hk hl fun s' x' => wpAny_pure (wpAny_bindParams2 f hf hk hsub r _ _ s' Q x' hr fun s'' x'' => h s'' ?_)))
      unfold bindL bindC; rw [if_pos hl, if_pos hl]; exact x''
    · obtain ⟨c, hc⟩ := Option.isSome_iff_exists.mp hc
      have hnl : ¬ env.kindOf n = some .local := by rw [hl]; decide
      refine wpAny_bind (wpAny_bind (stCC2 x hk hl (hsub n c hc) hc fun s' x' => wpAny_pure (wpAny_bindParams2 f hf hk hsub r _ _ s' Q x' hr fun s'' x'' => h s'' ?_)))
      unfold bindL bindC; rw [if_neg hnl, if_neg hnl]; exact x''
end
theorem cellsFrom_app : ∀ (names : List (Str × NameKind)) (n : Nat) (acc : List (Str × Addr)), cellsFrom n names acc = cellsFrom n names [] ++ acc
  | [], _, _ => rfl
  | (name, kind) :: r, n, acc => by
    unfold cellsFrom
    split
    · rw [cellsFrom_app r (n + 1) ((name, n) :: acc), cellsFrom_app r (n + 1) [(name, n)], List.append_assoc]
      rfl
    · exact cellsFrom_app r n acc
theorem cellsFrom_sub {names : List (Str × NameKind)} {n : Nat} {acc : List (Str × Addr)} {y : Str} {c : Addr} (h : (cellsFrom n names []).lookup y = some c) : (cellsFrom n names acc).lookup y = some c := by
  rw [cellsFrom_app, List.lookup_append, h]
  rfl
section
variable {M : Model} {A : Around} {E : Value → Shared → Prop} {s : Shared}
theorem wpAny_newFunctionEnv_cl {scope : Scope} {globals : Addr} {cl : List (Str × Addr)} {binds : List (Str × Value)} {qual : Str} {func : Option Addr} {code : Value} {builtins : Addr} {Q : Env → Shared → Prop}
    (hk : scope.kind = .function)
    (hkind : ∀ x ∈ binds, scope.names.lookup x.1 = some .local ∨ (scope.names.lookup x.1 = some .cell ∧ ((cellsFrom (s.heap.objs.size + 1) scope.names []).lookup x.1).isSome = true))
    (hQ : ∀ env, env = newEnv scope s.heap.objs.size globals (cellsFrom (s.heap.objs.size + 1) scope.names cl) qual func code none builtins →
      ∀ s', InCallC s env.locals (bindL env.kindOf binds fun _ => none) (cellsFrom (s.heap.objs.size + 1) scope.names []) (bindC env.kindOf binds fun _ => none) s' → Q env s') :
    wpAny M A (newFunctionEnv scope globals cl binds qual func code none builtins) Q E s := by
  simp only [newFunctionEnv, Option.isSome_none, Bool.false_eq_true, if_false]
  refine wpAny_bind (wpAny_alloc ?_)
  refine wpAny_bind (wpAny_layCells _ (fun name kind cells => by cases hkc : kind == NameKind.cell <;> simp [hkc]) _ _ _ _ ?_)
  have ok := cellsFrom_ok scope.names (s.heap.push { cls := .type "frame", data := .dict #[] }) (s.heap.objs.size + 1) [] ⟨fun _ _ hm => (nomatch hm), List.Pairwise.nil⟩ (by rw [Heap.size_push]; exact Nat.le_refl _)
  rw [Heap.size_push] at ok
  rw [show ({ s with heap := s.heap.push { cls := .type "frame", data := .dict #[] } } : Shared).heap.objs.size = s.heap.objs.size + 1 from Heap.size_push ..]
  refine wpAny_bind (wpAny_bindParams2 (s₀ := s) (env := newEnv scope s.heap.objs.size globals (cellsFrom (s.heap.objs.size + 1) scope.names cl) qual func code none builtins) (cs := cellsFrom (s.heap.objs.size + 1) scope.names [])
    _ (fun _ _ _ => rfl) hk (fun n c h => cellsFrom_sub h) binds (fun _ => none) (fun _ => none) _ _
    ⟨⟨⟨_, _, rfl⟩, (Heap.Ns.new s.heap (.type "frame")).keeps (pushCells_keeps _ _), fun b o e => pushCells_keeps _ _ b o (Heap.get?_push_of_some _ e), Nat.le_refl _⟩,
      fun n c hc => (ok.empty n c (mem_of_lookup hc)).1, ok.apart, fun n c hm => (ok.empty n c hm).2⟩
    hkind fun s' x => wpAny_pure (hQ _ rfl s' x))
end
end PySem
namespace NdefX
open PySem PySem.Spec PyProof.Rows L2 LamX
/-- as NScope, with parameters that may be cells -/
structure NScopeC (N ps fr : List Str) (sc : Scope) : Prop where
  kind : sc.kind = .function
  co : sc.isCoroutine = false
  gen : sc.isGenerator = false
  nd : N.Nodup
  pre : N.take (ps.length + fr.length) = ps ++ fr
  par : ∀ x ∈ ps, sc.names.lookup x = some .local ∨ sc.names.lookup x = some .cell
  free : ∀ y ∈ sc.names, y.2 = .free → y.1 ∈ fr
  frk : ∀ x ∈ fr, sc.names.lookup x = some .free
  nn : (sc.names.map (·.1)).Nodup
def nscCB (N ps fr : List Str) (sc : Scope) : Bool :=
  decide (sc.kind = .function) && !sc.isCoroutine && !sc.isGenerator && decide N.Nodup && decide (N.take (ps.length + fr.length) = ps ++ fr) && ps.all (fun x => decide (sc.names.lookup x = some .local) || decide (sc.names.lookup x = some .cell)) && sc.names.all (fun y => !decide (y.2 = .free) || decide (y.1 ∈ fr)) && fr.all (fun x => decide (sc.names.lookup x = some .free)) && decide (sc.names.map (·.1)).Nodup
theorem nscopeC_by {N ps fr : List Str} {sc : Scope} (h : nscCB N ps fr sc = true) : NScopeC N ps fr sc := by
  unfold nscCB at h
  simp only [Bool.and_eq_true, Bool.not_eq_true', decide_eq_true_eq, List.all_eq_true, Bool.or_eq_true, decide_eq_false_iff_not] at h
  obtain ⟨⟨⟨⟨⟨⟨⟨⟨h1, h2⟩, h3⟩, h4⟩, h5⟩, h6⟩, h8⟩, h9⟩, hA⟩ := h
  exact ⟨h1, h2, h3, h4, h5, h6, fun y hy e => (h8 y hy).elim (fun z => absurd e z) id, h9, hA⟩
theorem look_one {names : List (Str × NameKind)} (nn : (names.map (·.1)).Nodup) {y : Str} {k : NameKind} (h : (y, k) ∈ names) : names.lookup y = some k := by
  induction names with
  | nil => cases h
  | cons q names ih =>
    obtain ⟨a, b⟩ := q
    rw [List.map_cons] at nn
    obtain ⟨n1, n2⟩ := List.nodup_cons.mp nn
    rw [List.lookup_cons]
    rcases List.mem_cons.mp h with e | e
    · obtain ⟨e1, e2⟩ := Prod.mk.inj e
      subst e1
      subst e2
      simp
    · have : ¬ y = a := fun z => n1 (z ▸ List.mem_map.mpr ⟨(y, k), e, rfl⟩)
      rw [beq_eq_false_iff_ne.mpr this]
      exact ih n2 e
abbrev envFC (F : NF) (f L : Addr) : Env := PySem.W.envX F.qual F.scope L f (.ref F.c) (cellsFrom (L + 1) F.scope.names F.cl)
def ncxC (CX : CXT) (P : Program) (w : World) (K : PySem.W.Frag) (mg : Str → Option Value) (base : Heap) (N : List Str) (F : NF) (f : Addr) (A : Around) (outer : List Env) (s : Shared) (H : Hp) (E : XK) : Cx where
  prog := P
  w := w
  K := K
  mg := mg
  base := base
  A := A.deeper (envFC F f s.heap.objs.size)
  N := N
  s_0 := s
  H_0 := H
  env := envFC F f s.heap.objs.size
  outer := outer
  stack := envFC F f s.heap.objs.size :: outer
  ex := []
  calm := true
  fn := fun _ => false
  pn := []
  xe := fun e s' => wpAny (model P w) (A.deeper (envFC F f s.heap.objs.size)) (leaving (envFC F f s.heap.objs.size) e) (fun _ s'' => CX outer H s E e s'') (fun e' s'' => CX outer H s E e' s'') s'
section
variable {CX : CXT} {P : Program} {w : World} {K : PySem.W.Frag} {mg : Str → Option Value} {base : Heap} {N ps fr : List Str} {F : NF} {f : Addr} {A : Around} {outer : List Env} {s s1 : Shared} {H : Hp} {E : XK} {us : List Value} {vs : List V} {ws : List (Option V)}
theorem inv_startNC (S : NScopeC N ps fr F.scope) (hd : A.handled = none) (e0 : Env0 P w K mg base A outer s H) (hl : vs.length = ps.length) (r : Vals vs us) (C : CellsAt F.cl fr ws s.heap H)
    (x : InCallC s s.heap.objs.size (bindL (envFC F f s.heap.objs.size).kindOf (ps.zip us) fun _ => none) (cellsFrom (s.heap.objs.size + 1) F.scope.names []) (bindC (envFC F f s.heap.objs.size).kindOf (ps.zip us) fun _ => none) s1) :
    Inv (ncxC CX P w K mg base N F f A outer s H E) [] (startF N vs ws) H s1 := by
  have hpl : ps.length + fr.length ≤ N.length := by
    have q := congrArg List.length S.pre
    rw [List.length_take, List.length_append] at q
    omega
  obtain ⟨h1, tk, rfl, kp⟩ := x.done
  have noA : ∀ b : Addr, b ∉ (ncxC CX P w K mg base N F f A outer s H E).ex := fun b z => absurd (show b ∈ ([] : List Addr) from z) (by simp)
  have cellK : ∀ {c : Addr} {v : Option Value}, s.heap.IsCell c v → h1.IsCell c v := fun {c v} ⟨o, ho, hd⟩ => ⟨o, kp _ _ ho, hd⟩
  have split : ∀ y c, (cellsFrom (s.heap.objs.size + 1) F.scope.names F.cl).lookup y = some c → (cellsFrom (s.heap.objs.size + 1) F.scope.names []).lookup y = some c ∨ F.cl.lookup y = some c := fun y c h => by
    rw [cellsFrom_app, List.lookup_append] at h
    cases e : (cellsFrom (s.heap.objs.size + 1) F.scope.names []).lookup y with
    | some c' =>
      rw [e] at h
      exact .inl h
    | none =>
      rw [e] at h
      exact .inr h
  have clt : ∀ y c, F.cl.lookup y = some c → c < s.heap.objs.size := fun y c h => by
    obtain ⟨v, o, ho, _⟩ := (C.all y c h).2
    exact Heap.lt_size ho
  have oab : ∀ y c, (cellsFrom (s.heap.objs.size + 1) F.scope.names []).lookup y = some c → s.heap.objs.size < c := fun y c h => x.above y c (PySem.mem_of_lookup h)
  have clos : ∀ y c, F.cl.lookup y = some c → (∀ c', (cellsFrom (s.heap.objs.size + 1) F.scope.names []).lookup y ≠ some c') → (cellsFrom (s.heap.objs.size + 1) F.scope.names F.cl).lookup y = some c := fun y c h n => by
    rw [cellsFrom_app, List.lookup_append]
    cases e : (cellsFrom (s.heap.objs.size + 1) F.scope.names []).lookup y with
    | some c' => exact absurd e (n c')
    | none => rw [h]; rfl
  have notown : ∀ y, F.scope.names.lookup y = some .free → ∀ c', (cellsFrom (s.heap.objs.size + 1) F.scope.names []).lookup y ≠ some c' := fun y hy c' h => by
    have hm : ∀ (names : List (Str × NameKind)) (n : Nat) (acc : List (Str × Addr)), (y, c') ∈ cellsFrom n names acc → (y, c') ∈ acc ∨ (y, NameKind.cell) ∈ names := fun names => by
      induction names with
      | nil => intro n acc h; exact .inl h
      | cons q names ih =>
        intro n acc h
        obtain ⟨nm, kd⟩ := q
        unfold cellsFrom at h
        split at h
        · rename_i hk
          rcases ih _ _ h with z | z
          · rcases List.mem_cons.mp z with z | z
            · obtain ⟨e1, e2⟩ := Prod.mk.inj z
              rw [e1]
              have : kd = .cell := by simpa using hk
              rw [this]
              exact .inr List.mem_cons_self
            · exact .inl z
          · exact .inr (List.mem_cons_of_mem _ z)
        · rcases ih _ _ h with z | z
          · exact .inl z
          · exact .inr (List.mem_cons_of_mem _ z)
    rcases hm _ _ _ (PySem.mem_of_lookup h) with z | z
    · cases z
    · have := look_one S.nn z
      rw [hy] at this
      cases this
  have ndP : ps.Nodup := by
    have q := S.nd.sublist (List.take_sublist (ps.length + fr.length) N)
    rw [S.pre] at q
    exact (List.nodup_append.mp q).1
  refine ⟨⟨e0.mod, S.kind, rfl, rfl, Nat.le_refl _, fun y z c g1 g2 => ?_, fun y hy => ?_, fun y c z _ => ?_, fun _ => hd, Around.frames_deeper e0.frames, .inr ⟨rfl, rfl⟩, fun b z => absurd z (noA b), e0.bs, e0.bsz, fun b _ _ => noA b,
      fun b z => absurd z (noA b), e0.funs, e0.frf⟩,
    rfl, e0.bare, Un.kept kp, ⟨_, x.toInCall.ns, fun i y v e1 e2 e3 => ?_⟩, fun y c e => ?_, e0.hok.fresh (Nat.le_refl _), fun y c e => ?_, fun q hq => absurd (show q ∈ ([] : List (Addr × Obj)) ++ [] from hq) (by simp), e0.hok.kept kp, ?_⟩
  · rcases split y c g1 with a | a
    · rcases split z c g2 with b | b
      · exact name_of_addr x.apart (PySem.mem_of_lookup a) (PySem.mem_of_lookup b)
      · exact absurd (Nat.lt_trans (oab y c a) (clt z c b)) (Nat.lt_irrefl _)
    · rcases split z c g2 with b | b
      · exact absurd (Nat.lt_trans (oab z c b) (clt y c a)) (Nat.lt_irrefl _)
      · exact C.inj y z c a b
  · have hy : F.scope.names.lookup y = some .cell ∨ F.scope.names.lookup y = some .free := hy
    rcases hy with hy | hy
    · obtain ⟨c, hc⟩ := cell_has (n := s.heap.objs.size + 1) hy
      exact ⟨c, cellsFrom_sub hc⟩
    · obtain ⟨i, hi⟩ := List.mem_iff_getElem?.mp (S.free _ (PySem.mem_of_lookup hy) rfl)
      obtain ⟨c, hc, _⟩ := C.has i y hi
      exact ⟨c, clos y c hc (notown y hy)⟩
  · have z : false = true := z
    cases z
  · have e1 : N[i]? = some y := e1
    have clen := C.len
    unfold startF at e2
    by_cases h1 : i < ps.length
    · have hq : (ps ++ fr)[i]? = some y := by
        rw [← S.pre, List.getElem?_take_of_lt (by omega)]
        exact e1
      rw [List.getElem?_append_left h1] at hq
      rw [List.getElem?_append_left (by rw [List.length_map]; omega), List.getElem?_map] at e2
      have ha : vs[i]? = some v := by
        cases e : vs[i]? with
        | none => rw [e] at e2; cases e2
        | some a => rw [e] at e2; cases e2; rfl
      obtain ⟨u, hu, rv⟩ := r.get ha
      refine ⟨u, rv, ?_⟩
      rcases S.par y (List.mem_of_getElem? hq) with k | k
      · exact .inl ⟨k, bindL_get ndP hq hu k⟩
      · obtain ⟨c, e⟩ := cell_has (n := s.heap.objs.size + 1) k
        refine .inr ⟨.inl k, c, cellsFrom_sub e, ?_⟩
        have q := x.cell y c e
        rw [bindC_get ndP hq hu (by show F.scope.names.lookup y ≠ _; rw [k]; decide)] at q
        exact q
    · rw [List.getElem?_append_right (by rw [List.length_map]; omega), List.length_map] at e2
      by_cases h2 : i < ps.length + fr.length
      · have hq : (ps ++ fr)[i]? = some y := by
          rw [← S.pre, List.getElem?_take_of_lt (by omega)]
          exact e1
        rw [List.getElem?_append_right (by omega)] at hq
        rw [List.getElem?_append_left (by omega), hl] at e2
        obtain ⟨c, hc, hv⟩ := C.has (i - ps.length) y hq
        obtain ⟨u, ru, hu⟩ := hv v e2
        have hfr := S.frk y (List.mem_of_getElem? hq)
        exact ⟨u, ru, .inr ⟨.inr hfr, c, clos y c hc (notown y hfr), cellK hu⟩⟩
      · rw [List.getElem?_append_right (by omega), List.getElem?_replicate] at e2
        split at e2 <;> cases e2
  · rcases split y c e with a | a
    · exact ⟨_, x.cell y c a⟩
    · obtain ⟨v, z⟩ := (C.all y c a).2
      exact ⟨v, cellK z⟩
  · rcases split y c e with a | a
    · exact e0.hok.fresh (Nat.le_of_lt (oab y c a))
    · exact (C.all y c a).1
  · have clen := C.len
    unfold startF
    show _ = N.length
    rw [List.length_append, List.length_append, List.length_map, List.length_replicate]
    omega
end
section
variable {CX : CXT} {P : Program} {w : World} {K : PySem.W.Frag} {mg : Str → Option Value} {base : Heap} {N ps fr : List Str} {F : NF} {f : Addr} {k j : Nat} {sp : List (Option V) → Sp}
/-- THE RULE: a nested def with cells of its own, by its body -/
theorem nokC_of (S : NScopeC N ps fr F.scope) (hb : ∀ (doc pm ctv : Value) (us : List Value), us.length = ps.length → bindArgs (F.fd doc pm ctv) ⟨us, []⟩ = pure (ps.zip us)) (len : ∀ ws vs H Q E, sp ws vs H Q E → vs.length = ps.length)
    (hbody : ∀ (A : Around) (outer : List Env) (s : Shared) (H : Hp) (vs : List V) (ws : List (Option V)) (Q : VK) (E : XK), Room k (A.deeper (envFC F f s.heap.objs.size)) → H f = some (FnO f F) → H F.c = some (CodeO F.c F.qual) → ws.length = fr.length → sp ws vs H Q E →
      ∃ t, PSs (ncxC CX P w K mg base N F f A outer s H E) F.body t ∧ t { nx := fun _ H' => Q .non H', rt := Q } (startF N vs ws) H) :
    NOk P w K mg base CX (k + 1) f F ps fr sp := by
  refine ⟨len, fun A outer s H us vs ws Q E hr e0 hf hc C r hsp => ?_⟩
  have hl := len _ _ _ _ _ hsp
  have lim : s.heap.NoLimit := e0.mod.nolimit.keeps fun b o e => (e0.bs b o e).1
  obtain ⟨od, sl, doc, pm, ctv, ho⟩ := fnO_at e0.hok hf
  have hkind : ∀ y ∈ ps.zip us, F.scope.names.lookup y.1 = some .local ∨ (F.scope.names.lookup y.1 = some .cell ∧ ((cellsFrom (s.heap.objs.size + 1) F.scope.names []).lookup y.1).isSome = true) := fun ⟨n, v⟩ hy => by
    rcases S.par n (List.of_mem_zip hy).1 with q | q
    · exact .inl q
    · exact .inr ⟨q, PySem.W.cellsFrom_some _ _ _ (.inl q)⟩
  refine codeAny_call_function hr.depth ho rfl S.co S.gen rfl (codeO_at e0.hok hc) ?_
  rw [hb doc pm ctv us (by rw [← r.length]; exact hl)]
  refine wpAny_pure (wpAny_newFunctionEnv_cl S.kind hkind fun env he s1 x => ?_)
  subst he
  refine ⟨lim.keeps x.toInCall.keep, codeAny_func ?_⟩
  obtain ⟨t, ht, hq⟩ := hbody A outer s H vs ws Q E (hr.deeper _) hf hc C.len hsp
  have I : Inv (ncxC CX P w K mg base N F f A outer s H E) [] (startF N vs ws) H s1 := inv_startNC S hr.hd e0 hl r C x
  refine wpAny_mono (ht.run [] _ (startF N vs ws) H _ I hq) (fun fl s' hs => ?_) fun e s' hs => hs
  have fin : ∀ {σ' : L2.St} {H' : Hp} {v : V} {u : Value}, Inv (ncxC CX P w K mg base N F f A outer s H E) [] σ' H' s' → L2.RelV v u → Q v H' → CE outer P w H s Q u s' :=
    fun {σ' H' v u} J rv q => ⟨v, H', J.os, J.bare, J.base, J.hok, rv, q⟩
  cases fl with
  | ret u =>
    obtain ⟨v, σ', H', J, rv, q⟩ := hs
    exact fin J rv q
  | next =>
    obtain ⟨σ', H', J, q⟩ := hs
    exact fin (v := V.non) (u := Value.none) J rfl q
  | brk =>
    obtain ⟨_, _, _, q⟩ := hs
    exact False.elim q
  | cont =>
    obtain ⟨_, _, _, q⟩ := hs
    exact False.elim q
end
theorem cells_later {X : Cx} {pins : List (Addr × Obj)} {σ : L2.St} {H : Hp} {s : Shared} {cl : List (Str × Addr)} {fr : List Str} {ws : List (Option V)} (C : CellsAt cl fr ws X.s_0.heap X.H_0) (hx : X.ex = []) (I : Inv X pins σ H s) : CellsAt cl fr ws s.heap H := by
  have nx : ∀ c : Addr, c ∉ X.ex := fun c z => by rw [hx] at z; cases z
  have kp : ∀ y c, cl.lookup y = some c → ∀ v, X.s_0.heap.IsCell c v → s.heap.IsCell c v := fun y c e v ⟨o, ho, hd⟩ => by
    obtain ⟨sl, h⟩ := I.base.any ho (C.all y c e).1 (nx c)
    exact ⟨_, h, hd⟩
  refine ⟨C.len, fun y c e => ?_, C.inj, fun i y e => ?_⟩
  · obtain ⟨n, v, z⟩ := C.all y c e
    refine ⟨?_, v, kp y c e v z⟩
    obtain ⟨o, ho, _⟩ := z
    exact I.base.free c o ho n (nx c)
  · obtain ⟨c, hc, hv⟩ := C.has i y e
    refine ⟨c, hc, fun v ev => ?_⟩
    obtain ⟨u, r, z⟩ := hv v ev
    exact ⟨u, r, kp y c hc _ z⟩
/-- f(..), a slot of a frame whose callers' cells f captured -/
def tCallF (F : NF) (i : Nat) (ws : List (Option V)) (sp : List (Option V) → Sp) (E : XK) (t : TA) : TE := fun σ H Q => ∃ f, σ[i]? = some (some (.ref f)) ∧ H f = some (FnO f F) ∧
  t σ H fun vs H1 => H1 f = some (FnO f F) ∧ H1 F.c = some (CodeO F.c F.qual) ∧ sp ws vs H1 Q E
section
variable {X : Cx} {CX : CXT} {F : NF} {ps fr : List Str} {ws : List (Option V)} {i j k : Nat} {x : Str} {sp : List (Option V) → Sp} {E : XK} {t : TA} {e : Expr} {es : List Expr} {p pos : Pos}
theorem pe_callF (C : CellsAt F.cl fr ws X.s_0.heap X.H_0) (hX : X.ex = []) (Fn : ∀ f, NOk X.prog X.w X.K X.mg X.base CX k f F ps fr sp) (hr : Room j X.A) (hk : k ≤ j) (hx : Passes CX X E) (hN : X.N[i]? = some x) (hv : Vis X.env.scope x) (ha : PA X (e :: es) t)
    (hd : (x == ("__debug__" : Str)) = false := by decide) (hcd : (x == ("__classdict__" : Str)) = false := by decide)
    (he : starEach (e :: es) X.env = (false, eval e X.env) :: starEach es X.env := by rfl) (hpl : (backTo pos (starEach es X.env)).any (·.1) = false := by rfl) :
    PE X (.Call (.Name x p) (e :: es) [] pos) (tCallF F i ws sp E t) := by
  refine ⟨fun pins s σ H Q I h => ?_⟩
  obtain ⟨f, hs, hf, ht⟩ := h
  refine wpAny_Call_Name_kw (thn ((pe_var (pos := p) hN hv hd hcd).run pins s σ H (fun v H1 => v = .ref f ∧ H1 = H) I ⟨.ref f, hs, rfl, rfl⟩) fun u s1 ⟨v, H1, I1, r1, q1⟩ => ?_)
  obtain ⟨ev, eH⟩ := q1
  subst ev
  rw [eH] at I1
  obtain rfl : u = Value.ref f := r1
  refine PySem.W.callWith_F (first := []) (fnAt_of I1 hf) (thn (ha.run pos pins s1 σ H _ I1 ht) fun us s2 ⟨vs, H2, I2, r, h1, h2, q⟩ => ⟨fnAt_of I2 h1, ?_⟩) he hpl
  show wpAny _ _ (call (.ref f) us) _ _ _
  refine wpAny_call (codeAny_mono ((Fn f).run X.A X.stack s2 H2 us vs ws Q E (hr.mono hk) I2.env0 h1 h2 (cells_later C hX I2) r q) fun r s' hq => ?_)
  cases r with
  | error e => exact hx pins σ H2 s2 e s' I2 hq
  | ok fl =>
    cases fl with
    | ret u => exact I2.after hq
    | next => exact False.elim hq
    | brk => exact False.elim hq
    | cont => exact False.elim hq
end
/-- the promise of a def that is handed such a function -/
structure FnOkC (P : Program) (w : World) (K : PySem.W.Frag) (mg : Str → Option Value) (base : Heap) (CX : CXT) (k : Nat) (f : Addr) (fd : FuncData) (ps fr : List Str) (sp : NF → List (Option V) → Sp) : Prop where
  len : ∀ F ws vs H Q E, sp F ws vs H Q E → vs.length = ps.length
  run : ∀ (F : NF) (ws : List (Option V)) (A : Around) (outer : List Env) (s : Shared) (H : Hp) (args : Args) (us : List Value) (vs : List V) (Q : VK) (E : XK), Room k A → Env0 P w K mg base A outer s H → BindsTo s fd args (ps.zip us) → CellsAt F.cl fr ws s.heap H → Vals vs us → sp F ws vs H Q E →
    codeAny (model P w) A (.call (.ref f) args) (CR CX outer P w H s Q E) s
theorem fnC_of {CX : CXT} {P : Program} {w : World} {K : PySem.W.Frag} {mg : Str → Option Value} {base : Heap} {k : Nat} {f : Addr} {x qual : Str} {params : Arguments} {body : List Stmt} {scope : Scope} {fd : FuncData} {dvs : List V} {kws : List (Str × V)}
    {N ps fr : List Str} {sp : NF → List (Option V) → Sp} (D : FunD K x qual params body scope dvs kws f fd) (S : FnScope N ps scope) (len : ∀ F ws vs H Q E, sp F ws vs H Q E → vs.length = ps.length)
    (hbody : ∀ (cdv : Value) (F : NF) (ws : List (Option V)) (A : Around) (outer : List Env) (s : Shared) (H : Hp) (vs : List V) (Q : VK) (E : XK), Room k (A.deeper (envOfC qual scope s.heap.objs.size f cdv)) → CellsAt F.cl fr ws s.heap H → sp F ws vs H Q E →
      ∃ t, PSs (cxOf CX P w K mg base N qual scope f cdv A outer s H E) body t ∧ t { nx := fun _ H' => Q .non H', rt := Q } (start N vs) H) :
    FnOkC P w K mg base CX (k + 1) f fd ps fr sp := by
  obtain ⟨oc, od, dV, kV, doc, pm, an, cdv, ct, osl, rfl, lk, hcd, _, _⟩ := D.ex
  refine ⟨len, fun F ws A outer s H args us vs Q E hr e0 hb C r hsp => ?_⟩
  have hl := len _ _ _ _ _ _ hsp
  have KX : K.In s.heap := e0.mod.kin.keeps fun b o e => (e0.bs b o e).1
  have lim : s.heap.NoLimit := e0.mod.nolimit.keeps fun b o e => (e0.bs b o e).1
  have hkind : ∀ y ∈ ps.zip us, scope.names.lookup y.1 = some .local ∨ (scope.names.lookup y.1 = some .cell ∧ ((cellsFrom (s.heap.objs.size + 1) scope.names []).lookup y.1).isSome = true) := fun ⟨n, v⟩ hy => by
    rcases S.par n (List.of_mem_zip hy).1 with q | q
    · exact .inl q
    · exact .inr ⟨q, PySem.W.cellsFrom_some _ _ _ (.inl q)⟩
  refine codeAny_call_function hr.depth (KX _ _ lk) rfl S.co S.gen rfl (PySem.W.codeRec_of KX hcd) (hb _ _ _ _ ?_)
  refine wpAny_newFunctionEnv_cells S.kind hkind fun env he s1 x => ?_
  subst he
  refine ⟨lim.keeps x.toInCall.keep, codeAny_func ?_⟩
  obtain ⟨t, ht, hq⟩ := hbody cdv F ws A outer s H vs Q E (hr.deeper _) C hsp
  have I : Inv (cxOf CX P w K mg base N qual scope f cdv A outer s H E) [] (start N vs) H s1 := inv_start S hr.hd e0 hl r x
  refine wpAny_mono (ht.run [] s1 (start N vs) H _ I hq) (fun fl s' hs => ?_) fun e s' hs => hs
  have fin : ∀ {σ' : L2.St} {H' : Hp} {v : V} {u : Value}, Inv (cxOf CX P w K mg base N qual scope f cdv A outer s H E) [] σ' H' s' → RelV v u → Q v H' → CE outer P w H s Q u s' :=
    fun {σ' H' v u} J rv q => ⟨v, H', J.os, J.bare, J.base, J.hok, rv, q⟩
  cases fl with
  | ret u =>
    obtain ⟨v, σ', H', J, rv, q⟩ := hs
    exact fin J rv q
  | next =>
    obtain ⟨σ', H', J, q⟩ := hs
    exact fin (v := V.non) (u := Value.none) J rfl q
  | brk =>
    obtain ⟨_, _, _, q⟩ := hs
    exact False.elim q
  | cont =>
    obtain ⟨_, _, _, q⟩ := hs
    exact False.elim q
/-- C(.., f), f a function that captured cells of the frame that calls -/
def tMakeC (C : Addr) (mk : Addr → NF) (js : List Nat) (sp : NF → List (Option V) → Sp) (E : XK) (t : TA) : TE := fun σ H Q => t σ H fun vs H1 => ∃ c', ∀ x dx, H1 x = none → H1 dx = none → dx ≠ x →
  sp (mk c') (js.map (slotAt σ)) (V.ref x :: vs) (upd (upd H1 dx (.own x)) x (.ins C dx [])) (fun v H2 => v = .non ∧ Q (.ref x) H2) E
section
variable {X : Cx} {CX : CXT} {mk : Addr → NF} {cl : List (Str × Addr)} {k : Nat} {f C : Addr} {fd : FuncData} {ps fr : List Str} {js : List Nat} {sp : NF → List (Option V) → Sp} {E : XK} {x : Str} {e : Expr} {es : List Expr} {t : TA} {p pos : Pos}
theorem pe_makeC (M : Mk X.K C f) (F : FnOkC X.prog X.w X.K X.mg X.base CX k f fd ps fr sp) (hcl : ∀ c', (mk c').cl = cl) (cp : X.Ok → Caps X cl fr js) (hr : Room (k + 1) X.A) (hg : Gl X x) (hm : X.mg x = some (.ref C)) (hb : Binds X.K fd ps []) (hx : Passes CX X E)
    (ha : PA X (e :: es) t) (hdb : (x == ("__debug__" : Str)) = false := by decide) (he : starEach (e :: es) X.env = (false, eval e X.env) :: starEach es X.env := by rfl) (hpl : (backTo pos (starEach es X.env)).any (·.1) = false := by rfl) :
    PE X (.Call (.Name x p) (e :: es) [] pos) (tMakeC C mk js sp E t) := by
  refine ⟨fun pins s σ H Q I h => ?_⟩
  refine wpAny_Call_Name_kw (ld_glob I hg hm ?_ hdb)
  refine PySem.W.callWith_K (h₀ := X.base) I.ok.mod.kin M.kp (thn (ha.run pos pins s σ H _ I h) fun us s1 ⟨vs, H1, I1, r, c', q⟩ => ⟨I1.kIn, ?_⟩) he hpl
  have hq := q (s1.heap.objs.size + 1) s1.heap.objs.size (I1.hok.fresh (Nat.le_succ _)) (I1.hok.fresh (Nat.le_refl _)) (Nat.ne_of_lt (Nat.lt_succ_self _))
  have I2 := Inv.made (C := C) I1
  have r2 : Vals (V.ref (s1.heap.objs.size + 1) :: vs) (Value.ref (s1.heap.objs.size + 1) :: us) := .cons rfl r
  have hl : (Value.ref (s1.heap.objs.size + 1) :: us).length = ps.length := by
    have e := r2.length
    rw [F.len _ _ _ _ _ _ hq] at e
    exact e.symm
  have hbt := hb _ (Value.ref (s1.heap.objs.size + 1) :: us) I2.kIn (by rw [List.append_nil]; exact hl)
  rw [List.append_nil] at hbt
  refine wpAny_call (make_map (f := f) I1.kIn M.makes M.init (beq_iff_eq.mp M.fn) (codeAny_mono (F.run (mk c') (js.map (slotAt σ)) _ X.stack _ _ ⟨Value.ref (s1.heap.objs.size + 1) :: us, []⟩ (Value.ref (s1.heap.objs.size + 1) :: us) _ _ E (hr.make C us []) (I2.env0.make C us []) hbt (by rw [hcl c']; exact cells_of I2 (cp I2.ok)) r2 hq) fun r s' hq' => ?_))
  cases r with
  | error e => exact hx pins σ _ _ e s' I2 hq'
  | ok fl =>
    cases fl with
    | ret u =>
      obtain ⟨v, H', I3, rv, ev, q3⟩ := I2.after hq'
      subst ev
      exact ⟨rv, ⟨V.ref (s1.heap.objs.size + 1), H', I3, rfl, q3⟩⟩
    | next => exact False.elim hq'
    | brk => exact False.elim hq'
    | cont => exact False.elim hq'
end
end NdefX
end
section
set_option Elab.async false
set_option linter.all false
set_option maxRecDepth 100000
set_option maxHeartbeats 2000000
namespace HT
open PySem PySem.Spec PyProof.Rows
section
variable {prog : Program} {w : World} {A : Around} {E : Value → Shared → Prop} {s : Shared}
theorem adjust_rev (n : Nat) : Builtin.Slice.sliceAdjust none none (-1) (n : Int) = ((n : Int) - 1, -1) := by
  first
  | rfl
  | simp [Builtin.Slice.sliceAdjust]
theorem places_rev (n : Nat) : Builtin.Slice.slicePlaces ((n : Int) - 1) (-1) (-1) = n := by
  unfold Builtin.Slice.slicePlaces
  have h1 : ¬ ((-1 : Int) > 0) := by decide
  simp only [h1, if_false]
  split <;> (first | omega | (rw [show (- -1 : Int) = 1 by decide, Int.ediv_one]; omega) | (simp; omega))
theorem fm_congr {α β : Type} {f g : α → Option β} : ∀ {l : List α}, (∀ x ∈ l, f x = g x) → l.filterMap f = l.filterMap g
  | [], _ => rfl
  | x :: r, h => by
    rw [List.filterMap_cons, List.filterMap_cons, h x List.mem_cons_self, fm_congr fun y hy => h y (List.mem_cons_of_mem _ hy)]
theorem pick_rev (xs : Array Value) : ((List.range xs.size).filterMap fun (m : Nat) => xs[((xs.size : Int) - 1 + (m : Int) * (-1)).toNat]?).toArray = xs.toList.reverse.toArray := by
  have e : ((List.range xs.size).filterMap fun (m : Nat) => xs[((xs.size : Int) - 1 + (m : Int) * (-1)).toNat]?) = ((List.range xs.size).map fun k => xs.size - 1 - k).filterMap (xs[·]?) := by
    rw [List.filterMap_map]
    refine fm_congr fun m hm => ?_
    have := List.mem_range.mp hm
    show xs[((xs.size : Int) - 1 + (m : Int) * (-1)).toNat]? = xs[xs.size - 1 - m]?
    rw [show ((xs.size : Int) - 1 + (m : Int) * (-1)).toNat = xs.size - 1 - m by omega]
  rw [e, PySem.W.krv_range, List.filterMap_reverse, PySem.W.krv_all]
theorem sliceApplied_rev {sl : Addr} {vl vu vs : Value} {n : Nat} {Q : Int × Int × Nat → Shared → Prop} (hs : s.heap.IsSliceOf sl vl vu vs) (pl : IsPart vl none) (pu : IsPart vu none) (ps : IsPart vs (some (-1)))
    (h : Q ((n : Int) - 1, -1, n) s) : wpAny (model prog w) A (Builtin.Slice.sliceApplied (.ref sl) (pure (n : Int))) Q E s := by
  obtain ⟨os, hos, hcs, hds⟩ := id hs
  unfold Builtin.Slice.sliceApplied Builtin.Slice.sliceFields
  refine wpAny_bind (wpAny_bind (wpAny_field hos hds (x := vl) rfl (wpAny_bind (wpAny_field hos hds (x := vu) rfl (wpAny_bind (wpAny_field hos hds (x := vs) rfl (wpAny_pure ?_)))))))
  refine wpAny_bind (slicePart_ ps ?_)
  show wpAny _ _ (if ((-1 : Int) == 0) = true then _ else _) _ _ s
  rw [if_neg (by decide)]
  refine wpAny_bind (slicePart_ pl (wpAny_bind (slicePart_ pu (wpAny_bind (wpAny_pure ?_)))))
  show wpAny _ _ (match Builtin.Slice.sliceAdjust none none (-1) (n : Int) with | (lo, hi) => pure (lo, (-1 : Int), Builtin.Slice.slicePlaces lo hi (-1))) _ _ s
  rw [adjust_rev n]
  show wpAny _ _ (pure ((n : Int) - 1, (-1 : Int), Builtin.Slice.slicePlaces ((n : Int) - 1) (-1) (-1))) _ _ s
  rw [places_rev]
  exact wpAny_pure h
theorem getItem_tuple_rev {t sl : Addr} {items : Array Value} {vl vu vs : Value} {Q : Value → Shared → Prop} (ht : IsTup s.heap t items) (hs : s.heap.IsSliceOf sl vl vu vs) (pl : IsPart vl none) (pu : IsPart vu none) (ps : IsPart vs (some (-1)))
    (h : Q (.ref s.heap.objs.size) { s with heap := s.heap.push { cls := .type "tuple", data := .seq items.toList.reverse.toArray } })
    (hsz : items.size ≤ sizeLine) : wpAny (model prog w) A (getItem (.ref t) (.ref sl)) Q E s := by
  have hok : sizeOk (.seq items.toList.reverse.toArray) := by
    show items.toList.reverse.toArray.size ≤ sizeLine
    rw [List.size_toArray, List.length_reverse, Array.length_toList]
    exact hsz
  obtain ⟨os, hos, hcs, hds⟩ := id hs
  have hTs : s.TypeIs (.ref sl) "slice" := ⟨os, hos, hcs⟩
  unfold getItem
  try with_reducible refine wpAny_holding ?_
  first | refine wpAny_bind (wpAny_pure ?_) | skip
  refine wpAny_bind (wpAny_sequenceKey ht.typeIs (by decide) ?_)
  refine wpAny_bind (wpAny_callSpecial?_slot (name := Str.ofString "__getitem__") ht.typeIs PyProof.Rows.slot_tuple_getitem
    (wpAny_call_entry PyProof.Rows.slot_tuple_getitem ht.typeIs entry_tuple_getitem ?_ (args_tuple_getitem _ _)))
  show wpAny _ _ (Builtin.Tuple.tupleItemsOf (.ref t) >>= _) _ _ s
  refine wpAny_bind (tupleItemsOf_ ht ?_)
  refine wpAny_bind (wpAny_typeOf hTs ?_)
  rw [if_pos (by decide)]
  refine wpAny_bind (sliceApplied_rev hs pl pu ps ?_)
  have hno : ¬ (((((items.size : Nat) : Int) - 1) == 0 && (-1 : Int) == 1 && items.size == items.size) = true) := by
    intro q
    rw [Bool.and_eq_true, Bool.and_eq_true] at q
    exact absurd (eq_of_beq q.1.2) (by decide)
  show wpAny _ _ (if ((((items.size : Nat) : Int) - 1) == 0 && (-1 : Int) == 1 && items.size == items.size) = true then _ else _) _ _ s
  rw [if_neg hno, pick_rev]
  first
    | exact wpAny_bind (m := Builtin.Tuple.tupleExact _) (wpAny_newObj_type (wpAny_pure ⟨_, rfl, wpAny_pure h⟩) hok)
    | exact wpAny_bind (m := Builtin.Tuple.tupleExact _) (wpAny_newObj_type (wpAny_bind (wpAny_pure (wpAny_pure ⟨_, rfl, wpAny_pure h⟩))) hok)
    | exact wpAny_bind (wpAny_bind (m := Builtin.Tuple.tupleExact _) (wpAny_newObj_type (wpAny_pure (wpAny_pure ⟨_, rfl, wpAny_pure h⟩)) hok))
    | exact wpAny_bind (wpAny_bind (m := Builtin.Tuple.tupleExact _) (wpAny_newObj_type (wpAny_pure ⟨_, rfl, wpAny_pure h⟩) hok))
end
end HT
namespace L2
open PySem PySem.Spec PyProof.Rows
def tRevT (K : PySem.W.Frag) (te : TE) : TE := fun σ H Q => te σ H fun x H1 => ∃ a xs, x = .ref a ∧ SqT K H1 a xs ∧ ∀ p, H1 p = none → Q (.ref p) (upd H1 p (.tup xs.reverse))
theorem pe_revT {X : Cx} {e : Expr} {te : TE} {k : Nat} {p1 p2 p3 pos : Pos} (he : PE X e te) : PE X (.Subscript e (.Slice none none (some (.UnaryOp .USub (.Constant (.int 1) k p1) p2)) p3) pos) (tRevT X.K te) := by
  refine ⟨fun pins s σ H Q I h => ?_⟩
  refine Subscript_ (thn (he.run pins s σ H _ I h) fun v s1 ⟨x, H1, I1, r1, q1⟩ => ?_)
  obtain ⟨a, xs, ex, hx, q⟩ := q1
  subst ex
  cases r1
  have hst : PO X (some (.UnaryOp .USub (.Constant (.int 1) k p1) p2)) (tPart (tUn (rU fun i => .int (-i)) (tC (.int 1)))) := po_some (pe_un un_neg pe_int)
  refine wpAny_Slice (thn (po_none.run pins s1 σ H1 (fun o H2 => o = none ∧ H2 = H1) I1 ⟨rfl, rfl⟩) fun vl s2 ⟨l, H2, I2, pl, el, e2⟩ => ?_)
  subst el e2
  refine thn (po_none.run pins s2 σ H2 (fun o H3 => o = none ∧ H3 = H2) I2 ⟨rfl, rfl⟩) fun vu s3 ⟨u, H3, I3, pu, eu, e3⟩ => ?_
  subst eu e3
  refine thn (hst.run pins s3 σ H3 (fun o H4 => o = some (-1) ∧ H4 = H3) I3 ⟨1, rfl, -1, rfl, rfl, rfl⟩) fun vs s4 ⟨o, H4, I4, ps, eo, e4⟩ => ?_
  subst eo e4
  have I5 : Inv X pins σ H4 { s4 with heap := s4.heap.push { cls := .type "slice", data := .fields #[vl, vu, vs] } } := I4.kept (t' := s4.toks) fun b ob q => Heap.get?_push_of_some _ q
  obtain ⟨its, r, ht, hz⟩ := I5.tuple hx
  have hlen := r.length
  show wpAny (model X.prog X.w) X.A (subscriptTail e (.Slice none none (some (.UnaryOp .USub (.Constant (.int 1) k p1) p2)) p3) (.ref a) (.ref s4.heap.objs.size)) (EP X pins σ Q) X.xe { s4 with heap := s4.heap.push { cls := .type "slice", data := .fields #[vl, vu, vs] } }
  refine tail_any (ops := [.ref a, .ref s4.heap.objs.size]) ht.typeIs (PyProof.Rows.slot_tuple_getitem.lookup) ?_ (by with_unfolding_all rfl)
  refine HT.getItem_tuple_rev ht (Heap.IsSliceOf.new _ vl vu vs) pl pu ps ?_ (by rw [List.size_toArray]; omega)
  refine ⟨.ref _, _, I5.laid (t' := s4.toks) (o := .tup xs.reverse) (fun b ob q => Heap.get?_push_of_some _ q) (Nat.le_refl _) ?_, rfl, q _ (I5.hok.fresh (Nat.le_refl _))⟩
  exact ⟨by rw [List.length_reverse]; exact hz, _, r.reverse, IsTup.new _ _⟩
end L2
end
section
set_option Elab.async false
set_option linter.all false
set_option maxRecDepth 100000
set_option maxHeartbeats 4000000
namespace L2
open PySem PySem.Spec PyProof.Rows
section
variable {X : Cx}
def rRepB (K : PySem.W.Frag) : R2 := fun x y H Q => ∃ l k xs, x = .ref l ∧ y = .int k ∧ SqT K H l xs ∧ xs ≠ [] ∧ 2 ≤ k ∧ k ≤ 10 ∧ xs.length ≤ 4000 ∧ ∀ p, H p = none → Q (.ref p) (upd H p (.tup (List.replicate k.toNat xs).flatten))
theorem op_repB : OpR X (binaryOp .Mult) (rRepB X.K) := by
  intro pins s σ H x y v u Q I rx ry h
  obtain ⟨l, k, xs, rfl, rfl, hT, hne, h1, h2, hz, qn⟩ := h
  cases rx
  obtain ⟨t, rfl⟩ := ry
  obtain ⟨its, r, ⟨⟨cls, dd, data, sl⟩, ho, hc, n, hd⟩, hs⟩ := I.tuple hT
  simp only at hc hd
  subst hc hd
  have hle : its.length = xs.length := r.length.symm
  have hn : its ≠ [] := fun e => hne (by
    rw [e] at hle
    exact List.eq_nil_of_length_eq_zero hle.symm)
  have hi : its.toArray.isEmpty = false := by
    cases its with
    | nil => exact absurd rfl hn
    | cons a b => rfl
  have hsz0 : its.toArray.size = xs.length := by rw [List.size_toArray, hle]
  have c0 : (decide (k < -(2 ^ 63)) || decide (k ≥ 2 ^ 63)) = false := by
    rw [decide_eq_false (by omega), decide_eq_false (by omega)] <;> rfl
  have e1 : k ≠ 1 := by omega
  have c1 : (its.toArray.isEmpty || k == 1) = false := by
    rw [hi, Bool.false_or]
    exact beq_eq_false_iff_ne.mpr e1
  have hm : ((its.toArray.size : Nat) : Int) * k ≤ 400000 := by
    rw [hsz0]
    have a1 : ((xs.length : Nat) : Int) * k ≤ 4000 * k := Int.mul_le_mul_of_nonneg_right (by omega) (by omega)
    omega
  have flen : (List.replicate k.toNat its).flatten.length ≤ sizeLine := by
    rw [PyProof.Rows.lm_len_rep_flat, hle, sizeLine_eq]
    have a1 : k.toNat * xs.length ≤ 10 * 4000 := Nat.mul_le_mul (by omega) hz
    omega
  have c2 : (decide (k ≤ 0) || its.toArray.isEmpty) = false := by
    rw [hi, Bool.or_false]
    exact decide_eq_false (by omega)
  have c4 : Builtin.Tuple.tupleTooMany (((its.toArray.size : Nat) : Int) * k) = false := by
    unfold Builtin.Tuple.tupleTooMany
    rw [sizeLine_eq]
    exact decide_eq_false (by omega)
  refine wpAny_binaryOp_repeat_ref (T := "tuple") (U := "int") (by decide) ⟨_, ho, rfl⟩ (fun s' => typeIs_int s' k t) noFill_tuple_mul F.fills_int_mul F.slot_int_rmul repeat_tuple F.slot_int_index.lookup
    (call_meets F.slot_int_rmul (typeIs_int s k t) F.entry_int_rmul (F.args_int_rmul_2 _ _) (int_rmul_tuple k t l its.toArray n dd sl)
      ⟨ho, rfl, ⟨_, ho, rfl⟩, call_meets F.slot_tuple_mul ⟨_, ho, rfl⟩ F.entry_tuple_mul (F.args_tuple_mul_2 _ _) (tuple_mulW l its.toArray n dd sl k t c0 c1 c2 (by omega) c4 (by rw [size_rep, List.size_toArray]; exact flen)) ⟨ho, ?_⟩⟩)
  rw [size_rep]
  refine ⟨.ref s.heap.objs.size, _, I.laid (t' := s.toks) (o := .tup (List.replicate k.toNat xs).flatten) (fun b ob q => Heap.get?_push_of_some _ q) (Nat.le_refl _) ?_, rfl, qn _ (I.hok.fresh (Nat.le_refl _))⟩
  exact ⟨by rw [PyProof.Rows.lm_len_rep_flat, sizeLine_eq]; have a1 : k.toNat * xs.length ≤ 10 * 4000 := Nat.mul_le_mul (by omega) hz; omega, _, r.rep k.toNat, IsTup.new _ _⟩
end
end L2
end
section
set_option Elab.async false
set_option linter.all false
set_option maxRecDepth 100000
set_option maxHeartbeats 4000000
namespace L2
open PySem PySem.Spec PyProof.Rows
section
variable {J J1 : It} {n n1 : Nat} {G G1 : Hp → Prop} {Y Y1 : Nat → Hp → V → Hp → Prop}
theorem in_it (w : Walk J1 n1 G1 Y1) {g1 : TG} {tt1 : TT} {te : TE} {vs1 : List Nat} {σ2 : St} {H4 : Hp} {D : Addr} {Nx : Hp → Prop} (Pw : Nat → Hp → Prop) (h0 : Pw 0 H4) (hG : ∀ i H, i ≤ n1 → Pw i H → G1 H)
    (hs : ∀ i x H H', i < n1 → Pw i H → Y1 i H x H' → g1 x (wipe σ2 vs1) H' fun σ3 H5 => wipe σ3 vs1 = wipe σ2 vs1 ∧ tt1 σ3 H5 fun b H6 =>
      if b = true then te σ3 H6 fun y H7 => ∃ acc, H7 D = some (.lst acc) ∧ acc.length < sizeLine ∧ Pw (i + 1) (upd H7 D (.lst (acc ++ [y]))) else Pw (i + 1) H6) (hd : ∀ H, Pw n1 H → Nx H) :
    ∃ W1 : Nat → Nat → Hp → Prop, (∃ m, W1 0 m H4) ∧ ∀ j k H, W1 j k H →
      (J1.stop j H ∧ Nx H) ∨ (J1.go j H ∧ ∃ Nx1 : Hp → Prop, (∀ H', Nx1 H' → ∃ k', k' < k ∧ W1 (j + 1) k' H') ∧ ∀ x H', J1.yld j H x H' → g1 x (wipe σ2 vs1) H' fun σ3 H5 => wipe σ3 vs1 = wipe σ2 vs1 ∧ tt1 σ3 H5 fun b H6 =>
        if b = true then te σ3 H6 fun y H7 => ∃ acc, H7 D = some (.lst acc) ∧ acc.length < sizeLine ∧ Nx1 (upd H7 D (.lst (acc ++ [y]))) else Nx1 H6) := by
  refine ⟨fun i m H => m = n1 - i ∧ i ≤ n1 ∧ Pw i H, ⟨n1, by simp, Nat.zero_le _, h0⟩, ?_⟩
  rintro i m H ⟨rfl, hi, p⟩
  have q := hG i H hi p
  by_cases hlt : i < n1
  · refine .inr ⟨w.goes i H hlt q, Pw (i + 1), fun H' p' => ⟨n1 - (i + 1), by omega, rfl, hlt, p'⟩, fun x H' y => hs i x H H' hlt p (w.yields i H x H' hlt q y)⟩
  · have e : i = n1 := by omega
    subst e
    exact .inl ⟨w.stops H q, hd H p⟩
theorem lc2_it (w : Walk J n G Y) {g g1 : TG} {tt tt1 : TT} {wi1 : TI} {te : TE} {vs vs1 : List Nat} {σ : St} {H1 : Hp} {D : Addr} {Qd : Hp → Prop} (Pv : Nat → Hp → Prop) (h0 : Pv 0 (upd H1 D (.lst []))) (hG : ∀ i H, i ≤ n → Pv i H → G H)
    (hs : ∀ i x H H', i < n → Pv i H → Y i H x H' → g x (wipe σ vs) H' fun σ2 H2 => wipe σ2 vs = wipe σ vs ∧ tt σ2 H2 fun b H3 =>
      if b = true then wi1 σ2 H3 fun J1 H4 => ∃ W1 : Nat → Nat → Hp → Prop, (∃ m, W1 0 m H4) ∧ ∀ j k H, W1 j k H →
        (J1.stop j H ∧ Pv (i + 1) H) ∨ (J1.go j H ∧ ∃ Nx1 : Hp → Prop, (∀ H', Nx1 H' → ∃ k', k' < k ∧ W1 (j + 1) k' H') ∧ ∀ x H', J1.yld j H x H' → g1 x (wipe σ2 vs1) H' fun σ3 H5 => wipe σ3 vs1 = wipe σ2 vs1 ∧ tt1 σ3 H5 fun b H6 =>
          if b = true then te σ3 H6 fun y H7 => ∃ acc, H7 D = some (.lst acc) ∧ acc.length < sizeLine ∧ Nx1 (upd H7 D (.lst (acc ++ [y]))) else Nx1 H6)
      else Pv (i + 1) H3) (hd : ∀ H, Pv n H → Qd H) :
    ∃ W : Nat → Nat → Hp → Prop, (∃ m, W 0 m (upd H1 D (.lst []))) ∧ ∀ i m H, W i m H →
      (J.stop i H ∧ Qd H) ∨ (J.go i H ∧ ∃ Nx : Hp → Prop, (∀ H', Nx H' → ∃ m', m' < m ∧ W (i + 1) m' H') ∧ ∀ x H', J.yld i H x H' → g x (wipe σ vs) H' fun σ2 H2 => wipe σ2 vs = wipe σ vs ∧ tt σ2 H2 fun b H3 =>
        if b = true then wi1 σ2 H3 fun J1 H4 => ∃ W1 : Nat → Nat → Hp → Prop, (∃ m, W1 0 m H4) ∧ ∀ j k H, W1 j k H →
          (J1.stop j H ∧ Nx H) ∨ (J1.go j H ∧ ∃ Nx1 : Hp → Prop, (∀ H', Nx1 H' → ∃ k', k' < k ∧ W1 (j + 1) k' H') ∧ ∀ x H', J1.yld j H x H' → g1 x (wipe σ2 vs1) H' fun σ3 H5 => wipe σ3 vs1 = wipe σ2 vs1 ∧ tt1 σ3 H5 fun b H6 =>
            if b = true then te σ3 H6 fun y H7 => ∃ acc, H7 D = some (.lst acc) ∧ acc.length < sizeLine ∧ Nx1 (upd H7 D (.lst (acc ++ [y]))) else Nx1 H6)
        else Nx H3) := by
  refine ⟨fun i m H => m = n - i ∧ i ≤ n ∧ Pv i H, ⟨n, by simp, Nat.zero_le _, h0⟩, ?_⟩
  rintro i m H ⟨rfl, hi, p⟩
  have q := hG i H hi p
  by_cases hlt : i < n
  · refine .inr ⟨w.goes i H hlt q, Pv (i + 1), fun H' p' => ⟨n - (i + 1), by omega, rfl, hlt, p'⟩, fun x H' y => hs i x H H' hlt p (w.yields i H x H' hlt q y)⟩
  · have e : i = n := by omega
    subst e
    exact .inl ⟨w.stops H q, hd H p⟩
end
end L2
namespace L2
open PySem PySem.Spec PyProof.Rows
section
variable {X : Cx}
/-- y = {k: v for ..} -/
theorem ps_setDc {i : Nat} {y : Str} {py : Pos} {kx vx tg iter : Expr} {ifs : List Expr} {scope : Scope} {own : List (Str × Nat)} {pos spos : Pos} {wi : TI} {g : TG} {tt : TT} {tk tv : TE} (hc : X.calm = true) (hN : X.N.Nodup) (hy : X.N[i]? = some y) (hyl : X.env.scope.names.lookup y = some .local)
    (hsw : swapsWith (.DictComp kx vx [⟨tg, iter, ifs, 0⟩] scope pos) (some (.Name y py)) spos.line X.env = pure true) (hi : PI X tg iter wi) (ok : BlkOk X.N X.env.scope scope own)
    (hg : ∀ (s : Shared) (H : Hp) (C : Addr) (cl : List (Str × Addr)) (fp : List Addr), PG (X.blk s H scope (compEnvC scope cl C X.env) fp) tg g) (ht : ∀ (s : Shared) (H : Hp) (C : Addr) (cl : List (Str × Addr)) (fp : List Addr), PTs (X.blk s H scope (compEnvC scope cl C X.env) fp) ifs tt)
    (hk : ∀ (s : Shared) (H : Hp) (C : Addr) (cl : List (Str × Addr)) (fp : List Addr), PE (X.blk s H scope (compEnvC scope cl C X.env) fp) kx tk)
    (he : ∀ (s : Shared) (H : Hp) (C : Addr) (cl : List (Str × Addr)) (fp : List Addr), PE (X.blk s H scope (compEnvC scope cl C X.env) fp) vx tv) (hs : ∀ x, foldedSetIterable iter X.env x = pure x := by intro _; rfl) :
    PS X (.Assign [.Name y py] (.DictComp kx vx [⟨tg, iter, ifs, 0⟩] scope pos) spos) (tAsg (tDc wi g tt tk tv (own.map (·.2))) (gName i)) := by
  refine ⟨fun pins s σ H D I h => ?_⟩
  rw [exec_Assign_Name_used _ _ _ _ hsw]
  refine wpAny_bind (wpAny_standAt (wpAny_bind ?_))
  show wpAny _ X.A (do let _ ← comprehension (.DictComp kx vx [⟨tg, iter, ifs, 0⟩] scope pos) scope X.env (firstIterPos [⟨tg, iter, ifs, 0⟩] pos) newDict false (eval iter X.env) (some (assign (.Name y py) X.env))) _ _ s
  have h : tDc wi g tt tk tv (own.map (·.2)) σ H (fun x H1 => gName i x σ H1 D.nx) := h
  refine wpAny_bind (thn (dc_core (Qf := fun _ s' => SP X pins D .next s') hc hN I hi ok hg ht hk he hs h fun L C s' m H' I' q hn f => ?_) fun _ s' hq => wpAny_pure (wpAny_pure hq))
  show wpAny _ _ (assign (.Name y py) X.env (.ref L)) _ _ _
  refine wpAny_assign_Name (store_ok2 (v := V.ref L) I' hN hy (.inl hyl) rfl (fun s2 I2 ⟨a, sb, ha⟩ => ?_) (.inr hyl))
  obtain ⟨f0, f1, f2, f3, f4, f5⟩ := f
  have haC : C ≠ a := by
    rcases ha with z | z
    · rw [z]; exact f1
    · exact fun e => f4 y a z e.symm
  refine ⟨m, hn.sameBut sb haC, fun h3 sb3 => ?_⟩
  exact ⟨_, H', I2.turned (t' := s2.toks) (fun b o hb e => (sb3.2 b hb).trans e) f0 f1 f3 f4 f5, q⟩
theorem sw_trueD {kx vx : Expr} {gs : List Comprehension} {scope : Scope} {pos py : Pos} {y : Str} {l : Nat} {env : Env} (hk : env.scope.kind = .function) (hy : env.scope.names.lookup y = some .local) (hl : (py.line == pos.line) = true)
    (ha : (scope.names.any fun (n, k) => n == y && (k == .local || k == .cell)) = false) : swapsWith (.DictComp kx vx gs scope pos) (some (.Name y py)) l env = pure true := by
  have ky : env.kindOf y = some .local := hy
  have hb : env.blockKind = .function := by unfold Env.blockKind; rw [hk]; rfl
  unfold swapsWith
  simp only [hb, ky, ha, Expr.pos, hl]
  rfl
/-- o.m() by a positional promise -/
theorem pe_methR0 {CX : CXT} {k : Nat} {C f : Addr} {m : Str} {sp : Sp} {E : XK} {o : Expr} {ta : TE} {apos pos : Pos} {pl : Sem Bool} (he : PE X o ta) (c : Cls X.K C) (hm : Meth X.K C m f)
    (F : FnR X.prog X.w X.K X.mg X.base CX k f sp) (hr : Room k X.A) (hx : Passes CX X E)
    (ht : eval (.Call (.Attribute o m apos) [] [] pos) X.env = (do
      let ov ← eval o X.env
      standAt apos.atName
      let (f, first) ← holding [ov] (getMethod ov m pl)
      callWith pos f first (backTo pos (starEach [] X.env)) (backToKw pos (keywordEach [] X.env))) := by rfl) :
    PE X (.Call (.Attribute o m apos) [] [] pos) (tMethR C m sp E ta tNil) := by
  refine ⟨fun pins s σ H Q I h => ?_⟩
  refine PySem.W.methodCall_KW (pl := pl) (thn (he.run pins s σ H _ I h) fun u s1 ⟨x, H1, I1, rx, a, dx, fs, ex, ea, l, q⟩ => ?_) ht
  subst ex
  obtain rfl : u = Value.ref a := rx
  refine getmeth_ok I1 ea c hm l ?_
  exact PySem.W.callWith_K0 (first := [.ref a]) I1.kIn hm.kp (wpAny_call (run_fnR (us := [.ref a]) (vs := [.ref a]) F hr hx I1 (.cons rfl .nil) q))
end
end L2
namespace Sh
open PySem PySem.Spec PyProof.Rows L2
open C8 (pss_cut tCut)
open Evl (ixN_nat)
theorem wR_row {rows : List Row} {m : Int} (R : ROk m rows) {q : Row} (h : q ∈ rows) : ((wR rows q.1 : Nat) : Int) = q.2 := by
  obtain ⟨i, hi, rfl⟩ := List.mem_iff_getElem.mp h
  exact row_at R hi
theorem hu2_of {A : Around} {k : Nat} (hr : Room k A) : A.units + 2 < cLine := Nat.lt_of_le_of_lt (Nat.add_le_add_left (by decide : 2 ≤ 64) _) hr.units
theorem inl_inj : ∀ {l m : List Nat}, (l.map fun i => (.inl ((i : Nat) : Int) : Key)) = m.map (fun i => .inl ((i : Nat) : Int)) → l = m
  | [], [], _ => rfl
  | [], _ :: _, h => by cases h
  | _ :: _, [], h => by cases h
  | x :: r, y :: t, h => by
    rw [List.map_cons, List.map_cons] at h
    injection h with h1 h2
    injection h1 with h1
    rw [inl_inj h2, show x = y by omega]
def nI (cs : List Nat) : List V := cs.map fun i => V.int ((i : Nat) : Int)
theorem nI_key (cs : List Nat) : nI cs = (cs.map fun i => (.inl ((i : Nat) : Int) : Key)).map kV := by
  unfold nI
  rw [List.map_map]
  rfl
theorem ROk.up {rows : List Row} (R : ROk 4 rows) : ROk 8 rows := ⟨R.pos, by have := R.len; omega, R.nd, R.nm, R.wd, R.leaf⟩
def PlAt {α : Type} (f : α → List V) (H : Hp) (ts : List Addr) (xs : List α) : Prop := ts.length = xs.length ∧ ∀ (i : Nat) (t : Addr) (x : α), ts[i]? = some t → xs[i]? = some x → H t = some (.tup (f x))
theorem PlAt.keep {α : Type} {f : α → List V} {H H' : Hp} {ts : List Addr} {xs : List α} (x : PlAt f H ts xs) (k : ∀ t ys, H t = some (.tup ys) → H' t = some (.tup ys)) : PlAt f H' ts xs := ⟨x.1, fun i t q a b => k _ _ (x.2 i t q a b)⟩
theorem PlAt.nil {α : Type} {f : α → List V} {H : Hp} : PlAt f H [] [] := ⟨rfl, fun i t x a => by simp at a⟩
theorem PlAt.snoc {α : Type} {f : α → List V} {H : Hp} {ts : List Addr} {xs : List α} {t : Addr} {q : α} (x : PlAt f H ts xs) (h : H t = some (.tup (f q))) : PlAt f H (ts ++ [t]) (xs ++ [q]) := by
  refine ⟨by rw [List.length_append, List.length_append, x.1]; rfl, fun i u y a b => ?_⟩
  by_cases e : i < ts.length
  · rw [List.getElem?_append_left e] at a
    rw [List.getElem?_append_left (by rw [← x.1]; exact e)] at b
    exact x.2 i u y a b
  · have el : i - ts.length < 1 := by
      have := (List.getElem?_eq_some_iff.mp a).1
      rw [List.length_append] at this
      have : ([t] : List Addr).length = 1 := rfl
      omega
    rw [List.getElem?_append_right (by omega)] at a
    rw [List.getElem?_append_right (by rw [← x.1]; omega), ← x.1] at b
    have e0 : i - ts.length = 0 := by omega
    rw [e0] at a b
    injection a with a
    injection b with b
    rw [← a, ← b]
    exact h
theorem PlAt.erase {α : Type} {f : α → List V} {H : Hp} {ts : List Addr} {xs : List α} (k : Nat) (x : PlAt f H ts xs) : PlAt f H (ts.eraseIdx k) (xs.eraseIdx k) := by
  refine ⟨by rw [List.length_eraseIdx, List.length_eraseIdx, x.1], fun i t q a b => ?_⟩
  rw [List.getElem?_eraseIdx] at a b
  split at a
  · rename_i h
    rw [if_pos h] at b
    exact x.2 _ _ _ a b
  · rename_i h
    rw [if_neg h] at b
    exact x.2 _ _ _ a b
theorem nd_at {ns : List Str} (h : ns.Nodup) {a b : Nat} {n : Str} (h1 : ns[a]? = some n) (h2 : ns[b]? = some n) : a = b := by
  obtain ⟨l1, e1⟩ := List.getElem?_eq_some_iff.mp h1
  obtain ⟨l2, e2⟩ := List.getElem?_eq_some_iff.mp h2
  exact (List.getElem_inj h).mp (e1.trans e2.symm)
theorem PlAt.two {α : Type} {f : α → List V} {H : Hp} {us : List Addr} {xs : List α} {l t : Addr} {ys : List V} {vs : List V} (x : PlAt f H us xs) (ht : H t = none) (hl : H l = some (.lst ys)) {q : α} : PlAt f (upd (upd H t (.tup (f q))) l (.lst vs)) (us ++ [t]) (xs ++ [q]) := by
  have ntl : t ≠ l := fun e => by
    rw [e, hl] at ht
    cases ht
  refine (x.keep fun u zs h => ?_).snoc ?_
  · have n1 : u ≠ t := fun e => by
      rw [e, ht] at h
      cases h
    have n2 : u ≠ l := fun e => by
      rw [e, hl] at h
      cases h
    rw [upd_ne n2, upd_ne n1]
    exact h
  · rw [upd_ne ntl]
    exact upd_same
theorem PlAt.take {α : Type} {f : α → List V} {H : Hp} {ts : List Addr} {xs : List α} (k : Nat) (x : PlAt f H ts xs) : PlAt f H (ts.take k) (xs.take k) := by
  refine ⟨by rw [List.length_take, List.length_take, x.1], fun i t q a b => ?_⟩
  have hi : i < k := by
    have := (List.getElem?_eq_some_iff.mp a).1
    rw [List.length_take] at this
    omega
  rw [List.getElem?_take_of_lt hi] at a b
  exact x.2 i t q a b
theorem PlAt.drop {α : Type} {f : α → List V} {H : Hp} {ts : List Addr} {xs : List α} (k : Nat) (x : PlAt f H ts xs) : PlAt f H (ts.drop k) (xs.drop k) := by
  refine ⟨by rw [List.length_drop, List.length_drop, x.1], fun i t q a b => ?_⟩
  rw [List.getElem?_drop] at a b
  exact x.2 _ t q a b
theorem PlAt.app {α : Type} {f : α → List V} {H : Hp} {ts us : List Addr} {xs ys : List α} (x : PlAt f H ts xs) (y : PlAt f H us ys) : PlAt f H (ts ++ us) (xs ++ ys) := by
  refine ⟨by rw [List.length_append, List.length_append, x.1, y.1], fun i t q a b => ?_⟩
  by_cases c : i < ts.length
  · rw [List.getElem?_append_left c] at a
    rw [List.getElem?_append_left (by rw [← x.1]; exact c)] at b
    exact x.2 i t q a b
  · rw [List.getElem?_append_right (by omega)] at a
    rw [List.getElem?_append_right (by rw [← x.1]; omega), ← x.1] at b
    exact y.2 _ t q a b
theorem PlAt.one {α : Type} {f : α → List V} {H : Hp} {t : Addr} {x : α} (h : H t = some (.tup (f x))) : PlAt f H [t] [x] := by
  have := (PlAt.nil (f := f) (H := H)).snoc (t := t) (q := x) h
  exact this
def HasN (rows : List Row) (z : Str) : Prop := ∃ q ∈ rows, q.1 = z
def tnL (ns : List Str) (ds : List Addr) : List (Key × V) := (ns.zip ds).map fun q => (.inr q.1, .ref q.2)
theorem tn_val {ns : List Str} {ds : List Addr} (nd : ns.Nodup) {i : Nat} {n : Str} {a : Addr} (h1 : ns[i]? = some n) (h2 : ds[i]? = some a) : valV (tnL ns ds) (.inr n) = some (.ref a) := by
  unfold valV tnL
  rw [List.find?_map]
  have hz : (ns.zip ds)[i]? = some (n, a) := List.getElem?_zip_eq_some.mpr ⟨h1, h2⟩
  have : (ns.zip ds).find? ((fun kv : Key × V => decide (kv.1 = Sum.inr n)) ∘ fun q : Str × Addr => ((.inr q.1 : Key), V.ref q.2)) = some (n, a) := by
    have e : ((fun kv : Key × V => decide (kv.1 = Sum.inr n)) ∘ fun q : Str × Addr => ((.inr q.1 : Key), V.ref q.2)) = fun q => decide (q.1 = n) := by
      funext q
      exact key_rr q.1 n
    rw [e]
    have hm := List.mem_of_getElem? hz
    cases hf : (ns.zip ds).find? (fun q => decide (q.1 = n)) with
    | none => exact absurd (List.find?_eq_none.mp hf _ hm) (by simp)
    | some q =>
      have hp := List.find?_some hf
      have e1 : q.1 = n := of_decide_eq_true hp
      obtain ⟨j, hj⟩ := List.mem_iff_getElem?.mp (List.mem_of_find?_eq_some hf)
      obtain ⟨j1, j2⟩ := List.getElem?_zip_eq_some.mp hj
      rw [e1] at j1
      have := nd_at nd h1 j1
      subst this
      rw [h2] at j2
      injection j2 with j2
      exact congrArg some (Prod.ext e1 j2.symm)
  rw [this]
  rfl
theorem inr_iff {a b : Str} : (Sum.inr a : Key) = Sum.inr b ↔ a = b := ⟨fun h => by injection h, fun h => by rw [h]⟩
def wstep (f : List (List Nat)) (l : List Nat) : List (List Nat) := f.flatMap fun w => l.map fun s => w ++ [s]
def ways (ls : List (List Nat)) : List (List Nat) := ls.foldl wstep [[]]
theorem ways_snoc (ls : List (List Nat)) (l : List Nat) : ways (ls ++ [l]) = wstep (ways ls) l := by
  unfold ways
  rw [List.foldl_append]
  rfl
theorem ways_succ {ls : List (List Nat)} {i : Nat} {l : List Nat} (h : ls[i]? = some l) : ways (ls.take (i + 1)) = wstep (ways (ls.take i)) l := by
  rw [← ways_snoc]
  congr 1
  rw [List.take_add_one, h]
  rfl
theorem wstep_len (f : List (List Nat)) (l : List Nat) : (wstep f l).length = f.length * l.length := by
  unfold wstep
  induction f with
  | nil => simp
  | cons w f ih =>
    rw [List.flatMap_cons, List.length_append, ih, List.length_map, List.length_cons, Nat.succ_mul]
    omega
theorem ways_mem {ls : List (List Nat)} {ss : List Nat} : ss ∈ ways ls ↔ ss.length = ls.length ∧ ∀ (i : Nat) (s : Nat) (l : List Nat), ss[i]? = some s → ls[i]? = some l → s ∈ l := by
  suffices h : ∀ (n : Nat) (ls : List (List Nat)), ls.length = n → ∀ ss : List Nat, ss ∈ ways ls ↔ ss.length = ls.length ∧ ∀ (i : Nat) (s : Nat) (l : List Nat), ss[i]? = some s → ls[i]? = some l → s ∈ l from h _ ls rfl ss
  intro n
  induction n with
  | zero =>
    intro ls e ss
    have : ls = [] := List.eq_nil_of_length_eq_zero e
    subst this
    show ss ∈ [[]] ↔ _
    rw [List.mem_singleton]
    constructor
    · rintro rfl
      exact ⟨rfl, fun i s l h => by simp at h⟩
    · rintro ⟨h, _⟩
      exact List.eq_nil_of_length_eq_zero h
  | succ n ih =>
    intro ls e ss
    have hne : ls ≠ [] := fun z => by rw [z] at e; cases e
    have hl := List.dropLast_concat_getLast hne
    generalize ls.dropLast = m at hl
    generalize ls.getLast hne = l at hl
    subst hl
    rw [List.length_append] at e
    have em : m.length = n := by have : ([l] : List (List Nat)).length = 1 := rfl; omega
    rw [ways_snoc]
    unfold wstep
    rw [List.mem_flatMap]
    constructor
    · rintro ⟨w, hw, hs⟩
      obtain ⟨s, hs', rfl⟩ := List.mem_map.mp hs
      obtain ⟨h1, h2⟩ := (ih m em w).mp hw
      refine ⟨by rw [List.length_append, List.length_append, h1]; rfl, fun i x k hx hk => ?_⟩
      by_cases c : i < w.length
      · rw [List.getElem?_append_left c] at hx
        rw [List.getElem?_append_left (by omega)] at hk
        exact h2 i x k hx hk
      · have ci : i = w.length := by
          have := (List.getElem?_eq_some_iff.mp hx).1
          rw [List.length_append] at this
          have : ([s] : List Nat).length = 1 := rfl
          omega
        subst ci
        rw [List.getElem?_append_right (Nat.le_refl _), Nat.sub_self] at hx
        rw [List.getElem?_append_right (by omega), h1, Nat.sub_self] at hk
        cases hx
        cases hk
        exact hs'
    · rintro ⟨h1, h2⟩
      have h1' : ss.length = m.length + 1 := by rw [h1, List.length_append]; rfl
      have sne : ss ≠ [] := fun z => by rw [z] at h1'; cases h1'
      have hs := List.dropLast_concat_getLast sne
      generalize ss.dropLast = w at hs
      generalize ss.getLast sne = s at hs
      subst hs
      have lw : w.length = m.length := by rw [List.length_append] at h1'; have : ([s] : List Nat).length = 1 := rfl; omega
      refine ⟨w, (ih m em w).mpr ⟨lw, fun i x k hx hk => ?_⟩, List.mem_map.mpr ⟨s, ?_, rfl⟩⟩
      · have c := (List.getElem?_eq_some_iff.mp hx).1
        exact h2 i x k (by rw [List.getElem?_append_left c]; exact hx) (by rw [List.getElem?_append_left (by omega)]; exact hk)
      · refine h2 w.length s l ?_ ?_
        · rw [List.getElem?_append_right (Nat.le_refl _), Nat.sub_self]; rfl
        · rw [List.getElem?_append_right (by omega), lw, Nat.sub_self]; rfl
theorem nI_snoc (w : List Nat) (s : Nat) : nI w ++ [V.int ((s : Nat) : Int)] = nI (w ++ [s]) := by
  unfold nI
  rw [List.map_append]
  rfl
theorem nI_len (w : List Nat) : (nI w).length = w.length := by unfold nI; rw [List.length_map]
theorem nI_at {w : List Nat} {i s : Nat} (h : w[i]? = some s) : (nI w)[i]? = some (.int ((s : Nat) : Int)) := by
  unfold nI
  rw [List.getElem?_map, h]
  rfl
theorem catA_n {K : PySem.W.Frag} {H : Hp} {a b : Addr} {xs ys : List V} {Q : VK} (ha : H a = some (.tup xs)) (hb : H b = some (.tup ys)) (hl : xs.length + ys.length ≤ 10000000) (k : ∀ r H', Same H H' → H' r = some (.tup (xs ++ ys)) → Q (.ref r) H') : rCatA K (.ref a) (.ref b) H Q :=
  ⟨a, b, xs, ys, rfl, rfl, SqT.of ha, SqT.of hb, le_line hl, fun e => k b H (Same.refl H) (by rw [e]; exact hb), fun _ e => k a H (Same.refl H) (by rw [e, List.append_nil]; exact ha), fun _ _ p hp => k p _ ((Same.refl H).upd_new hp) upd_same⟩
theorem wstep_take {f : List (List Nat)} {l : List Nat} {j : Nat} {w : List Nat} (h : f[j]? = some w) : wstep (f.take (j + 1)) l = wstep (f.take j) l ++ l.map fun s => w ++ [s] := by
  unfold wstep
  rw [List.take_add_one, h, List.flatMap_append]
  show _ ++ ((l.map fun s => w ++ [s]) ++ []) = _
  rw [List.append_nil]
theorem wmap_take {w l : List Nat} {j s : Nat} (h : l[j]? = some s) : (l.take (j + 1)).map (fun s => w ++ [s]) = (l.take j).map (fun s => w ++ [s]) ++ [w ++ [s]] := by
  rw [List.take_add_one, h, List.map_append]
  rfl
def WaysAt (H : Hp) (L : Addr) (f : List (List Nat)) : Prop := ∃ us : List Addr, H L = some (.lst (us.map V.ref)) ∧ PlAt nI H us f
def LsAt (H : Hp) (bs : List Addr) (ls : List (List Nat)) : Prop := bs.length = ls.length ∧ ∀ (i : Nat) (b : Addr) (l : List Nat), bs[i]? = some b → ls[i]? = some l → H b = some (.lst (nI l))
theorem get_map_r {us : List Addr} {i : Nat} {v : V} (h : (us.map V.ref)[i]? = some v) : ∃ u, us[i]? = some u ∧ v = .ref u := by
  rw [List.getElem?_map] at h
  obtain ⟨u, hu, e⟩ := Option.map_eq_some_iff.mp h
  exact ⟨u, hu, e.symm⟩
abbrev REnt : Type := Str × List Nat × Nat
def ek (e : REnt) : Str × List Nat := (e.1, e.2.1)
def nkR (p : Str × List Nat) : NKey := (.inr p.1, p.2.map fun i => .inl ((i : Nat) : Int))
def rkv (e : REnt) : NKey × V := (nkR (ek e), .int ((e.2.2 : Nat) : Int))
theorem nkR_inj {p q : Str × List Nat} (h : nkR p = nkR q) : p = q := by
  obtain ⟨a, l⟩ := p
  obtain ⟨b, m⟩ := q
  unfold nkR at h
  obtain ⟨h1, h2⟩ := Prod.mk.inj h
  injection h1 with h1
  have h1 : a = b := h1
  have h2 : l = m := inl_inj h2
  rw [h1, h2]
def wq (many : Nat) (q : Row) : List (List Nat) := ways (List.replicate q.2.toNat (List.range many))
def ksOf (rows : List Row) (many : Nat) : List (Str × List Nat) := rows.flatMap fun q => (wq many q).map fun ss => (q.1, ss)
theorem wstep_nd {f : List (List Nat)} {l : List Nat} (n : Nat) (hl : ∀ w ∈ f, w.length = n) (h1 : f.Nodup) (h2 : l.Nodup) : (wstep f l).Nodup := by
  unfold wstep
  rw [List.nodup_iff_pairwise_ne, List.pairwise_flatMap]
  refine ⟨fun w hw => ?_, ?_⟩
  · rw [List.pairwise_map]
    exact (List.nodup_iff_pairwise_ne.mp h2).imp fun h e => h (by
      have := List.append_cancel_left e
      injection this)
  · refine (List.nodup_iff_pairwise_ne.mp h1).imp_of_mem fun {a b} ha hb h x hx y hy e => ?_
    obtain ⟨s, _, rfl⟩ := List.mem_map.mp hx
    obtain ⟨t, _, rfl⟩ := List.mem_map.mp hy
    exact h (List.append_inj_left' e rfl)
theorem wq_nd (many : Nat) (q : Row) : (wq many q).Nodup := by
  unfold wq
  generalize q.2.toNat = n
  induction n with
  | zero => exact List.nodup_cons.mpr ⟨List.not_mem_nil, List.nodup_nil⟩
  | succ n ih =>
    rw [List.replicate_succ', ways_snoc]
    refine wstep_nd n (fun w hw => ?_) ih List.nodup_range
    rw [(ways_mem.mp hw).1, List.length_replicate]
theorem wq_mem {many : Nat} {q : Row} {ss : List Nat} : ss ∈ wq many q ↔ ss.length = q.2.toNat ∧ ∀ s ∈ ss, s < many := by
  unfold wq
  rw [ways_mem, List.length_replicate]
  constructor
  · rintro ⟨h1, h2⟩
    refine ⟨h1, fun s hs => ?_⟩
    obtain ⟨i, hi, e⟩ := List.mem_iff_getElem.mp hs
    have := h2 i s (List.range many) (by rw [List.getElem?_eq_getElem hi, e]) (by rw [List.getElem?_replicate, if_pos (by omega)])
    exact List.mem_range.mp this
  · rintro ⟨h1, h2⟩
    refine ⟨h1, fun i s l hs hl => ?_⟩
    rw [List.getElem?_replicate] at hl
    split at hl
    · injection hl with hl
      rw [← hl]
      exact List.mem_range.mpr (h2 s (List.mem_of_getElem? hs))
    · cases hl
theorem ks_nd {rows : List Row} {many : Nat} (nd : (rows.map (·.1)).Nodup) : (ksOf rows many).Nodup := by
  unfold ksOf
  rw [List.nodup_iff_pairwise_ne, List.pairwise_flatMap]
  refine ⟨fun q hq => ?_, ?_⟩
  · rw [List.pairwise_map]
    exact (List.nodup_iff_pairwise_ne.mp (wq_nd many q)).imp fun h e => h (Prod.mk.inj e).2
  · have := (List.nodup_iff_pairwise_ne.mp nd)
    rw [List.pairwise_map] at this
    refine this.imp fun {a b} h x hx y hy e => ?_
    obtain ⟨s, _, rfl⟩ := List.mem_map.mp hx
    obtain ⟨t, _, rfl⟩ := List.mem_map.mp hy
    exact h (Prod.mk.inj e).1
theorem ks_step {rows : List Row} {many i j : Nat} {q : Row} {ss : List Nat} (hq : rows[i]? = some q) (hs : (wq many q)[j]? = some ss) : ∃ r, ksOf (rows.take i) many ++ ((wq many q).take j).map (fun s => (q.1, s)) ++ (q.1, ss) :: r = ksOf rows many := by
  have e1 : rows = rows.take i ++ q :: rows.drop (i + 1) := by
    have hi := (List.getElem?_eq_some_iff.mp hq).1
    have he : rows[i] = q := by rw [List.getElem?_eq_getElem hi] at hq; exact Option.some.inj hq
    rw [← he, List.getElem_cons_drop, List.take_append_drop]
  have e2 : wq many q = (wq many q).take j ++ ss :: (wq many q).drop (j + 1) := by
    have hi := (List.getElem?_eq_some_iff.mp hs).1
    have he : (wq many q)[j] = ss := by rw [List.getElem?_eq_getElem hi] at hs; exact Option.some.inj hs
    rw [← he, List.getElem_cons_drop, List.take_append_drop]
  refine ⟨((wq many q).drop (j + 1)).map (fun s => (q.1, s)) ++ ksOf (rows.drop (i + 1)) many, ?_⟩
  have e3 : ksOf rows many = ksOf (rows.take i) many ++ ((wq many q).map (fun s => (q.1, s)) ++ ksOf (rows.drop (i + 1)) many) := by
    conv => lhs; rw [e1]
    unfold ksOf
    rw [List.flatMap_append, List.flatMap_cons]
  rw [e3]
  conv => rhs; rw [e2]
  rw [List.map_append, List.map_cons]
  simp only [List.append_assoc, List.cons_append]
theorem rkv_none {es : List REnt} {p : Str × List Nat} (h : p ∉ es.map ek) : valV (es.map rkv) (nkR p) = none := by
  unfold valV
  rw [Option.map_eq_none_iff, List.find?_eq_none]
  intro x hx e
  obtain ⟨y, hy, rfl⟩ := List.mem_map.mp hx
  have e := of_decide_eq_true e
  exact h (List.mem_map.mpr ⟨y, hy, nkR_inj e⟩)
theorem rkv_some {es : List REnt} {e : REnt} (nd : (es.map ek).Nodup) (h : e ∈ es) : valV (es.map rkv) (nkR (ek e)) = some (.int ((e.2.2 : Nat) : Int)) := by
  induction es with
  | nil => cases h
  | cons y es ih =>
    rw [List.map_cons] at nd
    obtain ⟨n1, n2⟩ := List.nodup_cons.mp nd
    rw [List.map_cons]
    rcases List.mem_cons.mp h with rfl | h
    · exact valV_pos rfl
    · rw [valV_neg (fun q => n1 (List.mem_map.mpr ⟨e, h, (nkR_inj q).symm⟩))]
      exact ih n2 h
def RwAt (H : Hp) (us : List Addr) (rs : List REnt) : Prop := us.length = rs.length ∧ ∀ (i : Nat) (u : Addr) (e : REnt), us[i]? = some u → rs[i]? = some e → ∃ b, H u = some (.tup [.str e.1, .ref b, .int ((e.2.2 : Nat) : Int)]) ∧ H b = some (.tup (nI e.2.1))
theorem RwAt.keep {H H' : Hp} {us : List Addr} {rs : List REnt} (x : RwAt H us rs) (k : ∀ t ys, H t = some (.tup ys) → H' t = some (.tup ys)) : RwAt H' us rs := ⟨x.1, fun i u e h1 h2 => by
  obtain ⟨b, h3, h4⟩ := x.2 i u e h1 h2
  exact ⟨b, k _ _ h3, k _ _ h4⟩⟩
theorem RwAt.nil {H : Hp} : RwAt H [] [] := ⟨rfl, fun i u e h => by simp at h⟩
theorem RwAt.snoc {H : Hp} {us : List Addr} {rs : List REnt} {u b : Addr} {e : REnt} (x : RwAt H us rs) (h1 : H u = some (.tup [.str e.1, .ref b, .int ((e.2.2 : Nat) : Int)])) (h2 : H b = some (.tup (nI e.2.1))) : RwAt H (us ++ [u]) (rs ++ [e]) := by
  refine ⟨by rw [List.length_append, List.length_append, x.1]; rfl, fun i y z a c => ?_⟩
  by_cases hi : i < us.length
  · rw [List.getElem?_append_left hi] at a
    rw [List.getElem?_append_left (by rw [← x.1]; exact hi)] at c
    exact x.2 i y z a c
  · have hl := (List.getElem?_eq_some_iff.mp a).1
    rw [List.length_append] at hl
    have : ([u] : List Addr).length = 1 := rfl
    have ei : i = us.length := by omega
    subst ei
    rw [List.getElem?_append_right (Nat.le_refl _), Nat.sub_self] at a
    rw [List.getElem?_append_right (by rw [x.1]; exact Nat.le_refl _), x.1, Nat.sub_self] at c
    cases a
    cases c
    exact ⟨b, h1, h2⟩
theorem RwAt.reverse {H : Hp} {us : List Addr} {rs : List REnt} (x : RwAt H us rs) : RwAt H us.reverse rs.reverse := by
  refine ⟨by rw [List.length_reverse, List.length_reverse, x.1], fun i u e a b => ?_⟩
  have hi := (List.getElem?_eq_some_iff.mp a).1
  rw [List.length_reverse] at hi
  rw [List.getElem?_reverse hi] at a
  rw [List.getElem?_reverse (by rw [← x.1]; exact hi), ← x.1] at b
  exact x.2 _ u e a b
theorem mem_ks {rows : List Row} {many : Nat} {z : Str} {ss : List Nat} : (z, ss) ∈ ksOf rows many ↔ ∃ q ∈ rows, q.1 = z ∧ ss.length = q.2.toNat ∧ ∀ s ∈ ss, s < many := by
  unfold ksOf
  rw [List.mem_flatMap]
  constructor
  · rintro ⟨q, hq, h⟩
    obtain ⟨t, ht, e⟩ := List.mem_map.mp h
    obtain ⟨e1, e2⟩ := Prod.mk.inj e
    obtain ⟨h1, h2⟩ := wq_mem.mp ht
    rw [← e2]
    exact ⟨q, hq, e1, h1, h2⟩
  · rintro ⟨q, hq, rfl, h1, h2⟩
    exact ⟨q, hq, List.mem_map.mpr ⟨ss, wq_mem.mpr ⟨h1, h2⟩, rfl⟩⟩
theorem wR_of {rows : List Row} {m : Int} (R : ROk m rows) {q : Row} (h : q ∈ rows) : wR rows q.1 = q.2.toNat := by
  have := wR_row R h
  omega
theorem ks_has {rows : List Row} {m : Int} (R : ROk m rows) {many : Nat} {z : Str} {ss : List Nat} : (z, ss) ∈ ksOf rows many ↔ HasN rows z ∧ ss.length = wR rows z ∧ ∀ s ∈ ss, s < many := by
  rw [mem_ks]
  constructor
  · rintro ⟨q, hq, rfl, h1, h2⟩
    exact ⟨⟨q, hq, rfl⟩, by rw [wR_of R hq]; exact h1, h2⟩
  · rintro ⟨⟨q, hq, rfl⟩, h1, h2⟩
    exact ⟨q, hq, rfl, by rw [wR_of R hq] at h1; exact h1, h2⟩
def tkey (ss : List Nat) : List Key := ss.map fun i => .inl ((i : Nat) : Int)
theorem tkey_inj {a b : List Nat} (h : tkey a = tkey b) : a = b := inl_inj h
theorem tkey_V (ss : List Nat) : (tkey ss).map kV = nI ss := (nI_key ss).symm
def cz (n : Str) (es : List REnt) : List (List Key × V) := (es.filter fun e => decide (e.1 = n)).map fun e => (tkey e.2.1, .int ((e.2.2 : Nat) : Int))
theorem cz_snoc (n : Str) (es : List REnt) (e : REnt) : cz n (es ++ [e]) = cz n es ++ if e.1 = n then [(tkey e.2.1, .int ((e.2.2 : Nat) : Int))] else [] := by
  unfold cz
  rw [List.filter_append, List.map_append]
  congr 1
  by_cases h : e.1 = n
  · rw [if_pos h, List.filter_cons_of_pos (by rw [h]; simp)]
    rfl
  · rw [if_neg h, List.filter_cons_of_neg (by simp [h])]
    rfl
theorem cz_val (n : Str) (ss : List Nat) (es : List REnt) : valV (cz n es) (tkey ss) = (es.find? fun e => decide (ek e = (n, ss))).map fun e => V.int ((e.2.2 : Nat) : Int) := by
  induction es with
  | nil => rfl
  | cons e es ih =>
    unfold cz at ih ⊢
    by_cases h : e.1 = n
    · rw [List.filter_cons_of_pos (by rw [h]; simp), List.map_cons]
      by_cases h2 : e.2.1 = ss
      · rw [valV_pos (by show tkey e.2.1 = _; rw [h2]), List.find?_cons_of_pos (by unfold ek; rw [h, h2]; simp)]
        rfl
      · rw [valV_neg (fun q => h2 (tkey_inj q)), ih, List.find?_cons_of_neg (by show ¬ decide (ek e = (n, ss)) = true; exact fun q => h2 (Prod.mk.inj (of_decide_eq_true q)).2)]
    · rw [List.filter_cons_of_neg (by simp [h]), ih, List.find?_cons_of_neg (by show ¬ decide (ek e = (n, ss)) = true; exact fun q => h (Prod.mk.inj (of_decide_eq_true q)).1)]
structure CzAt (H : Hp) (d : Addr) (ns : List Str) (ds : List Addr) (es : List REnt) : Prop where
  at_ : H d = some (.dK (tnL ns ds))
  len : ds.length = ns.length
  nd : ds.Nodup
  nin : d ∉ ds
  row : ∀ (i : Nat) (n : Str) (a : Addr), ns[i]? = some n → ds[i]? = some a → H a = some (.dT (cz n es))
theorem CzAt.same {H H' : Hp} {d : Addr} {ns : List Str} {ds : List Addr} {es : List REnt} (x : CzAt H d ns ds es) (s : Same H H') : CzAt H' d ns ds es := ⟨s _ _ x.at_, x.len, x.nd, x.nin, fun i n a h1 h2 => s _ _ (x.row i n a h1 h2)⟩
theorem CzAt.add {H : Hp} {D p : Addr} {ns : List Str} {ds : List Addr} {n : Str} (x : CzAt H D ns ds []) (hp : H p = none) (hn : n ∉ ns) : CzAt (upd (upd H p (.dT [])) D (.dK (putK (tnL ns ds) (.inr n) (.ref p)))) D (ns ++ [n]) (ds ++ [p]) [] := by
  have npD : p ≠ D := fun e => by rw [e, x.at_] at hp; cases hp
  have npd : ∀ a ∈ ds, a ≠ p := fun a ha e => by
    obtain ⟨i, hi⟩ := List.mem_iff_getElem?.mp ha
    have l := (List.getElem?_eq_some_iff.mp hi).1
    have l : i < ns.length := by rw [← x.len]; exact l
    have q := x.row i ns[i] a (List.getElem?_eq_getElem l) hi
    rw [e, hp] at q
    cases q
  have fresh : valV (tnL ns ds) (.inr n) = none := valV_none fun kv hk e => by
    obtain ⟨q, hq, rfl⟩ := List.mem_map.mp hk
    have e : q.1 = n := inr_iff.mp e
    exact hn (e ▸ (List.of_mem_zip hq).1)
  refine ⟨?_, ?_, ?_, ?_, ?_⟩
  · rw [upd_same, putK_new _ fresh]
    unfold tnL
    rw [List.zip_append x.len.symm, List.map_append]
    rfl
  · rw [List.length_append, List.length_append, x.len]
    rfl
  · exact List.nodup_append.mpr ⟨x.nd, by simp, fun a ha b hb => by
      rw [List.mem_singleton.mp hb]
      exact npd a ha⟩
  · intro h
    rcases List.mem_append.mp h with h | h
    · exact x.nin h
    · exact npD (List.mem_singleton.mp h).symm
  · intro i m a h1 h2
    by_cases c : i < ns.length
    · rw [List.getElem?_append_left c] at h1
      rw [List.getElem?_append_left (by rw [x.len]; exact c)] at h2
      have q1 := x.row i m a h1 h2
      have ha := List.mem_of_getElem? h2
      have naD : a ≠ D := fun e => x.nin (by rw [← e]; exact ha)
      rw [upd_ne naD, upd_ne (npd a ha)]
      exact q1
    · rw [List.getElem?_append_right (by omega)] at h1
      rw [List.getElem?_append_right (by rw [x.len]; omega), x.len] at h2
      have e0 : i - ns.length = 0 := by
        have := (List.getElem?_eq_some_iff.mp h1).1
        have l1 : ([n] : List Str).length = 1 := rfl
        omega
      rw [e0] at h1 h2
      cases h1
      cases h2
      rw [upd_ne npD, upd_same]
      rfl
theorem CzAt.put {H : Hp} {D a : Addr} {ns : List Str} {ds : List Addr} {es : List REnt} {e : REnt} (x : CzAt H D ns ds es) (nd : ns.Nodup) (fr : ek e ∉ es.map ek) {i : Nat} (h1 : ns[i]? = some e.1) (h2 : ds[i]? = some a) :
    CzAt (upd H a (.dT (putK (cz e.1 es) (tkey e.2.1) (.int ((e.2.2 : Nat) : Int))))) D ns ds (es ++ [e]) := by
  have nDa : D ≠ a := fun q => x.nin (q ▸ List.mem_of_getElem? h2)
  have hv : valV (cz e.1 es) (tkey e.2.1) = none := by
    rw [cz_val, Option.map_eq_none_iff, List.find?_eq_none]
    intro q hq hk
    exact fr (List.mem_map.mpr ⟨q, hq, of_decide_eq_true hk⟩)
  refine ⟨by rw [upd_ne nDa]; exact x.at_, x.len, x.nd, x.nin, fun j m b g1 g2 => ?_⟩
  by_cases c : j = i
  · subst c
    rw [h1] at g1
    cases g1
    rw [h2] at g2
    cases g2
    rw [upd_same, putK_new _ hv, cz_snoc, if_pos rfl]
  · have nb : b ≠ a := fun q => by
      have l1 := (List.getElem?_eq_some_iff.mp g2)
      have l2 := (List.getElem?_eq_some_iff.mp h2)
      exact c ((List.getElem_inj x.nd).mp (l1.2.trans (q.trans l2.2.symm)))
    have nm : e.1 ≠ m := fun q => c (nd_at nd (q ▸ g1) h1)
    rw [upd_ne nb, cz_snoc, if_neg nm, List.append_nil]
    exact x.row j m b g1 g2
end Sh
end
section
set_option Elab.async false
set_option linter.all false
set_option maxRecDepth 100000
set_option maxHeartbeats 4000000
namespace Sh
open PySem PySem.Spec PyProof.Rows L2
open C8 (pss_cut tCut)
open Evl (ixN_nat)
/-- a box: three numbers -/
def BxT (H : Hp) (x : Addr) : Prop := ∃ a b c : Int, H x = some (.lst [.int a, .int b, .int c])
theorem BxT.same {H H' : Hp} {x : Addr} (h : BxT H x) (s : Same H H') : BxT H' x := by
  obtain ⟨a, b, c, h⟩ := h
  exact ⟨a, b, c, s _ _ h⟩
theorem BxT.ne {H : Hp} {x p : Addr} (h : BxT H x) (hp : H p = none) : p ≠ x := fun e => by
  obtain ⟨a, b, c, h⟩ := h
  rw [e, h] at hp
  cases hp
theorem BxT.upd_ne {H : Hp} {x p : Addr} {o : HO} (h : BxT H x) (n : p ≠ x) : BxT (upd H p o) x := by
  obtain ⟨a, b, c, h⟩ := h
  exact ⟨a, b, c, by rw [L2.upd_ne (Ne.symm n)]; exact h⟩
theorem BxT.new {H : Hp} {x p : Addr} {o : HO} (h : BxT H x) (hp : H p = none) : BxT (upd H p o) x := h.upd_ne (h.ne hp)
def spTake : Sp := fun vs H Q _ => ∃ (x : Addr) (m : Int), vs = [.ref x, .int m] ∧ BxT H x ∧ 0 < m ∧ m < 1000000000 ∧ ∀ (H' : Hp) (e : Nat), Kp x H H' → BxT H' x → (e : Int) < m → Q (.int (e : Nat)) H'
def spBox (K : PySem.W.Frag) : Sp := fun vs H Q _ => ∃ (s : Addr) (ns : List Int) (k : Nat), vs = [.ref s, .int (k : Nat)] ∧ SqL K H s (ns.map V.int) ∧ (∀ H', Same H H' → SqL K H' s (ns.map V.int)) ∧ ns.length ≤ 63 ∧ k < 4 ∧ ∀ (H' : Hp) (x : Addr), Same H H' → H x = none → BxT H' x → Q (.ref x) H'
abbrev N_law_box : List Str := ["script", "k"]
theorem sc_law_box : FnScope N_law_box ["script", "k"] (defScope s_law_box) := ⟨rfl, rfl, rfl, by decide +kernel, rfl, by decide +kernel, by decide +kernel⟩
abbrev N_law_take : List Str := ["box", "many", "digit", "mixed"]
theorem sc_law_take : FnScope N_law_take ["box", "many"] (defScope s_law_take) := ⟨rfl, rfl, rfl, by decide +kernel, rfl, by decide +kernel, by decide +kernel⟩
section
variable {P : Program} {w : World} {K : PySem.W.Frag} {mg : Str → Option Value} {base : Heap}
theorem ok_take (T : Bl mg) (D : Def0 K mg "_law_take" s_law_take) : DefOk P w K mg base CX0 1 "_law_take" spTake := by
  refine D.ok sc_law_take (fun vs H Q E h => ?_) (fun _ _ _ _ _ _ us hl => match us, hl with | [_, _], _ => rfl) (fun f cdv A outer s H vs Q E hr h => ?_)
  · obtain ⟨x, m, rfl, _⟩ := h
    rfl
  · obtain ⟨x, m, rfl, ⟨a, b, c, hx⟩, m0, m1, k⟩ := h
    have k : ∀ (H' : Hp) (e : Int), Kp x H H' → BxT H' x → 0 ≤ e → e < m → Q (.int e) H' := fun H' e h1 h2 h3 h4 => by
      have := k H' e.toNat h1 h2 (by omega)
      rwa [Int.toNat_of_nonneg h3] at this
    refine ⟨_, (pss_cons (ps_asg (pe_op op_add (pe_ix ix_list (pv 0) pe_int (fun _ _ => rfl)) pe_int) (pg_sub (pv 0) pe_int set_list))
      (pss_cons (ps_if (pt_cmpR op_ge (pe_ix ix_list (pv 0) pe_int (fun _ _ => rfl)) (pe_op op_pow pe_int pe_int) (nomark _))
        (pss_cons (ps_set (i := 2) sc_law_take.nd rfl (Or.inl rfl) (pe_op op_mod (pe_callTy call_int1 (by rfl) T.b_int (by decide +kernel) (pa_cons (pe_ix ix_list (pv 0) pe_int (fun _ _ => rfl)) pa_nil)) (pv 1)))
        (pss_cons (ps_asg (pe_op op_fdiv (pe_callTy call_int1 (by rfl) T.b_int (by decide +kernel) (pa_cons (pe_ix ix_list (pv 0) pe_int (fun _ _ => rfl)) pa_nil)) (pv 1)) (pg_sub (pv 0) pe_int set_list))
        (pss_one (ps_ret (pv 2)))))
        pss_nil)
      (pss_cons (ps_set (i := 3) sc_law_take.nd rfl (Or.inl rfl) (pe_op op_mod (pe_callTy call_int1 (by rfl) T.b_int (by decide +kernel) (pa_cons (pe_op op_add (pe_op op_add (pe_op op_add (pe_op op_mul (pe_ix ix_list (pv 0) pe_int (fun _ _ => rfl)) pe_int) (pe_op op_mul (pe_ix ix_list (pv 0) pe_int (fun _ _ => rfl)) pe_int)) (pe_op op_mul (pe_ix ix_list (pv 0) pe_int (fun _ _ => rfl)) pe_int)) pe_int) pa_nil)) pe_int))
      (pss_cons (ps_set (i := 3) sc_law_take.nd rfl (Or.inl rfl) (pe_op op_mod (pe_callTy call_int1 (by rfl) T.b_int (by decide +kernel) (pa_cons (pe_op op_add (pe_op op_mul (pv 3) (pv 3)) (pe_op op_mul (pe_ix ix_list (pv 0) pe_int (fun _ _ => rfl)) pe_int)) pa_nil)) pe_int))
      (pss_cons (ps_set (i := 3) sc_law_take.nd rfl (Or.inl rfl) (pe_op op_mod (pe_callTy call_int1 (by rfl) T.b_int (by decide +kernel) (pa_cons (pe_op op_add (pe_op op_mul (pv 3) (pv 3)) (pe_op op_mul (pe_ix ix_list (pv 0) pe_int (fun _ _ => rfl)) pe_int)) pa_nil)) pe_int))
      (pss_one (ps_ret (pe_op op_mod (pe_callTy call_int1 (by rfl) T.b_int (by decide +kernel) (pa_cons (pe_op op_fdiv (pv 3) pe_int) pa_nil)) (pv 1))))))))), ?_⟩
    refine ⟨_, rfl, x, _, _, _, rfl, rfl, SqL.of hx, atI_nat (j := 1) rfl, _, _, rfl, rfl, _, rfl, x, _, _, 1, rfl, rfl, hx, ixN_nat (by show 1 < 3; decide), ?_⟩
    have k1 : Kp x H (upd H x (.lst ([V.int a, V.int b, V.int c].set 1 (.int (b + 1))))) := (Kp.refl x H).upd
    have h1 : (upd H x (.lst ([V.int a, V.int b, V.int c].set 1 (.int (b + 1))))) x = some (.lst [.int a, .int (b + 1), .int c]) := upd_same
    generalize upd H x (.lst ([V.int a, V.int b, V.int c].set 1 (.int (b + 1)))) = H1 at k1 h1
    refine ⟨_, rfl, x, _, _, _, rfl, rfl, SqL.of h1, atI_nat (j := 0) rfl, _, _, rfl, rfl, ⟨by decide, by decide, by decide⟩, _, _, rfl, rfl, _, rfl, ite2 (fun _ => ?_) (fun _ => ?_)⟩
    · refine ⟨_, rfl, x, _, _, _, rfl, rfl, SqL.of h1, atI_nat (j := 0) rfl, .inl ⟨_, rfl, ?_⟩⟩
      refine ⟨_, rfl, _, _, rfl, rfl, by omega, ?_⟩
      refine ⟨_, rfl, x, _, _, _, rfl, rfl, SqL.of h1, atI_nat (j := 0) rfl, .inl ⟨_, rfl, ?_⟩⟩
      refine ⟨_, rfl, _, _, rfl, rfl, ⟨by omega, by omega⟩, _, rfl, x, _, _, 0, rfl, rfl, h1, ixN_nat (by show 0 < 3; decide), ?_⟩
      refine ⟨_, rfl, ?_⟩
      exact k _ _ k1.upd ⟨_, _, _, upd_same⟩ (Int.emod_nonneg _ (by omega)) (Int.emod_lt_of_pos _ m0)
    · refine ⟨_, rfl, x, _, _, _, rfl, rfl, SqL.of h1, atI_nat (j := 0) rfl, _, _, rfl, rfl, .inr ⟨by decide, by decide⟩, ?_⟩
      refine ⟨_, rfl, x, _, _, _, rfl, rfl, SqL.of h1, atI_nat (j := 1) rfl, _, _, rfl, rfl, .inr ⟨by decide, by decide⟩, _, _, rfl, rfl, ?_⟩
      refine ⟨_, rfl, x, _, _, _, rfl, rfl, SqL.of h1, atI_nat (j := 2) rfl, _, _, rfl, rfl, .inr ⟨by decide, by decide⟩, _, _, rfl, rfl, _, _, rfl, rfl, .inl ⟨_, rfl, _, _, rfl, rfl, by show (0 : Int) < 2147483647; decide, ?_⟩⟩
      generalize e1 : (a * 48271 + (b + 1) * 69621 + c * 1009 + 4285) % 2147483647 = z1
      have z10 : 0 ≤ z1 := by rw [← e1]; exact Int.emod_nonneg _ (by decide)
      have z11 : z1 < 2147483647 := by rw [← e1]; exact Int.emod_lt_of_pos _ (by decide)
      refine ⟨_, rfl, _, rfl, _, _, rfl, rfl, .inr ⟨by omega, by omega⟩, ?_⟩
      refine ⟨_, rfl, x, _, _, _, rfl, rfl, SqL.of h1, atI_nat (j := 1) rfl, _, _, rfl, rfl, .inr ⟨by decide, by decide⟩, _, _, rfl, rfl, .inl ⟨_, rfl, _, _, rfl, rfl, by show (0 : Int) < 2147483629; decide, ?_⟩⟩
      generalize e2 : (z1 * z1 + (b + 1) * 16807) % 2147483629 = z2
      have z20 : 0 ≤ z2 := by rw [← e2]; exact Int.emod_nonneg _ (by decide)
      have z21 : z2 < 2147483629 := by rw [← e2]; exact Int.emod_lt_of_pos _ (by decide)
      refine ⟨_, rfl, _, rfl, _, _, rfl, rfl, .inr ⟨by omega, by omega⟩, ?_⟩
      refine ⟨_, rfl, x, _, _, _, rfl, rfl, SqL.of h1, atI_nat (j := 1) rfl, _, _, rfl, rfl, .inr ⟨by decide, by decide⟩, _, _, rfl, rfl, .inl ⟨_, rfl, _, _, rfl, rfl, by show (0 : Int) < 2147483587; decide, ?_⟩⟩
      refine ⟨_, rfl, _, _, rfl, rfl, ⟨by decide, by decide⟩, .inl ⟨_, rfl, ?_⟩⟩
      refine ⟨_, rfl, _, _, rfl, rfl, by omega, ?_⟩
      exact k _ _ k1 ⟨_, _, _, h1⟩ (Int.emod_nonneg _ (by omega)) (Int.emod_lt_of_pos _ m0)
theorem ok_box (T : Bl mg) (b_sum : mg "sum" = none) (D : Def0 K mg "_law_box" s_law_box) : DefOk P w K mg base CX0 1 "_law_box" (spBox K) := by
  refine D.ok sc_law_box (fun vs H Q E h => ?_) (fun _ _ _ _ _ _ us hl => match us, hl with | [_, _], _ => rfl) (fun f cdv A outer s' H vs Q E hr h => ?_)
  · obtain ⟨s, ns, k, rfl, _⟩ := h
    rfl
  · obtain ⟨s, ns, k, rfl, hs, hS, hl, k3, key⟩ := h
    have ls : (ns.map V.int).length = ns.length := List.length_map ..
    refine ⟨_, (pss_cons (ps_if (pt_cmpR op_lt (pv 1) (pe_callB call_len_seq (by rfl) T.b_len boot_len (pa_cons (pv 0) pa_nil)) (nomark _))
        (pss_one (ps_ret (pe_lst (pa_cons (pe_callTy call_int1 (by rfl) T.b_int (by decide +kernel) (pa_cons (pe_ix ix_list (pv 0) (pv 1) (fun _ _ => rfl)) pa_nil)) (pa_cons pe_int (pa_cons (pv 1) pa_nil))))))
        pss_nil)
      (pss_one (ps_ret (pe_lst (pa_cons (pe_op op_add (pe_op op_mul (pe_op op_mod (pe_callTy call_int1 (by rfl) T.b_int (by decide +kernel) (pa_cons (pe_callB (cr_sum rfl) (by rfl) b_sum (by decide +kernel) (pa_cons (pv 0) pa_nil)) pa_nil)) pe_int) pe_int) (pv 1)) (pa_cons pe_int (pa_cons (pv 1) pa_nil))))))), ?_⟩
    refine ⟨_, rfl, _, rfl, s, _, rfl, .inl hs, _, _, rfl, rfl, _, rfl, ?_⟩
    rw [ls]
    by_cases c : k < ns.length
    · refine ifp (decide_eq_true (by omega)) ?_
      refine ⟨_, rfl, _, rfl, s, _, _, _, rfl, rfl, hs, at_ofG (j := k) rfl (by rw [List.getElem?_map, List.getElem?_eq_getElem c]; rfl), .inl ⟨_, rfl, ?_⟩⟩
      refine ⟨_, rfl, le_line (show 3 ≤ 10000000 by decide), fun x hx => ?_⟩
      exact key _ x ((Same.refl H).upd_new hx) hx ⟨_, _, _, upd_same⟩
    refine ifn (fun h => c (by have := of_decide_eq_true h; omega)) ?_
    refine ⟨_, rfl, s, ns, rfl, hs, .inl ⟨_, rfl, ?_⟩⟩
    refine ⟨_, _, rfl, rfl, by show (0 : Int) < 1000003; decide, _, _, rfl, rfl, .inr ⟨by decide, by decide⟩, _, rfl, _, _, rfl, rfl, _, rfl, le_line (show 3 ≤ 10000000 by decide), fun x hx => ?_⟩
    exact key _ x ((Same.refl H).upd_new hx) hx ⟨_, _, _, upd_same⟩
end
end Sh
end
section
set_option Elab.async false
set_option linter.all false
set_option maxRecDepth 100000
set_option maxHeartbeats 4000000
namespace Sh
open PySem PySem.Spec PyProof.Rows L2
open TL (tl joinL tl_join join_eq tl_append)
open C8 (pss_cut tCut)
open Evl (ixN_nat)
theorem app_sg (x : Str) (c : Nat) : (x ++ sg c).cps.toList = x.cps.toList ++ [c] := tl_append x (sg c)
theorem size_tl (x : Str) : x.cps.size = x.cps.toList.length := (Array.length_toList).symm
theorem pickI {l : List Int} (Pz : Int → Prop) (h : ∀ z ∈ l, Pz z) {e : Nat} (he : e < l.length) : ∃ z : Int, (l.map V.int)[e]? = some (.int z) ∧ Pz z :=
  ⟨l[e], by rw [List.getElem?_map, List.getElem?_eq_getElem he]; rfl, h _ (List.getElem_mem he)⟩
theorem Kp.freeT {x p : Addr} {H H' : Hp} (k : Kp x H H') (b : BxT H' x) (h : H' p = none) : H p = none := k.free_of h (b.ne h)
def spBed6 : Sp := fun vs H Q _ => ∃ (x : Addr) (top : Int), vs = [.ref x, .int top] ∧ BxT H x ∧ (top = 3 ∨ top = 1) ∧ ∀ (H' : Hp) (r : Addr) (ts : List Addr) (rows : List Row), Kp x H H' → BxT H' x → H' r = some (.tup (ts.map V.ref)) → TupsAt H' ts rows → ROk 4 rows → (∀ q ∈ rows, q.2 ≤ top) → Q (.ref r) H'
/-- letter of the name of kind k at a place -/
def ltr (s d : Int) (k : Nat) : Nat := 97 + ((s + (k : Int) * d) % 26).toNat
theorem ltr_lo (s d : Int) (k : Nat) : 97 ≤ ltr s d k ∧ ltr s d k ≤ 122 := by
  unfold ltr
  have := Int.emod_nonneg (s + (k : Int) * d) (show (26 : Int) ≠ 0 by decide)
  have := Int.emod_lt_of_pos (s + (k : Int) * d) (show (0 : Int) < 26 by decide)
  omega
def odd6 : List Int := [1, 3, 5, 7, 9, 11, 15, 17, 19, 21, 23, 25]
theorem ltr_inj {s d : Int} (hd : d ∈ odd6) {j k : Nat} (hj : j < 4) (hk : k < 4) (h : ltr s d j = ltr s d k) : j = k := by
  unfold ltr at h
  have h1 := Int.emod_nonneg (s + (j : Int) * d) (show (26 : Int) ≠ 0 by decide)
  have h2 := Int.emod_nonneg (s + (k : Int) * d) (show (26 : Int) ≠ 0 by decide)
  have h3 : (s + (j : Int) * d) % 26 = (s + (k : Int) * d) % 26 := by omega
  have h4 : ((j : Int) * d - (k : Int) * d) % 26 = 0 := by omega
  unfold odd6 at hd
  simp only [List.mem_cons, List.not_mem_nil, or_false] at hd
  rcases (show j = 0 ∨ j = 1 ∨ j = 2 ∨ j = 3 by omega) with rfl | rfl | rfl | rfl <;> rcases (show k = 0 ∨ k = 1 ∨ k = 2 ∨ k = 3 by omega) with rfl | rfl | rfl | rfl <;>
    first
    | rfl
    | (exfalso; rcases hd with rfl | rfl | rfl | rfl | rfl | rfl | rfl | rfl | rfl | rfl | rfl | rfl <;> omega)
/-- a name of kind k: its letters by the grid -/
def NmAt (ss ds : List Int) (n k : Nat) (z : Str) : Prop := z.cps.size = n ∧ ∀ (i : Nat) (c : Nat), z.cps.toList[i]? = some c → ∃ s d, ss[i]? = some s ∧ ds[i]? = some d ∧ c = ltr s d k
abbrev N_law_bed : List Str := ["box", "top", "letters", "many", "bound", "sizes", "k", "size", "spot", "alike", "starts", "strides", "stride", "kinds", "name", "length", "place"]
theorem sc_law_bed : FnScope N_law_bed ["box", "top"] (defScope s_law_bed) := ⟨rfl, rfl, rfl, by decide +kernel, rfl, by decide +kernel, by decide +kernel⟩
section
variable {P : Program} {w : World} {K : PySem.W.Frag} {mg : Str → Option Value} {base : Heap}
theorem ok_bed6 (T : Bl mg) (b_min : mg "min" = none) (c_law_take : DefOk P w K mg base CX0 1 "_law_take" spTake) (D : Def0 K mg "_law_bed" s_law_bed) : DefOk P w K mg base CX0 2 "_law_bed" spBed6 := by
  refine D.ok sc_law_bed (fun vs H Q E h => ?_) (fun _ _ _ _ _ _ us hl => match us, hl with | [_, _], _ => rfl) (fun f cdv A outer s' H vs Q E hr h => ?_)
  · obtain ⟨x, top, rfl, _⟩ := h
    rfl
  · obtain ⟨x, top, rfl, hx, htop, key⟩ := h
    refine ⟨_, (pss_cons (ps_set (i := 2) sc_law_bed.nd rfl (Or.inl rfl) pe_str)
      (pss_cons (ps_set (i := 3) sc_law_bed.nd rfl (Or.inl rfl) (pe_ix ix_list (pe_lst (pa_cons pe_int (pa_cons pe_int (pa_cons pe_int (pa_cons pe_int (pa_cons pe_int (pa_cons pe_int (pa_cons pe_int (pa_cons pe_int pa_nil))))))))) (pe_d c_law_take (hr.mono (by decide)) pass0 (pa_cons (pv 0) (pa_cons pe_int pa_nil))) (fun _ _ => rfl)))
      (pss_cons (ps_set (i := 4) sc_law_bed.nd rfl (Or.inl rfl) (pe_d c_law_take (hr.mono (by decide)) pass0 (pa_cons (pv 0) (pa_cons (pv 3) pa_nil))))
      (pss_cons (ps_set (i := 5) sc_law_bed.nd rfl (Or.inl rfl) (pe_lst pa_nil))
      (pss_cons (ps_for PassesOwn.never rfl (pi_range1 (by rfl) T.b_range (pa_cons (pv 3) pa_nil)) (pg_name (i := 6) sc_law_bed.nd rfl (Or.inl rfl))
        (pss_cons (ps_set (i := 7) sc_law_bed.nd rfl (Or.inl rfl) (pe_ix ix_list (pe_lst (pa_cons pe_int (pa_cons pe_int (pa_cons pe_int (pa_cons pe_int (pa_cons pe_int (pa_cons pe_int (pa_cons pe_int (pa_cons pe_int pa_nil))))))))) (pe_d c_law_take (hr.mono (by decide)) pass0 (pa_cons (pv 0) (pa_cons pe_int pa_nil))) (fun _ _ => rfl)))
        (pss_cut (ps_if (pt_cmpR op_eq (pv 6) (pv 4) (nomark _))
          (pss_one (ps_set (i := 7) sc_law_bed.nd rfl (Or.inl rfl) pe_int))
          pss_nil)
        (pss_cut (ps_if (PW.pt (pw_and (pt_cmpR op_eq (pv 7) pe_int (nomark _)) (pw_and1 (pt_cmpR op_in_seq pe_int (pv 5) (by rfl)))))
          (pss_one (ps_set (i := 7) sc_law_bed.nd rfl (Or.inl rfl) pe_int))
          pss_nil)
        (pss_one (ps_expr (pe_bm PySem.F.plainAttrs_list PySem.F.slot_list_append PySem.F.type_list_append mt_append (pv 5) (pa_cons (pe_callB (call_min2 rfl) (by rfl) b_min (by decide +kernel) (pa_cons (pv 7) (pa_cons (pv 1) pa_nil))) pa_nil))))))))
      (pss_cons (ps_set (i := 8) sc_law_bed.nd rfl (Or.inl rfl) (pe_d c_law_take (hr.mono (by decide)) pass0 (pa_cons (pv 0) (pa_cons pe_int pa_nil))))
      (pss_cons (ps_set (i := 9) sc_law_bed.nd rfl (Or.inl rfl) (pe_d c_law_take (hr.mono (by decide)) pass0 (pa_cons (pv 0) (pa_cons pe_int pa_nil))))
      (pss_cons (ps_set (i := 10) sc_law_bed.nd rfl (Or.inl rfl) (pe_lst pa_nil))
      (pss_cons (ps_set (i := 11) sc_law_bed.nd rfl (Or.inl rfl) (pe_lst pa_nil))
      (pss_cons (ps_for PassesOwn.never rfl (pi_range1 (by rfl) T.b_range (pa_cons pe_int pa_nil)) (pg_name (i := 6) sc_law_bed.nd rfl (Or.inl rfl))
        (pss_cons (ps_expr (pe_bm PySem.F.plainAttrs_list PySem.F.slot_list_append PySem.F.type_list_append mt_append (pv 10) (pa_cons (pe_d c_law_take (hr.mono (by decide)) pass0 (pa_cons (pv 0) (pa_cons pe_int pa_nil))) pa_nil)))
        (pss_cons (ps_set (i := 12) sc_law_bed.nd rfl (Or.inl rfl) (pe_d c_law_take (hr.mono (by decide)) pass0 (pa_cons (pv 0) (pa_cons pe_int pa_nil))))
        (pss_cut (ps_if (pt_cmpR op_eq (pv 6) (pv 8) (nomark _))
          (pss_one (ps_set (i := 12) sc_law_bed.nd rfl (Or.inl rfl) (pe_ix ix_list (pe_lst (pa_cons pe_int (pa_cons pe_int (pa_cons pe_int (pa_cons pe_int (pa_cons pe_int (pa_cons pe_int (pa_cons pe_int (pa_cons pe_int (pa_cons pe_int (pa_cons pe_int (pa_cons pe_int (pa_cons pe_int pa_nil))))))))))))) (pv 12) (fun _ _ => rfl))))
          (pss_one (ps_if (pt_cmpR op_eq (pv 9) pe_int (nomark _))
            (pss_one (ps_set (i := 12) sc_law_bed.nd rfl (Or.inl rfl) pe_int))
            pss_nil)))
        (pss_one (ps_expr (pe_bm PySem.F.plainAttrs_list PySem.F.slot_list_append PySem.F.type_list_append mt_append (pv 11) (pa_cons (pv 12) pa_nil))))))))
      (pss_cons (ps_set (i := 13) sc_law_bed.nd rfl (Or.inl rfl) (pe_lst pa_nil))
      (pss_cons (ps_for PassesOwn.never rfl (pi_range1 (by rfl) T.b_range (pa_cons (pv 3) pa_nil)) (pg_name (i := 6) sc_law_bed.nd rfl (Or.inl rfl))
        (pss_cons (ps_set (i := 14) sc_law_bed.nd rfl (Or.inl rfl) pe_str)
        (pss_cons (ps_set (i := 15) sc_law_bed.nd rfl (Or.inl rfl) (pe_op op_add (pe_op op_add (pv 8) pe_int) (pe_d c_law_take (hr.mono (by decide)) pass0 (pa_cons (pv 0) (pa_cons (pe_op op_sub pe_int (pv 8)) pa_nil)))))
        (pss_cons (ps_for PassesOwn.never rfl (pi_range1 (by rfl) T.b_range (pa_cons (pv 15) pa_nil)) (pg_name (i := 16) sc_law_bed.nd rfl (Or.inl rfl))
          (pss_one (ps_set (i := 14) sc_law_bed.nd rfl (Or.inl rfl) (pe_op op_add_str (pv 14) (pe_ix ix_str (pv 2) (pe_op op_mod (pe_callTy call_int1 (by rfl) T.b_int (by decide +kernel) (pa_cons (pe_op op_add (pe_ix ix_list (pv 10) (pv 16) (fun _ _ => rfl)) (pe_op op_mul (pv 6) (pe_ix ix_list (pv 11) (pv 16) (fun _ _ => rfl)))) pa_nil)) pe_int) (fun _ _ => rfl))))))
        (pss_one (ps_expr (pe_bm PySem.F.plainAttrs_list PySem.F.slot_list_append PySem.F.type_list_append mt_append (pv 13) (pa_cons (pe_tup (pa_cons (pv 14) (pa_cons (pe_ix ix_list (pv 5) (pv 6) (fun _ _ => rfl)) pa_nil))) pa_nil))))))))
      (pss_one (ps_ret (pe_callTy call_tuple_of (by rfl) T.b_tuple (by decide +kernel) (pa_cons (pv 13) pa_nil)))))))))))))))), ?_⟩
    refine ⟨le_line (show 8 ≤ 10000000 by decide), fun l1 hl1 => ?_⟩
    have n1 := hx.ne hl1
    have s1 := (Same.refl H).upd_new (o := .lst [V.int 3, V.int 2, V.int 3, V.int 4, V.int 1, V.int 2, V.int 3, V.int 4]) hl1
    have e1 : (upd H l1 (.lst [V.int 3, V.int 2, V.int 3, V.int 4, V.int 1, V.int 2, V.int 3, V.int 4])) l1 = some (.lst (([3, 2, 3, 4, 1, 2, 3, 4] : List Int).map V.int)) := upd_same
    generalize upd H l1 (.lst [V.int 3, V.int 2, V.int 3, V.int 4, V.int 1, V.int 2, V.int 3, V.int 4]) = H1 at s1 e1
    refine ⟨_, rfl, x, 8, rfl, hx.same s1, by decide, by decide, fun H2 d k2 b2 d8 => ?_⟩
    obtain ⟨mi, hm, m1, m4⟩ := pickI (l := [3, 2, 3, 4, 1, 2, 3, 4]) (fun z => 1 ≤ z ∧ z ≤ 4) (by decide) (e := d) (by show d < 8; omega)
    refine ⟨l1, _, _, _, rfl, rfl, SqL.of (k2 _ _ e1 n1), at_ofG (j := d) rfl hm, ?_⟩
    obtain ⟨m, rfl⟩ := Int.eq_ofNat_of_zero_le (show 0 ≤ mi by omega)
    refine ⟨_, rfl, _, rfl, x, (m : Int), rfl, b2, by omega, by omega, fun H3 lo k3 b3 lo1 => ?_⟩
    have k03 := (Kp.same s1).trans (k2.trans k3)
    refine ⟨le_line (show 0 ≤ 10000000 by decide), fun S hS0 => ?_⟩
    have hS := k03.freeT b3 hS0
    have nS := b3.ne hS0
    have k04 := k03.upd_new (o := .lst []) hS0
    have b4 := b3.new (o := .lst []) hS0
    have e4 : (upd H3 S (.lst [])) S = some (.lst (([] : List Int).map V.int)) := upd_same
    generalize upd H3 S (.lst []) = H4 at k04 b4 e4
    refine ⟨_, rfl, _, rfl, by omega, by omega, ?_⟩
    rw [Int.toNat_natCast]
    refine for_range (n := m) (fun i σ H' => ∃ (x6 x7 : Option V) (ws : List Int), σ = [some (.ref x), some (.int top), some (.str "abcdefghijklmnopqrstuvwxyz"), some (.int (m : Nat)), some (.int (lo : Nat)), some (.ref S), x6, x7, none, none, none, none, none, none, none, none, none] ∧ Kp x H H' ∧ BxT H' x ∧ H' S = some (.lst (ws.map V.int)) ∧ ws.length = i ∧ (∀ z ∈ ws, 0 ≤ z ∧ z ≤ 3 ∧ z ≤ top) ∧ (lo < i → ws[lo]? = some 0))
      ⟨none, none, [], rfl, k04, b4, e4, rfl, (fun z h => nomatch h), fun h => by omega⟩ ?_ ?_
    · rintro i σ H5 hi ⟨x6, x7, ws, rfl, k5, b5, e5, lw, wok, wlo⟩
      refine ⟨le_line (show 8 ≤ 10000000 by decide), fun l2 hl2 => ?_⟩
      have n2 := b5.ne hl2
      have n2S : S ≠ l2 := ne_of_none e5 hl2
      have k56 := (Kp.refl x H5).upd_new (o := .lst [V.int 2, V.int 1, V.int 0, V.int 2, V.int 1, V.int 3, V.int 2, V.int 0]) hl2
      have e6 : (upd H5 l2 (.lst [V.int 2, V.int 1, V.int 0, V.int 2, V.int 1, V.int 3, V.int 2, V.int 0])) l2 = some (.lst (([2, 1, 0, 2, 1, 3, 2, 0] : List Int).map V.int)) := upd_same
      have b6 := b5.new (o := .lst [V.int 2, V.int 1, V.int 0, V.int 2, V.int 1, V.int 3, V.int 2, V.int 0]) hl2
      generalize upd H5 l2 (.lst [V.int 2, V.int 1, V.int 0, V.int 2, V.int 1, V.int 3, V.int 2, V.int 0]) = H6 at k56 e6 b6
      refine ⟨_, rfl, x, 8, rfl, b6, by decide, by decide, fun H7 d7 k7 b7 d78 => ?_⟩
      obtain ⟨wi, hwi, w0, w3⟩ := pickI (l := [2, 1, 0, 2, 1, 3, 2, 0]) (fun z => 0 ≤ z ∧ z ≤ 3) (by decide) (e := d7) (by show d7 < 8; omega)
      refine ⟨l2, _, _, _, rfl, rfl, SqL.of (k7 _ _ e6 n2), at_ofG (j := d7) rfl hwi, ?_⟩
      have k57 := k56.trans k7
      have e7 := k57 _ _ e5 nS
      have k07 := k5.trans k57
      refine ⟨fun σ H' => H' = H7 ∧ ∃ w' : Int, σ = [some (.ref x), some (.int top), some (.str "abcdefghijklmnopqrstuvwxyz"), some (.int (m : Nat)), some (.int (lo : Nat)), some (.ref S), some (.int (0 + ((i : Nat) : Int))), some (.int w'), none, none, none, none, none, none, none, none, none] ∧ 0 ≤ w' ∧ w' ≤ 3 ∧ (lo = i → w' = 0), ?_, ?_⟩
      · refine ⟨_, rfl, _, rfl, rfl, _, rfl, ite2 (fun _ => ⟨rfl, 0, rfl, by decide, by decide, fun _ => rfl⟩) (fun c => ⟨rfl, wi, rfl, w0, w3, fun e => absurd (decide_eq_true ?_) c⟩)⟩
        rw [e]
        congr 1
        omega
      rintro σ H7' ⟨e7', w', rfl, w0', w3', wl⟩
      obtain rfl : H7 = H7' := e7'.symm
      refine ⟨fun σ H' => H' = H7 ∧ ∃ w' : Int, σ = [some (.ref x), some (.int top), some (.str "abcdefghijklmnopqrstuvwxyz"), some (.int (m : Nat)), some (.int (lo : Nat)), some (.ref S), some (.int (0 + ((i : Nat) : Int))), some (.int w'), none, none, none, none, none, none, none, none, none] ∧ 0 ≤ w' ∧ w' ≤ 3 ∧ (lo = i → w' = 0), ?_, ?_⟩
      · refine ⟨_, rfl, rfl, _, rfl, ite2 (fun c3 => ?_) (fun _ => ⟨rfl, w', rfl, w0', w3', wl⟩)⟩
        have e3 : w' = 3 := V.int.inj (of_decide_eq_true c3)
        have fl : (ws.map V.int).all flatV = true := List.all_eq_true.mpr fun v hv => by
          obtain ⟨q, _, rfl⟩ := List.mem_map.mp hv
          rfl
        refine ⟨_, rfl, S, _, rfl, .inl (SqL.of e7), rfl, fl, _, rfl, ite2 (fun _ => ⟨rfl, 2, rfl, by decide, by decide, fun e => ?_⟩) (fun _ => ⟨rfl, w', rfl, w0', w3', wl⟩)⟩
        have := wl e
        omega
      rintro σ H7' ⟨e7', w2, rfl, w02, w32, wl2⟩
      obtain rfl : H7 = H7' := e7'.symm
      refine ⟨_, rfl, .inl ⟨rfl, _, SqL.of e7⟩, _, rfl, _, rfl, _, _, rfl, S, _, _, rfl, rfl, e7, by rw [List.length_map]; exact lt_line (by omega), ?_⟩
      refine ⟨_, _, ws ++ [if top < w2 then top else w2], rfl, k07.upd_own hS, b7.upd_ne (Ne.symm (Ne.symm nS)), by rw [upd_same, List.map_append]; rfl, by rw [List.length_append, lw]; rfl, fun z hz => ?_, fun h => ?_⟩
      · rcases List.mem_append.mp hz with q | q
        · exact wok z q
        · rw [List.mem_singleton.mp q]
          split <;> omega
      · by_cases e : lo = i
        · rw [List.getElem?_append_right (by omega), e, lw, Nat.sub_self, wl2 e]
          have : ¬ top < 0 := by omega
          rw [if_neg this]
          rfl
        · rw [List.getElem?_append_left (by omega)]
          exact wlo (by omega)
    rintro σ H5 ⟨x6, x7, ws, rfl, k5, b5, e5, lw, wok, wlo⟩
    have wlo := wlo (by omega)
    -- the grid
    refine ⟨_, rfl, x, 8, rfl, b5, by decide, by decide, fun H6 sp k6 b6 sp8 => ?_⟩
    refine ⟨_, rfl, x, 2, rfl, b6, by decide, by decide, fun H7 al k7 b7 al2 => ?_⟩
    have k57 := k6.trans k7
    have k07 := k5.trans k57
    have e7 := k57 _ _ e5 nS
    refine ⟨le_line (show 0 ≤ 10000000 by decide), fun A1 hA0 => ?_⟩
    have hA := k07.freeT b7 hA0
    have nA := b7.ne hA0
    have nSA : S ≠ A1 := ne_of_none e7 hA0
    have k08 := k07.upd_new (o := .lst []) hA0
    have b8 := b7.new (o := .lst []) hA0
    have e8 : (upd H7 A1 (.lst [])) A1 = some (.lst (([] : List Int).map V.int)) := upd_same
    have S8 : (upd H7 A1 (.lst [])) S = some (.lst (ws.map V.int)) := by rw [upd_ne nSA]; exact e7
    generalize upd H7 A1 (.lst []) = H8 at k08 b8 e8 S8
    refine ⟨le_line (show 0 ≤ 10000000 by decide), fun B1 hB0 => ?_⟩
    have hB := k08.freeT b8 hB0
    have nB := b8.ne hB0
    have nSB : S ≠ B1 := ne_of_none S8 hB0
    have nAB : A1 ≠ B1 := ne_of_none e8 hB0
    have k09 := k08.upd_new (o := .lst []) hB0
    have b9 := b8.new (o := .lst []) hB0
    have B9 : (upd H8 B1 (.lst [])) B1 = some (.lst (([] : List Int).map V.int)) := upd_same
    have A9 : (upd H8 B1 (.lst [])) A1 = some (.lst (([] : List Int).map V.int)) := by rw [upd_ne nAB]; exact e8
    have S9 : (upd H8 B1 (.lst [])) S = some (.lst (ws.map V.int)) := by rw [upd_ne nSB]; exact S8
    generalize upd H8 B1 (.lst []) = H9 at k09 b9 B9 A9 S9
    refine ⟨_, rfl, by decide, by decide, ?_⟩
    refine for_range (n := 8) (fun i σ H' => ∃ (x6 x12 : Option V) (as bs : List Int), σ = [some (.ref x), some (.int top), some (.str "abcdefghijklmnopqrstuvwxyz"), some (.int (m : Nat)), some (.int (lo : Nat)), some (.ref S), x6, x7, some (.int (sp : Nat)), some (.int (al : Nat)), some (.ref A1), some (.ref B1), x12, none, none, none, none] ∧ Kp x H H' ∧ BxT H' x ∧ H' S = some (.lst (ws.map V.int)) ∧ H' A1 = some (.lst (as.map V.int)) ∧ H' B1 = some (.lst (bs.map V.int)) ∧ as.length = i ∧ bs.length = i ∧ (∀ z ∈ bs, -100 ≤ z ∧ z ≤ 100) ∧ (sp < i → ∃ d, bs[sp]? = some d ∧ d ∈ odd6))
      ⟨_, none, [], [], rfl, k09, b9, S9, A9, B9, rfl, rfl, (fun z h => nomatch h), fun h => by omega⟩ ?_ ?_
    · rintro i σ H10 hi ⟨x6', x12, as, bs, rfl, k10, b10, S10, A10, B10, la, lb, bok, bsp⟩
      refine ⟨_, rfl, .inl ⟨rfl, _, SqL.of A10⟩, _, rfl, x, 26, rfl, b10, by decide, by decide, fun H11 a11 k11 b11 a26 => ?_⟩
      refine ⟨A1, _, _, rfl, rfl, k11 _ _ A10 nA, by rw [List.length_map]; exact lt_line (by omega), ?_⟩
      have k12 := (k10.trans k11).upd_own (o := .lst (as.map V.int ++ [V.int (a11 : Nat)])) hA
      have b12 := b11.upd_ne (o := .lst (as.map V.int ++ [V.int (a11 : Nat)])) nA
      have A12 : (upd H11 A1 (.lst (as.map V.int ++ [V.int (a11 : Nat)]))) A1 = some (.lst ((as ++ [((a11 : Nat) : Int)]).map V.int)) := by rw [upd_same, List.map_append]; rfl
      have S12 : (upd H11 A1 (.lst (as.map V.int ++ [V.int (a11 : Nat)]))) S = some (.lst (ws.map V.int)) := by rw [upd_ne nSA]; exact k11 _ _ S10 nS
      have B12 : (upd H11 A1 (.lst (as.map V.int ++ [V.int (a11 : Nat)]))) B1 = some (.lst (bs.map V.int)) := by rw [upd_ne (Ne.symm nAB)]; exact k11 _ _ B10 nB
      generalize upd H11 A1 (.lst (as.map V.int ++ [V.int (a11 : Nat)])) = H12 at k12 b12 A12 S12 B12
      refine ⟨_, rfl, x, 12, rfl, b12, by decide, by decide, fun H13 d13 k13 b13 d12 => ?_⟩
      have k013 := k12.trans k13
      have S13 := k13 _ _ S12 nS
      have A13 := k13 _ _ A12 nA
      have B13 := k13 _ _ B12 nB
      refine ⟨fun σ H' => ∃ d : Int, σ = [some (.ref x), some (.int top), some (.str "abcdefghijklmnopqrstuvwxyz"), some (.int (m : Nat)), some (.int (lo : Nat)), some (.ref S), some (.int (0 + ((i : Nat) : Int))), x7, some (.int (sp : Nat)), some (.int (al : Nat)), some (.ref A1), some (.ref B1), some (.int d), none, none, none, none] ∧ -100 ≤ d ∧ d ≤ 100 ∧ (sp = i → d ∈ odd6) ∧ Kp x H H' ∧ BxT H' x ∧ H' S = some (.lst (ws.map V.int)) ∧ H' A1 = some (.lst ((as ++ [((a11 : Nat) : Int)]).map V.int)) ∧ H' B1 = some (.lst (bs.map V.int)), ?_, ?_⟩
      · refine ⟨_, rfl, _, rfl, rfl, _, rfl, ite2 (fun _ => ?_) (fun c => ?_)⟩
        · refine ⟨le_line (show 12 ≤ 10000000 by decide), fun l3 hl3 => ?_⟩
          obtain ⟨di, hdi, do1⟩ := pickI (l := odd6) (fun z => z ∈ odd6) (fun z h => h) (e := d13) (by show d13 < 12; omega)
          have hdb : -100 ≤ di ∧ di ≤ 100 := by
            have : ∀ z ∈ odd6, -100 ≤ z ∧ z ≤ 100 := by decide
            exact this di do1
          refine ⟨_, rfl, l3, _, _, _, rfl, rfl, SqL.of upd_same, at_ofG (j := d13) rfl hdi, ?_⟩
          exact ⟨di, rfl, hdb.1, hdb.2, fun _ => do1, k013.upd_new hl3, b13.new hl3, by rw [upd_ne (ne_of_none S13 hl3)]; exact S13, by rw [upd_ne (ne_of_none A13 hl3)]; exact A13, by rw [upd_ne (ne_of_none B13 hl3)]; exact B13⟩
        · have nsp : sp ≠ i := fun e => c (decide_eq_true (by rw [e]; congr 1; omega))
          refine ⟨_, rfl, rfl, _, rfl, ite2 (fun _ => ?_) (fun _ => ?_)⟩
          · exact ⟨0, rfl, by decide, by decide, fun e => absurd e nsp, k013, b13, S13, A13, B13⟩
          · exact ⟨_, rfl, by omega, by omega, fun e => absurd e nsp, k013, b13, S13, A13, B13⟩
      rintro σ H14 ⟨d, rfl, dlo, dhi, dodd, k14, b14, S14, A14, B14⟩
      refine ⟨_, rfl, .inl ⟨rfl, _, SqL.of B14⟩, _, rfl, B1, _, _, rfl, rfl, B14, by rw [List.length_map]; exact lt_line (by omega), ?_⟩
      refine ⟨_, _, as ++ [((a11 : Nat) : Int)], bs ++ [d], rfl, k14.upd_own hB, b14.upd_ne nB, by rw [upd_ne nSB]; exact S14, by rw [upd_ne nAB]; exact A14, by rw [upd_same, List.map_append]; rfl, by rw [List.length_append, la]; rfl, by rw [List.length_append, lb]; rfl, fun z hz => ?_, fun h => ?_⟩
      · rcases List.mem_append.mp hz with q | q
        · exact bok z q
        · rw [List.mem_singleton.mp q]
          exact ⟨dlo, dhi⟩
      · by_cases e : sp = i
        · exact ⟨d, by rw [List.getElem?_append_right (by omega), e, lb, Nat.sub_self]; rfl, dodd e⟩
        · obtain ⟨d', h1, h2⟩ := bsp (by omega)
          exact ⟨d', by rw [List.getElem?_append_left (by omega)]; exact h1, h2⟩
    rintro σ H10 ⟨x6', x12, as, bs, rfl, k10, b10, S10, A10, B10, la, lb, bok, bsp⟩
    obtain ⟨od, hod, odd⟩ := bsp (by omega)
    -- the names
    refine ⟨le_line (show 0 ≤ 10000000 by decide), fun R hR0 => ?_⟩
    have hR := k10.freeT b10 hR0
    have nR := b10.ne hR0
    have nSR : S ≠ R := ne_of_none S10 hR0
    have nAR : A1 ≠ R := ne_of_none A10 hR0
    have nBR : B1 ≠ R := ne_of_none B10 hR0
    have k11 := k10.upd_new (o := .lst []) hR0
    have b11 := b10.new (o := .lst []) hR0
    have R11 : (upd H10 R (.lst [])) R = some (.lst (([] : List Addr).map V.ref)) := upd_same
    have S11 : (upd H10 R (.lst [])) S = some (.lst (ws.map V.int)) := by rw [upd_ne nSR]; exact S10
    have A11 : (upd H10 R (.lst [])) A1 = some (.lst (as.map V.int)) := by rw [upd_ne nAR]; exact A10
    have B11 : (upd H10 R (.lst [])) B1 = some (.lst (bs.map V.int)) := by rw [upd_ne nBR]; exact B10
    generalize upd H10 R (.lst []) = H11 at k11 b11 R11 S11 A11 B11
    refine ⟨_, rfl, _, rfl, by omega, by omega, ?_⟩
    rw [Int.toNat_natCast]
    refine for_range (n := m) (fun i σ H' => ∃ (x6 x14 x15 x16 : Option V) (ts : List Addr) (rows : List Row), σ = [some (.ref x), some (.int top), some (.str "abcdefghijklmnopqrstuvwxyz"), some (.int (m : Nat)), some (.int (lo : Nat)), some (.ref S), x6, x7, some (.int (sp : Nat)), some (.int (al : Nat)), some (.ref A1), some (.ref B1), x12, some (.ref R), x14, x15, x16] ∧ Kp x H H' ∧ BxT H' x ∧ H' S = some (.lst (ws.map V.int)) ∧ H' A1 = some (.lst (as.map V.int)) ∧ H' B1 = some (.lst (bs.map V.int)) ∧ H' R = some (.lst (ts.map V.ref)) ∧ TupsAt H' ts rows ∧ rows.length = i ∧ (∀ (j : Nat) (q : Row), rows[j]? = some q → IsNm q.1 ∧ (∃ n, sp < n ∧ NmAt as bs n j q.1) ∧ ws[j]? = some q.2))
      ⟨_, none, none, none, [], [], rfl, k11, b11, S11, A11, B11, R11, ⟨rfl, fun i u p a => by simp at a⟩, rfl, fun j q h => by simp at h⟩ ?_ ?_
    · rintro i σ H12 hi ⟨x6a, x14, x15, x16, ts, rows, rfl, k12, b12, S12, A12, B12, R12, t12, lr, nmr⟩
      refine ⟨_, rfl, _, _, rfl, rfl, _, rfl, _, rfl, _, _, rfl, rfl, x, _, rfl, b12, by omega, by omega, fun H13 g13 k13 b13 g8 => ?_⟩
      have S13 := k13 _ _ S12 nS
      have A13 := k13 _ _ A12 nA
      have B13 := k13 _ _ B12 nB
      have R13 := k13 _ _ R12 nR
      have t13 : TupsAt H13 ts rows := t12.keep (fun u ys h => k13 _ _ h fun e => by
        obtain ⟨za, zb, zc, hz⟩ := b12
        have h : H12 u = some (.tup ys) := h
        rw [e, hz] at h
        cases h)
      have k013 := k12.trans k13
      refine ⟨_, _, rfl, rfl, _, rfl, _, rfl, by omega, by omega, for_range (n := (((sp : Nat) : Int) + 1 + ((g13 : Nat) : Int)).toNat) (fun p σ H' => ∃ (x16 : Option V) (z : Str), σ = [some (.ref x), some (.int top), some (.str "abcdefghijklmnopqrstuvwxyz"), some (.int (m : Nat)), some (.int (lo : Nat)), some (.ref S), some (.int (0 + ((i : Nat) : Int))), x7, some (.int (sp : Nat)), some (.int (al : Nat)), some (.ref A1), some (.ref B1), x12, some (.ref R), some (.str z), some (.int (((sp : Nat) : Int) + 1 + ((g13 : Nat) : Int))), x16] ∧ H13 = H' ∧ NmAt as bs p i z)
        ⟨_, "", rfl, rfl, rfl, fun j c h => by cases h⟩ ?_ ?_⟩
      · rintro p σ H14 hp ⟨x16', z, rfl, rfl, hz1, hz2⟩
        have hp8 : p < 8 := by omega
        have hsp := List.getElem?_eq_getElem (show p < as.length by omega)
        have hdp := List.getElem?_eq_getElem (show p < bs.length by omega)
        have bk := bok _ (List.getElem_mem (show p < bs.length by omega))
        generalize as[p]'(by omega) = sv at hsp
        generalize bs[p]'(by omega) = dv at hdp bk
        have e0 : (0 : Int) + ((p : Nat) : Int) = ((p : Nat) : Int) := by omega
        have e0i : (0 : Int) + ((i : Nat) : Int) = ((i : Nat) : Int) := by omega
        refine ⟨_, rfl, _, rfl, _, rfl, _, rfl, A1, _, _, _, rfl, rfl, SqL.of A13, at_ofG (j := p) (by omega) (by rw [List.getElem?_map, hsp]; rfl), _, rfl, _, rfl, _, rfl, B1, _, _, _, rfl, rfl, SqL.of B13, at_ofG (j := p) (by omega) (by rw [List.getElem?_map, hdp]; rfl), _, _, rfl, rfl, .inl ⟨by omega, by omega⟩, _, _, rfl, rfl, .inl ⟨_, rfl, ?_⟩⟩
        refine ⟨_, _, rfl, rfl, by show (0 : Int) < 26; decide, ?_⟩
        rw [e0i]
        have hb := ltr_lo sv dv i
        have hb1 := Int.emod_nonneg (sv + (i : Int) * dv) (show (26 : Int) ≠ 0 by decide)
        have hb2 := Int.emod_lt_of_pos (sv + (i : Int) * dv) (show (0 : Int) < 26 by decide)
        refine ⟨_, _, ltr sv dv i, rfl, rfl, (by rw [letters_len]; exact le_line (by decide)), at_ofG (z := (sv + (i : Int) * dv) % 26) (j := ((sv + (i : Int) * dv) % 26).toNat) (by omega) (letters_at _ (by omega)), _, _, rfl, rfl, ?_, ?_⟩
        · exact le_line (by rw [str_len, hz1]; show p + 1 ≤ _; omega)
        · have q := app_sg z (ltr sv dv i)
          refine ⟨_, _, rfl, rfl, ?_, fun j c hj => ?_⟩
          · rw [size_tl]
            show (z ++ sg (ltr sv dv i)).cps.toList.length = _
            rw [q, List.length_append, ← size_tl, hz1]
            rfl
          · have hj : (z ++ sg (ltr sv dv i)).cps.toList[j]? = some c := hj
            rw [q] at hj
            have lz : z.cps.toList.length = p := by rw [← size_tl, hz1]
            by_cases cj : j < p
            · rw [List.getElem?_append_left (by omega)] at hj
              exact hz2 j c hj
            · have hjl := (List.getElem?_eq_some_iff.mp hj).1
              rw [List.length_append, lz] at hjl
              have l1 : ([ltr sv dv i] : List Nat).length = 1 := rfl
              have ej : j = p := by omega
              subst ej
              rw [List.getElem?_append_right (by omega), lz, Nat.sub_self] at hj
              exact ⟨sv, dv, hsp, hdp, (Option.some.inj hj).symm⟩
      · rintro σ H14 ⟨x16', z, rfl, rfl, hz1, hz2⟩
        have hn : (((sp : Nat) : Int) + 1 + ((g13 : Nat) : Int)).toNat = sp + 1 + g13 := by omega
        rw [hn] at hz1
        have nz : IsNm z := ⟨by rw [hz1]; omega, by rw [hz1]; omega, fun c hc => by
          obtain ⟨j, hj, e⟩ := List.mem_iff_getElem.mp hc
          obtain ⟨s, d, _, _, e2⟩ := hz2 j c (by rw [List.getElem?_eq_getElem hj, e])
          rw [e2]
          exact ltr_lo s d i⟩
        have hwi := List.getElem?_eq_getElem (show i < ws.length by omega)
        generalize ws[i]'(by omega) = wv at hwi
        refine ⟨_, rfl, .inl ⟨rfl, _, SqL.of R13⟩, _, rfl, _, rfl, _, rfl, S, _, _, _, rfl, rfl, SqL.of S13, at_ofG (j := i) (by omega) (by rw [List.getElem?_map, hwi]; rfl), le_line (show 2 ≤ 10000000 by decide), fun q hq => ?_⟩
        have k14 := k013.upd_new (o := .tup [.str z, .int wv]) hq
        have b14 := b13.new (o := .tup [.str z, .int wv]) hq
        have q14 : (upd H13 q (.tup [.str z, .int wv])) q = some (.tup [.str z, .int wv]) := upd_same
        have S14 : (upd H13 q (.tup [.str z, .int wv])) S = some (.lst (ws.map V.int)) := by rw [upd_ne (ne_of_none S13 hq)]; exact S13
        have A14 : (upd H13 q (.tup [.str z, .int wv])) A1 = some (.lst (as.map V.int)) := by rw [upd_ne (ne_of_none A13 hq)]; exact A13
        have B14 : (upd H13 q (.tup [.str z, .int wv])) B1 = some (.lst (bs.map V.int)) := by rw [upd_ne (ne_of_none B13 hq)]; exact B13
        have R14 : (upd H13 q (.tup [.str z, .int wv])) R = some (.lst (ts.map V.ref)) := by rw [upd_ne (ne_of_none R13 hq)]; exact R13
        have t14 : TupsAt (upd H13 q (.tup [.str z, .int wv])) ts rows := t13.keep (fun u ys h => by rw [upd_ne (ne_of_none h hq)]; exact h)
        generalize upd H13 q (.tup [.str z, .int wv]) = H14 at k14 b14 q14 S14 A14 B14 R14 t14
        refine ⟨R, _, _, rfl, rfl, R14, by rw [List.length_map, t14.1]; exact lt_line (by omega), ?_⟩
        have tC : TupsAt (upd H14 R (.lst (ts.map V.ref ++ [.ref q]))) (ts ++ [q]) (rows ++ [(z, wv)]) := ((t14.snoc (q := (z, wv)) q14)).keep (fun u ys h => by
          rw [upd_ne (ne_of h R14 (fun e => nomatch e))]
          exact h)
        refine ⟨_, _, _, _, ts ++ [q], rows ++ [(z, wv)], rfl, k14.upd_own hR, b14.upd_ne nR, by rw [upd_ne nSR]; exact S14, by rw [upd_ne nAR]; exact A14, by rw [upd_ne nBR]; exact B14, by rw [upd_same, List.map_append]; rfl, tC, by rw [List.length_append, lr]; rfl, fun j q' hj => ?_⟩
        by_cases cj : j < rows.length
        · rw [List.getElem?_append_left cj] at hj
          exact nmr j q' hj
        · have hjl := (List.getElem?_eq_some_iff.mp hj).1
          rw [List.length_append] at hjl
          have l1 : ([(z, wv)] : List Row).length = 1 := rfl
          have ej : j = i := by omega
          rw [List.getElem?_append_right (by omega), ej, lr, Nat.sub_self] at hj
          cases hj
          rw [ej]
          exact ⟨nz, ⟨_, by omega, hz1, hz2⟩, hwi⟩
    · rintro σ H12 ⟨x6a, x14, x15, x16, ts, rows, rfl, k12, b12, S12, A12, B12, R12, t12, lr, nmr⟩
      refine ⟨_, rfl, R, _, rfl, .inl ⟨SqL.of R12, fun t ht => ?_⟩⟩
      refine key _ t ts rows (k12.upd_new ht) (b12.new ht) upd_same (t12.keep fun u ys h => by rw [upd_ne (ne_of_none h ht)]; exact h) ⟨by omega, by omega, ?_, fun q hq => ?_, fun q hq => ?_, ?_⟩ fun q hq => ?_
      · rw [List.nodup_iff_pairwise_ne, List.pairwise_iff_getElem]
        intro j k hj hk hjk e
        rw [List.length_map] at hj hk
        rw [List.getElem_map, List.getElem_map] at e
        obtain ⟨_, ⟨n1', hn1, a1, a2⟩, _⟩ := nmr j _ (List.getElem?_eq_getElem hj)
        obtain ⟨_, ⟨n2', hn2, c1, c2⟩, _⟩ := nmr k _ (List.getElem?_eq_getElem hk)
        have hs : sp < (rows[j].1).cps.toList.length := by rw [← size_tl, a1]; exact hn1
        have g1 := List.getElem?_eq_getElem hs
        obtain ⟨s1', d1', u1, u2, u3⟩ := a2 sp _ g1
        obtain ⟨s2', d2', v1, v2, v3⟩ := c2 sp (rows[j].1.cps.toList[sp]) (by rw [← e]; exact g1)
        rw [u1] at v1
        cases v1
        rw [u2] at v2
        cases v2
        rw [hod] at u2
        cases u2
        have := ltr_inj odd (j := j) (k := k) (by omega) (by omega) (u3.symm.trans v3)
        omega
      · obtain ⟨j, hj, e⟩ := List.mem_iff_getElem.mp hq
        exact (nmr j q (by rw [List.getElem?_eq_getElem hj, e])).1
      · obtain ⟨j, hj, e⟩ := List.mem_iff_getElem.mp hq
        obtain ⟨_, _, h⟩ := nmr j q (by rw [List.getElem?_eq_getElem hj, e])
        have := wok _ (List.mem_of_getElem? h)
        exact ⟨this.1, this.2.1⟩
      · have hlr : lo < rows.length := by omega
        obtain ⟨_, _, h⟩ := nmr lo _ (List.getElem?_eq_getElem hlr)
        rw [wlo] at h
        exact ⟨rows[lo], List.getElem_mem hlr, (Option.some.inj h).symm⟩
      · obtain ⟨j, hj, e⟩ := List.mem_iff_getElem.mp hq
        obtain ⟨_, _, h⟩ := nmr j q (by rw [List.getElem?_eq_getElem hj, e])
        exact (wok _ (List.mem_of_getElem? h)).2.2
end
end Sh
end
section
set_option Elab.async false
set_option linter.all false
set_option maxRecDepth 100000
set_option maxHeartbeats 4000000
namespace StX
open PySem PySem.Spec PyProof.Rows L2
section
variable {X : Cx} {CX : CXT} {k i : Nat} {f C : Addr} {sp : Sp} {E : XK} {x : Str} {e : Expr} {te : TE} {p sp_ pos : Pos}
def tClsS (K : PySem.W.Frag) (C : Addr) (i : Nat) (sp : Sp) (E : XK) (te : TE) : TE := fun σ H Q => σ[i]? = some (some (.ref C)) ∧ te σ H fun y H1 => ∃ a xs, y = V.ref a ∧ (SqT K H1 a xs ∨ SqL K H1 a xs) ∧ ∀ x dx, H1 x = Option.none → H1 dx = Option.none → dx ≠ x →
  sp (V.ref x :: xs) (upd (upd H1 dx (.own x)) x (.ins C dx [])) (fun v H2 => v = .non ∧ Q (.ref x) H2) E
theorem pe_clsS (M : Mk X.K C f) (F : FnR X.prog X.w X.K X.mg X.base CX k f sp) (hr : Room (k + 1) X.A) (hN : X.N[i]? = some x) (hv : Vis X.env.scope x) (hx : Passes CX X E) (he : PE X e te)
    (hdb : (x == ("__debug__" : Str)) = false := by decide) (hcd : (x == ("__classdict__" : Str)) = false := by decide) (hst : starEach [.Starred e sp_] X.env = [(true, eval e X.env)] := by rfl) :
    PE X (.Call (.Name x p) [.Starred e sp_] [] pos) (tClsS X.K C i sp E te) := by
  refine ⟨fun pins s σ H Q I h => ?_⟩
  obtain ⟨hs, h⟩ := h
  refine wpAny_Call_Name_kw (thn ((pe_var (pos := p) hN hv hdb hcd).run pins s σ H (fun v H1 => v = .ref C ∧ H1 = H) I ⟨.ref C, hs, rfl, rfl⟩) fun u s1 ⟨v, H1, I1, r1, q1⟩ => ?_)
  obtain ⟨ev, eH⟩ := q1
  subst ev
  rw [eH] at I1
  obtain rfl : u = Value.ref C := r1
  refine PySem.W.callWith_S (h₀ := X.base) I.ok.mod.kin M.kp (thn (he.run pins s1 σ _ _ I1 h) fun v s2 ⟨y, H2, I2, ry, a, xs, ey, hxs, q⟩ => ?_) hst
  subst ey
  obtain rfl : v = Value.ref a := ry
  exact star_any I2 hxs fun us s3 I3 rv => ⟨I3.kIn, run_makeR M F hr hx I3 rv q⟩
end
end StX
namespace Sh
open PySem PySem.Spec PyProof.Rows L2
open TL (tl joinL tl_join join_eq tl_append tl_num numL numL_lt split_join partition_app int_num mk_tl len_tl)
open StX (pe_clsS)
open C8 (pss_cut tCut)
open Evl (ixN_nat)
/-- name/number -/
def pcT (q : Row) : Str := q.1 ++ "/" ++ Str.ofString (toString q.2)
def txT (rows : List Row) : Str := Txt.join " " (rows.map pcT)
theorem tl_small {n : Int} (h0 : 0 ≤ n) (h1 : n ≤ 9) : tl (Str.ofString (toString n)) = [48 + n.toNat] := by
  obtain ⟨m, rfl⟩ := Int.eq_ofNat_of_zero_le h0
  rw [tl_num, numL_lt (by omega)]
  rfl
theorem str_small {n : Int} (h0 : 0 ≤ n) (h1 : n ≤ 9) : Str.ofString (toString n) = sg (48 + n.toNat) := by
  have h := tl_small h0 h1
  rw [← mk_tl (Str.ofString (toString n)), h]
  rfl
theorem sl_free {z : Str} {s : Nat} (h : IsNm z) (hs : s < 97) : s ∉ tl z := fun hm => by
  have := h.2.2 s hm
  omega
theorem part_pc {q : Row} (h : IsNm q.1) : Txt.partition (pcT q) "/" = (q.1, ("/" : Str), Str.ofString (toString q.2)) := partition_app (y := "/") (s := 47) (S := []) (by decide +kernel) (sl_free h (by decide))
theorem pc_free {q : Row} (h : IsNm q.1) (w : 0 ≤ q.2 ∧ q.2 ≤ 3) : 32 ∉ tl (pcT q) := fun hm => by
  unfold pcT at hm
  rw [tl_append, tl_append, tl_small w.1 (by omega)] at hm
  rcases List.mem_append.mp hm with hm | hm
  · rcases List.mem_append.mp hm with hm | hm
    · exact sl_free h (by decide) hm
    · exact absurd hm (by decide +kernel)
  · have := List.mem_singleton.mp hm
    omega
theorem split_tx {rows : List Row} (R : ROk 8 rows) : Txt.split (txT rows) " " = rows.map pcT := by
  refine split_join (y := " ") (s := 32) (S := []) (by decide +kernel) (by decide +kernel) (fun e => ?_) fun p hp => ?_
  · have h1 := congrArg List.length e
    rw [List.length_map] at h1
    have h2 := R.pos
    have h3 : ([] : List Str).length = 0 := rfl
    omega
  · obtain ⟨q, hq, rfl⟩ := List.mem_map.mp hp
    exact pc_free (R.nm q hq) (R.wd q hq)
theorem pc_len {q : Row} (h : IsNm q.1) (w : 0 ≤ q.2 ∧ q.2 ≤ 3) : (pcT q).length ≤ 10 := by
  have e : tl (pcT q) = tl q.1 ++ tl "/" ++ [48 + q.2.toNat] := by
    unfold pcT
    rw [tl_append, tl_append, tl_small w.1 (by omega)]
  rw [len_tl, e, List.length_append, List.length_append]
  have h1 : (tl q.1).length ≤ 8 := by
    have := h.2.1
    rw [size_tl] at this
    exact this
  have h2 : (tl ("/" : Str)).length = 1 := by decide +kernel
  show (tl q.1).length + _ + 1 ≤ 10
  omega
def spText6 : Sp := fun vs H Q _ => ∃ (r : Addr) (ts : List Addr) (rows : List Row), vs = [.ref r] ∧ H r = some (.tup (ts.map V.ref)) ∧ TupsAt H ts rows ∧ ROk 4 rows ∧ ∀ H', Same H H' → Q (.str (txT rows)) H'
def spRead6 (C : Addr) : Sp := fun vs H Q _ => ∃ (rows : List Row), vs = [.ref C, .str (txT rows)] ∧ ROk 4 rows ∧ ∀ H' p, Same H H' → H p = none → BedAt C H' p rows → Q (.ref p) H'
abbrev N_law_text : List Str := ["kinds", "pair"]
theorem sc_law_text : FnScope N_law_text ["kinds"] (defScope s_law_text) := ⟨rfl, rfl, rfl, by decide +kernel, rfl, by decide +kernel, by decide +kernel⟩
abbrev N_read : List Str := ["cls", "text", "pairs", "piece", "name", "_", "digit"]
theorem sc_read : FnScope N_read ["cls", "text"] (defScope s_read) := ⟨rfl, rfl, rfl, by decide +kernel, rfl, by decide +kernel, by decide +kernel⟩
section
variable {P : Program} {w : World} {K : PySem.W.Frag} {mg : Str → Option Value} {base : Heap} {C fI : Addr}
theorem ok_text6 (T : Bl mg) (D : Def0 K mg "_law_text" s_law_text) : DefOk P w K mg base CX0 1 "_law_text" spText6 := by
  refine D.ok sc_law_text (fun vs H Q E h => ?_) (fun _ _ _ _ _ _ us hl => match us, hl with | [_], _ => rfl) (fun f cdv A outer s' H vs Q E hr h => ?_)
  · obtain ⟨r, ts, rows, rfl, _⟩ := h
    rfl
  · obtain ⟨r, ts, rows, rfl, hr0, ht, R, key⟩ := h
    refine ⟨_, (pss_one (ps_ret (pe_bm PySem.F.plainAttrs_str PySem.F.slot_str_join PySem.F.type_str_join mt_join pe_str (pa_cons (pe_lc (own := [("pair", 1)]) (g := (gName 1)) (tt := tYes) rfl sc_law_text.nd (pi_tup (pv 0)) (blkOk_by (N := N_law_text) (sc := defScope s_law_text) (by decide +kernel)) (fun _ _ _ _ _ => (pg_name (i := 1) sc_law_text.nd rfl (Or.inl rfl))) (fun _ _ _ _ _ => pts_nil) (fun _ _ _ _ _ => (pe_op op_add_str (pe_op op_add_str (pe_ix (show IxR _ (rIxT K) from ix_tup) (pv 1) pe_int (fun _ _ => rfl)) pe_str) (pe_callTy call_str_int (by rfl) T.b_str (by decide +kernel) (pa_cons (pe_ix (show IxR _ (rIxT K) from ix_tup) (pv 1) pe_int (fun _ _ => rfl)) pa_nil))))) pa_nil)))), ?_⟩
    refine ⟨rfl, _, rfl, r, rfl, ⟨_, SqT.of hr0⟩, fun D hD => lc_it (walk_tup (xs := ts.map V.ref)) (fun i H' => Same H H' ∧ H' D = some (.lst (((rows.take i).map pcT).map V.str))) ⟨(Same.refl H).upd_new hD, upd_same⟩ (fun i H' _ ⟨q, _⟩ => SqT.of (q _ _ hr0)) ?_ ?_⟩
    · rintro i v H1 H2 hi ⟨q1, q2⟩ ⟨rfl, hv⟩
      obtain ⟨u, hu, rfl⟩ := get_map_r hv
      have hir : i < rows.length := by rw [← ht.1]; exact (List.getElem?_eq_some_iff.mp hu).1
      have hq := List.getElem?_eq_getElem hir
      have hm := List.getElem_mem hir
      generalize rows[i] = q at hq hm
      have hT := q1 _ _ (ht.2 i u q hu hq)
      have hn := R.nm q hm
      have hw := R.wd q hm
      have hl := pc_len hn hw
      have l2 : (tl ("/" : Str)).length = 1 := by decide +kernel
      have l1 : q.1.length ≤ 8 := hn.2.1
      have l3 : (Str.ofString (toString q.2)).length = 1 := by rw [len_tl, tl_small hw.1 (by omega)]; rfl
      have l4 : (q.1 ++ "/").length = q.1.length + 1 := by rw [len_tl, tl_append, List.length_append, l2, len_tl]
      refine ⟨rfl, _, rfl, u, _, _, _, rfl, rfl, SqT.of hT, at_ofG (j := 0) rfl rfl, _, _, rfl, rfl, le_line (by rw [len_tl ("/" : Str), l2]; omega), ?_⟩
      refine ⟨_, rfl, u, _, _, _, rfl, rfl, SqT.of hT, at_ofG (j := 1) rfl rfl, _, rfl, ?_, _, _, rfl, rfl, le_line (by omega), ?_⟩
      · refine Nat.lt_of_le_of_lt (Nat.log2_le_self _) (by omega)
      refine ⟨_, q2, by rw [List.length_map, List.length_map, List.length_take]; have := R.len; exact lt_line (n := min i rows.length) (by omega), q1.upd_own hD, ?_⟩
      rw [upd_same, ← take_snoc hq, List.map_append, List.map_append]
      rfl
    · rintro H1 ⟨q1, q2⟩
      rw [List.length_map, ht.1, List.take_length] at q2
      refine ⟨_, D, _, rfl, rfl, .inl (SqL.of q2), ?_, key H1 q1⟩
      have : ∀ l : List Row, (∀ q ∈ l, IsNm q.1 ∧ 0 ≤ q.2 ∧ q.2 ≤ 3) → ((l.map pcT).map (·.length)).sum ≤ 10 * l.length := fun l => by
        induction l with
        | nil => intro _; exact Nat.le_refl _
        | cons q l ih =>
          intro hl
          rw [List.map_cons, List.map_cons, List.sum_cons, List.length_cons]
          have h1 := ih fun y hy => hl y (List.mem_cons_of_mem _ hy)
          have h2 := hl q List.mem_cons_self
          have h3 := pc_len h2.1 h2.2
          omega
      have h1 := this rows fun q hq => ⟨R.nm q hq, R.wd q hq⟩
      have h2 := R.len
      have h3 : (" " : Str).length = 1 := by decide +kernel
      rw [h3, List.length_map]
      omega
theorem ok_read6 (T : Bl mg) (c_DIGITS : ∃ t, mg "DIGITS" = some (.str "0123456789" t)) (M : Mk K C fI) (FI : FnR P w K mg base CX0 5 fI (spBedS C)) (c_all_letters : DefOk P w K mg base CX0 1 "all_letters" spTrueNm) {f : Addr} {cdv : Value} {A' : Around} {outer : List Env} {s' : Shared} {H : Hp} {vs : List V} {Q : VK} {E : XK} (hr : Room 7 (A'.deeper (envOfC "Bed.read" (defScope s_read) s'.heap.objs.size f cdv))) (h : spRead6 C vs H Q E) :
    ∃ t, PSs (cxOf CX0 P w K mg base N_read "Bed.read" (defScope s_read) f cdv A' outer s' H E).nox (defBody s_read) t ∧ t { nx := fun _ H' => Q .non H', rt := Q } (start N_read vs) H := by
  obtain ⟨rows, rfl, R, key⟩ := h
  have R8 : ROk 8 rows := ⟨R.pos, by have := R.len; omega, R.nd, R.nm, R.wd, R.leaf⟩
  refine ⟨_, (pss_cons (ps_set (i := 2) sc_read.nd rfl (Or.inl rfl) (pe_lst pa_nil))
    (pss_cons (ps_for PassesOwn.never rfl (pi_list (pe_bm PySem.F.plainAttrs_str PySem.F.slot_str_split PySem.F.type_str_split mt_split (pv 1) (pa_cons pe_str pa_nil))) (pg_name (i := 3) sc_read.nd rfl (Or.inl rfl))
      (pss_cons (ps_asg (pe_bm PySem.F.plainAttrs_str PySem.F.slot_str_partition PySem.F.type_str_partition mt_partition (pv 3) (pa_cons pe_str pa_nil)) (pg_tup (by rfl) (pgs_cons (pg_name (i := 4) sc_read.nd rfl (Or.inl rfl)) (pgs_cons (pg_name (i := 5) sc_read.nd rfl (Or.inl rfl)) (pgs_cons (pg_name (i := 6) sc_read.nd rfl (Or.inl rfl)) pgs_nil)))))
      (pss_cons (ps_if (PW.pt (pw_or (pt_not (pt_val (pe_d c_all_letters (hr.mono (by decide)) pass0 (pa_cons (pv 4) pa_nil)))) (pw_or (pt_cmpR op_ne (pe_callB call_len_str (by rfl) T.b_len boot_len (pa_cons (pv 6) pa_nil)) pe_int (nomark _)) (pw_or1 (pt_cmpR op_notIn_sign (pv 6) (pe_cS (by rfl) c_DIGITS) (by rfl))))))
        (pss_one ps_never)
        pss_nil)
      (pss_one (ps_expr (pe_bm PySem.F.plainAttrs_list PySem.F.slot_list_append PySem.F.type_list_append mt_append (pv 2) (pa_cons (pe_tup (pa_cons (pv 4) (pa_cons (pe_callTy call_int_str (by rfl) T.b_int (by decide +kernel) (pa_cons (pv 6) pa_nil)) pa_nil))) pa_nil)))))))
    (pss_one (ps_ret (pe_clsS (i := 0) M FI (hr.mono (by decide)) rfl (.inl rfl) pass0 (pv 2)))))), ?_⟩
  have lrows := R.len
  have ltx : (txT rows).length + 2 ≤ sizeLine := by
    refine le_line ?_
    have g : ∀ l : List Row, (∀ q ∈ l, IsNm q.1 ∧ 0 ≤ q.2 ∧ q.2 ≤ 3) → (tl (Str.join " " (l.map pcT))).length ≤ 11 * l.length := fun l => by
      rw [tl_join]
      induction l with
      | nil => intro _; exact Nat.le_refl _
      | cons q l ih =>
        intro hl
        have h1 := ih fun y hy => hl y (List.mem_cons_of_mem _ hy)
        have h2 := hl q List.mem_cons_self
        have h3 := pc_len h2.1 h2.2
        rw [len_tl] at h3
        cases l with
        | nil =>
          show (tl (pcT q)).length ≤ 11 * 1
          omega
        | cons q2 l =>
          show (tl (pcT q) ++ (tl " " ++ joinL (tl " ") (((q2 :: l).map pcT).map tl))).length ≤ 11 * ((q2 :: l).length + 1)
          have h4 : (tl (" " : Str)).length = 1 := by decide +kernel
          rw [List.length_append, List.length_append, h4]
          omega
    have h1 := g rows fun q hq => ⟨R.nm q hq, R.wd q hq⟩
    unfold txT
    rw [join_eq, len_tl]
    omega
  refine ⟨le_line (show 0 ≤ 10000000 by decide), fun S hS => ?_⟩
  have s1 := (Same.refl H).upd_new (o := .lst []) hS
  have e1 : (upd H S (.lst [])) S = some (.lst (([] : List Addr).map V.ref)) := upd_same
  generalize upd H S (.lst []) = H1 at s1 e1
  refine ⟨_, rfl, rfl, _, _, rfl, rfl, by decide +kernel, ltx, fun L hL => ?_⟩
  rw [split_tx R8]
  have s2 := s1.upd_new (o := .lst ((rows.map pcT).map V.str)) hL
  have e2 : (upd H1 L (.lst ((rows.map pcT).map V.str))) L = some (.lst ((rows.map pcT).map V.str)) := upd_same
  have S2 : (upd H1 L (.lst ((rows.map pcT).map V.str))) S = some (.lst (([] : List Addr).map V.ref)) := by rw [upd_ne (ne_of_none e1 hL)]; exact e1
  have nLS : L ≠ S := Ne.symm (ne_of_none e1 hL)
  generalize upd H1 L (.lst ((rows.map pcT).map V.str)) = H2 at s2 e2 S2
  refine ⟨L, rfl, ⟨_, SqL.of e2⟩, for_list (xs := (rows.map pcT).map V.str) (fun i σ H' => ∃ (x3 x4 x5 x6 : Option V) (ts : List Addr), σ = [some (.ref C), some (.str (txT rows)), some (.ref S), x3, x4, x5, x6] ∧ Same H H' ∧ H' L = some (.lst ((rows.map pcT).map V.str)) ∧ H' S = some (.lst (ts.map V.ref)) ∧ TupsAt H' ts (rows.take i))
    ⟨none, none, none, none, [], rfl, s2, e2, S2, ⟨rfl, fun i u p a => by simp at a⟩⟩ (fun i σ H' _ ⟨_, _, _, _, _, _, _, h, _⟩ => SqL.of h) ?_ ?_⟩
  · rintro i v σ H3 hv ⟨x3, x4, x5, x6, ts, rfl, s3, e3, S3, t3⟩
    rw [List.map_map, List.getElem?_map] at hv
    obtain ⟨q, hq, rfl⟩ := Option.map_eq_some_iff.mp hv
    have hm := List.mem_of_getElem? hq
    have hn := R.nm q hm
    have hw := R.wd q hm
    have hl := pc_len hn hw
    refine ⟨_, rfl, rfl, _, _, rfl, rfl, by decide +kernel, le_line (show (pcT q).length ≤ 10000000 by omega), fun p hp => ?_⟩
    rw [part_pc hn, str_small hw.1 (by omega)]
    have s4 := s3.upd_new (o := .tup [.str q.1, .str "/", .str (sg (48 + q.2.toNat))]) hp
    have p4 : (upd H3 p (.tup [.str q.1, .str "/", .str (sg (48 + q.2.toNat))])) p = some (.tup [.str q.1, .str "/", .str (sg (48 + q.2.toNat))]) := upd_same
    have e4 : (upd H3 p (.tup [.str q.1, .str "/", .str (sg (48 + q.2.toNat))])) L = some (.lst ((rows.map pcT).map V.str)) := by rw [upd_ne (ne_of_none e3 hp)]; exact e3
    have S4 : (upd H3 p (.tup [.str q.1, .str "/", .str (sg (48 + q.2.toNat))])) S = some (.lst (ts.map V.ref)) := by rw [upd_ne (ne_of_none S3 hp)]; exact S3
    have t4 : TupsAt (upd H3 p (.tup [.str q.1, .str "/", .str (sg (48 + q.2.toNat))])) ts (rows.take i) := t3.keep fun u ys h => by rw [upd_ne (ne_of_none h hp)]; exact h
    generalize upd H3 p (.tup [.str q.1, .str "/", .str (sg (48 + q.2.toNat))]) = H4 at s4 p4 e4 S4 t4
    refine ⟨p, _, rfl, SqT.of p4, rfl, _, _, rfl, _, _, rfl, _, _, rfl, rfl, ?_⟩
    refine ⟨_, rfl, q.1, rfl, hn, fun H5 s5 => ⟨_, rfl, ifn (by decide) ?_⟩⟩
    refine ⟨_, rfl, _, rfl, le_line (show 1 ≤ 10000000 by decide), rfl, _, rfl, ifn (by show ¬ (!decide (V.int ((1 : Nat) : Int) = V.int 1)) = true; decide) ?_⟩
    have hdig : decide ((48 + q.2.toNat) ∈ ("0123456789" : Str).cps.toList) = true := by
      have : ∀ n : Nat, n ≤ 3 → decide ((48 + n) ∈ ("0123456789" : Str).cps.toList) = true := by decide +kernel
      exact this _ (by omega)
    refine ⟨_, rfl, 48 + q.2.toNat, "0123456789", rfl, rfl, _, rfl, ifn (by rw [hdig]; decide) ?_⟩
    have t5 : TupsAt H5 ts (rows.take i) := t4.keep fun u ys h => s5 _ _ h
    have hint : PySem.intText? (sg (48 + q.2.toNat)) = some q.2 := by
      rw [← str_small hw.1 (by omega)]
      have := int_num (n := q.2.toNat) (by rw [numL_lt (by omega)]; show 1 ≤ 4300; decide)
      rw [Int.toNat_of_nonneg hw.1] at this
      exact this
    refine ⟨_, rfl, .inl ⟨rfl, _, SqL.of (s5 _ _ S4)⟩, _, rfl, _, rfl, _, q.2, rfl, hint, by show 1 ≤ 640; decide, le_line (show 2 ≤ 10000000 by decide), fun t ht => ?_⟩
    have S6 : (upd H5 t (.tup [.str q.1, .int q.2])) S = some (.lst (ts.map V.ref)) := by rw [upd_ne (ne_of_none (s5 _ _ S4) ht)]; exact s5 _ _ S4
    have e6 : (upd H5 t (.tup [.str q.1, .int q.2])) L = some (.lst ((rows.map pcT).map V.str)) := by rw [upd_ne (ne_of_none (s5 _ _ e4) ht)]; exact s5 _ _ e4
    have t6 : TupsAt (upd H5 t (.tup [.str q.1, .int q.2])) (ts ++ [t]) (rows.take i ++ [q]) := (t5.keep fun u ys h => by rw [upd_ne (ne_of_none h ht)]; exact h).snoc (q := q) upd_same
    have s6 := (s4.trans s5).upd_new (o := .tup [.str q.1, .int q.2]) ht
    generalize upd H5 t (.tup [.str q.1, .int q.2]) = H6 at S6 e6 t6 s6
    refine ⟨S, _, _, rfl, rfl, S6, by rw [List.length_map, t5.1, List.length_take]; exact lt_line (n := min i rows.length) (by omega), ?_⟩
    refine ⟨_, _, _, _, ts ++ [t], rfl, s6.upd_own hS, by rw [upd_ne nLS]; exact e6, by rw [upd_same, List.map_append]; rfl, ?_⟩
    rw [List.take_add_one, hq]
    exact t6.keep fun u ys h => by rw [upd_ne (ne_of h S6 (fun e => nomatch e))]; exact h
  · rintro σ H3 ⟨x3, x4, x5, x6, ts, rfl, s3, e3, S3, t3⟩
    rw [List.length_map, List.length_map, List.take_length] at t3
    refine ⟨rfl, _, rfl, S, _, rfl, .inr (SqL.of S3), fun x dx hx hd hxd => ?_⟩
    have sx : Same H3 (upd (upd H3 dx (.own x)) x (.ins C dx [])) := ((Same.refl H3).upd_new hd).upd_own hx
    refine ⟨[.ref x], ts.map V.ref, rfl, rfl, ?_, fun p hp => ?_⟩
    · rw [List.length_map, t3.1]
      exact le_line (by omega)
    have s4 := sx.upd_new (o := .tup (ts.map V.ref)) hp
    have nxp : x ≠ p := ne_of_none (upd_same (H := upd H3 dx (.own x)) (a := x)) hp
    refine ⟨x, dx, p, ts, rows, rfl, by rw [upd_ne nxp, upd_same], upd_same, t3.keep (TK.of_same s4), R8, fun H' kk b => ⟨rfl, ?_⟩⟩
    exact key H' x (fun b o hb => kk b o (s4 b o (s3 b o hb)) (ne_of_none (s3 b o hb) hx)) (s3.free hx) b
end
end Sh
end
section
set_option Elab.async false
set_option linter.all false
set_option maxRecDepth 100000
set_option maxHeartbeats 8000000
namespace Sh
open PySem PySem.Spec PyProof.Rows L2
open C8 (pss_cut tCut)
open Evl (ixN_nat)
structure RdD where
  many : Nat
  rest : Nat
  ent : List REnt
  rws : List REnt
  marks : List Nat
structure RdD.Ok (D : RdD) (rows : List Row) : Prop where
  m1 : 1 ≤ D.many
  m3 : D.many ≤ 40
  re : D.rest < D.many
  ks : D.ent.map ek = ksOf rows D.many
  lt : ∀ e ∈ D.ent, e.2.2 < D.many
  sub : ∀ e ∈ D.rws, e ∈ D.ent
  all : ∀ e ∈ D.ent, e ∈ D.rws ∨ e.2.2 = D.rest
  nd : (D.rws.map ek).Nodup
  rl : D.rws.length ≤ 10000
  mks : D.marks.Pairwise (· < ·)
  ml : ∀ m ∈ D.marks, m < D.many
def RdD.stp (D : RdD) (z : Str) (ss : List Nat) : Nat := ((D.rws.find? fun e => decide (ek e = (z, ss))).map (·.2.2)).getD D.rest
theorem nd_key {es : List REnt} (nd : (es.map ek).Nodup) {e e' : REnt} (h : e ∈ es) (h' : e' ∈ es) (k : ek e = ek e') : e = e' := by
  induction es with
  | nil => cases h
  | cons y es ih =>
    rw [List.map_cons] at nd
    obtain ⟨n1, n2⟩ := List.nodup_cons.mp nd
    rcases List.mem_cons.mp h with rfl | g
    · rcases List.mem_cons.mp h' with rfl | g'
      · rfl
      · exact absurd (List.mem_map.mpr ⟨e', g', k.symm⟩) n1
    · rcases List.mem_cons.mp h' with rfl | g'
      · exact absurd (List.mem_map.mpr ⟨e, g, k⟩) n1
      · exact ih n2 g g'
theorem RdD.Ok.ndE {D : RdD} {rows : List Row} (h : D.Ok rows) (R : ROk 4 rows) : (D.ent.map ek).Nodup := by
  rw [h.ks]
  exact ks_nd R.nd
theorem RdD.Ok.stp_ent {D : RdD} {rows : List Row} (h : D.Ok rows) (R : ROk 4 rows) {e : REnt} (he : e ∈ D.ent) : D.stp e.1 e.2.1 = e.2.2 := by
  unfold RdD.stp
  cases hf : D.rws.find? (fun q => decide (ek q = (e.1, e.2.1))) with
  | none =>
    rcases h.all e he with c | c
    · exact absurd (List.find?_eq_none.mp hf e c) (by show ¬ ¬ decide (ek e = ek e) = true; simp)
    · exact c.symm
  | some q =>
    have hp0 := List.find?_some hf
    have hp : ek q = ek e := of_decide_eq_true hp0
    have := nd_key (h.ndE R) (h.sub q (List.mem_of_find?_eq_some hf)) he hp
    rw [this]
    rfl
theorem RdD.Ok.ent_at {D : RdD} {rows : List Row} (h : D.Ok rows) (R : ROk 4 rows) {z : Str} {ss : List Nat} (hz : HasN rows z) (hl : ss.length = wR rows z) (hs : ∀ s ∈ ss, s < D.many) : (z, ss, D.stp z ss) ∈ D.ent := by
  have hm : (z, ss) ∈ ksOf rows D.many := (ks_has R).mpr ⟨hz, hl, hs⟩
  rw [← h.ks] at hm
  obtain ⟨e, he, hk⟩ := List.mem_map.mp hm
  obtain ⟨e1, e2⟩ := Prod.mk.inj hk
  have := h.stp_ent R he
  rw [e1, e2] at this
  rw [this, ← e1, ← e2]
  exact he
theorem RdD.Ok.stp_lt {D : RdD} {rows : List Row} (h : D.Ok rows) (R : ROk 4 rows) {z : Str} {ss : List Nat} (hz : HasN rows z) (hl : ss.length = wR rows z) (hs : ∀ s ∈ ss, s < D.many) : D.stp z ss < D.many := h.lt _ (h.ent_at R hz hl hs)
theorem RdD.Ok.val {D : RdD} {rows : List Row} (h : D.Ok rows) (R : ROk 4 rows) {z : Str} {ss : List Nat} (hz : HasN rows z) (hl : ss.length = wR rows z) (hs : ∀ s ∈ ss, s < D.many) : valV (D.ent.map rkv) (nkR (z, ss)) = some (.int ((D.stp z ss : Nat) : Int)) :=
  rkv_some (h.ndE R) (h.ent_at R hz hl hs)
def spStates52 : Sp := fun vs H Q _ => ∃ (m : Nat), vs = [.int (m : Nat)] ∧ 1 ≤ m ∧ m ≤ 40 ∧ Q .non H
def spAre52 : Sp := fun vs H Q _ => ∃ (m : Nat) (t : Addr) (ss : List Nat), vs = [.int (m : Nat), .ref t] ∧ H t = some (.tup (nI ss)) ∧ ss.length ≤ 1000 ∧ (∀ s ∈ ss, s < m) ∧ ∀ H', Same H H' → Q (.bl true) H'
def spMarks52 : Sp := fun vs H Q _ => ∃ (m : Nat) (t : Addr) (ms : List Nat), vs = [.int (m : Nat), .ref t] ∧ Tq H t (nI ms) ∧ ms.Pairwise (· < ·) ∧ (∀ s ∈ ms, s < m) ∧ Q .non H
def spByKind52 (C : Addr) : Sp := fun vs H Q _ => ∃ (b t : Addr) (us : List Addr) (m : Nat) (rows : List Row) (rs : List REnt), vs = [.ref b, .int (m : Nat), .ref t] ∧ BedAt C H b rows ∧ ROk 4 rows ∧ Tq H t (us.map V.ref) ∧ RwAt H us rs ∧ (rs.map ek).Nodup ∧ rs.length ≤ 10000 ∧ (∀ e ∈ rs, (e.1, e.2.1) ∈ ksOf rows m ∧ e.2.2 < m) ∧ ∀ H' d ds, Same H H' → CzAt H' d (rows.map (·.1)) ds rs → Q (.ref d) H'
abbrev N_check_states : List Str := ["states"]
theorem sc_check_states : FnScope N_check_states ["states"] (defScope s_check_states) := ⟨rfl, rfl, rfl, by decide +kernel, rfl, by decide +kernel, by decide +kernel⟩
abbrev N_are_states : List Str := ["states", "numbers", "number"]
theorem sc_are_states : FnScope N_are_states ["states", "numbers"] (defScope s_are_states) := ⟨rfl, rfl, rfl, by decide +kernel, rfl, by decide +kernel, by decide +kernel⟩
abbrev N_check_marks : List Str := ["states", "marks", "least", "mark"]
theorem sc_check_marks : FnScope N_check_marks ["states", "marks"] (defScope s_check_marks) := ⟨rfl, rfl, rfl, by decide +kernel, rfl, by decide +kernel, by decide +kernel⟩
abbrev N_rows_by_kind : List Str := ["bed", "states", "rows", "table", "place", "kind", "below", "state"]
theorem sc_rows_by_kind : FnScope N_rows_by_kind ["bed", "states", "rows"] (defScope s_rows_by_kind) := ⟨rfl, rfl, rfl, by decide +kernel, rfl, by decide +kernel, by decide +kernel⟩
section
variable {P : Program} {w : World} {K : PySem.W.Frag} {mg : Str → Option Value} {base : Heap} {C : Addr}
theorem ok_states52 (T : Bl mg) (c_MOST_STATES : ∃ t, mg "MOST_STATES" = some (.int 40 t)) (D : Def0 K mg "check_states" s_check_states) : DefOk P w K mg base CX0 1 "check_states" spStates52 := by
  refine D.ok sc_check_states (fun vs H Q E h => ?_) (fun _ _ _ _ _ _ us hl => match us, hl with | [_], _ => rfl) (fun f cdv A outer s H vs Q E hr h => ?_)
  · obtain ⟨m, rfl, _⟩ := h
    rfl
  · obtain ⟨m, rfl, h1, h3, k⟩ := h
    refine ⟨_, (pss_cons (ps_if (pt_cmpR op_gt (pv 0) (pe_cI (by rfl) c_MOST_STATES) (nomark _))
        (pss_one ps_never)
        pss_nil)
      (pss_one (ps_if (pt_cmpR op_lt (pv 0) pe_int (nomark _))
        (pss_one ps_never)
        pss_nil))), ?_⟩
    exact ⟨_, rfl, _, _, rfl, rfl, _, rfl, ite2 (fun c => absurd (of_decide_eq_true c) (by omega)) (fun _ => ⟨_, rfl, _, _, rfl, rfl, _, rfl, ite2 (fun c => absurd (of_decide_eq_true c) (by omega)) (fun _ => k)⟩)⟩
theorem ok_are52 (T : Bl mg) (D : Def0 K mg "are_states" s_are_states) : DefOk P w K mg base CX0 1 "are_states" spAre52 := by
  refine D.ok sc_are_states (fun vs H Q E h => ?_) (fun _ _ _ _ _ _ us hl => match us, hl with | [_, _], _ => rfl) (fun f cdv A outer s H vs Q E hr h => ?_)
  · obtain ⟨m, t, ss, rfl, _⟩ := h
    rfl
  · obtain ⟨m, t, ss, rfl, ht, h1, h2, k⟩ := h
    refine ⟨_, (pss_one (ps_ret (pe_callB (cr_all rfl) (by rfl) T.b_all (by decide +kernel) (pa_cons (pe_lc (own := [("number", 2)]) (g := (gName 2)) (tt := tYes) rfl sc_are_states.nd (pi_tup (pv 1)) (blkOk_by (N := N_are_states) (sc := defScope s_are_states) (by decide +kernel)) (fun _ _ _ _ _ => (pg_name (i := 2) sc_are_states.nd rfl (Or.inl rfl))) (fun _ _ _ _ _ => pts_nil) (fun _ _ _ _ _ => (pe_chain op_le op_lt pe_int (pv 2) (pv 0)))) pa_nil)))), ?_⟩
    refine ⟨_, rfl, t, rfl, ⟨_, SqT.of ht⟩, fun D hD => lc_it (walk_tup (xs := nI ss)) (fun i H' => Same H H' ∧ H' D = some (.lst ((List.replicate i true).map V.bl))) ⟨(Same.refl H).upd_new hD, upd_same⟩ (fun i H' _ ⟨q, _⟩ => SqT.of (q _ _ ht)) ?_ ?_⟩
    · rintro i v H1 H2 hi ⟨q1, q2⟩ ⟨rfl, hv⟩
      rw [nI_len] at hi
      have hs := List.getElem?_eq_getElem hi
      have hm := h2 _ (List.getElem_mem hi)
      rw [nI_at hs] at hv
      injection hv with hv
      subst hv
      generalize ss[i] = s at hm
      refine ⟨rfl, _, rfl, _, _, rfl, rfl, _, rfl, ifp (decide_eq_true (by omega)) ⟨_, rfl, _, _, rfl, rfl, ?_⟩⟩
      have ed : ((fun i j : Int => V.bl (decide (i < j))) ((s : Nat) : Int) ((m : Nat) : Int)) = V.bl true := by
        show V.bl (decide _) = _
        rw [decide_eq_true (by omega)]
      rw [ed]
      refine ⟨_, q2, ?_, q1.upd_own hD, ?_⟩
      · rw [List.length_map, List.length_replicate]
        exact lt_line (by omega)
      · rw [upd_same, List.replicate_succ', List.map_append]
        rfl
    · rintro H1 ⟨q1, q2⟩
      refine ⟨D, _, rfl, SqL.of q2, ?_⟩
      rw [show (List.replicate (nI ss).length true).all id = true from by rw [List.all_eq_true]; intro x hx; exact (List.mem_replicate.mp hx).2]
      exact k H1 q1
theorem ok_marks52 (T : Bl mg) (D : Def0 K mg "check_marks" s_check_marks) : DefOk P w K mg base CX0 1 "check_marks" spMarks52 := by
  refine D.ok sc_check_marks (fun vs H Q E h => ?_) (fun _ _ _ _ _ _ us hl => match us, hl with | [_, _], _ => rfl) (fun f cdv A outer s H vs Q E hr h => ?_)
  · obtain ⟨m, t, ms, rfl, _⟩ := h
    rfl
  · obtain ⟨m, t, ms, rfl, ht, pw, lt, k⟩ := h
    refine ⟨_, (pss_cons (ps_set (i := 2) sc_check_marks.nd rfl (Or.inl rfl) pe_int)
      (pss_one (ps_for PassesOwn.never rfl (pi_tup (pv 1)) (pg_name (i := 3) sc_check_marks.nd rfl (Or.inl rfl))
        (pss_cons (ps_if (PW.pt (pw_or (pt_cmpR op_lt (pv 3) (pv 2) (nomark _)) (pw_or1 (pt_cmpR op_ge (pv 3) (pv 0) (nomark _)))))
          (pss_one ps_never)
          pss_nil)
        (pss_one (ps_set (i := 2) sc_check_marks.nd rfl (Or.inl rfl) (pe_op op_add (pv 3) pe_int))))))), ?_⟩
    refine ⟨_, rfl, t, rfl, ⟨_, ht.sq⟩, for_tup (xs := nI ms) (fun i σ H' => ∃ (x3 : Option V) (l : Nat), σ = [some (.int (m : Nat)), some (.ref t), some (.int (l : Nat)), x3] ∧ H = H' ∧ ∀ (j s : Nat), i ≤ j → ms[j]? = some s → l ≤ s)
      ⟨none, 0, rfl, rfl, fun _ _ _ _ => Nat.zero_le _⟩ (fun i σ H' _ ⟨_, _, _, e, _⟩ => e ▸ ht.sq) ?_ ?_⟩
    · rintro i v σ H1 hv ⟨x3, l, rfl, rfl, hl⟩
      have hi : i < ms.length := by rw [← nI_len ms]; exact (List.getElem?_eq_some_iff.mp hv).1
      have hs := List.getElem?_eq_getElem hi
      have hm := lt _ (List.getElem_mem hi)
      rw [nI_at hs] at hv
      injection hv with hv
      subst hv
      have hge := hl i ms[i] (Nat.le_refl _) hs
      have nx : ∀ (j s : Nat), i + 1 ≤ j → ms[j]? = some s → ms[i] + 1 ≤ s := fun j s hj h => by
        obtain ⟨l1, e1⟩ := List.getElem?_eq_some_iff.mp h
        rw [← e1]
        exact List.pairwise_iff_getElem.mp pw i j hi l1 (by omega)
      generalize ms[i] = s at hm hge nx
      refine ⟨_, rfl, _, rfl, _, _, rfl, rfl, _, rfl, ite2 (fun c => absurd (of_decide_eq_true c) (by omega)) (fun _ => ⟨_, rfl, _, rfl, _, _, rfl, rfl, _, rfl, ite2 (fun c => absurd (of_decide_eq_true c) (by omega)) (fun _ => ⟨_, rfl, _, _, rfl, rfl, ?_⟩)⟩)⟩
      exact ⟨_, s + 1, rfl, rfl, nx⟩
    · rintro σ H1 ⟨x3, l, rfl, rfl, hl⟩
      exact k
theorem ok_bykind52 (T : Bl mg) (B : BedT K C) (c_are_states : DefOk P w K mg base CX0 1 "are_states" spAre52) (D : Def0 K mg "rows_by_kind" s_rows_by_kind) : DefOk P w K mg base CX0 2 "rows_by_kind" (spByKind52 C) := by
  refine D.ok sc_rows_by_kind (fun vs H Q E h => ?_) (fun _ _ _ _ _ _ us hl => match us, hl with | [_, _, _], _ => rfl) (fun f cdv A outer s H vs Q E hr h => ?_)
  · obtain ⟨b, t, us, m, rows, rs, rfl, _⟩ := h
    rfl
  · obtain ⟨b, t, us, m, rows, rs, rfl, hB, R, ht, hW, nd, l108, good, key⟩ := h
    have hu := hu_of hr
    have r4 := R.len
    refine ⟨_, (pss_cons (ps_setDc (i := 3) (own := [("kind", 5)]) (g := (gName 5)) (tt := tYes) rfl sc_rows_by_kind.nd rfl rfl (sw_trueD rfl rfl rfl (by decide +kernel)) (pi_tup (pe_fld (pv 0) rfl)) (blkOk_by (N := N_rows_by_kind) (sc := defScope s_rows_by_kind) (by decide +kernel)) (fun _ _ _ _ _ => (pg_name (i := 5) sc_rows_by_kind.nd rfl (Or.inl rfl))) (fun _ _ _ _ _ => pts_nil) (fun _ _ _ _ _ => (pv 5)) (fun _ _ _ _ _ => pe_dnewT))
      (pss_cons (ps_for PassesOwn.never rfl (pi_enumT (by rfl) T.b_enumerate (pa_cons (pv 2) pa_nil)) (pg_tup (by rfl) (pgs_cons (pg_name (i := 4) sc_rows_by_kind.nd rfl (Or.inl rfl)) (pgs_cons (pg_tup (by rfl) (pgs_cons (pg_name (i := 5) sc_rows_by_kind.nd rfl (Or.inl rfl)) (pgs_cons (pg_name (i := 6) sc_rows_by_kind.nd rfl (Or.inl rfl)) (pgs_cons (pg_name (i := 7) sc_rows_by_kind.nd rfl (Or.inl rfl)) pgs_nil)))) pgs_nil)))
        (pss_cons (ps_if (PW.pt (pw_or (pt_cmp (pc_dnotin hu (pv 5) (pv 3))) (pw_or (pt_cmpR op_ne (pe_callB call_len_seq (by rfl) T.b_len boot_len (pa_cons (pv 6) pa_nil)) (pe_dget hu (pe_fld (pv 0) rfl) (pv 5) (fun _ _ => rfl)) (nomark _)) (pw_or1 (pt_cmp (pc_din hu (pv 6) (pe_dget hu (pv 3) (pv 5) (fun _ _ => rfl))))))))
          (pss_one ps_never)
          pss_nil)
        (pss_cons (ps_if (pt_not (pt_val (pe_d c_are_states (hr.mono (by decide)) pass0 (pa_cons (pv 1) (pa_cons (pe_tup (StX.pa_star (pv 6) (pa_cons (pv 7) pa_nil))) pa_nil)))))
          (pss_one ps_never)
          pss_nil)
        (pss_one (ps_dput hu (pe_dget hu (pv 3) (pv 5) (fun _ _ => rfl)) (pv 6) (pv 7) rfl)))))
      (pss_one (ps_ret (pv 3))))), ?_⟩
    obtain ⟨bx, r, kk, ww, rk, ts, b1, b2, b3, b4, b5, b6⟩ := id hB
    refine ⟨_, rfl, b, C, bx, _, _, rfl, b1, B.cl, B.nK, lk_kinds _ _ _ _, kk, rfl, ⟨_, SqT.of b4⟩, fun D hD => dc_it (walk_tup (xs := (rows.map (·.1)).map V.str)) (fun i H' => Same H H' ∧ ∃ ds, CzAt H' D ((rows.map (·.1)).take i) ds [] ∧ ∀ a ∈ ds, H a = none)
      ⟨(Same.refl H).upd_new hD, [], ⟨upd_same, by simp, List.nodup_nil, (fun h => nomatch h), fun i n a h => by simp at h⟩, fun a h => nomatch h⟩ (fun i H' _ ⟨q, _⟩ => SqT.of (q _ _ b4)) ?_ ?_⟩
    · rintro i v H3 H4 hi ⟨s3, ds, T3, f3⟩ ⟨rfl, hv⟩
      rw [List.length_map] at hi
      obtain ⟨n, hn, rfl⟩ := get_map hv
      refine ⟨rfl, ?_⟩
      refine ⟨_, rfl, fun p hp => ?_⟩
      have npD : p ≠ D := fun e => by rw [e, T3.at_] at hp; cases hp
      have f2p := s3.free hp
      have hl : ((rows.map (·.1)).take i).length = i := by rw [List.length_take]; omega
      refine ⟨_, .inr n, rfl, by rw [upd_ne (Ne.symm npD)]; exact T3.at_, ?_, (s3.upd_new hp).upd_own hD, ds ++ [p], ?_, fun a ha => ?_⟩
      · unfold tnL
        rw [List.length_map, List.length_zip, hl]
        rw [List.length_map] at hi
        exact lt_line (n := min i _) (by omega)
      · rw [← take_snoc hn]
        refine T3.add hp fun hm => ?_
        have := nd_take R.nd (i := i) (by omega)
        obtain ⟨l1, e1⟩ := List.getElem?_eq_some_iff.mp hn
        exact this (e1 ▸ hm)
      · rcases List.mem_append.mp ha with ha | ha
        · exact f3 a ha
        · rw [List.mem_singleton.mp ha]
          exact f2p
    rintro H3 ⟨s3, ds, T3, f3⟩
    rw [List.length_map, List.take_length] at T3
    have lus : (us.map V.ref).length = rs.length := by rw [List.length_map, hW.1]
    refine ⟨_, rfl, t, _, rfl, (ht.same s3).sq, for_it (walk_enumT (xs := us.map V.ref)) (fun i σ H' => ∃ (x4 x5 x6 x7 : Option V), σ = [some (.ref b), some (.int (m : Nat)), some (.ref t), some (.ref D), x4, x5, x6, x7] ∧ Same H H' ∧ CzAt H' D (rows.map (·.1)) ds (rs.take i))
      ⟨none, none, none, none, rfl, s3, T3⟩ (fun i σ H' _ ⟨_, _, _, _, _, s2, _⟩ => (ht.same s2).sq) ?_ ?_⟩
    · rintro i v σ H4 H4' hi ⟨x4, x5, x6, x7, rfl, s4, T4⟩ ⟨P1, v1, v2, rfl, hP1, rfl, e1, e2⟩
      cases e1
      have his : i < rs.length := by rw [lus] at hi; exact hi
      have hiu : i < us.length := by rw [hW.1]; exact his
      have hqi := List.getElem?_eq_getElem his
      obtain ⟨gk, gs⟩ := good _ (List.getElem_mem his)
      obtain ⟨bb, w1, w2⟩ := hW.2 i us[i] rs[i] (List.getElem?_eq_getElem hiu) hqi
      have w1 := s4 _ _ w1
      have w2 := s4 _ _ w2
      have e2' : (us.map V.ref)[i]? = some v2 := e2
      rw [List.getElem?_map, List.getElem?_eq_getElem hiu] at e2'
      cases e2'
      have fr : ek rs[i] ∉ (rs.take i).map ek := fun h => by
        obtain ⟨y, hy, ey⟩ := List.mem_map.mp h
        obtain ⟨j, hj, e⟩ := List.mem_iff_getElem.mp hy
        rw [List.length_take] at hj
        have hj' : j < rs.length := by omega
        have h1 : (rs.map ek)[j]? = some (ek rs[i]) := by
          rw [List.getElem?_map, List.getElem?_eq_getElem hj', ← ey, ← e, List.getElem_take]
          rfl
        have h2 : (rs.map ek)[i]? = some (ek rs[i]) := by rw [List.getElem?_map, hqi]; rfl
        obtain ⟨l1, g1⟩ := List.getElem?_eq_some_iff.mp h1
        obtain ⟨l2, g2⟩ := List.getElem?_eq_some_iff.mp h2
        have := (List.getElem_inj nd).mp (g1.trans g2.symm)
        omega
      generalize us[i] = u at w1
      generalize rs[i] = en at hqi gk gs w1 w2 fr
      obtain ⟨z, ss, s⟩ := en
      obtain ⟨hz, hl, hlt⟩ := (ks_has R).mp gk
      have hz : HasN rows z := hz
      have hl : ss.length = wR rows z := hl
      have hlt : ∀ s ∈ ss, s < m := hlt
      have gs : s < m := gs
      have fr : (z, ss) ∉ (rs.take i).map ek := fr
      have s5 := (Same.refl H4).upd_new (o := .tup [.int ((i : Nat) : Int), .ref u]) hP1
      have f5 : (upd H4 P1 (.tup [.int ((i : Nat) : Int), .ref u])) P1 = some (.tup [.int ((i : Nat) : Int), .ref u]) := upd_same
      generalize upd H4 P1 (.tup [.int ((i : Nat) : Int), .ref u]) = H5 at s5 f5
      have T5 := T4.same s5
      have s05 := s4.trans s5
      obtain ⟨q, hq, eq1⟩ := id hz
      obtain ⟨k, hk⟩ := List.mem_iff_getElem?.mp (List.mem_map.mpr ⟨q, hq, eq1⟩ : z ∈ rows.map (·.1))
      have hkl := (List.getElem?_eq_some_iff.mp hk).1
      have hda := List.getElem?_eq_getElem (show k < ds.length by rw [T5.len]; exact hkl)
      have fa := f3 _ (List.getElem_mem (show k < ds.length by rw [T5.len]; exact hkl))
      generalize ds[k]'(by rw [T5.len]; exact hkl) = a at hda fa
      have ha := T5.row k z a hk hda
      have gT : DGet H5 D (.str z) (some (.ref a)) := by
        have := DGet.k (k := .inr z) T5.at_
        rw [tn_val R.nd hk hda] at this
        exact this
      have gW : DGet H5 ww (.str z) (some (.int ((wR rows z : Nat) : Int))) := by
        have := DGet.k (k := .inr z) (s05 _ _ b5)
        rw [val_wL R hz] at this
        exact this
      have gC : DGet H5 a (.ref bb) none := by
        have := DGet.t (k := tkey ss) ha (by rw [s5 _ _ w2, tkey_V])
        rw [cz_val, Option.map_eq_none_iff.mpr (List.find?_eq_none.mpr fun y hy c => fr (List.mem_map.mpr ⟨y, hy, of_decide_eq_true c⟩))] at this
        exact this
      refine ⟨P1, _, rfl, SqT.of f5, rfl, _, _, rfl, _, _, rfl, u, _, rfl, SqT.of (s5 _ _ w1), rfl, _, _, rfl, _, _, rfl, _, _, rfl, rfl, rfl, ?_⟩
      refine ⟨_, rfl, _, rfl, D, _, rfl, gT, _, rfl, ite2 (fun c => absurd c (by simp)) (fun _ => ?_)⟩
      refine ⟨_, rfl, bb, _, rfl, .inr (SqT.of (s5 _ _ w2)), _, rfl, b, C, bx, _, _, rfl, s05 _ _ b1, B.cl, B.nW, lk_widths _ _ _ _, _, rfl, ww, _, rfl, gW, rfl, _, rfl, ite2 (fun c => ?_) (fun _ => ?_)⟩
      · rw [nI_len, hl] at c
        simp at c
      refine ⟨_, rfl, _, rfl, _, rfl, D, _, rfl, gT, a, _, rfl, gC, _, rfl, ite2 (fun c => absurd c (by decide)) (fun _ => ?_)⟩
      have lss : ss.length ≤ 3 := by rw [hl]; exact wR_le R _
      refine ⟨_, rfl, _, rfl, bb, _, rfl, .inl (SqT.of (s5 _ _ w2)), _, rfl, le_line (by rw [List.length_append, nI_len]; show ss.length + 1 ≤ 10000000; omega), fun v hv => ?_⟩
      have s6 := (Same.refl H5).upd_new (o := .tup (nI ss ++ [.int ((s : Nat) : Int)])) hv
      have v6 : (upd H5 v (.tup (nI ss ++ [.int ((s : Nat) : Int)]))) v = some (.tup (nI (ss ++ [s]))) := by rw [upd_same, nI_snoc]
      have v6' : H5 v = none := hv
      refine ⟨m, v, ss ++ [s], rfl, v6, by rw [List.length_append]; show ss.length + 1 ≤ 1000; omega, fun y hy => ?_, fun H7 s7 => ⟨_, rfl, ifn (by decide) ?_⟩⟩
      · rcases List.mem_append.mp hy with h | h
        · exact hlt y h
        · rw [List.mem_singleton.mp h]; exact gs
      have s57 := s6.trans s7
      have T7 := T5.same s57
      have gT7 : DGet H7 D (.str z) (some (.ref a)) := by
        have := DGet.k (k := .inr z) T7.at_
        rw [tn_val R.nd hk hda] at this
        exact this
      have a7 := T7.row k z a hk hda
      have w7 := s57 _ _ (s5 _ _ w2)
      refine ⟨_, rfl, _, rfl, _, rfl, D, _, rfl, gT7, _, rfl, a, _, rfl, DPut.t (k := tkey ss) a7 (by rw [w7, tkey_V]) ?_, ?_⟩
      · unfold cz
        rw [List.length_map]
        exact lt_line (Nat.le_trans (List.length_filter_le _ _) (by rw [List.length_take]; omega))
      refine ⟨_, _, _, _, rfl, (s05.trans s57).upd_own fa, ?_⟩
      have := T7.put (e := (z, ss, s)) R.nd fr hk hda
      rw [List.take_add_one, hqi]
      exact this
    · rintro σ H4 ⟨x4, x5, x6, x7, rfl, s4, T4⟩
      rw [lus, List.take_length] at T4
      exact ⟨_, rfl, key H4 D ds s4 T4⟩
end

theorem BedAt.kx {C x D dx : Addr} {H H' : Hp} {b : Addr} {rows : List Row} (B : BedAt C H b rows) (hx : H x = some (.ins D dx [])) (k : Kp x H H') : BedAt C H' b rows := by
  obtain ⟨dx', r, kk, w, rk, ts, h1, h2, h3, h4, h5, h6⟩ := B
  exact ⟨dx', r, kk, w, rk, ts, k _ _ h1 (ne_of h1 hx (fun e => by unfold bedF at e; cases e)), k _ _ h2 (ne_of h2 hx (fun e => nomatch e)), h3.keep (fun t xs q => k _ _ q (ne_of q hx (fun e => nomatch e))),
    k _ _ h4 (ne_of h4 hx (fun e => nomatch e)), k _ _ h5 (ne_of h5 hx (fun e => nomatch e)), k _ _ h6 (ne_of h6 hx (fun e => nomatch e))⟩
def rdF (b : Addr) (m : Nat) (d mt : Addr) (o : Nat) : List (Str × V) := [("bed", .ref b), ("states", .int ((m : Nat) : Int)), ("cells", .ref d), ("marks", .ref mt), ("otherwise", .int ((o : Nat) : Int))]
theorem q_ne : ¬ ("bed" : Str) = "states" ∧ ¬ ("bed" : Str) = "cells" ∧ ¬ ("bed" : Str) = "marks" ∧ ¬ ("bed" : Str) = "otherwise" ∧ ¬ ("states" : Str) = "cells" ∧ ¬ ("states" : Str) = "marks" ∧ ¬ ("states" : Str) = "otherwise" ∧ ¬ ("cells" : Str) = "marks" ∧ ¬ ("cells" : Str) = "otherwise" ∧ ¬ ("marks" : Str) = "otherwise" := by decide +kernel
theorem rd_put2 (b : Addr) (m : Int) : putF "states" (.int m) [("bed", .ref b)] = [(("bed" : Str), V.ref b), ("states", .int m)] := by simp [putF, q_ne]
theorem rd_put3 (b d : Addr) (m : Int) : putF "cells" (.ref d) [("bed", .ref b), ("states", .int m)] = [(("bed" : Str), V.ref b), ("states", .int m), ("cells", .ref d)] := by simp [putF, q_ne]
theorem rd_put4 (b d t : Addr) (m : Int) : putF "marks" (.ref t) [("bed", .ref b), ("states", .int m), ("cells", .ref d)] = [(("bed" : Str), V.ref b), ("states", .int m), ("cells", .ref d), ("marks", .ref t)] := by simp [putF, q_ne]
theorem rd_put5 (b d t : Addr) (m o : Nat) : putF "otherwise" (.int (o : Nat)) [("bed", .ref b), ("states", .int ((m : Nat) : Int)), ("cells", .ref d), ("marks", .ref t)] = rdF b m d t o := by simp [putF, q_ne, rdF]
structure RdT (K : PySem.W.Frag) (C : Addr) : Prop where
  cl : Cls K C
  nB : NoAttr K C "bed"
  nS : NoAttr K C "states"
  nC : NoAttr K C "cells"
  nM : NoAttr K C "marks"
  nO : NoAttr K C "otherwise"
def RdAt (C CR : Addr) (H : Hp) (p b : Addr) (rows : List Row) (D : RdD) : Prop := ∃ (dx d mt : Addr) (ds : List Addr), H p = some (.ins CR dx (rdF b D.many d mt D.rest)) ∧ BedAt C H b rows ∧ CzAt H d (rows.map (·.1)) ds D.rws ∧ H mt = some (.tup (nI D.marks))
theorem RdAt.same {C CR : Addr} {H H' : Hp} {p b : Addr} {rows : List Row} {D : RdD} (x : RdAt C CR H p b rows D) (s : Same H H') : RdAt C CR H' p b rows D := by
  obtain ⟨dx, d, mt, ds, h1, h2, h3, h4⟩ := x
  exact ⟨dx, d, mt, ds, s _ _ h1, h2.same s, h3.same s, s _ _ h4⟩
def spRdI (C CR : Addr) : Sp := fun vs H Q _ => ∃ (x dx b tR tM : Addr) (us : List Addr) (rows : List Row) (D : RdD), vs = [.ref x, .ref b, .int (D.many : Nat), .ref tR, .ref tM, .int (D.rest : Nat)] ∧ H x = some (.ins CR dx []) ∧ BedAt C H b rows ∧ ROk 4 rows ∧ D.Ok rows ∧ H tR = some (.tup (us.map V.ref)) ∧ RwAt H us D.rws ∧ H tM = some (.tup (nI D.marks)) ∧ ∀ H', Kp x H H' → RdAt C CR H' x b rows D → Q .non H'
abbrev N_Reader_init__ : List Str := ["self", "bed", "states", "rows", "marks", "otherwise", "table"]
theorem sc_Reader_init__ : FnScope N_Reader_init__ ["self", "bed", "states", "rows", "marks", "otherwise"] (defScope s_Reader_init__) := ⟨rfl, rfl, rfl, by decide +kernel, rfl, by decide +kernel, by decide +kernel⟩
section
variable {P : Program} {w : World} {K : PySem.W.Frag} {mg : Str → Option Value} {base : Heap} {C CR : Addr}
theorem body_rdI (T : Bl mg) (B : BedT K C) (BR : RdT K CR) (c_check_states : DefOk P w K mg base CX0 1 "check_states" spStates52) (c_are_states : DefOk P w K mg base CX0 1 "are_states" spAre52) (c_check_marks : DefOk P w K mg base CX0 1 "check_marks" spMarks52) (c_rows_by_kind : DefOk P w K mg base CX0 2 "rows_by_kind" (spByKind52 C)) {f0 : Addr} {cdv : Value} {A' : Around} {outer : List Env} {s' : Shared} {H : Hp} {vs : List V} {Q : VK} {E : XK} (hr : Room 3 (A'.deeper (envOfC "Reader.__init__" (defScope s_Reader_init__) s'.heap.objs.size f0 cdv))) (h : spRdI C CR vs H Q E) :
    ∃ t, PSs (cxOf CX0 P w K mg base N_Reader_init__ "Reader.__init__" (defScope s_Reader_init__) f0 cdv A' outer s' H E) (defBody s_Reader_init__) t ∧ t { nx := fun _ H' => Q .non H', rt := Q } (start N_Reader_init__ vs) H := by
  obtain ⟨x, dx, b, tR, tM, us, rows, D, rfl, hx, hB, R, O, hR, hW, hM, key⟩ := h
  have hu := hu_of hr
  refine ⟨_, (pss_cons (ps_expr (pe_d c_check_states (hr.mono (by decide)) pass0 (pa_cons (pv 2) pa_nil)))
    (pss_cons (ps_set (i := 6) sc_Reader_init__.nd rfl (Or.inl rfl) (pe_d c_rows_by_kind (hr.mono (by decide)) pass0 (pa_cons (pv 1) (pa_cons (pv 2) (pa_cons (pv 3) pa_nil)))))
    (pss_cons (ps_expr (pe_d c_check_marks (hr.mono (by decide)) pass0 (pa_cons (pv 2) (pa_cons (pv 4) pa_nil))))
    (pss_cons (ps_if (pt_not (pt_val (pe_d c_are_states (hr.mono (by decide)) pass0 (pa_cons (pv 2) (pa_cons (pe_tup (pa_cons (pv 5) pa_nil)) pa_nil)))))
      (pss_one ps_never)
      pss_nil)
    (pss_cons (ps_fld (pv 0) (pv 1) rfl)
    (pss_cons (ps_fld (pv 0) (pv 2) rfl)
    (pss_cons (ps_fld (pv 0) (pv 6) rfl)
    (pss_cons (ps_fld (pv 0) (pv 4) rfl)
    (pss_one (ps_fld (pv 0) (pv 5) rfl)))))))))), ?_⟩
  refine ⟨_, rfl, D.many, rfl, O.m1, O.m3, ?_⟩
  refine ⟨_, rfl, _, rfl, _, rfl, b, tR, us, D.many, rows, D.rws, rfl, hB, R, .of hR, hW, O.nd, O.rl, fun e he => ⟨by rw [← O.ks]; exact List.mem_map.mpr ⟨e, O.sub e he, rfl⟩, O.lt e (O.sub e he)⟩, fun H1 d ds s1 T1 => ?_⟩
  refine ⟨_, rfl, _, rfl, D.many, tM, D.marks, rfl, .of (s1 _ _ hM), O.mks, O.ml, ?_⟩
  refine ⟨_, rfl, _, rfl, le_line (show 1 ≤ 10000000 by decide), fun v hv => ?_⟩
  have s2 := s1.upd_new (o := .tup [.int ((D.rest : Nat) : Int)]) hv
  have v2 : (upd H1 v (.tup [.int ((D.rest : Nat) : Int)])) v = some (.tup (nI [D.rest])) := upd_same
  have T2 := T1.same ((Same.refl H1).upd_new (o := .tup [.int ((D.rest : Nat) : Int)]) hv)
  generalize upd H1 v (.tup [.int ((D.rest : Nat) : Int)]) = H2 at s2 v2 T2
  refine ⟨D.many, v, [D.rest], rfl, v2, (show 1 ≤ 1000 by decide), fun y hy => by rw [List.mem_singleton.mp hy]; exact O.re, fun H3 s3 => ⟨_, rfl, ifn (by decide) ?_⟩⟩
  have s03 := s2.trans s3
  have T3 := T2.same s3
  refine ⟨_, rfl, _, rfl, x, CR, dx, _, rfl, s03 _ _ hx, BR.cl, BR.nB, (by show 0 < 1000; decide), ?_⟩
  refine ⟨_, rfl, _, rfl, x, CR, dx, _, rfl, upd_same, BR.cl, BR.nS, (by show 1 < 1000; decide), ?_⟩
  rw [show putF "bed" (.ref b) [] = [(("bed" : Str), V.ref b)] from rfl, rd_put2]
  refine ⟨_, rfl, _, rfl, x, CR, dx, _, rfl, upd_same, BR.cl, BR.nC, (by show 2 < 1000; decide), ?_⟩
  rw [rd_put3]
  refine ⟨_, rfl, _, rfl, x, CR, dx, _, rfl, upd_same, BR.cl, BR.nM, (by show 3 < 1000; decide), ?_⟩
  rw [rd_put4]
  refine ⟨_, rfl, _, rfl, x, CR, dx, _, rfl, upd_same, BR.cl, BR.nO, (by show 4 < 1000; decide), ?_⟩
  rw [rd_put5]
  have kx : Kp x H3 (upd (upd (upd (upd (upd H3 x (.ins CR dx [(("bed" : Str), V.ref b)])) x (.ins CR dx [(("bed" : Str), V.ref b), ("states", .int ((D.many : Nat) : Int))])) x (.ins CR dx [(("bed" : Str), V.ref b), ("states", .int ((D.many : Nat) : Int)), ("cells", .ref d)])) x (.ins CR dx [(("bed" : Str), V.ref b), ("states", .int ((D.many : Nat) : Int)), ("cells", .ref d), ("marks", .ref tM)])) x (.ins CR dx (rdF b D.many d tM D.rest))) := (((((Kp.refl x H3).upd).upd).upd).upd).upd
  refine key _ ((Kp.same s03).trans kx) ⟨dx, d, tM, ds, upd_same, (hB.same s03).kx (s03 _ _ hx) kx, ?_, ?_⟩
  · have nx : ∀ {a : Addr} {o : HO}, H3 a = some o → (∀ C dx fs, o ≠ .ins C dx fs) → a ≠ x := fun {a} {o} h n e => by
      rw [e, s03 _ _ hx] at h
      exact n _ _ _ (Option.some.inj h).symm
    exact ⟨kx _ _ T3.at_ (nx T3.at_ fun _ _ _ e => nomatch e), T3.len, T3.nd, T3.nin, fun i n a h1 h2 => kx _ _ (T3.row i n a h1 h2) (nx (T3.row i n a h1 h2) fun _ _ _ e => nomatch e)⟩
  · exact kx _ _ (s03 _ _ hM) (ne_of (s03 _ _ hM) (s03 _ _ hx) (fun e => nomatch e))
end
def RdC (P : Program) (w : World) (K : PySem.W.Frag) (mg : Str → Option Value) (base : Heap) (C CR : Addr) (k : Nat) : Prop := mg "Reader" = some (.ref CR) ∧ ∃ fI fd ds, Mk K CR fI ∧ FnOk P w K mg base CX0 k fI fd ["self", "bed", "states", "rows", "marks", "otherwise"] (spRdI C CR) ∧ Binds K fd ["self", "bed", "states", "rows", "marks", "otherwise"] ds ∧ Vals [.int 0] ds ∧ KBn K fd ["self", "bed", "states", "rows", "marks", "otherwise"] 5 (["otherwise"] : List Str) (fun us ws => us ++ ws) (fun vs zs => vs ++ zs)
theorem pe_reader {X : Cx} {C CR : Addr} {k : Nat} {e : Expr} {es : List Expr} {t : TA} {p pos : Pos} (D : RdC X.prog X.w X.K X.mg X.base C CR k) (hr : Room (k + 1) X.A) (ha : PA X (e :: es) t) (hg : Gl X "Reader" := by rfl)
    (he : starEach (e :: es) X.env = (false, eval e X.env) :: starEach es X.env := by rfl) (hpl : (backTo pos (starEach es X.env)).any (·.1) = false := by rfl) :
    PE X (.Call (.Name "Reader" p) (e :: es) [] pos) (tMake CR (spRdI C CR) [.int 0] E0 t) := by
  obtain ⟨hm, fI, fd, ds, M, F, hb, hd, hk⟩ := D
  exact pe_make M F hr hg hm hb hd pass0 ha (by decide) he hpl
theorem pe_readerK {X : Cx} {C CR : Addr} {k : Nat} {e : Expr} {es : List Expr} {kws : List Keyword} {t tk : TA} {p pos : Pos} (D : RdC X.prog X.w X.K X.mg X.base C CR k) (hr : Room (k + 1) X.A) (ha : PA X (e :: es) t) (hkw : PK X kws tk) (hg : Gl X "Reader" := by rfl)
    (hall : (backToKw pos (keywordEach kws X.env)).all (·.1.isSome) = true := by rfl) (hks : (backToKw pos (keywordEach kws X.env)).filterMap (·.1) = (["otherwise"] : List Str) := by rfl)
    (he : starEach (e :: es) X.env = (false, eval e X.env) :: starEach es X.env := by rfl) (hpl : ((backTo pos (starEach (e :: es) X.env)).any (·.1) || (backToKw pos (keywordEach kws X.env)).any (·.1.isNone)) = false := by rfl) :
    PE X (.Call (.Name "Reader" p) (e :: es) kws pos) (tMakeK CR 4 1 (spRdI C CR) (fun vs zs => vs ++ zs) E0 t tk) := by
  obtain ⟨hm, fI, fd, ds, M, F, hb, hd, hk⟩ := D
  exact pe_makeK M F hr hg hm hk pass0 ha hkw hall hks (by decide) he hpl
end Sh
end
section
set_option Elab.async false
set_option linter.all false
set_option maxRecDepth 100000
set_option maxHeartbeats 4000000
namespace Sh
open PySem PySem.Spec PyProof.Rows L2
open C8 (pss_cut tCut)
open Evl (ixN_nat)
theorem ways_pow (m : Nat) : ∀ i, (ways (List.replicate i (List.range m))).length = m ^ i := fun i => by
  induction i with
  | zero => rfl
  | succ i ih => rw [List.replicate_succ', ways_snoc, wstep_len, ih, List.length_range, Nat.pow_succ]
theorem wstep_leM {f : List (List Nat)} {l : List Nat} {w : List Nat} {j k : Nat} (hj : j < f.length) (hk : k ≤ l.length) (hf : f.length ≤ 4000) (hl : l.length ≤ 100) : (wstep (f.take j) l ++ (l.take k).map fun s => w ++ [s]).length ≤ 1000000 := by
  rw [List.length_append, wstep_len, List.length_map, List.length_take, List.length_take, Nat.min_eq_left (by omega)]
  have : j * l.length ≤ 4000 * 100 := Nat.mul_le_mul (by omega) hl
  omega
def spTuples6 : Sp := fun vs H Q _ => ∃ (many n : Nat), vs = [.int (many : Nat), .int (n : Nat)] ∧ many ≤ 100 ∧ n ≤ 3 ∧ (∀ i, i < n → many ^ i ≤ 4000) ∧ ∀ H' L, Same H H' → H L = none → WaysAt H' L (ways (List.replicate n (List.range many))) → Q (.ref L) H'
def spMarks6 : Sp := fun vs H Q _ => ∃ (x : Addr) (m : Nat), vs = [.ref x, .int (m : Nat)] ∧ BxT H x ∧ m ≤ 100 ∧ ∀ H' (t : Addr) (ms : List Nat), Kp x H H' → BxT H' x → H' t = some (.tup (nI ms)) → ms.Pairwise (· < ·) → (∀ s ∈ ms, s < m) → Q (.ref t) H'
abbrev N_law_tuples : List Str := ["many", "length", "found", "turn", "longer", "start", "k"]
theorem sc_law_tuples : FnScope N_law_tuples ["many", "length"] (defScope s_law_tuples) := ⟨rfl, rfl, rfl, by decide +kernel, rfl, by decide +kernel, by decide +kernel⟩
abbrev N_law_marks : List Str := ["box", "states", "choice", "marks", "state", "bit"]
theorem sc_law_marks : FnScope N_law_marks ["box", "states"] (defScope s_law_marks) := ⟨rfl, rfl, rfl, by decide +kernel, rfl, by decide +kernel, by decide +kernel⟩
section
variable {P : Program} {w : World} {K : PySem.W.Frag} {mg : Str → Option Value} {base : Heap}
theorem ok_tuples6 (T : Bl mg) (D : Def0 K mg "_law_tuples" s_law_tuples) : DefOk P w K mg base CX0 1 "_law_tuples" spTuples6 := by
  refine D.ok sc_law_tuples (fun vs H Q E h => ?_) (fun _ _ _ _ _ _ us hl => match us, hl with | [_, _], _ => rfl) (fun f cdv A outer s' H vs Q E hr h => ?_)
  · obtain ⟨many, n, rfl, _⟩ := h
    rfl
  · obtain ⟨many, n, rfl, hm, hn, hpow, k⟩ := h
    refine ⟨_, (pss_cons (ps_set (i := 2) sc_law_tuples.nd rfl (Or.inl rfl) (pe_lst (pa_cons (pe_tup pa_nil) pa_nil)))
      (pss_cons (ps_for PassesOwn.never rfl (pi_range1 (by rfl) T.b_range (pa_cons (pv 1) pa_nil)) (pg_name (i := 3) sc_law_tuples.nd rfl (Or.inl rfl))
        (pss_cons (ps_set (i := 4) sc_law_tuples.nd rfl (Or.inl rfl) (pe_lst pa_nil))
        (pss_cons (ps_for PassesOwn.never rfl (pi_list (pv 2)) (pg_name (i := 5) sc_law_tuples.nd rfl (Or.inr rfl))
          (pss_one (ps_expr (pe_bm PySem.F.plainAttrs_list PySem.F.slot_list_extend PySem.F.type_list_extend mt_extend (pv 4) (pa_cons (pe_lc (own := [("k", 6)]) (g := (gName 6)) (tt := tYes) rfl sc_law_tuples.nd (pi_range1 (by rfl) T.b_range (pa_cons (pv 0) pa_nil)) (blkOk_by (N := N_law_tuples) (sc := defScope s_law_tuples) (by decide +kernel)) (fun _ _ _ _ _ => (pg_name (i := 6) sc_law_tuples.nd rfl (Or.inl rfl))) (fun _ _ _ _ _ => pts_nil) (fun _ _ _ _ _ => (pe_op (show OpR _ _ (rCatA K) from op_catA) (pv 5) (pe_tup (pa_cons (pv 6) pa_nil))))) pa_nil)))))
        (pss_one (ps_set (i := 2) sc_law_tuples.nd rfl (Or.inl rfl) (pv 4))))))
      (pss_one (ps_ret (pv 2))))), ?_⟩
    refine ⟨le_line (show 0 ≤ 10000000 by decide), fun t ht => ?_⟩
    have s1 := (Same.refl H).upd_new (o := .tup []) ht
    have t1 : (upd H t (.tup [])) t = some (.tup (nI [])) := upd_same
    generalize upd H t (.tup []) = H1 at s1 t1
    refine ⟨le_line (show 1 ≤ 10000000 by decide), fun F hF => ?_⟩
    have s2 := s1.upd_new (o := .lst [.ref t]) hF
    have F2 : (upd H1 F (.lst [.ref t])) F = some (.lst ([t].map V.ref)) := upd_same
    have t2 : (upd H1 F (.lst [.ref t])) t = some (.tup (nI [])) := by rw [upd_ne (ne_of_none t1 hF)]; exact t1
    generalize upd H1 F (.lst [.ref t]) = H2 at s2 F2 t2
    refine ⟨_, rfl, _, rfl, by omega, by omega, ?_⟩
    rw [Int.toNat_natCast]
    refine for_range (n := n) (fun i σ H' => ∃ (x3 x4 x5 x6 : Option V) (F : Addr), σ = [some (.int (many : Nat)), some (.int (n : Nat)), some (.ref F), x3, x4, x5, x6] ∧ Same H H' ∧ H F = none ∧ WaysAt H' F (ways (List.replicate i (List.range many))))
      ⟨none, none, none, none, F, rfl, s2, s1.free hF, [t], F2, .one t2⟩ ?_ ?_
    · rintro i σ H3 hi ⟨x3, x4, x5, x6, F3, rfl, s3, _, us, hus, hP⟩
      have lw : (ways (List.replicate i (List.range many))).length ≤ 4000 := by
        rw [ways_pow]
        exact hpow i hi
      have er : ways (List.replicate (i + 1) (List.range many)) = wstep (ways (List.replicate i (List.range many))) (List.range many) := by rw [← ways_snoc, List.replicate_succ']
      have lf : ∀ z ∈ ways (List.replicate i (List.range many)), z.length ≤ 3 := fun z hz => by
        rw [(ways_mem.mp hz).1, List.length_replicate]
        omega
      generalize ways (List.replicate i (List.range many)) = f at hP lw er lf
      refine ⟨le_line (show 0 ≤ 10000000 by decide), fun W hW => ?_⟩
      have s4 := s3.upd_new (o := .lst []) hW
      have W4 : (upd H3 W (.lst [])) W = some (.lst (([] : List Addr).map V.ref)) := upd_same
      have nWF : F3 ≠ W := ne_of_none hus hW
      have F4 : (upd H3 W (.lst [])) F3 = some (.lst (us.map V.ref)) := by rw [upd_ne nWF]; exact hus
      have P4 := hP.keep (H' := upd H3 W (.lst [])) fun t ys h => by rw [upd_ne (ne_of_none h hW)]; exact h
      have nW : H W = none := s3.free hW
      generalize upd H3 W (.lst []) = H4 at s4 W4 F4 P4
      have lus : (us.map V.ref).length = f.length := by rw [List.length_map, P4.1]
      refine ⟨_, rfl, F3, rfl, ⟨_, SqL.of F4⟩, for_list (xs := us.map V.ref) (fun j σ H' => ∃ (x3 x5 x6 : Option V) (ws : List Addr), σ = [some (.int (many : Nat)), some (.int (n : Nat)), some (.ref F3), x3, some (.ref W), x5, x6] ∧ Same H H' ∧ H' F3 = some (.lst (us.map V.ref)) ∧ PlAt nI H' us f ∧ H' W = some (.lst (ws.map V.ref)) ∧ PlAt nI H' ws (wstep (f.take j) (List.range many)))
        ⟨_, x5, x6, [], rfl, s4, F4, P4, W4, .nil⟩ (fun i σ H' _ ⟨_, _, _, _, _, _, h, _⟩ => SqL.of h) ?_ ?_⟩
      · rintro j v σ H5 hv ⟨x3, x5, x6, ws, rfl, s5, F5, P5, W5, R5⟩
        obtain ⟨u, hu, rfl⟩ := get_map_r hv
        have hjl : j < f.length := by rw [← P5.1]; exact (List.getElem?_eq_some_iff.mp hu).1
        have hf := List.getElem?_eq_getElem hjl
        generalize f[j] = row at hf
        have hu5 := P5.2 j u row hu hf
        have lr := lf row (List.mem_of_getElem? hf)
        refine ⟨_, rfl, .inl ⟨rfl, _, SqL.of W5⟩, _, rfl, _, rfl, by omega, by omega, fun D hD => ?_⟩
        rw [Int.toNat_natCast]
        refine lc_it (walk_range (lo := 0) (n := many)) (fun k H' => Same H5 H' ∧ ∃ ds : List Addr, H' D = some (.lst (ds.map V.ref)) ∧ PlAt nI H' ds (((List.range many).take k).map fun s => row ++ [s]))
          ⟨(Same.refl H5).upd_new hD, [], upd_same, by rw [List.take_zero]; exact .nil⟩ (fun _ _ _ _ => True.intro) ?_ ?_
        · rintro k v H6' H6 hk ⟨s6, ds, D6, R6⟩ ⟨rfl, rfl⟩
          have e0 : (0 : Int) + ((k : Nat) : Int) = ((k : Nat) : Int) := by omega
          have hs : (List.range many)[k]? = some k := List.getElem?_range hk
          have hu6 := s6 _ _ hu5
          refine ⟨rfl, _, rfl, _, rfl, le_line (show 1 ≤ 10000000 by decide), fun q hq => ?_⟩
          have ev : (fun i : Nat => V.int ((0 : Int) + ((i : Nat) : Int))) k = V.int ((k : Nat) : Int) := by show V.int _ = _; rw [e0]
          rw [ev]
          have s7 := (Same.refl H6).upd_new (o := .tup [.int ((k : Nat) : Int)]) hq
          have q7 : (upd H6 q (.tup [.int ((k : Nat) : Int)])) q = some (.tup [.int ((k : Nat) : Int)]) := upd_same
          generalize upd H6 q (.tup [.int ((k : Nat) : Int)]) = H7 at s7 q7
          refine catA_n (s7 _ _ hu6) q7 (by rw [nI_len]; show row.length + 1 ≤ _; omega) fun r H8 s8 hr8 => ?_
          rw [nI_snoc] at hr8
          have s68 := s7.trans s8
          have D8 := s68 _ _ D6
          have R8 := R6.keep fun t ys h => s68 _ _ h
          refine ⟨_, D8, by rw [List.length_map, R8.1, List.length_map, List.length_take]; exact lt_line (n := min k _) (by omega), (s6.trans s68).upd_own hD, ds ++ [r], by rw [upd_same, List.map_append]; rfl, ?_⟩
          rw [wmap_take hs]
          exact (R8.snoc hr8).keep fun t ys h => by rw [upd_ne (ne_of h D8 (fun e => nomatch e))]; exact h
        · rintro H6 ⟨s6, ds, D6, R6⟩
          rw [List.take_of_length_le (by rw [List.length_range]; omega)] at R6
          have W6 := s6 _ _ W5
          have lfull := wstep_leM (w := row) (j := j) (k := many) (l := List.range many) hjl (by rw [List.length_range]; omega) lw (by rw [List.length_range]; omega)
          rw [List.take_of_length_le (l := List.range many) (by rw [List.length_range]; omega)] at lfull
          refine ⟨W, D, _, _, rfl, rfl, W6, D6, ?_, ?_⟩
          · rw [List.length_map, List.length_map, R5.1, R6.1, ← List.length_append]
            exact le_line (by omega)
          · have kt : ∀ t ys, H6 t = some (.tup ys) → (upd H6 W (.lst (ws.map V.ref ++ ds.map V.ref))) t = some (.tup ys) := fun t ys h => by rw [upd_ne (ne_of h W6 (fun e => nomatch e))]; exact h
            refine ⟨_, _, _, ws ++ ds, rfl, (s5.trans s6).upd_own nW, by rw [upd_ne nWF]; exact s6 _ _ F5, (P5.keep fun t ys h => s6 _ _ h).keep kt, by rw [upd_same, List.map_append], ?_⟩
            rw [wstep_take hf]
            exact ((R5.keep fun t ys h => s6 _ _ h).app R6).keep kt
      · rintro σ H5 ⟨x3, x5, x6, ws, rfl, s5, F5, P5, W5, R5⟩
        rw [lus, List.take_length, ← er] at R5
        exact ⟨_, rfl, _, _, _, _, W, rfl, s5, nW, ws, W5, R5⟩
    · rintro σ H3 ⟨x3, x4, x5, x6, F3, rfl, s3, nF, W3⟩
      exact ⟨_, rfl, k _ _ s3 nF W3⟩
theorem ok_lmarks6 (T : Bl mg) (c_law_take : DefOk P w K mg base CX0 1 "_law_take" spTake) (D : Def0 K mg "_law_marks" s_law_marks) : DefOk P w K mg base CX0 2 "_law_marks" spMarks6 := by
  refine D.ok sc_law_marks (fun vs H Q E h => ?_) (fun _ _ _ _ _ _ us hl => match us, hl with | [_, _], _ => rfl) (fun f cdv A outer s' H vs Q E hr h => ?_)
  · obtain ⟨x, m, rfl, _⟩ := h
    rfl
  · obtain ⟨x, m, rfl, hx, hm, k⟩ := h
    refine ⟨_, (pss_cons (ps_set (i := 2) sc_law_marks.nd rfl (Or.inl rfl) (pe_d c_law_take (hr.mono (by decide)) pass0 (pa_cons (pv 0) (pa_cons pe_int pa_nil))))
      (pss_cons (ps_set (i := 3) sc_law_marks.nd rfl (Or.inl rfl) (pe_lst pa_nil))
      (pss_cons (ps_for PassesOwn.never rfl (pi_range1 (by rfl) T.b_range (pa_cons (pv 1) pa_nil)) (pg_name (i := 4) sc_law_marks.nd rfl (Or.inl rfl))
        (pss_cons (ps_set (i := 5) sc_law_marks.nd rfl (Or.inl rfl) (pe_d c_law_take (hr.mono (by decide)) pass0 (pa_cons (pv 0) (pa_cons pe_int pa_nil))))
        (pss_one (ps_if (PW.pt (pw_or (pt_cmpR op_eq (pv 2) pe_int (nomark _)) (pw_or1 (PW.pt (pw_and (pt_cmpR op_gt (pv 2) pe_int (nomark _)) (pw_and1 (pt_cmpR op_gt (pv 5) pe_int (nomark _))))))))
          (pss_one (ps_expr (pe_bm PySem.F.plainAttrs_list PySem.F.slot_list_append PySem.F.type_list_append mt_append (pv 3) (pa_cons (pv 4) pa_nil))))
          pss_nil))))
      (pss_one (ps_ret (pe_callTy call_tuple_of (by rfl) T.b_tuple (by decide +kernel) (pa_cons (pv 3) pa_nil))))))), ?_⟩
    refine ⟨_, rfl, x, 8, rfl, hx, by decide, by decide, fun H1 c k1 b1 c8 => ?_⟩
    refine ⟨le_line (show 0 ≤ 10000000 by decide), fun S hS0 => ?_⟩
    have hS := k1.freeT b1 hS0
    have nS := b1.ne hS0
    have k02 := k1.upd_new (o := .lst []) hS0
    have b2 := b1.new (o := .lst []) hS0
    have e2 : (upd H1 S (.lst [])) S = some (.lst (nI [])) := upd_same
    generalize upd H1 S (.lst []) = H2 at k02 b2 e2
    refine ⟨_, rfl, _, rfl, by omega, by omega, ?_⟩
    rw [Int.toNat_natCast]
    refine for_range (n := m) (fun i σ H' => ∃ (x4 x5 : Option V) (ms : List Nat), σ = [some (.ref x), some (.int (m : Nat)), some (.int (c : Nat)), some (.ref S), x4, x5] ∧ Kp x H H' ∧ BxT H' x ∧ H' S = some (.lst (nI ms)) ∧ ms.Pairwise (· < ·) ∧ (∀ s ∈ ms, s < i) ∧ ms.length ≤ i)
      ⟨none, none, [], rfl, k02, b2, e2, List.Pairwise.nil, (fun s h => nomatch h), Nat.le_refl _⟩ ?_ ?_
    · rintro i σ H3 hi ⟨x4, x5, ms, rfl, k3, b3, e3, pw, lt, ll⟩
      refine ⟨_, rfl, x, 3, rfl, b3, by decide, by decide, fun H4 d k4 b4 d3 => ?_⟩
      have k04 := k3.trans k4
      have e4 := k4 _ _ e3 nS
      have e0 : (0 : Int) + ((i : Nat) : Int) = ((i : Nat) : Int) := by omega
      have no : ∀ x4 : Option V, ∃ (x4 x5 : Option V) (ms : List Nat), [some (V.ref x), some (.int (m : Nat)), some (.int (c : Nat)), some (.ref S), some (.int (0 + ((i : Nat) : Int))), some (.int (d : Nat))] = [some (.ref x), some (.int (m : Nat)), some (.int (c : Nat)), some (.ref S), x4, x5] ∧ Kp x H H4 ∧ BxT H4 x ∧ H4 S = some (.lst (nI ms)) ∧ ms.Pairwise (· < ·) ∧ (∀ s ∈ ms, s < i + 1) ∧ ms.length ≤ i + 1 :=
        fun _ => ⟨_, _, ms, rfl, k04, b4, e4, pw, fun s hs => Nat.lt_succ_of_lt (lt s hs), by omega⟩
      have yes : ∃ (x4 x5 : Option V) (ms1 : List Nat), [some (V.ref x), some (.int (m : Nat)), some (.int (c : Nat)), some (.ref S), some (.int (0 + ((i : Nat) : Int))), some (.int (d : Nat))] = [some (.ref x), some (.int (m : Nat)), some (.int (c : Nat)), some (.ref S), x4, x5] ∧ Kp x H (upd H4 S (.lst (nI ms ++ [.int (0 + ((i : Nat) : Int))]))) ∧ BxT (upd H4 S (.lst (nI ms ++ [.int (0 + ((i : Nat) : Int))]))) x ∧ (upd H4 S (.lst (nI ms ++ [.int (0 + ((i : Nat) : Int))]))) S = some (.lst (nI ms1)) ∧ ms1.Pairwise (· < ·) ∧ (∀ s ∈ ms1, s < i + 1) ∧ ms1.length ≤ i + 1 := by
        refine ⟨_, _, ms ++ [i], rfl, k04.upd_own hS, b4.upd_ne nS, by rw [upd_same, e0, nI_snoc], ?_, fun s hs => ?_, by rw [List.length_append]; show ms.length + 1 ≤ _; omega⟩
        · exact List.pairwise_append.mpr ⟨pw, List.pairwise_singleton _ _, fun a ha b hb => by rw [List.mem_singleton.mp hb]; exact lt a ha⟩
        · rcases List.mem_append.mp hs with h | h
          · exact Nat.lt_succ_of_lt (lt s h)
          · rw [List.mem_singleton.mp h]; exact Nat.lt_succ_self _
      refine ⟨_, rfl, rfl, _, rfl, ite2 (fun _ => ?_) (fun _ => ⟨_, rfl, _, _, rfl, rfl, _, rfl, ite2 (fun _ => ⟨_, rfl, _, _, rfl, rfl, _, rfl, ite2 (fun _ => ?_) (fun _ => no none)⟩) (fun _ => no none)⟩)⟩
      · exact ⟨_, rfl, .inl ⟨rfl, _, SqL.of e4⟩, _, rfl, S, _, _, rfl, rfl, e4, by rw [nI_len]; exact lt_line (by omega), yes⟩
      · exact ⟨_, rfl, .inl ⟨rfl, _, SqL.of e4⟩, _, rfl, S, _, _, rfl, rfl, e4, by rw [nI_len]; exact lt_line (by omega), yes⟩
    · rintro σ H3 ⟨x4, x5, ms, rfl, k3, b3, e3, pw, lt, ll⟩
      refine ⟨_, rfl, S, _, rfl, .inl ⟨SqL.of e3, fun t ht => ?_⟩⟩
      exact k _ t ms (k3.upd_new ht) (b3.new ht) upd_same pw lt
end
end Sh
end
section
set_option Elab.async false
set_option linter.all false
set_option maxRecDepth 100000
set_option maxHeartbeats 8000000
namespace L2
open PySem PySem.Spec PyProof.Rows
theorem NT.old {H : Hp} {kvs : List (NKey × V)} {xs : List (NKey × Addr × Value)} (r : NT H kvs xs) {k : NKey} {y : V} {u : Value} (ry : RelV y u) : NT H (kvs.map fun kv => if kv.1 = k then (kv.1, y) else kv) (xs.map (putAt k u)) := by
  induction r with
  | nil => exact .nil
  | @cons p q ps qs h t ih =>
    obtain ⟨h1, h2, h3⟩ := h
    rw [List.map_cons, List.map_cons]
    refine .cons ?_ ih
    unfold putAt
    by_cases e : p.1 = k
    · rw [if_pos e, if_pos (h1.symm.trans e)]
      exact ⟨h1, h2, ry⟩
    · rw [if_neg e, if_neg (fun z => e (h1.trans z))]
      exact ⟨h1, h2, h3⟩
theorem NT.put {H : Hp} {kvs : List (NKey × V)} {xs : List (NKey × Addr × Value)} (r : NT H kvs xs) {k : NKey} {b : Addr} {y : V} {u : Value} (hb : NKAt H k b) (ry : RelV y u) : NT H (putK kvs k y) (storedH xs k b u) := by
  cases hk : valV kvs k with
  | none =>
    rw [putK_new _ hk]
    exact r.new hk hb ry
  | some z =>
    have e := (r.val k).isSome_eq
    rw [hk, Option.isSome_map] at e
    cases h : atKey xs k with
    | none => rw [h] at e; cases e
    | some p =>
      rw [storedH_old h]
      unfold putK
      rw [valV_any, hk]
      show NT H (if true = true then _ else _) _
      rw [if_pos rfl]
      exact r.old ry
section
variable {X : Cx} {pins : List (Addr × Obj)} {σ : St} {H : Hp} {s : Shared} {A : Around} {E : Value → Shared → Prop} {a b : Addr} {kvs : List (NKey × V)} {k : NKey} {v : V} {r : Value}
theorem nd_setAny {Q : Unit → Shared → Prop} (hu : A.units + 2 < cLine) (I : Inv X pins σ H s) (e : NdAt X.prog X.w H a kvs) (eb : NKAt H k b) (hl : kvs.length < sizeLine) (rv : RelV v r)
    (h : ∀ H' s', (∀ c, c ≠ a → H' c = H c) → NdAt X.prog X.w H' a (putK kvs k v) → Inv X pins σ H' s' → Q () s') : wpAny (model X.prog X.w) A (setItem (.ref a) (.ref b) r) Q E s := by
  obtain ⟨z, hd, xs, rel, ha, dd⟩ := nd_rd I.hok e
  have hz : xs.length ≤ sizeLine := by rw [← Paired.length rel]; exact z
  refine wpAny_setItem_heap (hsz := hz) (nest_room hu) (nkey_of I.hok eb) dd fun h' dd' hs => ?_
  obtain ⟨q, hq⟩ : ∃ q, h'.get? a = some q := let ⟨q, _, _, hq, _⟩ := dd'; ⟨q, hq⟩
  have ot : ∀ c, c ≠ a → upd H a (NdO X.prog X.w a (storedH xs k b r)) c = H c := fun c hc => upd_ne hc
  refine h (upd H a (NdO X.prog X.w a (storedH xs k b r))) _ ot ⟨Nat.le_trans (length_putK _ _ _) hl, hd, _, (rel.put eb rv).keeps fun c ys ec => ?_, upd_same⟩ (d_write I (by rw [ha]; exact True.intro) hs ⟨q, hq⟩ (ndO_ok dd'))
  rw [upd_ne (fun e => by rw [e, ha] at ec; cases ec)]
  exact ec
end
/-- d[k] = v, k new or old -/
def sNPutA (P : Program) (w : World) (td ty tv : TE) : TS := fun D σ H => tv σ H fun v H1 => td σ H1 fun x H2 => ty σ H2 fun y H3 => ∃ a b kvs k, x = .ref a ∧ y = .ref b ∧ NdAt P w H3 a kvs ∧ NKAt H3 k b ∧ kvs.length < sizeLine ∧
  ∀ H', (∀ c, c ≠ a → H' c = H3 c) → NdAt P w H' a (putK kvs k v) → D.nx σ H'
section
variable {X : Cx} {o i e value : Expr} {pos pos' tpos : Pos} {td ty tv : TE}
theorem ps_nputA (hu : X.A.units + 2 < cLine) (ho : PE X o td) (hi : PE X i ty) (hv : PE X value tv) (hs : swapsWith value (some (.Subscript o i pos')) pos.line X.env = pure false) :
    PS X (.Assign [.Subscript o i pos'] value pos) (sNPutA X.prog X.w td ty tv) := by
  refine ⟨fun pins s σ H D I h => ?_⟩
  refine wpAny_Assign_Subscript (thn (hv.run pins s σ H _ I h) fun r s1 ⟨v, H1, I1, rv, q1⟩ => thn (ho.run pins s1 σ H1 _ I1 q1) fun u s2 ⟨x, H2, I2, rx, q2⟩ => thn (hi.run pins s2 σ H2 _ I2 q2) fun iv s3 ⟨y, H3, I3, ry, a, b, kvs, k, ex, ey, g, gk, hl, q3⟩ => ?_) hs
  subst ex ey
  obtain rfl : u = Value.ref a := rx
  obtain rfl : iv = Value.ref b := ry
  exact nd_setAny hu I3 g gk hl rv fun H' s4 ot g' I4 => ⟨σ, H', I4, q3 H' ot g'⟩
end
end L2
namespace Sh
open PySem PySem.Spec PyProof.Rows L2
open C8 (pss_cut tCut)
open Evl (ixN_nat)
theorem vne (a b : Nat) : (!decide (V.int ((a : Nat) : Int) = V.int ((b : Nat) : Int))) = decide (a ≠ b) := by
  by_cases h : a = b
  · subst h
    simp
  · have : ¬ V.int ((a : Nat) : Int) = V.int ((b : Nat) : Int) := fun e => by
      injection e with e
      omega
    simp [h, this]
theorem veq (a b : Int) : decide (V.int a = V.int b) = decide (a = b) := by
  by_cases h : a = b
  · subst h
    simp
  · have : ¬ V.int a = V.int b := fun e => by
      injection e with e
      exact h e
    simp [h, this]
theorem BxT.tk {H H' : Hp} {x : Addr} (b : BxT H x) (k : Kp x H H') : TK H H' := fun t ys h => k _ _ h fun e => by
  obtain ⟨y, z, c, hb⟩ := b
  rw [e, hb] at h
  cases h
theorem BxT.ne_tup {H : Hp} {x t : Addr} {ys : List V} (b : BxT H x) (h : H t = some (.tup ys)) : t ≠ x := fun e => by
  obtain ⟨y, z, c, hb⟩ := b
  rw [e, hb] at h
  cases h
theorem _root_.L2.NdAt.ne_lst {P : Program} {w : World} {H : Hp} {a b : Addr} {kvs : List (NKey × V)} {ys : List V} (x : NdAt P w H a kvs) (h : H b = some (.lst ys)) : a ≠ b := fun e => by
  obtain ⟨_, _, xs, _, hx⟩ := x
  rw [e, h] at hx
  cases hx
theorem _root_.L2.NdAt.ne_tup {P : Program} {w : World} {H : Hp} {a b : Addr} {kvs : List (NKey × V)} {ys : List V} (x : NdAt P w H a kvs) (h : H b = some (.tup ys)) : b ≠ a := fun e => by
  obtain ⟨_, _, xs, _, hx⟩ := x
  rw [← e, h] at hx
  cases hx
theorem _root_.L2.NdAt.kx {P : Program} {w : World} {H H' : Hp} {a x : Addr} {kvs : List (NKey × V)} (h : NdAt P w H a kvs) (b : BxT H x) (k : Kp x H H') : NdAt P w H' a kvs := by
  obtain ⟨_, _, _, hb⟩ := id b
  have ne := h.ne_lst hb
  refine h.keeps (b.tk k) ?_
  obtain ⟨_, _, zs, _, hz⟩ := h
  rw [hz, k _ _ hz ne]
theorem _root_.L2.NdAt.upd_l {P : Program} {w : World} {H : Hp} {a l : Addr} {kvs : List (NKey × V)} {ys : List V} {o : HO} (h : NdAt P w H a kvs) (hl : H l = some (.lst ys)) : NdAt P w (upd H l o) a kvs :=
  h.keeps (fun t zs q => by rw [L2.upd_ne (ne_of q hl (fun e => nomatch e))]; exact q) (L2.upd_ne (h.ne_lst hl))
theorem _root_.L2.NdAt.sm {P : Program} {w : World} {H H' : Hp} {a : Addr} {kvs : List (NKey × V)} (h : NdAt P w H a kvs) (s : Same H H') : NdAt P w H' a kvs := by
  refine h.keeps (fun t zs q => s _ _ q) ?_
  obtain ⟨_, _, zs, _, hz⟩ := h
  rw [hz, s _ _ hz]
theorem Kp.but {x T : Addr} {H H1 H2 : Hp} (k : Kp x H H1) (hT : H T = none) (h : ∀ c, c ≠ T → H2 c = H1 c) : Kp x H H2 := fun b o hb hn => by
  rw [h b (fun e => by rw [e, hT] at hb; cases hb)]
  exact k b o hb hn
theorem wq_pow (m : Nat) (q : Row) : (wq m q).length = m ^ q.2.toNat := ways_pow m _
theorem ks_lenM {rows : List Row} {many : Nat} (h : many ≤ 40) (R : ROk 4 rows) : (ksOf rows many).length ≤ 256000 := by
  have hw := R.wd
  have : ∀ l : List Row, (∀ q ∈ l, 0 ≤ q.2 ∧ q.2 ≤ 3) → (ksOf l many).length ≤ 64000 * l.length := fun l => by
    induction l with
    | nil => intro _; exact Nat.le_refl _
    | cons q l ih =>
      intro hl
      unfold ksOf at ih ⊢
      rw [List.flatMap_cons, List.length_append, List.length_map, List.length_cons, wq_pow]
      have h1 := ih fun q hq => hl q (List.mem_cons_of_mem _ hq)
      have h2 := hl q List.mem_cons_self
      have h3 : many ^ q.2.toNat ≤ 40 ^ 3 := Nat.le_trans (Nat.pow_le_pow_left h _) (Nat.pow_le_pow_right (by decide) (by omega))
      have h4 : 40 ^ 3 = 64000 := by decide
      omega
  have h1 := this rows hw
  have h2 := R.len
  omega
theorem ks_take {rows : List Row} {many i : Nat} {q : Row} (hq : rows[i]? = some q) : ksOf (rows.take (i + 1)) many = ksOf (rows.take i) many ++ (wq many q).map (fun s => (q.1, s)) := by
  unfold ksOf
  rw [List.take_add_one, hq, List.flatMap_append]
  show _ ++ (_ ++ []) = _
  rw [List.append_nil]
theorem RwAt.app {H : Hp} {us vs : List Addr} {rs ts : List REnt} (a : RwAt H us rs) (b : RwAt H vs ts) : RwAt H (us ++ vs) (rs ++ ts) := by
  refine ⟨by rw [List.length_append, List.length_append, a.1, b.1], fun i u e h1 h2 => ?_⟩
  by_cases c : i < us.length
  · rw [List.getElem?_append_left c] at h1
    rw [List.getElem?_append_left (by rw [← a.1]; exact c)] at h2
    exact a.2 i u e h1 h2
  · rw [List.getElem?_append_right (by omega)] at h1
    rw [List.getElem?_append_right (by have := a.1; omega), ← a.1] at h2
    exact b.2 _ u e h1 h2
theorem RwAt.take {H : Hp} {us : List Addr} {rs : List REnt} (a : RwAt H us rs) (n : Nat) : RwAt H (us.take n) (rs.take n) := by
  refine ⟨by rw [List.length_take, List.length_take, a.1], fun i u e h1 h2 => ?_⟩
  rw [List.getElem?_take] at h1 h2
  split at h1
  · rename_i c
    rw [if_pos c] at h2
    exact a.2 i u e h1 h2
  · cases h1
theorem RwAt.drop {H : Hp} {us : List Addr} {rs : List REnt} (a : RwAt H us rs) (n : Nat) : RwAt H (us.drop n) (rs.drop n) := by
  refine ⟨by rw [List.length_drop, List.length_drop, a.1], fun i u e h1 h2 => ?_⟩
  rw [List.getElem?_drop] at h1 h2
  exact a.2 _ u e h1 h2
/-- what the making of rows and steps keeps -/
structure RI (P : Program) (w : World) (x T R many rest : Nat) (keys : List (Str × List Nat)) (es rs : List REnt) (us : List Addr) (H H' : Hp) : Prop where
  k : Kp x H H'
  b : BxT H' x
  t : NdAt P w H' T (es.map rkv)
  ks : es.map ek = keys
  lt : ∀ e ∈ es, e.2.2 < many
  r : H' R = some (.lst (us.map V.ref))
  rw : RwAt H' us rs
  sb : rs.Sublist es
  al : ∀ e ∈ es, e ∈ rs ∨ e.2.2 = rest
theorem RI.draw {P : Program} {w : World} {x T R many rest : Nat} {keys : List (Str × List Nat)} {es rs : List REnt} {us : List Addr} {H H1 H2 : Hp} (h : RI P w x T R many rest keys es rs us H H1) (k : Kp x H1 H2) (b : BxT H2 x) (hR : R ≠ x) : RI P w x T R many rest keys es rs us H H2 :=
  ⟨h.k.trans k, b, h.t.kx h.b k, h.ks, h.lt, k _ _ h.r hR, h.rw.keep (h.b.tk k), h.sb, h.al⟩
theorem RI.sm {P : Program} {w : World} {x T R many rest : Nat} {keys : List (Str × List Nat)} {es rs : List REnt} {us : List Addr} {H H1 H2 : Hp} (h : RI P w x T R many rest keys es rs us H H1) (s : Same H1 H2) : RI P w x T R many rest keys es rs us H H2 :=
  ⟨h.k.trans (Kp.same s), h.b.same s, h.t.sm s, h.ks, h.lt, s _ _ h.r, h.rw.keep fun _ _ q => s _ _ q, h.sb, h.al⟩
/-- in the midst of a turn: the row may have been put down already -/
structure RM (P : Program) (w : World) (x T R many rest : Nat) (keys : List (Str × List Nat)) (es rs rs1 : List REnt) (us : List Addr) (e : REnt) (H H' : Hp) : Prop where
  k : Kp x H H'
  b : BxT H' x
  t : NdAt P w H' T (es.map rkv)
  ks : es.map ek = keys
  lt : ∀ e ∈ es, e.2.2 < many
  r : H' R = some (.lst (us.map V.ref))
  rw : RwAt H' us rs1
  sb : rs.Sublist es
  al : ∀ e ∈ es, e ∈ rs ∨ e.2.2 = rest
  w : (rs1 = rs ++ [e]) ∨ (rs1 = rs ∧ e.2.2 = rest)
theorem RI.skip {P : Program} {w : World} {x T R many rest : Nat} {keys : List (Str × List Nat)} {es rs : List REnt} {us : List Addr} {H H1 : Hp} (h : RI P w x T R many rest keys es rs us H H1) {e : REnt} (he : e.2.2 = rest) : RM P w x T R many rest keys es rs rs us e H H1 := ⟨h.k, h.b, h.t, h.ks, h.lt, h.r, h.rw, h.sb, h.al, .inr ⟨rfl, he⟩⟩
theorem RI.app {P : Program} {w : World} {x T R many rest : Nat} {keys : List (Str × List Nat)} {es rs : List REnt} {us : List Addr} {H H1 : Hp} (h : RI P w x T R many rest keys es rs us H H1) (hR0 : H R = none) (hRx : R ≠ x) {e : REnt} {v b : Addr} (hv : H1 v = none) (hb : H1 b = some (.tup (nI e.2.1))) :
    RM P w x T R many rest keys es rs (rs ++ [e]) (us ++ [v]) e H (upd (upd H1 v (.tup [.str e.1, .ref b, .int ((e.2.2 : Nat) : Int)])) R (.lst (us.map V.ref ++ [V.ref v]))) := by
  have s13 := (Same.refl H1).upd_new (o := .tup [.str e.1, .ref b, .int ((e.2.2 : Nat) : Int)]) hv
  have v13 : (upd H1 v (.tup [.str e.1, .ref b, .int ((e.2.2 : Nat) : Int)])) v = some (.tup [.str e.1, .ref b, .int ((e.2.2 : Nat) : Int)]) := upd_same
  generalize upd H1 v (.tup [.str e.1, .ref b, .int ((e.2.2 : Nat) : Int)]) = H13 at s13 v13
  have R13 := s13 _ _ h.r
  have kt : ∀ t ys, H13 t = some (.tup ys) → (upd H13 R (.lst (us.map V.ref ++ [V.ref v]))) t = some (.tup ys) := fun t ys h => by rw [upd_ne (ne_of h R13 (fun e => nomatch e))]; exact h
  exact ⟨(h.k.trans (Kp.same s13)).upd_own hR0, (h.b.same s13).upd_ne hRx, (h.t.sm s13).upd_l R13, h.ks, h.lt, by rw [upd_same, List.map_append]; rfl, ((h.rw.keep fun t ys h => s13 _ _ h).keep kt).snoc (kt _ _ v13) (kt _ _ (s13 _ _ hb)), h.sb, h.al, .inl rfl⟩
/-- steps[name, below] = state, the key new -/
theorem RM.put {P : Program} {w : World} {x T R many rest : Nat} {keys : List (Str × List Nat)} {es rs rs1 : List REnt} {us : List Addr} {e : REnt} {H H1 : Hp} (h : RM P w x T R many rest keys es rs rs1 us e H H1) (hT0 : H T = none) {b : Addr} (hb : H1 b = some (.tup (nI e.2.1))) (hlt : e.2.2 < many) (fresh : ek e ∉ keys) (hl : es.length ≤ 1000000) {Nx : Hp → Prop}
    (key : ∀ H2, RI P w x T R many rest (keys ++ [ek e]) (es ++ [e]) rs1 us H H2 → (∀ (l : Addr) (ys : List V), H1 l = some (.lst ys) → H2 l = some (.lst ys)) → (∀ (t : Addr) (ys : List V), H1 t = some (.tup ys) → H2 t = some (.tup ys)) → Nx H2) :
    2 ≤ sizeLine ∧ ∀ p, H1 p = none → ∃ a b' kvs k, V.ref T = V.ref a ∧ V.ref p = V.ref b' ∧ NdAt P w (upd H1 p (.tup [.str e.1, .ref b])) a kvs ∧ NKAt (upd H1 p (.tup [.str e.1, .ref b])) k b' ∧ valV kvs k = none ∧ kvs.length < sizeLine ∧ ∀ H', (∀ c, c ≠ a → H' c = (upd H1 p (.tup [.str e.1, .ref b])) c) → NdAt P w H' a (kvs ++ [(k, .int ((e.2.2 : Nat) : Int))]) → Nx H' := by
  refine ⟨le_line (show 2 ≤ 10000000 by decide), fun p hp => ?_⟩
  have s11 := (Same.refl H1).upd_new (o := .tup [.str e.1, .ref b]) hp
  have p11 : (upd H1 p (.tup [.str e.1, .ref b])) p = some (.tup [.str e.1, .ref b]) := upd_same
  generalize upd H1 p (.tup [.str e.1, .ref b]) = H11 at s11 p11
  have nd11 := h.t.sm s11
  have fr : ek e ∉ es.map ek := by rw [h.ks]; exact fresh
  refine ⟨T, p, es.map rkv, nkR (ek e), rfl, rfl, nd11, ⟨b, p11, by rw [s11 _ _ hb, nI_key]; rfl⟩, rkv_none fr, by rw [List.length_map]; exact lt_line (by omega), fun H12 oth nd12 => ?_⟩
  have t12 : ∀ (t : Addr) (ys : List V), H1 t = some (.tup ys) → H12 t = some (.tup ys) := fun t ys q => by rw [oth t (nd11.ne_tup (s11 _ _ q))]; exact s11 _ _ q
  have l12 : ∀ (l : Addr) (ys : List V), H1 l = some (.lst ys) → H12 l = some (.lst ys) := fun l ys q => by rw [oth l (nd11.ne_lst (s11 _ _ q)).symm]; exact s11 _ _ q
  refine key H12 ⟨(h.k.trans (Kp.same s11)).but hT0 oth, ?_, ?_, ?_, fun y hy => ?_, l12 _ _ h.r, h.rw.keep t12, ?_, fun y hy => ?_⟩ l12 t12
  · obtain ⟨a, b, c, hh⟩ := h.b
    exact ⟨a, b, c, l12 _ _ hh⟩
  · rw [List.map_append]
    exact nd12
  · rw [List.map_append, h.ks]
    rfl
  · rcases List.mem_append.mp hy with g | g
    · exact h.lt y g
    · rw [List.mem_singleton.mp g]; exact hlt
  · rcases h.w with c | ⟨c, _⟩
    · rw [c]
      exact h.sb.append (List.Sublist.refl _)
    · rw [c]
      exact h.sb.trans (List.sublist_append_left _ _)
  · rcases List.mem_append.mp hy with g | g
    · rcases h.al y g with q | q
      · rcases h.w with c | ⟨c, _⟩
        · exact .inl (by rw [c]; exact List.mem_append_left _ q)
        · exact .inl (by rw [c]; exact q)
      · exact .inr q
    · rw [List.mem_singleton.mp g]
      rcases h.w with c | ⟨_, c⟩
      · exact .inl (by rw [c]; exact List.mem_append_right _ (List.mem_singleton.mpr rfl))
      · exact .inr c
theorem RI.ok {P : Program} {w : World} {x T R many rest : Nat} {rows : List Row} {es rs rs' : List REnt} {us : List Addr} {ms : List Nat} {H H1 : Hp} (h : RI P w x T R many rest (ksOf rows many) es rs us H H1) (Ro : ROk 4 rows) (m1 : 1 ≤ many) (m40 : many ≤ 40) (hre : rest < many) (p : rs'.Perm rs) (pw : ms.Pairwise (· < ·)) (ml : ∀ m ∈ ms, m < many) (l4 : es.length ≤ 10000) : (⟨many, rest, es, rs', ms⟩ : RdD).Ok rows := by
  refine ⟨m1, m40, hre, h.ks, h.lt, fun e he => h.sb.subset (p.subset he), fun e he => ?_, ?_, ?_, pw, ml⟩
  · rcases h.al e he with q | q
    · exact .inl (p.symm.subset q)
    · exact .inr q
  · have n1 : (es.map ek).Nodup := by rw [h.ks]; exact ks_nd Ro.nd
    exact ((p.map ek).nodup_iff).mpr (n1.sublist (h.sb.map ek))
  · show rs'.length ≤ 10000
    rw [p.length_eq]
    exact Nat.le_trans h.sb.length_le l4
/-- the list that the law keeps of a reader -/
def LrA (P : Program) (w : World) (H : Hp) (a : Addr) (D : RdD) (ex : List V) : Prop := ∃ (tR tM tS : Addr) (us : List Addr), H a = some (.lst ([.int ((D.many : Nat) : Int), .ref tR, .int ((D.rest : Nat) : Int), .ref tM, .ref tS] ++ ex)) ∧ H tR = some (.tup (us.map V.ref)) ∧ RwAt H us D.rws ∧ H tM = some (.tup (nI D.marks)) ∧ NdAt P w H tS (D.ent.map rkv)
theorem LrA.sm {P : Program} {w : World} {H H' : Hp} {a : Addr} {D : RdD} {ex : List V} (h : LrA P w H a D ex) (s : Same H H') : LrA P w H' a D ex := by
  obtain ⟨tR, tM, tS, us, h1, h2, h3, h4, h5⟩ := h
  exact ⟨tR, tM, tS, us, s _ _ h1, s _ _ h2, h3.keep (fun _ _ q => s _ _ q), s _ _ h4, h5.sm s⟩
theorem LrA.kx {P : Program} {w : World} {H H' : Hp} {a x : Addr} {D : RdD} {ex : List V} (h : LrA P w H a D ex) (b : BxT H x) (k : Kp x H H') (n : a ≠ x) : LrA P w H' a D ex := by
  obtain ⟨tR, tM, tS, us, h1, h2, h3, h4, h5⟩ := h
  exact ⟨tR, tM, tS, us, k _ _ h1 n, b.tk k _ _ h2, h3.keep (b.tk k), b.tk k _ _ h4, h5.kx b k⟩
theorem cut_from {us : List Addr} {t : Nat} (h : t ≤ us.length) : cutV (us.map V.ref) (some ((t : Nat) : Int)) none = (us.drop t).map V.ref := by
  unfold cutV
  rw [HT.sIx_nat, HT.sIx_none, List.length_map, Nat.min_eq_left h, List.take_of_length_le (by rw [List.length_drop, List.length_map]; omega), List.map_drop]
theorem cut_to {us : List Addr} {t : Nat} (h : t ≤ us.length) : cutV (us.map V.ref) none (some ((t : Nat) : Int)) = (us.take t).map V.ref := by
  unfold cutV
  rw [HT.sIx_nat, HT.sIx_none, List.length_map, Nat.min_eq_left h, List.drop_zero, Nat.sub_zero, List.map_take]
def spReader6 (P : Program) (w : World) : Sp := fun vs H Q _ => ∃ (x r : Addr) (ts : List Addr) (rows : List Row) (most : Nat), vs = [.ref x, .ref r, .int (most : Nat)] ∧ BxT H x ∧ H r = some (.tup (ts.map V.ref)) ∧ TupsAt H ts rows ∧ ROk 4 rows ∧ 1 ≤ most ∧ most ≤ 4 ∧ ∀ (H' : Hp) (a : Addr) (D : RdD), Kp x H H' → BxT H' x → D.Ok rows → D.many ≤ most → H a = none → a ≠ x → LrA P w H' a D [] → Q (.ref a) H'
abbrev N_law_reader : List Str := ["box", "kinds", "most", "states", "spare", "rows", "steps", "name", "size", "below", "state", "turn"]
theorem sc_law_reader : FnScope N_law_reader ["box", "kinds", "most"] (defScope s_law_reader) := ⟨rfl, rfl, rfl, by decide +kernel, rfl, by decide +kernel, by decide +kernel⟩
section
variable {P : Program} {w : World} {K : PySem.W.Frag} {mg : Str → Option Value} {base : Heap}
theorem ok_reader6 (T : Bl mg) (b_min : mg "min" = none) (c_law_take : DefOk P w K mg base CX0 1 "_law_take" spTake) (c_law_tuples : DefOk P w K mg base CX0 1 "_law_tuples" spTuples6) (c_law_marks : DefOk P w K mg base CX0 2 "_law_marks" spMarks6) (D : Def0 K mg "_law_reader" s_law_reader) : DefOk P w K mg base CX0 3 "_law_reader" (spReader6 P w) := by
  refine D.ok sc_law_reader (fun vs H Q E h => ?_) (fun _ _ _ _ _ _ us hl => match us, hl with | [_, _, _], _ => rfl) (fun f cdv A outer s' H vs Q E hr h => ?_)
  · obtain ⟨x, r, ts, rows, most, rfl, _⟩ := h
    rfl
  · obtain ⟨x, r, ts, rows, most, rfl, hx, hr0, hT, Ro, mo1, mo4, key⟩ := h
    have hu2 := hu2_of hr
    have hwd := Ro.wd
    have lrows := Ro.len
    have lts : (ts.map V.ref).length = rows.length := by rw [List.length_map, hT.1]
    refine ⟨_, (pss_cons (ps_set (i := 3) sc_law_reader.nd rfl (Or.inl rfl) (pe_callB (call_min2 rfl) (by rfl) b_min (by decide +kernel) (pa_cons (pv 2) (pa_cons (pe_ix ix_list (pe_lst (pa_cons pe_int (pa_cons pe_int (pa_cons pe_int (pa_cons pe_int (pa_cons pe_int (pa_cons pe_int (pa_cons pe_int (pa_cons pe_int pa_nil))))))))) (pe_d c_law_take (hr.mono (by decide)) pass0 (pa_cons (pv 0) (pa_cons pe_int pa_nil))) (fun _ _ => rfl)) pa_nil))))
      (pss_cons (ps_set (i := 4) sc_law_reader.nd rfl (Or.inl rfl) (pe_d c_law_take (hr.mono (by decide)) pass0 (pa_cons (pv 0) (pa_cons (pv 3) pa_nil))))
      (pss_cons (ps_set (i := 5) sc_law_reader.nd rfl (Or.inl rfl) (pe_lst pa_nil))
      (pss_cons (ps_set (i := 6) sc_law_reader.nd rfl (Or.inl rfl) (show PE _ _ (tNNew P w) from pe_dnewN))
      (pss_cons (ps_for PassesOwn.never rfl (pi_tup (pv 1)) (pg_tup (by rfl) (pgs_cons (pg_name (i := 7) sc_law_reader.nd rfl (Or.inl rfl)) (pgs_cons (pg_name (i := 8) sc_law_reader.nd rfl (Or.inl rfl)) pgs_nil)))
        (pss_one (ps_for PassesOwn.never rfl (pi_list (pe_d c_law_tuples (hr.mono (by decide)) pass0 (pa_cons (pv 3) (pa_cons (pv 8) pa_nil)))) (pg_name (i := 9) sc_law_reader.nd rfl (Or.inl rfl))
          (pss_cons (ps_set (i := 10) sc_law_reader.nd rfl (Or.inl rfl) (pe_d c_law_take (hr.mono (by decide)) pass0 (pa_cons (pv 0) (pa_cons (pe_op op_add (pv 3) pe_int) pa_nil))))
          (pss_cut (ps_if (pt_cmpR op_lt (pv 10) (pv 3) (nomark _))
            (pss_one (ps_expr (pe_bm PySem.F.plainAttrs_list PySem.F.slot_list_append PySem.F.type_list_append mt_append (pv 5) (pa_cons (pe_tup (pa_cons (pv 7) (pa_cons (pv 9) (pa_cons (pv 10) pa_nil)))) pa_nil))))
            (pss_one (ps_set (i := 10) sc_law_reader.nd rfl (Or.inl rfl) (pv 4))))
          (pss_one (ps_nput hu2 (pv 6) (pe_tup (pa_cons (pv 7) (pa_cons (pv 9) pa_nil))) (pv 10) rfl)))))))
      (pss_cons (ps_set (i := 11) sc_law_reader.nd rfl (Or.inl rfl) (pe_d c_law_take (hr.mono (by decide)) pass0 (pa_cons (pv 0) (pa_cons (pe_op op_add (pe_callB call_len_seq (by rfl) T.b_len boot_len (pa_cons (pv 5) pa_nil)) pe_int) pa_nil))))
      (pss_cons (ps_set (i := 5) sc_law_reader.nd rfl (Or.inl rfl) (pe_op op_cat (pe_slice sl_list (pv 5) (po_some (pv 11)) po_none) (pe_slice sl_list (pv 5) po_none (po_some (pv 11)))))
      (pss_one (ps_ret (pe_lst (pa_cons (pv 3) (pa_cons (pe_callTy call_tuple_of (by rfl) T.b_tuple (by decide +kernel) (pa_cons (pv 5) pa_nil)) (pa_cons (pv 4) (pa_cons (pe_d c_law_marks (hr.mono (by decide)) pass0 (pa_cons (pv 0) (pa_cons (pv 3) pa_nil))) (pa_cons (pv 6) pa_nil))))))))))))))), ?_⟩
    refine ⟨_, rfl, le_line (show 8 ≤ 10000000 by decide), fun l1 hl1 => ?_⟩
    have n1 := hx.ne hl1
    have s1 := (Same.refl H).upd_new (o := .lst [V.int 2, V.int 3, V.int 2, V.int 4, V.int 1, V.int 3, V.int 2, V.int 4]) hl1
    have e1 : (upd H l1 (.lst [V.int 2, V.int 3, V.int 2, V.int 4, V.int 1, V.int 3, V.int 2, V.int 4])) l1 = some (.lst (([2, 3, 2, 4, 1, 3, 2, 4] : List Int).map V.int)) := upd_same
    generalize upd H l1 (.lst [V.int 2, V.int 3, V.int 2, V.int 4, V.int 1, V.int 3, V.int 2, V.int 4]) = H1 at s1 e1
    refine ⟨_, rfl, x, 8, rfl, hx.same s1, by decide, by decide, fun H2 d k2 b2 d8 => ?_⟩
    obtain ⟨mi, hm, m1, m4⟩ := pickI (l := [2, 3, 2, 4, 1, 3, 2, 4]) (fun z => 1 ≤ z ∧ z ≤ 4) (by decide) (e := d) (by show d < 8; omega)
    refine ⟨l1, _, _, _, rfl, rfl, SqL.of (k2 _ _ e1 n1), at_ofG (j := d) rfl hm, _, _, rfl, ?_⟩
    obtain ⟨many, emn, mm1, mm4, mmo⟩ : ∃ many : Nat, (if mi < ((most : Nat) : Int) then mi else ((most : Nat) : Int)) = ((many : Nat) : Int) ∧ 1 ≤ many ∧ many ≤ 4 ∧ many ≤ most := by
      by_cases c : mi < ((most : Nat) : Int)
      · exact ⟨mi.toNat, by rw [if_pos c]; omega, by omega, by omega, by omega⟩
      · exact ⟨most, by rw [if_neg c], mo1, by omega, Nat.le_refl _⟩
    rw [emn]
    refine ⟨_, rfl, _, rfl, x, many, rfl, b2, by omega, by omega, fun H3 rest k3 b3 hre' => ?_⟩
    have hre : rest < many := by omega
    have k03 := (Kp.same s1).trans (k2.trans k3)
    refine ⟨le_line (show 0 ≤ 10000000 by decide), fun R hR => ?_⟩
    have hR0 := k03.freeT b3 hR
    have hRx := b3.ne hR
    have s34 := (Same.refl H3).upd_new (o := .lst []) hR
    have R4 : (upd H3 R (.lst [])) R = some (.lst (([] : List Addr).map V.ref)) := upd_same
    have k04 := k03.trans (Kp.same s34)
    have b4 := b3.same s34
    generalize upd H3 R (.lst []) = H4 at s34 R4 k04 b4
    intro Tb hTb nd
    have hTx := b4.ne hTb
    have hT0 := k04.freeT b4 hTb
    have s5 := (Same.refl H4).upd_new (o := NdO P w Tb []) hTb
    have k05 := k04.trans (Kp.same s5)
    have b5 := b4.same s5
    have R5 := s5 _ _ R4
    generalize upd H4 Tb (NdO P w Tb []) = H5 at s5 nd k05 b5 R5
    have nrx := hx.ne_tup hr0
    have nTs := fun {H' : Hp} (k : Kp x H H') => hT.keep (hx.tk k)
    refine ⟨_, rfl, r, rfl, ⟨_, SqT.of (k05 _ _ hr0 nrx)⟩, for_tup (xs := ts.map V.ref) (fun i σ H' => ∃ (x7 x8 x9 x10 : Option V) (es rs : List REnt) (us : List Addr), σ = [some (.ref x), some (.ref r), some (.int (most : Nat)), some (.int (many : Nat)), some (.int (rest : Nat)), some (.ref R), some (.ref Tb), x7, x8, x9, x10, none] ∧ RI P w x Tb R many rest (ksOf (rows.take i) many) es rs us H H')
      ⟨none, none, none, none, [], [], [], rfl, k05, b5, nd, rfl, fun e he => (nomatch he), R5, .nil, .slnil, fun e he => (nomatch he)⟩ (fun i σ H' _ ⟨_, _, _, _, _, _, _, _, h⟩ => SqT.of (h.k _ _ hr0 nrx)) ?_ ?_⟩
    · rintro i v σ H6 hv ⟨x7, x8, x9, x10, es, rs, us, rfl, I6⟩
      obtain ⟨t, ht, rfl⟩ := get_map_r hv
      have hil : i < rows.length := by rw [← hT.1]; exact (List.getElem?_eq_some_iff.mp ht).1
      have hq := List.getElem?_eq_getElem hil
      have hqw := hwd _ (List.getElem_mem hil)
      generalize rows[i] = q at hq hqw
      have ht6 := (nTs I6.k).2 i t q ht hq
      have eq2 : q.2 = ((q.2.toNat : Nat) : Int) := by omega
      refine ⟨t, _, rfl, SqT.of ht6, rfl, _, _, rfl, _, _, rfl, rfl, ?_⟩
      refine ⟨_, rfl, _, rfl, many, q.2.toNat, by show [V.int _, V.int q.2] = _; rw [← eq2], by omega, by omega, fun k hk => ?_, fun H7 L s7 nL WL => ?_⟩
      · exact Nat.le_trans (Nat.pow_le_pow_left (show many ≤ 4 by omega) _) (Nat.le_trans (Nat.pow_le_pow_right (by decide) (show k ≤ 3 by omega)) (by decide))
      obtain ⟨us2, hL, PL⟩ := WL
      have PL : PlAt nI H7 us2 (wq many q) := PL
      have I7 := I6.sm s7
      have lus2 : (us2.map V.ref).length = (wq many q).length := by rw [List.length_map, PL.1]
      have hLx : L ≠ x := I6.b.ne nL
      refine ⟨L, rfl, ⟨_, SqL.of hL⟩, for_list (xs := us2.map V.ref) (fun j σ H' => ∃ (x9 x10 : Option V) (es rs : List REnt) (us : List Addr), σ = [some (.ref x), some (.ref r), some (.int (most : Nat)), some (.int (many : Nat)), some (.int (rest : Nat)), some (.ref R), some (.ref Tb), some (.str q.1), some (.int q.2), x9, x10, none] ∧ RI P w x Tb R many rest (ksOf (rows.take i) many ++ ((wq many q).take j).map (fun s => (q.1, s))) es rs us H H' ∧ H' L = some (.lst (us2.map V.ref)) ∧ PlAt nI H' us2 (wq many q) ∧ R ≠ L)
        ⟨x9, x10, es, rs, us, rfl, by rw [List.take_zero, List.map_nil, List.append_nil]; exact I7, hL, PL, ne_of_none I6.r nL⟩ (fun i σ H' _ ⟨_, _, _, _, _, _, _, h, _⟩ => SqL.of h) ?_ ?_⟩
      · rintro j v σ H8 hv ⟨x9, x10, es, rs, us, rfl, I8, L8, P8, nRL⟩
        obtain ⟨u, hu, rfl⟩ := get_map_r hv
        have hjl : j < (wq many q).length := by rw [← P8.1]; exact (List.getElem?_eq_some_iff.mp hu).1
        have hs := List.getElem?_eq_getElem hjl
        generalize (wq many q)[j] = ss at hs
        refine ⟨_, rfl, _, rfl, _, _, rfl, rfl, x, ((many : Nat) : Int) + 1, rfl, I8.b, by omega, by omega, fun H9 s0 k9 b9 s10 => ?_⟩
        have I9 := I8.draw k9 b9 hRx
        have L9 := k9 _ _ L8 hLx
        have P9 := P8.keep (I8.b.tk k9)
        have hu9 := P9.2 j u ss hu hs
        obtain ⟨rst, hrst⟩ := ks_step hq hs
        have fresh : ∀ s : Nat, ek ((q.1, ss, s) : REnt) ∉ ksOf (rows.take i) many ++ ((wq many q).take j).map (fun s => (q.1, s)) := fun s => by
          have nd := ks_nd (many := many) Ro.nd
          rw [← hrst] at nd
          rw [List.nodup_append] at nd
          intro hm
          exact nd.2.2 _ hm _ List.mem_cons_self rfl
        have les : es.length ≤ 256000 := by
          have h1 := ks_lenM (show many ≤ 40 by omega) Ro
          rw [← hrst, ← I9.ks, List.length_append, List.length_map] at h1
          omega
        have lus : us.length ≤ 256000 := by
          rw [I9.rw.1]
          exact Nat.le_trans I9.sb.length_le les
        have done : ∀ (s : Nat) (rs1 : List REnt) (us1 : List Addr) (H10 : Hp), RI P w x Tb R many rest (ksOf (rows.take i) many ++ ((wq many q).take j).map (fun s => (q.1, s)) ++ [ek ((q.1, ss, s) : REnt)]) (es ++ [(q.1, ss, s)]) rs1 us1 H H10 → H10 L = some (.lst (us2.map V.ref)) → PlAt nI H10 us2 (wq many q) → ∃ (x9 x10 : Option V) (es rs : List REnt) (us : List Addr), [some (.ref x), some (.ref r), some (.int (most : Nat)), some (.int (many : Nat)), some (.int (rest : Nat)), some (.ref R), some (.ref Tb), some (.str q.1), some (.int q.2), some (.ref u), some (.int (s : Nat)), none] = [some (.ref x), some (.ref r), some (.int (most : Nat)), some (.int (many : Nat)), some (.int (rest : Nat)), some (.ref R), some (.ref Tb), some (.str q.1), some (.int q.2), x9, x10, none] ∧ RI P w x Tb R many rest (ksOf (rows.take i) many ++ ((wq many q).take (j + 1)).map (fun s => (q.1, s))) es rs us H H10 ∧ H10 L = some (.lst (us2.map V.ref)) ∧ PlAt nI H10 us2 (wq many q) ∧ R ≠ L := fun s rs1 us1 H10 h1 h2 h3 => by
          refine ⟨_, _, es ++ [(q.1, ss, s)], rs1, us1, rfl, ?_, h2, h3, nRL⟩
          rw [List.take_add_one, hs, List.map_append, ← List.append_assoc]
          exact h1
        refine ⟨fun σ H' => ∃ (s : Nat) (rs1 : List REnt) (us1 : List Addr), s < many ∧ σ = [some (.ref x), some (.ref r), some (.int (most : Nat)), some (.int (many : Nat)), some (.int (rest : Nat)), some (.ref R), some (.ref Tb), some (.str q.1), some (.int q.2), some (.ref u), some (.int (s : Nat)), none] ∧ RM P w x Tb R many rest (ksOf (rows.take i) many ++ ((wq many q).take j).map (fun s => (q.1, s))) es rs rs1 us1 (q.1, ss, s) H H' ∧ H' L = some (.lst (us2.map V.ref)) ∧ PlAt nI H' us2 (wq many q), ?_, ?_⟩
        · refine ⟨_, rfl, _, rfl, _, _, rfl, rfl, _, rfl, ite2 (fun c => ?_) (fun c => ⟨_, rfl, rest, rs, us, hre, rfl, I9.skip rfl, L9, P9⟩)⟩
          have c := of_decide_eq_true c
          refine ⟨_, rfl, .inl ⟨rfl, _, SqL.of I9.r⟩, _, rfl, _, rfl, _, rfl, le_line (show 3 ≤ 10000000 by decide), fun v hv => ?_⟩
          have nvR : R ≠ v := ne_of_none I9.r hv
          refine ⟨R, _, _, rfl, rfl, by rw [upd_ne nvR]; exact I9.r, by rw [List.length_map]; exact lt_line (by omega), ?_⟩
          exact ⟨s0, _, _, by omega, rfl, I9.app hR0 hRx (e := (q.1, ss, s0)) hv hu9, by rw [upd_ne nRL.symm, upd_ne (ne_of_none L9 hv)]; exact L9, P9.keep fun t ys h => by rw [upd_ne (ne_of h I9.r (fun e => nomatch e)), upd_ne (ne_of_none h hv)]; exact h⟩
        rintro σ H10 ⟨s, rs1, us1, hsm, rfl, M10, L10, P10⟩
        refine ⟨_, rfl, _, rfl, _, rfl, _, rfl, M10.put hT0 (e := (q.1, ss, s)) (P10.2 j u ss hu hs) hsm (fresh s) (by omega) fun H12 I12 l12 t12 => done s rs1 us1 H12 I12 (l12 _ _ L10) (P10.keep t12)⟩
      · rintro σ H8 ⟨x9, x10, es, rs, us, rfl, I8, L8, P8, _⟩
        refine ⟨_, _, _, _, es, rs, us, rfl, ?_⟩
        rw [lus2, List.take_length] at I8
        rw [ks_take hq]
        exact I8
    · rintro σ H6 ⟨x7, x8, x9, x10, es, rs, us, rfl, I6⟩
      rw [lts, List.take_length] at I6
      have les : es.length ≤ 10000 := by
        have h1 : (es.map ek).length = _ := congrArg List.length I6.ks
        rw [List.length_map] at h1
        have : ∀ l : List Row, (∀ q ∈ l, 0 ≤ q.2 ∧ q.2 ≤ 3) → (ksOf l many).length ≤ 64 * l.length := fun l => by
          induction l with
          | nil => intro _; exact Nat.le_refl _
          | cons q l ih =>
            intro hl
            unfold ksOf at ih ⊢
            rw [List.flatMap_cons, List.length_append, List.length_map, List.length_cons, wq_pow]
            have h1 := ih fun q hq => hl q (List.mem_cons_of_mem _ hq)
            have h2 := hl q List.mem_cons_self
            have h3 : many ^ q.2.toNat ≤ 4 ^ 3 := Nat.le_trans (Nat.pow_le_pow_left mm4 _) (Nat.pow_le_pow_right (by decide) (by omega))
            have h4 : 4 ^ 3 = 64 := by decide
            omega
        have := this rows hwd
        omega
      have lus : us.length ≤ 10000 := by
        rw [I6.rw.1]
        exact Nat.le_trans I6.sb.length_le les
      refine ⟨_, rfl, _, rfl, R, _, rfl, .inl (SqL.of I6.r), _, _, rfl, rfl, x, _, rfl, I6.b, by rw [List.length_map]; omega, by rw [List.length_map]; omega, fun H7 tn k7 b7 htn => ?_⟩
      have I7 := I6.draw k7 b7 hRx
      rw [List.length_map] at htn
      have R7 := I7.r
      refine ⟨_, rfl, _, rfl, _, rfl, ?_⟩
      unfold tNoPart
      have ltn : tn ≤ us.length := by omega
      refine ⟨R, _, rfl, SqL.of R7, fun A1 hA1 => ?_⟩
      rw [cut_from ltn]
      have s8 := (Same.refl H7).upd_new (o := .lst ((us.drop tn).map V.ref)) hA1
      have A8 : (upd H7 A1 (.lst ((us.drop tn).map V.ref))) A1 = some (.lst ((us.drop tn).map V.ref)) := upd_same
      generalize upd H7 A1 (.lst ((us.drop tn).map V.ref)) = H8 at s8 A8
      refine ⟨_, rfl, _, rfl, _, rfl, R, _, rfl, SqL.of (s8 _ _ R7), fun B1 hB1 => ?_⟩
      rw [cut_to ltn]
      have s9 := s8.trans ((Same.refl H8).upd_new (o := .lst ((us.take tn).map V.ref)) hB1)
      have A9 : (upd H8 B1 (.lst ((us.take tn).map V.ref))) A1 = some (.lst ((us.drop tn).map V.ref)) := by rw [upd_ne (ne_of_none A8 hB1)]; exact A8
      have B9 : (upd H8 B1 (.lst ((us.take tn).map V.ref))) B1 = some (.lst ((us.take tn).map V.ref)) := upd_same
      generalize upd H8 B1 (.lst ((us.take tn).map V.ref)) = H9 at s9 A9 B9
      refine ⟨A1, B1, _, _, rfl, rfl, A9, B9, by rw [List.length_map, List.length_map, List.length_drop, List.length_take]; exact le_line (by omega), fun C1 hC1 => ?_⟩
      rw [← List.map_append]
      have s10 := s9.trans ((Same.refl H9).upd_new (o := .lst ((us.drop tn ++ us.take tn).map V.ref)) hC1)
      have C10 : (upd H9 C1 (.lst ((us.drop tn ++ us.take tn).map V.ref))) C1 = some (.lst ((us.drop tn ++ us.take tn).map V.ref)) := upd_same
      generalize upd H9 C1 (.lst ((us.drop tn ++ us.take tn).map V.ref)) = H10 at s10 C10
      have rw7 : RwAt H7 (us.drop tn ++ us.take tn) (rs.drop tn ++ rs.take tn) := (I7.rw.drop tn).app (I7.rw.take tn)
      have pm : (rs.drop tn ++ rs.take tn).Perm rs := by
        have := List.perm_append_comm (l₁ := rs.drop tn) (l₂ := rs.take tn)
        rwa [List.take_append_drop] at this
      generalize us.drop tn ++ us.take tn = us' at C10 rw7
      generalize rs.drop tn ++ rs.take tn = rs' at rw7 pm
      refine ⟨_, rfl, _, rfl, C1, _, rfl, .inl ⟨SqL.of C10, fun tR htR => ?_⟩⟩
      have I10 := I7.sm s10
      have s11 := s10.trans ((Same.refl H10).upd_new (o := .tup (us'.map V.ref)) htR)
      have t11 : (upd H10 tR (.tup (us'.map V.ref))) tR = some (.tup (us'.map V.ref)) := upd_same
      generalize upd H10 tR (.tup (us'.map V.ref)) = H11 at s11 t11
      have I11 := I7.sm s11
      refine ⟨_, rfl, _, rfl, _, rfl, x, many, rfl, I11.b, by omega, fun H12 tM ms k12 b12 hM pw ml => ?_⟩
      have I12 := I11.draw k12 b12 hRx
      refine ⟨_, rfl, le_line (show 5 ≤ 10000000 by decide), fun a ha => ?_⟩
      have t12 := b12
      have htR12 := I11.b.tk k12 _ _ t11
      have rw12 := (rw7.keep fun _ _ q => s11 _ _ q).keep (I11.b.tk k12)
      have sl := (Same.refl H12).upd_new (o := .lst [.int ((many : Nat) : Int), .ref tR, .int ((rest : Nat) : Int), .ref tM, .ref Tb]) ha
      refine key _ a ⟨many, rest, es, rs', ms⟩ (I12.k.trans (Kp.same sl)) (b12.same sl) (I12.ok Ro mm1 (by omega) hre pm pw ml les) mmo (I12.k.freeT b12 ha) (b12.ne ha) ⟨tR, tM, Tb, us', upd_same, sl _ _ htR12, rw12.keep (fun _ _ q => sl _ _ q), sl _ _ hM, I12.t.sm sl⟩
end
end Sh
end
section
set_option Elab.async false
set_option linter.all false
set_option maxRecDepth 100000
set_option maxHeartbeats 8000000
namespace Sh
open PySem PySem.Spec PyProof.Rows L2
open C8 (pss_cut tCut)
open Evl (ixN_nat)
theorem RwAt.rev {H : Hp} {us : List Addr} {rs : List REnt} (a : RwAt H us rs) : RwAt H us.reverse rs.reverse := by
  refine ⟨by rw [List.length_reverse, List.length_reverse, a.1], fun i u e h1 h2 => ?_⟩
  have l1 := (List.getElem?_eq_some_iff.mp h1).1
  have l2 := (List.getElem?_eq_some_iff.mp h2).1
  rw [List.length_reverse] at l1 l2
  rw [List.getElem?_reverse l1] at h1
  rw [List.getElem?_reverse l2, ← a.1] at h2
  exact a.2 _ u e h1 h2
def spLong6 (P : Program) (w : World) : Sp := fun vs H Q _ => ∃ (x r : Addr) (ts : List Addr) (rows : List Row) (many : Nat), vs = [.ref x, .ref r, .int (many : Nat)] ∧ BxT H x ∧ H r = some (.tup (ts.map V.ref)) ∧ TupsAt H ts rows ∧ ROk 4 rows ∧ (∀ q ∈ rows, q.2 ≤ 1) ∧ 2 ≤ many ∧ many ≤ 40 ∧ ∀ (H' : Hp) (a : Addr) (D : RdD), Kp x H H' → BxT H' x → D.Ok rows → D.many = many → H a = none → a ≠ x → LrA P w H' a D [] → Q (.ref a) H'
abbrev N_law_long : List Str := ["box", "kinds", "states", "spare", "rows", "steps", "name", "size", "slope", "shift", "odd", "goal", "below", "state", "period", "rest", "marks"]
theorem sc_law_long : FnScope N_law_long ["box", "kinds", "states"] (defScope s_law_long) := ⟨rfl, rfl, rfl, by decide +kernel, rfl, by decide +kernel, by decide +kernel⟩
section
variable {P : Program} {w : World} {K : PySem.W.Frag} {mg : Str → Option Value} {base : Heap}
theorem ok_long6 (T : Bl mg) (c_law_take : DefOk P w K mg base CX0 1 "_law_take" spTake) (c_law_tuples : DefOk P w K mg base CX0 1 "_law_tuples" spTuples6) (D : Def0 K mg "_law_long" s_law_long) : DefOk P w K mg base CX0 3 "_law_long" (spLong6 P w) := by
  refine D.ok sc_law_long (fun vs H Q E h => ?_) (fun _ _ _ _ _ _ us hl => match us, hl with | [_, _, _], _ => rfl) (fun f cdv A outer s' H vs Q E hr h => ?_)
  · obtain ⟨x, r, ts, rows, many, rfl, _⟩ := h
    rfl
  · obtain ⟨x, r, ts, rows, many, rfl, hx, hr0, hT, Ro, w1, mm2, mm40, key⟩ := h
    have hu2 := hu2_of hr
    have hwd := Ro.wd
    have lrows := Ro.len
    have lts : (ts.map V.ref).length = rows.length := by rw [List.length_map, hT.1]
    refine ⟨_, (pss_cons (ps_set (i := 3) sc_law_long.nd rfl (Or.inl rfl) (pe_d c_law_take (hr.mono (by decide)) pass0 (pa_cons (pv 0) (pa_cons (pv 2) pa_nil))))
      (pss_cons (ps_set (i := 4) sc_law_long.nd rfl (Or.inl rfl) (pe_lst pa_nil))
      (pss_cons (ps_set (i := 5) sc_law_long.nd rfl (Or.inl rfl) (show PE _ _ (tNNew P w) from pe_dnewN))
      (pss_cons (ps_for PassesOwn.never rfl (pi_tup (pv 1)) (pg_tup (by rfl) (pgs_cons (pg_name (i := 6) sc_law_long.nd rfl (Or.inl rfl)) (pgs_cons (pg_name (i := 7) sc_law_long.nd rfl (Or.inl rfl)) pgs_nil)))
        (pss_cons (ps_set (i := 8) sc_law_long.nd rfl (Or.inl rfl) (pe_ix ix_list (pe_lst (pa_cons pe_int (pa_cons pe_int (pa_cons (pe_op op_sub (pv 2) pe_int) (pa_cons pe_int pa_nil))))) (pe_d c_law_take (hr.mono (by decide)) pass0 (pa_cons (pv 0) (pa_cons pe_int pa_nil))) (fun _ _ => rfl)))
        (pss_cons (ps_set (i := 9) sc_law_long.nd rfl (Or.inl rfl) (pe_d c_law_take (hr.mono (by decide)) pass0 (pa_cons (pv 0) (pa_cons (pv 2) pa_nil))))
        (pss_cons (ps_set (i := 10) sc_law_long.nd rfl (Or.inl rfl) (pe_d c_law_take (hr.mono (by decide)) pass0 (pa_cons (pv 0) (pa_cons (pv 2) pa_nil))))
        (pss_cons (ps_set (i := 11) sc_law_long.nd rfl (Or.inl rfl) (pe_d c_law_take (hr.mono (by decide)) pass0 (pa_cons (pv 0) (pa_cons (pv 2) pa_nil))))
        (pss_one (ps_for PassesOwn.never rfl (pi_list (pe_d c_law_tuples (hr.mono (by decide)) pass0 (pa_cons (pv 2) (pa_cons (pv 7) pa_nil)))) (pg_name (i := 12) sc_law_long.nd rfl (Or.inl rfl))
          (pss_cons (ps_set (i := 13) sc_law_long.nd rfl (Or.inl rfl) (pv 11))
          (pss_cut (ps_if (PW.pt (pw_and (pt_cmpR op_eq (pv 7) pe_int (nomark _)) (pw_and1 (pt_cmpR op_ne (pe_ix ix_tup (pv 12) pe_int (fun _ _ => rfl)) (pv 10) (nomark _)))))
            (pss_one (ps_set (i := 13) sc_law_long.nd rfl (Or.inl rfl) (pe_op op_mod (pe_callTy call_int1 (by rfl) T.b_int (by decide +kernel) (pa_cons (pe_op op_add (pe_op op_mul (pe_ix ix_tup (pv 12) pe_int (fun _ _ => rfl)) (pv 8)) (pv 9)) pa_nil)) (pv 2))))
            pss_nil)
          (pss_cut (ps_if (pt_cmpR op_ne (pv 13) (pv 3) (nomark _))
            (pss_one (ps_expr (pe_bm PySem.F.plainAttrs_list PySem.F.slot_list_append PySem.F.type_list_append mt_append (pv 4) (pa_cons (pe_tup (pa_cons (pv 6) (pa_cons (pv 12) (pa_cons (pv 13) pa_nil)))) pa_nil))))
            pss_nil)
          (pss_one (ps_nput hu2 (pv 5) (pe_tup (pa_cons (pv 6) (pa_cons (pv 12) pa_nil))) (pv 13) rfl))))))))))))
      (pss_cut (ps_if (pt_cmpR op_eq (pe_d c_law_take (hr.mono (by decide)) pass0 (pa_cons (pv 0) (pa_cons pe_int pa_nil))) pe_int (nomark _))
        (pss_one (ps_set (i := 4) sc_law_long.nd rfl (Or.inl rfl) (pe_revL (pv 4))))
        pss_nil)
      (pss_cons (ps_set (i := 14) sc_law_long.nd rfl (Or.inr rfl) (pe_op op_add pe_int (pe_d c_law_take (hr.mono (by decide)) pass0 (pa_cons (pv 0) (pa_cons pe_int pa_nil)))))
      (pss_cons (ps_set (i := 15) sc_law_long.nd rfl (Or.inr rfl) (pe_d c_law_take (hr.mono (by decide)) pass0 (pa_cons (pv 0) (pa_cons (pe_op op_add (pv 14) pe_int) pa_nil))))
      (pss_cons (ps_set (i := 16) sc_law_long.nd rfl (Or.inl rfl) (pe_callTy call_tuple_of (by rfl) T.b_tuple (by decide +kernel) (pa_cons (pe_lc (own := [("state", 13)]) (g := (gName 13)) rfl sc_law_long.nd (pi_range1 (by rfl) T.b_range (pa_cons (pv 2) pa_nil)) (blkOk_by (N := N_law_long) (sc := defScope s_law_long) (by decide +kernel)) (fun _ _ _ _ _ => (pg_name (i := 13) sc_law_long.nd rfl (Or.inl rfl))) (fun _ _ _ _ _ => (pts_one (pt_cmpR op_eq (pe_op op_mod (pv 13) (pv 14)) (pv 15) (nomark _)))) (fun _ _ _ _ _ => (pv 13))) pa_nil)))
      (pss_one (ps_ret (pe_lst (pa_cons (pv 2) (pa_cons (pe_callTy call_tuple_of (by rfl) T.b_tuple (by decide +kernel) (pa_cons (pv 4) pa_nil)) (pa_cons (pv 3) (pa_cons (pv 16) (pa_cons (pv 5) pa_nil)))))))))))))))), ?_⟩
    refine ⟨_, rfl, _, rfl, x, many, rfl, hx, by omega, by omega, fun H3 rest k03 b3 hre' => ?_⟩
    have hre : rest < many := by omega
    refine ⟨le_line (show 0 ≤ 10000000 by decide), fun R hR => ?_⟩
    have hR0 := k03.freeT b3 hR
    have hRx := b3.ne hR
    have s34 := (Same.refl H3).upd_new (o := .lst []) hR
    have R4 : (upd H3 R (.lst [])) R = some (.lst (([] : List Addr).map V.ref)) := upd_same
    have k04 := k03.trans (Kp.same s34)
    have b4 := b3.same s34
    generalize upd H3 R (.lst []) = H4 at s34 R4 k04 b4
    intro Tb hTb nd
    have hTx := b4.ne hTb
    have hT0 := k04.freeT b4 hTb
    have s5 := (Same.refl H4).upd_new (o := NdO P w Tb []) hTb
    have k05 := k04.trans (Kp.same s5)
    have b5 := b4.same s5
    have R5 := s5 _ _ R4
    generalize upd H4 Tb (NdO P w Tb []) = H5 at s5 nd k05 b5 R5
    have nrx := hx.ne_tup hr0
    have nTs := fun {H' : Hp} (k : Kp x H H') => hT.keep (hx.tk k)
    refine ⟨_, rfl, r, rfl, ⟨_, SqT.of (k05 _ _ hr0 nrx)⟩, for_tup (xs := ts.map V.ref) (fun i σ H' => ∃ (x6 x7 x8 x9 x10 x11 x12 x13 : Option V) (es rs : List REnt) (us : List Addr), σ = [some (.ref x), some (.ref r), some (.int (many : Nat)), some (.int (rest : Nat)), some (.ref R), some (.ref Tb), x6, x7, x8, x9, x10, x11, x12, x13, none, none, none] ∧ RI P w x Tb R many rest (ksOf (rows.take i) many) es rs us H H')
      ⟨none, none, none, none, none, none, none, none, [], [], [], rfl, k05, b5, nd, rfl, fun e he => (nomatch he), R5, .nil, .slnil, fun e he => (nomatch he)⟩ (fun i σ H' _ ⟨_, _, _, _, _, _, _, _, _, _, _, _, h⟩ => SqT.of (h.k _ _ hr0 nrx)) ?_ ?_⟩
    · rintro i v σ H6 hv ⟨x6, x7, x8, x9, x10, x11, x12, x13, es, rs, us, rfl, I6⟩
      obtain ⟨t, ht, rfl⟩ := get_map_r hv
      have hil : i < rows.length := by rw [← hT.1]; exact (List.getElem?_eq_some_iff.mp ht).1
      have hq := List.getElem?_eq_getElem hil
      have hqw := hwd _ (List.getElem_mem hil)
      have hq1 := w1 _ (List.getElem_mem hil)
      generalize rows[i] = q at hq hqw hq1
      have ht6 := (nTs I6.k).2 i t q ht hq
      have eq2 : q.2 = ((q.2.toNat : Nat) : Int) := by omega
      refine ⟨t, _, rfl, SqT.of ht6, rfl, _, _, rfl, _, _, rfl, rfl, ?_⟩
      refine ⟨_, rfl, _, _, rfl, rfl, le_line (show 4 ≤ 10000000 by decide), fun l1 hl1 => ?_⟩
      have n1 := I6.b.ne hl1
      have s61 := (Same.refl H6).upd_new (o := .lst [V.int 1, V.int 1, V.int (((many : Nat) : Int) - 1), V.int 2]) hl1
      have e61 : (upd H6 l1 (.lst [V.int 1, V.int 1, V.int (((many : Nat) : Int) - 1), V.int 2])) l1 = some (.lst (([1, 1, ((many : Nat) : Int) - 1, 2] : List Int).map V.int)) := upd_same
      generalize upd H6 l1 (.lst [V.int 1, V.int 1, V.int (((many : Nat) : Int) - 1), V.int 2]) = H61 at s61 e61
      have I61 := I6.sm s61
      refine ⟨_, rfl, x, 4, rfl, I61.b, by decide, by decide, fun H62 d62 k62 b62 d4 => ?_⟩
      have I62 := I61.draw k62 b62 hRx
      obtain ⟨sl, hsl, sl0, sl1⟩ := pickI (l := [1, 1, ((many : Nat) : Int) - 1, 2]) (fun z => 0 ≤ z ∧ z ≤ 100) (fun z hz => by
        simp only [List.mem_cons, List.not_mem_nil, or_false] at hz
        rcases hz with h | h | h | h <;> omega) (e := d62) (by show d62 < 4; omega)
      refine ⟨l1, _, _, _, rfl, rfl, SqL.of (k62 _ _ e61 n1), at_ofG (j := d62) rfl hsl, ?_⟩
      refine ⟨_, rfl, _, rfl, x, many, rfl, b62, by omega, by omega, fun H63 sh k63 b63 hsh => ?_⟩
      refine ⟨_, rfl, _, rfl, x, many, rfl, b63, by omega, by omega, fun H64 od k64 b64 hod => ?_⟩
      refine ⟨_, rfl, _, rfl, x, many, rfl, b64, by omega, by omega, fun H65 go k65 b65 hgo => ?_⟩
      have I65 := ((I62.draw k63 b63 hRx).draw k64 b64 hRx).draw k65 b65 hRx
      have hgo' : go < many := by omega
      refine ⟨_, rfl, _, rfl, many, q.2.toNat, by show [V.int _, V.int q.2] = _; rw [← eq2], by omega, by omega, fun k hk => ?_, fun H7 L s7 nL WL => ?_⟩
      · have : k = 0 := by omega
        rw [this]
        exact Nat.le_trans (Nat.le_refl 1) (by decide)
      obtain ⟨us2, hL, PL⟩ := WL
      have PL : PlAt nI H7 us2 (wq many q) := PL
      have I7 := I65.sm s7
      have lus2 : (us2.map V.ref).length = (wq many q).length := by rw [List.length_map, PL.1]
      have hLx : L ≠ x := I65.b.ne nL
      refine ⟨L, rfl, ⟨_, SqL.of hL⟩, for_list (xs := us2.map V.ref) (fun j σ H' => ∃ (x12 x13 : Option V) (es rs : List REnt) (us : List Addr), σ = [some (.ref x), some (.ref r), some (.int (many : Nat)), some (.int (rest : Nat)), some (.ref R), some (.ref Tb), some (.str q.1), some (.int q.2), some (.int sl), some (.int (sh : Nat)), some (.int (od : Nat)), some (.int (go : Nat)), x12, x13, none, none, none] ∧ RI P w x Tb R many rest (ksOf (rows.take i) many ++ ((wq many q).take j).map (fun s => (q.1, s))) es rs us H H' ∧ H' L = some (.lst (us2.map V.ref)) ∧ PlAt nI H' us2 (wq many q) ∧ R ≠ L)
        ⟨x12, x13, es, rs, us, rfl, by rw [List.take_zero, List.map_nil, List.append_nil]; exact I7, hL, PL, ne_of_none I65.r nL⟩ (fun i σ H' _ ⟨_, _, _, _, _, _, _, h, _⟩ => SqL.of h) ?_ ?_⟩
      · rintro j v σ H8 hv ⟨x12, x13, es, rs, us, rfl, I8, L8, P8, nRL⟩
        obtain ⟨u, hu, rfl⟩ := get_map_r hv
        have hjl : j < (wq many q).length := by rw [← P8.1]; exact (List.getElem?_eq_some_iff.mp hu).1
        have hs := List.getElem?_eq_getElem hjl
        have hsm := wq_mem.mp (List.getElem_mem hjl)
        generalize (wq many q)[j] = ss at hs hsm
        have hu8 := P8.2 j u ss hu hs
        refine ⟨_, rfl, ?_⟩
        refine ⟨fun σ H' => ∃ s : Nat, s < many ∧ H8 = H' ∧ σ = [some (.ref x), some (.ref r), some (.int (many : Nat)), some (.int (rest : Nat)), some (.ref R), some (.ref Tb), some (.str q.1), some (.int q.2), some (.int sl), some (.int (sh : Nat)), some (.int (od : Nat)), some (.int (go : Nat)), some (.ref u), some (.int (s : Nat)), none, none, none], ?_, ?_⟩
        · refine ⟨_, rfl, rfl, _, rfl, ite2 (fun c1 => ?_) (fun _ => ⟨go, hgo', rfl, rfl⟩)⟩
          rw [veq] at c1
          have c1 := of_decide_eq_true c1
          have hl1' : ss.length = 1 := by omega
          obtain ⟨s0, rfl⟩ := List.length_eq_one_iff.mp hl1'
          refine ⟨_, rfl, u, _, _, _, rfl, rfl, SqT.of hu8, atI_nat (j := 0) rfl, _, rfl, rfl, _, rfl, ite2 (fun _ => ?_) (fun _ => ⟨go, hgo', rfl, rfl⟩)⟩
          refine ⟨_, rfl, u, _, _, _, rfl, rfl, SqT.of hu8, atI_nat (j := 0) rfl, _, rfl, _, _, rfl, rfl, .inr ⟨by omega, by omega⟩, _, rfl, _, _, rfl, rfl, .inl ⟨_, rfl, ?_⟩⟩
          refine ⟨_, rfl, _, _, rfl, rfl, by omega, ?_⟩
          have g1 := Int.emod_nonneg (((s0 : Nat) : Int) * sl + ((sh : Nat) : Int)) (show ((many : Nat) : Int) ≠ 0 by omega)
          have g2 := Int.emod_lt_of_pos (((s0 : Nat) : Int) * sl + ((sh : Nat) : Int)) (show (0 : Int) < ((many : Nat) : Int) by omega)
          obtain ⟨m, hm⟩ := Int.eq_ofNat_of_zero_le g1
          exact ⟨m, by omega, rfl, by show [_, _, _, _, _, _, _, _, _, _, _, _, _, some (V.int ((((s0 : Nat) : Int) * sl + ((sh : Nat) : Int)) % ((many : Nat) : Int))), _, _, _] = _; rw [hm]⟩
        rintro σ H8' ⟨s, hsm', rfl, rfl⟩
        obtain ⟨rst, hrst⟩ := ks_step hq hs
        have fresh : ∀ s : Nat, ek ((q.1, ss, s) : REnt) ∉ ksOf (rows.take i) many ++ ((wq many q).take j).map (fun s => (q.1, s)) := fun s => by
          have nd := ks_nd (many := many) Ro.nd
          rw [← hrst] at nd
          rw [List.nodup_append] at nd
          intro hm
          exact nd.2.2 _ hm _ List.mem_cons_self rfl
        have les : es.length ≤ 256000 := by
          have h1 := ks_lenM mm40 Ro
          rw [← hrst, ← I8.ks, List.length_append, List.length_map] at h1
          omega
        have lus : us.length ≤ 256000 := by
          rw [I8.rw.1]
          exact Nat.le_trans I8.sb.length_le les
        refine ⟨fun σ H' => ∃ (rs1 : List REnt) (us1 : List Addr), σ = [some (.ref x), some (.ref r), some (.int (many : Nat)), some (.int (rest : Nat)), some (.ref R), some (.ref Tb), some (.str q.1), some (.int q.2), some (.int sl), some (.int (sh : Nat)), some (.int (od : Nat)), some (.int (go : Nat)), some (.ref u), some (.int (s : Nat)), none, none, none] ∧ RM P w x Tb R many rest (ksOf (rows.take i) many ++ ((wq many q).take j).map (fun s => (q.1, s))) es rs rs1 us1 (q.1, ss, s) H H' ∧ H' L = some (.lst (us2.map V.ref)) ∧ PlAt nI H' us2 (wq many q), ?_, ?_⟩
        · refine ⟨_, rfl, _, rfl, rfl, _, rfl, ite2 (fun c => ?_) (fun c => ?_)⟩
          · refine ⟨_, rfl, .inl ⟨rfl, _, SqL.of I8.r⟩, _, rfl, _, rfl, _, rfl, le_line (show 3 ≤ 10000000 by decide), fun v hv => ?_⟩
            have nvR : R ≠ v := ne_of_none I8.r hv
            refine ⟨R, _, _, rfl, rfl, by rw [upd_ne nvR]; exact I8.r, by rw [List.length_map]; exact lt_line (by omega), ?_⟩
            exact ⟨_, _, rfl, I8.app hR0 hRx (e := (q.1, ss, s)) hv hu8, by rw [upd_ne nRL.symm, upd_ne (ne_of_none L8 hv)]; exact L8, P8.keep fun t ys h => by rw [upd_ne (ne_of h I8.r (fun e => nomatch e)), upd_ne (ne_of_none h hv)]; exact h⟩
          · rw [vne] at c
            have c : s = rest := Decidable.byContradiction fun h => c (decide_eq_true h)
            exact ⟨rs, us, rfl, I8.skip c, L8, P8⟩
        rintro σ H10 ⟨rs1, us1, rfl, M10, L10, P10⟩
        refine ⟨_, rfl, _, rfl, _, rfl, _, rfl, M10.put hT0 (e := (q.1, ss, s)) (P10.2 j u ss hu hs) hsm' (fresh s) (by omega) fun H12 I12 l12 t12 => ?_⟩
        refine ⟨_, _, es ++ [(q.1, ss, s)], rs1, us1, rfl, ?_, l12 _ _ L10, P10.keep t12, nRL⟩
        rw [List.take_add_one, hs, List.map_append, ← List.append_assoc]
        exact I12
      · rintro σ H8 ⟨x12, x13, es, rs, us, rfl, I8, L8, P8, _⟩
        refine ⟨_, _, _, _, _, _, _, _, es, rs, us, rfl, ?_⟩
        rw [lus2, List.take_length] at I8
        rw [ks_take hq]
        exact I8
    · rintro σ H6 ⟨x6, x7, x8, x9, x10, x11, x12, x13, es, rs, us, rfl, I6⟩
      rw [lts, List.take_length] at I6
      have les : es.length ≤ 10000 := by
        have h1 : (es.map ek).length = _ := congrArg List.length I6.ks
        rw [List.length_map] at h1
        have : ∀ l : List Row, (∀ q ∈ l, 0 ≤ q.2 ∧ q.2 ≤ 1) → (ksOf l many).length ≤ 40 * l.length := fun l => by
          induction l with
          | nil => intro _; exact Nat.le_refl _
          | cons q l ih =>
            intro hl
            unfold ksOf at ih ⊢
            rw [List.flatMap_cons, List.length_append, List.length_map, List.length_cons, wq_pow]
            have h1 := ih fun q hq => hl q (List.mem_cons_of_mem _ hq)
            have h2 := hl q List.mem_cons_self
            have h3 : many ^ q.2.toNat ≤ 40 ^ 1 := Nat.le_trans (Nat.pow_le_pow_left mm40 _) (Nat.pow_le_pow_right (by decide) (by omega))
            have h4 : 40 ^ 1 = 40 := by decide
            omega
        have := this rows fun q hq => ⟨(hwd q hq).1, w1 q hq⟩
        omega
      have lus : us.length ≤ 10000 := by
        rw [I6.rw.1]
        exact Nat.le_trans I6.sb.length_le les
      refine ⟨fun σ H' => ∃ (R2 : Addr) (us2 : List Addr) (rs2 : List REnt), σ = [some (.ref x), some (.ref r), some (.int (many : Nat)), some (.int (rest : Nat)), some (.ref R2), some (.ref Tb), x6, x7, x8, x9, x10, x11, x12, x13, none, none, none] ∧ RI P w x Tb R many rest (ksOf rows many) es rs us H H' ∧ H' R2 = some (.lst (us2.map V.ref)) ∧ RwAt H' us2 rs2 ∧ rs2.Perm rs ∧ R2 ≠ x, ?_, ?_⟩
      · refine ⟨_, rfl, x, 2, rfl, I6.b, by decide, by decide, fun H7 tn k7 b7 htn => ⟨rfl, _, rfl, ite2 (fun _ => ?_) (fun _ => ?_)⟩⟩
        · have I7 := I6.draw k7 b7 hRx
          refine ⟨_, rfl, R, _, rfl, SqL.of I7.r, fun p hp => ?_⟩
          have s8 := (Same.refl H7).upd_new (o := .lst (us.map V.ref).reverse) hp
          exact ⟨p, us.reverse, rs.reverse, rfl, I7.sm s8, by rw [upd_same, List.map_reverse], I7.rw.rev.keep (fun _ _ q => s8 _ _ q), List.reverse_perm rs, I7.b.ne hp⟩
        · have I7 := I6.draw k7 b7 hRx
          exact ⟨R, us, rs, rfl, I7, I7.r, I7.rw, List.Perm.refl _, hRx⟩
      rintro σ H7 ⟨R2, us2, rs2, rfl, I7, R27, rw27, pm, nR2⟩
      refine ⟨_, rfl, x, 9, rfl, I7.b, by decide, by decide, fun H8 pe k8 b8 hpe => ⟨_, _, rfl, rfl, ?_⟩⟩
      have I8 := I7.draw k8 b8 hRx
      refine ⟨_, rfl, _, rfl, _, _, rfl, rfl, x, _, rfl, b8, by omega, by omega, fun H9 re k9 b9 hre9 => ?_⟩
      have I9 := I8.draw k9 b9 hRx
      have R29 := k9 _ _ (k8 _ _ R27 nR2) nR2
      have rw29 := (rw27.keep (I7.b.tk k8)).keep (I8.b.tk k9)
      refine ⟨_, rfl, _, rfl, by omega, by omega, fun D1 hD1 => ?_⟩
      rw [Int.toNat_natCast]
      have ep : (1 : Int) + ((pe : Nat) : Int) = ((1 + pe : Nat) : Int) := by omega
      refine lc_it (walk_range (lo := 0) (n := many)) (fun i H' => Same H9 H' ∧ H' D1 = some (.lst (nI ((List.range i).filter fun j => decide (j % (1 + pe) = re))))) ⟨(Same.refl H9).upd_new hD1, upd_same⟩ (fun _ _ _ _ => True.intro) ?_ ?_
      · rintro i v H10' H10 hi ⟨s10, d10⟩ ⟨rfl, rfl⟩
        have e0 : (0 : Int) + ((i : Nat) : Int) = ((i : Nat) : Int) := by omega
        have em : (((0 : Int) + ((i : Nat) : Int)) % ((1 : Int) + ((pe : Nat) : Int))) = ((i % (1 + pe) : Nat) : Int) := by rw [e0, ep]; exact (Int.natCast_emod i (1 + pe)).symm
        have en : nI ((List.range (i + 1)).filter fun j => decide (j % (1 + pe) = re)) = nI ((List.range i).filter fun j => decide (j % (1 + pe) = re)) ++ if i % (1 + pe) = re then [V.int ((i : Nat) : Int)] else [] := by
          rw [List.range_succ, List.filter_append, List.filter_cons, List.filter_nil]
          unfold nI
          rw [List.map_append]
          by_cases q : i % (1 + pe) = re
          · rw [if_pos q, if_pos (decide_eq_true q)]
            rfl
          · rw [if_neg q, if_neg (fun z => q (of_decide_eq_true z))]
            rfl
        refine ⟨rfl, _, rfl, _, rfl, _, _, rfl, rfl, by omega, _, rfl, rfl, _, rfl, ?_⟩
        have eb : decide ((fun i j : Int => V.int (i % j)) (0 + ((i : Nat) : Int)) (1 + ((pe : Nat) : Int)) = V.int ((re : Nat) : Int)) = decide (((i % (1 + pe) : Nat) : Int) = ((re : Nat) : Int)) := by
          show decide (V.int _ = _) = _
          rw [em, veq]
        rw [eb]
        by_cases q : i % (1 + pe) = re
        · rw [if_pos q] at en
          refine ifp (decide_eq_true (by omega)) ⟨_, rfl, _, d10, ?_, s10.upd_own hD1, ?_⟩
          · rw [nI_len]
            exact lt_line (Nat.le_trans (List.length_filter_le _ _) (by rw [List.length_range]; omega))
          · rw [upd_same, en]
            show some (HO.lst (_ ++ [V.int (0 + ((i : Nat) : Int))])) = some (HO.lst (_ ++ [V.int ((i : Nat) : Int)]))
            rw [e0]
        · rw [if_neg q, List.append_nil] at en
          refine ifn (fun z => q (by have := of_decide_eq_true z; omega)) ⟨s10, ?_⟩
          rw [en]
          exact d10
      · rintro H10 ⟨s10, d10⟩
        refine ⟨D1, _, rfl, .inl ⟨SqL.of d10, fun tM htM => ?_⟩⟩
        have s11 := s10.trans ((Same.refl H10).upd_new (o := .tup (nI ((List.range many).filter fun j => decide (j % (1 + pe) = re)))) htM)
        have m11 : (upd H10 tM (.tup (nI ((List.range many).filter fun j => decide (j % (1 + pe) = re))))) tM = some (.tup (nI ((List.range many).filter fun j => decide (j % (1 + pe) = re)))) := upd_same
        generalize upd H10 tM (.tup (nI ((List.range many).filter fun j => decide (j % (1 + pe) = re)))) = H11 at s11 m11
        have pw : ((List.range many).filter fun j => decide (j % (1 + pe) = re)).Pairwise (· < ·) := List.Pairwise.sublist List.filter_sublist List.pairwise_lt_range
        have ml : ∀ m ∈ ((List.range many).filter fun j => decide (j % (1 + pe) = re)), m < many := fun m hm => List.mem_range.mp (List.mem_filter.mp hm).1
        generalize ((List.range many).filter fun j => decide (j % (1 + pe) = re)) = ms at m11 pw ml
        refine ⟨_, rfl, _, rfl, R2, _, rfl, .inl ⟨SqL.of (s11 _ _ R29), fun tR htR => ?_⟩⟩
        have s12 := s11.trans ((Same.refl H11).upd_new (o := .tup (us2.map V.ref)) htR)
        have t12 : (upd H11 tR (.tup (us2.map V.ref))) tR = some (.tup (us2.map V.ref)) := upd_same
        have m12 : (upd H11 tR (.tup (us2.map V.ref))) tM = some (.tup (nI ms)) := by rw [upd_ne (ne_of_none m11 htR)]; exact m11
        generalize upd H11 tR (.tup (us2.map V.ref)) = H12 at s12 t12 m12
        refine ⟨_, rfl, _, rfl, _, rfl, le_line (show 5 ≤ 10000000 by decide), fun a ha => ?_⟩
        have I12 := I9.sm s12
        have sl2 := (Same.refl H12).upd_new (o := .lst [.int ((many : Nat) : Int), .ref tR, .int ((rest : Nat) : Int), .ref tM, .ref Tb]) ha
        refine key _ a ⟨many, rest, es, rs2, ms⟩ (I12.k.trans (Kp.same sl2)) (I12.b.same sl2) (I12.ok Ro (by omega) mm40 hre pm pw ml les) rfl (I12.k.freeT I12.b ha) (I12.b.ne ha) ⟨tR, tM, Tb, us2, upd_same, sl2 _ _ t12, (rw29.keep (fun _ _ q => s12 _ _ q)).keep (fun _ _ q => sl2 _ _ q), sl2 _ _ m12, I12.t.sm sl2⟩
end
end Sh
end
section
set_option Elab.async false
set_option linter.all false
set_option maxRecDepth 100000
set_option maxHeartbeats 8000000
namespace Sh
open PySem PySem.Spec PyProof.Rows L2
open C8 (pss_cut tCut)
open Evl (ixN_nat)
/-- the entry for its key is changed -/
def upE (es : List REnt) (e : REnt) : List REnt := es.map fun y => if ek y = ek e then e else y
theorem upE_ek (es : List REnt) (e : REnt) : (upE es e).map ek = es.map ek := by
  unfold upE
  rw [List.map_map]
  refine List.map_congr_left fun y _ => ?_
  show ek (if ek y = ek e then e else y) = ek y
  split
  · rename_i h
    exact h.symm
  · rfl
theorem upE_mem {es : List REnt} {e y : REnt} (h : y ∈ upE es e) : y = e ∨ (y ∈ es ∧ ek y ≠ ek e) := by
  obtain ⟨z, hz, rfl⟩ := List.mem_map.mp h
  by_cases c : ek z = ek e
  · rw [if_pos c]
    exact .inl rfl
  · rw [if_neg c]
    exact .inr ⟨hz, c⟩
theorem upE_old {es : List REnt} {e y : REnt} (h : y ∈ es) (n : ek y ≠ ek e) : y ∈ upE es e := List.mem_map.mpr ⟨y, h, if_neg n⟩
theorem upE_new {es : List REnt} {e : REnt} (h : ek e ∈ es.map ek) : e ∈ upE es e := by
  obtain ⟨y, hy, hk⟩ := List.mem_map.mp h
  exact List.mem_map.mpr ⟨y, hy, if_pos hk⟩
theorem upE_put {es : List REnt} {e : REnt} (h : ek e ∈ es.map ek) : putK (es.map rkv) (nkR (ek e)) (.int ((e.2.2 : Nat) : Int)) = (upE es e).map rkv := by
  unfold putK upE
  have ha : ((es.map rkv).any fun kv => decide (kv.1 = nkR (ek e))) = true := by
    rw [List.any_eq_true]
    obtain ⟨y, hy, hk⟩ := List.mem_map.mp h
    exact ⟨rkv y, List.mem_map.mpr ⟨y, hy, rfl⟩, decide_eq_true (by show nkR (ek y) = _; rw [hk])⟩
  rw [if_pos ha, List.map_map, List.map_map]
  refine List.map_congr_left fun y _ => ?_
  show (if nkR (ek y) = nkR (ek e) then (nkR (ek y), V.int ((e.2.2 : Nat) : Int)) else rkv y) = rkv (if ek y = ek e then e else y)
  by_cases c : ek y = ek e
  · rw [if_pos (by rw [c]), if_pos c, c]
    rfl
  · rw [if_neg (fun q => c (nkR_inj q)), if_neg c]
/-- the rows of a doubler -/
def dbR (z : Str) (wd many turn n : Nat) : List REnt := (List.range n).map fun d => (z, List.replicate wd ((d + turn) % many), (d + turn + 1) % many)
theorem dbR_succ (z : Str) (wd many turn n : Nat) : dbR z wd many turn (n + 1) = dbR z wd many turn n ++ [(z, List.replicate wd ((n + turn) % many), (n + turn + 1) % many)] := by
  unfold dbR
  rw [List.range_succ, List.map_append]
  rfl
theorem mod_inj {a b t m : Nat} (ha : a < m) (hb : b < m) (h : (a + t) % m = (b + t) % m) : a = b := by
  have h1 := Nat.div_add_mod (a + t) m
  have h2 := Nat.div_add_mod (b + t) m
  rw [h] at h1
  have : m * ((a + t) / m) = m * ((b + t) / m) ∨ m * ((a + t) / m) + m ≤ m * ((b + t) / m) ∨ m * ((b + t) / m) + m ≤ m * ((a + t) / m) := by
    rcases Nat.lt_trichotomy ((a + t) / m) ((b + t) / m) with c | c | c
    · refine .inr (.inl ?_)
      rw [← Nat.mul_succ]
      exact Nat.mul_le_mul_left _ c
    · exact .inl (by rw [c])
    · refine .inr (.inr ?_)
      rw [← Nat.mul_succ]
      exact Nat.mul_le_mul_left _ c
  omega
theorem rep_inj {w a b : Nat} (hw : 1 ≤ w) (h : List.replicate w a = List.replicate w b) : a = b := by
  obtain ⟨n, rfl⟩ : ∃ n, w = n + 1 := ⟨w - 1, by omega⟩
  rw [List.replicate_succ, List.replicate_succ] at h
  exact (List.cons.inj h).1
theorem nI_rep (n s : Nat) : (List.replicate n [V.int ((s : Nat) : Int)]).flatten = nI (List.replicate n s) := by
  unfold nI
  rw [List.map_replicate]
  induction n with
  | zero => rfl
  | succ n ih => rw [List.replicate_succ, List.flatten_cons, ih, List.replicate_succ]; rfl
theorem rgV_nI (n : Nat) : rgV 0 ((n : Nat) : Int) = nI (List.range n) := by
  unfold rgV nI
  rw [Int.sub_zero, Int.toNat_natCast]
  refine List.map_congr_left fun i _ => ?_
  show V.int (0 + (i : Int)) = _
  rw [Int.zero_add]
def spDoubler6 (P : Program) (w : World) : Sp := fun vs H Q _ => ∃ (x r : Addr) (ts : List Addr) (rows : List Row), vs = [.ref x, .ref r] ∧ BxT H x ∧ H r = some (.tup (ts.map V.ref)) ∧ TupsAt H ts rows ∧ ROk 4 rows ∧ (∃ q ∈ rows, 1 < q.2) ∧ ∀ (H' : Hp) (a pa : Addr) (pr : Row) (D : RdD), Kp x H H' → BxT H' x → D.Ok rows → pr ∈ rows → 2 ≤ pr.2 → (pr.2 = 2 → 9 ≤ D.many ∧ D.many ≤ 12) → (pr.2 = 3 → 6 ≤ D.many ∧ D.many ≤ 9) → D.rws = dbR pr.1 pr.2.toNat D.many D.rest (D.many - 1) → H a = none → a ≠ x → H' pa = some (.tup [.str pr.1, .int pr.2]) → LrA P w H' a D [.ref pa] → Q (.ref a) H'
abbrev N_law_doubler : List Str := ["box", "kinds", "wide", "pair", "many", "turn", "rows", "steps", "name", "size", "below", "depth", "state", "after", "last", "marks"]
theorem sc_law_doubler : FnScope N_law_doubler ["box", "kinds"] (defScope s_law_doubler) := ⟨rfl, rfl, rfl, by decide +kernel, rfl, by decide +kernel, by decide +kernel⟩
section
variable {P : Program} {w : World} {K : PySem.W.Frag} {mg : Str → Option Value} {base : Heap}
theorem ok_doubler6 (T : Bl mg) (c_law_take : DefOk P w K mg base CX0 1 "_law_take" spTake) (c_law_tuples : DefOk P w K mg base CX0 1 "_law_tuples" spTuples6) (c_law_marks : DefOk P w K mg base CX0 2 "_law_marks" spMarks6) (D : Def0 K mg "_law_doubler" s_law_doubler) : DefOk P w K mg base CX0 3 "_law_doubler" (spDoubler6 P w) := by
  refine D.ok sc_law_doubler (fun vs H Q E h => ?_) (fun _ _ _ _ _ _ us hl => match us, hl with | [_, _], _ => rfl) (fun f cdv A outer s' H vs Q E hr h => ?_)
  · obtain ⟨x, r, ts, rows, rfl, _⟩ := h
    rfl
  · obtain ⟨x, r, ts, rows, rfl, hx, hr0, hT, Ro, hwide, key⟩ := h
    have hu2 := hu2_of hr
    have hwd := Ro.wd
    have lrows := Ro.len
    have lts : (ts.map V.ref).length = rows.length := by rw [List.length_map, hT.1]
    refine ⟨_, (pss_cons (ps_setLc (i := 2) (own := [("pair", 3)]) (g := (gName 3)) rfl sc_law_doubler.nd rfl rfl (sw_true rfl rfl rfl (by decide +kernel)) (pi_tup (pv 1)) (blkOk_by (N := N_law_doubler) (sc := defScope s_law_doubler) (by decide +kernel)) (fun _ _ _ _ _ => (pg_name (i := 3) sc_law_doubler.nd rfl (Or.inl rfl))) (fun _ _ _ _ _ => (pts_one (pt_cmpR op_gt (pe_ix (show IxR _ (rIxT K) from ix_tup) (pv 3) pe_int (fun _ _ => rfl)) pe_int (nomark _)))) (fun _ _ _ _ _ => (pv 3)))
      (pss_cons (ps_set (i := 3) sc_law_doubler.nd rfl (Or.inl rfl) (pe_ix ix_list (pv 2) (pe_d c_law_take (hr.mono (by decide)) pass0 (pa_cons (pv 0) (pa_cons (pe_callB call_len_seq (by rfl) T.b_len boot_len (pa_cons (pv 2) pa_nil)) pa_nil))) (fun _ _ => rfl)))
      (pss_cons (ps_set (i := 4) sc_law_doubler.nd rfl (Or.inl rfl) (pe_op op_add (pe_ix ix_list (pe_lst (pa_cons pe_int (pa_cons pe_int (pa_cons pe_int (pa_cons pe_int pa_nil))))) (pe_ix ix_tup (pv 3) pe_int (fun _ _ => rfl)) (fun _ _ => rfl)) (pe_d c_law_take (hr.mono (by decide)) pass0 (pa_cons (pv 0) (pa_cons pe_int pa_nil)))))
      (pss_cons (ps_set (i := 5) sc_law_doubler.nd rfl (Or.inl rfl) (pe_d c_law_take (hr.mono (by decide)) pass0 (pa_cons (pv 0) (pa_cons (pv 4) pa_nil))))
      (pss_cons (ps_set (i := 6) sc_law_doubler.nd rfl (Or.inl rfl) (pe_lst pa_nil))
      (pss_cons (ps_set (i := 7) sc_law_doubler.nd rfl (Or.inl rfl) (show PE _ _ (tNNew P w) from pe_dnewN))
      (pss_cons (ps_for PassesOwn.never rfl (pi_tup (pv 1)) (pg_tup (by rfl) (pgs_cons (pg_name (i := 8) sc_law_doubler.nd rfl (Or.inl rfl)) (pgs_cons (pg_name (i := 9) sc_law_doubler.nd rfl (Or.inl rfl)) pgs_nil)))
        (pss_one (ps_for PassesOwn.never rfl (pi_list (pe_d c_law_tuples (hr.mono (by decide)) pass0 (pa_cons (pv 4) (pa_cons (pv 9) pa_nil)))) (pg_name (i := 10) sc_law_doubler.nd rfl (Or.inl rfl))
          (pss_one (ps_nputA hu2 (pv 7) (pe_tup (pa_cons (pv 8) (pa_cons (pv 10) pa_nil))) (pv 5) rfl)))))
      (pss_cons (ps_for PassesOwn.never rfl (pi_range1 (by rfl) T.b_range (pa_cons (pe_op op_sub (pv 4) pe_int) pa_nil)) (pg_name (i := 11) sc_law_doubler.nd rfl (Or.inl rfl))
        (pss_cons (ps_set (i := 12) sc_law_doubler.nd rfl (Or.inl rfl) (pe_op op_mod (pe_callTy call_int1 (by rfl) T.b_int (by decide +kernel) (pa_cons (pe_op op_add (pv 11) (pv 5)) pa_nil)) (pv 4)))
        (pss_cons (ps_set (i := 13) sc_law_doubler.nd rfl (Or.inl rfl) (pe_op op_mod (pe_callTy call_int1 (by rfl) T.b_int (by decide +kernel) (pa_cons (pe_op op_add (pe_op op_add (pv 11) (pv 5)) pe_int) pa_nil)) (pv 4)))
        (pss_cons (ps_expr (pe_bm PySem.F.plainAttrs_list PySem.F.slot_list_append PySem.F.type_list_append mt_append (pv 6) (pa_cons (pe_tup (pa_cons (pe_ix ix_tup (pv 3) pe_int (fun _ _ => rfl)) (pa_cons (pe_op op_repG (pe_tup (pa_cons (pv 12) pa_nil)) (pe_ix ix_tup (pv 3) pe_int (fun _ _ => rfl))) (pa_cons (pv 13) pa_nil)))) pa_nil)))
        (pss_one (ps_nputA hu2 (pv 7) (pe_tup (pa_cons (pe_ix ix_tup (pv 3) pe_int (fun _ _ => rfl)) (pa_cons (pe_op op_repG (pe_tup (pa_cons (pv 12) pa_nil)) (pe_ix ix_tup (pv 3) pe_int (fun _ _ => rfl))) pa_nil))) (pv 13) rfl))))))
      (pss_cons (ps_set (i := 14) sc_law_doubler.nd rfl (Or.inl rfl) (pe_op op_mod (pe_callTy call_int1 (by rfl) T.b_int (by decide +kernel) (pa_cons (pe_op op_sub (pe_op op_add (pv 5) (pv 4)) pe_int) pa_nil)) (pv 4)))
      (pss_cons (ps_set (i := 15) sc_law_doubler.nd rfl (Or.inl rfl) (pe_ix ix_list (pe_lst (pa_cons (pe_tup (pa_cons (pv 14) pa_nil)) (pa_cons (pe_tup pa_nil) (pa_cons (pe_tupRg rfl (by rfl) T.b_tuple (prg_1 (by rfl) T.b_range (pv 4))) (pa_cons (pe_tup (pa_cons (pv 5) pa_nil)) (pa_cons (pe_tup (pa_cons (pv 14) pa_nil)) (pa_cons (pe_d c_law_marks (hr.mono (by decide)) pass0 (pa_cons (pv 0) (pa_cons (pv 4) pa_nil))) pa_nil))))))) (pe_d c_law_take (hr.mono (by decide)) pass0 (pa_cons (pv 0) (pa_cons pe_int pa_nil))) (fun _ _ => rfl)))
      (pss_one (ps_ret (pe_lst (pa_cons (pv 4) (pa_cons (pe_callTy call_tuple_of (by rfl) T.b_tuple (by decide +kernel) (pa_cons (pv 6) pa_nil)) (pa_cons (pv 5) (pa_cons (pv 15) (pa_cons (pv 7) (pa_cons (pv 3) pa_nil))))))))))))))))))), ?_⟩
    refine ⟨_, rfl, r, rfl, ⟨_, SqT.of hr0⟩, fun D1 hD1 => lc_it (walk_tup (xs := ts.map V.ref)) (fun i H' => Same H H' ∧ ∃ (us : List Addr) (rs : List Row), H' D1 = some (.lst (us.map V.ref)) ∧ TupsAt H us rs ∧ rs = (rows.take i).filter (fun q => decide (1 < q.2))) ⟨(Same.refl H).upd_new hD1, [], [], upd_same, ⟨rfl, fun i u p a => by simp at a⟩, rfl⟩ (fun i H' _ ⟨q, _⟩ => SqT.of (q _ _ hr0)) ?_ ?_⟩
    · rintro i v H1 H2 hi ⟨q1, us, rs, q2, q3, q4⟩ ⟨rfl, hv⟩
      obtain ⟨u, hu, rfl⟩ := get_map_r hv
      have hir : i < rows.length := by rw [← hT.1]; exact (List.getElem?_eq_some_iff.mp hu).1
      have hq := List.getElem?_eq_getElem hir
      generalize rows[i] = q at hq
      have hTu := hT.2 i u q hu hq
      have ef : (rows.take (i + 1)).filter (fun q => decide (1 < q.2)) = (rows.take i).filter (fun q => decide (1 < q.2)) ++ if 1 < q.2 then [q] else [] := by
        rw [List.take_add_one, hq, List.filter_append]
        congr 1
        show List.filter _ [q] = _
        rw [List.filter_cons, List.filter_nil]
        by_cases c : 1 < q.2
        · rw [if_pos (decide_eq_true c), if_pos c]
        · rw [if_neg (fun h => c (of_decide_eq_true h)), if_neg c]
      refine ⟨rfl, _, rfl, u, _, _, _, rfl, rfl, SqT.of (q1 _ _ hTu), atI_nat (j := 1) rfl, _, _, rfl, rfl, _, rfl, ?_⟩
      by_cases c : 1 < q.2
      · rw [if_pos c] at ef
        refine ifp (decide_eq_true c) ⟨_, rfl, _, q2, ?_, q1.upd_own hD1, us ++ [u], rs ++ [q], by rw [upd_same, List.map_append]; rfl, q3.snoc hTu, by rw [ef, q4]⟩
        rw [List.length_map, q3.1, q4]
        exact lt_line (Nat.le_trans (List.length_filter_le _ _) (by rw [List.length_take]; omega))
      · rw [if_neg c, List.append_nil] at ef
        exact ifn (fun h => c (of_decide_eq_true h)) ⟨q1, us, rs, q2, q3, by rw [ef, q4]⟩
    rintro H1 ⟨s1, us0, rs0, D11, t1, er⟩
    rw [lts, List.take_length] at er
    have lrs : rs0.length ≤ 4 := by
      rw [er]
      exact Nat.le_trans (List.length_filter_le _ _) (by omega)
    have prs : 1 ≤ rs0.length := by
      obtain ⟨q, hq, h1⟩ := hwide
      have : q ∈ rs0 := by rw [er]; exact List.mem_filter.mpr ⟨hq, decide_eq_true h1⟩
      exact List.length_pos_iff.mpr (List.ne_nil_of_mem this)
    have t1' : TupsAt H1 us0 rs0 := t1.keep (TK.of_same s1)
    have b1 := hx.same s1
    have nD1 := hx.ne hD1
    refine ⟨_, rfl, _, rfl, _, rfl, D1, _, rfl, .inl (SqL.of D11), x, ((rs0.length : Nat) : Int), by rw [List.length_map, t1.1], b1, by omega, by omega, fun H2 pi k2 b2 hpi => ?_⟩
    have hpl : pi < us0.length := by rw [t1.1]; omega
    have hpu := List.getElem?_eq_getElem hpl
    have hpr := List.getElem?_eq_getElem (show pi < rs0.length by omega)
    have hpm : rs0[pi]'(by omega) ∈ rows ∧ 1 < (rs0[pi]'(by omega)).2 := by
      have h := List.getElem_mem (show pi < rs0.length by omega)
      have h2 : rs0[pi]'(by omega) ∈ rows.filter (fun q => decide (1 < q.2)) := by rw [← er]; exact h
      obtain ⟨h3, h4⟩ := List.mem_filter.mp h2
      exact ⟨h3, of_decide_eq_true h4⟩
    generalize us0[pi] = pu at hpu
    generalize rs0[pi]'(by omega) = pr at hpr hpm
    obtain ⟨hpm, hp1⟩ := hpm
    have hpw := hwd pr hpm
    have hpt := t1.2 pi pu pr hpu hpr
    refine ⟨D1, _, _, _, rfl, rfl, SqL.of (k2 _ _ D11 nD1), at_ofG (j := pi) rfl (by rw [List.getElem?_map, hpu]; rfl), ?_⟩
    have k02 := (Kp.same (a := x) s1).trans k2
    have npu := hx.ne_tup hpt
    refine ⟨le_line (show 4 ≤ 10000000 by decide), fun l3 hl3 => ?_⟩
    have s3 := (Same.refl H2).upd_new (o := .lst [V.int 0, V.int 0, V.int 9, V.int 6]) hl3
    have e3 : (upd H2 l3 (.lst [V.int 0, V.int 0, V.int 9, V.int 6])) l3 = some (.lst [V.int 0, V.int 0, V.int 9, V.int 6]) := upd_same
    have k03 := k02.trans (Kp.same s3)
    have b3 := b2.same s3
    generalize upd H2 l3 (.lst [V.int 0, V.int 0, V.int 9, V.int 6]) = H3 at s3 e3 k03 b3
    obtain ⟨mb, hmb, hmb2, hmb3⟩ : ∃ mb : Nat, ([V.int 0, V.int 0, V.int 9, V.int 6] : List V)[pr.2.toNat]? = some (.int (mb : Nat)) ∧ (pr.2 = 2 → mb = 9) ∧ (pr.2 = 3 → mb = 6) := by
      rcases (show pr.2 = 2 ∨ pr.2 = 3 by omega) with h | h <;> rw [h]
      · exact ⟨9, rfl, fun _ => rfl, fun h => by omega⟩
      · exact ⟨6, rfl, fun h => by omega, fun _ => rfl⟩
    refine ⟨_, rfl, pu, _, _, _, rfl, rfl, SqT.of (k03 _ _ hpt npu), atI_nat (j := 1) rfl, l3, _, _, _, rfl, rfl, SqL.of e3, at_ofG (j := pr.2.toNat) (by omega) hmb, ?_⟩
    refine ⟨_, rfl, x, 4, rfl, b3, by decide, by decide, fun H4 mx k4 b4 hmx => ⟨_, _, rfl, rfl, ?_⟩⟩
    show gName 4 (V.int (((mb : Nat) : Int) + ((mx : Nat) : Int))) _ _ _
    rw [show ((mb : Nat) : Int) + ((mx : Nat) : Int) = ((mb + mx : Nat) : Int) by omega]
    obtain ⟨many, emany⟩ : ∃ many, many = mb + mx := ⟨_, rfl⟩
    rw [← emany]
    have hm2 : pr.2 = 2 → 9 ≤ many ∧ many ≤ 12 := fun h => by have := hmb2 h; omega
    have hm3 : pr.2 = 3 → 6 ≤ many ∧ many ≤ 9 := fun h => by have := hmb3 h; omega
    have m6 : 6 ≤ many ∧ many ≤ 12 := by
      rcases (show pr.2 = 2 ∨ pr.2 = 3 by omega) with h | h
      · have := hm2 h
        omega
      · have := hm3 h
        omega
    clear emany hmb2 hmb3 hmb
    refine ⟨_, rfl, _, rfl, x, many, rfl, b4, by omega, by omega, fun H5 turn k5 b5 htu => ?_⟩
    have hre : turn < many := by omega
    have k05' := (k03.trans k4).trans k5
    refine ⟨le_line (show 0 ≤ 10000000 by decide), fun R hR => ?_⟩
    have hR0 := k05'.freeT b5 hR
    have hRx := b5.ne hR
    have s56 := (Same.refl H5).upd_new (o := .lst []) hR
    have R6 : (upd H5 R (.lst [])) R = some (.lst (([] : List Addr).map V.ref)) := upd_same
    have k06 := k05'.trans (Kp.same s56)
    have b6 := b5.same s56
    generalize upd H5 R (.lst []) = H6 at s56 R6 k06 b6
    intro Tb hTb nd
    have hTx := b6.ne hTb
    have hT0 := k06.freeT b6 hTb
    have s7 := (Same.refl H6).upd_new (o := NdO P w Tb []) hTb
    have k07 := k06.trans (Kp.same s7)
    have b7 := b6.same s7
    have R7 := s7 _ _ R6
    generalize upd H6 Tb (NdO P w Tb []) = H7 at s7 nd k07 b7 R7
    have nrx := hx.ne_tup hr0
    have nTs := fun {H' : Hp} (k : Kp x H H') => hT.keep (hx.tk k)
    refine ⟨_, rfl, r, rfl, ⟨_, SqT.of (k07 _ _ hr0 nrx)⟩, for_tup (xs := ts.map V.ref) (fun i σ H' => ∃ (x8 x9 x10 : Option V) (es : List REnt), σ = [some (.ref x), some (.ref r), some (.ref D1), some (.ref pu), some (.int (many : Nat)), some (.int (turn : Nat)), some (.ref R), some (.ref Tb), x8, x9, x10, none, none, none, none, none] ∧ RI P w x Tb R many turn (ksOf (rows.take i) many) es [] [] H H')
      ⟨none, none, none, [], rfl, k07, b7, nd, rfl, fun e he => (nomatch he), R7, .nil, .slnil, fun e he => (nomatch he)⟩ (fun i σ H' _ ⟨_, _, _, _, _, h⟩ => SqT.of (h.k _ _ hr0 nrx)) ?_ ?_⟩
    · rintro i v σ H8 hv ⟨x8, x9, x10, es, rfl, I6⟩
      obtain ⟨t, ht, rfl⟩ := get_map_r hv
      have hil : i < rows.length := by rw [← hT.1]; exact (List.getElem?_eq_some_iff.mp ht).1
      have hq := List.getElem?_eq_getElem hil
      have hqw := hwd _ (List.getElem_mem hil)
      generalize rows[i] = q at hq hqw
      have ht6 := (nTs I6.k).2 i t q ht hq
      have eq2 : q.2 = ((q.2.toNat : Nat) : Int) := by omega
      refine ⟨t, _, rfl, SqT.of ht6, rfl, _, _, rfl, _, _, rfl, rfl, ?_⟩
      refine ⟨_, rfl, _, rfl, many, q.2.toNat, by show [V.int _, V.int q.2] = _; rw [← eq2], by omega, by omega, fun k hk => ?_, fun H7 L s7 nL WL => ?_⟩
      · exact Nat.le_trans (Nat.pow_le_pow_left (show many ≤ 12 by omega) _) (Nat.le_trans (Nat.pow_le_pow_right (by decide) (show k ≤ 3 by omega)) (by decide))
      obtain ⟨us2, hL, PL⟩ := WL
      have PL : PlAt nI H7 us2 (wq many q) := PL
      have I7 := I6.sm s7
      have lus2 : (us2.map V.ref).length = (wq many q).length := by rw [List.length_map, PL.1]
      refine ⟨L, rfl, ⟨_, SqL.of hL⟩, for_list (xs := us2.map V.ref) (fun j σ H' => ∃ (x10 : Option V) (es : List REnt), σ = [some (.ref x), some (.ref r), some (.ref D1), some (.ref pu), some (.int (many : Nat)), some (.int (turn : Nat)), some (.ref R), some (.ref Tb), some (.str q.1), some (.int q.2), x10, none, none, none, none, none] ∧ RI P w x Tb R many turn (ksOf (rows.take i) many ++ ((wq many q).take j).map (fun s => (q.1, s))) es [] [] H H' ∧ H' L = some (.lst (us2.map V.ref)) ∧ PlAt nI H' us2 (wq many q))
        ⟨x10, es, rfl, by rw [List.take_zero, List.map_nil, List.append_nil]; exact I7, hL, PL⟩ (fun i σ H' _ ⟨_, _, _, _, h, _⟩ => SqL.of h) ?_ ?_⟩
      · rintro j v σ H9 hv ⟨x10, es, rfl, I8, L8, P8⟩
        obtain ⟨u, hu, rfl⟩ := get_map_r hv
        have hjl : j < (wq many q).length := by rw [← P8.1]; exact (List.getElem?_eq_some_iff.mp hu).1
        have hs := List.getElem?_eq_getElem hjl
        generalize (wq many q)[j] = ss at hs
        obtain ⟨rst, hrst⟩ := ks_step hq hs
        have fresh : ek ((q.1, ss, turn) : REnt) ∉ ksOf (rows.take i) many ++ ((wq many q).take j).map (fun s => (q.1, s)) := by
          have nd := ks_nd (many := many) Ro.nd
          rw [← hrst] at nd
          rw [List.nodup_append] at nd
          intro hm
          exact nd.2.2 _ hm _ List.mem_cons_self rfl
        have les : es.length ≤ 256000 := by
          have h1 := ks_lenM (show many ≤ 40 by omega) Ro
          rw [← hrst, ← I8.ks, List.length_append, List.length_map] at h1
          omega
        have hp := RM.put (I8.skip (e := (q.1, ss, turn)) rfl) hT0 (e := (q.1, ss, turn)) (P8.2 j u ss hu hs) hre fresh (by omega) (Nx := fun H12 => ∃ (x10 : Option V) (es : List REnt), [some (.ref x), some (.ref r), some (.ref D1), some (.ref pu), some (.int (many : Nat)), some (.int (turn : Nat)), some (.ref R), some (.ref Tb), some (.str q.1), some (.int q.2), some (.ref u), none, none, none, none, none] = [some (.ref x), some (.ref r), some (.ref D1), some (.ref pu), some (.int (many : Nat)), some (.int (turn : Nat)), some (.ref R), some (.ref Tb), some (.str q.1), some (.int q.2), x10, none, none, none, none, none] ∧ RI P w x Tb R many turn (ksOf (rows.take i) many ++ ((wq many q).take (j + 1)).map (fun s => (q.1, s))) es [] [] H H12 ∧ H12 L = some (.lst (us2.map V.ref)) ∧ PlAt nI H12 us2 (wq many q)) fun H12 I12 l12 t12 => ?_
        · obtain ⟨h2, hpp⟩ := hp
          refine ⟨_, rfl, _, rfl, _, rfl, _, rfl, h2, fun p hp0 => ?_⟩
          obtain ⟨a, b', kvs, k, e1, e2, e3, e4, e5, e6, e7⟩ := hpp p hp0
          exact ⟨a, b', kvs, k, e1, e2, e3, e4, e6, fun H' oth n => e7 H' oth (by rw [putK_new _ e5] at n; exact n)⟩
        · refine ⟨_, es ++ [(q.1, ss, turn)], rfl, ?_, l12 _ _ L8, P8.keep t12⟩
          rw [List.take_add_one, hs, List.map_append, ← List.append_assoc]
          exact I12
      · rintro σ H8 ⟨x10, es, rfl, I8, L8, P8⟩
        refine ⟨_, _, _, es, rfl, ?_⟩
        rw [lus2, List.take_length] at I8
        rw [ks_take hq]
        exact I8
    rintro σ H8 ⟨x8, x9, x10, es0, rfl, I8⟩
    rw [lts, List.take_length] at I8
    obtain ⟨wd, ewd⟩ : ∃ wd, wd = pr.2.toNat := ⟨_, rfl⟩
    have hwd2 : 2 ≤ wd ∧ wd ≤ 3 ∧ pr.2 = ((wd : Nat) : Int) := by omega
    have hzn : HasN rows pr.1 := ⟨pr, hpm, rfl⟩
    have hwR : wR rows pr.1 = wd := by rw [wR_of Ro hpm, ewd]
    have les : ∀ es : List REnt, es.map ek = ksOf rows many → es.length ≤ 10000 := fun es he => by
      have h1 : (es.map ek).length = _ := congrArg List.length he
      rw [List.length_map] at h1
      have : ∀ l : List Row, (∀ q ∈ l, 0 ≤ q.2 ∧ q.2 ≤ 3) → (ksOf l many).length ≤ 1728 * l.length := fun l => by
        induction l with
        | nil => intro _; exact Nat.le_refl _
        | cons q l ih =>
          intro hl
          unfold ksOf at ih ⊢
          rw [List.flatMap_cons, List.length_append, List.length_map, List.length_cons, wq_pow]
          have h1 := ih fun q hq => hl q (List.mem_cons_of_mem _ hq)
          have h2 := hl q List.mem_cons_self
          have h3 : many ^ q.2.toNat ≤ 12 ^ 3 := Nat.le_trans (Nat.pow_le_pow_left m6.2 _) (Nat.pow_le_pow_right (by decide) (by omega))
          have h4 : 12 ^ 3 = 1728 := by decide
          omega
      have := this rows hwd
      omega
    refine ⟨_, rfl, _, _, rfl, rfl, _, rfl, by omega, by omega, for_range (n := (((many : Nat) : Int) - 1).toNat) (fun d σ H' => ∃ (x11 x12 x13 : Option V) (es : List REnt) (us : List Addr), σ = [some (.ref x), some (.ref r), some (.ref D1), some (.ref pu), some (.int (many : Nat)), some (.int (turn : Nat)), some (.ref R), some (.ref Tb), x8, x9, x10, x11, x12, x13, none, none] ∧ Kp x H H' ∧ BxT H' x ∧ NdAt P w H' Tb (es.map rkv) ∧ es.map ek = ksOf rows many ∧ (∀ e ∈ es, e.2.2 < many) ∧ H' R = some (.lst (us.map V.ref)) ∧ RwAt H' us (dbR pr.1 wd many turn d) ∧ (∀ e ∈ dbR pr.1 wd many turn d, e ∈ es) ∧ (∀ e ∈ es, e ∈ dbR pr.1 wd many turn d ∨ e.2.2 = turn))
      ⟨none, none, none, es0, [], rfl, I8.k, I8.b, I8.t, I8.ks, I8.lt, I8.r, .nil, (fun e he => nomatch he), fun e he => .inr ((I8.al e he).resolve_left (fun h => nomatch h))⟩ ?_ ?_⟩
    · rintro d σ H9 hd ⟨x11, x12, x13, es, us, rfl, k9, b9, n9, ks9, lt9, R9, rw9, sb9, al9⟩
      have hdm : d < many - 1 := by omega
      have p9 := k9 _ _ hpt npu
      have m1p : 0 < many := by omega
      have es1 : ((0 : Int) + ((d : Nat) : Int) + ((turn : Nat) : Int)) % ((many : Nat) : Int) = (((d + turn) % many : Nat) : Int) := by
        rw [Int.natCast_emod, show (0 : Int) + ((d : Nat) : Int) + ((turn : Nat) : Int) = ((d + turn : Nat) : Int) by omega]
      have es2 : ((0 : Int) + ((d : Nat) : Int) + ((turn : Nat) : Int) + 1) % ((many : Nat) : Int) = (((d + turn + 1) % many : Nat) : Int) := by
        rw [Int.natCast_emod, show (0 : Int) + ((d : Nat) : Int) + ((turn : Nat) : Int) + 1 = ((d + turn + 1 : Nat) : Int) by omega]
      refine ⟨_, rfl, _, rfl, _, _, rfl, rfl, .inl ⟨_, rfl, ?_⟩⟩
      refine ⟨_, rfl, _, _, rfl, rfl, by omega, ?_⟩
      show gName 12 (V.int (((0 : Int) + ((d : Nat) : Int) + ((turn : Nat) : Int)) % ((many : Nat) : Int))) _ _ _
      rw [es1]
      refine ⟨_, rfl, _, rfl, _, _, rfl, rfl, _, _, rfl, rfl, .inl ⟨_, rfl, ?_⟩⟩
      refine ⟨_, rfl, _, _, rfl, rfl, by omega, ?_⟩
      show gName 13 (V.int (((0 : Int) + ((d : Nat) : Int) + ((turn : Nat) : Int) + 1) % ((many : Nat) : Int))) _ _ _
      rw [es2]
      have hst : (d + turn) % many < many := Nat.mod_lt _ m1p
      have haf : (d + turn + 1) % many < many := Nat.mod_lt _ m1p
      have new : ∀ e ∈ dbR pr.1 wd many turn d, ek e ≠ (pr.1, List.replicate wd ((d + turn) % many)) := fun e he hk => by
        obtain ⟨d', hd', rfl⟩ := List.mem_map.mp he
        have hd' := List.mem_range.mp hd'
        have := mod_inj (by omega) (by omega) (rep_inj (by omega) (Prod.mk.inj hk).2)
        omega
      have hkey : ek ((pr.1, List.replicate wd ((d + turn) % many), (d + turn + 1) % many) : REnt) ∈ es.map ek := by
        rw [ks9]
        exact (ks_has Ro).mpr ⟨hzn, by rw [List.length_replicate, hwR], fun s hs => by rw [List.eq_of_mem_replicate hs]; exact hst⟩
      have hds := dbR_succ pr.1 wd many turn d
      generalize he : ((pr.1, List.replicate wd ((d + turn) % many), (d + turn + 1) % many) : REnt) = e at hkey hds
      generalize (d + turn) % many = st at hst he new
      generalize (d + turn + 1) % many = af at haf he
      have lus : us.length ≤ 100 := by
        rw [rw9.1]
        unfold dbR
        rw [List.length_map, List.length_range]
        omega
      refine ⟨_, rfl, .inl ⟨rfl, _, SqL.of R9⟩, _, rfl, pu, _, _, _, rfl, rfl, SqT.of p9, atI_nat (j := 0) rfl, _, rfl, le_line (show 1 ≤ 10000000 by decide), fun t1 ht1 => ?_⟩
      have s10 := (Same.refl H9).upd_new (o := .tup [.int ((st : Nat) : Int)]) ht1
      have t10 : (upd H9 t1 (.tup [.int ((st : Nat) : Int)])) t1 = some (.tup [.int ((st : Nat) : Int)]) := upd_same
      generalize upd H9 t1 (.tup [.int ((st : Nat) : Int)]) = H10 at s10 t10
      refine ⟨_, rfl, pu, _, _, _, rfl, rfl, SqT.of (s10 _ _ p9), atI_nat (j := 1) rfl, t1, pr.2, _, rfl, rfl, SqT.of t10, (fun h => nomatch h), by omega, by omega, by show 1 ≤ 100; decide, (fun h => by omega), fun _ t2 ht2 => ?_⟩
      rw [hwd2.2.2, Int.toNat_natCast, nI_rep]
      have s11 := s10.trans ((Same.refl H10).upd_new (o := .tup (nI (List.replicate wd st))) ht2)
      have t11 : (upd H10 t2 (.tup (nI (List.replicate wd st)))) t2 = some (.tup (nI (List.replicate wd st))) := upd_same
      generalize upd H10 t2 (.tup (nI (List.replicate wd st))) = H11 at s11 t11
      refine ⟨_, rfl, le_line (show 3 ≤ 10000000 by decide), fun v hv => ?_⟩
      have s12 := s11.trans ((Same.refl H11).upd_new (o := .tup [.str pr.1, .ref t2, .int ((af : Nat) : Int)]) hv)
      have v12 : (upd H11 v (.tup [.str pr.1, .ref t2, .int ((af : Nat) : Int)])) v = some (.tup [.str pr.1, .ref t2, .int ((af : Nat) : Int)]) := upd_same
      have t12 : (upd H11 v (.tup [.str pr.1, .ref t2, .int ((af : Nat) : Int)])) t2 = some (.tup (nI (List.replicate wd st))) := by rw [upd_ne (ne_of_none t11 hv)]; exact t11
      generalize upd H11 v (.tup [.str pr.1, .ref t2, .int ((af : Nat) : Int)]) = H12 at s12 v12 t12
      refine ⟨R, _, _, rfl, rfl, s12 _ _ R9, by rw [List.length_map]; exact lt_line (by omega), ?_⟩
      have R13 : (upd H12 R (.lst (us.map V.ref ++ [.ref v]))) R = some (.lst ((us ++ [v]).map V.ref)) := by rw [upd_same, List.map_append]; rfl
      have tk13 : ∀ (t : Addr) (ys : List V), H12 t = some (.tup ys) → (upd H12 R (.lst (us.map V.ref ++ [.ref v]))) t = some (.tup ys) := fun t ys h => by rw [upd_ne (ne_of h (s12 _ _ R9) (fun e => nomatch e))]; exact h
      have rw13 : RwAt (upd H12 R (.lst (us.map V.ref ++ [.ref v]))) (us ++ [v]) (dbR pr.1 wd many turn (d + 1)) := by
        rw [hds]
        exact ((rw9.keep (fun _ _ q => s12 _ _ q)).keep tk13).snoc (by rw [← he]; exact tk13 _ _ v12) (by rw [← he]; exact tk13 _ _ t12)
      have k13 : Kp x H (upd H12 R (.lst (us.map V.ref ++ [.ref v]))) := (k9.trans (Kp.same s12)).upd_own hR0
      have b13 : BxT (upd H12 R (.lst (us.map V.ref ++ [.ref v]))) x := (b9.same s12).upd_ne hRx
      have n13 : NdAt P w (upd H12 R (.lst (us.map V.ref ++ [.ref v]))) Tb (es.map rkv) := (n9.sm s12).upd_l (s12 _ _ R9)
      generalize upd H12 R (.lst (us.map V.ref ++ [.ref v])) = H13 at R13 rw13 k13 b13 n13
      have p13 := k13 _ _ hpt npu
      refine ⟨_, rfl, _, rfl, _, rfl, pu, _, _, _, rfl, rfl, SqT.of p13, atI_nat (j := 0) rfl, _, rfl, le_line (show 1 ≤ 10000000 by decide), fun t3 ht3 => ?_⟩
      have s14 := (Same.refl H13).upd_new (o := .tup [.int ((st : Nat) : Int)]) ht3
      have t14 : (upd H13 t3 (.tup [.int ((st : Nat) : Int)])) t3 = some (.tup [.int ((st : Nat) : Int)]) := upd_same
      generalize upd H13 t3 (.tup [.int ((st : Nat) : Int)]) = H14 at s14 t14
      refine ⟨_, rfl, pu, _, _, _, rfl, rfl, SqT.of (s14 _ _ p13), atI_nat (j := 1) rfl, t3, pr.2, _, rfl, rfl, SqT.of t14, (fun h => nomatch h), by omega, by omega, by show 1 ≤ 100; decide, (fun h => by omega), fun _ t4 ht4 => ?_⟩
      rw [hwd2.2.2, Int.toNat_natCast, nI_rep]
      have s15 := s14.trans ((Same.refl H14).upd_new (o := .tup (nI (List.replicate wd st))) ht4)
      have t15 : (upd H14 t4 (.tup (nI (List.replicate wd st)))) t4 = some (.tup (nI (List.replicate wd st))) := upd_same
      generalize upd H14 t4 (.tup (nI (List.replicate wd st))) = H15 at s15 t15
      refine ⟨le_line (show 2 ≤ 10000000 by decide), fun p hp => ?_⟩
      have s16 := s15.trans ((Same.refl H15).upd_new (o := .tup [.str pr.1, .ref t4]) hp)
      have p16 : (upd H15 p (.tup [.str pr.1, .ref t4])) p = some (.tup [.str pr.1, .ref t4]) := upd_same
      have t16 : (upd H15 p (.tup [.str pr.1, .ref t4])) t4 = some (.tup (nI (List.replicate wd st))) := by rw [upd_ne (ne_of_none t15 hp)]; exact t15
      generalize upd H15 p (.tup [.str pr.1, .ref t4]) = H16 at s16 p16 t16
      have n16 := n13.sm s16
      refine ⟨Tb, p, _, nkR (ek e), rfl, rfl, n16, ⟨t4, by rw [← he]; exact p16, by rw [t16, nI_key, ← he]; rfl⟩, by rw [List.length_map]; have := les es ks9; exact lt_line (by omega), fun H17 oth n17 => ?_⟩
      have tk17 : ∀ (t : Addr) (ys : List V), H16 t = some (.tup ys) → H17 t = some (.tup ys) := fun t ys q => by rw [oth t (n16.ne_tup q)]; exact q
      have n17 : NdAt P w H17 Tb ((upE es e).map rkv) := by
        rw [← upE_put hkey, ← he]
        rw [← he] at n17
        exact n17
      refine ⟨_, _, _, upE es e, us ++ [v], rfl, (k13.trans (Kp.same s16)).but hT0 oth, ?_, n17, by rw [upE_ek, ks9], fun y hy => ?_, ?_, (rw13.keep (fun _ _ q => s16 _ _ q)).keep tk17, fun y hy => ?_, fun y hy => ?_⟩
      · obtain ⟨a, b, c, hh⟩ := b13.same s16
        exact ⟨a, b, c, by rw [oth x (fun e => by rw [e] at hh; exact n16.ne_lst hh rfl)]; exact hh⟩
      · rcases upE_mem hy with h | h
        · rw [h, ← he]
          exact haf
        · exact lt9 y h.1
      · have := s16 _ _ R13
        rw [oth R (fun e => by rw [e] at this; exact n16.ne_lst this rfl)]
        exact this
      · rw [hds] at hy
        rcases List.mem_append.mp hy with h | h
        · exact upE_old (sb9 y h) (by rw [← he]; exact new y h)
        · rw [List.mem_singleton.mp h]
          exact upE_new hkey
      · rw [hds]
        rcases upE_mem hy with h | h
        · exact .inl (List.mem_append_right _ (List.mem_singleton.mpr h))
        · rcases al9 y h.1 with g | g
          · exact .inl (List.mem_append_left _ g)
          · exact .inr g
    rintro σ H9 ⟨x11, x12, x13, es, us, rfl, k9, b9, n9, ks9, lt9, R9, rw9, sb9, al9⟩
    have p9 := k9 _ _ hpt npu
    refine ⟨_, rfl, _, rfl, _, _, rfl, rfl, _, _, rfl, rfl, .inl ⟨_, rfl, ?_⟩⟩
    refine ⟨_, rfl, _, _, rfl, rfl, by omega, ?_⟩
    have elast : (((turn : Nat) : Int) + ((many : Nat) : Int) - 1) % ((many : Nat) : Int) = (((turn + many - 1) % many : Nat) : Int) := by
      rw [Int.natCast_emod, show ((turn : Nat) : Int) + ((many : Nat) : Int) - 1 = ((turn + many - 1 : Nat) : Int) by omega]
    show gName 14 (V.int ((((turn : Nat) : Int) + ((many : Nat) : Int) - 1) % ((many : Nat) : Int))) _ _ _
    rw [elast]
    have hla : (turn + many - 1) % many < many := Nat.mod_lt _ (by omega)
    generalize (turn + many - 1) % many = la at hla
    refine ⟨_, rfl, le_line (show 1 ≤ 10000000 by decide), fun a1 ha1 => ?_⟩
    have q1 := (Same.refl H9).upd_new (o := .tup (nI [la])) ha1
    have P1 : PlAt nI (upd H9 a1 (.tup (nI [la]))) [a1] [[la]] := .one upd_same
    show tTup tNil _ (upd H9 a1 (.tup (nI [la]))) _
    generalize upd H9 a1 (.tup (nI [la])) = G1 at q1 P1
    refine ⟨le_line (show 0 ≤ 10000000 by decide), fun a2 ha2 => ?_⟩
    have q2 := q1.trans ((Same.refl G1).upd_new (o := .tup (nI [])) ha2)
    have P2 : PlAt nI (upd G1 a2 (.tup (nI []))) [a1, a2] [[la], []] := (P1.keep fun _ _ h => ((Same.refl G1).upd_new (o := .tup (nI [])) ha2) _ _ h).snoc (ts := [a1]) (xs := [[la]]) upd_same
    show tTupRg _ _ (upd G1 a2 (.tup (nI []))) _
    generalize upd G1 a2 (.tup (nI [])) = G2 at q2 P2
    refine ⟨_, rfl, _, rfl, .of_le (by decide) (by omega) (by decide) (by omega), fun a3 ha3 => ?_⟩
    rw [rgV_nI]
    have q3 := q2.trans ((Same.refl G2).upd_new (o := .tup (nI (List.range many))) ha3)
    have P3 : PlAt nI (upd G2 a3 (.tup (nI (List.range many)))) [a1, a2, a3] [[la], [], List.range many] := (P2.keep fun _ _ h => ((Same.refl G2).upd_new (o := .tup (nI (List.range many))) ha3) _ _ h).snoc (ts := [a1, a2]) (xs := [[la], []]) upd_same
    generalize upd G2 a3 (.tup (nI (List.range many))) = G3 at q3 P3
    refine ⟨_, rfl, le_line (show 1 ≤ 10000000 by decide), fun a4 ha4 => ?_⟩
    have q4 := q3.trans ((Same.refl G3).upd_new (o := .tup (nI [turn])) ha4)
    have P4 : PlAt nI (upd G3 a4 (.tup (nI [turn]))) [a1, a2, a3, a4] [[la], [], List.range many, [turn]] := (P3.keep fun _ _ h => ((Same.refl G3).upd_new (o := .tup (nI [turn])) ha4) _ _ h).snoc (ts := [a1, a2, a3]) (xs := [[la], [], List.range many]) upd_same
    show tTup _ _ (upd G3 a4 (.tup (nI [turn]))) _
    generalize upd G3 a4 (.tup (nI [turn])) = G4 at q4 P4
    refine ⟨_, rfl, le_line (show 1 ≤ 10000000 by decide), fun a5 ha5 => ?_⟩
    have q5 := q4.trans ((Same.refl G4).upd_new (o := .tup (nI [la])) ha5)
    have P5 : PlAt nI (upd G4 a5 (.tup (nI [la]))) [a1, a2, a3, a4, a5] [[la], [], List.range many, [turn], [la]] := (P4.keep fun _ _ h => ((Same.refl G4).upd_new (o := .tup (nI [la])) ha5) _ _ h).snoc (ts := [a1, a2, a3, a4]) (xs := [[la], [], List.range many, [turn]]) upd_same
    show tCallR _ _ _ _ (upd G4 a5 (.tup (nI [la]))) _
    generalize upd G4 a5 (.tup (nI [la])) = G5 at q5 P5
    have b05 := b9.same q5
    refine ⟨_, rfl, _, rfl, x, many, rfl, b05, by omega, fun G6 a6 ms k6' b6' hM pwM mlM => ?_⟩
    have P6 : PlAt nI G6 [a1, a2, a3, a4, a5, a6] [[la], [], List.range many, [turn], [la], ms] := (P5.keep (b05.tk k6')).snoc (ts := [a1, a2, a3, a4, a5]) (xs := [[la], [], List.range many, [turn], [la]]) hM
    have fok : ∀ l ∈ [[la], [], List.range many, [turn], [la], ms], l.Pairwise (· < ·) ∧ ∀ m ∈ l, m < many := fun l hl => by
      simp only [List.mem_cons, List.not_mem_nil, or_false] at hl
      rcases hl with rfl | rfl | rfl | rfl | rfl | rfl
      · exact ⟨List.pairwise_singleton _ _, fun m hm => by rw [List.mem_singleton.mp hm]; exact hla⟩
      · exact ⟨List.Pairwise.nil, fun m hm => nomatch hm⟩
      · exact ⟨List.pairwise_lt_range, fun m hm => List.mem_range.mp hm⟩
      · exact ⟨List.pairwise_singleton _ _, fun m hm => by rw [List.mem_singleton.mp hm]; exact hre⟩
      · exact ⟨List.pairwise_singleton _ _, fun m hm => by rw [List.mem_singleton.mp hm]; exact hla⟩
      · exact ⟨pwM, mlM⟩
    generalize hfl : [[la], [], List.range many, [turn], [la], ms] = fl at P6 fok
    have lfl : fl.length = 6 := by rw [← hfl]; rfl
    refine ⟨le_line (show 6 ≤ 10000000 by decide), fun l6 hl6 => ?_⟩
    have q6 := (Same.refl G6).upd_new (o := .lst ([a1, a2, a3, a4, a5, a6].map V.ref)) hl6
    have L7 : (upd G6 l6 (.lst ([a1, a2, a3, a4, a5, a6].map V.ref))) l6 = some (.lst ([a1, a2, a3, a4, a5, a6].map V.ref)) := upd_same
    show tCallR _ _ _ _ (upd G6 l6 (.lst ([a1, a2, a3, a4, a5, a6].map V.ref))) _
    generalize upd G6 l6 (.lst ([a1, a2, a3, a4, a5, a6].map V.ref)) = G7 at q6 L7
    have P7 := P6.keep fun _ _ h => q6 _ _ h
    have b7 := b6'.same q6
    have nl6 : l6 ≠ x := b6'.ne hl6
    refine ⟨_, rfl, x, 6, rfl, b7, by decide, by decide, fun G8 ti k8 b8 hti => ?_⟩
    have P8 := P7.keep (b7.tk k8)
    generalize hul : [a1, a2, a3, a4, a5, a6] = ul at P8 L7
    have lul : ul.length = 6 := by rw [← hul]; rfl
    have hti' : ti < 6 := by omega
    have hau := List.getElem?_eq_getElem (show ti < ul.length by omega)
    have hml := List.getElem?_eq_getElem (show ti < fl.length by omega)
    have fok' := fok _ (List.getElem_mem (show ti < fl.length by omega))
    generalize ul[ti]'(by omega) = tM at hau
    generalize fl[ti]'(by omega) = mk at hml fok'
    have tM8 := P8.2 ti tM mk hau hml
    have k98 : Kp x H9 G8 := (Kp.same q5).trans (k6'.trans ((Kp.same q6).trans k8))
    refine ⟨l6, _, _, _, rfl, rfl, SqL.of (k8 _ _ L7 nl6), at_ofG (j := ti) rfl (by rw [List.getElem?_map, hau]; rfl), ?_⟩
    have R98 := k98 _ _ R9 hRx
    have rw98 := rw9.keep (b9.tk k98)
    have n98 := n9.kx b9 k98
    have p98 := k98 _ _ p9 npu
    refine ⟨_, rfl, _, rfl, R, _, rfl, .inl ⟨SqL.of R98, fun tR htR => ?_⟩⟩
    have q9 := (Same.refl G8).upd_new (o := .tup (us.map V.ref)) htR
    have t9 : (upd G8 tR (.tup (us.map V.ref))) tR = some (.tup (us.map V.ref)) := upd_same
    generalize upd G8 tR (.tup (us.map V.ref)) = G9 at q9 t9
    refine ⟨_, rfl, _, rfl, _, rfl, _, rfl, le_line (show 6 ≤ 10000000 by decide), fun a ha => ?_⟩
    have q10 := (Same.refl G9).upd_new (o := .lst [.int ((many : Nat) : Int), .ref tR, .int ((turn : Nat) : Int), .ref tM, .ref Tb, .ref pu]) ha
    have q8 := q9.trans q10
    have kf : Kp x H (upd G9 a (.lst [.int ((many : Nat) : Int), .ref tR, .int ((turn : Nat) : Int), .ref tM, .ref Tb, .ref pu])) := (k9.trans k98).trans (Kp.same q8)
    refine key _ a pu pr ⟨many, turn, es, dbR pr.1 wd many turn (many - 1), mk⟩ kf (b8.same q8) ⟨show 1 ≤ many by omega, show many ≤ 40 by omega, hre, ks9, lt9, fun e he => sb9 e (by rw [show (((many : Nat) : Int) - 1).toNat = many - 1 by omega]; exact he), fun e he => ?_, ?_, ?_, fok'.1, fok'.2⟩ hpm (by omega) hm2 hm3 (by rw [ewd]) ((k9.trans k98).freeT b8 (q9.free ha)) (b8.ne (q9.free ha)) (q8 _ _ p98) ⟨tR, tM, Tb, us, upd_same, q10 _ _ t9, ?_, q8 _ _ tM8, n98.sm q8⟩
    · have := al9 e he
      rw [show (((many : Nat) : Int) - 1).toNat = many - 1 by omega] at this
      exact this
    · show ((dbR pr.1 wd many turn (many - 1)).map ek).Nodup
      unfold dbR
      rw [List.map_map, List.nodup_iff_pairwise_ne, List.pairwise_map]
      refine List.Pairwise.imp_of_mem (fun {a b} ha hb hlt e => ?_) List.pairwise_lt_range
      have ha := List.mem_range.mp ha
      have hb := List.mem_range.mp hb
      have := mod_inj (by omega) (by omega) (rep_inj (by omega) (Prod.mk.inj e).2)
      have hlt : a < b := hlt
      omega
    · show (dbR pr.1 wd many turn (many - 1)).length ≤ 10000
      unfold dbR
      rw [List.length_map, List.length_range]
      omega
    · rw [show (((many : Nat) : Int) - 1).toNat = many - 1 by omega] at rw98
      exact rw98.keep fun _ _ q => q8 _ _ q
end
end Sh
end
section
set_option Elab.async false
set_option linter.all false
set_option maxRecDepth 100000
set_option maxHeartbeats 8000000
namespace Sh
open PySem PySem.Spec PyProof.Rows L2
open C8 (pss_cut tCut)
open Evl (ixN_nat)
theorem ways_lenM {M : Nat} {ls : List (List Nat)} (h3 : ∀ l ∈ ls, l.length ≤ M) : ∀ i, i ≤ ls.length → (ways (ls.take i)).length ≤ M ^ i := fun i => by
  induction i with
  | zero => intro _; rw [List.take_zero]; exact Nat.le_refl 1
  | succ i ih =>
    intro hi
    have e := List.getElem?_eq_getElem (show i < ls.length from hi)
    rw [ways_succ e, wstep_len, Nat.pow_succ]
    exact Nat.mul_le_mul (ih (Nat.le_of_lt hi)) (h3 _ (List.getElem_mem hi))
def spRowsFrom6 : Sp := fun vs H Q _ => ∃ (B : Addr) (bs : List Addr) (ls : List (List Nat)), vs = [.ref B] ∧ H B = some (.lst (bs.map V.ref)) ∧ LsAt H bs ls ∧ ls.length ≤ 3 ∧ (∀ l ∈ ls, l.length ≤ 60) ∧ ∀ H' L, Same H H' → H L = none → WaysAt H' L (ways ls) → Q (.ref L) H'
def spAllRows6 : Sp := fun vs H Q _ => ∃ (B : Addr) (l : List Nat) (n : Nat), vs = [.ref B, .int (n : Nat)] ∧ H B = some (.lst (nI l)) ∧ n ≤ 3 ∧ l.length ≤ 60 ∧ ∀ H' L, Same H H' → H L = none → WaysAt H' L (ways (List.replicate n l)) → Q (.ref L) H'
/-- the rows in which the last number stands -/
def rwP (last many place : Nat) : List (List Nat) := (ways (List.replicate place (List.range last))).flatMap fun r => (ways (List.replicate (many - 1 - place) (List.range (last + 1)))).map fun s => r ++ [last] ++ s
def rwW (last many : Nat) : List (List Nat) := (List.range many).flatMap (rwP last many)
theorem rep_mem {n : Nat} {l ss : List Nat} : ss ∈ ways (List.replicate n l) ↔ ss.length = n ∧ ∀ s ∈ ss, s ∈ l := by
  rw [ways_mem, List.length_replicate]
  constructor
  · rintro ⟨h1, h2⟩
    refine ⟨h1, fun s hs => ?_⟩
    obtain ⟨i, hi, e⟩ := List.mem_iff_getElem.mp hs
    exact h2 i s l (by rw [List.getElem?_eq_getElem hi, e]) (by rw [List.getElem?_replicate, if_pos (by omega)])
  · rintro ⟨h1, h2⟩
    refine ⟨h1, fun i s l' hs hl => ?_⟩
    rw [List.getElem?_replicate] at hl
    split at hl
    · injection hl with hl
      rw [← hl]
      exact h2 s (List.mem_of_getElem? hs)
    · cases hl
theorem rwW_mem {last many : Nat} {row : List Nat} : row ∈ rwW last many ↔ row.length = many ∧ (∀ s ∈ row, s ≤ last) ∧ last ∈ row := by
  unfold rwW
  rw [List.mem_flatMap]
  constructor
  · rintro ⟨p, hp, h⟩
    have hp := List.mem_range.mp hp
    unfold rwP at h
    obtain ⟨r, hr, h⟩ := List.mem_flatMap.mp h
    obtain ⟨s, hs, rfl⟩ := List.mem_map.mp h
    obtain ⟨r1, r2⟩ := rep_mem.mp hr
    obtain ⟨s1, s2⟩ := rep_mem.mp hs
    refine ⟨by rw [List.length_append, List.length_append, r1, s1]; show p + 1 + _ = _; omega, fun x hx => ?_, by simp⟩
    rcases List.mem_append.mp hx with hx | hx
    · rcases List.mem_append.mp hx with hx | hx
      · have := List.mem_range.mp (r2 x hx)
        omega
      · rw [List.mem_singleton.mp hx]
        exact Nat.le_refl _
    · have := List.mem_range.mp (s2 x hx)
      omega
  · rintro ⟨h1, h2, h3⟩
    -- the first place of the last number
    have : ∀ row : List Nat, last ∈ row → (∀ s ∈ row, s ≤ last) → ∃ r s, row = r ++ [last] ++ s ∧ (∀ x ∈ r, x < last) ∧ ∀ x ∈ s, x ≤ last := fun row => by
      induction row with
      | nil => intro h; cases h
      | cons y row ih =>
        intro hm hle
        by_cases c : y = last
        · exact ⟨[], row, by rw [c]; rfl, (fun x hx => nomatch hx), fun x hx => hle x (List.mem_cons_of_mem _ hx)⟩
        · obtain ⟨r, s, e, a, b⟩ := ih ((List.mem_cons.mp hm).resolve_left (Ne.symm c)) fun x hx => hle x (List.mem_cons_of_mem _ hx)
          refine ⟨y :: r, s, by rw [e]; rfl, fun x hx => ?_, b⟩
          rcases List.mem_cons.mp hx with rfl | hx
          · have := hle x List.mem_cons_self
            omega
          · exact a x hx
    obtain ⟨r, s, e, a, b⟩ := this row h3 h2
    have hl : r.length + 1 + s.length = many := by
      rw [← h1, e, List.length_append, List.length_append]
      rfl
    refine ⟨r.length, List.mem_range.mpr (by omega), ?_⟩
    unfold rwP
    refine List.mem_flatMap.mpr ⟨r, rep_mem.mpr ⟨rfl, fun x hx => List.mem_range.mpr (a x hx)⟩, List.mem_map.mpr ⟨s, rep_mem.mpr ⟨by omega, fun x hx => List.mem_range.mpr (by have := b x hx; omega)⟩, e.symm⟩⟩
def spRowsWith6 : Sp := fun vs H Q _ => ∃ (last many : Nat), vs = [.int (last : Nat), .int (many : Nat)] ∧ last ≤ 50 ∧ many ≤ 3 ∧ ∀ H' L, Same H H' → H L = none → WaysAt H' L (rwW last many) → Q (.ref L) H'
abbrev N_all_rows : List Str := ["states", "many"]
theorem sc_all_rows : FnScope N_all_rows ["states", "many"] (defScope s_all_rows) := ⟨rfl, rfl, rfl, by decide +kernel, rfl, by decide +kernel, by decide +kernel⟩
abbrev N_rows_from : List Str := ["lists", "rows", "states", "row", "state"]
theorem sc_rows_from : FnScope N_rows_from ["lists"] (defScope s_rows_from) := ⟨rfl, rfl, rfl, by decide +kernel, rfl, by decide +kernel, by decide +kernel⟩
section
variable {P : Program} {w : World} {K : PySem.W.Frag} {mg : Str → Option Value} {base : Heap}
theorem ok_rows_from6 (T : Bl mg) (D : Def0 K mg "rows_from" s_rows_from) : DefOk P w K mg base CX0 1 "rows_from" spRowsFrom6 := by
  refine D.ok sc_rows_from (fun vs H Q E h => ?_) (fun _ _ _ _ _ _ us hl => match us, hl with | [_], _ => rfl) (fun f cdv A outer s' H vs Q E hr h => ?_)
  · obtain ⟨B, bs, ls, rfl, _⟩ := h
    rfl
  · obtain ⟨B, bs, ls, rfl, hB, hL, l3, ll3, k⟩ := h
    have lbs : (bs.map V.ref).length = ls.length := by rw [List.length_map, hL.1]
    refine ⟨_, (pss_cons (ps_set (i := 1) sc_rows_from.nd rfl (Or.inl rfl) (pe_lst (pa_cons (pe_tup pa_nil) pa_nil)))
      (pss_cons (ps_for PassesOwn.never rfl (pi_list (pv 0)) (pg_name (i := 2) sc_rows_from.nd rfl (Or.inr rfl))
        (pss_one (ps_setLc2 (i := 1) (own := [("row", 3), ("state", 4)]) (vs1 := [4]) (g := (gName 3)) (g1 := (gName 4)) (tt := tYes) (tt1 := tYes) rfl sc_rows_from.nd rfl rfl (sw_true rfl rfl rfl (by decide +kernel)) (pi_list (pv 1)) (blkOk_by (N := N_rows_from) (sc := defScope s_rows_from) (by decide +kernel)) (by decide) (fun _ _ _ _ _ => (pg_name (i := 3) sc_rows_from.nd rfl (Or.inl rfl))) (fun _ _ _ _ _ => pts_nil) (fun _ _ _ _ _ => (show PI _ _ _ (iList K _) from (pi_list (pv 2)))) (fun _ _ _ _ _ => (pg_name (i := 4) sc_rows_from.nd rfl (Or.inl rfl))) (fun _ _ _ _ _ => pts_nil) (fun _ _ _ _ _ => (pe_op (show OpR _ _ (rCatA K) from op_catA) (pv 3) (pe_tup (pa_cons (pv 4) pa_nil)))))))
      (pss_one (ps_ret (pv 1))))), ?_⟩
    refine ⟨le_line (show 0 ≤ 10000000 by decide), fun t ht => ?_⟩
    have s1 := (Same.refl H).upd_new (o := .tup []) ht
    have t1 : (upd H t (.tup [])) t = some (.tup (nI [])) := upd_same
    generalize upd H t (.tup []) = H1 at s1 t1
    refine ⟨le_line (show 1 ≤ 10000000 by decide), fun F hF => ?_⟩
    have s2 := s1.upd_new (o := .lst [.ref t]) hF
    have F2 : (upd H1 F (.lst [.ref t])) F = some (.lst ([t].map V.ref)) := upd_same
    have t2 : (upd H1 F (.lst [.ref t])) t = some (.tup (nI [])) := by rw [upd_ne (ne_of_none t1 hF)]; exact t1
    generalize upd H1 F (.lst [.ref t]) = H2 at s2 F2 t2
    refine ⟨_, rfl, B, rfl, ⟨_, SqL.of (s2 _ _ hB)⟩, for_list (xs := bs.map V.ref) (fun i σ H' => ∃ (x2 x3 x4 : Option V) (F : Addr), σ = [some (.ref B), some (.ref F), x2, x3, x4] ∧ Same H H' ∧ H F = none ∧ WaysAt H' F (ways (ls.take i)))
      ⟨none, none, none, F, rfl, s2, s1.free hF, [t], F2, .one t2⟩ (fun i σ H' _ ⟨_, _, _, _, _, s, _⟩ => SqL.of (s _ _ hB)) ?_ ?_⟩
    · rintro i v σ H3 hv ⟨x2, x3, x4, F3, rfl, s3, _, us, hus, hP⟩
      obtain ⟨b, hb, rfl⟩ := get_map_r hv
      have hil : i < ls.length := by rw [← hL.1]; exact (List.getElem?_eq_some_iff.mp hb).1
      have hl := List.getElem?_eq_getElem hil
      have l3' := ll3 _ (List.getElem_mem hil)
      generalize ls[i] = l at hl l3'
      have hbl := hL.2 i b l hb hl
      have lw : (ways (ls.take i)).length ≤ 4000 := Nat.le_trans (ways_lenM ll3 i (by omega)) (Nat.le_trans (Nat.pow_le_pow_right (by decide) (show i ≤ 2 by omega)) (by decide))
      have er := ways_succ hl
      have lf : ∀ z ∈ ways (ls.take i), z.length ≤ 3 := fun z hz => by
        rw [(ways_mem.mp hz).1, List.length_take]
        omega
      generalize ways (ls.take i) = f at hP lw er lf
      have lus : (us.map V.ref).length = f.length := by rw [List.length_map, hP.1]
      refine ⟨_, rfl, F3, rfl, ⟨_, SqL.of hus⟩, fun W hW => lc2_it (walk_list (xs := us.map V.ref)) (fun j H' => Same H3 H' ∧ ∃ ws : List Addr, H' W = some (.lst (ws.map V.ref)) ∧ PlAt nI H' ws (wstep (f.take j) l)) ⟨(Same.refl H3).upd_new hW, [], upd_same, .nil⟩ (fun j H' _ ⟨q, _⟩ => SqL.of (q _ _ hus)) ?_ ?_⟩
      · rintro j v H5' H5 hj ⟨s5, ws, W5, R5⟩ ⟨rfl, hv⟩
        obtain ⟨u, hu, rfl⟩ := get_map_r hv
        have hjl : j < f.length := by rw [← hP.1]; exact (List.getElem?_eq_some_iff.mp hu).1
        have hf := List.getElem?_eq_getElem hjl
        generalize f[j] = row at hf
        have hu5 := s5 _ _ (hP.2 j u row hu hf)
        have lr := lf row (List.mem_of_getElem? hf)
        refine ⟨rfl, _, rfl, b, rfl, ⟨_, SqL.of ((s3.trans s5) _ _ hbl)⟩, in_it (walk_list (xs := nI l)) (fun k H' => Same H3 H' ∧ ∃ ws : List Addr, H' W = some (.lst (ws.map V.ref)) ∧ PlAt nI H' ws (wstep (f.take j) l ++ (l.take k).map fun s => row ++ [s])) ⟨s5, ws, W5, by rw [List.take_zero, List.map_nil, List.append_nil]; exact R5⟩ (fun k H' _ ⟨q, _⟩ => SqL.of ((s3.trans q) _ _ hbl)) ?_ ?_⟩
        · rintro k v H6' H6 hk ⟨s6, ws, W6, R6⟩ ⟨rfl, hv⟩
          rw [nI_len] at hk
          have hs := List.getElem?_eq_getElem hk
          rw [nI_at hs] at hv
          injection hv with hv
          subst hv
          generalize l[k] = s at hs
          have hu6 := s6 _ _ (hP.2 j u row hu hf)
          refine ⟨rfl, _, rfl, _, rfl, le_line (show 1 ≤ 10000000 by decide), fun q hq => ?_⟩
          have s7 := (Same.refl H6).upd_new (o := .tup [.int ((s : Nat) : Int)]) hq
          have q7 : (upd H6 q (.tup [.int ((s : Nat) : Int)])) q = some (.tup [.int ((s : Nat) : Int)]) := upd_same
          generalize upd H6 q (.tup [.int ((s : Nat) : Int)]) = H7 at s7 q7
          refine catA_n (s7 _ _ hu6) q7 (by rw [nI_len]; show row.length + 1 ≤ _; omega) fun r H8 s8 hr8 => ?_
          rw [nI_snoc] at hr8
          have s68 := s7.trans s8
          have W8 := s68 _ _ W6
          have R8 := R6.keep fun t ys h => s68 _ _ h
          have ll := wstep_leM (w := row) (j := j) (k := k) hjl (Nat.le_of_lt hk) (by omega) (by omega)
          have kt : ∀ t ys, H8 t = some (.tup ys) → (upd H8 W (.lst (ws.map V.ref ++ [V.ref r]))) t = some (.tup ys) := fun t ys h => by rw [upd_ne (ne_of h W8 (fun e => nomatch e))]; exact h
          refine ⟨_, W8, by rw [List.length_map, R8.1]; exact lt_line (by omega), (s6.trans s68).upd_own hW, ws ++ [r], by rw [upd_same, List.map_append]; rfl, ?_⟩
          rw [wmap_take hs, ← List.append_assoc]
          exact (R8.snoc hr8).keep kt
        · rintro H6 ⟨s6, ws, W6, R6⟩
          refine ⟨s6, ws, W6, ?_⟩
          rw [wstep_take hf]
          rw [nI_len, List.take_length] at R6
          exact R6
      · rintro H5 ⟨s5, ws, W5, R5⟩
        rw [lus, List.take_length, ← er] at R5
        exact ⟨_, _, _, W, rfl, s3.trans s5, s3.free hW, ws, W5, R5⟩
    · rintro σ H3 ⟨x2, x3, x4, F3, rfl, s3, nF, W3⟩
      rw [lbs, List.take_length] at W3
      exact ⟨_, rfl, k _ _ s3 nF W3⟩
theorem ok_all_rows6 (T : Bl mg) (c_rows_from : DefOk P w K mg base CX0 1 "rows_from" spRowsFrom6) (D : Def0 K mg "all_rows" s_all_rows) : DefOk P w K mg base CX0 2 "all_rows" spAllRows6 := by
  refine D.ok sc_all_rows (fun vs H Q E h => ?_) (fun _ _ _ _ _ _ us hl => match us, hl with | [_, _], _ => rfl) (fun f cdv A outer s' H vs Q E hr h => ?_)
  · obtain ⟨B, l, n, rfl, _⟩ := h
    rfl
  · obtain ⟨B, l, n, rfl, hB, hn, hl, k⟩ := h
    refine ⟨_, (pss_one (ps_ret (pe_d c_rows_from (hr.mono (by decide)) pass0 (pa_cons (pe_op op_rep (pe_lst (pa_cons (pv 0) pa_nil)) (pv 1)) pa_nil)))), ?_⟩
    refine ⟨_, rfl, le_line (show 1 ≤ 10000000 by decide), fun l1 hl1 => ?_⟩
    have s1 := (Same.refl H).upd_new (o := .lst [.ref B]) hl1
    have e1 : (upd H l1 (.lst [.ref B])) l1 = some (.lst [.ref B]) := upd_same
    generalize upd H l1 (.lst [.ref B]) = H1 at s1 e1
    refine ⟨_, rfl, l1, _, _, rfl, rfl, e1, by omega, by omega, by rw [Int.toNat_natCast]; exact le_line (show 1 * n ≤ 10000000 by omega), fun p hp => ?_⟩
    rw [Int.toNat_natCast]
    have er : (List.replicate n [V.ref B]).flatten = (List.replicate n B).map V.ref := by
      rw [List.map_replicate]
      clear k hn s1 e1
      induction n with
      | zero => rfl
      | succ n ih => rw [List.replicate_succ, List.flatten_cons, ih, List.replicate_succ]; rfl
    rw [er]
    have s2 := s1.trans ((Same.refl H1).upd_new (o := .lst ((List.replicate n B).map V.ref)) hp)
    refine ⟨p, List.replicate n B, List.replicate n l, rfl, upd_same, ⟨by rw [List.length_replicate, List.length_replicate], fun i b l' h1 h2 => ?_⟩, by rw [List.length_replicate]; exact hn, fun l' hl' => by rw [List.eq_of_mem_replicate hl']; exact hl, fun H' L s3 hL W => k H' L (s2.trans s3) (s2.free hL) W⟩
    rw [List.eq_of_mem_replicate (List.mem_of_getElem? h1), List.eq_of_mem_replicate (List.mem_of_getElem? h2)]
    exact s2 _ _ hB
end
abbrev N_rows_with : List Str := ["last", "many", "earlier", "found", "place", "before", "behind", "row", "rest"]
theorem sc_rows_with : FnScope N_rows_with ["last", "many"] (defScope s_rows_with) := ⟨rfl, rfl, rfl, by decide +kernel, rfl, by decide +kernel, by decide +kernel⟩
section
variable {P : Program} {w : World} {K : PySem.W.Frag} {mg : Str → Option Value} {base : Heap}
theorem ok_rows_with6 (T : Bl mg) (c_all_rows : DefOk P w K mg base CX0 2 "all_rows" spAllRows6) (D : Def0 K mg "rows_with" s_rows_with) : DefOk P w K mg base CX0 3 "rows_with" spRowsWith6 := by
  refine D.ok sc_rows_with (fun vs H Q E h => ?_) (fun _ _ _ _ _ _ us hl => match us, hl with | [_, _], _ => rfl) (fun f cdv A outer s' H vs Q E hr h => ?_)
  · obtain ⟨last, many, rfl, _⟩ := h
    rfl
  · obtain ⟨last, many, rfl, hla, hma, key⟩ := h
    refine ⟨_, (pss_cons (ps_set (i := 2) sc_rows_with.nd rfl (Or.inl rfl) (pe_listRg rfl (by rfl) T.b_list (prg_1 (by rfl) T.b_range (pv 0))))
      (pss_cons (ps_set (i := 3) sc_rows_with.nd rfl (Or.inl rfl) (pe_lst pa_nil))
      (pss_cons (ps_for PassesOwn.never rfl (pi_range1 (by rfl) T.b_range (pa_cons (pv 1) pa_nil)) (pg_name (i := 4) sc_rows_with.nd rfl (Or.inl rfl))
        (pss_cons (ps_set (i := 5) sc_rows_with.nd rfl (Or.inl rfl) (pe_d c_all_rows (hr.mono (by decide)) pass0 (pa_cons (pv 2) (pa_cons (pv 4) pa_nil))))
        (pss_cons (ps_set (i := 6) sc_rows_with.nd rfl (Or.inr rfl) (pe_d c_all_rows (hr.mono (by decide)) pass0 (pa_cons (pe_lst (StX.pa_star (pv 2) (pa_cons (pv 0) pa_nil))) (pa_cons (pe_op op_sub (pe_op op_sub (pv 1) pe_int) (pv 4)) pa_nil))))
        (pss_one (ps_expr (pe_bm PySem.F.plainAttrs_list PySem.F.slot_list_extend PySem.F.type_list_extend mt_extend (pv 3) (pa_cons (pe_lc2 (own := [("row", 7), ("rest", 8)]) (vs1 := [8]) (g := (gName 7)) (g1 := (gName 8)) (tt := tYes) (tt1 := tYes) rfl sc_rows_with.nd (pi_list (pv 5)) (blkOk_by (N := N_rows_with) (sc := defScope s_rows_with) (by decide +kernel)) (by decide) (fun _ _ _ _ _ => (pg_name (i := 7) sc_rows_with.nd rfl (Or.inl rfl))) (fun _ _ _ _ _ => pts_nil) (fun _ _ _ _ _ => (show PI _ _ _ (iList K _) from (pi_list (pv 6)))) (fun _ _ _ _ _ => (pg_name (i := 8) sc_rows_with.nd rfl (Or.inl rfl))) (fun _ _ _ _ _ => pts_nil) (fun _ _ _ _ _ => (pe_op (show OpR _ _ (rCatA K) from op_catA) (pe_op (show OpR _ _ (rCatA K) from op_catA) (pv 7) (pe_tup (pa_cons (pv 0) pa_nil))) (pv 8)))) pa_nil)))))))
      (pss_one (ps_ret (pv 3)))))), ?_⟩
    refine ⟨_, rfl, _, rfl, .of_le (by decide) (by omega) (by decide) (by omega), fun Er hEr => ?_⟩
    rw [rgV_nI]
    have s1 := (Same.refl H).upd_new (o := .lst (nI (List.range last))) hEr
    have e1 : (upd H Er (.lst (nI (List.range last)))) Er = some (.lst (nI (List.range last))) := upd_same
    generalize upd H Er (.lst (nI (List.range last))) = H1 at s1 e1
    refine ⟨le_line (show 0 ≤ 10000000 by decide), fun F hF => ?_⟩
    have hF0 := s1.free hF
    have s2 := s1.trans ((Same.refl H1).upd_new (o := .lst []) hF)
    have F2 : (upd H1 F (.lst [])) F = some (.lst (([] : List Addr).map V.ref)) := upd_same
    have e2 : (upd H1 F (.lst [])) Er = some (.lst (nI (List.range last))) := by rw [upd_ne (ne_of_none e1 hF)]; exact e1
    have nEF : Er ≠ F := ne_of_none e1 hF
    generalize upd H1 F (.lst []) = H2 at s2 F2 e2
    refine ⟨_, rfl, _, rfl, by omega, by omega, ?_⟩
    rw [Int.toNat_natCast]
    refine for_range (n := many) (fun i σ H' => ∃ (x4 x5 x6 x7 x8 : Option V) (us : List Addr), σ = [some (.int (last : Nat)), some (.int (many : Nat)), some (.ref Er), some (.ref F), x4, x5, x6, x7, x8] ∧ Same H H' ∧ H' Er = some (.lst (nI (List.range last))) ∧ H' F = some (.lst (us.map V.ref)) ∧ PlAt nI H' us ((List.range i).flatMap (rwP last many)) ∧ us.length ≤ 140000 * i)
      ⟨none, none, none, none, none, [], rfl, s2, e2, F2, .nil, Nat.zero_le _⟩ ?_ ?_
    · rintro i σ H3 hi ⟨x4, x5, x6, x7, x8, us, rfl, s3, e3, F3, P3, lu⟩
      have e0 : (0 : Int) + ((i : Nat) : Int) = ((i : Nat) : Int) := by omega
      rw [e0]
      refine ⟨_, rfl, _, rfl, Er, List.range last, i, rfl, e3, by omega, by rw [List.length_range]; omega, fun H4 B1 s4 hB1 W4 => ?_⟩
      obtain ⟨bu, hbu, Pb⟩ := W4
      have s34 := s3.trans s4
      refine ⟨_, rfl, Er, _, rfl, .inr (SqL.of (s4 _ _ e3)), _, rfl, le_line (by rw [List.length_append, nI_len, List.length_range]; show last + 1 ≤ _; omega), fun l5 hl5 => ?_⟩
      have el : nI (List.range last) ++ [V.int ((last : Nat) : Int)] = nI (List.range (last + 1)) := by rw [nI_snoc, List.range_succ]
      have s5 := (Same.refl H4).upd_new (o := .lst (nI (List.range last) ++ [V.int ((last : Nat) : Int)])) hl5
      have L5 : (upd H4 l5 (.lst (nI (List.range last) ++ [V.int ((last : Nat) : Int)]))) l5 = some (.lst (nI (List.range (last + 1)))) := by rw [upd_same, el]
      generalize upd H4 l5 (.lst (nI (List.range last) ++ [V.int ((last : Nat) : Int)])) = H5 at s5 L5
      refine ⟨_, rfl, _, _, rfl, rfl, _, rfl, _, _, rfl, rfl, l5, List.range (last + 1), many - 1 - i, ?_, L5, by omega, by rw [List.length_range]; omega, fun H6 C1 s6 hC1 W6 => ?_⟩
      · show [V.ref l5, V.int (((many : Nat) : Int) - 1 - ((i : Nat) : Int))] = _
        rw [show ((many : Nat) : Int) - 1 - ((i : Nat) : Int) = ((many - 1 - i : Nat) : Int) by omega]
      obtain ⟨cu, hcu, Pc⟩ := W6
      have s46 := s5.trans s6
      have s36 := s34.trans s46
      have hbu6 := s46 _ _ hbu
      have Pb6 := Pb.keep fun _ _ h => s46 _ _ h
      have hF6 := (s4.trans s46) _ _ F3
      have P6 := P3.keep fun _ _ h => (s4.trans s46) _ _ h
      have lbw : (ways (List.replicate i (List.range last))).length ≤ 2500 := by
        rw [ways_pow]
        exact Nat.le_trans (Nat.pow_le_pow_left hla _) (Nat.le_trans (Nat.pow_le_pow_right (by decide) (show i ≤ 2 by omega)) (by decide))
      have lprod : (ways (List.replicate i (List.range last))).length * (ways (List.replicate (many - 1 - i) (List.range (last + 1)))).length ≤ 51 * 51 := by
        rw [ways_pow, ways_pow]
        refine Nat.le_trans (Nat.mul_le_mul (Nat.pow_le_pow_left (show last ≤ 51 by omega) _) (Nat.pow_le_pow_left (show last + 1 ≤ 51 by omega) _)) ?_
        rw [← Nat.pow_add]
        exact Nat.le_trans (Nat.pow_le_pow_right (by decide) (show i + (many - 1 - i) ≤ 2 by omega)) (by decide)
      have lfb : ∀ z ∈ ways (List.replicate i (List.range last)), z.length ≤ 3 := fun z hz => by have := (rep_mem.mp hz).1; omega
      have lfc : ∀ z ∈ ways (List.replicate (many - 1 - i) (List.range (last + 1))), z.length ≤ 3 := fun z hz => by have := (rep_mem.mp hz).1; omega
      have erw : rwP last many i = (ways (List.replicate i (List.range last))).flatMap fun r => (ways (List.replicate (many - 1 - i) (List.range (last + 1)))).map fun s => r ++ [last] ++ s := rfl
      generalize ways (List.replicate i (List.range last)) = fb at Pb6 lbw lprod lfb erw
      generalize ways (List.replicate (many - 1 - i) (List.range (last + 1))) = fc at Pc lprod lfc erw
      have lbu : (bu.map V.ref).length = fb.length := by rw [List.length_map, Pb6.1]
      have lcu : (cu.map V.ref).length = fc.length := by rw [List.length_map, Pc.1]
      have cnt : ∀ j k, j < fb.length → k ≤ fc.length → ((fb.take j).flatMap (fun r => fc.map fun s => r ++ [last] ++ s)).length + k ≤ 51 * 51 := fun j k hj hk => by
        have e : ((fb.take j).flatMap (fun r => fc.map fun s => r ++ [last] ++ s)).length = j * fc.length := by
          have : ∀ g : List (List Nat), (g.flatMap (fun r => fc.map fun s => r ++ [last] ++ s)).length = g.length * fc.length := fun g => by
            induction g with
            | nil => simp
            | cons a g ih => rw [List.flatMap_cons, List.length_append, ih, List.length_map, List.length_cons, Nat.succ_mul]; omega
          rw [this, List.length_take, Nat.min_eq_left (by omega)]
        have h2 : (j + 1) * fc.length ≤ fb.length * fc.length := Nat.mul_le_mul_right _ hj
        rw [Nat.succ_mul] at h2
        omega
      refine ⟨_, rfl, .inl ⟨rfl, _, SqL.of hF6⟩, _, rfl, B1, rfl, ⟨_, SqL.of hbu6⟩, fun W hW => lc2_it (walk_list (xs := bu.map V.ref)) (fun j H' => Same H6 H' ∧ ∃ ws : List Addr, H' W = some (.lst (ws.map V.ref)) ∧ PlAt nI H' ws ((fb.take j).flatMap (fun r => fc.map fun s => r ++ [last] ++ s))) ⟨(Same.refl H6).upd_new hW, [], upd_same, .nil⟩ (fun j H' _ ⟨q, _⟩ => SqL.of (q _ _ hbu6)) ?_ ?_⟩
      · rintro j v H7' H7 hj ⟨s7, ws, W7, R7⟩ ⟨rfl, hv⟩
        obtain ⟨u, hu, rfl⟩ := get_map_r hv
        have hjl : j < fb.length := by rw [← Pb6.1]; exact (List.getElem?_eq_some_iff.mp hu).1
        have hf := List.getElem?_eq_getElem hjl
        generalize fb[j] = row at hf
        have hu7 := s7 _ _ (Pb6.2 j u row hu hf)
        have lr := lfb row (List.mem_of_getElem? hf)
        have etk : (fb.take (j + 1)).flatMap (fun r => fc.map fun s => r ++ [last] ++ s) = (fb.take j).flatMap (fun r => fc.map fun s => r ++ [last] ++ s) ++ fc.map fun s => row ++ [last] ++ s := by
          rw [List.take_add_one, hf, List.flatMap_append]
          show _ ++ (_ ++ []) = _
          rw [List.append_nil]
        refine ⟨rfl, _, rfl, C1, rfl, ⟨_, SqL.of (s7 _ _ hcu)⟩, in_it (walk_list (xs := cu.map V.ref)) (fun k H' => Same H6 H' ∧ ∃ ws : List Addr, H' W = some (.lst (ws.map V.ref)) ∧ PlAt nI H' ws ((fb.take j).flatMap (fun r => fc.map fun s => r ++ [last] ++ s) ++ (fc.take k).map fun s => row ++ [last] ++ s)) ⟨s7, ws, W7, by rw [List.take_zero, List.map_nil, List.append_nil]; exact R7⟩ (fun k H' _ ⟨q, _⟩ => SqL.of (q _ _ hcu)) ?_ ?_⟩
        · rintro k v H8' H8 hk ⟨s8, ws, W8, R8⟩ ⟨rfl, hv⟩
          obtain ⟨c, hc, rfl⟩ := get_map_r hv
          have hkl : k < fc.length := by rw [← Pc.1]; exact (List.getElem?_eq_some_iff.mp hc).1
          have hg := List.getElem?_eq_getElem hkl
          generalize fc[k] = rs at hg
          have hc8 := s8 _ _ (Pc.2 k c rs hc hg)
          have hu8 := s8 _ _ (Pb6.2 j u row hu hf)
          have lrs := lfc rs (List.mem_of_getElem? hg)
          refine ⟨rfl, _, rfl, _, rfl, le_line (show 1 ≤ 10000000 by decide), fun q hq => ?_⟩
          have s9 := (Same.refl H8).upd_new (o := .tup [.int ((last : Nat) : Int)]) hq
          have q9 : (upd H8 q (.tup [.int ((last : Nat) : Int)])) q = some (.tup [.int ((last : Nat) : Int)]) := upd_same
          generalize upd H8 q (.tup [.int ((last : Nat) : Int)]) = H9 at s9 q9
          refine catA_n (s9 _ _ hu8) q9 (by rw [nI_len]; show row.length + 1 ≤ _; omega) fun r1 H10 s10 hr1 => ?_
          rw [nI_snoc] at hr1
          have s810 := s9.trans s10
          refine ⟨_, rfl, catA_n hr1 (s810 _ _ hc8) (by rw [nI_len, nI_len, List.length_append]; show row.length + 1 + rs.length ≤ _; omega) fun r2 H11 s11 hr2 => ?_⟩
          have enn : nI (row ++ [last]) ++ nI rs = nI (row ++ [last] ++ rs) := by
            unfold nI
            rw [← List.map_append]
          rw [enn] at hr2
          have s811 := s810.trans s11
          have W11 := s811 _ _ W8
          have R11 := R8.keep fun t ys h => s811 _ _ h
          have ll := cnt j (k + 1) hjl hkl
          refine ⟨_, W11, ?_, (s8.trans s811).upd_own hW, ws ++ [r2], by rw [upd_same, List.map_append]; rfl, ?_⟩
          · rw [List.length_map, R8.1, List.length_append, List.length_map, List.length_take, Nat.min_eq_left (by omega)]
            exact lt_line (by omega)
          · rw [List.take_add_one, hg, List.map_append, ← List.append_assoc]
            exact (R11.snoc hr2).keep fun t ys h => by rw [upd_ne (ne_of h W11 (fun e => nomatch e))]; exact h
        · rintro H8 ⟨s8, ws, W8, R8⟩
          rw [lcu, List.take_length, ← etk] at R8
          exact ⟨s8, ws, W8, R8⟩
      · rintro H7 ⟨s7, ws, W7, R7⟩
        rw [lbu, List.take_length, ← erw] at R7
        have F7 := s7 _ _ hF6
        have lws : ws.length ≤ 51 * 51 := by
          rw [R7.1, erw]
          have : ∀ g : List (List Nat), (g.flatMap (fun r => fc.map fun s => r ++ [last] ++ s)).length = g.length * fc.length := fun g => by
            induction g with
            | nil => simp
            | cons a g ih => rw [List.flatMap_cons, List.length_append, ih, List.length_map, List.length_cons, Nat.succ_mul]; omega
          rw [this]
          exact lprod
        refine ⟨F, W, _, _, rfl, rfl, F7, W7, by rw [List.length_map, List.length_map]; exact le_line (by omega), ?_⟩
        have s07 := s36.trans s7
        have kt : ∀ t ys, H7 t = some (.tup ys) → (upd H7 F (.lst (us.map V.ref ++ ws.map V.ref))) t = some (.tup ys) := fun t ys h => by rw [upd_ne (ne_of h F7 (fun e => nomatch e))]; exact h
        refine ⟨_, _, _, _, _, us ++ ws, rfl, s07.upd_own hF0, by rw [upd_ne nEF]; exact ((s4.trans s46).trans s7) _ _ e3, by rw [upd_same, List.map_append], ?_, by rw [List.length_append, Nat.mul_succ]; omega⟩
        rw [List.range_succ, List.flatMap_append]
        show PlAt nI _ _ (_ ++ (rwP last many i ++ []))
        rw [List.append_nil]
        exact ((P6.keep fun t ys h => s7 _ _ h).app R7).keep kt
    · rintro σ H3 ⟨x4, x5, x6, x7, x8, us, rfl, s3, e3, F3, P3, lu⟩
      exact ⟨_, rfl, key H3 F s3 hF0 ⟨us, F3, P3⟩⟩
end
end Sh
end
section
set_option Elab.async false
set_option linter.all false
set_option maxRecDepth 100000
set_option maxHeartbeats 8000000
namespace Sh
open PySem PySem.Spec PyProof.Rows L2 NdefX
open C8 (pss_cut tCut)
open Evl (ixN_nat)
theorem rd_lk (b d m : Addr) (n o : Nat) : (rdF b n d m o).lookup ("cells" : Str) = some (.ref d) ∧ (rdF b n d m o).lookup ("otherwise" : Str) = some (.int ((o : Nat) : Int)) ∧ (rdF b n d m o).lookup ("marks" : Str) = some (.ref m) ∧ (rdF b n d m o).lookup ("bed" : Str) = some (.ref b) ∧ (rdF b n d m o).lookup ("states" : Str) = some (.int ((n : Nat) : Int)) := by
  have h1 : (("cells" : Str) == "bed") = false := by decide +kernel
  have h2 : (("cells" : Str) == "states") = false := by decide +kernel
  have h3 : (("otherwise" : Str) == "bed") = false := by decide +kernel
  have h4 : (("otherwise" : Str) == "states") = false := by decide +kernel
  have h5 : (("otherwise" : Str) == "cells") = false := by decide +kernel
  have h6 : (("otherwise" : Str) == "marks") = false := by decide +kernel
  have h7 : (("marks" : Str) == "bed") = false := by decide +kernel
  have h8 : (("marks" : Str) == "states") = false := by decide +kernel
  have h9 : (("marks" : Str) == "cells") = false := by decide +kernel
  have hA : (("states" : Str) == "bed") = false := by decide +kernel
  simp [rdF, List.lookup, h1, h2, h3, h4, h5, h6, h7, h8, h9, hA]
/-- the scope of the comprehension that a def returns as a tuple -/
def retScopeT (b : List Stmt) (d : Scope) : Scope := match b.getLast? with
  | some (.Return (some (.Call _ [.ListComp _ _ sc _] _ _)) _) => sc
  | _ => d
def rTupOf (K : PySem.W.Frag) : List V → Hp → VK → Prop := fun xs H Q => ∃ p ys, xs = [V.ref p] ∧ ((SqL K H p ys ∧ ∀ l, H l = none → Q (V.ref l) (upd H l (.tup ys))) ∨ (SqT K H p ys ∧ Q (V.ref p) H))
theorem call_tup6 {X : Cx} : CallR X (.type "tuple") (rTupOf X.K) := call_tuple_of
def dfD : RdD := ⟨0, 0, [], [], []⟩
/-- the joint state above joint states -/
def jst (Ds : List RdD) (z : Str) (bs : List (List Nat)) : List Nat := (List.range Ds.length).map fun p => (Ds.getD p dfD).stp z (bs.map fun b => b.getD p 0)
theorem jst_len (Ds : List RdD) (z : Str) (bs : List (List Nat)) : (jst Ds z bs).length = Ds.length := by
  unfold jst
  rw [List.length_map, List.length_range]
theorem jst_at {Ds : List RdD} {z : Str} {bs : List (List Nat)} {p : Nat} (h : p < Ds.length) : (jst Ds z bs).getD p 0 = (Ds.getD p dfD).stp z (bs.map fun b => b.getD p 0) := by
  unfold jst
  rw [List.getD_eq_getElem?_getD, List.getElem?_map, List.getElem?_range h]
  rfl
/-- a joint state of these readers -/
def JOk (Ds : List RdD) (j : List Nat) : Prop := j.length = Ds.length ∧ ∀ p, p < Ds.length → j.getD p 0 < (Ds.getD p dfD).many
/-- the readers' objects -/
def RdsAt (C CR : Addr) (H : Hp) (us : List Addr) (rows : List Row) (Ds : List RdD) : Prop := us.length = Ds.length ∧ ∀ (i : Nat) (u : Addr) (D : RdD), us[i]? = some u → Ds[i]? = some D → ∃ b, RdAt C CR H u b rows D
theorem RdsAt.same {C CR : Addr} {H H' : Hp} {us : List Addr} {rows : List Row} {Ds : List RdD} (x : RdsAt C CR H us rows Ds) (s : Same H H') : RdsAt C CR H' us rows Ds := ⟨x.1, fun i u D h1 h2 => by
  obtain ⟨b, h⟩ := x.2 i u D h1 h2
  exact ⟨b, h.same s⟩⟩
def spStep6 (C CR : Addr) (ws : List (Option V)) : Sp := fun vs H Q _ => ∃ (L tb : Addr) (rs us : List Addr) (rows : List Row) (Ds : List RdD) (z : Str) (bs : List (List Nat)), ws = [some (.ref L)] ∧ vs = [.str z, .ref tb] ∧ H L = some (.lst (rs.map V.ref)) ∧ RdsAt C CR H rs rows Ds ∧ ROk 4 rows ∧ (∀ D ∈ Ds, D.Ok rows) ∧ Ds.length ≤ 100 ∧ H tb = some (.tup (us.map V.ref)) ∧ PlAt nI H us bs ∧ HasN rows z ∧ bs.length = wR rows z ∧ (∀ b ∈ bs, JOk Ds b) ∧ ∀ H' t, Same H H' → H' t = some (.tup (nI (jst Ds z bs))) → Q (.ref t) H'
abbrev s_step : Stmt := match defBody s_joint_machine with
  | a :: _ => a
  | [] => s_joint_machine
abbrev N_step : List Str := ["kind", "below", "readers", "place", "reader", "joint"]
theorem sc_step : NScopeC N_step ["kind", "below"] ["readers"] (defScope s_step) := nscopeC_by (by decide +kernel)
section
variable {P : Program} {w : World} {K : PySem.W.Frag} {mg : Str → Option Value} {base : Heap} {C CR : Addr}
theorem ok_step6 (T : Bl mg) (BR : RdT K CR) {F : NF} (hF : F.scope = defScope s_step) (hF2 : F.body = defBody s_step) (hF3 : F.params = C8.fnArgs s_step) (f : Addr) : NOk P w K mg base CX0 2 f F ["kind", "below"] ["readers"] (spStep6 C CR) := by
  obtain ⟨fname, fqual, fparams, fbody, fscope, fcl, fc⟩ := F
  subst hF hF2 hF3
  refine nokC_of sc_step (fun doc pm ctv us hl => match us, hl with | [_, _], _ => rfl) (fun ws vs H Q E h => by obtain ⟨L, tb, rs, us, rows, Ds, z, bs, _, rfl, _⟩ := h; rfl) fun A outer s H vs ws Q E hr hf hc hws h => ?_
  obtain ⟨L, tb, rs, us, rows, Ds, z, bs, rfl, rfl, hL, hRs, R, hOk, l100, htb, hPl, hz, hbl, hjo, key⟩ := h
  have hu := hu_of hr
  have hw3 : bs.length ≤ 3 := by rw [hbl]; exact wR_le R z
  refine ⟨_, (pss_one (ps_ret (pe_callTy call_tuple_of (by rfl) T.b_tuple (by decide +kernel) (pa_cons (pe_lc (own := [("place", 3), ("reader", 4)]) (g := (gTup K 2 (gCons (gName 3) (gCons (gName 4) gNil)))) (tt := tYes) rfl sc_step.nd (pi_enum (by rfl) T.b_enumerate (pa_cons (pv 2) pa_nil)) (blkOk_by (N := N_step) (sc := defScope s_step) (by decide +kernel)) (fun _ _ _ _ _ => (pg_tup (by rfl) (pgs_cons (pg_name (i := 3) sc_step.nd rfl (Or.inr rfl)) (pgs_cons (pg_name (i := 4) sc_step.nd rfl (Or.inl rfl)) pgs_nil)))) (fun _ _ _ _ _ => pts_nil) (fun _ _ _ _ _ => (pe_dget2 hu (pe_dget hu (show PE _ _ (tFld K _ _) from pe_fld (pv 4) rfl) (pv 0) (fun _ _ => rfl)) (pe_callTy (show CallR _ (.type "tuple") (rTupOf K) from call_tup6) (by rfl) T.b_tuple (by decide +kernel) (pa_cons (pe_lc (own := [("joint", 5)]) (g := (gName 5)) (tt := tYes) rfl sc_step.nd (show PI _ _ _ (iTup K _) from (pi_tup (pv 1))) (blkOk_by (N := N_step) (sc := relS (retScopeT (defBody s_step) (defScope s_step)) (defScope s_step)) (by decide +kernel)) (fun _ _ _ _ _ => (pg_name (i := 5) sc_step.nd rfl (Or.inl rfl))) (fun _ _ _ _ _ => pts_nil) (fun _ _ _ _ _ => (pe_ix (show IxR _ (rIxT K) from ix_tup) (pv 5) (pv 3) (fun _ _ => rfl)))) pa_nil)) (show PE _ _ (tFld K _ _) from pe_fld (pv 4) rfl) ⟨rfl, rfl, rfl, rfl⟩))) pa_nil)))), ?_⟩
  have lrs : (rs.map V.ref).length = Ds.length := by rw [List.length_map, hRs.1]
  refine ⟨_, rfl, L, _, rfl, SqL.of hL, fun D hD => lc_it (walk_enum (xs := rs.map V.ref)) (fun i H' => Same H H' ∧ H' D = some (.lst (nI ((List.range i).map fun p => (Ds.getD p dfD).stp z (bs.map fun b => b.getD p 0))))) ⟨(Same.refl H).upd_new hD, upd_same⟩ (fun i H' _ ⟨q, _⟩ => SqL.of (q _ _ hL)) ?_ ?_⟩
  · rintro i v H1 H1' hi ⟨s1, d1⟩ ⟨p1, v1, v2, rfl, hp1, rfl, ev1, ev2⟩
    cases ev1
    obtain ⟨u, hu2, rfl⟩ := get_map_r ev2
    have hil : i < Ds.length := by rw [← hRs.1]; exact (List.getElem?_eq_some_iff.mp hu2).1
    have hDi := List.getElem?_eq_getElem hil
    have hok := hOk _ (List.getElem_mem hil)
    have egD : Ds.getD i dfD = Ds[i] := by rw [List.getD_eq_getElem?_getD, hDi]; rfl
    obtain ⟨b0, dx, dc, mt, ds, r1, r2, r3, r4⟩ := hRs.2 i u Ds[i] hu2 hDi
    have hjo' : ∀ b ∈ bs, b.length = Ds.length ∧ b.getD i 0 < Ds[i].many := fun b hb => by
      obtain ⟨h1, h2⟩ := hjo b hb
      have := h2 i hil
      rw [egD] at this
      exact ⟨h1, this⟩
    have er : ((List.range (i + 1)).map fun p => (Ds.getD p dfD).stp z (bs.map fun b => b.getD p 0)) = ((List.range i).map fun p => (Ds.getD p dfD).stp z (bs.map fun b => b.getD p 0)) ++ [(Ds[i]).stp z (bs.map fun b => b.getD i 0)] := by
      rw [List.range_succ, List.map_append]
      show _ ++ [(Ds.getD i dfD).stp z (bs.map fun b => b.getD i 0)] = _
      rw [egD]
    generalize Ds[i] = D0 at hok r1 r3 r4 hjo' er
    have s2 := s1.upd_new (o := .tup [.int ((i : Nat) : Int), .ref u]) hp1
    have p2 : (upd H1 p1 (.tup [.int ((i : Nat) : Int), .ref u])) p1 = some (.tup [.int ((i : Nat) : Int), .ref u]) := upd_same
    have d2 : (upd H1 p1 (.tup [.int ((i : Nat) : Int), .ref u])) D = some (.lst (nI ((List.range i).map fun p => (Ds.getD p dfD).stp z (bs.map fun b => b.getD p 0)))) := by rw [upd_ne (ne_of_none d1 hp1)]; exact d1
    generalize upd H1 p1 (.tup [.int ((i : Nat) : Int), .ref u]) = H2 at s2 p2 d2
    obtain ⟨g1, g2, g3, g4, g5⟩ := rd_lk b0 dc mt D0.many D0.rest
    obtain ⟨qr, hqr, eqr⟩ := id hz
    obtain ⟨kk, hk⟩ := List.mem_iff_getElem?.mp (List.mem_map.mpr ⟨qr, hqr, eqr⟩ : z ∈ rows.map (·.1))
    have hkl := (List.getElem?_eq_some_iff.mp hk).1
    have hda := List.getElem?_eq_getElem (show kk < ds.length by rw [r3.len]; exact hkl)
    generalize ds[kk]'(by rw [r3.len]; exact hkl) = a at hda
    have ha := r3.row kk z a hk hda
    have gT : ∀ {H' : Hp}, Same H H' → DGet H' dc (.str z) (some (.ref a)) := fun {H'} sH => by
      have := DGet.k (k := .inr z) (sH _ _ r3.at_)
      rw [tn_val R.nd hk hda] at this
      exact this
    refine ⟨p1, _, rfl, SqT.of p2, rfl, _, _, rfl, _, _, rfl, rfl, rfl, ?_⟩
    refine ⟨_, rfl, u, CR, dx, _, _, rfl, s2 _ _ r1, BR.cl, BR.nC, g1, _, rfl, dc, _, rfl, gT s2, a, rfl, .inr ⟨_, .of (s2 _ _ ha)⟩, ?_⟩
    refine ⟨_, rfl, tb, rfl, ⟨_, SqT.of (s2 _ _ htb)⟩, fun E1 hE1 => lc_it (walk_tup (xs := us.map V.ref)) (fun j H' => Same H2 H' ∧ H' E1 = some (.lst (nI ((bs.take j).map fun b => b.getD i 0)))) ⟨(Same.refl H2).upd_new hE1, upd_same⟩ (fun j H' _ ⟨q, _⟩ => SqT.of (q _ _ (s2 _ _ htb))) ?_ ?_⟩
    · rintro j v H3' H3 hj ⟨s3, e3⟩ ⟨rfl, hv⟩
      obtain ⟨uj, huj, rfl⟩ := get_map_r hv
      have hjl : j < bs.length := by rw [← hPl.1]; exact (List.getElem?_eq_some_iff.mp huj).1
      have hbj := List.getElem?_eq_getElem hjl
      have hbo := hjo' _ (List.getElem_mem hjl)
      generalize bs[j] = b at hbj hbo
      have hb3 := s3 _ _ (s2 _ _ (hPl.2 j uj b huj hbj))
      have hbl' : i < b.length := by rw [hbo.1]; exact hil
      clear hbo
      have hbi := List.getElem?_eq_getElem hbl'
      have egb : b.getD i 0 = b[i] := by rw [List.getD_eq_getElem?_getD, hbi]; rfl
      refine ⟨rfl, _, rfl, _, rfl, uj, _, _, _, rfl, rfl, SqT.of hb3, at_ofG (j := i) rfl (nI_at hbi), _, e3, ?_, s3.upd_own hE1, ?_⟩
      · rw [nI_len, List.length_map, List.length_take]
        exact lt_line (n := min j _) (by omega)
      · rw [upd_same, ← egb, nI_snoc, ← take_snoc hbj, List.map_append]
        rfl
    · rintro H3 ⟨s3, e3⟩
      rw [List.length_map, hPl.1, List.take_length] at e3
      refine ⟨E1, _, rfl, .inl ⟨SqL.of e3, fun t ht => ?_⟩⟩
      have s4 := s3.trans ((Same.refl H3).upd_new (o := .tup (nI (bs.map fun b => b.getD i 0))) ht)
      have t4 : (upd H3 t (.tup (nI (bs.map fun b => b.getD i 0)))) t = some (.tup (nI (bs.map fun b => b.getD i 0))) := upd_same
      generalize upd H3 t (.tup (nI (bs.map fun b => b.getD i 0))) = H4 at s4 t4
      have s24 := s2.trans s4
      have gS : ∃ o, DGet H4 a (.ref t) o ∧ o.getD (.int ((D0.rest : Nat) : Int)) = .int ((D0.stp z (bs.map fun b => b.getD i 0) : Nat) : Int) := by
        refine ⟨_, DGet.t (k := tkey (bs.map fun b => b.getD i 0)) (s24 _ _ ha) (by rw [t4, tkey_V]), ?_⟩
        rw [cz_val]
        unfold RdD.stp
        cases D0.rws.find? (fun e => decide (ek e = (z, bs.map fun b => b.getD i 0))) with
        | none => rfl
        | some e => rfl
      obtain ⟨o, gS, eo⟩ := gS
      refine ⟨_, rfl, u, CR, dx, _, _, rfl, s24 _ _ r1, BR.cl, BR.nO, g2, o, gS, ?_⟩
      refine ⟨_, s4 _ _ d2, ?_, s24.upd_own hD, ?_⟩
      · rw [nI_len, List.length_map, List.length_range]
        exact lt_line (by omega)
      · rw [upd_same, eo, nI_snoc, er]
  · rintro H1 ⟨s1, d1⟩
    rw [lrs] at d1
    refine ⟨D, _, rfl, .inl ⟨SqL.of d1, fun t ht => ?_⟩⟩
    exact key _ t (s1.upd_new ht) upd_same
end
end Sh
end
section
set_option Elab.async false
set_option linter.all false
set_option maxRecDepth 100000
set_option maxHeartbeats 8000000
namespace Sh
open PySem PySem.Spec PyProof.Rows L2 NdefX
open C8 (pss_cut tCut)
open Evl (ixN_nat)
theorem sV_len (l : List Str) : (sV l).length = l.length := List.length_map ..
def lfB (q : Row) : Bool := decide (q.2 = 0)
def leafs (rows : List Row) : List Str := (rows.filter lfB).map (·.1)
theorem leafs_snoc {rows : List Row} {i : Nat} {q : Row} (h : rows[i]? = some q) : leafs (rows.take (i + 1)) = leafs (rows.take i) ++ if q.2 = 0 then [q.1] else [] := by
  unfold leafs
  rw [List.take_add_one, h, List.filter_append, List.map_append]
  congr 1
  show (List.filter lfB [q]).map _ = _
  by_cases c : q.2 = 0
  · rw [if_pos c, List.filter_cons_of_pos (by unfold lfB; rw [c]; rfl)]
    rfl
  · rw [if_neg c, List.filter_cons_of_neg (by unfold lfB; simp [c])]
    rfl
def spLeaves (C : Addr) : Sp := fun vs H Q _ => ∃ (b : Addr) (rows : List Row), vs = [.ref b] ∧ BedAt C H b rows ∧ ROk 4 rows ∧ ∀ H' t, Same H H' → H' t = some (.tup (sV (leafs rows))) → Q (.ref t) H'
def LeavOk (P : Program) (w : World) (K : PySem.W.Frag) (mg : Str → Option Value) (base : Heap) (C : Addr) : Prop := ∃ f, Meth K C "leaves" f ∧ FnR P w K mg base CX0 1 f (spLeaves C)
theorem lk_leaves (r k w rk : Addr) : (bedF r k w rk).lookup ("leaves" : Str) = none := by
  have n : ¬ ("leaves" : Str) = "rows" ∧ ¬ ("leaves" : Str) = "kinds" ∧ ¬ ("leaves" : Str) = "widths" ∧ ¬ ("leaves" : Str) = "ranks" := by decide +kernel
  simp [bedF, List.lookup, n, beq_eq_false_iff_ne.mpr]
abbrev N_leaves : List Str := ["self", "name", "many"]
theorem sc_leaves : FnScope N_leaves ["self"] (defScope s_leaves) := ⟨rfl, rfl, rfl, by decide +kernel, rfl, by decide +kernel, by decide +kernel⟩
section
variable {P : Program} {w : World} {K : PySem.W.Frag} {mg : Str → Option Value} {base : Heap} {C : Addr}
theorem ok_leaves (T : Bl mg) (B : BedT K C) {f : Addr} {fd : FuncData} (F : FunD K "leaves" "Bed.leaves" (defArgs s_leaves) (defBody s_leaves) (defScope s_leaves) [] [] f fd) (M : Meth K C "leaves" f) : LeavOk P w K mg base C := by
  have G : FnOk P w K mg base CX0 1 f fd ["self"] (spLeaves C) := F.ok sc_leaves (fun vs H Q E h => by obtain ⟨b, rows, rfl, _⟩ := h; rfl) fun cdv A outer s H vs Q E hr h => by
    obtain ⟨b, rows, rfl, hB, R, k⟩ := h
    have r4 := R.len
    obtain ⟨dx, r, kk, ww, rk, ts, h1, h2, h3, h4, h5, h6⟩ := hB
    have lts : (ts.map V.ref).length = rows.length := by rw [List.length_map, h3.1]
    refine ⟨_, (pss_one (ps_ret (pe_callTy call_tuple_of (by rfl) T.b_tuple (by decide +kernel) (pa_cons (pe_lc (own := [("name", 1), ("many", 2)]) (g := (gTup K 2 (gCons (gName 1) (gCons (gName 2) gNil)))) rfl sc_leaves.nd (pi_tup (pe_fld (pv 0) rfl)) (blkOk_by (N := N_leaves) (sc := defScope s_leaves) (by decide +kernel)) (fun _ _ _ _ _ => (pg_tup (by rfl) (pgs_cons (pg_name (i := 1) sc_leaves.nd rfl (Or.inl rfl)) (pgs_cons (pg_name (i := 2) sc_leaves.nd rfl (Or.inl rfl)) pgs_nil)))) (fun _ _ _ _ _ => (pts_one (pt_cmpR op_eq (pv 2) pe_int (nomark _)))) (fun _ _ _ _ _ => (pv 1))) pa_nil)))), ?_⟩
    refine ⟨_, rfl, b, C, dx, _, _, rfl, h1, B.cl, B.nR, lk_rows _ _ _ _, r, rfl, ⟨_, SqT.of h2⟩, fun D hD => lc_it (walk_tup (xs := ts.map V.ref)) (fun i H' => Same H H' ∧ H' D = some (.lst (sV (leafs (rows.take i))))) ⟨(Same.refl H).upd_new hD, upd_same⟩ (fun i H' _ ⟨q, _⟩ => SqT.of (q _ _ h2)) ?_ ?_⟩
    · rintro i v H1 H2 hi ⟨q1, q2⟩ ⟨rfl, hv⟩
      obtain ⟨t, ht, rfl⟩ := get_map_r hv
      have hir : i < rows.length := by rw [← lts]; exact hi
      have hq := List.getElem?_eq_getElem hir
      have htu := q1 _ _ (h3.2 i t rows[i] ht hq)
      have el := leafs_snoc hq
      generalize rows[i] = q at hq htu el
      refine ⟨t, _, rfl, SqT.of htu, rfl, _, _, rfl, _, _, rfl, rfl, rfl, ?_⟩
      refine ⟨_, rfl, rfl, _, rfl, ite2 (fun c => ?_) (fun c => ?_)⟩
      · rw [veq] at c
        rw [if_pos (of_decide_eq_true c)] at el
        refine ⟨_, rfl, _, q2, ?_, q1.upd_own hD, ?_⟩
        · rw [sV_len]
          unfold leafs
          rw [List.length_map]
          exact lt_line (Nat.le_trans (List.length_filter_le _ _) (by rw [List.length_take]; omega))
        · rw [upd_same, el]
          unfold sV
          rw [List.map_append]
          rfl
      · rw [veq] at c
        rw [if_neg (fun e => c (decide_eq_true e)), List.append_nil] at el
        refine ⟨q1, ?_⟩
        rw [el]
        exact q2
    · rintro H1 ⟨q1, q2⟩
      rw [lts, List.take_length] at q2
      exact ⟨D, _, rfl, .inl ⟨SqL.of q2, fun p hp => k _ p (q1.upd_new hp) upd_same⟩⟩
  refine ⟨f, M, fun A' outer s H us vs Q E hr e0 r hs => G.raw (F.bindsN fun _ _ _ _ _ _ us hl => match us, hl with | [_], _ => rfl) .nil A' outer s H us vs Q E hr e0 r (by show spLeaves C (vs ++ []) H Q E; rw [List.append_nil]; exact hs)⟩
end
def numK (js : List (List Nat)) : List (List Key × V) := js.zipIdx.map fun q => (tkey q.1, V.int ((q.2 : Nat) : Int))
theorem numK_snoc (js : List (List Nat)) (j : List Nat) : numK (js ++ [j]) = numK js ++ [(tkey j, .int ((js.length : Nat) : Int))] := by
  unfold numK
  rw [List.zipIdx_append, List.map_append]
  simp
theorem numK_len (js : List (List Nat)) : (numK js).length = js.length := by
  unfold numK
  rw [List.length_map, List.length_zipIdx]
theorem numK_val {js : List (List Nat)} (nd : js.Nodup) (j : List Nat) : (j ∉ js → valV (numK js) (tkey j) = none) ∧ ∀ i : Nat, js[i]? = some j → valV (numK js) (tkey j) = some (.int ((i : Nat) : Int)) := by
  have gen : ∀ (n : Nat) (js : List (List Nat)), js.length = n → js.Nodup → ∀ j, (j ∉ js → valV (numK js) (tkey j) = none) ∧ ∀ i : Nat, js[i]? = some j → valV (numK js) (tkey j) = some (.int ((i : Nat) : Int)) := fun n => by
    induction n with
    | zero =>
      intro js hn _ j
      rw [List.eq_nil_of_length_eq_zero hn]
      exact ⟨fun _ => rfl, fun i h => by simp at h⟩
    | succ n ih =>
      intro js hn nd j
      have hne : js ≠ [] := fun e => by rw [e] at hn; cases hn
      obtain ⟨l, x, rfl⟩ : ∃ l x, js = l ++ [x] := ⟨js.dropLast, js.getLast hne, (List.dropLast_concat_getLast hne).symm⟩
      have hl : l.length = n := by
        rw [List.length_append] at hn
        have : ([x] : List (List Nat)).length = 1 := rfl
        omega
      obtain ⟨n1, _, n3⟩ := List.nodup_append.mp nd
      have nx : x ∉ l := fun h => n3 x h x (List.mem_singleton.mpr rfl) rfl
      obtain ⟨h1, h2⟩ := ih l hl n1 j
      rw [numK_snoc, valV_snoc (tkey x) (tkey j) _ _ ((ih l hl n1 x).1 nx)]
      refine ⟨fun hm => ?_, fun i hi => ?_⟩
      · rw [if_neg fun e => hm (List.mem_append_right _ (List.mem_singleton.mpr (tkey_inj e)))]
        exact h1 fun z => hm (List.mem_append_left _ z)
      · by_cases c : i < l.length
        · rw [List.getElem?_append_left c] at hi
          have hjl := List.mem_of_getElem? hi
          rw [if_neg fun e => nx (by rw [← tkey_inj e]; exact hjl)]
          exact h2 i hi
        · have hil := (List.getElem?_eq_some_iff.mp hi).1
          rw [List.length_append] at hil
          have : ([x] : List (List Nat)).length = 1 := rfl
          have ei : i = l.length := by omega
          rw [List.getElem?_append_right (by omega), ei, Nat.sub_self] at hi
          have : x = j := Option.some.inj hi
          rw [if_pos (by rw [this]), ei]
  exact gen _ js rfl nd j
structure McC (H : Hp) (d : Addr) (ns : List Str) (ds : List Addr) (cl : Str → List Nat → Option Nat) (cnt : Nat) : Prop where
  at_ : H d = some (.dK (tnL ns ds))
  len : ds.length = ns.length
  nd : ds.Nodup
  nin : d ∉ ds
  row : ∀ (i : Nat) (n : Str) (a : Addr), ns[i]? = some n → ds[i]? = some a → ∃ kv, H a = some (.dT kv) ∧ kv.length ≤ cnt ∧ ∀ r : List Nat, valV kv (tkey r) = (cl n r).map fun m => V.int ((m : Nat) : Int)
theorem McC.keep {H H' : Hp} {d : Addr} {ns : List Str} {ds : List Addr} {cl : Str → List Nat → Option Nat} {cnt : Nat} (x : McC H d ns ds cl cnt) (h1 : H' d = H d) (h2 : ∀ a ∈ ds, H' a = H a) : McC H' d ns ds cl cnt :=
  ⟨by rw [h1]; exact x.at_, x.len, x.nd, x.nin, fun i n a g1 g2 => by
    obtain ⟨kv, e, l, q⟩ := x.row i n a g1 g2
    exact ⟨kv, by rw [h2 a (List.mem_of_getElem? g2)]; exact e, l, q⟩⟩
theorem McC.same {H H' : Hp} {d : Addr} {ns : List Str} {ds : List Addr} {cl : Str → List Nat → Option Nat} {cnt : Nat} (x : McC H d ns ds cl cnt) (s : Same H H') : McC H' d ns ds cl cnt :=
  x.keep (by rw [x.at_, s _ _ x.at_]) fun a ha => by
    obtain ⟨i, hi⟩ := List.mem_iff_getElem?.mp ha
    have l := (List.getElem?_eq_some_iff.mp hi).1
    obtain ⟨kv, e, _, _⟩ := x.row i _ a (List.getElem?_eq_getElem (show i < ns.length by rw [← x.len]; exact l)) hi
    rw [e, s _ _ e]
theorem McC.put {H : Hp} {d a : Addr} {ns : List Str} {ds : List Addr} {cl : Str → List Nat → Option Nat} {cnt : Nat} (x : McC H d ns ds cl cnt) (nd : ns.Nodup) {i : Nat} {z : Str} (h1 : ns[i]? = some z) (h2 : ds[i]? = some a) :
    ∃ kv, H a = some (.dT kv) ∧ kv.length ≤ cnt ∧ ∀ (m : Nat) (r : List Nat), McC (upd H a (.dT (putK kv (tkey r) (.int ((m : Nat) : Int))))) d ns ds (fun n q => if n = z ∧ q = r then some m else cl n q) (cnt + 1) := by
  obtain ⟨kv, e, l, q⟩ := x.row i z a h1 h2
  have nDa : d ≠ a := fun e => x.nin (e ▸ List.mem_of_getElem? h2)
  refine ⟨kv, e, l, fun m r => ⟨by rw [upd_ne nDa]; exact x.at_, x.len, x.nd, x.nin, fun j n b g1 g2 => ?_⟩⟩
  by_cases c : j = i
  · subst c
    rw [h1] at g1
    cases g1
    rw [h2] at g2
    cases g2
    refine ⟨_, upd_same, Nat.le_trans (length_putK _ _ _) (Nat.succ_le_succ l), fun r' => ?_⟩
    rw [valV_put]
    by_cases cr : r' = r
    · rw [if_pos (by rw [cr]), if_pos ⟨rfl, cr⟩]
      rfl
    · rw [if_neg (fun e => cr (tkey_inj e)), if_neg (fun e => cr e.2), q r']
  · have nb : b ≠ a := fun q => by
      have l1 := (List.getElem?_eq_some_iff.mp g2)
      have l2 := (List.getElem?_eq_some_iff.mp h2)
      exact c ((List.getElem_inj x.nd).mp (l1.2.trans (q.trans l2.2.symm)))
    have nm : n ≠ z := fun q => c (nd_at nd (q ▸ g1) h1)
    obtain ⟨kv', e', l', q'⟩ := x.row j n b g1 g2
    refine ⟨kv', by rw [upd_ne nb]; exact e', Nat.le_succ_of_le l', fun r' => ?_⟩
    rw [if_neg fun e => nm e.1]
    exact q' r'
def macF (b l dn dc : Addr) : List (Str × V) := [("bed", .ref b), ("joints", .ref l), ("numbers", .ref dn), ("cells", .ref dc)]
theorem m_ne : ¬ ("bed" : Str) = "joints" ∧ ¬ ("bed" : Str) = "numbers" ∧ ¬ ("bed" : Str) = "cells" ∧ ¬ ("joints" : Str) = "numbers" ∧ ¬ ("joints" : Str) = "cells" ∧ ¬ ("numbers" : Str) = "cells" := by decide +kernel
theorem mac_put2 (b l : Addr) : putF "joints" (.ref l) [("bed", .ref b)] = [(("bed" : Str), V.ref b), ("joints", .ref l)] := by simp [putF, m_ne]
theorem mac_put3 (b l dn : Addr) : putF "numbers" (.ref dn) [("bed", .ref b), ("joints", .ref l)] = [(("bed" : Str), V.ref b), ("joints", .ref l), ("numbers", .ref dn)] := by simp [putF, m_ne]
theorem mac_put4 (b l dn dc : Addr) : putF "cells" (.ref dc) [("bed", .ref b), ("joints", .ref l), ("numbers", .ref dn)] = macF b l dn dc := by simp [putF, m_ne, macF]
theorem mac_lk (b l dn dc : Addr) : (macF b l dn dc).lookup ("bed" : Str) = some (.ref b) ∧ (macF b l dn dc).lookup ("joints" : Str) = some (.ref l) ∧ (macF b l dn dc).lookup ("numbers" : Str) = some (.ref dn) ∧ (macF b l dn dc).lookup ("cells" : Str) = some (.ref dc) ∧ (macF b l dn dc).lookup ("number_for" : Str) = none := by
  have h1 : (("joints" : Str) == "bed") = false := by decide +kernel
  have h2 : (("numbers" : Str) == "bed") = false := by decide +kernel
  have h3 : (("numbers" : Str) == "joints") = false := by decide +kernel
  have h4 : (("cells" : Str) == "bed") = false := by decide +kernel
  have h5 : (("cells" : Str) == "joints") = false := by decide +kernel
  have h6 : (("cells" : Str) == "numbers") = false := by decide +kernel
  have h7 : (("number_for" : Str) == "bed") = false := by decide +kernel
  have h8 : (("number_for" : Str) == "joints") = false := by decide +kernel
  have h9 : (("number_for" : Str) == "numbers") = false := by decide +kernel
  have hA : (("number_for" : Str) == "cells") = false := by decide +kernel
  simp [macF, List.lookup, h1, h2, h3, h4, h5, h6, h7, h8, h9, hA]
structure McT (K : PySem.W.Frag) (CM : Addr) : Prop where
  cl : Cls K CM
  nB : NoAttr K CM "bed"
  nJ : NoAttr K CM "joints"
  nN : NoAttr K CM "numbers"
  nC : NoAttr K CM "cells"
structure MnA (CM : Addr) (H : Hp) (m b lj dn dc : Addr) (jus : List Addr) (js : List (List Nat)) : Prop where
  o : ∃ dx, H m = some (.ins CM dx (macF b lj dn dc))
  j : H lj = some (.lst (jus.map V.ref))
  jp : PlAt nI H jus js
  n : H dn = some (.dT (numK js))
theorem MnA.same {CM : Addr} {H H' : Hp} {m b lj dn dc : Addr} {jus : List Addr} {js : List (List Nat)} (x : MnA CM H m b lj dn dc jus js) (s : Same H H') : MnA CM H' m b lj dn dc jus js := by
  obtain ⟨dx, o⟩ := x.o
  exact ⟨⟨dx, s _ _ o⟩, s _ _ x.j, x.jp.keep fun _ _ h => s _ _ h, s _ _ x.n⟩
def spNum6 (CM : Addr) : Sp := fun vs H Q _ => ∃ (m t b lj dn dc : Addr) (jus : List Addr) (js : List (List Nat)) (j : List Nat), vs = [.ref m, .ref t] ∧ MnA CM H m b lj dn dc jus js ∧ H t = some (.tup (nI j)) ∧ js.Nodup ∧ js.length ≤ 40 ∧ (j ∉ js → js.length < 40) ∧
  ∀ (H' : Hp) (jus' : List Addr) (js' : List (List Nat)) (i : Nat), (∀ b o, H b = some o → b ≠ lj → b ≠ dn → H' b = some o) → MnA CM H' m b lj dn dc jus' js' → js'[i]? = some j → ((js' = js ∧ j ∈ js) ∨ (js' = js ++ [j] ∧ j ∉ js)) → Q (.int (i : Nat)) H'
def NumOk (P : Program) (w : World) (K : PySem.W.Frag) (mg : Str → Option Value) (base : Heap) (CM : Addr) : Prop := ∃ f, Meth K CM "number_for" f ∧ FnR P w K mg base CX0 1 f (spNum6 CM)
abbrev N_Machine_number_for : List Str := ["self", "joint"]
theorem sc_Machine_number_for : FnScope N_Machine_number_for ["self", "joint"] (defScope s_Machine_number_for) := ⟨rfl, rfl, rfl, by decide +kernel, rfl, by decide +kernel, by decide +kernel⟩
section
variable {P : Program} {w : World} {K : PySem.W.Frag} {mg : Str → Option Value} {base : Heap} {C CM : Addr}
theorem body_num6 (T : Bl mg) (c_MOST_STATES : ∃ t, mg "MOST_STATES" = some (.int 40 t)) (BM : McT K CM) {f0 : Addr} {cdv : Value} {A' : Around} {outer : List Env} {s' : Shared} {H : Hp} {vs : List V} {Q : VK} {E : XK} (hr : Room 0 (A'.deeper (envOfC "Machine.number_for" (defScope s_Machine_number_for) s'.heap.objs.size f0 cdv))) (h : spNum6 CM vs H Q E) :
    ∃ t, PSs (cxOf CX0 P w K mg base N_Machine_number_for "Machine.number_for" (defScope s_Machine_number_for) f0 cdv A' outer s' H E).nox (defBody s_Machine_number_for) t ∧ t { nx := fun _ H' => Q .non H', rt := Q } (start N_Machine_number_for vs) H := by
  obtain ⟨m, t, b, lj, dn, dc, jus, js, j, rfl, hM, ht, nd, l40, lt40, key⟩ := h
  have hu := hu_of hr
  obtain ⟨g1, g2, g3, g4, g5⟩ := mac_lk b lj dn dc
  obtain ⟨dx, ho⟩ := hM.o
  have ljn : jus.length = js.length := hM.jp.1
  have nld : lj ≠ dn := ne_of hM.j hM.n (fun e => nomatch e)
  obtain ⟨nv1, nv2⟩ := numK_val nd j
  refine ⟨_, (pss_cut (ps_if (pt_cmp (pc_dnotin hu (pv 1) (pe_fld (pv 0) rfl)))
      (pss_cons (ps_if (pt_cmpR op_eq (pe_callB call_len_seq (by rfl) T.b_len boot_len (pa_cons (pe_fld (pv 0) rfl) pa_nil)) (pe_cI (by rfl) c_MOST_STATES) (nomark _))
        (pss_one ps_never)
        pss_nil)
      (pss_cons (ps_dput hu (pe_fld (pv 0) rfl) (pv 1) (pe_callB call_len_seq (by rfl) T.b_len boot_len (pa_cons (pe_fld (pv 0) rfl) pa_nil)) rfl)
      (pss_one (ps_expr (pe_bm PySem.F.plainAttrs_list PySem.F.slot_list_append PySem.F.type_list_append mt_append (pe_fld (pv 0) rfl) (pa_cons (pv 1) pa_nil))))))
      pss_nil)
    (pss_one (ps_ret (pe_dget hu (pe_fld (pv 0) rfl) (pv 1) (fun _ _ => rfl))))), ?_⟩
  have gD : ∀ {H' : Hp} {js' : List (List Nat)}, H' dn = some (.dT (numK js')) → H' t = some (.tup (nI j)) → DGet H' dn (.ref t) (valV (numK js') (tkey j)) := fun h1 h2 => DGet.t h1 (by rw [h2, tkey_V])
  refine ⟨fun σ H' => σ = start N_Machine_number_for [.ref m, .ref t] ∧ ∃ (jus' : List Addr) (js' : List (List Nat)) (i : Nat), (∀ b o, H b = some o → b ≠ lj → b ≠ dn → H' b = some o) ∧ MnA CM H' m b lj dn dc jus' js' ∧ js'[i]? = some j ∧ js'.Nodup ∧ H' t = some (.tup (nI j)) ∧ ((js' = js ∧ j ∈ js) ∨ (js' = js ++ [j] ∧ j ∉ js)), ?_, ?_⟩
  · refine ⟨_, rfl, _, rfl, m, CM, dx, _, _, rfl, ho, BM.cl, BM.nN, g3, dn, _, rfl, gD hM.n ht, _, rfl, ?_⟩
    by_cases hj : j ∈ js
    · obtain ⟨i, hi⟩ := List.mem_iff_getElem?.mp hj
      rw [nv2 i hi]
      exact ifn (by simp) ⟨rfl, jus, js, i, fun _ _ h _ _ => h, hM, hi, nd, ht, .inl ⟨rfl, hj⟩⟩
    · rw [nv1 hj]
      refine ifp rfl ?_
      have l40' := lt40 hj
      refine ⟨_, rfl, m, CM, dx, _, _, rfl, ho, BM.cl, BM.nJ, g2, lj, _, rfl, .inl (SqL.of hM.j), rfl, _, rfl, ifn (fun c => ?_) ?_⟩
      · rw [veq, List.length_map] at c
        have := of_decide_eq_true c
        omega
      refine ⟨_, rfl, m, CM, dx, _, _, rfl, ho, BM.cl, BM.nJ, g2, lj, _, rfl, .inl (SqL.of hM.j), _, rfl, m, CM, dx, _, _, rfl, ho, BM.cl, BM.nN, g3, _, rfl, dn, _, rfl, DPut.t (k := tkey j) hM.n (by rw [ht, tkey_V]) (by rw [numK_len]; exact lt_line (by omega)), ?_⟩
      rw [putK_new _ (nv1 hj), List.length_map, ljn, ← numK_snoc]
      have ne_m : m ≠ dn := ne_of ho hM.n (fun e => nomatch e)
      have ho2 : (upd H dn (.dT (numK (js ++ [j])))) m = some (.ins CM dx (macF b lj dn dc)) := by rw [upd_ne ne_m]; exact ho
      have hj2 : (upd H dn (.dT (numK (js ++ [j])))) lj = some (.lst (jus.map V.ref)) := by rw [upd_ne nld]; exact hM.j
      refine ⟨_, rfl, m, CM, dx, _, _, rfl, ho2, BM.cl, BM.nJ, g2, .inl ⟨rfl, _, SqL.of hj2⟩, _, rfl, lj, _, _, rfl, rfl, hj2, by rw [List.length_map]; exact lt_line (by omega), ?_⟩
      have kp : ∀ b o, H b = some o → b ≠ lj → b ≠ dn → (upd (upd H dn (.dT (numK (js ++ [j])))) lj (.lst (jus.map V.ref ++ [.ref t]))) b = some o := fun b o h n1 n2 => by rw [upd_ne n1, upd_ne n2]; exact h
      have nml : m ≠ lj := ne_of ho hM.j (fun e => nomatch e)
      have tk : ∀ u ys, H u = some (.tup ys) → (upd (upd H dn (.dT (numK (js ++ [j])))) lj (.lst (jus.map V.ref ++ [.ref t]))) u = some (.tup ys) := fun u ys h => kp u _ h (ne_of h hM.j (fun e => nomatch e)) (ne_of h hM.n (fun e => nomatch e))
      refine ⟨rfl, jus ++ [t], js ++ [j], js.length, kp, ⟨⟨dx, kp _ _ ho nml ne_m⟩, by rw [upd_same, List.map_append]; rfl, (hM.jp.keep tk).snoc (tk _ _ ht), by rw [upd_ne (Ne.symm nld), upd_same]⟩, by rw [List.getElem?_append_right (Nat.le_refl _), Nat.sub_self]; rfl, List.nodup_append.mpr ⟨nd, by simp, fun a ha b hb e => by rw [List.mem_singleton.mp hb] at e; exact hj (e ▸ ha)⟩, tk _ _ ht, .inr ⟨rfl, hj⟩⟩
  rintro σ H1 ⟨rfl, jus', js', i, kp, hM', hi, nd', ht', hc⟩
  obtain ⟨dx', ho'⟩ := hM'.o
  have gg := gD hM'.n ht'
  rw [(numK_val nd' j).2 i hi] at gg
  refine ⟨_, rfl, m, CM, dx', _, _, rfl, ho', BM.cl, BM.nN, g3, _, rfl, dn, _, rfl, gg, ?_⟩
  exact key H1 jus' js' i kp hM' hi hc
theorem ok_num6 (T : Bl mg) (c_MOST_STATES : ∃ t, mg "MOST_STATES" = some (.int 40 t)) (BM : McT K CM) {f : Addr} {fd : FuncData} (F : FunD K "number_for" "Machine.number_for" (defArgs s_Machine_number_for) (defBody s_Machine_number_for) (defScope s_Machine_number_for) [] [] f fd) (M : Meth K CM "number_for" f) : NumOk P w K mg base CM := by
  have G : FnOk P w K mg base CX0 1 f fd ["self", "joint"] (spNum6 CM) := F.ok sc_Machine_number_for (fun vs H Q E h => by obtain ⟨m, t, b, lj, dn, dc, jus, js, j, rfl, _⟩ := h; rfl) fun cdv A outer s H vs Q E hr h => by
    obtain ⟨t, a, b⟩ := body_num6 T c_MOST_STATES BM hr h
    exact ⟨t, a.nox, b⟩
  exact ⟨f, M, fun A' outer s H us vs Q E hr e0 r hs => G.raw (F.bindsN fun _ _ _ _ _ _ us hl => match us, hl with | [_, _], _ => rfl) .nil A' outer s H us vs Q E hr e0 r (by show spNum6 CM (vs ++ []) H Q E; rw [List.append_nil]; exact hs)⟩
end
end Sh
end
section
set_option Elab.async false
set_option linter.all false
set_option maxRecDepth 100000
set_option maxHeartbeats 16000000
namespace Sh
open PySem PySem.Spec PyProof.Rows L2 NdefX LamX
open C8 (pss_cut tCut)
open Evl (ixN_nat)
def rwJ (js : List (List Nat)) (r : List Nat) : List (List Nat) := r.map fun q => js.getD q []
theorem getD_at {js : List (List Nat)} {q : Nat} (h : q < js.length) : js[q]? = some (js.getD q []) := by
  rw [List.getElem?_eq_getElem h, List.getD_eq_getElem?_getD, List.getElem?_eq_getElem h]
  rfl
theorem rwJ_ext {js : List (List Nat)} {l : List (List Nat)} {r : List Nat} (h : ∀ q ∈ r, q < js.length) : rwJ (js ++ l) r = rwJ js r := by
  unfold rwJ
  refine List.map_congr_left fun q hq => ?_
  rw [List.getD_eq_getElem?_getD, List.getElem?_append_left (h q hq), List.getD_eq_getElem?_getD]
def putC (cl : Str → List Nat → Option Nat) (z : Str) (r : List Nat) (i : Nat) : Str → List Nat → Option Nat := fun n q => if n = z ∧ q = r then some i else cl n q
structure MI (rows : List Row) (Ds : List RdD) (js : List (List Nat)) (cl : Str → List Nat → Option Nat) : Prop where
  nd : js.Nodup
  ok : ∀ j ∈ js, JOk Ds j
  cs : ∀ z r m, cl z r = some m → HasN rows z ∧ r.length = wR rows z ∧ (∀ q ∈ r, q < js.length) ∧ js[m]? = some (jst Ds z (rwJ js r))
  ju : ∀ i, i < js.length → ∃ z r, cl z r = some i ∧ ∀ q ∈ r, q < i
theorem jst_ok {rows : List Row} {Ds : List RdD} (R : ROk 4 rows) (hOk : ∀ D ∈ Ds, D.Ok rows) {z : Str} (hz : HasN rows z) {bs : List (List Nat)} (hl : bs.length = wR rows z) (hb : ∀ b ∈ bs, JOk Ds b) : JOk Ds (jst Ds z bs) := by
  refine ⟨jst_len _ _ _, fun p hp => ?_⟩
  rw [jst_at hp]
  have hD : Ds.getD p dfD ∈ Ds := by
    rw [List.getD_eq_getElem?_getD, List.getElem?_eq_getElem hp]
    exact List.getElem_mem hp
  refine (hOk _ hD).stp_lt R hz (by rw [List.length_map, hl]) fun s hs => ?_
  obtain ⟨b, hbm, rfl⟩ := List.mem_map.mp hs
  exact (hb b hbm).2 p hp
theorem MI.row {rows : List Row} {Ds : List RdD} {js : List (List Nat)} {cl : Str → List Nat → Option Nat} (x : MI rows Ds js cl) {r : List Nat} (hr : ∀ q ∈ r, q < js.length) : ∀ b ∈ rwJ js r, JOk Ds b := fun b hb => by
  obtain ⟨q, hq, rfl⟩ := List.mem_map.mp hb
  exact x.ok _ (List.mem_of_getElem? (getD_at (hr q hq)))
theorem MI.step {rows : List Row} {Ds : List RdD} {js js' : List (List Nat)} {cl : Str → List Nat → Option Nat} (x : MI rows Ds js cl) (R : ROk 4 rows) (hOk : ∀ D ∈ Ds, D.Ok rows) {z : Str} {r : List Nat} (hz : HasN rows z) (hl : r.length = wR rows z) (hr : ∀ q ∈ r, q < js.length) {i : Nat}
    (hi : js'[i]? = some (jst Ds z (rwJ js r))) (hc : (js' = js ∧ jst Ds z (rwJ js r) ∈ js) ∨ (js' = js ++ [jst Ds z (rwJ js r)] ∧ jst Ds z (rwJ js r) ∉ js)) : MI rows Ds js' (putC cl z r i) ∧ (∀ n q m, cl n q = some m → putC cl z r i n q = some m) ∧ js.length ≤ js'.length := by
  have hj := jst_ok R hOk hz (bs := rwJ js r) (by unfold rwJ; rw [List.length_map, hl]) (x.row hr)
  have hrw : rwJ js' r = rwJ js r := by
    rcases hc with ⟨e, _⟩ | ⟨e, _⟩
    · rw [e]
    · rw [e, rwJ_ext hr]
  have hle : js.length ≤ js'.length := by
    rcases hc with ⟨e, _⟩ | ⟨e, _⟩ <;> rw [e]
    · exact Nat.le_refl _
    · rw [List.length_append]; omega
  have hpre : ∀ (m : Nat) (j : List Nat), js[m]? = some j → js'[m]? = some j := fun m j h => by
    rcases hc with ⟨e, _⟩ | ⟨e, _⟩ <;> rw [e]
    · exact h
    · rw [List.getElem?_append_left (List.getElem?_eq_some_iff.mp h).1]; exact h
  have nd' : js'.Nodup := by
    rcases hc with ⟨e, _⟩ | ⟨e, hn⟩ <;> rw [e]
    · exact x.nd
    · exact List.nodup_append.mpr ⟨x.nd, by simp, fun a ha b hb h => by rw [List.mem_singleton.mp hb] at h; exact hn (h ▸ ha)⟩
  have ext : ∀ n q m, cl n q = some m → putC cl z r i n q = some m := fun n q m h => by
    unfold putC
    by_cases c : n = z ∧ q = r
    · rw [if_pos c]
      obtain ⟨rfl, rfl⟩ := c
      have h1 := hpre _ _ (x.cs _ _ _ h).2.2.2
      have l1 := (List.getElem?_eq_some_iff.mp h1)
      have l2 := (List.getElem?_eq_some_iff.mp hi)
      rw [(List.getElem_inj nd').mp (l2.2.trans l1.2.symm)]
    · rw [if_neg c]
      exact h
  refine ⟨⟨nd', fun j hjm => ?_, fun n q m h => ?_, fun i0 hi0 => ?_⟩, ext, hle⟩
  · rcases hc with ⟨e, _⟩ | ⟨e, _⟩ <;> rw [e] at hjm
    · exact x.ok j hjm
    · rcases List.mem_append.mp hjm with h | h
      · exact x.ok j h
      · rw [List.mem_singleton.mp h]; exact hj
  · unfold putC at h
    by_cases c : n = z ∧ q = r
    · rw [if_pos c] at h
      cases h
      obtain ⟨rfl, rfl⟩ := c
      exact ⟨hz, hl, fun q hq => Nat.lt_of_lt_of_le (hr q hq) hle, by rw [hrw]; exact hi⟩
    · rw [if_neg c] at h
      obtain ⟨h1, h2, h3, h4⟩ := x.cs _ _ _ h
      refine ⟨h1, h2, fun q hq => Nat.lt_of_lt_of_le (h3 q hq) hle, ?_⟩
      have : rwJ js' q = rwJ js q := by
        rcases hc with ⟨e, _⟩ | ⟨e, _⟩
        · rw [e]
        · rw [e, rwJ_ext h3]
      rw [this]
      exact hpre _ _ h4
  · by_cases c : i0 < js.length
    · obtain ⟨z0, r0, h1, h2⟩ := x.ju i0 c
      exact ⟨z0, r0, ext _ _ _ h1, h2⟩
    · rcases hc with ⟨e, _⟩ | ⟨e, hn⟩
      · rw [e] at hi0
        exact absurd hi0 c
      · rw [e, List.length_append] at hi0
        have l1 : ([jst Ds z (rwJ js r)] : List (List Nat)).length = 1 := rfl
        have il := (List.getElem?_eq_some_iff.mp hi).1
        rw [e, List.length_append] at il
        have ige : js.length ≤ i := Nat.le_of_not_lt fun h => by
          rw [e, List.getElem?_append_left h] at hi
          exact hn (List.mem_of_getElem? hi)
        have ei : i0 = i := by omega
        subst ei
        exact ⟨z, r, by unfold putC; rw [if_pos ⟨rfl, rfl⟩], fun q hq => Nat.lt_of_lt_of_le (hr q hq) ige⟩
/-- all rows below l have a cell -/
def MDn (rows : List Row) (cl : Str → List Nat → Option Nat) (l : Nat) : Prop := ∀ z, HasN rows z → ∀ r : List Nat, r.length = wR rows z → (∀ q ∈ r, q < l) → ∃ m, cl z r = some m
/-- a machine's object -/
def MacAt (C CM : Addr) (H : Hp) (m b : Addr) (rows : List Row) (js : List (List Nat)) (cl : Str → List Nat → Option Nat) : Prop := ∃ (lj dn dc : Addr) (ds jus : List Addr) (cnt : Nat), MnA CM H m b lj dn dc jus js ∧ McC H dc (rows.map (·.1)) ds cl cnt ∧ BedAt C H b rows
theorem MacAt.same {C CM : Addr} {H H' : Hp} {m b : Addr} {rows : List Row} {js : List (List Nat)} {cl : Str → List Nat → Option Nat} (x : MacAt C CM H m b rows js cl) (s : Same H H') : MacAt C CM H' m b rows js cl := by
  obtain ⟨lj, dn, dc, ds, jus, cnt, h1, h2, h3⟩ := x
  exact ⟨lj, dn, dc, ds, jus, cnt, h1.same s, h2.same s, h3.same s⟩
theorem RdAt.kx {C CR CM x dx : Addr} {H H' : Hp} {p b : Addr} {rows : List Row} {D : RdD} (h : RdAt C CR H p b rows D) (hx : H x = some (.ins CM dx [])) (k : Kp x H H') : RdAt C CR H' p b rows D := by
  obtain ⟨dr, d, mt, ds, h1, h2, h3, h4⟩ := h
  have kd : ∀ {a : Addr} {o : HO}, H a = some o → (∀ C dx fs, o ≠ .ins C dx fs) → H' a = some o := fun h n => k _ _ h fun e => by
    rw [e, hx] at h
    exact n _ _ _ (Option.some.inj h).symm
  exact ⟨dr, d, mt, ds, k _ _ h1 (ne_of h1 hx (fun e => by unfold rdF at e; cases e)), h2.kx hx k, ⟨kd h3.at_ (fun _ _ _ e => nomatch e), h3.len, h3.nd, h3.nin, fun i n a g1 g2 => kd (h3.row i n a g1 g2) (fun _ _ _ e => nomatch e)⟩, kd h4 (fun _ _ _ e => nomatch e)⟩
def spMacI (C CR CM : Addr) (F : NF) (ws : List (Option V)) : Sp := fun vs H Q _ => ∃ (x dx b fS L : Addr) (rs : List Addr) (rows : List Row) (Ds : List RdD), ws = [some (.ref L)] ∧ vs = [.ref x, .ref b, .ref fS] ∧ H x = some (.ins CM dx []) ∧ BedAt C H b rows ∧ ROk 4 rows ∧ H L = some (.lst (rs.map V.ref)) ∧ RdsAt C CR H rs rows Ds ∧ (∀ D ∈ Ds, D.Ok rows) ∧ Ds.length ≤ 100 ∧
  (∀ l : List (List Nat), l.Nodup → (∀ j ∈ l, JOk Ds j) → l.length ≤ 40) ∧ H fS = some (FnO fS F) ∧ H F.c = some (CodeO F.c F.qual) ∧ F.scope = defScope s_step ∧ F.body = defBody s_step ∧ F.params = C8.fnArgs s_step ∧
  ∀ H' js cl, Kp x H H' → MacAt C CM H' x b rows js cl → MI rows Ds js cl → MDn rows cl js.length → Q .non H'
/-- in the making -/
structure MK (CM x b lj dn dc : Addr) (ds : List Addr) (rows : List Row) (H H' : Hp) (jus : List Addr) (js : List (List Nat)) (cl : Str → List Nat → Option Nat) (cnt : Nat) : Prop where
  k : Kp x H H'
  a : MnA CM H' x b lj dn dc jus js
  c : McC H' dc (rows.map (·.1)) ds cl cnt
theorem MK.same {CM x b lj dn dc : Addr} {ds : List Addr} {rows : List Row} {H H1 H2 : Hp} {jus : List Addr} {js : List (List Nat)} {cl : Str → List Nat → Option Nat} {cnt : Nat} (M : MK CM x b lj dn dc ds rows H H1 jus js cl cnt) (s : Same H1 H2) : MK CM x b lj dn dc ds rows H H2 jus js cl cnt :=
  ⟨M.k.trans (Kp.same s), M.a.same s, M.c.same s⟩
abbrev N_Machine_init__ : List Str := ["self", "bed", "step", "kind", "last", "many", "row", "below", "number"]
theorem sc_Machine_init__ : FnScope N_Machine_init__ ["self", "bed", "step"] (defScope s_Machine_init__) := ⟨rfl, rfl, rfl, by decide +kernel, rfl, by decide +kernel, by decide +kernel⟩
section
variable {P : Program} {w : World} {K : PySem.W.Frag} {mg : Str → Option Value} {base : Heap} {C CR CM : Addr}
theorem body_macI (T : Bl mg) (BB : BedT K C) (BR : RdT K CR) (B : McT K CM) (c_leaves : LeavOk P w K mg base C) (c_num : NumOk P w K mg base CM) (c_rows_with : DefOk P w K mg base CX0 3 "rows_with" spRowsWith6) {F : NF} {ws : List (Option V)} {f0 : Addr} {cdv : Value} {A' : Around} {outer : List Env} {s' : Shared} {H : Hp} {vs : List V} {Q : VK} {E : XK} (hr : Room 4 (A'.deeper (envOfC "Machine.__init__" (defScope s_Machine_init__) s'.heap.objs.size f0 cdv))) (hC : CellsAt F.cl ["readers"] ws s'.heap H) (h : spMacI C CR CM F ws vs H Q E) :
    ∃ t, PSs (cxOf CX0 P w K mg base N_Machine_init__ "Machine.__init__" (defScope s_Machine_init__) f0 cdv A' outer s' H E).nox (defBody s_Machine_init__) t ∧ t { nx := fun _ H' => Q .non H', rt := Q } (start N_Machine_init__ vs) H := by
  obtain ⟨x, dx, b, fS, L, rs, rows, Ds, rfl, rfl, hx, hB, R, hL, hRs, hOk, l100, hB40, hf, hcd, hF1, hF2, hF3, key⟩ := h
  obtain ⟨fLv, M_leaves, F_leaves⟩ := c_leaves
  obtain ⟨fNm, M_number_for, F_number_for⟩ := c_num
  have hStep := fun f => ok_step6 (P := P) (w := w) (K := K) (mg := mg) (base := base) (C := C) (CR := CR) T BR hF1 hF2 hF3 f
  have hu := hu_of hr
  have lrows := R.len
  refine ⟨_, (pss_cons (ps_fld (pv 0) (pv 1) rfl)
    (pss_cons (ps_fld (pv 0) (pe_lst pa_nil) rfl)
    (pss_cons (ps_fld (pv 0) pe_dnewT rfl)
    (pss_cons (ps_fld (pv 0) (pe_dc (own := [("kind", 3)]) (g := (gName 3)) (tt := tYes) rfl sc_Machine_init__.nd (pi_tup (pe_fld (pv 1) rfl)) (blkOk_by (N := N_Machine_init__) (sc := defScope s_Machine_init__) (by decide +kernel)) (fun _ _ _ _ _ => (pg_name (i := 3) sc_Machine_init__.nd rfl (Or.inl rfl))) (fun _ _ _ _ _ => pts_nil) (fun _ _ _ _ _ => (pv 3)) (fun _ _ _ _ _ => pe_dnewT)) rfl)
    (pss_cons (ps_for PassesOwn.never rfl (pi_tup (pe_methR0 (pv 1) BB.cl M_leaves F_leaves (hr.mono (by decide)) pass0)) (pg_name (i := 3) sc_Machine_init__.nd rfl (Or.inl rfl))
      (pss_one (ps_dput hu (pe_dget hu (pe_fld (pv 0) rfl) (pv 3) (fun _ _ => rfl)) (pe_tup pa_nil) (pe_methR (pv 0) B.cl M_number_for F_number_for (hr.mono (by decide)) pass0 (pa_cons (pe_callF (i := 2) hC rfl hStep hr (by decide) pass0 rfl (.inl rfl) (pa_cons (pv 3) (pa_cons (pe_tup pa_nil) pa_nil))) pa_nil)) rfl)))
    (pss_cons (ps_set (i := 4) sc_Machine_init__.nd rfl (Or.inl rfl) pe_int)
    (pss_one (ps_while PassesOwn.never (pt_cmpR op_lt (pv 4) (pe_callB call_len_seq (by rfl) T.b_len boot_len (pa_cons (pe_fld (pv 0) rfl) pa_nil)) (nomark _))
      (pss_cons (ps_for PassesOwn.never rfl (pi_tup (pe_fld (pv 1) rfl)) (pg_tup (by rfl) (pgs_cons (pg_name (i := 3) sc_Machine_init__.nd rfl (Or.inl rfl)) (pgs_cons (pg_name (i := 5) sc_Machine_init__.nd rfl (Or.inl rfl)) pgs_nil)))
        (pss_one (ps_for PassesOwn.never rfl (pi_list (pe_d c_rows_with (hr.mono (by decide)) pass0 (pa_cons (pv 4) (pa_cons (pv 5) pa_nil)))) (pg_name (i := 6) sc_Machine_init__.nd rfl (Or.inl rfl))
          (pss_cons (ps_set (i := 7) sc_Machine_init__.nd rfl (Or.inl rfl) (pe_callTy call_tuple_of (by rfl) T.b_tuple (by decide +kernel) (pa_cons (pe_lc (own := [("number", 8)]) (g := (gName 8)) (tt := tYes) rfl sc_Machine_init__.nd (pi_tup (pv 6)) (blkOk_by (N := N_Machine_init__) (sc := defScope s_Machine_init__) (by decide +kernel)) (fun _ _ _ _ _ => (pg_name (i := 8) sc_Machine_init__.nd rfl (Or.inl rfl))) (fun _ _ _ _ _ => pts_nil) (fun _ _ _ _ _ => (pe_ix (show IxR _ (rIxL K) from ix_list) (show PE _ _ (tFld K _ _) from pe_fld (pv 0) rfl) (pv 8) (fun _ _ => rfl)))) pa_nil)))
          (pss_one (ps_dput hu (pe_dget hu (pe_fld (pv 0) rfl) (pv 3) (fun _ _ => rfl)) (pv 6) (pe_methR (pv 0) B.cl M_number_for F_number_for (hr.mono (by decide)) pass0 (pa_cons (pe_callF (i := 2) hC rfl hStep hr (by decide) pass0 rfl (.inl rfl) (pa_cons (pv 3) (pa_cons (pv 7) pa_nil))) pa_nil)) rfl))))))
      (pss_one (ps_aug (i := 4) sc_Machine_init__.nd rfl (Or.inl rfl) pe_int ip_add))))))))))), ?_⟩
  -- what stood ahead stays
  have pre : ∀ H', Kp x H H' → BedAt C H' b rows ∧ RdsAt C CR H' rs rows Ds ∧ H' L = some (.lst (rs.map V.ref)) ∧ H' fS = some (FnO fS F) ∧ H' F.c = some (CodeO F.c F.qual) := fun H' k =>
    ⟨hB.kx hx k, ⟨hRs.1, fun i u D h1 h2 => by
      obtain ⟨b', h⟩ := hRs.2 i u D h1 h2
      exact ⟨b', h.kx hx k⟩⟩, k _ _ hL (ne_of hL hx (fun e => nomatch e)), k _ _ hf (ne_of hf hx (fun e => by unfold FnO at e; cases e)), k _ _ hcd (ne_of hcd hx (fun e => by unfold CodeO at e; cases e))⟩
  refine ⟨_, rfl, _, rfl, x, CM, dx, _, rfl, hx, B.cl, B.nB, (by show 0 < 1000; decide), ?_⟩
  rw [show putF "bed" (.ref b) [] = [(("bed" : Str), V.ref b)] from rfl]
  have k1 : Kp x H (upd H x (.ins CM dx [(("bed" : Str), V.ref b)])) := (Kp.refl x H).upd
  have x1 : (upd H x (.ins CM dx [(("bed" : Str), V.ref b)])) x = some (.ins CM dx [(("bed" : Str), V.ref b)]) := upd_same
  generalize upd H x (.ins CM dx [(("bed" : Str), V.ref b)]) = H1 at k1 x1
  have fr : ∀ {H' : Hp} {p : Addr} {fs : List (Str × V)}, Kp x H H' → H' x = some (.ins CM dx fs) → H' p = none → H p = none := fun k hx' hp => k.free_of hp (fun e => by rw [e, hx'] at hp; cases hp)
  refine ⟨le_line (show 0 ≤ 10000000 by decide), fun lj hlj => ?_⟩
  have hlj0 := fr k1 x1 hlj
  have nljx : x ≠ lj := ne_of_none x1 hlj
  have k2 := k1.upd_new (o := .lst []) hlj
  have x2 : (upd H1 lj (.lst [])) x = some (.ins CM dx [(("bed" : Str), V.ref b)]) := by rw [upd_ne nljx]; exact x1
  have l2 : (upd H1 lj (.lst [])) lj = some (.lst (([] : List Addr).map V.ref)) := upd_same
  generalize upd H1 lj (.lst []) = H2 at k2 x2 l2
  refine ⟨_, rfl, x, CM, dx, _, rfl, x2, B.cl, B.nJ, (by show 1 < 1000; decide), ?_⟩
  rw [mac_put2]
  have k3 : Kp x H (upd H2 x (.ins CM dx [(("bed" : Str), V.ref b), ("joints", .ref lj)])) := k2.upd
  have x3 : (upd H2 x (.ins CM dx [(("bed" : Str), V.ref b), ("joints", .ref lj)])) x = some (.ins CM dx [(("bed" : Str), V.ref b), ("joints", .ref lj)]) := upd_same
  have l3 : (upd H2 x (.ins CM dx [(("bed" : Str), V.ref b), ("joints", .ref lj)])) lj = some (.lst (([] : List Addr).map V.ref)) := by rw [upd_ne (Ne.symm nljx)]; exact l2
  generalize upd H2 x (.ins CM dx [(("bed" : Str), V.ref b), ("joints", .ref lj)]) = H3 at k3 x3 l3
  refine fun dn hdn => ?_
  have hdn0 := fr k3 x3 hdn
  have ndnx : x ≠ dn := ne_of_none x3 hdn
  have nlj_dn : lj ≠ dn := ne_of_none l3 hdn
  have k4 := k3.upd_new (o := .dT []) hdn
  have x4 : (upd H3 dn (.dT [])) x = some (.ins CM dx [(("bed" : Str), V.ref b), ("joints", .ref lj)]) := by rw [upd_ne ndnx]; exact x3
  have l4 : (upd H3 dn (.dT [])) lj = some (.lst (([] : List Addr).map V.ref)) := by rw [upd_ne nlj_dn]; exact l3
  have d4 : (upd H3 dn (.dT [])) dn = some (.dT (numK [])) := upd_same
  generalize upd H3 dn (.dT []) = H4 at k4 x4 l4 d4
  refine ⟨_, rfl, x, CM, dx, _, rfl, x4, B.cl, B.nN, (by show 2 < 1000; decide), ?_⟩
  rw [mac_put3]
  have k5 : Kp x H (upd H4 x (.ins CM dx [(("bed" : Str), V.ref b), ("joints", .ref lj), ("numbers", .ref dn)])) := k4.upd
  have x5 : (upd H4 x (.ins CM dx [(("bed" : Str), V.ref b), ("joints", .ref lj), ("numbers", .ref dn)])) x = some (.ins CM dx [(("bed" : Str), V.ref b), ("joints", .ref lj), ("numbers", .ref dn)]) := upd_same
  have l5 : (upd H4 x (.ins CM dx [(("bed" : Str), V.ref b), ("joints", .ref lj), ("numbers", .ref dn)])) lj = some (.lst (([] : List Addr).map V.ref)) := by rw [upd_ne (Ne.symm nljx)]; exact l4
  have d5 : (upd H4 x (.ins CM dx [(("bed" : Str), V.ref b), ("joints", .ref lj), ("numbers", .ref dn)])) dn = some (.dT (numK [])) := by rw [upd_ne (Ne.symm ndnx)]; exact d4
  generalize upd H4 x (.ins CM dx [(("bed" : Str), V.ref b), ("joints", .ref lj), ("numbers", .ref dn)]) = H5 at k5 x5 l5 d5
  have hB5 := (pre H5 k5).1
  obtain ⟨dxb, rr, kk, ww, rk, tsb, b1, b2, b3, b4, b5, b6⟩ := id hB5
  refine ⟨_, rfl, b, C, dxb, _, _, rfl, b1, BB.cl, BB.nK, lk_kinds _ _ _ _, kk, rfl, ⟨_, SqT.of b4⟩, fun dc hdc => dc_it (walk_tup (xs := (rows.map (·.1)).map V.str)) (fun i H' => Same H5 H' ∧ ∃ ds, CzAt H' dc ((rows.map (·.1)).take i) ds [] ∧ ∀ a ∈ ds, H5 a = none)
    ⟨(Same.refl H5).upd_new hdc, [], ⟨upd_same, by simp, List.nodup_nil, (fun h => nomatch h), fun i n a h => by simp at h⟩, fun a h => nomatch h⟩ (fun i H' _ ⟨q, _⟩ => SqT.of (q _ _ b4)) ?_ ?_⟩
  · rintro i v H6 H7 hi ⟨s3, ds, T3, f3⟩ ⟨rfl, hv⟩
    rw [List.length_map] at hi
    obtain ⟨n, hn, rfl⟩ := get_map hv
    refine ⟨rfl, ?_⟩
    refine ⟨_, rfl, fun p hp => ?_⟩
    have npD : p ≠ dc := fun e => by rw [e, T3.at_] at hp; cases hp
    have f2p := s3.free hp
    have hl : ((rows.map (·.1)).take i).length = i := by rw [List.length_take]; omega
    refine ⟨_, .inr n, rfl, by rw [upd_ne (Ne.symm npD)]; exact T3.at_, ?_, (s3.upd_new hp).upd_own hdc, ds ++ [p], ?_, fun a ha => ?_⟩
    · unfold tnL
      rw [List.length_map, List.length_zip, hl]
      rw [List.length_map] at hi
      exact lt_line (n := min i _) (by omega)
    · rw [← take_snoc hn]
      refine T3.add hp fun hm => ?_
      have := nd_take R.nd (i := i) (by omega)
      obtain ⟨l1, e1⟩ := List.getElem?_eq_some_iff.mp hn
      exact this (e1 ▸ hm)
    · rcases List.mem_append.mp ha with ha | ha
      · exact f3 a ha
      · rw [List.mem_singleton.mp ha]
        exact f2p
  rintro H6 ⟨s6, ds, T6, f6⟩
  rw [List.length_map, List.take_length] at T6
  have x6 := s6 _ _ x5
  have hdc0 : H dc = none := fr k5 x5 hdc
  have ndcx : x ≠ dc := ne_of_none x5 hdc
  have hds0 : ∀ a ∈ ds, H a = none := fun a ha => fr k5 x5 (f6 a ha)
  have nds : ∀ a ∈ ds, a ≠ x ∧ a ≠ lj ∧ a ≠ dn := fun a ha => ⟨(fun e => by rw [← e, f6 a ha] at x5; cases x5), (fun e => by rw [← e, f6 a ha] at l5; cases l5), (fun e => by rw [← e, f6 a ha] at d5; cases d5)⟩
  have ndc : dc ≠ lj ∧ dc ≠ dn := ⟨(fun e => by rw [← e, hdc] at l5; cases l5), (fun e => by rw [← e, hdc] at d5; cases d5)⟩
  refine ⟨_, rfl, x, CM, dx, _, rfl, x6, B.cl, B.nC, (by show 3 < 1000; decide), ?_⟩
  rw [mac_put4]
  obtain ⟨gb, gj, gn, gc, gnf⟩ := mac_lk b lj dn dc
  have M7 : MK CM x b lj dn dc ds rows H (upd H6 x (.ins CM dx (macF b lj dn dc))) [] [] (fun _ _ => none) 0 := by
    refine ⟨(k5.trans (Kp.same s6)).upd, ⟨⟨dx, upd_same⟩, by rw [upd_ne (Ne.symm nljx)]; exact s6 _ _ l5, .nil, by rw [upd_ne (Ne.symm ndnx)]; exact s6 _ _ d5⟩, ⟨by rw [upd_ne (Ne.symm ndcx)]; exact T6.at_, T6.len, T6.nd, T6.nin, fun i n a h1 h2 => ⟨[], ?_, Nat.le_refl _, fun r => rfl⟩⟩⟩
    rw [upd_ne (nds a (List.mem_of_getElem? h2)).1]
    exact T6.row i n a h1 h2
  generalize upd H6 x (.ins CM dx (macF b lj dn dc)) = H7 at M7
  have I7 : MI rows Ds [] (fun _ _ => none) := ⟨List.nodup_nil, (fun j h => nomatch h), (fun z r m h => nomatch h), fun i h => absurd h (Nat.not_lt_zero _)⟩
  -- one number and its cell
  have kdict : ∀ {z : Str}, HasN rows z → ∃ i a, (rows.map (·.1))[i]? = some z ∧ ds[i]? = some a := fun {z} hz => by
    obtain ⟨q, hq, e⟩ := hz
    obtain ⟨i, hi⟩ := List.mem_iff_getElem?.mp (List.mem_map.mpr ⟨q, hq, e⟩ : z ∈ rows.map (·.1))
    have hil := (List.getElem?_eq_some_iff.mp hi).1
    exact ⟨i, _, hi, List.getElem?_eq_getElem (show i < ds.length by rw [T6.len]; exact hil)⟩
  have nb40 : ∀ {js : List (List Nat)} {cl : Str → List Nat → Option Nat} {z : Str} {r : List Nat}, MI rows Ds js cl → HasN rows z → r.length = wR rows z → (∀ q ∈ r, q < js.length) → jst Ds z (rwJ js r) ∉ js → js.length < 40 := fun {js cl z r} I hz hl hr hn => by
    have hj := jst_ok R hOk hz (bs := rwJ js r) (by unfold rwJ; rw [List.length_map, hl]) (I.row hr)
    have := hB40 (js ++ [jst Ds z (rwJ js r)]) (List.nodup_append.mpr ⟨I.nd, by simp, fun a ha b hb h => by rw [List.mem_singleton.mp hb] at h; exact hn (h ▸ ha)⟩) fun j hj' => by
      rcases List.mem_append.mp hj' with h | h
      · exact I.ok j h
      · rw [List.mem_singleton.mp h]; exact hj
    rw [List.length_append] at this
    have l1 : ([jst Ds z (rwJ js r)] : List (List Nat)).length = 1 := rfl
    omega
  -- behind number_for
  have aft : ∀ {H1 H2 : Hp} {jus jus' : List Addr} {js js' : List (List Nat)} {cl : Str → List Nat → Option Nat} {cnt : Nat}, MK CM x b lj dn dc ds rows H H1 jus js cl cnt → (∀ b o, H1 b = some o → b ≠ lj → b ≠ dn → H2 b = some o) → MnA CM H2 x b lj dn dc jus' js' → MK CM x b lj dn dc ds rows H H2 jus' js' cl cnt := fun {H1 H2 jus jus' js js' cl cnt} M kp A =>
    ⟨fun p o h n => kp p o (M.k p o h n) (fun e => by rw [e, hlj0] at h; cases h) (fun e => by rw [e, hdn0] at h; cases h), A, M.c.keep (by rw [M.c.at_, kp _ _ M.c.at_ ndc.1 ndc.2]) fun a ha => by
      obtain ⟨i, hi⟩ := List.mem_iff_getElem?.mp ha
      have hil := (List.getElem?_eq_some_iff.mp hi).1
      obtain ⟨kv, e, _, _⟩ := M.c.row i _ a (List.getElem?_eq_getElem (show i < (rows.map (·.1)).length by rw [← T6.len]; exact hil)) hi
      rw [e, kp _ _ e (nds a ha).2.1 (nds a ha).2.2]⟩
  have aput : ∀ {H1 : Hp} {jus : List Addr} {js : List (List Nat)} {cl : Str → List Nat → Option Nat} {cnt : Nat} {i : Nat} {a : Addr} {z : Str}, MK CM x b lj dn dc ds rows H H1 jus js cl cnt → (rows.map (·.1))[i]? = some z → ds[i]? = some a → ∃ kv, H1 a = some (.dT kv) ∧ kv.length ≤ cnt ∧ ∀ (m : Nat) (r : List Nat), MK CM x b lj dn dc ds rows H (upd H1 a (.dT (putK kv (tkey r) (.int ((m : Nat) : Int))))) jus js (putC cl z r m) (cnt + 1) := fun {H1 jus js cl cnt i a z} M h1 h2 => by
    obtain ⟨kv, e, l, q⟩ := M.c.put R.nd h1 h2
    have ha := List.mem_of_getElem? h2
    obtain ⟨dx', ho⟩ := M.a.o
    refine ⟨kv, e, l, fun m r => ⟨M.k.upd_own (hds0 a ha), ⟨⟨dx', by rw [upd_ne (Ne.symm (nds a ha).1)]; exact ho⟩, by rw [upd_ne (Ne.symm (nds a ha).2.1)]; exact M.a.j, M.a.jp.keep fun t ys h => by rw [upd_ne (ne_of h e (fun e => nomatch e))]; exact h, by rw [upd_ne (Ne.symm (nds a ha).2.2)]; exact M.a.n⟩, q m r⟩⟩
  have gT : ∀ {H1 : Hp} {jus : List Addr} {js : List (List Nat)} {cl : Str → List Nat → Option Nat} {cnt : Nat} {i : Nat} {a : Addr} {z : Str}, MK CM x b lj dn dc ds rows H H1 jus js cl cnt → (rows.map (·.1))[i]? = some z → ds[i]? = some a → DGet H1 dc (.str z) (some (.ref a)) := fun {H1 jus js cl cnt i a z} M h1 h2 => by
    have := DGet.k (k := .inr z) M.c.at_
    rw [tn_val R.nd h1 h2] at this
    exact this
  have hz_of : ∀ {q : Row}, q ∈ rows → HasN rows q.1 ∧ wR rows q.1 = q.2.toNat := fun {q} h => ⟨⟨q, h, rfl⟩, wR_of R h⟩
  have lw : ∀ (l wd : Nat), l ≤ 50 → wd ≤ 3 → (rwW l wd).length ≤ 7803 := fun l wd hl hw => by
    have hp : ∀ p, p < wd → (rwP l wd p).length ≤ 2601 := fun p hp => by
      have e : (rwP l wd p).length = (ways (List.replicate p (List.range l))).length * (ways (List.replicate (wd - 1 - p) (List.range (l + 1)))).length := by
        unfold rwP
        generalize ways (List.replicate p (List.range l)) = g
        induction g with
        | nil => simp
        | cons a g ih => rw [List.flatMap_cons, List.length_append, ih, List.length_map, List.length_cons, Nat.succ_mul]; omega
      rw [e, ways_pow, ways_pow]
      refine Nat.le_trans (Nat.mul_le_mul (Nat.pow_le_pow_left (show l ≤ 51 by omega) _) (Nat.pow_le_pow_left (show l + 1 ≤ 51 by omega) _)) ?_
      rw [← Nat.pow_add]
      exact Nat.le_trans (Nat.pow_le_pow_right (by decide) (show p + (wd - 1 - p) ≤ 2 by omega)) (by decide)
    unfold rwW
    have : ∀ n, n ≤ wd → ((List.range n).flatMap (rwP l wd)).length ≤ 2601 * n := fun n => by
      induction n with
      | zero => intro _; exact Nat.le_refl _
      | succ n ih =>
        intro hn
        rw [List.range_succ, List.flatMap_append, List.length_append, Nat.mul_succ]
        have h1 := ih (Nat.le_of_succ_le hn)
        have h2 := hp n hn
        have h3 : ([n].flatMap (rwP l wd)).length = (rwP l wd n).length := by
          show (_ ++ []).length = _
          rw [List.append_nil]
        omega
    have := this wd (Nat.le_refl _)
    omega
  -- the leaves
  have hB7 := (pre H7 M7.k).1
  obtain ⟨dxb7, _, _, _, _, _, b17, _⟩ := id hB7
  refine ⟨_, rfl, b, dxb7, _, rfl, b17, lk_leaves _ _ _ _, b, rows, rfl, hB7, R, fun H8 t s8 ht8 => ⟨t, rfl, ⟨_, SqT.of ht8⟩, for_tup (xs := sV (leafs rows)) (fun i σ H' => ∃ (x3 : Option V) (jus : List Addr) (js : List (List Nat)) (cl : Str → List Nat → Option Nat), σ = [some (.ref x), some (.ref b), some (.ref fS), x3, none, none, none, none, none] ∧ MK CM x b lj dn dc ds rows H H' jus js cl i ∧ MI rows Ds js cl ∧ (∀ (k : Nat) (z : Str), k < i → (leafs rows)[k]? = some z → ∃ m, cl z [] = some m) ∧ H' t = some (.tup (sV (leafs rows))))
    ⟨none, [], [], _, rfl, M7.same s8, I7, (fun k z h => absurd h (Nat.not_lt_zero _)), ht8⟩ (fun i σ H' _ ⟨_, _, _, _, _, _, _, _, h⟩ => SqT.of h) ?_ ?_⟩⟩
  · rintro i v σ H9 hv ⟨x3, jus, js, cl, rfl, M9, I9, dn9, ht9⟩
    unfold sV at hv
    rw [List.getElem?_map] at hv
    obtain ⟨z, hz, rfl⟩ := Option.map_eq_some_iff.mp hv
    have hzl : ∃ q ∈ rows, q.2 = 0 ∧ q.1 = z := by
      have := List.mem_of_getElem? hz
      unfold leafs at this
      obtain ⟨q, hq, e⟩ := List.mem_map.mp this
      obtain ⟨h1, h2⟩ := List.mem_filter.mp hq
      exact ⟨q, h1, of_decide_eq_true h2, e⟩
    obtain ⟨q, hq, q0, rfl⟩ := hzl
    obtain ⟨hzn, hzw⟩ := hz_of hq
    rw [q0] at hzw
    obtain ⟨kix, a, hk1, hk2⟩ := kdict hzn
    obtain ⟨dx9, ho9⟩ := M9.a.o
    obtain ⟨_, _, _, hf9, _⟩ := pre H9 M9.k
    have ll : i < 4 := by
      have h1 := (List.getElem?_eq_some_iff.mp hz).1
      have : (leafs rows).length ≤ rows.length := by
        unfold leafs
        rw [List.length_map]
        exact List.length_filter_le _ _
      omega
    refine ⟨_, rfl, x, dx9, _, rfl, ho9, gnf, fS, rfl, hf9, _, rfl, le_line (show 0 ≤ 10000000 by decide), fun t0 ht0 => ?_⟩
    have M10 := M9.same ((Same.refl H9).upd_new (o := .tup []) ht0)
    have ht10 : (upd H9 t0 (.tup [])) t = some (.tup (sV (leafs rows))) := by rw [upd_ne (ne_of_none ht9 ht0)]; exact ht9
    have t10 : (upd H9 t0 (.tup [])) t0 = some (.tup (([] : List Addr).map V.ref)) := upd_same
    generalize upd H9 t0 (.tup []) = H10 at M10 ht10 t10
    obtain ⟨_, hRs10, hL10, hf10, hcd10⟩ := pre H10 M10.k
    refine ⟨hf10, hcd10, L, t0, rs, [], rows, Ds, q.1, [], rfl, rfl, hL10, hRs10, R, hOk, l100, t10, .nil, hzn, hzw.symm, (fun b h => nomatch h), fun H11 t1 s11 ht1 => ?_⟩
    have M11 := M10.same s11
    have nb := nb40 (r := []) I9 hzn hzw.symm (fun q h => nomatch h)
    refine ⟨x, t1, b, lj, dn, dc, jus, js, jst Ds q.1 [], rfl, M11.a, ht1, I9.nd, hB40 js I9.nd I9.ok, nb, fun H12 jus' js' ix kp A12 hix hcx => ?_⟩
    have M12 := aft M11 kp A12
    obtain ⟨dx12, ho12⟩ := A12.o
    obtain ⟨I12, ext, _⟩ := I9.step (r := []) R hOk hzn hzw.symm (fun q h => nomatch h) hix hcx
    refine ⟨_, rfl, x, CM, dx12, _, _, rfl, ho12, B.cl, B.nC, gc, _, rfl, dc, _, rfl, gT M12 hk1 hk2, le_line (show 0 ≤ 10000000 by decide), fun p hp => ?_⟩
    have M13 := M12.same ((Same.refl H12).upd_new (o := .tup []) hp)
    have ht13 : (upd H12 p (.tup [])) t = some (.tup (sV (leafs rows))) := by
      have h11 := s11 _ _ ht10
      have h12 := kp _ _ h11 (fun e => by rw [e, M11.a.j] at h11; cases h11) (fun e => by rw [e, M11.a.n] at h11; cases h11)
      rw [upd_ne (ne_of_none h12 hp)]
      exact h12
    have p13 : (upd H12 p (.tup [])) p = some (.tup (nI [])) := upd_same
    generalize upd H12 p (.tup []) = H13 at M13 ht13 p13
    obtain ⟨kv, ea, lkv, put⟩ := aput M13 hk1 hk2
    refine ⟨a, _, rfl, DPut.t (k := tkey []) ea (by rw [p13, tkey_V]) (lt_line (by omega)), ?_⟩
    refine ⟨_, jus', js', putC cl q.1 [] ix, rfl, put ix [], I12, fun k z hk hkz => ?_, by rw [upd_ne (ne_of ht13 ea (fun e => nomatch e))]; exact ht13⟩
    by_cases c : k < i
    · obtain ⟨m, hm⟩ := dn9 k z c hkz
      exact ⟨m, ext _ _ _ hm⟩
    · have ek : k = i := by omega
      subst ek
      rw [hz] at hkz
      cases hkz
      exact ⟨ix, by unfold putC; rw [if_pos ⟨rfl, rfl⟩]⟩
  rintro σ H9 ⟨x3, jus, js, cl, rfl, M9, I9, dn9, _⟩
  have D9 : MDn rows cl 0 := fun z hz r hr hq => by
    have er : r = [] := by
      cases r with
      | nil => rfl
      | cons y _ => exact absurd (hq y List.mem_cons_self) (Nat.not_lt_zero _)
    subst er
    obtain ⟨q, hqm, rfl⟩ := hz
    have h0 : q.2 = 0 := by
      have := (hz_of hqm).2
      rw [← hr] at this
      have := (R.wd q hqm).1
      show q.2 = 0
      have h2 : ([] : List Nat).length = 0 := rfl
      omega
    have hm : q.1 ∈ leafs rows := by
      unfold leafs
      exact List.mem_map.mpr ⟨q, List.mem_filter.mpr ⟨hqm, decide_eq_true h0⟩, rfl⟩
    obtain ⟨k, hk⟩ := List.mem_iff_getElem?.mp hm
    have hkl := (List.getElem?_eq_some_iff.mp hk).1
    exact dn9 k q.1 (by show k < (sV (leafs rows)).length; rw [sV_len]; exact hkl) hk
  have c9 : (sV (leafs rows)).length ≤ 10 := by
    rw [sV_len]
    have : (leafs rows).length ≤ rows.length := by
      unfold leafs
      rw [List.length_map]
      exact List.length_filter_le _ _
    omega
  generalize (sV (leafs rows)).length = cnt9 at M9 c9
  -- the others
  refine ⟨fun mm σ H' => ∃ (l : Nat) (x3 x5 x6 x7 x8 : Option V) (jus : List Addr) (js : List (List Nat)) (cl : Str → List Nat → Option Nat) (cnt : Nat), mm = 41 - l ∧ σ = [some (.ref x), some (.ref b), some (.ref fS), x3, some (.int (l : Nat)), x5, x6, x7, x8] ∧ MK CM x b lj dn dc ds rows H H' jus js cl cnt ∧ MI rows Ds js cl ∧ MDn rows cl l ∧ l ≤ js.length ∧ cnt ≤ 10 + 40000 * l, ⟨41, 0, _, _, _, _, _, jus, js, cl, cnt9, rfl, rfl, M9, I9, D9, Nat.zero_le _, by omega⟩, ?_⟩
  rintro mm σ HA ⟨l, x3, x5, x6, x7, x8, jus, js, cl, cnt, rfl, rfl, MA, IA, DA, hlj, hcnt⟩
  obtain ⟨dxA, hoA⟩ := MA.a.o
  have l40 := hB40 js IA.nd IA.ok
  refine ⟨_, rfl, _, rfl, x, CM, dxA, _, _, rfl, hoA, B.cl, B.nJ, gj, lj, _, rfl, .inl (SqL.of MA.a.j), _, _, rfl, rfl, _, rfl, ?_⟩
  rw [List.length_map, MA.a.jp.1]
  by_cases hlt : l < js.length
  · refine ifp (decide_eq_true (by omega)) ⟨_, fun σ' H' h => h, ?_⟩
    obtain ⟨hBA, _, _, _, _⟩ := pre HA MA.k
    obtain ⟨dxbA, rA, kA, wA, rkA, tsA, bA1, bA2, bA3, _, _, _⟩ := id hBA
    have lts : (tsA.map V.ref).length = rows.length := by rw [List.length_map, bA3.1]
    refine ⟨_, rfl, b, C, dxbA, _, _, rfl, bA1, BB.cl, BB.nR, lk_rows _ _ _ _, rA, rfl, ⟨_, SqT.of bA2⟩, for_tup (xs := tsA.map V.ref) (fun i σ H' => ∃ (x3 x5 x6 x7 x8 : Option V) (jus : List Addr) (js : List (List Nat)) (cl : Str → List Nat → Option Nat) (cnt : Nat), σ = [some (.ref x), some (.ref b), some (.ref fS), x3, some (.int (l : Nat)), x5, x6, x7, x8] ∧ MK CM x b lj dn dc ds rows H H' jus js cl cnt ∧ MI rows Ds js cl ∧ MDn rows cl l ∧ l < js.length ∧ cnt ≤ 10 + 40000 * l + 7803 * i ∧ (∀ (k : Nat) (q : Row), k < i → rows[k]? = some q → ∀ r ∈ rwW l q.2.toNat, ∃ m, cl q.1 r = some m) ∧ TK HA H')
      ⟨x3, x5, x6, x7, x8, jus, js, cl, cnt, rfl, MA, IA, DA, hlt, by omega, (fun k q h => absurd h (Nat.not_lt_zero _)), fun _ _ h => h⟩ (fun i σ H' _ ⟨_, _, _, _, _, _, _, _, _, _, _, _, _, _, _, _, tk⟩ => SqT.of (tk _ _ bA2)) ?_ ?_⟩
    · rintro i v σ H9 hv ⟨x3, x5, x6, x7, x8, jus, js, cl, cnt, rfl, M9, I9, D9, hlt9, hcnt9, pv9, tk9⟩
      obtain ⟨u, hu2, rfl⟩ := get_map_r hv
      have hil : i < rows.length := by rw [← bA3.1]; exact (List.getElem?_eq_some_iff.mp hu2).1
      have hq := List.getElem?_eq_getElem hil
      have hqm := List.getElem_mem hil
      generalize rows[i] = q at hq hqm
      have hqw := R.wd q hqm
      obtain ⟨hzn, hzw⟩ := hz_of hqm
      have hT9 := tk9 _ _ (bA3.2 i u q hu2 hq)
      have eq2 : q.2 = ((q.2.toNat : Nat) : Int) := by omega
      obtain ⟨kix, a, hk1, hk2⟩ := kdict hzn
      refine ⟨u, _, rfl, SqT.of hT9, rfl, _, _, rfl, _, _, rfl, rfl, ?_⟩
      refine ⟨_, rfl, _, rfl, l, q.2.toNat, by show [V.int _, V.int q.2] = _; rw [← eq2], by omega, by omega, fun H10 Lw s10 nLw WW => ?_⟩
      obtain ⟨us, hLw, PW⟩ := WW
      have M10 := M9.same s10
      have lrw := lw l q.2.toNat (by omega) (by omega)
      have nLj : Lw ≠ lj := fun e => by rw [e, M9.a.j] at nLw; cases nLw
      have lus : (us.map V.ref).length = (rwW l q.2.toNat).length := by rw [List.length_map, PW.1]
      have hrows : ∀ r ∈ rwW l q.2.toNat, r.length = wR rows q.1 ∧ (∀ y ∈ r, y ≤ l) ∧ r.length ≤ 3 := fun r hr => by
        obtain ⟨h1, h2, _⟩ := rwW_mem.mp hr
        exact ⟨by rw [h1, hzw], h2, by omega⟩
      refine ⟨Lw, rfl, ⟨_, SqL.of hLw⟩, for_list (xs := us.map V.ref) (fun j σ H' => ∃ (x6 x7 x8 : Option V) (jus : List Addr) (js : List (List Nat)) (cl : Str → List Nat → Option Nat) (cnt : Nat), σ = [some (.ref x), some (.ref b), some (.ref fS), some (.str q.1), some (.int (l : Nat)), some (.int q.2), x6, x7, x8] ∧ MK CM x b lj dn dc ds rows H H' jus js cl cnt ∧ MI rows Ds js cl ∧ MDn rows cl l ∧ l < js.length ∧ cnt ≤ 10 + 40000 * l + 7803 * i + j ∧ (∀ (k : Nat) (q : Row), k < i → rows[k]? = some q → ∀ r ∈ rwW l q.2.toNat, ∃ m, cl q.1 r = some m) ∧ (∀ (k : Nat) (r : List Nat), k < j → (rwW l q.2.toNat)[k]? = some r → ∃ m, cl q.1 r = some m) ∧ TK HA H' ∧ TK H10 H' ∧ H' Lw = some (.lst (us.map V.ref)))
        ⟨x6, x7, x8, jus, js, cl, cnt, rfl, M10, I9, D9, hlt9, by omega, pv9, (fun k r h => absurd h (Nat.not_lt_zero _)), fun _ _ h => s10 _ _ (tk9 _ _ h), fun _ _ h => h, hLw⟩ (fun i σ H' _ ⟨_, _, _, _, _, _, _, _, _, _, _, _, _, _, _, _, _, h⟩ => SqL.of h) ?_ ?_⟩
      · rintro j v σ H11 hv ⟨x6, x7, x8, jus, js, cl, cnt, rfl, M11, I11, D11, hlt11, hcnt11, pv11, pw11, tkA11, tk11, hLw11⟩
        obtain ⟨ur, hur, rfl⟩ := get_map_r hv
        have hjl : j < (rwW l q.2.toNat).length := by rw [← PW.1]; exact (List.getElem?_eq_some_iff.mp hur).1
        have hr0 := List.getElem?_eq_getElem hjl
        obtain ⟨hrl, hrle, hr3⟩ := hrows _ (List.getElem_mem hjl)
        generalize (rwW l q.2.toNat)[j] = r at hr0 hrl hrle hr3
        have hrlt : ∀ y ∈ r, y < js.length := fun y hy => by have := hrle y hy; omega
        have hur11 := tk11 _ _ (PW.2 j ur r hur hr0)
        obtain ⟨dx11, ho11⟩ := M11.a.o
        have ljs := M11.a.jp.1
        have l4011 := hB40 js I11.nd I11.ok
        refine ⟨_, rfl, ur, rfl, ⟨_, SqT.of hur11⟩, fun D1 hD1 => lc_it (walk_tup (xs := nI r)) (fun k H' => Same H11 H' ∧ ∃ ts : List Addr, H' D1 = some (.lst (ts.map V.ref)) ∧ PlAt nI H' ts (rwJ js (r.take k))) ⟨(Same.refl H11).upd_new hD1, [], upd_same, .nil⟩ (fun k H' _ ⟨s, _⟩ => SqT.of (s _ _ hur11)) ?_ ?_⟩
        · rintro k v H12' H12 hk ⟨s12, ts, d12, P12⟩ ⟨rfl, hv2⟩
          rw [nI_len] at hk
          have hy := List.getElem?_eq_getElem hk
          have hylt := hrlt _ (List.getElem_mem hk)
          rw [nI_at hy] at hv2
          injection hv2 with hv2
          subst hv2
          generalize r[k] = y at hy hylt
          have hju := List.getElem?_eq_getElem (show y < jus.length by omega)
          generalize jus[y]'(by omega) = uy at hju
          have hyj := getD_at hylt
          have huy := s12 _ _ (M11.a.jp.2 y uy _ hju hyj)
          refine ⟨rfl, _, rfl, x, CM, dx11, _, _, rfl, s12 _ _ ho11, B.cl, B.nJ, gj, _, rfl, lj, _, _, _, rfl, rfl, SqL.of (s12 _ _ M11.a.j), at_ofG (j := y) rfl (by rw [List.getElem?_map, hju]; rfl), _, d12, ?_, s12.upd_own hD1, ts ++ [uy], by rw [upd_same, List.map_append]; rfl, ?_⟩
          · rw [List.length_map, P12.1]
            unfold rwJ
            rw [List.length_map, List.length_take]
            exact lt_line (n := min k r.length) (by omega)
          · have e : rwJ js (r.take (k + 1)) = rwJ js (r.take k) ++ [js.getD y []] := by
              unfold rwJ
              rw [List.take_add_one, hy, List.map_append]
              rfl
            rw [e]
            exact (P12.snoc huy).keep fun t ys h => by rw [upd_ne (ne_of h d12 (fun e => nomatch e))]; exact h
        rintro H12 ⟨s12, ts, d12, P12⟩
        rw [nI_len, List.take_length] at P12
        refine ⟨D1, _, rfl, .inl ⟨SqL.of d12, fun tb htb => ?_⟩⟩
        have s13 := s12.trans ((Same.refl H12).upd_new (o := .tup (ts.map V.ref)) htb)
        have tb13 : (upd H12 tb (.tup (ts.map V.ref))) tb = some (.tup (ts.map V.ref)) := upd_same
        have P13 : PlAt nI (upd H12 tb (.tup (ts.map V.ref))) ts (rwJ js r) := P12.keep fun t ys h => by rw [upd_ne (ne_of_none h htb)]; exact h
        generalize upd H12 tb (.tup (ts.map V.ref)) = H13 at s13 tb13 P13
        have M13 := M11.same s13
        obtain ⟨_, hRs13, hL13, hf13, hcd13⟩ := pre H13 M13.k
        have hrwl : (rwJ js r).length = wR rows q.1 := by
          unfold rwJ
          rw [List.length_map, hrl]
        refine ⟨_, rfl, x, dx11, _, rfl, s13 _ _ ho11, gnf, fS, rfl, hf13, _, rfl, _, rfl, hf13, hcd13, L, tb, rs, ts, rows, Ds, q.1, rwJ js r, rfl, rfl, hL13, hRs13, R, hOk, l100, tb13, P13, hzn, hrwl, I11.row hrlt, fun H14 t1 s14 ht1 => ?_⟩
        have M14 := M13.same s14
        have nb := nb40 (r := r) I11 hzn hrl hrlt
        refine ⟨x, t1, b, lj, dn, dc, jus, js, jst Ds q.1 (rwJ js r), rfl, M14.a, ht1, I11.nd, l4011, nb, fun H15 jus' js' ix kp A15 hix hcx => ?_⟩
        have M15 := aft M14 kp A15
        obtain ⟨dx15, ho15⟩ := A15.o
        obtain ⟨I15, ext, hle⟩ := I11.step R hOk hzn hrl hrlt hix hcx
        have s1114 := s13.trans s14
        have tk15 : TK H11 H15 := fun t ys h => by
          have h14 := s1114 _ _ h
          exact kp _ _ h14 (ne_of h14 M14.a.j (fun e => nomatch e)) (ne_of h14 M14.a.n (fun e => nomatch e))
        have hLw15 : H15 Lw = some (.lst (us.map V.ref)) := by
          have h14 := s1114 _ _ hLw11
          exact kp _ _ h14 nLj (ne_of h14 M14.a.n (fun e => nomatch e))
        obtain ⟨kv, ea, lkv, put⟩ := aput M15 hk1 hk2
        have hur15 := tk15 _ _ hur11
        refine ⟨_, rfl, x, CM, dx15, _, _, rfl, ho15, B.cl, B.nC, gc, _, rfl, dc, _, rfl, gT M15 hk1 hk2, _, rfl, a, _, rfl, DPut.t (k := tkey r) ea (by rw [hur15, tkey_V]) (lt_line (by omega)), ?_⟩
        have tk16 : TK H15 (upd H15 a (.dT (putK kv (tkey r) (.int ((ix : Nat) : Int))))) := fun t ys h => by rw [upd_ne (ne_of h ea (fun e => nomatch e))]; exact h
        refine ⟨_, _, _, jus', js', putC cl q.1 r ix, _, rfl, put ix r, I15, fun z hz r' hr' hq' => ?_, Nat.lt_of_lt_of_le hlt11 hle, by omega, fun k q' hk hq' r' hr' => ?_, fun k r' hk hr' => ?_, fun _ _ h => tk16 _ _ (tk15 _ _ (tkA11 _ _ h)), fun _ _ h => tk16 _ _ (tk15 _ _ (tk11 _ _ h)), by rw [upd_ne (ne_of hLw15 ea (fun e => nomatch e))]; exact hLw15⟩
        · obtain ⟨m, hm⟩ := D11 z hz r' hr' hq'
          exact ⟨m, ext _ _ _ hm⟩
        · obtain ⟨m, hm⟩ := pv11 k q' hk hq' r' hr'
          exact ⟨m, ext _ _ _ hm⟩
        · by_cases c : k < j
          · obtain ⟨m, hm⟩ := pw11 k r' c hr'
            exact ⟨m, ext _ _ _ hm⟩
          · have ek : k = j := by omega
            subst ek
            rw [hr0] at hr'
            cases hr'
            exact ⟨ix, by unfold putC; rw [if_pos ⟨rfl, rfl⟩]⟩
      · rintro σ H11 ⟨x6, x7, x8, jus, js, cl, cnt, rfl, M11, I11, D11, hlt11, hcnt11, pv11, pw11, tkA11, _, _⟩
        rw [lus] at hcnt11 pw11
        refine ⟨_, _, _, _, _, jus, js, cl, cnt, rfl, M11, I11, D11, hlt11, by rw [Nat.mul_succ]; omega, fun k q' hk hq' r hr => ?_, tkA11⟩
        by_cases c : k < i
        · exact pv11 k q' c hq' r hr
        · have ek : k = i := by omega
          subst ek
          rw [hq] at hq'
          cases hq'
          obtain ⟨k', hk'⟩ := List.mem_iff_getElem?.mp hr
          exact pw11 k' r (List.getElem?_eq_some_iff.mp hk').1 hk'
    · rintro σ H9 ⟨x3, x5, x6, x7, x8, jus, js, cl, cnt, rfl, M9, I9, D9, hlt9, hcnt9, pv9, tk9⟩
      rw [lts] at hcnt9 pv9
      refine ⟨_, rfl, _, _, rfl, rfl, ?_⟩
      have hjs := hB40 js I9.nd I9.ok
      refine ⟨41 - (l + 1), by omega, l + 1, x3, x5, x6, x7, x8, jus, js, cl, cnt, rfl, by show [_, _, _, _, some (V.int (((l : Nat) : Int) + 1)), _, _, _, _] = _; rw [show ((l : Nat) : Int) + 1 = ((l + 1 : Nat) : Int) by omega], M9, I9, fun z hz r hr hq => ?_, hlt9, by omega⟩
      by_cases c : l ∈ r
      · obtain ⟨q, hqm, rfl⟩ := hz
        obtain ⟨k, hk⟩ := List.mem_iff_getElem?.mp hqm
        exact pv9 k q (List.getElem?_eq_some_iff.mp hk).1 hk r (rwW_mem.mpr ⟨by rw [hr, (hz_of hqm).2], fun s hs => Nat.le_of_lt_succ (hq s hs), c⟩)
      · refine D9 z hz r hr fun y hy => ?_
        have := hq y hy
        have : y ≠ l := fun e => c (e ▸ hy)
        omega
  · refine ifn (fun h => hlt (by have := of_decide_eq_true h; omega)) ?_
    have el : l = js.length := by omega
    subst el
    exact key HA js cl MA.k ⟨lj, dn, dc, ds, jus, cnt, MA.a, MA.c, (pre HA MA.k).1⟩ IA DA
end
end Sh
end
section
set_option Elab.async false
set_option linter.all false
set_option maxRecDepth 100000
set_option maxHeartbeats 16000000
namespace Sh
open PySem PySem.Spec PyProof.Rows L2 NdefX LamX
open C8 (pss_cut tCut)
open Evl (ixN_nat)
/-- all but the tables of code objects stays, nothing is gone -/
structure Gw (H H' : Hp) : Prop where
  e : ExtN H H'
  n : ∀ b, H' b = none → H b = none
theorem Gw.of {H H' : Hp} (s : Same H H') : Gw H H' := ⟨ExtN.of fun b o h => s b o h, fun b h => by
  cases e : H b with
  | none => rfl
  | some o => rw [s b o e] at h; cases h⟩
theorem Gw.trans {H H1 H2 : Hp} (a : Gw H H1) (b : Gw H1 H2) : Gw H H2 := ⟨a.e.trans b.e, fun c h => a.n _ (b.n _ h)⟩
theorem Gw.lst {H H' : Hp} (g : Gw H H') {p : Addr} {ys : List V} (h : H p = some (.lst ys)) : H' p = some (.lst ys) := g.e _ _ h fun _ e => nomatch e
theorem Gw.tup {H H' : Hp} (g : Gw H H') {p : Addr} {ys : List V} (h : H p = some (.tup ys)) : H' p = some (.tup ys) := g.e _ _ h fun _ e => nomatch e
theorem BedAt.gw {C : Addr} {H H' : Hp} {b : Addr} {rows : List Row} (x : BedAt C H b rows) (g : Gw H H') : BedAt C H' b rows := by
  obtain ⟨bx, r, kk, ww, rk, ts, b1, b2, b3, b4, b5, b6⟩ := x
  exact ⟨bx, r, kk, ww, rk, ts, g.e _ _ b1 (fun _ e => nomatch e), g.tup b2, ⟨b3.1, fun i t q h1 h2 => g.tup (b3.2 i t q h1 h2)⟩, g.tup b4, g.e _ _ b5 (fun _ e => nomatch e), g.e _ _ b6 (fun _ e => nomatch e)⟩
theorem RdAt.gw {C CR : Addr} {H H' : Hp} {p b : Addr} {rows : List Row} {D : RdD} (x : RdAt C CR H p b rows D) (g : Gw H H') : RdAt C CR H' p b rows D := by
  obtain ⟨dr, d, mt, ds, h1, h2, h3, h4⟩ := x
  exact ⟨dr, d, mt, ds, g.e _ _ h1 (fun _ e => nomatch e), h2.gw g, ⟨g.e _ _ h3.at_ (fun _ e => nomatch e), h3.len, h3.nd, h3.nin, fun i n a g1 g2 => g.e _ _ (h3.row i n a g1 g2) (fun _ e => nomatch e)⟩, g.tup h4⟩
theorem RdsAt.gw {C CR : Addr} {H H' : Hp} {us : List Addr} {rows : List Row} {Ds : List RdD} (x : RdsAt C CR H us rows Ds) (s : Gw H H') : RdsAt C CR H' us rows Ds := ⟨x.1, fun i u D h1 h2 => by
  obtain ⟨b, h⟩ := x.2 i u D h1 h2
  exact ⟨b, h.gw s⟩⟩
theorem PlAt.gw {H H' : Hp} {us : List Addr} {ls : List (List Nat)} (x : PlAt nI H us ls) (g : Gw H H') : PlAt nI H' us ls := x.keep fun _ _ h => g.tup h
theorem MacAt.gw {C CM : Addr} {H H' : Hp} {m b : Addr} {rows : List Row} {js : List (List Nat)} {cl : Str → List Nat → Option Nat} (x : MacAt C CM H m b rows js cl) (g : Gw H H') : MacAt C CM H' m b rows js cl := by
  obtain ⟨lj, dn, dc, ds, jus, cnt, ⟨⟨dx, o⟩, hj, hjp, hn⟩, h2, h3⟩ := x
  exact ⟨lj, dn, dc, ds, jus, cnt, ⟨⟨dx, g.e _ _ o (fun _ e => nomatch e)⟩, g.lst hj, hjp.gw g, g.e _ _ hn (fun _ e => nomatch e)⟩, ⟨g.e _ _ h2.at_ (fun _ e => nomatch e), h2.len, h2.nd, h2.nin, fun i n a g1 g2 => by
    obtain ⟨kv, e, l, q⟩ := h2.row i n a g1 g2
    exact ⟨kv, g.e _ _ e (fun _ e => nomatch e), l, q⟩⟩, h3.gw g⟩
def tabJ (T : List (Addr × Str)) : List NTab := T.map fun p => (p.1, fun _ _ => p.2)
theorem tabsN_of {T : List (Addr × Str)} {H : Hp} (t : Tabs T H) : TabsN (tabJ T) H := fun p hp => by
  obtain ⟨q, hq, rfl⟩ := List.mem_map.mp hp
  exact TabN.of (t q hq)
theorem tabsN_to {T : List (Addr × Str)} {H : Hp} (t : TabsN (tabJ T) H) : Tabs T H := fun q hq => TabN.to (t _ (List.mem_map.mpr ⟨q, hq, rfl⟩))
def TabKitF (base : Heap) (mg : Str → Option Value) (T : List (Addr × Str)) (x y : Str) (c P : Addr) : Prop := TabB base mg c P ∧ (P, x ++ ".<locals>." ++ y) ∈ T ∧ ∀ p ∈ T, p.1 = P → p.2 = x ++ ".<locals>." ++ y
def MacC (P : Program) (w : World) (K : PySem.W.Frag) (mg : Str → Option Value) (base : Heap) (C CR CM : Addr) : Prop := mg "Machine" = some (.ref CM) ∧ ∃ fI fd, Mk K CM fI ∧ FnOkC P w K mg base CX0 5 fI fd ["self", "bed", "step"] ["readers"] (spMacI C CR CM) ∧ Binds K fd ["self", "bed", "step"] []
section
variable {P : Program} {w : World} {K : PySem.W.Frag} {mg : Str → Option Value} {base : Heap} {C CR CM : Addr}
theorem ok_macI (T : Bl mg) (BB : BedT K C) (BR : RdT K CR) (B : McT K CM) (c_leaves : LeavOk P w K mg base C) (c_num : NumOk P w K mg base CM) (c_rows_with : DefOk P w K mg base CX0 3 "rows_with" spRowsWith6) {f : Addr} {fd : FuncData} (F : FunD K "__init__" "Machine.__init__" (defArgs s_Machine_init__) (defBody s_Machine_init__) (defScope s_Machine_init__) [] [] f fd) (M : Mk K CM f) (hm : mg "Machine" = some (.ref CM)) : MacC P w K mg base C CR CM := by
  refine ⟨hm, f, fd, M, ?_, F.bindsN fun _ _ _ _ _ _ us hl => match us, hl with | [_, _, _], _ => rfl⟩
  refine fnC_of F sc_Machine_init__ (fun F ws vs H Q E h => by obtain ⟨x, dx, b, fS, L, rs, rows, Ds, _, rfl, _⟩ := h; rfl) fun cdv F ws A outer s H vs Q E hr hC h => ?_
  obtain ⟨t, a, b⟩ := body_macI T BB BR B c_leaves c_num c_rows_with hr hC h
  exact ⟨t, a.nox, b⟩
end
abbrev N_jm : List Str := ["readers", "step"]
theorem sc_jm : FnScope N_jm ["readers"] (defScope s_joint_machine) := ⟨rfl, rfl, rfl, by decide +kernel, rfl, by decide +kernel, by decide +kernel⟩
def spJoint (C CR CM : Addr) (T : List (Addr × Str)) : Sp := fun vs H Q _ => ∃ (L : Addr) (rs : List Addr) (rows : List Row) (Ds : List RdD), vs = [.ref L] ∧ H L = some (.lst (rs.map V.ref)) ∧ RdsAt C CR H rs rows Ds ∧ ROk 4 rows ∧ (∀ D ∈ Ds, D.Ok rows) ∧ 0 < Ds.length ∧ Ds.length ≤ 100 ∧
  (∀ l : List (List Nat), l.Nodup → (∀ j ∈ l, JOk Ds j) → l.length ≤ 40) ∧ Tabs T H ∧
  ∀ H' m b js cl, Gw H H' → Tabs T H' → MacAt C CM H' m b rows js cl → MI rows Ds js cl → MDn rows cl js.length → Q (.ref m) H'
section
variable {P : Program} {w : World} {K : PySem.W.Frag} {mg : Str → Option Value} {base : Heap} {C CR CM : Addr}
theorem ok_joint (T : Bl mg) (BR : RdT K CR) (cM : MacC P w K mg base C CR CM) {c : Addr} (D : DefC K mg "joint_machine" s_joint_machine c) {Tb : List (Addr × Str)} {PT : Addr} (kit : TabKitF base mg Tb "joint_machine" "step" c PT) : DefOk P w K mg base CX0 7 "joint_machine" (spJoint C CR CM Tb) := by
  refine D.ok sc_jm (fun vs H Q E h => by obtain ⟨L, rs, rows, Ds, rfl, _⟩ := h; rfl) (fun _ _ _ _ _ _ us hl => match us, hl with | [_], _ => rfl) fun f0 A outer s H vs Q E hr h => ?_
  obtain ⟨L, rs, rows, Ds, rfl, hL, hRs, R, hOk, l0, l100, hB40, hT, key⟩ := h
  obtain ⟨hmM, fI, fd, M, FC, hb⟩ := cM
  obtain ⟨k1, k2, k3⟩ := kit
  have hu := hu_of hr
  have nB : ndefB (defScope s_joint_machine) (C8.fnScope s_step) ["readers"] = true := by decide +kernel
  have lkS : (defScope s_joint_machine).names.lookup ("step" : Str) = some NameKind.local := by decide +kernel
  refine ⟨_, (pss_cons (ps_ndefMS (st := s_step) (T := tabJ Tb) (nm := fun _ _ => "joint_machine" ++ ".<locals>." ++ "step") (c := c) (P := PT) (name := "step") (i := 1) rfl k1 rfl (List.mem_map.mpr ⟨_, k2, rfl⟩) rfl (fun p hp e => by
      obtain ⟨q, hq, rfl⟩ := List.mem_map.mp hp
      have := k3 q hq e
      exact funext fun _ => funext fun _ => this) (ndef_free nB) rfl rfl rfl sc_jm.nd rfl (.inl (by rfl)) (.inr lkS))
    (pss_one (ps_ret (pe_makeC (fr := ["readers"]) (js := [0]) (mk := NF.of s_step "step" (("joint_machine" : Str) ++ ".<locals>." ++ "step") _) M FC (fun _ => rfl) (fun ok => Caps.made ok (ndef_free nB) (ndef_fr nB) rfl) hr (by rfl) hmM hb pass0 (pa_cons (pe_fld (pe_ix ix_list (pv 0) pe_int (fun _ _ => rfl)) rfl) (pa_cons (pv 1) pa_nil)))))), ?_⟩
  refine ⟨tabsN_of hT, fun fS c' H1 xN nn T1 f0n f1 c1 => ?_⟩
  have g1 : Gw H H1 := ⟨xN, nn⟩
  have hRs1 := hRs.gw g1
  have hL1 := g1.lst hL
  have l0u : 0 < rs.length := by rw [hRs.1]; exact l0
  obtain ⟨b, hR0⟩ := hRs1.2 0 rs[0] Ds[0] (List.getElem?_eq_getElem l0u) (List.getElem?_eq_getElem l0)
  obtain ⟨dr, d, mt, ds, r1, r2, r3, r4⟩ := id hR0
  obtain ⟨e1, e2, e3, e4, e5⟩ := rd_lk b d mt Ds[0].many Ds[0].rest
  refine ⟨_, rfl, L, _, _, _, rfl, rfl, SqL.of hL1, at_ofG (j := 0) rfl (by rw [List.getElem?_map, List.getElem?_eq_getElem l0u]; rfl), rs[0], CR, dr, _, _, rfl, r1, BR.cl, BR.nB, e4, _, rfl, c', fun x dx hx hdx hne => ?_⟩
  have sM : Same H1 (upd (upd H1 dx (.own x)) x (.ins CM dx [])) := ((Same.refl H1).upd_new hdx).upd_new (by rw [upd_ne (Ne.symm hne)]; exact hx)
  have hxx : (upd (upd H1 dx (.own x)) x (.ins CM dx [])) x = some (.ins CM dx []) := upd_same
  generalize upd (upd H1 dx (.own x)) x (.ins CM dx []) = H2 at sM hxx
  refine ⟨x, dx, b, fS, L, rs, rows, Ds, rfl, rfl, hxx, r2.same sM, R, sM _ _ hL1, hRs1.same sM, hOk, l100, hB40, sM _ _ f1, sM _ _ c1, rfl, rfl, rfl, fun H' js cl kx hM hI hD => ⟨rfl, ?_⟩⟩
  have s3 : Same H1 H' := fun a o ha => kx a o (sM _ _ ha) fun e => by rw [e, hx] at ha; cases ha
  exact key H' x b js cl (g1.trans (Gw.of s3)) ((tabsN_to T1).ext s3) hM hI hD
end
end Sh
end
section
set_option Elab.async false
set_option linter.all false
set_option maxRecDepth 100000
set_option maxHeartbeats 4000000
namespace Sh
open PySem PySem.Spec PyProof.Rows L2
def KL (c d : List Nat) : Prop := c.length < d.length ∨ (c.length = d.length ∧ c < d)
instance (c d : List Nat) : Decidable (KL c d) := inferInstanceAs (Decidable (_ ∨ (_ ∧ _)))
theorem KL.irr (c : List Nat) : ¬ KL c c := fun h => by
  rcases h with h | ⟨_, h⟩
  · omega
  · exact List.lt_irrefl c h
theorem KL.trans {c d e : List Nat} (h : KL c d) (k : KL d e) : KL c e := by
  rcases h with h | ⟨h, h'⟩ <;> rcases k with k | ⟨k, k'⟩
  · exact .inl (by omega)
  · exact .inl (by omega)
  · exact .inl (by omega)
  · exact .inr ⟨by omega, List.lt_trans h' k'⟩
def mis (w : Nat → Nat) : Nat → List Nat → Option Nat
  | m, [] => some m
  | m, k :: c => if m = 0 then none else mis w (m - 1 + w k) c
theorem mis_app {w : Nat → Nat} : ∀ {c : List Nat} {a b : Nat} (m : Nat) (x : List Nat), mis w a c = some b → mis w (a + m) (c ++ x) = mis w (b + m) x
  | [], a, b, m, x, h => by cases h; rfl
  | k :: c, a, b, m, x, h => by
    unfold mis at h
    by_cases e : a = 0
    · rw [if_pos e] at h; cases h
    · rw [if_neg e] at h
      show mis w (a + m) (k :: (c ++ x)) = _
      rw [mis, if_neg (by omega), show a + m - 1 + w k = (a - 1 + w k) + m by omega]
      exact mis_app m x h
def PC (w : Nat → Nat) (c : List Nat) : Prop := mis w 1 c = some 0
theorem mis_flat {w : Nat → Nat} : ∀ {cs : List (List Nat)} (m : Nat) (x : List Nat), (∀ c ∈ cs, PC w c) → mis w (cs.length + m) (cs.flatten ++ x) = mis w m x
  | [], m, x, _ => by simp
  | c :: cs, m, x, h => by
    rw [List.flatten_cons, List.append_assoc, List.length_cons, show cs.length + 1 + m = 1 + (cs.length + m) by omega, mis_app _ _ (h c List.mem_cons_self), Nat.zero_add]
    exact mis_flat m x fun d hd => h d (List.mem_cons_of_mem _ hd)
theorem PC.node {w : Nat → Nat} {k : Nat} {cs : List (List Nat)} (hl : cs.length = w k) (h : ∀ c ∈ cs, PC w c) : PC w (k :: cs.flatten) := by
  show mis w 1 (k :: cs.flatten) = some 0
  rw [mis, if_neg (by decide), show 1 - 1 + w k = cs.length + 0 by omega]
  have := mis_flat (cs := cs) 0 [] h
  rw [List.append_nil] at this
  rw [this]
  rfl
theorem PC.pre {w : Nat → Nat} {c x : List Nat} (h : PC w c) (k : PC w (c ++ x)) : x = [] := by
  have := mis_app 0 x h
  rw [show (1 : Nat) + 0 = 1 from rfl, show mis w 1 (c ++ x) = some 0 from k] at this
  cases x with
  | nil => rfl
  | cons a x => simp [mis] at this
theorem lt_app : ∀ {c d : List Nat}, (∀ x, d ≠ c ++ x) → (∀ x, c ≠ d ++ x) → ∀ X Y, (c ++ X < d ++ Y ↔ c < d)
  | [], d, h, _, _, _ => absurd rfl (h d)
  | a :: c, [], _, h, _, _ => absurd rfl (h (a :: c))
  | a :: c, b :: d, h, k, X, Y => by
    rw [List.cons_append, List.cons_append, List.cons_lt_cons_iff, List.cons_lt_cons_iff]
    by_cases e : a = b
    · subst e
      rw [lt_app (fun x e => h x (by rw [e]; rfl)) (fun x e => k x (by rw [e]; rfl)) X Y]
    · simp [e]
theorem flat_lt {w : Nat → Nat} : ∀ {cs ds : List (List Nat)}, cs.length = ds.length → (∀ c ∈ cs, PC w c) → (∀ d ∈ ds, PC w d) → (cs < ds ↔ cs.flatten < ds.flatten)
  | [], [], _, _, _ => by simp
  | [], _ :: _, h, _, _ => by simp at h
  | _ :: _, [], h, _, _ => by simp at h
  | c :: cs, d :: ds, h, hc, hd => by
    rw [List.cons_lt_cons_iff, List.flatten_cons, List.flatten_cons]
    have ih := flat_lt (w := w) (cs := cs) (ds := ds) (by simpa using h) (fun x hx => hc x (List.mem_cons_of_mem _ hx)) (fun x hx => hd x (List.mem_cons_of_mem _ hx))
    have pc := hc c List.mem_cons_self
    have pd := hd d List.mem_cons_self
    by_cases e : c = d
    · subst e
      rw [ih]
      have : ∀ (p x y : List Nat), (p ++ x < p ++ y ↔ x < y) := fun p x y => by
        induction p with
        | nil => rfl
        | cons a p ih => rw [List.cons_append, List.cons_append, List.cons_lt_cons_iff, ih]; simp
      rw [this]
      constructor
      · rintro (z | ⟨_, z⟩)
        · exact absurd z (List.lt_irrefl c)
        · exact z
      · exact fun z => .inr ⟨rfl, z⟩
    · rw [lt_app (c := c) (d := d) (fun x z => ?_) (fun x z => ?_)]
      · constructor
        · rintro (z | ⟨z, _⟩)
          · exact z
          · exact absurd z e
        · exact .inl
      · subst z
        have := PC.pre pc pd
        subst this
        exact e (by simp)
      · subst z
        have := PC.pre pd pc
        subst this
        exact e (by simp)
def iD (c : List Nat) : List PyData := (c.map fun n => ((n : Nat) : Int)).map PyData.int
def entD (k : Nat) (cs : List (List Nat)) : PyData := .tuple [.int (((k :: cs.flatten).length : Nat) : Int), .int ((k : Nat) : Int), .tuple (cs.map fun c => .tuple (iD c))]
theorem lt_cast : ∀ c d : List Nat, ((c.map fun n => ((n : Nat) : Int)) < (d.map fun n => ((n : Nat) : Int)) ↔ c < d)
  | [], [] => by simp
  | [], _ :: _ => by simp
  | _ :: _, [] => by simp
  | a :: c, b :: d => by
    rw [List.map_cons, List.map_cons, List.cons_lt_cons_iff, List.cons_lt_cons_iff, lt_cast c d]
    constructor
    · rintro (h | ⟨h, k⟩)
      · exact .inl (by omega)
      · exact .inr ⟨by omega, k⟩
    · rintro (h | ⟨h, k⟩)
      · exact .inl (by omega)
      · exact .inr ⟨by omega, k⟩
theorem eqv_iD : ∀ c d : List Nat, PyData.eqvAll (iD c) (iD d) = decide (c = d)
  | [], [] => by simp [iD, PyData.eqvAll]
  | [], _ :: _ => by simp [iD, PyData.eqvAll]
  | _ :: _, [] => by simp [iD, PyData.eqvAll]
  | a :: c, b :: d => by
    show PyData.eqvAll (PyData.int _ :: iD c) (PyData.int _ :: iD d) = _
    rw [PyData.eqvAll, eqv_iD c d]
    by_cases h : a = b
    · subst h; simp [PyData.eqv]
    · have : ¬ ((a : Nat) : Int) = ((b : Nat) : Int) := by omega
      simp [PyData.eqv, h, this]
theorem alike_iD : ∀ c d : List Nat, PySem.W.alikeAll (iD c) (iD d) = true
  | [], _ => by simp [iD, PySem.W.alikeAll]
  | _ :: _, [] => by simp [iD, PySem.W.alikeAll]
  | a :: c, b :: d => by
    show PySem.W.alikeAll (PyData.int _ :: iD c) (PyData.int _ :: iD d) = _
    rw [PySem.W.alikeAll, alike_iD c d]
    simp [PySem.W.alike]
theorem lt_iD (c d : List Nat) : PySem.W.dataLt (.tuple (iD c)) (.tuple (iD d)) = decide (c < d) := by
  rw [PySem.W.dataLt_tuple]
  have := PySem.W.dataLt_ints (c.map fun n => ((n : Nat) : Int)) (d.map fun n => ((n : Nat) : Int))
  rw [show decide ((c.map fun n => ((n : Nat) : Int)) < (d.map fun n => ((n : Nat) : Int))) = decide (c < d) from decide_eq_decide.mpr (lt_cast c d)] at this
  exact this
abbrev cD (c : List Nat) : PyData := .tuple (iD c)
theorem cD_alike (c d : List Nat) : PySem.W.alike (cD c) (cD d) = true := by
  simp only [cD, PySem.W.alike]
  exact alike_iD c d
theorem cD_eqv (c d : List Nat) : PyData.eqv (cD c) (cD d) = decide (c = d) := by
  simp only [cD, PyData.eqv]
  exact eqv_iD c d
theorem csD_alike : ∀ cs ds : List (List Nat), PySem.W.alikeAll (cs.map cD) (ds.map cD) = true
  | [], _ => by simp [PySem.W.alikeAll]
  | _ :: _, [] => by simp [PySem.W.alikeAll]
  | a :: c, b :: d => by
    show PySem.W.alikeAll (cD a :: c.map cD) (cD b :: d.map cD) = _
    rw [PySem.W.alikeAll, csD_alike c d, cD_alike]
    rfl
theorem csD_eqv : ∀ cs ds : List (List Nat), PyData.eqvAll (cs.map cD) (ds.map cD) = decide (cs = ds)
  | [], [] => by simp [PyData.eqvAll]
  | [], _ :: _ => by simp [PyData.eqvAll]
  | _ :: _, [] => by simp [PyData.eqvAll]
  | a :: c, b :: d => by
    show PyData.eqvAll (cD a :: c.map cD) (cD b :: d.map cD) = _
    rw [PyData.eqvAll, csD_eqv c d, cD_eqv]
    by_cases h : a = b <;> by_cases k : c = d <;> simp [h, k]
theorem csD_lt : ∀ cs ds : List (List Nat), PyProof.Rows.lexLt itemOrd (PySem.W.keyToksAll (cs.map cD)) (PySem.W.keyToksAll (ds.map cD)) = decide (cs < ds)
  | [], [] => by simp [lex_irrefl]
  | [], b :: d => by
    rw [List.map_cons, List.map_nil, PySem.W.toks_all_cons]
    simp only [PySem.W.keyToksAll]
    rw [lex_diff (O := itemOrd) (by simp)]
    simp
    rfl
  | a :: c, [] => by
    rw [List.map_cons, List.map_nil, PySem.W.toks_all_cons]
    simp only [PySem.W.keyToksAll]
    rw [lex_diff (O := itemOrd) (by simp)]
    simp
    rfl
  | a :: c, b :: d => by
    rw [List.map_cons, List.map_cons, PySem.W.dataLt_cons (cD_alike a b), cD_eqv, csD_lt c d, lt_iD]
    have e : (a :: c < b :: d ↔ a < b ∨ a = b ∧ c < d) := List.cons_lt_cons_iff
    by_cases h : a = b
    · subst h
      simp [List.lt_irrefl]
    · rw [decide_eq_false h, if_neg (by decide)]
      exact decide_eq_decide.mpr (by rw [e]; simp [h])
theorem entD_alike (k : Nat) (cs : List (List Nat)) (k' : Nat) (ds : List (List Nat)) : PySem.W.alike (entD k cs) (entD k' ds) = true := by
  unfold entD
  simp only [PySem.W.alike, PySem.W.alikeAll, Bool.and_true, Bool.true_and]
  exact csD_alike cs ds
theorem int_eqv (a b : Nat) : PyData.eqv (.int ((a : Nat) : Int)) (.int ((b : Nat) : Int)) = decide (a = b) := by
  by_cases h : a = b
  · subst h; simp [PyData.eqv]
  · have : ¬ ((a : Nat) : Int) = ((b : Nat) : Int) := by omega
    simp [PyData.eqv, h, this]
theorem int_lt (a b : Nat) : PySem.W.dataLt (.int ((a : Nat) : Int)) (.int ((b : Nat) : Int)) = decide (a < b) := by
  rw [PySem.W.dataLt_int]
  exact decide_eq_decide.mpr (by omega)
/-- THE BRIDGE: the tuples' order is the codes' -/
theorem entD_lt {w : Nat → Nat} {k k' : Nat} {cs ds : List (List Nat)} (h1 : cs.length = w k) (h2 : ds.length = w k') (hc : ∀ c ∈ cs, PC w c) (hd : ∀ d ∈ ds, PC w d) : PySem.W.dataLt (entD k cs) (entD k' ds) = decide (KL (k :: cs.flatten) (k' :: ds.flatten)) := by
  unfold entD
  rw [PySem.W.dataLt_tuple, PySem.W.dataLt_cons (by simp [PySem.W.alike]), PySem.W.dataLt_cons (by simp [PySem.W.alike]), PySem.W.dataLt_cons (by simp only [PySem.W.alike]; exact csD_alike cs ds), int_eqv, int_eqv, int_lt, int_lt]
  have eE : PyProof.Rows.lexLt itemOrd (PySem.W.keyToksAll []) (PySem.W.keyToksAll []) = false := lex_irrefl _
  have e3 : PyData.eqv (.tuple (cs.map cD)) (.tuple (ds.map cD)) = decide (cs = ds) := by simp only [PyData.eqv]; exact csD_eqv cs ds
  have e4 : PySem.W.dataLt (.tuple (cs.map cD)) (.tuple (ds.map cD)) = decide (cs < ds) := by rw [PySem.W.dataLt_tuple]; exact csD_lt cs ds
  rw [eE, e3, e4]
  rw [show decide (KL (k :: cs.flatten) (k' :: ds.flatten)) = decide ((k :: cs.flatten).length < (k' :: ds.flatten).length ∨ ((k :: cs.flatten).length = (k' :: ds.flatten).length ∧ k :: cs.flatten < k' :: ds.flatten)) from decide_eq_decide.mpr Iff.rfl]
  by_cases c1 : (k :: cs.flatten).length = (k' :: ds.flatten).length
  · rw [if_pos (decide_eq_true c1)]
    by_cases c2 : k = k'
    · subst c2
      rw [if_pos (decide_eq_true rfl)]
      have fl := flat_lt (h1.trans h2.symm) hc hd
      by_cases c3 : cs = ds
      · subst c3
        rw [if_pos (decide_eq_true rfl)]
        symm
        rw [decide_eq_false_iff_not]
        rintro (h | ⟨_, h⟩)
        · omega
        · exact List.lt_irrefl _ h
      · rw [if_neg (by simpa using c3)]
        refine decide_eq_decide.mpr ?_
        rw [fl, List.cons_lt_cons_iff]
        constructor
        · exact fun z => .inr ⟨c1, .inr ⟨rfl, z⟩⟩
        · rintro (z | ⟨_, z | ⟨_, z⟩⟩)
          · omega
          · exact absurd z (Nat.lt_irrefl k)
          · exact z
    · rw [if_neg (by simpa using c2)]
      refine decide_eq_decide.mpr ?_
      rw [List.cons_lt_cons_iff]
      constructor
      · exact fun z => .inr ⟨c1, .inl z⟩
      · rintro (z | ⟨_, z | ⟨z, _⟩⟩)
        · omega
        · exact z
        · exact absurd z c2
  · rw [if_neg (by simpa using c1)]
    refine decide_eq_decide.mpr ?_
    constructor
    · exact .inl
    · rintro (z | ⟨z, _⟩)
      · exact z
      · exact absurd z c1
end Sh
end
section
set_option Elab.async false
set_option linter.all false
set_option maxRecDepth 100000
set_option maxHeartbeats 4000000
namespace Sh
open PySem PySem.Spec PyProof.Rows L2
def wK (rows : List Row) (k : Nat) : Nat := ((rows[k]?).map fun q => q.2.toNat).getD 0
theorem wK_at {rows : List Row} {k : Nat} {q : Row} (h : rows[k]? = some q) : wK rows k = q.2.toNat := by unfold wK; rw [h]; rfl
abbrev Ent := Nat × List (List Nat)
def eC (e : Ent) : List Nat := e.1 :: e.2.flatten
def rwC (cs : List (List Nat)) (r : List Nat) : List (List Nat) := r.map fun i => cs.getD i []
def rwS (ss : List Nat) (r : List Nat) : List Nat := r.map fun i => ss.getD i 0
def cO (cs : List (List Nat)) (k : Nat) (r : List Nat) : List Nat := eC (k, rwC cs r)
/-- a row of settled ones, of the kind k, leads to s -/
structure Off (rows : List Row) (cl : Str → List Nat → Option Nat) (ss : List Nat) (k : Nat) (r : List Nat) (s : Nat) : Prop where
  kl : ∃ q, rows[k]? = some q ∧ r.length = q.2.toNat ∧ cl q.1 (rwS ss r) = some s
  lt : ∀ i ∈ r, i < ss.length
theorem rwC_ext {cs l : List (List Nat)} {r : List Nat} (h : ∀ i ∈ r, i < cs.length) : rwC (cs ++ l) r = rwC cs r := by
  unfold rwC
  refine List.map_congr_left fun q hq => ?_
  rw [List.getD_eq_getElem?_getD, List.getElem?_append_left (h q hq), List.getD_eq_getElem?_getD]
theorem rwS_ext {cs l : List Nat} {r : List Nat} (h : ∀ i ∈ r, i < cs.length) : rwS (cs ++ l) r = rwS cs r := by
  unfold rwS
  refine List.map_congr_left fun q hq => ?_
  rw [List.getD_eq_getElem?_getD, List.getElem?_append_left (h q hq), List.getD_eq_getElem?_getD]
theorem cO_ext {cs l : List (List Nat)} {k : Nat} {r : List Nat} (h : ∀ i ∈ r, i < cs.length) : cO (cs ++ l) k r = cO cs k r := by
  unfold cO
  rw [rwC_ext h]
structure LC (rows : List Row) (cl : Str → List Nat → Option Nat) (ss : List Nat) (cs : List (List Nat)) (Dn : Nat → List Nat → Prop) (best : Nat → Option Ent) : Prop where
  len : cs.length = ss.length
  nd : ss.Nodup
  org : ∀ (i s : Nat) (c : List Nat), ss[i]? = some s → cs[i]? = some c → ∃ k r, Off rows cl ss k r s ∧ (∀ j ∈ r, j < i) ∧ c = cO cs k r ∧ c.length ≤ 2000
  bst : ∀ s e, best s = some e → s ∉ ss ∧ (eC e).length ≤ 2000 ∧ ∃ r, Off rows cl ss e.1 r s ∧ e.2 = rwC cs r
  cmp : ∀ k r s, Off rows cl ss k r s → Dn k r → (cO cs k r).length ≤ 2000 → (∃ (i : Nat) (c : List Nat), ss[i]? = some s ∧ cs[i]? = some c ∧ ¬ KL (cO cs k r) c) ∨ (∃ e, best s = some e ∧ ¬ KL (cO cs k r) (eC e))
  srt : ∀ c ∈ cs, ∀ s e, best s = some e → c.length ≤ (eC e).length
  asc : cs.Pairwise fun c d => c.length ≤ d.length
theorem LC.nil (rows : List Row) (cl : Str → List Nat → Option Nat) : LC rows cl [] [] (fun _ _ => False) (fun _ => none) :=
  ⟨rfl, List.nodup_nil, fun i s c h => by simp at h, fun s e h => by simp at h, fun _ _ _ _ h => h.elim, fun c h => by simp at h, List.Pairwise.nil⟩
section
variable {rows : List Row} {cl : Str → List Nat → Option Nat} {ss : List Nat} {cs : List (List Nat)} {Dn : Nat → List Nat → Prop} {best : Nat → Option Ent}
/-- one row more is looked at, and nothing is done -/
theorem LC.more (L : LC rows cl ss cs Dn best) {Dn' : Nat → List Nat → Prop} (h : ∀ k r s, Off rows cl ss k r s → Dn' k r → (cO cs k r).length ≤ 2000 → Dn k r ∨ (∃ (i : Nat) (c : List Nat), ss[i]? = some s ∧ cs[i]? = some c ∧ ¬ KL (cO cs k r) c) ∨ (∃ e, best s = some e ∧ ¬ KL (cO cs k r) (eC e))) : LC rows cl ss cs Dn' best :=
  ⟨L.len, L.nd, L.org, L.bst, fun k r s o d z => (h k r s o d z).elim (fun d => L.cmp k r s o d z) id, L.srt, L.asc⟩
theorem LC.offer (L : LC rows cl ss cs Dn best) {k : Nat} {r : List Nat} {s : Nat} (O : Off rows cl ss k r s) (hz : (cO cs k r).length ≤ 2000) (hs : s ∉ ss) (hl : ∀ c ∈ cs, c.length ≤ (cO cs k r).length) (hb : ∀ e, best s = some e → KL (cO cs k r) (eC e)) :
    LC rows cl ss cs (fun k' r' => Dn k' r' ∨ (k' = k ∧ r' = r)) (fun s' => if s' = s then some (k, rwC cs r) else best s') := by
  refine ⟨L.len, L.nd, L.org, fun s' e h => ?_, fun k' r' s' o d z => ?_, fun c hc s' e h => ?_, L.asc⟩
  · by_cases c : s' = s
    · subst c
      rw [if_pos rfl] at h
      cases h
      exact ⟨hs, hz, r, O, rfl⟩
    · rw [if_neg c] at h
      exact L.bst s' e h
  · rcases d with d | ⟨rfl, rfl⟩
    · rcases L.cmp k' r' s' o d z with h | ⟨e, h1, h2⟩
      · exact .inl h
      · refine .inr ?_
        by_cases c : s' = s
        · subst c
          refine ⟨(k, rwC cs r), if_pos rfl, fun h => h2 (h.trans (hb e h1))⟩
        · exact ⟨e, (if_neg c).trans h1, h2⟩
    · obtain ⟨q, q1, q2, q3⟩ := O.kl
      obtain ⟨q', q1', q2', q3'⟩ := o.kl
      rw [q1] at q1'
      cases q1'
      rw [q3] at q3'
      cases q3'
      exact .inr ⟨_, if_pos rfl, KL.irr _⟩
  · by_cases g : s' = s
    · subst g
      rw [if_pos rfl] at h
      cases h
      exact hl c hc
    · rw [if_neg g] at h
      exact L.srt c hc s' e h
theorem LC.pop (L : LC rows cl ss cs Dn best) (hD : ∀ k r s, Off rows cl ss k r s → Dn k r) {s : Nat} {e : Ent} (hb : best s = some e) (hm : ∀ s' e', best s' = some e' → ¬ KL (eC e') (eC e)) :
    LC rows cl (ss ++ [s]) (cs ++ [eC e]) (fun _ r => ∀ i ∈ r, i < ss.length) (fun s' => if s' = s then none else best s') := by
  obtain ⟨b1, b2, r0, b3, b4⟩ := L.bst s e hb
  have ll := L.len
  have back : ∀ {k r s'}, Off rows cl (ss ++ [s]) k r s' → (∀ i ∈ r, i < ss.length) → Off rows cl ss k r s' := fun {k r s'} o h => by
    obtain ⟨q, q1, q2, q3⟩ := o.kl
    rw [rwS_ext h] at q3
    exact ⟨⟨q, q1, q2, q3⟩, h⟩
  have forth : ∀ {k r s'}, Off rows cl ss k r s' → Off rows cl (ss ++ [s]) k r s' := fun {k r s'} o => by
    obtain ⟨q, q1, q2, q3⟩ := o.kl
    refine ⟨⟨q, q1, q2, by rw [rwS_ext o.lt]; exact q3⟩, fun i hi => ?_⟩
    rw [List.length_append]
    exact Nat.lt_of_lt_of_le (o.lt i hi) (Nat.le_add_right _ _)
  have ce : ∀ {k r}, (∀ i ∈ r, i < ss.length) → cO (cs ++ [eC e]) k r = cO cs k r := fun h => cO_ext fun i hi => by rw [ll]; exact h i hi
  refine ⟨by rw [List.length_append, List.length_append, ll]; rfl, List.nodup_append.mpr ⟨L.nd, by simp, fun a ha b hb' h => by rw [List.mem_singleton.mp hb'] at h; exact b1 (h ▸ ha)⟩, fun i s' c h1 h2 => ?_, fun s' e' h => ?_, fun k r s' o d z => ?_, fun c hc s' e' h => ?_, ?_⟩
  · by_cases g : i < ss.length
    · rw [List.getElem?_append_left g] at h1
      rw [List.getElem?_append_left (by omega)] at h2
      obtain ⟨k, r, o1, o2, o3, o4⟩ := L.org i s' c h1 h2
      exact ⟨k, r, forth o1, o2, by rw [ce o1.lt]; exact o3, o4⟩
    · have hil := (List.getElem?_eq_some_iff.mp h1).1
      rw [List.length_append] at hil
      have l1 : ([s] : List Nat).length = 1 := rfl
      have : i = ss.length := by omega
      subst this
      rw [List.getElem?_append_right (Nat.le_refl _), Nat.sub_self] at h1
      rw [List.getElem?_append_right (by omega), ll, Nat.sub_self] at h2
      cases h1
      cases h2
      refine ⟨e.1, r0, forth b3, b3.lt, ?_, b2⟩
      rw [ce b3.lt]
      unfold cO
      rw [← b4]
  · by_cases g : s' = s
    · rw [if_pos g] at h
      cases h
    · rw [if_neg g] at h
      obtain ⟨c1, c2, r1, c3, c4⟩ := L.bst s' e' h
      refine ⟨fun hm => ?_, c2, r1, forth c3, ?_⟩
      · rcases List.mem_append.mp hm with x | x
        · exact c1 x
        · exact g (List.mem_singleton.mp x)
      · rw [rwC_ext fun i hi => by rw [ll]; exact c3.lt i hi]
        exact c4
  · have o' := back o d
    rw [ce d] at z ⊢
    rcases L.cmp k r s' o' (hD k r s' o') z with ⟨i, c, h1, h2, h3⟩ | ⟨f, h1, h2⟩
    · refine .inl ⟨i, c, ?_, ?_, h3⟩
      · rw [List.getElem?_append_left (List.getElem?_eq_some_iff.mp h1).1]; exact h1
      · rw [List.getElem?_append_left (List.getElem?_eq_some_iff.mp h2).1]; exact h2
    · by_cases g : s' = s
      · subst g
        rw [hb] at h1
        cases h1
        refine .inl ⟨ss.length, eC e, ?_, ?_, h2⟩
        · rw [List.getElem?_append_right (Nat.le_refl _), Nat.sub_self]; rfl
        · rw [List.getElem?_append_right (by omega), ll, Nat.sub_self]; rfl
      · exact .inr ⟨f, (if_neg g).trans h1, h2⟩
  · by_cases g : s' = s
    · rw [if_pos g] at h
      cases h
    · rw [if_neg g] at h
      rcases List.mem_append.mp hc with x | x
      · exact L.srt c x s' e' h
      · rw [List.mem_singleton.mp x]
        exact Nat.le_of_not_lt fun z => hm s' e' h (.inl z)
  · refine List.pairwise_append.mpr ⟨L.asc, List.pairwise_singleton _ _, fun a ha b hb' => ?_⟩
    rw [List.mem_singleton.mp hb']
    exact L.srt a ha s e hb
/-- codes of the settled are a plant's -/
theorem LC.pc (L : LC rows cl ss cs Dn best) : ∀ c ∈ cs, PC (wK rows) c := by
  have gen : ∀ (n i : Nat) (c : List Nat), i < n → cs[i]? = some c → PC (wK rows) c := fun n => by
    induction n with
    | zero => intro i c h; omega
    | succ n ih =>
      intro i c hi hc
      have hil := (List.getElem?_eq_some_iff.mp hc).1
      obtain ⟨k, r, o, lt, rfl, _⟩ := L.org i _ c (List.getElem?_eq_getElem (by rw [← L.len]; exact hil)) hc
      obtain ⟨q, q1, q2, q3⟩ := o.kl
      refine PC.node (by unfold rwC; rw [List.length_map, wK_at q1, q2]) fun d hd => ?_
      obtain ⟨j, hj, rfl⟩ := List.mem_map.mp hd
      have hjl : j < cs.length := by have := lt j hj; omega
      refine ih j _ (by have := lt j hj; omega) ?_
      rw [List.getD_eq_getElem?_getD, List.getElem?_eq_getElem hjl]
      rfl
  intro c hc
  obtain ⟨i, hi⟩ := List.mem_iff_getElem?.mp hc
  exact gen (i + 1) i c (Nat.lt_succ_self _) hi
theorem LC.rw_pc (L : LC rows cl ss cs Dn best) {r : List Nat} (h : ∀ i ∈ r, i < ss.length) : ∀ c ∈ rwC cs r, PC (wK rows) c := fun c hc => by
  obtain ⟨j, hj, rfl⟩ := List.mem_map.mp hc
  have hjl : j < cs.length := by rw [L.len]; exact h j hj
  refine L.pc _ ?_
  rw [List.getD_eq_getElem?_getD, List.getElem?_eq_getElem hjl]
  exact List.getElem_mem hjl
/-- the entries' order is their codes' -/
theorem LC.ent_lt (L : LC rows cl ss cs Dn best) {k k' : Nat} {r r' : List Nat} {s s' : Nat} (o : Off rows cl ss k r s) (o' : Off rows cl ss k' r' s') : PySem.W.dataLt (entD k (rwC cs r)) (entD k' (rwC cs r')) = decide (KL (cO cs k r) (cO cs k' r')) := by
  obtain ⟨q, q1, q2, q3⟩ := o.kl
  obtain ⟨q', q1', q2', q3'⟩ := o'.kl
  exact entD_lt (w := wK rows) (by unfold rwC; rw [List.length_map, wK_at q1, q2]) (by unfold rwC; rw [List.length_map, wK_at q1', q2']) (L.rw_pc o.lt) (L.rw_pc o'.lt)
/-- all that the settled ones lead to is settled -/
theorem LC.fin (L : LC rows cl ss cs Dn (fun _ => none)) (hD : ∀ k r s, Off rows cl ss k r s → Dn k r) {k : Nat} {r : List Nat} {s : Nat} (o : Off rows cl ss k r s) (z : (cO cs k r).length ≤ 2000) : ∃ (i : Nat) (c : List Nat), ss[i]? = some s ∧ cs[i]? = some c ∧ ¬ KL (cO cs k r) c := by
  rcases L.cmp k r s o (hD k r s o) z with h | ⟨e, h, _⟩
  · exact h
  · cases h
def bnd (W : Nat) : Nat → Nat
  | 0 => 1
  | i + 1 => 1 + W * bnd W i
theorem flat_len {b : Nat} : ∀ {l : List (List Nat)}, (∀ c ∈ l, c.length ≤ b) → l.flatten.length ≤ l.length * b
  | [], _ => by simp
  | c :: l, h => by
    rw [List.flatten_cons, List.length_append, List.length_cons, Nat.succ_mul]
    have h1 := h c List.mem_cons_self
    have h2 := flat_len fun d hd => h d (List.mem_cons_of_mem _ hd)
    omega
theorem bnd_one {W : Nat} {l : List (List Nat)} {b : Nat} (hl : l.length ≤ W) (h : ∀ c ∈ l, c.length ≤ b) (k : Nat) : (eC (k, l)).length ≤ 1 + W * b := by
  unfold eC
  rw [List.length_cons]
  have := flat_len h
  have : l.length * b ≤ W * b := Nat.mul_le_mul_right _ hl
  show l.flatten.length + 1 ≤ _
  omega
theorem bnd_mono {W : Nat} : ∀ {i j : Nat}, i ≤ j → bnd W i ≤ bnd W j
  | i, 0, h => by rw [Nat.le_zero.mp h]; exact Nat.le_refl _
  | 0, j + 1, _ => by show 1 ≤ 1 + _; omega
  | i + 1, j + 1, h => by
    have := bnd_mono (W := W) (Nat.le_of_succ_le_succ h)
    show 1 + W * bnd W i ≤ 1 + W * bnd W j
    exact Nat.add_le_add_left (Nat.mul_le_mul_left _ this) _
theorem LC.size (L : LC rows cl ss cs Dn best) {W : Nat} (hW : ∀ k, wK rows k ≤ W) : ∀ (n i : Nat) (c : List Nat), i < n → cs[i]? = some c → c.length ≤ bnd W i := fun n => by
  induction n with
  | zero => intro i c h; omega
  | succ n ih =>
    intro i c hi hc
    have hil := (List.getElem?_eq_some_iff.mp hc).1
    obtain ⟨k, r, o, lt, rfl, _⟩ := L.org i _ c (List.getElem?_eq_getElem (by rw [← L.len]; exact hil)) hc
    obtain ⟨q, q1, q2, q3⟩ := o.kl
    have hrl : (rwC cs r).length ≤ W := by unfold rwC; rw [List.length_map, q2, ← wK_at q1]; exact hW k
    cases i with
    | zero =>
      cases r with
      | nil => exact Nat.le_refl _
      | cons j r => exact absurd (lt j List.mem_cons_self) (Nat.not_lt_zero _)
    | succ i =>
      refine bnd_one hrl (fun d hd => ?_) k
      obtain ⟨j, hj, rfl⟩ := List.mem_map.mp hd
      have hj2 := lt j hj
      have hjl : j < cs.length := by omega
      refine Nat.le_trans (ih j _ (by omega) ?_) (bnd_mono (Nat.le_of_lt_succ hj2))
      rw [List.getD_eq_getElem?_getD, List.getElem?_eq_getElem hjl]
      rfl
theorem LC.size_off (L : LC rows cl ss cs Dn best) {W : Nat} (hW : ∀ k, wK rows k ≤ W) {k : Nat} {r : List Nat} {s : Nat} (o : Off rows cl ss k r s) : (cO cs k r).length ≤ bnd W ss.length := by
  obtain ⟨q, q1, q2, q3⟩ := o.kl
  have hrl : (rwC cs r).length ≤ W := by unfold rwC; rw [List.length_map, q2, ← wK_at q1]; exact hW k
  cases hn : ss.length with
  | zero =>
    cases r with
    | nil => exact Nat.le_refl _
    | cons j r => have := o.lt j List.mem_cons_self; omega
  | succ n =>
    refine bnd_one hrl (fun d hd => ?_) k
    obtain ⟨j, hj, rfl⟩ := List.mem_map.mp hd
    have hj2 := o.lt j hj
    have hjl : j < cs.length := by rw [L.len]; exact hj2
    refine Nat.le_trans (L.size hW (j + 1) j _ (Nat.lt_succ_self _) ?_) (bnd_mono (by omega))
    rw [List.getD_eq_getElem?_getD, List.getElem?_eq_getElem hjl]
    rfl
end
end Sh
end
section
set_option Elab.async false
set_option linter.all false
set_option maxRecDepth 100000
set_option maxHeartbeats 8000000
namespace L2
open PySem PySem.Spec PyProof.Rows
section
variable {κ : Type} [DecidableEq κ]
theorem valV_mem : ∀ {kvs : List (κ × V)} {k : κ} {v : V}, valV kvs k = some v → (k, v) ∈ kvs
  | [], _, _, h => by cases h
  | p :: r, k, v, h => by
    by_cases e : p.1 = k
    · rw [valV_pos e] at h
      cases h
      rw [← e]
      exact List.mem_cons_self
    · rw [valV_neg e] at h
      exact List.mem_cons_of_mem _ (valV_mem h)
theorem valV_nodup : ∀ {kvs : List (κ × V)} {k : κ} {v : V}, (kvs.map (·.1)).Nodup → (k, v) ∈ kvs → valV kvs k = some v
  | [], _, _, _, h => by cases h
  | p :: r, k, v, nd, h => by
    rw [List.map_cons] at nd
    obtain ⟨n1, n2⟩ := List.nodup_cons.mp nd
    by_cases e : p.1 = k
    · rw [valV_pos e]
      rcases List.mem_cons.mp h with q | q
      · rw [← q]
      · exact absurd (List.mem_map.mpr ⟨_, q, rfl⟩ : k ∈ r.map (·.1)) (e ▸ n1)
    · rw [valV_neg e]
      rcases List.mem_cons.mp h with q | q
      · exact absurd (by rw [← q]) e
      · exact valV_nodup n2 q
theorem valV_drop : ∀ (kvs : List (κ × V)) (k j : κ), valV (dropK kvs k) j = if j = k then none else valV kvs j
  | [], k, j => by
    show none = _
    rw [show valV ([] : List (κ × V)) j = none from rfl]
    split <;> rfl
  | p :: r, k, j => by
    by_cases e : p.1 = k
    · rw [dropK_pos e, valV_drop r k j]
      by_cases c : j = k
      · rw [if_pos c, if_pos c]
      · rw [if_neg c, if_neg c, valV_neg (fun h => c (h.symm.trans e))]
    · rw [dropK_neg e]
      by_cases c : p.1 = j
      · rw [valV_pos c, valV_pos c, if_neg (fun h => e (c.trans h))]
      · rw [valV_neg c, valV_neg c, valV_drop r k j]
theorem drop_nodup {kvs : List (κ × V)} {k : κ} (nd : (kvs.map (·.1)).Nodup) : ((dropK kvs k).map (·.1)).Nodup := by
  unfold dropK
  exact nd.sublist (List.filter_sublist.map _)
theorem put_nodup {kvs : List (κ × V)} {k : κ} {v : V} (nd : (kvs.map (·.1)).Nodup) : ((putK kvs k v).map (·.1)).Nodup := by
  cases h : valV kvs k with
  | none =>
    rw [putK_new _ h, List.map_append]
    exact List.nodup_append.mpr ⟨nd, by simp, fun a ha b hb e => by
      have hb : b ∈ [k] := hb
      rw [List.mem_singleton.mp hb] at e
      exact valV_not h (e ▸ ha)⟩
  | some y =>
    have e0 : putK kvs k v = kvs.map fun kv => if kv.1 = k then (kv.1, v) else kv := by
      unfold putK
      rw [valV_any, h]
      rfl
    rw [e0, List.map_map]
    have : ((fun (x : κ × V) => x.1) ∘ fun kv => if kv.1 = k then (kv.1, v) else kv) = fun (x : κ × V) => x.1 := by
      funext x
      show (if x.1 = k then (x.1, v) else x).1 = x.1
      split <;> rfl
    rw [this]
    exact nd
end
/-- < of data that are alike -/
def rLtD (K : PySem.W.Frag) : R2 := fun x y H Q => ∃ d1 d2, Dp K H x d1 ∧ Dp K H y d2 ∧ PySem.W.alike d1 d2 = true ∧ d1 ≠ .none ∧ d1.depth ≤ 60 ∧ Q (.bl (PySem.W.dataLt d1 d2)) H
theorem op_ltD {X : Cx} (hu : X.A.units + 64 < cLine) : OpR X (compareOp .Lt) (rLtD X.K) := by
  intro pins s σ H x y v u Q I rx ry h
  obtain ⟨d1, d2, h1, h2, ha, hn, hd, q⟩ := h
  obtain ⟨a1, r1⟩ := Dp.reads I _ _ _ h1 rx
  obtain ⟨a2, r2⟩ := Dp.reads I _ _ _ h2 ry
  exact PySem.W.lt_data r1 r2 ha hn (by have := Nat.min_le_left d1.depth d2.depth; omega) ⟨.bl (PySem.W.dataLt d1 d2), H, I, rfl, q⟩
end L2
namespace Sh
open PySem PySem.Spec PyProof.Rows L2
open C8 (pss_cut tCut)
open Evl (ixN_nat)
def EntAt (H : Hp) (a : Addr) (e : Ent) : Prop := ∃ (t : Addr) (us : List Addr), H a = some (.tup [.int (((eC e).length : Nat) : Int), .int ((e.1 : Nat) : Int), .ref t]) ∧ H t = some (.tup (us.map V.ref)) ∧ PlAt nI H us e.2
theorem EntAt.keep {H H' : Hp} {a : Addr} {e : Ent} (x : EntAt H a e) (k : ∀ t ys, H t = some (.tup ys) → H' t = some (.tup ys)) : EntAt H' a e := by
  obtain ⟨t, us, h1, h2, h3⟩ := x
  exact ⟨t, us, k _ _ h1, k _ _ h2, h3.keep k⟩
theorem dp_ints {K : PySem.W.Frag} {H : Hp} : ∀ c : List Nat, DpAll K H (nI c) (iD c)
  | [] => .nil
  | _ :: c => .cons (.int _) (dp_ints c)
theorem dp_codes {K : PySem.W.Frag} {H : Hp} : ∀ {us : List Addr} {cs : List (List Nat)}, PlAt nI H us cs → DpAll K H (us.map V.ref) (cs.map cD)
  | [], [], _ => .nil
  | [], _ :: _, h => by have := h.1; simp at this
  | _ :: _, [], h => by have := h.1; simp at this
  | u :: us, c :: cs, h => .cons (.tup (SqT.of (h.2 0 u c rfl rfl)) (dp_ints c)) (dp_codes ⟨by have := h.1; simpa using this, fun i t x a b => h.2 (i + 1) t x (by simpa using a) (by simpa using b)⟩)
theorem EntAt.dp {K : PySem.W.Frag} {H : Hp} {a : Addr} {e : Ent} (x : EntAt H a e) : Dp K H (.ref a) (entD e.1 e.2) := by
  obtain ⟨t, us, h1, h2, h3⟩ := x
  exact .tup (SqT.of h1) (.cons (.int _) (.cons (.int _) (.cons (.tup (SqT.of h2) (dp_codes h3)) .nil)))
theorem iD_depth : ∀ c : List Nat, PyData.depthAll (iD c) = 0
  | [] => rfl
  | a :: c => by
    show PyData.depthAll (PyData.int _ :: iD c) = 0
    simp [PyData.depthAll, PyData.depth, iD_depth c]
theorem csD_depth : ∀ cs : List (List Nat), PyData.depthAll (cs.map cD) ≤ 1
  | [] => Nat.zero_le _
  | c :: cs => by
    have := csD_depth cs
    rw [List.map_cons]
    simp only [cD, PyData.depthAll, PyData.depth, iD_depth]
    omega
theorem entD_depth (k : Nat) (cs : List (List Nat)) : (entD k cs).depth ≤ 60 := by
  have : PyData.depthAll (cs.map fun c => PyData.tuple (iD c)) ≤ 1 := csD_depth cs
  unfold entD
  simp only [PyData.depthAll, PyData.depth]
  omega
/-- what is best by now, by states -/
structure BsA (H : Hp) (d : Addr) (kvs : List (Key × V)) (best : Nat → Option Ent) : Prop where
  at_ : H d = some (.dK kvs)
  nd : (kvs.map (·.1)).Nodup
  ks : ∀ kv ∈ kvs, ∃ s : Nat, kv.1 = .inl ((s : Nat) : Int)
  no : ∀ s, best s = none → valV kvs (.inl ((s : Nat) : Int)) = none
  ye : ∀ s e, best s = some e → ∃ a, valV kvs (.inl ((s : Nat) : Int)) = some (.ref a) ∧ EntAt H a e
  lt : ∀ s, best s ≠ none → s < 40
theorem inl_nat {a b : Nat} (h : (Sum.inl ((a : Nat) : Int) : Key) = .inl ((b : Nat) : Int)) : a = b := by
  have := Sum.inl.inj h
  omega
theorem BsA.len {H : Hp} {d : Addr} {kvs : List (Key × V)} {best : Nat → Option Ent} (x : BsA H d kvs best) : kvs.length ≤ 40 := by
  have : (kvs.map (·.1)).length ≤ ((List.range 40).map fun s : Nat => (Sum.inl ((s : Nat) : Int) : Key)).length := sub_len _ _ x.nd fun k hk => by
    obtain ⟨kv, hkv, rfl⟩ := List.mem_map.mp hk
    obtain ⟨s, es⟩ := x.ks kv hkv
    have hv := valV_nodup x.nd (show (kv.1, kv.2) ∈ kvs from hkv)
    rw [es] at hv
    refine List.mem_map.mpr ⟨s, List.mem_range.mpr (x.lt s fun e => ?_), es.symm⟩
    rw [x.no s e] at hv
    cases hv
  rw [List.length_map, List.length_map, List.length_range] at this
  exact this
theorem BsA.keep {H H' : Hp} {d : Addr} {kvs : List (Key × V)} {best : Nat → Option Ent} (x : BsA H d kvs best) (h : H' d = H d) (k : ∀ t ys, H t = some (.tup ys) → H' t = some (.tup ys)) : BsA H' d kvs best :=
  ⟨h.trans x.at_, x.nd, x.ks, x.no, fun s e q => by
    obtain ⟨a, h1, h2⟩ := x.ye s e q
    exact ⟨a, h1, h2.keep k⟩, x.lt⟩
theorem BsA.same {H H' : Hp} {d : Addr} {kvs : List (Key × V)} {best : Nat → Option Ent} (x : BsA H d kvs best) (s : Same H H') : BsA H' d kvs best := x.keep (by rw [x.at_, s _ _ x.at_]) fun _ _ h => s _ _ h
theorem BsA.put {H : Hp} {d : Addr} {kvs : List (Key × V)} {best : Nat → Option Ent} (x : BsA H d kvs best) {s : Nat} (hs : s < 40) {a : Addr} {e : Ent} (ha : EntAt H a e) :
    BsA (upd H d (.dK (putK kvs (.inl ((s : Nat) : Int)) (.ref a)))) d (putK kvs (.inl ((s : Nat) : Int)) (.ref a)) (fun s' => if s' = s then some e else best s') := by
  have k : ∀ t ys, H t = some (.tup ys) → (upd H d (.dK (putK kvs (.inl ((s : Nat) : Int)) (.ref a)))) t = some (.tup ys) := fun t ys h => by
    rw [upd_ne (ne_of h x.at_ (fun e => nomatch e))]
    exact h
  refine ⟨upd_same, put_nodup x.nd, fun kv hkv => ?_, fun s' h => ?_, fun s' e' h => ?_, fun s' h => ?_⟩
  · cases hv : valV kvs (.inl ((s : Nat) : Int)) with
    | none =>
      rw [putK_new _ hv] at hkv
      rcases List.mem_append.mp hkv with q | q
      · exact x.ks kv q
      · rw [List.mem_singleton.mp q]
        exact ⟨s, rfl⟩
    | some y =>
      unfold putK at hkv
      rw [valV_any, hv] at hkv
      have hkv : kv ∈ kvs.map fun kv => if kv.1 = .inl ((s : Nat) : Int) then (kv.1, V.ref a) else kv := hkv
      obtain ⟨q, hq, rfl⟩ := List.mem_map.mp hkv
      obtain ⟨s0, e0⟩ := x.ks q hq
      refine ⟨s0, ?_⟩
      split <;> exact e0
  · by_cases c : s' = s
    · rw [if_pos c] at h; cases h
    · rw [if_neg c] at h
      rw [valV_put, if_neg (fun z => c (inl_nat z))]
      exact x.no s' h
  · by_cases c : s' = s
    · subst c
      rw [if_pos rfl] at h
      cases h
      exact ⟨a, by rw [valV_put, if_pos rfl], ha.keep k⟩
    · rw [if_neg c] at h
      obtain ⟨a', h1, h2⟩ := x.ye s' e' h
      exact ⟨a', by rw [valV_put, if_neg (fun z => c (inl_nat z))]; exact h1, h2.keep k⟩
  · by_cases c : s' = s
    · rw [c]; exact hs
    · rw [if_neg c] at h
      exact x.lt s' h
theorem BsA.pop {H : Hp} {d : Addr} {kvs : List (Key × V)} {best : Nat → Option Ent} (x : BsA H d kvs best) (s : Nat) :
    BsA (upd H d (.dK (dropK kvs (.inl ((s : Nat) : Int))))) d (dropK kvs (.inl ((s : Nat) : Int))) (fun s' => if s' = s then none else best s') := by
  have k : ∀ t ys, H t = some (.tup ys) → (upd H d (.dK (dropK kvs (.inl ((s : Nat) : Int))))) t = some (.tup ys) := fun t ys h => by
    rw [upd_ne (ne_of h x.at_ (fun e => nomatch e))]
    exact h
  refine ⟨upd_same, drop_nodup x.nd, fun kv hkv => x.ks kv (dropK_mem hkv), fun s' h => ?_, fun s' e' h => ?_, fun s' h => ?_⟩
  · rw [valV_drop]
    by_cases c : s' = s
    · rw [if_pos (by rw [c])]
    · rw [if_neg c] at h
      rw [if_neg (fun z => c (inl_nat z))]
      exact x.no s' h
  · by_cases c : s' = s
    · rw [if_pos c] at h; cases h
    · rw [if_neg c] at h
      obtain ⟨a', h1, h2⟩ := x.ye s' e' h
      exact ⟨a', by rw [valV_drop, if_neg (fun z => c (inl_nat z))]; exact h1, h2.keep k⟩
  · by_cases c : s' = s
    · rw [if_pos c] at h; exact absurd rfl h
    · rw [if_neg c] at h
      exact x.lt s' h
def spOffer6 : Sp := fun vs H Q _ => ∃ (d a : Addr) (s : Nat) (kvs : List (Key × V)) (best : Nat → Option Ent) (e : Ent), vs = [.ref d, .int ((s : Nat) : Int), .ref a] ∧ BsA H d kvs best ∧ EntAt H a e ∧ s < 40 ∧
  ((∃ f, best s = some f ∧ PySem.W.dataLt (entD e.1 e.2) (entD f.1 f.2) = false) → Q .non H) ∧
  ((∀ f, best s = some f → PySem.W.dataLt (entD e.1 e.2) (entD f.1 f.2) = true) → ∀ kvs', BsA (upd H d (.dK kvs')) d kvs' (fun s' => if s' = s then some e else best s') → Q .non (upd H d (.dK kvs')))
abbrev N_offer : List Str := ["best", "state", "plant"]
theorem sc_offer : FnScope N_offer ["best", "state", "plant"] (defScope s_offer) := ⟨rfl, rfl, rfl, by decide +kernel, rfl, by decide +kernel, by decide +kernel⟩
section
variable {P : Program} {w : World} {K : PySem.W.Frag} {mg : Str → Option Value} {base : Heap}
theorem ok_offer6 (T : Bl mg) (D : Def0 K mg "offer" s_offer) : DefOk P w K mg base CX0 1 "offer" spOffer6 := by
  refine D.ok sc_offer (fun vs H Q E h => by obtain ⟨d, a, s, kvs, best, e, rfl, _⟩ := h; rfl) (fun _ _ _ _ _ _ us hl => match us, hl with | [_, _, _], _ => rfl) (fun f cdv A outer s0 H vs Q E hr h => ?_)
  obtain ⟨d, a, s, kvs, best, e, rfl, hB, hE, hs, q1, q2⟩ := h
  have hu := hu_of hr
  have hu64 := hr.units
  refine ⟨_, (pss_one (ps_if (PW.pt (pw_or (pt_cmp (pc_dnotin hu (pv 1) (pv 0))) (pw_or1 (pt_cmpR (show OpR _ (compareOp .Lt) (rLtD K) from op_ltD hu64) (pv 2) (pe_dget hu (pv 0) (pv 1) (fun _ _ => rfl)) (nomark _)))))
        (pss_one (ps_dput hu (pv 0) (pv 1) (pv 2) rfl))
        pss_nil)), ?_⟩
  have gD := DGet.k (k := .inl ((s : Nat) : Int)) hB.at_
  have put : (∀ f, best s = some f → PySem.W.dataLt (entD e.1 e.2) (entD f.1 f.2) = true) → Q .non (upd H d (.dK (putK kvs (.inl ((s : Nat) : Int)) (.ref a)))) := fun h => q2 h _ (hB.put hs hE)
  have hlen : kvs.length < sizeLine := lt_line (Nat.le_trans hB.len (by decide))
  cases hb : best s with
  | none =>
    rw [hB.no s hb] at gD
    refine ⟨_, rfl, _, rfl, d, _, rfl, gD, _, rfl, ifp rfl ?_⟩
    refine ⟨_, rfl, _, rfl, _, rfl, d, _, rfl, DPut.k (k := .inl ((s : Nat) : Int)) hB.at_ hlen, ?_⟩
    exact put fun f hf => by rw [hb] at hf; cases hf
  | some f =>
    obtain ⟨a', hv, hE'⟩ := hB.ye s f hb
    rw [hv] at gD
    refine ⟨_, rfl, _, rfl, d, _, rfl, gD, _, rfl, ifn (by simp) ?_⟩
    refine ⟨_, rfl, _, rfl, _, rfl, d, _, rfl, gD, _, _, hE.dp, hE'.dp, entD_alike _ _ _ _, by unfold entD; simp, entD_depth _ _, ?_⟩
    refine ⟨_, rfl, ite2 (fun c => ?_) (fun c => ?_)⟩
    · refine ⟨_, rfl, _, rfl, _, rfl, d, _, rfl, DPut.k (k := .inl ((s : Nat) : Int)) hB.at_ hlen, ?_⟩
      exact put fun f' hf => by
        rw [hb] at hf
        cases hf
        exact c
    · exact q1 ⟨f, hb, by simpa using c⟩
end
end Sh
end
section
set_option Elab.async false
set_option linter.all false
set_option maxRecDepth 100000
set_option maxHeartbeats 16000000
namespace Sh
open PySem PySem.Spec PyProof.Rows L2
open C8 (pss_cut tCut)
open Evl (ixN_nat)
def cdK (ss : List Nat) (us : List Addr) : List (Key × V) := (ss.zip us).map fun p => (.inl ((p.1 : Nat) : Int), .ref p.2)
theorem cdK_keys {ss : List Nat} {us : List Addr} (h : us.length = ss.length) : (cdK ss us).map (fun kv => kV kv.1) = nI ss := by
  unfold cdK nI
  rw [List.map_map]
  have : ss = (ss.zip us).map (·.1) := by rw [List.map_fst_zip (by omega)]
  conv => rhs; rw [this]
  rw [List.map_map]
  rfl
theorem cdK_at {ss : List Nat} {us : List Addr} {i : Nat} {k : Key} {x : V} (h : (cdK ss us)[i]? = some (k, x)) : ∃ s u, ss[i]? = some s ∧ us[i]? = some u ∧ k = .inl ((s : Nat) : Int) ∧ x = .ref u := by
  unfold cdK at h
  rw [List.getElem?_map] at h
  cases e : (ss.zip us)[i]? with
  | none => rw [e] at h; cases h
  | some p =>
    rw [e] at h
    cases h
    obtain ⟨h1, h2⟩ := List.getElem?_zip_eq_some.mp e
    exact ⟨_, _, h1, h2, rfl, rfl⟩
theorem cdK_len {ss : List Nat} {us : List Addr} (h : us.length = ss.length) : (cdK ss us).length = ss.length := by
  unfold cdK
  rw [List.length_map, List.length_zip, h, Nat.min_self]
theorem cdK_nd : ∀ {ss : List Nat} {us : List Addr}, us.length = ss.length → ss.Nodup → ((cdK ss us).map (·.1)).Nodup
  | [], [], _, _ => List.nodup_nil
  | [], _ :: _, h, _ => by simp at h
  | _ :: _, [], h, _ => by simp at h
  | s :: ss, u :: us, h, nd => by
    obtain ⟨n1, n2⟩ := List.nodup_cons.mp nd
    show ((Sum.inl ((s : Nat) : Int) : Key) :: (cdK ss us).map (·.1)).Nodup
    refine List.nodup_cons.mpr ⟨fun hm => ?_, cdK_nd (by simpa using h) n2⟩
    obtain ⟨kv, hkv, e⟩ := List.mem_map.mp hm
    unfold cdK at hkv
    obtain ⟨p, hp, rfl⟩ := List.mem_map.mp hkv
    have := inl_nat e
    exact n1 (by rw [← this]; exact (List.of_mem_zip hp).1)
theorem cdK_val {ss : List Nat} {us : List Addr} (h : us.length = ss.length) (nd : ss.Nodup) {i s : Nat} {u : Addr} (h1 : ss[i]? = some s) (h2 : us[i]? = some u) : valV (cdK ss us) (.inl ((s : Nat) : Int)) = some (.ref u) := by
  refine valV_nodup (cdK_nd h nd) ?_
  unfold cdK
  exact List.mem_map.mpr ⟨(s, u), List.mem_of_getElem? (List.getElem?_zip_eq_some.mpr ⟨h1, h2⟩ : (ss.zip us)[i]? = some (s, u)), rfl⟩
theorem cdK_no {ss : List Nat} {us : List Addr} {s : Nat} (h : s ∉ ss) : valV (cdK ss us) (.inl ((s : Nat) : Int)) = none := by
  cases e : valV (cdK ss us) (.inl ((s : Nat) : Int)) with
  | none => rfl
  | some v =>
    have := valV_mem e
    unfold cdK at this
    obtain ⟨p, hp, q⟩ := List.mem_map.mp this
    have := inl_nat (Prod.mk.inj q).1
    exact absurd (this ▸ (List.of_mem_zip hp).1) h
def CdA (H : Hp) (d : Addr) (ss : List Nat) (cs : List (List Nat)) : Prop := ∃ us : List Addr, H d = some (.dK (cdK ss us)) ∧ us.length = ss.length ∧ PlAt nI H us cs
theorem CdA.keep {H H' : Hp} {d : Addr} {ss : List Nat} {cs : List (List Nat)} (x : CdA H d ss cs) (h : ∀ o, H d = some o → H' d = some o) (k : ∀ t ys, H t = some (.tup ys) → H' t = some (.tup ys)) : CdA H' d ss cs := by
  obtain ⟨us, h1, h2, h3⟩ := x
  exact ⟨us, h _ h1, h2, h3.keep k⟩
theorem cO_len (cs : List (List Nat)) (k : Nat) (r : List Nat) : (cO cs k r).length = 1 + (r.map fun i => (cs.getD i []).length).sum := by
  unfold cO eC rwC
  rw [List.length_cons, List.length_flatten, List.map_map]
  show List.sum _ + 1 = _
  rw [Nat.add_comm]
  rfl
theorem cO_big {cs : List (List Nat)} {k : Nat} {r : List Nat} {i : Nat} (h : i ∈ r) : (cs.getD i []).length < (cO cs k r).length := by
  rw [cO_len]
  have : (cs.getD i []).length ≤ (r.map fun i => (cs.getD i []).length).sum := by
    induction r with
    | nil => cases h
    | cons a r ih =>
      rw [List.map_cons, List.sum_cons]
      rcases List.mem_cons.mp h with rfl | h
      · exact Nat.le_add_right _ _
      · have := ih h; omega
  omega
theorem nI_int (l : List Nat) : nI l = (l.map fun n => ((n : Nat) : Int)).map V.int := by
  unfold nI
  rw [List.map_map]
  rfl
theorem nI_sum (l : List Nat) : (l.map fun n => ((n : Nat) : Int)).sum = ((l.sum : Nat) : Int) := by
  induction l with
  | nil => rfl
  | cons a l ih =>
    rw [List.map_cons, List.sum_cons, List.sum_cons, ih]
    omega
def dnK (ss : List Nat) (k : Nat) : Nat → List Nat → Prop := fun k' r => (∀ i ∈ r, i < ss.length - 1) ∨ k' < k
/-- a code's names -/
def rkN (rows : List Row) (c : List Nat) : List Str := c.map fun k => ((rows.map (·.1))[k]?).getD ""
def spDecoded (C : Addr) : Sp := fun vs H Q _ => ∃ (b t : Addr) (rows : List Row) (c : List Nat), vs = [.ref b, .ref t] ∧ BedAt C H b rows ∧ H t = some (.tup (nI c)) ∧ (∀ k ∈ c, k < rows.length) ∧ c.length ≤ 2000 ∧ ∀ H' t', Same H H' → H' t' = some (.tup (sV (rkN rows c))) → Q (.ref t') H'
def spOffRows (C CM : Addr) : Sp := fun vs H Q _ => ∃ (m d2 d : Addr) (z : Str) (H0 : Hp) (b : Addr) (rows : List Row) (Ds : List RdD) (js : List (List Nat)) (cl : Str → List Nat → Option Nat) (ss : List Nat) (cs : List (List Nat)) (kvs : List (Key × V)) (best : Nat → Option Ent) (k : Nat) (q : Row),
  vs = [.ref m, .ref d2, .str z, .ref d] ∧ Gw H0 H ∧ H0 d = none ∧ H0 d2 = none ∧ d ≠ d2 ∧ MacAt C CM H0 m b rows js cl ∧ ROk 4 rows ∧ MI rows Ds js cl ∧ MDn rows cl js.length ∧ js.length ≤ 40 ∧ CdA H d2 ss cs ∧ BsA H d kvs best ∧ LC rows cl ss cs (dnK ss k) best ∧ 0 < ss.length ∧ (∀ s ∈ ss, s < js.length) ∧ rows[k]? = some q ∧ q.1 = z ∧
  ∀ H' kvs' best', Kp d H H' → BsA H' d kvs' best' → LC rows cl ss cs (dnK ss (k + 1)) best' → Q .non H'
abbrev N_offer_rows : List Str := ["machine", "codes", "kind", "best", "states", "sizes", "rank", "table", "row", "below", "size", "code", "place", "state"]
theorem sc_offer_rows : FnScope N_offer_rows ["machine", "codes", "kind", "best"] (defScope s_offer_rows) := ⟨rfl, rfl, rfl, by decide +kernel, rfl, by decide +kernel, by decide +kernel⟩
abbrev N_decoded : List Str := ["bed", "code", "rank"]
theorem sc_decoded : FnScope N_decoded ["bed", "code"] (defScope s_decoded) := ⟨rfl, rfl, rfl, by decide +kernel, rfl, by decide +kernel, by decide +kernel⟩
section
variable {P : Program} {w : World} {K : PySem.W.Frag} {mg : Str → Option Value} {base : Heap} {C CM : Addr}
theorem ok_offrows (T : Bl mg) (b_sum : mg "sum" = none) (BB : BedT K C) (BM : McT K CM) (c_rows_with : DefOk P w K mg base CX0 3 "rows_with" spRowsWith6) (c_offer : DefOk P w K mg base CX0 1 "offer" spOffer6) (D : Def0 K mg "offer_rows" s_offer_rows) : DefOk P w K mg base CX0 4 "offer_rows" (spOffRows C CM) := by
  refine D.ok sc_offer_rows (fun vs H Q E h => by obtain ⟨m, d2, d, z, H0, b, rows, Ds, js, cl, ss, cs, kvs, best, k, q, rfl, _⟩ := h; rfl) (fun _ _ _ _ _ _ us hl => match us, hl with | [_, _, _, _], _ => rfl) (fun f cdv A outer s0 H vs Q E hr h => ?_)
  obtain ⟨m, d2, d, z, H0, b, rows, Ds, js, cl, ss, cs, kvs, best, k, q, rfl, g0, hd0, hd20, nd2, hM0, R, hI, hMD, l40, hC, hB, hL, l0, hss, hq, rfl, key⟩ := h
  have hu := hu_of hr
  refine ⟨_, (pss_cons (ps_set (i := 4) sc_offer_rows.nd rfl (Or.inr rfl) (pe_callTy (call_list_dK rfl) (by rfl) T.b_list (by decide +kernel) (pa_cons (pv 1) pa_nil)))
      (pss_cons (ps_set (i := 5) sc_offer_rows.nd rfl (Or.inr rfl) (pe_lock (pe_lc (own := [("code", 11)]) (g := (gName 11)) (tt := tYes) rfl sc_offer_rows.nd (show PI _ _ _ (iVals _) from pi_values (pv 1)) (blkOk_by (N := N_offer_rows) (sc := defScope s_offer_rows) (by decide +kernel)) (fun _ _ _ _ _ => (pg_name (i := 11) sc_offer_rows.nd rfl (Or.inl rfl))) (fun _ _ _ _ _ => pts_nil) (fun _ _ _ _ _ => (pe_callB (show CallR _ _ (Evl.rLenS K) from call_len_seq) (by rfl) T.b_len boot_len (pa_cons (pv 11) pa_nil))))))
      (pss_cons (ps_set (i := 6) sc_offer_rows.nd rfl (Or.inl rfl) (pe_dget hu (pe_fld (pe_fld (pv 0) rfl) rfl) (pv 2) (fun _ _ => rfl)))
      (pss_cons (ps_set (i := 7) sc_offer_rows.nd rfl (Or.inl rfl) (pe_dget hu (pe_fld (pv 0) rfl) (pv 2) (fun _ _ => rfl)))
      (pss_one (ps_for PassesOwn.never rfl (pi_list (pe_d c_rows_with (hr.mono (by decide)) pass0 (pa_cons (pe_op op_sub (pe_callB call_len_seq (by rfl) T.b_len boot_len (pa_cons (pv 4) pa_nil)) pe_int) (pa_cons (pe_dget hu (pe_fld (pe_fld (pv 0) rfl) rfl) (pv 2) (fun _ _ => rfl)) pa_nil)))) (pg_name (i := 8) sc_offer_rows.nd rfl (Or.inl rfl))
        (pss_cons (ps_set (i := 9) sc_offer_rows.nd rfl (Or.inl rfl) (pe_callTy call_tuple_of (by rfl) T.b_tuple (by decide +kernel) (pa_cons (pe_lc (own := [("place", 12)]) (g := (gName 12)) (tt := tYes) rfl sc_offer_rows.nd (pi_tup (pv 8)) (blkOk_by (N := N_offer_rows) (sc := defScope s_offer_rows) (by decide +kernel)) (fun _ _ _ _ _ => (pg_name (i := 12) sc_offer_rows.nd rfl (Or.inl rfl))) (fun _ _ _ _ _ => pts_nil) (fun _ _ _ _ _ => (pe_ix (show IxR _ (rIxL K) from ix_list) (pv 4) (pv 12) (fun _ _ => rfl)))) pa_nil)))
        (pss_cons (ps_set (i := 10) sc_offer_rows.nd rfl (Or.inl rfl) (pe_op op_add pe_int (pe_callB (cr_sum rfl) (by rfl) b_sum (by decide +kernel) (pa_cons (pe_lc (own := [("place", 12)]) (g := (gName 12)) (tt := tYes) rfl sc_offer_rows.nd (pi_tup (pv 8)) (blkOk_by (N := N_offer_rows) (sc := defScope s_offer_rows) (by decide +kernel)) (fun _ _ _ _ _ => (pg_name (i := 12) sc_offer_rows.nd rfl (Or.inl rfl))) (fun _ _ _ _ _ => pts_nil) (fun _ _ _ _ _ => (pe_ix (show IxR _ (rIxL K) from ix_list) (pv 5) (pv 12) (fun _ _ => rfl)))) pa_nil))))
        (pss_one (ps_if (PW.pt (pw_and (pt_cmpR op_le (pv 10) (pe_cI (by rfl) T.c_MOST_KNOTS) (nomark _)) (pw_and1 (pt_cmp (pc_dnotin hu (pe_dget hu (pv 7) (pv 9) (fun _ _ => rfl)) (pv 1))))))
          (pss_one (ps_expr (pe_d c_offer (hr.mono (by decide)) pass0 (pa_cons (pv 3) (pa_cons (pe_dget hu (pv 7) (pv 9) (fun _ _ => rfl)) (pa_cons (pe_tup (pa_cons (pv 10) (pa_cons (pv 6) (pa_cons (pe_callTy call_tuple_of (by rfl) T.b_tuple (by decide +kernel) (pa_cons (pe_lc (own := [("state", 13)]) (g := (gName 13)) (tt := tYes) rfl sc_offer_rows.nd (pi_tup (pv 9)) (blkOk_by (N := N_offer_rows) (sc := defScope s_offer_rows) (by decide +kernel)) (fun _ _ _ _ _ => (pg_name (i := 13) sc_offer_rows.nd rfl (Or.inl rfl))) (fun _ _ _ _ _ => pts_nil) (fun _ _ _ _ _ => (pe_dget hu (pv 1) (pv 13) (fun _ _ => rfl)))) pa_nil)) pa_nil)))) pa_nil))))))
          pss_nil)))))))))), ?_⟩
  obtain ⟨lj, dn, dc, ds, jus, cnt, ⟨⟨dx, ho⟩, hj, hjp, hn⟩, hc, bx, r0, kk, ww, rk, ts, b1, b2, b3, b4, b5, b6⟩ := hM0
  obtain ⟨us, hd2, lus, hus⟩ := hC
  obtain ⟨em1, em2, em3, em4, em5⟩ := mac_lk b lj dn dc
  have stay : ∀ {H' : Hp} {p : Addr} {o : HO}, Kp d H H' → H0 p = some o → (∀ ps, o ≠ .tbl ps) → H' p = some o := fun {H' p o} k h n => k _ _ (g0.e _ _ h n) fun e => by rw [e, hd0] at h; cases h
  have tk : ∀ {H' : Hp}, Kp d H H' → ∀ t ys, H t = some (.tup ys) → H' t = some (.tup ys) := fun k t ys h => k _ _ h (ne_of h hB.at_ (fun e => nomatch e))
  have lcs : cs.length = ss.length := hL.len
  have ss40 : ss.length ≤ 40 := Nat.le_trans (Nat.le_trans (sub_len ss (List.range js.length) hL.nd fun s hs => List.mem_range.mpr (hss s hs)) (by rw [List.length_range]; exact Nat.le_refl _)) l40
  -- states
  refine ⟨_, rfl, d2, _, rfl, hd2, fun L1 hL1 => ?_⟩
  rw [cdK_keys lus]
  have s1 : Same H (upd H L1 (.lst (nI ss))) := (Same.refl H).upd_new hL1
  have e1 : (upd H L1 (.lst (nI ss))) L1 = some (.lst (nI ss)) := upd_same
  have nL1 : d ≠ L1 := ne_of_none hB.at_ hL1
  generalize upd H L1 (.lst (nI ss)) = H1 at s1 e1
  have hd21 := s1 _ _ hd2
  have nL12 : L1 ≠ d2 := ne_of e1 hd21 (fun e => nomatch e)
  -- sizes
  refine ⟨d2, _, hd21, trivial, fun od => ?_⟩
  generalize hH1f : upd H1 d2 (.frz od (.dK (cdK ss us))) = H1f
  have d1f : H1f d2 = some (.frz od (.dK (cdK ss us))) := by rw [← hH1f]; exact upd_same
  have o1f : ∀ p, p ≠ d2 → H1f p = H1 p := fun p h => by rw [← hH1f]; exact upd_ne h
  refine ⟨_, rfl, d2, od, _, rfl, d1f, fun D hD => lc_it (walk_values (d := d2) (o := od) (kvs := cdK ss us)) (fun i H' => Same H1f H' ∧ H' D = some (.lst (nI ((cs.map List.length).take i)))) ⟨(Same.refl H1f).upd_new hD, upd_same⟩ (fun i H' _ ⟨q, _⟩ => q _ _ d1f) ?_ ?_⟩
  · rintro i v H5 H6 hi ⟨s5, d5⟩ ⟨rfl, kx, hk⟩
    obtain ⟨s', u, hs', hu', _, rfl⟩ := cdK_at hk
    have hic : i < cs.length := by rw [lcs]; exact (List.getElem?_eq_some_iff.mp hs').1
    have hci := List.getElem?_eq_getElem hic
    have hu1 := s1 _ _ (hus.2 i u _ hu' hci)
    have hut := s5 _ _ ((o1f u (ne_of hu1 hd21 (fun e => nomatch e))).trans hu1)
    refine ⟨rfl, _, rfl, u, _, rfl, .inr (SqT.of hut), _, d5, ?_, s5.upd_own hD, ?_⟩
    · rw [nI_len, List.length_take, List.length_map]
      exact lt_line (n := min i _) (by omega)
    · rw [upd_same, nI_len]
      have : (cs.map List.length).take (i + 1) = (cs.map List.length).take i ++ [cs[i].length] := by
        rw [List.take_add_one, List.getElem?_map, hci]
        rfl
      rw [this, ← nI_snoc]
  rintro H6 ⟨s6, d6⟩
  refine ⟨s6 _ _ d1f, ?_⟩
  rw [cdK_len lus, ← lcs, show cs.length = (cs.map List.length).length by rw [List.length_map], List.take_length] at d6
  have nDd2 : D ≠ d2 := fun e => by rw [e, d1f] at hD; cases hD
  have s17 : Same H1 (upd H6 d2 (.dK (cdK ss us))) := fun p o h => by
    by_cases e : p = d2
    · rw [e, hd21] at h
      cases h
      rw [e]
      exact upd_same
    · rw [upd_ne e]
      exact s6 _ _ ((o1f p e).trans h)
  have e7 : (upd H6 d2 (.dK (cdK ss us))) D = some (.lst (nI (cs.map List.length))) := by rw [upd_ne nDd2]; exact d6
  generalize upd H6 d2 (.dK (cdK ss us)) = H7 at s17 e7
  have s7 : Same H H7 := s1.trans s17
  have l7 := s17 _ _ e1
  have nDd : d ≠ D := fun e => by
    have h1 := s1 _ _ hB.at_
    rw [← o1f d (by exact nd2), e, hD] at h1
    cases h1
  -- the bed's and the machine's tables
  have gRk : ∀ {H' : Hp}, Kp d H H' → DGet H' rk (.str q.1) (some (.int ((k : Nat) : Int))) := fun {H'} kx => by
    have := DGet.k (k := .inr q.1) (stay kx b6 (fun _ e => nomatch e))
    have hkl : k < (rows.map (·.1)).length := by rw [List.length_map]; exact (List.getElem?_eq_some_iff.mp hq).1
    have ek : (rows.map (·.1))[k] = q.1 := by
      have := List.getElem?_eq_getElem hkl
      rw [List.getElem?_map, hq] at this
      exact (Option.some.inj this).symm
    rw [← ek, valV_rk R.nd hkl] at this
    rw [← ek]
    exact this
  have hqm : q ∈ rows := List.mem_of_getElem? hq
  have hzn : HasN rows q.1 := ⟨q, hqm, rfl⟩
  have hzw := wR_of R hqm
  have gW : ∀ {H' : Hp}, Kp d H H' → DGet H' ww (.str q.1) (some (.int ((q.2.toNat : Nat) : Int))) := fun {H'} kx => by
    have := DGet.k (k := .inr q.1) (stay kx b5 (fun _ e => nomatch e))
    rw [val_wL R hzn, hzw] at this
    exact this
  have hkn : (rows.map (·.1))[k]? = some q.1 := by rw [List.getElem?_map, hq]; rfl
  have hkl : k < ds.length := by rw [hc.len, List.length_map]; exact (List.getElem?_eq_some_iff.mp hq).1
  have hda := List.getElem?_eq_getElem hkl
  generalize ds[k] = a at hda
  obtain ⟨kv, hkv, lkv, vkv⟩ := hc.row k q.1 a hkn hda
  have gC : ∀ {H' : Hp}, Kp d H H' → DGet H' dc (.str q.1) (some (.ref a)) := fun {H'} kx => by
    have := DGet.k (k := .inr q.1) (stay kx hc.at_ (fun _ e => nomatch e))
    rw [tn_val R.nd hkn hda] at this
    exact this
  have K7 : Kp d H H7 := Kp.same s7
  have rf : ∀ {H' : Hp}, Kp d H H' → H' m = some (.ins CM dx (macF b lj dn dc)) ∧ H' b = some (.ins C bx (bedF r0 kk ww rk)) := fun kx => ⟨stay kx ho (fun _ e => nomatch e), stay kx b1 (fun _ e => nomatch e)⟩
  obtain ⟨f1, f2⟩ := rf K7
  refine ⟨_, rfl, m, CM, dx, _, _, rfl, f1, BM.cl, BM.nB, em1, b, C, bx, _, _, rfl, f2, BB.cl, BB.nRk, lk_ranks _ _ _ _, _, rfl, rk, _, rfl, gRk K7, ?_⟩
  refine ⟨_, rfl, m, CM, dx, _, _, rfl, f1, BM.cl, BM.nC, em4, _, rfl, dc, _, rfl, gC K7, ?_⟩
  refine ⟨_, rfl, L1, _, rfl, .inl (SqL.of l7), _, _, rfl, rfl, _, rfl, m, CM, dx, _, _, rfl, f1, BM.cl, BM.nB, em1, b, C, bx, _, _, rfl, f2, BB.cl, BB.nW, lk_widths _ _ _ _, _, rfl, ww, _, rfl, gW K7, ?_⟩
  have hw3 : q.2.toNat ≤ 3 := by rw [← hzw]; exact wR_le R _
  refine ⟨ss.length - 1, q.2.toNat, by rw [nI_len]; show [V.int (((ss.length : Nat) : Int) - 1), _] = _; rw [show ((ss.length : Nat) : Int) - 1 = ((ss.length - 1 : Nat) : Int) by omega], by omega, hw3, fun H8 Lw s8 nLw WW => ?_⟩
  obtain ⟨vs', hLw, PW⟩ := WW
  have s08 : Same H H8 := s7.trans s8
  have l8 := s8 _ _ l7
  have e8 := s8 _ _ e7
  have nLwd : Lw ≠ d := fun e => by
    have := s7 _ _ hB.at_
    rw [← e, nLw] at this
    cases this
  have lvs : (vs'.map V.ref).length = (rwW (ss.length - 1) q.2.toNat).length := by rw [List.length_map, PW.1]
  refine ⟨Lw, rfl, ⟨_, SqL.of hLw⟩, for_list (xs := vs'.map V.ref) (fun i σ H' => ∃ (x8 x9 x10 x11 x12 x13 : Option V) (kvs' : List (Key × V)) (best' : Nat → Option Ent), σ = [some (.ref m), some (.ref d2), some (.str q.1), some (.ref d), some (.ref L1), some (.ref D), some (.int ((k : Nat) : Int)), some (.ref a), x8, x9, x10, x11, x12, x13] ∧ Kp d H8 H' ∧ BsA H' d kvs' best' ∧ LC rows cl ss cs (fun k' r => dnK ss k k' r ∨ (k' = k ∧ r ∈ (rwW (ss.length - 1) q.2.toNat).take i)) best')
    ⟨none, none, none, none, none, none, kvs, best, rfl, Kp.refl d H8, hB.same s08, hL.more fun k' r s' o dn z => .inl (dn.elim id fun h => absurd h.2 (by simp))⟩ (fun i σ H' _ ⟨_, _, _, _, _, _, _, _, _, kk, _⟩ => SqL.of (kk _ _ hLw nLwd)) ?_ ?_⟩
  · rintro i v σ H9 hv ⟨x8, x9, x10, x11, x12, x13, kvs9, best9, rfl, k9, B9, L9⟩
    obtain ⟨u, hu2, rfl⟩ := get_map_r hv
    have hiw : i < (rwW (ss.length - 1) q.2.toNat).length := by rw [← PW.1]; exact (List.getElem?_eq_some_iff.mp hu2).1
    have hri := List.getElem?_eq_getElem hiw
    have hrm := List.getElem_mem hiw
    generalize (rwW (ss.length - 1) q.2.toNat)[i] = r at hri hrm
    obtain ⟨r1, r2, r3⟩ := rwW_mem.mp hrm
    have tkk : ∀ {Ha Hb : Hp}, (Ha d = some (.dK kvs9) ∨ ∃ kv, Ha d = some (.dK kv)) → Kp d Ha Hb → ∀ t ys, Ha t = some (.tup ys) → Hb t = some (.tup ys) := fun h k t ys ht => by
      rcases h with h | ⟨kv, h⟩
      · exact k _ _ ht (ne_of ht h (fun e => nomatch e))
      · exact k _ _ ht (ne_of ht h (fun e => nomatch e))
    have K9 : Kp d H H9 := (Kp.same s08).trans k9
    have hd8 := s08 _ _ hB.at_
    have hu9 : H9 u = some (.tup (nI r)) := tkk (.inr ⟨_, hd8⟩) k9 _ _ (PW.2 i u r hu2 hri)
    have l9 : H9 L1 = some (.lst (nI ss)) := k9 _ _ l8 (Ne.symm nL1)
    have e9 : H9 D = some (.lst (nI (cs.map List.length))) := k9 _ _ e8 (Ne.symm nDd)
    have rlt : ∀ y ∈ r, y < ss.length := fun y hy => by have := r2 y hy; omega
    have lr3 : r.length ≤ 3 := by omega
    have rS : (rwS ss r).length = r.length := by unfold rwS; rw [List.length_map]
    have rSl : ∀ y ∈ rwS ss r, y < js.length := fun y hy => by
      unfold rwS at hy
      obtain ⟨p, hp, rfl⟩ := List.mem_map.mp hy
      rw [List.getD_eq_getElem?_getD, List.getElem?_eq_getElem (rlt p hp)]
      exact hss _ (List.getElem_mem (rlt p hp))
    obtain ⟨s, hs⟩ := hMD q.1 hzn (rwS ss r) (by rw [rS, r1, hzw]) rSl
    have O : Off rows cl ss k r s := ⟨⟨q, hq, r1, hs⟩, rlt⟩
    have hsl : s < js.length := (List.getElem?_eq_some_iff.mp (hI.cs _ _ _ hs).2.2.2).1
    -- below
    refine ⟨_, rfl, u, rfl, ⟨_, SqT.of hu9⟩, fun E1 hE1 => lc_it (walk_tup (xs := nI r)) (fun j H' => Same H9 H' ∧ H' E1 = some (.lst (nI (rwS ss (r.take j))))) ⟨(Same.refl H9).upd_new hE1, upd_same⟩ (fun j H' _ ⟨q, _⟩ => SqT.of (q _ _ hu9)) ?_ ?_⟩
    · rintro j v H5 H6 hj ⟨s5, d5⟩ ⟨rfl, hv⟩
      rw [nI_len] at hj
      have hrj := List.getElem?_eq_getElem hj
      rw [nI_at hrj] at hv
      injection hv with hv
      subst hv
      have hlt := rlt _ (List.getElem_mem hj)
      have hsj := List.getElem?_eq_getElem hlt
      have eg : ss.getD r[j] 0 = ss[r[j]] := by rw [List.getD_eq_getElem?_getD, hsj]; rfl
      refine ⟨rfl, _, rfl, _, rfl, L1, _, _, _, rfl, rfl, SqL.of (s5 _ _ l9), at_ofG (j := r[j]) rfl (nI_at hsj), _, d5, ?_, s5.upd_own hE1, ?_⟩
      · rw [nI_len]
        unfold rwS
        rw [List.length_map, List.length_take]
        exact lt_line (n := min j _) (by omega)
      · rw [upd_same, ← eg]
        have : rwS ss (r.take (j + 1)) = rwS ss (r.take j) ++ [ss.getD r[j] 0] := by
          unfold rwS
          rw [List.take_add_one, hrj, List.map_append]
          rfl
        rw [this, ← nI_snoc]
    rintro H5 ⟨s5, d5⟩
    rw [nI_len, List.take_length] at d5
    refine ⟨E1, _, rfl, .inl ⟨SqL.of d5, fun t ht => ?_⟩⟩
    have s10 : Same H9 (upd H5 t (.tup (nI (rwS ss r)))) := s5.upd_new ht
    have t10 : (upd H5 t (.tup (nI (rwS ss r)))) t = some (.tup (nI (rwS ss r))) := upd_same
    generalize upd H5 t (.tup (nI (rwS ss r))) = H10 at s10 t10
    -- size
    refine ⟨_, rfl, u, rfl, ⟨_, SqT.of (s10 _ _ hu9)⟩, fun E2 hE2 => lc_it (walk_tup (xs := nI r)) (fun j H' => Same H10 H' ∧ H' E2 = some (.lst (nI ((r.take j).map fun i => (cs.getD i []).length)))) ⟨(Same.refl H10).upd_new hE2, upd_same⟩ (fun j H' _ ⟨q, _⟩ => SqT.of (q _ _ (s10 _ _ hu9))) ?_ ?_⟩
    · rintro j v H11 H12 hj ⟨s5, d5⟩ ⟨rfl, hv⟩
      rw [nI_len] at hj
      have hrj := List.getElem?_eq_getElem hj
      rw [nI_at hrj] at hv
      injection hv with hv
      subst hv
      have hlt := rlt _ (List.getElem_mem hj)
      have hcj := List.getElem?_eq_getElem (show r[j] < cs.length by rw [lcs]; exact hlt)
      have eg : (cs.getD r[j] []).length = (cs[r[j]]'(by rw [lcs]; exact hlt)).length := by rw [List.getD_eq_getElem?_getD, hcj]; rfl
      refine ⟨rfl, _, rfl, _, rfl, D, _, _, _, rfl, rfl, SqL.of (s5 _ _ (s10 _ _ e9)), at_ofG (j := r[j]) rfl (nI_at (by rw [List.getElem?_map, hcj]; rfl)), _, d5, ?_, s5.upd_own hE2, ?_⟩
      · rw [nI_len, List.length_map, List.length_take]
        exact lt_line (n := min j _) (by omega)
      · rw [upd_same, ← eg]
        have : ((r.take (j + 1)).map fun i => (cs.getD i []).length) = ((r.take j).map fun i => (cs.getD i []).length) ++ [(cs.getD r[j] []).length] := by
          rw [List.take_add_one, hrj, List.map_append]
          rfl
        rw [this, ← nI_snoc]
    rintro H11 ⟨s11, d11⟩
    rw [nI_len, List.take_length] at d11
    refine ⟨E2, (r.map fun i => (cs.getD i []).length).map fun n => ((n : Nat) : Int), rfl, SqL.of (by rw [d11, nI_int]), _, _, rfl, rfl, ?_⟩
    have eZ : (fun i j : Int => V.int (i + j)) 1 ((r.map fun i => (cs.getD i []).length).map fun n => ((n : Nat) : Int)).sum = V.int (((cO cs k r).length : Nat) : Int) := by
      show V.int (1 + _) = _
      rw [nI_sum, cO_len]
      congr 1
    rw [eZ]
    have s911 : Same H9 H11 := s10.trans s11
    have K11 : Kp d H H11 := K9.trans (Kp.same s911)
    have t11 := s11 _ _ t10
    have B11 : BsA H11 d kvs9 best9 := B9.same s911
    have gT : ∀ {H' : Hp}, Kp d H H' → H' t = some (.tup (nI (rwS ss r))) → DGet H' a (.ref t) (some (.int ((s : Nat) : Int))) := fun {H'} kx ht => by
      have := DGet.t (k := tkey (rwS ss r)) (stay kx hkv (fun _ e => nomatch e)) (by rw [ht, tkey_V])
      rw [vkv, hs] at this
      exact this
    have nx : ∀ {best' : Nat → Option Ent}, LC rows cl ss cs (fun k' r' => (dnK ss k k' r' ∨ (k' = k ∧ r' ∈ (rwW (ss.length - 1) q.2.toNat).take i)) ∨ (k' = k ∧ r' = r)) best' → LC rows cl ss cs (fun k' r' => dnK ss k k' r' ∨ (k' = k ∧ r' ∈ (rwW (ss.length - 1) q.2.toNat).take (i + 1))) best' := fun L' => L'.more fun k' r' s' o dn z => .inl (by
      rcases dn with h | ⟨h1, h2⟩
      · exact .inl (.inl h)
      · rw [List.take_add_one, hri] at h2
        rcases List.mem_append.mp h2 with h | h
        · exact .inl (.inr ⟨h1, h⟩)
        · exact .inr ⟨h1, by simpa using h⟩)
    have big : ∀ c ∈ cs, c.length < (cO cs k r).length := fun c hc' => by
      have hb := cO_big (cs := cs) (k := k) r3
      have hm : ss.length - 1 < cs.length := by omega
      have em : cs.getD (ss.length - 1) [] = cs[ss.length - 1] := by rw [List.getD_eq_getElem?_getD, List.getElem?_eq_getElem hm]; rfl
      rw [em] at hb
      obtain ⟨p, hp, rfl⟩ := List.mem_iff_getElem.mp hc'
      by_cases e : p = ss.length - 1
      · subst e; exact hb
      · exact Nat.lt_of_le_of_lt (List.pairwise_iff_getElem.mp L9.asc p (ss.length - 1) hp hm (by omega)) hb
    -- if
    refine ⟨_, rfl, _, _, rfl, rfl, _, rfl, ?_⟩
    by_cases cZ : (cO cs k r).length ≤ 2000
    rotate_left
    · refine ifn (fun c => cZ (by have := of_decide_eq_true c; omega)) ?_
      refine ⟨_, _, _, _, _, _, kvs9, best9, rfl, k9.trans (Kp.same s911), B11, nx (L9.more fun k' r' s' o dn z => ?_)⟩
      rcases dn with h | ⟨rfl, rfl⟩
      · exact .inl h
      · exact absurd z cZ
    refine ifp (decide_eq_true (by omega)) ?_
    have hd211 : H11 d2 = some (.dK (cdK ss us)) := K11 _ _ hd2 (Ne.symm nd2)
    by_cases hin : s ∈ ss
    · obtain ⟨p, hp⟩ := List.mem_iff_getElem?.mp hin
      have hpl := (List.getElem?_eq_some_iff.mp hp).1
      have hup := List.getElem?_eq_getElem (show p < us.length by rw [lus]; exact hpl)
      have gd := DGet.k (k := .inl ((s : Nat) : Int)) hd211
      rw [cdK_val lus hL.nd hp hup] at gd
      refine ⟨_, rfl, _, rfl, a, _, rfl, gT K11 t11, _, rfl, d2, _, rfl, gd, _, rfl, ifn (by simp) ?_⟩
      refine ⟨_, _, _, _, _, _, kvs9, best9, rfl, k9.trans (Kp.same s911), B11, nx (L9.more fun k' r' s' o dn z => ?_)⟩
      rcases dn with h | ⟨rfl, rfl⟩
      · exact .inl h
      · obtain ⟨q', q1, q2, q3⟩ := o.kl
        rw [hq] at q1
        cases q1
        rw [hs] at q3
        cases q3
        have hcp := List.getElem?_eq_getElem (show p < cs.length by rw [lcs]; exact hpl)
        refine .inr (.inl ⟨p, _, hp, hcp, fun h => ?_⟩)
        have := big _ (List.getElem_mem (show p < cs.length by rw [lcs]; exact hpl))
        rcases h with h | ⟨h, _⟩ <;> omega
    · have gd := DGet.k (k := .inl ((s : Nat) : Int)) hd211
      rw [cdK_no hin] at gd
      refine ⟨_, rfl, _, rfl, a, _, rfl, gT K11 t11, _, rfl, d2, _, rfl, gd, _, rfl, ifp rfl ?_⟩
      have lrS : (nI (rwS ss r)).length = r.length := by rw [nI_len, rS]
      refine ⟨_, rfl, _, rfl, _, rfl, a, _, rfl, gT K11 t11, _, rfl, _, rfl, _, rfl, t, rfl, ⟨_, SqT.of t11⟩, fun E3 hE3 => lc_it (walk_tup (xs := nI (rwS ss r))) (fun j H' => Same H11 H' ∧ H' E3 = some (.lst (((r.take j).map fun i => us.getD i 0).map V.ref))) ⟨(Same.refl H11).upd_new hE3, upd_same⟩ (fun j H' _ ⟨q, _⟩ => SqT.of (q _ _ t11)) ?_ ?_⟩
      · rintro j v H12 H13 hj ⟨s5, d5⟩ ⟨rfl, hv⟩
        rw [lrS] at hj
        have hrj := List.getElem?_eq_getElem hj
        have hlt := rlt _ (List.getElem_mem hj)
        have hsj := List.getElem?_eq_getElem hlt
        have hrs : (rwS ss r)[j]? = some ss[r[j]] := by
          unfold rwS
          rw [List.getElem?_map, hrj]
          show some (ss.getD r[j] 0) = _
          rw [List.getD_eq_getElem?_getD, hsj]
          rfl
        rw [nI_at hrs] at hv
        injection hv with hv
        subst hv
        have huj := List.getElem?_eq_getElem (show r[j] < us.length by rw [lus]; exact hlt)
        have gdj := DGet.k (k := .inl ((ss[r[j]] : Nat) : Int)) (s5 _ _ hd211)
        rw [cdK_val lus hL.nd hsj huj] at gdj
        refine ⟨rfl, _, rfl, _, rfl, d2, _, rfl, gdj, _, d5, ?_, s5.upd_own hE3, ?_⟩
        · rw [List.length_map, List.length_map, List.length_take]
          exact lt_line (n := min j _) (by omega)
        · rw [upd_same]
          have : ((r.take (j + 1)).map fun i => us.getD i 0) = ((r.take j).map fun i => us.getD i 0) ++ [us.getD r[j] 0] := by
            rw [List.take_add_one, hrj, List.map_append]
            rfl
          rw [this, List.map_append, List.getD_eq_getElem?_getD, huj]
          rfl
      rintro H12 ⟨s12, d12⟩
      rw [lrS, List.take_length] at d12
      refine ⟨E3, _, rfl, .inl ⟨SqL.of d12, fun t2 ht2 => ?_⟩⟩
      have s13 : Same H11 (upd H12 t2 (.tup ((r.map fun i => us.getD i 0).map V.ref))) := s12.upd_new ht2
      have t13 : (upd H12 t2 (.tup ((r.map fun i => us.getD i 0).map V.ref))) t2 = some (.tup ((r.map fun i => us.getD i 0).map V.ref)) := upd_same
      generalize upd H12 t2 (.tup ((r.map fun i => us.getD i 0).map V.ref)) = H13 at s13 t13
      refine ⟨le_line (show 3 ≤ 10000000 by decide), fun ae hae => ?_⟩
      have s14 := (Same.refl H13).upd_new (o := .tup [.int (((cO cs k r).length : Nat) : Int), .int ((k : Nat) : Int), .ref t2]) hae
      have a14 : (upd H13 ae (.tup [.int (((cO cs k r).length : Nat) : Int), .int ((k : Nat) : Int), .ref t2])) ae = some (.tup [.int (((cO cs k r).length : Nat) : Int), .int ((k : Nat) : Int), .ref t2]) := upd_same
      generalize upd H13 ae (.tup [.int (((cO cs k r).length : Nat) : Int), .int ((k : Nat) : Int), .ref t2]) = H14 at s14 a14
      have s1114 := s13.trans s14
      have K14 : Kp d H8 H14 := k9.trans (Kp.same (s911.trans s1114))
      have B14 := B11.same s1114
      have hEn : EntAt H14 ae (k, rwC cs r) := ⟨t2, _, a14, s14 _ _ t13, by unfold rwC; rw [List.length_map, List.length_map], fun j t' c' h1 h2 => by
        unfold rwC at h2
        rw [List.getElem?_map] at h1 h2
        cases e : r[j]? with
        | none => rw [e] at h1; cases h1
        | some p =>
          rw [e] at h1 h2
          cases h1
          cases h2
          have hp := rlt p (List.mem_of_getElem? e)
          have hup := List.getElem?_eq_getElem (show p < us.length by rw [lus]; exact hp)
          have hcp := List.getElem?_eq_getElem (show p < cs.length by rw [lcs]; exact hp)
          show H14 (us.getD p 0) = some (.tup (nI (cs.getD p [])))
          rw [List.getD_eq_getElem?_getD, hup, List.getD_eq_getElem?_getD, hcp]
          have := tk (K9.trans (Kp.same (s911.trans s1114))) _ _ (hus.2 p _ _ hup hcp)
          exact this⟩
      have bridge : ∀ f, best9 s = some f → PySem.W.dataLt (entD k (rwC cs r)) (entD f.1 f.2) = decide (KL (cO cs k r) (eC f)) := fun f hf => by
        obtain ⟨_, _, r', o', e'⟩ := L9.bst s f hf
        have := L9.ent_lt O o'
        rw [← e'] at this
        rw [this]
        have ef : eC f = cO cs f.1 r' := by unfold cO; rw [← e']
        rw [ef]
      refine ⟨d, ae, s, kvs9, best9, (k, rwC cs r), rfl, B14, hEn, by omega, fun ⟨f, hf, hlt⟩ => ?_, fun hall kvs' Bn => ?_⟩
      · refine ⟨_, _, _, _, _, _, kvs9, best9, rfl, K14, B14, nx (L9.more fun k' r' s' o dn z => ?_)⟩
        rcases dn with h | ⟨rfl, rfl⟩
        · exact .inl h
        · obtain ⟨q', q1, q2, q3⟩ := o.kl
          rw [hq] at q1
          cases q1
          rw [hs] at q3
          cases q3
          rw [bridge f hf] at hlt
          exact .inr (.inr ⟨f, hf, by simpa using hlt⟩)
      · refine ⟨_, _, _, _, _, _, kvs', _, rfl, K14.upd, Bn, nx (L9.offer O cZ hin (fun c hc' => Nat.le_of_lt (big c hc')) fun f hf => ?_)⟩
        have := hall f hf
        rw [bridge f hf] at this
        exact of_decide_eq_true this
  · rintro σ H9 ⟨x8, x9, x10, x11, x12, x13, kvs9, best9, rfl, k9, B9, L9⟩
    rw [lvs, List.take_length] at L9
    refine key H9 kvs9 best9 ((Kp.same s08).trans k9) B9 (L9.more fun k' r s' o dn z => .inl ?_)
    by_cases c : k' = k
    · subst c
      by_cases c2 : ∀ i ∈ r, i < ss.length - 1
      · exact .inl (.inl c2)
      · refine .inr ⟨rfl, rwW_mem.mpr ⟨?_, fun y hy => by have := o.lt y hy; omega, ?_⟩⟩
        · obtain ⟨q', q1, q2, q3⟩ := o.kl
          rw [hq] at q1
          cases q1
          exact q2
        · obtain ⟨y, hy⟩ := Classical.not_forall.mp c2
          obtain ⟨hy1, hy2⟩ := Classical.not_imp.mp hy
          have := o.lt y hy1
          rw [show ss.length - 1 = y by omega]
          exact hy1
    · rcases dn with h | h
      · exact .inl (.inl h)
      · exact .inl (.inr (by omega))
theorem ok_decoded (T : Bl mg) (BB : BedT K C) (D : Def0 K mg "decoded" s_decoded) : DefOk P w K mg base CX0 1 "decoded" (spDecoded C) := by
  refine D.ok sc_decoded (fun vs H Q E h => by obtain ⟨b, t, rows, c, rfl, _⟩ := h; rfl) (fun _ _ _ _ _ _ us hl => match us, hl with | [_, _], _ => rfl) (fun f cdv A outer s H vs Q E hr h => ?_)
  obtain ⟨b, t, rows, c, rfl, hB, ht, hc, l2, key⟩ := h
  have hu := hu_of hr
  obtain ⟨bx, r, kk, ww, rk, ts, b1, b2, b3, b4, b5, b6⟩ := hB
  refine ⟨_, (pss_one (ps_ret (pe_callTy call_tuple_of (by rfl) T.b_tuple (by decide +kernel) (pa_cons (pe_lc (own := [("rank", 2)]) (g := (gName 2)) (tt := tYes) rfl sc_decoded.nd (pi_tup (pv 1)) (blkOk_by (N := N_decoded) (sc := defScope s_decoded) (by decide +kernel)) (fun _ _ _ _ _ => (pg_name (i := 2) sc_decoded.nd rfl (Or.inl rfl))) (fun _ _ _ _ _ => pts_nil) (fun _ _ _ _ _ => (pe_ix (show IxR _ (rIxT K) from ix_tup) (show PE _ _ (tFld K _ _) from pe_fld (pv 0) rfl) (pv 2) (fun _ _ => rfl)))) pa_nil)))), ?_⟩
  refine ⟨_, rfl, t, rfl, ⟨_, SqT.of ht⟩, fun D hD => lc_it (walk_tup (xs := nI c)) (fun i H' => Same H H' ∧ H' D = some (.lst (sV (rkN rows (c.take i))))) ⟨(Same.refl H).upd_new hD, upd_same⟩ (fun i H' _ ⟨q, _⟩ => SqT.of (q _ _ ht)) ?_ ?_⟩
  · rintro i v H1 H2 hi ⟨s1, d1⟩ ⟨rfl, hv⟩
    rw [nI_len] at hi
    have hci := List.getElem?_eq_getElem hi
    rw [nI_at hci] at hv
    injection hv with hv
    subst hv
    have hk := hc _ (List.getElem_mem hi)
    have hn := List.getElem?_eq_getElem (show c[i] < (rows.map (·.1)).length by rw [List.length_map]; exact hk)
    refine ⟨rfl, _, rfl, b, C, bx, _, _, rfl, s1 _ _ b1, BB.cl, BB.nK, lk_kinds _ _ _ _, _, rfl, kk, _, _, _, rfl, rfl, SqT.of (s1 _ _ b4), at_ofG (j := c[i]) rfl (by rw [List.getElem?_map, hn]; rfl), _, d1, ?_, s1.upd_own hD, ?_⟩
    · rw [sV_len]
      unfold rkN
      rw [List.length_map, List.length_take]
      exact lt_line (n := min i _) (by omega)
    · rw [upd_same]
      have : rkN rows (c.take (i + 1)) = rkN rows (c.take i) ++ [(rows.map (·.1))[c[i]]'(by rw [List.length_map]; exact hk)] := by
        unfold rkN
        rw [List.take_add_one, hci, List.map_append]
        show _ ++ [((rows.map (·.1))[c[i]]?).getD ("" : Str)] = _
        rw [hn]
        rfl
      rw [this]
      unfold sV
      rw [List.map_append]
      rfl
  · rintro H1 ⟨s1, d1⟩
    rw [nI_len, List.take_length] at d1
    exact ⟨D, _, rfl, .inl ⟨SqL.of d1, fun p hp => key _ p (s1.upd_new hp) upd_same⟩⟩
end
end Sh
end
section
set_option Elab.async false
set_option linter.all false
set_option maxRecDepth 100000
set_option maxHeartbeats 16000000
namespace Sh
open PySem PySem.Spec PyProof.Rows L2 NdefX LamX Lx
open C8 (pss_cut tCut)
open Evl (ixN_nat)
theorem bestK_min (kz : List PyData) (c : Nat → List Nat) : ∀ n, (∀ i j, i ≤ n → j ≤ n → PySem.W.dataLt (kz.getD i .none) (kz.getD j .none) = decide (KL (c i) (c j))) → bestK kz n ≤ n ∧ ∀ i, i ≤ n → ¬ KL (c i) (c (bestK kz n)) := fun n => by
  induction n with
  | zero =>
    intro _
    refine ⟨Nat.le_refl _, fun i hi => ?_⟩
    rw [Nat.le_zero.mp hi]
    exact KL.irr _
  | succ n ih =>
    intro h
    obtain ⟨b1, b2⟩ := ih fun i j hi hj => h i j (by omega) (by omega)
    rw [bestK_succ, h (n + 1) (bestK kz n) (Nat.le_refl _) (by omega)]
    by_cases g : KL (c (n + 1)) (c (bestK kz n))
    · rw [if_pos (decide_eq_true g)]
      refine ⟨Nat.le_refl _, fun i hi => ?_⟩
      by_cases e : i = n + 1
      · rw [e]; exact KL.irr _
      · exact fun z => b2 i (by omega) (z.trans g)
    · rw [if_neg (by simpa using g)]
      refine ⟨by omega, fun i hi => ?_⟩
      by_cases e : i = n + 1
      · rw [e]; exact g
      · exact b2 i (by omega)
theorem BsA.entry {H : Hp} {d : Addr} {kvs : List (Key × V)} {best : Nat → Option Ent} (B : BsA H d kvs best) {k : Key} {x : V} (h : (k, x) ∈ kvs) : ∃ s e a, k = .inl ((s : Nat) : Int) ∧ best s = some e ∧ x = .ref a ∧ EntAt H a e := by
  obtain ⟨s, es⟩ := B.ks _ h
  have es : k = .inl ((s : Nat) : Int) := es
  have hv := valV_nodup B.nd h
  rw [es] at hv
  cases hb : best s with
  | none => rw [B.no s hb] at hv; cases hv
  | some e =>
    obtain ⟨a, h1, h2⟩ := B.ye s e hb
    rw [h1] at hv
    cases hv
    exact ⟨s, e, a, es, hb, rfl, h2⟩
theorem tabs_unlock {T : List (Addr × Str)} {H : Hp} {d : Addr} {od : Obj} {u u' : HO} (t : Tabs T H) (h : H d = some (.frz od u)) : Tabs T (upd H d u') := fun p hp => by
  obtain ⟨ps, h1, h2, h3⟩ := t p hp
  refine ⟨ps, by rw [upd_ne (ne_of h1 h (fun e => nomatch e))]; exact h1, h2, fun pos cv hc => ?_⟩
  obtain ⟨c, e1, e2⟩ := h3 pos cv hc
  exact ⟨c, e1, by rw [upd_ne (ne_of e2 h (fun e => by unfold CodeO at e; cases e))]; exact e2⟩
theorem tabs_kp {T : List (Addr × Str)} {H H' : Hp} {d : Addr} {kvs : List (Key × V)} (t : Tabs T H) (h : H d = some (.dK kvs)) (k : Kp d H H') : Tabs T H' := fun p hp => by
  obtain ⟨ps, h1, h2, h3⟩ := t p hp
  refine ⟨ps, k _ _ h1 (ne_of h1 h (fun e => nomatch e)), h2, fun pos cv hc => ?_⟩
  obtain ⟨c, e1, e2⟩ := h3 pos cv hc
  exact ⟨c, e1, k _ _ e2 (ne_of e2 h (fun e => by unfold CodeO at e; cases e))⟩
theorem Gw.kp {H0 H H' : Hp} {d : Addr} {o : HO} (g : Gw H0 H) (h0 : H0 d = none) (hd : H' d = some o) (k : Kp d H H') : Gw H0 H' :=
  ⟨fun b o h n => k _ _ (g.e _ _ h n) (fun e => by rw [e, h0] at h; cases h), fun b h => g.n _ (by
    cases e : H b with
    | none => rfl
    | some u =>
      by_cases c : b = d
      · rw [c, hd] at h; cases h
      · rw [k _ _ e c] at h; cases h)⟩
/-- the key that min asks of an entry -/
def kzD (best : Nat → Option Ent) (kv : Key × V) : PyData := match kv.1 with
  | .inl i => (match best i.toNat with
    | some e => entD e.1 e.2
    | none => .none)
  | _ => .none
theorem kzD_at {best : Nat → Option Ent} {s : Nat} {e : Ent} {x : V} (h : best s = some e) : kzD best (.inl ((s : Nat) : Int), x) = entD e.1 e.2 := by
  unfold kzD
  show (match best (((s : Nat) : Int).toNat) with | some e => entD e.1 e.2 | none => .none) = _
  rw [show (((s : Nat) : Int)).toNat = s by omega, h]
def cF (best : Nat → Option Ent) (kvs : List (Key × V)) (i : Nat) : List Nat := match kvs[i]? with
  | some (.inl j, _) => ((best j.toNat).map eC).getD []
  | _ => []
def whAt (b : List Stmt) : Arguments × Expr × Scope := (b.findSome? fun
  | .While _ body _ _ => body.findSome? stLam
  | _ => none).getD (default, default, default)
def spLeastC (C CM : Addr) (Tb : List (Addr × Str)) : Sp := fun vs H Q _ => ∃ (m b : Addr) (rows : List Row) (Ds : List RdD) (js : List (List Nat)) (cl : Str → List Nat → Option Nat),
  vs = [.ref m] ∧ MacAt C CM H m b rows js cl ∧ ROk 4 rows ∧ MI rows Ds js cl ∧ MDn rows cl js.length ∧ js.length ≤ 40 ∧ Tabs Tb H ∧
  ∀ H' d2 ss cs, Gw H H' → Tabs Tb H' → CdA H' d2 ss cs → LC rows cl ss cs (fun _ _ => True) (fun _ => none) → (∀ s ∈ ss, s < js.length) → Q (.ref d2) H'
abbrev N_least_codes : List Str := ["machine", "bed", "codes", "best", "kind", "state", "_", "rank", "below", "code", "part"]
theorem sc_least_codes : FnScope N_least_codes ["machine"] (defScope s_least_codes) := ⟨rfl, rfl, rfl, by decide +kernel, rfl, by decide +kernel, by decide +kernel⟩
section
variable {P : Program} {w : World} {K : PySem.W.Frag} {mg : Str → Option Value} {base : Heap} {C CM : Addr}
theorem ok_leastC (T : Bl mg) (b_min : mg "min" = none) (BB : BedT K C) (BM : McT K CM) (c_leaves : LeavOk P w K mg base C) (c_offer : DefOk P w K mg base CX0 1 "offer" spOffer6) (c_offer_rows : DefOk P w K mg base CX0 4 "offer_rows" (spOffRows C CM)) {c : Addr} (D : DefC K mg "least_codes" s_least_codes c) {Tb : List (Addr × Str)} {PT : Addr} (kit : TabKit base mg Tb "least_codes" c PT) : DefOk P w K mg base CX0 10 "least_codes" (spLeastC C CM Tb) := by
  refine D.ok sc_least_codes (fun vs H Q E h => by obtain ⟨m, b, rows, Ds, js, cl, rfl, _⟩ := h; rfl) (fun _ _ _ _ _ _ us hl => match us, hl with | [_], _ => rfl) (fun f A outer s0 H vs Q E hr h => ?_)
  obtain ⟨m, b, rows, Ds, js, cl, rfl, hM0, R, hI, hMD, l40, hT0, key⟩ := h
  have hu := hu_of hr
  obtain ⟨fLv, M_leaves, F_leaves⟩ := c_leaves
  have hLam : LamK (cxOf CX0 P w K mg base N_least_codes "least_codes" (defScope s_least_codes) f (.ref c) A outer s0 H E).nox Tb c PT ["number", "best"] ["best"] [3] "number" (whAt (defBody s_least_codes)).1 (whAt (defBody s_least_codes)).2.1 (whAt (defBody s_least_codes)).2.2 := lamK_of (sc := defScope s_least_codes) kit rfl rfl rfl rfl (by decide +kernel) (by decide +kernel) (by decide +kernel) rfl (fun _ _ _ _ _ _ => rfl)
  have hLamB := lamB_of (X := (cxOf CX0 P w K mg base N_least_codes "least_codes" (defScope s_least_codes) f (.ref c) A outer s0 H E).nox) (N := ["number", "best"]) (k := 1) (scope := (whAt (defBody s_least_codes)).2.2) (body := (whAt (defBody s_least_codes)).2.1) fun name qual params b cl c f A outer s H hr => pe_dget (hu_of hr) (pv 1) (pv 0) (fun _ _ => rfl)
  refine ⟨_, (pss_cons (ps_set (i := 1) sc_least_codes.nd rfl (Or.inl rfl) (pe_fld (pv 0) rfl))
      (pss_cons (ps_set (i := 2) sc_least_codes.nd rfl (Or.inl rfl) pe_dnewK)
      (pss_cons (ps_set (i := 3) sc_least_codes.nd rfl (Or.inr rfl) pe_dnewK)
      (pss_cons (ps_for PassesOwn.never rfl (pi_tup (pe_methR0 (pv 1) BB.cl M_leaves F_leaves (hr.mono (by decide)) pass0)) (pg_name (i := 4) sc_least_codes.nd rfl (Or.inl rfl))
        (pss_one (ps_expr (pe_d c_offer (hr.mono (by decide)) pass0 (pa_cons (pv 3) (pa_cons (pe_dget hu (pe_dget hu (pe_fld (pv 0) rfl) (pv 4) (fun _ _ => rfl)) (pe_tup pa_nil) (fun _ _ => rfl)) (pa_cons (pe_tup (pa_cons pe_int (pa_cons (pe_dget hu (pe_fld (pv 1) rfl) (pv 4) (fun _ _ => rfl)) (pa_cons (pe_tup pa_nil) pa_nil)))) pa_nil)))))))
      (pss_cons (ps_while PassesOwn.never (pt_truth (pv 3) (by intro _; rfl))
        (pss_cons (ps_set (i := 5) sc_least_codes.nd rfl (Or.inl rfl) (pe_lock (pe_minLamD hLam hLamB hr (by rfl) b_min (pa_cons (pv 3) pa_nil))))
        (pss_cons (ps_asg (pe_dpop1 (pv 3) (pv 5) ⟨rfl, rfl, rfl, rfl⟩) (pg_tup (by rfl) (pgs_cons (pg_name (i := 6) sc_least_codes.nd rfl (Or.inl rfl)) (pgs_cons (pg_name (i := 7) sc_least_codes.nd rfl (Or.inl rfl)) (pgs_cons (pg_name (i := 8) sc_least_codes.nd rfl (Or.inl rfl)) pgs_nil)))))
        (pss_cons (ps_set (i := 9) sc_least_codes.nd rfl (Or.inl rfl) (pe_tup (pa_cons (pv 7) pa_nil)))
        (pss_cons (ps_for PassesOwn.never rfl (pi_tup (pv 8)) (pg_name (i := 10) sc_least_codes.nd rfl (Or.inl rfl))
          (pss_one (ps_set (i := 9) sc_least_codes.nd rfl (Or.inl rfl) (pe_op op_catA (pv 9) (pv 10)))))
        (pss_cons (ps_dput hu (pv 2) (pv 5) (pv 9) rfl)
        (pss_one (ps_for PassesOwn.never rfl (pi_tup (pe_fld (pv 1) rfl)) (pg_name (i := 4) sc_least_codes.nd rfl (Or.inl rfl))
          (pss_one (ps_expr (pe_d c_offer_rows (hr.mono (by decide)) pass0 (pa_cons (pv 0) (pa_cons (pv 2) (pa_cons (pv 4) (pa_cons (pv 3) pa_nil)))))))))))))))
      (pss_one (ps_ret (pv 2)))))))), ?_⟩
  obtain ⟨lj, dn, dc, ds, jus, cnt, ⟨⟨dx, ho⟩, hj, hjp, hn⟩, hc, bx, r0, kk, ww, rk, ts, b1, b2, b3, b4, b5, b6⟩ := id hM0
  obtain ⟨em1, em2, em3, em4, em5⟩ := mac_lk b lj dn dc
  refine ⟨_, rfl, m, CM, dx, _, _, rfl, ho, BM.cl, BM.nB, em1, fun d2 hd2 => ?_⟩
  have s1 := (Same.refl H).upd_new (o := .dK []) hd2
  have c1 : (upd H d2 (.dK [])) d2 = some (.dK []) := upd_same
  generalize upd H d2 (.dK []) = H1 at s1 c1
  refine fun d hd => ?_
  have s2 := (Same.refl H1).upd_new (o := .dK []) hd
  have c2 : (upd H1 d (.dK [])) d = some (.dK []) := upd_same
  have hd0 := s1.free hd
  have nd2 : d ≠ d2 := fun e => by rw [e, c1] at hd; cases hd
  generalize upd H1 d (.dK []) = H2 at s2 c2
  have s02 := s1.trans s2
  have B2 : BsA H2 d [] (fun _ => none) := ⟨c2, List.nodup_nil, (fun kv h => nomatch h), (fun _ _ => rfl), (fun _ _ h => nomatch h), fun _ h => absurd rfl h⟩
  -- the tables
  have stay : ∀ {H' : Hp} {p : Addr} {o : HO}, Gw H H' → H p = some o → (∀ ps, o ≠ .tbl ps) → H' p = some o := fun g h n => g.e _ _ h n
  have gRk : ∀ {H' : Hp} {k : Nat} {q : Row}, Gw H H' → rows[k]? = some q → DGet H' rk (.str q.1) (some (.int ((k : Nat) : Int))) := fun {H' k q} kx hq => by
    have := DGet.k (k := .inr q.1) (stay kx b6 (fun _ e => nomatch e))
    have hkl : k < (rows.map (·.1)).length := by rw [List.length_map]; exact (List.getElem?_eq_some_iff.mp hq).1
    have ek : (rows.map (·.1))[k] = q.1 := by
      have := List.getElem?_eq_getElem hkl
      rw [List.getElem?_map, hq] at this
      exact (Option.some.inj this).symm
    rw [← ek, valV_rk R.nd hkl] at this
    rw [← ek]
    exact this
  have cel : ∀ {k : Nat} {q : Row}, rows[k]? = some q → ∃ a kv, H a = some (.dT kv) ∧ (∀ r : List Nat, valV kv (tkey r) = (cl q.1 r).map fun m => V.int ((m : Nat) : Int)) ∧ ∀ {H' : Hp}, Gw H H' → DGet H' dc (.str q.1) (some (.ref a)) := fun {k q} hq => by
    have hkn : (rows.map (·.1))[k]? = some q.1 := by rw [List.getElem?_map, hq]; rfl
    have hkl : k < ds.length := by rw [hc.len, List.length_map]; exact (List.getElem?_eq_some_iff.mp hq).1
    have hda := List.getElem?_eq_getElem hkl
    obtain ⟨kv, hkv, _, vkv⟩ := hc.row k q.1 _ hkn hda
    refine ⟨_, kv, hkv, vkv, fun {H'} kx => ?_⟩
    have := DGet.k (k := .inr q.1) (stay kx hc.at_ (fun _ e => nomatch e))
    rw [tn_val R.nd hkn hda] at this
    exact this
  have lrows := R.len
  have hB2 := BedAt.same (C := C) (rows := rows) ⟨bx, r0, kk, ww, rk, ts, b1, b2, b3, b4, b5, b6⟩ s02
  have leaf_of : ∀ {z : Str}, z ∈ leafs rows → ∃ (q : Row) (k : Nat), rows[k]? = some q ∧ q.2 = 0 ∧ q.1 = z := fun {z} hz => by
    unfold leafs at hz
    obtain ⟨q, hq, e⟩ := List.mem_map.mp hz
    obtain ⟨h1, h2⟩ := List.mem_filter.mp hq
    obtain ⟨k, hk⟩ := List.mem_iff_getElem?.mp h1
    exact ⟨q, k, hk, of_decide_eq_true h2, e⟩
  refine ⟨_, rfl, b, bx, _, rfl, s02 _ _ b1, lk_leaves _ _ _ _, b, rows, rfl, hB2, R, fun H3 t s3 ht3 => ⟨t, rfl, ⟨_, SqT.of ht3⟩, for_tup (xs := sV (leafs rows)) (fun i σ H' => ∃ (x4 : Option V) (kvs : List (Key × V)) (best : Nat → Option Ent), σ = [some (.ref m), some (.ref b), some (.ref d2), some (.ref d), x4, none, none, none, none, none, none] ∧ Kp d H3 H' ∧ BsA H' d kvs best ∧ LC rows cl [] [] (fun k r => ∃ z, (rows.map (·.1))[k]? = some z ∧ z ∈ (leafs rows).take i) best)
    ⟨none, [], _, rfl, Kp.refl d H3, B2.same s3, (LC.nil rows cl).more fun k r s o dn z => by obtain ⟨_, _, h⟩ := dn; simp at h⟩ (fun i σ H' _ ⟨_, _, _, _, kx, bb, _⟩ => SqT.of (kx _ _ ht3 (ne_of ht3 (s3 _ _ c2) (fun e => nomatch e)))) ?_ ?_⟩⟩
  · rintro i v σ H4 hv ⟨x4, kvs, best, rfl, k4, B4, L4⟩
    unfold sV at hv
    rw [List.getElem?_map] at hv
    obtain ⟨z, hz, rfl⟩ := Option.map_eq_some_iff.mp hv
    obtain ⟨q, k, hq, q0, rfl⟩ := leaf_of (List.mem_of_getElem? hz)
    have hqm := List.mem_of_getElem? hq
    have G4 : Gw H H4 := (Gw.of (s02.trans s3)).kp hd0 B4.at_ k4
    obtain ⟨a, kv, ha, vkv, gC⟩ := cel hq
    obtain ⟨s, hs⟩ := hMD q.1 ⟨q, hqm, rfl⟩ [] (by rw [wR_of R hqm, q0]; rfl) (fun q h => nomatch h)
    have O : Off rows cl [] k [] s := ⟨⟨q, hq, by rw [q0]; rfl, hs⟩, fun i h => nomatch h⟩
    have hsl : s < js.length := (List.getElem?_eq_some_iff.mp (hI.cs _ _ _ hs).2.2.2).1
    refine ⟨_, rfl, _, rfl, m, CM, dx, _, _, rfl, stay G4 ho (fun _ e => nomatch e), BM.cl, BM.nC, em4, _, rfl, dc, _, rfl, gC G4, le_line (show 0 ≤ 10000000 by decide), fun p hp => ?_⟩
    have s5 := (Same.refl H4).upd_new (o := .tup []) hp
    have p5 : (upd H4 p (.tup [])) p = some (.tup (nI [])) := upd_same
    generalize upd H4 p (.tup []) = H5 at s5 p5
    have G5 := G4.trans (Gw.of s5)
    have gT : DGet H5 a (.ref p) (some (.int ((s : Nat) : Int))) := by
      have := DGet.t (k := tkey []) (stay G5 ha (fun _ e => nomatch e)) (by rw [p5, tkey_V])
      rw [vkv, hs] at this
      exact this
    refine ⟨a, _, rfl, gT, _, rfl, b, C, bx, _, _, rfl, stay G5 b1 (fun _ e => nomatch e), BB.cl, BB.nRk, lk_ranks _ _ _ _, _, rfl, rk, _, rfl, gRk G5 hq, le_line (show 0 ≤ 10000000 by decide), fun p2 hp2 => ?_⟩
    have s6 := (Same.refl H5).upd_new (o := .tup []) hp2
    have p6 : (upd H5 p2 (.tup [])) p2 = some (.tup (([] : List Addr).map V.ref)) := upd_same
    generalize upd H5 p2 (.tup []) = H6 at s6 p6
    refine ⟨le_line (show 3 ≤ 10000000 by decide), fun ae hae => ?_⟩
    have s7 := (Same.refl H6).upd_new (o := .tup [.int 1, .int ((k : Nat) : Int), .ref p2]) hae
    have a7 : (upd H6 ae (.tup [.int 1, .int ((k : Nat) : Int), .ref p2])) ae = some (.tup [.int 1, .int ((k : Nat) : Int), .ref p2]) := upd_same
    generalize upd H6 ae (.tup [.int 1, .int ((k : Nat) : Int), .ref p2]) = H7 at s7 a7
    have s47 := (s5.trans s6).trans s7
    have B7 := B4.same s47
    have hEn : EntAt H7 ae (k, rwC [] []) := ⟨p2, [], a7, s7 _ _ p6, .nil⟩
    have bridge : ∀ f, best s = some f → PySem.W.dataLt (entD k (rwC [] [])) (entD f.1 f.2) = decide (KL (cO [] k []) (eC f)) := fun f hf => by
      obtain ⟨_, _, r', o', e'⟩ := L4.bst s f hf
      have := L4.ent_lt O o'
      rw [← e'] at this
      rw [this]
      have ef : eC f = cO [] f.1 r' := by unfold cO; rw [← e']
      rw [ef]
    have hkn : (rows.map (·.1))[k]? = some q.1 := by rw [List.getElem?_map, hq]; rfl
    have nx : ∀ {best' : Nat → Option Ent}, LC rows cl [] [] (fun k' r' => (∃ z, (rows.map (·.1))[k']? = some z ∧ z ∈ (leafs rows).take i) ∨ (k' = k ∧ r' = [])) best' → LC rows cl [] [] (fun k r => ∃ z, (rows.map (·.1))[k]? = some z ∧ z ∈ (leafs rows).take (i + 1)) best' := fun L' => L'.more fun k' r' s' o dn z => .inl (by
      obtain ⟨z, h1, h2⟩ := dn
      rw [List.take_add_one, hz] at h2
      rcases List.mem_append.mp h2 with h | h
      · exact .inl ⟨z, h1, h⟩
      · have ez : z = q.1 := by simpa using h
        rw [ez] at h1
        refine .inr ⟨nd_at R.nd h1 hkn, ?_⟩
        cases r' with
        | nil => rfl
        | cons y r' => exact absurd (o.lt y List.mem_cons_self) (Nat.not_lt_zero _))
    refine ⟨d, ae, s, kvs, best, (k, rwC [] []), rfl, B7, hEn, by omega, fun ⟨f, hf, hlt⟩ => ?_, fun hall kvs' Bn => ?_⟩
    · refine ⟨_, kvs, best, rfl, k4.trans (Kp.same s47), B7, nx (L4.more fun k' r' s' o dn z => ?_)⟩
      rcases dn with h | ⟨rfl, rfl⟩
      · exact .inl h
      · obtain ⟨q', q1, q2, q3⟩ := o.kl
        rw [hq] at q1
        cases q1
        have q3 : cl q.1 [] = some s' := q3
        rw [hs] at q3
        cases q3
        rw [bridge f hf] at hlt
        exact .inr (.inr ⟨f, hf, by simpa using hlt⟩)
    · refine ⟨_, kvs', _, rfl, (k4.trans (Kp.same s47)).upd, Bn, nx (L4.offer O (by show 1 ≤ 2000; omega) (fun h => nomatch h) (fun c hc' => nomatch hc') fun f hf => ?_)⟩
      have := hall f hf
      rw [bridge f hf] at this
      exact of_decide_eq_true this
  rintro σ H4 ⟨x4, kvs, best, rfl, k4, B4, L4⟩
  have lsv : (sV (leafs rows)).length = (leafs rows).length := sV_len _
  rw [lsv, List.take_length] at L4
  have G4 : Gw H H4 := (Gw.of (s02.trans s3)).kp hd0 B4.at_ k4
  have L4' : LC rows cl [] [] (fun _ _ => True) best := L4.more fun k r s o dn z => .inl (by
    have er : r = [] := by
      cases r with
      | nil => rfl
      | cons y r' => exact absurd (o.lt y List.mem_cons_self) (Nat.not_lt_zero _)
    subst er
    obtain ⟨q, q1, q2, q3⟩ := o.kl
    have hqm := List.mem_of_getElem? q1
    have wd := R.wd q hqm
    have q2 : 0 = q.2.toNat := q2
    refine ⟨q.1, by rw [List.getElem?_map, q1]; rfl, ?_⟩
    unfold leafs
    exact List.mem_map.mpr ⟨q, List.mem_filter.mpr ⟨hqm, decide_eq_true (by omega)⟩, rfl⟩)
  have T4 : Tabs Tb H4 := tabs_kp (hT0.ext fun b o h => s3 b o (s02 b o h)) (s3 _ _ c2) k4
  have C4 : CdA H4 d2 [] [] := ⟨[], k4 _ _ (s3 _ _ (s2 _ _ c1)) (Ne.symm nd2), rfl, .nil⟩
  -- the loop
  refine ⟨fun n σ H' => ∃ (x4 x5 x6 x7 x8 x9 x10 : Option V) (ss : List Nat) (cs : List (List Nat)) (kvs : List (Key × V)) (best : Nat → Option Ent), n = 41 - ss.length ∧ σ = [some (.ref m), some (.ref b), some (.ref d2), some (.ref d), x4, x5, x6, x7, x8, x9, x10] ∧ Gw H H' ∧ Tabs Tb H' ∧ CdA H' d2 ss cs ∧ BsA H' d kvs best ∧ LC rows cl ss cs (fun _ _ => True) best ∧ (∀ s ∈ ss, s < js.length),
    ⟨41, x4, none, none, none, none, none, none, [], [], kvs, best, rfl, rfl, G4, T4, C4, B4, L4', fun s h => nomatch h⟩, ?_⟩
  clear L4' L4 B4 C4 T4 G4 k4 lsv
  rintro n σ H5 ⟨y4, y5, y6, y7, y8, y9, y10, ss, cs, kvs, best, rfl, rfl, G5, T5, C5, B5, L5, hss⟩
  refine ⟨_, rfl, _, .inr (.inr ⟨kvs, B5.at_, rfl⟩), ?_⟩
  by_cases hke : kvs = []
  · subst hke
    refine ifn (by simp) ?_
    have eb : best = fun _ => none := funext fun s => by
      cases hb : best s with
      | none => rfl
      | some e =>
        obtain ⟨a, h1, _⟩ := B5.ye s e hb
        cases h1
    subst eb
    exact ⟨_, rfl, key H5 d2 ss cs G5 T5 C5 L5 hss⟩
  have lpos : 0 < kvs.length := List.length_pos_iff.mpr hke
  refine ifp (by simpa using hke) ⟨_, fun σ' H' h => h, ?_⟩
  -- min
  refine ⟨d, _, B5.at_, trivial, fun od => ?_⟩
  have nft : ∀ {p : Addr} {o : HO}, H5 p = some o → p ≠ d → (upd H5 d (.frz od (.dK kvs))) p = some o := fun h n => by rw [upd_ne n]; exact h
  have Tf : Tabs Tb (upd H5 d (.frz od (.dK kvs))) := fun p hp => by
    obtain ⟨ps, h1, h2, h3⟩ := T5 p hp
    refine ⟨ps, nft h1 (ne_of h1 B5.at_ (fun e => nomatch e)), h2, fun pos cv hc => ?_⟩
    obtain ⟨c, e1, e2⟩ := h3 pos cv hc
    exact ⟨c, e1, nft e2 (ne_of e2 B5.at_ (fun e => by unfold CodeO at e; cases e))⟩
  have df : (upd H5 d (.frz od (.dK kvs))) d = some (.frz od (.dK kvs)) := upd_same
  have tkf : ∀ t ys, H5 t = some (.tup ys) → (upd H5 d (.frz od (.dK kvs))) t = some (.tup ys) := fun t ys h => nft h (ne_of h B5.at_ (fun e => nomatch e))
  refine ⟨_, rfl, Tf, d, od, kvs, rfl, df, lpos, fun H6 x6 n6 T6 => ?_⟩
  have d6 := x6 _ _ df (fun _ e => nomatch e)
  have at_ : ∀ {i : Nat} {k : Key} {x : V}, kvs[i]? = some (k, x) → ∃ s e a, k = .inl ((s : Nat) : Int) ∧ best s = some e ∧ x = .ref a ∧ EntAt H6 a e ∧ (kvs.map (kzD best))[i]? = some (entD e.1 e.2) := fun {i k x} h => by
    obtain ⟨s, e, a, h1, h2, h3, h4⟩ := B5.entry (List.mem_of_getElem? h)
    refine ⟨s, e, a, h1, h2, h3, h4.keep fun t ys q => x6 _ _ (tkf t ys q) (fun _ e => nomatch e), ?_⟩
    rw [List.getElem?_map, h, h1]
    show some _ = _
    rw [kzD_at h2]
  have mem_kz : ∀ kd ∈ kvs.map (kzD best), ∃ e : Ent, kd = entD e.1 e.2 := fun kd h => by
    obtain ⟨⟨k, x⟩, hk, rfl⟩ := List.mem_map.mp h
    obtain ⟨s, e, a, h1, h2, _, _⟩ := B5.entry hk
    exact ⟨e, by rw [h1, kzD_at h2]⟩
  refine ⟨kvs.map (kzD best), List.length_map .., fun x hx y hy => ?_, fun x hx => ?_, fun x hx => ?_, fun i k x kd H7 h1 h2 s7 => ?_, fun H7 k x s7 hb => ?_⟩
  · obtain ⟨e, rfl⟩ := mem_kz x hx
    obtain ⟨e', rfl⟩ := mem_kz y hy
    exact entD_alike _ _ _ _
  · obtain ⟨e, rfl⟩ := mem_kz x hx
    unfold entD
    simp
  · obtain ⟨e, rfl⟩ := mem_kz x hx
    exact entD_depth _ _
  · obtain ⟨s, e, a, rfl, q2, rfl, q4, q5⟩ := at_ h1
    rw [q5] at h2
    cases h2
    have hv := valV_nodup B5.nd (List.mem_of_getElem? h1)
    exact ⟨_, rfl, _, rfl, d, _, rfl, .inl ⟨kvs, _, .inr ⟨od, s7 _ _ d6⟩, rfl, hv.symm⟩, Same.refl H7, (q4.keep fun t ys q => s7 _ _ q).dp⟩
  obtain ⟨s, e, a, rfl, hbs, rfl, hEn, _⟩ := at_ hb
  -- the least
  have least : ∀ s' e', best s' = some e' → ¬ KL (eC e') (eC e) := fun s' e' h' => by
    have cAt : ∀ {i : Nat} {k : Key} {x : V}, kvs[i]? = some (k, x) → ∃ e : Ent, cF best kvs i = eC e ∧ (kvs.map (kzD best)).getD i .none = entD e.1 e.2 ∧ ∃ s, k = .inl ((s : Nat) : Int) ∧ best s = some e := fun {i k x} h => by
      obtain ⟨s, e, a, q1, q2, _, _, q5⟩ := at_ h
      refine ⟨e, ?_, by rw [List.getD_eq_getElem?_getD, q5]; rfl, s, q1, q2⟩
      unfold cF
      rw [h, q1]
      show ((best (((s : Nat) : Int)).toNat).map eC).getD [] = _
      rw [show (((s : Nat) : Int)).toNat = s by omega, q2]
      rfl
    obtain ⟨_, bm⟩ := bestK_min (kvs.map (kzD best)) (cF best kvs) (kvs.length - 1) fun i j hi hj => by
      obtain ⟨e1, p1, p2, s1, p3, p4⟩ := cAt (List.getElem?_eq_getElem (show i < kvs.length by omega))
      obtain ⟨e2, r1, r2, s2, r3, r4⟩ := cAt (List.getElem?_eq_getElem (show j < kvs.length by omega))
      rw [p1, p2, r1, r2]
      obtain ⟨_, _, w1, o1, f1⟩ := L5.bst _ _ p4
      obtain ⟨_, _, w2, o2, f2⟩ := L5.bst _ _ r4
      have := L5.ent_lt o1 o2
      rw [← f1, ← f2] at this
      rw [this]
      have g1 : eC e1 = cO cs e1.1 w1 := by unfold cO; rw [← f1]
      have g2 : eC e2 = cO cs e2.1 w2 := by unfold cO; rw [← f2]
      rw [g1, g2]
    obtain ⟨e0, p1, _, s0', p3, p4⟩ := cAt hb
    rw [← inl_nat p3, hbs] at p4
    cases p4
    obtain ⟨a', hv, _⟩ := B5.ye s' e' h'
    obtain ⟨i', hi'⟩ := List.mem_iff_getElem?.mp (valV_mem hv)
    have hil := (List.getElem?_eq_some_iff.mp hi').1
    obtain ⟨e1, r1, _, s1', r3, r4⟩ := cAt hi'
    rw [← inl_nat r3, h'] at r4
    cases r4
    have := bm i' (by omega)
    rw [r1, p1] at this
    exact this
  refine ⟨s7 _ _ d6, ?_⟩
  have k58 : ∀ {p : Addr} {o : HO}, H5 p = some o → (∀ ps, o ≠ .tbl ps) → (upd H7 d (.dK kvs)) p = some o := fun {p o} h n => by
    by_cases ep : p = d
    · rw [ep, B5.at_] at h
      cases h
      rw [ep]
      exact upd_same
    · rw [upd_ne ep]
      exact s7 _ _ (x6 _ _ (nft h ep) n)
  have n58 : ∀ p, (upd H7 d (.dK kvs)) p = none → H5 p = none := fun p h => by
    by_cases ep : p = d
    · rw [ep, upd_same] at h
      cases h
    · rw [upd_ne ep] at h
      have := n6 p (s7.free h)
      rw [upd_ne ep] at this
      exact this
  have T8 : Tabs Tb (upd H7 d (.dK kvs)) := tabs_unlock (T6.ext fun b o h => s7 b o h) (s7 _ _ d6)
  generalize upd H7 d (.dK kvs) = H8 at k58 n58 T8
  have g58 : Gw H5 H8 := ⟨fun b o h n => k58 h n, n58⟩
  have G8 := G5.trans g58
  have tk58 : ∀ t ys, H5 t = some (.tup ys) → H8 t = some (.tup ys) := fun t ys h => k58 h (fun _ e => nomatch e)
  have B8 : BsA H8 d kvs best := B5.keep (by rw [B5.at_, k58 B5.at_ (fun _ e => nomatch e)]) tk58
  obtain ⟨us, hc5, lus, hus5⟩ := C5
  have hc8 := k58 hc5 (fun _ e => nomatch e)
  have hus8 := hus5.keep tk58
  obtain ⟨a8, hv8, hE8⟩ := B8.ye s e hbs
  have hv5 := valV_nodup B5.nd (List.mem_of_getElem? hb)
  rw [hv8] at hv5
  cases hv5
  obtain ⟨tb8, ub, he1, he2, he3⟩ := hE8
  -- pop
  have B9 := B8.pop s
  have k9 : Kp d H8 (upd H8 d (.dK (dropK kvs (.inl ((s : Nat) : Int))))) := (Kp.refl d H8).upd
  refine ⟨_, rfl, d, rfl, .inl ⟨kvs, .inl B8.at_⟩, _, rfl, kvs, .inl ((s : Nat) : Int), _, B8.at_, rfl, hv8, ?_⟩
  generalize upd H8 d (.dK (dropK kvs (.inl ((s : Nat) : Int)))) = H9 at B9 k9
  have tk9 : ∀ t ys, H8 t = some (.tup ys) → H9 t = some (.tup ys) := fun t ys h => k9 _ _ h (ne_of h B8.at_ (fun e => nomatch e))
  have G9 : Gw H H9 := G8.kp hd0 B9.at_ k9
  have T9 : Tabs Tb H9 := tabs_kp T8 B8.at_ k9
  have hc9 := k9 _ _ hc8 (Ne.symm nd2)
  have hus9 := hus8.keep tk9
  refine ⟨a, _, rfl, SqT.of (tk9 _ _ he1), rfl, _, _, rfl, _, _, rfl, _, _, rfl, rfl, ?_⟩
  obtain ⟨bn1, bn2, r1, bO, br⟩ := L5.bst s e hbs
  have fl_le : ∀ j, (e.1 :: (e.2.take j).flatten).length ≤ 2000 := fun j => by
    have : e.2.flatten.length = (e.2.take j).flatten.length + (e.2.drop j).flatten.length := by
      rw [← List.length_append, ← List.flatten_append, List.take_append_drop]
    unfold eC at bn2
    rw [List.length_cons] at bn2 ⊢
    omega
  refine ⟨_, rfl, le_line (show 1 ≤ 10000000 by decide), fun t0 ht0 => ?_⟩
  have s10 := (Same.refl H9).upd_new (o := .tup [.int ((e.1 : Nat) : Int)]) ht0
  have t10 : (upd H9 t0 (.tup [.int ((e.1 : Nat) : Int)])) t0 = some (.tup (nI (e.1 :: (e.2.take 0).flatten))) := upd_same
  generalize upd H9 t0 (.tup [.int ((e.1 : Nat) : Int)]) = H10 at s10 t10
  have heb := tk9 _ _ he2
  have lub : (ub.map V.ref).length = e.2.length := by rw [List.length_map, he3.1]
  refine ⟨_, rfl, tb8, rfl, ⟨_, SqT.of (s10 _ _ heb)⟩, for_tup (xs := ub.map V.ref) (fun i σ H' => ∃ (x10 : Option V) (tc : Addr), σ = [some (.ref m), some (.ref b), some (.ref d2), some (.ref d), y4, some (.int ((s : Nat) : Int)), some (.int (((eC e).length : Nat) : Int)), some (.int ((e.1 : Nat) : Int)), some (.ref tb8), some (.ref tc), x10] ∧ Same H9 H' ∧ H' tc = some (.tup (nI (e.1 :: (e.2.take i).flatten))))
    ⟨y10, t0, rfl, s10, t10⟩ (fun i σ H' _ ⟨_, _, _, q, _⟩ => SqT.of (q _ _ heb)) ?_ ?_⟩
  · rintro i v σ H11 hv ⟨x10, tc, rfl, s11, t11⟩
    obtain ⟨u, hu2, rfl⟩ := get_map_r hv
    have hil : i < e.2.length := by rw [← he3.1]; exact (List.getElem?_eq_some_iff.mp hu2).1
    have hei := List.getElem?_eq_getElem hil
    have hut := s11 _ _ (tk9 _ _ (he3.2 i u _ hu2 hei))
    have et : e.1 :: (e.2.take (i + 1)).flatten = (e.1 :: (e.2.take i).flatten) ++ e.2[i] := by
      rw [List.take_add_one, hei, List.flatten_append]
      show e.1 :: ((e.2.take i).flatten ++ (e.2[i] ++ [])) = _
      rw [List.append_nil]
      rfl
    have fl := fl_le (i + 1)
    rw [et] at fl
    generalize e.2[i] = pc at hut et fl
    refine ⟨_, rfl, _, rfl, tc, u, _, _, rfl, rfl, SqT.of t11, SqT.of hut, le_line (by rw [nI_len, nI_len, ← List.length_append]; omega), (fun z => by cases z), (fun _ z => ?_), fun _ _ p hp => ?_⟩
    · have ep : pc = [] := List.eq_nil_of_length_eq_zero (by rw [← nI_len pc, z]; rfl)
      rw [ep, List.append_nil] at et
      exact ⟨_, tc, rfl, s11, by rw [et]; exact t11⟩
    · refine ⟨_, p, rfl, s11.upd_new hp, ?_⟩
      rw [upd_same, et]
      congr 2
      unfold nI
      rw [List.map_append]
  rintro σ H11 ⟨x10, tc, rfl, s11, t11⟩
  rw [lub, List.take_length] at t11
  have t11 : H11 tc = some (.tup (nI (eC e))) := t11
  have ss40 : ss.length ≤ 40 := Nat.le_trans (Nat.le_trans (sub_len ss (List.range js.length) L5.nd fun s hs => List.mem_range.mpr (hss s hs)) (by rw [List.length_range]; exact Nat.le_refl _)) l40
  -- codes[state] = code
  refine ⟨_, rfl, _, rfl, _, rfl, d2, _, rfl, DPut.k (k := .inl ((s : Nat) : Int)) (s11 _ _ hc9) (by rw [cdK_len lus]; exact lt_line (by omega)), ?_⟩
  have ecd : putK (cdK ss us) (.inl ((s : Nat) : Int)) (.ref tc) = cdK (ss ++ [s]) (us ++ [tc]) := by
    rw [putK_new _ (cdK_no bn1)]
    unfold cdK
    rw [List.zip_append lus.symm, List.map_append]
    rfl
  rw [ecd]
  have k12 : ∀ p o, H11 p = some o → p ≠ d2 → (upd H11 d2 (.dK (cdK (ss ++ [s]) (us ++ [tc])))) p = some o := fun p o h n => by rw [upd_ne n]; exact h
  have c12 : (upd H11 d2 (.dK (cdK (ss ++ [s]) (us ++ [tc])))) d2 = some (.dK (cdK (ss ++ [s]) (us ++ [tc]))) := upd_same
  have hc11 := s11 _ _ hc9
  have G11 := G9.trans (Gw.of s11)
  have G12 : Gw H (upd H11 d2 (.dK (cdK (ss ++ [s]) (us ++ [tc])))) := G11.kp hd2 c12 k12
  have T12 : Tabs Tb (upd H11 d2 (.dK (cdK (ss ++ [s]) (us ++ [tc])))) := tabs_kp (T9.ext fun b o h => s11 b o h) hc11 k12
  generalize upd H11 d2 (.dK (cdK (ss ++ [s]) (us ++ [tc]))) = H12 at k12 c12 G12 T12
  have tk12 : ∀ t ys, H11 t = some (.tup ys) → H12 t = some (.tup ys) := fun t ys h => k12 _ _ h (ne_of h hc11 (fun e => nomatch e))
  have C12 : CdA H12 d2 (ss ++ [s]) (cs ++ [eC e]) := ⟨us ++ [tc], c12, by rw [List.length_append, List.length_append, lus]; rfl, ((hus9.keep fun t ys h => tk12 _ _ (s11 _ _ h)).snoc (tk12 _ _ t11))⟩
  have d11 := s11 _ _ B9.at_
  have B12 : BsA H12 d _ _ := B9.keep (by rw [k12 _ _ d11 nd2, B9.at_]) fun t ys h => tk12 _ _ (s11 _ _ h)
  have L12 := L5.pop (fun _ _ _ _ => trivial) hbs least
  have hsl : s < js.length := by
    obtain ⟨q, q1, q2, q3⟩ := bO.kl
    exact (List.getElem?_eq_some_iff.mp (hI.cs _ _ _ q3).2.2.2).1
  have hss12 : ∀ x ∈ ss ++ [s], x < js.length := fun x hx => by
    rcases List.mem_append.mp hx with h | h
    · exact hss x h
    · rw [List.mem_singleton.mp h]; exact hsl
  have l12 : (ss ++ [s]).length = ss.length + 1 := by rw [List.length_append]; rfl
  generalize hbest' : (fun s' => if s' = s then none else best s') = bestN at B12 L12
  generalize dropK kvs (.inl ((s : Nat) : Int)) = kvsN at B12
  have hd12 := B12.at_
  have stay12 : ∀ {H' : Hp}, Kp d H12 H' → ∀ {o' : HO}, H' d = some o' → Gw H H' := fun k _ h => G12.kp hd0 h k
  have b1' := stay G12 b1 (fun _ e => nomatch e)
  have b4' := stay G12 b4 (fun _ e => nomatch e)
  refine ⟨_, rfl, b, C, bx, _, _, rfl, b1', BB.cl, BB.nK, lk_kinds _ _ _ _, kk, rfl, ⟨_, SqT.of b4'⟩, for_tup (xs := (rows.map (·.1)).map V.str) (fun i σ H' => ∃ (x4 : Option V) (kvs' : List (Key × V)) (best' : Nat → Option Ent), σ = [some (.ref m), some (.ref b), some (.ref d2), some (.ref d), x4, some (.int ((s : Nat) : Int)), some (.int (((eC e).length : Nat) : Int)), some (.int ((e.1 : Nat) : Int)), some (.ref tb8), some (.ref tc), x10] ∧ Kp d H12 H' ∧ BsA H' d kvs' best' ∧ LC rows cl (ss ++ [s]) (cs ++ [eC e]) (dnK (ss ++ [s]) i) best')
    ⟨y4, kvsN, bestN, rfl, Kp.refl d H12, B12, L12.more fun k r s' o dn z => .inl (by
      rcases dn with h | h
      · intro y hy
        have := h y hy
        omega
      · omega)⟩ (fun i σ H' _ ⟨_, _, _, _, kx, _, _⟩ => SqT.of (kx _ _ b4' (ne_of b4' hd12 (fun e => nomatch e)))) ?_ ?_⟩
  · rintro i v σ H13 hv ⟨x4, kvs', best', rfl, k13, B13, L13⟩
    rw [List.getElem?_map, List.getElem?_map] at hv
    cases hq : rows[i]? with
    | none => rw [hq] at hv; cases hv
    | some q =>
      rw [hq] at hv
      cases hv
      have C13 : CdA H13 d2 (ss ++ [s]) (cs ++ [eC e]) := C12.keep (fun o h => k13 _ _ h (Ne.symm nd2)) fun t ys h => k13 _ _ h (ne_of h hd12 (fun e => nomatch e))
      refine ⟨_, rfl, _, rfl, _, rfl, _, rfl, m, d2, d, q.1, H, b, rows, Ds, js, cl, ss ++ [s], cs ++ [eC e], kvs', best', i, q, rfl, stay12 k13 B13.at_, hd0, hd2, nd2, hM0, R, hI, hMD, l40, C13, B13, L13, by omega, hss12, hq, rfl, fun H14 kvs'' best'' k14 B14 L14 => ?_⟩
      exact ⟨_, kvs'', best'', rfl, k13.trans k14, B14, L14⟩
  rintro σ H13 ⟨x4, kvs', best', rfl, k13, B13, L13⟩
  have G13 := stay12 k13 B13.at_
  refine ⟨41 - (ss ++ [s]).length, by omega, x4, _, _, _, _, _, _, ss ++ [s], cs ++ [eC e], kvs', best', rfl, rfl, G13, tabs_kp T12 hd12 k13, C12.keep (fun o h => k13 _ _ h (Ne.symm nd2)) (fun t ys h => k13 _ _ h (ne_of h hd12 (fun e => nomatch e))), B13, L13.more (fun k r s' o dn z => .inl ?_), hss12⟩
  obtain ⟨q, q1, _⟩ := o.kl
  have := (List.getElem?_eq_some_iff.mp q1).1
  rw [List.length_map, List.length_map]
  exact .inr this
end
end Sh
end
section
set_option Elab.async false
set_option linter.all false
set_option maxRecDepth 100000
set_option maxHeartbeats 16000000
namespace Sh
open PySem PySem.Spec PyProof.Rows L2 NdefX LamX Lx
open C8 (pss_cut tCut)
open Evl (ixN_nat)
theorem LC.rk {rows : List Row} {cl : Str → List Nat → Option Nat} {ss : List Nat} {cs : List (List Nat)} {Dn : Nat → List Nat → Prop} {best : Nat → Option Ent} (L : LC rows cl ss cs Dn best) : ∀ c ∈ cs, ∀ k ∈ c, k < rows.length := by
  have gen : ∀ (n i : Nat) (c : List Nat), i < n → cs[i]? = some c → ∀ k ∈ c, k < rows.length := fun n => by
    induction n with
    | zero => intro i c h; omega
    | succ n ih =>
      intro i c hi hc
      have hil := (List.getElem?_eq_some_iff.mp hc).1
      obtain ⟨k, r, o, lt, rfl, _⟩ := L.org i _ c (List.getElem?_eq_getElem (by rw [← L.len]; exact hil)) hc
      obtain ⟨q, q1, q2, q3⟩ := o.kl
      intro y hy
      unfold cO eC at hy
      rcases List.mem_cons.mp hy with rfl | h
      · exact (List.getElem?_eq_some_iff.mp q1).1
      · obtain ⟨d, hd, hyd⟩ := List.mem_flatten.mp h
        obtain ⟨j, hj, rfl⟩ := List.mem_map.mp hd
        have hjl : j < cs.length := by have := lt j hj; omega
        refine ih j _ (by have := lt j hj; omega) ?_ y hyd
        rw [List.getD_eq_getElem?_getD, List.getElem?_eq_getElem hjl]
        rfl
  intro c hc
  obtain ⟨i, hi⟩ := List.mem_iff_getElem?.mp hc
  exact gen (i + 1) i c (Nat.lt_succ_self _) hi
theorem LC.all_in {rows : List Row} {cl : Str → List Nat → Option Nat} {ss : List Nat} {cs : List (List Nat)} {Dn : Nat → List Nat → Prop} {best : Nat → Option Ent} (L : LC rows cl ss cs Dn best) {n : Nat} (h : ∀ s ∈ ss, s < n) (e : n ≤ ss.length) : ∀ i, i < n → i ∈ ss := fun i hi => by
  refine Classical.byContradiction fun hn => ?_
  have := sub_len (i :: ss) (List.range n) (List.nodup_cons.mpr ⟨hn, L.nd⟩) fun x hx => by
    rcases List.mem_cons.mp hx with rfl | h'
    · exact List.mem_range.mpr hi
    · exact List.mem_range.mpr (h x h')
  rw [List.length_cons, List.length_range] at this
  omega
theorem one_j {D : RdD} {j : List Nat} (h : JOk [D] j) : ∃ q, j = [q] ∧ q < D.many := by
  obtain ⟨h1, h2⟩ := h
  have h1 : j.length = 1 := h1
  match j, h1 with
  | [q], _ => exact ⟨q, rfl, h2 0 (Nat.lt_succ_self 0)⟩
theorem one_40 {D : RdD} (h : D.many ≤ 40) : ∀ l : List (List Nat), l.Nodup → (∀ j ∈ l, JOk [D] j) → l.length ≤ 40 := fun l nd hj => by
  have := sub_len l ((List.range D.many).map fun q => [q]) nd fun j hjm => by
    obtain ⟨q, rfl, hq⟩ := one_j (hj j hjm)
    exact List.mem_map.mpr ⟨q, List.mem_range.mpr hq, rfl⟩
  rw [List.length_map, List.length_range] at this
  omega
/-- the plants told: a code's names for each state that is gained -/
def PlsAt (rows : List Row) (js : List (List Nat)) (ss : List Nat) (cs : List (List Nat)) (n : Nat) (H : Hp) (t : Addr) : Prop := ∃ vs : List V, H t = some (.tup vs) ∧ vs.length = n ∧ ∀ q, q < n → (([q] ∉ js ∧ vs[q]? = some .non) ∨ ∃ (i p : Nat) (c : List Nat) (a : Addr), js[i]? = some [q] ∧ ss[p]? = some i ∧ cs[p]? = some c ∧ vs[q]? = some (.ref a) ∧ H a = some (.tup (sV (rkN rows c))))
def tmP6 : List V → Prop := fun vs => vs = [.str "knots", .int 2000]
def tmF6 : List (Str × V) := xfs ["what", "limit"] [.str "knots", .int 2000] []
def spLeastP (C CR CT : Addr) (Tb : List (Addr × Str)) : Sp := fun vs H Q E => ∃ (u b : Addr) (rows : List Row) (D : RdD), vs = [.ref u] ∧ RdAt C CR H u b rows D ∧ ROk 4 rows ∧ D.Ok rows ∧ Tabs Tb H ∧ ∀ js cl ss cs, MI rows [D] js cl → MDn rows cl js.length → LC rows cl ss cs (fun _ _ => True) (fun _ => none) → (∀ s ∈ ss, s < js.length) →
  (ss.length < js.length → ∀ H' d, Gw H H' → Tabs Tb H' → H' d = none → E (.ref CT) (some d) (upd H' d (.xd tmF6))) ∧
  (js.length ≤ ss.length → ∀ H' t, Gw H H' → Tabs Tb H' → PlsAt rows js ss cs D.many H' t → Q (.ref t) H')
abbrev N_least_plants : List Str := ["reader", "machine", "codes", "plants", "number", "state"]
theorem sc_least_plants : FnScope N_least_plants ["reader"] (defScope s_least_plants) := ⟨rfl, rfl, rfl, by decide +kernel, rfl, by decide +kernel, by decide +kernel⟩
section
variable {P : Program} {w : World} {K : PySem.W.Frag} {mg : Str → Option Value} {base : Heap} {C CR CM CT : Addr} {Tb : List (Addr × Str)}
theorem ok_leastP (T : Bl mg) (x_TooMany : PySem.SupX.SupCls P w K mg "TooMany" CT ["what", "limit"] tmP6) (BR : RdT K CR) (BM : McT K CM) (c_joint_machine : DefOk P w K mg base CX0 7 "joint_machine" (spJoint C CR CM Tb)) (c_least_codes : DefOk P w K mg base CX0 10 "least_codes" (spLeastC C CM Tb)) (c_decoded : DefOk P w K mg base CX0 1 "decoded" (spDecoded C)) (D : Def0 K mg "least_plants" s_least_plants) : DefOk P w K mg base (L2.CX P w) 11 "least_plants" (spLeastP C CR CT Tb) := by
  refine D.okX sc_least_plants (fun vs H Q E h => by obtain ⟨u, b, rows, D, rfl, _⟩ := h; rfl) (fun _ _ _ _ _ _ us hl => match us, hl with | [_], _ => rfl) (fun f cdv A outer s0 H vs Q E hr h => ?_)
  obtain ⟨u, b, rows, D, rfl, hRd, R, hD, hT, key⟩ := h
  have hu := hu_of hr
  refine ⟨_, (pss_cons (ps_set (i := 1) sc_least_plants.nd rfl (Or.inl rfl) (pe_d c_joint_machine (hr.mono (by decide)) pass0 (pa_cons (pe_lst (pa_cons (pv 0) pa_nil)) pa_nil)))
    (pss_cons (ps_set (i := 2) sc_least_plants.nd rfl (Or.inl rfl) (pe_d c_least_codes (hr.mono (by decide)) pass0 (pa_cons (pv 1) pa_nil)))
    (pss_cons (ps_if (pt_cmpR op_lt (pe_callB call_lenD (by rfl) T.b_len boot_len (pa_cons (pv 2) pa_nil)) (pe_callB call_len_seq (by rfl) T.b_len boot_len (pa_cons (pe_fld (pv 1) rfl) pa_nil)) (nomark _))
      (pss_one (ps_raiseSup rfl x_TooMany hr (takes_of rfl rfl rfl rfl) (pa_cons pe_str (pa_cons (pe_cI (by rfl) T.c_MOST_KNOTS) pa_nil))))
      pss_nil)
    (pss_cons (ps_set (i := 3) sc_least_plants.nd rfl (Or.inl rfl) (pe_op op_rep (pe_lst (pa_cons pe_non pa_nil)) (pe_fld (pv 0) rfl)))
    (pss_cons (ps_for (passes_of rfl) rfl (pi_enum (by rfl) T.b_enumerate (pa_cons (pe_fld (pv 1) rfl) pa_nil)) (pg_tup (by rfl) (pgs_cons (pg_name (i := 4) sc_least_plants.nd rfl (Or.inl rfl)) (pgs_cons (pg_tup (by rfl) (pgs_cons (pg_name (i := 5) sc_least_plants.nd rfl (Or.inl rfl)) pgs_nil)) pgs_nil)))
      (pss_one (ps_asg (pe_d c_decoded (hr.mono (by decide)) pass0 (pa_cons (pe_fld (pv 0) rfl) (pa_cons (pe_dget hu (pv 2) (pv 4) (fun _ _ => rfl)) pa_nil))) (pg_sub (pv 3) (pv 5) set_list))))
    (pss_one (ps_ret (pe_callTy call_tuple_of (by rfl) T.b_tuple (by decide +kernel) (pa_cons (pv 3) pa_nil))))))))), ?_⟩
  have m40 := hD.m3
  refine ⟨_, rfl, le_line (show 1 ≤ 10000000 by decide), fun l hl => ?_⟩
  have s1 := (Same.refl H).upd_new (o := .lst [.ref u]) hl
  have l1 : (upd H l (.lst [.ref u])) l = some (.lst (([u] : List Addr).map V.ref)) := upd_same
  generalize upd H l (.lst [.ref u]) = H1 at s1 l1
  have T1 := hT.ext s1
  refine ⟨l, [u], rows, [D], rfl, l1, ⟨rfl, fun i u' D' h1 h2 => ?_⟩, R, fun D' h => by rw [List.mem_singleton.mp h]; exact hD, Nat.lt_succ_self 0, (by show 1 ≤ 100; omega), one_40 m40, T1, fun H2 m b' js cl g2 T2 hM hI hMD => ?_⟩
  · cases i with
    | zero => cases h1; cases h2; exact ⟨b, hRd.same s1⟩
    | succ i => cases h1
  have l40 : js.length ≤ 40 := one_40 m40 js hI.nd hI.ok
  refine ⟨_, rfl, m, b', rows, [D], js, cl, rfl, hM, R, hI, hMD, l40, T2, fun H3 d2 ss cs g3 T3 hC hL hss => ?_⟩
  obtain ⟨k1, k2⟩ := key js cl ss cs hI hMD hL hss
  have G3 := ((Gw.of s1).trans g2).trans g3
  have hM3 := hM.gw g3
  obtain ⟨lj, dn, dc, ds, jus, cnt, ⟨⟨dx, ho⟩, hj, hjp, hn⟩, hc, hbd⟩ := hM3
  obtain ⟨em1, em2, em3, em4, em5⟩ := mac_lk b' lj dn dc
  obtain ⟨us, hc3, lus, hus⟩ := hC
  have hRd3 := hRd.gw G3
  obtain ⟨rx, rd, rm, rds, hr1, hr2, hr3, hr4⟩ := hRd3
  obtain ⟨f1, f2, f3, f4, f5⟩ := rd_lk b rd rm D.many D.rest
  have ljs : (jus.map V.ref).length = js.length := by rw [List.length_map, hjp.1]
  refine ⟨_, rfl, d2, _, rfl, hc3, _, rfl, m, CM, dx, _, _, rfl, ho, BM.cl, BM.nJ, em2, lj, _, rfl, .inl (SqL.of hj), _, _, rfl, rfl, _, rfl, ?_⟩
  rw [cdK_len lus, ljs]
  by_cases hlt : ss.length < js.length
  · refine ifp (decide_eq_true (by omega)) ?_
    exact ⟨rfl, rfl, fun d hd => k1 hlt H3 d G3 T3 hd⟩
  refine ifn (fun c => hlt (by have := of_decide_eq_true c; omega)) ?_
  have eL : js.length ≤ ss.length := by omega
  refine ⟨le_line (show 1 ≤ 10000000 by decide), fun l4 hl4 => ?_⟩
  have s4 := (Same.refl H3).upd_new (o := .lst [.non]) hl4
  have l44 : (upd H3 l4 (.lst [.non])) l4 = some (.lst [.non]) := upd_same
  generalize upd H3 l4 (.lst [.non]) = H4 at s4 l44
  refine ⟨_, rfl, u, CR, rx, _, _, rfl, s4 _ _ hr1, BR.cl, BR.nS, f5, l4, _, _, rfl, rfl, l44, by omega, by omega, le_line (by rw [Int.toNat_natCast]; show 1 * D.many ≤ _; omega), fun L4 hL4 => ?_⟩
  have eR : (List.replicate (((D.many : Nat) : Int)).toNat [V.non]).flatten = List.replicate D.many V.non := by
    rw [Int.toNat_natCast]
    exact List.flatten_replicate_singleton
  rw [eR]
  have s5 := s4.upd_new (o := .lst (List.replicate D.many V.non)) hL4
  have e5 : (upd H4 L4 (.lst (List.replicate D.many V.non))) L4 = some (.lst (List.replicate D.many V.non)) := upd_same
  have nlj : lj ≠ L4 := fun e => by rw [← e, s4 _ _ hj] at hL4; cases hL4
  have hL30 : H3 L4 = none := s4.free hL4
  generalize upd H4 L4 (.lst (List.replicate D.many V.non)) = H5 at s5 e5
  have kp : ∀ {H' : Hp} {p : Addr} {o : HO}, Kp L4 H5 H' → H3 p = some o → H' p = some o := fun k h => k _ _ (s5 _ _ h) fun e => by rw [e, hL30] at h; cases h
  refine ⟨_, rfl, m, CM, dx, _, _, rfl, s5 _ _ ho, BM.cl, BM.nJ, em2, lj, _, rfl, SqL.of (s5 _ _ hj), for_it (walk_enum (xs := jus.map V.ref)) (fun i σ H' => ∃ (x4 x5 : Option V) (vs : List V), σ = [some (.ref u), some (.ref m), some (.ref d2), some (.ref L4), x4, x5] ∧ Kp L4 H5 H' ∧ H' L4 = some (.lst vs) ∧ vs.length = D.many ∧ ∀ q, q < D.many → (((∀ i', i' < i → js[i']? ≠ some [q]) ∧ vs[q]? = some .non) ∨ ∃ (i' p : Nat) (c : List Nat) (a : Addr), i' < i ∧ js[i']? = some [q] ∧ ss[p]? = some i' ∧ cs[p]? = some c ∧ vs[q]? = some (.ref a) ∧ H' a = some (.tup (sV (rkN rows c)))))
    ⟨none, none, _, rfl, Kp.refl L4 H5, e5, List.length_replicate, fun q hq => .inl ⟨fun i' h => absurd h (Nat.not_lt_zero _), by rw [List.getElem?_replicate, if_pos hq]⟩⟩ (fun i σ H' _ ⟨_, _, _, _, kx, _⟩ => SqL.of (kp kx hj)) ?_ ?_⟩
  · rintro i v σ H6 H6' hi ⟨x4, x5, vs, rfl, k6, l6, len6, cell6⟩ ⟨P1, v1, v2, rfl, hP1, rfl, e1, e2⟩
    cases e1
    obtain ⟨uj, huj, rfl⟩ := get_map_r e2
    have hij : i < js.length := by rw [← ljs]; exact hi
    have hji := List.getElem?_eq_getElem hij
    obtain ⟨q, eq, hqm⟩ := one_j (hI.ok _ (List.getElem_mem hij))
    rw [eq] at hji
    have s7 := (Same.refl H6).upd_new (o := .tup [.int ((i : Nat) : Int), .ref uj]) hP1
    have p7 : (upd H6 P1 (.tup [.int ((i : Nat) : Int), .ref uj])) P1 = some (.tup [.int ((i : Nat) : Int), .ref uj]) := upd_same
    generalize upd H6 P1 (.tup [.int ((i : Nat) : Int), .ref uj]) = H7 at s7 p7
    have k7 := k6.trans (Kp.same s7)
    have huq := kp k7 (hjp.2 i uj [q] huj hji)
    obtain ⟨p, hp⟩ := List.mem_iff_getElem?.mp (hL.all_in hss eL i hij)
    have hpl := (List.getElem?_eq_some_iff.mp hp).1
    have hup := List.getElem?_eq_getElem (show p < us.length by rw [lus]; exact hpl)
    have hcp := List.getElem?_eq_getElem (show p < cs.length by rw [hL.len]; exact hpl)
    generalize us[p]'(by rw [lus]; exact hpl) = ua at hup
    have hcm := List.mem_of_getElem? hcp
    generalize cs[p]'(by rw [hL.len]; exact hpl) = c at hcp hcm
    have gd := DGet.k (k := .inl ((i : Nat) : Int)) (kp k7 hc3)
    rw [cdK_val lus hL.nd hp hup] at gd
    have hua := kp k7 (hus.2 p ua c hup hcp)
    have c2000 : c.length ≤ 2000 := by
      obtain ⟨_, _, _, _, _, h⟩ := hL.org p i c hp hcp
      exact h
    refine ⟨P1, _, rfl, SqT.of p7, rfl, _, _, rfl, _, _, rfl, uj, _, rfl, SqT.of huq, rfl, _, _, rfl, rfl, rfl, ?_⟩
    refine ⟨_, rfl, u, CR, rx, _, _, rfl, kp k7 hr1, BR.cl, BR.nB, f4, _, rfl, _, rfl, d2, _, rfl, gd, b, ua, rows, c, rfl, hr2.same fun p o h => kp k7 h, hua, hL.rk c hcm, c2000, fun H8 t s8 ht8 => ?_⟩
    have l8 := s8 _ _ (s7 _ _ l6)
    refine ⟨_, rfl, _, rfl, L4, _, _, q, rfl, rfl, l8, ixN_nat (by rw [len6]; exact hqm), ?_⟩
    have tk9 : ∀ t' ys, H8 t' = some (.tup ys) → (upd H8 L4 (.lst (vs.set q (.ref t)))) t' = some (.tup ys) := fun t' ys h => by
      rw [upd_ne (ne_of h l8 (fun e => nomatch e))]
      exact h
    refine ⟨_, _, vs.set q (.ref t), rfl, (k7.trans (Kp.same s8)).upd, upd_same, by rw [List.length_set]; exact len6, fun q' hq' => ?_⟩
    by_cases c0 : q' = q
    · subst c0
      exact .inr ⟨i, p, c, t, Nat.lt_succ_self i, hji, hp, hcp, by rw [List.getElem?_set, if_pos rfl, if_pos (by rw [len6]; exact hq')], tk9 _ _ ht8⟩
    · rcases cell6 q' hq' with ⟨n1, n2⟩ | ⟨i', p', c', a', h1, h2, h3, h4, h5, h6⟩
      · refine .inl ⟨fun i' hi' h => ?_, by rw [List.getElem?_set, if_neg (Ne.symm c0)]; exact n2⟩
        by_cases ci : i' = i
        · rw [ci, hji] at h
          cases h
          exact c0 rfl
        · exact n1 i' (by omega) h
      · exact .inr ⟨i', p', c', a', by omega, h2, h3, h4, by rw [List.getElem?_set, if_neg (Ne.symm c0)]; exact h5, tk9 _ _ (s8 _ _ (s7 _ _ h6))⟩
  · rintro σ H6 ⟨x4, x5, vs, rfl, k6, l6, len6, cell6⟩
    refine ⟨_, rfl, L4, _, rfl, .inl ⟨SqL.of l6, fun t ht => ?_⟩⟩
    have s7 := (Same.refl H6).upd_new (o := .tup vs) ht
    have t7 : (upd H6 t (.tup vs)) t = some (.tup vs) := upd_same
    generalize upd H6 t (.tup vs) = H7 at s7 t7
    have s37 : Same H3 H7 := fun p o h => s7 _ _ (kp k6 h)
    refine k2 eL H7 t (G3.trans (Gw.of s37)) (T3.ext s37) ⟨vs, t7, len6, fun q hq => ?_⟩
    rcases cell6 q hq with ⟨n1, n2⟩ | ⟨i', p', c', a', h1, h2, h3, h4, h5, h6⟩
    · refine .inl ⟨fun hm => ?_, n2⟩
      obtain ⟨i', hi'⟩ := List.mem_iff_getElem?.mp hm
      exact n1 i' (by rw [ljs]; exact (List.getElem?_eq_some_iff.mp hi').1) hi'
    · exact .inr ⟨i', p', c', a', h2, h3, h4, h5, s7 _ _ h6⟩
end
end Sh
end
section
set_option Elab.async false
set_option linter.all false
set_option maxRecDepth 100000
set_option maxHeartbeats 16000000
namespace Sh
open PySem PySem.Spec PyProof.Rows L2 NdefX LamX
open C8 (pss_cut tCut)
open Evl (ixN_nat)
def Sam6 : Nat → Hp → V → V → Prop
  | 0, _, _, _ => False
  | n + 1, H, v, u => (∃ i, v = .int i ∧ u = .int i) ∨ (∃ z : Str, v = .str z ∧ u = .str z) ∨
    ∃ (a b : Addr) (xs ys : List V), v = .ref a ∧ u = .ref b ∧ H a = some (.tup xs) ∧ H b = some (.tup ys) ∧ xs.length = ys.length ∧ xs.length ≤ 10000000 ∧ ∀ (i : Nat) (x y : V), xs[i]? = some x → ys[i]? = some y → Sam6 n H x y
theorem Sam6.same : ∀ {n : Nat} {H H' : Hp} {v u : V}, Sam6 n H v u → Same H H' → Sam6 n H' v u
  | 0, _, _, _, _, h, _ => h
  | n + 1, H, H', v, u, h, s => by
    rcases h with h | h | ⟨a, b, xs, ys, e1, e2, h1, h2, h3, h4, h5⟩
    · exact .inl h
    · exact .inr (.inl h)
    · exact .inr (.inr ⟨a, b, xs, ys, e1, e2, s _ _ h1, s _ _ h2, h3, h4, fun i x y p q => (h5 i x y p q).same s⟩)
def spSam6 (n : Nat) : Sp := fun vs H Q _ => ∃ v u, vs = [v, u] ∧ Sam6 n H v u ∧ ∀ H', Same H H' → Q (.bl true) H'
theorem wL_snoc {rows : List Row} (nd : (rows.map (·.1)).Nodup) {i : Nat} {q : Row} (h : rows[i]? = some q) : putK (wL (rows.take i)) (.inr q.1) (.int q.2) = wL (rows.take (i + 1)) := by
  have hn : valV (wL (rows.take i)) (.inr q.1) = none := by
    cases e : valV (wL (rows.take i)) (.inr q.1) with
    | none => rfl
    | some v =>
      have := valV_mem e
      unfold wL at this
      obtain ⟨q', hq', he⟩ := List.mem_map.mp this
      have e1 := Sum.inr.inj (Prod.mk.inj he).1
      obtain ⟨j, hj⟩ := List.mem_iff_getElem?.mp hq'
      rw [List.getElem?_take] at hj
      split at hj
      · rename_i hji
        have h1 : (rows.map (·.1))[j]? = some q.1 := by rw [List.getElem?_map, hj]; exact congrArg some e1
        have h2 : (rows.map (·.1))[i]? = some q.1 := by rw [List.getElem?_map, h]; rfl
        have := nd_at nd h1 h2
        omega
      · cases hj
  rw [putK_new _ hn, List.take_add_one, h]
  unfold wL
  rw [List.map_append]
  rfl
theorem take_snoc' {α : Type} {l : List α} {i : Nat} {x : α} (h : l[i]? = some x) : l.take (i + 1) = l.take i ++ [x] := by
  rw [List.take_add_one, h]
  rfl
theorem mis_split {w : Nat → Nat} : ∀ {c d : List Nat} {a : Nat}, mis w a (c ++ d) = (mis w a c).bind fun m => mis w m d
  | [], _, _ => rfl
  | k :: c, d, a => by
    rw [List.cons_append, mis, mis]
    by_cases e : a = 0
    · rw [if_pos e, if_pos e]; rfl
    · rw [if_neg e, if_neg e, mis_split]
theorem PC.at_ {w : Nat → Nat} {c : List Nat} (h : PC w c) {i k : Nat} (hk : c[i]? = some k) : ∃ m, mis w 1 (c.take i) = some m ∧ 0 < m ∧ mis w 1 (c.take (i + 1)) = some (m - 1 + w k) ∧ mis w (m - 1 + w k) (c.drop (i + 1)) = some 0 := by
  have hil := (List.getElem?_eq_some_iff.mp hk).1
  have e1 : c = c.take i ++ k :: c.drop (i + 1) := by
    have := List.getElem?_eq_getElem hil
    rw [hk] at this
    rw [Option.some.inj this, ← List.drop_eq_getElem_cons hil, List.take_append_drop]
  have h' : mis w 1 c = some 0 := h
  rw [e1, mis_split] at h'
  cases hm : mis w 1 (c.take i) with
  | none => rw [hm] at h'; cases h'
  | some m =>
    rw [hm] at h'
    have h' : mis w m (k :: c.drop (i + 1)) = some 0 := h'
    rw [mis] at h'
    by_cases e : m = 0
    · rw [if_pos e] at h'; cases h'
    · rw [if_neg e] at h'
      refine ⟨m, rfl, by omega, ?_, h'⟩
      rw [List.take_add_one, hk, mis_split, hm]
      show mis w m [k] = _
      rw [mis, if_neg e]
      rfl
theorem rkN_at {rows : List Row} {c : List Nat} {i k : Nat} {q : Row} (h : c[i]? = some k) (hq : rows[k]? = some q) : (sV (rkN rows c))[i]? = some (.str q.1) := by
  unfold sV rkN
  rw [List.getElem?_map, List.getElem?_map, h]
  show some (V.str (((rows.map (·.1))[k]?).getD "")) = _
  rw [List.getElem?_map, hq]
  rfl
theorem rkN_len (rows : List Row) (c : List Nat) : (sV (rkN rows c)).length = c.length := by
  rw [sV_len]
  unfold rkN
  rw [List.length_map]
structure COk (rows : List Row) (c : List Nat) : Prop where
  pc : PC (wK rows) c
  rk : ∀ k ∈ c, k < rows.length
  l2 : c.length ≤ 2000
theorem COk.at_ {rows : List Row} {c : List Nat} (h : COk rows c) {i k : Nat} (hk : c[i]? = some k) : ∃ q, rows[k]? = some q ∧ q ∈ rows ∧ HasN rows q.1 ∧ wK rows k = q.2.toNat := by
  have hl := h.rk k (List.mem_of_getElem? hk)
  have hq := List.getElem?_eq_getElem hl
  exact ⟨_, hq, List.getElem_mem hl, ⟨_, List.getElem_mem hl, rfl⟩, wK_at hq⟩
def spSizes : Sp := fun vs H Q _ => ∃ (kd : Addr) (ts : List Addr) (rows : List Row), vs = [.ref kd] ∧ H kd = some (.tup (ts.map V.ref)) ∧ TupsAt H ts rows ∧ ROk 4 rows ∧ ∀ H' d, Same H H' → H' d = some (.dK (wL rows)) → Q (.ref d) H'
def spFault6 : Sp := fun vs H Q _ => ∃ (d t : Addr) (rows : List Row) (c : List Nat), vs = [.ref d, .ref t] ∧ H d = some (.dK (wL rows)) ∧ ROk 4 rows ∧ H t = some (.tup (sV (rkN rows c))) ∧ COk rows c ∧ Q (.int (-1)) H
def spIsPl : Sp := fun vs H Q _ => ∃ (d t : Addr) (rows : List Row) (c : List Nat), vs = [.ref d, .ref t] ∧ H d = some (.dK (wL rows)) ∧ ROk 4 rows ∧ H t = some (.tup (sV (rkN rows c))) ∧ COk rows c ∧ Q (.bl true) H
def spRanked : Sp := fun vs H Q _ => ∃ (kd t : Addr) (ts : List Addr) (rows : List Row) (c : List Nat), vs = [.ref kd, .ref t] ∧ H kd = some (.tup (ts.map V.ref)) ∧ TupsAt H ts rows ∧ ROk 4 rows ∧ H t = some (.tup (sV (rkN rows c))) ∧ COk rows c ∧
  ∀ H' p t', Same H H' → H' p = some (.tup [.int ((c.length : Nat) : Int), .ref t']) → H' t' = some (.tup (nI c)) → Q (.ref p) H'
abbrev N_law_same : List Str := ["actual", "due", "k"]
theorem sc_law_same : FnScope N_law_same ["actual", "due"] (defScope s_law_same) := ⟨rfl, rfl, rfl, by decide +kernel, rfl, by decide +kernel, by decide +kernel⟩
abbrev N_law_sizes : List Str := ["kinds", "sizes", "name", "size"]
theorem sc_law_sizes : FnScope N_law_sizes ["kinds"] (defScope s_law_sizes) := ⟨rfl, rfl, rfl, by decide +kernel, rfl, by decide +kernel, by decide +kernel⟩
abbrev N_law_fault : List Str := ["sizes", "row", "need", "place"]
theorem sc_law_fault : FnScope N_law_fault ["sizes", "row"] (defScope s_law_fault) := ⟨rfl, rfl, rfl, by decide +kernel, rfl, by decide +kernel, by decide +kernel⟩
abbrev N_law_is_plant : List Str := ["sizes", "row", "name"]
theorem sc_law_is_plant : FnScope N_law_is_plant ["sizes", "row"] (defScope s_law_is_plant) := ⟨rfl, rfl, rfl, by decide +kernel, rfl, by decide +kernel, by decide +kernel⟩
abbrev N_law_ranked : List Str := ["kinds", "row", "ordered", "pair", "name"]
theorem sc_law_ranked : FnScope N_law_ranked ["kinds", "row"] (defScope s_law_ranked) := ⟨rfl, rfl, rfl, by decide +kernel, rfl, by decide +kernel, by decide +kernel⟩
section
variable {P : Program} {w : World} {K : PySem.W.Frag} {mg : Str → Option Value} {base : Heap} {C CR CT : Addr} {Tb : List (Addr × Str)}
theorem ok_sam6 (T : Bl mg) (D : Def0 K mg "_law_same" s_law_same) : ∀ n, DefOk P w K mg base CX0 n "_law_same" (spSam6 n)
  | 0 => by
    obtain ⟨f, fd, hm, F⟩ := D
    exact ⟨f, hm, F.kp, fun A outer s H us vs Q E hr e0 r hs => by obtain ⟨v, u, _, h, _⟩ := hs; exact h.elim⟩
  | n + 1 => by
    have c_law_same := ok_sam6 T D n
    refine D.ok sc_law_same (fun vs H Q E h => by obtain ⟨v, u, rfl, _⟩ := h; rfl) (fun _ _ _ _ _ _ us hl => match us, hl with | [_, _], _ => rfl) (fun f cdv A outer s H vs Q E hr h => ?_)
    obtain ⟨v, u, rfl, hE, k⟩ := h
    refine ⟨_, (pss_cons (ps_if (pt_cmpR op_isN (pv 1) pe_non (nomark _))
        (pss_one (ps_ret (pe_cmpR op_isN (pv 0) pe_non (nomark _))))
        pss_nil)
      (pss_cons (ps_if (pt_val (pe_callB call_isi (by rfl) T.b_isinstance (by decide +kernel) (pa_cons (pv 1) (pa_cons (pe_bltn (v := .ty "tuple") (by rfl) T.b_tuple boot_tuple rfl) pa_nil))))
        (pss_cons (ps_if (PW.pt (pw_or (pt_not (pt_val (pe_callB call_isi (by rfl) T.b_isinstance (by decide +kernel) (pa_cons (pv 0) (pa_cons (pe_bltn (v := .ty "tuple") (by rfl) T.b_tuple boot_tuple rfl) pa_nil))))) (pw_or1 (pt_cmpR op_ne (pe_callB call_len_seq (by rfl) T.b_len boot_len (pa_cons (pv 0) pa_nil)) (pe_callB call_len_seq (by rfl) T.b_len boot_len (pa_cons (pv 1) pa_nil)) (nomark _)))))
          (pss_one (ps_ret pe_bl))
          pss_nil)
        (pss_cons (ps_for PassesOwn.never rfl (pi_range1 (by rfl) T.b_range (pa_cons (pe_callB call_len_seq (by rfl) T.b_len boot_len (pa_cons (pv 1) pa_nil)) pa_nil)) (pg_name (i := 2) sc_law_same.nd rfl (Or.inl rfl))
          (pss_one (ps_if (pt_not (pt_val (pe_d c_law_same hr pass0 (pa_cons (pe_ix ix_tup (pv 0) (pv 2) (fun _ _ => rfl)) (pa_cons (pe_ix ix_tup (pv 1) (pv 2) (fun _ _ => rfl)) pa_nil)))))
            (pss_one (ps_ret pe_bl))
            pss_nil)))
        (pss_one (ps_ret pe_bl))))
        pss_nil)
      (pss_cons (ps_if (pt_val (pe_callB call_isi (by rfl) T.b_isinstance (by decide +kernel) (pa_cons (pv 1) (pa_cons (pe_bltn (v := .ty "bool") (by rfl) T.b_bool boot_bool rfl) pa_nil))))
        (pss_one (ps_ret (pe_and (pe_callB call_isi (by rfl) T.b_isinstance (by decide +kernel) (pa_cons (pv 0) (pa_cons (pe_bltn (v := .ty "bool") (by rfl) T.b_bool boot_bool rfl) pa_nil))) (pe_one (pe_cmpR op_eq (pv 0) (pv 1) (nomark _))))))
        pss_nil)
      (pss_cons (ps_if (pt_val (pe_callB call_isi (by rfl) T.b_isinstance (by decide +kernel) (pa_cons (pv 1) (pa_cons (pe_bltn (v := .ty "int") (by rfl) T.b_int boot_int rfl) pa_nil))))
        (pss_one (ps_ret (pe_and (pe_callB call_isi (by rfl) T.b_isinstance (by decide +kernel) (pa_cons (pv 0) (pa_cons (pe_bltn (v := .ty "int") (by rfl) T.b_int boot_int rfl) pa_nil))) (pe_and (pe_not (pe_callB call_isi (by rfl) T.b_isinstance (by decide +kernel) (pa_cons (pv 0) (pa_cons (pe_bltn (v := .ty "bool") (by rfl) T.b_bool boot_bool rfl) pa_nil)))) (pe_one (pe_cmpR op_eq (pv 0) (pv 1) (nomark _)))))))
        pss_nil)
      (pss_one (ps_ret (pe_and (pe_callB call_isi (by rfl) T.b_isinstance (by decide +kernel) (pa_cons (pv 0) (pa_cons (pe_bltn (v := .ty "str") (by rfl) T.b_str boot_str rfl) pa_nil))) (pe_one (pe_cmpR op_eq (pv 0) (pv 1) (nomark _)))))))))), ?_⟩
    rcases hE with ⟨i, rfl, rfl⟩ | ⟨z, rfl, rfl⟩ | ⟨a, b, xs, ys, rfl, rfl, h1, h2, h3, h4, h5⟩
    · refine ⟨_, rfl, rfl, _, rfl, ifn (fun e => by cases of_decide_eq_true e) ?_⟩
      refine ⟨_, rfl, _, _, _, _, false, rfl, .ty _, .base (.int _), rfl, _, rfl, ifn (by decide) ?_⟩
      refine ⟨_, rfl, _, _, _, _, false, rfl, .ty _, .base (.int _), rfl, _, rfl, ifn (by decide) ?_⟩
      refine ⟨_, rfl, _, _, _, _, true, rfl, .ty _, .base (.int _), rfl, _, rfl, ifp rfl ?_⟩
      refine ⟨_, rfl, _, _, _, _, true, rfl, .ty _, .base (.int _), rfl, _, rfl, ifp rfl ?_⟩
      refine ⟨_, rfl, _, _, _, _, false, rfl, .ty _, .base (.int _), rfl, _, rfl, _, rfl, ifp rfl ?_⟩
      refine ⟨_, rfl, _, rfl, rfl, ?_⟩
      rw [decide_eq_true rfl]
      exact k _ (Same.refl H)
    · refine ⟨_, rfl, rfl, _, rfl, ifn (fun e => by cases of_decide_eq_true e) ?_⟩
      refine ⟨_, rfl, _, _, _, _, false, rfl, .ty _, .base (.str _), rfl, _, rfl, ifn (by decide) ?_⟩
      refine ⟨_, rfl, _, _, _, _, false, rfl, .ty _, .base (.str _), rfl, _, rfl, ifn (by decide) ?_⟩
      refine ⟨_, rfl, _, _, _, _, false, rfl, .ty _, .base (.str _), rfl, _, rfl, ifn (by decide) ?_⟩
      refine ⟨_, rfl, _, _, _, _, true, rfl, .ty _, .base (.str _), rfl, _, rfl, ifp rfl ?_⟩
      refine ⟨_, rfl, _, rfl, rfl, ?_⟩
      rw [decide_eq_true rfl]
      exact k _ (Same.refl H)
    · refine ⟨_, rfl, rfl, _, rfl, ifn (fun e => by cases of_decide_eq_true e) ?_⟩
      refine ⟨_, rfl, _, _, _, _, true, rfl, .ty _, .base (.tup h2), rfl, _, rfl, ifp rfl ?_⟩
      refine ⟨_, rfl, _, _, _, _, true, rfl, .ty _, .base (.tup h1), rfl, _, rfl, ifn (by decide) ?_⟩
      refine ⟨_, rfl, a, _, rfl, .inr (SqT.of h1), _, rfl, b, _, rfl, .inr (SqT.of h2), rfl, _, rfl, ifn (by simp [h3]) ?_⟩
      refine ⟨_, rfl, b, _, rfl, .inr (SqT.of h2), _, rfl, by omega, by omega, for_range (n := (((ys.length : Nat) : Int)).toNat) (fun i σ H' => ∃ x : Option V, σ = [some (.ref a), some (.ref b), x] ∧ Same H H') ⟨none, rfl, Same.refl H⟩ ?_ ?_⟩
      · rintro i σ H1 hi ⟨x, rfl, s1⟩
        have hil : i < ys.length := by rw [Int.toNat_natCast] at hi; exact hi
        have hix : i < xs.length := by omega
        refine ⟨_, rfl, _, rfl, a, _, _, _, rfl, rfl, SqT.of (s1 _ _ h1), at_ofG (j := i) (by omega) (List.getElem?_eq_getElem hix), _, rfl, _, rfl, b, _, _, _, rfl, rfl, SqT.of (s1 _ _ h2), at_ofG (j := i) (by omega) (List.getElem?_eq_getElem hil), _, _, rfl, (h5 i _ _ (List.getElem?_eq_getElem hix) (List.getElem?_eq_getElem hil)).same s1, fun H2 s2 => ?_⟩
        exact ⟨_, rfl, ifn (by decide) ⟨_, rfl, s1.trans s2⟩⟩
      · rintro σ H1 ⟨x, rfl, s1⟩
        exact k _ s1
theorem ok_sizes6 (D : Def0 K mg "_law_sizes" s_law_sizes) : DefOk P w K mg base CX0 1 "_law_sizes" spSizes := by
  refine D.ok sc_law_sizes (fun vs H Q E h => by obtain ⟨kd, ts, rows, rfl, _⟩ := h; rfl) (fun _ _ _ _ _ _ us hl => match us, hl with | [_], _ => rfl) (fun f cdv A outer s H vs Q E hr h => ?_)
  obtain ⟨kd, ts, rows, rfl, hk, hT, R, key⟩ := h
  have hu := hu_of hr
  have r4 := R.len
  refine ⟨_, (pss_cons (ps_set (i := 1) sc_law_sizes.nd rfl (Or.inl rfl) pe_dnewK)
    (pss_cons (ps_for PassesOwn.never rfl (pi_tup (pv 0)) (pg_tup (by rfl) (pgs_cons (pg_name (i := 2) sc_law_sizes.nd rfl (Or.inl rfl)) (pgs_cons (pg_name (i := 3) sc_law_sizes.nd rfl (Or.inl rfl)) pgs_nil)))
      (pss_one (ps_dput hu (pv 1) (pv 2) (pv 3) rfl)))
    (pss_one (ps_ret (pv 1))))), ?_⟩
  refine fun d hd => ?_
  have s1 := (Same.refl H).upd_new (o := .dK []) hd
  have d1 : (upd H d (.dK [])) d = some (.dK (wL (rows.take 0))) := upd_same
  generalize upd H d (.dK []) = H1 at s1 d1
  have lts : (ts.map V.ref).length = rows.length := by rw [List.length_map, hT.1]
  refine ⟨_, rfl, kd, rfl, ⟨_, SqT.of (s1 _ _ hk)⟩, for_tup (xs := ts.map V.ref) (fun i σ H' => ∃ (x2 x3 : Option V), σ = [some (.ref kd), some (.ref d), x2, x3] ∧ Same H H' ∧ H' d = some (.dK (wL (rows.take i)))) ⟨none, none, rfl, s1, d1⟩ (fun i σ H' _ ⟨_, _, _, q, _⟩ => SqT.of (q _ _ hk)) ?_ ?_⟩
  · rintro i v σ H2 hv ⟨x2, x3, rfl, s2, d2⟩
    obtain ⟨u, hu2, rfl⟩ := get_map_r hv
    have hil : i < rows.length := by rw [← hT.1]; exact (List.getElem?_eq_some_iff.mp hu2).1
    have hq := List.getElem?_eq_getElem hil
    have hut := s2 _ _ (hT.2 i u _ hu2 hq)
    have ew := wL_snoc R.nd hq
    generalize rows[i] = q at hut ew
    refine ⟨u, _, rfl, SqT.of hut, rfl, _, _, rfl, _, _, rfl, rfl, ?_⟩
    refine ⟨_, rfl, _, rfl, _, rfl, d, _, rfl, DPut.k (k := .inr q.1) d2 ?_, ?_⟩
    · unfold wL
      rw [List.length_map, List.length_take]
      exact lt_line (n := min i _) (by omega)
    · exact ⟨_, _, rfl, s2.upd_own hd, by rw [upd_same, ew]⟩
  · rintro σ H2 ⟨x2, x3, rfl, s2, d2⟩
    rw [lts, List.take_length] at d2
    exact ⟨_, rfl, key H2 d s2 d2⟩
theorem ok_fault6 (T : Bl mg) (D : Def0 K mg "_law_fault" s_law_fault) : DefOk P w K mg base CX0 1 "_law_fault" spFault6 := by
  refine D.ok sc_law_fault (fun vs H Q E h => by obtain ⟨d, t, rows, c, rfl, _⟩ := h; rfl) (fun _ _ _ _ _ _ us hl => match us, hl with | [_, _], _ => rfl) (fun f cdv A outer s H vs Q E hr h => ?_)
  obtain ⟨d, t, rows, c, rfl, hd, R, ht, hc, key⟩ := h
  have hu := hu_of hr
  have lc := rkN_len rows c
  have c2 := hc.l2
  refine ⟨_, (pss_cons (ps_set (i := 2) sc_law_fault.nd rfl (Or.inl rfl) pe_int)
    (pss_cons (ps_for PassesOwn.never rfl (pi_range1 (by rfl) T.b_range (pa_cons (pe_callB call_len_seq (by rfl) T.b_len boot_len (pa_cons (pv 1) pa_nil)) pa_nil)) (pg_name (i := 3) sc_law_fault.nd rfl (Or.inl rfl))
      (pss_cons (ps_if (PW.pt (pw_or (pt_cmpR op_eq (pv 2) pe_int (nomark _)) (pw_or1 (pt_cmp (pc_dnotin hu (pe_ix ix_tup (pv 1) (pv 3) (fun _ _ => rfl)) (pv 0))))))
        (pss_one (ps_ret (pv 3)))
        pss_nil)
      (pss_one (ps_set (i := 2) sc_law_fault.nd rfl (Or.inl rfl) (pe_op op_add (pe_op op_sub (pv 2) pe_int) (pe_dget hu (pv 0) (pe_ix ix_tup (pv 1) (pv 3) (fun _ _ => rfl)) (fun _ _ => rfl)))))))
    (pss_cons (ps_if (pt_cmpR op_gt (pv 2) pe_int (nomark _))
      (pss_one (ps_ret (pe_callB call_len_seq (by rfl) T.b_len boot_len (pa_cons (pv 1) pa_nil))))
      pss_nil)
    (pss_one (ps_ret (pe_un un_neg pe_int)))))), ?_⟩
  refine ⟨_, rfl, t, _, rfl, .inr (SqT.of ht), _, rfl, by omega, by omega, for_range (n := (((sV (rkN rows c)).length : Nat) : Int).toNat) (fun i σ H' => ∃ (x3 : Option V) (m : Nat), σ = [some (.ref d), some (.ref t), some (.int ((m : Nat) : Int)), x3] ∧ H' = H ∧ mis (wK rows) 1 (c.take i) = some m) ⟨none, 1, rfl, rfl, rfl⟩ ?_ ?_⟩
  · rintro i σ H1 hi ⟨x3, m, rfl, rfl, hm⟩
    rw [Int.toNat_natCast, lc] at hi
    have hci := List.getElem?_eq_getElem hi
    obtain ⟨q, hq, hqm, hzn, hw⟩ := hc.at_ hci
    obtain ⟨m', h1, h2, h3, _⟩ := hc.pc.at_ hci
    rw [hm] at h1
    cases h1
    have hx := rkN_at hci hq
    have gd := DGet.k (k := .inr q.1) hd
    rw [val_wL R hzn, wR_of R hqm, ← hw] at gd
    refine ⟨_, rfl, rfl, _, rfl, ifn (fun e => by have := of_decide_eq_true e; simp at this; omega) ?_⟩
    refine ⟨_, rfl, _, rfl, t, _, _, _, rfl, rfl, SqT.of ht, at_ofG (j := i) (by omega) hx, _, rfl, d, _, rfl, gd, _, rfl, ifn (by simp) ?_⟩
    refine ⟨_, rfl, _, _, rfl, rfl, _, rfl, _, rfl, _, rfl, t, _, _, _, rfl, rfl, SqT.of ht, at_ofG (j := i) (by omega) hx, d, _, rfl, gd, _, _, rfl, rfl, ?_⟩
    refine ⟨some (.int (0 + ((i : Nat) : Int))), m - 1 + wK rows c[i], ?_, rfl, h3⟩
    show [_, _, some (V.int (((m : Nat) : Int) - 1 + ((wK rows c[i] : Nat) : Int))), _] = _
    rw [show ((m : Nat) : Int) - 1 + ((wK rows c[i] : Nat) : Int) = ((m - 1 + wK rows c[i] : Nat) : Int) by omega]
  · rintro σ H1 ⟨x3, m, rfl, rfl, hm⟩
    rw [Int.toNat_natCast, lc, List.take_length, show mis (wK rows) 1 c = some 0 from hc.pc] at hm
    cases hm
    refine ⟨_, rfl, _, _, rfl, rfl, _, rfl, ifn (by decide) ⟨_, rfl, key⟩⟩
theorem ok_ispl6 (T : Bl mg) (c_law_fault : DefOk P w K mg base CX0 1 "_law_fault" spFault6) (D : Def0 K mg "_law_is_plant" s_law_is_plant) : DefOk P w K mg base CX0 2 "_law_is_plant" spIsPl := by
  refine D.ok sc_law_is_plant (fun vs H Q E h => by obtain ⟨d, t, rows, c, rfl, _⟩ := h; rfl) (fun _ _ _ _ _ _ us hl => match us, hl with | [_, _], _ => rfl) (fun f cdv A outer s H vs Q E hr h => ?_)
  obtain ⟨d, t, rows, c, rfl, hd, R, ht, hc, key⟩ := h
  have hu := hu_of hr
  refine ⟨_, (pss_cons (ps_if (pt_not (pt_val (pe_callB call_isi (by rfl) T.b_isinstance (by decide +kernel) (pa_cons (pv 1) (pa_cons (pe_bltn (v := .ty "tuple") (by rfl) T.b_tuple boot_tuple rfl) pa_nil)))))
      (pss_one (ps_ret pe_bl))
      pss_nil)
    (pss_cons (ps_for PassesOwn.never rfl (pi_tup (pv 1)) (pg_name (i := 2) sc_law_is_plant.nd rfl (Or.inl rfl))
      (pss_one (ps_if (pt_not (pt_val (pe_callB call_isi (by rfl) T.b_isinstance (by decide +kernel) (pa_cons (pv 2) (pa_cons (pe_bltn (v := .ty "str") (by rfl) T.b_str boot_str rfl) pa_nil)))))
        (pss_one (ps_ret pe_bl))
        pss_nil)))
    (pss_one (ps_ret (pe_cmpR op_eq (pe_d c_law_fault (hr.mono (by decide)) pass0 (pa_cons (pv 0) (pa_cons (pv 1) pa_nil))) (pe_un un_neg pe_int) (nomark _)))))), ?_⟩
  refine ⟨_, rfl, _, _, _, _, true, rfl, .ty _, .base (.tup ht), rfl, _, rfl, ifn (by decide) ?_⟩
  refine ⟨_, rfl, t, rfl, ⟨_, SqT.of ht⟩, for_tup (xs := sV (rkN rows c)) (fun i σ H' => ∃ (x2 : Option V), σ = [some (.ref d), some (.ref t), x2] ∧ H' = H) ⟨none, rfl, rfl⟩ (fun i σ H' _ ⟨_, _, e⟩ => by rw [e]; exact SqT.of ht) ?_ ?_⟩
  · rintro i v σ H1 hv ⟨x2, rfl, rfl⟩
    unfold sV at hv
    rw [List.getElem?_map] at hv
    obtain ⟨z, hz, rfl⟩ := Option.map_eq_some_iff.mp hv
    exact ⟨_, rfl, _, _, _, _, true, rfl, .ty _, .base (.str _), rfl, _, rfl, ifn (by decide) ⟨_, rfl, rfl⟩⟩
  · rintro σ H1 ⟨x2, rfl, rfl⟩
    refine ⟨_, rfl, _, rfl, d, t, rows, c, rfl, hd, R, ht, hc, _, rfl, rfl, ?_⟩
    exact key
theorem ok_ranked6 (T : Bl mg) (D : Def0 K mg "_law_ranked" s_law_ranked) : DefOk P w K mg base CX0 1 "_law_ranked" spRanked := by
  refine D.ok sc_law_ranked (fun vs H Q E h => by obtain ⟨kd, t, ts, rows, c, rfl, _⟩ := h; rfl) (fun _ _ _ _ _ _ us hl => match us, hl with | [_, _], _ => rfl) (fun f cdv A outer s H vs Q E hr h => ?_)
  obtain ⟨kd, t, ts, rows, c, rfl, hk, hT, R, ht, hc, key⟩ := h
  have hu := hu_of hr
  have r4 := R.len
  have c2 := hc.l2
  have lts : (ts.map V.ref).length = rows.length := by rw [List.length_map, hT.1]
  refine ⟨_, (pss_cons (ps_set (i := 2) sc_law_ranked.nd rfl (Or.inr rfl) (pe_lc (own := [("pair", 3)]) (g := (gName 3)) (tt := tYes) rfl sc_law_ranked.nd (pi_tup (pv 0)) (blkOk_by (N := N_law_ranked) (sc := defScope s_law_ranked) (by decide +kernel)) (fun _ _ _ _ _ => (pg_name (i := 3) sc_law_ranked.nd rfl (Or.inl rfl))) (fun _ _ _ _ _ => pts_nil) (fun _ _ _ _ _ => (pe_ix (show IxR _ (rIxT K) from ix_tup) (pv 3) pe_int (fun _ _ => rfl)))))
    (pss_one (ps_ret (pe_tup (pa_cons (pe_callB call_len_seq (by rfl) T.b_len boot_len (pa_cons (pv 1) pa_nil)) (pa_cons (pe_callTy call_tuple_of (by rfl) T.b_tuple (by decide +kernel) (pa_cons (pe_lc (own := [("name", 4)]) (g := (gName 4)) (tt := tYes) rfl sc_law_ranked.nd (pi_tup (pv 1)) (blkOk_by (N := N_law_ranked) (sc := defScope s_law_ranked) (by decide +kernel)) (fun _ _ _ _ _ => (pg_name (i := 4) sc_law_ranked.nd rfl (Or.inl rfl))) (fun _ _ _ _ _ => pts_nil) (fun _ _ _ _ _ => (show PE _ _ (tBM K "list" (rIndex K) _ _) from (pe_bm PySem.F.plainAttrs_list PySem.F.slot_list_index PySem.F.type_list_index (show MtR _ _ (rIndex K) from mt_index) (pv 2) (pa_cons (pv 4) pa_nil))))) pa_nil)) pa_nil)))))), ?_⟩
  refine ⟨_, rfl, kd, rfl, ⟨_, SqT.of hk⟩, fun D1 hD1 => lc_it (walk_tup (xs := ts.map V.ref)) (fun i H' => Same H H' ∧ H' D1 = some (.lst (((rows.map (·.1)).take i).map V.str))) ⟨(Same.refl H).upd_new hD1, upd_same⟩ (fun i H' _ ⟨q, _⟩ => SqT.of (q _ _ hk)) ?_ ?_⟩
  · rintro i v H1 H2 hi ⟨s1, d1⟩ ⟨rfl, hv⟩
    obtain ⟨u, hu2, rfl⟩ := get_map_r hv
    have hil : i < rows.length := by rw [← hT.1]; exact (List.getElem?_eq_some_iff.mp hu2).1
    have hq := List.getElem?_eq_getElem hil
    have hut := s1 _ _ (hT.2 i u _ hu2 hq)
    have hn : (rows.map (·.1))[i]? = some rows[i].1 := by rw [List.getElem?_map, hq]; rfl
    generalize rows[i] = q at hut hn
    refine ⟨rfl, _, rfl, u, _, _, _, rfl, rfl, SqT.of hut, at_ofG (j := 0) rfl rfl, _, d1, ?_, s1.upd_own hD1, ?_⟩
    · rw [List.length_map, List.length_take]
      exact lt_line (n := min i _) (by omega)
    · rw [upd_same, List.take_add_one, hn, List.map_append]
      rfl
  rintro H1 ⟨s1, d1⟩
  rw [lts, show rows.length = (rows.map (·.1)).length by rw [List.length_map], List.take_length] at d1
  refine ⟨_, rfl, t, _, rfl, .inr (SqT.of (s1 _ _ ht)), _, rfl, t, rfl, ⟨_, SqT.of (s1 _ _ ht)⟩, fun D2 hD2 => lc_it (walk_tup (xs := sV (rkN rows c))) (fun i H' => Same H1 H' ∧ H' D2 = some (.lst (nI (c.take i)))) ⟨(Same.refl H1).upd_new hD2, upd_same⟩ (fun i H' _ ⟨q, _⟩ => SqT.of (q _ _ (s1 _ _ ht))) ?_ ?_⟩
  · rintro i v H2 H3 hi ⟨s2, d2⟩ ⟨rfl, hv⟩
    rw [rkN_len] at hi
    have hci := List.getElem?_eq_getElem hi
    obtain ⟨q, hq, hqm, hzn, hw⟩ := hc.at_ hci
    rw [rkN_at hci hq] at hv
    injection hv with hv
    subst hv
    have hn : ((rows.map (·.1)).map V.str)[c[i]]? = some (.str q.1) := by rw [List.getElem?_map, List.getElem?_map, hq]; rfl
    refine ⟨rfl, _, rfl, .inl ⟨rfl, _, SqL.of (s2 _ _ d1)⟩, _, rfl, D1, _, _, c[i], _, rfl, rfl, SqL.of (s2 _ _ d1), rfl, ?_, hn, ?_, fun m z' hm hz' => ?_, ?_⟩
    · rw [List.all_eq_true]
      intro x hx
      obtain ⟨z, _, rfl⟩ := List.mem_map.mp hx
      rfl
    · show (q.1 == q.1) = true
      simp
    · rw [List.getElem?_map] at hz'
      obtain ⟨z, hz, rfl⟩ := Option.map_eq_some_iff.mp hz'
      show (z == q.1) = false
      rw [beq_eq_false_iff_ne]
      intro e
      subst e
      have := nd_at R.nd hz (by rw [List.getElem?_map, hq]; rfl)
      omega
    · refine ⟨_, d2, ?_, s2.upd_own hD2, ?_⟩
      · rw [nI_len, List.length_take]
        exact lt_line (n := min i _) (by omega)
      · rw [upd_same, take_snoc' hci, nI_snoc]
  rintro H2 ⟨s2, d2⟩
  rw [rkN_len, List.take_length] at d2
  refine ⟨D2, _, rfl, .inl ⟨SqL.of d2, fun t' ht' => ?_⟩⟩
  have s3 := (s1.trans s2).upd_new (o := .tup (nI c)) ht'
  have t3 : (upd H2 t' (.tup (nI c))) t' = some (.tup (nI c)) := upd_same
  generalize upd H2 t' (.tup (nI c)) = H3 at s3 t3
  refine ⟨le_line (show 2 ≤ 10000000 by decide), fun p hp => ?_⟩
  refine key _ p t' (s3.upd_new hp) ?_ (by rw [upd_ne (ne_of_none t3 hp)]; exact t3)
  rw [upd_same, rkN_len]
end
end Sh
end
section
set_option Elab.async false
set_option linter.all false
set_option maxRecDepth 100000
set_option maxHeartbeats 16000000
namespace Sh
open PySem PySem.Spec PyProof.Rows L2 NdefX LamX
open C8 (pss_cut tCut)
open Evl (ixN_nat)
def spTold (C CR : Addr) (Tb : List (Addr × Str)) : Sp := fun vs H Q _ => ∃ (u b : Addr) (rows : List Row) (D : RdD), vs = [.ref u] ∧ RdAt C CR H u b rows D ∧ ROk 4 rows ∧ D.Ok rows ∧ Tabs Tb H ∧ ∀ js cl ss cs, MI rows [D] js cl → MDn rows cl js.length → LC rows cl ss cs (fun _ _ => True) (fun _ => none) → (∀ s ∈ ss, s < js.length) →
  (ss.length < js.length → ∀ H' t, Gw H H' → Tabs Tb H' → H' t = some (.tup [.str "TooMany", .str "knots", .int 2000]) → Q (.ref t) H') ∧
  (js.length ≤ ss.length → ∀ H' t, Gw H H' → Tabs Tb H' → PlsAt rows js ss cs D.many H' t → Q (.ref t) H')
theorem tm_fs : tmF6.lookup ("what" : Str) = some (.str "knots") ∧ tmF6.lookup ("limit" : Str) = some (.int 2000) := by constructor <;> decide +kernel
abbrev N_law_told : List Str := ["reader", "much"]
theorem sc_law_told : FnScope N_law_told ["reader"] (defScope s_law_told) := ⟨rfl, rfl, rfl, by decide +kernel, rfl, by decide +kernel, by decide +kernel⟩
section
variable {P : Program} {w : World} {K : PySem.W.Frag} {mg : Str → Option Value} {base : Heap} {C CR CT : Addr} {Tb : List (Addr × Str)}
theorem ok_told6 (T : Bl mg) (gT : mg "TooMany" = some (.ref CT)) (X_TooMany : XOk K CT ["what", "limit"]) (c_least_plants : DefOk P w K mg base (L2.CX P w) 11 "least_plants" (spLeastP C CR CT Tb)) (D : Def0 K mg "_law_told" s_law_told) : DefOk P w K mg base CX0 12 "_law_told" (spTold C CR Tb) := by
  refine D.ok sc_law_told (fun vs H Q E h => by obtain ⟨u, b, rows, D, rfl, _⟩ := h; rfl) (fun _ _ _ _ _ _ us hl => match us, hl with | [_], _ => rfl) (fun f cdv A outer s H vs Q E hr h => ?_)
  obtain ⟨u, b, rows, D, rfl, hRd, R, hD, hT, key⟩ := h
  have n_TooMany : ∀ {X : Cx}, X.mg = mg → Gl X "TooMany" → Names X "TooMany" (.ref CT) := fun e g => ⟨g, by decide, .inl (by rw [e]; exact gT)⟩
  refine ⟨_, (pss_one (ps_try_first (i := 1) rfl rfl sc_law_told.nd rfl rfl (n_TooMany rfl rfl) (fun W pn xe tk po => (pss_one (ps_ret (pe_dS c_least_plants (hr.mono (by decide)) (fun _ => passAt tk _) (pa_cons (pv 0) pa_nil))))) (fun a oe cls d pn hz hf => (pss_one (ps_ret (pe_tup (pa_cons pe_str (pa_cons (pe_xf X_TooMany.xf (X_TooMany.no "what" (by decide +kernel)) hz hf (pv 1)) (pa_cons (pe_xf X_TooMany.xf (X_TooMany.no "limit" (by decide +kernel)) hz hf (pv 1)) pa_nil))))))))), ?_⟩
  refine ⟨_, rfl, u, b, rows, D, rfl, hRd, R, hD, hT, fun js cl ss cs hI hMD hL hss => ?_⟩
  obtain ⟨k1, k2⟩ := key js cl ss cs hI hMD hL hss
  refine ⟨fun hlt H1 d g1 T1 hd => ?_, fun hle H1 t g1 T1 hp => k2 hle H1 t g1 T1 hp⟩
  refine ⟨X_TooMany.me, fun a ha => ?_⟩
  have g2 := g1.trans (Gw.of ((Same.refl H1).upd_new (o := .xd tmF6) hd))
  have T2 : Tabs Tb (upd H1 d (.xd tmF6)) := T1.ext ((Same.refl H1).upd_new (o := .xd tmF6) hd)
  refine ⟨_, rfl, rfl, rfl, d, _, _, rfl, upd_same, tm_fs.1, _, rfl, rfl, rfl, d, _, _, rfl, upd_same, tm_fs.2, le_line (show 3 ≤ 10000000 by decide), fun q hq => ?_⟩
  exact k1 hlt _ q (g2.trans (Gw.of ((Same.refl _).upd_new hq))) (T2.ext ((Same.refl _).upd_new hq)) upd_same
end
end Sh
end
section
set_option Elab.async false
set_option linter.all false
set_option maxRecDepth 100000
set_option maxHeartbeats 16000000
namespace Sh
open PySem PySem.Spec PyProof.Rows L2 NdefX LamX
open C8 (pss_cut tCut)
open Evl (ixN_nat)
def nmK (rows : List Row) (k : Nat) : Str := ((rows.map (·.1))[k]?).getD ""
theorem nmK_at {rows : List Row} {k : Nat} {q : Row} (h : rows[k]? = some q) : nmK rows k = q.1 := by
  unfold nmK
  rw [List.getElem?_map, h]
  rfl
def fR (rows : List Row) (D : RdD) (c st : List Nat) : List Nat := c.foldr (fun k st => D.stp (nmK rows k) (st.take (wK rows k)) :: st.drop (wK rows k)) st
theorem fR_cons (rows : List Row) (D : RdD) (k : Nat) (c st : List Nat) : fR rows D (k :: c) st = D.stp (nmK rows k) ((fR rows D c st).take (wK rows k)) :: (fR rows D c st).drop (wK rows k) := rfl
theorem fR_app (rows : List Row) (D : RdD) (c d st : List Nat) : fR rows D (c ++ d) st = fR rows D c (fR rows D d st) := by
  unfold fR
  rw [List.foldr_append]
theorem fR_ok {rows : List Row} {D : RdD} (R : ROk 4 rows) (hD : D.Ok rows) : ∀ (d : List Nat) (m : Nat), mis (wK rows) m d = some 0 → (∀ k ∈ d, k < rows.length) → (fR rows D d []).length = m ∧ ∀ s ∈ fR rows D d [], s < D.many
  | [], m, h, _ => by
    cases h
    exact ⟨rfl, fun s h => nomatch h⟩
  | k :: d, m, h, hk => by
    rw [mis] at h
    by_cases e : m = 0
    · rw [if_pos e] at h; cases h
    · rw [if_neg e] at h
      obtain ⟨h1, h2⟩ := fR_ok R hD d _ h fun x hx => hk x (List.mem_cons_of_mem _ hx)
      have hkl := hk k List.mem_cons_self
      have hq := List.getElem?_eq_getElem hkl
      have hqm := List.getElem_mem hkl
      generalize rows[k] = q at hq hqm
      have hw := wK_at hq
      rw [fR_cons]
      refine ⟨by rw [List.length_cons, List.length_drop, h1]; omega, fun s hs => ?_⟩
      rcases List.mem_cons.mp hs with rfl | hs
      · rw [nmK_at hq]
        exact hD.stp_lt R ⟨q, hqm, rfl⟩ (by rw [List.length_take, h1, wR_of R hqm, ← hw]; omega) fun s hs => h2 s (List.mem_of_mem_take hs)
      · exact h2 s (List.mem_of_mem_drop hs)
/-- the flattened codes come to their states -/
theorem fR_flat {rows : List Row} {D : RdD} {vs : List Nat} : ∀ {cs : List (List Nat)}, (∀ (i : Nat) (c : List Nat) (v : Nat), cs[i]? = some c → vs[i]? = some v → ∀ st, fR rows D c st = v :: st) → cs.length = vs.length → ∀ st, fR rows D cs.flatten st = vs ++ st := by
  induction vs with
  | nil =>
    intro cs _ hl st
    have : cs = [] := List.eq_nil_of_length_eq_zero hl
    subst this
    rfl
  | cons v vs ih =>
    intro cs h hl st
    cases cs with
    | nil => simp at hl
    | cons c cs =>
      rw [List.flatten_cons, fR_app, ih (fun i c v a b => h (i + 1) c v (by simpa using a) (by simpa using b)) (by simpa using hl)]
      exact h 0 c v rfl rfl _
/-- a settled code comes to its joint's state -/
theorem LC.val {rows : List Row} {cl : Str → List Nat → Option Nat} {ss : List Nat} {cs : List (List Nat)} {Dn : Nat → List Nat → Prop} {best : Nat → Option Ent} {js : List (List Nat)} {D : RdD} (L : LC rows cl ss cs Dn best) (I : MI rows [D] js cl) : ∀ (n i s : Nat) (c : List Nat), i < n → ss[i]? = some s → cs[i]? = some c → ∃ v, js[s]? = some [v] ∧ ∀ st, fR rows D c st = v :: st := fun n => by
  induction n with
  | zero => intro i s c h; omega
  | succ n ih =>
    intro i s c hi hs hc
    obtain ⟨k, r, o, lt, rfl, _⟩ := L.org i s c hs hc
    obtain ⟨q, q1, q2, q3⟩ := o.kl
    obtain ⟨_, _, i3, i4⟩ := I.cs _ _ _ q3
    -- the states below
    have vAt : ∀ j ∈ r, ∃ v, js[ss.getD j 0]? = some [v] ∧ ∀ st, fR rows D (cs.getD j []) st = v :: st := fun j hj => by
      have hjs := o.lt j hj
      have hjc : j < cs.length := by rw [L.len]; exact hjs
      have h1 := List.getElem?_eq_getElem hjs
      have h2 := List.getElem?_eq_getElem hjc
      rw [List.getD_eq_getElem?_getD, List.getD_eq_getElem?_getD, h1, h2]
      exact ih j _ _ (by have := lt j hj; omega) h1 h2
    have ej : jst [D] q.1 (rwJ js (rwS ss r)) = [D.stp q.1 (r.map fun j => (js.getD (ss.getD j 0) []).getD 0 0)] := by
      show [D.stp q.1 (List.map (fun b => b.getD 0 0) (List.map (fun q => js.getD q []) (List.map (fun i => ss.getD i 0) r)))] = _
      rw [List.map_map, List.map_map]
      rfl
    rw [ej] at i4
    refine ⟨_, i4, fun st => ?_⟩
    show fR rows D (k :: (rwC cs r).flatten) st = _
    have hf := fR_flat (rows := rows) (D := D) (vs := r.map fun j => (js.getD (ss.getD j 0) []).getD 0 0) (cs := rwC cs r) (fun p c v a b st => by
      unfold rwC at a
      rw [List.getElem?_map] at a b
      cases e : r[p]? with
      | none => rw [e] at a; cases a
      | some j =>
        rw [e] at a b
        cases a
        cases b
        obtain ⟨v, h1, h2⟩ := vAt j (List.mem_of_getElem? e)
        rw [h2 st]
        show v :: st = (js.getD (ss.getD j 0) []).getD 0 0 :: st
        rw [List.getD_eq_getElem?_getD (l := js), h1]
        rfl) (by unfold rwC; rw [List.length_map, List.length_map]) st
    rw [fR_cons, hf, nmK_at q1, wK_at q1]
    have hl : (r.map fun j => (js.getD (ss.getD j 0) []).getD 0 0).length = q.2.toNat := by rw [List.length_map, q2]
    rw [List.take_append_of_le_length (by omega), List.take_of_length_le (by omega), List.drop_append_of_le_length (by omega), List.drop_of_length_le (by omega)]
    rfl
theorem COk.suf {rows : List Row} {D : RdD} {c : List Nat} (h : COk rows c) (R : ROk 4 rows) (hD : D.Ok rows) {i k : Nat} (hk : c[i]? = some k) : wK rows k ≤ (fR rows D (c.drop (i + 1)) []).length ∧ (fR rows D (c.drop (i + 1)) []).length ≤ 6000 ∧ (∀ s ∈ fR rows D (c.drop (i + 1)) [], s < D.many) := by
  obtain ⟨m, h1, h2, h3, h4⟩ := h.pc.at_ hk
  obtain ⟨g1, g2⟩ := fR_ok R hD _ _ h4 fun x hx => h.rk x (List.mem_of_mem_drop hx)
  refine ⟨by rw [g1]; omega, ?_, g2⟩
  have : ∀ d : List Nat, (fR rows D d []).length ≤ d.length := fun d => by
    induction d with
    | nil => exact Nat.le_refl _
    | cons k d ih =>
      rw [fR_cons, List.length_cons, List.length_drop, List.length_cons]
      omega
  have := this (c.drop (i + 1))
  have l2 := h.l2
  rw [List.length_drop] at this
  omega
def spRowSt (P : Program) (w : World) : Sp := fun vs H Q _ => ∃ (d tS t : Addr) (rows : List Row) (D : RdD) (c : List Nat), vs = [.ref d, .ref tS, .ref t] ∧ H d = some (.dK (wL rows)) ∧ ROk 4 rows ∧ D.Ok rows ∧ NdAt P w H tS (D.ent.map rkv) ∧ H t = some (.tup (sV (rkN rows c))) ∧ COk rows c ∧ c ≠ [] ∧
  ∀ H' t' ys, Same H H' → H' t' = some (.tup ys) → ys[0]? = some (.int (((fR rows D c []).headD 0 : Nat) : Int)) → Q (.ref t') H'
abbrev N_law_row_states : List Str := ["sizes", "steps", "row", "stack", "found", "name", "below", "spot", "state"]
theorem sc_law_row_states : FnScope N_law_row_states ["sizes", "steps", "row"] (defScope s_law_row_states) := ⟨rfl, rfl, rfl, by decide +kernel, rfl, by decide +kernel, by decide +kernel⟩
section
variable {P : Program} {w : World} {K : PySem.W.Frag} {mg : Str → Option Value} {base : Heap}
theorem ok_rowst6 (T : Bl mg) (D : Def0 K mg "_law_row_states" s_law_row_states) : DefOk P w K mg base CX0 1 "_law_row_states" (spRowSt P w) := by
  refine D.ok sc_law_row_states (fun vs H Q E h => by obtain ⟨d, tS, t, rows, D, c, rfl, _⟩ := h; rfl) (fun _ _ _ _ _ _ us hl => match us, hl with | [_, _, _], _ => rfl) (fun f cdv A outer s0 H vs Q E hr h => ?_)
  obtain ⟨d, tS, t, rows, D, c, rfl, hd, R, hD, hN, ht, hc, hne, key⟩ := h
  have hu := hu_of hr
  have hu2 := hr.units
  have hu2 : (A.deeper (envOfC "_law_row_states" (defScope s_law_row_states) s0.heap.objs.size f cdv)).units + 2 < cLine := by omega
  refine ⟨_, (pss_cons (ps_set (i := 3) sc_law_row_states.nd rfl (Or.inl rfl) (pe_lst pa_nil))
    (pss_cons (ps_set (i := 4) sc_law_row_states.nd rfl (Or.inl rfl) (pe_lst pa_nil))
    (pss_cons (ps_for PassesOwn.never rfl (pi_tup (pe_revT (pv 2))) (pg_name (i := 5) sc_law_row_states.nd rfl (Or.inl rfl))
      (pss_cons (ps_set (i := 6) sc_law_row_states.nd rfl (Or.inl rfl) (pe_lst pa_nil))
      (pss_cons (ps_for PassesOwn.never rfl (pi_range1 (by rfl) T.b_range (pa_cons (pe_dget hu (pv 0) (pv 5) (fun _ _ => rfl)) pa_nil)) (pg_name (i := 7) sc_law_row_states.nd rfl (Or.inl rfl))
        (pss_one (ps_expr (pe_bm PySem.F.plainAttrs_list PySem.F.slot_list_append PySem.F.type_list_append mt_append (pv 6) (pa_cons (pe_bm0 PySem.F.plainAttrs_list PySem.F.slot_list_pop PySem.F.type_list_pop mt_pop (pv 3)) pa_nil)))))
      (pss_cons (ps_set (i := 8) sc_law_row_states.nd rfl (Or.inl rfl) (pe_nget hu2 (pv 1) (pe_tup (pa_cons (pv 5) (pa_cons (pe_callTy call_tuple_of (by rfl) T.b_tuple (by decide +kernel) (pa_cons (pv 6) pa_nil)) pa_nil))) (fun _ _ => rfl)))
      (pss_cons (ps_expr (pe_bm PySem.F.plainAttrs_list PySem.F.slot_list_append PySem.F.type_list_append mt_append (pv 3) (pa_cons (pv 8) pa_nil)))
      (pss_one (ps_expr (pe_bm PySem.F.plainAttrs_list PySem.F.slot_list_append PySem.F.type_list_append mt_append (pv 4) (pa_cons (pv 8) pa_nil)))))))))
    (pss_one (ps_ret (pe_callTy call_tuple_of (by rfl) T.b_tuple (by decide +kernel) (pa_cons (pe_revL (pv 4)) pa_nil))))))), ?_⟩
  have c2 := hc.l2
  refine ⟨le_line (show 0 ≤ 10000000 by decide), fun L1 hL1 => ?_⟩
  have s1 := (Same.refl H).upd_new (o := .lst []) hL1
  have e1 : (upd H L1 (.lst [])) L1 = some (.lst (nI ((fR rows D (c.drop (c.length - 0)) []).reverse))) := by
    rw [upd_same, Nat.sub_zero, List.drop_length]
    rfl
  generalize upd H L1 (.lst []) = H1 at s1 e1
  refine ⟨le_line (show 0 ≤ 10000000 by decide), fun L2 hL2 => ?_⟩
  have s2 := s1.upd_new (o := .lst []) hL2
  have n12 : L1 ≠ L2 := ne_of_none e1 hL2
  have e2 : (upd H1 L2 (.lst [])) L1 = some (.lst (nI ((fR rows D (c.drop (c.length - 0)) []).reverse))) := by rw [upd_ne n12]; exact e1
  have f2 : (upd H1 L2 (.lst [])) L2 = some (.lst (nI ((List.range 0).map fun j => (fR rows D (c.drop (c.length - 1 - j)) []).headD 0))) := upd_same
  have hL20 := s1.free hL2
  generalize upd H1 L2 (.lst []) = H2 at s2 e2 f2
  refine ⟨_, rfl, t, _, rfl, SqT.of (s2 _ _ ht), fun t3 ht3 => ?_⟩
  have s3 := s2.upd_new (o := .tup (sV (rkN rows c)).reverse) ht3
  have g3 : (upd H2 t3 (.tup (sV (rkN rows c)).reverse)) t3 = some (.tup (sV (rkN rows c)).reverse) := upd_same
  have e3 : (upd H2 t3 (.tup (sV (rkN rows c)).reverse)) L1 = some (.lst (nI ((fR rows D (c.drop (c.length - 0)) []).reverse))) := by rw [upd_ne (ne_of_none e2 ht3)]; exact e2
  have f3 : (upd H2 t3 (.tup (sV (rkN rows c)).reverse)) L2 = some (.lst (nI ((List.range 0).map fun j => (fR rows D (c.drop (c.length - 1 - j)) []).headD 0))) := by rw [upd_ne (ne_of_none f2 ht3)]; exact f2
  generalize upd H2 t3 (.tup (sV (rkN rows c)).reverse) = H3 at s3 g3 e3 f3
  have lrev : (sV (rkN rows c)).reverse.length = c.length := by rw [List.length_reverse, rkN_len]
  refine ⟨t3, rfl, ⟨_, SqT.of g3⟩, for_tup (xs := (sV (rkN rows c)).reverse) (fun i σ H' => ∃ (x5 x6 x7 x8 : Option V), σ = [some (.ref d), some (.ref tS), some (.ref t), some (.ref L1), some (.ref L2), x5, x6, x7, x8] ∧ Same H H' ∧ H' t3 = some (.tup (sV (rkN rows c)).reverse) ∧ H' L1 = some (.lst (nI ((fR rows D (c.drop (c.length - i)) []).reverse))) ∧ H' L2 = some (.lst (nI ((List.range i).map fun j => (fR rows D (c.drop (c.length - 1 - j)) []).headD 0))))
    ⟨none, none, none, none, rfl, s3, g3, e3, f3⟩ (fun i σ H' _ ⟨_, _, _, _, _, _, q, _⟩ => SqT.of q) ?_ ?_⟩
  · rintro i v σ H4 hv ⟨x5, x6, x7, x8, rfl, s4, g4, e4, f4⟩
    have hil : i < c.length := by rw [← lrev]; exact (List.getElem?_eq_some_iff.mp hv).1
    have hci := List.getElem?_eq_getElem (show c.length - 1 - i < c.length by omega)
    obtain ⟨q, hq, hqm, hzn, hw⟩ := hc.at_ hci
    rw [List.getElem?_reverse (by rw [rkN_len]; exact hil), rkN_len, rkN_at hci hq] at hv
    cases hv
    obtain ⟨u1, u2, u3⟩ := hc.suf R hD hci
    have ed : c.drop (c.length - (i + 1)) = c[c.length - 1 - i] :: c.drop (c.length - 1 - i + 1) := by
      rw [show c.length - (i + 1) = c.length - 1 - i by omega]
      exact List.drop_eq_getElem_cons (by omega)
    have ed2 : c.drop (c.length - i) = c.drop (c.length - 1 - i + 1) := by rw [show c.length - i = c.length - 1 - i + 1 by omega]
    rw [ed2] at e4
    have ef : fR rows D (c.drop (c.length - (i + 1))) [] = D.stp q.1 ((fR rows D (c.drop (c.length - 1 - i + 1)) []).take (wK rows c[c.length - 1 - i])) :: (fR rows D (c.drop (c.length - 1 - i + 1)) []).drop (wK rows c[c.length - 1 - i]) := by
      rw [ed, fR_cons, nmK_at hq]
    have eh : (fR rows D (c.drop (c.length - 1 - i)) []).headD 0 = D.stp q.1 ((fR rows D (c.drop (c.length - 1 - i + 1)) []).take (wK rows c[c.length - 1 - i])) := by
      rw [List.drop_eq_getElem_cons (show c.length - 1 - i < c.length by omega), fR_cons, nmK_at hq]
      rfl
    generalize fR rows D (c.drop (c.length - 1 - i + 1)) [] = st at e4 u1 u2 u3 ef eh
    generalize wK rows c[c.length - 1 - i] = wd at u1 hw ef eh
    refine ⟨le_line (show 0 ≤ 10000000 by decide), fun B hB => ?_⟩
    have nB1 : L1 ≠ B := ne_of_none e4 hB
    have nB2 : L2 ≠ B := ne_of_none f4 hB
    have s5 := (Same.refl H4).upd_new (o := .lst []) hB
    have b5 : (upd H4 B (.lst [])) B = some (.lst (nI (st.take 0))) := upd_same
    generalize upd H4 B (.lst []) = H5 at s5 b5
    have e5 := s5 _ _ e4
    have gd := DGet.k (k := .inr q.1) (s5 _ _ (s4 _ _ hd))
    rw [val_wL R hzn, wR_of R hqm, ← hw] at gd
    have w3 : wd ≤ 3 := by rw [hw, ← wR_of R hqm]; exact wR_le R _
    refine ⟨_, rfl, _, rfl, d, _, rfl, gd, _, rfl, by omega, by omega, for_range (n := (((wd : Nat) : Int)).toNat) (fun j σ H' => ∃ (x7 : Option V), σ = [some (.ref d), some (.ref tS), some (.ref t), some (.ref L1), some (.ref L2), some (.str q.1), some (.ref B), x7, x8] ∧ (∀ p o, H5 p = some o → p ≠ L1 → p ≠ B → H' p = some o) ∧ H' L1 = some (.lst (nI (st.drop j).reverse)) ∧ H' B = some (.lst (nI (st.take j)))) ⟨x7, rfl, fun _ _ h _ _ => h, e5, b5⟩ ?_ ?_⟩
    · rintro j σ H6 hj ⟨y7, rfl, k6, e6, b6⟩
      rw [Int.toNat_natCast] at hj
      have hjl : j < st.length := by omega
      have hst := List.getElem?_eq_getElem hjl
      have er : (st.drop j).reverse = (st.drop (j + 1)).reverse ++ [st[j]] := by rw [List.drop_eq_getElem_cons hjl, List.reverse_cons]
      rw [er, ← nI_snoc] at e6
      generalize st[j] = sj at hst e6 er
      refine ⟨_, rfl, .inl ⟨rfl, _, SqL.of b6⟩, _, rfl, .inl ⟨rfl, _, SqL.of e6⟩, L1, _, _, rfl, rfl, e6, by rw [List.length_append, show ([V.int ((sj : Nat) : Int)] : List V).length = 1 from rfl, Nat.add_sub_cancel, List.getElem?_append_right (Nat.le_refl _), Nat.sub_self]; rfl, ?_⟩
      rw [List.dropLast_concat]
      have b7 : (upd H6 L1 (.lst (nI (st.drop (j + 1)).reverse))) B = some (.lst (nI (st.take j))) := by rw [upd_ne (Ne.symm nB1)]; exact b6
      refine ⟨B, _, _, rfl, rfl, b7, ?_, ?_⟩
      · rw [nI_len, List.length_take]
        exact lt_line (n := min j _) (by omega)
      · refine ⟨_, rfl, fun p o h n1 n2 => by rw [upd_ne n2, upd_ne n1]; exact k6 p o h n1 n2, by rw [upd_ne nB1, upd_same], ?_⟩
        rw [upd_same, take_snoc' hst, nI_snoc]
    rintro σ H6 ⟨y7, rfl, k6, e6, b6⟩
    rw [Int.toNat_natCast] at e6 b6
    -- what is kept
    have hL10 : H L1 = none := hL1
    have kH : ∀ p o, H p = some o → H6 p = some o := fun p o h => k6 p o (s5 _ _ (s4 _ _ h)) (fun e => by rw [e, hL10] at h; cases h) (fun e => by rw [← e, s4 _ _ h] at hB; cases hB)
    have n13 : t3 ≠ L1 := ne_of g4 e4 (fun e => nomatch e)
    have n1B : t3 ≠ B := ne_of_none g4 hB
    have g6 := k6 _ _ (s5 _ _ g4) n13 n1B
    have f6 := k6 _ _ (s5 _ _ f4) (Ne.symm n12) nB2
    refine ⟨_, rfl, _, rfl, _, rfl, B, _, rfl, .inl ⟨SqL.of b6, fun tb htb => ?_⟩⟩
    have s7 := (Same.refl H6).upd_new (o := .tup (nI (st.take wd))) htb
    have t7 : (upd H6 tb (.tup (nI (st.take wd)))) tb = some (.tup (nI (st.take wd))) := upd_same
    generalize upd H6 tb (.tup (nI (st.take wd))) = H7 at s7 t7
    refine ⟨le_line (show 2 ≤ 10000000 by decide), fun pk hpk => ?_⟩
    have s8 := (Same.refl H7).upd_new (o := .tup [.str q.1, .ref tb]) hpk
    have p8 : (upd H7 pk (.tup [.str q.1, .ref tb])) pk = some (.tup [.str q.1, .ref tb]) := upd_same
    generalize upd H7 pk (.tup [.str q.1, .ref tb]) = H8 at s8 p8
    have s68 := s7.trans s8
    have lt' : (st.take wd).length = wR rows q.1 := by rw [List.length_take, wR_of R hqm, ← hw]; omega
    have hv := hD.val R hzn lt' fun s hs => u3 s (List.mem_of_mem_take hs)
    have nk : NKAt H8 (nkR (q.1, st.take wd)) pk := ⟨tb, p8, by
      rw [s8 _ _ t7]
      show _ = some (HO.tup ((tkey (st.take wd)).map kV))
      rw [tkey_V]⟩
    refine ⟨tS, pk, _, _, _, rfl, rfl, hN.sm (fun p o h => s68 _ _ (kH p o h)), nk, hv, ?_⟩
    have e8 := s68 _ _ e6
    have f8 := s68 _ _ f6
    have kH8 : Same H H8 := fun p o h => s68 _ _ (kH p o h)
    have nst : (st.drop wd).length ≤ 6000 := by rw [List.length_drop]; omega
    generalize D.stp q.1 (st.take wd) = v at ef eh
    refine ⟨_, rfl, .inl ⟨rfl, _, SqL.of e8⟩, _, rfl, L1, _, _, rfl, rfl, e8, by rw [nI_len, List.length_reverse]; exact lt_line (by omega), ?_⟩
    have f9 : (upd H8 L1 (.lst (nI (st.drop wd).reverse ++ [.int ((v : Nat) : Int)]))) L2 = some (.lst (nI ((List.range i).map fun j => (fR rows D (c.drop (c.length - 1 - j)) []).headD 0))) := by rw [upd_ne (Ne.symm n12)]; exact f8
    refine ⟨_, rfl, .inl ⟨rfl, _, SqL.of f9⟩, _, rfl, L2, _, _, rfl, rfl, f9, by rw [nI_len, List.length_map, List.length_range]; exact lt_line (by omega), ?_⟩
    refine ⟨_, _, _, _, rfl, fun p o h => ?_, ?_, ?_, ?_⟩
    · rw [upd_ne (fun e => by rw [e, hL20] at h; cases h), upd_ne (fun e => by rw [e, hL10] at h; cases h)]
      exact kH8 p o h
    · rw [upd_ne (ne_of g4 f4 (fun e => nomatch e)), upd_ne n13]
      exact s68 _ _ g6
    · rw [upd_ne n12, upd_same, ef, List.reverse_cons, nI_snoc]
    · rw [upd_same, List.range_succ, List.map_append]
      show _ = some (HO.lst (nI (_ ++ [(fR rows D (c.drop (c.length - 1 - i)) []).headD 0])))
      rw [eh, nI_snoc]
  · rintro σ H4 ⟨x5, x6, x7, x8, rfl, s4, g4, e4, f4⟩
    rw [lrev] at f4
    refine ⟨_, rfl, L2, _, rfl, SqL.of f4, fun p hp => ?_⟩
    have s5 := s4.upd_new (o := .lst (nI ((List.range c.length).map fun j => (fR rows D (c.drop (c.length - 1 - j)) []).headD 0)).reverse) hp
    have p5 : (upd H4 p (.lst (nI ((List.range c.length).map fun j => (fR rows D (c.drop (c.length - 1 - j)) []).headD 0)).reverse)) p = some (.lst (nI ((List.range c.length).map fun j => (fR rows D (c.drop (c.length - 1 - j)) []).headD 0)).reverse) := upd_same
    generalize upd H4 p (.lst (nI ((List.range c.length).map fun j => (fR rows D (c.drop (c.length - 1 - j)) []).headD 0)).reverse) = H5 at s5 p5
    refine ⟨p, _, rfl, .inl ⟨SqL.of p5, fun t' ht' => ?_⟩⟩
    refine key _ t' _ (s5.upd_new ht') upd_same ?_
    have cpos : 0 < c.length := List.length_pos_iff.mpr hne
    rw [List.getElem?_reverse (by rw [nI_len, List.length_map, List.length_range]; exact cpos), nI_len, List.length_map, List.length_range]
    refine nI_at ?_
    rw [List.getElem?_map, List.getElem?_range (by omega)]
    show some ((fR rows D (c.drop (c.length - 1 - (c.length - 1 - 0))) []).headD 0) = _
    rw [show c.length - 1 - (c.length - 1 - 0) = 0 by omega, List.drop_zero]
end
end Sh
end
section
set_option Elab.async false
set_option linter.all false
set_option maxRecDepth 100000
set_option maxHeartbeats 16000000
namespace Sh
open PySem PySem.Spec PyProof.Rows L2 NdefX LamX
open C8 (pss_cut tCut)
open Evl (ixN_nat)
def blkB (D : RdD) (q : Row) : List REnt := (wq D.many q).map fun ss => (q.1, ss, D.stp q.1 ss)
theorem ent_blk {D : RdD} {rows : List Row} (R : ROk 4 rows) (h : D.Ok rows) : D.ent = rows.flatMap (blkB D) := by
  have e1 : D.ent = D.ent.map fun e => (e.1, e.2.1, D.stp e.1 e.2.1) := by
    conv => lhs; rw [← List.map_id D.ent]
    refine List.map_congr_left fun e he => ?_
    rw [h.stp_ent R he]
    rfl
  have e2 : (D.ent.map fun e => (e.1, e.2.1, D.stp e.1 e.2.1)) = (D.ent.map ek).map fun k => (k.1, k.2, D.stp k.1 k.2) := by
    rw [List.map_map]
    rfl
  rw [e1, e2, h.ks]
  unfold ksOf blkB
  rw [List.map_flatMap]
  congr 1
  funext q
  rw [List.map_map]
  rfl
theorem blk_len {D : RdD} {q : Row} (h : D.many ≤ 40) (hq : q.2.toNat ≤ 3) : (blkB D q).length ≤ 64000 := by
  unfold blkB wq
  rw [List.length_map, ways_pow]
  calc D.many ^ q.2.toNat ≤ 40 ^ q.2.toNat := Nat.pow_le_pow_left h _
    _ ≤ 40 ^ 3 := Nat.pow_le_pow_right (by decide) hq
theorem flat_snoc {α β : Type} {f : α → List β} {l : List α} {i : Nat} {x : α} (h : l[i]? = some x) : (l.take (i + 1)).flatMap f = (l.take i).flatMap f ++ f x := by
  rw [take_snoc' h, List.flatMap_append, List.flatMap_cons, List.flatMap_nil, List.append_nil]
theorem flat_64 {D : RdD} (h : D.many ≤ 40) : ∀ {l : List Row}, (∀ q ∈ l, q.2.toNat ≤ 3) → (l.flatMap (blkB D)).length ≤ l.length * 64000
  | [], _ => by simp
  | q :: l, hq => by
    rw [List.flatMap_cons, List.length_append, List.length_cons, Nat.succ_mul]
    have h1 := blk_len (D := D) h (hq q List.mem_cons_self)
    have h2 := flat_64 h fun q' h' => hq q' (List.mem_cons_of_mem _ h')
    omega
def spTable (C CR : Addr) : Sp := fun vs H Q _ => ∃ (u b : Addr) (rows : List Row) (D : RdD), vs = [.ref u] ∧ RdAt C CR H u b rows D ∧ ROk 4 rows ∧ D.Ok rows ∧ ∀ H' t us, Same H H' → H' t = some (.tup (us.map V.ref)) → RwAt H' us D.ent → Q (.ref t) H'
def TablOk (P : Program) (w : World) (K : PySem.W.Frag) (mg : Str → Option Value) (base : Heap) (C CR : Addr) : Prop := ∃ f, Meth K CR "table" f ∧ FnR P w K mg base CX0 3 f (spTable C CR)
theorem lk_table (b d m : Addr) (n o : Nat) : (rdF b n d m o).lookup ("table" : Str) = none := by
  have h1 : (("table" : Str) == "bed") = false := by decide +kernel
  have h2 : (("table" : Str) == "states") = false := by decide +kernel
  have h3 : (("table" : Str) == "cells") = false := by decide +kernel
  have h4 : (("table" : Str) == "marks") = false := by decide +kernel
  have h5 : (("table" : Str) == "otherwise") = false := by decide +kernel
  simp [rdF, List.lookup, h1, h2, h3, h4, h5]
abbrev N_Reader_table : List Str := ["self", "states", "found", "kind", "many", "by_below", "below"]
theorem sc_Reader_table : FnScope N_Reader_table ["self"] (defScope s_Reader_table) := ⟨rfl, rfl, rfl, by decide +kernel, rfl, by decide +kernel, by decide +kernel⟩
section
variable {P : Program} {w : World} {K : PySem.W.Frag} {mg : Str → Option Value} {base : Heap} {C CR : Addr}
theorem body_table (T : Bl mg) (BB : BedT K C) (BR : RdT K CR) (c_all_rows : DefOk P w K mg base CX0 2 "all_rows" spAllRows6) {f0 : Addr} {cdv : Value} {A' : Around} {outer : List Env} {s' : Shared} {H : Hp} {vs : List V} {Q : VK} {E : XK} (hr : Room 2 (A'.deeper (envOfC "Reader.table" (defScope s_Reader_table) s'.heap.objs.size f0 cdv))) (h : spTable C CR vs H Q E) :
    ∃ t, PSs (cxOf CX0 P w K mg base N_Reader_table "Reader.table" (defScope s_Reader_table) f0 cdv A' outer s' H E).nox (defBody s_Reader_table) t ∧ t { nx := fun _ H' => Q .non H', rt := Q } (start N_Reader_table vs) H := by
  obtain ⟨u, b, rows, D, rfl, hRd, R, hD, key⟩ := h
  have hu := hu_of hr
  have r4 := R.len
  have m40 := hD.m3
  refine ⟨_, (pss_cons (ps_set (i := 1) sc_Reader_table.nd rfl (Or.inl rfl) (pe_listRg rfl (by rfl) T.b_list (prg_1 (by rfl) T.b_range (pe_fld (pv 0) rfl))))
    (pss_cons (ps_set (i := 2) sc_Reader_table.nd rfl (Or.inl rfl) (pe_lst pa_nil))
    (pss_cons (ps_for PassesOwn.never rfl (pi_tup (pe_fld (pe_fld (pv 0) rfl) rfl)) (pg_tup (by rfl) (pgs_cons (pg_name (i := 3) sc_Reader_table.nd rfl (Or.inr rfl)) (pgs_cons (pg_name (i := 4) sc_Reader_table.nd rfl (Or.inl rfl)) pgs_nil)))
      (pss_cons (ps_set (i := 5) sc_Reader_table.nd rfl (Or.inr rfl) (pe_dget hu (pe_fld (pv 0) rfl) (pv 3) (fun _ _ => rfl)))
      (pss_one (ps_expr (pe_bm PySem.F.plainAttrs_list PySem.F.slot_list_extend PySem.F.type_list_extend mt_extend (pv 2) (pa_cons (pe_lc (own := [("below", 6)]) (g := (gName 6)) (tt := tYes) rfl sc_Reader_table.nd (pi_list (pe_d c_all_rows (hr.mono (by decide)) pass0 (pa_cons (pv 1) (pa_cons (pv 4) pa_nil)))) (blkOk_by (N := N_Reader_table) (sc := defScope s_Reader_table) (by decide +kernel)) (fun _ _ _ _ _ => (pg_name (i := 6) sc_Reader_table.nd rfl (Or.inl rfl))) (fun _ _ _ _ _ => pts_nil) (fun _ _ _ _ _ => (pe_tup (pa_cons (pv 3) (pa_cons (pv 6) (pa_cons (pe_dget2 hu (pv 5) (pv 6) (show PE _ _ (tFld K _ _) from pe_fld (pv 0) rfl) ⟨rfl, rfl, rfl, rfl⟩) pa_nil)))))) pa_nil))))))
    (pss_one (ps_ret (pe_callTy call_tuple_of (by rfl) T.b_tuple (by decide +kernel) (pa_cons (pv 2) pa_nil))))))), ?_⟩
  obtain ⟨rx, rd, rm, rds, hr1, ⟨bx, r0, kk, ww, rk, ts, b1, b2, b3, b4, b5, b6⟩, hr3, hr4⟩ := hRd
  obtain ⟨f1, f2, f3, f4, f5⟩ := rd_lk b rd rm D.many D.rest
  refine ⟨_, rfl, u, CR, rx, _, _, rfl, hr1, BR.cl, BR.nS, f5, _, rfl, .of_le (by decide) (by omega) (by decide) (by omega), fun L1 hL1 => ?_⟩
  rw [rgV_nI]
  have s1 := (Same.refl H).upd_new (o := .lst (nI (List.range D.many))) hL1
  have e1 : (upd H L1 (.lst (nI (List.range D.many)))) L1 = some (.lst (nI (List.range D.many))) := upd_same
  generalize upd H L1 (.lst (nI (List.range D.many))) = H1 at s1 e1
  refine ⟨le_line (show 0 ≤ 10000000 by decide), fun F hF => ?_⟩
  have s2 := s1.upd_new (o := .lst []) hF
  have hF0 := s1.free hF
  have n1F : L1 ≠ F := ne_of_none e1 hF
  have e2 : (upd H1 F (.lst [])) L1 = some (.lst (nI (List.range D.many))) := by rw [upd_ne n1F]; exact e1
  have F2 : (upd H1 F (.lst [])) F = some (.lst (([] : List Addr).map V.ref)) := upd_same
  generalize upd H1 F (.lst []) = H2 at s2 e2 F2
  have lts : (ts.map V.ref).length = rows.length := by rw [List.length_map, b3.1]
  refine ⟨_, rfl, u, CR, rx, _, _, rfl, s2 _ _ hr1, BR.cl, BR.nB, f4, b, C, bx, _, _, rfl, s2 _ _ b1, BB.cl, BB.nR, lk_rows _ _ _ _, r0, rfl, ⟨_, SqT.of (s2 _ _ b2)⟩, for_tup (xs := ts.map V.ref) (fun i σ H' => ∃ (x3 x4 x5 x6 : Option V) (ws : List Addr), σ = [some (.ref u), some (.ref L1), some (.ref F), x3, x4, x5, x6] ∧ Same H H' ∧ H' L1 = some (.lst (nI (List.range D.many))) ∧ H' F = some (.lst (ws.map V.ref)) ∧ RwAt H' ws ((rows.take i).flatMap (blkB D)))
    ⟨none, none, none, none, [], rfl, s2, e2, F2, .nil⟩ (fun i σ H' _ ⟨_, _, _, _, _, _, q, _⟩ => SqT.of (q _ _ b2)) ?_ ?_⟩
  · rintro i v σ H3 hv ⟨x3, x4, x5, x6, ws, rfl, s3, e3, F3, W3⟩
    obtain ⟨t, ht, rfl⟩ := get_map_r hv
    have hil : i < rows.length := by rw [← b3.1]; exact (List.getElem?_eq_some_iff.mp ht).1
    have hq := List.getElem?_eq_getElem hil
    have hqm := List.getElem_mem hil
    have htt := s3 _ _ (b3.2 i t _ ht hq)
    have ef := flat_snoc (f := blkB D) hq
    have hkn : (rows.map (·.1))[i]? = some rows[i].1 := by rw [List.getElem?_map, hq]; rfl
    generalize rows[i] = q at hq hqm htt ef hkn
    have hwd := R.wd q hqm
    have eq2 : q.2 = ((q.2.toNat : Nat) : Int) := by omega
    have hw3 : q.2.toNat ≤ 3 := by rw [← wR_of R hqm]; exact wR_le R _
    have hda := List.getElem?_eq_getElem (show i < rds.length by rw [hr3.len, List.length_map]; exact hil)
    generalize rds[i]'(by rw [hr3.len, List.length_map]; exact hil) = a at hda
    have ha := hr3.row i q.1 a hkn hda
    have gC : DGet H3 rd (.str q.1) (some (.ref a)) := by
      have := DGet.k (k := .inr q.1) (s3 _ _ hr3.at_)
      rw [tn_val R.nd hkn hda] at this
      exact this
    refine ⟨t, _, rfl, SqT.of htt, rfl, _, _, rfl, _, _, rfl, rfl, ?_⟩
    refine ⟨_, rfl, u, CR, rx, _, _, rfl, s3 _ _ hr1, BR.cl, BR.nC, f1, _, rfl, rd, _, rfl, gC, ?_⟩
    refine ⟨_, rfl, .inl ⟨rfl, _, SqL.of F3⟩, _, rfl, _, rfl, L1, List.range D.many, q.2.toNat, by show [V.ref L1, V.int q.2] = _; rw [← eq2], e3, hw3, by rw [List.length_range]; omega, fun H4 Lw s4 nLw WW => ?_⟩
    obtain ⟨vs', hLw, PW⟩ := WW
    have PW : PlAt nI H4 vs' (wq D.many q) := PW
    have s04 := s3.trans s4
    refine ⟨Lw, rfl, ⟨_, SqL.of hLw⟩, fun E hE => lc_it (walk_list (xs := vs'.map V.ref)) (fun k H' => Same H4 H' ∧ ∃ ds : List Addr, H' E = some (.lst (ds.map V.ref)) ∧ RwAt H' ds ((blkB D q).take k)) ⟨(Same.refl H4).upd_new hE, [], upd_same, .nil⟩ (fun k H' _ ⟨q, _⟩ => SqL.of (q _ _ hLw)) ?_ ?_⟩
    · rintro k v H5 H6 hk ⟨s5, es, E5, W5⟩ ⟨rfl, hv⟩
      obtain ⟨y, hy, rfl⟩ := get_map_r hv
      have hkl : k < (wq D.many q).length := by rw [← PW.1]; exact (List.getElem?_eq_some_iff.mp hy).1
      have hss := List.getElem?_eq_getElem hkl
      have hbk : (blkB D q)[k]? = some (q.1, (wq D.many q)[k], D.stp q.1 (wq D.many q)[k]) := by
        unfold blkB
        rw [List.getElem?_map, hss]
        rfl
      generalize (wq D.many q)[k] = ss at hss hbk
      have hyt := s5 _ _ (PW.2 k y ss hy hss)
      have ha5 := s5 _ _ (s04 _ _ ha)
      have gS : ∃ o, DGet H6 a (.ref y) o ∧ o.getD (.int ((D.rest : Nat) : Int)) = .int ((D.stp q.1 ss : Nat) : Int) := by
        refine ⟨_, DGet.t (k := tkey ss) ha5 (by rw [hyt, tkey_V]), ?_⟩
        rw [cz_val]
        unfold RdD.stp
        cases D.rws.find? (fun e => decide (ek e = (q.1, ss))) with
        | none => rfl
        | some e => rfl
      obtain ⟨o, gS, eo⟩ := gS
      refine ⟨rfl, _, rfl, _, rfl, _, rfl, a, rfl, .inr ⟨_, .of ha5⟩, _, rfl, _, rfl, u, CR, rx, _, _, rfl, s5 _ _ (s04 _ _ hr1), BR.cl, BR.nO, f2, o, gS, le_line (show 3 ≤ 10000000 by decide), fun p hp => ?_⟩
      rw [eo]
      have s7 := (Same.refl H6).upd_new (o := .tup [.str q.1, .ref y, .int ((D.stp q.1 ss : Nat) : Int)]) hp
      have p7 : (upd H6 p (.tup [.str q.1, .ref y, .int ((D.stp q.1 ss : Nat) : Int)])) p = some (.tup [.str q.1, .ref y, .int ((D.stp q.1 ss : Nat) : Int)]) := upd_same
      generalize upd H6 p (.tup [.str q.1, .ref y, .int ((D.stp q.1 ss : Nat) : Int)]) = H7 at s7 p7
      have E7 := s7 _ _ E5
      refine ⟨_, E7, ?_, (s5.trans s7).upd_own hE, es ++ [p], by rw [upd_same, List.map_append]; rfl, ?_⟩
      · rw [List.length_map, W5.1, List.length_take]
        have := blk_len (D := D) (q := q) m40 hw3
        exact lt_line (n := min k _) (by omega)
      · rw [take_snoc' hbk]
        exact ((W5.keep fun t ys h => s7 _ _ h).snoc (e := (q.1, ss, D.stp q.1 ss)) p7 (s7 _ _ hyt)).keep fun t ys h => by rw [upd_ne (ne_of h E7 (fun e => nomatch e))]; exact h
    rintro H5 ⟨s5, es, E5, W5⟩
    rw [List.length_map, PW.1, show (wq D.many q).length = (blkB D q).length by unfold blkB; rw [List.length_map], List.take_length] at W5
    have F5 := s5 _ _ (s4 _ _ F3)
    have s05 := s04.trans s5
    refine ⟨F, E, _, _, rfl, rfl, F5, E5, ?_, ?_⟩
    · rw [List.length_map, List.length_map, W3.1, W5.1]
      have h1 := blk_len (D := D) (q := q) m40 hw3
      have h2 := flat_64 (D := D) m40 (l := rows.take i) fun q' hq' => by
        have := List.mem_of_mem_take hq'
        rw [← wR_of R this]
        exact wR_le R _
      have h3 : (rows.take i).length ≤ 4 := by rw [List.length_take]; omega
      have : (rows.take i).length * 64000 ≤ 4 * 64000 := Nat.mul_le_mul_right _ h3
      exact le_line (by omega)
    · have kt : ∀ t ys, H5 t = some (.tup ys) → (upd H5 F (.lst (ws.map V.ref ++ es.map V.ref))) t = some (.tup ys) := fun t ys h => by rw [upd_ne (ne_of h F5 (fun e => nomatch e))]; exact h
      refine ⟨_, _, _, _, ws ++ es, rfl, s05.upd_own hF0, by rw [upd_ne n1F]; exact s5 _ _ (s4 _ _ e3), by rw [upd_same, List.map_append], ?_⟩
      rw [ef]
      exact ((W3.keep fun t ys h => s5 _ _ (s4 _ _ h)).app W5).keep kt
  · rintro σ H3 ⟨x3, x4, x5, x6, ws, rfl, s3, e3, F3, W3⟩
    rw [lts, List.take_length, ← ent_blk R hD] at W3
    refine ⟨_, rfl, F, _, rfl, .inl ⟨SqL.of F3, fun t ht => ?_⟩⟩
    have s4 := (Same.refl H3).upd_new (o := .tup (ws.map V.ref)) ht
    exact key _ t ws (s3.trans s4) upd_same (W3.keep fun t ys h => s4 _ _ h)
theorem ok_table (T : Bl mg) (BB : BedT K C) (BR : RdT K CR) (c_all_rows : DefOk P w K mg base CX0 2 "all_rows" spAllRows6) {f : Addr} {fd : FuncData} (F : FunD K "table" "Reader.table" (defArgs s_Reader_table) (defBody s_Reader_table) (defScope s_Reader_table) [] [] f fd) (M : Meth K CR "table" f) : TablOk P w K mg base C CR := by
  have G : FnOk P w K mg base CX0 3 f fd ["self"] (spTable C CR) := F.ok sc_Reader_table (fun vs H Q E h => by obtain ⟨u, b, rows, D, rfl, _⟩ := h; rfl) fun cdv A outer s H vs Q E hr h => by
    obtain ⟨t, a, b⟩ := body_table T BB BR c_all_rows hr h
    exact ⟨t, a.nox, b⟩
  refine ⟨f, M, fun A' outer s H us vs Q E hr e0 r hs => G.raw (F.bindsN fun _ _ _ _ _ _ us hl => match us, hl with | [_], _ => rfl) .nil A' outer s H us vs Q E hr e0 r (by show spTable C CR (vs ++ []) H Q E; rw [List.append_nil]; exact hs)⟩
end
end Sh
end
section
set_option Elab.async false
set_option linter.all false
set_option maxRecDepth 100000
set_option maxHeartbeats 16000000
namespace Sh
open PySem PySem.Spec PyProof.Rows L2 NdefX LamX
open C8 (pss_cut tCut)
open Evl (ixN_nat)
theorem sam_nums {H : Hp} {a b : Addr} {l : List Nat} {n : Nat} (h1 : H a = some (.tup (nI l))) (h2 : H b = some (.tup (nI l))) (hl : l.length ≤ 10000000) : Sam6 (n + 2) H (.ref a) (.ref b) := by
  refine .inr (.inr ⟨a, b, _, _, rfl, rfl, h1, h2, rfl, by rw [nI_len]; exact hl, fun i x y hx hy => ?_⟩)
  rw [hx] at hy
  cases hy
  have hil : i < l.length := by have := (List.getElem?_eq_some_iff.mp hx).1; rw [nI_len] at this; exact this
  rw [nI_at (List.getElem?_eq_getElem hil)] at hx
  cases hx
  exact .inl ⟨_, rfl, rfl⟩
theorem sam_rows {H : Hp} {r r' : Addr} {ts ts' : List Addr} {rows : List Row} {n : Nat} (h1 : H r = some (.tup (ts.map V.ref))) (h2 : H r' = some (.tup (ts'.map V.ref))) (t1 : TupsAt H ts rows) (t2 : TupsAt H ts' rows) (l : rows.length ≤ 1000) : Sam6 (n + 3) H (.ref r) (.ref r') := by
  refine .inr (.inr ⟨r, r', _, _, rfl, rfl, h1, h2, by rw [List.length_map, List.length_map, t1.1, t2.1], by rw [List.length_map, t1.1]; omega, fun i x y hx hy => ?_⟩)
  obtain ⟨u, hu, rfl⟩ := get_map_r hx
  obtain ⟨u', hu', rfl⟩ := get_map_r hy
  have hil : i < rows.length := by rw [← t1.1]; exact (List.getElem?_eq_some_iff.mp hu).1
  have hq := List.getElem?_eq_getElem hil
  refine .inr (.inr ⟨u, u', _, _, rfl, rfl, t1.2 i u _ hu hq, t2.2 i u' _ hu' hq, rfl, by show 2 ≤ 10000000; decide, fun j x y hx hy => ?_⟩)
  rw [hx] at hy
  cases hy
  match j, hx with
  | 0, hx => cases hx; exact .inr (.inl ⟨_, rfl, rfl⟩)
  | 1, hx => cases hx; exact .inl ⟨_, rfl, rfl⟩
theorem sam_ents {H : Hp} {r r' : Addr} {us us' : List Addr} {es : List REnt} {n : Nat} (h1 : H r = some (.tup (us.map V.ref))) (h2 : H r' = some (.tup (us'.map V.ref))) (t1 : RwAt H us es) (t2 : RwAt H us' es) (l : es.length ≤ 10000000) (l3 : ∀ e ∈ es, e.2.1.length ≤ 10) : Sam6 (n + 4) H (.ref r) (.ref r') := by
  refine .inr (.inr ⟨r, r', _, _, rfl, rfl, h1, h2, by rw [List.length_map, List.length_map, t1.1, t2.1], by rw [List.length_map, t1.1]; omega, fun i x y hx hy => ?_⟩)
  obtain ⟨u, hu, rfl⟩ := get_map_r hx
  obtain ⟨u', hu', rfl⟩ := get_map_r hy
  have hil : i < es.length := by rw [← t1.1]; exact (List.getElem?_eq_some_iff.mp hu).1
  have hq := List.getElem?_eq_getElem hil
  have hm := l3 _ (List.getElem_mem hil)
  obtain ⟨b1, p1, p2⟩ := t1.2 i u _ hu hq
  obtain ⟨b2, r1, r2⟩ := t2.2 i u' _ hu' hq
  refine .inr (.inr ⟨u, u', _, _, rfl, rfl, p1, r1, rfl, by show 3 ≤ 10000000; decide, fun j x y hx hy => ?_⟩)
  match j, hx, hy with
  | 0, hx, hy => cases hx; cases hy; exact .inr (.inl ⟨_, rfl, rfl⟩)
  | 1, hx, hy => cases hx; cases hy; exact sam_nums p2 r2 (by omega)
  | 2, hx, hy => cases hx; cases hy; exact .inl ⟨_, rfl, rfl⟩
def spKept (P : Program) (w : World) (C CR : Addr) : Sp := fun vs H Q _ => ∃ (kd a u b : Addr) (ts : List Addr) (rows : List Row) (D : RdD) (ex : List V), vs = [.ref kd, .ref a, .ref u] ∧ H kd = some (.tup (ts.map V.ref)) ∧ TupsAt H ts rows ∧ ROk 4 rows ∧ D.Ok rows ∧ LrA P w H a D ex ∧ RdAt C CR H u b rows D ∧ (∀ q ∈ rows, ∀ i, i < q.2.toNat → D.many ^ i ≤ 4000) ∧ ∀ H', Same H H' → Q (.bl true) H'
abbrev N_law_kept : List Str := ["kinds", "drawn", "reader", "due", "name", "size", "below"]
theorem sc_law_kept : FnScope N_law_kept ["kinds", "drawn", "reader"] (defScope s_law_kept) := ⟨rfl, rfl, rfl, by decide +kernel, rfl, by decide +kernel, by decide +kernel⟩
section
variable {P : Program} {w : World} {K : PySem.W.Frag} {mg : Str → Option Value} {base : Heap} {C CR : Addr}
theorem ok_kept6 (T : Bl mg) (BB : BedT K C) (BR : RdT K CR) (c_law_tuples : DefOk P w K mg base CX0 1 "_law_tuples" spTuples6) (c_law_same : DefOk P w K mg base CX0 4 "_law_same" (spSam6 4)) (c_table : TablOk P w K mg base C CR) (D : Def0 K mg "_law_kept" s_law_kept) : DefOk P w K mg base CX0 5 "_law_kept" (spKept P w C CR) := by
  refine D.ok sc_law_kept (fun vs H Q E h => by obtain ⟨kd, a, u, b, ts, rows, D, ex, rfl, _⟩ := h; rfl) (fun _ _ _ _ _ _ us hl => match us, hl with | [_, _, _], _ => rfl) (fun f cdv A outer s0 H vs Q E hr h => ?_)
  obtain ⟨kd, a, u, b, ts, rows, D, ex, rfl, hk, hT, R, hD, hA, hRd, hpow, key⟩ := h
  have hu := hu_of hr
  have hu2 := hr.units
  have hu2 : (A.deeper (envOfC "_law_kept" (defScope s_law_kept) s0.heap.objs.size f cdv)).units + 2 < cLine := by omega
  obtain ⟨fT, M_table, F_table⟩ := c_table
  have r4 := R.len
  have m40 := hD.m3
  refine ⟨_, (pss_cons (ps_set (i := 3) sc_law_kept.nd rfl (Or.inl rfl) (pe_lst pa_nil))
      (pss_cons (ps_for PassesOwn.never rfl (pi_tup (pv 0)) (pg_tup (by rfl) (pgs_cons (pg_name (i := 4) sc_law_kept.nd rfl (Or.inr rfl)) (pgs_cons (pg_name (i := 5) sc_law_kept.nd rfl (Or.inl rfl)) pgs_nil)))
        (pss_one (ps_expr (pe_bm PySem.F.plainAttrs_list PySem.F.slot_list_extend PySem.F.type_list_extend mt_extend (pv 3) (pa_cons (pe_lc (own := [("below", 6)]) (g := (gName 6)) (tt := tYes) rfl sc_law_kept.nd (pi_list (pe_d c_law_tuples (hr.mono (by decide)) pass0 (pa_cons (pe_ix ix_list (pv 1) pe_int (fun _ _ => rfl)) (pa_cons (pv 5) pa_nil)))) (blkOk_by (N := N_law_kept) (sc := defScope s_law_kept) (by decide +kernel)) (fun _ _ _ _ _ => (pg_name (i := 6) sc_law_kept.nd rfl (Or.inl rfl))) (fun _ _ _ _ _ => pts_nil) (fun _ _ _ _ _ => (pe_tup (pa_cons (pv 4) (pa_cons (pv 6) (pa_cons (show PE _ _ (tNGet P w _ _) from pe_nget hu2 (pe_ix (show IxR _ (rIxL K) from ix_list) (pv 1) pe_int (fun _ _ => rfl)) (pe_tup (pa_cons (pv 4) (pa_cons (pv 6) pa_nil))) (fun _ _ => rfl)) pa_nil)))))) pa_nil)))))
      (pss_cons (ps_if (PW.pt (pw_or (pt_not (pt_val (pe_d c_law_same (hr.mono (by decide)) pass0 (pa_cons (pe_fld (pe_fld (pv 2) rfl) rfl) (pa_cons (pv 0) pa_nil))))) (pw_or1 (pt_not (pt_val (pe_d c_law_same (hr.mono (by decide)) pass0 (pa_cons (pe_fld (pv 2) rfl) (pa_cons (pe_ix ix_list (pv 1) pe_int (fun _ _ => rfl)) pa_nil))))))))
        (pss_one (ps_ret pe_bl))
        pss_nil)
      (pss_one (ps_ret (pe_and (pe_d c_law_same (hr.mono (by decide)) pass0 (pa_cons (pe_fld (pv 2) rfl) (pa_cons (pe_ix ix_list (pv 1) pe_int (fun _ _ => rfl)) pa_nil))) (pe_one (pe_d c_law_same (hr.mono (by decide)) pass0 (pa_cons (pe_methR0 (pv 2) BR.cl M_table F_table (hr.mono (by decide)) pass0) (pa_cons (pe_callTy call_tuple_of (by rfl) T.b_tuple (by decide +kernel) (pa_cons (pv 3) pa_nil)) pa_nil)))))))))), ?_⟩
  obtain ⟨tR, tM, tS, vR, a1, a2, a3, a4, a5⟩ := id hA
  have aat : ∀ (j : Nat) (v : V), ([.int ((D.many : Nat) : Int), .ref tR, .int ((D.rest : Nat) : Int), .ref tM, .ref tS] : List V)[j]? = some v → ([.int ((D.many : Nat) : Int), .ref tR, .int ((D.rest : Nat) : Int), .ref tM, .ref tS] ++ ex : List V)[j]? = some v := fun j v h => by
    rw [List.getElem?_append_left (List.getElem?_eq_some_iff.mp h).1]
    exact h
  refine ⟨le_line (show 0 ≤ 10000000 by decide), fun F hF => ?_⟩
  have s1 := (Same.refl H).upd_new (o := .lst []) hF
  have F1 : (upd H F (.lst [])) F = some (.lst (([] : List Addr).map V.ref)) := upd_same
  generalize upd H F (.lst []) = H1 at s1 F1
  have lts : (ts.map V.ref).length = rows.length := by rw [List.length_map, hT.1]
  refine ⟨_, rfl, kd, rfl, ⟨_, SqT.of (s1 _ _ hk)⟩, for_tup (xs := ts.map V.ref) (fun i σ H' => ∃ (x4 x5 x6 : Option V) (ws : List Addr), σ = [some (.ref kd), some (.ref a), some (.ref u), some (.ref F), x4, x5, x6] ∧ Same H H' ∧ H' F = some (.lst (ws.map V.ref)) ∧ RwAt H' ws ((rows.take i).flatMap (blkB D)))
    ⟨none, none, none, [], rfl, s1, F1, .nil⟩ (fun i σ H' _ ⟨_, _, _, _, _, q, _⟩ => SqT.of (q _ _ hk)) ?_ ?_⟩
  · rintro i v σ H3 hv ⟨x4, x5, x6, ws, rfl, s3, F3, W3⟩
    obtain ⟨t, ht, rfl⟩ := get_map_r hv
    have hil : i < rows.length := by rw [← hT.1]; exact (List.getElem?_eq_some_iff.mp ht).1
    have hq := List.getElem?_eq_getElem hil
    have hqm := List.getElem_mem hil
    have htt := s3 _ _ (hT.2 i t _ ht hq)
    have ef := flat_snoc (f := blkB D) hq
    generalize rows[i] = q at hq hqm htt ef
    have hwd := R.wd q hqm
    have eq2 : q.2 = ((q.2.toNat : Nat) : Int) := by omega
    have hw3 : q.2.toNat ≤ 3 := by rw [← wR_of R hqm]; exact wR_le R _
    have hzn : HasN rows q.1 := ⟨q, hqm, rfl⟩
    refine ⟨t, _, rfl, SqT.of htt, rfl, _, _, rfl, _, _, rfl, rfl, ?_⟩
    refine ⟨_, rfl, .inl ⟨rfl, _, SqL.of F3⟩, _, rfl, a, _, _, _, rfl, rfl, SqL.of (s3 _ _ a1), at_ofG (j := 0) rfl (aat 0 _ rfl), _, rfl, D.many, q.2.toNat, by show [V.int _, V.int q.2] = _; rw [← eq2], by omega, hw3, hpow q hqm, fun H4 Lw s4 nLw WW => ?_⟩
    obtain ⟨vs', hLw, PW⟩ := WW
    have PW : PlAt nI H4 vs' (wq D.many q) := PW
    have s04 := s3.trans s4
    refine ⟨Lw, rfl, ⟨_, SqL.of hLw⟩, fun E hE => lc_it (walk_list (xs := vs'.map V.ref)) (fun k H' => Same H4 H' ∧ ∃ ds : List Addr, H' E = some (.lst (ds.map V.ref)) ∧ RwAt H' ds ((blkB D q).take k)) ⟨(Same.refl H4).upd_new hE, [], upd_same, .nil⟩ (fun k H' _ ⟨q, _⟩ => SqL.of (q _ _ hLw)) ?_ ?_⟩
    · rintro k v H5 H6 hk ⟨s5, es, E5, W5⟩ ⟨rfl, hv⟩
      obtain ⟨y, hy, rfl⟩ := get_map_r hv
      have hkl : k < (wq D.many q).length := by rw [← PW.1]; exact (List.getElem?_eq_some_iff.mp hy).1
      have hss := List.getElem?_eq_getElem hkl
      have hbk : (blkB D q)[k]? = some (q.1, (wq D.many q)[k], D.stp q.1 (wq D.many q)[k]) := by
        unfold blkB
        rw [List.getElem?_map, hss]
        rfl
      have hsm := List.getElem_mem hkl
      generalize (wq D.many q)[k] = ss at hss hbk hsm
      obtain ⟨q1, q2⟩ := rep_mem.mp (show ss ∈ ways (List.replicate q.2.toNat (List.range D.many)) from hsm)
      have hval := hD.val R hzn (z := q.1) (ss := ss) (by rw [q1, wR_of R hqm]) fun s hs => List.mem_range.mp (q2 s hs)
      have hyt := s5 _ _ (PW.2 k y ss hy hss)
      have a16 := s5 _ _ (s04 _ _ a1)
      refine ⟨rfl, _, rfl, _, rfl, _, rfl, a, _, _, _, rfl, rfl, SqL.of a16, at_ofG (j := 4) rfl (aat 4 _ rfl), _, rfl, _, rfl, le_line (show 2 ≤ 10000000 by decide), fun pk hpk => ?_⟩
      have s6 := (Same.refl H6).upd_new (o := .tup [.str q.1, .ref y]) hpk
      have p6 : (upd H6 pk (.tup [.str q.1, .ref y])) pk = some (.tup [.str q.1, .ref y]) := upd_same
      generalize upd H6 pk (.tup [.str q.1, .ref y]) = H7 at s6 p6
      have nk : NKAt H7 (nkR (q.1, ss)) pk := ⟨y, p6, by
        rw [s6 _ _ hyt]
        show _ = some (HO.tup ((tkey ss).map kV))
        rw [tkey_V]⟩
      refine ⟨tS, pk, _, _, _, rfl, rfl, a5.sm (fun p o h => s6 _ _ (s5 _ _ (s04 _ _ h))), nk, hval, le_line (show 3 ≤ 10000000 by decide), fun p hp => ?_⟩
      have s8 := (Same.refl H7).upd_new (o := .tup [.str q.1, .ref y, .int ((D.stp q.1 ss : Nat) : Int)]) hp
      have p8 : (upd H7 p (.tup [.str q.1, .ref y, .int ((D.stp q.1 ss : Nat) : Int)])) p = some (.tup [.str q.1, .ref y, .int ((D.stp q.1 ss : Nat) : Int)]) := upd_same
      generalize upd H7 p (.tup [.str q.1, .ref y, .int ((D.stp q.1 ss : Nat) : Int)]) = H8 at s8 p8
      have s68 := s6.trans s8
      have E8 := s68 _ _ E5
      refine ⟨_, E8, ?_, (s5.trans s68).upd_own hE, es ++ [p], by rw [upd_same, List.map_append]; rfl, ?_⟩
      · rw [List.length_map, W5.1, List.length_take]
        have := blk_len (D := D) (q := q) m40 hw3
        exact lt_line (n := min k _) (by omega)
      · rw [take_snoc' hbk]
        exact ((W5.keep fun t ys h => s68 _ _ h).snoc (e := (q.1, ss, D.stp q.1 ss)) p8 (s68 _ _ hyt)).keep fun t ys h => by rw [upd_ne (ne_of h E8 (fun e => nomatch e))]; exact h
    rintro H5 ⟨s5, es, E5, W5⟩
    rw [List.length_map, PW.1, show (wq D.many q).length = (blkB D q).length by unfold blkB; rw [List.length_map], List.take_length] at W5
    have F5 := s5 _ _ (s4 _ _ F3)
    have s05 := s04.trans s5
    refine ⟨F, E, _, _, rfl, rfl, F5, E5, ?_, ?_⟩
    · rw [List.length_map, List.length_map, W3.1, W5.1]
      have h1 := blk_len (D := D) (q := q) m40 hw3
      have h2 := flat_64 (D := D) m40 (l := rows.take i) fun q' hq' => by
        have := List.mem_of_mem_take hq'
        rw [← wR_of R this]
        exact wR_le R _
      have h3 : (rows.take i).length ≤ 4 := by rw [List.length_take]; omega
      have : (rows.take i).length * 64000 ≤ 4 * 64000 := Nat.mul_le_mul_right _ h3
      exact le_line (by omega)
    · have kt : ∀ t ys, H5 t = some (.tup ys) → (upd H5 F (.lst (ws.map V.ref ++ es.map V.ref))) t = some (.tup ys) := fun t ys h => by rw [upd_ne (ne_of h F5 (fun e => nomatch e))]; exact h
      refine ⟨_, _, _, ws ++ es, rfl, s05.upd_own hF, by rw [upd_same, List.map_append], ?_⟩
      rw [ef]
      exact ((W3.keep fun t ys h => s5 _ _ (s4 _ _ h)).app W5).keep kt
  · rintro σ H3 ⟨x4, x5, x6, ws, rfl, s3, F3, W3⟩
    rw [lts, List.take_length, ← ent_blk R hD] at W3
    obtain ⟨rx, rd, rm, rds, hr1, ⟨bx, r0, kk, ww, rk, ts0, b1, b2, b3, b4, b5, b6⟩, hr3, hr4⟩ := id hRd
    obtain ⟨f1, f2, f3, f4, f5⟩ := rd_lk b rd rm D.many D.rest
    have hml : D.marks.length ≤ 10000000 := by
      have := sub_len D.marks (List.range D.many) (hD.mks.imp fun h => Nat.ne_of_lt h) fun x hx => List.mem_range.mpr (hD.ml x hx)
      rw [List.length_range] at this
      omega
    have hel : D.ent.length ≤ 10000000 := by
      rw [ent_blk R hD]
      have h2 := flat_64 (D := D) m40 (l := rows) fun q' hq' => by
        rw [← wR_of R hq']
        exact wR_le R _
      have : rows.length * 64000 ≤ 4 * 64000 := Nat.mul_le_mul_right _ (by omega)
      omega
    have he3 : ∀ e ∈ D.ent, e.2.1.length ≤ 10 := fun e he => by
      have hm : ek e ∈ ksOf rows D.many := by rw [← hD.ks]; exact List.mem_map.mpr ⟨e, he, rfl⟩
      obtain ⟨_, hl, _⟩ := (ks_has R).mp hm
      have : e.2.1.length = wR rows e.1 := hl
      have := wR_le R e.1
      omega
    refine ⟨_, rfl, u, CR, rx, _, _, rfl, s3 _ _ hr1, BR.cl, BR.nB, f4, b, C, bx, _, _, rfl, s3 _ _ b1, BB.cl, BB.nR, lk_rows _ _ _ _, _, rfl, .ref r0, .ref kd, rfl, sam_rows (n := 1) (s3 _ _ b2) (s3 _ _ hk) (b3.keep fun _ _ h => s3 _ _ h) (hT.keep fun _ _ h => s3 _ _ h) (by omega), fun H4 s4 => ?_⟩
    have s04 := s3.trans s4
    refine ⟨_, rfl, ifn (by decide) ⟨_, rfl, u, CR, rx, _, _, rfl, s04 _ _ hr1, BR.cl, BR.nS, f5, _, rfl, a, _, _, _, rfl, rfl, SqL.of (s04 _ _ a1), at_ofG (j := 0) rfl (aat 0 _ rfl), _, _, rfl, .inl ⟨_, rfl, rfl⟩, fun H5 s5 => ⟨_, rfl, ifn (by decide) ?_⟩⟩⟩
    have s05 := s04.trans s5
    refine ⟨_, rfl, u, CR, rx, _, _, rfl, s05 _ _ hr1, BR.cl, BR.nM, f3, _, rfl, a, _, _, _, rfl, rfl, SqL.of (s05 _ _ a1), at_ofG (j := 3) rfl (aat 3 _ rfl), _, _, rfl, sam_nums (n := 2) (s05 _ _ hr4) (s05 _ _ a4) hml, fun H6 s6 => ?_⟩
    have s06 := s05.trans s6
    refine ⟨_, rfl, ifp rfl ?_⟩
    refine ⟨_, rfl, u, rx, _, rfl, s06 _ _ hr1, lk_table _ _ _ _ _, u, b, rows, D, rfl, hRd.same s06, R, hD, fun H7 tt us7 s7 ht7 W7 => ?_⟩
    have F7 := s7 _ _ (s6 _ _ (s5 _ _ (s4 _ _ F3)))
    have W37 := W3.keep fun t ys h => s7 _ _ (s6 _ _ (s5 _ _ (s4 _ _ h)))
    refine ⟨_, rfl, F, _, rfl, .inl ⟨SqL.of F7, fun td htd => ?_⟩⟩
    have s8 := (Same.refl H7).upd_new (o := .tup (ws.map V.ref)) htd
    refine ⟨_, _, rfl, sam_ents (n := 0) (s8 _ _ ht7) upd_same (W7.keep fun _ _ h => s8 _ _ h) (W37.keep fun _ _ h => s8 _ _ h) hel he3, fun H9 s9 => ?_⟩
    exact key _ (((s06.trans s7).trans s8).trans s9)
end
end Sh
end
section
set_option Elab.async false
set_option linter.all false
set_option maxRecDepth 100000
set_option maxHeartbeats 16000000
namespace Sh
open PySem PySem.Spec PyProof.Rows L2 NdefX LamX ClX
open C8 (pss_cut tCut)
open Evl (ixN_nat)
theorem pe_X6 {X : Cx} {x : Str} {C : Addr} {pos : Pos} (hg : Gl X x) (h : X.mg x = some (.ref C)) (hd : (x == ("__debug__" : Str)) = false := by decide) : PE X (.Name x pos) (tC (.ref C)) := pe_glob hg h rfl hd
def ReadC (P : Program) (w : World) (K : PySem.W.Frag) (mg : Str → Option Value) (base : Heap) (C : Addr) : Prop := mg "Bed" = some (.ref C) ∧ ∃ mc p g, CRead K C mc ∧ CMet K C mc "read" p g ∧ FnR P w K mg base CX0 8 g (spRead6 C)
def spMade (P : Program) (w : World) (C CR : Addr) : Sp := fun vs H Q _ => ∃ (a : Addr) (rows : List Row) (D : RdD) (ex : List V), vs = [.str (txT rows), .ref a] ∧ ROk 4 rows ∧ D.Ok rows ∧ LrA P w H a D ex ∧ ∀ H' u b, Same H H' → RdAt C CR H' u b rows D → Q (.ref u) H'
abbrev N_law_made : List Str := ["text", "drawn"]
theorem sc_law_made : FnScope N_law_made ["text", "drawn"] (defScope s_law_made) := ⟨rfl, rfl, rfl, by decide +kernel, rfl, by decide +kernel, by decide +kernel⟩
section
variable {P : Program} {w : World} {K : PySem.W.Frag} {mg : Str → Option Value} {base : Heap} {C CR : Addr}
theorem ok_readC (T : Bl mg) (c_DIGITS : ∃ t, mg "DIGITS" = some (.str "0123456789" t)) {fI : Addr} (Mk_ : Mk K C fI) (FI : FnR P w K mg base CX0 5 fI (spBedS C)) (c_all_letters : DefOk P w K mg base CX0 1 "all_letters" spTrueNm) (gB : mg "Bed" = some (.ref C)) {mc : Value} {p g : Addr} {fd : FuncData} (hr : CRead K C mc) (hm : CMet K C mc "read" p g) (F : FunD K "read" "Bed.read" (defArgs s_read) (defBody s_read) (defScope s_read) [] [] g fd) : ReadC P w K mg base C := by
  have G : FnOk P w K mg base CX0 8 g fd ["cls", "text"] (spRead6 C) := F.ok sc_read (fun vs H Q E h => by obtain ⟨rows, rfl, _⟩ := h; rfl) fun cdv A outer s H vs Q E hr h => by
    obtain ⟨t, a, b⟩ := ok_read6 T c_DIGITS Mk_ FI c_all_letters hr h
    exact ⟨t, a.nox, b⟩
  refine ⟨gB, mc, p, g, hr, hm, fun A' outer s H us vs Q E hr e0 r hs => G.raw (F.bindsN fun _ _ _ _ _ _ us hl => match us, hl with | [_, _], _ => rfl) .nil A' outer s H us vs Q E hr e0 r (by show spRead6 C (vs ++ []) H Q E; rw [List.append_nil]; exact hs)⟩
theorem ok_made6 (T : Bl mg) (cRd : ReadC P w K mg base C) (c_Reader : RdC P w K mg base C CR 4) (D : Def0 K mg "_law_made" s_law_made) : DefOk P w K mg base CX0 9 "_law_made" (spMade P w C CR) := by
  refine D.ok sc_law_made (fun vs H Q E h => by obtain ⟨a, rows, D, ex, rfl, _⟩ := h; rfl) (fun _ _ _ _ _ _ us hl => match us, hl with | [_, _], _ => rfl) (fun f cdv A outer s0 H vs Q E hr h => ?_)
  obtain ⟨a, rows, D, ex, rfl, R, hD, hA, key⟩ := h
  obtain ⟨gBed, mc, pp, g, hCR, hCM, FR⟩ := cRd
  have m40 := hD.m3
  have hre := hD.re
  refine ⟨_, (pss_cons (ps_if (PW.pt (pw_and (pt_cmpR op_eq (pe_ix ix_list (pv 1) pe_int (fun _ _ => rfl)) pe_int (nomark _)) (pw_and1 (pt_cmpR op_eq (pe_op op_mod (pe_callB call_len_seq (by rfl) T.b_len boot_len (pa_cons (pe_ix ix_list (pv 1) pe_int (fun _ _ => rfl)) pa_nil)) pe_int) pe_int (nomark _)))))
        (pss_one (ps_ret (pe_reader c_Reader (hr.mono (by decide)) (pa_cons (pe_cmeth (pe_X6 (by rfl) gBed) hCR hCM FR (hr.mono (by decide)) pass0 (pa_cons (pv 0) pa_nil)) (pa_cons (pe_ix ix_list (pv 1) pe_int (fun _ _ => rfl)) (pa_cons (pe_ix ix_list (pv 1) pe_int (fun _ _ => rfl)) (pa_cons (pe_ix ix_list (pv 1) pe_int (fun _ _ => rfl)) pa_nil)))))))
        pss_nil)
      (pss_one (ps_ret (pe_readerK c_Reader (hr.mono (by decide)) (pa_cons (pe_cmeth (pe_X6 (by rfl) gBed) hCR hCM FR (hr.mono (by decide)) pass0 (pa_cons (pv 0) pa_nil)) (pa_cons (pe_ix ix_list (pv 1) pe_int (fun _ _ => rfl)) (pa_cons (pe_ix ix_list (pv 1) pe_int (fun _ _ => rfl)) (pa_cons (pe_ix ix_list (pv 1) pe_int (fun _ _ => rfl)) pa_nil)))) (pk_cons (pe_ix ix_list (pv 1) pe_int (fun _ _ => rfl)) pk_nil))))), ?_⟩
  obtain ⟨tR, tM, tS, vR, a1, a2, a3, a4, a5⟩ := id hA
  have aat : ∀ (j : Nat) (v : V), ([.int ((D.many : Nat) : Int), .ref tR, .int ((D.rest : Nat) : Int), .ref tM, .ref tS] : List V)[j]? = some v → ([.int ((D.many : Nat) : Int), .ref tR, .int ((D.rest : Nat) : Int), .ref tM, .ref tS] ++ ex : List V)[j]? = some v := fun j v h => by
    rw [List.getElem?_append_left (List.getElem?_eq_some_iff.mp h).1]
    exact h
  have mk : ∀ {H1 : Hp} {p x dx : Addr} {Q : VK}, Same H H1 → BedAt C H1 p rows → H1 x = none → H1 dx = none → dx ≠ x → (∀ H' u b, Same H H' → RdAt C CR H' u b rows D → Q (.ref u) H') → spRdI C CR [.ref x, .ref p, .int ((D.many : Nat) : Int), .ref tR, .ref tM, .int ((D.rest : Nat) : Int)] (upd (upd H1 dx (.own x)) x (.ins CR dx [])) (fun v H2 => v = .non ∧ Q (.ref x) H2) E0 := fun {H1 p x dx Q} s1 hB hx hdx hne k => by
    have sM : Same H1 (upd (upd H1 dx (.own x)) x (.ins CR dx [])) := ((Same.refl H1).upd_new hdx).upd_new (by rw [upd_ne (Ne.symm hne)]; exact hx)
    have hxx : (upd (upd H1 dx (.own x)) x (.ins CR dx [])) x = some (.ins CR dx []) := upd_same
    generalize upd (upd H1 dx (.own x)) x (.ins CR dx []) = H2 at sM hxx
    have s02 := s1.trans sM
    refine ⟨x, dx, p, tR, tM, vR, rows, D, rfl, hxx, hB.same sM, R, hD, s02 _ _ a2, a3.keep fun _ _ h => s02 _ _ h, s02 _ _ a4, fun H' kx hR => ⟨rfl, k H' x p (fun q o h => kx q o (s02 _ _ h) fun e => ?_) hR⟩⟩
    rw [e] at h
    rw [s1 _ _ h] at hx
    cases hx
  have l1 : (vR.map V.ref).length = D.rws.length := by rw [List.length_map, a3.1]
  have slow : ∀ (t : TS), True := fun _ => trivial
  refine ⟨_, rfl, a, _, _, _, rfl, rfl, SqL.of a1, at_ofG (j := 2) rfl (aat 2 _ rfl), rfl, _, rfl, ?_⟩
  by_cases c0 : D.rest = 0
  · refine ifp (by rw [veq]; exact decide_eq_true (by omega)) ?_
    refine ⟨_, rfl, a, _, _, _, rfl, rfl, SqL.of a1, at_ofG (j := 1) rfl (aat 1 _ rfl), tR, _, rfl, .inr (SqT.of a2), _, _, rfl, rfl, by show (0 : Int) < 2; decide, rfl, _, rfl, ite2 (fun _ => ?_) (fun _ => ?_)⟩
    · refine ⟨rfl, _, rfl, rows, rfl, R, fun H1 p s1 hp hB => ?_⟩
      refine ⟨_, rfl, a, _, _, _, rfl, rfl, SqL.of (s1 _ _ a1), at_ofG (j := 0) rfl (aat 0 _ rfl), _, rfl, a, _, _, _, rfl, rfl, SqL.of (s1 _ _ a1), at_ofG (j := 1) rfl (aat 1 _ rfl), _, rfl, a, _, _, _, rfl, rfl, SqL.of (s1 _ _ a1), at_ofG (j := 3) rfl (aat 3 _ rfl), fun x dx hx hdx hne => ?_⟩
      have := mk (Q := Q) s1 hB hx hdx hne key
      rw [c0] at this
      exact this
    · refine ⟨rfl, _, rfl, rows, rfl, R, fun H1 p s1 hp hB => ?_⟩
      refine ⟨_, rfl, a, _, _, _, rfl, rfl, SqL.of (s1 _ _ a1), at_ofG (j := 0) rfl (aat 0 _ rfl), _, rfl, a, _, _, _, rfl, rfl, SqL.of (s1 _ _ a1), at_ofG (j := 1) rfl (aat 1 _ rfl), _, rfl, a, _, _, _, rfl, rfl, SqL.of (s1 _ _ a1), at_ofG (j := 3) rfl (aat 3 _ rfl), _, rfl, a, _, _, _, rfl, rfl, SqL.of (s1 _ _ a1), at_ofG (j := 2) rfl (aat 2 _ rfl), rfl, rfl, fun x dx hx hdx hne => ?_⟩
      exact mk (Q := Q) s1 hB hx hdx hne key
  · refine ifn (by rw [veq]; intro e; exact c0 (by have := of_decide_eq_true e; omega)) ?_
    refine ⟨rfl, _, rfl, rows, rfl, R, fun H1 p s1 hp hB => ?_⟩
    refine ⟨_, rfl, a, _, _, _, rfl, rfl, SqL.of (s1 _ _ a1), at_ofG (j := 0) rfl (aat 0 _ rfl), _, rfl, a, _, _, _, rfl, rfl, SqL.of (s1 _ _ a1), at_ofG (j := 1) rfl (aat 1 _ rfl), _, rfl, a, _, _, _, rfl, rfl, SqL.of (s1 _ _ a1), at_ofG (j := 3) rfl (aat 3 _ rfl), _, rfl, a, _, _, _, rfl, rfl, SqL.of (s1 _ _ a1), at_ofG (j := 2) rfl (aat 2 _ rfl), rfl, rfl, fun x dx hx hdx hne => ?_⟩
    exact mk (Q := Q) s1 hB hx hdx hne key
end
end Sh
end
section
set_option Elab.async false
set_option linter.all false
set_option maxRecDepth 100000
set_option maxHeartbeats 16000000
namespace Sh
open PySem PySem.Spec PyProof.Rows L2 NdefX LamX
open C8 (pss_cut tCut)
open Evl (ixN_nat)
theorem get_uniq {α : Type} {l : List α} (nd : l.Nodup) {i j : Nat} {x : α} (h1 : l[i]? = some x) (h2 : l[j]? = some x) : i = j := by
  obtain ⟨l1, e1⟩ := List.getElem?_eq_some_iff.mp h1
  obtain ⟨l2, e2⟩ := List.getElem?_eq_some_iff.mp h2
  exact (List.getElem_inj nd).mp (e1.trans e2.symm)
/-- a code for each state that is gained -/
structure LR (rows : List Row) (D : RdD) (js : List (List Nat)) (cf : Nat → List Nat) : Prop where
  ok : ∀ q, [q] ∈ js → q < D.many ∧ COk rows (cf q) ∧ fR rows D (cf q) [] = [q] ∧ cf q ≠ []
  up : ∀ (k : Nat) (z : Row) (bl : List Nat), rows[k]? = some z → bl.length = z.2.toNat → (∀ q ∈ bl, [q] ∈ js) → [D.stp z.1 bl] ∈ js ∧ ¬ KL (k :: (bl.map cf).flatten) (cf (D.stp z.1 bl))
theorem lr_of {rows : List Row} {D : RdD} {js : List (List Nat)} {cl : Str → List Nat → Option Nat} {ss : List Nat} {cs : List (List Nat)} (R : ROk 4 rows) (hD : D.Ok rows) (I : MI rows [D] js cl) (M : MDn rows cl js.length) (L : LC rows cl ss cs (fun _ _ => True) (fun _ => none)) (hss : ∀ s ∈ ss, s < js.length) (eL : js.length ≤ ss.length) (hsz : ∀ k r s, Off rows cl ss k r s → (cO cs k r).length ≤ 2000) :
    ∃ cf : Nat → List Nat, LR rows D js cf ∧ ∀ (q i p : Nat) (c : List Nat), js[i]? = some [q] → ss[p]? = some i → cs[p]? = some c → c = cf q := by
  have ex : ∀ q : Nat, ∃ c : List Nat, [q] ∈ js → ∃ (i p : Nat), js[i]? = some [q] ∧ ss[p]? = some i ∧ cs[p]? = some c := fun q => by
    by_cases h : [q] ∈ js
    · obtain ⟨i, hi⟩ := List.mem_iff_getElem?.mp h
      have hil := (List.getElem?_eq_some_iff.mp hi).1
      obtain ⟨p, hp⟩ := List.mem_iff_getElem?.mp (L.all_in hss eL i hil)
      have hpl := (List.getElem?_eq_some_iff.mp hp).1
      exact ⟨_, fun _ => ⟨i, p, hi, hp, List.getElem?_eq_getElem (show p < cs.length by rw [L.len]; exact hpl)⟩⟩
    · exact ⟨[], fun h' => absurd h' h⟩
  obtain ⟨cf, hcf⟩ := Classical.axiomOfChoice ex
  have uniq : ∀ (q i p : Nat) (c : List Nat), js[i]? = some [q] → ss[p]? = some i → cs[p]? = some c → c = cf q := fun q i p c h1 h2 h3 => by
    obtain ⟨i', p', g1, g2, g3⟩ := hcf q (List.mem_of_getElem? h1)
    have ei := get_uniq I.nd h1 g1
    subst ei
    have ep := get_uniq L.nd h2 g2
    subst ep
    rw [h3] at g3
    exact Option.some.inj g3
  refine ⟨cf, ⟨fun q hq => ?_, fun k z bl hz hl hb => ?_⟩, uniq⟩
  · obtain ⟨i, p, h1, h2, h3⟩ := hcf q hq
    obtain ⟨q', e', hq'⟩ := one_j (I.ok _ hq)
    cases e'
    have hcm := List.mem_of_getElem? h3
    obtain ⟨v, g1, g2⟩ := L.val I (p + 1) p i _ (Nat.lt_succ_self _) h2 h3
    rw [h1] at g1
    cases g1
    obtain ⟨_, _, _, _, _, l2⟩ := L.org p i _ h2 h3
    refine ⟨hq', ⟨L.pc _ hcm, L.rk _ hcm, l2⟩, g2 [], fun e => ?_⟩
    have := L.pc _ hcm
    rw [e] at this
    cases this
  · have hzm := List.mem_of_getElem? hz
    have ix : ∀ q : Nat, ∃ p : Nat, [q] ∈ js → ∃ i, js[i]? = some [q] ∧ ss[p]? = some i ∧ cs[p]? = some (cf q) := fun q => by
      by_cases h : [q] ∈ js
      · obtain ⟨i, p, h1, h2, h3⟩ := hcf q h
        exact ⟨p, fun _ => ⟨i, h1, h2, h3⟩⟩
      · exact ⟨0, fun h' => absurd h' h⟩
    obtain ⟨pf, hpf⟩ := Classical.axiomOfChoice ix
    have hr : ∀ i ∈ bl.map pf, i < ss.length := fun i hi => by
      obtain ⟨q, hq, rfl⟩ := List.mem_map.mp hi
      obtain ⟨_, _, h2, _⟩ := hpf q (hb q hq)
      exact (List.getElem?_eq_some_iff.mp h2).1
    have hrs : ∀ x ∈ rwS ss (bl.map pf), x < js.length := fun x hx => by
      unfold rwS at hx
      obtain ⟨p, hp, rfl⟩ := List.mem_map.mp hx
      have := hr p hp
      rw [List.getD_eq_getElem?_getD, List.getElem?_eq_getElem this]
      exact hss _ (List.getElem_mem this)
    obtain ⟨s, hs⟩ := M z.1 ⟨z, hzm, rfl⟩ (rwS ss (bl.map pf)) (by unfold rwS; rw [List.length_map, List.length_map, hl, wR_of R hzm]) hrs
    have O : Off rows cl ss k (bl.map pf) s := ⟨⟨z, hz, by rw [List.length_map, hl], hs⟩, hr⟩
    obtain ⟨i, c, g1, g2, g3⟩ := L.fin (fun _ _ _ _ => trivial) O (hsz _ _ _ O)
    obtain ⟨_, _, _, hj⟩ := I.cs _ _ _ hs
    have ej : jst [D] z.1 (rwJ js (rwS ss (bl.map pf))) = [D.stp z.1 bl] := by
      show [D.stp z.1 (List.map (fun b => b.getD 0 0) (List.map (fun q => js.getD q []) (List.map (fun i => ss.getD i 0) (bl.map pf))))] = _
      rw [List.map_map, List.map_map, List.map_map]
      congr 2
      conv => rhs; rw [← List.map_id bl]
      refine List.map_congr_left fun q hq => ?_
      obtain ⟨i, h1, h2, _⟩ := hpf q (hb q hq)
      show (js.getD (ss.getD (pf q) 0) []).getD 0 0 = q
      rw [List.getD_eq_getElem?_getD (l := ss), h2, List.getD_eq_getElem?_getD (l := js)]
      show ((js[i]?).getD []).getD 0 0 = q
      rw [h1]
      rfl
    rw [ej] at hj
    refine ⟨List.mem_of_getElem? hj, ?_⟩
    rw [← uniq _ _ _ _ hj g1 g2]
    have ec : cO cs k (bl.map pf) = k :: (bl.map cf).flatten := by
      unfold cO eC rwC
      rw [List.map_map]
      congr 2
      refine List.map_congr_left fun q hq => ?_
      obtain ⟨i, _, _, h3⟩ := hpf q (hb q hq)
      show cs.getD (pf q) [] = cf q
      rw [List.getD_eq_getElem?_getD, h3]
      rfl
    rw [← ec]
    exact g3
theorem rk_lt (c d : List Nat) : PySem.W.dataLt (.tuple [.int ((c.length : Nat) : Int), cD c]) (.tuple [.int ((d.length : Nat) : Int), cD d]) = decide (KL c d) := by
  rw [PySem.W.dataLt_pair (by simp [PySem.W.alike]) (cD_alike c d), int_eqv, int_lt, cD_eqv, lt_iD]
  rw [show decide (KL c d) = decide (c.length < d.length ∨ (c.length = d.length ∧ c < d)) from decide_eq_decide.mpr Iff.rfl]
  by_cases h : c.length = d.length
  · by_cases h2 : c = d
    · subst h2; simp [List.lt_irrefl]
    · simp [h, h2]
  · simp [h]
theorem rk_alike (c d : List Nat) : PySem.W.alike (.tuple [.int ((c.length : Nat) : Int), cD c]) (.tuple [.int ((d.length : Nat) : Int), cD d]) = true := by
  simp only [PySem.W.alike, PySem.W.alikeAll, Bool.and_true, Bool.true_and]
  exact alike_iD c d
theorem rk_depth (c : List Nat) : (PyData.tuple [.int ((c.length : Nat) : Int), cD c]).depth ≤ 60 := by
  have := iD_depth c
  simp only [PyData.depthAll, PyData.depth, cD]
  omega
end Sh
end
section
set_option Elab.async false
set_option linter.all false
set_option maxRecDepth 100000
set_option maxHeartbeats 16000000
namespace Sh
open PySem PySem.Spec PyProof.Rows L2 NdefX LamX
open C8 (pss_cut tCut)
open Evl (ixN_nat)
/-- the plants told, by codes -/
def PlR (rows : List Row) (js : List (List Nat)) (cf : Nat → List Nat) (n : Nat) (vs : List V) (H : Hp) : Prop := vs.length = n ∧ ∀ q, q < n → (([q] ∉ js ∧ vs[q]? = some .non) ∨ ([q] ∈ js ∧ ∃ a, vs[q]? = some (.ref a) ∧ H a = some (.tup (sV (rkN rows (cf q))))))
theorem PlsAt.cf {rows : List Row} {js : List (List Nat)} {ss : List Nat} {cs : List (List Nat)} {n : Nat} {H : Hp} {t : Addr} (x : PlsAt rows js ss cs n H t) {cf : Nat → List Nat} (u : ∀ (q i p : Nat) (c : List Nat), js[i]? = some [q] → ss[p]? = some i → cs[p]? = some c → c = cf q) : ∃ vs, H t = some (.tup vs) ∧ PlR rows js cf n vs H := by
  obtain ⟨vs, h1, h2, h3⟩ := x
  refine ⟨vs, h1, h2, fun q hq => ?_⟩
  rcases h3 q hq with h | ⟨i, p, c, a, g1, g2, g3, g4, g5⟩
  · exact .inl h
  · rw [u q i p c g1 g2 g3] at g5
    exact .inr ⟨List.mem_of_getElem? g1, a, g4, g5⟩
def Gq (js : List (List Nat)) (n : Nat) : List Nat := (List.range n).filter fun q => decide ([q] ∈ js)
theorem Gq_snoc (js : List (List Nat)) (n : Nat) : Gq js (n + 1) = Gq js n ++ if [n] ∈ js then [n] else [] := by
  unfold Gq
  rw [List.range_succ, List.filter_append]
  congr 1
  by_cases h : [n] ∈ js
  · rw [if_pos h, List.filter_cons_of_pos (by simpa using h)]
    rfl
  · rw [if_neg h, List.filter_cons_of_neg (by simpa using h)]
    rfl
theorem Gq_mem {js : List (List Nat)} {n q : Nat} : q ∈ Gq js n ↔ q < n ∧ [q] ∈ js := by
  unfold Gq
  rw [List.mem_filter, List.mem_range]
  simp
theorem Gq_len (js : List (List Nat)) (n : Nat) : (Gq js n).length ≤ n := by
  unfold Gq
  have := List.length_filter_le (fun q => decide ([q] ∈ js)) (List.range n)
  rw [List.length_range] at this
  exact this
/-- what is ranked -/
def RkAt (js : List (List Nat)) (cf : Nat → List Nat) (n : Nat) (rv : List V) (H : Hp) : Prop := rv.length = n ∧ ∀ q, q < n → (([q] ∉ js ∧ rv[q]? = some .non) ∨ ([q] ∈ js ∧ ∃ p t, rv[q]? = some (.ref p) ∧ H p = some (.tup [.int (((cf q).length : Nat) : Int), .ref t]) ∧ H t = some (.tup (nI (cf q)))))
theorem RkAt.keep {js : List (List Nat)} {cf : Nat → List Nat} {n : Nat} {rv : List V} {H H' : Hp} (x : RkAt js cf n rv H) (k : ∀ t ys, H t = some (.tup ys) → H' t = some (.tup ys)) : RkAt js cf n rv H' := ⟨x.1, fun q hq => by
  rcases x.2 q hq with h | ⟨h, p, t, h1, h2, h3⟩
  · exact .inl h
  · exact .inr ⟨h, p, t, h1, k _ _ h2, k _ _ h3⟩⟩
theorem RkAt.at_ {js : List (List Nat)} {cf : Nat → List Nat} {n : Nat} {rv : List V} {H : Hp} (x : RkAt js cf n rv H) {q : Nat} (hq : q < n) (h : [q] ∈ js) : ∃ p t, rv[q]? = some (.ref p) ∧ H p = some (.tup [.int (((cf q).length : Nat) : Int), .ref t]) ∧ H t = some (.tup (nI (cf q))) := by
  rcases x.2 q hq with ⟨h', _⟩ | ⟨_, h⟩
  · exact absurd h h'
  · exact h
theorem RkAt.none {js : List (List Nat)} {cf : Nat → List Nat} {n : Nat} {rv : List V} {H : Hp} (x : RkAt js cf n rv H) (h : [n] ∉ js) : RkAt js cf (n + 1) (rv ++ [.non]) H := by
  refine ⟨by rw [List.length_append, x.1]; rfl, fun q hq => ?_⟩
  by_cases c : q < n
  · rw [List.getElem?_append_left (by rw [x.1]; exact c)]
    exact x.2 q c
  · have : q = n := by omega
    subst this
    exact .inl ⟨h, by rw [List.getElem?_append_right (by rw [x.1]; exact Nat.le_refl _), x.1, Nat.sub_self]; rfl⟩
theorem RkAt.some {js : List (List Nat)} {cf : Nat → List Nat} {n : Nat} {rv : List V} {H : Hp} (x : RkAt js cf n rv H) (h : [n] ∈ js) {p t : Addr} (h1 : H p = .some (.tup [.int (((cf n).length : Nat) : Int), .ref t])) (h2 : H t = .some (.tup (nI (cf n)))) : RkAt js cf (n + 1) (rv ++ [.ref p]) H := by
  refine ⟨by rw [List.length_append, x.1]; rfl, fun q hq => ?_⟩
  by_cases c : q < n
  · rw [List.getElem?_append_left (by rw [x.1]; exact c)]
    exact x.2 q c
  · have : q = n := by omega
    subst this
    exact .inr ⟨h, p, t, by rw [List.getElem?_append_right (by rw [x.1]; exact Nat.le_refl _), x.1, Nat.sub_self]; rfl, h1, h2⟩
def spRight (P : Program) (w : World) : Sp := fun vs H Q _ => ∃ (kd a t : Addr) (ts : List Addr) (rows : List Row) (D : RdD) (ex pvs : List V) (js : List (List Nat)) (cf : Nat → List Nat), vs = [.ref kd, .ref a, .ref t] ∧ H kd = some (.tup (ts.map V.ref)) ∧ TupsAt H ts rows ∧ ROk 4 rows ∧ D.Ok rows ∧ LrA P w H a D ex ∧ H t = some (.tup pvs) ∧ PlR rows js cf D.many pvs H ∧ LR rows D js cf ∧ (∀ q ∈ rows, ∀ i, i < q.2.toNat → D.many ^ i ≤ 4000) ∧ ∀ H', Same H H' → Q (.bl true) H'
abbrev N_law_least_right : List Str := ["kinds", "drawn", "told", "sizes", "ranked", "state", "gained", "which", "spots", "below", "knots", "row", "one", "spot"]
theorem sc_law_least_right : FnScope N_law_least_right ["kinds", "drawn", "told"] (defScope s_law_least_right) := ⟨rfl, rfl, rfl, by decide +kernel, rfl, by decide +kernel, by decide +kernel⟩
section
variable {P : Program} {w : World} {K : PySem.W.Frag} {mg : Str → Option Value} {base : Heap} {C CR : Addr}
theorem ok_right6 (T : Bl mg) (b_sum : mg "sum" = none) (c_law_sizes : DefOk P w K mg base CX0 1 "_law_sizes" spSizes) (c_law_is_plant : DefOk P w K mg base CX0 2 "_law_is_plant" spIsPl) (c_law_row_states : DefOk P w K mg base CX0 1 "_law_row_states" (spRowSt P w)) (c_law_ranked : DefOk P w K mg base CX0 1 "_law_ranked" spRanked) (c_law_tuples : DefOk P w K mg base CX0 1 "_law_tuples" spTuples6) (D : Def0 K mg "_law_least_right" s_law_least_right) : DefOk P w K mg base CX0 3 "_law_least_right" (spRight P w) := by
  refine D.ok sc_law_least_right (fun vs H Q E h => by obtain ⟨kd, a, t, ts, rows, D, ex, pvs, js, cf, rfl, _⟩ := h; rfl) (fun _ _ _ _ _ _ us hl => match us, hl with | [_, _, _], _ => rfl) (fun f cdv A outer s0 H vs Q E hr h => ?_)
  obtain ⟨kd, a, t, ts, rows, D, ex, pvs, js, cf, rfl, hk, hT, R, hD, hA, ht, hP, hLR, hpow, key⟩ := h
  have hu := hu_of hr
  have hu64 := hr.units
  have hu2 : (A.deeper (envOfC "_law_least_right" (defScope s_law_least_right) s0.heap.objs.size f cdv)).units + 2 < cLine := by omega
  have r4 := R.len
  have m40 := hD.m3
  refine ⟨_, (pss_cons (ps_if (PW.pt (pw_or (pt_not (pt_val (pe_callB call_isi (by rfl) T.b_isinstance (by decide +kernel) (pa_cons (pv 2) (pa_cons (pe_bltn (v := .ty "tuple") (by rfl) T.b_tuple boot_tuple rfl) pa_nil))))) (pw_or1 (pt_cmpR op_ne (pe_callB call_len_seq (by rfl) T.b_len boot_len (pa_cons (pv 2) pa_nil)) (pe_ix ix_list (pv 1) pe_int (fun _ _ => rfl)) (nomark _)))))
        (pss_one (ps_ret pe_bl))
        pss_nil)
      (pss_cons (ps_set (i := 3) sc_law_least_right.nd rfl (Or.inl rfl) (pe_d c_law_sizes (hr.mono (by decide)) pass0 (pa_cons (pv 0) pa_nil)))
      (pss_cons (ps_set (i := 4) sc_law_least_right.nd rfl (Or.inr rfl) (pe_lst pa_nil))
      (pss_cons (ps_for PassesOwn.never rfl (pi_range1 (by rfl) T.b_range (pa_cons (pe_ix ix_list (pv 1) pe_int (fun _ _ => rfl)) pa_nil)) (pg_name (i := 5) sc_law_least_right.nd rfl (Or.inl rfl))
        (pss_cons (ps_if (pt_cmpR op_isN (pe_ix ix_tup (pv 2) (pv 5) (fun _ _ => rfl)) pe_non (nomark _))
          (pss_cons (ps_expr (pe_bm PySem.F.plainAttrs_list PySem.F.slot_list_append PySem.F.type_list_append mt_append (pv 4) (pa_cons pe_non pa_nil)))
          (pss_one ps_continue))
          pss_nil)
        (pss_cons (ps_if (pt_not (pt_val (pe_d c_law_is_plant (hr.mono (by decide)) pass0 (pa_cons (pv 3) (pa_cons (pe_ix ix_tup (pv 2) (pv 5) (fun _ _ => rfl)) pa_nil)))))
          (pss_one (ps_ret pe_bl))
          pss_nil)
        (pss_cons (ps_if (pt_cmpR op_ne (pe_ix ix_tup (pe_d c_law_row_states (hr.mono (by decide)) pass0 (pa_cons (pv 3) (pa_cons (pe_ix ix_list (pv 1) pe_int (fun _ _ => rfl)) (pa_cons (pe_ix ix_tup (pv 2) (pv 5) (fun _ _ => rfl)) pa_nil)))) pe_int (fun _ _ => rfl)) (pv 5) (nomark _))
          (pss_one (ps_ret pe_bl))
          pss_nil)
        (pss_one (ps_expr (pe_bm PySem.F.plainAttrs_list PySem.F.slot_list_append PySem.F.type_list_append mt_append (pv 4) (pa_cons (pe_d c_law_ranked (hr.mono (by decide)) pass0 (pa_cons (pv 0) (pa_cons (pe_ix ix_tup (pv 2) (pv 5) (fun _ _ => rfl)) pa_nil))) pa_nil))))))))
      (pss_cons (ps_set (i := 6) sc_law_least_right.nd rfl (Or.inr rfl) (pe_lc (own := [("state", 5)]) (g := (gName 5)) rfl sc_law_least_right.nd (pi_range1 (by rfl) T.b_range (pa_cons (pe_ix ix_list (pv 1) pe_int (fun _ _ => rfl)) pa_nil)) (blkOk_by (N := N_law_least_right) (sc := defScope s_law_least_right) (by decide +kernel)) (fun _ _ _ _ _ => (pg_name (i := 5) sc_law_least_right.nd rfl (Or.inl rfl))) (fun _ _ _ _ _ => (pts_one (pt_cmpR op_notN (pe_ix (show IxR _ (rIxT K) from ix_tup) (pv 2) (pv 5) (fun _ _ => rfl)) pe_non (nomark _)))) (fun _ _ _ _ _ => (pv 5))))
      (pss_cons (ps_for PassesOwn.never rfl (pi_range1 (by rfl) T.b_range (pa_cons (pe_callB call_len_seq (by rfl) T.b_len boot_len (pa_cons (pv 0) pa_nil)) pa_nil)) (pg_name (i := 7) sc_law_least_right.nd rfl (Or.inl rfl))
        (pss_one (ps_for PassesOwn.never rfl (pi_list (pe_d c_law_tuples (hr.mono (by decide)) pass0 (pa_cons (pe_callB call_len_seq (by rfl) T.b_len boot_len (pa_cons (pv 6) pa_nil)) (pa_cons (pe_ix ix_tup (pe_ix ix_tup (pv 0) (pv 7) (fun _ _ => rfl)) pe_int (fun _ _ => rfl)) pa_nil)))) (pg_name (i := 8) sc_law_least_right.nd rfl (Or.inl rfl))
          (pss_cons (ps_set (i := 9) sc_law_least_right.nd rfl (Or.inl rfl) (pe_callTy call_tuple_of (by rfl) T.b_tuple (by decide +kernel) (pa_cons (pe_lc (own := [("spot", 13)]) (g := (gName 13)) (tt := tYes) rfl sc_law_least_right.nd (pi_tup (pv 8)) (blkOk_by (N := N_law_least_right) (sc := defScope s_law_least_right) (by decide +kernel)) (fun _ _ _ _ _ => (pg_name (i := 13) sc_law_least_right.nd rfl (Or.inl rfl))) (fun _ _ _ _ _ => pts_nil) (fun _ _ _ _ _ => (pe_ix (show IxR _ (rIxL K) from ix_list) (pv 6) (pv 13) (fun _ _ => rfl)))) pa_nil)))
          (pss_cons (ps_set (i := 10) sc_law_least_right.nd rfl (Or.inl rfl) (pe_op op_add pe_int (pe_callB (cr_sum rfl) (by rfl) b_sum (by decide +kernel) (pa_cons (pe_lc (own := [("one", 12)]) (g := (gName 12)) (tt := tYes) rfl sc_law_least_right.nd (pi_tup (pv 9)) (blkOk_by (N := N_law_least_right) (sc := defScope s_law_least_right) (by decide +kernel)) (fun _ _ _ _ _ => (pg_name (i := 12) sc_law_least_right.nd rfl (Or.inl rfl))) (fun _ _ _ _ _ => pts_nil) (fun _ _ _ _ _ => (pe_ix (show IxR _ (rIxT K) from ix_tup) (pe_ix (show IxR _ (rIxL K) from ix_list) (pv 4) (pv 12) (fun _ _ => rfl)) pe_int (fun _ _ => rfl)))) pa_nil))))
          (pss_cons (ps_set (i := 11) sc_law_least_right.nd rfl (Or.inl rfl) (pe_tup (pa_cons (pv 7) pa_nil)))
          (pss_cons (ps_for PassesOwn.never rfl (pi_tup (pv 9)) (pg_name (i := 12) sc_law_least_right.nd rfl (Or.inl rfl))
            (pss_one (ps_set (i := 11) sc_law_least_right.nd rfl (Or.inl rfl) (pe_op op_catA (pv 11) (pe_ix ix_tup (pe_ix ix_list (pv 4) (pv 12) (fun _ _ => rfl)) pe_int (fun _ _ => rfl))))))
          (pss_cons (ps_set (i := 5) sc_law_least_right.nd rfl (Or.inl rfl) (pe_nget hu2 (pe_ix ix_list (pv 1) pe_int (fun _ _ => rfl)) (pe_tup (pa_cons (pe_ix ix_tup (pe_ix ix_tup (pv 0) (pv 7) (fun _ _ => rfl)) pe_int (fun _ _ => rfl)) (pa_cons (pv 9) pa_nil))) (fun _ _ => rfl)))
          (pss_one (ps_if (PW.pt (pw_or (pt_cmpR op_isN (pe_ix ix_list (pv 4) (pv 5) (fun _ _ => rfl)) pe_non (nomark _)) (pw_or1 (pt_cmpR (show OpR _ (compareOp .Lt) (rLtD K) from op_ltD hu64) (pe_tup (pa_cons (pv 10) (pa_cons (pv 11) pa_nil))) (pe_ix ix_list (pv 4) (pv 5) (fun _ _ => rfl)) (nomark _)))))
            (pss_one (ps_ret pe_bl))
            pss_nil))))))))))
      (pss_one (ps_ret pe_bl)))))))), ?_⟩
  obtain ⟨tR, tM, tS, vR, a1, a2, a3, a4, a5⟩ := id hA
  have aat : ∀ (j : Nat) (v : V), ([.int ((D.many : Nat) : Int), .ref tR, .int ((D.rest : Nat) : Int), .ref tM, .ref tS] : List V)[j]? = some v → ([.int ((D.many : Nat) : Int), .ref tR, .int ((D.rest : Nat) : Int), .ref tM, .ref tS] ++ ex : List V)[j]? = some v := fun j v h => by
    rw [List.getElem?_append_left (List.getElem?_eq_some_iff.mp h).1]
    exact h
  have lp := hP.1
  refine ⟨_, rfl, _, _, _, _, true, rfl, .ty _, .base (.tup ht), rfl, _, rfl, ifn (by decide) ⟨_, rfl, t, _, rfl, .inr (SqT.of ht), _, rfl, a, _, _, _, rfl, rfl, SqL.of a1, at_ofG (j := 0) rfl (aat 0 _ rfl), rfl, _, rfl, ifn (by rw [lp]; simp) ?_⟩⟩
  refine ⟨_, rfl, kd, ts, rows, rfl, hk, hT, R, fun H1 d s1 hd => ?_⟩
  refine ⟨le_line (show 0 ≤ 10000000 by decide), fun RL hRL => ?_⟩
  have s2 := s1.upd_new (o := .lst []) hRL
  have hRL0 := s1.free hRL
  have R2 : (upd H1 RL (.lst [])) RL = some (.lst []) := upd_same
  have d2 : (upd H1 RL (.lst [])) d = some (.dK (wL rows)) := by rw [upd_ne (ne_of_none hd hRL)]; exact hd
  generalize upd H1 RL (.lst []) = H2 at s2 R2 d2
  have nRd : RL ≠ d := ne_of R2 d2 (fun e => nomatch e)
  refine ⟨_, rfl, a, _, _, _, rfl, rfl, SqL.of (s2 _ _ a1), at_ofG (j := 0) rfl (aat 0 _ rfl), _, rfl, by omega, by omega, for_range (n := (((D.many : Nat) : Int)).toNat) (fun i σ H' => ∃ (x5 : Option V) (rv : List V), σ = [some (.ref kd), some (.ref a), some (.ref t), some (.ref d), some (.ref RL), x5, none, none, none, none, none, none, none, none] ∧ Same H H' ∧ H' d = some (.dK (wL rows)) ∧ H' RL = some (.lst rv) ∧ RkAt js cf i rv H') ⟨none, [], rfl, s2, d2, R2, rfl, fun q h => absurd h (Nat.not_lt_zero _)⟩ ?_ ?_⟩
  · rintro i σ H3 hi ⟨x5, rv, rfl, s3, d3, R3, K3⟩
    rw [Int.toNat_natCast] at hi
    have hlen : rv.length < sizeLine := by rw [K3.1]; exact lt_line (by omega)
    have t3 := s3 _ _ ht
    rcases hP.2 i hi with ⟨hn, hv⟩ | ⟨hj, pa, hv, hpa⟩
    · refine ⟨_, rfl, _, rfl, t, _, _, _, rfl, rfl, SqT.of t3, at_ofG (j := i) (by omega) hv, rfl, _, rfl, ifp (decide_eq_true rfl) ?_⟩
      refine ⟨_, rfl, .inl ⟨rfl, _, SqL.of R3⟩, RL, _, _, rfl, rfl, R3, hlen, ?_⟩
      have kt : ∀ t ys, H3 t = some (.tup ys) → (upd H3 RL (.lst (rv ++ [.non]))) t = some (.tup ys) := fun t ys h => by rw [upd_ne (ne_of h R3 (fun e => nomatch e))]; exact h
      exact ⟨_, _, rfl, s3.upd_own hRL0, by rw [upd_ne (Ne.symm nRd)]; exact d3, upd_same, (K3.none hn).keep kt⟩
    · obtain ⟨_, hc, hfr, hne⟩ := hLR.ok i hj
      have hpa3 := s3 _ _ hpa
      refine ⟨_, rfl, _, rfl, t, _, _, _, rfl, rfl, SqT.of t3, at_ofG (j := i) (by omega) hv, rfl, _, rfl, ifn (fun e => by have := of_decide_eq_true e; cases this) ?_⟩
      refine ⟨_, rfl, _, rfl, _, rfl, t, _, _, _, rfl, rfl, SqT.of t3, at_ofG (j := i) (by omega) hv, d, pa, rows, cf i, rfl, d3, R, hpa3, hc, _, rfl, ifn (by decide) ?_⟩
      refine ⟨_, rfl, _, rfl, a, _, _, _, rfl, rfl, SqL.of (s3 _ _ a1), at_ofG (j := 4) rfl (aat 4 _ rfl), _, rfl, _, rfl, t, _, _, _, rfl, rfl, SqT.of t3, at_ofG (j := i) (by omega) hv, d, tS, pa, rows, D, cf i, rfl, d3, R, hD, a5.sm (fun p o h => s3 _ _ h), hpa3, hc, hne, fun H4 t4 ys s4 ht4 hy0 => ?_⟩
      rw [hfr] at hy0
      refine ⟨t4, _, _, _, rfl, rfl, SqT.of ht4, at_ofG (j := 0) rfl hy0, _, rfl, rfl, _, rfl, ifn ?_ ?_⟩
      · show ¬ (!decide (V.int ((i : Nat) : Int) = V.int (0 + ((i : Nat) : Int)))) = true
        rw [Int.zero_add]
        simp
      have s04 := s3.trans s4
      have R4 := s4 _ _ R3
      have d4 := s4 _ _ d3
      refine ⟨_, rfl, .inl ⟨rfl, _, SqL.of R4⟩, _, rfl, _, rfl, _, rfl, t, _, _, _, rfl, rfl, SqT.of (s4 _ _ t3), at_ofG (j := i) (by omega) hv, kd, pa, ts, rows, cf i, rfl, s04 _ _ hk, hT.keep (fun _ _ h => s04 _ _ h), R, s4 _ _ hpa3, hc, fun H5 p t' s5 hp ht' => ?_⟩
      have R5 := s5 _ _ R4
      have K5 := K3.keep fun t ys h => s5 _ _ (s4 _ _ h)
      refine ⟨RL, _, _, rfl, rfl, R5, hlen, ?_⟩
      have kt : ∀ t ys, H5 t = some (.tup ys) → (upd H5 RL (.lst (rv ++ [.ref p]))) t = some (.tup ys) := fun t ys h => by rw [upd_ne (ne_of h R5 (fun e => nomatch e))]; exact h
      exact ⟨_, _, rfl, (s04.trans s5).upd_own hRL0, by rw [upd_ne (Ne.symm nRd)]; exact s5 _ _ d4, upd_same, (K5.some hj hp ht').keep kt⟩
  rintro σ H3 ⟨x5, rv, rfl, s3, d3, R3, K3⟩
  rw [Int.toNat_natCast] at K3
  have t3 := s3 _ _ ht
  -- gained
  refine ⟨_, rfl, a, _, _, _, rfl, rfl, SqL.of (s3 _ _ a1), at_ofG (j := 0) rfl (aat 0 _ rfl), _, rfl, by omega, by omega, fun GL hGL => ?_⟩
  rw [Int.toNat_natCast]
  refine lc_it (walk_range (lo := 0) (n := D.many)) (fun k H' => Same H3 H' ∧ H' GL = some (.lst (nI (Gq js k)))) ⟨(Same.refl H3).upd_new hGL, upd_same⟩ (fun _ _ _ _ => True.intro) ?_ ?_
  · rintro k v H4 H4' hk ⟨s4, g4⟩ ⟨rfl, rfl⟩
    have t4 := s4 _ _ t3
    rw [Gq_snoc]
    rcases hP.2 k hk with ⟨hn, hv⟩ | ⟨hj, pa, hv, hpa⟩
    · refine ⟨rfl, _, rfl, _, rfl, t, _, _, _, rfl, rfl, SqT.of t4, at_ofG (j := k) (by omega) hv, rfl, _, rfl, ifn (by simp) ⟨s4, ?_⟩⟩
      rw [if_neg hn, List.append_nil]
      exact g4
    · refine ⟨rfl, _, rfl, _, rfl, t, _, _, _, rfl, rfl, SqT.of t4, at_ofG (j := k) (by omega) hv, rfl, _, rfl, ifp (by simp) ⟨_, rfl, _, g4, ?_, s4.upd_own hGL, ?_⟩⟩
      · rw [nI_len]
        have := Gq_len js k
        exact lt_line (by omega)
      · rw [upd_same, if_pos hj, ← nI_snoc]
        show some (HO.lst (nI (Gq js k) ++ [V.int (0 + ((k : Nat) : Int))])) = some (HO.lst (nI (Gq js k) ++ [V.int ((k : Nat) : Int)]))
        rw [Int.zero_add]
  rintro H4 ⟨s4, g4⟩
  have gG : ∀ q ∈ Gq js D.many, [q] ∈ js := fun q h => (Gq_mem.mp h).2
  have gL := Gq_len js D.many
  generalize Gq js D.many = G at g4 gG gL
  have s04 := s3.trans s4
  have d4 := s4 _ _ d3
  have R4 := s4 _ _ R3
  have K4 := K3.keep fun t ys h => s4 _ _ h
  have lts : (ts.map V.ref).length = rows.length := by rw [List.length_map, hT.1]
  refine ⟨_, rfl, kd, _, rfl, .inr (SqT.of (s04 _ _ hk)), _, rfl, by omega, by omega, for_range (n := (((ts.map V.ref).length : Nat) : Int).toNat) (fun i σ H' => ∃ (x5 x7 x8 x9 x10 x11 x12 : Option V), σ = [some (.ref kd), some (.ref a), some (.ref t), some (.ref d), some (.ref RL), x5, some (.ref GL), x7, x8, x9, x10, x11, x12, none] ∧ Same H4 H') ⟨x5, none, none, none, none, none, none, rfl, Same.refl H4⟩ ?_ ?_⟩
  rotate_left
  · rintro σ H5 ⟨x5, x7, x8, x9, x10, x11, x12, rfl, s5⟩
    exact key _ (s04.trans s5)
  rintro i σ H5 hi ⟨y5, x7, x8, x9, x10, x11, x12, rfl, s5⟩
  rw [Int.toNat_natCast, lts] at hi
  have hz := List.getElem?_eq_getElem hi
  have hzm := List.getElem_mem hi
  generalize rows[i] = z at hz hzm
  have hil : i < ts.length := by rw [hT.1]; exact hi
  have hu' := List.getElem?_eq_getElem hil
  generalize ts[i] = u at hu'
  have s05 := s04.trans s5
  have htu : (ts.map V.ref)[i]? = some (.ref u) := by rw [List.getElem?_map, hu']; rfl
  have hu5 := s05 _ _ (hT.2 i u z hu' hz)
  have hwd := R.wd z hzm
  have eq2 : z.2 = ((z.2.toNat : Nat) : Int) := by omega
  have hzn : HasN rows z.1 := ⟨z, hzm, rfl⟩
  have hzw := wR_of R hzm
  have hw3 : z.2.toNat ≤ 3 := by rw [← hzw]; exact wR_le R _
  refine ⟨_, rfl, GL, _, rfl, .inl (SqL.of (s5 _ _ g4)), _, rfl, _, rfl, kd, _, _, _, rfl, rfl, SqT.of (s05 _ _ hk), at_ofG (j := i) (by omega) htu, u, _, _, _, rfl, rfl, SqT.of hu5, at_ofG (j := 1) rfl rfl, G.length, z.2.toNat, by rw [nI_len]; show [V.int _, V.int z.2] = _; rw [← eq2], by omega, hw3, fun j hj => Nat.le_trans (Nat.pow_le_pow_left gL j) (hpow z hzm j hj), fun H6 LW s6 nLW WW => ?_⟩
  obtain ⟨vs', hLW, PW⟩ := WW
  have s46 := s5.trans s6
  refine ⟨LW, rfl, ⟨_, SqL.of hLW⟩, for_list (xs := vs'.map V.ref) (fun k σ H' => ∃ (x5 x8 x9 x10 x11 x12 : Option V), σ = [some (.ref kd), some (.ref a), some (.ref t), some (.ref d), some (.ref RL), x5, some (.ref GL), some (.int (0 + ((i : Nat) : Int))), x8, x9, x10, x11, x12, none] ∧ Same H6 H') ⟨y5, x8, x9, x10, x11, x12, rfl, Same.refl H6⟩ (fun k σ H' _ ⟨_, _, _, _, _, _, _, q⟩ => SqL.of (q _ _ hLW)) ?_ ?_⟩
  rotate_left
  · rintro σ H7 ⟨z5, x8, x9, x10, x11, x12, rfl, s7⟩
    exact ⟨_, _, _, _, _, _, _, rfl, s46.trans s7⟩
  rintro k v σ H7 hv ⟨z5, x8, x9, x10, x11, x12, rfl, s7⟩
  obtain ⟨us, hus, rfl⟩ := get_map_r hv
  have hkl : k < (ways (List.replicate z.2.toNat (List.range G.length))).length := by rw [← PW.1]; exact (List.getElem?_eq_some_iff.mp hus).1
  have hsp := List.getElem?_eq_getElem hkl
  have hspm := List.getElem_mem hkl
  generalize (ways (List.replicate z.2.toNat (List.range G.length)))[k] = sp at hsp hspm
  obtain ⟨p1, p2⟩ := rep_mem.mp hspm
  have hlt : ∀ s ∈ sp, s < G.length := fun s hs => List.mem_range.mp (p2 s hs)
  have hsp7 := s7 _ _ (PW.2 k us sp hus hsp)
  have s47 := s46.trans s7
  have g7 := s47 _ _ g4
  have bl_len : (sp.map fun s => G.getD s 0).length = z.2.toNat := by rw [List.length_map, p1]
  have bl_in : ∀ q ∈ sp.map fun s => G.getD s 0, q ∈ G := fun q hq => by
    obtain ⟨s, hs, rfl⟩ := List.mem_map.mp hq
    rw [List.getD_eq_getElem?_getD, List.getElem?_eq_getElem (hlt s hs)]
    exact List.getElem_mem (hlt s hs)
  -- below
  refine ⟨_, rfl, us, rfl, ⟨_, SqT.of hsp7⟩, fun E1 hE1 => lc_it (walk_tup (xs := nI sp)) (fun j H' => Same H7 H' ∧ H' E1 = some (.lst (nI ((sp.map fun s => G.getD s 0).take j)))) ⟨(Same.refl H7).upd_new hE1, upd_same⟩ (fun j H' _ ⟨q, _⟩ => SqT.of (q _ _ hsp7)) ?_ ?_⟩
  · rintro j v H8 H9 hj ⟨s8, e8⟩ ⟨rfl, hv⟩
    rw [nI_len] at hj
    have hsj := List.getElem?_eq_getElem hj
    rw [nI_at hsj] at hv
    injection hv with hv
    subst hv
    have hl := hlt _ (List.getElem_mem hj)
    have hgj := List.getElem?_eq_getElem hl
    have hbj : (sp.map fun s => G.getD s 0)[j]? = some G[sp[j]] := by
      rw [List.getElem?_map, hsj]
      show some (G.getD sp[j] 0) = _
      rw [List.getD_eq_getElem?_getD, hgj]
      rfl
    refine ⟨rfl, _, rfl, _, rfl, GL, _, _, _, rfl, rfl, SqL.of (s8 _ _ g7), at_ofG (j := sp[j]) rfl (nI_at hgj), _, e8, ?_, s8.upd_own hE1, ?_⟩
    · rw [nI_len, List.length_take, List.length_map]
      exact lt_line (n := min j _) (by omega)
    · rw [upd_same, take_snoc' hbj, ← nI_snoc]
  rintro H8 ⟨s8, e8⟩
  rw [nI_len, show sp.length = (sp.map fun s => G.getD s 0).length by rw [List.length_map], List.take_length] at e8
  generalize (sp.map fun s => G.getD s 0) = bl at bl_len bl_in e8
  refine ⟨E1, _, rfl, .inl ⟨SqL.of e8, fun tb htb => ?_⟩⟩
  have s9 := s8.upd_new (o := .tup (nI bl)) htb
  have b9 : (upd H8 tb (.tup (nI bl))) tb = some (.tup (nI bl)) := upd_same
  generalize upd H8 tb (.tup (nI bl)) = H9 at s9 b9
  have bl_js : ∀ q ∈ bl, [q] ∈ js := fun q hq => gG q (bl_in q hq)
  have bl_m : ∀ q ∈ bl, q < D.many := fun q hq => (hLR.ok q (bl_js q hq)).1
  obtain ⟨upj, upn⟩ := hLR.up i z bl hz bl_len bl_js
  have s49 := s47.trans s9
  have R9 := s49 _ _ R4
  have K9 := K4.keep fun t ys h => s49 _ _ h
  have b3 : bl.length ≤ 3 := by rw [bl_len]; exact hw3
  -- knots
  refine ⟨_, rfl, tb, rfl, ⟨_, SqT.of b9⟩, fun E2 hE2 => lc_it (walk_tup (xs := nI bl)) (fun j H' => Same H9 H' ∧ H' E2 = some (.lst (nI ((bl.map fun q => (cf q).length).take j)))) ⟨(Same.refl H9).upd_new hE2, upd_same⟩ (fun j H' _ ⟨q, _⟩ => SqT.of (q _ _ b9)) ?_ ?_⟩
  · rintro j v H10 H11 hj ⟨s10, e10⟩ ⟨rfl, hv⟩
    rw [nI_len] at hj
    have hbj := List.getElem?_eq_getElem hj
    rw [nI_at hbj] at hv
    injection hv with hv
    subst hv
    have hm := List.getElem_mem hj
    generalize bl[j] = q at hbj hm
    obtain ⟨p, t', hr1, hr2, hr3⟩ := K9.at_ (bl_m q hm) (bl_js q hm)
    refine ⟨rfl, _, rfl, _, rfl, RL, _, _, _, rfl, rfl, SqL.of (s10 _ _ R9), at_ofG (j := q) rfl hr1, p, _, _, _, rfl, rfl, SqT.of (s10 _ _ hr2), at_ofG (j := 0) rfl rfl, _, e10, ?_, s10.upd_own hE2, ?_⟩
    · rw [nI_len, List.length_take, List.length_map]
      exact lt_line (n := min j _) (by omega)
    · rw [upd_same, take_snoc' (show (bl.map fun q => (cf q).length)[j]? = some (cf q).length by rw [List.getElem?_map, hbj]; rfl), ← nI_snoc]
  rintro H10 ⟨s10, e10⟩
  rw [nI_len, show bl.length = (bl.map fun q => (cf q).length).length by rw [List.length_map], List.take_length] at e10
  have eZ : (fun i j : Int => V.int (i + j)) 1 ((bl.map fun q => (cf q).length).map fun n => ((n : Nat) : Int)).sum = V.int (((i :: (bl.map cf).flatten).length : Nat) : Int) := by
    show V.int (1 + _) = _
    rw [nI_sum, List.length_cons, List.length_flatten, List.map_map]
    congr 1
    show 1 + (((bl.map (List.length ∘ cf)).sum : Nat) : Int) = (((bl.map (List.length ∘ cf)).sum + 1 : Nat) : Int)
    omega
  refine ⟨E2, (bl.map fun q => (cf q).length).map fun n => ((n : Nat) : Int), rfl, SqL.of (by rw [e10, nI_int]), _, _, rfl, rfl, ?_⟩
  rw [eZ]
  have s90 := s9.trans s10
  have b10 := s10 _ _ b9
  have R10 := s10 _ _ R9
  have K10 := K9.keep fun t ys h => s10 _ _ h
  -- row
  refine ⟨_, rfl, le_line (show 1 ≤ 10000000 by decide), fun t0 ht0 => ?_⟩
  have s11 := (Same.refl H10).upd_new (o := .tup [.int (0 + ((i : Nat) : Int))]) ht0
  have t11 : (upd H10 t0 (.tup [.int (0 + ((i : Nat) : Int))])) t0 = some (.tup (nI (i :: ((bl.take 0).map cf).flatten))) := by
    rw [upd_same, Int.zero_add]
    rfl
  generalize upd H10 t0 (.tup [.int (0 + ((i : Nat) : Int))]) = H11 at s11 t11
  have cl2 : ∀ q ∈ bl, (cf q).length ≤ 2000 := fun q hq => (hLR.ok q (bl_js q hq)).2.1.l2
  have fl_le : ∀ j, (i :: ((bl.take j).map cf).flatten).length ≤ 7000 := fun j => by
    have h1 := flat_len (l := (bl.take j).map cf) (b := 2000) fun c hc => by
      obtain ⟨q, hq, rfl⟩ := List.mem_map.mp hc
      exact cl2 q (List.mem_of_mem_take hq)
    have h2 : ((bl.take j).map cf).length ≤ 3 := by rw [List.length_map, List.length_take]; omega
    have : ((bl.take j).map cf).length * 2000 ≤ 3 * 2000 := Nat.mul_le_mul_right _ h2
    rw [List.length_cons]
    omega
  refine ⟨_, rfl, tb, rfl, ⟨_, SqT.of (s11 _ _ b10)⟩, for_tup (xs := nI bl) (fun j σ H' => ∃ (x12 : Option V) (tc : Addr), σ = [some (.ref kd), some (.ref a), some (.ref t), some (.ref d), some (.ref RL), z5, some (.ref GL), some (.int (0 + ((i : Nat) : Int))), some (.ref us), some (.ref tb), some (.int (((i :: (bl.map cf).flatten).length : Nat) : Int)), some (.ref tc), x12, none] ∧ Same H10 H' ∧ H' tc = some (.tup (nI (i :: ((bl.take j).map cf).flatten))))
    ⟨x12, t0, rfl, s11, t11⟩ (fun j σ H' _ ⟨_, _, _, q, _⟩ => SqT.of (q _ _ b10)) ?_ ?_⟩
  · rintro j v σ H12 hv ⟨w12, tc, rfl, s12, t12⟩
    have hjl : j < bl.length := by rw [← nI_len bl]; exact (List.getElem?_eq_some_iff.mp hv).1
    have hbj := List.getElem?_eq_getElem hjl
    rw [nI_at hbj] at hv
    cases hv
    have hm := List.getElem_mem hjl
    have fl := fl_le (j + 1)
    have et : i :: ((bl.take (j + 1)).map cf).flatten = (i :: ((bl.take j).map cf).flatten) ++ cf bl[j] := by
      rw [take_snoc' hbj, List.map_append, List.flatten_append]
      show i :: (((bl.take j).map cf).flatten ++ (cf bl[j] ++ [])) = _
      rw [List.append_nil]
      rfl
    rw [et] at fl
    generalize bl[j] = q at hbj hm et fl
    obtain ⟨p, t', hr1, hr2, hr3⟩ := K10.at_ (bl_m q hm) (bl_js q hm)
    obtain ⟨_, _, _, hne⟩ := hLR.ok q (bl_js q hm)
    refine ⟨_, rfl, _, rfl, _, rfl, RL, _, _, _, rfl, rfl, SqL.of (s12 _ _ R10), at_ofG (j := q) rfl hr1, p, _, _, _, rfl, rfl, SqT.of (s12 _ _ hr2), at_ofG (j := 1) rfl rfl, tc, t', _, _, rfl, rfl, SqT.of t12, SqT.of (s12 _ _ hr3), le_line (by rw [nI_len, nI_len, ← List.length_append]; omega), (fun z => by cases z), (fun _ z => ?_), fun _ _ p hp => ?_⟩
    · exact absurd (List.eq_nil_of_length_eq_zero (by rw [← nI_len (cf q), z]; rfl)) hne
    · refine ⟨_, p, rfl, s12.upd_new hp, ?_⟩
      rw [upd_same, et]
      congr 2
      unfold nI
      rw [List.map_append]
  rintro σ H12 ⟨w12, tc, rfl, s12, t12⟩
  rw [nI_len, List.take_length] at t12
  have s012 := s12
  have hkd12 := s12 _ _ (s10 _ _ (s9 _ _ (s7 _ _ (s6 _ _ (s5 _ _ (s04 _ _ hk))))))
  have hu12 := s12 _ _ (s10 _ _ (s9 _ _ (s7 _ _ (s6 _ _ hu5))))
  have a112 := s12 _ _ (s10 _ _ (s9 _ _ (s7 _ _ (s6 _ _ (s5 _ _ (s04 _ _ a1))))))
  have sH12 : Same H H12 := fun p o h => s12 _ _ (s10 _ _ (s9 _ _ (s7 _ _ (s6 _ _ (s5 _ _ (s04 _ _ h))))))
  have b12 := s12 _ _ b10
  refine ⟨_, rfl, a, _, _, _, rfl, rfl, SqL.of a112, at_ofG (j := 4) rfl (aat 4 _ rfl), _, rfl, _, rfl, kd, _, _, _, rfl, rfl, SqT.of hkd12, at_ofG (j := i) (by omega) htu, u, _, _, _, rfl, rfl, SqT.of hu12, at_ofG (j := 0) rfl rfl, _, rfl, le_line (show 2 ≤ 10000000 by decide), fun pk hpk => ?_⟩
  have s13 := (Same.refl H12).upd_new (o := .tup [.str z.1, .ref tb]) hpk
  have p13 : (upd H12 pk (.tup [.str z.1, .ref tb])) pk = some (.tup [.str z.1, .ref tb]) := upd_same
  generalize upd H12 pk (.tup [.str z.1, .ref tb]) = H13 at s13 p13
  have nk : NKAt H13 (nkR (z.1, bl)) pk := ⟨tb, p13, by
    rw [s13 _ _ b12]
    show _ = some (HO.tup ((tkey bl).map kV))
    rw [tkey_V]⟩
  have hval := hD.val R hzn (ss := bl) (by rw [bl_len, hzw]) bl_m
  refine ⟨tS, pk, _, _, _, rfl, rfl, a5.sm (fun p o h => s13 _ _ (sH12 p o h)), nk, hval, ?_⟩
  obtain ⟨qm, _, _, _⟩ := hLR.ok _ upj
  have K13 := K10.keep fun t ys h => s13 _ _ (s12 _ _ h)
  have R13 := s13 _ _ (s12 _ _ R10)
  have t13 := s13 _ _ t12
  generalize D.stp z.1 bl = q' at upj upn qm
  obtain ⟨p, t', hr1, hr2, hr3⟩ := K13.at_ qm upj
  refine ⟨_, rfl, _, rfl, RL, _, _, _, rfl, rfl, SqL.of R13, at_ofG (j := q') rfl hr1, rfl, _, rfl, ifn (fun e => by have := of_decide_eq_true e; cases this) ?_⟩
  refine ⟨_, rfl, _, rfl, le_line (show 2 ≤ 10000000 by decide), fun tp htp => ?_⟩
  have s14 := (Same.refl H13).upd_new (o := .tup [.int (((i :: (bl.map cf).flatten).length : Nat) : Int), .ref tc]) htp
  have p14 : (upd H13 tp (.tup [.int (((i :: (bl.map cf).flatten).length : Nat) : Int), .ref tc])) tp = some (.tup [.int (((i :: (bl.map cf).flatten).length : Nat) : Int), .ref tc]) := upd_same
  generalize upd H13 tp (.tup [.int (((i :: (bl.map cf).flatten).length : Nat) : Int), .ref tc]) = H14 at s14 p14
  refine ⟨_, rfl, _, rfl, RL, _, _, _, rfl, rfl, SqL.of (s14 _ _ R13), at_ofG (j := q') rfl hr1, .tuple [.int (((i :: (bl.map cf).flatten).length : Nat) : Int), cD (i :: (bl.map cf).flatten)], .tuple [.int (((cf q').length : Nat) : Int), cD (cf q')], .tup (SqT.of p14) (.cons (.int _) (.cons (.tup (SqT.of (s14 _ _ t13)) (dp_ints _)) .nil)), .tup (SqT.of (s14 _ _ hr2)) (.cons (.int _) (.cons (.tup (SqT.of (s14 _ _ hr3)) (dp_ints _)) .nil)), rk_alike _ _, by simp, rk_depth _, ?_⟩
  rw [rk_lt, decide_eq_false upn]
  refine ⟨_, rfl, ifn (by decide) ?_⟩
  exact ⟨_, _, _, _, _, _, rfl, fun p o h => s14 _ _ (s13 _ _ (s12 _ _ (s10 _ _ (s9 _ _ (s7 _ _ h)))))⟩
end
end Sh
end
section
set_option Elab.async false
set_option linter.all false
set_option maxRecDepth 100000
set_option maxHeartbeats 16000000
namespace Sh
open PySem PySem.Spec PyProof.Rows L2 NdefX LamX
open C8 (pss_cut tCut)
open Evl (ixN_nat)
/-- the plant at the depth d: the leaf k0 below, the wide kind kd of the width w above -/
def dbP (k0 kd w : Nat) : Nat → List Nat
  | 0 => [k0]
  | d + 1 => kd :: (List.replicate w (dbP k0 kd w d)).flatten
theorem dbP_len (k0 kd w d : Nat) : (dbP k0 kd w (d + 1)).length = 1 + w * (dbP k0 kd w d).length := by
  show (kd :: (List.replicate w (dbP k0 kd w d)).flatten).length = _
  rw [List.length_cons, PyProof.Rows.lm_len_rep_flat]
  omega
theorem dbP_pos (k0 kd w d : Nat) : 0 < (dbP k0 kd w d).length := by
  cases d with
  | zero => show 0 < 1; omega
  | succ d => rw [dbP_len]; omega
theorem mod_inj6 {n t i j : Nat} (hi : i < n) (hj : j < n) (h : (i + t) % n = (j + t) % n) : i = j := by
  have e1 := Nat.div_add_mod (i + t) n
  have e2 := Nat.div_add_mod (j + t) n
  rw [h] at e1
  by_cases c : (i + t) / n = (j + t) / n
  · rw [c] at e1
    omega
  · rcases Nat.lt_or_gt_of_ne c with c | c
    · have : n * ((i + t) / n + 1) ≤ n * ((j + t) / n) := Nat.mul_le_mul_left _ c
      rw [Nat.mul_add, Nat.mul_one] at this
      omega
    · have : n * ((j + t) / n + 1) ≤ n * ((i + t) / n) := Nat.mul_le_mul_left _ c
      rw [Nat.mul_add, Nat.mul_one] at this
      omega
theorem rep_ne {α : Type} {w : Nat} {a b : α} (hw : 1 ≤ w) (h : List.replicate w a = List.replicate w b) : a = b := by
  cases w with
  | zero => omega
  | succ w => exact (List.cons.inj h).1
/-- what a doubler's step is -/
theorem db_stp {D : RdD} {z : Str} {w : Nat} (hw : 1 ≤ w) (hr : D.rws = dbR z w D.many D.rest (D.many - 1)) (hrest : D.rest < D.many) :
    (∀ d, d < D.many - 1 → D.stp z (List.replicate w ((d + D.rest) % D.many)) = (d + D.rest + 1) % D.many) ∧
    (∀ z' bl, D.stp z' bl ≠ D.rest → z' = z ∧ ∃ d, d < D.many - 1 ∧ bl = List.replicate w ((d + D.rest) % D.many)) := by
  constructor
  · intro d hd
    unfold RdD.stp
    cases hf : D.rws.find? (fun e => decide (ek e = (z, List.replicate w ((d + D.rest) % D.many)))) with
    | none =>
      have := List.find?_eq_none.mp hf (z, List.replicate w ((d + D.rest) % D.many), (d + D.rest + 1) % D.many) (by rw [hr]; unfold dbR; exact List.mem_map.mpr ⟨d, List.mem_range.mpr hd, rfl⟩)
      exact absurd (decide_eq_true rfl) this
    | some e =>
      have hm := List.mem_of_find?_eq_some hf
      have hp0 := List.find?_some hf
      have hp := of_decide_eq_true hp0
      rw [hr] at hm
      unfold dbR at hm
      obtain ⟨d', hd', rfl⟩ := List.mem_map.mp hm
      have e2 := (Prod.mk.inj hp).2
      have e3 := rep_ne hw e2
      have := mod_inj6 (by have := List.mem_range.mp hd'; omega) (by omega) e3
      subst this
      rfl
  · intro z' bl hne
    unfold RdD.stp at hne
    cases hf : D.rws.find? (fun e => decide (ek e = (z', bl))) with
    | none => rw [hf] at hne; exact absurd rfl hne
    | some e =>
      have hm := List.mem_of_find?_eq_some hf
      have hp0 := List.find?_some hf
      have hp := of_decide_eq_true hp0
      rw [hr] at hm
      unfold dbR at hm
      obtain ⟨d', hd', rfl⟩ := List.mem_map.mp hm
      obtain ⟨e1, e2⟩ := Prod.mk.inj hp
      exact ⟨e1.symm, d', List.mem_range.mp hd', e2.symm⟩
section
variable {rows : List Row} {D : RdD} {js : List (List Nat)} {cl : Str → List Nat → Option Nat} {ss : List Nat} {cs : List (List Nat)}
/-- a row of settled ones, and its value -/
theorem off_val (I : MI rows [D] js cl) {k : Nat} {q : Row} {r : List Nat} {s : Nat} (hs : cl q.1 (rwS ss r) = some s) {f : Nat → Nat} (hf : ∀ j ∈ r, js[ss.getD j 0]? = some [f j]) : js[s]? = some [D.stp q.1 (r.map f)] := by
  obtain ⟨_, _, _, hj⟩ := I.cs _ _ _ hs
  have ej : jst [D] q.1 (rwJ js (rwS ss r)) = [D.stp q.1 (r.map f)] := by
    show [D.stp q.1 (List.map (fun b => b.getD 0 0) (List.map (fun q => js.getD q []) (List.map (fun i => ss.getD i 0) r)))] = _
    rw [List.map_map, List.map_map]
    congr 2
    refine List.map_congr_left fun j hj => ?_
    show (js.getD (ss.getD j 0) []).getD 0 0 = f j
    rw [List.getD_eq_getElem?_getD (l := js), hf j hj]
    rfl
  rw [ej] at hj
  exact hj
theorem db_all (R : ROk 4 rows) (hD : D.Ok rows) (I : MI rows [D] js cl) (M : MDn rows cl js.length) (L : LC rows cl ss cs (fun _ _ => True) (fun _ => none)) (hss : ∀ s ∈ ss, s < js.length) {k0 kd w : Nat} {q0 pr : Row} (h0 : rows[k0]? = some q0) (h0z : q0.2.toNat = 0) (h0m : ∀ k q, rows[k]? = some q → q.2.toNat = 0 → k0 ≤ k) (hd : rows[kd]? = some pr) (hw : pr.2.toNat = w) (hw2 : 2 ≤ w) (hr : D.rws = dbR pr.1 w D.many D.rest (D.many - 1)) :
    (∀ i, i < ss.length → ∃ s, ss[i]? = some s ∧ js[s]? = some [(i + D.rest) % D.many] ∧ cs[i]? = some (dbP k0 kd w i) ∧ i < D.many) ∧ (ss.length < D.many → 2000 < (dbP k0 kd w ss.length).length ∧ ss.length < js.length) ∧ js.length ≤ D.many := by
  have hre := hD.re
  obtain ⟨st1, st2⟩ := db_stp (by omega : 1 ≤ w) hr hre
  have rest0 : (0 + D.rest) % D.many = D.rest := by rw [Nat.zero_add]; exact Nat.mod_eq_of_lt hre
  -- the leaf
  obtain ⟨s0, hs0⟩ := M q0.1 ⟨q0, List.mem_of_getElem? h0, rfl⟩ [] (by rw [wR_of R (List.mem_of_getElem? h0), h0z]; rfl) (fun q h => nomatch h)
  have O0 : Off rows cl ss k0 [] s0 := ⟨⟨q0, h0, h0z.symm, hs0⟩, fun i h => nomatch h⟩
  have v0 : js[s0]? = some [D.rest] := by
    have := off_val (ss := ss) (r := []) (f := fun _ => 0) (k := k0) I hs0 (fun j h => nomatch h)
    rw [this]
    congr 2
    refine Classical.byContradiction fun hne => ?_
    obtain ⟨_, d, _, e⟩ := st2 _ _ hne
    have := congrArg List.length e
    rw [List.length_replicate] at this
    have : ([] : List Nat).length = w := this
    simp at this
    omega
  obtain ⟨i0, c0, g1, g2, g3⟩ := L.fin (fun _ _ _ _ => trivial) O0 (by show 1 ≤ 2000; omega)
  have A : ∀ n i, i < n → i < ss.length → ∃ s, ss[i]? = some s ∧ js[s]? = some [(i + D.rest) % D.many] ∧ cs[i]? = some (dbP k0 kd w i) ∧ i < D.many := fun n => by
    induction n with
    | zero => intro i h; omega
    | succ n ih =>
      intro i hi hil
      have hs := List.getElem?_eq_getElem hil
      have hc := List.getElem?_eq_getElem (show i < cs.length by rw [L.len]; exact hil)
      generalize ss[i] = s at hs
      generalize cs[i]'(by rw [L.len]; exact hil) = c at hc
      obtain ⟨k, r, o, lt, ec, _⟩ := L.org i s c hs hc
      obtain ⟨q, q1, q2, q3⟩ := o.kl
      have hv := off_val (f := fun j => (j + D.rest) % D.many) (k := k) I q3 fun j hj => by
        obtain ⟨sj, e1, e2, _⟩ := ih j (by have := lt j hj; omega) (o.lt j hj)
        rw [List.getD_eq_getElem?_getD, e1]
        exact e2
      by_cases hst : D.stp q.1 (r.map fun j => (j + D.rest) % D.many) = D.rest
      · rw [hst] at hv
        have es : s = s0 := get_uniq I.nd hv v0
        subst es
        have ei : i0 = i := get_uniq L.nd g1 hs
        subst ei
        have ipos : i0 = 0 := by
          refine Classical.byContradiction fun hne => ?_
          obtain ⟨sz, e1, e2, _, _⟩ := ih 0 (by omega) (by omega)
          rw [rest0] at e2
          have := get_uniq I.nd hv e2
          subst this
          exact hne (get_uniq L.nd hs e1)
        subst ipos
        have er : r = [] := by
          cases r with
          | nil => rfl
          | cons y r => exact absurd (lt y List.mem_cons_self) (Nat.not_lt_zero _)
        subst er
        have hk := h0m k q q1 q2.symm
        rw [hc] at g2
        cases g2
        have ek : k = k0 := by
          refine Nat.le_antisymm (Nat.le_of_not_lt fun hlt => g3 ?_) hk
          rw [ec]
          refine .inr ⟨rfl, ?_⟩
          show k0 :: _ < k :: _
          exact List.cons_lt_cons_iff.mpr (.inl hlt)
        subst ek
        refine ⟨s, hs, by rw [rest0]; exact hv, ?_, by omega⟩
        rw [hc, ec]
        rfl
      · obtain ⟨ez, d, hdm, ebl⟩ := st2 _ _ hst
        have ek : k = kd := nd_at R.nd (show (rows.map (·.1))[k]? = some q.1 by rw [List.getElem?_map, q1]; rfl) (by rw [List.getElem?_map, hd, ez]; rfl)
        subst ek
        rw [hd] at q1
        cases q1
        have hrl : r.length = w := by rw [q2, hw]
        have all : ∀ j ∈ r, j = d := fun j hj => by
          obtain ⟨sj, _, _, _, jm⟩ := ih j (by have := lt j hj; omega) (o.lt j hj)
          have hm : (j + D.rest) % D.many ∈ r.map fun j => (j + D.rest) % D.many := List.mem_map.mpr ⟨j, hj, rfl⟩
          rw [ebl] at hm
          exact mod_inj6 jm (by omega) (List.mem_replicate.mp hm).2
        have er : r = List.replicate w d := by rw [← hrl]; exact List.eq_replicate_iff.mpr ⟨rfl, all⟩
        have hdr : d ∈ r := by rw [er]; exact List.mem_replicate.mpr ⟨by omega, rfl⟩
        have hdi := lt d hdr
        rw [ebl, st1 d hdm] at hv
        have ei : i = d + 1 := by
          refine Classical.byContradiction fun hne => ?_
          obtain ⟨sz, e1, e2, _, _⟩ := ih (d + 1) (by omega) (by omega)
          rw [show d + 1 + D.rest = d + D.rest + 1 by omega] at e2
          have := get_uniq I.nd hv e2
          subst this
          exact hne (get_uniq L.nd hs e1)
        subst ei
        obtain ⟨sd, _, _, e3, _⟩ := ih d (by omega) (o.lt d hdr)
        refine ⟨s, hs, by rw [show d + 1 + D.rest = d + D.rest + 1 by omega]; exact hv, ?_, by omega⟩
        rw [hc, ec, er]
        unfold cO eC rwC
        rw [List.map_replicate, List.getD_eq_getElem?_getD, e3]
        rfl
  have A' := fun i hi => A (i + 1) i (Nat.lt_succ_self i) hi
  refine ⟨A', fun hm => ?_, ?_⟩
  · have mpos : 0 < ss.length := by
      have := (List.getElem?_eq_some_iff.mp g1).1
      omega
    have hrl : ∀ j ∈ List.replicate w (ss.length - 1), j < ss.length := fun j hj => by
      rw [(List.mem_replicate.mp hj).2]
      omega
    obtain ⟨sd, e1, e2, e3, _⟩ := A' (ss.length - 1) (by omega)
    have hrs : ∀ x ∈ rwS ss (List.replicate w (ss.length - 1)), x < js.length := fun x hx => by
      unfold rwS at hx
      obtain ⟨p, hp, rfl⟩ := List.mem_map.mp hx
      have := hrl p hp
      rw [List.getD_eq_getElem?_getD, List.getElem?_eq_getElem this]
      exact hss _ (List.getElem_mem this)
    obtain ⟨s', hs'⟩ := M pr.1 ⟨pr, List.mem_of_getElem? hd, rfl⟩ (rwS ss (List.replicate w (ss.length - 1))) (by unfold rwS; rw [List.length_map, List.length_replicate, wR_of R (List.mem_of_getElem? hd), hw]) hrs
    have O : Off rows cl ss kd (List.replicate w (ss.length - 1)) s' := ⟨⟨pr, hd, by rw [List.length_replicate, hw], hs'⟩, hrl⟩
    have hv := off_val (f := fun j => (j + D.rest) % D.many) (k := kd) I hs' fun j hj => by
      rw [(List.mem_replicate.mp hj).2, List.getD_eq_getElem?_getD, e1]
      exact e2
    rw [List.map_replicate, st1 (ss.length - 1) (by omega), show ss.length - 1 + D.rest + 1 = ss.length + D.rest by omega] at hv
    have nin : ∀ i, ss[i]? ≠ some s' := fun i hi => by
      have hil := (List.getElem?_eq_some_iff.mp hi).1
      obtain ⟨si, f1, f2, _, im⟩ := A' i hil
      rw [hi] at f1
      cases f1
      rw [hv] at f2
      have := mod_inj6 hm im (List.cons.inj (Option.some.inj f2)).1
      omega
    have eP : cO cs kd (List.replicate w (ss.length - 1)) = dbP k0 kd w ss.length := by
      unfold cO eC rwC
      rw [List.map_replicate, List.getD_eq_getElem?_getD, e3]
      conv => rhs; rw [show ss.length = (ss.length - 1) + 1 by omega]
      rfl
    constructor
    · refine Nat.lt_of_not_le fun hle => ?_
      obtain ⟨i, c, h1, _, _⟩ := L.fin (fun _ _ _ _ => trivial) O (by rw [eP]; exact hle)
      exact nin i h1
    · have hsl : s' < js.length := (List.getElem?_eq_some_iff.mp hv).1
      have := sub_len (s' :: ss) (List.range js.length) (List.nodup_cons.mpr ⟨fun hm => by
        obtain ⟨i, hi⟩ := List.mem_iff_getElem?.mp hm
        exact nin i hi, L.nd⟩) fun x hx => by
        rcases List.mem_cons.mp hx with rfl | h
        · exact List.mem_range.mpr hsl
        · exact List.mem_range.mpr (hss x h)
      rw [List.length_cons, List.length_range] at this
      omega
  · have := sub_len js ((List.range D.many).map fun q => [q]) I.nd fun j hjm => by
      obtain ⟨q, rfl, hq⟩ := one_j (I.ok j hjm)
      exact List.mem_map.mpr ⟨q, List.mem_range.mpr hq, rfl⟩
    rw [List.length_map, List.length_range] at this
    exact this
end
end Sh
end
section
set_option Elab.async false
set_option linter.all false
set_option maxRecDepth 100000
set_option maxHeartbeats 16000000
namespace Sh
open PySem PySem.Spec PyProof.Rows L2 NdefX LamX
open C8 (pss_cut tCut)
open Evl (ixN_nat)
theorem leaf0 : ∀ {l : List Row}, (∀ q ∈ l, 0 ≤ q.2) → (∃ q ∈ l, q.2 = 0) → ∃ (k0 : Nat) (q0 : Row), l[k0]? = some q0 ∧ q0.2 = 0 ∧ (∀ (k : Nat) (q : Row), l[k]? = some q → q.2.toNat = 0 → k0 ≤ k) ∧ (leafs l)[0]? = some q0.1
  | [], _, h => by obtain ⟨q, h, _⟩ := h; cases h
  | q :: l, h0, h => by
    by_cases c : q.2 = 0
    · refine ⟨0, q, rfl, c, fun _ _ _ _ => Nat.zero_le _, ?_⟩
      unfold leafs
      rw [List.filter_cons_of_pos (by unfold lfB; rw [c]; rfl)]
      rfl
    · obtain ⟨k0, q0, h1, h2, h3, h4⟩ := leaf0 (l := l) (fun q' h' => h0 q' (List.mem_cons_of_mem _ h')) (by
        obtain ⟨q', hq', e⟩ := h
        rcases List.mem_cons.mp hq' with rfl | hm
        · exact absurd e c
        · exact ⟨q', hm, e⟩)
      refine ⟨k0 + 1, q0, h1, h2, fun k q' hk hz => ?_, ?_⟩
      · cases k with
        | zero =>
          cases hk
          have := h0 q List.mem_cons_self
          omega
        | succ k => exact Nat.succ_le_succ (h3 k q' hk hz)
      · unfold leafs at h4 ⊢
        rw [List.filter_cons_of_neg (by unfold lfB; simp [c])]
        exact h4
theorem dbP_names (rows : List Row) {k0 kd w d : Nat} {pr : Row} (hd : rows[kd]? = some pr) : sV (rkN rows (dbP k0 kd w (d + 1))) = [V.str pr.1] ++ (List.replicate w (sV (rkN rows (dbP k0 kd w d)))).flatten := by
  have e : ∀ c : List Nat, sV (rkN rows c) = c.map fun k => V.str (nmK rows k) := fun c => by
    unfold sV rkN
    rw [List.map_map]
    rfl
  rw [e, e]
  show V.str (nmK rows kd) :: (List.replicate w (dbP k0 kd w d)).flatten.map _ = _
  rw [List.map_flatten, List.map_replicate, nmK_at hd]
  rfl
theorem sam_strs {H : Hp} {a b : Addr} {l : List Str} {n : Nat} (h1 : H a = some (.tup (sV l))) (h2 : H b = some (.tup (sV l))) (hl : l.length ≤ 10000000) : Sam6 (n + 2) H (.ref a) (.ref b) := by
  refine .inr (.inr ⟨a, b, _, _, rfl, rfl, h1, h2, rfl, by rw [sV_len]; exact hl, fun i x y hx hy => ?_⟩)
  rw [hx] at hy
  cases hy
  unfold sV at hx
  rw [List.getElem?_map] at hx
  obtain ⟨z, _, rfl⟩ := Option.map_eq_some_iff.mp hx
  exact .inr (.inl ⟨_, rfl, rfl⟩)
def spDblR (P : Program) (w : World) (C CR : Addr) (Tb : List (Addr × Str)) : Sp := fun vs H Q _ => ∃ (kd a u b pa : Addr) (ts : List Addr) (rows : List Row) (D : RdD) (pr : Row), vs = [.ref kd, .ref a, .ref u] ∧ H kd = some (.tup (ts.map V.ref)) ∧ TupsAt H ts rows ∧ ROk 4 rows ∧ D.Ok rows ∧ LrA P w H a D [.ref pa] ∧ H pa = some (.tup [.str pr.1, .int pr.2]) ∧ pr ∈ rows ∧ 2 ≤ pr.2 ∧ 2 ≤ D.many ∧ D.rws = dbR pr.1 pr.2.toNat D.many D.rest (D.many - 1) ∧ RdAt C CR H u b rows D ∧ Tabs Tb H ∧ ∀ H', Q (.bl true) H'
abbrev N_law_doubled_right : List Str := ["kinds", "drawn", "reader", "plant", "due", "depth", "pair"]
theorem sc_law_doubled_right : FnScope N_law_doubled_right ["kinds", "drawn", "reader"] (defScope s_law_doubled_right) := ⟨rfl, rfl, rfl, by decide +kernel, rfl, by decide +kernel, by decide +kernel⟩
section
variable {P : Program} {w : World} {K : PySem.W.Frag} {mg : Str → Option Value} {base : Heap} {C CR : Addr} {Tb : List (Addr × Str)}
theorem ok_dblr6 (T : Bl mg) (c_law_same : DefOk P w K mg base CX0 4 "_law_same" (spSam6 4)) (c_law_told : DefOk P w K mg base CX0 12 "_law_told" (spTold C CR Tb)) (D : Def0 K mg "_law_doubled_right" s_law_doubled_right) : DefOk P w K mg base CX0 13 "_law_doubled_right" (spDblR P w C CR Tb) := by
  refine D.ok sc_law_doubled_right (fun vs H Q E h => by obtain ⟨kd, a, u, b, pa, ts, rows, D, pr, rfl, _⟩ := h; rfl) (fun _ _ _ _ _ _ us hl => match us, hl with | [_, _, _], _ => rfl) (fun f cdv A outer s0 H vs Q E hr h => ?_)
  obtain ⟨kd, a, u, b, pa, ts, rows, D, pr, rfl, hk, hT, R, hD, hA, hpa, hpm, hp2, hm2, hrw, hRd, hTb, key⟩ := h
  have r4 := R.len
  have m40 := hD.m3
  have hre := hD.re
  refine ⟨_, (pss_cons (ps_set (i := 3) sc_law_doubled_right.nd rfl (Or.inl rfl) (pe_tup (pa_cons (pe_ix ix_list (pe_lc (own := [("pair", 6)]) (g := (gName 6)) rfl sc_law_doubled_right.nd (pi_tup (pv 0)) (blkOk_by (N := N_law_doubled_right) (sc := defScope s_law_doubled_right) (by decide +kernel)) (fun _ _ _ _ _ => (pg_name (i := 6) sc_law_doubled_right.nd rfl (Or.inl rfl))) (fun _ _ _ _ _ => (pts_one (pt_cmpR op_eq (pe_ix (show IxR _ (rIxT K) from ix_tup) (pv 6) pe_int (fun _ _ => rfl)) pe_int (nomark _)))) (fun _ _ _ _ _ => (pe_ix (show IxR _ (rIxT K) from ix_tup) (pv 6) pe_int (fun _ _ => rfl)))) pe_int (fun _ _ => rfl)) pa_nil)))
      (pss_cons (ps_set (i := 4) sc_law_doubled_right.nd rfl (Or.inl rfl) (pe_op op_rep (pe_lst (pa_cons pe_non pa_nil)) (pe_ix ix_list (pv 1) pe_int (fun _ _ => rfl))))
      (pss_cons (ps_for PassesOwn.never rfl (pi_range1 (by rfl) T.b_range (pa_cons (pe_ix ix_list (pv 1) pe_int (fun _ _ => rfl)) pa_nil)) (pg_name (i := 5) sc_law_doubled_right.nd rfl (Or.inl rfl))
        (pss_cons (ps_if (pt_cmpR op_gt (pe_callB call_len_seq (by rfl) T.b_len boot_len (pa_cons (pv 3) pa_nil)) pe_int (nomark _))
          (pss_one (ps_ret (pe_d c_law_same (hr.mono (by decide)) pass0 (pa_cons (pe_d c_law_told (hr.mono (by decide)) pass0 (pa_cons (pv 2) pa_nil)) (pa_cons (pe_tup (pa_cons pe_str (pa_cons pe_str (pa_cons pe_int pa_nil)))) pa_nil)))))
          pss_nil)
        (pss_cons (ps_asg (pv 3) (pg_sub (pv 4) (pe_op op_mod (pe_callTy call_int1 (by rfl) T.b_int (by decide +kernel) (pa_cons (pe_op op_add (pv 5) (pe_ix ix_list (pv 1) pe_int (fun _ _ => rfl))) pa_nil)) (pe_ix ix_list (pv 1) pe_int (fun _ _ => rfl))) set_list))
        (pss_one (ps_set (i := 3) sc_law_doubled_right.nd rfl (Or.inl rfl) (pe_op op_catA (pe_tup (pa_cons (pe_ix ix_tup (pe_ix ix_list (pv 1) pe_int (fun _ _ => rfl)) pe_int (fun _ _ => rfl)) pa_nil)) (pe_op op_repB (pv 3) (pe_ix ix_tup (pe_ix ix_list (pv 1) pe_int (fun _ _ => rfl)) pe_int (fun _ _ => rfl)))))))))
      (pss_one (ps_ret (pe_d c_law_same (hr.mono (by decide)) pass0 (pa_cons (pe_d c_law_told (hr.mono (by decide)) pass0 (pa_cons (pv 2) pa_nil)) (pa_cons (pe_callTy call_tuple_of (by rfl) T.b_tuple (by decide +kernel) (pa_cons (pv 4) pa_nil)) pa_nil)))))))), ?_⟩
  obtain ⟨tR, tM, tS, vR, a1, a2, a3, a4, a5⟩ := id hA
  have aat : ∀ (j : Nat) (v : V), ([.int ((D.many : Nat) : Int), .ref tR, .int ((D.rest : Nat) : Int), .ref tM, .ref tS, .ref pa] : List V)[j]? = some v → ([.int ((D.many : Nat) : Int), .ref tR, .int ((D.rest : Nat) : Int), .ref tM, .ref tS] ++ [V.ref pa] : List V)[j]? = some v := fun j v h => h
  obtain ⟨kw, hkw⟩ := List.mem_iff_getElem?.mp hpm
  have hwd := R.wd pr hpm
  have eq2 : pr.2 = ((pr.2.toNat : Nat) : Int) := by omega
  have hw3 : pr.2.toNat ≤ 3 := by rw [← wR_of R hpm]; exact wR_le R _
  obtain ⟨k0, q0, h01, h02, h03, h04⟩ := leaf0 (l := rows) (fun q hq => (R.wd q hq).1) R.leaf
  have DB := fun {js cl ss cs} I M L hss => db_all (js := js) (cl := cl) (ss := ss) (cs := cs) (w := pr.2.toNat) (k0 := k0) (kd := kw) R hD I M L hss h01 (by rw [h02]; rfl) h03 hkw rfl (by omega) hrw
  have lts : (ts.map V.ref).length = rows.length := by rw [List.length_map, hT.1]
  -- the leaf
  refine ⟨_, rfl, kd, rfl, ⟨_, SqT.of hk⟩, fun L1 hL1 => lc_it (walk_tup (xs := ts.map V.ref)) (fun i H' => Same H H' ∧ H' L1 = some (.lst (sV (leafs (rows.take i))))) ⟨(Same.refl H).upd_new hL1, upd_same⟩ (fun i H' _ ⟨q, _⟩ => SqT.of (q _ _ hk)) ?_ ?_⟩
  · rintro i v H1 H2 hi ⟨q1, q2⟩ ⟨rfl, hv⟩
    obtain ⟨t, ht, rfl⟩ := get_map_r hv
    have hir : i < rows.length := by rw [← lts]; exact hi
    have hq := List.getElem?_eq_getElem hir
    have htu := q1 _ _ (hT.2 i t rows[i] ht hq)
    have el := leafs_snoc hq
    generalize rows[i] = q at hq htu el
    refine ⟨rfl, _, rfl, t, _, _, _, rfl, rfl, SqT.of htu, at_ofG (j := 1) rfl rfl, rfl, _, rfl, ite2 (fun c => ?_) (fun c => ?_)⟩
    · rw [veq] at c
      rw [if_pos (of_decide_eq_true c)] at el
      refine ⟨_, rfl, t, _, _, _, rfl, rfl, SqT.of htu, at_ofG (j := 0) rfl rfl, _, q2, ?_, q1.upd_own hL1, ?_⟩
      · rw [sV_len]
        unfold leafs
        rw [List.length_map]
        exact lt_line (Nat.le_trans (List.length_filter_le _ _) (by rw [List.length_take]; omega))
      · rw [upd_same, el]
        unfold sV
        rw [List.map_append]
        rfl
    · rw [veq] at c
      rw [if_neg (fun e => c (decide_eq_true e)), List.append_nil] at el
      refine ⟨q1, ?_⟩
      rw [el]
      exact q2
  rintro H1 ⟨s1, e1⟩
  rw [lts, List.take_length] at e1
  refine ⟨L1, _, _, _, rfl, rfl, SqL.of e1, at_ofG (j := 0) rfl (by unfold sV; rw [List.getElem?_map, h04]; rfl), le_line (show 1 ≤ 10000000 by decide), fun t0 ht0 => ?_⟩
  have s2 := s1.upd_new (o := .tup [.str q0.1]) ht0
  have t2 : (upd H1 t0 (.tup [.str q0.1])) t0 = some (.tup (sV (rkN rows (dbP k0 kw pr.2.toNat 0)))) := by
    rw [upd_same]
    show _ = some (HO.tup (sV [((rows.map (·.1))[k0]?).getD ("" : Str)]))
    rw [List.getElem?_map, h01]
    rfl
  generalize upd H1 t0 (.tup [.str q0.1]) = H2 at s2 t2
  -- due
  refine ⟨le_line (show 1 ≤ 10000000 by decide), fun l4 hl4 => ?_⟩
  have s3 := (Same.refl H2).upd_new (o := .lst [.non]) hl4
  have l44 : (upd H2 l4 (.lst [.non])) l4 = some (.lst [.non]) := upd_same
  generalize upd H2 l4 (.lst [.non]) = H3 at s3 l44
  have s03 := s2.trans s3
  refine ⟨_, rfl, a, _, _, _, rfl, rfl, SqL.of (s03 _ _ a1), at_ofG (j := 0) rfl (aat 0 _ rfl), l4, _, _, rfl, rfl, l44, by omega, by omega, le_line (by rw [Int.toNat_natCast]; show 1 * D.many ≤ _; omega), fun DL hDL => ?_⟩
  have eR : (List.replicate (((D.many : Nat) : Int)).toNat [V.non]).flatten = List.replicate D.many V.non := by
    rw [Int.toNat_natCast]
    exact List.flatten_replicate_singleton
  rw [eR]
  have s4 := s03.upd_new (o := .lst (List.replicate D.many V.non)) hDL
  have e4 : (upd H3 DL (.lst (List.replicate D.many V.non))) DL = some (.lst (List.replicate D.many V.non)) := upd_same
  have t4 : (upd H3 DL (.lst (List.replicate D.many V.non))) t0 = some (.tup (sV (rkN rows (dbP k0 kw pr.2.toNat 0)))) := by rw [upd_ne (ne_of_none (s3 _ _ t2) hDL)]; exact s3 _ _ t2
  have hDL0 : H DL = none := s03.free hDL
  generalize upd H3 DL (.lst (List.replicate D.many V.non)) = H4 at s4 e4 t4
  refine ⟨_, rfl, a, _, _, _, rfl, rfl, SqL.of (s4 _ _ a1), at_ofG (j := 0) rfl (aat 0 _ rfl), _, rfl, by omega, by omega, for_range (n := (((D.many : Nat) : Int)).toNat) (fun i σ H' => ∃ (x5 : Option V) (t : Addr) (dv : List V), σ = [some (.ref kd), some (.ref a), some (.ref u), some (.ref t), some (.ref DL), x5, none] ∧ Same H H' ∧ H' t = some (.tup (sV (rkN rows (dbP k0 kw pr.2.toNat i)))) ∧ H' DL = some (.lst dv) ∧ dv.length = D.many ∧ (∀ j, j < i → (dbP k0 kw pr.2.toNat j).length ≤ 2000 ∧ ∃ ta, dv[(j + D.rest) % D.many]? = some (.ref ta) ∧ H' ta = some (.tup (sV (rkN rows (dbP k0 kw pr.2.toNat j)))))) ⟨none, t0, _, rfl, s4, t4, e4, List.length_replicate, fun j h => absurd h (Nat.not_lt_zero _)⟩ ?_ ?_⟩
  · rintro i σ H5 hi ⟨x5, t, dv, rfl, s5, t5, e5, len5, cell5⟩
    rw [Int.toNat_natCast] at hi
    refine ⟨_, rfl, t, _, rfl, .inr (SqT.of t5), _, _, rfl, rfl, _, rfl, ?_⟩
    rw [rkN_len]
    by_cases big : 2000 < (dbP k0 kw pr.2.toNat i).length
    · refine ifp (decide_eq_true (by omega)) ?_
      refine ⟨_, rfl, u, b, rows, D, rfl, hRd.same s5, R, hD, hTb.ext s5, fun js cl ss cs I M L hss => ?_⟩
      obtain ⟨A, B, _⟩ := DB I M L hss
      have fin : ∀ (H6 : Hp) (p : Addr), H6 p = some (.tup [.str "TooMany", .str "knots", .int 2000]) → ∀ q, H6 q = none → spSam6 4 [.ref p, .ref q] (upd H6 q (.tup [.str "TooMany", .str "knots", .int 2000])) Q E0 := fun H6 p hp q hq => by
        refine ⟨.ref p, .ref q, rfl, .inr (.inr ⟨p, q, _, _, rfl, rfl, by rw [upd_ne (ne_of_none hp hq)]; exact hp, upd_same, rfl, by show 3 ≤ 10000000; decide, fun j x y hx hy => ?_⟩), fun H' _ => key H'⟩
        rw [hx] at hy
        cases hy
        match j, hx with
        | 0, hx => cases hx; exact .inr (.inl ⟨_, rfl, rfl⟩)
        | 1, hx => cases hx; exact .inr (.inl ⟨_, rfl, rfl⟩)
        | 2, hx => cases hx; exact .inl ⟨_, rfl, rfl⟩
      have sml : ss.length < D.many := by
        refine Nat.lt_of_not_le fun hle => ?_
        obtain ⟨_, _, _, h3, _⟩ := A i (by omega)
        have hil := (List.getElem?_eq_some_iff.mp h3).1
        obtain ⟨_, _, _, _, _, l2⟩ := L.org i _ _ (List.getElem?_eq_getElem (by rw [← L.len]; exact hil)) h3
        omega
      refine ⟨fun hlt H6 p g6 T6 hp => ⟨le_line (show 3 ≤ 10000000 by decide), fun q hq => fin H6 p hp q hq⟩, fun hle H6 p g6 T6 hp => ?_⟩
      have := (B sml).2
      omega
    · refine ifn (fun c => big (by have := of_decide_eq_true c; omega)) ?_
      have small : (dbP k0 kw pr.2.toNat i).length ≤ 2000 := by omega
      have a15 := s5 _ _ a1
      have hpa5 := s5 _ _ hpa
      have eix : (fun i j : Int => i % j) (((fun i j : Int => i + j) (0 + ((i : Nat) : Int)) ((D.rest : Nat) : Int))) ((D.many : Nat) : Int) = (((i + D.rest) % D.many : Nat) : Int) := by
        show (0 + ((i : Nat) : Int) + ((D.rest : Nat) : Int)) % ((D.many : Nat) : Int) = _
        rw [Int.zero_add, ← Int.natCast_add, ← Int.natCast_emod]
      have mlt : (i + D.rest) % D.many < D.many := Nat.mod_lt _ (by omega)
      refine ⟨_, rfl, _, rfl, _, rfl, _, rfl, a, _, _, _, rfl, rfl, SqL.of a15, at_ofG (j := 2) rfl (aat 2 _ rfl), _, _, rfl, rfl, .inl ⟨_, rfl, _, rfl, a, _, _, _, rfl, rfl, SqL.of a15, at_ofG (j := 0) rfl (aat 0 _ rfl), _, _, rfl, rfl, by show (0 : Int) < ((D.many : Nat) : Int); omega, DL, _, _, (i + D.rest) % D.many, rfl, rfl, e5, (by rw [show (0 + ((i : Nat) : Int) + ((D.rest : Nat) : Int)) % ((D.many : Nat) : Int) = (((i + D.rest) % D.many : Nat) : Int) from eix]; exact ixN_nat (by rw [len5]; exact mlt)), ?_⟩⟩
      have kt : ∀ t' ys, H5 t' = some (.tup ys) → (upd H5 DL (.lst (dv.set ((i + D.rest) % D.many) (.ref t)))) t' = some (.tup ys) := fun t' ys h => by rw [upd_ne (ne_of h e5 (fun e => nomatch e))]; exact h
      have ks : Same H (upd H5 DL (.lst (dv.set ((i + D.rest) % D.many) (.ref t)))) := s5.upd_own hDL0
      have e6 : (upd H5 DL (.lst (dv.set ((i + D.rest) % D.many) (.ref t)))) DL = some (.lst (dv.set ((i + D.rest) % D.many) (.ref t))) := upd_same
      generalize upd H5 DL (.lst (dv.set ((i + D.rest) % D.many) (.ref t))) = H6 at kt ks e6
      have t6 := kt _ _ t5
      refine ⟨_, rfl, a, _, _, _, rfl, rfl, SqL.of (ks _ _ a1), at_ofG (j := 5) rfl (aat 5 _ rfl), pa, _, _, _, rfl, rfl, SqT.of (ks _ _ hpa), at_ofG (j := 0) rfl rfl, le_line (show 1 ≤ 10000000 by decide), fun p1 hp1 => ?_⟩
      have s7 := (Same.refl H6).upd_new (o := .tup [.str pr.1]) hp1
      have p7 : (upd H6 p1 (.tup [.str pr.1])) p1 = some (.tup [.str pr.1]) := upd_same
      generalize upd H6 p1 (.tup [.str pr.1]) = H7 at s7 p7
      have s07 := ks.trans s7
      have hne : sV (rkN rows (dbP k0 kw pr.2.toNat i)) ≠ [] := fun e => by
        have h1 := dbP_pos k0 kw pr.2.toNat i
        have h2 := rkN_len rows (dbP k0 kw pr.2.toNat i)
        rw [e] at h2
        have : (0 : Nat) = (dbP k0 kw pr.2.toNat i).length := h2
        omega
      refine ⟨_, rfl, _, rfl, a, _, _, _, rfl, rfl, SqL.of (s07 _ _ a1), at_ofG (j := 5) rfl (aat 5 _ rfl), pa, _, _, _, rfl, rfl, SqT.of (s07 _ _ hpa), at_ofG (j := 1) rfl rfl, t, _, _, rfl, rfl, SqT.of (s7 _ _ t6), hne, by omega, by omega, (by rw [rkN_len]; omega), fun p2 hp2 => ?_⟩
      have s8 := (Same.refl H7).upd_new (o := .tup (List.replicate pr.2.toNat (sV (rkN rows (dbP k0 kw pr.2.toNat i)))).flatten) hp2
      have p8 : (upd H7 p2 (.tup (List.replicate pr.2.toNat (sV (rkN rows (dbP k0 kw pr.2.toNat i)))).flatten)) p2 = some (.tup (List.replicate pr.2.toNat (sV (rkN rows (dbP k0 kw pr.2.toNat i)))).flatten) := upd_same
      generalize upd H7 p2 (.tup (List.replicate pr.2.toNat (sV (rkN rows (dbP k0 kw pr.2.toNat i)))).flatten) = H8 at s8 p8
      have fl8 : (List.replicate pr.2.toNat (sV (rkN rows (dbP k0 kw pr.2.toNat i)))).flatten.length ≤ 6000 := by
        rw [PyProof.Rows.lm_len_rep_flat, rkN_len]
        calc pr.2.toNat * (dbP k0 kw pr.2.toNat i).length ≤ 3 * 2000 := Nat.mul_le_mul hw3 small
          _ = 6000 := rfl
      have fne : (List.replicate pr.2.toNat (sV (rkN rows (dbP k0 kw pr.2.toNat i)))).flatten ≠ [] := fun e => by
        have := congrArg List.length e
        rw [PyProof.Rows.lm_len_rep_flat, rkN_len] at this
        have h1 := dbP_pos k0 kw pr.2.toNat i
        have h2 : 1 * 1 ≤ pr.2.toNat * (dbP k0 kw pr.2.toNat i).length := Nat.mul_le_mul (by omega) h1
        have : pr.2.toNat * (dbP k0 kw pr.2.toNat i).length = 0 := this
        omega
      refine ⟨p1, p2, _, _, rfl, rfl, SqT.of (s8 _ _ p7), SqT.of p8, le_line (by show 1 + _ ≤ _; omega), (fun z => by cases z), (fun _ z => absurd z fne), fun _ _ p3 hp3 => ?_⟩
      have s9 := s8.upd_new (o := .tup ([.str pr.1] ++ (List.replicate pr.2.toNat (sV (rkN rows (dbP k0 kw pr.2.toNat i)))).flatten)) hp3
      have p9 : (upd H8 p3 (.tup ([.str pr.1] ++ (List.replicate pr.2.toNat (sV (rkN rows (dbP k0 kw pr.2.toNat i)))).flatten))) p3 = some (.tup (sV (rkN rows (dbP k0 kw pr.2.toNat (i + 1))))) := by rw [upd_same, dbP_names rows hkw]
      generalize upd H8 p3 (.tup ([.str pr.1] ++ (List.replicate pr.2.toNat (sV (rkN rows (dbP k0 kw pr.2.toNat i)))).flatten)) = H9 at s9 p9
      have s69 := s7.trans s9
      refine ⟨_, p3, _, rfl, s07.trans s9, p9, s69 _ _ e6, by rw [List.length_set]; exact len5, fun j hj => ?_⟩
      by_cases c : j = i
      · subst c
        exact ⟨small, t, by rw [List.getElem?_set, if_pos rfl, if_pos (by rw [len5]; exact mlt)], s69 _ _ t6⟩
      · obtain ⟨h1, ta, h2, h3⟩ := cell5 j (by omega)
        refine ⟨h1, ta, ?_, s69 _ _ (kt _ _ h3)⟩
        rw [List.getElem?_set, if_neg fun e => c (mod_inj6 (by omega) hi e.symm)]
        exact h2
  · rintro σ H5 ⟨x5, t, dv, rfl, s5, t5, e5, len5, cell5⟩
    rw [Int.toNat_natCast] at cell5
    refine ⟨_, rfl, u, b, rows, D, rfl, hRd.same s5, R, hD, hTb.ext s5, fun js cl ss cs I M L hss => ?_⟩
    obtain ⟨A, B, Cj⟩ := DB I M L hss
    have full : D.many ≤ ss.length := Nat.le_of_not_lt fun h => by
      have h1 := (B h).1
      have h2 := (cell5 _ h).1
      omega
    refine ⟨fun hlt => by omega, fun hle H6 p g6 T6 hp => ?_⟩
    obtain ⟨vs, hv, lv, cv⟩ := hp
    have e6 := g6.lst e5
    refine ⟨_, rfl, DL, _, rfl, .inl ⟨SqL.of e6, fun td htd => ?_⟩⟩
    have s7 := (Same.refl H6).upd_new (o := .tup dv) htd
    refine ⟨_, _, rfl, .inr (.inr ⟨p, td, _, _, rfl, rfl, s7 _ _ hv, upd_same, by rw [lv, len5], by omega, fun q x y hx hy => ?_⟩), fun H' _ => key H'⟩
    have hq : q < D.many := by rw [← lv]; exact (List.getElem?_eq_some_iff.mp hx).1
    -- the depth of q
    obtain ⟨j, hj, ej⟩ : ∃ j, j < D.many ∧ (j + D.rest) % D.many = q := by
      by_cases c : D.rest ≤ q
      · exact ⟨q - D.rest, by omega, by rw [show q - D.rest + D.rest = q by omega]; exact Nat.mod_eq_of_lt hq⟩
      · refine ⟨q + D.many - D.rest, by omega, ?_⟩
        rw [show q + D.many - D.rest + D.rest = q + D.many by omega, Nat.add_mod_right]
        exact Nat.mod_eq_of_lt hq
    obtain ⟨_, ta, h2, h3⟩ := cell5 j hj
    rw [ej, hy] at h2
    cases h2
    obtain ⟨sj, f1, f2, f3, _⟩ := A j (by omega)
    rw [ej] at f2
    rcases cv q hq with ⟨hn, _⟩ | ⟨i, pp, c, aa, g1, g2, g3, g4, g5⟩
    · exact absurd (List.mem_of_getElem? f2) hn
    · have ei := get_uniq I.nd g1 f2
      subst ei
      have ep := get_uniq L.nd g2 f1
      subst ep
      rw [g3] at f3
      cases f3
      rw [g4] at hx
      cases hx
      have hc2 := (cell5 _ hj).1
      exact sam_strs (n := 1) (s7 _ _ g5) (s7 _ _ (g6.tup h3)) (by unfold rkN; rw [List.length_map]; omega)
end
end Sh
end
section
set_option Elab.async false
set_option linter.all false
set_option maxRecDepth 100000
set_option maxHeartbeats 16000000
namespace Sh
open PySem PySem.Spec PyProof.Rows L2 NdefX LamX
open C8 (pss_cut tCut)
open Evl (ixN_nat)
def spLawT (K : PySem.W.Frag) (T0 : List (Addr × Str)) : Sp := fun vs H Q _ => ∃ (s : Addr) (ns : List Int), vs = [.ref s] ∧ SqL K H s (ns.map V.int) ∧ ns.length ≤ 63 ∧ Tabs T0 H ∧ ∀ H', Q (.bl true) H'
theorem fnOk0 {P : Program} {w : World} {K : PySem.W.Frag} {mg : Str → Option Value} {base : Heap} {k : Nat} {x : Str} {sp : Sp} {st : Stmt} {N ps : List Str} {f0 : Addr} {fd : FuncData} (F : FunD K x x (defArgs st) (defBody st) (defScope st) [] [] f0 fd) (S : FnScope N ps (defScope st)) (len : ∀ vs H Q E, sp vs H Q E → vs.length = ps.length)
    (hbody : ∀ (cdv : Value) (A : Around) (outer : List Env) (s : Shared) (H : Hp) (vs : List V) (Q : VK) (E : XK), Room k (A.deeper (envOfC x (defScope st) s.heap.objs.size f0 cdv)) → sp vs H Q E →
      ∃ t, PSs (cxOf CX0 P w K mg base N x (defScope st) f0 cdv A outer s H E).nox (defBody st) t ∧ t { nx := fun _ H' => Q .non H', rt := Q } (start N vs) H) : FnOk P w K mg base CX0 (k + 1) f0 fd ps sp :=
  F.ok S len fun cdv A outer s H vs Q E hr h => by
    obtain ⟨t, a, b⟩ := hbody cdv A outer s H vs Q E hr h
    exact ⟨t, a.nox, b⟩
theorem sqk {K : PySem.W.Frag} {H H' : Hp} {s : Addr} {xs : List V} (h : SqL K H s xs) (k : ∀ o, H s = some o → H' s = some o) : SqL K H' s xs := by
  rcases h with (h | ⟨o, h⟩) | h
  · exact .inl (.inl (k _ h))
  · exact .inl (.inr ⟨o, k _ h⟩)
  · exact .inr h
theorem sqs {K : PySem.W.Frag} {H H' : Hp} {s : Addr} {xs : List V} (h : SqL K H s xs) (k : Same H H') : SqL K H' s xs := sqk h fun o e => k _ _ e
theorem Same.kp {H H1 H2 : Hp} {x : Addr} (s : Same H H1) (hx : H x = none) (k : Kp x H1 H2) : Same H H2 := fun p o h => k _ _ (s _ _ h) fun e => by rw [e, hx] at h; cases h
theorem NdAt.gw {P : Program} {w : World} {H H' : Hp} {a : Addr} {kvs : List (NKey × V)} (x : NdAt P w H a kvs) (g : Gw H H') : NdAt P w H' a kvs := by
  obtain ⟨l, hs, xs, nt, h⟩ := x
  exact ⟨l, hs, xs, nt.keeps (fun c ys ec => g.tup ec), g.e _ _ h (fun _ e => by unfold NdO at e; cases e)⟩
theorem LrA.gw {P : Program} {w : World} {H H' : Hp} {a : Addr} {D : RdD} {ex : List V} (h : LrA P w H a D ex) (g : Gw H H') : LrA P w H' a D ex := by
  obtain ⟨tR, tM, tS, us, h1, h2, h3, h4, h5⟩ := h
  exact ⟨tR, tM, tS, us, g.lst h1, g.tup h2, h3.keep (fun _ _ q => g.tup q), g.tup h4, NdAt.gw h5 g⟩
/-- the bounds of a drawn reader -/
structure Sz (rows : List Row) (D : RdD) : Prop where
  pw : ∀ q ∈ rows, ∀ i, i < q.2.toNat → D.many ^ i ≤ 4000
  sz : ∃ W, (∀ q ∈ rows, q.2.toNat ≤ W) ∧ bnd W D.many ≤ 2000
theorem wK_le {rows : List Row} {W : Nat} (h : ∀ q ∈ rows, q.2.toNat ≤ W) : ∀ k, wK rows k ≤ W := fun k => by
  unfold wK
  cases e : rows[k]? with
  | none => exact Nat.zero_le _
  | some q => exact h q (List.mem_of_getElem? e)
theorem bnd_one40 : ∀ {n : Nat}, n ≤ 40 → bnd 1 n ≤ 2000 := fun {n} h => by
  have : ∀ n, bnd 1 n = n + 1 := fun n => by
    induction n with
    | zero => rfl
    | succ n ih => show 1 + 1 * bnd 1 n = _; rw [ih]; omega
  rw [this]
  omega
theorem Sz.long {rows : List Row} {D : RdD} (h : ∀ q ∈ rows, q.2 ≤ 1) (hm : D.many ≤ 40) : Sz rows D := ⟨fun q hq i hi => by
  have := h q hq
  have : i = 0 := by omega
  subst this
  show 1 ≤ 4000
  omega, 1, fun q hq => by have := h q hq; omega, bnd_one40 hm⟩
theorem Sz.short {rows : List Row} {D : RdD} {top : Int} {most : Nat} (h0 : 0 ≤ top) (h3 : top ≤ 3) (h : ∀ q ∈ rows, q.2 ≤ top) (hm : D.many ≤ most) (e : ([4, 4, 4, 3] : List Nat)[top.toNat]? = some most) : Sz rows D := by
  have hw : ∀ q ∈ rows, q.2.toNat ≤ top.toNat := fun q hq => by have := h q hq; omega
  have ht : top.toNat ≤ 3 := by omega
  generalize top.toNat = W at hw ht e
  refine ⟨fun q hq i hi => ?_, W, hw, ?_⟩
  · have hiw : i < W := Nat.lt_of_lt_of_le hi (hw q hq)
    have m4 : D.many ≤ 4 := by
      match W, e with
      | 0, e => cases e; exact hm
      | 1, e => cases e; exact hm
      | 2, e => cases e; exact hm
      | 3, e => cases e; omega
    calc D.many ^ i ≤ 4 ^ i := Nat.pow_le_pow_left m4 i
      _ ≤ 4 ^ 3 := Nat.pow_le_pow_right (by decide) (by omega)
      _ ≤ 4000 := by decide
  · refine Nat.le_trans (bnd_mono hm) ?_
    match W, e with
    | 0, e => cases e; decide
    | 1, e => cases e; decide
    | 2, e => cases e; decide
    | 3, e => cases e; decide
theorem Sz.hsz {rows : List Row} {D : RdD} {js : List (List Nat)} {cl : Str → List Nat → Option Nat} {ss : List Nat} {cs : List (List Nat)} (z : Sz rows D) (I : MI rows [D] js cl) (L : LC rows cl ss cs (fun _ _ => True) (fun _ => none)) (hss : ∀ s ∈ ss, s < js.length) : ∀ k r s, Off rows cl ss k r s → (cO cs k r).length ≤ 2000 := fun k r s o => by
  obtain ⟨W, h1, h2⟩ := z.sz
  have a1 := sub_len ss (List.range js.length) L.nd fun s hs => List.mem_range.mpr (hss s hs)
  have a2 := sub_len js ((List.range D.many).map fun q => [q]) I.nd fun j hjm => by
    obtain ⟨q, rfl, hq⟩ := one_j (I.ok j hjm)
    exact List.mem_map.mpr ⟨q, List.mem_range.mpr hq, rfl⟩
  rw [List.length_range] at a1
  rw [List.length_map, List.length_range] at a2
  exact Nat.le_trans (L.size_off (wK_le h1) o) (Nat.le_trans (bnd_mono (Nat.le_trans a1 a2)) h2)
/-- all joints are settled, sizes small -/
theorem LC.full {rows : List Row} {D : RdD} {js : List (List Nat)} {cl : Str → List Nat → Option Nat} {ss : List Nat} {cs : List (List Nat)} (R : ROk 4 rows) (I : MI rows [D] js cl) (L : LC rows cl ss cs (fun _ _ => True) (fun _ => none)) (hsz : ∀ k r s, Off rows cl ss k r s → (cO cs k r).length ≤ 2000) : js.length ≤ ss.length := by
  have all : ∀ n i, i < n → i < js.length → i ∈ ss := fun n => by
    induction n with
    | zero => intro i h; omega
    | succ n ih =>
      intro i hi hl
      obtain ⟨z, r, hc, hr⟩ := I.ju i hl
      obtain ⟨⟨q, hq, ez⟩, hrl, _, _⟩ := I.cs _ _ _ hc
      obtain ⟨k, hk⟩ := List.mem_iff_getElem?.mp hq
      have ix : ∀ x : Nat, ∃ p : Nat, x ∈ r → ss[p]? = some x := fun x => by
        by_cases h : x ∈ r
        · have := hr x h
          obtain ⟨p, hp⟩ := List.mem_iff_getElem?.mp (ih x (by omega) (by omega))
          exact ⟨p, fun _ => hp⟩
        · exact ⟨0, fun h' => absurd h' h⟩
      obtain ⟨pf, hpf⟩ := Classical.axiomOfChoice ix
      have er : rwS ss (r.map pf) = r := by
        unfold rwS
        rw [List.map_map]
        conv => rhs; rw [← List.map_id r]
        refine List.map_congr_left fun x hx => ?_
        show ss.getD (pf x) 0 = x
        rw [List.getD_eq_getElem?_getD, hpf x hx]
        rfl
      have O : Off rows cl ss k (r.map pf) i := ⟨⟨q, hk, by rw [List.length_map, hrl, ← ez, wR_of R hq], by rw [er, ez]; exact hc⟩, fun j hj => by
        obtain ⟨x, hx, rfl⟩ := List.mem_map.mp hj
        exact (List.getElem?_eq_some_iff.mp (hpf x hx)).1⟩
      obtain ⟨i', _, h1, _⟩ := L.fin (fun _ _ _ _ => trivial) O (hsz _ _ _ O)
      exact List.mem_of_getElem? h1
  have := sub_len (List.range js.length) ss List.nodup_range fun x hx => all (x + 1) x (Nat.lt_succ_self x) (List.mem_range.mp hx)
  rw [List.length_range] at this
  exact this
abbrev N_law : List Str := ["script", "box", "mode", "kinds", "top", "drawn", "k", "own", "readers", "pair", "one"]
theorem sc_law : FnScope N_law ["script"] (defScope s_law) := ⟨rfl, rfl, rfl, by decide +kernel, rfl, by decide +kernel, by decide +kernel⟩
section
variable {P : Program} {w : World} {K : PySem.W.Frag} {mg : Str → Option Value} {base : Heap} {C CR : Addr} {Tb : List (Addr × Str)}
theorem ok_law (T : Bl mg) (b_max : mg "max" = none) (c_law_box : DefOk P w K mg base CX0 1 "_law_box" (spBox K)) (c_law_take : DefOk P w K mg base CX0 1 "_law_take" spTake) (c_law_bed : DefOk P w K mg base CX0 2 "_law_bed" spBed6) (c_law_text : DefOk P w K mg base CX0 1 "_law_text" spText6) (c_law_long : DefOk P w K mg base CX0 3 "_law_long" (spLong6 P w)) (c_law_reader : DefOk P w K mg base CX0 3 "_law_reader" (spReader6 P w)) (c_law_doubler : DefOk P w K mg base CX0 3 "_law_doubler" (spDoubler6 P w)) (c_law_made : DefOk P w K mg base CX0 9 "_law_made" (spMade P w C CR)) (c_law_doubled_right : DefOk P w K mg base CX0 13 "_law_doubled_right" (spDblR P w C CR Tb)) (c_law_told : DefOk P w K mg base CX0 12 "_law_told" (spTold C CR Tb)) (c_law_least_right : DefOk P w K mg base CX0 3 "_law_least_right" (spRight P w)) (c_law_kept : DefOk P w K mg base CX0 5 "_law_kept" (spKept P w C CR)) {f0 : Addr} {fd : FuncData} (F : FunD K "law" "law" (defArgs s_law) (defBody s_law) (defScope s_law) [] [] f0 fd) : FnOk P w K mg base CX0 14 f0 fd ["script"] (spLawT K Tb) := by
  refine fnOk0 F sc_law (fun vs H Q E h => by obtain ⟨s, ns, rfl, _⟩ := h; rfl) fun cdv A outer s0 H vs Q E hr h => ?_
  obtain ⟨s, ns, rfl, hS, hn, hTb, key⟩ := h
  refine ⟨_, (pss_cons (ps_set (i := 1) sc_law.nd rfl (Or.inl rfl) (pe_d c_law_box (hr.mono (by decide)) pass0 (pa_cons (pv 0) (pa_cons pe_int pa_nil))))
      (pss_cons (ps_set (i := 2) sc_law.nd rfl (Or.inl rfl) (pe_d c_law_take (hr.mono (by decide)) pass0 (pa_cons (pv 1) (pa_cons pe_int pa_nil))))
      (pss_cons (ps_set (i := 3) sc_law.nd rfl (Or.inr rfl) (pe_d c_law_bed (hr.mono (by decide)) pass0 (pa_cons (pe_d c_law_box (hr.mono (by decide)) pass0 (pa_cons (pv 0) (pa_cons pe_int pa_nil))) (pa_cons (pe_ix ix_list (pe_lst (pa_cons pe_int (pa_cons pe_int pa_nil))) (pe_callTy call_int1 (by rfl) T.b_int (by decide +kernel) (pa_cons (pe_cmpR op_eq (pv 2) pe_int (nomark _)) pa_nil)) (fun _ _ => rfl)) pa_nil))))
      (pss_cons (ps_set (i := 4) sc_law.nd rfl (Or.inl rfl) (pe_callB (show CallR _ _ (rMax K) from cr_max rfl) (by rfl) b_max (by decide +kernel) (pa_cons (pe_lc (own := [("pair", 9)]) (g := (gName 9)) (tt := tYes) rfl sc_law.nd (pi_tup (pv 3)) (blkOk_by (N := N_law) (sc := defScope s_law) (by decide +kernel)) (fun _ _ _ _ _ => (pg_name (i := 9) sc_law.nd rfl (Or.inl rfl))) (fun _ _ _ _ _ => pts_nil) (fun _ _ _ _ _ => (pe_ix (show IxR _ (rIxT K) from ix_tup) (pv 9) pe_int (fun _ _ => rfl)))) pa_nil)))
      (pss_cons (ps_if (PW.pt (pw_and (pt_cmpR op_eq (pv 2) pe_int (nomark _)) (pw_and1 (pt_cmpR op_gt (pv 4) pe_int (nomark _)))))
        (pss_cons (ps_set (i := 5) sc_law.nd rfl (Or.inl rfl) (pe_d c_law_doubler (hr.mono (by decide)) pass0 (pa_cons (pe_d c_law_box (hr.mono (by decide)) pass0 (pa_cons (pv 0) (pa_cons pe_int pa_nil))) (pa_cons (pv 3) pa_nil))))
        (pss_one (ps_ret (pe_d c_law_doubled_right (hr.mono (by decide)) pass0 (pa_cons (pv 3) (pa_cons (pv 5) (pa_cons (pe_d c_law_made (hr.mono (by decide)) pass0 (pa_cons (pe_d c_law_text (hr.mono (by decide)) pass0 (pa_cons (pv 3) pa_nil)) (pa_cons (pv 5) pa_nil))) pa_nil)))))))
        pss_nil)
      (pss_cons (ps_set (i := 5) sc_law.nd rfl (Or.inl rfl) (pe_lst pa_nil))
      (pss_cons (ps_for PassesOwn.never rfl (pi_list (pe_lst (pa_cons pe_int (pa_cons pe_int pa_nil)))) (pg_name (i := 6) sc_law.nd rfl (Or.inl rfl))
        (pss_cons (ps_set (i := 7) sc_law.nd rfl (Or.inl rfl) (pe_d c_law_box (hr.mono (by decide)) pass0 (pa_cons (pv 0) (pa_cons (pv 6) pa_nil))))
        (pss_one (ps_if (pt_cmpR op_eq (pv 2) pe_int (nomark _))
          (pss_one (ps_expr (pe_bm PySem.F.plainAttrs_list PySem.F.slot_list_append PySem.F.type_list_append mt_append (pv 5) (pa_cons (pe_d c_law_long (hr.mono (by decide)) pass0 (pa_cons (pv 7) (pa_cons (pv 3) (pa_cons (pe_op op_add pe_int (pe_d c_law_take (hr.mono (by decide)) pass0 (pa_cons (pv 7) (pa_cons pe_int pa_nil)))) pa_nil)))) pa_nil))))
          (pss_one (ps_expr (pe_bm PySem.F.plainAttrs_list PySem.F.slot_list_append PySem.F.type_list_append mt_append (pv 5) (pa_cons (pe_d c_law_reader (hr.mono (by decide)) pass0 (pa_cons (pv 7) (pa_cons (pv 3) (pa_cons (pe_ix ix_list (pe_lst (pa_cons pe_int (pa_cons pe_int (pa_cons pe_int (pa_cons pe_int pa_nil))))) (pv 4) (fun _ _ => rfl)) pa_nil)))) pa_nil))))))))
      (pss_cons (ps_setLc (i := 8) (own := [("one", 10)]) (g := (gName 10)) (tt := tYes) rfl sc_law.nd rfl rfl (sw_true rfl rfl rfl (by decide +kernel)) (pi_list (pv 5)) (blkOk_by (N := N_law) (sc := defScope s_law) (by decide +kernel)) (fun _ _ _ _ _ => (pg_name (i := 10) sc_law.nd rfl (Or.inl rfl))) (fun _ _ _ _ _ => pts_nil) (fun _ _ _ _ _ => (pe_d c_law_made (hr.mono (by decide)) pass0 (pa_cons (pe_d c_law_text (hr.mono (by decide)) pass0 (pa_cons (pv 3) pa_nil)) (pa_cons (pv 10) pa_nil)))))
      (pss_cons (ps_for PassesOwn.never rfl (pi_list (pe_lst (pa_cons pe_int (pa_cons pe_int (pa_cons pe_int pa_nil))))) (pg_name (i := 6) sc_law.nd rfl (Or.inl rfl))
        (pss_one (ps_if (pt_not (pt_val (pe_d c_law_least_right (hr.mono (by decide)) pass0 (pa_cons (pv 3) (pa_cons (pe_ix ix_list (pv 5) (pv 6) (fun _ _ => rfl)) (pa_cons (pe_d c_law_told (hr.mono (by decide)) pass0 (pa_cons (pe_ix ix_list (pv 8) (pv 6) (fun _ _ => rfl)) pa_nil)) pa_nil))))))
          (pss_one (ps_ret pe_bl))
          pss_nil)))
      (pss_one (ps_ret (pe_and (pe_d c_law_kept (hr.mono (by decide)) pass0 (pa_cons (pv 3) (pa_cons (pe_ix ix_list (pv 5) pe_int (fun _ _ => rfl)) (pa_cons (pe_ix ix_list (pv 8) pe_int (fun _ _ => rfl)) pa_nil)))) (pe_one (pe_d c_law_kept (hr.mono (by decide)) pass0 (pa_cons (pv 3) (pa_cons (pe_ix ix_list (pv 5) pe_int (fun _ _ => rfl)) (pa_cons (pe_ix ix_list (pv 8) pe_int (fun _ _ => rfl)) pa_nil))))))))))))))))), ?_⟩
  refine ⟨_, rfl, s, ns, 0, rfl, hS, (fun H' q => sqs hS q), hn, by decide, fun H1 x0 s1 nx0 b0 => ?_⟩
  refine ⟨_, rfl, x0, 8, rfl, b0, by decide, by decide, fun H2 e k2 b2 he => ?_⟩
  have s2 := Same.kp s1 nx0 k2
  -- the kinds
  refine ⟨_, rfl, s, ns, 1, rfl, sqs hS s2, (fun H' q => sqs (sqs hS s2) q), hn, by decide, fun H3 x1 s3 nx1 b3 => ?_⟩
  have s03 := s2.trans s3
  have nx10 := s2.free nx1
  refine ⟨le_line (show 2 ≤ 10000000 by decide), fun l1 hl1 => ?_⟩
  have s4 := (Same.refl H3).upd_new (o := .lst [.int 3, .int 1]) hl1
  have e4 : (upd H3 l1 (.lst [.int 3, .int 1])) l1 = some (.lst [.int 3, .int 1]) := upd_same
  have b4 := b3.same s4
  generalize upd H3 l1 (.lst [.int 3, .int 1]) = H4 at s4 e4 b4
  have s04 := s03.trans s4
  obtain ⟨lim, hlim, h3l⟩ : ∃ lim : Int, ([V.int 3, V.int 1] : List V)[if (e : Int) = 2 then 1 else 0]? = some (.int lim) ∧ ((lim = 3 ∧ (e : Int) ≠ 2) ∨ (lim = 1 ∧ (e : Int) = 2)) := by
    by_cases c : (e : Int) = 2
    · exact ⟨1, by rw [if_pos c]; rfl, .inr ⟨rfl, c⟩⟩
    · exact ⟨3, by rw [if_neg c]; rfl, .inl ⟨rfl, c⟩⟩
  refine ⟨_, rfl, rfl, .inr ⟨_, rfl, l1, _, _, _, rfl, rfl, SqL.of e4, at_ofG (j := if (e : Int) = 2 then 1 else 0) ?_ hlim, ?_⟩⟩
  · by_cases c : (e : Int) = 2 <;> simp [c, veq]
  refine ⟨x1, lim, rfl, b4, (by rcases h3l with ⟨h, _⟩ | ⟨h, _⟩ <;> omega), fun H5 r ts rows k5 b5 hr5 hT5 R wle => ?_⟩
  have s05 := Same.kp s04 nx10 k5
  have r4 := R.len
  have lts : (ts.map V.ref).length = rows.length := by rw [List.length_map, hT5.1]
  -- the greatest width
  refine ⟨_, rfl, r, rfl, ⟨_, SqT.of hr5⟩, fun D1 hD1 => lc_it (walk_tup (xs := ts.map V.ref)) (fun i H' => Same H5 H' ∧ H' D1 = some (.lst (((rows.map (·.2)).take i).map V.int))) ⟨(Same.refl H5).upd_new hD1, upd_same⟩ (fun i H' _ ⟨q, _⟩ => SqT.of (q _ _ hr5)) ?_ ?_⟩
  · rintro i v H6 H7 hi ⟨q1, d1⟩ ⟨rfl, hv⟩
    obtain ⟨u, hu2, rfl⟩ := get_map_r hv
    have hil : i < rows.length := by rw [← hT5.1]; exact (List.getElem?_eq_some_iff.mp hu2).1
    have hq := List.getElem?_eq_getElem hil
    have hut := q1 _ _ (hT5.2 i u _ hu2 hq)
    have hn2 : (rows.map (·.2))[i]? = some rows[i].2 := by rw [List.getElem?_map, hq]; rfl
    generalize rows[i] = q at hut hn2
    refine ⟨rfl, _, rfl, u, _, _, _, rfl, rfl, SqT.of hut, at_ofG (j := 1) rfl rfl, _, d1, ?_, q1.upd_own hD1, ?_⟩
    · rw [List.length_map, List.length_take, List.length_map]
      exact lt_line (n := min i _) (by omega)
    · rw [upd_same, take_snoc' hn2, List.map_append]
      rfl
  rintro H6 ⟨s6, d6⟩
  rw [lts, show rows.length = (rows.map (·.2)).length by rw [List.length_map], List.take_length] at d6
  have rpos := R.pos
  refine ⟨D1, rows.map (·.2), rfl, SqL.of d6, by rw [List.length_map]; omega, fun top htop htle => ?_⟩
  obtain ⟨qt, hqt, rfl⟩ := List.mem_map.mp htop
  have htw := R.wd qt hqt
  have wt : ∀ q ∈ rows, q.2 ≤ qt.2 := fun q hq => htle _ (List.mem_map.mpr ⟨q, hq, rfl⟩)
  have s06 := s05.trans s6
  have hr6 := s6 _ _ hr5
  have hT6 := hT5.keep fun _ _ h => s6 _ _ h
  have T6 : Tabs Tb H6 := hTb.ext s06
  have text : ∀ {H' : Hp} {Q' : VK}, Same H6 H' → (∀ H'', Same H' H'' → Q' (.str (txT rows)) H'') → spText6 [.ref r] H' Q' E0 := fun {H' Q'} q k => ⟨r, ts, rows, rfl, q _ _ hr6, hT6.keep (fun _ _ h => q _ _ h), R, k⟩
  -- the doubler
  refine ⟨_, rfl, rfl, _, rfl, ?_⟩
  by_cases c1 : (e : Int) = 1
  · refine ifp (by rw [veq]; exact decide_eq_true c1) ⟨_, rfl, _, _, rfl, rfl, _, rfl, ?_⟩
    by_cases c2 : 1 < qt.2
    · refine ifp (decide_eq_true c2) ?_
      refine ⟨_, rfl, s, ns, 2, rfl, sqs hS s06, (fun H' q => sqs (sqs hS s06) q), hn, by decide, fun H7 x2 s7 nx2 b7 => ?_⟩
      have s07 := s06.trans s7
      have nx20 := s06.free nx2
      refine ⟨_, rfl, x2, r, ts, rows, rfl, b7, s7 _ _ hr6, hT6.keep (fun _ _ h => s7 _ _ h), R, ⟨qt, hqt, c2⟩, fun H8 a pa pr D k8 b8 hD hpm hp2 w2 w3 hrw _ _ hpa hA => ?_⟩
      have s08 := Same.kp s07 nx20 k8
      have s68 := Same.kp s7 nx2 k8
      refine ⟨_, rfl, _, rfl, _, rfl, r, ts, rows, rfl, s68 _ _ hr6, hT6.keep (fun _ _ h => s68 _ _ h), R, fun H9 s9 => ?_⟩
      have s69 := s68.trans s9
      refine ⟨_, rfl, a, rows, D, [.ref pa], rfl, R, hD, hA.sm s9, fun H10 u b s10 hRd => ?_⟩
      have s610 := s69.trans s10
      have s810 := s9.trans s10
      have hp3 := (R.wd pr hpm).2
      have m2 : 2 ≤ D.many := by
        by_cases c : pr.2 = 2
        · have := (w2 c).1; omega
        · have := (w3 (by omega)).1; omega
      exact ⟨r, a, u, b, pa, ts, rows, D, pr, rfl, s610 _ _ hr6, hT6.keep (fun _ _ h => s610 _ _ h), R, hD, hA.sm s810, s810 _ _ hpa, hpm, hp2, m2, hrw, hRd, T6.ext s610, key⟩
    · refine ifn (fun e => c2 (of_decide_eq_true e)) ?_
      refine ⟨le_line (show 0 ≤ 10000000 by decide), fun DL hDL => ?_⟩
      have s7 := (Same.refl H6).upd_new (o := .lst []) hDL
      have e7 : (upd H6 DL (.lst [])) DL = some (.lst (([] : List Addr).map V.ref)) := upd_same
      generalize upd H6 DL (.lst []) = H7 at s7 e7
      refine ⟨le_line (show 2 ≤ 10000000 by decide), fun l2 hl2 => ?_⟩
      have s8 := (Same.refl H7).upd_new (o := .lst [.int 2, .int 3]) hl2
      have e8 : (upd H7 l2 (.lst [.int 2, .int 3])) l2 = some (.lst [.int 2, .int 3]) := upd_same
      have f8 : (upd H7 l2 (.lst [.int 2, .int 3])) DL = some (.lst (([] : List Addr).map V.ref)) := by rw [upd_ne (ne_of_none e7 hl2)]; exact e7
      have nl2 : l2 ≠ DL := fun e => by rw [e, e7] at hl2; cases hl2
      generalize upd H7 l2 (.lst [.int 2, .int 3]) = H8 at s8 e8 f8
      have s68 := s7.trans s8
      refine ⟨l2, rfl, ⟨_, SqL.of e8⟩, for_list (xs := [V.int 2, V.int 3]) (fun i σ H' => ∃ (x6 x7 : Option V) (as : List Addr) (Ds : List RdD), σ = [some (.ref s), some (.ref x0), some (.int (e : Nat)), some (.ref r), some (.int qt.2), some (.ref DL), x6, x7, none, none, none] ∧ Same H6 H' ∧ H' l2 = some (.lst [.int 2, .int 3]) ∧ H' DL = some (.lst (as.map V.ref)) ∧ as.length = i ∧ Ds.length = i ∧ ∀ (j : Nat) (a : Addr) (D : RdD), as[j]? = some a → Ds[j]? = some D → LrA P w H' a D [] ∧ D.Ok rows ∧ Sz rows D)
        ⟨none, none, [], [], rfl, s68, e8, f8, rfl, rfl, fun j a D h => by simp at h⟩ (fun i σ H' _ ⟨_, _, _, _, _, _, q, _⟩ => SqL.of q) ?_ ?_⟩
      · rintro i v σ H9 hv ⟨x6, x7, as, Ds, rfl, s9, g9, f9, la, lD, drw⟩
        obtain ⟨kk, hk4, rfl⟩ : ∃ kk : Nat, kk < 4 ∧ v = .int ((kk : Nat) : Int) := by
          match i, hv with
          | 0, hv => cases hv; exact ⟨2, by decide, rfl⟩
          | 1, hv => cases hv; exact ⟨3, by decide, rfl⟩
        have hi2 : i < 2 := (List.getElem?_eq_some_iff.mp hv).1
        refine ⟨_, rfl, _, rfl, s, ns, kk, rfl, sqs hS (s06.trans s9), (fun H' q => sqs (sqs hS (s06.trans s9)) q), hn, hk4, fun H10 xo s10 nxo bo => ?_⟩
        have s610 := s9.trans s10
        have fin : ∀ (H' : Hp) (a : Addr) (D : RdD), Kp xo H10 H' → D.Ok rows → Sz rows D → LrA P w H' a D [] → ∃ (H'' : Hp), H'' = upd H' DL (.lst (as.map V.ref ++ [.ref a])) ∧ H' DL = some (.lst (as.map V.ref)) ∧ (as.map V.ref).length < sizeLine ∧ Same H6 H'' ∧ H'' l2 = some (.lst [.int 2, .int 3]) ∧ H'' DL = some (.lst ((as ++ [a]).map V.ref)) ∧ (as ++ [a]).length = i + 1 ∧ (Ds ++ [D]).length = i + 1 ∧ ∀ (j : Nat) (a' : Addr) (D' : RdD), (as ++ [a])[j]? = some a' → (Ds ++ [D])[j]? = some D' → LrA P w H'' a' D' [] ∧ D'.Ok rows ∧ Sz rows D' := fun H' a D kx hD hz hA => by
          have s9' : Same H9 H' := Same.kp s10 nxo kx
          have f' := s9' _ _ f9
          have lx : ∀ {a' : Addr} {D' : RdD}, LrA P w H' a' D' [] → LrA P w (upd H' DL (.lst (as.map V.ref ++ [.ref a]))) a' D' [] := fun {a' D'} h => by
            obtain ⟨tR, tM, tS, us, h1, h2, h3, h4, h5⟩ := h
            have na : a' ≠ DL := fun e => by
              rw [e, f'] at h1
              have h1 := Option.some.inj h1
              injection h1 with h1
              cases as with
              | nil => cases h1
              | cons x as => cases h1
            have kt : ∀ t ys, H' t = some (.tup ys) → (upd H' DL (.lst (as.map V.ref ++ [.ref a]))) t = some (.tup ys) := fun t ys h => by rw [upd_ne (ne_of h f' (fun e => nomatch e))]; exact h
            refine ⟨tR, tM, tS, us, by rw [upd_ne na]; exact h1, kt _ _ h2, h3.keep kt, kt _ _ h4, ?_⟩
            obtain ⟨l, hs, xs, nt, h⟩ := h5
            exact ⟨l, hs, xs, nt.keeps kt, by rw [upd_ne (ne_of h f' (fun e => by unfold NdO at e; cases e))]; exact h⟩
          refine ⟨_, rfl, f', by rw [List.length_map, la]; exact lt_line (by omega), (s9.trans s9').upd_own hDL, by rw [upd_ne nl2]; exact s9' _ _ g9, by rw [upd_same, List.map_append]; rfl, by rw [List.length_append, la]; rfl, by rw [List.length_append, lD]; rfl, fun j a' D' h1 h2 => ?_⟩
          by_cases c : j < i
          · rw [List.getElem?_append_left (by omega)] at h1 h2
            obtain ⟨p1, p2, p3⟩ := drw j a' D' h1 h2
            exact ⟨lx (p1.sm s9'), p2, p3⟩
          · have hj := (List.getElem?_eq_some_iff.mp h1).1
            rw [List.length_append, la] at hj
            have l1 : ([a] : List Addr).length = 1 := rfl
            have ej : j = i := by omega
            rw [ej, List.getElem?_append_right (by omega), la, Nat.sub_self] at h1
            rw [ej, List.getElem?_append_right (by omega), lD, Nat.sub_self] at h2
            cases h1
            cases h2
            exact ⟨lx hA, hD, hz⟩
        refine ⟨_, rfl, rfl, _, rfl, ?_⟩
        by_cases cm : (e : Int) = 2
        · refine ifp (by rw [veq]; exact decide_eq_true cm) ?_
          have f10 := s10 _ _ f9
          have lim1 : lim = 1 := by rcases h3l with ⟨_, h⟩ | ⟨h, _⟩ <;> omega
          refine ⟨_, rfl, .inl ⟨rfl, _, SqL.of f10⟩, _, rfl, _, rfl, _, rfl, xo, 21, rfl, bo, by decide, by decide, fun H11 m k11 b11 hm => ?_⟩
          have s911 : Same H9 H11 := Same.kp s10 nxo k11
          have s611 := s9.trans s911
          refine ⟨_, _, rfl, rfl, xo, r, ts, rows, 20 + m, by show [_, _, V.int (20 + ((m : Nat) : Int))] = _; rw [show (20 : Int) + ((m : Nat) : Int) = ((20 + m : Nat) : Int) by omega], b11, s611 _ _ hr6, hT6.keep (fun _ _ h => s611 _ _ h), R, (fun q hq => by have := wle q hq; omega), by omega, by omega, fun H12 a D k12 b12 hD hDm _ _ hA => ?_⟩
          obtain ⟨_, rfl, q1, q2, q3, q4, q5, q6, q7, q8⟩ := fin H12 a D (k11.trans k12) hD (Sz.long (fun q hq => by have := wle q hq; omega) (by omega)) hA
          exact ⟨DL, _, _, rfl, rfl, q1, q2, _, _, as ++ [a], Ds ++ [D], rfl, q3, q4, q5, q6, q7, q8⟩
        · refine ifn (by rw [veq]; exact fun h => cm (of_decide_eq_true h)) ?_
          have f10 := s10 _ _ f9
          refine ⟨_, rfl, .inl ⟨rfl, _, SqL.of f10⟩, _, rfl, _, rfl, le_line (show 4 ≤ 10000000 by decide), fun l5 hl5 => ?_⟩
          have s11 := (Same.refl H10).upd_new (o := .lst [.int 4, .int 4, .int 4, .int 3]) hl5
          have e11 : (upd H10 l5 (.lst [.int 4, .int 4, .int 4, .int 3])) l5 = some (.lst [.int 4, .int 4, .int 4, .int 3]) := upd_same
          have b11 := bo.same s11
          generalize upd H10 l5 (.lst [.int 4, .int 4, .int 4, .int 3]) = H11 at s11 e11 b11
          have s611 := s610.trans s11
          have ht3 : qt.2.toNat < 4 := by omega
          obtain ⟨most, hmost⟩ : ∃ most, ([4, 4, 4, 3] : List Nat)[qt.2.toNat]? = some most := ⟨_, List.getElem?_eq_getElem ht3⟩
          have hmV : ([V.int 4, V.int 4, V.int 4, V.int 3] : List V)[qt.2.toNat]? = some (.int ((most : Nat) : Int)) ∧ 1 ≤ most ∧ most ≤ 4 := by
            match qt.2.toNat, ht3, hmost with
            | 0, _, h => cases h; exact ⟨rfl, by decide, by decide⟩
            | 1, _, h => cases h; exact ⟨rfl, by decide, by decide⟩
            | 2, _, h => cases h; exact ⟨rfl, by decide, by decide⟩
            | 3, _, h => cases h; exact ⟨rfl, by decide, by decide⟩
          refine ⟨_, rfl, l5, _, _, _, rfl, rfl, SqL.of e11, at_ofG (j := qt.2.toNat) (by omega) hmV.1, xo, r, ts, rows, most, rfl, b11, s611 _ _ hr6, hT6.keep (fun _ _ h => s611 _ _ h), R, hmV.2.1, hmV.2.2, fun H12 a D k12 b12 hD hDm _ _ hA => ?_⟩
          obtain ⟨_, rfl, q1, q2, q3, q4, q5, q6, q7, q8⟩ := fin H12 a D ((Kp.same s11).trans k12) hD (Sz.short htw.1 htw.2 wt hDm hmost) hA
          exact ⟨DL, _, _, rfl, rfl, q1, q2, _, _, as ++ [a], Ds ++ [D], rfl, q3, q4, q5, q6, q7, q8⟩
      rintro σ H9 ⟨x6, x7, as, Ds, rfl, s9, g9, f9, la, lD, drw⟩
      have la : as.length = 2 := la
      have lD : Ds.length = 2 := lD
      refine ⟨_, rfl, DL, rfl, ⟨_, SqL.of f9⟩, fun RL hRL => lc_it (walk_list (xs := as.map V.ref)) (fun i H' => Same H9 H' ∧ ∃ us : List Addr, H' RL = some (.lst (us.map V.ref)) ∧ us.length = i ∧ ∀ (j : Nat) (u : Addr) (D : RdD), us[j]? = some u → Ds[j]? = some D → ∃ b, RdAt C CR H' u b rows D) ⟨(Same.refl H9).upd_new hRL, [], upd_same, rfl, fun j u D h => by simp at h⟩ (fun i H' _ ⟨q, _⟩ => SqL.of (q _ _ f9)) ?_ ?_⟩
      · rintro i v H10 H10' hi ⟨s10, us, R10, lu, rds⟩ ⟨rfl, hv⟩
        obtain ⟨a, ha, rfl⟩ := get_map_r hv
        have hia : i < as.length := (List.getElem?_eq_some_iff.mp ha).1
        have hDi := List.getElem?_eq_getElem (show i < Ds.length by omega)
        generalize Ds[i]'(by omega) = D at hDi
        obtain ⟨hA, hD, hz⟩ := drw i a D ha hDi
        have s610 := s9.trans s10
        refine ⟨rfl, _, rfl, r, ts, rows, rfl, s610 _ _ hr6, hT6.keep (fun _ _ h => s610 _ _ h), R, fun H11 s11 => ?_⟩
        have s911 := s10.trans s11
        refine ⟨_, rfl, a, rows, D, [], rfl, R, hD, hA.sm s911, fun H12 u b s12 hRd => ?_⟩
        have s1012 := s11.trans s12
        have R12 := s1012 _ _ R10
        refine ⟨_, R12, by rw [List.length_map, lu]; exact lt_line (by omega), (s10.trans s1012).upd_own hRL, us ++ [u], by rw [upd_same, List.map_append]; rfl, by rw [List.length_append, lu]; rfl, fun j u' D' h1 h2 => ?_⟩
        have rx : ∀ {u' b' : Addr} {D' : RdD}, RdAt C CR H12 u' b' rows D' → RdAt C CR (upd H12 RL (.lst (us.map V.ref ++ [.ref u]))) u' b' rows D' := fun {u' b' D'} h => by
          obtain ⟨dr, d, mt, ds, q1, ⟨bx, r0, kk, ww, rk, tt, p1, p2, p3, p4, p5, p6⟩, q3, q4⟩ := h
          have kt : ∀ t o, H12 t = some o → (∀ ys, o ≠ .lst ys) → (upd H12 RL (.lst (us.map V.ref ++ [.ref u]))) t = some o := fun t o h n => by
            rw [upd_ne fun e => by rw [e, R12] at h; exact n _ (Option.some.inj h).symm]
            exact h
          exact ⟨dr, d, mt, ds, kt _ _ q1 (fun _ e => nomatch e), ⟨bx, r0, kk, ww, rk, tt, kt _ _ p1 (fun _ e => nomatch e), kt _ _ p2 (fun _ e => nomatch e), ⟨p3.1, fun i t q h1 h2 => kt _ _ (p3.2 i t q h1 h2) (fun _ e => nomatch e)⟩, kt _ _ p4 (fun _ e => nomatch e), kt _ _ p5 (fun _ e => nomatch e), kt _ _ p6 (fun _ e => nomatch e)⟩, ⟨kt _ _ q3.at_ (fun _ e => nomatch e), q3.len, q3.nd, q3.nin, fun i n a g1 g2 => kt _ _ (q3.row i n a g1 g2) (fun _ e => nomatch e)⟩, kt _ _ q4 (fun _ e => nomatch e)⟩
        by_cases c : j < i
        · rw [List.getElem?_append_left (by omega)] at h1
          obtain ⟨b', h⟩ := rds j u' D' h1 h2
          exact ⟨b', rx (h.same s1012)⟩
        · have hj := (List.getElem?_eq_some_iff.mp h1).1
          rw [List.length_append, lu] at hj
          have l1 : ([u] : List Addr).length = 1 := rfl
          have ej : j = i := by omega
          rw [ej, List.getElem?_append_right (by omega), lu, Nat.sub_self] at h1
          rw [ej, hDi] at h2
          cases h1
          cases h2
          exact ⟨b, rx hRd⟩
      rintro H10 ⟨s10, us, R10, lu, rds⟩
      rw [List.length_map, la] at lu
      have s610 := s9.trans s10
      have f10 := s10 _ _ f9
      refine ⟨le_line (show 3 ≤ 10000000 by decide), fun l3 hl3 => ?_⟩
      have s11 := (Same.refl H10).upd_new (o := .lst [.int 0, .int 1, .int 0]) hl3
      have e11 : (upd H10 l3 (.lst [.int 0, .int 1, .int 0])) l3 = some (.lst [.int 0, .int 1, .int 0]) := upd_same
      generalize upd H10 l3 (.lst [.int 0, .int 1, .int 0]) = H11 at s11 e11
      have s611 := s610.trans s11
      have T11 := T6.ext s611
      have f11 := s11 _ _ f10
      have R11 := s11 _ _ R10
      have at2 : ∀ j, j < 2 → ∃ a u b D, as[j]? = some a ∧ us[j]? = some u ∧ D.Ok rows ∧ Sz rows D ∧ ∀ H', Gw H11 H' → LrA P w H' a D [] ∧ RdAt C CR H' u b rows D := fun j hj => by
        have h1 := List.getElem?_eq_getElem (show j < as.length by omega)
        have h2 := List.getElem?_eq_getElem (show j < Ds.length by omega)
        have h3 := List.getElem?_eq_getElem (show j < us.length by omega)
        obtain ⟨p1, p2, p3⟩ := drw j _ _ h1 h2
        obtain ⟨b, p4⟩ := rds j _ _ h3 h2
        exact ⟨_, _, b, _, h1, h3, p2, p3, fun H' g => ⟨(p1.sm (s10.trans s11)).gw g, (p4.same s11).gw g⟩⟩
      have gA : ∀ {H' : Hp} {j : Nat} {a : Addr}, Gw H11 H' → as[j]? = some a → SqL K H' DL (as.map V.ref) ∧ (as.map V.ref)[j]? = some (.ref a) := fun g h => ⟨SqL.of (g.lst f11), by rw [List.getElem?_map, h]; rfl⟩
      have gU : ∀ {H' : Hp} {j : Nat} {u : Addr}, Gw H11 H' → us[j]? = some u → SqL K H' RL (us.map V.ref) ∧ (us.map V.ref)[j]? = some (.ref u) := fun g h => ⟨SqL.of (g.lst R11), by rw [List.getElem?_map, h]; rfl⟩
      have gK : ∀ {H' : Hp}, Gw H11 H' → H' r = some (.tup (ts.map V.ref)) ∧ TupsAt H' ts rows := fun g => ⟨g.tup (s611 _ _ hr6), hT6.keep fun _ _ h => g.tup (s611 _ _ h)⟩
      refine ⟨l3, rfl, ⟨_, SqL.of e11⟩, for_list (xs := [V.int 0, V.int 1, V.int 0]) (fun i σ H' => ∃ (x6 : Option V), σ = [some (.ref s), some (.ref x0), some (.int (e : Nat)), some (.ref r), some (.int qt.2), some (.ref DL), x6, x7, some (.ref RL), none, none] ∧ Gw H11 H' ∧ Tabs Tb H') ⟨x6, rfl, Gw.of (Same.refl H11), T11⟩ (fun i σ H' _ ⟨_, _, q, _⟩ => SqL.of (q.lst e11)) ?_ ?_⟩
      · rintro i v σ H12 hv ⟨y6, rfl, g12, T12⟩
        obtain ⟨kk, hk2, rfl⟩ : ∃ kk : Nat, kk < 2 ∧ v = .int ((kk : Nat) : Int) := by
          match i, hv with
          | 0, hv => cases hv; exact ⟨0, by decide, rfl⟩
          | 1, hv => cases hv; exact ⟨1, by decide, rfl⟩
          | 2, hv => cases hv; exact ⟨0, by decide, rfl⟩
        obtain ⟨a, u, b, D, ha, hu', hD, hz, hall⟩ := at2 kk hk2
        obtain ⟨hA12, hR12⟩ := hall H12 g12
        obtain ⟨q1, q2⟩ := gA g12 ha
        obtain ⟨p1, p2⟩ := gU g12 hu'
        refine ⟨_, rfl, _, rfl, _, rfl, DL, _, _, _, rfl, rfl, q1, at_ofG (j := kk) rfl q2, _, rfl, _, rfl, RL, _, _, _, rfl, rfl, p1, at_ofG (j := kk) rfl p2, u, b, rows, D, rfl, hR12, R, hD, T12, fun js cl ss cs I M L hss => ?_⟩
        have hsz := hz.hsz I L hss
        have hfull := L.full R I hsz
        obtain ⟨cf, hLR, huq⟩ := lr_of R hD I M L hss hfull hsz
        refine ⟨fun hlt => by omega, fun _ H13 t g13 T13 hP => ?_⟩
        obtain ⟨vs, hvs, hPl⟩ := hP.cf huq
        have g1113 := g12.trans g13
        obtain ⟨hA13, _⟩ := hall H13 g1113
        obtain ⟨hr13, hT13⟩ := gK g1113
        refine ⟨r, a, t, ts, rows, D, [], vs, js, cf, rfl, hr13, hT13, R, hD, hA13, hvs, hPl, hLR, hz.pw, fun H14 s14 => ?_⟩
        exact ⟨_, rfl, ifn (by decide) ⟨_, rfl, g1113.trans (Gw.of s14), T13.ext s14⟩⟩
      rintro σ H12 ⟨y6, rfl, g12, T12⟩
      obtain ⟨a0, u0, b0', D0, ha0, hu0, hD0, hz0, hall0⟩ := at2 0 (by decide)
      obtain ⟨a1, u1, b1, D1', ha1, hu1, hDo1, hz1, hall1⟩ := at2 1 (by decide)
      obtain ⟨q1, q2⟩ := gA g12 ha0
      obtain ⟨p1, p2⟩ := gU g12 hu0
      obtain ⟨hr12, hT12⟩ := gK g12
      obtain ⟨hA0, hR0⟩ := hall0 H12 g12
      refine ⟨_, rfl, _, rfl, DL, _, _, _, rfl, rfl, q1, at_ofG (j := 0) rfl q2, _, rfl, RL, _, _, _, rfl, rfl, p1, at_ofG (j := 0) rfl p2, r, a0, u0, b0', ts, rows, D0, [], rfl, hr12, hT12, R, hD0, hA0, hR0, hz0.pw, fun H13 s13 => ?_⟩
      have g13 := g12.trans (Gw.of s13)
      obtain ⟨q3, q4⟩ := gA g13 ha1
      obtain ⟨p3, p4⟩ := gU g13 hu1
      obtain ⟨hr13, hT13⟩ := gK g13
      obtain ⟨hA1, hR1⟩ := hall1 H13 g13
      refine ⟨_, rfl, ifp rfl ⟨_, rfl, _, rfl, DL, _, _, _, rfl, rfl, q3, at_ofG (j := 1) rfl q4, _, rfl, RL, _, _, _, rfl, rfl, p3, at_ofG (j := 1) rfl p4, r, a1, u1, b1, ts, rows, D1', [], rfl, hr13, hT13, R, hDo1, hA1, hR1, hz1.pw, fun H14 s14 => ?_⟩⟩
      exact key H14
  · refine ifn (by rw [veq]; exact fun e => c1 (of_decide_eq_true e)) ?_
    refine ⟨le_line (show 0 ≤ 10000000 by decide), fun DL hDL => ?_⟩
    have s7 := (Same.refl H6).upd_new (o := .lst []) hDL
    have e7 : (upd H6 DL (.lst [])) DL = some (.lst (([] : List Addr).map V.ref)) := upd_same
    generalize upd H6 DL (.lst []) = H7 at s7 e7
    refine ⟨le_line (show 2 ≤ 10000000 by decide), fun l2 hl2 => ?_⟩
    have s8 := (Same.refl H7).upd_new (o := .lst [.int 2, .int 3]) hl2
    have e8 : (upd H7 l2 (.lst [.int 2, .int 3])) l2 = some (.lst [.int 2, .int 3]) := upd_same
    have f8 : (upd H7 l2 (.lst [.int 2, .int 3])) DL = some (.lst (([] : List Addr).map V.ref)) := by rw [upd_ne (ne_of_none e7 hl2)]; exact e7
    have nl2 : l2 ≠ DL := fun e => by rw [e, e7] at hl2; cases hl2
    generalize upd H7 l2 (.lst [.int 2, .int 3]) = H8 at s8 e8 f8
    have s68 := s7.trans s8
    refine ⟨l2, rfl, ⟨_, SqL.of e8⟩, for_list (xs := [V.int 2, V.int 3]) (fun i σ H' => ∃ (x6 x7 : Option V) (as : List Addr) (Ds : List RdD), σ = [some (.ref s), some (.ref x0), some (.int (e : Nat)), some (.ref r), some (.int qt.2), some (.ref DL), x6, x7, none, none, none] ∧ Same H6 H' ∧ H' l2 = some (.lst [.int 2, .int 3]) ∧ H' DL = some (.lst (as.map V.ref)) ∧ as.length = i ∧ Ds.length = i ∧ ∀ (j : Nat) (a : Addr) (D : RdD), as[j]? = some a → Ds[j]? = some D → LrA P w H' a D [] ∧ D.Ok rows ∧ Sz rows D)
      ⟨none, none, [], [], rfl, s68, e8, f8, rfl, rfl, fun j a D h => by simp at h⟩ (fun i σ H' _ ⟨_, _, _, _, _, _, q, _⟩ => SqL.of q) ?_ ?_⟩
    · rintro i v σ H9 hv ⟨x6, x7, as, Ds, rfl, s9, g9, f9, la, lD, drw⟩
      obtain ⟨kk, hk4, rfl⟩ : ∃ kk : Nat, kk < 4 ∧ v = .int ((kk : Nat) : Int) := by
        match i, hv with
        | 0, hv => cases hv; exact ⟨2, by decide, rfl⟩
        | 1, hv => cases hv; exact ⟨3, by decide, rfl⟩
      have hi2 : i < 2 := (List.getElem?_eq_some_iff.mp hv).1
      refine ⟨_, rfl, _, rfl, s, ns, kk, rfl, sqs hS (s06.trans s9), (fun H' q => sqs (sqs hS (s06.trans s9)) q), hn, hk4, fun H10 xo s10 nxo bo => ?_⟩
      have s610 := s9.trans s10
      have fin : ∀ (H' : Hp) (a : Addr) (D : RdD), Kp xo H10 H' → D.Ok rows → Sz rows D → LrA P w H' a D [] → ∃ (H'' : Hp), H'' = upd H' DL (.lst (as.map V.ref ++ [.ref a])) ∧ H' DL = some (.lst (as.map V.ref)) ∧ (as.map V.ref).length < sizeLine ∧ Same H6 H'' ∧ H'' l2 = some (.lst [.int 2, .int 3]) ∧ H'' DL = some (.lst ((as ++ [a]).map V.ref)) ∧ (as ++ [a]).length = i + 1 ∧ (Ds ++ [D]).length = i + 1 ∧ ∀ (j : Nat) (a' : Addr) (D' : RdD), (as ++ [a])[j]? = some a' → (Ds ++ [D])[j]? = some D' → LrA P w H'' a' D' [] ∧ D'.Ok rows ∧ Sz rows D' := fun H' a D kx hD hz hA => by
        have s9' : Same H9 H' := Same.kp s10 nxo kx
        have f' := s9' _ _ f9
        have lx : ∀ {a' : Addr} {D' : RdD}, LrA P w H' a' D' [] → LrA P w (upd H' DL (.lst (as.map V.ref ++ [.ref a]))) a' D' [] := fun {a' D'} h => by
          obtain ⟨tR, tM, tS, us, h1, h2, h3, h4, h5⟩ := h
          have na : a' ≠ DL := fun e => by
            rw [e, f'] at h1
            have h1 := Option.some.inj h1
            injection h1 with h1
            cases as with
            | nil => cases h1
            | cons x as => cases h1
          have kt : ∀ t ys, H' t = some (.tup ys) → (upd H' DL (.lst (as.map V.ref ++ [.ref a]))) t = some (.tup ys) := fun t ys h => by rw [upd_ne (ne_of h f' (fun e => nomatch e))]; exact h
          refine ⟨tR, tM, tS, us, by rw [upd_ne na]; exact h1, kt _ _ h2, h3.keep kt, kt _ _ h4, ?_⟩
          obtain ⟨l, hs, xs, nt, h⟩ := h5
          exact ⟨l, hs, xs, nt.keeps kt, by rw [upd_ne (ne_of h f' (fun e => by unfold NdO at e; cases e))]; exact h⟩
        refine ⟨_, rfl, f', by rw [List.length_map, la]; exact lt_line (by omega), (s9.trans s9').upd_own hDL, by rw [upd_ne nl2]; exact s9' _ _ g9, by rw [upd_same, List.map_append]; rfl, by rw [List.length_append, la]; rfl, by rw [List.length_append, lD]; rfl, fun j a' D' h1 h2 => ?_⟩
        by_cases c : j < i
        · rw [List.getElem?_append_left (by omega)] at h1 h2
          obtain ⟨p1, p2, p3⟩ := drw j a' D' h1 h2
          exact ⟨lx (p1.sm s9'), p2, p3⟩
        · have hj := (List.getElem?_eq_some_iff.mp h1).1
          rw [List.length_append, la] at hj
          have l1 : ([a] : List Addr).length = 1 := rfl
          have ej : j = i := by omega
          rw [ej, List.getElem?_append_right (by omega), la, Nat.sub_self] at h1
          rw [ej, List.getElem?_append_right (by omega), lD, Nat.sub_self] at h2
          cases h1
          cases h2
          exact ⟨lx hA, hD, hz⟩
      refine ⟨_, rfl, rfl, _, rfl, ?_⟩
      by_cases cm : (e : Int) = 2
      · refine ifp (by rw [veq]; exact decide_eq_true cm) ?_
        have f10 := s10 _ _ f9
        have lim1 : lim = 1 := by rcases h3l with ⟨_, h⟩ | ⟨h, _⟩ <;> omega
        refine ⟨_, rfl, .inl ⟨rfl, _, SqL.of f10⟩, _, rfl, _, rfl, _, rfl, xo, 21, rfl, bo, by decide, by decide, fun H11 m k11 b11 hm => ?_⟩
        have s911 : Same H9 H11 := Same.kp s10 nxo k11
        have s611 := s9.trans s911
        refine ⟨_, _, rfl, rfl, xo, r, ts, rows, 20 + m, by show [_, _, V.int (20 + ((m : Nat) : Int))] = _; rw [show (20 : Int) + ((m : Nat) : Int) = ((20 + m : Nat) : Int) by omega], b11, s611 _ _ hr6, hT6.keep (fun _ _ h => s611 _ _ h), R, (fun q hq => by have := wle q hq; omega), by omega, by omega, fun H12 a D k12 b12 hD hDm _ _ hA => ?_⟩
        obtain ⟨_, rfl, q1, q2, q3, q4, q5, q6, q7, q8⟩ := fin H12 a D (k11.trans k12) hD (Sz.long (fun q hq => by have := wle q hq; omega) (by omega)) hA
        exact ⟨DL, _, _, rfl, rfl, q1, q2, _, _, as ++ [a], Ds ++ [D], rfl, q3, q4, q5, q6, q7, q8⟩
      · refine ifn (by rw [veq]; exact fun h => cm (of_decide_eq_true h)) ?_
        have f10 := s10 _ _ f9
        refine ⟨_, rfl, .inl ⟨rfl, _, SqL.of f10⟩, _, rfl, _, rfl, le_line (show 4 ≤ 10000000 by decide), fun l5 hl5 => ?_⟩
        have s11 := (Same.refl H10).upd_new (o := .lst [.int 4, .int 4, .int 4, .int 3]) hl5
        have e11 : (upd H10 l5 (.lst [.int 4, .int 4, .int 4, .int 3])) l5 = some (.lst [.int 4, .int 4, .int 4, .int 3]) := upd_same
        have b11 := bo.same s11
        generalize upd H10 l5 (.lst [.int 4, .int 4, .int 4, .int 3]) = H11 at s11 e11 b11
        have s611 := s610.trans s11
        have ht3 : qt.2.toNat < 4 := by omega
        obtain ⟨most, hmost⟩ : ∃ most, ([4, 4, 4, 3] : List Nat)[qt.2.toNat]? = some most := ⟨_, List.getElem?_eq_getElem ht3⟩
        have hmV : ([V.int 4, V.int 4, V.int 4, V.int 3] : List V)[qt.2.toNat]? = some (.int ((most : Nat) : Int)) ∧ 1 ≤ most ∧ most ≤ 4 := by
          match qt.2.toNat, ht3, hmost with
          | 0, _, h => cases h; exact ⟨rfl, by decide, by decide⟩
          | 1, _, h => cases h; exact ⟨rfl, by decide, by decide⟩
          | 2, _, h => cases h; exact ⟨rfl, by decide, by decide⟩
          | 3, _, h => cases h; exact ⟨rfl, by decide, by decide⟩
        refine ⟨_, rfl, l5, _, _, _, rfl, rfl, SqL.of e11, at_ofG (j := qt.2.toNat) (by omega) hmV.1, xo, r, ts, rows, most, rfl, b11, s611 _ _ hr6, hT6.keep (fun _ _ h => s611 _ _ h), R, hmV.2.1, hmV.2.2, fun H12 a D k12 b12 hD hDm _ _ hA => ?_⟩
        obtain ⟨_, rfl, q1, q2, q3, q4, q5, q6, q7, q8⟩ := fin H12 a D ((Kp.same s11).trans k12) hD (Sz.short htw.1 htw.2 wt hDm hmost) hA
        exact ⟨DL, _, _, rfl, rfl, q1, q2, _, _, as ++ [a], Ds ++ [D], rfl, q3, q4, q5, q6, q7, q8⟩
    rintro σ H9 ⟨x6, x7, as, Ds, rfl, s9, g9, f9, la, lD, drw⟩
    have la : as.length = 2 := la
    have lD : Ds.length = 2 := lD
    refine ⟨_, rfl, DL, rfl, ⟨_, SqL.of f9⟩, fun RL hRL => lc_it (walk_list (xs := as.map V.ref)) (fun i H' => Same H9 H' ∧ ∃ us : List Addr, H' RL = some (.lst (us.map V.ref)) ∧ us.length = i ∧ ∀ (j : Nat) (u : Addr) (D : RdD), us[j]? = some u → Ds[j]? = some D → ∃ b, RdAt C CR H' u b rows D) ⟨(Same.refl H9).upd_new hRL, [], upd_same, rfl, fun j u D h => by simp at h⟩ (fun i H' _ ⟨q, _⟩ => SqL.of (q _ _ f9)) ?_ ?_⟩
    · rintro i v H10 H10' hi ⟨s10, us, R10, lu, rds⟩ ⟨rfl, hv⟩
      obtain ⟨a, ha, rfl⟩ := get_map_r hv
      have hia : i < as.length := (List.getElem?_eq_some_iff.mp ha).1
      have hDi := List.getElem?_eq_getElem (show i < Ds.length by omega)
      generalize Ds[i]'(by omega) = D at hDi
      obtain ⟨hA, hD, hz⟩ := drw i a D ha hDi
      have s610 := s9.trans s10
      refine ⟨rfl, _, rfl, r, ts, rows, rfl, s610 _ _ hr6, hT6.keep (fun _ _ h => s610 _ _ h), R, fun H11 s11 => ?_⟩
      have s911 := s10.trans s11
      refine ⟨_, rfl, a, rows, D, [], rfl, R, hD, hA.sm s911, fun H12 u b s12 hRd => ?_⟩
      have s1012 := s11.trans s12
      have R12 := s1012 _ _ R10
      refine ⟨_, R12, by rw [List.length_map, lu]; exact lt_line (by omega), (s10.trans s1012).upd_own hRL, us ++ [u], by rw [upd_same, List.map_append]; rfl, by rw [List.length_append, lu]; rfl, fun j u' D' h1 h2 => ?_⟩
      have rx : ∀ {u' b' : Addr} {D' : RdD}, RdAt C CR H12 u' b' rows D' → RdAt C CR (upd H12 RL (.lst (us.map V.ref ++ [.ref u]))) u' b' rows D' := fun {u' b' D'} h => by
        obtain ⟨dr, d, mt, ds, q1, ⟨bx, r0, kk, ww, rk, tt, p1, p2, p3, p4, p5, p6⟩, q3, q4⟩ := h
        have kt : ∀ t o, H12 t = some o → (∀ ys, o ≠ .lst ys) → (upd H12 RL (.lst (us.map V.ref ++ [.ref u]))) t = some o := fun t o h n => by
          rw [upd_ne fun e => by rw [e, R12] at h; exact n _ (Option.some.inj h).symm]
          exact h
        exact ⟨dr, d, mt, ds, kt _ _ q1 (fun _ e => nomatch e), ⟨bx, r0, kk, ww, rk, tt, kt _ _ p1 (fun _ e => nomatch e), kt _ _ p2 (fun _ e => nomatch e), ⟨p3.1, fun i t q h1 h2 => kt _ _ (p3.2 i t q h1 h2) (fun _ e => nomatch e)⟩, kt _ _ p4 (fun _ e => nomatch e), kt _ _ p5 (fun _ e => nomatch e), kt _ _ p6 (fun _ e => nomatch e)⟩, ⟨kt _ _ q3.at_ (fun _ e => nomatch e), q3.len, q3.nd, q3.nin, fun i n a g1 g2 => kt _ _ (q3.row i n a g1 g2) (fun _ e => nomatch e)⟩, kt _ _ q4 (fun _ e => nomatch e)⟩
      by_cases c : j < i
      · rw [List.getElem?_append_left (by omega)] at h1
        obtain ⟨b', h⟩ := rds j u' D' h1 h2
        exact ⟨b', rx (h.same s1012)⟩
      · have hj := (List.getElem?_eq_some_iff.mp h1).1
        rw [List.length_append, lu] at hj
        have l1 : ([u] : List Addr).length = 1 := rfl
        have ej : j = i := by omega
        rw [ej, List.getElem?_append_right (by omega), lu, Nat.sub_self] at h1
        rw [ej, hDi] at h2
        cases h1
        cases h2
        exact ⟨b, rx hRd⟩
    rintro H10 ⟨s10, us, R10, lu, rds⟩
    rw [List.length_map, la] at lu
    have s610 := s9.trans s10
    have f10 := s10 _ _ f9
    refine ⟨le_line (show 3 ≤ 10000000 by decide), fun l3 hl3 => ?_⟩
    have s11 := (Same.refl H10).upd_new (o := .lst [.int 0, .int 1, .int 0]) hl3
    have e11 : (upd H10 l3 (.lst [.int 0, .int 1, .int 0])) l3 = some (.lst [.int 0, .int 1, .int 0]) := upd_same
    generalize upd H10 l3 (.lst [.int 0, .int 1, .int 0]) = H11 at s11 e11
    have s611 := s610.trans s11
    have T11 := T6.ext s611
    have f11 := s11 _ _ f10
    have R11 := s11 _ _ R10
    have at2 : ∀ j, j < 2 → ∃ a u b D, as[j]? = some a ∧ us[j]? = some u ∧ D.Ok rows ∧ Sz rows D ∧ ∀ H', Gw H11 H' → LrA P w H' a D [] ∧ RdAt C CR H' u b rows D := fun j hj => by
      have h1 := List.getElem?_eq_getElem (show j < as.length by omega)
      have h2 := List.getElem?_eq_getElem (show j < Ds.length by omega)
      have h3 := List.getElem?_eq_getElem (show j < us.length by omega)
      obtain ⟨p1, p2, p3⟩ := drw j _ _ h1 h2
      obtain ⟨b, p4⟩ := rds j _ _ h3 h2
      exact ⟨_, _, b, _, h1, h3, p2, p3, fun H' g => ⟨(p1.sm (s10.trans s11)).gw g, (p4.same s11).gw g⟩⟩
    have gA : ∀ {H' : Hp} {j : Nat} {a : Addr}, Gw H11 H' → as[j]? = some a → SqL K H' DL (as.map V.ref) ∧ (as.map V.ref)[j]? = some (.ref a) := fun g h => ⟨SqL.of (g.lst f11), by rw [List.getElem?_map, h]; rfl⟩
    have gU : ∀ {H' : Hp} {j : Nat} {u : Addr}, Gw H11 H' → us[j]? = some u → SqL K H' RL (us.map V.ref) ∧ (us.map V.ref)[j]? = some (.ref u) := fun g h => ⟨SqL.of (g.lst R11), by rw [List.getElem?_map, h]; rfl⟩
    have gK : ∀ {H' : Hp}, Gw H11 H' → H' r = some (.tup (ts.map V.ref)) ∧ TupsAt H' ts rows := fun g => ⟨g.tup (s611 _ _ hr6), hT6.keep fun _ _ h => g.tup (s611 _ _ h)⟩
    refine ⟨l3, rfl, ⟨_, SqL.of e11⟩, for_list (xs := [V.int 0, V.int 1, V.int 0]) (fun i σ H' => ∃ (x6 : Option V), σ = [some (.ref s), some (.ref x0), some (.int (e : Nat)), some (.ref r), some (.int qt.2), some (.ref DL), x6, x7, some (.ref RL), none, none] ∧ Gw H11 H' ∧ Tabs Tb H') ⟨x6, rfl, Gw.of (Same.refl H11), T11⟩ (fun i σ H' _ ⟨_, _, q, _⟩ => SqL.of (q.lst e11)) ?_ ?_⟩
    · rintro i v σ H12 hv ⟨y6, rfl, g12, T12⟩
      obtain ⟨kk, hk2, rfl⟩ : ∃ kk : Nat, kk < 2 ∧ v = .int ((kk : Nat) : Int) := by
        match i, hv with
        | 0, hv => cases hv; exact ⟨0, by decide, rfl⟩
        | 1, hv => cases hv; exact ⟨1, by decide, rfl⟩
        | 2, hv => cases hv; exact ⟨0, by decide, rfl⟩
      obtain ⟨a, u, b, D, ha, hu', hD, hz, hall⟩ := at2 kk hk2
      obtain ⟨hA12, hR12⟩ := hall H12 g12
      obtain ⟨q1, q2⟩ := gA g12 ha
      obtain ⟨p1, p2⟩ := gU g12 hu'
      refine ⟨_, rfl, _, rfl, _, rfl, DL, _, _, _, rfl, rfl, q1, at_ofG (j := kk) rfl q2, _, rfl, _, rfl, RL, _, _, _, rfl, rfl, p1, at_ofG (j := kk) rfl p2, u, b, rows, D, rfl, hR12, R, hD, T12, fun js cl ss cs I M L hss => ?_⟩
      have hsz := hz.hsz I L hss
      have hfull := L.full R I hsz
      obtain ⟨cf, hLR, huq⟩ := lr_of R hD I M L hss hfull hsz
      refine ⟨fun hlt => by omega, fun _ H13 t g13 T13 hP => ?_⟩
      obtain ⟨vs, hvs, hPl⟩ := hP.cf huq
      have g1113 := g12.trans g13
      obtain ⟨hA13, _⟩ := hall H13 g1113
      obtain ⟨hr13, hT13⟩ := gK g1113
      refine ⟨r, a, t, ts, rows, D, [], vs, js, cf, rfl, hr13, hT13, R, hD, hA13, hvs, hPl, hLR, hz.pw, fun H14 s14 => ?_⟩
      exact ⟨_, rfl, ifn (by decide) ⟨_, rfl, g1113.trans (Gw.of s14), T13.ext s14⟩⟩
    rintro σ H12 ⟨y6, rfl, g12, T12⟩
    obtain ⟨a0, u0, b0', D0, ha0, hu0, hD0, hz0, hall0⟩ := at2 0 (by decide)
    obtain ⟨a1, u1, b1, D1', ha1, hu1, hDo1, hz1, hall1⟩ := at2 1 (by decide)
    obtain ⟨q1, q2⟩ := gA g12 ha0
    obtain ⟨p1, p2⟩ := gU g12 hu0
    obtain ⟨hr12, hT12⟩ := gK g12
    obtain ⟨hA0, hR0⟩ := hall0 H12 g12
    refine ⟨_, rfl, _, rfl, DL, _, _, _, rfl, rfl, q1, at_ofG (j := 0) rfl q2, _, rfl, RL, _, _, _, rfl, rfl, p1, at_ofG (j := 0) rfl p2, r, a0, u0, b0', ts, rows, D0, [], rfl, hr12, hT12, R, hD0, hA0, hR0, hz0.pw, fun H13 s13 => ?_⟩
    have g13 := g12.trans (Gw.of s13)
    obtain ⟨q3, q4⟩ := gA g13 ha1
    obtain ⟨p3, p4⟩ := gU g13 hu1
    obtain ⟨hr13, hT13⟩ := gK g13
    obtain ⟨hA1, hR1⟩ := hall1 H13 g13
    refine ⟨_, rfl, ifp rfl ⟨_, rfl, _, rfl, DL, _, _, _, rfl, rfl, q3, at_ofG (j := 1) rfl q4, _, rfl, RL, _, _, _, rfl, rfl, p3, at_ofG (j := 1) rfl p4, r, a1, u1, b1, ts, rows, D1', [], rfl, hr13, hT13, R, hDo1, hA1, hR1, hz1.pw, fun H14 s14 => ?_⟩⟩
    exact key H14
end
end Sh
end
section
set_option Elab.async false
set_option linter.all false
set_option maxRecDepth 100000
set_option maxHeartbeats 8000000
namespace Sh
open PySem PySem.Spec PyProof.Rows L2
open C8 (pss_cut tCut)
open Evl (ixN_nat)
section
variable {P : Program} {w : World} {K : PySem.W.Frag} {mg : Str → Option Value} {base : Heap} {C CR f : Addr} {fd : FuncData}
theorem ok_rdC (T : Bl mg) (B : BedT K C) (BR : RdT K CR) (c_check_states : DefOk P w K mg base CX0 1 "check_states" spStates52) (c_are_states : DefOk P w K mg base CX0 1 "are_states" spAre52) (c_check_marks : DefOk P w K mg base CX0 1 "check_marks" spMarks52) (c_rows_by_kind : DefOk P w K mg base CX0 2 "rows_by_kind" (spByKind52 C)) (hm : mg "Reader" = some (.ref CR)) (F : FunD K "__init__" "Reader.__init__" (defArgs s_Reader_init__) (defBody s_Reader_init__) (defScope s_Reader_init__) [] [("otherwise", .int 0)] f fd) (M : Mk K CR f) : RdC P w K mg base C CR 4 := by
  have G : FnOk P w K mg base CX0 4 f fd ["self", "bed", "states", "rows", "marks", "otherwise"] (spRdI C CR) := F.ok sc_Reader_init__ (fun vs H Q E h => by obtain ⟨x, dx, b, tR, tM, us, rows, D, rfl, _⟩ := h; rfl) fun cdv A outer s H vs Q E hr h => body_rdI T B BR c_check_states c_are_states c_check_marks c_rows_by_kind hr h
  obtain ⟨ds, rv, Bd⟩ := F.binds0 (ps := ["self", "bed", "states", "rows", "marks", "otherwise"]) 5 (by simp) rfl (fun D doc pm an cdv ct us ks h1 h2 => match us, ks, h1, h2 with
    | [_, _, _, _, _], [_], _, _ => ⟨_, _, _, _, _, _, rfl, rfl, rfl⟩)
  refine ⟨hm, f, fd, ds, M, G, Bd, rv, ⟨fun s us ws _ l1 l2 => ?_, fun r1 r2 => r1.append r2⟩⟩
  obtain ⟨oc, od, dV, kV, doc, pm, an, cdv, ct, osl, rfl, lk, hcd, hD, hK⟩ := F.ex
  rcases hD with ⟨_, rfl⟩ | ⟨e, _⟩
  · match us, ws, l1, l2 with
    | [_, _, _, _, _], [_], _, _ => exact .of_eq rfl
  · exact absurd rfl e
end
end Sh
end
section
set_option Elab.async false
set_option linter.all false
set_option maxRecDepth 100000
set_option maxHeartbeats 2000000
set_option autoImplicit false
namespace Sh
open PySem PySem.Spec PyProof.Rows L2
def q0 : Pos := ⟨0, 0, 0, 0⟩
def stpOf : Stmt → SupX.StP
  | .Assign [.Attribute (.Name _ q1) f q2] (.Name _ q3) q4 => ⟨f, q1, q2, q3, q4⟩
  | _ => ⟨"", q0, q0, q0, q0⟩
def headOf : List Stmt → Expr × Pos × Pos × Pos × Pos × Pos
  | .Expr (.Call (.Attribute (.Call (.Name _ p0) [] [] p1) _ p2) [msg] [] p3) p4 :: _ => (msg, p0, p1, p2, p3, p4)
  | _ => (.Name "" q0, q0, q0, q0, q0, q0)
def bodyTooMany : List Stmt := defBody s_TooMany
def zTooMany0 : SupX.StP := stpOf (bodyTooMany.getD 1 (.Pass q0))
def zTooMany1 : SupX.StP := stpOf (bodyTooMany.getD 2 (.Pass q0))
theorem eTooMany : defBody s_TooMany = SupX.iB (headOf bodyTooMany).1 (headOf bodyTooMany).2.1 (headOf bodyTooMany).2.2.1 (headOf bodyTooMany).2.2.2.1 (headOf bodyTooMany).2.2.2.2.1 (headOf bodyTooMany).2.2.2.2.2 [zTooMany0, zTooMany1] := rfl
theorem scTooMany : SupX.SupScope (defScope s_TooMany) [zTooMany0, zTooMany1] := ⟨rfl, rfl, rfl, by decide +kernel, rfl, rfl, rfl, fun z hz => by
  rcases List.mem_cons.mp hz with h | h
  · rw [h]; exact ⟨rfl, by decide +kernel⟩
  · rw [List.mem_singleton.mp h]; exact ⟨rfl, by decide +kernel⟩, by decide +kernel⟩
theorem ppTooMany (fI : Addr) : SupX.SupPos "TooMany.__init__" (defScope s_TooMany) fI (headOf bodyTooMany).1 (headOf bodyTooMany).2.1 (headOf bodyTooMany).2.2.1 (headOf bodyTooMany).2.2.2.1 (headOf bodyTooMany).2.2.2.2.1 (headOf bodyTooMany).2.2.2.2.2 := ⟨fun _ _ _ => ⟨_, rfl⟩, fun _ _ _ => rfl, fun _ _ _ => rfl⟩
section
variable {w : World} {K : PySem.W.Frag} {mg : Str → Option Value}
theorem msg_TooMany {prog : Program} {x L fI : Addr} {cda cc : Addr} {vs : List V} {us : List Value} (rv : Vals vs us) (hP : tmP6 vs) : SupX.MsgOk prog w (PySem.W.ksEnv "TooMany.__init__" (defScope s_TooMany) L fI (.ref cda) cc) (fun y => (((("self" : Str) :: [zTooMany0, zTooMany1].map (·.f)).zip (.ref x :: us)).reverse).lookup y) (headOf bodyTooMany).1 := by
  subst hP
  obtain ⟨u1, u2, rfl, ⟨t1, rfl⟩, ⟨t2, rfl⟩⟩ := vals2 rv
  intro A E s Q hn hq
  have e1 : (((("self" : Str) :: [zTooMany0, zTooMany1].map (·.f)).zip [Value.ref x, .str "knots" t1, .int 2000 t2]).reverse).lookup ("what" : Str) = some (.str "knots" t1) := rfl
  have e2 : (((("self" : Str) :: [zTooMany0, zTooMany1].map (·.f)).zip [Value.ref x, .str "knots" t1, .int 2000 t2]).reverse).lookup ("limit" : Str) = some (.int 2000 t2) := rfl
  show wpAny _ _ (eval (.JoinedStr [.Constant (.str "too many ") _ _, .FormattedValue (.Name "what" _) (-1) none _, .Constant (.str ": the limit is ") _ _, .FormattedValue (.Name "limit" _) (-1) none _] _) _) Q E s
  refine wpAny_JoinedStr ?_
  refine wpAny_Constant_str ⟨_, _, rfl, le_line (by decide +kernel), ?_⟩
  refine wpAny_FormattedValue_plain (SupX.ldK hn e1 ?_ rfl rfl (by decide +kernel))
  refine wpAny_formatField_str ⟨_, _, rfl, le_line (by decide +kernel), ?_⟩ ⟨_, _, rfl, le_line (by decide +kernel), ?_⟩ (le_line (by decide +kernel))
  all_goals
    refine wpAny_Constant_str ⟨_, _, rfl, le_line (by decide +kernel), ?_⟩
    refine wpAny_FormattedValue_plain (SupX.ldK hn e2 ?_ rfl rfl (by decide +kernel))
    refine wpAny_formatField_int (by decide +kernel) ⟨_, _, rfl, le_line (by decide +kernel), ?_⟩
    exact ⟨le_line (by decide +kernel), hq _ _⟩
theorem sup_TooMany {h : Heap} (X : K.In h) (G : h.Ns mainGlobals mg) (gs : mg "super" = none) (F : Hx.XFacts TL.prog K xTooMany [zTooMany0, zTooMany1]) : PySem.SupX.SupCls TL.prog w K mg "TooMany" (He.ga K "TooMany") ["what", "limit"] tmP6 := by
  have T := F.txt
  have T2 : SupX.SupTxt TL.prog K (He.ga K "TooMany") (Hx.iOf K "TooMany") "TooMany.__init__" (defArgs s_TooMany) (SupX.iB (headOf bodyTooMany).1 (headOf bodyTooMany).2.1 (headOf bodyTooMany).2.2.1 (headOf bodyTooMany).2.2.2.1 (headOf bodyTooMany).2.2.2.2.1 (headOf bodyTooMany).2.2.2.2.2 [zTooMany0, zTooMany1]) (defScope s_TooMany) [zTooMany0, zTooMany1] := by
    rw [← eTooMany]
    exact T
  refine ⟨PySem.W.mg_of X G F.gl, gs, T.kC, T.exC, T.tyC, fun A s R mb vs us rv hP hl K1 hlim hG hB hbs hroom hq => ?_⟩
  exact SupX.sup_made (ppTooMany _) T2 scTooMany (by decide +kernel) ⟨_, rfl, rfl⟩ (fun _ _ _ _ _ _ _ us hu => match us, hu with | [_, _, _], _ => rfl) K1 hlim hG gs hB hbs (by rw [← rv.length, hl]; rfl) hroom (by decide) (fun x L cda cc => msg_TooMany rv hP) hq
end
end Sh
end
section
set_option Elab.async false
set_option linter.all false
set_option maxRecDepth 100000
set_option maxHeartbeats 4000000
set_option autoImplicit false
namespace Sh
open PySem PySem.Spec PyProof.Rows L2
theorem ob_eq (s : PySem.W.SharedT) : ob s = hk.obs s.abs := Hx.obsV_eq (HandSHeadRun.getT_eq s)
/-- the tables of the two defs, and the names that they bear -/
def tab6 (K : PySem.W.Frag) : List (Addr × Str) := [((He.cT K ("joint_machine", none)).2, "joint_machine" ++ ".<locals>." ++ "step"), ((He.cT K ("least_codes", none)).2, "least_codes" ++ ".<locals>." ++ "<lambda>")]
theorem tab6_nil {K : PySem.W.Frag} {H : Hp} (h : ∀ p ∈ tbN.map fun x => He.cT K (x, none), H p.2 = some (.tbl #[])) : LamX.Tabs (tab6 K) H := fun p hp => by
  unfold tab6 at hp
  rcases List.mem_cons.mp hp with rfl | hp
  · exact .nil (h _ (List.mem_map_of_mem (f := fun x => He.cT K (x, none)) (show ("joint_machine" : Str) ∈ tbN by unfold tbN; exact List.mem_cons_self)))
  · rw [List.mem_singleton.mp hp]
    exact .nil (h _ (List.mem_map_of_mem (f := fun x => He.cT K (x, none)) (show ("least_codes" : Str) ∈ tbN by unfold tbN; exact List.mem_cons_of_mem _ List.mem_cons_self)))
theorem tab6_ne {K : PySem.W.Frag} {h : Heap} (tw : Hx.TabsW tbF h K) : (He.cT K ("joint_machine", none)).2 ≠ (He.cT K ("least_codes", none)).2 := fun e => by
  have nd := tw.nd
  have nd : ([(He.cT K ("joint_machine", none)).2, (He.cT K ("least_codes", none)).2] : List Addr).Nodup := nd
  rw [e] at nd
  simp at nd
theorem facts {w : World} {K : PySem.W.Frag} {h : Heap} {mg : Str → Option Value} {f : Addr} (X : K.In h) (G : h.Ns mainGlobals mg) (hfa : mg ("law" : Str) = some (.ref f)) (c : He5.SaysA fa fn K) (x1 : (xs.all fun d => d.ok TL.prog.main.file K) = true) (x2 : (xs.map fun d => Hx.xvOf K d.x) = xs.map Hx.XDef.val) (x3 : (nsX.all fun x => Hx.zB K "YardError" nsX x) = true) (tw : Hx.TabsW tbF h K) (cm : (cmN.all fun p => Hx.cmB K p) = true) :
    ∃ fd : FuncData, (∀ (s : Shared) (v : Value), BindsTo s fd ⟨[v], []⟩ [("script", v)]) ∧ ∀ base : Heap, K.In base → base.Ns mainGlobals mg → (∀ p ∈ tbN.map fun x => He.cT K (x, none), LamX.TabB base mg p.1 p.2) → FnOk TL.prog w K mg base CX0 14 f fd ["script"] (spLawT K (tab6 K)) := by
  have D_all_rows : Def0 K mg "all_rows" s_all_rows := by
    obtain ⟨fd, F⟩ := c.def_ 0 (d := toA (dOf "all_rows" s_all_rows)) rfl
    exact ⟨_, fd, He.glo_ok X G (c.fact 0 (f := .glo "all_rows") rfl), F⟩
  have D_rows_from : Def0 K mg "rows_from" s_rows_from := by
    obtain ⟨fd, F⟩ := c.def_ 1 (d := toA (dOf "rows_from" s_rows_from)) rfl
    exact ⟨_, fd, He.glo_ok X G (c.fact 1 (f := .glo "rows_from") rfl), F⟩
  have D_rows_with : Def0 K mg "rows_with" s_rows_with := by
    obtain ⟨fd, F⟩ := c.def_ 2 (d := toA (dOf "rows_with" s_rows_with)) rfl
    exact ⟨_, fd, He.glo_ok X G (c.fact 2 (f := .glo "rows_with") rfl), F⟩
  obtain ⟨fd_least_codes, F_least_codes⟩ := c.def_ 3 (d := toA (dOf "least_codes" s_least_codes)) rfl
  have D_least_codes : DefC K mg "least_codes" s_least_codes (He.cT K ("least_codes", none)).1 := defC_of (He.glo_ok X G (c.fact 3 (f := .glo "least_codes") rfl)) F_least_codes
  have D_offer : Def0 K mg "offer" s_offer := by
    obtain ⟨fd, F⟩ := c.def_ 4 (d := toA (dOf "offer" s_offer)) rfl
    exact ⟨_, fd, He.glo_ok X G (c.fact 4 (f := .glo "offer") rfl), F⟩
  have D_offer_rows : Def0 K mg "offer_rows" s_offer_rows := by
    obtain ⟨fd, F⟩ := c.def_ 5 (d := toA (dOf "offer_rows" s_offer_rows)) rfl
    exact ⟨_, fd, He.glo_ok X G (c.fact 5 (f := .glo "offer_rows") rfl), F⟩
  have D_decoded : Def0 K mg "decoded" s_decoded := by
    obtain ⟨fd, F⟩ := c.def_ 6 (d := toA (dOf "decoded" s_decoded)) rfl
    exact ⟨_, fd, He.glo_ok X G (c.fact 6 (f := .glo "decoded") rfl), F⟩
  have D_check_states : Def0 K mg "check_states" s_check_states := by
    obtain ⟨fd, F⟩ := c.def_ 7 (d := toA (dOf "check_states" s_check_states)) rfl
    exact ⟨_, fd, He.glo_ok X G (c.fact 7 (f := .glo "check_states") rfl), F⟩
  have D_rows_by_kind : Def0 K mg "rows_by_kind" s_rows_by_kind := by
    obtain ⟨fd, F⟩ := c.def_ 8 (d := toA (dOf "rows_by_kind" s_rows_by_kind)) rfl
    exact ⟨_, fd, He.glo_ok X G (c.fact 8 (f := .glo "rows_by_kind") rfl), F⟩
  have D_are_states : Def0 K mg "are_states" s_are_states := by
    obtain ⟨fd, F⟩ := c.def_ 9 (d := toA (dOf "are_states" s_are_states)) rfl
    exact ⟨_, fd, He.glo_ok X G (c.fact 9 (f := .glo "are_states") rfl), F⟩
  have D_check_marks : Def0 K mg "check_marks" s_check_marks := by
    obtain ⟨fd, F⟩ := c.def_ 10 (d := toA (dOf "check_marks" s_check_marks)) rfl
    exact ⟨_, fd, He.glo_ok X G (c.fact 10 (f := .glo "check_marks") rfl), F⟩
  obtain ⟨fd_joint_machine, F_joint_machine⟩ := c.def_ 11 (d := toA (dOf "joint_machine" s_joint_machine)) rfl
  have D_joint_machine : DefC K mg "joint_machine" s_joint_machine (He.cT K ("joint_machine", none)).1 := defC_of (He.glo_ok X G (c.fact 11 (f := .glo "joint_machine") rfl)) F_joint_machine
  have D_least_plants : Def0 K mg "least_plants" s_least_plants := by
    obtain ⟨fd, F⟩ := c.def_ 12 (d := toA (dOf "least_plants" s_least_plants)) rfl
    exact ⟨_, fd, He.glo_ok X G (c.fact 12 (f := .glo "least_plants") rfl), F⟩
  have D_all_letters : Def0 K mg "all_letters" s_all_letters := by
    obtain ⟨fd, F⟩ := c.def_ 13 (d := toA (dOf "all_letters" s_all_letters)) rfl
    exact ⟨_, fd, He.glo_ok X G (c.fact 13 (f := .glo "all_letters") rfl), F⟩
  have D_is_name : Def0 K mg "is_name" s_is_name := by
    obtain ⟨fd, F⟩ := c.def_ 14 (d := toA (dOf "is_name" s_is_name)) rfl
    exact ⟨_, fd, He.glo_ok X G (c.fact 14 (f := .glo "is_name") rfl), F⟩
  have D_check_pairs : Def0 K mg "check_pairs" s_check_pairs := by
    obtain ⟨fd, F⟩ := c.def_ 15 (d := toA (dOf "check_pairs" s_check_pairs)) rfl
    exact ⟨_, fd, He.glo_ok X G (c.fact 15 (f := .glo "check_pairs") rfl), F⟩
  have D__law_box : Def0 K mg "_law_box" s_law_box := by
    obtain ⟨fd, F⟩ := c.def_ 16 (d := toA (dOf "_law_box" s_law_box)) rfl
    exact ⟨_, fd, He.glo_ok X G (c.fact 16 (f := .glo "_law_box") rfl), F⟩
  have D__law_take : Def0 K mg "_law_take" s_law_take := by
    obtain ⟨fd, F⟩ := c.def_ 17 (d := toA (dOf "_law_take" s_law_take)) rfl
    exact ⟨_, fd, He.glo_ok X G (c.fact 17 (f := .glo "_law_take") rfl), F⟩
  have D__law_bed : Def0 K mg "_law_bed" s_law_bed := by
    obtain ⟨fd, F⟩ := c.def_ 18 (d := toA (dOf "_law_bed" s_law_bed)) rfl
    exact ⟨_, fd, He.glo_ok X G (c.fact 18 (f := .glo "_law_bed") rfl), F⟩
  have D__law_text : Def0 K mg "_law_text" s_law_text := by
    obtain ⟨fd, F⟩ := c.def_ 19 (d := toA (dOf "_law_text" s_law_text)) rfl
    exact ⟨_, fd, He.glo_ok X G (c.fact 19 (f := .glo "_law_text") rfl), F⟩
  have D__law_tuples : Def0 K mg "_law_tuples" s_law_tuples := by
    obtain ⟨fd, F⟩ := c.def_ 20 (d := toA (dOf "_law_tuples" s_law_tuples)) rfl
    exact ⟨_, fd, He.glo_ok X G (c.fact 20 (f := .glo "_law_tuples") rfl), F⟩
  have D__law_marks : Def0 K mg "_law_marks" s_law_marks := by
    obtain ⟨fd, F⟩ := c.def_ 21 (d := toA (dOf "_law_marks" s_law_marks)) rfl
    exact ⟨_, fd, He.glo_ok X G (c.fact 21 (f := .glo "_law_marks") rfl), F⟩
  have D__law_reader : Def0 K mg "_law_reader" s_law_reader := by
    obtain ⟨fd, F⟩ := c.def_ 22 (d := toA (dOf "_law_reader" s_law_reader)) rfl
    exact ⟨_, fd, He.glo_ok X G (c.fact 22 (f := .glo "_law_reader") rfl), F⟩
  have D__law_long : Def0 K mg "_law_long" s_law_long := by
    obtain ⟨fd, F⟩ := c.def_ 23 (d := toA (dOf "_law_long" s_law_long)) rfl
    exact ⟨_, fd, He.glo_ok X G (c.fact 23 (f := .glo "_law_long") rfl), F⟩
  have D__law_doubler : Def0 K mg "_law_doubler" s_law_doubler := by
    obtain ⟨fd, F⟩ := c.def_ 24 (d := toA (dOf "_law_doubler" s_law_doubler)) rfl
    exact ⟨_, fd, He.glo_ok X G (c.fact 24 (f := .glo "_law_doubler") rfl), F⟩
  have D__law_made : Def0 K mg "_law_made" s_law_made := by
    obtain ⟨fd, F⟩ := c.def_ 25 (d := toA (dOf "_law_made" s_law_made)) rfl
    exact ⟨_, fd, He.glo_ok X G (c.fact 25 (f := .glo "_law_made") rfl), F⟩
  have D__law_same : Def0 K mg "_law_same" s_law_same := by
    obtain ⟨fd, F⟩ := c.def_ 26 (d := toA (dOf "_law_same" s_law_same)) rfl
    exact ⟨_, fd, He.glo_ok X G (c.fact 26 (f := .glo "_law_same") rfl), F⟩
  have D__law_sizes : Def0 K mg "_law_sizes" s_law_sizes := by
    obtain ⟨fd, F⟩ := c.def_ 27 (d := toA (dOf "_law_sizes" s_law_sizes)) rfl
    exact ⟨_, fd, He.glo_ok X G (c.fact 27 (f := .glo "_law_sizes") rfl), F⟩
  have D__law_fault : Def0 K mg "_law_fault" s_law_fault := by
    obtain ⟨fd, F⟩ := c.def_ 28 (d := toA (dOf "_law_fault" s_law_fault)) rfl
    exact ⟨_, fd, He.glo_ok X G (c.fact 28 (f := .glo "_law_fault") rfl), F⟩
  have D__law_row_states : Def0 K mg "_law_row_states" s_law_row_states := by
    obtain ⟨fd, F⟩ := c.def_ 29 (d := toA (dOf "_law_row_states" s_law_row_states)) rfl
    exact ⟨_, fd, He.glo_ok X G (c.fact 29 (f := .glo "_law_row_states") rfl), F⟩
  have D__law_kept : Def0 K mg "_law_kept" s_law_kept := by
    obtain ⟨fd, F⟩ := c.def_ 30 (d := toA (dOf "_law_kept" s_law_kept)) rfl
    exact ⟨_, fd, He.glo_ok X G (c.fact 30 (f := .glo "_law_kept") rfl), F⟩
  have D__law_told : Def0 K mg "_law_told" s_law_told := by
    obtain ⟨fd, F⟩ := c.def_ 31 (d := toA (dOf "_law_told" s_law_told)) rfl
    exact ⟨_, fd, He.glo_ok X G (c.fact 31 (f := .glo "_law_told") rfl), F⟩
  have D__law_is_plant : Def0 K mg "_law_is_plant" s_law_is_plant := by
    obtain ⟨fd, F⟩ := c.def_ 32 (d := toA (dOf "_law_is_plant" s_law_is_plant)) rfl
    exact ⟨_, fd, He.glo_ok X G (c.fact 32 (f := .glo "_law_is_plant") rfl), F⟩
  have D__law_ranked : Def0 K mg "_law_ranked" s_law_ranked := by
    obtain ⟨fd, F⟩ := c.def_ 33 (d := toA (dOf "_law_ranked" s_law_ranked)) rfl
    exact ⟨_, fd, He.glo_ok X G (c.fact 33 (f := .glo "_law_ranked") rfl), F⟩
  have D__law_least_right : Def0 K mg "_law_least_right" s_law_least_right := by
    obtain ⟨fd, F⟩ := c.def_ 34 (d := toA (dOf "_law_least_right" s_law_least_right)) rfl
    exact ⟨_, fd, He.glo_ok X G (c.fact 34 (f := .glo "_law_least_right") rfl), F⟩
  have D__law_doubled_right : Def0 K mg "_law_doubled_right" s_law_doubled_right := by
    obtain ⟨fd, F⟩ := c.def_ 35 (d := toA (dOf "_law_doubled_right" s_law_doubled_right)) rfl
    exact ⟨_, fd, He.glo_ok X G (c.fact 35 (f := .glo "_law_doubled_right") rfl), F⟩
  obtain ⟨fdL, F_law⟩ := c.def_ 36 (d := toA (dOf "law" s_law)) rfl
  have e := hfa.symm.trans (He.glo_ok X G (c.fact 36 (f := .glo "law") rfl))
  cases e
  have bnd := FunD.bindsA (ps := ["script"]) F_law fun _ _ _ _ _ _ us hl => match us, hl with | [_], _ => rfl
  have T0 : Bl mg := ⟨He.free_ok X G (c.fact 62 (f := .free "len") rfl), He.free_ok X G (c.fact 63 (f := .free "range") rfl), He.free_ok X G (c.fact 64 (f := .free "abs") rfl), He.free_ok X G (c.fact 65 (f := .free "int") rfl), He.free_ok X G (c.fact 66 (f := .free "max") rfl), He.free_ok X G (c.fact 67 (f := .free "all") rfl), He.free_ok X G (c.fact 68 (f := .free "isinstance") rfl), He.free_ok X G (c.fact 69 (f := .free "set") rfl), He.free_ok X G (c.fact 70 (f := .free "list") rfl), He.free_ok X G (c.fact 71 (f := .free "tuple") rfl), He.free_ok X G (c.fact 72 (f := .free "bool") rfl), He.free_ok X G (c.fact 73 (f := .free "str") rfl), He.free_ok X G (c.fact 74 (f := .free "enumerate") rfl), He.int_ok X G (c.fact 79 (f := .int "MOST_KINDS" 8) rfl), He.int_ok X G (c.fact 80 (f := .int "MOST_BRANCHES" 3) rfl), He.int_ok X G (c.fact 81 (f := .int "MOST_KNOTS" 2000) rfl), He.int_ok X G (c.fact 82 (f := .int "LONGEST_NAME" 8) rfl), He.str_ok X G (c.fact 84 (f := .str "LETTERS" "abcdefghijklmnopqrstuvwxyz") rfl)⟩
  have c_DIGITS : ∃ t, mg "DIGITS" = some (.str "0123456789" t) := He.str_ok X G (c.fact 85 (f := .str "DIGITS" "0123456789") rfl)
  have c_MOST_STATES : ∃ t, mg "MOST_STATES" = some (.int 40 t) := He.int_ok X G (c.fact 83 (f := .int "MOST_STATES" 40) rfl)
  have b_super : mg "super" = none := He.free_ok X G (c.fact 75 (f := .free "super") rfl)
  have b_min : mg "min" = none := He.free_ok X G (c.fact 76 (f := .free "min") rfl)
  have b_sum : mg "sum" = none := He.free_ok X G (c.fact 77 (f := .free "sum") rfl)
  have b_max : mg "max" = none := He.free_ok X G (c.fact 66 (f := .free "max") rfl)
  have B : BedT K (He.ga K "Bed") := ⟨He.cls_ok (c.fact 38 (f := .cls "Bed") rfl), He.noat_ok (c.fact 40 (f := .noat "Bed" "rows") rfl), He.noat_ok (c.fact 41 (f := .noat "Bed" "kinds") rfl), He.noat_ok (c.fact 42 (f := .noat "Bed" "widths") rfl), He.noat_ok (c.fact 43 (f := .noat "Bed" "ranks") rfl)⟩
  have BR : RdT K (He.ga K "Reader") := ⟨He.cls_ok (c.fact 45 (f := .cls "Reader") rfl), He.noat_ok (c.fact 47 (f := .noat "Reader" "bed") rfl), He.noat_ok (c.fact 48 (f := .noat "Reader" "states") rfl), He.noat_ok (c.fact 49 (f := .noat "Reader" "cells") rfl), He.noat_ok (c.fact 50 (f := .noat "Reader" "marks") rfl), He.noat_ok (c.fact 51 (f := .noat "Reader" "otherwise") rfl)⟩
  have BM : McT K (He.ga K "Machine") := ⟨He.cls_ok (c.fact 53 (f := .cls "Machine") rfl), He.noat_ok (c.fact 55 (f := .noat "Machine" "bed") rfl), He.noat_ok (c.fact 56 (f := .noat "Machine" "joints") rfl), He.noat_ok (c.fact 57 (f := .noat "Machine" "numbers") rfl), He.noat_ok (c.fact 58 (f := .noat "Machine" "cells") rfl)⟩
  obtain ⟨fd_init__, F_init__⟩ := c.def_ 37 (d := toA (dM "Bed" "__init__" "Bed.__init__" s_init__)) rfl
  obtain ⟨fd_leaves, F_leaves⟩ := c.def_ 38 (d := toA (dM "Bed" "leaves" "Bed.leaves" s_leaves)) rfl
  obtain ⟨fd_Reader_init__, F_Reader_init__⟩ := c.def_ 39 (d := toA (dK "Reader" "__init__" "Reader.__init__" s_Reader_init__ [("otherwise", .int 0)])) rfl
  obtain ⟨fd_Reader_table, F_Reader_table⟩ := c.def_ 40 (d := toA (dM "Reader" "table" "Reader.table" s_Reader_table)) rfl
  obtain ⟨fd_Machine_init__, F_Machine_init__⟩ := c.def_ 41 (d := toA (dM "Machine" "__init__" "Machine.__init__" s_Machine_init__)) rfl
  obtain ⟨fd_Machine_number_for, F_Machine_number_for⟩ := c.def_ 42 (d := toA (dM "Machine" "number_for" "Machine.number_for" s_Machine_number_for)) rfl
  obtain ⟨fd_read, F_read⟩ := c.def_ 43 (d := dR) rfl
  have gBed := He.glo_ok X G (c.fact 37 (f := .glo "Bed") rfl)
  have mkBed := He.mkr_ok (c.fact 39 (f := .mkr "Bed") rfl)
  have gReader := He.glo_ok X G (c.fact 44 (f := .glo "Reader") rfl)
  have mkReader := He.mkr_ok (c.fact 46 (f := .mkr "Reader") rfl)
  have gMachine := He.glo_ok X G (c.fact 52 (f := .glo "Machine") rfl)
  have mkMachine := He.mkr_ok (c.fact 54 (f := .mkr "Machine") rfl)
  have mt_leaves := He.meth_ok (c.fact 59 (f := .meth "Bed" "leaves") rfl)
  have mt_table := He.meth_ok (c.fact 60 (f := .meth "Reader" "table") rfl)
  have mt_number_for := He.meth_ok (c.fact 61 (f := .meth "Machine" "number_for") rfl)
  obtain ⟨ea0, eb0⟩ := Hx.x_of x1 x2 0 (d := xTooMany) rfl
  have FTooMany : Hx.XFacts TL.prog K xTooMany [zTooMany0, zTooMany1] := Hx.facts_of ea0 eb0 (fun z hz => by
    rcases List.mem_cons.mp hz with h | h
    · rw [h]; exact List.mem_cons_self
    · rw [List.mem_singleton.mp h]; exact List.mem_cons_of_mem _ List.mem_cons_self)
  have x_TooMany : PySem.SupX.SupCls TL.prog w K mg "TooMany" (He.ga K "TooMany") ["what", "limit"] tmP6 := sup_TooMany X G b_super FTooMany
  have xo : XOk K (He.ga K "TooMany") ["what", "limit"] := ⟨FTooMany.xf, FTooMany.no, FTooMany.me⟩
  obtain ⟨hCR, hCM⟩ := Hx.cmB_ok (K := K) (p := ("Bed", "read")) (List.all_eq_true.mp cm _ (by unfold cmN; exact List.mem_cons_self))
  refine ⟨fdL, fun s v => bnd s [v] rfl, fun base _ _ htb => ?_⟩
  have c_all_letters := ok_all_letters (P := TL.prog) (w := w) (base := base) T0 D_all_letters
  have c_is_name := ok_is_name (P := TL.prog) (w := w) (base := base) T0 c_all_letters D_is_name
  have c_check_pairs := ok_check_pairs (P := TL.prog) (w := w) (base := base) T0 c_is_name D_check_pairs
  have c_Bed : BedOk TL.prog w K mg base (He.ga K "Bed") 5 := by
    refine ⟨gBed, _, mkBed, ?_⟩
    obtain ⟨oc, od, dV, kV, doc, pm, an, cdv, ct, osl, rfl, lk, hcd, hdv, _⟩ := F_init__.ex
    have hd : dV = .none := by
      rcases hdv with ⟨_, h⟩ | h
      · exact h
      · exact absurd rfl h.1
    subst hd
    refine (StX.fn_star (ps := ["self"]) (pv := "kinds") lk hcd sc_init__ StX.cxUp_none (StX.bind_star1 (B := fun us => bindArgs (PySem.W.fnOf "__init__" "Bed.__init__" (defArgs s_init__) (defBody s_init__) (defScope s_init__) .none kV doc pm an cdv ct) ⟨us, []⟩) (fun _ => rfl) (fun _ _ _ => rfl)) (sp := spBedI (He.ga K "Bed")) (k := 3) fun A outer s H vs Q E hr hsp => ?_).mono (by decide)
    obtain ⟨t, a, b⟩ := body_bedI T0 B c_check_pairs hr hsp
    exact ⟨t, a.nox, b⟩
  obtain ⟨_, fIB, mkB, FIB⟩ := c_Bed
  have c_read := ok_readC (P := TL.prog) (w := w) (base := base) T0 c_DIGITS mkB FIB c_all_letters gBed hCR hCM F_read
  have c_law_box := ok_box (P := TL.prog) (w := w) (base := base) T0 b_sum D__law_box
  have c_law_take := ok_take (P := TL.prog) (w := w) (base := base) T0 D__law_take
  have c_law_bed := ok_bed6 (P := TL.prog) (w := w) (base := base) T0 b_min c_law_take D__law_bed
  have c_law_text := ok_text6 (P := TL.prog) (w := w) (base := base) T0 D__law_text
  have c_check_states := ok_states52 (P := TL.prog) (w := w) (base := base) T0 c_MOST_STATES D_check_states
  have c_are_states := ok_are52 (P := TL.prog) (w := w) (base := base) T0 D_are_states
  have c_check_marks := ok_marks52 (P := TL.prog) (w := w) (base := base) T0 D_check_marks
  have c_rows_by_kind := ok_bykind52 (P := TL.prog) (w := w) (base := base) T0 B c_are_states D_rows_by_kind
  have c_Reader := ok_rdC (P := TL.prog) (w := w) (base := base) T0 B BR c_check_states c_are_states c_check_marks c_rows_by_kind gReader F_Reader_init__ mkReader
  have c_law_tuples := ok_tuples6 (P := TL.prog) (w := w) (base := base) T0 D__law_tuples
  have c_law_marks := ok_lmarks6 (P := TL.prog) (w := w) (base := base) T0 c_law_take D__law_marks
  have c_law_reader := ok_reader6 (P := TL.prog) (w := w) (base := base) T0 b_min c_law_take c_law_tuples c_law_marks D__law_reader
  have c_law_long := ok_long6 (P := TL.prog) (w := w) (base := base) T0 c_law_take c_law_tuples D__law_long
  have c_law_doubler := ok_doubler6 (P := TL.prog) (w := w) (base := base) T0 c_law_take c_law_tuples c_law_marks D__law_doubler
  have c_rows_from := ok_rows_from6 (P := TL.prog) (w := w) (base := base) T0 D_rows_from
  have c_all_rows := ok_all_rows6 (P := TL.prog) (w := w) (base := base) T0 c_rows_from D_all_rows
  have c_rows_with := ok_rows_with6 (P := TL.prog) (w := w) (base := base) T0 c_all_rows D_rows_with
  have c_leaves := ok_leaves (P := TL.prog) (w := w) (base := base) T0 B F_leaves mt_leaves
  have c_num := ok_num6 (P := TL.prog) (w := w) (base := base) T0 c_MOST_STATES BM F_Machine_number_for mt_number_for
  have c_Machine := ok_macI (P := TL.prog) (w := w) (base := base) T0 B BR BM c_leaves c_num c_rows_with F_Machine_init__ mkMachine gMachine
  have kitJ : TabKitF base mg (tab6 K) "joint_machine" "step" (He.cT K ("joint_machine", none)).1 (He.cT K ("joint_machine", none)).2 := by
    refine ⟨htb _ (List.mem_map_of_mem (f := fun x => He.cT K (x, none)) (show ("joint_machine" : Str) ∈ tbN by unfold tbN; exact List.mem_cons_self)), List.mem_cons_self, fun p hp e => ?_⟩
    rcases List.mem_cons.mp hp with rfl | hp
    · rfl
    · rw [List.mem_singleton.mp hp] at e
      exact absurd e.symm (tab6_ne tw)
  have kitL : TabKit base mg (tab6 K) "least_codes" (He.cT K ("least_codes", none)).1 (He.cT K ("least_codes", none)).2 := by
    refine ⟨htb _ (List.mem_map_of_mem (f := fun x => He.cT K (x, none)) (show ("least_codes" : Str) ∈ tbN by unfold tbN; exact List.mem_cons_of_mem _ List.mem_cons_self)), List.mem_cons_of_mem _ List.mem_cons_self, fun p hp e => ?_⟩
    rcases List.mem_cons.mp hp with rfl | hp
    · exact absurd e (tab6_ne tw)
    · rw [List.mem_singleton.mp hp]
  have c_joint_machine := ok_joint (P := TL.prog) (w := w) (base := base) T0 BR c_Machine D_joint_machine kitJ
  have c_offer := ok_offer6 (P := TL.prog) (w := w) (base := base) T0 D_offer
  have c_offer_rows := ok_offrows (P := TL.prog) (w := w) (base := base) T0 b_sum B BM c_rows_with c_offer D_offer_rows
  have c_decoded := ok_decoded (P := TL.prog) (w := w) (base := base) T0 B D_decoded
  have c_least_codes := ok_leastC (P := TL.prog) (w := w) (base := base) T0 b_min B BM c_leaves c_offer c_offer_rows D_least_codes kitL
  have c_least_plants := ok_leastP (P := TL.prog) (w := w) (base := base) T0 x_TooMany BR BM c_joint_machine c_least_codes c_decoded D_least_plants
  have c_law_told := ok_told6 (P := TL.prog) (w := w) (base := base) T0 x_TooMany.gC xo c_least_plants D__law_told
  have c_law_same := ok_sam6 (P := TL.prog) (w := w) (base := base) T0 D__law_same 4
  have c_law_sizes := ok_sizes6 (P := TL.prog) (w := w) (base := base) D__law_sizes
  have c_law_fault := ok_fault6 (P := TL.prog) (w := w) (base := base) T0 D__law_fault
  have c_law_is_plant := ok_ispl6 (P := TL.prog) (w := w) (base := base) T0 c_law_fault D__law_is_plant
  have c_law_ranked := ok_ranked6 (P := TL.prog) (w := w) (base := base) T0 D__law_ranked
  have c_law_row_states := ok_rowst6 (P := TL.prog) (w := w) (base := base) T0 D__law_row_states
  have c_table := ok_table (P := TL.prog) (w := w) (base := base) T0 B BR c_all_rows F_Reader_table mt_table
  have c_law_kept := ok_kept6 (P := TL.prog) (w := w) (base := base) T0 B BR c_law_tuples c_law_same c_table D__law_kept
  have c_law_made := ok_made6 (P := TL.prog) (w := w) (base := base) T0 c_read c_Reader D__law_made
  have c_law_least_right := ok_right6 (P := TL.prog) (w := w) (base := base) T0 b_sum c_law_sizes c_law_is_plant c_law_row_states c_law_ranked c_law_tuples D__law_least_right
  have c_law_doubled_right := ok_dblr6 (P := TL.prog) (w := w) (base := base) T0 c_law_same c_law_told D__law_doubled_right
  exact ok_law (P := TL.prog) (w := w) (base := base) T0 b_max c_law_box c_law_take c_law_bed c_law_text c_law_long c_law_reader c_law_doubler c_law_made c_law_doubled_right c_law_told c_law_least_right c_law_kept F_law
end Sh
end
set_option Elab.async false
set_option linter.all false
set_option maxRecDepth 100000
set_option maxHeartbeats 4000000
open PySem PySem.W PySem.Calls PyProof.Rows
theorem PySem.Challenge.cw_shearyard_k06_whole_least_plants_holds : PySem.Challenge.rw_shearyard_k06_whole_least_plants.Holds := by
  w_on; o_law
  refine HandSHeadRun.head_any (r := OpenLaw.row PySem.Challenge.rw_shearyard_k06_whole_least_plants) (q := view (OpenLaw.row PySem.Challenge.rw_shearyard_k06_whole_least_plants).prog [70]) (H := Sh.hk) (ob := Sh.ob) (M := 9000) (loose := Sh.names) (d := HandSHeadRun.topDef (OpenLaw.row PySem.Challenge.rw_shearyard_k06_whole_least_plants).prog 70) (kwd := []) Sh.ob_eq
    (by kernel_rfl) (fun s => by kernel_rfl) Sh.run (by kernel_rfl) (by kernel_rfl) (by kernel_rfl) (by rfl) (by first | assumption | decide +kernel) (by decide +kernel) ⟨rfl, rfl, rfl, rfl, rfl, by decide +kernel⟩ ?hw ?hc
  case hw => w_witness2
  case hc =>
    refine LamX.walk_ofTsE (l := PySem.Challenge.rw_shearyard_k06_whole_least_plants) (n := 63) (k := 14) (x := "script") (CX := fun _ => L2.CX0) rfl (by decide) (by kernel_rfl) ⟨rfl, by decide, by decide⟩ ?F (fun _ _ _ _ _ z => z)
    intro w mg fa h Y G hmg0
    obtain ⟨K, KX, c, x1, x2, x3, tw, cm⟩ := Y
    have hmg : mg ("law" : PySem.Str) = some (.ref fa) := by
      have e : (HandSHeadRun.topDef (OpenLaw.row PySem.Challenge.rw_shearyard_k06_whole_least_plants).prog 70).name = ("law" : PySem.Str) := by kernel_rfl
      rw [← e]
      exact hmg0
    obtain ⟨fd, hb, hF⟩ := Sh.facts (w := w) KX G hmg c x1 x2 x3 tw cm
    have mem : ∀ p ∈ Sh.tbN.map (fun x => He.cT K (x, none)), ∃ d ∈ Sh.tbF, He.cT K d = p := fun p hp => by
      obtain ⟨x, hx, rfl⟩ := List.mem_map.mp hp
      exact ⟨(x, none), List.mem_map_of_mem (f := fun x => ((x, none) : He.Defn)) hx, rfl⟩
    refine ⟨K, KX, fd, Sh.tbN.map (fun x => He.cT K (x, none)), Sh.spLawT K (Sh.tab6 K), fun p hp => ?_, fun p hp => ?_, fun p hp => ?_, hb, fun H a ns hn _ hT hS => ⟨a, ns, rfl, hS, hn, Sh.tab6_nil hT, fun _ => rfl⟩, hF⟩
    · obtain ⟨d, hd, rfl⟩ := mem p hp
      exact tw.empty d hd
    · obtain ⟨d, hd, rfl⟩ := mem p hp
      exact tw.out d hd
    · obtain ⟨d, hd, rfl⟩ := mem p hp
      exact PySem.W.codeHd_of_K KX (tw.hd d hd)
