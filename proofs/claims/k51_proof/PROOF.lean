import PyProof.Rows.All
import Wide.All
import OpenK.AllK
import Wide.FinOn
import HandS.ForMost
import HandS.Exc
import HandS.ExcInit
import HandS.Star
import HandS.TupAny
import HandS.TupMul
import HandS.SetKeys
import HandS.DictComp
import HandS.IsInst
import HandS.Defaults
import HandS.WordsExc
import KE.GoesEnum
import KE.KExcSuper
import HandS.Evl
import HandS.Codes
import HandS.ReCall
import HandS.TryMany
import HandS.ExcOwn
import HandS.ExcField
import HandS.HeadHook1
import HandS.HeadHook2
import HandS.ExcIs
import KE.KExcIs
import PyProof.EqKinds
import KE.KStateDown
import HandS.Ends
import HandS.Head0
import HandS.Head1
import HandS.Head2
import HandS.HeadEnd
import HandS.Walk
import KE.GoesZip
import HandS.Zip
import HandS.Flow
import KE.KEqSeq
import HandS.Deep
import HandS.TupSets
import HandS.Dict
import HandS.HotCalls
import HandS.MakeKw
import HandS.Rev
import KE.KRevIter
import OpenK.KOps
import HandS.TupLe
import HandS.RevRange
import PyProof.ListNew
import PyProof.FString
import PyProof.FString4
import PyProof.FitsInt
import PyProof.StrLawsRepr
import PySem.Challenge.RW_shearyard_k51_price_of_a_change
section
set_option Elab.async false
set_option linter.all false
set_option maxRecDepth 100000
set_option maxHeartbeats 4000000
namespace L2
open PySem PySem.Spec PyProof.Rows
section
variable {X : Cx}
theorem tuple_mul0 (l : Addr) (items : Array Value) (n : Nat) (dd : Option Addr) (sl : Array (Option Value)) (x : Int) (u : Tok) (c0 : (decide (x < -(2 ^ 63)) || decide (x ≥ 2 ^ 63)) = false) (c1 : (items.isEmpty || x == 1) = false) (c2 : (decide (x ≤ 0) || items.isEmpty) = true) :
    Meets (Builtin.«tuple.__mul__» ⟨[.ref l, .int x u], []⟩) (fun _ R s => s.heap.get? l = some { cls := .type "tuple", dict := dd, data := .seq items n, slots := sl } ∧
      R (.ok (.ret (Value.ref s.heap.objs.size))) { s with heap := s.heap.push { cls := Value.type "tuple", data := Data.seq #[] }, toks := s.toks }) :=
  .of_wp fun prog w A R s h => by
    obtain ⟨hp, g, d, tk, os⟩ := s
    obtain ⟨hl, h⟩ := h
    have f1 := AutoSeq1.idx_int
    wp_walk using wpAny_loadPart' hl
    repeat (first
      | (refine wpAny_ite_false (decide_eq_false (by rw [c0]; exact Bool.false_ne_true)) ?_; wp_walk using wpAny_loadPart' hl)
      | (refine wpAny_ite_false (decide_eq_false (by rw [c1]; exact Bool.false_ne_true)) ?_; wp_walk using wpAny_loadPart' hl)
      | (refine wpAny_ite_true (decide_eq_true c2) ?_; wp_walk using wpAny_loadPart' hl))
    exact ⟨_, rfl, h⟩
theorem tuple_mul1 (l : Addr) (items : Array Value) (n : Nat) (sl : Array (Option Value)) (dd : Option Addr) (x : Int) (u : Tok) (c0 : (decide (x < -(2 ^ 63)) || decide (x ≥ 2 ^ 63)) = false) (c1 : (items.isEmpty || x == 1) = true) :
    Meets (Builtin.«tuple.__mul__» ⟨[.ref l, .int x u], []⟩) (fun _ R s => s.heap.get? l = some { cls := .type "tuple", dict := dd, data := .seq items n, slots := sl } ∧ R (.ok (.ret (Value.ref l))) s) :=
  .of_wp fun prog w A R s h => by
    obtain ⟨hp, g, d, tk, os⟩ := s
    obtain ⟨hl, h⟩ := h
    have f1 := AutoSeq1.idx_int
    wp_walk using wpAny_loadPart' hl
    repeat (first
      | (refine wpAny_ite_false (decide_eq_false (by rw [c0]; exact Bool.false_ne_true)) ?_; wp_walk using wpAny_loadPart' hl)
      | (refine wpAny_ite_true (decide_eq_true c1) ?_; wp_walk using wpAny_loadPart' hl))
    exact ⟨_, rfl, h⟩
def rRepG (K : PySem.W.Frag) : R2 := fun x y H Q => ∃ l k xs, x = .ref l ∧ y = .int k ∧ SqT K H l xs ∧ xs ≠ [] ∧ 0 ≤ k ∧ k ≤ 4000 ∧ xs.length ≤ 100 ∧ (k = 1 → Q (.ref l) H) ∧ (k ≠ 1 → ∀ p, H p = none → Q (.ref p) (upd H p (.tup (List.replicate k.toNat xs).flatten)))
theorem op_repG : OpR X (binaryOp .Mult) (rRepG X.K) := by
  intro pins s σ H x y v u Q I rx ry h
  obtain ⟨l, k, xs, rfl, rfl, hT, hne, h1, h2, hz, qs, qn⟩ := h
  cases rx
  obtain ⟨t, rfl⟩ := ry
  obtain ⟨its, r, ⟨⟨cls, dd, data, sl⟩, ho, hc, n, hd⟩, hs⟩ := I.tuple hT
  simp only at hc hd
  subst hc hd
  have hle : its.length = xs.length := r.length.symm
  have hn : its ≠ [] := fun e => hne (by
    rw [e] at hle
    exact List.eq_nil_of_length_eq_zero hle.symm)
  have hi : its.toArray.isEmpty = false := by
    cases its with
    | nil => exact absurd rfl hn
    | cons a b => rfl
  have hsz0 : its.toArray.size = xs.length := by rw [List.size_toArray, hle]
  have c0 : (decide (k < -(2 ^ 63)) || decide (k ≥ 2 ^ 63)) = false := by
    rw [decide_eq_false (by omega), decide_eq_false (by omega)] <;> rfl
  by_cases e1 : k = 1
  · have c1 : (its.toArray.isEmpty || k == 1) = true := by
      rw [hi, Bool.false_or]
      exact beq_iff_eq.mpr e1
    refine wpAny_binaryOp_repeat_ref (T := "tuple") (U := "int") (by decide) ⟨_, ho, rfl⟩ (fun s' => typeIs_int s' k t) noFill_tuple_mul F.fills_int_mul F.slot_int_rmul repeat_tuple F.slot_int_index.lookup
      (call_meets F.slot_int_rmul (typeIs_int s k t) F.entry_int_rmul (F.args_int_rmul_2 _ _) (int_rmul_tuple k t l its.toArray n dd sl)
        ⟨ho, rfl, ⟨_, ho, rfl⟩, call_meets F.slot_tuple_mul ⟨_, ho, rfl⟩ F.entry_tuple_mul (F.args_tuple_mul_2 _ _) (tuple_mul1 l its.toArray n sl dd k t c0 c1) ⟨ho, ?_⟩⟩)
    exact ⟨.ref l, H, I, rfl, qs e1⟩
  · have c1 : (its.toArray.isEmpty || k == 1) = false := by
      rw [hi, Bool.false_or]
      exact beq_eq_false_iff_ne.mpr e1
    by_cases e0 : k = 0
    · subst e0
      refine wpAny_binaryOp_repeat_ref (T := "tuple") (U := "int") (by decide) ⟨_, ho, rfl⟩ (fun s' => typeIs_int s' 0 t) noFill_tuple_mul F.fills_int_mul F.slot_int_rmul repeat_tuple F.slot_int_index.lookup
        (call_meets F.slot_int_rmul (typeIs_int s 0 t) F.entry_int_rmul (F.args_int_rmul_2 _ _) (int_rmul_tuple 0 t l its.toArray n dd sl)
          ⟨ho, rfl, ⟨_, ho, rfl⟩, call_meets F.slot_tuple_mul ⟨_, ho, rfl⟩ F.entry_tuple_mul (F.args_tuple_mul_2 _ _) (tuple_mul0 l its.toArray n dd sl 0 t c0 c1 rfl) ⟨ho, ?_⟩⟩)
      refine ⟨.ref s.heap.objs.size, _, I.laid (t' := s.toks) (o := .tup (List.replicate (0 : Int).toNat xs).flatten) (fun b ob q => Heap.get?_push_of_some _ q) (Nat.le_refl _) ?_, rfl, qn (by decide) _ (I.hok.fresh (Nat.le_refl _))⟩
      exact ⟨by rw [sizeLine_eq]; exact Nat.zero_le _, [], .nil, IsTup.new _ _⟩
    · have hm : ((its.toArray.size : Nat) : Int) * k ≤ 400000 := by
        rw [hsz0]
        have a1 : ((xs.length : Nat) : Int) * k ≤ 100 * k := Int.mul_le_mul_of_nonneg_right (by omega) (by omega)
        omega
      have flen : (List.replicate k.toNat its).flatten.length ≤ sizeLine := by
        rw [PyProof.Rows.lm_len_rep_flat, hle, sizeLine_eq]
        have a1 : k.toNat * xs.length ≤ 4000 * 100 := Nat.mul_le_mul (by omega) hz
        omega
      have c2 : (decide (k ≤ 0) || its.toArray.isEmpty) = false := by
        rw [hi, Bool.or_false]
        exact decide_eq_false (by omega)
      have c4 : Builtin.Tuple.tupleTooMany (((its.toArray.size : Nat) : Int) * k) = false := by
        unfold Builtin.Tuple.tupleTooMany
        rw [sizeLine_eq]
        exact decide_eq_false (by omega)
      refine wpAny_binaryOp_repeat_ref (T := "tuple") (U := "int") (by decide) ⟨_, ho, rfl⟩ (fun s' => typeIs_int s' k t) noFill_tuple_mul F.fills_int_mul F.slot_int_rmul repeat_tuple F.slot_int_index.lookup
        (call_meets F.slot_int_rmul (typeIs_int s k t) F.entry_int_rmul (F.args_int_rmul_2 _ _) (int_rmul_tuple k t l its.toArray n dd sl)
          ⟨ho, rfl, ⟨_, ho, rfl⟩, call_meets F.slot_tuple_mul ⟨_, ho, rfl⟩ F.entry_tuple_mul (F.args_tuple_mul_2 _ _) (tuple_mulW l its.toArray n dd sl k t c0 c1 c2 (by omega) c4 (by rw [size_rep, List.size_toArray]; exact flen)) ⟨ho, ?_⟩⟩)
      rw [size_rep]
      refine ⟨.ref s.heap.objs.size, _, I.laid (t' := s.toks) (o := .tup (List.replicate k.toNat xs).flatten) (fun b ob q => Heap.get?_push_of_some _ q) (Nat.le_refl _) ?_, rfl, qn e1 _ (I.hok.fresh (Nat.le_refl _))⟩
      exact ⟨by rw [PyProof.Rows.lm_len_rep_flat, sizeLine_eq]; have a1 : k.toNat * xs.length ≤ 4000 * 100 := Nat.mul_le_mul (by omega) hz; omega, _, r.rep k.toNat, IsTup.new _ _⟩

def tCallR (sp : Sp) (E : XK) (t : TA) : TE := fun σ H Q => t σ H fun vs H1 => sp vs H1 Q E
theorem pe_callR {CX : CXT} {k : Nat} {f : Addr} {x : Str} {sp : Sp} {E : XK} {e : Expr} {es : List Expr} {t : TA} {p pos : Pos} (F : FnR X.prog X.w X.K X.mg X.base CX k f sp) (hr : Room k X.A) (hk : PySem.W.keepIn X.K (.ref f) = true) (hm : X.mg x = some (.ref f)) (hx : Passes CX X E) (ha : PA X (e :: es) t)
    (hg : Gl X x) (hd : (x == ("__debug__" : Str)) = false)
    (he : starEach (e :: es) X.env = (false, eval e X.env) :: starEach es X.env) (hpl : (backTo pos (starEach es X.env)).any (·.1) = false) :
    PE X (.Call (.Name x p) (e :: es) [] pos) (tCallR sp E t) := by
  refine ⟨fun pins s σ H Q I h => ?_⟩
  refine wpAny_Call_Name_kw (ld_glob I hg hm ?_ hd)
  refine PySem.W.callWith_K (h₀ := X.base) I.ok.mod.kin hk (thn (ha.run pos pins s σ H _ I h) fun us s1 ⟨vs, H1, I1, r, q⟩ => ⟨I1.kIn, ?_⟩) he hpl
  exact wpAny_call (run_fnR F hr hx I1 r q)
end
end L2
namespace Sh
open PySem PySem.Spec PyProof.Rows L2
def DefOk (P : Program) (w : World) (K : PySem.W.Frag) (mg : Str → Option Value) (base : Heap) (CX : CXT) (k : Nat) (x : Str) (sp : Sp) : Prop :=
  ∃ f, mg x = some (.ref f) ∧ PySem.W.keepIn K (.ref f) = true ∧ FnR P w K mg base CX k f sp
/-- where a def stands -/
def Def0 (K : PySem.W.Frag) (mg : Str → Option Value) (x : Str) (st : Stmt) : Prop := ∃ f fd, mg x = some (.ref f) ∧ FunD K x x (defArgs st) (defBody st) (defScope st) [] [] f fd
section
variable {P : Program} {w : World} {K : PySem.W.Frag} {mg : Str → Option Value} {base : Heap} {k j : Nat} {x : Str} {sp : Sp} {st : Stmt}
theorem DefOk.mono {CX : CXT} (D : DefOk P w K mg base CX j x sp) (h : j ≤ k) : DefOk P w K mg base CX k x sp := by
  obtain ⟨f, a, b, c⟩ := D
  exact ⟨f, a, b, c.mono h⟩
theorem DefOk.imp {CX : CXT} {sp' : Sp} (D : DefOk P w K mg base CX k x sp) (h : ∀ vs H Q E, sp' vs H Q E → sp vs H Q E) : DefOk P w K mg base CX k x sp' := by
  obtain ⟨f, a, b, c⟩ := D
  exact ⟨f, a, b, c.imp h⟩
theorem pe_d {X : Cx} {CX : CXT} {E : XK} {e : Expr} {es : List Expr} {t : TA} {p pos : Pos} (D : DefOk X.prog X.w X.K X.mg X.base CX k x sp) (hr : Room k X.A) (hx : Passes CX X E) (ha : PA X (e :: es) t)
    (hg : Gl X x := by rfl) (hd : (x == ("__debug__" : Str)) = false := by decide)
    (he : starEach (e :: es) X.env = (false, eval e X.env) :: starEach es X.env := by rfl) (hpl : (backTo pos (starEach es X.env)).any (·.1) = false := by rfl) :
    PE X (.Call (.Name x p) (e :: es) [] pos) (tCallR sp E t) := by
  obtain ⟨f, a, b, c⟩ := D
  exact pe_callR c hr b a hx ha hg hd he hpl
/-- a def without defaults that raises nothing -/
theorem Def0.ok {N ps : List Str} (D : Def0 K mg x st) (S : FnScope N ps (defScope st)) (len : ∀ vs H Q E, sp vs H Q E → vs.length = ps.length)
    (hb : ∀ (kV doc pm : Value) (an : Option Addr) (cdv ct : Value) (us : List Value), us.length = ps.length → bindArgs (PySem.W.fnOf x x (defArgs st) (defBody st) (defScope st) .none kV doc pm an cdv ct) ⟨us, []⟩ = pure (ps.zip us))
    (hbody : ∀ (f : Addr) (cdv : Value) (A : Around) (outer : List Env) (s : Shared) (H : Hp) (vs : List V) (Q : VK) (E : XK), Room k (A.deeper (envOfC x (defScope st) s.heap.objs.size f cdv)) → sp vs H Q E →
      ∃ t, PSs (cxOf CX0 P w K mg base N x (defScope st) f cdv A outer s H E).nox (defBody st) t ∧ t { nx := fun _ H' => Q .non H', rt := Q } (start N vs) H) : DefOk P w K mg base CX0 (k + 1) x sp := by
  obtain ⟨f, fd, hm, F⟩ := D
  have G : FnOk P w K mg base CX0 (k + 1) f fd ps sp := F.ok S len fun cdv A outer s H vs Q E hr h => by
    obtain ⟨t, a, b⟩ := hbody f cdv A outer s H vs Q E hr h
    exact ⟨t, a.nox, b⟩
  have B : Binds K fd ps [] := F.bindsN hb
  refine ⟨f, hm, F.kp, fun A outer s H us vs Q E hr e0 r hs => G.raw B .nil A outer s H us vs Q E hr e0 r (by show sp (vs ++ []) H Q E; rw [List.append_nil]; exact hs)⟩
/-- a def without defaults that may raise -/
theorem Def0.okX {N ps : List Str} (D : Def0 K mg x st) (S : FnScope N ps (defScope st)) (len : ∀ vs H Q E, sp vs H Q E → vs.length = ps.length)
    (hb : ∀ (kV doc pm : Value) (an : Option Addr) (cdv ct : Value) (us : List Value), us.length = ps.length → bindArgs (PySem.W.fnOf x x (defArgs st) (defBody st) (defScope st) .none kV doc pm an cdv ct) ⟨us, []⟩ = pure (ps.zip us))
    (hbody : ∀ (f : Addr) (cdv : Value) (A : Around) (outer : List Env) (s : Shared) (H : Hp) (vs : List V) (Q : VK) (E : XK), Room k (A.deeper (envOfC x (defScope st) s.heap.objs.size f cdv)) → sp vs H Q E →
      ∃ t, PSs (cxOf (L2.CX P w) P w K mg base N x (defScope st) f cdv A outer s H E) (defBody st) t ∧ t { nx := fun _ H' => Q .non H', rt := Q } (start N vs) H) : DefOk P w K mg base (L2.CX P w) (k + 1) x sp := by
  obtain ⟨f, fd, hm, F⟩ := D
  have G : FnOk P w K mg base (L2.CX P w) (k + 1) f fd ps sp := F.ok S len fun cdv A outer s H vs Q E hr h => by
    obtain ⟨t, a, b⟩ := hbody f cdv A outer s H vs Q E hr h
    exact ⟨t, a, b⟩
  have B : Binds K fd ps [] := F.bindsN hb
  refine ⟨f, hm, F.kp, fun A outer s H us vs Q E hr e0 r hs => G.raw B .nil A outer s H us vs Q E hr e0 r (by show sp (vs ++ []) H Q E; rw [List.append_nil]; exact hs)⟩
end
end Sh
end
section
set_option Elab.async false
set_option linter.all false
set_option maxRecDepth 100000
set_option maxHeartbeats 2000000
namespace PySem
theorem meets_enum_oneB {v : Value} {o : Obj} {H : Heap → Prop} (B : Begins v o H) :
    Meets (Builtin.«enumerate.__new__» ⟨[.type "enumerate", v], []⟩) (fun _ R s => H s.heap ∧
      R (.ok (.ret (.ref (s.heap.push o).objs.size))) { s with heap := (s.heap.push o).push { cls := .type "enumerate", data := .fields #[.none, .bool false, .ref s.heap.objs.size, rawInt 0, .none, .none] } }) :=
  .of_wp fun prog w A R s hh => by
    obtain ⟨hp, g, d, tk, os⟩ := s
    obtain ⟨hb, hr⟩ := hh
    have hsub := sub_enumerate
    have begun : ∀ {A' : Around} {E : Value → Shared → Prop} {Q : Value → Shared → Prop}, Q (.ref hp.objs.size) ⟨hp.push o, g, d, tk, os⟩ → wpAny (model prog w) A' (pyIter v) Q E ⟨hp, g, d, tk, os⟩ :=
      fun q => B.iter prog w _ _ ⟨hp, g, d, tk, os⟩ _ hb q
    wp_walk using begun
    refine wpAny_stack_any fun st => wpAny_pure ?_
    split
    · rename_i c _ _ _ _ _
      cases (c == Value.type "enumerate")
      all_goals
        wp_walk using begun
        exact ⟨_, rfl, hr⟩
    · wp_walk using begun
      exact ⟨_, rfl, hr⟩
section
variable {prog : Program} {w : World} {A : Around} {E : Value → Shared → Prop} {s : Shared}
theorem enum_begins1 {v : Value} {o : Obj} {H : Heap → Prop} {Q : Value → Shared → Prop} (B : Begins v o H) (h1 : H s.heap)
    (h : ∀ h', IsEnum h' (s.heap.objs.size + 1) s.heap.objs.size 0 .none → h'.get? s.heap.objs.size = some o → h'.objs.size = s.heap.objs.size + 2 →
      (∀ b o, s.heap.get? b = some o → h'.get? b = some o) → Q (.ref (s.heap.objs.size + 1)) { s with heap := h' }) :
    wpAny (model prog w) A (call (.type "enumerate") [v]) Q E s := by
  refine callType_new F.called_enumerate (by decide) (F.typeCall_enumerate_1 _) (F.newCall_enumerate_1 _) (fun obj => F.args_object_init_2 obj _) F.entry_enumerate_new (meets_enum_oneB B) ⟨h1, ?_⟩
  have hz : (s.heap.push o).objs.size = s.heap.objs.size + 1 := Heap.size_push ..
  show _ ∧ _
  rw [hz]
  have he : IsEnum ((s.heap.push o).push { cls := .type "enumerate", data := .fields #[.none, .bool false, .ref s.heap.objs.size, rawInt 0, .none, .none] }) (s.heap.objs.size + 1) s.heap.objs.size 0 .none := by
    have q := Heap.get?_push_size (s.heap.push o) (o := { cls := .type "enumerate", data := .fields #[.none, .bool false, .ref s.heap.objs.size, rawInt 0, .none, .none] }) rfl
    rw [hz] at q
    exact q
  exact ⟨⟨_, he, rfl⟩, h _ he (Heap.get?_push_of_some _ (Heap.get?_push_size _ B.free)) (by rw [Heap.size_push, hz]) fun b o x => Heap.get?_push_of_some _ (Heap.get?_push_of_some _ x)⟩
theorem enum_endT {e it l : Addr} {i : Nat} {items : Array Value} {c : Int} {old : Value} {Q : Option Value → Shared → Prop} (hh : A.in1.handled = none)
    (he : IsEnum s.heap e it c old) (hit : s.heap.IsTupleIter it l i) (hl : s.heap.IsTuple l items) (hx : items[i]? = none)
    (hQ : ∀ h', Heap.ExtBut it s.heap h' → Q none { s with heap := h' }) : wpAny (model prog w) A (pyNext (.ref e)) Q E s := by
  have ht : s.TypeIs (.ref e) "enumerate" := ⟨_, he, rfl⟩
  unfold pyNext
  refine wpAny_bind (wpAny_attempt (wpAny_callSpecial?_slot (name := Str.ofString "__next__") ht F.slot_enumerate_next
    (wpAny_call_entry F.slot_enumerate_next ht F.entry_enumerate_next ?_ (F.args_enumerate_next_1 _))))
  show wpAny _ _ (field (.ref e) 2 >>= _) _ _ _
  refine wpAny_bind (wpAny_field he rfl (x := .ref it) rfl (wpAny_bind (wpAny_nextOf_tuple_end hh hit hl hx fun h' x he' hx' => ?_)))
  obtain ⟨o, ho, hc⟩ := hx'
  refine wpAny_bind (wpAny_isInstance (T := "StopIteration") (b := true) ⟨o, ho, hc⟩ isSubtype_stop ?_)
  exact wpAny_pure (hQ _ he')
end
end PySem
namespace L2
open PySem PySem.Spec PyProof.Rows
/-- the tuple at a as it stands at each turn, each item in a new pair -/
def IteT (K : PySem.W.Frag) (a : Addr) : It :=
  ⟨fun i H => ∃ (xs : List V) (x : V), SqT K H a xs ∧ xs[i]? = some x, fun i H v H' => ∃ T x, v = .ref T ∧ H T = none ∧ H' = upd H T (.tup [.int (i : Nat), x]) ∧ ∀ xs, SqT K H a xs → xs[i]? = some x, fun i H => ∃ xs : List V, SqT K H a xs ∧ xs.length ≤ i⟩
theorem turn_enumT {P : Program} {w : World} {K : PySem.W.Frag} {elts : List Expr} {kk : Nat} {tpos : Pos} (a e it : Addr) (ha : a ≠ it) (hae : a ≠ e) :
    Turn P w K (.Tuple elts kk tpos) (IteT K a) [e, it] e (fun i h => (∃ old, IsEnum h e it ((i : Nat) : Int) old) ∧ h.IsTupleIter it a i ∧ e ≠ it) where
  mem := by simp
  obj := fun i h st b hb => by
    obtain ⟨⟨old, he⟩, ⟨o, ho, hc, hd⟩, _⟩ := st
    have e' : b = e ∨ b = it := by simpa using hb
    rcases e' with z | z
    · rw [z]; exact ⟨_, he, fun v q => nomatch q⟩
    · rw [z]; exact ⟨o, ho, fun v q => by rw [hd] at q; cases q⟩
  keep := fun i h h' st k => let ⟨⟨old, he⟩, hi, hne⟩ := st; ⟨⟨old, k e (by simp) _ he⟩, hi.at fun o q => k it (by simp) o q, hne⟩
  item := by
    intro X hP hw hK hc i pins s σ H E I hf st hg
    subst hP hw hK
    obtain ⟨⟨old, he⟩, hit, hne⟩ := st
    obtain ⟨xs, x, hq, hx⟩ := hg
    obtain ⟨its, rv, p, hz⟩ := I.tuple hq
    obtain ⟨u, hu, ru⟩ := rv.get hx
    have hil : i < its.toArray.size := by
      have z := (List.getElem?_eq_some_iff.mp hu).1
      simpa using z
    have D := Draws.tuple (prog := X.prog) (w := X.w) (A := X.A.in1) (I.ok.hd hc) it a ha its.toArray
    have hel : e < s.heap.objs.size := Heap.lt_size he
    have hill : it < s.heap.objs.size := by obtain ⟨_, q, _⟩ := hit; exact Heap.lt_size q
    refine wpAny_pyNext_enum_itemD D he ⟨hit, p⟩ hil hne (by simp [hne, Ne.symm hae]) fun x1 h' tk hP ho hit' hT hsz hk => ?_
    obtain rfl : x1 = u := by
      have z : its.toArray[i]? = some x1 := hP
      have z2 : its[i]? = some x1 := by simpa using z
      rw [hu] at z2
      exact (Option.some.inj z2).symm
    refine ⟨_, rfl, wpAny_letOwnedTupleGo_enum (s := { s with heap := h', toks := tk + 1 }) ho fun h'' he' sb => ?_⟩
    have hT2 : h''.get? s.heap.objs.size = some { cls := .type "tuple", data := .seq #[.int i tk, x1] } := (sb.2 _ (Nat.ne_of_gt hel)).trans hT
    have new : ObjOk X.prog X.w (upd H s.heap.objs.size (.tup [.int (i : Nat), x])) h'' s.heap.objs.size (.tup [.int (i : Nat), x]) :=
      ⟨by show 2 ≤ sizeLine; decide, [.int i tk, x1], .cons ⟨_, rfl⟩ (.cons ru .nil), ⟨_, hT2, rfl, _, rfl⟩⟩
    have I1 : Inv X pins σ (upd H s.heap.objs.size (.tup [.int (i : Nat), x])) { s with heap := h'', toks := tk + 1 } :=
      I.turnedNew (ch := [e, it]) (fun b ob hb q => (sb.2 b (fun z => hb (by simp [z]))).trans (hk b ob (fun z => hb (by simp [z])) (fun z => hb (by simp [z])) q)) hf (Nat.le_refl _) new
    refine ⟨.ref s.heap.objs.size, _, I1, rfl, ⟨_, x, rfl, I.hok.fresh (Nat.le_refl _), rfl, fun ys hy => by rw [I.tuple_inj hy hq]; exact hx⟩, ⟨⟨x1, ?_⟩, hit'.1.at fun o q => (sb.2 it (Ne.symm hne)).trans q, hne⟩, fun b hb => ?_⟩
    · have e1 : ((i + 1 : Nat) : Int) = (i : Int) + 1 := by omega
      rw [e1]; exact he'
    · have hb' : b < s.heap.objs.size := by
        have e' : b = e ∨ b = it := by simpa using hb
        rcases e' with z | z
        · rw [z]; exact hel
        · rw [z]; exact hill
      rw [upd_ne (Nat.ne_of_lt hb')]
      exact (hf b hb).1
  done := by
    intro X hP hw hK hc i pins s σ H E I hf st hg
    subst hP hw hK
    obtain ⟨⟨old, he⟩, hit, hne⟩ := st
    obtain ⟨xs, hq, hx⟩ := hg
    obtain ⟨its, rv, p, hz⟩ := I.tuple hq
    obtain ⟨f0, f1, f2, f3, f4, f5⟩ := hf it (by simp)
    have hl := rv.length
    exact enum_endT (I.ok.hd hc) he hit (show s.heap.IsTuple a its.toArray from p) (by simp; omega) fun h' eb => ⟨rfl, I.turned (t' := s.toks) (fun b o hb q => eb b o hb q) f0 f1 f3 f4 f5⟩
  self := fun A i s Q E st h => let ⟨⟨_, he⟩, _⟩ := st; wpAny_pyIter_enum he h
def iEnumT (K : PySem.W.Frag) (ta : TA) : TI := fun σ H R => ta σ H fun vs H1 => ∃ a xs, vs = [.ref a] ∧ SqT K H1 a xs ∧ R (IteT K a) H1
theorem pi_enumT {X : Cx} {e : Expr} {ta : TA} {p pos tpos : Pos} {elts : List Expr} {kk : Nat} (hg : Gl X "enumerate") (hm : X.mg "enumerate" = none) (ha : PA X [e] ta) (hs : starEach [e] X.env = [(false, eval e X.env)] := by rfl) :
    PI X (.Tuple elts kk tpos) (.Call (.Name "enumerate" p) [e] [] pos) (iEnumT X.K ta) := by
  refine ⟨fun pins s σ H R I h => ?_⟩
  refine Call_ (ld_blt I hg hm boot_enumerate (PyProof.Rows.callWith_type1 (thn (ha.run pos pins s σ H _ I h) fun us s1 ⟨vs, H1, I1, r1, q1⟩ => ?_) hs rfl))
  obtain ⟨a, xs, ex, hq, q⟩ := q1
  subst ex
  cases r1 with
  | cons r rr =>
    cases rr
    cases r
    obtain ⟨its, rv, p', hz⟩ := I1.tuple hq
    have hal : a < s1.heap.objs.size := by obtain ⟨_, z, _⟩ := p'; exact Heap.lt_size z
    refine enum_begins1 (begins_tuple a its.toArray) p' fun h' he hit hsz hk => wpAny_pyIter_enum he ?_
    have I2 : Inv X pins σ H1 { s1 with heap := h' } := I1.kept (t' := s1.toks) hk
    refine ⟨s1.heap.objs.size + 1, [s1.heap.objs.size + 1, s1.heap.objs.size], _, _, H1, rfl, I2, turn_enumT a (s1.heap.objs.size + 1) s1.heap.objs.size (Nat.ne_of_lt hal) (Nat.ne_of_lt (Nat.lt_succ_of_lt hal)), ⟨⟨.none, he⟩, ⟨_, hit, rfl, rfl⟩, Nat.succ_ne_self _⟩, fun b hb => ?_, q⟩
    have e' : b = s1.heap.objs.size + 1 ∨ b = s1.heap.objs.size := by simpa using hb
    have hle : s1.heap.objs.size ≤ b := by
      rcases e' with z | z
      · rw [z]; exact Nat.le_add_right _ _
      · rw [z]; exact Nat.le_refl _
    exact I1.fpOk hle (I1.hok.fresh hle)
end L2
end
section
set_option Elab.async false
set_option linter.all false
set_option maxRecDepth 100000
set_option maxHeartbeats 2000000
namespace PySem
namespace SupX
open PySem.W PySem.Calls PyProof.Rows PySem.HandSPX

structure StP where
  f : Str
  q1 : Pos
  q2 : Pos
  q3 : Pos
  q4 : Pos
def stB : List StP → List Stmt
  | [] => []
  | z :: r => .Assign [.Attribute (.Name "self" z.q1) z.f z.q2] (.Name z.f z.q3) z.q4 :: stB r
def iB (msg : Expr) (p0 p1 p2 p3 p4 : Pos) (l : List StP) : List Stmt :=
  .Expr (.Call (.Attribute (.Call (.Name "super" p0) [] [] p1) "__init__" p2) [msg] [] p3) p4 :: stB l
def putAll : List (Str × Value) → (Str → Option Value) → (Str → Option Value)
  | [], m => m
  | (f, v) :: r, m => putAll r (fun y => if y = f then some v else m y)
/-- the message's expression gives some value and writes nothing -/
def MsgOk (prog : Program) (w : World) (env : Env) (m : Str → Option Value) (msg : Expr) : Prop :=
  ∀ (A : Around) (E : Value → Shared → Prop) (s : Shared) (Q : Value → Shared → Prop), s.heap.Ns env.locals m → (∀ v t, Q v { s with toks := t }) → wpAny (model prog w) A (eval msg env) Q E s

theorem lookup_nd {k : Str} {v : Value} : ∀ {l : List (Str × Value)}, (l.map (·.1)).Nodup → (k, v) ∈ l → l.lookup k = some v
  | [], _, h => nomatch h
  | (a, b) :: r, nd, h => by
    rw [List.map_cons, List.nodup_cons] at nd
    rcases List.mem_cons.mp h with e | e
    · cases e
      simp [List.lookup]
    · have ne : ¬ k = a := fun z => nd.1 (by rw [← z]; exact List.mem_map_of_mem (f := (·.1)) e)
      have nb : (k == a) = false := by simpa using ne
      show (match k == a with | true => some b | false => r.lookup k) = some v
      rw [nb]
      exact lookup_nd nd.2 e
theorem lookup_rev {k : Str} {v : Value} {l : List (Str × Value)} (nd : (l.map (·.1)).Nodup) (h : (k, v) ∈ l) : l.reverse.lookup k = some v :=
  lookup_nd (by rw [List.map_reverse]; exact List.pairwise_reverse.mpr (List.Pairwise.imp (fun z => Ne.symm z) nd)) (List.mem_reverse.mpr h)

section
variable {prog : Program} {w : World} {M : Model} {A : Around} {E : Value → Shared → Prop} {R : Result → Shared → Prop} {s : Shared} {K : Frag}
theorem ldK {name : Str} {scope : Scope} {L a : Addr} {cd : Value} {cells : List (Str × Addr)} {m : Str → Option Value} {x : Str} {pos : Pos} {v : Value} {Q : Value → Shared → Prop}
    (hn : s.heap.Ns L m) (hv : m x = some v) (h : Q v s) (hk : scope.kind = .function) (hl : scope.names.lookup x = some .local) (hd : (x == ("__debug__" : Str)) = false) :
    wpAny M A (eval (.Name x pos) (envX name scope L a cd cells)) Q E s := wpAny_Name (wpAny_loadName_local (env := envX name scope L a cd cells) hk hl hn hv h) hd

/-- the method-wrapper of ValueError.__init__ called on the fresh exception -/
theorem call_mw {h : Heap} {g : Array GenState} {d : Drawn} {t : Nat} {os : OsState} {nm q : Str} {C N : Addr} {bs bm : List Value} {hdct : Bool} {sn : List Str} {sub : List Value} {ab : Bool} {col : Option Bool} {dd : Option Addr} {k0 k1 k2 k3 k5 : Option Value}
    {u e t0 : Addr} {rest : List Value} {Q : Value → Shared → Prop} (hC : h.get? C = some (excClassObj nm q C N bs bm hdct sn sub ab col dd k0 k1 k2 k3 k5 "ValueError.__new__")) (hbm : refsVE bm = true)
    (he : h.get? e = some (excO C t0)) (hu : h.get? u = some (kxs_mw "ValueError.__init__" e)) (hrest : rest.length ≤ sizeLine)
    (hq : ∀ h' t1, (∀ b o, b ≠ e → h.get? b = some o → h'.get? b = some o) → h'.get? e = some (excO C t1) → Q .none ⟨h', g, d, t, os⟩) :
    wpAny (model prog w) A (call (.ref u) rest) Q E ⟨h, g, d, t, os⟩ := by
  refine wpAny_call (codeAny_of_tree ?_)
  show wpAny _ A.in1 (callAny (.ref u) ⟨rest, []⟩) _ _ _
  simp only [callAny]
  refine wpAny_bind (wpAny_load hu ?_)
  simp only [kxs_mw, show (Value.type "method-wrapper" == Value.type "method" || Value.type "method-wrapper" == Value.type "builtin_function_or_method" || Value.type "method-wrapper" == Value.type "method-wrapper") = true by decide, if_true]
  refine KFB.if_so (by decide) ?_
  refine wpAny_bind (check_bound_init F.excBase_ValueError.toExcCallFacts hC he rfl ?_)
  refine wpAny_bind (wpAny_pure (wpAny_pure ?_))
  refine ⟨Code.quiet_builtin _ (by decide +kernel), codeAny_builtin F.excBase_ValueError.initEntry ?_⟩
  rw [Around.under_plainId F.excBase_ValueError.init.plain _]
  wp_walk
  refine hq _ h.objs.size (fun b o hb ho => ?_) ?_
  · rw [Heap.get?_update_other _ _ (Ne.symm hb)]
    exact Heap.get?_push_of_some _ ho
  · rw [Heap.get?_update_self _ (Heap.get?_push_of_some _ he) rfl]
    rfl

/-- self.f = f, the further ones -/
theorem stores_old {name : Str} {scope : Scope} {L a C x dx : Addr} {cd : Value} {cells : List (Str × Addr)} {m : Str → Option Value} {fv : Array Value} {cdt : ClassData}
    (hk : scope.kind = .function) (hcd : clsIn K C = some cdt) (hm : refsVE cdt.mro = true) (hh : cdt.hasDict = true) (hsa : findIn K (.ref C) "__setattr__" = some (some (.builtin "object.__setattr__")))
    (hself : m "self" = some (.ref x)) (lself : scope.names.lookup ("self" : Str) = some .local) (hxL : x ≠ L) (hdL : dx ≠ L) (hnx : K.lookup x = none) (hnd : K.lookup dx = none) (hxd : x ≠ dx) :
    ∀ (l : List StP) (vs : List Value) (s : Shared) (m0 : Str → Option Value) (nl : List Str), vs.length = l.length → K.In s.heap → s.heap.Ns L m → s.heap.get? x = some { cls := .ref C, dict := some dx, data := .fields fv } → s.heap.Ns1 dx m0 → Within m0 nl → nl.length + l.length ≤ 900 →
      (∀ z ∈ l, scope.names.lookup z.f = some .local ∧ (z.f == ("__debug__" : Str)) = false ∧ findIn K (.ref C) z.f = some none) → (∀ (i : Nat) (z : StP) (v : Value), l[i]? = some z → vs[i]? = some v → m z.f = some v) →
      (∀ h' tk', (∀ b o, b ≠ dx → s.heap.get? b = some o → h'.get? b = some o) → h'.Ns1 dx (putAll ((l.map (·.f)).zip vs) m0) → R (.ok (.ret .none)) { s with heap := h', toks := tk' }) →
      wpAny (model prog w) A (execs (stB l) (envX name scope L a cd cells)) (fun fl s' => R (.ok (.ret (match fl with | .ret v => v | _ => .none))) s') E s := by
  intro l
  induction l with
  | nil =>
    intro vs s m0 nl hl X hn hx hns hw hz hloc hval hq
    cases vs with
    | cons _ _ => cases hl
    | nil => exact wpAny_execs_nil (hq s.heap s.toks (fun b o _ e => e) hns)
  | cons z r ih =>
    intro vs s m0 nl hl X hn hx hns hw hz hloc hval hq
    cases vs with
    | nil => cases hl
    | cons v vs =>
      obtain ⟨l1, l2, l3⟩ := hloc z List.mem_cons_self
      obtain ⟨oD, esD, epD, hoD, _, _⟩ := hns.count hw
      refine wpAny_execs_cons (plainObj_wpAny_Assign_Attribute ?_)
      refine ldK hn (hval 0 z v rfl rfl) ?_ hk l1 l2
      refine ldK hn hself ?_ hk lself (by decide)
      refine set_plain X (ox := { cls := .ref C, dict := some dx, data := .fields fv }) (od := some oD) ⟨hx, rfl, rfl, hoD⟩ hsa ?_
      refine PySem.OEX.osa_old X hx hns hw (by rw [List.length_cons] at hz; omega) hcd hm hh l3 fun h' tk' k hn' => ?_
      have X' : K.In h' := fun b o e => k b o (fun q => by rw [q, hnd] at e; cases e) (X b o e)
      obtain ⟨oL, esL, epL, hL, hrL⟩ := hn
      refine ih vs ⟨h', s.gens, s.drawn, tk', s.os⟩ _ (z.f :: nl) (by simpa using hl) X' ⟨oL, esL, epL, k _ _ (Ne.symm hdL) hL, hrL⟩ (k _ _ hxd hx) hn' (Within.cons z.f v hw) (by rw [List.length_cons] at hz ⊢; omega)
        (fun y hy => hloc y (List.mem_cons_of_mem _ hy)) (fun i y u h1 h2 => hval (i + 1) y u h1 h2) fun h2 t2 k2 n2 => ?_
      exact hq h2 t2 (fun b o hb e => k2 b o hb (k b o hb e)) n2
end
end SupX
end PySem
end
section
set_option Elab.async false
set_option linter.all false
set_option maxRecDepth 100000
set_option maxHeartbeats 2000000
namespace PySem
namespace SupX
open PySem.W PySem.Calls PyProof.Rows PySem.HandSPX

structure SupScope (scope : Scope) (l : List StP) : Prop where
  kind : scope.kind = .function
  co : scope.isCoroutine = false
  gen : scope.isGenerator = false
  cell : ∀ x ∈ scope.names, x.2 ≠ .cell
  self : scope.names.lookup ("self" : Str) = some .local
  sup : scope.names.lookup ("super" : Str) = some .globalImplicit
  clsv : scope.names.lookup ("__class__" : Str) = some .free
  loc : ∀ z ∈ l, scope.names.lookup z.f = some .local ∧ (z.f == ("__debug__" : Str)) = false
  nd : (("self" : Str) :: l.map (·.f)).Nodup
structure SupTxt (prog : Program) (K : Frag) (C fI : Addr) (qual : Str) (params : Arguments) (body : List Stmt) (scope : Scope) (l : List StP) : Prop where
  cls : ∃ nm q N bs bm sn sub ab col dd k0 k1 k2 k3 k5, K.lookup C = some (excClassObj nm q C N bs bm true sn sub ab col dd k0 k1 k2 k3 k5 "ValueError.__new__") ∧ refsVE bm = true
  sa : findIn K (.ref C) "__setattr__" = some (some (.builtin "object.__setattr__"))
  noat : ∀ z ∈ l, findIn K (.ref C) z.f = some none
  iC : findIn K (.ref C) "__init__" = some (some (.ref fI))
  tC : typeIn K (.ref fI) = some (.type "function")
  kC : keepIn K (.ref C) = true
  exC : subIn K (.ref C) (.type "BaseException") = some true
  veC : subIn K (.ref C) (.type "ValueError") = some true
  tyC : typeIn K (.ref C) = some (.type "type")
  mro : mroIn K C (.ref C) = some true
  sup : ks_superIn K C C "__init__" = some (some (.builtin "ValueError.__init__"))
  opq : nsIn K cStatics "thirdparty.any" = some none
  fn : ∃ (oc : Value) (od : Option Addr) (osl : Array (Option Value)) (kV doc pm : Value) (an : Option Addr) (cda : Addr) (ct : Value) (cc : Addr) (ccl : Value) (cdd : Option Addr) (cvs : Array Value) (ccs : Array (Option Value)) (file : Str) (tf : Tok) (cl : Value) (cld : Option Addr) (csl : Array (Option Value)),
    K.lookup fI = some ⟨oc, od, .func (ksFn "__init__" qual params body scope .none kV doc pm an (.ref cda) ct cc), osl⟩ ∧ codeIn K (.ref cda) qual = true ∧
    K.lookup cda = some ⟨ccl, cdd, .fields cvs, ccs⟩ ∧ cvs[2]? = some (.str file tf) ∧ ((prog.main.file : Str) == file) = true ∧ K.lookup cc = some ⟨cl, cld, .cell (some (.ref C)), csl⟩
structure InitEnd (h h' : Heap) (x C dx t1 : Addr) (l : List StP) (vs : List Value) : Prop where
  keep : ∀ b o, b ≠ x → h.get? b = some o → h'.get? b = some o
  obj : h'.get? x = some { cls := .ref C, dict := some dx, data := .fields #[.ref t1, .none, .none, .none, .bool false, .none] }
  dbig : h.objs.size ≤ dx
  dne : dx ≠ x
  ns : h'.Ns1 dx (putAll ((l.map (·.f)).zip vs) fun _ => none)

section
variable {prog : Program} {w : World} {A : Around} {E : Value → Shared → Prop} {R : Result → Shared → Prop} {s : Shared} {K : Frag} {mg mb : Str → Option Value} {C fI : Addr} {qual : Str} {params : Arguments} {scope : Scope} {msg : Expr} {p0 p1 p2 p3 p4 : Pos} {z0 : StP} {l : List StP}
/-- what the places of the text decide -/
structure SupPos (qual : Str) (scope : Scope) (fI : Addr) (msg : Expr) (p0 p1 p2 p3 p4 : Pos) : Prop where
  ev : ∀ (L : Addr) (cda cc : Addr), ∃ pl : Sem Bool, eval (.Call (.Attribute (.Call (.Name "super" p0) [] [] p1) "__init__" p2) [msg] [] p3) (ksEnv qual scope L fI (.ref cda) cc) = (do
      let ov ← attributeBase (.Call (.Name "super" p0) [] [] p1) "__init__" (ksEnv qual scope L fI (.ref cda) cc) (eval (.Call (.Name "super" p0) [] [] p1) (ksEnv qual scope L fI (.ref cda) cc))
      standAt p2.atName
      let (f, first) ← holding [ov] (getMethod ov "__init__" pl)
      callWith p3 f first (backTo p3 (starEach [msg] (ksEnv qual scope L fI (.ref cda) cc))) [])
  it : ∀ (L : Addr) (cda cc : Addr), interactive (ksEnv qual scope L fI (.ref cda) cc) = false
  st : ∀ (L : Addr) (cda cc : Addr), backTo p3 (starEach [msg] (ksEnv qual scope L fI (.ref cda) cc)) = [(false, eval msg (ksEnv qual scope L fI (.ref cda) cc))]
theorem sup_init (PP : SupPos qual scope fI msg p0 p1 p2 p3 p4) (T : SupTxt prog K C fI qual params (iB msg p0 p1 p2 p3 p4 (z0 :: l)) scope (z0 :: l)) (S : SupScope scope (z0 :: l)) (htop : (prog.main.scope.names.lookup ("super" : Str)).isSome = false)
    (hhead : ∃ ar : Arg, (params.posonlyargs ++ params.args).head? = some ar ∧ ar.arg = "self")
    (hbind : ∀ (kV doc pm : Value) (an : Option Addr) (cda : Addr) (ct : Value) (cc : Addr) (us : List Value), us.length = l.length + 2 →
      bindArgs (ksFn "__init__" qual params (iB msg p0 p1 p2 p3 p4 (z0 :: l)) scope .none kV doc pm an (.ref cda) ct cc) ⟨us, []⟩ = pure ((("self" : Str) :: (z0 :: l).map (·.f)).zip us))
    {x t0 : Addr} {vs : List Value} (X : K.In s.heap) (hlim : s.heap.NoLimit) (hG : s.heap.Ns mainGlobals mg) (gs : mg "super" = none) (hB : s.heap.Ns builtinsNs mb) (bsup : mb "super" = some (.type "super"))
    (hl : vs.length = l.length + 1) (hx : s.heap.get? x = some (excO C t0)) (hnx : K.lookup x = none) (hroom : A.depth < recursionLimit) (hl2 : l.length ≤ 800)
    (hmsg : ∀ (L cda cc : Addr), MsgOk prog w (ksEnv qual scope L fI (.ref cda) cc) (fun y => (((("self" : Str) :: (z0 :: l).map (·.f)).zip (.ref x :: vs)).reverse).lookup y) msg)
    (hq : ∀ h' tk dx t1, InitEnd s.heap h' x C dx t1 (z0 :: l) vs → R (.ok (.ret .none)) { s with heap := h', toks := tk }) :
    codeAny (model prog w) A (.call (.ref fI) ⟨.ref x :: vs, []⟩) R s := by
  obtain ⟨oc, od, osl, kV, doc, pm, an, cda, ct, cc, ccl, cdd, cvs, ccs, file, tf, cl, cld, csl, ho, hcd, hcode, hvs, hfile, hcell⟩ := T.fn
  obtain ⟨nm, q, N, bs, bm, sn, sub, ab, col, dd, k0, k1, k2, k3, k5, hC, hbm⟩ := T.cls
  have hcl : clsIn K C = some { name := nm, bases := bs, mro := .ref C :: bm, ns := N, qualname := q, hasDict := true, slotNames := sn, subclasses := sub, abstract := ab, collection := col, hasDel := false } := by unfold clsIn; rw [hC] <;> rfl
  obtain ⟨ar, har, hself⟩ := hhead
  have hlen : (Value.ref x :: vs).length = l.length + 2 := by rw [List.length_cons, hl]
  have hzl : ((("self" : Str) :: (z0 :: l).map (·.f)).zip (Value.ref x :: vs)).map (·.1) = ("self" : Str) :: (z0 :: l).map (·.f) := by
    rw [← List.unzip_fst, List.unzip_zip (by rw [hlen]; simp)]
  have hnd : (((("self" : Str) :: (z0 :: l).map (·.f)).zip (Value.ref x :: vs)).map (·.1)).Nodup := by rw [hzl]; exact S.nd
  have hm0 : ((("self" : Str) :: (z0 :: l).map (·.f)).zip (Value.ref x :: vs)).reverse.lookup ("self" : Str) = some (.ref x) := lookup_rev hnd List.mem_cons_self
  have hmi : ∀ (i : Nat) (z : StP) (v : Value), (z0 :: l)[i]? = some z → vs[i]? = some v → ((("self" : Str) :: (z0 :: l).map (·.f)).zip (Value.ref x :: vs)).reverse.lookup z.f = some v := fun i z v h1 h2 => by
    refine lookup_rev hnd (List.mem_cons_of_mem _ ?_)
    refine List.mem_iff_getElem?.mpr ⟨i, ?_⟩
    exact List.getElem?_zip_eq_some.mpr ⟨by rw [List.getElem?_map, h1]; rfl, h2⟩
  refine ks_codeAny_call_defAt (fd := ksFn "__init__" qual params (iB msg p0 p1 p2 p3 p4 (z0 :: l)) scope .none kV doc pm an (.ref cda) ct cc) (body := iB msg p0 p1 p2 p3 p4 (z0 :: l)) (binds := (("self" : Str) :: (z0 :: l).map (·.f)).zip (Value.ref x :: vs)) hroom (X _ _ ho) rfl hlim (codeRec_of X hcd) rfl (BindsTo.of_eq (hbind kV doc pm an cda ct cc _ hlen)) S.cell (fun y hy => ?_) (fun h₁ hns k => ?_) S.co S.gen S.kind
  · have hy1 : y.1 ∈ ("self" : Str) :: (z0 :: l).map (·.f) := (List.of_mem_zip (a := y.1) (b := y.2) hy).1
    rcases List.mem_cons.mp hy1 with e | e
    · rw [e]; exact S.self
    · obtain ⟨z, hz, e2⟩ := List.mem_map.mp e
      rw [← e2]; exact (S.loc z hz).1
  · obtain ⟨hh, g, d, t, os⟩ := s
    have X₁ : K.In h₁ := X.keeps k
    have hx₁ := k _ _ hx
    have hxL : x ≠ hh.objs.size := Nat.ne_of_lt (Heap.lt_size hx)
    show _root_.PySem.wpAt (model prog w) (A.deeper (ksEnv qual scope hh.objs.size fI (.ref cda) cc)) (.func _ (ksEnv qual scope hh.objs.size fI (.ref cda) cc)) (execs (iB msg p0 p1 p2 p3 p4 (z0 :: l)) (ksEnv qual scope hh.objs.size fI (.ref cda) cc)) _ _ _
    obtain ⟨pl, hev⟩ := PP.ev hh.objs.size cda cc
    refine ks_wpAt_execs_cons (ks_wpAt_Expr_any (ks_wpAt_MethodCall (pl := pl) ?_ hev) (PP.it _ _ _))
    have I₁ : InstAt h₁ x (excO C t0) C none := ⟨hx₁, rfl, rfl, trivial⟩
    refine ks_wpAt_super_base (env := ksEnv qual scope hh.objs.size fI (.ref cda) cc) S.sup S.clsv (by decide) rfl (X₁ _ _ ho) rfl har rfl (X₁ _ _ hcode) rfl hvs hfile htop ?_
    refine ks_loadName_global S.kind S.sup (loadGlobal_builtin (env := ksEnv qual scope hh.objs.size fI (.ref cda) cc) (hG.keeps k) gs (hB.keeps k) bsup ⟨rfl, ?_⟩)
    refine wpAny_loadName_free S.kind S.clsv rfl ⟨_, X₁ _ _ hcell, rfl⟩ ?_
    rw [hself]
    refine wpAny_loadName_local S.kind S.self hns hm0 ?_
    refine ks_wpAny_isType_cls (X₁ _ _ hC) rfl ⟨rfl, ?_⟩
    refine ks_wpAny_call_super (X₁ _ _ hC) rfl I₁.at_ I₁.cls (fun c e => by cases e) (looks_mroIn X₁ T.mro) (fun h₂ e₂ k₂ => ?_)
    have X₂ : K.In h₂ := X₁.keeps k₂
    have I₂ : InstAt h₂ x (excO C t0) C none := ⟨k₂ _ _ hx₁, rfl, rfl, trivial⟩
    have hsup := T.sup
    unfold ks_superIn at hsup
    rw [hcl] at hsup
    refine kxs_getMethod kxs_ValueError e₂ (looks_opaque X₂ T.opq) (l₀ := .ref C :: bm) (fun A Q E s k q => wpAny_bind ((looks_clsIn X₂ hcl) A _ E s k (wpAny_pure q))) rfl X₂ hsup (I₂.type.andThen (looks_subIn X₂ T.veC)) (ks_ne X₂ I₂ hcl) (by decide) ?_
    rw [PP.st]
    refine kxs_callWith (i := "ValueError.__init__") (x := x) (by rfl) (evalArgs_plain ?_)
    obtain ⟨oL, esL, epL, hL, hrL⟩ := hns
    have k₃ : ∀ b o, h₂.get? b = some o → (h₂.push (kxs_mw "ValueError.__init__" x)).get? b = some o := fun b o e => Heap.get?_push_of_some _ e
    refine spliced_cons ?_
    refine hmsg hh.objs.size cda cc _ _ _ _ ⟨oL, esL, epL, k₃ _ _ (k₂ _ _ hL), hrL⟩ fun v tk => ?_
    refine spliced_nil ?_
    have hmw : (h₂.push (kxs_mw "ValueError.__init__" x)).get? h₂.objs.size = some (kxs_mw "ValueError.__init__" x) := Heap.get?_push_at rfl rfl
    refine ⟨hmw, ?_⟩
    have X₃ : K.In (h₂.push (kxs_mw "ValueError.__init__" x)) := X₂.keeps k₃
    refine call_mw (X₃ _ _ hC) hbm (k₃ _ _ I₂.at_) hmw (by show 1 ≤ sizeLine; rw [sizeLine_eq]; decide) fun h₄ t₄ k₄ e₄ => ?_
    have kx : ∀ b o, b ≠ x → h₁.get? b = some o → h₄.get? b = some o := fun b o hb e => k₄ b o hb (k₃ _ _ (k₂ _ _ e))
    refine wpAt_of_wpAny ?_
    have hn₄ : h₄.Ns hh.objs.size (fun y => (((("self" : Str) :: (z0 :: l).map (·.f)).zip (Value.ref x :: vs)).reverse).lookup y) := ⟨oL, esL, epL, kx _ _ (Ne.symm hxL) hL, hrL⟩
    have X₄ : K.In h₄ := fun b o e => kx b o (fun q => by rw [q, hnx] at e; cases e) (X₁ b o e)
    cases vs with
    | nil => cases hl
    | cons v0 vr =>
      obtain ⟨l1, l2⟩ := S.loc z0 List.mem_cons_self
      show wpAny _ _ (execs (stB (z0 :: l)) _) _ _ _
      refine wpAny_execs_cons (plainObj_wpAny_Assign_Attribute ?_)
      refine ldK hn₄ (hmi 0 z0 v0 rfl rfl) ?_ S.kind l1 l2
      refine ldK hn₄ hm0 ?_ S.kind S.self (by decide)
      refine set_plain X₄ (ox := excO C t₄) (od := none) ⟨e₄, rfl, rfl, trivial⟩ T.sa ?_
      refine exc_osa X₄ e₄ hcl (show refsVE (.ref C :: bm) = true from hbm) rfl (T.noat z0 List.mem_cons_self) fun h₅ tk₅ dx k₅ dn dne hx₅ hn₅ => ?_
      have dL : dx ≠ hh.objs.size := fun q => by
        have z := Heap.lt_size (kx _ _ (Ne.symm hxL) hL)
        rw [← q] at z
        exact absurd (Nat.lt_of_lt_of_le z dn) (Nat.lt_irrefl _)
      have sz : hh.objs.size ≤ dx := Nat.le_trans (Nat.le_of_lt (Heap.lt_size (kx _ _ (Ne.symm hxL) hL))) dn
      have dK : K.lookup dx = none := by
        cases e : K.lookup dx with
        | none => rfl
        | some o => exact absurd (Nat.lt_of_lt_of_le (Heap.lt_size (X₄ _ _ e)) dn) (Nat.lt_irrefl _)
      have X₅ : K.In h₅ := fun b o e => k₅ b o (fun q => by rw [q, hnx] at e; cases e) (X₄ b o e)
      refine stores_old S.kind hcl (show refsVE (.ref C :: bm) = true from hbm) rfl T.sa hm0 S.self hxL dL hnx dK (Ne.symm dne) l vr ⟨h₅, g, d, tk₅, os⟩ _ [z0.f] (by simpa using hl) X₅ ⟨oL, esL, epL, k₅ _ _ (Ne.symm hxL) (kx _ _ (Ne.symm hxL) hL), hrL⟩ hx₅ hn₅ ?_ (by show 1 + l.length ≤ 900; omega)
        (fun z hz => ⟨(S.loc z (List.mem_cons_of_mem _ hz)).1, (S.loc z (List.mem_cons_of_mem _ hz)).2, T.noat z (List.mem_cons_of_mem _ hz)⟩) (fun i z u e1 e2 => hmi (i + 1) z u e1 e2) fun h₆ t₆ k₆ n₆ => ?_
      · intro y hy
        by_cases e : y = z0.f
        · rw [e]; exact List.mem_cons_self
        · have hy2 : (if y = z0.f then some v0 else none) ≠ none := hy
          rw [if_neg e] at hy2
          exact absurd rfl hy2
      · refine hq h₆ t₆ dx t₄ ⟨fun b o hb e => ?_, k₆ _ _ (Ne.symm dne) hx₅, sz, dne, n₆⟩
        have hbd : b ≠ dx := fun q => by
          have z := Heap.lt_size e
          rw [q] at z
          exact absurd (Nat.lt_of_lt_of_le z sz) (Nat.lt_irrefl _)
        exact k₆ _ _ hbd (k₅ _ _ hb (kx _ _ hb (k _ _ e)))

/-- a made one -/
structure Made (h h' : Heap) (e C d : Addr) (fs : List Str) (us : List Value) : Prop where
  keep : ∀ b o, h.get? b = some o → h'.get? b = some o
  new : h.objs.size ≤ e
  obj : ∃ oe vs, h'.get? e = some oe ∧ oe.cls = .ref C ∧ oe.dict = some d ∧ oe.data = .fields vs ∧ vs[1]? = some .none
  dbig : h.objs.size ≤ d
  dne : d ≠ e
  ns : h'.Ns1 d (putAll (fs.zip us) fun _ => none)
theorem sup_made (PP : SupPos qual scope fI msg p0 p1 p2 p3 p4) (T : SupTxt prog K C fI qual params (iB msg p0 p1 p2 p3 p4 (z0 :: l)) scope (z0 :: l)) (S : SupScope scope (z0 :: l)) (htop : (prog.main.scope.names.lookup ("super" : Str)).isSome = false)
    (hhead : ∃ ar : Arg, (params.posonlyargs ++ params.args).head? = some ar ∧ ar.arg = "self")
    (hbind : ∀ (kV doc pm : Value) (an : Option Addr) (cda : Addr) (ct : Value) (cc : Addr) (us : List Value), us.length = l.length + 2 →
      bindArgs (ksFn "__init__" qual params (iB msg p0 p1 p2 p3 p4 (z0 :: l)) scope .none kV doc pm an (.ref cda) ct cc) ⟨us, []⟩ = pure ((("self" : Str) :: (z0 :: l).map (·.f)).zip us))
    {vs : List Value} (X : K.In s.heap) (hlim : s.heap.NoLimit) (hG : s.heap.Ns mainGlobals mg) (gs : mg "super" = none) (hB : s.heap.Ns builtinsNs mb) (bsup : mb "super" = some (.type "super"))
    (hl : vs.length = l.length + 1) (hroom : A.depth + 1 < recursionLimit) (hl2 : l.length ≤ 800)
    (hmsg : ∀ (x L cda cc : Addr), MsgOk prog w (ksEnv qual scope L fI (.ref cda) cc) (fun y => (((("self" : Str) :: (z0 :: l).map (·.f)).zip (.ref x :: vs)).reverse).lookup y) msg)
    (hq : ∀ h' tk e d, Made s.heap h' e C d ((z0 :: l).map (·.f)) vs → R (.ok (.ret (.ref e))) { s with heap := h', toks := tk }) :
    codeAny (model prog w) A (.call (.ref C) ⟨vs, []⟩) R s := by
  obtain ⟨nm, q, N, bs, bm, sn, sub, ab, col, dd, k0, k1, k2, k3, k5, hC, hbm⟩ := T.cls
  obtain ⟨hp, g, dr, tk, os⟩ := s
  have k : ∀ b o, hp.get? b = some o → ((hp.push (kdv_tup vs)).push (excO C hp.objs.size)).get? b = some o := fun b o e => Heap.get?_push_of_some _ (Heap.get?_push_of_some _ e)
  have hget : ((hp.push (kdv_tup vs)).push (excO C hp.objs.size)).get? (hp.objs.size + 1) = some (excO C hp.objs.size) := by heap_get
  have hnx : K.lookup (hp.objs.size + 1) = none := by
    cases e : K.lookup (hp.objs.size + 1) with
    | none => rfl
    | some o =>
      have z : hp.get? (hp.objs.size + 1) = some o := X _ _ e
      exact absurd (Nat.lt_of_succ_lt (Heap.lt_size z)) (Nat.lt_irrefl _)
  have hvl : vs.length ≤ sizeLine := by
    rw [sizeLine_eq]
    omega
  refine call_own F.excBase_ValueError (fun X => refsVE_contains X bm hbm) (X _ _ hC) (looks_findIn X T.iC) (fun self => bind_fn X self T.tC) hvl ?_
  refine sup_init (s := ⟨(hp.push (kdv_tup vs)).push (excO C hp.objs.size), g, dr, tk, os⟩) PP T S htop hhead hbind (X.keeps k) (hlim.keeps k) (hG.keeps k) gs (hB.keeps k) bsup hl hget hnx ?_ hl2 (hmsg _) fun h' tk' dx t1 M => ?_
  · show A.depth + 1 < recursionLimit
    exact hroom
  · have dn : ((hp.push (kdv_tup vs)).push (excO C hp.objs.size)).objs.size ≤ dx := M.dbig
    have old : ∀ b o, hp.get? b = some o → h'.get? b = some o := fun b o e => M.keep b o (Nat.ne_of_lt (Nat.lt_succ_of_lt (Heap.lt_size e))) (k b o e)
    rw [Heap.size_push, Heap.size_push] at dn
    exact ⟨rfl, hq h' tk' (hp.objs.size + 1) dx ⟨old, Nat.le_succ _, ⟨_, _, M.obj, rfl, rfl, rfl, rfl⟩, (by show hp.objs.size ≤ dx; omega), M.dne, M.ns⟩⟩
end
/-- a class that is made by C(..): what its caller needs -/
structure SupCls (prog : Program) (w : World) (K : Frag) (mg : Str → Option Value) (x : Str) (C : Addr) (fs : List Str) (P : List L2.V → Prop) : Prop where
  gC : mg x = some (.ref C)
  gs : mg "super" = none
  kC : keepIn K (.ref C) = true
  exC : subIn K (.ref C) (.type "BaseException") = some true
  tyC : typeIn K (.ref C) = some (.type "type")
  made : ∀ (A : Around) (s : Shared) (R : Result → Shared → Prop) (mb : Str → Option Value) (vs : List L2.V) (us : List Value), L2.Vals vs us → P vs → vs.length = fs.length → K.In s.heap → s.heap.NoLimit → s.heap.Ns mainGlobals mg → s.heap.Ns builtinsNs mb → mb "super" = some (.type "super") → A.depth + 1 < recursionLimit →
    (∀ h' tk e d, Made s.heap h' e C d fs us → R (.ok (.ret (.ref e))) { s with heap := h', toks := tk }) → codeAny (model prog w) A (.call (.ref C) ⟨us, []⟩) R s
end SupX
end PySem
namespace L2
open PySem PySem.Spec PyProof.Rows
/-- the fields, the last one first -/
def xfs : List Str → List V → List (Str × V) → List (Str × V)
  | f :: fs, v :: vs, acc => xfs fs vs ((f, v) :: acc)
  | _, _, acc => acc
theorem xfs_ok : ∀ {fs : List Str} {vs : List V} {us : List Value} {acc : List (Str × V)} {m : Str → Option Value}, Vals vs us → (∀ f, RelO (acc.lookup f) (m f)) → ∀ f, RelO ((xfs fs vs acc).lookup f) (PySem.SupX.putAll (fs.zip us) m f)
  | [], _, _, _, _, _, r => r
  | _ :: _, [], _, _, _, .nil, r => r
  | g :: fs, v :: vs, _ :: us, acc, m, .cons rv rt, r => xfs_ok (fs := fs) rt (relO_put rv r)
section
variable {X : Cx} {C : Addr} {x : Str} {fs : List Str} {P : List V → Prop}
/-- C(e, ..) -/
def tMkSup (C : Addr) (fs : List Str) (P : List V → Prop) (ta : TA) : St → Hp → XK → Prop := fun σ H Q => ta σ H fun vs H1 => P vs ∧ vs.length = fs.length ∧ ∀ d, H1 d = none → Q (.ref C) (some d) (upd H1 d (.xd (xfs fs vs [])))
theorem pmk_sup {e : Expr} {es : List Expr} {ta : TA} {p pos : Pos} {k : Nat} (T : PySem.SupX.SupCls X.prog X.w X.K X.mg x C fs P) (hr : Room k X.A) (ha : PA X (e :: es) ta) (hg : Gl X x := by rfl) (hx : (x == ("__debug__" : Str)) = false := by decide)
    (he : starEach (e :: es) X.env = (false, eval e X.env) :: starEach es X.env := by rfl) (hpl : (backTo pos (starEach es X.env)).any (·.1) = false := by rfl) :
    PMk X (.Call (.Name x p) (e :: es) [] pos) (tMkSup C fs P ta) := by
  intro pins s σ H Q I h
  refine wpAny_Call_Name_kw (ld_glob I hg T.gC ?_ hx)
  refine PySem.W.callWith_K (h₀ := X.base) I.ok.mod.kin T.kC (thn (ha.run pos pins s σ H _ I h) fun us s1 hh => ?_) he hpl
  obtain ⟨vs, H1, I1, r1, hP, hl, q1⟩ := hh
  refine ⟨I1.kIn, ?_⟩
  show wpAny _ _ (call (.ref C) us) _ _ _
  have hlim := I1.nolimit
  obtain ⟨mb, hb1, hb2⟩ := I1.mod.blt
  have hG : s1.heap.Ns mainGlobals X.mg := I1.mod.glob.keeps I1.bk
  have hB : s1.heap.Ns builtinsNs mb := hb1.keeps I1.bk
  obtain ⟨hp, g, dr, tk, os⟩ := s1
  refine wpAny_call (T.made _ _ _ mb vs us r1 hP hl I1.kIn hlim hG hB ((hb2 _ (by decide)).trans (by decide +kernel)) (by have := hr.dp; omega) fun h' tk' e d M => ?_)
  show MkP X pins σ Q (.ref e) ⟨h', g, dr, tk', os⟩
  obtain ⟨oe, fv, hoe, hc, hd, hdat, h1⟩ := M.obj
  have hns := M.ns
  obtain ⟨G', g1, g2⟩ := restrict h' fun b => decide (b ≠ e)
  have gk : ∀ b, b ≠ e → G'.get? b = h'.get? b := fun b hb => g1 b (decide_eq_true hb)
  have ge : G'.get? e = none := g2 e (by simp)
  have old : ∀ b o, hp.get? b = some o → G'.get? b = some o := fun b o q => (gk b (Nat.ne_of_lt (Nat.lt_of_lt_of_le (Heap.lt_size q) M.new))).trans (M.keep b o q)
  have ob : ObjOk X.prog X.w (upd H1 d (.xd (xfs fs vs []))) G' d (.xd (xfs fs vs [])) :=
    ⟨_, hns.at (fun o q => (gk d M.dne).trans q), fun f => xfs_ok (acc := []) (m := fun _ => none) r1 (fun _ => True.intro) f⟩
  have J : Inv X pins σ (upd H1 d (.xd (xfs fs vs []))) ⟨G', g, dr, tk', os⟩ := I1.laid (t' := tk') old M.dbig ob
  refine ⟨e, oe, fv, ⟨G', g, dr, tk', os⟩, _, .ref C, some d, rfl, J, fun b o q => ?_, ge, hoe, ⟨hc, hd⟩, hdat, h1, ?_, rfl, I1.bare, raises_own T.exC T.tyC, q1 d (I1.hok.fresh M.dbig)⟩
  · by_cases hb : b = e
    · have q' : G'.get? b = some o := q
      rw [hb, ge] at q'
      cases q'
    · exact (gk b hb).symm.trans q
  · rw [upd_ne (Ne.symm M.dne)]
    exact I1.hok.fresh M.new
/-- raise C(e, ..) -/
def tRaiseSup (C : Addr) (fs : List Str) (P : List V → Prop) (W : WX) (ta : TA) : TS := fun _ σ H => tMkSup C fs P ta σ H fun cls d H' => W cls d σ H'
theorem ps_raiseSup {e : Expr} {es : List Expr} {ta : TA} {W : WX} {p pos pos2 : Pos} {k : Nat} (hc : X.calm = true) (T : PySem.SupX.SupCls X.prog X.w X.K X.mg x C fs P) (hr : Room k X.A) (tk : Takes X W) (ha : PA X (e :: es) ta) (hg : Gl X x := by rfl) (hx : (x == ("__debug__" : Str)) = false := by decide)
    (he : starEach (e :: es) X.env = (false, eval e X.env) :: starEach es X.env := by rfl) (hpl : (backTo pos (starEach es X.env)).any (·.1) = false := by rfl) :
    PS X (.Raise (some (.Call (.Name x p) (e :: es) [] pos)) none pos2) (tRaiseSup C fs P W ta) := ps_raise hc tk (pmk_sup T hr ha hg hx he hpl)
end
end L2
end
section
set_option Elab.async false
set_option linter.all false
set_option maxRecDepth 100000
set_option maxHeartbeats 2000000
namespace Sh
open PySem PySem.Spec PyProof.Rows L2
def top (i : Nat) : Stmt := PySem.Challenge.pw_shearyard_k51_price_of_a_change.main.body.getD i (.Pass ⟨0, 0, 0, 0⟩)
/-- the built-ins and constants by their names -/
structure Bl (mg : Str → Option Value) : Prop where
  b_len : mg "len" = none
  b_range : mg "range" = none
  b_abs : mg "abs" = none
  b_int : mg "int" = none
  b_max : mg "max" = none
  b_all : mg "all" = none
  b_isinstance : mg "isinstance" = none
  b_set : mg "set" = none
  b_list : mg "list" = none
  b_tuple : mg "tuple" = none
  b_bool : mg "bool" = none
  b_str : mg "str" = none
  b_enumerate : mg "enumerate" = none
  c_MOST_KINDS : ∃ t, mg "MOST_KINDS" = some (.int 8 t)
  c_MOST_BRANCHES : ∃ t, mg "MOST_BRANCHES" = some (.int 3 t)
  c_MOST_KNOTS : ∃ t, mg "MOST_KNOTS" = some (.int 2000 t)
  c_LONGEST_NAME : ∃ t, mg "LONGEST_NAME" = some (.int 8 t)
  c_LETTERS : ∃ t, mg "LETTERS" = some (.str "abcdefghijklmnopqrstuvwxyz" t)
theorem pe_cI {X : Cx} {x : Str} {i : Int} {pos : Pos} (hg : Gl X x) (h : ∃ t, X.mg x = some (.int i t)) (hd : (x == ("__debug__" : Str)) = false := by decide) : PE X (.Name x pos) (tC (.int i)) := by
  obtain ⟨t, e⟩ := h
  exact pe_glob hg e ⟨t, rfl⟩ hd
theorem pe_cS {X : Cx} {x z : Str} {pos : Pos} (hg : Gl X x) (h : ∃ t, X.mg x = some (.str z t)) (hd : (x == ("__debug__" : Str)) = false := by decide) : PE X (.Name x pos) (tC (.str z)) := by
  obtain ⟨t, e⟩ := h
  exact pe_glob hg e ⟨t, rfl⟩ hd
/-- all that stood stands, but what is at a -/
def Kp (a : Addr) (H H' : Hp) : Prop := ∀ b o, H b = some o → b ≠ a → H' b = some o
theorem Kp.refl (a : Addr) (H : Hp) : Kp a H H := fun _ _ h _ => h
theorem Kp.trans {a : Addr} {H H1 H2 : Hp} (x : Kp a H H1) (y : Kp a H1 H2) : Kp a H H2 := fun b o h n => y b o (x b o h n) n
theorem Kp.upd {a : Addr} {H H1 : Hp} {o : HO} (x : Kp a H H1) : Kp a H (upd H1 a o) := fun b u h n => by rw [upd_ne n]; exact x b u h n
theorem Kp.same {a : Addr} {H H' : Hp} (x : Same H H') : Kp a H H' := fun b o h _ => x b o h
structure Bg (z0 z1 z2 z3 : Int) (cs : List Int) : Prop where
  lo : 4 ≤ z3
  hi : z3 ≤ 4 + cs.length
  sz : cs.length ≤ 63
  nn : ∀ c ∈ cs, 0 ≤ c
def bgL (z0 z1 z2 z3 : Int) (cs : List Int) : List V := .int z0 :: .int z1 :: .int z2 :: .int z3 :: cs.map V.int
def BagAt (H : Hp) (a : Addr) : Prop := ∃ z0 z1 z2 z3 cs, H a = some (.lst (bgL z0 z1 z2 z3 cs)) ∧ Bg z0 z1 z2 z3 cs
open C8 (pss_cut tCut)
open Evl (ixN_nat)
section
variable {P : Program} {w : World} {K : PySem.W.Frag} {mg : Str → Option Value} {base : Heap}
end
end Sh
end
section
set_option Elab.async false
set_option linter.all false
set_option maxRecDepth 100000
set_option maxHeartbeats 2000000
set_option autoImplicit false
namespace L2
open PySem PySem.Spec PyProof.Rows
/-- a tuple that is followed -/
def Tq (H : Hp) (a : Addr) (xs : List V) : Prop := Rd H a (.tup xs)
/-- .. whose object has no dict -/
def Tz (H : Hp) (a : Addr) (xs : List V) : Prop := ∃ o, H a = some (.frz o (.tup xs)) ∧ o.dict = none
theorem Tq.of {H : Hp} {a : Addr} {xs : List V} (h : H a = some (.tup xs)) : Tq H a xs := .inl h
theorem Tq.sq {K : PySem.W.Frag} {H : Hp} {a : Addr} {xs : List V} (h : Tq H a xs) : SqT K H a xs := .inl h
theorem Tq.same {H H' : Hp} {a : Addr} {xs : List V} (h : Tq H a xs) (s : ∀ b o, H b = some o → H' b = some o) : Tq H' a xs := by
  rcases h with h | ⟨o, h⟩
  · exact .inl (s _ _ h)
  · exact .inr ⟨o, s _ _ h⟩
theorem Tz.q {H : Hp} {a : Addr} {xs : List V} (h : Tz H a xs) : Tq H a xs := by
  obtain ⟨o, h, _⟩ := h
  exact .inr ⟨o, h⟩
theorem Tz.same {H H' : Hp} {a : Addr} {xs : List V} (h : Tz H a xs) (s : ∀ b o, H b = some o → H' b = some o) : Tz H' a xs := by
  obtain ⟨o, h, d⟩ := h
  exact ⟨o, s _ _ h, d⟩
theorem Tq.ne_none {H : Hp} {a p : Addr} {xs : List V} (h : Tq H a xs) (hp : H p = none) : a ≠ p := by
  rcases h with h | ⟨o, h⟩
  · exact ne_of_none h hp
  · exact ne_of_none h hp
/-- followed tuples stay -/
def TQ (H H' : Hp) : Prop := ∀ t xs, Tq H t xs → Tq H' t xs
theorem TQ.refl (H : Hp) : TQ H H := fun _ _ h => h
theorem TQ.trans {H H1 H2 : Hp} (x : TQ H H1) (y : TQ H1 H2) : TQ H H2 := fun t xs h => y t xs (x t xs h)
theorem TQ.of_same {H H' : Hp} (s : ∀ b o, H b = some o → H' b = some o) : TQ H H' := fun t xs q => q.same s
theorem TQ.new {H : Hp} {p : Addr} {o : HO} (h : H p = none) : TQ H (upd H p o) := fun t xs q => by
  have n := q.ne_none h
  rcases q with q | ⟨o, q⟩
  · exact .inl (by rw [upd_ne n]; exact q)
  · exact .inr ⟨o, by rw [upd_ne n]; exact q⟩
theorem TQ.lst {H : Hp} {p : Addr} {ys : List V} {o : HO} (h : H p = some (.lst ys)) : TQ H (upd H p o) := fun t xs q => by
  rcases q with q | ⟨o, q⟩
  · exact .inl (by rw [upd_ne (ne_of q h (by intro e; cases e))]; exact q)
  · exact .inr ⟨o, by rw [upd_ne (ne_of q h (by intro e; cases e))]; exact q⟩
section
variable {X : Cx}
end
end L2
end
section
set_option Elab.async false
set_option linter.all false
set_option maxRecDepth 100000
set_option maxHeartbeats 2000000
set_option autoImplicit false
namespace L2
open PySem PySem.Spec PyProof.Rows
/-- an exception that lies in the state s at hand, ahead of the clauses -/
structure Caught (X : Cx) (pins : List (Addr × Obj)) (σ : St) (H : Hp) (s : Shared) (a : Addr) (cls : Value) (d : Option Addr) : Prop where
  na : H a = none
  fly : ∃ B, HandSPX.FlyingZ B (X.env :: X.outer) a (Zc cls d) s.heap ∧ ∀ h, HandSPX.FlyingZ B (X.env :: X.outer) a (Zc cls d) h → s.heap.UpToSlots h → Inv X pins σ H { s with heap := h }
section
variable {X : Cx} {pins : List (Addr × Obj)} {σ : St} {H : Hp} {s : Shared} {a : Addr} {cls : Value} {d : Option Addr}
/-- into the suite of a clause -/
theorem suite_of {B : Heap} (hf : X.env.frame = some X.env.locals) (fl : HandSPX.FlyingZ B (X.env :: X.outer) a (Zc cls d) s.heap) (I : Inv X pins σ H s) (na : H a = none) :
    ∃ oe, (∃ vs, oe.data = .fields vs) ∧ s.heap.get? a = some oe ∧ Zc cls d oe ∧ Inv (X.suite a ((a, oe) :: (X.pn ++ pins))) [] σ H s := by
  obtain ⟨oe, vs, he, hz, hd⟩ := fl.there
  have off : ∀ f ∈ frs (X.env :: X.outer), a ≠ f := fun f hm e => by
    subst e
    obtain ⟨_, o, e2, nf⟩ := fl.2.2.1.mem hm
    rw [he] at e2
    cases e2
    exact nf _ hd
  refine ⟨oe, ⟨vs, hd⟩, he, hz, I.suite he hd na (off _ (List.mem_filterMap.mpr ⟨X.env, List.mem_cons_self, hf⟩)) fun hm => ?_⟩
  obtain ⟨en, hen, q⟩ := List.mem_filterMap.mp hm
  exact off a (List.mem_filterMap.mpr ⟨en, List.mem_cons_of_mem _ hen, q⟩) rfl
/-- a try statement by what its clauses do with what is caught -/
theorem ps_try_by {body : List Stmt} {hds : List ExceptHandler} {h₀ : ExceptHandler} {pos : Pos} {tb : WX → TS} {Wd : Ends → WX} (hs : X.stack = X.env :: X.outer) (hf : X.env.frame = some X.env.locals)
    (hb : ∀ (W : WX) (pn : List (Addr × Obj)) (xe : Value → Shared → Prop), Takes (X.tr pn xe) W → PassesOwn (model X.prog X.w) X.A X.env xe → PSs (X.tr pn xe) body (tb W))
    (hk : ∀ (pins : List (Addr × Obj)) (D : Ends) (σ : St) (H : Hp) (s : Shared) (a : Addr) (cls : Value) (d : Option Addr), X.Ok → Caught X pins σ H s a cls d → Wd D cls d σ H →
      wpAny (model X.prog X.w) X.A (handleBy (.ref a) X.env (h₀ :: hds)) (SP X pins D) X.xe s) :
    PS X (.Try body (h₀ :: hds) [] [] pos) (fun D σ H => tb (Wd D) D σ H) := by
  refine ⟨fun pins s σ H D I h => wpAny_Try_except ?_⟩
  have ok := I.ok
  have hfr : X.A.frames = some (X.env :: X.outer) := by rw [ok.frames, hs]
  have P := (hb (Wd D) (X.pn ++ pins) (fun e s₁ => wpAny (model X.prog X.w) X.A (noteFrame e X.env) (fun _ s₂ => wpAny (model X.prog X.w) X.A (setFlight e none) (fun _ s₃ =>
    wpAny (model X.prog X.w) X.A (handleBy e X.env (h₀ :: hds)) (SP X pins D) X.xe s₃) X.xe s₂) X.xe s₁) (fun u s' xx => by
      obtain ⟨a, B, sI, pins', σ', H', cls, d, rfl, J', nb, up, sky, na, os, ag, w⟩ := xx
      have sky' : Sky B (X.env :: X.outer) a (Zc cls d) X.env.locals s'.heap := by rw [← hs]; exact sky
      refine Sky.land Zc.steady hfr hf sky' fun h3 fl3 up3 => hk pins D σ' H' { s' with heap := h3 } a cls d ok ⟨na, B, fl3, fun h fl up4 => ?_⟩ w
      exact (J'.ofTry ok).landed nb fl.1 ((up.trans up3).trans up4) os ag) PassesOwn.looking).run [] s σ H D (I.toTry _) h
  refine wpAny_mono P (fun f s1 hsp => ?_) fun _ _ he => he
  cases f with
  | ret u =>
    obtain ⟨v, σ', H', J', r, q⟩ := hsp
    exact ⟨v, σ', H', J'.ofTry ok, r, q⟩
  | next =>
    obtain ⟨σ', H', J', q⟩ := hsp
    exact wpAny_execs_nil ⟨σ', H', J'.ofTry ok, q⟩
  | brk =>
    obtain ⟨σ', H', J', q⟩ := hsp
    exact ⟨σ', H', J'.ofTry ok, q⟩
  | cont =>
    obtain ⟨σ', H', J', q⟩ := hsp
    exact ⟨σ', H', J'.ofTry ok, q⟩
/-- the wish of a first clause 'except x as n' that takes it -/
def wFirst (K : PySem.W.Frag) (c : Value) (i : Nat) (ts : Addr → Value → Option Addr → TS) (D : Ends) : WX := fun cls d σ H =>
  PySem.W.exmOne K cls c = some true ∧ ∀ a, H a = none → ts a cls d { nx := fun σ' H' => D.nx (σ'.set i none) H', rt := D.rt, bk := fun σ' H' => D.bk (σ'.set i none) H', ct := fun σ' H' => D.ct (σ'.set i none) H' } (σ.set i (some (.ref a))) H
theorem ps_try_first {x n : Str} {c : Value} {i : Nat} {body suite : List Stmt} {b₀ : Stmt} {np pos pos' : Pos} {hds : List ExceptHandler} {tb : WX → TS} {ts : Addr → Value → Option Addr → TS} (hs : X.stack = X.env :: X.outer) (hf : X.env.frame = some X.env.locals) (hN : X.N.Nodup) (hi : X.N[i]? = some n) (hln : X.env.kindOf n = some .local) (hc : Names X x c)
    (hb : ∀ (W : WX) (pn : List (Addr × Obj)) (xe : Value → Shared → Prop), Takes (X.tr pn xe) W → PassesOwn (model X.prog X.w) X.A X.env xe → PSs (X.tr pn xe) body (tb W))
    (hsu : ∀ (a : Addr) (oe : Obj) (cls : Value) (d : Option Addr) (pn : List (Addr × Obj)), Zc cls d oe → (∃ vs, oe.data = .fields vs) → PSs (X.suite a ((a, oe) :: pn)) (b₀ :: suite) (ts a cls d)) :
    PS X (.Try body (.ExceptHandler (some (.Name x np)) (some n) (b₀ :: suite) pos' :: hds) [] [] pos) (fun D σ H => tb (wFirst X.K c i ts D) D σ H) := by
  refine ps_try_by (Wd := wFirst X.K c i ts) hs hf hb fun pins D σ H s a cls d ok C w => ?_
  obtain ⟨na, B, fl, back⟩ := C
  obtain ⟨hm, hw⟩ := w
  have I0 : Inv X pins σ H s := back s.heap fl (fun b o e _ => ⟨o.slots, e⟩)
  obtain ⟨oe, hd, he, hz, S⟩ := suite_of hf fl I0 na
  refine wpAny_handleBy_cons (codeAny_handlers_test ?_) (by intro q; cases q)
  have look : PySem.W.Looks (model X.prog X.w) s.heap (typeOf (.ref a)) cls := fun A Q E s k q => wpAny_typeOf_ref (k _ _ he) (by rw [hz.1]; exact q)
  have name : ∀ {Q : Value → Shared → Prop} {E : Value → Shared → Prop}, Q c s → wpAny (model X.prog X.w) (X.A.mark (some (.ref a))) (eval (.Name x np) X.env) Q E s := fun {Q E} q => by
    obtain ⟨hg, hdbg, hm | ⟨hm, hv, hnn⟩⟩ := hc
    · exact ld_glob (X := X.suite a ((a, oe) :: (X.pn ++ pins))) S hg hm q hdbg
    · exact ld_blt (X := X.suite a ((a, oe) :: (X.pn ++ pins))) S hg hm hv q hnn hdbg
  refine name ((PySem.W.exm_one (M := model X.prog X.w) I0.kIn look hm).here (codeAny_handlers_suite_as ?_))
  refine HandSPX.lands_againZ fl fun h4 fl4 up4 => ?_
  obtain ⟨oe4, hd4, _, hz4, S4⟩ := suite_of (s := { s with heap := h4 }) hf fl4 (back h4 fl4 up4) na
  refine store_ok (X := X.suite a ((a, oe4) :: (X.pn ++ pins))) (v := .ref a) S4 hN hi (.inl hln) rfl (fun s5 S5 => ?_) (.inr hln)
  have R := (hsu a oe4 cls d (X.pn ++ pins) hz4 hd4).run [] s5 _ H _ S5 (hw a na)
  refine wpAny_mono R (fun f s6 hsp => ?_) fun _ _ z => z.elim
  cases f with
  | ret u =>
    obtain ⟨v6, σ6, H6, S6, r6, q6⟩ := hsp
    exact gone_ok (S6.unsuite ok) hN hi hln fun s7 J7 => ⟨_, _, _, J7, r6, q6⟩
  | next =>
    obtain ⟨σ6, H6, S6, q6⟩ := hsp
    exact gone_ok (S6.unsuite ok) hN hi hln fun s7 J7 => ⟨_, _, J7, q6⟩
  | brk =>
    obtain ⟨σ6, H6, S6, q6⟩ := hsp
    exact gone_ok (S6.unsuite ok) hN hi hln fun s7 J7 => ⟨_, _, J7, q6⟩
  | cont =>
    obtain ⟨σ6, H6, S6, q6⟩ := hsp
    exact gone_ok (S6.unsuite ok) hN hi hln fun s7 J7 => ⟨_, _, J7, q6⟩
end
end L2
namespace Sh
open PySem PySem.Spec PyProof.Rows L2
/-- an own exception class in except clauses -/
structure XOk (K : PySem.W.Frag) (C : Addr) (fs : List Str) : Prop where
  xf : XfC K C
  no : ∀ f ∈ fs, PySem.W.findIn K (.ref C) f = some none
  me : PySem.W.exmOne K (.ref C) (.ref C) = some true
/-- a call whose exceptions are wished for at the slots at hand -/
theorem pe_dS {X : Cx} {CX : CXT} {E : L2.St → XK} {k : Nat} {x : Str} {sp : Sp} {e : Expr} {es : List Expr} {t : TA} {p pos : Pos} (D : DefOk X.prog X.w X.K X.mg X.base CX k x sp) (hr : Room k X.A) (hx : ∀ σ, PassesAt CX X σ (E σ)) (ha : PA X (e :: es) t)
    (hg : Gl X x := by rfl) (hd : (x == ("__debug__" : Str)) = false := by decide)
    (he : starEach (e :: es) X.env = (false, eval e X.env) :: starEach es X.env := by rfl) (hpl : (backTo pos (starEach es X.env)).any (·.1) = false := by rfl) :
    PE X (.Call (.Name x p) (e :: es) [] pos) (tCallS sp E t) := by
  obtain ⟨f, hm, hk, F⟩ := D
  refine ⟨fun pins s σ H Q I h => ?_⟩
  refine wpAny_Call_Name_kw (ld_glob I hg hm ?_ hd)
  refine PySem.W.callWith_K (h₀ := X.base) I.ok.mod.kin hk (thn (ha.run pos pins s σ H _ I h) fun us s1 ⟨vs, H1, I1, r, q⟩ => ⟨I1.kIn, ?_⟩) he hpl
  refine wpAny_call (codeAny_mono (F X.A X.stack s1 H1 us vs Q (E σ) hr I1.env0 r q) fun r s' hq => ?_)
  cases r with
  | error e => exact hx σ pins H1 s1 e s' I1 hq
  | ok fl =>
    cases fl with
    | ret u => exact I1.after hq
    | next => exact hq.elim
    | brk => exact hq.elim
    | cont => exact hq.elim
end Sh
end
section
set_option Elab.async false
set_option linter.all false
set_option maxRecDepth 100000
set_option maxHeartbeats 2000000
set_option autoImplicit false
namespace Hx
open PySem PySem.Spec PyProof.Rows L2 He PySem.W
/-- an own exception class: its name, its fields, its __init__ as written -/
structure XDef where
  x : Str
  fs : List Str
  qual : Str
  params : Arguments
  body : List Stmt
  scope : Scope
abbrev XV : Type := Option (Str × Str × Arguments × FuncBody × Scope × Addr × Addr)
def iOf (K : Frag) (x : Str) : Addr := ma K (ga K x) "__init__"
def xvOf (K : Frag) (x : Str) : XV := match K.lookup (iOf K x) with
  | some ⟨_, _, .func fd, _⟩ => some (fd.name, fd.qualname, fd.params, fd.body, fd.scope, fd.globals, fd.builtins)
  | _ => none
def XDef.val (d : XDef) : XV := some ("__init__", d.qual, d.params, .stmts d.body, d.scope, mainGlobals, builtinsNs)
def cellB (K : Frag) (C : Addr) (cl : List (Str × Addr)) : Bool := match cl with
  | [(n, cc)] => decide (n = "__class__") && (match K.lookup cc with
    | some ⟨_, _, .cell (some (.ref D)), _⟩ => decide (D = C)
    | _ => false)
  | _ => false
def codeB (K : Frag) (file : Str) (cd : Value) : Bool := match cd with
  | .ref cda => (match K.lookup cda with
    | some ⟨_, _, .fields cvs, _⟩ => (match (cvs[2]? : Option Value) with
      | some (.str f _) => file == f
      | _ => false)
    | _ => false)
  | _ => false
def noneB (v : Value) : Bool := match v with
  | .none => true
  | _ => false
def funB (K : Frag) (file : Str) (d : XDef) : Bool := match K.lookup (iOf K d.x) with
  | some ⟨_, _, .func fd, _⟩ => noneB fd.defaults && (codeIn K fd.code d.qual && (codeB K file fd.code && cellB K (ga K d.x) fd.closure))
  | _ => false
def clsB (K : Frag) (C : Addr) : Bool := match K.lookup C with
  | some ⟨.type "type", _, .cls cd, sl⟩ => (match cd.mro, sl.toList with
    | .ref C' :: bm, [_, _, _, _, some (.builtin n), _] => decide (C' = C) && (decide (n = "ValueError.__new__") && (!cd.hasDel && (cd.hasDict && HandSPX.refsVE bm)))
    | _, _ => false)
  | _ => false
def XDef.ok (file : Str) (K : Frag) (d : XDef) : Bool :=
  clsB K (ga K d.x) && (funB K file d && (eqO (findIn K (.ref (ga K d.x)) "__setattr__") (some (some (.builtin "object.__setattr__"))) && ((d.fs.all fun f => eqO (findIn K (.ref (ga K d.x)) f) (some none)) &&
  (eqO (findIn K (.ref (ga K d.x)) "__init__") (some (some (.ref (iOf K d.x)))) && (decide (typeIn K (.ref (iOf K d.x)) = some (.type "function")) && (keepIn K (.ref (ga K d.x)) && (decide (subIn K (.ref (ga K d.x)) (.type "BaseException") = some true) &&
  (decide (subIn K (.ref (ga K d.x)) (.type "ValueError") = some true) && (decide (typeIn K (.ref (ga K d.x)) = some (.type "type")) && (decide (mroIn K (ga K d.x) (.ref (ga K d.x)) = some true) && (eqO (ks_superIn K (ga K d.x) (ga K d.x) "__init__") (some (some (.builtin "ValueError.__init__"))) &&
  (eqO (nsIn K cStatics "thirdparty.any") (some none) && (L2.xfB K (ga K d.x) && (decide (exmOne K (.ref (ga K d.x)) (.ref (ga K d.x)) = some true) && eqO (nsIn K mainGlobals d.x) (some (some (.ref (ga K d.x))))))))))))))))))
structure XFacts (prog : Program) (K : Frag) (d : XDef) (l : List SupX.StP) : Prop where
  txt : SupX.SupTxt prog K (ga K d.x) (iOf K d.x) d.qual d.params d.body d.scope l
  xf : L2.XfC K (ga K d.x)
  no : ∀ f ∈ d.fs, findIn K (.ref (ga K d.x)) f = some none
  me : exmOne K (.ref (ga K d.x)) (.ref (ga K d.x)) = some true
  gl : nsIn K mainGlobals d.x = some (some (.ref (ga K d.x)))
theorem facts_of {prog : Program} {K : Frag} {d : XDef} {l : List SupX.StP} (e : xvOf K d.x = d.val) (c : d.ok prog.main.file K = true) (hl : ∀ z ∈ l, z.f ∈ d.fs) : XFacts prog K d l := by
  unfold XDef.ok at c
  obtain ⟨c1, c⟩ := ba c
  obtain ⟨c2, c⟩ := ba c
  obtain ⟨c3, c⟩ := ba c
  obtain ⟨c4, c⟩ := ba c
  obtain ⟨c5, c⟩ := ba c
  obtain ⟨c6, c⟩ := ba c
  obtain ⟨c7, c⟩ := ba c
  obtain ⟨c8, c⟩ := ba c
  obtain ⟨c9, c⟩ := ba c
  obtain ⟨c10, c⟩ := ba c
  obtain ⟨c11, c⟩ := ba c
  obtain ⟨c12, c⟩ := ba c
  obtain ⟨c13, c⟩ := ba c
  obtain ⟨c14, c⟩ := ba c
  obtain ⟨c15, c16⟩ := ba c
  have no : ∀ f ∈ d.fs, findIn K (.ref (ga K d.x)) f = some none := fun f hf => eqO_ok (List.all_eq_true.mp c4 f hf)
  refine ⟨⟨?_, eqO_ok c3, fun z hz => no _ (hl z hz), eqO_ok c5, of_decide_eq_true c6, c7, of_decide_eq_true c8, of_decide_eq_true c9, of_decide_eq_true c10, of_decide_eq_true c11, eqO_ok c12, eqO_ok c13, ?_⟩, L2.xfB_ok c14, no, of_decide_eq_true c15, eqO_ok c16⟩
  · unfold clsB at c1
    split at c1
    · rename_i dd cd sl ho
      split at c1
      · rename_i C' bm k0 k1 k2 k3 n k5 hm hs
        obtain ⟨y1, y⟩ := ba c1
        obtain ⟨y2, y⟩ := ba y
        obtain ⟨y3, y⟩ := ba y
        obtain ⟨y4, y5⟩ := ba y
        have y1 := of_decide_eq_true y1
        have y2 := of_decide_eq_true y2
        have y3' : cd.hasDel = false := by
          cases h : cd.hasDel with
          | false => rfl
          | true => rw [h] at y3; cases y3
        clear y3
        obtain ⟨nm, bs, mro, ns, qn, hd, sn, sub, ab, col, del⟩ := cd
        dsimp only at hm y3' y4
        subst y1 y2 hm y3' y4
        have hsl : sl = #[k0, k1, k2, k3, some (.builtin "ValueError.__new__"), k5] := by
          obtain ⟨l⟩ := sl
          simp only at hs
          rw [hs]
        subst hsl
        exact ⟨nm, qn, ns, bs, bm, sn, sub, ab, col, dd, k0, k1, k2, k3, k5, ho, y5⟩
      · cases c1
    · cases c1
  · unfold funB at c2
    unfold xvOf at e
    cases q : K.lookup (iOf K d.x) with
    | none =>
      rw [q] at c2
      cases c2
    | some o =>
      obtain ⟨oc, od, dt, osl⟩ := o
      rw [q] at c2 e
      cases dt with
      | func fd =>
        obtain ⟨n1, n2, n3, n4, n5, n6, n7, n8, n9, n10, n11, n12, n13, n14, n15⟩ := fd
        have e2 : (some (n1, n2, n3, n4, n5, n6, n15) : XV) = (some (("__init__" : Str), d.qual, d.params, FuncBody.stmts d.body, d.scope, mainGlobals, builtinsNs) : XV) := e
        simp only [Option.some.injEq, Prod.mk.injEq] at e2
        obtain ⟨h1, h2, h3, h4, h5, h6, h8⟩ := e2
        subst h1 h2 h3 h4 h5 h6 h8
        have c3 : (noneB n8 && (codeIn K n13 d.qual && (codeB K prog.main.file n13 && cellB K (ga K d.x) n7))) = true := c2
        obtain ⟨k1, k2⟩ := ba c3
        obtain ⟨k3, k4⟩ := ba k2
        obtain ⟨k5, k6⟩ := ba k4
        have hn8 : n8 = .none := by
          cases n8 with
          | none => rfl
          | _ => cases k1
        subst hn8
        unfold codeB at k5
        unfold cellB at k6
        split at k5
        · rename_i cda
          split at k5
          · rename_i ccl cdd cvs ccs hcda
            split at k5
            · rename_i f tf hf
              split at k6
              · rename_i n cc
                obtain ⟨z1, z2⟩ := ba k6
                have z1 := of_decide_eq_true z1
                subst z1
                split at z2
                · rename_i cl cld D csl hcc
                  have z2 := of_decide_eq_true z2
                  subst z2
                  exact ⟨oc, od, osl, n9, n10, n11, n12, cda, n14, cc, ccl, cdd, cvs, ccs, f, tf, cl, cld, csl, rfl, k3, hcda, hf, k5, hcc⟩
                · cases z2
              · cases k6
            · cases k5
          · cases k5
        · cases k5
      | _ => cases c2
theorem x_of {file : Str} {K : Frag} {xs : List XDef} (h1 : (xs.all fun d => d.ok file K) = true) (h2 : (xs.map fun d => xvOf K d.x) = xs.map XDef.val) (i : Nat) {d : XDef} (h : xs[i]? = some d := by rfl) : xvOf K d.x = d.val ∧ d.ok file K = true := by
  refine ⟨?_, List.all_eq_true.mp h1 d (List.mem_of_getElem? h)⟩
  have e2 : (xs.map fun d => xvOf K d.x)[i]? = (xs.map XDef.val)[i]? := by rw [h2]
  rw [List.getElem?_map, List.getElem?_map, h] at e2
  exact Option.some.inj e2
end Hx
end
section
set_option linter.all false
set_option autoImplicit false
namespace Mth
variable {α : Type} (w : α → Nat)
/-- n plants one behind the other, and nothing else -/
def forest : List α → Nat → Bool
  | [], n => n == 0
  | _ :: _, 0 => false
  | k :: r, n + 1 => forest r (w k + n)
/-- behind n plants -/
def skip : List α → Nat → List α
  | [], _ => []
  | k :: r, 0 => k :: r
  | k :: r, n + 1 => skip r (w k + n)
theorem skip_zero (l : List α) : skip w l 0 = l := by cases l <;> rfl
theorem skip_add : ∀ (l : List α) (a b : Nat), skip w l (a + b) = skip w (skip w l a) b
  | [], _, _ => rfl
  | k :: r, 0, b => by rw [Nat.zero_add]; rfl
  | k :: r, a + 1, b => by
    rw [show a + 1 + b = (a + b) + 1 by omega]
    show skip w r (w k + (a + b)) = skip w (skip w r (w k + a)) b
    rw [← skip_add r (w k + a) b, Nat.add_assoc]
theorem forest_skip : ∀ (l : List α) (a b : Nat), forest w l (a + b) = true → forest w (skip w l a) b = true
  | [], a, b, h => by
    have e : a + b = 0 := eq_of_beq h
    have e2 : b = 0 := by omega
    rw [e2]; rfl
  | k :: r, 0, b, h => by rw [Nat.zero_add] at h; exact h
  | k :: r, a + 1, b, h => by
    rw [show a + 1 + b = (a + b) + 1 by omega] at h
    have h2 : forest w r (w k + (a + b)) = true := h
    show forest w (skip w r (w k + a)) b = true
    exact forest_skip r (w k + a) b (by rw [Nat.add_assoc]; exact h2)
theorem skip_suffix : ∀ (l : List α) (n : Nat), ∃ j, j ≤ l.length ∧ skip w l n = l.drop j
  | [], _ => ⟨0, Nat.le_refl _, rfl⟩
  | k :: r, 0 => ⟨0, Nat.zero_le _, rfl⟩
  | k :: r, n + 1 => by
    obtain ⟨j, hj, e⟩ := skip_suffix r (w k + n)
    exact ⟨j + 1, by rw [List.length_cons]; omega, e⟩
theorem skip_len (l : List α) (n : Nat) : (skip w l n).length ≤ l.length := by
  obtain ⟨j, hj, e⟩ := skip_suffix w l n
  rw [e, List.length_drop]; omega
theorem skip_lt (l : List α) (n : Nat) (h : l ≠ []) : (skip w l (n + 1)).length < l.length := by
  cases l with
  | nil => exact absurd rfl h
  | cons k r => exact Nat.lt_succ_of_le (skip_len w r _)
theorem forest_nil {n : Nat} (h : forest w [] n = true) : n = 0 := eq_of_beq h
theorem forest_zero {l : List α} (h : forest w l 0 = true) : l = [] := by
  cases l with
  | nil => rfl
  | cons _ _ => cases h
theorem forest_pos {l : List α} {n : Nat} (h : forest w l (n + 1) = true) : l ≠ [] := fun e => by
  rw [e] at h
  exact absurd (eq_of_beq h : n + 1 = 0) (by omega)
/-- the place behind n plants from place i on -/
def nxs (l : List α) (i n : Nat) : Nat := l.length - (skip w (l.drop i) n).length
theorem drop_nxs (l : List α) (i n : Nat) : l.drop (nxs w l i n) = skip w (l.drop i) n := by
  obtain ⟨j, hj, e⟩ := skip_suffix w (l.drop i) n
  unfold nxs
  rw [e, List.drop_drop, List.length_drop]
  rw [List.length_drop] at hj
  by_cases h : i ≤ l.length
  · rw [show l.length - (l.length - (i + j)) = i + j by omega]
  · rw [List.drop_eq_nil_of_le (by omega), List.drop_eq_nil_of_le (by omega)]
theorem nxs_le (l : List α) (i n : Nat) : nxs w l i n ≤ l.length := Nat.sub_le _ _
theorem nxs_zero {l : List α} {i : Nat} (h : i ≤ l.length) : nxs w l i 0 = i := by
  unfold nxs
  rw [skip_zero, List.length_drop]; omega
theorem nxs_add (l : List α) (i a b : Nat) : nxs w l i (a + b) = nxs w l (nxs w l i a) b := by
  unfold nxs
  rw [skip_add]
  have e := drop_nxs w l i a
  unfold nxs at e
  rw [e]
theorem nxs_ge (l : List α) {i : Nat} (n : Nat) (h : i ≤ l.length) : i ≤ nxs w l i n := by
  have q := skip_len w (l.drop i) n
  rw [List.length_drop] at q
  unfold nxs; omega
theorem nxs_gt {l : List α} {i : Nat} (n : Nat) (h : i < l.length) : i < nxs w l i (n + 1) := by
  have q := skip_lt w (l.drop i) n (by intro e; have := congrArg List.length e; rw [List.length_drop] at this; simp at this; omega)
  rw [List.length_drop] at q
  unfold nxs; omega
/-- m plants stand from place i to the end -/
def Fst (l : List α) (i m : Nat) : Prop := i ≤ l.length ∧ forest w (l.drop i) m = true
theorem Fst.lt {l : List α} {i m : Nat} (h : Fst w l i (m + 1)) : i < l.length := by
  refine Nat.lt_of_not_le fun q => ?_
  have e := h.2
  rw [List.drop_eq_nil_of_le q] at e
  exact forest_pos w e rfl
theorem Fst.skip {l : List α} {i a b : Nat} (h : Fst w l i (a + b)) : Fst w l (nxs w l i a) b :=
  ⟨nxs_le w l i a, by rw [drop_nxs]; exact forest_skip w _ a b h.2⟩
theorem Fst.in {l : List α} {i m : Nat} {k : α} (h : Fst w l i (m + 1)) (hk : l[i]? = some k) : Fst w l (i + 1) (w k + m) := by
  have hi := (List.getElem?_eq_some_iff.mp hk).1
  have e := h.2
  have d : l.drop i = k :: l.drop (i + 1) := by
    rw [List.drop_eq_getElem_cons hi]
    have := (List.getElem?_eq_some_iff.mp hk).2
    rw [this]
  rw [d] at e
  exact ⟨hi, e⟩
theorem nxs_in {l : List α} {i m : Nat} {k : α} (hk : l[i]? = some k) (n : Nat) : nxs w l i (n + 1) = nxs w l (i + 1) (w k + n) := by
  have hi := (List.getElem?_eq_some_iff.mp hk).1
  have d : l.drop i = k :: l.drop (i + 1) := by
    rw [List.drop_eq_getElem_cons hi]
    have := (List.getElem?_eq_some_iff.mp hk).2
    rw [this]
  unfold nxs
  rw [d]
  rfl
theorem nxs_lt_of {l : List α} {i a b : Nat} (h : Fst w l i (a + b)) (hb : 0 < b) : nxs w l i a < l.length := by
  obtain ⟨c, rfl⟩ : ∃ c, b = c + 1 := ⟨b - 1, by omega⟩
  exact Fst.lt w (h.skip w)
theorem Fst.all {l : List α} (h : forest w l 1 = true) : ∀ i, i ≤ l.length → ∃ m, Fst w l i m
  | 0, _ => ⟨1, Nat.zero_le _, by rw [List.drop_zero]; exact h⟩
  | i + 1, hi => by
    obtain ⟨m, F⟩ := Fst.all h i (by omega)
    cases m with
    | zero =>
      have z := forest_zero w F.2
      have := congrArg List.length z
      rw [List.length_drop] at this
      simp at this
      omega
    | succ m => exact ⟨_, F.in w (List.getElem?_eq_getElem (by omega))⟩
theorem Fst.pos {l : List α} {i m : Nat} (h : Fst w l i m) (hi : i < l.length) : ∃ n, m = n + 1 := by
  cases m with
  | succ n => exact ⟨n, rfl⟩
  | zero =>
    have z := forest_zero w h.2
    have := congrArg List.length z
    rw [List.length_drop] at this
    simp at this
    omega
/-- where a path leads, from a place -/
def walk (l : List α) : Nat → List Nat → Option Nat
  | p, [] => some p
  | p, c :: cs => match l[p]? with
    | some k => if c < w k then walk l (nxs w l (p + 1) c) cs else none
    | none => none
end Mth
namespace Mth
variable {α : Type} (w : α → Nat)
theorem end_step {l : List α} (h : forest w l 1 = true) {p t : Nat} {k : α} (hk : l[p]? = some k) (ht : t < w k) : nxs w l (p + 1) t < l.length ∧ p + 1 ≤ nxs w l (p + 1) t ∧ nxs w l (nxs w l (p + 1) t) 1 = nxs w l (p + 1) (t + 1) := by
  have hp := (List.getElem?_eq_some_iff.mp hk).1
  obtain ⟨m, F⟩ := Fst.all w h p (Nat.le_of_lt hp)
  obtain ⟨n, rfl⟩ := F.pos w hp
  have G := F.in w hk
  refine ⟨nxs_lt_of w (b := w k - t + n) (by rw [show t + (w k - t + n) = w k + n by omega]; exact G) (by omega), nxs_ge w l t hp, ?_⟩
  rw [nxs_add]
theorem end_last {l : List α} {p : Nat} {k : α} (hk : l[p]? = some k) : nxs w l (p + 1) (w k) = nxs w l p 1 := by
  have q := nxs_in w (m := 0) hk 0
  rw [Nat.add_zero] at q
  exact q.symm
/-- the ends of the branches at all places -/
def ends (l : List α) : List Int := (List.range l.length).map fun j => ((nxs w l j 1 : Nat) : Int)
theorem ends_len (l : List α) : (ends w l).length = l.length := by simp [ends]
theorem ends_get {l : List α} {j : Nat} (h : j < l.length) : (ends w l)[j]? = some ((nxs w l j 1 : Nat) : Int) := by
  unfold ends
  rw [List.getElem?_map, List.getElem?_range h]; rfl
theorem ends_of_get {l : List α} {es : List Int} (hl : es.length = l.length) (h : ∀ j, j < l.length → es[j]? = some ((nxs w l j 1 : Nat) : Int)) : es = ends w l := by
  refine List.ext_getElem? fun j => ?_
  by_cases hj : j < l.length
  · rw [h j hj, ends_get w hj]
  · rw [List.getElem?_eq_none (by omega), List.getElem?_eq_none (by rw [ends_len]; omega)]
end Mth
end
section
set_option Elab.async false
set_option linter.all false
set_option maxRecDepth 100000
set_option maxHeartbeats 4000000
set_option autoImplicit false
namespace L2
open PySem PySem.Spec PyProof.Rows
section
variable {X : Cx}
/-- isinstance(e, c), e the exception that the suite holds, whatever it has in its dict -/
structure ExcD (K : PySem.W.Frag) (D : Addr) : Prop where
  c : ExcC K D
  cl : (PySem.W.clsIn K D).isSome = true
def rIsD (K : PySem.W.Frag) (a : Addr) (cls : Value) (d : Option Addr) : List V → Hp → VK → Prop := fun xs H Q => ∃ (D dd : Addr) (fs : List (Str × V)) (c : V) (cv : Value) (b : Bool), xs = [.ref a, c] ∧ cls = .ref D ∧ d = some dd ∧ H dd = some (.xd fs) ∧ ExcD K D ∧ (∀ u, RelV c u → u = cv) ∧ PySem.W.kitOne K (.ref D) cv = some b ∧ Q (.bl b) H
theorem call_isD {a : Addr} {oe : Obj} {cls : Value} {d : Option Addr} {pn : List (Addr × Obj)} (hz : Zc cls d oe) (hf : ∃ vs, oe.data = .fields vs) : CallR (X.suite a ((a, oe) :: pn)) (.builtin "isinstance") (rIsD X.K a cls d) := by
  intro pins s σ H xs us Q I r h
  obtain ⟨D, dd, fs, c, cv, b, rfl, ec, ed, ea, C, hcv, e, q⟩ := h
  subst ec ed
  cases r with
  | cons rx rr =>
    cases rr with
    | cons rt rr =>
      cases rr
      cases rx
      have ec := hcv _ rt
      subst ec
      obtain ⟨hget, _⟩ := I.pin (a, oe) (List.mem_append.mpr (.inl List.mem_cons_self))
      obtain ⟨vs, hv⟩ := hf
      obtain ⟨mA, hns, hr⟩ : ObjOk X.prog X.w H s.heap dd (.xd fs) := I.hok dd _ ea
      obtain ⟨od, ho, hl⟩ := lookIn_ns hns
      have J : PySem.W.InstAt s.heap a oe D (some od) := ⟨hget, hz.1, by unfold PySem.W.notCls; rw [hv] <;> rfl, by rw [hz.2]; exact ho⟩
      exact PySem.W.kia_one (PySem.W.kitx_exc C.cl C.c.hg C.c.hk C.c.hs C.c.ha C.c.hn C.c.ht C.c.hm) I.kIn J e (fun z => nomatch z) fun tk => ⟨.bl b, H, I.kept (t' := tk) fun _ _ z => z, rfl, q⟩
end
end L2
end
section
set_option Elab.async false
set_option linter.all false
set_option maxRecDepth 100000
set_option maxHeartbeats 2000000
set_option autoImplicit false
namespace Hx
open PySem PySem.Spec PyProof.Rows L2 He PySem.W
def exB (K : Frag) (C : Addr) : Bool := xfB K C && (eqO (findIn K (.ref C) "__class__") (some (some (.builtin "object.__class__"))) && (eqO (specialIn K (.builtin "object.__class__") "__get__") (some (some (.builtin "getset_descriptor.__get__"))) && (decide (takesIn K (.builtin "object.__class__") = some true) && (decide (mroIn K C (.type "object") = some true) && (clsIn K C).isSome))))
theorem exB_ok {K : Frag} {C : Addr} (h : exB K C = true) : ExcD K C := by
  unfold exB at h
  obtain ⟨h1, h⟩ := ba h
  obtain ⟨h2, h⟩ := ba h
  obtain ⟨h3, h⟩ := ba h
  obtain ⟨h4, h⟩ := ba h
  obtain ⟨h5, h6⟩ := ba h
  have f := xfB_ok h1
  exact ⟨⟨f.ga, f.gg, f.exC, f.hdC, eqO_ok h2, eqO_ok h3, of_decide_eq_true h4, of_decide_eq_true h5⟩, h6⟩
def yB (K : Frag) (base : Str) (ns : List Str) (x : Str) : Bool := exB K (ga K x) && (decide (kitOne K (.ref (ga K x)) (.type "ValueError") = some true) && (decide (exmOne K (.ref (ga K x)) (.ref (ga K base)) = some true) && ns.all fun y => decide (kitOne K (.ref (ga K x)) (.ref (ga K y)) = some (decide (x = y)))))
structure YFacts (K : Frag) (base : Str) (ns : List Str) (x : Str) : Prop where
  ex : ExcD K (ga K x)
  kv : kitOne K (.ref (ga K x)) (.type "ValueError") = some true
  me : exmOne K (.ref (ga K x)) (.ref (ga K base)) = some true
  ki : ∀ y ∈ ns, kitOne K (.ref (ga K x)) (.ref (ga K y)) = some (decide (x = y))
theorem yB_ok {K : Frag} {base : Str} {ns : List Str} {x : Str} (h : yB K base ns x = true) : YFacts K base ns x := by
  unfold yB at h
  obtain ⟨h1, h⟩ := ba h
  obtain ⟨h2, h⟩ := ba h
  obtain ⟨h3, h4⟩ := ba h
  exact ⟨exB_ok h1, of_decide_eq_true h2, of_decide_eq_true h3, fun y hy => of_decide_eq_true (List.all_eq_true.mp h4 y hy)⟩
/-- what can be reached in n steps, twice told where it is reached twice -/
def bfs (g : Addr → Option Obj) : Nat → List Addr → List Addr
  | 0, l => l
  | n + 1, l => l ++ bfs g n (l.flatMap fun a => match g a with
    | some o => refsD o
    | none => [])
def frY (n : Nat) (g : Addr → Option Obj) : Frag := frG g (bfs g n [mainGlobals] ++ [cStatics])
abbrev AlY : Type := (AlD × (Bool × List XV)) × Bool
end Hx
end
section
set_option Elab.async false
set_option linter.all false
set_option maxRecDepth 100000
set_option maxHeartbeats 2000000
set_option autoImplicit false
namespace Hx
open PySem PySem.Spec PyProof.Rows L2 He PySem.W
def zB (K : Frag) (base : Str) (ns : List Str) (x : Str) : Bool := yB K base ns x && (decide (kitOne K (.ref (ga K x)) (.ref (ga K base)) = some true) && ns.all fun y => decide (exmOne K (.ref (ga K x)) (.ref (ga K y)) = some (decide (x = y))))
structure ZFacts (K : Frag) (base : Str) (ns : List Str) (x : Str) : Prop extends YFacts K base ns x where
  ky : kitOne K (.ref (ga K x)) (.ref (ga K base)) = some true
  em : ∀ y ∈ ns, exmOne K (.ref (ga K x)) (.ref (ga K y)) = some (decide (x = y))
theorem zB_ok {K : Frag} {base : Str} {ns : List Str} {x : Str} (h : zB K base ns x = true) : ZFacts K base ns x := by
  unfold zB at h
  obtain ⟨h1, h⟩ := ba h
  obtain ⟨h2, h3⟩ := ba h
  exact ⟨yB_ok h1, of_decide_eq_true h2, fun y hy => of_decide_eq_true (List.all_eq_true.mp h3 y hy)⟩
def obsZ (file : Str) (n : Nat) (fa : List Fa) (fn : List DefD) (xs : List XDef) (base : Str) (ns : List Str) (g : Addr → Option Obj) : AlY :=
  ((obsD fa fn (frY n g), (xs.all fun d => d.ok file (frY n g), xs.map fun d => xvOf (frY n g) d.x)), ns.all fun x => zB (frY n g) base ns x)
def hookZ (file : Str) (n : Nat) (fa : List Fa) (fn : List DefD) (xs : List XDef) (base : Str) (ns : List Str) : PySem.W.Hook where
  α := AlY
  obs := fun s => obsZ file n fa fn xs base ns s.heap.get?
  val := fun _ => ((valD fn, (true, xs.map XDef.val)), true)
  says := fun _ h => ∃ K : Frag, K.In h ∧ SaysD fa fn K ∧ (xs.all fun d => d.ok file K) = true ∧ (xs.map fun d => xvOf K d.x) = xs.map XDef.val ∧ (ns.all fun x => zB K base ns x) = true
  of := fun _ _ e => ⟨_, frG_in, congrArg (fun z : AlY => z.1.1) e, congrArg (fun z : AlY => z.1.2.1) e, congrArg (fun z : AlY => z.1.2.2) e, congrArg (fun z : AlY => z.2) e⟩
  keeps := fun _ _ _ ⟨K, hK, c⟩ k => ⟨K, PySem.W.Frag.In.keeps hK k, c⟩
theorem obsZ_eq {file : Str} {n : Nat} {fa : List Fa} {fn : List DefD} {xs : List XDef} {base : Str} {ns : List Str} {g : Addr → Option Obj} {s : Shared} (h : ∀ a, g a = s.heap.get? a) : obsZ file n fa fn xs base ns g = (hookZ file n fa fn xs base ns).obs s := by
  have e : g = s.heap.get? := funext h
  rw [e] <;> rfl
end Hx
end
section
set_option Elab.async false
set_option linter.all false
set_option maxRecDepth 100000
namespace Sh
open PySem PySem.Spec PyProof.Rows L2
abbrev s_all_letters : Stmt := top 14
abbrev s_is_name : Stmt := top 15
abbrev s_check_pairs : Stmt := top 18
abbrev s_init__ : Stmt := inClass (top 19) 0
abbrev s_check_size : Stmt := top 21
abbrev s_fault_place : Stmt := top 22
abbrev s_check_plant : Stmt := top 25
abbrev s_ends_of : Stmt := top 23
abbrev s_law_cell : Stmt := top 33
abbrev s_law_box : Stmt := top 34
abbrev s_law_pick : Stmt := top 35
abbrev s_law_number : Stmt := top 44
abbrev s_law_letters : Stmt := top 36
abbrev s_law_kinds : Stmt := top 37
abbrev s_law_arity : Stmt := top 38
abbrev s_law_made_bed : Stmt := top 39
abbrev s_law_bad_number : Stmt := top 48
abbrev s_law_integer : Stmt := top 47
abbrev s_law_swaps : Stmt := top 45
abbrev s_law_bad_swaps : Stmt := top 49
abbrev s_law_first_fault : Stmt := top 50
abbrev s_is_price : Stmt := top 29
abbrev s_check_swaps : Stmt := top 28
abbrev s_Prices_init__ : Stmt := inClass (top 30) 0
abbrev s_law_made_prices : Stmt := top 46
abbrev s_law_made : Stmt := top 51
abbrev s_same : Stmt := inClass (top 19) 6
abbrev s_law_taken : Stmt := top 52
abbrev s_law_plant : Stmt := top 40
abbrev s_law_chain : Stmt := top 41
abbrev s_law_behind : Stmt := top 53
abbrev s_law_changed : Stmt := top 54
abbrev s_law_spoilt : Stmt := top 43
abbrev s_law_fault : Stmt := top 42
abbrev s_law_below : Stmt := top 55
abbrev s_law_swapped : Stmt := top 56
abbrev s_law_price : Stmt := top 57
abbrev s_price : Stmt := top 31
abbrev s_law_due : Stmt := top 58
abbrev s_law_told : Stmt := top 59
abbrev s_law_right : Stmt := top 60
abbrev s_law : Stmt := top 61
end Sh
end
section
set_option Elab.async false
set_option linter.all false
set_option maxRecDepth 100000
set_option maxHeartbeats 0
namespace Sh
open PySem PySem.Spec PyProof.Rows L2
abbrev TL : PySem.W.OpenLaw := PySem.Challenge.rw_shearyard_k51_price_of_a_change
abbrev R : PySem.W.OpenRow := PySem.W.OpenLaw.row TL
def dOf (n : PySem.Str) (st : Stmt) : He.DefD := ⟨(n, none), n, n, defArgs st, defBody st, defScope st, [], []⟩
def dM (c m q : PySem.Str) (st : Stmt) : He.DefD := ⟨(c, some m), m, q, defArgs st, defBody st, defScope st, [], []⟩
def dK (c m q : PySem.Str) (st : Stmt) (ks : List (Str × He.Dv)) : He.DefD := ⟨(c, some m), m, q, defArgs st, defBody st, defScope st, [], ks⟩
def fn : List He.DefD := [dOf "all_letters" s_all_letters, dOf "is_name" s_is_name, dOf "check_pairs" s_check_pairs, dOf "check_size" s_check_size, dOf "fault_place" s_fault_place, dOf "ends_of" s_ends_of, dOf "check_plant" s_check_plant, dOf "check_swaps" s_check_swaps, dOf "is_price" s_is_price, dOf "price" s_price, dOf "_law_cell" s_law_cell, dOf "_law_box" s_law_box, dOf "_law_pick" s_law_pick, dOf "_law_letters" s_law_letters, dOf "_law_kinds" s_law_kinds, dOf "_law_arity" s_law_arity, dOf "_law_made_bed" s_law_made_bed, dOf "_law_plant" s_law_plant, dOf "_law_chain" s_law_chain, dOf "_law_fault" s_law_fault, dOf "_law_spoilt" s_law_spoilt, dOf "_law_number" s_law_number, dOf "_law_swaps" s_law_swaps, dOf "_law_made_prices" s_law_made_prices, dOf "_law_integer" s_law_integer, dOf "_law_bad_number" s_law_bad_number, dOf "_law_bad_swaps" s_law_bad_swaps, dOf "_law_first_fault" s_law_first_fault, dOf "_law_made" s_law_made, dOf "_law_taken" s_law_taken, dOf "_law_behind" s_law_behind, dOf "_law_changed" s_law_changed, dOf "_law_below" s_law_below, dOf "_law_swapped" s_law_swapped, dOf "_law_price" s_law_price, dOf "_law_due" s_law_due, dOf "_law_told" s_law_told, dOf "_law_right" s_law_right, dOf "law" s_law] ++ [dM "Bed" "__init__" "Bed.__init__" s_init__, dM "Bed" "same" "Bed.same" s_same, dM "Prices" "__init__" "Prices.__init__" s_Prices_init__]
def fa : List He.Fa := [.glo "all_letters", .glo "is_name", .glo "check_pairs", .glo "check_size", .glo "fault_place", .glo "ends_of", .glo "check_plant", .glo "check_swaps", .glo "is_price", .glo "price", .glo "_law_cell", .glo "_law_box", .glo "_law_pick", .glo "_law_letters", .glo "_law_kinds", .glo "_law_arity", .glo "_law_made_bed", .glo "_law_plant", .glo "_law_chain", .glo "_law_fault", .glo "_law_spoilt", .glo "_law_number", .glo "_law_swaps", .glo "_law_made_prices", .glo "_law_integer", .glo "_law_bad_number", .glo "_law_bad_swaps", .glo "_law_first_fault", .glo "_law_made", .glo "_law_taken", .glo "_law_behind", .glo "_law_changed", .glo "_law_below", .glo "_law_swapped", .glo "_law_price", .glo "_law_due", .glo "_law_told", .glo "_law_right", .glo "law", .glo "Bed", .cls "Bed", .mkr "Bed", .noat "Bed" "rows", .noat "Bed" "kinds", .noat "Bed" "widths", .noat "Bed" "ranks", .meth "Bed" "same", .glo "Prices", .cls "Prices", .mkr "Prices", .noat "Prices" "bed", .noat "Prices" "cutting", .noat "Prices" "swaps", .noat "Prices" "turns", .free "len", .free "range", .free "abs", .free "int", .free "max", .free "all", .free "isinstance", .free "set", .free "list", .free "tuple", .free "bool", .free "str", .free "enumerate", .free "zip", .free "ValueError", .free "super", .free "reversed", .free "min", .glo "YardError", .int "MOST_PRICE" 1000, .int "MOST_KINDS" 8, .int "MOST_BRANCHES" 3, .int "MOST_KNOTS" 2000, .int "LONGEST_NAME" 8, .str "LETTERS" "abcdefghijklmnopqrstuvwxyz"]
def s_TooMany : Stmt := inClass (top 7) 0
def s_InvalidPlant : Stmt := inClass (top 3) 0
def s_UnknownKind : Stmt := inClass (top 6) 0
def s_InvalidPrices : Stmt := inClass (top 4) 0
def xTooMany : Hx.XDef := ⟨"TooMany", ["what", "limit"], "TooMany.__init__", defArgs s_TooMany, defBody s_TooMany, defScope s_TooMany⟩
def xInvalidPlant : Hx.XDef := ⟨"InvalidPlant", ["place"], "InvalidPlant.__init__", defArgs s_InvalidPlant, defBody s_InvalidPlant, defScope s_InvalidPlant⟩
def xUnknownKind : Hx.XDef := ⟨"UnknownKind", ["kind"], "UnknownKind.__init__", defArgs s_UnknownKind, defBody s_UnknownKind, defScope s_UnknownKind⟩
def xInvalidPrices : Hx.XDef := ⟨"InvalidPrices", ["place"], "InvalidPrices.__init__", defArgs s_InvalidPrices, defBody s_InvalidPrices, defScope s_InvalidPrices⟩
def xs : List Hx.XDef := [xTooMany, xInvalidPlant, xUnknownKind, xInvalidPrices]
def nsX : List PySem.Str := ["TooMany", "InvalidPlant", "UnknownKind", "InvalidPrices"]
abbrev hk : PySem.W.Hook := Hx.hookZ TL.prog.main.file 4 fa fn xs "YardError" nsX
def ob (s : PySem.W.SharedT) : Hx.AlY := Hx.obsZ TL.prog.main.file 4 fa fn xs "YardError" nsX (HandSHeadRun.getT s)
def names : List PySem.Str := (["YardError", "InvalidBed", "InvalidPlant", "InvalidPrices", "InvalidText", "UnknownKind", "TooMany", "MOST_KINDS", "MOST_BRANCHES", "MOST_KNOTS", "LETTERS", "LONGEST_NAME", "all_letters", "is_name", "DIGITS", "check_pairs", "Bed", "check_size", "fault_place", "ends_of", "check_plant", "MOST_PRICE", "check_swaps", "is_price", "Prices"] : List PySem.Str) ++ (["price", "_law_cell", "_law_box", "_law_pick", "_law_letters", "_law_kinds", "_law_arity", "_law_made_bed", "_law_plant", "_law_chain", "_law_fault", "_law_spoilt", "_law_number", "_law_swaps", "_law_made_prices", "_law_integer", "_law_bad_number", "_law_bad_swaps", "_law_first_fault", "_law_made", "_law_taken", "_law_behind", "_law_changed", "_law_below", "_law_swapped"] : List PySem.Str) ++ (["_law_price", "_law_due", "_law_told", "_law_right"] : List PySem.Str)
end Sh
end
section
set_option Elab.async false
set_option linter.all false
set_option maxRecDepth 100000
set_option maxHeartbeats 0
namespace Sh
open PySem PySem.W PySem.Spec PyProof.Rows L2 HandSHeadRun
theorem pa (w : World) (os : OsState) : (HandSHeadRun.endF (stepQ (denQ tabQ) R.prog w) 9000 R.prog w os).map (fun s => (looksF R.prog (boot_heap w.params) s.abs, seenQ (PySem.W.view R.prog [61]) names (importedModules R.prog.main.body) (fun s => xlAt (PySem.W.view R.prog [61]) [] s && recOk R.toRowW.records s) s.abs, He.obsD fa fn (Hx.frY 4 (HandSHeadRun.getT s)))) = some (true, openGood (PySem.W.view R.prog [61]) names, He.valD fn) := by
  kernel_rfl
theorem pb (w : World) (os : OsState) : (HandSHeadRun.endF (stepQ (denQ tabQ) R.prog w) 9000 R.prog w os).map (fun s => ((xs.all fun d => d.ok TL.prog.main.file (Hx.frY 4 (HandSHeadRun.getT s))), (xs.map fun d => Hx.xvOf (Hx.frY 4 (HandSHeadRun.getT s)) d.x))) = some (true, xs.map Hx.XDef.val) := by
  kernel_rfl
theorem pc (w : World) (os : OsState) : (HandSHeadRun.endF (stepQ (denQ tabQ) R.prog w) 9000 R.prog w os).map (fun s => (nsX.all fun x => Hx.zB (Hx.frY 4 (HandSHeadRun.getT s)) "YardError" nsX x)) = some true := by
  kernel_rfl
theorem glue {α A B C D E : Type} {e : Option α} {f : α → A} {g : α → B} {d : α → C} {x : α → D} {y : α → E} {a : A} {b : B} {c : C} {x0 : D} {y0 : E} (h1 : e.map (fun s => (f s, g s, d s)) = some (a, b, c)) (h2 : e.map x = some x0) (h3 : e.map y = some y0) : e.map (fun s => (f s, g s, ((d s, x s), y s))) = some (a, b, ((c, x0), y0)) := by
  cases e with
  | none => cases h1
  | some s =>
    have e1 := Option.some.inj h1
    have e2 : x s = x0 := Option.some.inj h2
    have e3 : y s = y0 := Option.some.inj h3
    have e4 : f s = a := congrArg (fun z => z.1) e1
    have e5 : g s = b := congrArg (fun z => z.2.1) e1
    have e6 : d s = c := congrArg (fun z => z.2.2) e1
    show some (f s, g s, ((d s, x s), y s)) = _
    rw [e2, e3, e4, e5, e6]
theorem run (w : World) : HandSHeadRun.RunEq R (PySem.W.view R.prog [61]) hk ob 9000 names w := fun os => glue (pa w os) (pb w os) (pc w os)
end Sh
end
section
set_option Elab.async false
set_option linter.all false
set_option maxRecDepth 100000
set_option maxHeartbeats 2000000
set_option autoImplicit false
namespace Sh
open PySem PySem.Spec PyProof.Rows L2
open C8 (pss_cut tCut)
open Evl (ixN_nat)
open TL (tl joinL tl_join join_eq)
end Sh
namespace L2
open PySem PySem.Spec PyProof.Rows
theorem Same.upd_new {H H1 : Hp} {p : Addr} {o : HO} (s : Same H H1) (hp : H1 p = none) : Same H (upd H1 p o) := fun b u h => by
  rw [upd_ne (ne_of_none (s b u h) hp)]
  exact s b u h
theorem Same.upd_own {H H1 : Hp} {p : Addr} {o : HO} (s : Same H H1) (hp : H p = none) : Same H (upd H1 p o) := fun b u h => by
  rw [upd_ne (ne_of_none h hp)]
  exact s b u h
end L2
namespace Sh
open PySem PySem.Spec PyProof.Rows L2
open C8 (pss_cut tCut)
open Evl (ixN_nat)
open TL (tl joinL tl_join join_eq)
theorem get_map {α β : Type} {f : α → β} {l : List α} {i : Nat} {y : β} (h : (l.map f)[i]? = some y) : ∃ x, l[i]? = some x ∧ y = f x := by
  rw [List.getElem?_map] at h
  cases e : l[i]? with
  | none => rw [e] at h; cases h
  | some x => rw [e] at h; exact ⟨x, rfl, (Option.some.inj h).symm⟩
theorem take_snoc {α : Type} {l : List α} {i : Nat} {x : α} (h : l[i]? = some x) : l.take i ++ [x] = l.take (i + 1) := by
  rw [List.take_add_one, h]
  rfl
theorem lt_of_get {α : Type} {l : List α} {i : Nat} {x : α} (h : l[i]? = some x) : i < l.length := (List.getElem?_eq_some_iff.mp h).1
theorem le_line {n : Nat} (h : n ≤ 10000000) : n ≤ sizeLine := Nat.le_trans h (by rw [sizeLine_eq]; decide)
theorem lt_line {n : Nat} (h : n ≤ 10000000) : n < sizeLine := Nat.lt_of_le_of_lt h (by rw [sizeLine_eq]; decide)
theorem at_ofG {α : Type} {xs : List α} {z : Int} {j : Nat} {v : α} (e : z = (j : Int)) (h : xs[j]? = some v) : atI xs z = some v := by
  rw [e]
  exact atI_nat h
def IsNm (z : Str) : Prop := 1 ≤ z.cps.size ∧ z.cps.size ≤ 8 ∧ ∀ c ∈ z.cps.toList, 97 ≤ c ∧ c ≤ 122
def sg (c : Nat) : Str := ⟨#[c]⟩
theorem letters_at (d : Nat) (h : d < 26) : (("abcdefghijklmnopqrstuvwxyz" : Str).cps.toList)[d]? = some (97 + d) := by
  have z : ∀ d, d < 26 → (("abcdefghijklmnopqrstuvwxyz" : Str).cps.toList)[d]? = some (97 + d) := by decide +kernel
  exact z d h
theorem letters_len : ("abcdefghijklmnopqrstuvwxyz" : Str).length = 26 := by decide +kernel
theorem Kp.upd_new {a p : Addr} {H H1 : Hp} {o : HO} (x : Kp a H H1) (hp : H1 p = none) : Kp a H (L2.upd H1 p o) := fun b u h n => by
  have q := x b u h n
  rw [upd_ne (ne_of_none q hp)]
  exact q
theorem Kp.upd_own {a p : Addr} {H H1 : Hp} {o : HO} (x : Kp a H H1) (hp : H p = none) : Kp a H (L2.upd H1 p o) := fun b u h n => by
  rw [upd_ne (ne_of_none h hp)]
  exact x b u h n
theorem BagAt.upd_ne {a p : Addr} {H : Hp} {o : HO} (h : BagAt H a) (n : p ≠ a) : BagAt (upd H p o) a := by
  obtain ⟨z0, z1, z2, z3, cs, q, B⟩ := h
  exact ⟨z0, z1, z2, z3, cs, by rw [L2.upd_ne (Ne.symm n)]; exact q, B⟩
section
variable {P : Program} {w : World} {K : PySem.W.Frag} {mg : Str → Option Value} {base : Heap}
end
end Sh
end
section
set_option Elab.async false
set_option linter.all false
set_option maxRecDepth 100000
set_option maxHeartbeats 2000000
set_option autoImplicit false
namespace Sh
open PySem PySem.Spec PyProof.Rows L2
open C8 (pss_cut tCut)
open Evl (ixN_nat)
open TL (tl joinL tl_join join_eq tl_append)
theorem inV_str (w : Str) (ns : List Str) : inV (.str w) (ns.map V.str) = decide (w ∈ ns) := by
  induction ns with
  | nil => rfl
  | cons n r ih =>
    have e : inV (.str w) ((n :: r).map V.str) = ((n == w) || inV (.str w) (r.map V.str)) := rfl
    rw [e, ih, Bool.eq_iff_iff, Bool.or_eq_true, beq_iff_eq, decide_eq_true_iff, decide_eq_true_iff, List.mem_cons]
    exact or_congr_left eq_comm
theorem flat_strs (ns : List Str) : (ns.map V.str).all flatV = true := by
  rw [List.all_eq_true]
  intro x hx
  obtain ⟨y, _, rfl⟩ := List.mem_map.mp hx
  rfl
theorem flat_ints (ns : List Int) : (ns.map V.int).all flatV = true := by
  rw [List.all_eq_true]
  intro x hx
  obtain ⟨y, _, rfl⟩ := List.mem_map.mp hx
  rfl
theorem str_len (z : Str) : z.length = z.cps.size := rfl
theorem nm_line {z : Str} (h : IsNm z) : z.length ≤ sizeLine := le_line (Nat.le_trans h.2.1 (by decide))
section
variable {P : Program} {w : World} {K : PySem.W.Frag} {mg : Str → Option Value} {base : Heap}
end
end Sh
end
section
set_option Elab.async false
set_option linter.all false
set_option maxRecDepth 100000
set_option maxHeartbeats 2000000
set_option autoImplicit false
namespace Sh
open PySem PySem.Spec PyProof.Rows L2
open C8 (pss_cut tCut)
open Evl (ixN_nat)
abbrev Row := Str × Int
/-- tuples stay -/
def TK (H H' : Hp) : Prop := ∀ t xs, H t = some (.tup xs) → H' t = some (.tup xs)
theorem TK.refl (H : Hp) : TK H H := fun _ _ h => h
theorem TK.trans {H H1 H2 : Hp} (x : TK H H1) (y : TK H1 H2) : TK H H2 := fun t xs h => y t xs (x t xs h)
theorem TK.new {H : Hp} {p : Addr} {o : HO} (h : H p = none) : TK H (upd H p o) := fun t xs q => by
  rw [upd_ne (ne_of_none q h)]
  exact q
theorem TK.lst {H : Hp} {p : Addr} {ys : List V} {o : HO} (h : H p = some (.lst ys)) : TK H (upd H p o) := fun t xs q => by
  rw [upd_ne (ne_of q h (fun e => nomatch e))]
  exact q
theorem TK.of_same {H H' : Hp} (s : Same H H') : TK H H' := fun t xs q => s t _ q
theorem Kp.tk {a : Addr} {H H' : Hp} (x : Kp a H H') (b : BagAt H a) : TK H H' := fun t xs q => by
  obtain ⟨z0, z1, z2, z3, cs, hb, _⟩ := b
  exact x t _ q (ne_of q hb (fun e => nomatch e))
def TupsAt (H : Hp) (ts : List Addr) (rows : List Row) : Prop := ts.length = rows.length ∧ ∀ (i : Nat) (t : Addr) (q : Row), ts[i]? = some t → rows[i]? = some q → H t = some (.tup [.str q.1, .int q.2])
theorem TupsAt.keep {H H' : Hp} {ts : List Addr} {rows : List Row} (x : TupsAt H ts rows) (k : TK H H') : TupsAt H' ts rows := ⟨x.1, fun i t q a b => k _ _ (x.2 i t q a b)⟩
theorem TupsAt.snoc {H : Hp} {ts : List Addr} {rows : List Row} {t : Addr} {q : Row} (x : TupsAt H ts rows) (h : H t = some (.tup [.str q.1, .int q.2])) : TupsAt H (ts ++ [t]) (rows ++ [q]) := by
  refine ⟨by simp [x.1], fun i t' q' a b => ?_⟩
  by_cases hi : i < ts.length
  · rw [List.getElem?_append_left hi] at a
    rw [List.getElem?_append_left (by rw [← x.1]; exact hi)] at b
    exact x.2 i t' q' a b
  · have hl := lt_of_get a
    rw [List.length_append, List.length_singleton] at hl
    have e : i = ts.length := by omega
    subst e
    rw [List.getElem?_append_right (Nat.le_refl _), Nat.sub_self] at a
    rw [x.1, List.getElem?_append_right (Nat.le_refl _), Nat.sub_self] at b
    cases a
    cases b
    exact h
def RowsAt (H : Hp) (r : Addr) (rows : List Row) : Prop := ∃ ts, H r = some (.lst (ts.map V.ref)) ∧ TupsAt H ts rows
structure ROk (most : Int) (rows : List Row) : Prop where
  pos : 1 ≤ rows.length
  len : (rows.length : Int) ≤ most
  nd : (rows.map (·.1)).Nodup
  nm : ∀ q ∈ rows, IsNm q.1
  wd : ∀ q ∈ rows, 0 ≤ q.2 ∧ q.2 ≤ 3
  leaf : ∃ q ∈ rows, q.2 = 0
theorem mem_map_ints {ws : List Int} {n : Int} : inV (.int n) (ws.map V.int) = decide (n ∈ ws) := by
  induction ws with
  | nil => rfl
  | cons z r ih =>
    have e : inV (.int n) ((z :: r).map V.int) = ((z == n) || inV (.int n) (r.map V.int)) := rfl
    rw [e, ih, Bool.eq_iff_iff, Bool.or_eq_true, beq_iff_eq, decide_eq_true_iff, decide_eq_true_iff, List.mem_cons]
    exact or_congr_left eq_comm
section
variable {P : Program} {w : World} {K : PySem.W.Frag} {mg : Str → Option Value} {base : Heap}
end
end Sh
end
section
set_option Elab.async false
set_option linter.all false
set_option maxRecDepth 100000
set_option maxHeartbeats 2000000
set_option autoImplicit false
namespace Sh
open PySem PySem.Spec PyProof.Rows L2
open C8 (pss_cut tCut)
open Evl (ixN_nat)
theorem iteNN {c A B : Prop} [Decidable c] (hc : ¬ c) (h : A) : if (!decide c) = true then A else B := by
  rw [decide_eq_false hc]
  exact iteT h
def spTrueNm : Sp := fun vs H Q _ => ∃ z, vs = [.str z] ∧ IsNm z ∧ ∀ H', Same H H' → Q (.bl true) H'
theorem in_letters (c : Nat) (h : 97 ≤ c ∧ c ≤ 122) : c ∈ ("abcdefghijklmnopqrstuvwxyz" : Str).cps.toList := by
  have z := letters_at (c - 97) (by omega)
  rw [show 97 + (c - 97) = c by omega] at z
  exact List.mem_of_getElem? z
abbrev N_all_letters : List Str := ["text", "letter"]
theorem sc_all_letters : FnScope N_all_letters ["text"] (defScope s_all_letters) := ⟨rfl, rfl, rfl, by decide +kernel, rfl, by decide +kernel, by decide +kernel⟩
abbrev N_is_name : List Str := ["text"]
theorem sc_is_name : FnScope N_is_name ["text"] (defScope s_is_name) := ⟨rfl, rfl, rfl, by decide +kernel, rfl, by decide +kernel, by decide +kernel⟩
abbrev N_check_pairs : List Str := ["pairs", "seen", "place", "name", "many", "_"]
theorem sc_check_pairs : FnScope N_check_pairs ["pairs"] (defScope s_check_pairs) := ⟨rfl, rfl, rfl, by decide +kernel, rfl, by decide +kernel, by decide +kernel⟩
theorem walk_enumT {K : PySem.W.Frag} {a : Addr} {xs : List V} : Walk (IteT K a) xs.length (fun H => SqT K H a xs) (YPair (fun i => some (.int (i : Nat))) (fun i => xs[i]?)) := by
  refine ⟨fun i _ hi q => ⟨xs, xs[i], q, by simp [hi]⟩, fun _ q => ⟨xs, q, Nat.le_refl _⟩, fun i H v H' _ q y => ?_⟩
  obtain ⟨T, x, h1, h2, h3, h4⟩ := y
  exact ⟨T, .int (i : Nat), x, h1, h2, h3, rfl, h4 xs q⟩
theorem TupsAt.at {H : Hp} {ts : List Addr} {rows : List Row} (x : TupsAt H ts rows) {i : Nat} (h : i < rows.length) : ∃ t, ts[i]? = some t ∧ (ts.map V.ref)[i]? = some (.ref t) ∧ H t = some (.tup [.str (rows[i]).1, .int (rows[i]).2]) := by
  have h2 : i < ts.length := by rw [x.1]; exact h
  exact ⟨ts[i], List.getElem?_eq_getElem h2, by rw [List.getElem?_map, List.getElem?_eq_getElem h2]; rfl, x.2 i _ _ (List.getElem?_eq_getElem h2) (List.getElem?_eq_getElem h)⟩
theorem nd_take {α : Type} {l : List α} (nd : l.Nodup) {i : Nat} (h : i < l.length) : l[i] ∉ l.take i := fun q => by
  obtain ⟨j, hj, e⟩ := List.mem_iff_getElem.mp q
  rw [List.getElem_take] at e
  rw [List.length_take] at hj
  have := (List.getElem_inj nd).mp e
  omega
def spPairs : Sp := fun vs H Q _ => ∃ (p : Addr) (ts : List Addr) (rows : List Row), vs = [.ref p] ∧ H p = some (.tup (ts.map V.ref)) ∧ TupsAt H ts rows ∧ ROk 8 rows ∧ ∀ H', Same H H' → Q .non H'
section
variable {P : Program} {w : World} {K : PySem.W.Frag} {mg : Str → Option Value} {base : Heap}
theorem ok_all_letters (T : Bl mg) (D : Def0 K mg "all_letters" s_all_letters) : DefOk P w K mg base CX0 1 "all_letters" spTrueNm := by
  refine D.ok sc_all_letters (fun vs H Q E h => ?_) (fun _ _ _ _ _ _ us hl => match us, hl with | [_], _ => rfl) (fun f cdv A outer s H vs Q E hr h => ?_)
  · obtain ⟨z, rfl, _⟩ := h
    rfl
  · obtain ⟨z, rfl, nz, k⟩ := h
    refine ⟨_, (pss_one (ps_ret (pe_and (pe_cmpR op_ne (pv 0) pe_str (nomark _)) (pe_one (pe_callB (cr_all rfl) (by rfl) T.b_all (by decide +kernel) (pa_cons (pe_lc (own := [("letter", 1)]) (g := (gName 1)) (tt := tYes) rfl sc_all_letters.nd (pi_str (pv 0)) (blkOk_by (N := N_all_letters) (sc := defScope s_all_letters) (by decide +kernel)) (fun _ _ _ _ _ => (pg_name (i := 1) sc_all_letters.nd rfl (Or.inl rfl))) (fun _ _ _ _ _ => pts_nil) (fun _ _ _ _ _ => (pe_cmpR op_in_sign (pv 1) (pe_cS (by rfl) T.c_LETTERS) (by rfl)))) pa_nil)))))), ?_⟩
    have hne : ¬ V.str z = V.str "" := fun e => by
      have e2 := V.str.inj e
      have := nz.1
      rw [e2] at this
      exact absurd this (by decide)
    refine ⟨_, rfl, rfl, _, rfl, iteNN hne ?_⟩
    refine ⟨_, rfl, _, rfl, fun D hD => lc_it walk_str (fun i H' => Same H H' ∧ H' D = some (.lst ((List.replicate i true).map V.bl))) ⟨(Same.refl H).upd_new hD, upd_same⟩ (fun _ _ _ _ => trivial) ?_ ?_⟩
    · rintro i x H1 H2 hi ⟨q1, q2⟩ ⟨rfl, c, hc, rfl⟩
      have hcm : c ∈ z.cps.toList := List.mem_of_getElem? (by rw [Array.getElem?_toList]; exact hc)
      refine ⟨rfl, _, rfl, c, _, rfl, rfl, ?_⟩
      rw [decide_eq_true (in_letters c (nz.2.2 c hcm))]
      refine ⟨_, q2, ?_, q1.upd_own hD, ?_⟩
      · rw [List.length_map, List.length_replicate]
        have := nz.2.1
        exact lt_line (by omega)
      · rw [upd_same, List.replicate_succ', List.map_append]
        rfl
    · rintro H1 ⟨q1, q2⟩
      refine ⟨D, _, rfl, SqL.of q2, ?_⟩
      rw [show (List.replicate z.cps.size true).all id = true from by rw [List.all_eq_true]; intro x hx; exact (List.mem_replicate.mp hx).2]
      exact k H1 q1
theorem ok_is_name (T : Bl mg) (c_all_letters : DefOk P w K mg base CX0 1 "all_letters" spTrueNm) (D : Def0 K mg "is_name" s_is_name) : DefOk P w K mg base CX0 2 "is_name" spTrueNm := by
  refine D.ok sc_is_name (fun vs H Q E h => ?_) (fun _ _ _ _ _ _ us hl => match us, hl with | [_], _ => rfl) (fun f cdv A outer s H vs Q E hr h => ?_)
  · obtain ⟨z, rfl, _⟩ := h
    rfl
  · obtain ⟨z, rfl, nz, k⟩ := h
    refine ⟨_, (pss_one (ps_ret (pe_and (pe_cmpR op_le (pe_callB call_len_str (by rfl) T.b_len boot_len (pa_cons (pv 0) pa_nil)) (pe_cI (by rfl) T.c_LONGEST_NAME) (nomark _)) (pe_one (pe_d c_all_letters (hr.mono (by decide)) pass0 (pa_cons (pv 0) pa_nil)))))), ?_⟩
    refine ⟨_, rfl, _, rfl, nm_line nz, _, _, rfl, rfl, _, rfl, ?_⟩
    rw [decide_eq_true (show ((z.length : Nat) : Int) ≤ 8 by have := nz.2.1; rw [str_len]; omega)]
    refine iteT ?_
    exact ⟨_, rfl, z, rfl, nz, k⟩
theorem ok_check_pairs (T : Bl mg) (c_is_name : DefOk P w K mg base CX0 2 "is_name" spTrueNm) (D : Def0 K mg "check_pairs" s_check_pairs) : DefOk P w K mg base CX0 3 "check_pairs" spPairs := by
  refine D.ok sc_check_pairs (fun vs H Q E h => ?_) (fun _ _ _ _ _ _ us hl => match us, hl with | [_], _ => rfl) (fun f cdv A outer s H vs Q E hr h => ?_)
  · obtain ⟨p, ts, rows, rfl, _⟩ := h
    rfl
  · obtain ⟨p, ts, rows, rfl, hp, hT, R, k⟩ := h
    refine ⟨_, (pss_cons (ps_if (pt_cmpR op_gt (pe_callB call_len_seq (by rfl) T.b_len boot_len (pa_cons (pv 0) pa_nil)) (pe_cI (by rfl) T.c_MOST_KINDS) (nomark _))
        (pss_one ps_never)
        pss_nil)
      (pss_cons (ps_set (i := 1) sc_check_pairs.nd rfl (Or.inl rfl) (pe_callTy0 cr_set0K (by rfl) T.b_set (by decide +kernel)))
      (pss_cons (ps_for PassesOwn.never rfl (pi_enumT (by rfl) T.b_enumerate (pa_cons (pv 0) pa_nil)) (pg_tup (by rfl) (pgs_cons (pg_name (i := 2) sc_check_pairs.nd rfl (Or.inl rfl)) (pgs_cons (pg_tup (by rfl) (pgs_cons (pg_name (i := 3) sc_check_pairs.nd rfl (Or.inl rfl)) (pgs_cons (pg_name (i := 4) sc_check_pairs.nd rfl (Or.inl rfl)) pgs_nil))) pgs_nil)))
        (pss_cons (ps_if (PW.pt (pw_or (pt_not (pt_val (pe_d c_is_name (hr.mono (by decide)) pass0 (pa_cons (pv 3) pa_nil)))) (pw_or (pt_cmpR op_lt (pv 4) pe_int (nomark _)) (pw_or (pt_cmpR op_gt (pv 4) (pe_cI (by rfl) T.c_MOST_BRANCHES) (nomark _)) (pw_or1 (pt_cmpR or_sinK (pv 3) (pv 1) (by rfl)))))))
          (pss_one ps_never)
          pss_nil)
        (pss_one (ps_expr (pe_saddK (pv 1) (pa_cons (pv 3) pa_nil))))))
      (pss_one (ps_if (pt_cmpR op_notIn_seq pe_int (pe_lc (own := [("_", 5), ("many", 4)]) (g := (gTup K 2 (gCons (gName 5) (gCons (gName 4) gNil)))) (tt := tYes) rfl sc_check_pairs.nd (pi_tup (pv 0)) (blkOk_by (N := N_check_pairs) (sc := defScope s_check_pairs) (by decide +kernel)) (fun _ _ _ _ _ => (pg_tup (by rfl) (pgs_cons (pg_name (i := 5) sc_check_pairs.nd rfl (Or.inl rfl)) (pgs_cons (pg_name (i := 4) sc_check_pairs.nd rfl (Or.inl rfl)) pgs_nil)))) (fun _ _ _ _ _ => pts_nil) (fun _ _ _ _ _ => (pv 4))) (by rfl))
        (pss_one ps_never)
        pss_nil))))), ?_⟩
    have hlen : ts.length = rows.length := hT.1
    have R8 : rows.length ≤ 8 := by have := R.len; omega
    refine ⟨_, rfl, p, _, rfl, .inr (SqT.of hp), _, _, rfl, rfl, _, rfl, ?_⟩
    rw [decide_eq_false (show ¬ (8 : Int) < (((ts.map V.ref).length : Nat) : Int) by rw [List.length_map]; omega)]
    refine iteF ?_
    refine ⟨rfl, fun d hd => ?_⟩
    have s0 : Same H (upd H d (SetK P w d (fun _ => false) 0)) := (Same.refl H).upd_new hd
    have npd : ∀ {H' : Hp}, Same H H' → H' p = some (.tup (ts.map V.ref)) := fun q => q _ _ hp
    refine ⟨_, rfl, p, _, rfl, SqT.of (npd s0), for_it (walk_enumT (xs := ts.map V.ref)) (fun i σ H' => ∃ (x y z : Option V), σ = [some (.ref p), some (.ref d), x, y, z, none] ∧ Same H H' ∧ ∃ (S : Key → Bool) (n : Nat), H' d = some (SetK P w d S n) ∧ n ≤ i ∧ ∀ u : Str, S (.inr u) = true → u ∈ (rows.map (·.1)).take i)
      ⟨none, none, none, rfl, s0, _, 0, upd_same, Nat.le_refl _, fun u h => nomatch h⟩ (fun i σ H' _ ⟨_, _, _, _, q, _⟩ => SqT.of (npd q)) ?_ ?_⟩
    · rintro i v σ H1 H2 hi ⟨x, y, z, rfl, s1, S, n, hS, hn, hu⟩ ⟨P1, v1, v2, rfl, hP1, rfl, e1, e2⟩
      have hir : i < rows.length := by rw [List.length_map, hlen] at hi; exact hi
      obtain ⟨t, t1, t2, t3⟩ := hT.at hir
      have t2' : (ts.map V.ref)[i]? = some v2 := e2
      rw [t2] at t2'
      cases t2'
      cases e1
      have s2 := s1.upd_new (o := .tup [.int ((i : Nat) : Int), .ref t]) hP1
      have nm := R.nm _ (List.getElem_mem hir)
      have wd := R.wd _ (List.getElem_mem hir)
      refine ⟨P1, _, rfl, SqT.of upd_same, rfl, _, _, rfl, _, _, rfl, ?_⟩
      refine ⟨t, _, rfl, SqT.of (s2 _ _ t3), rfl, _, _, rfl, _, _, rfl, rfl, rfl, ?_⟩
      refine ⟨_, rfl, (rows[i]).1, rfl, nm, fun H3 s3 => ⟨true, rfl, ?_⟩⟩
      show if false = true then _ else _
      refine iteF ⟨_, rfl, _, _, rfl, rfl, _, rfl, ?_⟩
      rw [decide_eq_false (show ¬ (rows[i]).2 < 0 by omega)]
      refine iteF ⟨_, rfl, _, _, rfl, rfl, _, rfl, ?_⟩
      rw [decide_eq_false (show ¬ (3 : Int) < (rows[i]).2 by omega)]
      have hS3 : H3 d = some (SetK P w d S n) := s3 _ _ (by rw [upd_ne (ne_of_none hS hP1)]; exact hS)
      have hSf : S (.inr (rows[i]).1) = false := by
        cases q : S (.inr (rows[i]).1) with
        | false => rfl
        | true =>
          have z1 := hu _ q
          have z2 := nd_take (l := rows.map (·.1)) R.nd (i := i) (by rw [List.length_map]; exact hir)
          rw [List.getElem_map] at z2
          exact absurd z1 z2
      refine iteF ⟨_, rfl, _, rfl, .inr (rows[i]).1, d, S, n, rfl, rfl, hS3, _, rfl, ?_⟩
      rw [show (if false = true then !S (.inr (rows[i]).1) else S (.inr (rows[i]).1)) = false from hSf]
      refine iteF ?_
      refine ⟨_, rfl, ⟨d, S, n, rfl, hS3⟩, _, rfl, d, .inr (rows[i]).1, S, n, rfl, rfl, hS3, ?_, ?_⟩
      · show n + 1 < 4096
        omega
      · refine ⟨_, _, _, rfl, ?_, _, _, upd_same, ?_, ?_⟩
        · exact (s2.trans s3).upd_own hd
        · show (if S (Sum.inr (rows[i]).1) = true then n else n + 1) ≤ i + 1
          split <;> omega
        · intro u hu2
          have hg : (rows.map (·.1))[i]? = some (rows[i]).1 := by rw [List.getElem?_map, List.getElem?_eq_getElem hir]; rfl
          rw [← take_snoc hg]
          rcases Bool.or_eq_true_iff.mp hu2 with q | q
          · exact List.mem_append_left _ (hu u q)
          · have := of_decide_eq_true q
            rw [Sum.inr.inj this]
            exact List.mem_append_right _ List.mem_cons_self
    · rintro σ H1 ⟨x, y, z, rfl, s1, S, n, hS, hn, hu⟩
      refine ⟨_, rfl, p, rfl, ⟨_, SqT.of (npd s1)⟩, fun D hD => lc_it (walk_tup (xs := ts.map V.ref)) (fun i H' => Same H1 H' ∧ H' D = some (.lst (((rows.map (·.2)).take i).map V.int))) ⟨(Same.refl H1).upd_new hD, upd_same⟩ (fun i H' _ ⟨q, _⟩ => SqT.of (npd (s1.trans q))) ?_ ?_⟩
      · rintro i v H2 H3 hi ⟨q1, q2⟩ ⟨rfl, hv⟩
        have hir : i < rows.length := by rw [List.length_map, hlen] at hi; exact hi
        obtain ⟨t, t1, t2, t3⟩ := hT.at hir
        rw [t2] at hv
        cases hv
        refine ⟨t, _, rfl, SqT.of ((s1.trans q1) _ _ t3), rfl, _, _, rfl, _, _, rfl, rfl, rfl, ?_⟩
        refine ⟨_, rfl, _, q2, ?_, q1.upd_own hD, ?_⟩
        · rw [List.length_map, List.length_take]
          exact lt_line (by omega)
        · have hg : (rows.map (·.2))[i]? = some (rows[i]).2 := by rw [List.getElem?_map, List.getElem?_eq_getElem hir]; rfl
          rw [upd_same, ← take_snoc hg, List.map_append]
          rfl
      · rintro H2 ⟨q1, q2⟩
        rw [show (ts.map V.ref).length = (rows.map (·.2)).length by rw [List.length_map, List.length_map, hlen], List.take_length] at q2
        refine ⟨D, _, rfl, .inl (SqL.of q2), rfl, flat_ints _, _, rfl, ?_⟩
        have h0 : (0 : Int) ∈ rows.map (·.2) := by
          obtain ⟨q, hq, e⟩ := R.leaf
          rw [← e]
          exact List.mem_map_of_mem hq
        show if (!inV (V.int 0) ((rows.map (·.2)).map V.int)) = true then _ else _
        rw [mem_map_ints, decide_eq_true h0]
        refine iteF ?_
        exact k H2 (s1.trans q1)
end
end Sh
end
section
set_option Elab.async false
set_option linter.all false
set_option maxRecDepth 100000
set_option maxHeartbeats 2000000
set_option autoImplicit false
namespace L2
open PySem PySem.Spec PyProof.Rows
/-- a dict comprehension over any walk -/
theorem dc_it {J : It} {n : Nat} {G : Hp → Prop} {Y : Nat → Hp → V → Hp → Prop} (w : Walk J n G Y) {g : TG} {tt : TT} {tk tv : TE} {vs : List Nat} {σ : St} {H1 : Hp} {D : Addr} {Qd : Hp → Prop} (Pv : Nat → Hp → Prop) (h0 : Pv 0 (upd H1 D (.dK []))) (hG : ∀ i H, i ≤ n → Pv i H → G H)
    (hs : ∀ i x H H', i < n → Pv i H → Y i H x H' → g x (wipe σ vs) H' fun σ2 H2 => wipe σ2 vs = wipe σ vs ∧ tt σ2 H2 fun b H3 =>
      if b = true then tk σ2 H3 fun y H4 => tv σ2 H4 fun z H5 => ∃ kvs k, y = kV k ∧ H5 D = some (.dK kvs) ∧ kvs.length < sizeLine ∧ Pv (i + 1) (upd H5 D (.dK (putK kvs k z))) else Pv (i + 1) H3) (hd : ∀ H, Pv n H → Qd H) :
    ∃ W : Nat → Nat → Hp → Prop, (∃ m, W 0 m (upd H1 D (.dK []))) ∧ ∀ i m H, W i m H →
      (J.stop i H ∧ Qd H) ∨ (J.go i H ∧ ∃ Nx : Hp → Prop, (∀ H', Nx H' → ∃ m', m' < m ∧ W (i + 1) m' H') ∧ ∀ x H', J.yld i H x H' → g x (wipe σ vs) H' fun σ2 H2 => wipe σ2 vs = wipe σ vs ∧ tt σ2 H2 fun b H3 =>
        if b = true then tk σ2 H3 fun y H4 => tv σ2 H4 fun z H5 => ∃ kvs k, y = kV k ∧ H5 D = some (.dK kvs) ∧ kvs.length < sizeLine ∧ Nx (upd H5 D (.dK (putK kvs k z))) else Nx H3) := by
  refine ⟨fun i m H => m = n - i ∧ i ≤ n ∧ Pv i H, ⟨n, by simp, Nat.zero_le _, h0⟩, ?_⟩
  rintro i m H ⟨rfl, hi, p⟩
  have q := hG i H hi p
  by_cases hlt : i < n
  · exact .inr ⟨w.goes i H hlt q, Pv (i + 1), fun H' p' => ⟨n - (i + 1), by omega, rfl, hlt, p'⟩, fun x H' y => hs i x H H' hlt p (w.yields i H x H' hlt q y)⟩
  · have e : i = n := by omega
    subst e
    exact .inl ⟨w.stops H q, hd H p⟩
end L2
namespace Sh
open PySem PySem.Spec PyProof.Rows L2
open C8 (pss_cut tCut)
open Evl (ixN_nat)
def bedF (r k w rk : Addr) : List (Str × V) := [("rows", .ref r), ("kinds", .ref k), ("widths", .ref w), ("ranks", .ref rk)]
def wL (rows : List Row) : List (Key × V) := rows.map fun q => (.inr q.1, .int q.2)
def rkL (ns : List Str) : List (Key × V) := ns.zipIdx.map fun q => (.inr q.1, .int ((q.2 : Nat) : Int))
def BedAt (C : Addr) (H : Hp) (p : Addr) (rows : List Row) : Prop := ∃ (dx r k w rk : Addr) (ts : List Addr), H p = some (.ins C dx (bedF r k w rk)) ∧ H r = some (.tup (ts.map V.ref)) ∧ TupsAt H ts rows ∧
  H k = some (.tup ((rows.map (·.1)).map V.str)) ∧ H w = some (.dK (wL rows)) ∧ H rk = some (.dK (rkL (rows.map (·.1))))
theorem BedAt.same {C : Addr} {H H' : Hp} {p : Addr} {rows : List Row} (x : BedAt C H p rows) (s : Same H H') : BedAt C H' p rows := by
  obtain ⟨dx, r, k, w, rk, ts, h1, h2, h3, h4, h5, h6⟩ := x
  exact ⟨dx, r, k, w, rk, ts, s _ _ h1, s _ _ h2, h3.keep (TK.of_same s), s _ _ h4, s _ _ h5, s _ _ h6⟩
theorem BedAt.kp {C a : Addr} {H H' : Hp} {p : Addr} {rows : List Row} (x : BedAt C H p rows) (b : BagAt H a) (s : Kp a H H') : BedAt C H' p rows := by
  obtain ⟨dx, r, k, w, rk, ts, h1, h2, h3, h4, h5, h6⟩ := x
  have tk := s.tk b
  obtain ⟨z0, z1, z2, z3, cs, hb, _⟩ := b
  exact ⟨dx, r, k, w, rk, ts, s _ _ h1 (ne_of h1 hb (fun e => nomatch e)), tk _ _ h2, h3.keep tk, tk _ _ h4, s _ _ h5 (ne_of h5 hb (fun e => nomatch e)), s _ _ h6 (ne_of h6 hb (fun e => nomatch e))⟩
/-- what the written part says of the class Bed -/
structure BedT (K : PySem.W.Frag) (C : Addr) : Prop where
  cl : Cls K C
  nR : NoAttr K C "rows"
  nK : NoAttr K C "kinds"
  nW : NoAttr K C "widths"
  nRk : NoAttr K C "ranks"
theorem s_ne : ¬ ("rows" : Str) = "kinds" ∧ ¬ ("rows" : Str) = "widths" ∧ ¬ ("rows" : Str) = "ranks" ∧ ¬ ("kinds" : Str) = "widths" ∧ ¬ ("kinds" : Str) = "ranks" ∧ ¬ ("widths" : Str) = "ranks" := by decide +kernel
theorem put1 (r k : Addr) : putF "kinds" (.ref k) [("rows", .ref r)] = [(("rows" : Str), V.ref r), ("kinds", .ref k)] := by simp [putF, s_ne]
theorem put2 (r k w : Addr) : putF "widths" (.ref w) [("rows", .ref r), ("kinds", .ref k)] = [(("rows" : Str), V.ref r), ("kinds", .ref k), ("widths", .ref w)] := by simp [putF, s_ne]
theorem put3 (r k w rk : Addr) : putF "ranks" (.ref rk) [("rows", .ref r), ("kinds", .ref k), ("widths", .ref w)] = bedF r k w rk := by simp [putF, s_ne, bedF]
theorem lk_k2 (r k w : Addr) : ([("rows", .ref r), ("kinds", .ref k), ("widths", .ref w)] : List (Str × V)).lookup ("kinds" : Str) = some (.ref k) := by
  have h : (("kinds" : Str) == "rows") = false := by decide +kernel
  simp [List.lookup, h]
theorem lk_rows (r k w rk : Addr) : (bedF r k w rk).lookup ("rows" : Str) = some (.ref r) := by simp [bedF, List.lookup]
theorem lk_kinds (r k w rk : Addr) : (bedF r k w rk).lookup ("kinds" : Str) = some (.ref k) := by
  have h : (("kinds" : Str) == "rows") = false := by decide +kernel
  simp [bedF, List.lookup, h]
theorem lk_widths (r k w rk : Addr) : (bedF r k w rk).lookup ("widths" : Str) = some (.ref w) := by
  have h : (("widths" : Str) == "rows") = false := by decide +kernel
  have h2 : (("widths" : Str) == "kinds") = false := by decide +kernel
  simp [bedF, List.lookup, h, h2]
theorem valV_none {kvs : List (Key × V)} {s : Str} (h : ∀ kv ∈ kvs, kv.1 ≠ .inr s) : valV kvs (.inr s) = none := by
  unfold valV
  rw [List.find?_eq_none.mpr (fun kv hk => by simpa using h kv hk)]
  rfl
/-- __init__ at a new instance -/
def spBedI (C : Addr) : Sp := fun vs H Q _ => ∃ (x dx p : Addr) (ts : List Addr) (rows : List Row), vs = [.ref x, .ref p] ∧ H x = some (.ins C dx []) ∧ H p = some (.tup (ts.map V.ref)) ∧ TupsAt H ts rows ∧ ROk 8 rows ∧ ∀ H', (∀ b o, H b = some o → b ≠ x → H' b = some o) → BedAt C H' x rows → Q .non H'
abbrev N_init__ : List Str := ["self", "kinds", "name", "_", "many", "rank"]
theorem sc_init__ : FnScope N_init__ ["self", "kinds"] (defScope s_init__) := ⟨rfl, rfl, rfl, by decide +kernel, rfl, by decide +kernel, by decide +kernel⟩
section
variable {P : Program} {w : World} {K : PySem.W.Frag} {mg : Str → Option Value} {base : Heap} {C : Addr}
theorem body_bedI (T : Bl mg) (B : BedT K C) (c_check_pairs : DefOk P w K mg base CX0 3 "check_pairs" spPairs) {f : Addr} {cdv : Value} {A : Around} {outer : List Env} {s : Shared} {H : Hp} {vs : List V} {Q : VK} {E : XK} (hr : Room 3 (A.deeper (envOfC "Bed.__init__" (defScope s_init__) s.heap.objs.size f cdv))) (h : spBedI C vs H Q E) :
    ∃ t, PSs (cxOf CX0 P w K mg base N_init__ "Bed.__init__" (defScope s_init__) f cdv A outer s H E).nox (defBody s_init__) t ∧ t { nx := fun _ H' => Q .non H', rt := Q } (start N_init__ vs) H := by
  obtain ⟨x, dx, p, ts, rows, rfl, hx, hp, hT, R, k⟩ := h
  refine ⟨_, (pss_cons (ps_expr (pe_d c_check_pairs (hr.mono (by decide)) pass0 (pa_cons (pv 1) pa_nil)))
    (pss_cons (ps_fld (pv 0) (pv 1) rfl)
    (pss_cons (ps_fld (pv 0) (pe_callTy call_tuple_of (by rfl) T.b_tuple (by decide +kernel) (pa_cons (pe_lc (own := [("name", 2), ("_", 3)]) (g := (gTup K 2 (gCons (gName 2) (gCons (gName 3) gNil)))) (tt := tYes) rfl sc_init__.nd (pi_tup (pv 1)) (blkOk_by (N := N_init__) (sc := defScope s_init__) (by decide +kernel)) (fun _ _ _ _ _ => (pg_tup (by rfl) (pgs_cons (pg_name (i := 2) sc_init__.nd rfl (Or.inl rfl)) (pgs_cons (pg_name (i := 3) sc_init__.nd rfl (Or.inl rfl)) pgs_nil)))) (fun _ _ _ _ _ => pts_nil) (fun _ _ _ _ _ => (pv 2))) pa_nil)) rfl)
    (pss_cons (ps_fld (pv 0) (pe_dc (own := [("name", 2), ("many", 4)]) (g := (gTup K 2 (gCons (gName 2) (gCons (gName 4) gNil)))) (tt := tYes) rfl sc_init__.nd (pi_tup (pv 1)) (blkOk_by (N := N_init__) (sc := defScope s_init__) (by decide +kernel)) (fun _ _ _ _ _ => (pg_tup (by rfl) (pgs_cons (pg_name (i := 2) sc_init__.nd rfl (Or.inl rfl)) (pgs_cons (pg_name (i := 4) sc_init__.nd rfl (Or.inl rfl)) pgs_nil)))) (fun _ _ _ _ _ => pts_nil) (fun _ _ _ _ _ => (pv 2)) (fun _ _ _ _ _ => (pv 4))) rfl)
    (pss_one (ps_fld (pv 0) (pe_dc (own := [("rank", 5), ("name", 2)]) (g := (gTup K 2 (gCons (gName 5) (gCons (gName 2) gNil)))) (tt := tYes) rfl sc_init__.nd (pi_enumT (by rfl) T.b_enumerate (pa_cons (pe_fld (pv 0) rfl) pa_nil)) (blkOk_by (N := N_init__) (sc := defScope s_init__) (by decide +kernel)) (fun _ _ _ _ _ => (pg_tup (by rfl) (pgs_cons (pg_name (i := 5) sc_init__.nd rfl (Or.inl rfl)) (pgs_cons (pg_name (i := 2) sc_init__.nd rfl (Or.inl rfl)) pgs_nil)))) (fun _ _ _ _ _ => pts_nil) (fun _ _ _ _ _ => (pv 2)) (fun _ _ _ _ _ => (pv 5))) rfl)))))), ?_⟩
  have hlen : ts.length = rows.length := hT.1
  have R8 : rows.length ≤ 8 := by have := R.len; omega
  have npx : p ≠ x := ne_of hp hx (fun e => nomatch e)
  refine ⟨_, rfl, p, ts, rows, rfl, hp, hT, R, fun H1 s1 => ?_⟩
  refine ⟨_, rfl, _, rfl, x, C, dx, _, rfl, s1 _ _ hx, B.cl, B.nR, (by show 0 < 1000; decide), ?_⟩
  generalize e2 : upd H1 x (.ins C dx (putF "rows" (.ref p) [])) = H2
  have hx2 : H2 x = some (.ins C dx [(("rows" : Str), V.ref p)]) := by rw [← e2, upd_same]; rfl
  have k2 : Kp x H H2 := by rw [← e2]; exact (Kp.same s1).upd
  have tk1 : ∀ {H H' : Hp} {fs : List (Str × V)}, H x = some (.ins C dx fs) → Kp x H H' → TK H H' := fun h q t xs ht => q t _ ht (ne_of ht h (fun e => nomatch e))
  have tk2 := tk1 hx k2
  have hp2 : H2 p = some (.tup (ts.map V.ref)) := tk2 _ _ hp
  have hT2 := hT.keep tk2
  clear e2
  -- kinds
  refine ⟨_, rfl, p, rfl, ⟨_, SqT.of hp2⟩, fun D hD => lc_it (walk_tup (xs := ts.map V.ref)) (fun i H' => Same H2 H' ∧ H' D = some (.lst (((rows.map (·.1)).take i).map V.str))) ⟨(Same.refl H2).upd_new hD, upd_same⟩ (fun i H' _ ⟨q, _⟩ => SqT.of (q _ _ hp2)) ?_ ?_⟩
  · rintro i v H3 H4 hi ⟨q1, q2⟩ ⟨rfl, hv⟩
    have hir : i < rows.length := by rw [List.length_map, hlen] at hi; exact hi
    obtain ⟨t, t1, t2, t3⟩ := hT2.at hir
    rw [t2] at hv
    cases hv
    refine ⟨t, _, rfl, SqT.of (q1 _ _ t3), rfl, _, _, rfl, _, _, rfl, rfl, rfl, ?_⟩
    refine ⟨_, rfl, _, q2, ?_, q1.upd_own hD, ?_⟩
    · rw [List.length_map, List.length_take]
      exact lt_line (by omega)
    · have hg : (rows.map (·.1))[i]? = some (rows[i]).1 := by rw [List.getElem?_map, List.getElem?_eq_getElem hir]; rfl
      rw [upd_same, ← take_snoc hg, List.map_append]
      rfl
  rintro H3 ⟨q1, q2⟩
  rw [show (ts.map V.ref).length = (rows.map (·.1)).length by rw [List.length_map, List.length_map, hlen], List.take_length] at q2
  refine ⟨D, _, rfl, .inl ⟨SqL.of q2, fun l hl => ?_⟩⟩
  have nlx : l ≠ x := (ne_of_none (q1 _ _ hx2) hl).symm
  refine ⟨_, rfl, x, C, dx, _, rfl, (by rw [upd_ne nlx.symm]; exact q1 _ _ hx2), B.cl, B.nK, (by show 1 < 1000; decide), ?_⟩
  rw [put1]
  have k3 : Kp x H (upd H3 l (.tup ((rows.map (·.1)).map V.str))) := (k2.trans (Kp.same q1)).upd_new hl
  generalize e4 : upd (upd H3 l (.tup ((rows.map (·.1)).map V.str))) x (.ins C dx [(("rows" : Str), V.ref p), ("kinds", .ref l)]) = H4
  have hx4 : H4 x = some (.ins C dx [(("rows" : Str), V.ref p), ("kinds", .ref l)]) := by rw [← e4, upd_same]
  have k4 : Kp x H H4 := by rw [← e4]; exact k3.upd
  have hl4 : H4 l = some (.tup ((rows.map (·.1)).map V.str)) := by rw [← e4, upd_ne nlx, upd_same]
  have tk4 := tk1 hx k4
  have hp4 : H4 p = some (.tup (ts.map V.ref)) := tk4 _ _ hp
  have hT4 := hT.keep tk4
  clear e4
  -- widths
  refine ⟨_, rfl, p, rfl, ⟨_, SqT.of hp4⟩, fun D2 hD2 => dc_it (walk_tup (xs := ts.map V.ref)) (fun i H' => Same H4 H' ∧ H' D2 = some (.dK (wL (rows.take i)))) ⟨(Same.refl H4).upd_new hD2, upd_same⟩ (fun i H' _ ⟨q, _⟩ => SqT.of (q _ _ hp4)) ?_ ?_⟩
  · rintro i v H5 H6 hi ⟨p1, p2⟩ ⟨rfl, hv⟩
    have hir : i < rows.length := by rw [List.length_map, hlen] at hi; exact hi
    obtain ⟨t, t1, t2, t3⟩ := hT4.at hir
    rw [t2] at hv
    cases hv
    refine ⟨t, _, rfl, SqT.of (p1 _ _ t3), rfl, _, _, rfl, _, _, rfl, rfl, rfl, ?_⟩
    refine ⟨_, rfl, _, rfl, _, .inr (rows[i]).1, rfl, p2, ?_, p1.upd_own hD2, ?_⟩
    · unfold wL
      rw [List.length_map, List.length_take]
      exact lt_line (by omega)
    · rw [upd_same, putK_new, ← take_snoc (List.getElem?_eq_getElem hir)]
      · unfold wL
        rw [List.map_append]
        rfl
      · refine valV_none fun kv hk e => ?_
        obtain ⟨q, hq, rfl⟩ := List.mem_map.mp hk
        have z2 := nd_take (l := rows.map (·.1)) R.nd (i := i) (by rw [List.length_map]; exact hir)
        rw [List.getElem_map, ← List.map_take] at z2
        have e2 : q.1 = (rows[i]).1 := Sum.inr.inj e
        exact z2 (by rw [← e2]; exact List.mem_map_of_mem hq)
  rintro H5 ⟨p1, p2⟩
  rw [show (ts.map V.ref).length = rows.length by rw [List.length_map, hlen], List.take_length] at p2
  have nDx2 : D2 ≠ x := (ne_of_none hx4 hD2).symm
  refine ⟨_, rfl, x, C, dx, _, rfl, p1 _ _ hx4, B.cl, B.nW, (by show 2 < 1000; decide), ?_⟩
  rw [put2]
  generalize e6 : upd H5 x (.ins C dx [(("rows" : Str), V.ref p), ("kinds", .ref l), ("widths", .ref D2)]) = H6
  have hx6 : H6 x = some (.ins C dx [(("rows" : Str), V.ref p), ("kinds", .ref l), ("widths", .ref D2)]) := by rw [← e6, upd_same]
  have k46 : Kp x H4 H6 := by rw [← e6]; exact (Kp.same p1).upd
  have k6 : Kp x H H6 := k4.trans k46
  have hl6 : H6 l = some (.tup ((rows.map (·.1)).map V.str)) := k46 _ _ hl4 nlx
  have hw6 : H6 D2 = some (.dK (wL rows)) := by rw [← e6, upd_ne nDx2]; exact p2
  clear e6
  -- ranks
  refine ⟨_, rfl, x, C, dx, _, _, rfl, hx6, B.cl, B.nK, lk_k2 _ _ _, l, _, rfl, SqT.of hl6, fun D3 hD3 => dc_it (walk_enumT (xs := (rows.map (·.1)).map V.str)) (fun i H' => Same H6 H' ∧ H' D3 = some (.dK ((rkL (rows.map (·.1))).take i))) ⟨(Same.refl H6).upd_new hD3, upd_same⟩ (fun i H' _ ⟨q, _⟩ => SqT.of (q _ _ hl6)) ?_ ?_⟩
  · rintro i v H7 H8 hi ⟨p3, p4⟩ ⟨P1, v1, v2, rfl, hP1, rfl, e1, e2⟩
    have hir : i < rows.length := by rw [List.length_map, List.length_map] at hi; exact hi
    cases e1
    have e2' : ((rows.map (·.1)).map V.str)[i]? = some v2 := e2
    rw [List.getElem?_map, List.getElem?_map, List.getElem?_eq_getElem hir] at e2'
    cases e2'
    have hD3' : (upd H7 P1 (.tup [.int ((i : Nat) : Int), .str (rows[i]).1])) D3 = some (.dK ((rkL (rows.map (·.1))).take i)) := by rw [upd_ne (ne_of_none p4 hP1)]; exact p4
    refine ⟨P1, _, rfl, SqT.of upd_same, rfl, _, _, rfl, _, _, rfl, rfl, rfl, ?_⟩
    refine ⟨_, rfl, _, rfl, _, .inr (rows[i]).1, rfl, hD3', ?_, (p3.upd_new hP1).upd_own hD3, ?_⟩
    · rw [List.length_take]
      unfold rkL
      rw [List.length_map, List.length_zipIdx, List.length_map]
      exact lt_line (by omega)
    · have hg : (rkL (rows.map (·.1)))[i]? = some (.inr (rows[i]).1, .int ((i : Nat) : Int)) := by
        unfold rkL
        rw [List.getElem?_map, List.getElem?_zipIdx, List.getElem?_map, List.getElem?_eq_getElem hir]
        simp
      rw [upd_same, putK_new, ← take_snoc hg]
      refine valV_none fun kv hk e => ?_
      obtain ⟨j, hj, ej⟩ := List.mem_iff_getElem.mp hk
      rw [List.length_take] at hj
      rw [List.getElem_take] at ej
      have hjr : j < rows.length := by omega
      have hg2 : (rkL (rows.map (·.1)))[j]? = some (.inr (rows[j]).1, .int ((j : Nat) : Int)) := by
        unfold rkL
        rw [List.getElem?_map, List.getElem?_zipIdx, List.getElem?_map, List.getElem?_eq_getElem hjr]
        simp
      have ej2 := List.getElem?_eq_getElem (l := rkL (rows.map (·.1))) (i := j) (by unfold rkL; rw [List.length_map, List.length_zipIdx, List.length_map]; exact hjr)
      rw [hg2] at ej2
      rw [← ej, ← Option.some.inj ej2] at e
      have e3 : (rows[j]).1 = (rows[i]).1 := Sum.inr.inj e
      have nd := R.nd
      have e4 : (rows.map (·.1))[j]'(by rw [List.length_map]; exact hjr) = (rows.map (·.1))[i]'(by rw [List.length_map]; exact hir) := by rw [List.getElem_map, List.getElem_map]; exact e3
      have := (List.getElem_inj nd).mp e4
      omega
  rintro H7 ⟨p3, p4⟩
  rw [show ((rows.map (·.1)).map V.str).length = (rkL (rows.map (·.1))).length by unfold rkL; simp, List.take_length] at p4
  have nDx3 : D3 ≠ x := (ne_of_none hx6 hD3).symm
  refine ⟨_, rfl, x, C, dx, _, rfl, p3 _ _ hx6, B.cl, B.nRk, (by show 3 < 1000; decide), ?_⟩
  rw [put3]
  have k8 : Kp x H (upd H7 x (.ins C dx (bedF p l D2 D3))) := (k6.trans (Kp.same p3)).upd
  refine k _ k8 ⟨dx, p, l, D2, D3, ts, upd_same, k8 _ _ hp npx, hT.keep (tk1 hx k8), ?_, ?_, ?_⟩
  · rw [upd_ne nlx]; exact p3 _ _ hl6
  · rw [upd_ne nDx2]; exact p3 _ _ hw6
  · rw [upd_ne nDx3]; exact p4
end
end Sh
end
section
set_option Elab.async false
set_option linter.all false
set_option maxRecDepth 100000
set_option maxHeartbeats 2000000
set_option autoImplicit false
namespace Sh
open PySem PySem.Spec PyProof.Rows L2
open C8 (pss_cut tCut)
open Evl (ixN_nat)
theorem ifn {c A B : Prop} [Decidable c] (h : ¬ c) (b : B) : if c then A else B := by
  rw [if_neg h]
  exact b
theorem ifp {c A B : Prop} [Decidable c] (h : c) (a : A) : if c then A else B := by
  rw [if_pos h]
  exact a
def spBedS (C : Addr) : Sp := fun vs H Q E => ∃ ws rest, vs = ws ++ rest ∧ ws.length = (["self"] : List Str).length ∧ rest.length ≤ sizeLine ∧ ∀ p, H p = Option.none → spBedI C (ws ++ [V.ref p]) (upd H p (.tup rest)) Q E
def BedOk (P : Program) (w : World) (K : PySem.W.Frag) (mg : Str → Option Value) (base : Heap) (C : Addr) (k : Nat) : Prop := mg "Bed" = some (.ref C) ∧ ∃ fI, Mk K C fI ∧ FnR P w K mg base CX0 k fI (spBedS C)
def spBed (C : Addr) : Sp := fun vs H Q _ => ∃ (ts : List Addr) (rows : List Row), vs = ts.map V.ref ∧ TupsAt H ts rows ∧ ROk 8 rows ∧ ∀ H' p, Same H H' → H p = none → BedAt C H' p rows → Q (.ref p) H'
theorem pe_bed {X : Cx} {C : Addr} {k : Nat} {e : Expr} {es : List Expr} {t : TA} {p pos : Pos} (D : BedOk X.prog X.w X.K X.mg X.base C k) (hr : Room (k + 1) X.A) (ha : PA X (e :: es) t) (hg : Gl X "Bed" := by rfl)
    (he : starEach (e :: es) X.env = (false, eval e X.env) :: starEach es X.env := by rfl) (hpl : (backTo pos (starEach es X.env)).any (·.1) = false := by rfl) :
    PE X (.Call (.Name "Bed" p) (e :: es) [] pos) (tCallR (spBed C) E0 t) := by
  obtain ⟨hm, fI, M, F⟩ := D
  refine ⟨fun pins s σ H Q I h => ?_⟩
  refine wpAny_Call_Name_kw (ld_glob I hg hm ?_ (by decide))
  refine PySem.W.callWith_K (h₀ := X.base) I.ok.mod.kin M.kp (thn (ha.run pos pins s σ H _ I h) fun us s1 ⟨vs, H1, I1, r, q⟩ => ⟨I1.kIn, ?_⟩) he hpl
  obtain ⟨ts, rows, rfl, hT, R, k⟩ := q
  refine StX.run_makeR M F hr pass0 I1 r fun x dx hx hd hxd => ?_
  have s1 : Same H1 (upd (upd H1 dx (.own x)) x (.ins C dx [])) := ((Same.refl H1).upd_new hd).upd_own hx
  refine ⟨[.ref x], ts.map V.ref, rfl, rfl, ?_, fun p hp => ?_⟩
  · rw [List.length_map, hT.1]
    have := R.len
    exact le_line (by omega)
  have s2 := s1.upd_new (o := .tup (ts.map V.ref)) hp
  have nxp : x ≠ p := ne_of_none (upd_same (H := upd H1 dx (.own x)) (a := x)) hp
  refine ⟨x, dx, p, ts, rows, rfl, by rw [upd_ne nxp, upd_same], upd_same, hT.keep (TK.of_same s2), R, fun H' kk b => ⟨rfl, ?_⟩⟩
  exact k H' x (fun b o hb => kk b o (s2 b o hb) (ne_of_none hb hx)) hx b
section
variable {P : Program} {w : World} {K : PySem.W.Frag} {mg : Str → Option Value} {base : Heap} {C : Addr}
end
end Sh
end
section
set_option Elab.async false
set_option linter.all false
set_option maxRecDepth 100000
set_option maxHeartbeats 2000000
set_option autoImplicit false
namespace Sh
open PySem PySem.Spec PyProof.Rows L2
open C8 (pss_cut tCut)
open Evl (ixN_nat)
structure Bk (mg : Str → Option Value) : Prop extends Bl mg where
  b_zip : mg "zip" = none
  b_ValueError : mg "ValueError" = none
def sV (l : List Str) : List V := l.map V.str
/-- the number of branches of a kind; 0 of what is no kind -/
def wR (rows : List Row) (z : Str) : Nat := match rows.find? (fun q => decide (q.1 = z)) with
  | some q => q.2.toNat
  | none => 0
/-- .. or -1 -/
def nmO (rows : List Row) (z : Str) : Int := match rows.find? (fun q => decide (q.1 = z)) with
  | some q => q.2
  | none => -1
theorem find_wL (rows : List Row) (z : Str) : valV (wL rows) (.inr z) = (rows.find? (fun q => decide (q.1 = z))).map fun q => V.int q.2 := by
  unfold valV wL
  rw [List.find?_map]
  have e : ((fun kv : Key × V => decide (kv.1 = Sum.inr z)) ∘ fun q : Row => ((.inr q.1 : Key), V.int q.2)) = fun q => decide (q.1 = z) := by
    funext q
    exact key_rr q.1 z
  rw [e, Option.map_map]
  rfl
theorem nm_case {rows : List Row} {m : Int} (R : ROk m rows) (z : Str) : (nmO rows z = -1 ∧ wR rows z = 0 ∧ valV (wL rows) (.inr z) = none ∧ ∀ q ∈ rows, q.1 ≠ z) ∨ (nmO rows z = ((wR rows z : Nat) : Int) ∧ wR rows z ≤ 3 ∧ valV (wL rows) (.inr z) = some (.int ((wR rows z : Nat) : Int)) ∧ ∃ q ∈ rows, q.1 = z) := by
  rw [find_wL]
  unfold nmO wR
  cases hf : rows.find? (fun q => decide (q.1 = z)) with
  | none => exact .inl ⟨rfl, rfl, rfl, fun q hq e => absurd (List.find?_eq_none.mp hf q hq) (by simp [e])⟩
  | some q =>
    have hm := List.mem_of_find?_eq_some hf
    have wd := R.wd q hm
    have e : ((q.2.toNat : Nat) : Int) = q.2 := by omega
    exact .inr ⟨e.symm, by show q.2.toNat ≤ 3; omega, by rw [Option.map_some]; show some (V.int q.2) = some (V.int ((q.2.toNat : Nat) : Int)); rw [e], q, hm, by have hp := List.find?_some hf; exact of_decide_eq_true hp⟩
theorem wR_le {rows : List Row} {m : Int} (R : ROk m rows) (z : Str) : wR rows z ≤ 3 := by
  rcases nm_case R z with h | h <;> omega
theorem get_wL {rows : List Row} {m : Int} (R : ROk m rows) (z : Str) : (valV (wL rows) (.inr z)).getD (.int 0) = .int ((wR rows z : Nat) : Int) := by
  rcases nm_case R z with h | h
  · rw [h.2.2.1, h.2.1]
    rfl
  · rw [h.2.2.1]
    rfl
theorem wR_mem {rows : List Row} {m : Int} (R : ROk m rows) {z : Str} (h : ∃ q ∈ rows, q.1 = z) : ∃ q ∈ rows, q.1 = z ∧ rows.find? (fun q => decide (q.1 = z)) = some q ∧ ((wR rows z : Nat) : Int) = q.2 ∧ wR rows z ≤ 3 := by
  obtain ⟨q, hq, e⟩ := h
  cases hf : rows.find? (fun q => decide (q.1 = z)) with
  | none => exact absurd (List.find?_eq_none.mp hf q hq) (by simp [e])
  | some q2 =>
    have hm := List.mem_of_find?_eq_some hf
    have hp := List.find?_some hf
    have wd := R.wd q2 hm
    have ew : wR rows z = q2.2.toNat := by unfold wR; rw [hf]
    exact ⟨q2, hm, of_decide_eq_true hp, rfl, by rw [ew]; omega, by rw [ew]; omega⟩
theorem val_wL {rows : List Row} {m : Int} (R : ROk m rows) {z : Str} (h : ∃ q ∈ rows, q.1 = z) : valV (wL rows) (.inr z) = some (.int ((wR rows z : Nat) : Int)) := by
  obtain ⟨q, _, _, hf, e, _⟩ := wR_mem R h
  rw [find_wL, hf, e]
  rfl
structure PlantOk (rows : List Row) (l : List Str) : Prop where
  f : Mth.forest (wR rows) l 1 = true
  k : ∀ z ∈ l, ∃ q ∈ rows, q.1 = z
  sz : l.length ≤ 2000
theorem PlantOk.pos {rows : List Row} {l : List Str} (x : PlantOk rows l) : 0 < l.length := List.length_pos_iff.mpr (Mth.forest_pos _ x.f)
/-- a stump -/
structure StumpOk (rows : List Row) (l : List Str) : Prop where
  f : Mth.forest (wR rows) l 1 = true
  k : ∀ z ∈ l, z = "*" ∨ ∃ q ∈ rows, q.1 = z
  sz : l.length ≤ 2000
theorem StumpOk.pos {rows : List Row} {l : List Str} (x : StumpOk rows l) : 0 < l.length := List.length_pos_iff.mpr (Mth.forest_pos _ x.f)
/-- the least place at which a row stops being one -/
def wO (rows : List Row) (hole : Bool) (z : Str) : Option Nat := if hole = true ∧ z = "*" then some 0 else if nmO rows z < 0 then none else some (wR rows z)
def fl (f : Str → Option Nat) : List Str → Nat → Nat → Option Nat
  | [], 0, _ => none
  | [], _ + 1, i => some i
  | _ :: _, 0, i => some i
  | z :: r, n + 1, i => match f z with
    | none => some i
    | some k => fl f r (n + k) (i + 1)
def fault (rows : List Row) (hole : Bool) (l : List Str) : Option Nat := fl (wO rows hole) l 1 0
theorem fl_ok {f : Str → Option Nat} {w : Str → Nat} : ∀ {l : List Str} {n i : Nat}, (∀ z k, f z = some k → w z = k) → fl f l n i = none → Mth.forest w l n = true ∧ ∀ z ∈ l, (f z).isSome = true
  | [], 0, _, _, _ => ⟨rfl, fun _ h => nomatch h⟩
  | [], _ + 1, _, _, h => nomatch h
  | _ :: _, 0, _, _, h => nomatch h
  | z :: r, n + 1, i, hw, h => by
    unfold fl at h
    cases e : f z with
    | none => rw [e] at h; cases h
    | some k =>
      rw [e] at h
      obtain ⟨h1, h2⟩ := fl_ok hw h
      refine ⟨?_, fun y hy => ?_⟩
      · unfold Mth.forest
        rw [hw z k e, Nat.add_comm]
        exact h1
      · rcases List.mem_cons.mp hy with q | q
        · rw [q, e]; rfl
        · exact h2 y q
theorem fl_le {f : Str → Option Nat} : ∀ {l : List Str} {n i j : Nat}, fl f l n i = some j → j ≤ i + l.length
  | [], 0, _, _, h => nomatch h
  | [], _ + 1, i, j, h => by cases h; exact Nat.le_refl _
  | _ :: _, 0, i, j, h => by cases h; omega
  | z :: r, n + 1, i, j, h => by
    unfold fl at h
    rw [List.length_cons]
    cases e : f z with
    | none => rw [e] at h; cases h; omega
    | some k => rw [e] at h; have := fl_le h; omega
theorem nm_star {rows : List Row} {m : Int} (R : ROk m rows) : nmO rows "*" = -1 := by
  rcases nm_case R "*" with q | q
  · exact q.1
  · obtain ⟨_, _, _, x, hx, e⟩ := q
    have n := (R.nm x hx).2.2 42 (by rw [e]; decide +kernel)
    omega
theorem wO_w {rows : List Row} {m : Int} (R : ROk m rows) {hole : Bool} {z : Str} {k : Nat} (h : wO rows hole z = some k) : wR rows z = k := by
  unfold wO at h
  split at h
  · rename_i c
    cases h
    rw [c.2]
    have star := nm_star R
    rcases nm_case R "*" with q | q
    · exact q.2.1
    · omega
  · split at h
    · cases h
    · cases h
      rfl
end Sh
end
section
set_option Elab.async false
set_option linter.all false
set_option maxRecDepth 100000
set_option maxHeartbeats 2000000
set_option autoImplicit false
namespace Sh
open PySem PySem.Spec PyProof.Rows L2
open C8 (pss_cut tCut)
open Evl (ixN_nat)
theorem str_at {l : List Str} {j : Nat} {z : Int} (h : j < l.length) (e : z = (j : Int)) : atI (l.map V.str) z = some (.str l[j]) := at_ofG e (by rw [List.getElem?_map, List.getElem?_eq_getElem h]; rfl)
theorem int_at {l : List Int} {j : Nat} {z x : Int} (h : l[j]? = some x) (e : z = (j : Int)) : atI (l.map V.int) z = some (.int x) := at_ofG e (by rw [List.getElem?_map, h]; rfl)
theorem ixz {n : Nat} {z : Int} {j : Nat} (h : j < n) (e : z = (j : Int)) : ixN n z = some j := by
  rw [e]
  exact ixN_nat h
theorem RowsAt.same {H H' : Hp} {r : Addr} {rows : List Row} (x : RowsAt H r rows) (s : Same H H') : RowsAt H' r rows := by
  obtain ⟨ts, a, b⟩ := x
  exact ⟨ts, s _ _ a, b.keep (TK.of_same s)⟩
structure XA where
  T : Addr
  P : Addr
  S : Addr
  N : Addr
  U : Addr
  W : Addr
inductive Ex where
  | many
  | plant (i : Nat)
  | stump (i : Nat)
  | path (a : Addr)
  | kind (z : Str)
  | wrong (i j : Nat)
def Ex.cls (A : XA) : Ex → Addr
  | .many => A.T
  | .plant _ => A.P
  | .stump _ => A.S
  | .path _ => A.N
  | .kind _ => A.U
  | .wrong _ _ => A.W
def tmF : List (Str × V) := xfs ["what", "limit"] [.str "knots", .int 2000] []
def Ex.fs : Ex → List (Str × V)
  | .many => tmF
  | .plant i => xfs ["place"] [.int (i : Nat)] []
  | .stump i => xfs ["place"] [.int (i : Nat)] []
  | .path a => xfs ["path"] [.ref a] []
  | .kind z => xfs ["kind"] [.str z] []
  | .wrong i j => xfs ["wanted", "given"] [.int (i : Nat), .int (j : Nat)] []
def tmP : List V → Prop := fun vs => vs = [.str "knots", .int 2000]
def plP : List V → Prop := fun vs => ∃ i : Nat, vs = [.int (i : Nat)] ∧ i ≤ 10000
/-- a drawn word: short, of code points that are ones -/
def Kin (z : Str) : Prop := z.length ≤ 100 ∧ ∀ c ∈ z.cps.toList, c < 16 ^ 8
def ukP : List V → Prop := fun vs => ∃ z : Str, vs = [.str z] ∧ Kin z
structure XS (P : Program) (w : World) (K : PySem.W.Frag) (mg : Str → Option Value) (A : XA) : Prop where
  xT : PySem.SupX.SupCls P w K mg "TooMany" A.T ["what", "limit"] tmP
  xP : PySem.SupX.SupCls P w K mg "InvalidPlant" A.P ["place"] plP
  xU : PySem.SupX.SupCls P w K mg "UnknownKind" A.U ["kind"] ukP
/-- what is wanted where x is raised -/
def Rz (A : XA) (E : XK) (H : Hp) (x : Ex) : Prop := ∀ H' d, Same H H' → H' d = none → E (.ref (x.cls A)) (some d) (upd H' d (.xd x.fs))
theorem Rz.same {A : XA} {E : XK} {H H1 : Hp} {x : Ex} (h : Rz A E H x) (s : Same H H1) : Rz A E H1 x := fun H' d s' hd => h H' d (s.trans s') hd
def due (rows : List Row) (hole : Bool) (l : List Str) : Option Ex := if 2000 < l.length then some .many else (fault rows hole l).map (if hole = true then Ex.stump else Ex.plant)
/-- either way -/
def Way (A : XA) (E : XK) (H : Hp) (o : Option Ex) (ok : Prop) : Prop := match o with
  | none => ok
  | some x => Rz A E H x
theorem wO_some {rows : List Row} {m : Int} (R : ROk m rows) {hole : Bool} {z : Str} (h : (wO rows hole z).isSome = true) : (hole = true ∧ z = "*") ∨ ∃ q ∈ rows, q.1 = z := by
  unfold wO at h
  split at h
  · exact .inl ‹_›
  · rename_i c
    split at h
    · cases h
    · rename_i c2
      rcases nm_case R z with q | q
      · omega
      · exact .inr q.2.2.2
theorem due_plant {rows : List Row} {m : Int} (R : ROk m rows) {l : List Str} (h : due rows false l = none) : PlantOk rows l := by
  unfold due at h
  split at h
  · cases h
  · rename_i c
    have e : fault rows false l = none := by
      cases e : fault rows false l with
      | none => rfl
      | some i => rw [e] at h; cases h
    obtain ⟨h1, h2⟩ := fl_ok (w := wR rows) (fun z k q => wO_w R q) e
    exact ⟨h1, fun z hz => by rcases wO_some R (h2 z hz) with q | q; exact absurd q.1 (by decide); exact q, by omega⟩
def lvs (hole : Bool) : List V := if hole = true then [.str "*"] else []
def spSize (K : PySem.W.Frag) (CT : Addr) : Sp := fun vs H Q E => ∃ (t : Addr) (xs : List V), vs = [.ref t] ∧ (SqL K H t xs ∨ SqT K H t xs) ∧ (xs.length ≤ 2000 → Q .non H) ∧ (2000 < xs.length → ∀ d, H d = none → E (.ref CT) (some d) (upd H d (.xd tmF)))
def ansF : Option Nat → V
  | none => .non
  | some i => .int (i : Nat)
def spFault (C : Addr) : Sp := fun vs H Q _ => ∃ (b t e : Addr) (rows : List Row) (l : List Str) (hole : Bool), vs = [.ref b, .ref t, .ref e] ∧ BedAt C H b rows ∧ ROk 8 rows ∧ Tq H t (sV l) ∧ l.length ≤ 6000 ∧ Tq H e (lvs hole) ∧ ∀ H', Same H H' → Q (ansF (fault rows hole l)) H'
/-- a check of a row -/
def spChk (C : Addr) (A : XA) (hole : Bool) : Sp := fun vs H Q E => ∃ (b t : Addr) (rows : List Row) (l : List Str), vs = [.ref b, .ref t] ∧ BedAt C H b rows ∧ ROk 8 rows ∧ Tq H t (sV l) ∧ l.length ≤ 6000 ∧ Way A E H (due rows hole l) (∀ H', Same H H' → Q .non H')
abbrev N_check_size : List Str := ["entries"]
theorem sc_check_size : FnScope N_check_size ["entries"] (defScope s_check_size) := ⟨rfl, rfl, rfl, by decide +kernel, rfl, by decide +kernel, by decide +kernel⟩
abbrev N_fault_place : List Str := ["bed", "entries", "leaves", "missing", "place", "entry"]
theorem sc_fault_place : FnScope N_fault_place ["bed", "entries", "leaves"] (defScope s_fault_place) := ⟨rfl, rfl, rfl, by decide +kernel, rfl, by decide +kernel, by decide +kernel⟩
abbrev N_check_plant : List Str := ["bed", "plant", "place"]
theorem sc_check_plant : FnScope N_check_plant ["bed", "plant"] (defScope s_check_plant) := ⟨rfl, rfl, rfl, by decide +kernel, rfl, by decide +kernel, by decide +kernel⟩
section
variable {P : Program} {w : World} {K : PySem.W.Frag} {mg : Str → Option Value} {base : Heap} {C : Addr} {A : XA}
theorem ok_check_size (T : Bk mg) (x : XS P w K mg A) (D : Def0 K mg "check_size" s_check_size) : DefOk P w K mg base (L2.CX P w) 2 "check_size" (spSize K A.T) := by
  have x_TooMany := x.xT
  refine D.okX sc_check_size (fun vs H Q E h => ?_) (fun _ _ _ _ _ _ us hl => match us, hl with | [_], _ => rfl) (fun f cdv A outer s H vs Q E hr h => ?_)
  · obtain ⟨t, xs, rfl, _⟩ := h
    rfl
  · obtain ⟨t, xs, rfl, ht, k1, k2⟩ := h
    refine ⟨_, (pss_one (ps_if (pt_cmpR op_gt (pe_callB call_len_seq (by rfl) T.b_len boot_len (pa_cons (pv 0) pa_nil)) (pe_cI (by rfl) T.c_MOST_KNOTS) (nomark _))
        (pss_one (ps_raiseSup rfl x_TooMany hr (takes_of rfl rfl rfl rfl) (pa_cons pe_str (pa_cons (pe_cI (by rfl) T.c_MOST_KNOTS) pa_nil))))
        pss_nil)), ?_⟩
    refine ⟨_, rfl, t, _, rfl, ht, _, _, rfl, rfl, _, rfl, ?_⟩
    refine ite2 (fun h => ?_) (fun h => ?_)
    · exact ⟨rfl, rfl, fun d hd => k2 (by have := of_decide_eq_true h; omega) d hd⟩
    · exact k1 (by have : ¬ (2000 : Int) < ((xs.length : Nat) : Int) := fun q => h (decide_eq_true q); omega)
theorem ok_fault_place (T : Bk mg) (B : BedT K C) (D : Def0 K mg "fault_place" s_fault_place) : DefOk P w K mg base CX0 1 "fault_place" (spFault C) := by
  refine D.ok sc_fault_place (fun vs H Q E h => ?_) (fun _ _ _ _ _ _ us hl => match us, hl with | [_, _, _], _ => rfl) (fun f cdv A outer s H vs Q E hr h => ?_)
  · obtain ⟨b, t, e, rows, l, hole, rfl, _⟩ := h
    rfl
  · obtain ⟨b, t, lv, rows, l, hole, rfl, hB, R, ht, hsz, he, k⟩ := h
    have hu := hu_of hr
    refine ⟨_, (pss_cons (ps_set (i := 3) sc_fault_place.nd rfl (Or.inl rfl) pe_int)
      (pss_cons (ps_for PassesOwn.never rfl (pi_enumT (by rfl) T.b_enumerate (pa_cons (pv 1) pa_nil)) (pg_tup (by rfl) (pgs_cons (pg_name (i := 4) sc_fault_place.nd rfl (Or.inl rfl)) (pgs_cons (pg_name (i := 5) sc_fault_place.nd rfl (Or.inl rfl)) pgs_nil)))
        (pss_cons (ps_if (pt_cmpR op_eq (pv 3) pe_int (nomark _))
          (pss_one (ps_ret (pv 4)))
          pss_nil)
        (pss_one (ps_if (pt_cmpR op_in_seq (pv 5) (pv 2) (by rfl))
          (pss_one (ps_set (i := 3) sc_fault_place.nd rfl (Or.inl rfl) (pe_op op_sub (pv 3) pe_int)))
          (pss_one (ps_if (pt_cmp (pc_din hu (pv 5) (pe_fld (pv 0) rfl)))
            (pss_one (ps_set (i := 3) sc_fault_place.nd rfl (Or.inl rfl) (pe_op op_add (pe_op op_sub (pv 3) pe_int) (pe_dget hu (pe_fld (pv 0) rfl) (pv 5) (fun _ _ => rfl)))))
            (pss_one (ps_ret (pv 4)))))))))
      (pss_one (ps_ret (pe_ifExp (pt_cmpR op_eq (pv 3) pe_int (nomark _)) pe_non (pe_callB call_len_seq (by rfl) T.b_len boot_len (pa_cons (pv 1) pa_nil))))))), ?_⟩
    refine ⟨_, rfl, t, _, rfl, ht.sq, for_it (walk_enumT (xs := sV l)) (fun i σ H' => ∃ (x y : Option V) (n : Nat), σ = [some (.ref b), some (.ref t), some (.ref lv), some (.int (n : Nat)), x, y] ∧ Same H H' ∧ fl (wO rows hole) (l.drop i) n i = fault rows hole l)
      ⟨none, none, 1, rfl, Same.refl H, rfl⟩ (fun i σ H' _ ⟨_, _, _, _, q, _⟩ => (ht.same q).sq) ?_ ?_⟩
    · rintro i v σ H1 H2 hi ⟨x, y, n, rfl, s1, hf⟩ ⟨P1, v1, v2, rfl, hP1, rfl, e1, e2⟩
      have hil : i < l.length := by unfold sV at hi; rw [List.length_map] at hi; exact hi
      cases e1
      have e2' : (l.map V.str)[i]? = some v2 := e2
      rw [List.getElem?_map, List.getElem?_eq_getElem hil] at e2'
      cases e2'
      have s2 := s1.upd_new (o := .tup [.int ((i : Nat) : Int), .str l[i]]) hP1
      rw [List.drop_eq_getElem_cons hil] at hf
      obtain ⟨dx, r, kk, ww, rk, ts, h1, h2, h3, h4, h5, h6⟩ := hB.same s2
      refine ⟨P1, _, rfl, SqT.of upd_same, rfl, _, _, rfl, _, _, rfl, rfl, ?_⟩
      refine ⟨_, rfl, rfl, _, rfl, ite2 (fun e => ?_) (fun e => ?_)⟩
      · have z := V.int.inj (of_decide_eq_true e)
        have z2 : n = 0 := by omega
        subst z2
        have q : some i = fault rows hole l := hf
        have k2 := k _ s2
        rw [← q] at k2
        exact ⟨_, rfl, k2⟩
      · obtain ⟨m, rfl⟩ : ∃ m, n = m + 1 := ⟨n - 1, by
          have : n ≠ 0 := fun q => e (by rw [q]; exact decide_eq_true rfl)
          omega⟩
        have hf2 : (match wO rows hole l[i] with | none => some i | some k => fl (wO rows hole) (l.drop (i + 1)) (m + k) (i + 1)) = fault rows hole l := hf
        have ein : inV (.str l[i]) (lvs hole) = decide (hole = true ∧ l[i] = "*") := by
          cases hole
          · simp [lvs]
            rfl
          · show inV (.str l[i]) ([("*" : Str)].map V.str) = _
            rw [inV_str]
            simp
        refine ⟨_, rfl, _, rfl, lv, _, rfl, .inr ((he.same s2).sq), rfl, (by cases hole <;> rfl), _, rfl, ?_⟩
        rw [ein]
        refine ite2 (fun c => ?_) (fun c => ?_)
        · have c2 := of_decide_eq_true c
          unfold wO at hf2
          rw [if_pos c2] at hf2
          refine ⟨_, rfl, _, _, rfl, rfl, some (.int ((i : Nat) : Int)), some (.str l[i]), m, ?_, s2, hf2⟩
          rw [show ((m : Nat) : Int) = ((m + 1 : Nat) : Int) - 1 by omega]
          rfl
        · have c2 : ¬ (hole = true ∧ l[i] = "*") := fun q => c (decide_eq_true q)
          refine ⟨_, rfl, _, rfl, b, C, dx, _, _, rfl, h1, B.cl, B.nW, lk_widths _ _ _ _, ww, _, rfl, DGet.k (k := .inr l[i]) h5, _, rfl, ?_⟩
          rcases nm_case R l[i] with q | q
          · rw [q.2.2.1]
            refine ifn (by decide) ?_
            unfold wO at hf2
            rw [if_neg c2, if_pos (show nmO rows l[i] < 0 by omega)] at hf2
            have k2 := k _ s2
            rw [← hf2] at k2
            exact ⟨_, rfl, k2⟩
          · rw [q.2.2.1]
            refine ifp rfl ?_
            unfold wO at hf2
            rw [if_neg c2, if_neg (show ¬ nmO rows l[i] < 0 by omega)] at hf2
            refine ⟨_, rfl, _, _, rfl, rfl, _, rfl, b, C, dx, _, _, rfl, h1, B.cl, B.nW, lk_widths _ _ _ _, _, rfl, ww, _, rfl, (by rw [← q.2.2.1]; exact DGet.k (k := .inr l[i]) h5), _, _, rfl, rfl, ?_⟩
            refine ⟨some (.int ((i : Nat) : Int)), some (.str l[i]), m + wR rows l[i], ?_, s2, hf2⟩
            rw [show ((m + wR rows l[i] : Nat) : Int) = ((m + 1 : Nat) : Int) - 1 + ((wR rows l[i] : Nat) : Int) by omega]
            rfl
    · rintro σ H1 ⟨x, y, n, rfl, s1, hf⟩
      have el : (sV l).length = l.length := by simp [sV]
      rw [el, List.drop_length] at hf
      have k2 := k _ s1
      cases n with
      | zero =>
        have q : none = fault rows hole l := hf
        rw [← q] at k2
        exact ⟨_, rfl, rfl, _, rfl, ifp (by simp) k2⟩
      | succ m =>
        have q : some l.length = fault rows hole l := hf
        rw [← q] at k2
        refine ⟨_, rfl, rfl, _, rfl, ifn (fun c => ?_) ⟨_, rfl, t, _, rfl, .inr ((ht.same s1).sq), ?_⟩⟩
        · have := V.int.inj (of_decide_eq_true c)
          omega
        · rw [el]
          exact k2
theorem fault_le {rows : List Row} {hole : Bool} {l : List Str} {i : Nat} (h : fault rows hole l = some i) : i ≤ l.length := by
  have := fl_le h
  omega
theorem ok_check_plant (T : Bk mg) (x : XS P w K mg A) (c_check_size : DefOk P w K mg base (L2.CX P w) 2 "check_size" (spSize K A.T)) (c_fault_place : DefOk P w K mg base CX0 1 "fault_place" (spFault C)) (D : Def0 K mg "check_plant" s_check_plant) : DefOk P w K mg base (L2.CX P w) 3 "check_plant" (spChk C A false) := by
  have x_InvalidPlant := x.xP
  refine D.okX sc_check_plant (fun vs H Q E h => ?_) (fun _ _ _ _ _ _ us hl => match us, hl with | [_, _], _ => rfl) (fun f cdv A outer s H vs Q E hr h => ?_)
  · obtain ⟨b, t, rows, l, rfl, _⟩ := h
    rfl
  · obtain ⟨b, t, rows, l, rfl, hB, R, ht, hsz, k⟩ := h
    refine ⟨_, (pss_cons (ps_expr (pe_d c_check_size (hr.mono (by decide)) (passes_call (takes_of rfl rfl rfl rfl) fun _ _ _ _ h => h) (pa_cons (pv 1) pa_nil)))
      (pss_cons (ps_set (i := 2) sc_check_plant.nd rfl (Or.inl rfl) (pe_d c_fault_place (hr.mono (by decide)) pass0 (pa_cons (pv 0) (pa_cons (pv 1) (pa_cons (pe_tup pa_nil) pa_nil)))))
      (pss_one (ps_if (pt_cmpR op_notN (pv 2) pe_non (nomark _))
        (pss_one (ps_raiseSup rfl x_InvalidPlant hr (takes_of rfl rfl rfl rfl) (pa_cons (pv 2) pa_nil)))
        pss_nil)))), ?_⟩
    have el : (sV l).length = l.length := by simp [sV]
    refine ⟨_, rfl, t, _, rfl, .inr ht.sq, fun hle => ?_, fun hgt d hd => ?_⟩
    · rw [el] at hle
      unfold due at k
      rw [if_neg (by omega)] at k
      refine ⟨_, rfl, _, rfl, Nat.zero_le _, fun e he => ?_⟩
      have s1 := (Same.refl H).upd_new (o := .tup []) he
      refine ⟨b, t, e, rows, l, false, rfl, hB.same s1, R, (ht.same s1), hsz, .of upd_same, fun H' s2 => ?_⟩
      have s3 := s1.trans s2
      cases hf : fault rows false l with
      | none =>
        rw [hf] at k
        exact ⟨_, rfl, rfl, _, rfl, ifn (by simp [ansF]) (k _ s3)⟩
      | some i =>
        rw [hf] at k
        refine ⟨_, rfl, rfl, _, rfl, ifp (by simp [ansF]) ⟨_, rfl, ⟨i, rfl, by have := fault_le hf; omega⟩, rfl, fun d hd => k _ d s3 hd⟩⟩
    · rw [el] at hgt
      unfold due at k
      rw [if_pos hgt] at k
      exact k _ d (Same.refl H) hd
end
end Sh
end
section
set_option Elab.async false
set_option linter.all false
set_option maxRecDepth 100000
set_option maxHeartbeats 2000000
set_option autoImplicit false
namespace Mth
/-- the starts of the first n branches above p -/
def starts {α : Type} (w : α → Nat) (l : List α) (p n : Nat) : List Int := (List.range n).map fun j => ((nxs w l (p + 1) j : Nat) : Int)
theorem starts_len {α : Type} (w : α → Nat) (l : List α) (p n : Nat) : (starts w l p n).length = n := by simp [starts]
theorem starts_succ {α : Type} (w : α → Nat) (l : List α) (p n : Nat) : starts w l p (n + 1) = starts w l p n ++ [((nxs w l (p + 1) n : Nat) : Int)] := by
  simp [starts, List.range_succ]
theorem starts_get {α : Type} (w : α → Nat) (l : List α) (p : Nat) {n j : Nat} (h : j < n) : (starts w l p n)[j]? = some ((nxs w l (p + 1) j : Nat) : Int) := by
  simp [starts, h]
theorem forest_le {α : Type} (w : α → Nat) : ∀ (l : List α) (n : Nat), forest w l n = true → n ≤ l.length
  | [], n, h => by rw [forest_nil w h]; exact Nat.le_refl _
  | k :: r, 0, _ => Nat.zero_le _
  | k :: r, n + 1, h => by
    have q := forest_le w r (w k + n) h
    rw [List.length_cons]
    omega
end Mth
namespace Sh
open PySem PySem.Spec PyProof.Rows L2
open C8 (pss_cut tCut)
open Evl (ixN_nat)
structure WfOk (rows : List Row) (l : List Str) : Prop where
  f : Mth.forest (wR rows) l 1 = true
  sz : l.length ≤ 2000
theorem PlantOk.wf {rows : List Row} {l : List Str} (x : PlantOk rows l) : WfOk rows l := ⟨x.f, x.sz⟩
theorem StumpOk.wf {rows : List Row} {l : List Str} (x : StumpOk rows l) : WfOk rows l := ⟨x.f, x.sz⟩
/-- a list of the ends -/
def EndsAt (H : Hp) (p : Addr) (rows : List Row) (l : List Str) : Prop := H p = some (.lst ((Mth.ends (wR rows) l).map V.int))
def spEnds (C : Addr) : Sp := fun vs H Q _ => ∃ (b t : Addr) (rows : List Row) (l : List Str), vs = [.ref b, .ref t] ∧ BedAt C H b rows ∧ ROk 8 rows ∧ Tq H t (l.map V.str) ∧ WfOk rows l ∧ ∀ H' p, Same H H' → H p = none → EndsAt H' p rows l → Q (.ref p) H'
/-- tuples of what f says -/
def TsAt {α : Type} (f : α → List V) (H : Hp) (ts : List Addr) (xs : List α) : Prop := ts.length = xs.length ∧ ∀ (i : Nat) (t : Addr) (x : α), ts[i]? = some t → xs[i]? = some x → Tq H t (f x)
theorem TsAt.keep {α : Type} {f : α → List V} {H H' : Hp} {ts : List Addr} {xs : List α} (x : TsAt f H ts xs) (k : TQ H H') : TsAt f H' ts xs := ⟨x.1, fun i t q a b => k _ _ (x.2 i t q a b)⟩
theorem TsAt.nil {α : Type} {f : α → List V} {H : Hp} : TsAt f H [] [] := ⟨rfl, fun i t x a => by simp at a⟩
theorem TsAt.snoc {α : Type} {f : α → List V} {H : Hp} {ts : List Addr} {xs : List α} {t : Addr} {q : α} (x : TsAt f H ts xs) (h : Tq H t (f q)) : TsAt f H (ts ++ [t]) (xs ++ [q]) := by
  refine ⟨by rw [List.length_append, List.length_append, x.1]; rfl, fun i u y a b => ?_⟩
  by_cases e : i < ts.length
  · rw [List.getElem?_append_left e] at a
    rw [List.getElem?_append_left (by rw [← x.1]; exact e)] at b
    exact x.2 i u y a b
  · rw [List.getElem?_append_right (by omega)] at a
    rw [List.getElem?_append_right (by rw [← x.1]; omega), ← x.1] at b
    have z : i - ts.length = 0 := by
      have := lt_of_get a
      simp at this
      omega
    rw [z] at a b
    cases a
    cases b
    exact h
theorem TsAt.at {α : Type} {f : α → List V} {H : Hp} {ts : List Addr} {xs : List α} (x : TsAt f H ts xs) {i : Nat} (h : i < xs.length) : ∃ t, ts[i]? = some t ∧ (ts.map V.ref)[i]? = some (.ref t) ∧ Tq H t (f xs[i]) := by
  have h2 : i < ts.length := by rw [x.1]; exact h
  exact ⟨ts[i], List.getElem?_eq_getElem h2, by rw [List.getElem?_map, List.getElem?_eq_getElem h2]; rfl, x.2 i _ _ (List.getElem?_eq_getElem h2) (List.getElem?_eq_getElem h)⟩
abbrev N_ends_of : List Str := ["bed", "tree", "ends", "place", "end", "_"]
theorem sc_ends_of : FnScope N_ends_of ["bed", "tree"] (defScope s_ends_of) := ⟨rfl, rfl, rfl, by decide +kernel, rfl, by decide +kernel, by decide +kernel⟩
section
variable {P : Program} {w : World} {K : PySem.W.Frag} {mg : Str → Option Value} {base : Heap} {C CT : Addr}
theorem ok_ends_of (T : Bk mg) (B : BedT K C) (D : Def0 K mg "ends_of" s_ends_of) : DefOk P w K mg base CX0 1 "ends_of" (spEnds C) := by
  refine D.ok sc_ends_of (fun vs H Q E h => ?_) (fun _ _ _ _ _ _ us hl => match us, hl with | [_, _], _ => rfl) (fun f cdv A outer s H vs Q E hr h => ?_)
  · obtain ⟨b, t, rows, l, rfl, _⟩ := h
    rfl
  · obtain ⟨b, t, rows, l, rfl, hB, R, ht, O, k⟩ := h
    have hu := hu_of hr
    have hsz := O.sz
    refine ⟨_, (pss_cons (ps_setLc (i := 2) (own := [("_", 5)]) (g := (gName 5)) (tt := tYes) rfl sc_ends_of.nd rfl rfl (sw_true rfl rfl rfl (by decide +kernel)) (pi_tup (pv 1)) (blkOk_by (N := N_ends_of) (sc := defScope s_ends_of) (by decide +kernel)) (fun _ _ _ _ _ => (pg_name (i := 5) sc_ends_of.nd rfl (Or.inl rfl))) (fun _ _ _ _ _ => pts_nil) (fun _ _ _ _ _ => pe_int))
      (pss_cons (ps_for PassesOwn.never rfl (pi_range3 (by rfl) T.b_range (pa_cons (pe_op op_sub (pe_callB call_len_seq (by rfl) T.b_len boot_len (pa_cons (pv 1) pa_nil)) pe_int) (pa_cons (pe_un un_neg pe_int) (pa_cons (pe_un un_neg pe_int) pa_nil)))) (pg_name (i := 3) sc_ends_of.nd rfl (Or.inl rfl))
        (pss_cons (ps_set (i := 4) sc_ends_of.nd rfl (Or.inl rfl) (pe_op op_add (pv 3) pe_int))
        (pss_cons (ps_for PassesOwn.never rfl (pi_range1 (by rfl) T.b_range (pa_cons (pe_dget2 hu (pe_fld (pv 0) rfl) (pe_ix ix_tup (pv 1) (pv 3) (fun _ _ => rfl)) pe_int ⟨rfl, rfl, rfl, rfl⟩) pa_nil)) (pg_name (i := 5) sc_ends_of.nd rfl (Or.inl rfl))
          (pss_one (ps_set (i := 4) sc_ends_of.nd rfl (Or.inl rfl) (pe_ix ix_list (pv 2) (pv 4) (fun _ _ => rfl)))))
        (pss_one (ps_asg (pv 4) (pg_sub (pv 2) (pv 3) set_list))))))
      (pss_one (ps_ret (pv 2))))), ?_⟩
    refine ⟨_, rfl, t, rfl, ⟨_, ht.sq⟩, fun D hD => lc_it (walk_tup (xs := l.map V.str)) (fun i H' => Same H H' ∧ H' D = some (.lst ((List.replicate i (0 : Int)).map V.int))) ⟨(Same.refl H).upd_new hD, upd_same⟩ (fun i H' _ ⟨q, _⟩ => (ht.same q).sq) ?_ ?_⟩
    · rintro i v H1 H2 hi ⟨q1, q2⟩ ⟨rfl, hv⟩
      refine ⟨rfl, _, q2, ?_, q1.upd_own hD, ?_⟩
      · rw [List.length_map, List.length_replicate]
        rw [List.length_map] at hi
        exact lt_line (by omega)
      · rw [upd_same, List.replicate_succ', List.map_append]
        rfl
    · rintro H1 ⟨q1, q2⟩
      rw [List.length_map] at q2
      refine ⟨_, rfl, t, _, rfl, .inr ((ht.same q1).sq), _, _, rfl, rfl, _, rfl, _, rfl, _, _, _, _, rfl, RgC.neg (by rw [List.length_map]; omega) (by rw [List.length_map]; omega) (by decide) (by decide), ?_⟩
      rw [show ((((l.map V.str).length : Nat) : Int) - 1 - -1).toNat = l.length by rw [List.length_map]; omega]
      refine for_rangeC (fun i σ H' => ∃ (x y z : Option V) (es : List Int), σ = [some (.ref b), some (.ref t), some (.ref D), x, y, z] ∧ Same H H' ∧ H' D = some (.lst (es.map V.int)) ∧ es.length = l.length ∧ ∀ j, l.length - i ≤ j → j < l.length → es[j]? = some ((Mth.nxs (wR rows) l j 1 : Nat) : Int)) ?_ ?_ ?_
      · exact ⟨none, none, none, _, rfl, q1, q2, List.length_replicate, fun j h1 h2 => absurd h1 (by omega)⟩
      · rintro i σ H2 hi ⟨x, y, z, es, rfl, s2, p2, el, eh⟩
        have epl : (((l.map V.str).length : Nat) : Int) - 1 + ((i : Nat) : Int) * -1 = ((l.length - 1 - i : Nat) : Int) := by rw [List.length_map]; omega
        rw [epl]
        generalize hp : l.length - 1 - i = p
        have hpl : p < l.length := by omega
        have hk : l[p]? = some l[p] := List.getElem?_eq_getElem hpl
        obtain ⟨dx, r, kk, ww, rk, ts, h1, h2, h3, h4, h5, h6⟩ := hB.same s2
        refine ⟨_, rfl, _, _, rfl, rfl, ?_⟩
        refine ⟨_, rfl, b, C, dx, _, _, rfl, h1, B.cl, B.nW, lk_widths _ _ _ _, ww, rfl, .inl ⟨_, .inl h5⟩, _, rfl, _, rfl, t, _, _, _, rfl, rfl, (ht.same s2).sq, str_at hpl rfl, _, DGet.k (k := .inr l[p]) h5, ?_⟩
        rw [get_wL R]
        have hw3 := wR_le R (l[p])
        refine ⟨_, rfl, (show -(2 ^ 62) ≤ ((wR rows l[p] : Nat) : Int) by omega), (show ((wR rows l[p] : Nat) : Int) < 2 ^ 62 by omega), ?_⟩
        rw [Int.toNat_natCast]
        refine for_range (fun i2 σ H' => ∃ (z : Option V), σ = [some (.ref b), some (.ref t), some (.ref D), some (.int ((p : Nat) : Int)), some (.int ((Mth.nxs (wR rows) l (p + 1) i2 : Nat) : Int)), z] ∧ H' = H2) ?_ ?_ ?_
        · refine ⟨z, ?_, rfl⟩
          rw [Mth.nxs_zero _ hpl]
          rfl
        · rintro i2 σ H3 hi2 ⟨z, rfl, rfl⟩
          obtain ⟨m1, m2, m3⟩ := Mth.end_step (wR rows) O.f hk hi2
          refine ⟨_, rfl, _, rfl, D, _, _, _, rfl, rfl, SqL.of p2, int_at (eh _ (by omega) m1) rfl, ?_⟩
          rw [m3]
          exact ⟨_, rfl, rfl⟩
        · rintro σ H3 ⟨z, rfl, rfl⟩
          rw [Mth.end_last _ hk]
          refine ⟨_, rfl, _, rfl, _, rfl, D, _, _, p, rfl, rfl, p2, ixz (by rw [List.length_map, el]; exact hpl) rfl, ?_⟩
          refine ⟨_, _, _, es.set p ((Mth.nxs (wR rows) l p 1 : Nat) : Int), rfl, s2.upd_own hD, by rw [upd_same, List.map_set], by rw [List.length_set]; exact el, fun j h1 h2 => ?_⟩
          by_cases e : j = p
          · subst e
            rw [List.getElem?_set_self (by omega)]
          · rw [List.getElem?_set_ne (Ne.symm e)]
            exact eh j (by omega) h2
      · rintro σ H2 ⟨x, y, z, es, rfl, s2, p2, el, eh⟩
        refine ⟨_, rfl, ?_⟩
        refine k _ _ s2 hD ?_
        unfold EndsAt
        rw [← Mth.ends_of_get (wR rows) el (fun j hj => eh j (by omega) hj)]
        exact p2
end
end Sh
end
section
set_option Elab.async false
set_option linter.all false
set_option maxRecDepth 100000
set_option maxHeartbeats 2000000
set_option autoImplicit false
namespace Mth
/-- the branch at a place -/
def cut {α : Type} (w : α → Nat) (l : List α) (a : Nat) : List α := (l.drop a).take (nxs w l a 1 - a)
def wd {α : Type} (w : α → Nat) (l : List α) (p : Nat) : Nat := match l[p]? with
  | some k => w k
  | none => 0
end Mth
namespace Sh
open PySem PySem.Spec PyProof.Rows L2
open C8 (pss_cut tCut)
open Evl (ixN_nat)
/-- the ranks of a plant's knots -/
def RanksOf (ns : List Str) (l : List Str) (ks : List Int) : Prop := ks.length = l.length ∧ ∀ (i : Nat) (z : Str), l[i]? = some z → ∃ j : Nat, ns[j]? = some z ∧ ks[i]? = some ((j : Nat) : Int)
theorem RanksOf.uniq {ns l : List Str} (nd : ns.Nodup) {ks ks' : List Int} (x : RanksOf ns l ks) (y : RanksOf ns l ks') : ks = ks' := by
  refine List.ext_getElem? fun i => ?_
  by_cases h : i < l.length
  · obtain ⟨j, a, b⟩ := x.2 i _ (List.getElem?_eq_getElem h)
    obtain ⟨j', a', b'⟩ := y.2 i _ (List.getElem?_eq_getElem h)
    obtain ⟨hj, ej⟩ := List.getElem?_eq_some_iff.mp a
    obtain ⟨hj', ej'⟩ := List.getElem?_eq_some_iff.mp a'
    have := (List.getElem_inj nd).mp (ej.trans ej'.symm)
    subst this
    rw [b, b']
  · have a := x.1
    have b := y.1
    rw [List.getElem?_eq_none (by omega), List.getElem?_eq_none (by omega)]
theorem RanksOf.snoc {ns l : List Str} {ks : List Int} {i j : Nat} {z : Str} (x : RanksOf ns (l.take i) ks) (h : l[i]? = some z) (hj : ns[j]? = some z) : RanksOf ns (l.take (i + 1)) (ks ++ [((j : Nat) : Int)]) := by
  have hi := lt_of_get h
  have hk : ks.length = i := by rw [x.1, List.length_take]; omega
  refine ⟨by rw [List.length_append, hk, List.length_take]; simp; omega, fun k u hu => ?_⟩
  rw [← take_snoc h] at hu
  by_cases e : k < i
  · rw [List.getElem?_append_left (by rw [List.length_take]; omega)] at hu
    obtain ⟨j', a, b⟩ := x.2 k u hu
    exact ⟨j', a, by rw [List.getElem?_append_left (by omega)]; exact b⟩
  · have hlt := lt_of_get hu
    rw [List.length_append, List.length_take] at hlt
    have ek : k = i := by simp at hlt; omega
    subst ek
    rw [List.getElem?_append_right (by rw [List.length_take]; omega), List.length_take] at hu
    rw [show k - min k l.length = 0 by omega] at hu
    cases hu
    exact ⟨j, hj, by rw [List.getElem?_append_right (by omega), hk, Nat.sub_self]; rfl⟩
theorem Way.same {A : XA} {E : XK} {H H1 : Hp} {p q : Prop} (s : Same H H1) (h : p → q) : ∀ {o : Option Ex}, Way A E H o p → Way A E H1 o q
  | none, k => h k
  | some _, k => Rz.same k s
section
variable {P : Program} {w : World} {K : PySem.W.Frag} {mg : Str → Option Value} {base : Heap} {C CT : Addr} {A : XA}
end
end Sh
end
section
set_option Elab.async false
set_option linter.all false
set_option maxRecDepth 100000
set_option maxHeartbeats 2000000
set_option autoImplicit false
namespace Mth
end Mth
namespace Sh
open PySem PySem.Spec PyProof.Rows L2
open C8 (pss_cut tCut)
open Evl (ixN_nat)
theorem Def0.star {P : Program} {w : World} {K : PySem.W.Frag} {mg : Str → Option Value} {base : Heap} {k : Nat} {x : Str} {sp : Sp} {st : Stmt} {N ps : List Str} {pv : Str} (D : Def0 K mg x st) (S : FnScope N (ps ++ [pv]) (defScope st))
    (hb : ∀ (kV doc pm : Value) (an : Option Addr) (cdv ct : Value) (us rest : List Value), us.length = ps.length → bindArgs (PySem.W.fnOf x x (defArgs st) (defBody st) (defScope st) .none kV doc pm an cdv ct) ⟨us ++ rest, []⟩ = (newTuple rest >>= fun t => pure (ps.zip us ++ [(pv, t)])))
    (hbody : ∀ (f : Addr) (cdv : Value) (A : Around) (outer : List Env) (s : Shared) (H : Hp) (vs : List V) (Q : VK) (E : XK), Room k (A.deeper (envOfC x (defScope st) s.heap.objs.size f cdv)) → sp vs H Q E →
      ∃ t, PSs (cxOf (L2.CX P w) P w K mg base N x (defScope st) f cdv A outer s H E) (defBody st) t ∧ t { nx := fun _ H' => Q .non H', rt := Q } (start N vs) H) :
    DefOk P w K mg base (L2.CX P w) (k + 1) x (fun vs H Q E => ∃ ws rest, vs = ws ++ rest ∧ ws.length = ps.length ∧ rest.length ≤ sizeLine ∧ ∀ p, H p = Option.none → sp (ws ++ [V.ref p]) (upd H p (.tup rest)) Q E) := by
  obtain ⟨f, fd, hm, F⟩ := D
  obtain ⟨oc, od, dV, kV, doc, pm, an, cdv, ct, osl, rfl, lk, hcd, hdv, _⟩ := F.ex
  have hd : dV = .none := by
    rcases hdv with ⟨_, h⟩ | h
    · exact h
    · exact absurd rfl h.1
  subst hd
  exact ⟨f, hm, F.kp, StX.fn_star lk hcd S StX.cxUp (hb kV doc pm an cdv ct) fun A outer s H vs Q E hr hsp => hbody f cdv A outer s H vs Q E hr hsp⟩
theorem slA_lo {K : PySem.W.Frag} {H : Hp} {a : Addr} {xs : List V} {Q : VK} {j : Nat} (ha : Tq H a xs) (hj : j ≤ xs.length) (k : ∀ r H', Same H H' → Tq H' r (xs.take j) → Q (.ref r) H') : rSlA K (.ref a) none (some (j : Int)) H Q := by
  have e2 : HT.sIx xs.length xs.length (some (j : Int)) = j := by rw [HT.sIx_nat]; omega
  have e1 : HT.sIx xs.length 0 none = 0 := rfl
  refine ⟨a, xs, rfl, ha.sq, fun h => ?_, fun _ p hp => ?_⟩
  · rw [e2] at h
    refine k a H (Same.refl H) ?_
    rw [h.2, List.take_length]
    exact ha
  · have hc : cutV xs none (some (j : Int)) = xs.take j := by
      unfold cutV
      rw [e1, e2, List.drop_zero, Nat.sub_zero]
    rw [hc]
    exact k p _ ((Same.refl H).upd_new hp) (.of upd_same)
theorem slA_hi {K : PySem.W.Frag} {H : Hp} {a : Addr} {xs : List V} {Q : VK} {i : Nat} (ha : Tq H a xs) (hi : i ≤ xs.length) (k : ∀ r H', Same H H' → Tq H' r (xs.drop i) → Q (.ref r) H') : rSlA K (.ref a) (some (i : Int)) none H Q := by
  have e1 : HT.sIx xs.length 0 (some (i : Int)) = i := by rw [HT.sIx_nat]; omega
  have e2 : HT.sIx xs.length xs.length none = xs.length := rfl
  refine ⟨a, xs, rfl, ha.sq, fun h => ?_, fun _ p hp => ?_⟩
  · rw [e1] at h
    refine k a H (Same.refl H) ?_
    rw [h.1, List.drop_zero]
    exact ha
  · have hc : cutV xs (some (i : Int)) none = xs.drop i := by
      unfold cutV
      rw [e1, e2]
      exact List.take_of_length_le (by rw [List.length_drop]; omega)
    rw [hc]
    exact k p _ ((Same.refl H).upd_new hp) (.of upd_same)
def put (w : Str → Nat) (l : List Str) (q : Nat) (o : List Str) : List Str := l.take q ++ o ++ l.drop (Mth.nxs w l q 1)
section
variable {P : Program} {w : World} {K : PySem.W.Frag} {mg : Str → Option Value} {base : Heap} {C CN CT : Addr} {A : XA}
end
end Sh
end
section
set_option Elab.async false
set_option linter.all false
set_option autoImplicit false
namespace Mth
variable {α : Type} [DecidableEq α]
section
variable (w : α → Nat) (hole : α)
end
/-- the first n entries of a stump, its holes filled -/
def fil (hole : α) (ls : List (List α)) (l : List α) : Nat → List α
  | 0 => []
  | i + 1 => fil hole ls l i ++ match l[i]? with
    | some z => if z = hole then ls.getD ((l.take i).count hole) [] else [z]
    | none => []
end Mth
end
section
set_option Elab.async false
set_option linter.all false
set_option maxRecDepth 100000
set_option maxHeartbeats 2000000
set_option autoImplicit false
namespace Sh
open PySem PySem.Spec PyProof.Rows L2
open C8 (pss_cut tCut)
open Evl (ixN_nat)
abbrev fill (ls : List (List Str)) (l : List Str) : List Str := Mth.fil ("*" : Str) ls l l.length
def RanksS (ns l : List Str) (ks : List Int) : Prop := ks.length = l.length ∧ ∀ (i : Nat) (z : Str), l[i]? = some z → (∃ j : Nat, ns[j]? = some z ∧ ks[i]? = some ((j : Nat) : Int)) ∨ (z = "*" ∧ ks[i]? = some ((ns.length : Nat) : Int))
theorem RanksS.snoc {ns l : List Str} {ks : List Int} {i : Nat} {z : Str} {k : Int} (x : RanksS ns (l.take i) ks) (h : l[i]? = some z) (hk : (∃ j : Nat, ns[j]? = some z ∧ k = ((j : Nat) : Int)) ∨ (z = "*" ∧ k = ((ns.length : Nat) : Int))) : RanksS ns (l.take (i + 1)) (ks ++ [k]) := by
  have hil := lt_of_get h
  have hx := x.1
  rw [List.length_take] at hx
  have hm : ks.length = i := by omega
  refine ⟨by rw [List.length_append, List.length_take, List.length_singleton]; omega, fun j y hj => ?_⟩
  rw [← take_snoc h] at hj
  by_cases e : j < i
  · rw [List.getElem?_append_left (by rw [List.length_take]; omega)] at hj
    rw [List.getElem?_append_left (by omega)]
    exact x.2 j y hj
  · have hj2 : j = i := by
      have q := lt_of_get hj
      rw [List.length_append, List.length_take, List.length_singleton] at q
      omega
    subst hj2
    rw [List.getElem?_append_right (by rw [List.length_take]; omega)] at hj
    rw [List.length_take, show j - min j l.length = 0 by omega] at hj
    cases hj
    rw [List.getElem?_append_right (by omega), hm, Nat.sub_self]
    rcases hk with ⟨n, a, b⟩ | ⟨a, b⟩
    · exact .inl ⟨n, a, by rw [b]; rfl⟩
    · exact .inr ⟨a, by rw [b]; rfl⟩
section
variable {P : Program} {w : World} {K : PySem.W.Frag} {mg : Str → Option Value} {base : Heap} {C : Addr} {A : XA}
end
end Sh
end
section
set_option Elab.async false
set_option linter.all false
set_option maxRecDepth 100000
set_option maxHeartbeats 2000000
set_option autoImplicit false
namespace Sh
open PySem PySem.Spec PyProof.Rows L2
open C8 (pss_cut tCut)
open Evl (ixN_nat)
/-- a pair of branches that stand at one place -/
def PairOk (rows : List Row) (q : List Str × List Str) : Prop := (∃ z, q.1 = [z] ∧ q.2 = [z]) ∨ ∃ x y a b, q.1 = x :: a ∧ q.2 = y :: b ∧ x ≠ y ∧ Mth.forest (wR rows) (x :: a) 1 = true ∧ Mth.forest (wR rows) (y :: b) 1 = true
theorem PairOk.pos {rows : List Row} {q : List Str × List Str} (h : PairOk rows q) : 0 < q.1.length ∧ 0 < q.2.length := by
  rcases h with ⟨z, a, b⟩ | ⟨x, y, a, b, e1, e2, _⟩
  · rw [a, b]; exact ⟨Nat.one_pos, Nat.one_pos⟩
  · rw [e1, e2]; exact ⟨Nat.succ_pos _, Nat.succ_pos _⟩
def PrsAt (H : Hp) (D : Addr) (ps : List (List Str × List Str)) : Prop := ∃ ts : List Addr, H D = some (.lst (ts.map V.ref)) ∧ ts.length = ps.length ∧ ∀ (i : Nat) (t : Addr) (q : List Str × List Str), ts[i]? = some t → ps[i]? = some q → ∃ a b, Tq H t [.ref a, .ref b] ∧ Tq H a (sV q.1) ∧ Tq H b (sV q.2)
section
variable {P : Program} {w : World} {K : PySem.W.Frag} {mg : Str → Option Value} {base : Heap} {C : Addr} {A : XA}
end
end Sh
end
section
set_option Elab.async false
set_option linter.all false
set_option maxRecDepth 100000
set_option maxHeartbeats 2000000
set_option autoImplicit false
namespace Sh
open PySem PySem.Spec PyProof.Rows L2
open C8 (pss_cut tCut)
open Evl (ixN_nat)
/-- the two differ and neither is a hole -/
def clash (q : List Str × List Str) : Prop := q.1 ≠ q.2 ∧ ¬ (q.1.head? = some ("*" : Str) ∨ q.2.head? = some ("*" : Str))
instance (q : List Str × List Str) : Decidable (clash q) := inferInstanceAs (Decidable (_ ∧ _))
theorem PairOk.other {rows : List Row} {q : List Str × List Str} (h : PairOk rows q) (n : q.1 ≠ q.2) : Mth.forest (wR rows) q.1 1 = true ∧ Mth.forest (wR rows) q.2 1 = true := by
  rcases h with ⟨z, a, b⟩ | ⟨x, y, a, b, e1, e2, _, f1, f2⟩
  · exact absurd (a.trans b.symm) n
  · rw [e1, e2]
    exact ⟨f1, f2⟩
section
variable {P : Program} {w : World} {K : PySem.W.Frag} {mg : Str → Option Value} {base : Heap} {C : Addr} {A : XA}
end
end Sh
end
section
set_option Elab.async false
set_option linter.all false
set_option maxRecDepth 100000
set_option maxHeartbeats 2000000
set_option autoImplicit false
namespace Sh
open PySem PySem.Spec PyProof.Rows L2
open C8 (pss_cut tCut)
open Evl (ixN_nat)
def clashes (ps : List (List Str × List Str)) : Prop := ∃ q ∈ ps, clash q
instance (ps : List (List Str × List Str)) : Decidable (clashes ps) := inferInstanceAs (Decidable (∃ q, q ∈ ps ∧ clash q))
theorem PrsAt.at {H : Hp} {D : Addr} {ps : List (List Str × List Str)} (h : PrsAt H D ps) : ∃ ts : List Addr, H D = some (.lst (ts.map V.ref)) ∧ (ts.map V.ref).length = ps.length ∧ ∀ (i : Nat) (hi : i < ps.length), ∃ t a b, (ts.map V.ref)[i]? = some (.ref t) ∧ Tq H t [.ref a, .ref b] ∧ Tq H a (sV ps[i].1) ∧ Tq H b (sV ps[i].2) := by
  obtain ⟨ts, t1, t2, t3⟩ := h
  refine ⟨ts, t1, by rw [List.length_map, t2], fun i hi => ?_⟩
  have ht : i < ts.length := by omega
  obtain ⟨a, b, y1, y2, y3⟩ := t3 i ts[i] ps[i] (List.getElem?_eq_getElem ht) (List.getElem?_eq_getElem hi)
  exact ⟨ts[i], a, b, by rw [List.getElem?_map, List.getElem?_eq_getElem ht]; rfl, y1, y2, y3⟩
/-- the union of two stumps, read from left to right -/
inductive Un (w : Str → Nat) : List Str → List Str → Option (List Str) → Prop
  | nil (r : List Str) : Un w r [] (some [])
  | same (a : Str) (l m : List Str) (o : Option (List Str)) : Un w l m o → Un w (a :: l) (a :: m) (o.map fun u => [a] ++ u)
  | right (t l m : List Str) (o : Option (List Str)) : Mth.forest w t 1 = true → t.head? ≠ some "*" → Un w l m o → Un w (t ++ l) ("*" :: m) (o.map fun u => t ++ u)
  | left (t l m : List Str) (o : Option (List Str)) : Mth.forest w t 1 = true → t.head? ≠ some "*" → Un w l m o → Un w ("*" :: l) (t ++ m) (o.map fun u => t ++ u)
  | clash (a b : Str) (l m : List Str) : a ≠ b → a ≠ "*" → b ≠ "*" → Un w (a :: l) (b :: m) none
theorem Un.le {w : Str → Nat} {l m : List Str} {o : Option (List Str)} (h : Un w l m o) : ∀ u, o = some u → u.length ≤ l.length + m.length := by
  induction h with
  | nil r => intro u e; cases e; exact Nat.zero_le _
  | same a l m o h ih =>
    intro u e
    cases o with
    | none => cases e
    | some v =>
      cases e
      have := ih v rfl
      simp only [List.length_append, List.length_cons, List.length_nil]
      omega
  | right t l m o ht h1 h ih =>
    intro u e
    cases o with
    | none => cases e
    | some v =>
      cases e
      have := ih v rfl
      simp only [List.length_append, List.length_cons]
      omega
  | left t l m o ht h1 h ih =>
    intro u e
    cases o with
    | none => cases e
    | some v =>
      cases e
      have := ih v rfl
      simp only [List.length_append, List.length_cons]
      omega
  | clash a b l m h1 h2 h3 => intro u e; cases e
section
variable {P : Program} {w : World} {K : PySem.W.Frag} {mg : Str → Option Value} {base : Heap} {C : Addr} {A : XA}
end
end Sh
end
section
set_option Elab.async false
set_option linter.all false
set_option maxRecDepth 100000
set_option maxHeartbeats 2000000
namespace Sh
open PySem PySem.Spec PyProof.Rows L2
theorem dpa_of {α : Type} {K : PySem.W.Frag} {H : Hp} {g : α → PyData} : ∀ {vs : List V} {xs : List α}, vs.length = xs.length → (∀ (i : Nat) (v : V) (x : α), vs[i]? = some v → xs[i]? = some x → Dp K H v (g x)) → DpAll K H vs (xs.map g)
  | [], [], _, _ => .nil
  | v :: vs, x :: xs, hl, h => .cons (h 0 v x rfl rfl) (dpa_of (by simpa using hl) fun i w y a b => h (i + 1) w y a b)
  | [], _ :: _, hl, _ => by simp at hl
  | _ :: _, [], hl, _ => by simp at hl
theorem shp_of {ds : List PyData} (h : ∀ d ∈ ds, d.canLay0 = true ∧ d.depth ≤ 63) : SeqAt.shaped (.list ds) = true := by
  have a : PyData.canLayAll0 ds = true ∧ PyData.depthAll ds ≤ 63 := by
    induction ds with
    | nil => exact ⟨rfl, by decide⟩
    | cons d r ih =>
      obtain ⟨q1, q2⟩ := h d List.mem_cons_self
      obtain ⟨i1, i2⟩ := ih fun x hx => h x (List.mem_cons_of_mem _ hx)
      refine ⟨by simp [PyData.canLayAll0, q1, i1], ?_⟩
      show max (PyData.depth d) (PyData.depthAll r) ≤ 63
      exact Nat.max_le.mpr ⟨q2, i2⟩
  have q : PyData.canLay0 (.list ds) = true := by rw [PyData.canLay0]; exact a.1
  have r : PyData.depth (.list ds) ≤ 64 := by rw [PyData.depth]; omega
  unfold SeqAt.shaped
  rw [q, decide_eq_true r]
  rfl
def rowD (q : Row) : PyData := .tuple [.str q.1, .int q.2]
theorem shp_rows {rows : List Row} (h : ∀ q ∈ rows, PyData.strOk q.1 = true) : SeqAt.shaped (.list (rows.map rowD)) = true := shp_of fun d hd => by
  obtain ⟨q, hq, rfl⟩ := List.mem_map.mp hd
  simp [rowD, h q hq, PyData.canLay0, PyData.canLayAll0, PyData.depth, PyData.depthAll]
def bgM (c : Addr) (z1 z2 z3 : Int) : List V := [.ref c, .int z1, .int z2, .int z3]
def BagM (H : Hp) (a c : Addr) : Prop := c ≠ a ∧ ∃ z1 z2 z3, ∃ cs : List Int, H a = some (.lst (bgM c z1 z2 z3)) ∧ H c = some (.lst (cs.map V.int)) ∧ cs.length ≤ 63
theorem BagM.lsts {H : Hp} {a c : Addr} (h : BagM H a c) : (∃ ys, H a = some (.lst ys)) ∧ ∃ ys, H c = some (.lst ys) := by
  obtain ⟨n, z1, z2, z3, cs, h1, h2, _⟩ := h
  exact ⟨⟨_, h1⟩, _, h2⟩
theorem BagM.same {H H' : Hp} {a c : Addr} (h : BagM H a c) (s : Same H H') : BagM H' a c := by
  obtain ⟨n, z1, z2, z3, cs, h1, h2, l⟩ := h
  exact ⟨n, z1, z2, z3, cs, s _ _ h1, s _ _ h2, l⟩
theorem BagM.ne {a b c : Addr} {H : Hp} (hb : BagM H a c) (h : H b = none) : b ≠ a ∧ b ≠ c := by
  obtain ⟨⟨y, h1⟩, z, h2⟩ := hb.lsts
  subst_vars
  refine ⟨fun e => ?_, fun e => ?_⟩
  · rw [e, h1] at h
    cases h
  · rw [e, h2] at h
    cases h
theorem BagM.upd_ne {a p c : Addr} {H : Hp} {o : HO} (h : BagM H a c) (n : p ≠ a ∧ p ≠ c) : BagM (upd H p o) a c := by
  obtain ⟨nn, z1, z2, z3, cs, h1, h2, l⟩ := h
  exact ⟨nn, z1, z2, z3, cs, by rw [L2.upd_ne (Ne.symm n.1)]; exact h1, by rw [L2.upd_ne (Ne.symm n.2)]; exact h2, l⟩
theorem BagM.new {H : Hp} {a c p : Addr} {o : HO} (h : BagM H a c) (hp : H p = none) : BagM (upd H p o) a c := h.upd_ne (h.ne hp)
end Sh
end
section
set_option Elab.async false
set_option linter.all false
set_option maxRecDepth 100000
set_option maxHeartbeats 2000000
namespace Sh
open PySem PySem.Spec PyProof.Rows L2
open TL (tl joinL tl_join join_eq tl_append)
open C8 (pss_cut tCut)
open Evl (ixN_nat)
theorem app_sg (x : Str) (c : Nat) : (x ++ sg c).cps.toList = x.cps.toList ++ [c] := tl_append x (sg c)
theorem app_tl (x y : Str) : (x ++ y).cps.toList = x.cps.toList ++ y.cps.toList := tl_append x y
theorem size_tl (x : Str) : x.cps.size = x.cps.toList.length := (Array.length_toList).symm
theorem cutS_to (z : Str) {j : Nat} (h : j ≤ z.cps.size) : (cutS z none (some (j : Int))).cps.toList = z.cps.toList.take j := by
  have h1 : HT.sIx z.length 0 none = 0 := rfl
  have h2 : HT.sIx z.length z.length (some (j : Int)) = j := by
    rw [HT.sIx_nat, str_len]
    omega
  unfold cutS
  rw [h1, h2]
  simp
/-- a word with another letter at a place -/
def sw (z : Str) (j c : Nat) : Str := cutS z none (some (j : Int)) ++ sg c ++ cutS z (some ((j : Int) + 1)) none
section
variable {P : Program} {w : World} {K : PySem.W.Frag} {mg : Str → Option Value} {base : Heap}
end
end Sh
end
section
set_option Elab.async false
set_option linter.all false
set_option maxRecDepth 100000
set_option maxHeartbeats 2000000
namespace Sh
open PySem PySem.Spec PyProof.Rows L2
open C8 (pss_cut tCut)
open Evl (ixN_nat)
def spArity : Sp := fun vs H Q _ => ∃ (r : Addr) (rows : List Row), vs = [.ref r] ∧ RowsAt H r rows ∧ ROk 4 rows ∧ ∀ (H' : Hp) (d : Addr), Same H H' → H d = none → H' d = some (.dK (wL rows)) → Q (.ref d) H'
theorem ROk.up {rows : List Row} (R : ROk 4 rows) : ROk 8 rows := ⟨R.pos, by have := R.len; omega, R.nd, R.nm, R.wd, R.leaf⟩
section
variable {P : Program} {w : World} {K : PySem.W.Frag} {mg : Str → Option Value} {base : Heap} {C : Addr}
end
end Sh
end
section
set_option Elab.async false
set_option linter.all false
set_option maxRecDepth 100000
set_option maxHeartbeats 4000000
namespace Sh
open PySem PySem.Spec PyProof.Rows L2
open C8 (pss_cut tCut)
open Evl (ixN_nat)
/-- a box: two numbers -/
def BxAt (H : Hp) (x : Addr) : Prop := ∃ a b : Int, H x = some (.lst [.int a, .int b])
theorem BxAt.same {H H' : Hp} {x : Addr} (h : BxAt H x) (s : Same H H') : BxAt H' x := by
  obtain ⟨a, b, h⟩ := h
  exact ⟨a, b, s _ _ h⟩
theorem BxAt.ne {H : Hp} {x p : Addr} (h : BxAt H x) (hp : H p = none) : p ≠ x := fun e => by
  obtain ⟨a, b, h⟩ := h
  rw [e, h] at hp
  cases hp
theorem BxAt.upd_ne {H : Hp} {x p : Addr} {o : HO} (h : BxAt H x) (n : p ≠ x) : BxAt (upd H p o) x := by
  obtain ⟨a, b, h⟩ := h
  exact ⟨a, b, by rw [L2.upd_ne (Ne.symm n)]; exact h⟩
def spPick51 : Sp := fun vs H Q _ => ∃ (x : Addr) (m : Int), vs = [.ref x, .int m] ∧ BxAt H x ∧ 0 < m ∧ m < 1000000000 ∧ ∀ (H' : Hp) (e : Int), Kp x H H' → BxAt H' x → 0 ≤ e → e < m → Q (.int e) H'
def spCell51 (K : PySem.W.Frag) : Sp := fun vs H Q _ => ∃ (s : Addr) (ns : List Int) (k : Nat), vs = [.ref s, .int (k : Nat)] ∧ SqL K H s (ns.map V.int) ∧ (∀ H', Same H H' → SqL K H' s (ns.map V.int)) ∧ ns.length ≤ 63 ∧ k < 3 ∧ ∀ (H' : Hp) (e : Int), Same H H' → Q (.int e) H'
def spBox51 (K : PySem.W.Frag) : Sp := fun vs H Q _ => ∃ (s : Addr) (ns : List Int) (k : Nat), vs = [.ref s, .int (k : Nat)] ∧ SqL K H s (ns.map V.int) ∧ (∀ H', Same H H' → SqL K H' s (ns.map V.int)) ∧ ns.length ≤ 63 ∧ k < 3 ∧ ∀ (H' : Hp) (x : Addr), Same H H' → H x = none → BxAt H' x → Q (.ref x) H'
def spNum51 : Sp := fun vs H Q _ => ∃ (x : Addr), vs = [.ref x] ∧ BxAt H x ∧ ∀ (H' : Hp) (e : Int), Kp x H H' → BxAt H' x → 0 ≤ e → e ≤ 1000 → Q (.int e) H'
def spBad51 : Sp := fun vs H Q _ => ∃ (x : Addr), vs = [.ref x] ∧ BxAt H x ∧ ∀ (H' : Hp) (e : Int), Kp x H H' → BxAt H' x → (e < 0 ∨ 1000 < e) → -1000 ≤ e → e ≤ 1000000000 → Q (.int e) H'
abbrev N_law_cell : List Str := ["script", "k"]
theorem sc_law_cell : FnScope N_law_cell ["script", "k"] (defScope s_law_cell) := ⟨rfl, rfl, rfl, by decide +kernel, rfl, by decide +kernel, by decide +kernel⟩
abbrev N_law_box : List Str := ["script", "k", "cell", "seed"]
theorem sc_law_box : FnScope N_law_box ["script", "k"] (defScope s_law_box) := ⟨rfl, rfl, rfl, by decide +kernel, rfl, by decide +kernel, by decide +kernel⟩
abbrev N_law_pick : List Str := ["box", "many", "digit"]
theorem sc_law_pick : FnScope N_law_pick ["box", "many"] (defScope s_law_pick) := ⟨rfl, rfl, rfl, by decide +kernel, rfl, by decide +kernel, by decide +kernel⟩
abbrev N_law_number : List Str := ["box", "way"]
theorem sc_law_number : FnScope N_law_number ["box"] (defScope s_law_number) := ⟨rfl, rfl, rfl, by decide +kernel, rfl, by decide +kernel, by decide +kernel⟩
section
variable {P : Program} {w : World} {K : PySem.W.Frag} {mg : Str → Option Value} {base : Heap}
theorem ok_pick51 (T : Bl mg) (D : Def0 K mg "_law_pick" s_law_pick) : DefOk P w K mg base CX0 1 "_law_pick" spPick51 := by
  refine D.ok sc_law_pick (fun vs H Q E h => ?_) (fun _ _ _ _ _ _ us hl => match us, hl with | [_, _], _ => rfl) (fun f cdv A outer s H vs Q E hr h => ?_)
  · obtain ⟨x, m, rfl, _⟩ := h
    rfl
  · obtain ⟨x, m, rfl, ⟨a, b, hx⟩, m0, m1, k⟩ := h
    refine ⟨_, (pss_cons (ps_if (pt_cmpR op_gt (pe_ix ix_list (pv 0) pe_int (fun _ _ => rfl)) pe_int (nomark _))
        (pss_cons (ps_set (i := 2) sc_law_pick.nd rfl (Or.inl rfl) (pe_op op_mod (pe_callTy call_int1 (by rfl) T.b_int (by decide +kernel) (pa_cons (pe_ix ix_list (pv 0) pe_int (fun _ _ => rfl)) pa_nil)) (pv 1)))
        (pss_cons (ps_asg (pe_op op_fdiv (pe_ix ix_list (pv 0) pe_int (fun _ _ => rfl)) (pv 1)) (pg_sub (pv 0) pe_int set_list))
        (pss_one (ps_ret (pv 2)))))
        pss_nil)
      (pss_cons (ps_asg (pe_op op_mod (pe_callTy call_int1 (by rfl) T.b_int (by decide +kernel) (pa_cons (pe_op op_add (pe_op op_mul (pe_ix ix_list (pv 0) pe_int (fun _ _ => rfl)) pe_int) pe_int) pa_nil)) pe_int) (pg_sub (pv 0) pe_int set_list))
      (pss_one (ps_ret (pe_op op_mod (pe_op op_mod (pe_callTy call_int1 (by rfl) T.b_int (by decide +kernel) (pa_cons (pe_op op_add (pe_op op_mul (pe_callTy call_int1 (by rfl) T.b_int (by decide +kernel) (pa_cons (pe_op op_fdiv (pe_ix ix_list (pv 0) pe_int (fun _ _ => rfl)) pe_int) pa_nil)) pe_int) pe_int) pa_nil)) pe_int) (pv 1)))))), ?_⟩
    refine ⟨_, rfl, x, _, _, _, rfl, rfl, SqL.of hx, atI_nat (j := 0) rfl, _, _, rfl, rfl, _, rfl, ite2 (fun _ => ?_) (fun _ => ?_)⟩
    · refine ⟨_, rfl, x, _, _, _, rfl, rfl, SqL.of hx, atI_nat (j := 0) rfl, .inl ⟨_, rfl, ?_⟩⟩
      refine ⟨_, rfl, _, _, rfl, rfl, by omega, ?_⟩
      refine ⟨_, rfl, x, _, _, _, rfl, rfl, SqL.of hx, atI_nat (j := 0) rfl, _, rfl, _, _, rfl, rfl, ⟨by omega, by omega⟩, _, rfl, x, _, _, 0, rfl, rfl, hx, ixN_nat (by show 0 < 2; decide), ?_⟩
      refine ⟨_, rfl, ?_⟩
      exact k _ _ (Kp.refl x H).upd ⟨_, _, upd_same⟩ (Int.emod_nonneg _ (by omega)) (Int.emod_lt_of_pos _ m0)
    · refine ⟨_, rfl, x, _, _, _, rfl, rfl, SqL.of hx, atI_nat (j := 1) rfl, _, _, rfl, rfl, .inr ⟨by decide, by decide⟩, _, _, rfl, rfl, .inl ⟨_, rfl, ?_⟩⟩
      refine ⟨_, _, rfl, rfl, by show (0 : Int) < 2147483647; decide, _, rfl, x, _, _, 1, rfl, rfl, hx, ixN_nat (by show 1 < 2; decide), ?_⟩
      have kp : Kp x H (upd H x (.lst ([V.int a, V.int b].set 1 (.int ((b * 48271 + 69621) % 2147483647))))) := (Kp.refl x H).upd
      have h1 : (upd H x (.lst ([V.int a, V.int b].set 1 (.int ((b * 48271 + 69621) % 2147483647))))) x = some (.lst [.int a, .int ((b * 48271 + 69621) % 2147483647)]) := upd_same
      show _
      generalize upd H x (.lst ([V.int a, V.int b].set 1 (.int ((b * 48271 + 69621) % 2147483647)))) = H1 at kp h1
      refine ⟨_, rfl, x, _, _, _, rfl, rfl, SqL.of h1, atI_nat (j := 1) rfl, _, _, rfl, rfl, ⟨by decide, by decide⟩, .inl ⟨_, rfl, ?_⟩⟩
      refine ⟨_, _, rfl, rfl, .inr ⟨by decide, by decide⟩, _, _, rfl, rfl, .inl ⟨_, rfl, ?_⟩⟩
      refine ⟨_, _, rfl, rfl, by show (0 : Int) < 999983; decide, _, rfl, _, _, rfl, rfl, by omega, ?_⟩
      exact k _ _ kp ⟨_, _, h1⟩ (Int.emod_nonneg _ (by omega)) (Int.emod_lt_of_pos _ m0)
theorem ok_cell51 (T : Bl mg) (D : Def0 K mg "_law_cell" s_law_cell) : DefOk P w K mg base CX0 1 "_law_cell" (spCell51 K) := by
  refine D.ok sc_law_cell (fun vs H Q E h => ?_) (fun _ _ _ _ _ _ us hl => match us, hl with | [_, _], _ => rfl) (fun f cdv A outer s' H vs Q E hr h => ?_)
  · obtain ⟨s, ns, k, rfl, _⟩ := h
    rfl
  · obtain ⟨s, ns, k, rfl, hs, hS, hl, k3, key⟩ := h
    have ls : (ns.map V.int).length = ns.length := List.length_map ..
    refine ⟨_, (pss_cons (ps_if (pt_cmpR op_lt (pv 1) (pe_callB call_len_seq (by rfl) T.b_len boot_len (pa_cons (pv 0) pa_nil)) (nomark _))
        (pss_one (ps_ret (pe_ix ix_list (pv 0) (pv 1) (fun _ _ => rfl))))
        pss_nil)
      (pss_cons (ps_if (pt_cmpR op_eq (pe_callB call_len_seq (by rfl) T.b_len boot_len (pa_cons (pv 0) pa_nil)) pe_int (nomark _))
        (pss_one (ps_ret (pe_op op_add (pe_op op_pow pe_int pe_int) (pe_ix ix_list (pe_lst (pa_cons pe_int (pa_cons pe_int (pa_cons pe_int pa_nil)))) (pv 1) (fun _ _ => rfl)))))
        pss_nil)
      (pss_one (ps_ret (pe_op op_add (pe_op op_mul pe_int (pe_op op_add (pv 1) pe_int)) (pe_op op_mul pe_int (pe_op op_mod (pe_callTy call_int1 (by rfl) T.b_int (by decide +kernel) (pa_cons (pe_ix ix_list (pv 0) pe_int (fun _ _ => rfl)) pa_nil)) pe_int))))))), ?_⟩
    refine ⟨_, rfl, _, rfl, s, _, rfl, .inl hs, _, _, rfl, rfl, _, rfl, ?_⟩
    rw [ls]
    by_cases c : k < ns.length
    · refine ifp (decide_eq_true (by omega)) ?_
      refine ⟨_, rfl, _, rfl, s, _, _, _, rfl, rfl, hs, at_ofG (j := k) rfl (by rw [List.getElem?_map, List.getElem?_eq_getElem c]; rfl), ?_⟩
      exact key H _ (Same.refl H)
    refine ifn (fun h => c (by have := of_decide_eq_true h; omega)) ?_
    refine ⟨_, rfl, s, _, rfl, .inl hs, rfl, _, rfl, ?_⟩
    rw [ls]
    by_cases c0 : ns.length = 0
    · refine ifp (by simp [c0]) ?_
      refine ⟨_, _, rfl, rfl, ⟨by decide, by decide, by decide⟩, le_line (show 3 ≤ 10000000 by decide), fun l hl0 => ?_⟩
      have s1 := (Same.refl H).upd_new (o := .lst [V.int 111056706050, V.int 3370645478, V.int 289305947974]) hl0
      obtain ⟨z, hz⟩ : ∃ z : Int, ([V.int 111056706050, V.int 3370645478, V.int 289305947974] : List V)[k]? = some (.int z) := by
        rcases (show k = 0 ∨ k = 1 ∨ k = 2 by omega) with rfl | rfl | rfl
        · exact ⟨_, rfl⟩
        · exact ⟨_, rfl⟩
        · exact ⟨_, rfl⟩
      refine ⟨_, rfl, l, _, _, _, rfl, rfl, SqL.of upd_same, at_ofG (j := k) rfl hz, _, _, rfl, rfl, ?_⟩
      exact key _ _ s1
    · refine ifn (fun h => c0 (by
        have := of_decide_eq_true h
        injection this with this
        omega)) ?_
      have h0 : 0 < ns.length := by omega
      refine ⟨_, rfl, _, _, rfl, rfl, _, _, rfl, rfl, .inl ⟨by decide, by decide⟩, _, rfl, s, _, _, _, rfl, rfl, hs, at_ofG (j := 0) rfl (by rw [List.getElem?_map, List.getElem?_eq_getElem h0]; rfl), .inl ⟨_, rfl, ?_⟩⟩
      refine ⟨_, _, rfl, rfl, by show (0 : Int) < 1000003; decide, _, _, rfl, rfl, .inl ⟨by decide, by decide⟩, _, _, rfl, rfl, ?_⟩
      exact key H _ (Same.refl H)
theorem ok_box51 (T : Bl mg) (c_law_cell : DefOk P w K mg base CX0 1 "_law_cell" (spCell51 K)) (D : Def0 K mg "_law_box" s_law_box) : DefOk P w K mg base CX0 2 "_law_box" (spBox51 K) := by
  refine D.ok sc_law_box (fun vs H Q E h => ?_) (fun _ _ _ _ _ _ us hl => match us, hl with | [_, _], _ => rfl) (fun f cdv A outer s' H vs Q E hr h => ?_)
  · obtain ⟨s, ns, k, rfl, _⟩ := h
    rfl
  · obtain ⟨s, ns, k, rfl, hs, hS, hl, k3, key⟩ := h
    refine ⟨_, (pss_cons (ps_set (i := 2) sc_law_box.nd rfl (Or.inl rfl) (pe_d c_law_cell (hr.mono (by decide)) pass0 (pa_cons (pv 0) (pa_cons (pv 1) pa_nil))))
      (pss_cons (ps_set (i := 3) sc_law_box.nd rfl (Or.inl rfl) (pe_op op_mod (pe_callTy call_int1 (by rfl) T.b_int (by decide +kernel) (pa_cons (pe_op op_add (pe_op op_mul (pe_callTy call_int1 (by rfl) T.b_int (by decide +kernel) (pa_cons (pv 2) pa_nil)) pe_int) (pe_op op_mul pe_int (pe_op op_add (pv 1) pe_int))) pa_nil)) pe_int))
      (pss_cons (ps_if (pt_cmpR op_ge (pv 2) (pe_op op_pow pe_int pe_int) (nomark _))
        (pss_one (ps_ret (pe_lst (pa_cons (pe_op op_sub (pv 2) (pe_op op_pow pe_int pe_int)) (pa_cons (pv 3) pa_nil)))))
        pss_nil)
      (pss_one (ps_ret (pe_lst (pa_cons pe_int (pa_cons (pv 3) pa_nil)))))))), ?_⟩
    refine ⟨_, rfl, _, rfl, s, ns, k, rfl, hs, hS, hl, k3, fun H1 e s1 => ?_⟩
    refine ⟨_, rfl, .inl ⟨_, rfl, ?_⟩⟩
    refine ⟨_, _, rfl, rfl, .inr ⟨by decide, by decide⟩, _, rfl, _, _, rfl, rfl, _, _, rfl, rfl, .inl ⟨by decide, by decide⟩, _, _, rfl, rfl, .inl ⟨_, rfl, ?_⟩⟩
    refine ⟨_, _, rfl, rfl, by show (0 : Int) < 2147483647; decide, ?_⟩
    refine ⟨_, rfl, _, _, rfl, rfl, ⟨by decide, by decide, by decide⟩, _, _, rfl, rfl, _, rfl, ite2 (fun _ => ?_) (fun _ => ?_)⟩
    · refine ⟨_, rfl, _, _, rfl, rfl, ⟨by decide, by decide, by decide⟩, _, _, rfl, rfl, _, rfl, le_line (show 2 ≤ 10000000 by decide), fun x hx => ?_⟩
      exact key _ x (s1.upd_new hx) (s1.free hx) ⟨_, _, upd_same⟩
    · refine ⟨_, rfl, le_line (show 2 ≤ 10000000 by decide), fun x hx => ?_⟩
      exact key _ x (s1.upd_new hx) (s1.free hx) ⟨_, _, upd_same⟩
theorem ok_num51 (T : Bl mg) (c_law_pick : DefOk P w K mg base CX0 1 "_law_pick" spPick51) (D : Def0 K mg "_law_number" s_law_number) : DefOk P w K mg base CX0 2 "_law_number" spNum51 := by
  refine D.ok sc_law_number (fun vs H Q E h => ?_) (fun _ _ _ _ _ _ us hl => match us, hl with | [_], _ => rfl) (fun f cdv A outer s' H vs Q E hr h => ?_)
  · obtain ⟨x, rfl, _⟩ := h
    rfl
  · obtain ⟨x, rfl, hx, k⟩ := h
    refine ⟨_, (pss_cons (ps_set (i := 1) sc_law_number.nd rfl (Or.inl rfl) (pe_d c_law_pick (hr.mono (by decide)) pass0 (pa_cons (pv 0) (pa_cons pe_int pa_nil))))
      (pss_cons (ps_if (pt_cmpR op_eq (pv 1) pe_int (nomark _))
        (pss_one (ps_ret (pe_d c_law_pick (hr.mono (by decide)) pass0 (pa_cons (pv 0) (pa_cons pe_int pa_nil)))))
        pss_nil)
      (pss_cons (ps_if (pt_cmpR op_eq (pv 1) pe_int (nomark _))
        (pss_one (ps_ret (pe_ix ix_list (pe_lst (pa_cons pe_int (pa_cons pe_int (pa_cons pe_int (pa_cons pe_int pa_nil))))) (pe_d c_law_pick (hr.mono (by decide)) pass0 (pa_cons (pv 0) (pa_cons pe_int pa_nil))) (fun _ _ => rfl))))
        pss_nil)
      (pss_one (ps_ret (pe_d c_law_pick (hr.mono (by decide)) pass0 (pa_cons (pv 0) (pa_cons pe_int pa_nil)))))))), ?_⟩
    refine ⟨_, rfl, x, 4, rfl, hx, by decide, by decide, fun H1 e1 k1 b1 e10 e11 => ?_⟩
    refine ⟨_, rfl, rfl, _, rfl, ite2 (fun _ => ?_) (fun _ => ?_)⟩
    · refine ⟨_, rfl, x, 1001, rfl, b1, by decide, by decide, fun H2 e2 k2 b2 e20 e21 => ?_⟩
      exact k H2 e2 (k1.trans k2) b2 e20 (by omega)
    · refine ⟨_, rfl, rfl, _, rfl, ite2 (fun _ => ?_) (fun _ => ?_)⟩
      · refine ⟨le_line (show 4 ≤ 10000000 by decide), fun l hl => ?_⟩
        have nl := b1.ne hl
        have s1 := (Same.refl H1).upd_new (o := .lst [V.int 0, V.int 1, V.int 999, V.int 1000]) hl
        have l1 : (upd H1 l (.lst [V.int 0, V.int 1, V.int 999, V.int 1000])) l = some (.lst [V.int 0, V.int 1, V.int 999, V.int 1000]) := upd_same
        generalize upd H1 l (.lst [V.int 0, V.int 1, V.int 999, V.int 1000]) = H2 at s1 l1
        refine ⟨_, rfl, x, 4, rfl, b1.same s1, by decide, by decide, fun H3 e3 k3 b3 e30 e31 => ?_⟩
        obtain ⟨z, hz, z0, z1⟩ : ∃ z : Int, ([V.int 0, V.int 1, V.int 999, V.int 1000] : List V)[e3.toNat]? = some (.int z) ∧ 0 ≤ z ∧ z ≤ 1000 := by
          have hj : e3.toNat < 4 := by omega
          rcases (show e3.toNat = 0 ∨ e3.toNat = 1 ∨ e3.toNat = 2 ∨ e3.toNat = 3 by omega) with h | h | h | h <;> rw [h]
          · exact ⟨_, rfl, by decide, by decide⟩
          · exact ⟨_, rfl, by decide, by decide⟩
          · exact ⟨_, rfl, by decide, by decide⟩
          · exact ⟨_, rfl, by decide, by decide⟩
        refine ⟨l, _, _, _, rfl, rfl, SqL.of (k3 _ _ l1 nl), at_ofG (j := e3.toNat) (by omega) hz, ?_⟩
        exact k H3 z ((k1.trans (Kp.same s1)).trans k3) b3 z0 z1
      · refine ⟨_, rfl, x, 6, rfl, b1, by decide, by decide, fun H2 e2 k2 b2 e20 e21 => ?_⟩
        exact k H2 e2 (k1.trans k2) b2 e20 (by omega)
end
end Sh
end
section
set_option Elab.async false
set_option linter.all false
set_option maxRecDepth 100000
set_option maxHeartbeats 4000000
namespace Sh
open PySem PySem.Spec PyProof.Rows L2
open TL (tl joinL tl_join join_eq tl_append)
open C8 (pss_cut tCut)
open Evl (ixN_nat)
def spLet51 : Sp := fun vs H Q _ => ∃ (x t : Addr) (ns : List Str), vs = [.ref x, .ref t] ∧ BxAt H x ∧ H t = some (.lst (ns.map V.str)) ∧ t ≠ x ∧ ns.length ≤ 3 ∧ ∀ (H' : Hp) (z : Str), Kp x H H' → BxAt H' x → IsNm z → z ∉ ns → Q (.str z) H'
/-- the word with its eighth letter, or one more, put in place -/
def cand (z : Str) (c : Nat) : Str := cutS z none (some 7) ++ sg c
theorem cut7 (z : Str) : (cutS z none (some 7)).cps.toList = z.cps.toList.take 7 := by
  by_cases h : 7 ≤ z.cps.size
  · exact cutS_to z (j := 7) h
  · have h1 : HT.sIx z.length 0 none = 0 := rfl
    have h2 : HT.sIx z.length z.length (some (7 : Int)) = z.cps.size := by
      have := HT.sIx_nat z.length z.length 7
      have e : ((7 : Nat) : Int) = (7 : Int) := rfl
      rw [← e, this, str_len]
      omega
    unfold cutS
    rw [h1, h2]
    have hl : z.cps.size = z.cps.toList.length := size_tl z
    simp
    omega
theorem cand_tl (z : Str) (c : Nat) : (cand z c).cps.toList = z.cps.toList.take 7 ++ [c] := by
  unfold cand
  rw [app_sg, cut7]
theorem cand_nm {z : Str} {c : Nat} (hz : IsNm z) (hc : 97 ≤ c ∧ c ≤ 122) : IsNm (cand z c) := by
  have e := cand_tl z c
  have el : (cand z c).cps.size = min 7 z.cps.size + 1 := by
    rw [size_tl, e, List.length_append, List.length_take, ← size_tl]
    rfl
  obtain ⟨z1, z2, z3⟩ := hz
  refine ⟨by omega, by omega, fun x hx => ?_⟩
  rw [e] at hx
  rcases List.mem_append.mp hx with q | q
  · exact z3 x (List.mem_of_mem_take q)
  · rw [List.mem_singleton.mp q]
    exact hc
theorem cand_inj {z : Str} {c d : Nat} (e : cand z c = cand z d) : c = d := by
  have q := congrArg (fun s : Str => s.cps.toList) e
  simp only [cand_tl] at q
  have := List.append_cancel_left q
  injection this
theorem cand_out {z : Str} {ns : List Str} (h : ns.length ≤ 3) : ¬ ∀ j, j < 26 → cand z (97 + j) ∈ ns := fun f => by
  obtain ⟨i0, h0, e0⟩ := List.mem_iff_getElem.mp (f 0 (by decide))
  obtain ⟨i1, h1, e1⟩ := List.mem_iff_getElem.mp (f 1 (by decide))
  obtain ⟨i2, h2, e2⟩ := List.mem_iff_getElem.mp (f 2 (by decide))
  obtain ⟨i3, h3, e3⟩ := List.mem_iff_getElem.mp (f 3 (by decide))
  have key : ∀ {i j : Nat} {hi : i < ns.length} {hj : j < ns.length} {c d : Nat}, ns[i] = cand z c → ns[j] = cand z d → i = j → c = d := fun {i j hi hj c d} a b e => by
    subst e
    exact cand_inj (a.symm.trans b)
  rcases (show i0 = i1 ∨ i0 = i2 ∨ i0 = i3 ∨ i1 = i2 ∨ i1 = i3 ∨ i2 = i3 by omega) with e | e | e | e | e | e
  · have := key e0 e1 e; omega
  · have := key e0 e2 e; omega
  · have := key e0 e3 e; omega
  · have := key e1 e2 e; omega
  · have := key e1 e3 e; omega
  · have := key e2 e3 e; omega
abbrev N_law_letters : List Str := ["box", "taken", "letters", "word", "turn", "letter"]
theorem sc_law_letters : FnScope N_law_letters ["box", "taken"] (defScope s_law_letters) := ⟨rfl, rfl, rfl, by decide +kernel, rfl, by decide +kernel, by decide +kernel⟩
section
variable {P : Program} {w : World} {K : PySem.W.Frag} {mg : Str → Option Value} {base : Heap}
theorem ok_let51 (T : Bl mg) (c_law_pick : DefOk P w K mg base CX0 1 "_law_pick" spPick51) (D : Def0 K mg "_law_letters" s_law_letters) : DefOk P w K mg base CX0 2 "_law_letters" spLet51 := by
  refine D.ok sc_law_letters (fun vs H Q E h => ?_) (fun _ _ _ _ _ _ us hl => match us, hl with | [_, _], _ => rfl) (fun f cdv A outer s' H vs Q E hr h => ?_)
  · obtain ⟨x, t, ns, rfl, _⟩ := h
    rfl
  · obtain ⟨x, t, ns, rfl, hx, ht, ntx, hl, k⟩ := h
    refine ⟨_, (pss_cons (ps_set (i := 2) sc_law_letters.nd rfl (Or.inl rfl) pe_str)
      (pss_cons (ps_set (i := 3) sc_law_letters.nd rfl (Or.inl rfl) pe_str)
      (pss_cons (ps_for PassesOwn.never rfl (pi_range1 (by rfl) T.b_range (pa_cons (pe_op op_add pe_int (pe_d c_law_pick (hr.mono (by decide)) pass0 (pa_cons (pv 0) (pa_cons pe_int pa_nil)))) pa_nil)) (pg_name (i := 4) sc_law_letters.nd rfl (Or.inl rfl))
        (pss_one (ps_set (i := 3) sc_law_letters.nd rfl (Or.inl rfl) (pe_op op_add_str (pv 3) (pe_ix ix_str (pv 2) (pe_d c_law_pick (hr.mono (by decide)) pass0 (pa_cons (pv 0) (pa_cons pe_int pa_nil))) (fun _ _ => rfl))))))
      (pss_cut (ps_if (pt_cmpR op_in_seq (pv 3) (pv 1) (by rfl))
        (pss_one (ps_for PassesOwn.never rfl (pi_str (pv 2)) (pg_name (i := 5) sc_law_letters.nd rfl (Or.inl rfl))
          (pss_one (ps_if (pt_cmpR op_notIn_seq (pe_op op_add_str (pe_slice sl_str (pv 3) po_none (po_some pe_int)) (pv 5)) (pv 1) (by rfl))
            (pss_one (ps_ret (pe_op op_add_str (pe_slice sl_str (pv 3) po_none (po_some pe_int)) (pv 5))))
            pss_nil))))
        pss_nil)
      (pss_one (ps_ret (pv 3))))))), ?_⟩
    refine ⟨_, rfl, x, 8, rfl, hx, by decide, by decide, fun H1 d k1 b1 d0 d8 => ?_⟩
    refine ⟨_, _, rfl, rfl, _, rfl, by omega, by omega, for_range (n := (1 + d).toNat) (fun i σ H' => ∃ (y u : Option V) (z : Str), σ = [some (.ref x), some (.ref t), some (.str "abcdefghijklmnopqrstuvwxyz"), some (.str z), y, u] ∧ Kp x H H' ∧ BxAt H' x ∧ z.cps.size = i ∧ ∀ c ∈ z.cps.toList, 97 ≤ c ∧ c ≤ 122)
      ⟨none, none, "", rfl, k1, b1, rfl, fun c hc => nomatch hc⟩ ?_ ?_⟩
    · rintro i σ H2 hi ⟨y, u, z, rfl, k2, b2, hz, hc⟩
      refine ⟨_, rfl, _, rfl, _, rfl, x, 26, rfl, b2, by decide, by decide, fun H3 e k3 b3 e0 e1 => ?_⟩
      refine ⟨_, _, 97 + e.toNat, rfl, rfl, (by rw [letters_len]; exact le_line (by decide)), at_ofG (z := e) (j := e.toNat) (by omega) (letters_at e.toNat (by omega)), _, _, rfl, rfl, ?_, ?_⟩
      · exact le_line (by rw [str_len, hz]; show i + 1 ≤ _; omega)
      · refine ⟨_, _, _, rfl, k2.trans k3, b3, ?_, fun y hy => ?_⟩
        · have q := app_sg z (97 + e.toNat)
          rw [size_tl]
          show (z ++ sg (97 + e.toNat)).cps.toList.length = _
          rw [q, List.length_append, ← size_tl, hz]
          rfl
        · have q := app_sg z (97 + e.toNat)
          have hy : y ∈ (z ++ sg (97 + e.toNat)).cps.toList := hy
          rw [q] at hy
          rcases List.mem_append.mp hy with u | u
          · exact hc y u
          · rw [List.mem_singleton.mp u]
            omega
    · rintro σ H2 ⟨y, u, z, rfl, k2, b2, hz, hc⟩
      have nz : IsNm z := ⟨by rw [hz]; omega, by rw [hz]; omega, hc⟩
      have ht2 := k2 _ _ ht ntx
      refine ⟨fun σ H' => ∃ (y u : Option V), σ = [some (.ref x), some (.ref t), some (.str "abcdefghijklmnopqrstuvwxyz"), some (.str z), y, u] ∧ H' = H2 ∧ z ∉ ns, ?_, ?_⟩
      · refine ⟨_, rfl, _, rfl, t, _, rfl, .inl (SqL.of ht2), rfl, flat_strs ns, _, rfl, ?_⟩
        rw [if_neg (by decide), inV_str]
        by_cases hin : z ∈ ns
        · refine ifp (decide_eq_true hin) ?_
          have cl : ∀ c : Nat, (cutS z none (some 7)).length + (sg c).length ≤ 10000000 := fun c => by
            have e1 := cut7 z
            have : (cutS z none (some 7)).cps.size ≤ 7 := by rw [size_tl, e1, List.length_take]; exact Nat.min_le_left ..
            rw [str_len, str_len]
            show _ + 1 ≤ _
            omega
          refine ⟨_, rfl, _, rfl, for_it (walk_str (z := "abcdefghijklmnopqrstuvwxyz")) (fun i σ H' => ∃ (y u : Option V), σ = [some (.ref x), some (.ref t), some (.str "abcdefghijklmnopqrstuvwxyz"), some (.str z), y, u] ∧ H' = H2 ∧ ∀ j, j < i → cand z (97 + j) ∈ ns) ⟨_, _, rfl, rfl, fun j hj => by omega⟩ (fun _ _ _ _ _ => trivial) ?_ ?_⟩
          · rintro i v σ H3' H3 hi ⟨y, u, rfl, rfl, all⟩ ⟨rfl, c, hc', rfl⟩
            have hi26 : i < 26 := by rw [← letters_len]; exact hi
            have ec : c = 97 + i := by
              have := letters_at i hi26
              rw [Array.getElem?_toList] at this
              rw [this] at hc'
              exact (Option.some.inj hc').symm
            subst ec
            refine ⟨_, rfl, _, rfl, _, rfl, nm_line nz, _, rfl, _, _, rfl, rfl, le_line (cl _), ?_⟩
            refine ⟨_, rfl, t, _, rfl, .inl (SqL.of ht2), rfl, flat_strs ns, _, rfl, ?_⟩
            rw [if_pos rfl, inV_str]
            by_cases hcn : cand z (97 + i) ∈ ns
            · refine ifn (by
                show ¬ (!decide (cand z (97 + i) ∈ ns)) = true
                rw [decide_eq_true hcn]
                decide) ?_
              refine ⟨_, _, rfl, rfl, fun j hj => ?_⟩
              by_cases e : j < i
              · exact all j e
              · have : j = i := by omega
                subst this
                exact hcn
            · refine ifp (by
                show (!decide (cand z (97 + i) ∈ ns)) = true
                rw [decide_eq_false hcn]
                rfl) ?_
              refine ⟨_, rfl, _, rfl, _, rfl, nm_line nz, _, rfl, _, _, rfl, rfl, le_line (cl _), ?_⟩
              exact k _ _ k2 b2 (cand_nm nz (by omega)) hcn
          · rintro σ H3 ⟨y, u, rfl, rfl, all⟩
            exact absurd (fun j hj => all j (by show j < ("abcdefghijklmnopqrstuvwxyz" : Str).length; rw [letters_len]; exact hj)) (cand_out hl)
        · exact ifn (fun h => hin (of_decide_eq_true h)) ⟨_, _, rfl, rfl, hin⟩
      · rintro σ H3 ⟨y, u, rfl, rfl, hin⟩
        exact ⟨_, rfl, k _ _ k2 b2 nz hin⟩
end
end Sh
end
section
set_option Elab.async false
set_option linter.all false
set_option maxRecDepth 100000
set_option maxHeartbeats 4000000
namespace Sh
open PySem PySem.Spec PyProof.Rows L2
open C8 (pss_cut tCut)
open Evl (ixN_nat)
def spKinds51 : Sp := fun vs H Q _ => ∃ (x : Addr), vs = [.ref x] ∧ BxAt H x ∧ ∀ (H' : Hp) (r : Addr) (rows : List Row), Kp x H H' → BxAt H' x → r ≠ x → H r = none → RowsAt H' r rows → ROk 4 rows → Q (.ref r) H'
abbrev N_law_kinds : List Str := ["box", "many", "lowest", "kinds", "place", "width", "pair"]
theorem sc_law_kinds : FnScope N_law_kinds ["box"] (defScope s_law_kinds) := ⟨rfl, rfl, rfl, by decide +kernel, rfl, by decide +kernel, by decide +kernel⟩
section
variable {P : Program} {w : World} {K : PySem.W.Frag} {mg : Str → Option Value} {base : Heap}
theorem ok_kinds51 (T : Bl mg) (c_law_pick : DefOk P w K mg base CX0 1 "_law_pick" spPick51) (c_law_letters : DefOk P w K mg base CX0 2 "_law_letters" spLet51) (D : Def0 K mg "_law_kinds" s_law_kinds) : DefOk P w K mg base CX0 3 "_law_kinds" spKinds51 := by
  refine D.ok sc_law_kinds (fun vs H Q E h => ?_) (fun _ _ _ _ _ _ us hl => match us, hl with | [_], _ => rfl) (fun f cdv A outer s' H vs Q E hr h => ?_)
  · obtain ⟨x, rfl, _⟩ := h
    rfl
  · obtain ⟨x, rfl, hx, key⟩ := h
    refine ⟨_, (pss_cons (ps_set (i := 1) sc_law_kinds.nd rfl (Or.inl rfl) (pe_ix ix_list (pe_lst (pa_cons pe_int (pa_cons pe_int (pa_cons pe_int (pa_cons pe_int (pa_cons pe_int (pa_cons pe_int (pa_cons pe_int (pa_cons pe_int pa_nil))))))))) (pe_d c_law_pick (hr.mono (by decide)) pass0 (pa_cons (pv 0) (pa_cons pe_int pa_nil))) (fun _ _ => rfl)))
      (pss_cons (ps_set (i := 2) sc_law_kinds.nd rfl (Or.inl rfl) (pe_d c_law_pick (hr.mono (by decide)) pass0 (pa_cons (pv 0) (pa_cons (pv 1) pa_nil))))
      (pss_cons (ps_set (i := 3) sc_law_kinds.nd rfl (Or.inl rfl) (pe_lst pa_nil))
      (pss_cons (ps_for PassesOwn.never rfl (pi_range1 (by rfl) T.b_range (pa_cons (pv 1) pa_nil)) (pg_name (i := 4) sc_law_kinds.nd rfl (Or.inl rfl))
        (pss_cons (ps_set (i := 5) sc_law_kinds.nd rfl (Or.inl rfl) (pe_ix ix_list (pe_lst (pa_cons pe_int (pa_cons pe_int (pa_cons pe_int (pa_cons pe_int (pa_cons pe_int (pa_cons pe_int (pa_cons pe_int (pa_cons pe_int pa_nil))))))))) (pe_d c_law_pick (hr.mono (by decide)) pass0 (pa_cons (pv 0) (pa_cons pe_int pa_nil))) (fun _ _ => rfl)))
        (pss_cut (ps_if (pt_cmpR op_eq (pv 4) (pv 2) (nomark _))
          (pss_one (ps_set (i := 5) sc_law_kinds.nd rfl (Or.inl rfl) pe_int))
          pss_nil)
        (pss_cut (ps_if (PW.pt (pw_and (pt_cmpR op_eq (pv 5) pe_int (nomark _)) (pw_and1 (pt_cmpR op_in_seq pe_int (pe_lc (own := [("pair", 6)]) (g := (gName 6)) (tt := tYes) rfl sc_law_kinds.nd (pi_list (pv 3)) (blkOk_by (N := N_law_kinds) (sc := defScope s_law_kinds) (by decide +kernel)) (fun _ _ _ _ _ => (pg_name (i := 6) sc_law_kinds.nd rfl (Or.inl rfl))) (fun _ _ _ _ _ => pts_nil) (fun _ _ _ _ _ => (pe_ix (show IxR _ (rIxT K) from ix_tup) (pv 6) pe_int (fun _ _ => rfl)))) (by rfl)))))
          (pss_one (ps_set (i := 5) sc_law_kinds.nd rfl (Or.inl rfl) pe_int))
          pss_nil)
        (pss_one (ps_expr (pe_bm PySem.F.plainAttrs_list PySem.F.slot_list_append PySem.F.type_list_append mt_append (pv 3) (pa_cons (pe_tup (pa_cons (pe_d c_law_letters (hr.mono (by decide)) pass0 (pa_cons (pv 0) (pa_cons (pe_lc (own := [("pair", 6)]) (g := (gName 6)) (tt := tYes) rfl sc_law_kinds.nd (pi_list (pv 3)) (blkOk_by (N := N_law_kinds) (sc := defScope s_law_kinds) (by decide +kernel)) (fun _ _ _ _ _ => (pg_name (i := 6) sc_law_kinds.nd rfl (Or.inl rfl))) (fun _ _ _ _ _ => pts_nil) (fun _ _ _ _ _ => (pe_ix (show IxR _ (rIxT K) from ix_tup) (pv 6) pe_int (fun _ _ => rfl)))) pa_nil))) (pa_cons (pv 5) pa_nil))) pa_nil))))))))
      (pss_one (ps_ret (pv 3))))))), ?_⟩
    refine ⟨le_line (show 8 ≤ 10000000 by decide), fun l1 hl1 => ?_⟩
    have n1 := hx.ne hl1
    have s1 := (Same.refl H).upd_new (o := .lst [V.int 2, V.int 2, V.int 3, V.int 3, V.int 3, V.int 4, V.int 2, V.int 1]) hl1
    have e1 : (upd H l1 (.lst [V.int 2, V.int 2, V.int 3, V.int 3, V.int 3, V.int 4, V.int 2, V.int 1])) l1 = some (.lst [V.int 2, V.int 2, V.int 3, V.int 3, V.int 3, V.int 4, V.int 2, V.int 1]) := upd_same
    generalize upd H l1 (.lst [V.int 2, V.int 2, V.int 3, V.int 3, V.int 3, V.int 4, V.int 2, V.int 1]) = H1 at s1 e1
    refine ⟨_, rfl, x, 8, rfl, hx.same s1, by decide, by decide, fun H2 d k2 b2 d0 d8 => ?_⟩
    obtain ⟨m, hm, m1, m4⟩ : ∃ m : Nat, ([V.int 2, V.int 2, V.int 3, V.int 3, V.int 3, V.int 4, V.int 2, V.int 1] : List V)[d.toNat]? = some (.int (m : Nat)) ∧ 1 ≤ m ∧ m ≤ 4 := by
      have hj : d.toNat < 8 := by omega
      rcases (show d.toNat = 0 ∨ d.toNat = 1 ∨ d.toNat = 2 ∨ d.toNat = 3 ∨ d.toNat = 4 ∨ d.toNat = 5 ∨ d.toNat = 6 ∨ d.toNat = 7 by omega) with h | h | h | h | h | h | h | h <;> rw [h]
      · exact ⟨2, rfl, by decide, by decide⟩
      · exact ⟨2, rfl, by decide, by decide⟩
      · exact ⟨3, rfl, by decide, by decide⟩
      · exact ⟨3, rfl, by decide, by decide⟩
      · exact ⟨3, rfl, by decide, by decide⟩
      · exact ⟨4, rfl, by decide, by decide⟩
      · exact ⟨2, rfl, by decide, by decide⟩
      · exact ⟨1, rfl, by decide, by decide⟩
    refine ⟨l1, _, _, _, rfl, rfl, SqL.of (k2 _ _ e1 n1), at_ofG (j := d.toNat) (by omega) hm, ?_⟩
    refine ⟨_, rfl, _, rfl, x, (m : Int), rfl, b2, by omega, by omega, fun H3 lo k3 b3 lo0 lo1 => ?_⟩
    have k03 := (Kp.same s1).trans (k2.trans k3)
    refine ⟨le_line (show 0 ≤ 10000000 by decide), fun r hr0 => ?_⟩
    have nr := b3.ne hr0
    have s34 := (Same.refl H3).upd_new (o := .lst []) hr0
    have r4 : (upd H3 r (.lst [])) r = some (.lst (([] : List Addr).map V.ref)) := upd_same
    have b4 := b3.same s34
    have k04 := k03.trans (Kp.same s34)
    have hrH : H r = none := by
      cases e : H r with
      | none => rfl
      | some o =>
        rw [k03 _ _ e nr] at hr0
        cases hr0
    generalize upd H3 r (.lst []) = H4 at s34 r4 b4 k04
    refine ⟨_, rfl, _, rfl, by omega, by omega, ?_⟩
    rw [Int.toNat_natCast]
    refine for_range (n := m) (fun i σ H' => ∃ (x4 x5 x6 : Option V) (ts : List Addr) (rows : List Row), σ = [some (.ref x), some (.int (m : Nat)), some (.int lo), some (.ref r), x4, x5, x6] ∧ Kp x H H' ∧ BxAt H' x ∧ H' r = some (.lst (ts.map V.ref)) ∧ TupsAt H' ts rows ∧ rows.length = i ∧ (rows.map (·.1)).Nodup ∧ (∀ q ∈ rows, IsNm q.1) ∧ (∀ q ∈ rows, 0 ≤ q.2 ∧ q.2 ≤ 3) ∧ (lo < (i : Nat) → ∃ q ∈ rows, q.2 = 0))
      ⟨none, none, none, [], [], rfl, k04, b4, r4, ⟨rfl, fun i u p a => by simp at a⟩, rfl, List.nodup_nil, (fun q h => nomatch h), (fun q h => nomatch h), fun h => by omega⟩ ?_ ?_
    · rintro i σ H5 hi ⟨x4, x5, x6, ts, rows, rfl, k5, b5, r5, t5, lr, nd, nm, wd, lf⟩
      refine ⟨le_line (show 8 ≤ 10000000 by decide), fun l2 hl2 => ?_⟩
      have n2 := b5.ne hl2
      have s56 := (Same.refl H5).upd_new (o := .lst [V.int 0, V.int 1, V.int 1, V.int 2, V.int 2, V.int 2, V.int 3, V.int 0]) hl2
      have e6 : (upd H5 l2 (.lst [V.int 0, V.int 1, V.int 1, V.int 2, V.int 2, V.int 2, V.int 3, V.int 0])) l2 = some (.lst [V.int 0, V.int 1, V.int 1, V.int 2, V.int 2, V.int 2, V.int 3, V.int 0]) := upd_same
      generalize upd H5 l2 (.lst [V.int 0, V.int 1, V.int 1, V.int 2, V.int 2, V.int 2, V.int 3, V.int 0]) = H6 at s56 e6
      have b6 := b5.same s56
      refine ⟨_, rfl, x, 8, rfl, b6, by decide, by decide, fun H7 d7 k7 b7 d70 d78 => ?_⟩
      obtain ⟨wi, hwi, w0, w3⟩ : ∃ z : Int, ([V.int 0, V.int 1, V.int 1, V.int 2, V.int 2, V.int 2, V.int 3, V.int 0] : List V)[d7.toNat]? = some (.int z) ∧ 0 ≤ z ∧ z ≤ 3 := by
        have hj : d7.toNat < 8 := by omega
        rcases (show d7.toNat = 0 ∨ d7.toNat = 1 ∨ d7.toNat = 2 ∨ d7.toNat = 3 ∨ d7.toNat = 4 ∨ d7.toNat = 5 ∨ d7.toNat = 6 ∨ d7.toNat = 7 by omega) with h | h | h | h | h | h | h | h <;> rw [h]
        · exact ⟨0, rfl, by decide, by decide⟩
        · exact ⟨1, rfl, by decide, by decide⟩
        · exact ⟨1, rfl, by decide, by decide⟩
        · exact ⟨2, rfl, by decide, by decide⟩
        · exact ⟨2, rfl, by decide, by decide⟩
        · exact ⟨2, rfl, by decide, by decide⟩
        · exact ⟨3, rfl, by decide, by decide⟩
        · exact ⟨0, rfl, by decide, by decide⟩
      refine ⟨l2, _, _, _, rfl, rfl, SqL.of (k7 _ _ e6 n2), at_ofG (j := d7.toNat) (by omega) hwi, ?_⟩
      have k57 := (Kp.same (a := x) s56).trans k7
      have r7 := k57 _ _ r5 nr
      have tk7 : TK H5 H7 := fun u ys h => k57 _ _ h fun e => by
        obtain ⟨za, zb, hz⟩ := b5
        rw [e, hz] at h
        cases h
      have t7 := t5.keep tk7
      -- the lowest
      refine ⟨fun σ H' => H' = H7 ∧ ∃ w' : Int, σ = [some (.ref x), some (.int (m : Nat)), some (.int lo), some (.ref r), some (.int (0 + ((i : Nat) : Int))), some (.int w'), x6] ∧ 0 ≤ w' ∧ w' ≤ 3 ∧ (lo = (i : Nat) → w' = 0), ?_, ?_⟩
      · refine ⟨_, rfl, _, rfl, rfl, _, rfl, ite2 (fun _ => ⟨rfl, 0, rfl, by decide, by decide, fun _ => rfl⟩) (fun c => ⟨rfl, wi, rfl, w0, w3, fun e => absurd (decide_eq_true ?_) c⟩)⟩
        rw [e]
        congr 1
        omega
      rintro σ H7' ⟨e7, w', rfl, w0', w3', wl⟩
      obtain rfl : H7 = H7' := e7.symm
      refine ⟨fun σ H' => Same H7 H' ∧ ∃ w' : Int, σ = [some (.ref x), some (.int (m : Nat)), some (.int lo), some (.ref r), some (.int (0 + ((i : Nat) : Int))), some (.int w'), x6] ∧ 0 ≤ w' ∧ w' ≤ 3 ∧ (lo = (i : Nat) → w' = 0), ?_, ?_⟩
      · refine ⟨_, rfl, rfl, _, rfl, ite2 (fun c3 => ?_) (fun _ => ⟨Same.refl _, w', rfl, w0', w3', wl⟩)⟩
        have e3 : w' = 3 := V.int.inj (of_decide_eq_true c3)
        refine ⟨_, rfl, r, rfl, ⟨_, SqL.of r7⟩, fun D hD => lc_it (walk_list (xs := ts.map V.ref)) (fun j H' => Same H7 H' ∧ H' D = some (.lst ((rows.take j).map fun q => V.int q.2))) ⟨(Same.refl H7).upd_new hD, upd_same⟩ (fun j H' _ ⟨q, _⟩ => SqL.of (q _ _ r7)) ?_ ?_⟩
        · rintro j v H8' H8 hj ⟨s8, d8⟩ ⟨rfl, hv⟩
          obtain ⟨u, hu, rfl⟩ := get_map hv
          have hjr : j < rows.length := by rw [← t7.1]; exact lt_of_get hu
          have hq := List.getElem?_eq_getElem hjr
          refine ⟨rfl, _, rfl, u, _, _, _, rfl, rfl, SqT.of (s8 _ _ (t7.2 j u _ hu hq)), at_ofG (j := 1) rfl rfl, _, d8, by rw [List.length_map, List.length_take]; exact lt_line (by omega), s8.upd_own hD, ?_⟩
          rw [upd_same, ← take_snoc hq, List.map_append]
          rfl
        · rintro H8 ⟨s8, d8⟩
          have fl : ∀ l : List Row, (l.map fun q => V.int q.2).all flatV = true := fun l => List.all_eq_true.mpr fun v hv => by
            obtain ⟨q, _, rfl⟩ := List.mem_map.mp hv
            rfl
          refine ⟨D, _, rfl, .inl (SqL.of d8), rfl, fl _, _, rfl, ite2 (fun _ => ⟨s8, 2, rfl, by decide, by decide, fun e => ?_⟩) (fun _ => ⟨s8, w', rfl, w0', w3', wl⟩)⟩
          have := wl e
          omega
      rintro σ H8 ⟨s78, w2, rfl, w02, w32, wl2⟩
      have b8 := b7.same s78
      have r8 := s78 _ _ r7
      have t8 := t7.keep (fun u ys h => s78 _ _ h)
      refine ⟨_, rfl, .inl ⟨rfl, _, SqL.of r8⟩, _, rfl, _, rfl, r, rfl, ⟨_, SqL.of r8⟩, fun D hD => lc_it (walk_list (xs := ts.map V.ref)) (fun j H' => Same H8 H' ∧ H' D = some (.lst (((rows.take j).map (·.1)).map V.str))) ⟨(Same.refl H8).upd_new hD, upd_same⟩ (fun j H' _ ⟨q, _⟩ => SqL.of (q _ _ r8)) ?_ ?_⟩
      · rintro j v H9' H9 hj ⟨s9, d9⟩ ⟨rfl, hv⟩
        obtain ⟨u, hu, rfl⟩ := get_map hv
        have hjr : j < rows.length := by rw [← t8.1]; exact lt_of_get hu
        have hq := List.getElem?_eq_getElem hjr
        refine ⟨rfl, _, rfl, u, _, _, _, rfl, rfl, SqT.of (s9 _ _ (t8.2 j u _ hu hq)), at_ofG (j := 0) rfl rfl, _, d9, by rw [List.length_map, List.length_map, List.length_take]; exact lt_line (by omega), s9.upd_own hD, ?_⟩
        rw [upd_same, ← take_snoc hq, List.map_append, List.map_append]
        rfl
      · rintro H9 ⟨s9, d9⟩
        rw [List.length_map, t8.1, List.take_length] at d9
        have b9 := b8.same s9
        refine ⟨x, D, rows.map (·.1), rfl, b9, d9, b8.ne hD, by rw [List.length_map]; omega, fun HA z kA bA hz nz => ?_⟩
        refine ⟨_, rfl, le_line (show 2 ≤ 10000000 by decide), fun q hq => ?_⟩
        have sAB := (Same.refl HA).upd_new (o := .tup [.str z, .int w2]) hq
        have qB : (upd HA q (.tup [.str z, .int w2])) q = some (.tup [.str z, .int w2]) := upd_same
        have bB := bA.same sAB
        generalize upd HA q (.tup [.str z, .int w2]) = HB at sAB qB bB
        have k8B := (((Kp.same (a := x) s9).trans kA).trans (Kp.same sAB))
        have rB := k8B _ _ r8 nr
        have tB : TupsAt HB ts rows := t8.keep (fun u ys h => k8B _ _ h fun e => by
          obtain ⟨za, zb, hz'⟩ := b8
          have h : H8 u = some (.tup ys) := h
          rw [e, hz'] at h
          cases h)
        refine ⟨r, _, _, rfl, rfl, rB, by rw [List.length_map, tB.1]; exact lt_line (by omega), ?_⟩
        have tC : TupsAt (upd HB r (.lst (ts.map V.ref ++ [.ref q]))) (ts ++ [q]) (rows ++ [(z, w2)]) := ((tB.snoc (q := (z, w2)) qB)).keep (fun u ys h => by
          rw [upd_ne (ne_of h rB (fun e => nomatch e))]
          exact h)
        refine ⟨_, _, _, ts ++ [q], rows ++ [(z, w2)], rfl, (((k5.trans k57).trans (Kp.same s78)).trans k8B).upd_own hrH, bB.upd_ne nr, by rw [upd_same, List.map_append]; rfl, tC, by rw [List.length_append, lr]; rfl, ?_, fun p hp => ?_, fun p hp => ?_, fun hlo => ?_⟩
        · rw [List.map_append]
          exact List.nodup_append.mpr ⟨nd, by simp, fun y hy y' hy' e => by
            rw [List.map_cons, List.map_nil, List.mem_singleton] at hy'
            rw [e, hy'] at hy
            exact nz hy⟩
        · rcases List.mem_append.mp hp with h | h
          · exact nm p h
          · rw [List.mem_singleton.mp h]
            exact hz
        · rcases List.mem_append.mp hp with h | h
          · exact wd p h
          · rw [List.mem_singleton.mp h]
            exact ⟨w02, w32⟩
        · by_cases e : lo = (i : Nat)
          · exact ⟨(z, w2), List.mem_append_right _ (List.mem_singleton.mpr rfl), wl2 e⟩
          · obtain ⟨p, hp, h0⟩ := lf (by omega)
            exact ⟨p, List.mem_append_left _ hp, h0⟩
    · rintro σ H5 ⟨x4, x5, x6, ts, rows, rfl, k5, b5, r5, t5, lr, nd, nm, wd, lf⟩
      exact ⟨_, rfl, key H5 r rows k5 b5 nr hrH ⟨ts, r5, t5⟩ ⟨by omega, by omega, nd, nm, wd, lf (by omega)⟩⟩
end
end Sh
end
section
set_option Elab.async false
set_option linter.all false
set_option maxRecDepth 100000
set_option maxHeartbeats 4000000
namespace Sh
open PySem PySem.Spec PyProof.Rows L2
open C8 (pss_cut tCut)
open Evl (ixN_nat)
def spBed51 (C : Addr) : Sp := fun vs H Q _ => ∃ (r : Addr) (rows : List Row), vs = [.ref r] ∧ RowsAt H r rows ∧ ROk 4 rows ∧ ∀ H' p, Same H H' → H p = none → BedAt C H' p rows → Q (.ref p) H'
abbrev N_law_arity : List Str := ["kinds", "found", "pair"]
theorem sc_law_arity : FnScope N_law_arity ["kinds"] (defScope s_law_arity) := ⟨rfl, rfl, rfl, by decide +kernel, rfl, by decide +kernel, by decide +kernel⟩
abbrev N_law_made_bed : List Str := ["kinds"]
theorem sc_law_made_bed : FnScope N_law_made_bed ["kinds"] (defScope s_law_made_bed) := ⟨rfl, rfl, rfl, by decide +kernel, rfl, by decide +kernel, by decide +kernel⟩
section
variable {P : Program} {w : World} {K : PySem.W.Frag} {mg : Str → Option Value} {base : Heap} {C : Addr}
theorem ok_arity51 (T : Bl mg) (D : Def0 K mg "_law_arity" s_law_arity) : DefOk P w K mg base CX0 1 "_law_arity" spArity := by
  refine D.ok sc_law_arity (fun vs H Q E h => ?_) (fun _ _ _ _ _ _ us hl => match us, hl with | [_], _ => rfl) (fun f cdv A outer s H vs Q E hr h => ?_)
  · obtain ⟨r, rows, rfl, _⟩ := h
    rfl
  · obtain ⟨r, rows, rfl, ⟨ts, hR, hT⟩, R, k⟩ := h
    have hu := hu_of hr
    refine ⟨_, (pss_cons (ps_set (i := 1) sc_law_arity.nd rfl (Or.inl rfl) pe_dnewK)
      (pss_cons (ps_for PassesOwn.never rfl (pi_list (pv 0)) (pg_name (i := 2) sc_law_arity.nd rfl (Or.inl rfl))
        (pss_one (ps_dput hu (pv 1) (pe_ix ix_tup (pv 2) pe_int (fun _ _ => rfl)) (pe_ix ix_tup (pv 2) pe_int (fun _ _ => rfl)) rfl)))
      (pss_one (ps_ret (pv 1))))), ?_⟩
    refine fun D hD => ?_
    have s1 : Same H (upd H D (.dK [])) := (Same.refl H).upd_new hD
    refine ⟨_, rfl, r, rfl, ⟨_, SqL.of (s1 _ _ hR)⟩, for_it (walk_list (xs := ts.map V.ref)) (fun i σ H' => ∃ x : Option V, σ = [some (.ref r), some (.ref D), x] ∧ Same H H' ∧ H' D = some (.dK (wL (rows.take i))))
      ⟨none, rfl, s1, upd_same⟩ (fun i σ H' _ ⟨_, _, q, _⟩ => SqL.of (q _ _ hR)) ?_ ?_⟩
    · rintro i v σ H2 H3 hi ⟨x, rfl, s2, d2⟩ ⟨rfl, hv⟩
      rw [List.length_map, hT.1] at hi
      obtain ⟨t, ht, rfl⟩ := get_map hv
      have hq := (hT.2 i t rows[i] ht (List.getElem?_eq_getElem hi))
      have hq2 := s2 _ _ hq
      have fresh : valV (wL (rows.take i)) (.inr (rows[i]).1) = none := valV_none fun kv hk => by
        obtain ⟨q, hq, rfl⟩ := List.mem_map.mp hk
        intro e
        have e : q.1 = (rows[i]).1 := by injection e
        have hnd := nd_take R.nd (i := i) (by rw [List.length_map]; exact hi)
        apply hnd
        rw [← List.map_take, List.getElem_map, ← e]
        exact List.mem_map_of_mem hq
      refine ⟨_, rfl, t, _, _, _, rfl, rfl, SqT.of hq2, atI_nat (j := 1) rfl, _, rfl, _, rfl, t, _, _, _, rfl, rfl, SqT.of hq2, atI_nat (j := 0) rfl, D, _, rfl, DPut.k (k := .inr (rows[i]).1) d2 ?_, ?_⟩
      · unfold wL
        rw [List.length_map, List.length_take]
        exact lt_line (by have := R.len; omega)
      · refine ⟨_, rfl, s2.upd_own hD, ?_⟩
        rw [upd_same, putK_new _ fresh, ← take_snoc (List.getElem?_eq_getElem hi)]
        unfold wL
        rw [List.map_append]
        rfl
    · rintro σ H2 ⟨x, rfl, s2, d2⟩
      rw [List.length_map, hT.1, List.take_length] at d2
      exact ⟨_, rfl, k _ _ s2 hD d2⟩
theorem ok_bed51 (T : Bl mg) (c_Bed : BedOk P w K mg base C 5) (D : Def0 K mg "_law_made_bed" s_law_made_bed) : DefOk P w K mg base CX0 7 "_law_made_bed" (spBed51 C) := by
  refine D.ok sc_law_made_bed (fun vs H Q E h => ?_) (fun _ _ _ _ _ _ us hl => match us, hl with | [_], _ => rfl) (fun f cdv A outer s H vs Q E hr h => ?_)
  · obtain ⟨r, rows, rfl, _⟩ := h
    rfl
  · obtain ⟨r, rows, rfl, ⟨ts, hR, hT⟩, R4, k⟩ := h
    have R := R4.up
    refine ⟨_, (pss_cons (ps_if (pt_cmpR op_eq (pe_callB call_len_seq (by rfl) T.b_len boot_len (pa_cons (pv 0) pa_nil)) pe_int (nomark _))
        (pss_one (ps_ret (pe_bed c_Bed (hr.mono (by decide)) (pa_cons (pe_ix ix_list (pv 0) pe_int (fun _ _ => rfl)) pa_nil))))
        pss_nil)
      (pss_cons (ps_if (pt_cmpR op_eq (pe_callB call_len_seq (by rfl) T.b_len boot_len (pa_cons (pv 0) pa_nil)) pe_int (nomark _))
        (pss_one (ps_ret (pe_bed c_Bed (hr.mono (by decide)) (pa_cons (pe_ix ix_list (pv 0) pe_int (fun _ _ => rfl)) (pa_cons (pe_ix ix_list (pv 0) pe_int (fun _ _ => rfl)) pa_nil)))))
        pss_nil)
      (pss_cons (ps_if (pt_cmpR op_eq (pe_callB call_len_seq (by rfl) T.b_len boot_len (pa_cons (pv 0) pa_nil)) pe_int (nomark _))
        (pss_one (ps_ret (pe_bed c_Bed (hr.mono (by decide)) (pa_cons (pe_ix ix_list (pv 0) pe_int (fun _ _ => rfl)) (pa_cons (pe_ix ix_list (pv 0) pe_int (fun _ _ => rfl)) (pa_cons (pe_ix ix_list (pv 0) pe_int (fun _ _ => rfl)) pa_nil))))))
        pss_nil)
      (pss_one (ps_ret (pe_bed c_Bed (hr.mono (by decide)) (pa_cons (pe_ix ix_list (pv 0) pe_int (fun _ _ => rfl)) (pa_cons (pe_ix ix_list (pv 0) pe_int (fun _ _ => rfl)) (pa_cons (pe_ix ix_list (pv 0) pe_int (fun _ _ => rfl)) (pa_cons (pe_ix ix_list (pv 0) pe_int (fun _ _ => rfl)) pa_nil)))))))))), ?_⟩
    have h1 : 1 ≤ ts.length := by rw [hT.1]; exact R4.pos
    have h8 : ts.length ≤ 4 := by rw [hT.1]; have := R4.len; omega
    match ts, And.intro h1 h8 with
    | [], h => exact absurd h.1 (by decide)
    | [t0], _ =>
      refine ⟨_, rfl, r, _, rfl, .inl (SqL.of hR), rfl, _, rfl, ?_⟩
      refine ifp (by simp) ?_
      exact ⟨_, rfl, r, _, _, _, rfl, rfl, SqL.of hR, atI_nat (j := 0) rfl, [t0], rows, rfl, hT, R, k⟩
    | [t0, t1], _ =>
      refine ⟨_, rfl, r, _, rfl, .inl (SqL.of hR), rfl, _, rfl, ?_⟩
      refine ifn (fun e => by simp at e) ?_
      refine ⟨_, rfl, r, _, rfl, .inl (SqL.of hR), rfl, _, rfl, ?_⟩
      refine ifp (by simp) ?_
      exact ⟨_, rfl, r, _, _, _, rfl, rfl, SqL.of hR, atI_nat (j := 0) rfl, _, rfl, r, _, _, _, rfl, rfl, SqL.of hR, atI_nat (j := 1) rfl, [t0, t1], rows, rfl, hT, R, k⟩
    | [t0, t1, t2], _ =>
      refine ⟨_, rfl, r, _, rfl, .inl (SqL.of hR), rfl, _, rfl, ?_⟩
      refine ifn (fun e => by simp at e) ?_
      refine ⟨_, rfl, r, _, rfl, .inl (SqL.of hR), rfl, _, rfl, ?_⟩
      refine ifn (fun e => by simp at e) ?_
      refine ⟨_, rfl, r, _, rfl, .inl (SqL.of hR), rfl, _, rfl, ?_⟩
      refine ifp (by simp) ?_
      exact ⟨_, rfl, r, _, _, _, rfl, rfl, SqL.of hR, atI_nat (j := 0) rfl, _, rfl, r, _, _, _, rfl, rfl, SqL.of hR, atI_nat (j := 1) rfl, _, rfl, r, _, _, _, rfl, rfl, SqL.of hR, atI_nat (j := 2) rfl, [t0, t1, t2], rows, rfl, hT, R, k⟩
    | [t0, t1, t2, t3], _ =>
      refine ⟨_, rfl, r, _, rfl, .inl (SqL.of hR), rfl, _, rfl, ?_⟩
      refine ifn (fun e => by simp at e) ?_
      refine ⟨_, rfl, r, _, rfl, .inl (SqL.of hR), rfl, _, rfl, ?_⟩
      refine ifn (fun e => by simp at e) ?_
      refine ⟨_, rfl, r, _, rfl, .inl (SqL.of hR), rfl, _, rfl, ?_⟩
      refine ifn (fun e => by simp at e) ?_
      exact ⟨_, rfl, r, _, _, _, rfl, rfl, SqL.of hR, atI_nat (j := 0) rfl, _, rfl, r, _, _, _, rfl, rfl, SqL.of hR, atI_nat (j := 1) rfl, _, rfl, r, _, _, _, rfl, rfl, SqL.of hR, atI_nat (j := 2) rfl, _, rfl, r, _, _, _, rfl, rfl, SqL.of hR, atI_nat (j := 3) rfl, [t0, t1, t2, t3], rows, rfl, hT, R, k⟩
    | _ :: _ :: _ :: _ :: _ :: _, h => exact absurd h.2 (by simp)
end
end Sh
end
section
set_option Elab.async false
set_option linter.all false
set_option maxRecDepth 100000
set_option maxHeartbeats 4000000
namespace Sh
open PySem PySem.Spec PyProof.Rows L2
open C8 (pss_cut tCut)
open Evl (ixN_nat)
abbrev N_law_bad_number : List Str := ["box"]
theorem sc_law_bad_number : FnScope N_law_bad_number ["box"] (defScope s_law_bad_number) := ⟨rfl, rfl, rfl, by decide +kernel, rfl, by decide +kernel, by decide +kernel⟩
section
variable {P : Program} {w : World} {K : PySem.W.Frag} {mg : Str → Option Value} {base : Heap}
theorem ok_bad51 (T : Bl mg) (c_law_pick : DefOk P w K mg base CX0 1 "_law_pick" spPick51) (D : Def0 K mg "_law_bad_number" s_law_bad_number) : DefOk P w K mg base CX0 2 "_law_bad_number" spBad51 := by
  refine D.ok sc_law_bad_number (fun vs H Q E h => ?_) (fun _ _ _ _ _ _ us hl => match us, hl with | [_], _ => rfl) (fun f cdv A outer s' H vs Q E hr h => ?_)
  · obtain ⟨x, rfl, _⟩ := h
    rfl
  · obtain ⟨x, rfl, hx, k⟩ := h
    refine ⟨_, (pss_one (ps_ret (pe_ix ix_list (pe_lst (pa_cons (pe_un un_neg pe_int) (pa_cons pe_int (pa_cons (pe_un un_neg pe_int) (pa_cons (pe_op op_pow pe_int pe_int) pa_nil))))) (pe_d c_law_pick (hr.mono (by decide)) pass0 (pa_cons (pv 0) (pa_cons pe_int pa_nil))) (fun _ _ => rfl)))), ?_⟩
    refine ⟨_, rfl, _, rfl, _, _, rfl, rfl, ⟨by decide, by decide, by decide⟩, le_line (show 4 ≤ 10000000 by decide), fun l hl => ?_⟩
    have nl := hx.ne hl
    have s1 := (Same.refl H).upd_new (o := .lst [V.int (-1), V.int 1001, V.int (-1000), V.int ((10 : Int) ^ (9 : Int).toNat)]) hl
    have l1 : (upd H l (.lst [V.int (-1), V.int 1001, V.int (-1000), V.int ((10 : Int) ^ (9 : Int).toNat)])) l = some (.lst [V.int (-1), V.int 1001, V.int (-1000), V.int ((10 : Int) ^ (9 : Int).toNat)]) := upd_same
    refine ⟨_, rfl, x, 4, rfl, hx.same s1, by decide, by decide, fun H3 e3 k3 b3 e30 e31 => ?_⟩
    obtain ⟨z, hz, h1, h2, h3⟩ : ∃ z : Int, ([V.int (-1), V.int 1001, V.int (-1000), V.int ((10 : Int) ^ (9 : Int).toNat)] : List V)[e3.toNat]? = some (.int z) ∧ (z < 0 ∨ 1000 < z) ∧ -1000 ≤ z ∧ z ≤ 1000000000 := by
      have hj : e3.toNat < 4 := by omega
      rcases (show e3.toNat = 0 ∨ e3.toNat = 1 ∨ e3.toNat = 2 ∨ e3.toNat = 3 by omega) with h | h | h | h <;> rw [h]
      · exact ⟨_, rfl, by decide, by decide, by decide⟩
      · exact ⟨_, rfl, by decide, by decide, by decide⟩
      · exact ⟨_, rfl, by decide, by decide, by decide⟩
      · exact ⟨_, rfl, by decide, by decide, by decide⟩
    refine ⟨l, _, _, _, rfl, rfl, SqL.of (k3 _ _ l1 nl), at_ofG (j := e3.toNat) (by omega) hz, ?_⟩
    exact k H3 z ((Kp.same s1).trans k3) b3 h1 h2 h3
end
end Sh
end
section
set_option Elab.async false
set_option linter.all false
set_option maxRecDepth 100000
set_option maxHeartbeats 4000000
namespace Sh
open PySem PySem.Spec PyProof.Rows L2
def spInteger51 : Sp := fun vs H Q _ => ∃ n : Int, vs = [.int n] ∧ Q (.bl true) H
abbrev N_law_integer : List Str := ["found"]
theorem sc_law_integer : FnScope N_law_integer ["found"] (defScope s_law_integer) := ⟨rfl, rfl, rfl, by decide +kernel, rfl, by decide +kernel, by decide +kernel⟩
section
variable {P : Program} {w : World} {K : PySem.W.Frag} {mg : Str → Option Value} {base : Heap}
theorem ok_integer51 (T : Bl mg) (D : Def0 K mg "_law_integer" s_law_integer) : DefOk P w K mg base CX0 1 "_law_integer" spInteger51 := by
  refine D.ok sc_law_integer (fun vs H Q E h => ?_) (fun _ _ _ _ _ _ us hl => match us, hl with | [_], _ => rfl) (fun f cdv A outer s' H vs Q E hr h => ?_)
  · obtain ⟨x, rfl, _⟩ := h
    rfl
  · obtain ⟨x, rfl, k⟩ := h
    refine ⟨_, (pss_one (ps_ret (pe_and (pe_callB call_isi (by rfl) T.b_isinstance (by decide +kernel) (pa_cons (pv 0) (pa_cons (pe_bltn (v := .ty "int") (by rfl) T.b_int boot_int rfl) pa_nil))) (pe_one (pe_not (pe_callB call_isi (by rfl) T.b_isinstance (by decide +kernel) (pa_cons (pv 0) (pa_cons (pe_bltn (v := .ty "bool") (by rfl) T.b_bool boot_bool rfl) pa_nil)))))))), ?_⟩
    refine ⟨_, rfl, _, _, _, _, true, rfl, .ty _, .base (.int _), rfl, _, rfl, ?_⟩
    rw [if_pos rfl]
    refine ⟨_, rfl, _, _, _, _, false, rfl, .ty _, .base (.int _), rfl, _, rfl, ?_⟩
    exact k
end
end Sh
end
section
set_option Elab.async false
set_option linter.all false
set_option maxRecDepth 100000
set_option maxHeartbeats 4000000
namespace Sh
open PySem PySem.Spec PyProof.Rows L2
open C8 (pss_cut tCut)
open Evl (ixN_nat)
/-- plain tuples -/
def PlAt {α : Type} (f : α → List V) (H : Hp) (ts : List Addr) (xs : List α) : Prop := ts.length = xs.length ∧ ∀ (i : Nat) (t : Addr) (x : α), ts[i]? = some t → xs[i]? = some x → H t = some (.tup (f x))
theorem PlAt.keep {α : Type} {f : α → List V} {H H' : Hp} {ts : List Addr} {xs : List α} (x : PlAt f H ts xs) (k : ∀ t ys, H t = some (.tup ys) → H' t = some (.tup ys)) : PlAt f H' ts xs := ⟨x.1, fun i t q a b => k _ _ (x.2 i t q a b)⟩
theorem PlAt.nil {α : Type} {f : α → List V} {H : Hp} : PlAt f H [] [] := ⟨rfl, fun i t x a => by simp at a⟩
theorem PlAt.snoc {α : Type} {f : α → List V} {H : Hp} {ts : List Addr} {xs : List α} {t : Addr} {q : α} (x : PlAt f H ts xs) (h : H t = some (.tup (f q))) : PlAt f H (ts ++ [t]) (xs ++ [q]) := by
  refine ⟨by rw [List.length_append, List.length_append, x.1]; rfl, fun i u y a b => ?_⟩
  by_cases e : i < ts.length
  · rw [List.getElem?_append_left e] at a
    rw [List.getElem?_append_left (by rw [← x.1]; exact e)] at b
    exact x.2 i u y a b
  · have el : i - ts.length < 1 := by
      have := (List.getElem?_eq_some_iff.mp a).1
      rw [List.length_append] at this
      have : ([t] : List Addr).length = 1 := rfl
      omega
    rw [List.getElem?_append_right (by omega)] at a
    rw [List.getElem?_append_right (by rw [← x.1]; omega), ← x.1] at b
    have e0 : i - ts.length = 0 := by omega
    rw [e0] at a b
    injection a with a
    injection b with b
    rw [← a, ← b]
    exact h
theorem PlAt.erase {α : Type} {f : α → List V} {H : Hp} {ts : List Addr} {xs : List α} (k : Nat) (x : PlAt f H ts xs) : PlAt f H (ts.eraseIdx k) (xs.eraseIdx k) := by
  refine ⟨by rw [List.length_eraseIdx, List.length_eraseIdx, x.1], fun i t q a b => ?_⟩
  rw [List.getElem?_eraseIdx] at a b
  split at a
  · rename_i h
    rw [if_pos h] at b
    exact x.2 _ _ _ a b
  · rename_i h
    rw [if_neg h] at b
    exact x.2 _ _ _ a b
def chV (q : Str × Str) : List V := [.str q.1, .str q.2]
def swV (q : Str × Str × Int) : List V := [.str q.1, .str q.2.1, .int q.2.2]
/-- a pair of kinds that may be swapped -/
def SwPr (rows : List Row) (q : Str × Str) : Prop := q.1 ≠ q.2 ∧ ∃ d : Int, (q.1, d) ∈ rows ∧ (q.2, d) ∈ rows
structure SwOk (rows : List Row) (sws : List (Str × Str × Int)) : Prop where
  pr : ∀ q ∈ sws, SwPr rows (q.1, q.2.1)
  nd : (sws.map fun q => (q.1, q.2.1)).Nodup
  num : ∀ q ∈ sws, 0 ≤ q.2.2 ∧ q.2.2 ≤ 1000
  len : sws.length ≤ 5
def SwsAt (H : Hp) (p : Addr) (sws : List (Str × Str × Int)) : Prop := ∃ ts, H p = some (.lst (ts.map V.ref)) ∧ PlAt swV H ts sws
def spSwaps51 : Sp := fun vs H Q _ => ∃ (x r : Addr) (rows : List Row), vs = [.ref x, .ref r] ∧ BxAt H x ∧ RowsAt H r rows ∧ ROk 4 rows ∧ ∀ (H' : Hp) (p : Addr) (sws : List (Str × Str × Int)), Kp x H H' → BxAt H' x → H p = none → SwsAt H' p sws → SwOk rows sws → Q (.ref p) H'
/-- the pairs that are found before place j of kind i's turn -/
structure ChOk (rows : List Row) (i j : Nat) (chs : List (Str × Str)) : Prop where
  pr : ∀ c ∈ chs, SwPr rows c
  wh : ∀ c ∈ chs, ∃ a b : Nat, (a < i ∨ (a = i ∧ b < j)) ∧ (rows.map (·.1))[a]? = some c.1 ∧ (rows.map (·.1))[b]? = some c.2
  nd : chs.Nodup
  len : chs.length ≤ i * rows.length + j
theorem ChOk.nil {rows : List Row} : ChOk rows 0 0 [] := ⟨fun c h => (nomatch h), fun c h => (nomatch h), List.nodup_nil, Nat.zero_le _⟩
theorem ChOk.skip {rows : List Row} {i j : Nat} {chs : List (Str × Str)} (h : ChOk rows i j chs) : ChOk rows i (j + 1) chs :=
  ⟨h.pr, fun c hc => by
    obtain ⟨a, b, hab, h1, h2⟩ := h.wh c hc
    exact ⟨a, b, by omega, h1, h2⟩, h.nd, by have := h.len; omega⟩
theorem ChOk.row {rows : List Row} {i : Nat} {chs : List (Str × Str)} (h : ChOk rows i rows.length chs) : ChOk rows (i + 1) 0 chs :=
  ⟨h.pr, fun c hc => by
    obtain ⟨a, b, hab, h1, h2⟩ := h.wh c hc
    exact ⟨a, b, by omega, h1, h2⟩, h.nd, by have := h.len; rw [Nat.succ_mul]; omega⟩
theorem erase_map {α β : Type} (f : α → β) : ∀ (xs : List α) (k : Nat), (xs.map f).eraseIdx k = (xs.eraseIdx k).map f
  | [], k => by simp
  | x :: xs, 0 => rfl
  | x :: xs, k + 1 => by
    show f x :: (xs.map f).eraseIdx k = f x :: (xs.eraseIdx k).map f
    rw [erase_map f xs k]
theorem erase_not {α : Type} : ∀ (xs : List α) (k : Nat) (h : k < xs.length), xs.Nodup → xs[k] ∉ xs.eraseIdx k
  | x :: xs, 0, h, nd => (List.nodup_cons.mp nd).1
  | x :: xs, k + 1, h, nd => by
    have h' : k < xs.length := Nat.lt_of_succ_lt_succ h
    show xs[k] ∉ x :: xs.eraseIdx k
    intro m
    rcases List.mem_cons.mp m with m | m
    · exact (List.nodup_cons.mp nd).1 (m ▸ List.getElem_mem h')
    · exact erase_not xs k h' (List.nodup_cons.mp nd).2 m
theorem nd_at {ns : List Str} (h : ns.Nodup) {a b : Nat} {n : Str} (h1 : ns[a]? = some n) (h2 : ns[b]? = some n) : a = b := by
  obtain ⟨l1, e1⟩ := List.getElem?_eq_some_iff.mp h1
  obtain ⟨l2, e2⟩ := List.getElem?_eq_some_iff.mp h2
  exact (List.getElem_inj h).mp (e1.trans e2.symm)
theorem ChOk.add {rows : List Row} {i j : Nat} {chs : List (Str × Str)} (h : ChOk rows i j chs) (nd : (rows.map (·.1)).Nodup) {p o : Row} (hp : rows[i]? = some p) (ho : rows[j]? = some o) (n : p.1 ≠ o.1) (e : p.2 = o.2) : ChOk rows i (j + 1) (chs ++ [(p.1, o.1)]) := by
  have hpi : (rows.map (·.1))[i]? = some p.1 := by rw [List.getElem?_map, hp]; rfl
  have hoj : (rows.map (·.1))[j]? = some o.1 := by rw [List.getElem?_map, ho]; rfl
  refine ⟨fun c hc => ?_, fun c hc => ?_, ?_, ?_⟩
  · rcases List.mem_append.mp hc with hc | hc
    · exact h.pr c hc
    · rw [List.mem_singleton.mp hc]
      exact ⟨n, p.2, List.mem_of_getElem? hp, by rw [e]; exact List.mem_of_getElem? ho⟩
  · rcases List.mem_append.mp hc with hc | hc
    · obtain ⟨a, b, hab, h1, h2⟩ := h.wh c hc
      exact ⟨a, b, by omega, h1, h2⟩
    · rw [List.mem_singleton.mp hc]
      exact ⟨i, j, .inr ⟨rfl, by omega⟩, hpi, hoj⟩
  · rw [List.nodup_append]
    refine ⟨h.nd, by simp, fun c hc d hd => ?_⟩
    rw [List.mem_singleton.mp hd]
    rintro rfl
    obtain ⟨a, b, hab, h1, h2⟩ := h.wh _ hc
    have := nd_at nd h1 hpi
    have := nd_at nd h2 hoj
    omega
  · rw [List.length_append]
    have := h.len
    have : [(p.1, o.1)].length = 1 := rfl
    omega
abbrev N_law_swaps : List Str := ["box", "kinds", "choices", "pair", "other", "found", "turn", "both"]
theorem sc_law_swaps : FnScope N_law_swaps ["box", "kinds"] (defScope s_law_swaps) := ⟨rfl, rfl, rfl, by decide +kernel, rfl, by decide +kernel, by decide +kernel⟩
section
variable {P : Program} {w : World} {K : PySem.W.Frag} {mg : Str → Option Value} {base : Heap}
theorem PlAt.two {α : Type} {f : α → List V} {H : Hp} {us : List Addr} {xs : List α} {l t : Addr} {ys : List V} {vs : List V} (x : PlAt f H us xs) (ht : H t = none) (hl : H l = some (.lst ys)) {q : α} : PlAt f (upd (upd H t (.tup (f q))) l (.lst vs)) (us ++ [t]) (xs ++ [q]) := by
  have ntl : t ≠ l := fun e => by
    rw [e, hl] at ht
    cases ht
  refine (x.keep fun u zs h => ?_).snoc ?_
  · have n1 : u ≠ t := fun e => by
      rw [e, ht] at h
      cases h
    have n2 : u ≠ l := fun e => by
      rw [e, hl] at h
      cases h
    rw [upd_ne n2, upd_ne n1]
    exact h
  · rw [upd_ne ntl]
    exact upd_same
theorem ok_swaps51 (T : Bl mg) (c_law_pick : DefOk P w K mg base CX0 1 "_law_pick" spPick51) (c_law_number : DefOk P w K mg base CX0 2 "_law_number" spNum51) (D : Def0 K mg "_law_swaps" s_law_swaps) : DefOk P w K mg base CX0 3 "_law_swaps" spSwaps51 := by
  refine D.ok sc_law_swaps (fun vs H Q E h => ?_) (fun _ _ _ _ _ _ us hl => match us, hl with | [_, _], _ => rfl) (fun f cdv A outer s' H vs Q E hr h => ?_)
  · obtain ⟨x, r, rows, rfl, _⟩ := h
    rfl
  · obtain ⟨x, r, rows, rfl, hx, ⟨ts, hR, hT⟩, R, k⟩ := h
    refine ⟨_, (pss_cons (ps_set (i := 2) sc_law_swaps.nd rfl (Or.inl rfl) (pe_lst pa_nil))
      (pss_cons (ps_for PassesOwn.never rfl (pi_list (pv 1)) (pg_name (i := 3) sc_law_swaps.nd rfl (Or.inl rfl))
        (pss_one (ps_for PassesOwn.never rfl (pi_list (pv 1)) (pg_name (i := 4) sc_law_swaps.nd rfl (Or.inl rfl))
          (pss_one (ps_if (PW.pt (pw_and (pt_cmpR op_ne (pe_ix ix_tup (pv 3) pe_int (fun _ _ => rfl)) (pe_ix ix_tup (pv 4) pe_int (fun _ _ => rfl)) (nomark _)) (pw_and1 (pt_cmpR op_eq (pe_ix ix_tup (pv 3) pe_int (fun _ _ => rfl)) (pe_ix ix_tup (pv 4) pe_int (fun _ _ => rfl)) (nomark _)))))
            (pss_one (ps_expr (pe_bm PySem.F.plainAttrs_list PySem.F.slot_list_append PySem.F.type_list_append mt_append (pv 2) (pa_cons (pe_tup (pa_cons (pe_ix ix_tup (pv 3) pe_int (fun _ _ => rfl)) (pa_cons (pe_ix ix_tup (pv 4) pe_int (fun _ _ => rfl)) pa_nil))) pa_nil))))
            pss_nil)))))
      (pss_cons (ps_set (i := 5) sc_law_swaps.nd rfl (Or.inl rfl) (pe_lst pa_nil))
      (pss_cons (ps_for PassesOwn.never rfl (pi_range1 (by rfl) T.b_range (pa_cons (pe_d c_law_pick (hr.mono (by decide)) pass0 (pa_cons (pv 0) (pa_cons pe_int pa_nil))) pa_nil)) (pg_name (i := 6) sc_law_swaps.nd rfl (Or.inl rfl))
        (pss_cons (ps_if (pt_cmpR op_eq (pe_callB call_len_seq (by rfl) T.b_len boot_len (pa_cons (pv 2) pa_nil)) pe_int (nomark _))
          (pss_one ps_break)
          pss_nil)
        (pss_cons (ps_set (i := 7) sc_law_swaps.nd rfl (Or.inl rfl) (pe_bm PySem.F.plainAttrs_list PySem.F.slot_list_pop PySem.F.type_list_pop mt_popAt (pv 2) (pa_cons (pe_d c_law_pick (hr.mono (by decide)) pass0 (pa_cons (pv 0) (pa_cons (pe_callB call_len_seq (by rfl) T.b_len boot_len (pa_cons (pv 2) pa_nil)) pa_nil))) pa_nil)))
        (pss_one (ps_expr (pe_bm PySem.F.plainAttrs_list PySem.F.slot_list_append PySem.F.type_list_append mt_append (pv 5) (pa_cons (pe_tup (pa_cons (pe_ix ix_tup (pv 7) pe_int (fun _ _ => rfl)) (pa_cons (pe_ix ix_tup (pv 7) pe_int (fun _ _ => rfl)) (pa_cons (pe_d c_law_number (hr.mono (by decide)) pass0 (pa_cons (pv 0) pa_nil)) pa_nil)))) pa_nil)))))))
      (pss_one (ps_ret (pv 5))))))), ?_⟩
    refine ⟨le_line (show 0 ≤ 10000000 by decide), fun l hl => ?_⟩
    have s1 : Same H (upd H l (.lst [])) := (Same.refl H).upd_new hl
    have l1 : (upd H l (.lst [])) l = some (.lst (([] : List Addr).map V.ref)) := upd_same
    generalize upd H l (.lst []) = H1 at s1 l1
    refine ⟨_, rfl, r, rfl, ⟨_, SqL.of (s1 _ _ hR)⟩, for_it (walk_list (xs := ts.map V.ref)) (fun i σ H' => ∃ (x3 x4 x5 x6 x7 : Option V) (us : List Addr) (chs : List (Str × Str)), σ = [some (.ref x), some (.ref r), some (.ref l), x3, x4, none, none, none] ∧ Same H H' ∧ H' l = some (.lst (us.map V.ref)) ∧ PlAt chV H' us chs ∧ ChOk rows i 0 chs)
      ⟨none, none, none, none, none, [], [], rfl, s1, l1, .nil, .nil⟩ (fun i σ H' _ ⟨_, _, _, _, _, _, _, _, q, _⟩ => SqL.of (q _ _ hR)) ?_ ?_⟩
    · rintro i v σ H2 H3 hi ⟨x3, x4, x5, x6, x7, us, chs, rfl, s2, l2, p2, c2⟩ ⟨rfl, hv⟩
      rw [List.length_map, hT.1] at hi
      obtain ⟨t, ht, rfl⟩ := get_map hv
      have hq := (hT.2 i t rows[i] ht (List.getElem?_eq_getElem hi))
      refine ⟨_, rfl, r, rfl, ⟨_, SqL.of (s2 _ _ hR)⟩, for_it (walk_list (xs := ts.map V.ref)) (fun j σ H' => ∃ (x4 : Option V) (us : List Addr) (chs : List (Str × Str)), σ = [some (.ref x), some (.ref r), some (.ref l), some (.ref t), x4, none, none, none] ∧ Same H H' ∧ H' l = some (.lst (us.map V.ref)) ∧ PlAt chV H' us chs ∧ ChOk rows i j chs)
        ⟨x4, us, chs, rfl, s2, l2, p2, c2⟩ (fun i σ H' _ ⟨_, _, _, _, q, _⟩ => SqL.of (q _ _ hR)) ?_ ?_⟩
      · rintro j v σ H4 H5 hj ⟨x4, us, chs, rfl, s4, l4, p4, c4⟩ ⟨rfl, hv⟩
        rw [List.length_map, hT.1] at hj
        obtain ⟨u, hu, rfl⟩ := get_map hv
        have ho := (hT.2 j u rows[j] hu (List.getElem?_eq_getElem hj))
        have hq4 := s4 _ _ hq
        have ho4 := s4 _ _ ho
        refine ⟨_, rfl, t, _, _, _, rfl, rfl, SqT.of hq4, atI_nat (j := 0) rfl, _, rfl, u, _, _, _, rfl, rfl, SqT.of ho4, atI_nat (j := 0) rfl, rfl, _, rfl, ite2 (fun c => ?_) (fun c => ⟨_, us, chs, rfl, s4, l4, p4, c4.skip⟩)⟩
        refine ⟨_, rfl, t, _, _, _, rfl, rfl, SqT.of hq4, atI_nat (j := 1) rfl, _, rfl, u, _, _, _, rfl, rfl, SqT.of ho4, atI_nat (j := 1) rfl, rfl, _, rfl, ite2 (fun d => ?_) (fun d => ⟨_, us, chs, rfl, s4, l4, p4, c4.skip⟩)⟩
        refine ⟨_, rfl, .inl ⟨rfl, _, SqL.of l4⟩, _, rfl, t, _, _, _, rfl, rfl, SqT.of hq4, atI_nat (j := 0) rfl, _, rfl, u, _, _, _, rfl, rfl, SqT.of ho4, atI_nat (j := 0) rfl, le_line (show 2 ≤ 10000000 by decide), fun z hz => ?_⟩
        have nz : z ≠ l := fun e => by
          rw [e, l4] at hz
          cases hz
        refine ⟨l, _, _, rfl, rfl, by rw [upd_ne (Ne.symm nz)]; exact l4, ?_, ?_⟩
        · rw [List.length_map, p4.1]
          have h1 := c4.len
          have h2 := R.len
          have h3 : i * rows.length ≤ 4 * 4 := Nat.mul_le_mul (by omega) (by omega)
          exact lt_line (n := chs.length) (by omega)
        · refine ⟨_, us ++ [z], chs ++ [((rows[i]).1, (rows[j]).1)], rfl, (s4.upd_new hz).upd_own hl, ?_, p4.two hz l4, c4.add R.nd (List.getElem?_eq_getElem hi) (List.getElem?_eq_getElem hj) ?_ ?_⟩
          · rw [upd_same, List.map_append]
            rfl
          · intro e
            rw [e] at c
            simp at c
          · have := of_decide_eq_true d
            injection this
      · rintro σ H4 ⟨x4, us, chs, rfl, s4, l4, p4, c4⟩
        rw [List.length_map, hT.1] at c4
        exact ⟨_, x4, none, none, none, us, chs, rfl, s4, l4, p4, c4.row⟩
    · rintro σ H2 ⟨x3, x4, x5, x6, x7, us, chs, rfl, s2, l2, p2, c2⟩
      rw [List.length_map, hT.1] at c2
      have nlx : l ≠ x := hx.ne hl
      refine ⟨le_line (show 0 ≤ 10000000 by decide), fun p hp => ?_⟩
      have npl : p ≠ l := fun e => by
        rw [e, l2] at hp
        cases hp
      have s3 : Same H (upd H2 p (.lst [])) := s2.upd_new hp
      have l3 : (upd H2 p (.lst [])) l = some (.lst (us.map V.ref)) := by rw [upd_ne (Ne.symm npl)]; exact l2
      have p3 : (upd H2 p (.lst [])) p = some (.lst (([] : List Addr).map V.ref)) := upd_same
      have q3 : PlAt chV (upd H2 p (.lst [])) us chs := p2.keep fun u ys h => by
        rw [upd_ne fun e => by rw [e, hp] at h; cases h]
        exact h
      have hpH : H p = none := by
        cases e : H p with
        | none => rfl
        | some o =>
          rw [s2 _ _ e] at hp
          cases hp
      have npx : p ≠ x := hx.ne hpH
      generalize upd H2 p (.lst []) = H3 at s3 l3 p3 q3
      refine ⟨_, rfl, x, 6, rfl, hx.same s3, by decide, by decide, fun H4 e k4 b4 e0 e6 => ⟨_, rfl, by omega, by omega, ?_⟩⟩
      have hl16 : chs.length ≤ 16 := by
        have h1 := c2.len
        have h2 := R.len
        have h3 : rows.length * rows.length ≤ 4 * 4 := Nat.mul_le_mul (by omega) (by omega)
        omega
      have kp4 : ∀ u ys, H3 u = some (.tup ys) → H4 u = some (.tup ys) := fun u ys h => k4 _ _ h fun e => by
        obtain ⟨za, zb, hz⟩ := hx.same s3
        rw [e, hz] at h
        cases h
      refine for_range (n := e.toNat) (fun i σ H' => ∃ (x6 x7 : Option V) (us : List Addr) (chs : List (Str × Str)) (vs : List Addr) (sws : List (Str × Str × Int)), σ = [some (.ref x), some (.ref r), some (.ref l), x3, x4, some (.ref p), x6, x7] ∧ Kp x H H' ∧ BxAt H' x ∧ H' l = some (.lst (us.map V.ref)) ∧ PlAt chV H' us chs ∧ chs.Nodup ∧ (∀ c ∈ chs, SwPr rows c) ∧ chs.length ≤ 16 ∧ H' p = some (.lst (vs.map V.ref)) ∧ PlAt swV H' vs sws ∧ sws.length = i ∧ (∀ q ∈ sws, SwPr rows (q.1, q.2.1)) ∧ (sws.map fun q => (q.1, q.2.1)).Nodup ∧ (∀ q ∈ sws, 0 ≤ q.2.2 ∧ q.2.2 ≤ 1000) ∧ ∀ q ∈ sws, (q.1, q.2.1) ∉ chs)
        ⟨none, none, us, chs, [], [], rfl, (Kp.same s3).trans k4, b4, k4 _ _ l3 nlx, q3.keep kp4, c2.nd, c2.pr, hl16, k4 _ _ p3 npx, .nil, rfl, (fun q h => nomatch h), List.nodup_nil, (fun q h => nomatch h), fun q h => nomatch h⟩ ?_ ?_
      · rintro i σ H5 hi ⟨x6, x7, us, chs, vs, sws, rfl, k5, b5, l5, q5, nd5, pr5, len5, p5, w5, wl, wpr, wnd, wnum, wdis⟩
        refine ⟨_, rfl, l, _, rfl, .inl (SqL.of l5), rfl, _, rfl, ite2 (fun c => ?_) (fun c => ?_)⟩
        · exact ⟨_, rfl, k H5 p sws k5 b5 hpH ⟨vs, p5, w5⟩ ⟨wpr, wnd, wnum, by omega⟩⟩
        · have cpos : 0 < chs.length := by
            rw [List.length_map, q5.1] at c
            rcases Nat.eq_zero_or_pos chs.length with h | h
            · exact absurd (by rw [h]; rfl) c
            · exact h
          have lus : (us.map V.ref).length = chs.length := by rw [List.length_map, q5.1]
          refine ⟨_, rfl, .inl ⟨rfl, _, SqL.of l5⟩, _, rfl, _, rfl, l, _, rfl, .inl (SqL.of l5), x, _, rfl, b5, by omega, by omega, fun H6 d k6 b6 d0 d6 => ?_⟩
          have l6 := k6 _ _ l5 nlx
          have kt6 : ∀ u ys, H5 u = some (.tup ys) → H6 u = some (.tup ys) := fun u ys h => k6 _ _ h fun e => by
            obtain ⟨za, zb, hz⟩ := b5
            rw [e, hz] at h
            cases h
          have hd : d.toNat < chs.length := by omega
          have hdu : d.toNat < us.length := by rw [q5.1]; exact hd
          have ht6 := kt6 _ _ (q5.2 d.toNat us[d.toNat] chs[d.toNat] (List.getElem?_eq_getElem hdu) (List.getElem?_eq_getElem hd))
          refine ⟨l, _, _, d.toNat, _, rfl, rfl, l6, by omega, by omega, ?_, (by rw [List.getElem?_map, List.getElem?_eq_getElem hdu]; rfl : (us.map V.ref)[d.toNat]? = some (V.ref us[d.toNat])), ?_⟩
          · rw [lus]
            exact seqIndex_of d0 (by omega)
          have p6 := k6 _ _ p5 npx
          have l7 : (upd H6 l (.lst ((us.map V.ref).eraseIdx d.toNat))) l = some (.lst ((us.eraseIdx d.toNat).map V.ref)) := by
            rw [upd_same, erase_map]
          have p7 : (upd H6 l (.lst ((us.map V.ref).eraseIdx d.toNat))) p = some (.lst (vs.map V.ref)) := by rw [upd_ne npl]; exact p6
          have kt7 : ∀ u ys, H6 u = some (.tup ys) → (upd H6 l (.lst ((us.map V.ref).eraseIdx d.toNat))) u = some (.tup ys) := fun u ys h => by
            rw [upd_ne fun e => by rw [e, l6] at h; cases h]
            exact h
          have k7 : Kp x H (upd H6 l (.lst ((us.map V.ref).eraseIdx d.toNat))) := fun a o h n => by
            rw [upd_ne fun e => by rw [e, hl] at h; cases h]
            exact (k5.trans k6) a o h n
          have b7 := b6.upd_ne (o := .lst ((us.map V.ref).eraseIdx d.toNat)) nlx
          generalize upd H6 l (.lst ((us.map V.ref).eraseIdx d.toNat)) = H7 at l7 p7 kt7 k7 b7
          have t7 := kt7 _ _ ht6
          refine ⟨_, rfl, .inl ⟨rfl, _, SqL.of p7⟩, _, rfl, _, _, _, _, rfl, rfl, SqT.of t7, atI_nat (j := 0) rfl, _, rfl, _, _, _, _, rfl, rfl, SqT.of t7, atI_nat (j := 1) rfl, _, rfl, x, rfl, b7, fun H8 n k8 b8 n0 n1 => ?_⟩
          have p8 := k8 _ _ p7 npx
          have l8 := k8 _ _ l7 nlx
          have kt8 : ∀ u ys, H7 u = some (.tup ys) → H8 u = some (.tup ys) := fun u ys h => k8 _ _ h fun e => by
            obtain ⟨za, zb, hz⟩ := b7
            rw [e, hz] at h
            cases h
          refine ⟨le_line (show 3 ≤ 10000000 by decide), fun z hz => ?_⟩
          have nzp : z ≠ p := fun e => by rw [e, p8] at hz; cases hz
          have nzl : z ≠ l := fun e => by rw [e, l8] at hz; cases hz
          have nzx := b8.ne hz
          refine ⟨p, _, _, rfl, rfl, by rw [upd_ne (Ne.symm nzp)]; exact p8, ?_, ?_⟩
          · rw [List.length_map, w5.1]
            exact lt_line (n := sws.length) (by omega)
          · have hm := List.getElem_mem hd
            refine ⟨_, _, us.eraseIdx d.toNat, chs.eraseIdx d.toNat, vs ++ [z], sws ++ [((chs[d.toNat]).1, (chs[d.toNat]).2, n)], rfl, fun a o h nn => ?_, ?_, ?_, (q5.erase d.toNat).keep ?_, ?_, fun c hc => pr5 c (List.mem_of_mem_eraseIdx hc), ?_, ?_, (w5.keep fun u ys h => kt8 _ _ (kt7 _ _ (kt6 _ _ h))).two hz p8, ?_, ?_, ?_, ?_, ?_⟩
            · have h8 := (k7.trans k8) a o h nn
              rw [upd_ne (fun e => by rw [e, hpH] at h; cases h), upd_ne (fun e => by rw [e, hz] at h8; cases h8)]
              exact h8
            · exact (b8.upd_ne nzx).upd_ne npx
            · rw [upd_ne (Ne.symm npl), upd_ne (Ne.symm nzl)]
              exact l8
            · intro u ys h
              have h8 := kt8 _ _ (kt7 _ _ (kt6 _ _ h))
              rw [upd_ne (fun e => by rw [e, p8] at h8; cases h8), upd_ne (fun e => by rw [e, hz] at h8; cases h8)]
              exact h8
            · exact nd5.sublist (List.eraseIdx_sublist _ _)
            · have := List.length_eraseIdx_le chs d.toNat
              omega
            · rw [upd_same, List.map_append]
              rfl
            · rw [List.length_append, wl]
              rfl
            · intro q hq
              rcases List.mem_append.mp hq with hq | hq
              · exact wpr q hq
              · rw [List.mem_singleton.mp hq]
                exact pr5 _ hm
            · rw [List.map_append, List.nodup_append]
              refine ⟨wnd, by simp, fun c hc e he => ?_⟩
              rw [List.mem_singleton.mp he]
              rintro rfl
              obtain ⟨q, hq, e1⟩ := List.mem_map.mp hc
              exact wdis q hq (by rw [e1]; exact hm)
            · intro q hq
              rcases List.mem_append.mp hq with hq | hq
              · exact wnum q hq
              · rw [List.mem_singleton.mp hq]
                exact ⟨n0, n1⟩
            · intro q hq
              rcases List.mem_append.mp hq with hq | hq
              · exact fun m => wdis q hq (List.mem_of_mem_eraseIdx m)
              · rw [List.mem_singleton.mp hq]
                exact erase_not chs d.toNat hd nd5
      · rintro σ H5 ⟨x6, x7, us, chs, vs, sws, rfl, k5, b5, l5, q5, nd5, pr5, len5, p5, w5, wl, wpr, wnd, wnum, wdis⟩
        exact ⟨_, rfl, k H5 p sws k5 b5 hpH ⟨vs, p5, w5⟩ ⟨wpr, wnd, wnum, by omega⟩⟩
end
end Sh
end
section
set_option Elab.async false
set_option linter.all false
set_option maxRecDepth 100000
set_option maxHeartbeats 4000000
namespace Sh
open PySem PySem.Spec PyProof.Rows L2
open C8 (pss_cut tCut)
open Evl (ixN_nat)
abbrev Swap : Type := Str × Str × Int
theorem units65 {k : Nat} {A : Around} (r : Room k A) : A.units + 65 < cLine := by have := r.un; omega
theorem nm_ok {z : Str} (h : IsNm z) : PyData.strOk z = true := by
  unfold PyData.strOk
  rw [← Array.all_toList, List.all_eq_true]
  intro c hc
  have := h.2.2 c hc
  exact decide_eq_true (by omega)
theorem ok_app {a b : Str} (h : PyData.strOk a = true) (h2 : PyData.strOk b = true) : PyData.strOk (a ++ b) = true := by
  unfold PyData.strOk at h h2 ⊢
  rw [← Array.all_toList, List.all_eq_true] at h h2 ⊢
  intro c hc
  rw [app_tl] at hc
  rcases List.mem_append.mp hc with q | q
  · exact h c q
  · exact h2 c q
/-- a text of at most m signs that may be told -/
def TOk (m : Nat) (z : Str) : Prop := z.cps.size ≤ m ∧ PyData.strOk z = true
theorem TOk.nm {z : Str} (h : IsNm z) : TOk 8 z := ⟨h.2.1, nm_ok h⟩
theorem TOk.up {z : Str} (h : TOk 8 z) : TOk 9 z := ⟨Nat.le_trans h.1 (by decide), h.2⟩
theorem TOk.Z {z : Str} (h : TOk 8 z) : TOk 9 (z ++ ("Z" : Str)) := by
  refine ⟨?_, ok_app h.2 (by decide +kernel)⟩
  have := h.1
  rw [size_tl, app_tl, List.length_append, ← size_tl]
  have e : ("Z" : Str).cps.toList.length = 1 := by decide +kernel
  omega
theorem PlAt.take {α : Type} {f : α → List V} {H : Hp} {ts : List Addr} {xs : List α} (k : Nat) (x : PlAt f H ts xs) : PlAt f H (ts.take k) (xs.take k) := by
  refine ⟨by rw [List.length_take, List.length_take, x.1], fun i t q a b => ?_⟩
  have hi : i < k := by
    have := (List.getElem?_eq_some_iff.mp a).1
    rw [List.length_take] at this
    omega
  rw [List.getElem?_take_of_lt hi] at a b
  exact x.2 i t q a b
theorem PlAt.drop {α : Type} {f : α → List V} {H : Hp} {ts : List Addr} {xs : List α} (k : Nat) (x : PlAt f H ts xs) : PlAt f H (ts.drop k) (xs.drop k) := by
  refine ⟨by rw [List.length_drop, List.length_drop, x.1], fun i t q a b => ?_⟩
  rw [List.getElem?_drop] at a b
  exact x.2 _ t q a b
theorem PlAt.app {α : Type} {f : α → List V} {H : Hp} {ts us : List Addr} {xs ys : List α} (x : PlAt f H ts xs) (y : PlAt f H us ys) : PlAt f H (ts ++ us) (xs ++ ys) := by
  refine ⟨by rw [List.length_append, List.length_append, x.1, y.1], fun i t q a b => ?_⟩
  by_cases c : i < ts.length
  · rw [List.getElem?_append_left c] at a
    rw [List.getElem?_append_left (by rw [← x.1]; exact c)] at b
    exact x.2 i t q a b
  · rw [List.getElem?_append_right (by omega)] at a
    rw [List.getElem?_append_right (by rw [← x.1]; omega), ← x.1] at b
    exact y.2 _ t q a b
theorem PlAt.one {α : Type} {f : α → List V} {H : Hp} {t : Addr} {x : α} (h : H t = some (.tup (f x))) : PlAt f H [t] [x] := by
  have := (PlAt.nil (f := f) (H := H)).snoc (t := t) (q := x) h
  exact this
theorem cut_to {xs : List V} {k : Nat} (h : k ≤ xs.length) : cutV xs none (some (k : Int)) = xs.take k := by
  have h1 : HT.sIx xs.length 0 none = 0 := rfl
  have h2 : HT.sIx xs.length xs.length (some (k : Int)) = k := by
    rw [HT.sIx_nat]
    omega
  unfold cutV
  rw [h1, h2, List.drop_zero, Nat.sub_zero]
theorem cut_from {xs : List V} {k : Nat} (h : k ≤ xs.length) : cutV xs (some (k : Int)) none = xs.drop k := by
  have h1 : HT.sIx xs.length xs.length none = xs.length := rfl
  have h2 : HT.sIx xs.length 0 (some (k : Int)) = k := by
    rw [HT.sIx_nat]
    omega
  unfold cutV
  rw [h1, h2]
  exact List.take_of_length_le (by rw [List.length_drop]; omega)
/-- texts that a fault may have -/
def TxOk (sws : List Swap) : Prop := ∀ q ∈ sws, TOk 9 q.1 ∧ TOk 9 q.2.1
def spBadSw51 : Sp := fun vs H Q _ => ∃ (x r l : Addr) (rows : List Row) (sws : List Swap), vs = [.ref x, .ref r, .ref l] ∧ BxAt H x ∧ RowsAt H r rows ∧ ROk 4 rows ∧ SwsAt H l sws ∧ SwOk rows sws ∧
  ∀ (H' : Hp) (p : Addr) (sws' : List Swap), Kp x H H' → BxAt H' x → H p = none → SwsAt H' p sws' → TxOk sws' → sws'.length ≤ 6 → Q (.ref p) H'
abbrev N_law_bad_swaps : List Str := ["box", "kinds", "swaps", "way", "word", "other", "number", "old", "place"]
theorem sc_law_bad_swaps : FnScope N_law_bad_swaps ["box", "kinds", "swaps"] (defScope s_law_bad_swaps) := ⟨rfl, rfl, rfl, by decide +kernel, rfl, by decide +kernel, by decide +kernel⟩
theorem BxAt.tk {H H' : Hp} {x : Addr} (b : BxAt H x) (k : Kp x H H') : TK H H' := fun t xs h => k t _ h fun e => by
  obtain ⟨za, zb, hz⟩ := b
  rw [e, hz] at h
  cases h
theorem BxAt.nref {H : Hp} {x p : Addr} {ts : List Addr} (b : BxAt H x) (h : H p = some (.lst (ts.map V.ref))) : p ≠ x := fun e => by
  obtain ⟨za, zb, hz⟩ := b
  rw [e, hz] at h
  injection h with h
  injection h with h
  cases ts with
  | nil => cases h
  | cons t ts =>
    injection h with h _
    cases h
section
variable {P : Program} {w : World} {K : PySem.W.Frag} {mg : Str → Option Value} {base : Heap}
theorem ok_badsw51 (T : Bl mg) (c_law_pick : DefOk P w K mg base CX0 1 "_law_pick" spPick51) (c_law_number : DefOk P w K mg base CX0 2 "_law_number" spNum51) (c_law_bad_number : DefOk P w K mg base CX0 2 "_law_bad_number" spBad51) (D : Def0 K mg "_law_bad_swaps" s_law_bad_swaps) : DefOk P w K mg base CX0 3 "_law_bad_swaps" spBadSw51 := by
  refine D.ok sc_law_bad_swaps (fun vs H Q E h => ?_) (fun _ _ _ _ _ _ us hl => match us, hl with | [_, _, _], _ => rfl) (fun f cdv A outer s' H vs Q E hr h => ?_)
  · obtain ⟨x, r, l, rows, sws, rfl, _⟩ := h
    rfl
  · obtain ⟨x, r, l, rows, sws, rfl, hx, ⟨ts, hR, hT⟩, R, ⟨us, hl, hS⟩, W, key⟩ := h
    have nrx := hx.nref hR
    have nlx := hx.nref hl
    have ls : (us.map V.ref).length = sws.length := by rw [List.length_map, hS.1]
    have lr : (ts.map V.ref).length = rows.length := by rw [List.length_map, hT.1]
    have w5 := W.len
    have r1 := R.pos
    have r4 := R.len
    refine ⟨_, (pss_cons (ps_set (i := 3) sc_law_bad_swaps.nd rfl (Or.inl rfl) (pe_d c_law_pick (hr.mono (by decide)) pass0 (pa_cons (pv 0) (pa_cons pe_int pa_nil))))
      (pss_cons (ps_set (i := 4) sc_law_bad_swaps.nd rfl (Or.inl rfl) (pe_ix ix_tup (pe_ix ix_list (pv 1) (pe_d c_law_pick (hr.mono (by decide)) pass0 (pa_cons (pv 0) (pa_cons (pe_callB call_len_seq (by rfl) T.b_len boot_len (pa_cons (pv 1) pa_nil)) pa_nil))) (fun _ _ => rfl)) pe_int (fun _ _ => rfl)))
      (pss_cons (ps_set (i := 5) sc_law_bad_swaps.nd rfl (Or.inl rfl) (pe_ix ix_tup (pe_ix ix_list (pv 1) (pe_d c_law_pick (hr.mono (by decide)) pass0 (pa_cons (pv 0) (pa_cons (pe_callB call_len_seq (by rfl) T.b_len boot_len (pa_cons (pv 1) pa_nil)) pa_nil))) (fun _ _ => rfl)) pe_int (fun _ _ => rfl)))
      (pss_cons (ps_set (i := 6) sc_law_bad_swaps.nd rfl (Or.inl rfl) (pe_d c_law_number (hr.mono (by decide)) pass0 (pa_cons (pv 0) pa_nil)))
      (pss_cut (ps_if (pt_cmpR op_eq (pv 3) pe_int (nomark _))
        (pss_one (ps_set (i := 4) sc_law_bad_swaps.nd rfl (Or.inl rfl) (pe_ix ix_list (pe_lst (pa_cons pe_str (pa_cons pe_str (pa_cons pe_str pa_nil)))) (pe_d c_law_pick (hr.mono (by decide)) pass0 (pa_cons (pv 0) (pa_cons pe_int pa_nil))) (fun _ _ => rfl))))
        pss_nil)
      (pss_cut (ps_if (pt_cmpR op_eq (pv 3) pe_int (nomark _))
        (pss_one (ps_set (i := 5) sc_law_bad_swaps.nd rfl (Or.inl rfl) (pe_op op_add_str (pv 5) pe_str)))
        pss_nil)
      (pss_cut (ps_if (pt_cmpR op_eq (pv 3) pe_int (nomark _))
        (pss_one (ps_set (i := 5) sc_law_bad_swaps.nd rfl (Or.inl rfl) (pv 4)))
        pss_nil)
      (pss_cut (ps_if (pt_cmpR op_eq (pv 3) pe_int (nomark _))
        (pss_one (ps_set (i := 6) sc_law_bad_swaps.nd rfl (Or.inl rfl) (pe_d c_law_bad_number (hr.mono (by decide)) pass0 (pa_cons (pv 0) pa_nil))))
        pss_nil)
      (pss_cut (ps_if (PW.pt (pw_and (pt_cmpR op_gt (pv 3) pe_int (nomark _)) (pw_and1 (pt_cmpR op_gt (pe_callB call_len_seq (by rfl) T.b_len boot_len (pa_cons (pv 2) pa_nil)) pe_int (nomark _)))))
        (pss_cons (ps_set (i := 7) sc_law_bad_swaps.nd rfl (Or.inl rfl) (pe_ix ix_list (pv 2) (pe_d c_law_pick (hr.mono (by decide)) pass0 (pa_cons (pv 0) (pa_cons (pe_callB call_len_seq (by rfl) T.b_len boot_len (pa_cons (pv 2) pa_nil)) pa_nil))) (fun _ _ => rfl)))
        (pss_cons (ps_set (i := 4) sc_law_bad_swaps.nd rfl (Or.inl rfl) (pe_ix ix_tup (pv 7) pe_int (fun _ _ => rfl)))
        (pss_one (ps_set (i := 5) sc_law_bad_swaps.nd rfl (Or.inl rfl) (pe_ix ix_tup (pv 7) pe_int (fun _ _ => rfl))))))
        pss_nil)
      (pss_cut (ps_if (pt_cmpR op_eq (pv 3) pe_int (nomark _))
        (pss_one (ps_set (i := 6) sc_law_bad_swaps.nd rfl (Or.inl rfl) (pe_d c_law_bad_number (hr.mono (by decide)) pass0 (pa_cons (pv 0) pa_nil))))
        pss_nil)
      (pss_cons (ps_set (i := 8) sc_law_bad_swaps.nd rfl (Or.inl rfl) (pe_d c_law_pick (hr.mono (by decide)) pass0 (pa_cons (pv 0) (pa_cons (pe_op op_add (pe_callB call_len_seq (by rfl) T.b_len boot_len (pa_cons (pv 2) pa_nil)) pe_int) pa_nil))))
      (pss_one (ps_ret (pe_op op_cat (pe_op op_cat (pe_slice sl_list (pv 2) po_none (po_some (pv 8))) (pe_lst (pa_cons (pe_tup (pa_cons (pv 4) (pa_cons (pv 5) (pa_cons (pv 6) pa_nil)))) pa_nil))) (pe_slice sl_list (pv 2) (po_some (pv 8)) po_none))))))))))))))), ?_⟩
    refine ⟨_, rfl, x, 7, rfl, hx, by decide, by decide, fun H1 way k1 b1 _ _ => ?_⟩
    have name : ∀ {H' : Hp} (d : Int), Kp x H H' → 0 ≤ d → d < (rows.length : Nat) → ∃ t q, (ts.map V.ref)[d.toNat]? = some (V.ref t) ∧ H' t = some (.tup [.str q, .int (wR rows q : Nat)]) ∧ TOk 8 q := fun {H'} d k d0 d1 => by
      have hd : d.toNat < rows.length := by omega
      have ht : d.toNat < ts.length := by rw [hT.1]; exact hd
      have hq := hT.2 d.toNat ts[d.toNat] rows[d.toNat] (List.getElem?_eq_getElem ht) (List.getElem?_eq_getElem hd)
      have hm := List.getElem_mem hd
      obtain ⟨q, q1, q2, q3, q4, _⟩ := wR_mem R (z := (rows[d.toNat]).1) ⟨_, hm, rfl⟩
      have eq : q = rows[d.toNat] := by
        obtain ⟨i, hi, ei⟩ := List.mem_iff_getElem.mp q1
        have a1 : (rows.map (·.1))[i]? = some (rows[d.toNat]).1 := by rw [List.getElem?_map, List.getElem?_eq_getElem hi, ei, Option.map_some, q2]
        have a2 : (rows.map (·.1))[d.toNat]? = some (rows[d.toNat]).1 := by rw [List.getElem?_map, List.getElem?_eq_getElem hd]; rfl
        have := nd_at R.nd a1 a2
        subst this
        exact ei.symm
      refine ⟨ts[d.toNat], (rows[d.toNat]).1, by rw [List.getElem?_map, List.getElem?_eq_getElem ht]; rfl, ?_, TOk.nm (R.nm _ hm)⟩
      rw [q4, eq]
      exact hx.tk k _ _ hq
    refine ⟨_, rfl, _, rfl, _, rfl, r, _, rfl, .inl (SqL.of (k1 _ _ hR nrx)), ?_⟩
    rw [lr]
    refine ⟨x, _, rfl, b1, by omega, by omega, fun H2 d2 k2 b2 d20 d21 => ?_⟩
    have k12 := k1.trans k2
    obtain ⟨t2, z2, g2, h2, o2⟩ := name d2 k12 d20 d21
    refine ⟨r, _, _, _, rfl, rfl, SqL.of (k12 _ _ hR nrx), at_ofG (j := d2.toNat) (by omega) g2, t2, _, _, _, rfl, rfl, SqT.of h2, atI_nat (j := 0) rfl, ?_⟩
    refine ⟨_, rfl, _, rfl, _, rfl, r, _, rfl, .inl (SqL.of (k12 _ _ hR nrx)), ?_⟩
    rw [lr]
    refine ⟨x, _, rfl, b2, by omega, by omega, fun H3 d3 k3 b3 d30 d31 => ?_⟩
    have k13 := k12.trans k3
    obtain ⟨t3, z3, g3, h3, o3⟩ := name d3 k13 d30 d31
    refine ⟨r, _, _, _, rfl, rfl, SqL.of (k13 _ _ hR nrx), at_ofG (j := d3.toNat) (by omega) g3, t3, _, _, _, rfl, rfl, SqT.of h3, atI_nat (j := 0) rfl, ?_⟩
    refine ⟨_, rfl, x, rfl, b3, fun H4 n4 k4 b4 _ _ => ?_⟩
    have k14 := k13.trans k4
    -- way == 0
    refine ⟨fun σ H' => ∃ (z : Str), σ = [some (.ref x), some (.ref r), some (.ref l), some (.int way), some (.str z), some (.str z3), some (.int n4), none, none] ∧ Kp x H H' ∧ BxAt H' x ∧ TOk 8 z, ?_, ?_⟩
    · refine ⟨_, rfl, rfl, _, rfl, ite2 (fun _ => ?_) (fun _ => ⟨z2, rfl, k14, b4, o2⟩)⟩
      refine ⟨le_line (show 3 ≤ 10000000 by decide), fun q hq => ?_⟩
      have nq := b4.ne hq
      have s5 := (Same.refl H4).upd_new (o := .lst [V.str "Z", V.str "*", V.str ""]) hq
      have q5 : (upd H4 q (.lst [V.str "Z", V.str "*", V.str ""])) q = some (.lst [V.str "Z", V.str "*", V.str ""]) := upd_same
      generalize upd H4 q (.lst [V.str "Z", V.str "*", V.str ""]) = H5 at s5 q5
      refine ⟨_, rfl, x, 3, rfl, b4.same s5, by decide, by decide, fun H6 d6 k6 b6 d60 d61 => ?_⟩
      obtain ⟨z, hz, oz⟩ : ∃ z : Str, ([V.str "Z", V.str "*", V.str ""] : List V)[d6.toNat]? = some (.str z) ∧ TOk 8 z := by
        rcases (show d6.toNat = 0 ∨ d6.toNat = 1 ∨ d6.toNat = 2 by omega) with h | h | h <;> rw [h]
        · exact ⟨_, rfl, by decide +kernel, by decide +kernel⟩
        · exact ⟨_, rfl, by decide +kernel, by decide +kernel⟩
        · exact ⟨_, rfl, by decide +kernel, by decide +kernel⟩
      exact ⟨q, _, _, _, rfl, rfl, SqL.of (k6 _ _ q5 nq), at_ofG (j := d6.toNat) (by omega) hz, z, rfl, (k14.trans (Kp.same s5)).trans k6, b6, oz⟩
    rintro σ H5 ⟨z5, rfl, k15, b5, o5⟩
    -- way == 1
    refine ⟨fun σ H' => H' = H5 ∧ ∃ (y : Str), σ = [some (.ref x), some (.ref r), some (.ref l), some (.int way), some (.str z5), some (.str y), some (.int n4), none, none] ∧ TOk 9 y, ?_, ?_⟩
    · refine ⟨_, rfl, rfl, _, rfl, ite2 (fun _ => ?_) (fun _ => ⟨rfl, z3, rfl, o3.up⟩)⟩
      refine ⟨_, rfl, _, _, rfl, rfl, ?_, rfl, _, rfl, o3.Z⟩
      have := o3.1
      exact le_line (by rw [str_len]; have e : ("Z" : Str).length = 1 := by decide +kernel
                        omega)
    rintro σ H5' ⟨e5, y5, rfl, p5⟩
    obtain rfl : H5 = H5' := e5.symm
    -- way == 2
    refine ⟨fun σ H' => H' = H5 ∧ ∃ (y : Str), σ = [some (.ref x), some (.ref r), some (.ref l), some (.int way), some (.str z5), some (.str y), some (.int n4), none, none] ∧ TOk 9 y, ?_, ?_⟩
    · exact ⟨_, rfl, rfl, _, rfl, ite2 (fun _ => ⟨_, rfl, rfl, z5, rfl, o5.up⟩) (fun _ => ⟨rfl, y5, rfl, p5⟩)⟩
    rintro σ H5' ⟨e5, y6, rfl, p6⟩
    obtain rfl : H5 = H5' := e5.symm
    -- way == 3
    refine ⟨fun σ H' => Kp x H H' ∧ BxAt H' x ∧ ∃ (n : Int), σ = [some (.ref x), some (.ref r), some (.ref l), some (.int way), some (.str z5), some (.str y6), some (.int n), none, none], ?_, ?_⟩
    · exact ⟨_, rfl, rfl, _, rfl, ite2 (fun _ => ⟨_, rfl, x, rfl, b5, fun H6 n k6 b6 _ _ _ => ⟨k15.trans k6, b6, n, rfl⟩⟩) (fun _ => ⟨k15, b5, n4, rfl⟩)⟩
    rintro σ H7 ⟨k17, b7, n7, rfl⟩
    -- way > 4
    refine ⟨fun σ H' => Kp x H H' ∧ BxAt H' x ∧ ∃ (z y : Str) (u : Option V), σ = [some (.ref x), some (.ref r), some (.ref l), some (.int way), some (.str z), some (.str y), some (.int n7), u, none] ∧ TOk 9 z ∧ TOk 9 y, ?_, ?_⟩
    · have no : Kp x H H7 ∧ BxAt H7 x ∧ ∃ (z y : Str) (u : Option V), [some (V.ref x), some (.ref r), some (.ref l), some (.int way), some (.str z5), some (.str y6), some (.int n7), none, none] = [some (V.ref x), some (.ref r), some (.ref l), some (.int way), some (.str z), some (.str y), some (.int n7), u, none] ∧ TOk 9 z ∧ TOk 9 y := ⟨k17, b7, z5, y6, none, rfl, o5.up, p6⟩
      have l7 := k17 _ _ hl nlx
      refine ⟨_, rfl, _, _, rfl, rfl, _, rfl, ite2 (fun _ => ⟨_, rfl, l, _, rfl, .inl (SqL.of l7), _, _, rfl, rfl, _, rfl, ite2 (fun c => ?_) (fun _ => no)⟩) (fun _ => no)⟩
      have pos : 0 < sws.length := by
        have := of_decide_eq_true c
        rw [ls] at this
        omega
      refine ⟨_, rfl, _, rfl, _, rfl, l, _, rfl, .inl (SqL.of l7), ?_⟩
      rw [ls]
      refine ⟨x, _, rfl, b7, by omega, by omega, fun H8 d k8 b8 d0 d1 => ?_⟩
      have k18 := k17.trans k8
      have hd : d.toNat < sws.length := by omega
      have hu : d.toNat < us.length := by rw [hS.1]; exact hd
      have hm := List.getElem_mem hd
      have h8 := hx.tk k18 _ _ (hS.2 d.toNat us[d.toNat] sws[d.toNat] (List.getElem?_eq_getElem hu) (List.getElem?_eq_getElem hd))
      refine ⟨l, _, _, _, rfl, rfl, SqL.of (k18 _ _ hl nlx), at_ofG (j := d.toNat) (by omega) (by rw [List.getElem?_map, List.getElem?_eq_getElem hu]; rfl), ?_⟩
      refine ⟨_, rfl, _, _, _, _, rfl, rfl, SqT.of h8, atI_nat (j := 0) rfl, ?_⟩
      refine ⟨_, rfl, _, _, _, _, rfl, rfl, SqT.of h8, atI_nat (j := 1) rfl, ?_⟩
      obtain ⟨_, dd, q1, q2⟩ := W.pr _ hm
      exact ⟨k18, b8, _, _, _, rfl, (TOk.nm (R.nm _ q1)).up, (TOk.nm (R.nm _ q2)).up⟩
    rintro σ H9 ⟨k19, b9, z9, y9, u9, rfl, o9, p9⟩
    -- way == 6
    refine ⟨fun σ H' => Kp x H H' ∧ BxAt H' x ∧ ∃ (n : Int), σ = [some (.ref x), some (.ref r), some (.ref l), some (.int way), some (.str z9), some (.str y9), some (.int n), u9, none], ?_, ?_⟩
    · exact ⟨_, rfl, rfl, _, rfl, ite2 (fun _ => ⟨_, rfl, x, rfl, b9, fun H6 n k6 b6 _ _ _ => ⟨k19.trans k6, b6, n, rfl⟩⟩) (fun _ => ⟨k19, b9, n7, rfl⟩)⟩
    rintro σ HA ⟨kA, bA, nA, rfl⟩
    refine ⟨_, rfl, _, rfl, l, _, rfl, .inl (SqL.of (kA _ _ hl nlx)), _, _, rfl, rfl, ?_⟩
    rw [ls]
    refine ⟨x, _, rfl, bA, by omega, by omega, fun HB e kB bB e0 e1 => ?_⟩
    have kAB := kA.trans kB
    have lB := kAB _ _ hl nlx
    have ek : e = ((e.toNat : Nat) : Int) := by omega
    have le : e.toNat ≤ (us.map V.ref).length := by omega
    have tB := (hx.tk kAB)
    refine ⟨_, rfl, _, rfl, _, rfl, _, _, rfl, SqL.of lB, fun p1 hp1 => ?_⟩
    rw [ek, cut_to le]
    have sB1 := (Same.refl HB).upd_new (o := .lst ((us.map V.ref).take e.toNat)) hp1
    have f1 : (upd HB p1 (.lst ((us.map V.ref).take e.toNat))) p1 = some (.lst ((us.map V.ref).take e.toNat)) := upd_same
    generalize upd HB p1 (.lst ((us.map V.ref).take e.toNat)) = HC at sB1 f1
    refine ⟨_, rfl, _, rfl, _, rfl, le_line (show 3 ≤ 10000000 by decide), fun q hq => ?_⟩
    have sB2 := sB1.upd_new (o := .tup [.str z9, .str y9, .int nA]) hq
    have f2 : (upd HC q (.tup [.str z9, .str y9, .int nA])) q = some (.tup (swV (z9, y9, nA))) := upd_same
    have f1' := ((Same.refl HC).upd_new (o := .tup [.str z9, .str y9, .int nA]) hq) _ _ f1
    generalize upd HC q (.tup [.str z9, .str y9, .int nA]) = HD at sB2 f2 f1'
    refine ⟨le_line (show 1 ≤ 10000000 by decide), fun p2 hp2 => ?_⟩
    have sB3 := sB2.upd_new (o := .lst [.ref q]) hp2
    have s3 := (Same.refl HD).upd_new (o := .lst [.ref q]) hp2
    have f3 : (upd HD p2 (.lst [.ref q])) p2 = some (.lst [.ref q]) := upd_same
    generalize upd HD p2 (.lst [.ref q]) = HE at sB3 s3 f3
    refine ⟨_, _, _, _, rfl, rfl, s3 _ _ f1', f3, le_line (by rw [List.length_take]; show _ + 1 ≤ 10000000; omega), fun p3 hp3 => ?_⟩
    have sB4 := sB3.upd_new (o := .lst ((us.map V.ref).take e.toNat ++ [.ref q])) hp3
    have s4 := (Same.refl HE).upd_new (o := .lst ((us.map V.ref).take e.toNat ++ [.ref q])) hp3
    have f4 : (upd HE p3 (.lst ((us.map V.ref).take e.toNat ++ [.ref q]))) p3 = some (.lst ((us.map V.ref).take e.toNat ++ [.ref q])) := upd_same
    generalize upd HE p3 (.lst ((us.map V.ref).take e.toNat ++ [.ref q])) = HF at sB4 s4 f4
    refine ⟨_, rfl, _, rfl, _, rfl, _, _, rfl, SqL.of (sB4 _ _ lB), fun p4 hp4 => ?_⟩
    rw [cut_from le]
    have sB5 := sB4.upd_new (o := .lst ((us.map V.ref).drop e.toNat)) hp4
    have s5 := (Same.refl HF).upd_new (o := .lst ((us.map V.ref).drop e.toNat)) hp4
    have f5 : (upd HF p4 (.lst ((us.map V.ref).drop e.toNat))) p4 = some (.lst ((us.map V.ref).drop e.toNat)) := upd_same
    generalize upd HF p4 (.lst ((us.map V.ref).drop e.toNat)) = HG at sB5 s5 f5
    refine ⟨_, _, _, _, rfl, rfl, s5 _ _ f4, f5, le_line (by rw [List.length_append, List.length_take, List.length_drop]; show _ + 1 + _ ≤ 10000000; omega), fun p hp => ?_⟩
    have sB6 := sB5.upd_new (o := .lst ((us.map V.ref).take e.toNat ++ [.ref q] ++ (us.map V.ref).drop e.toNat)) hp
    have kk := kAB.trans (Kp.same sB6)
    have hpH : H p = none := by
      cases e0 : H p with
      | none => rfl
      | some o =>
        by_cases ex : p = x
        · exact absurd ex (((bB.same sB5)).ne hp)
        · rw [(kAB.trans (Kp.same sB5)) _ _ e0 ex] at hp
          cases hp
    have sv : Same HD (upd HG p (.lst ((us.map V.ref).take e.toNat ++ [.ref q] ++ (us.map V.ref).drop e.toNat))) := ((s3.trans s4).trans s5).upd_new hp
    refine key _ p (sws.take e.toNat ++ [(z9, y9, nA)] ++ sws.drop e.toNat) kk (bB.same sB6) hpH ⟨us.take e.toNat ++ [q] ++ us.drop e.toNat, ?_, ?_⟩ ?_ ?_
    · rw [upd_same, List.map_append, List.map_append, List.map_take, List.map_drop]
      rfl
    · have hS' : PlAt swV (upd HG p (.lst ((us.map V.ref).take e.toNat ++ [.ref q] ++ (us.map V.ref).drop e.toNat))) us sws := hS.keep fun u ys h => sB6 _ _ (tB _ _ h)
      exact ((hS'.take _).app (.one (sv _ _ f2))).app (hS'.drop _)
    · intro y hy
      rcases List.mem_append.mp hy with hy | hy
      · rcases List.mem_append.mp hy with hy | hy
        · obtain ⟨_, dd, q1, q2⟩ := W.pr _ (List.mem_of_mem_take hy)
          exact ⟨(TOk.nm (R.nm _ q1)).up, (TOk.nm (R.nm _ q2)).up⟩
        · rw [List.mem_singleton.mp hy]
          exact ⟨o9, p9⟩
      · obtain ⟨_, dd, q1, q2⟩ := W.pr _ (List.mem_of_mem_drop hy)
        exact ⟨(TOk.nm (R.nm _ q1)).up, (TOk.nm (R.nm _ q2)).up⟩
    · rw [List.length_append, List.length_append, List.length_take, List.length_drop]
      show _ + 1 + _ ≤ 6
      omega
end
end Sh
end
section
set_option Elab.async false
set_option linter.all false
set_option maxRecDepth 100000
set_option maxHeartbeats 4000000
namespace Sh
open PySem PySem.Spec PyProof.Rows L2
open C8 (pss_cut tCut)
open Evl (ixN_nat)
def HasN (rows : List Row) (z : Str) : Prop := ∃ q ∈ rows, q.1 = z
/-- a swap that may stand behind these -/
structure GoodQ (rows : List Row) (bef : List Swap) (q : Swap) : Prop where
  a : HasN rows q.1
  b : HasN rows q.2.1
  ne : q.1 ≠ q.2.1
  wd : wR rows q.1 = wR rows q.2.1
  lo : 0 ≤ q.2.2
  hi : q.2.2 ≤ 1000
  nw : (q.1, q.2.1) ∉ bef.map fun p => (p.1, p.2.1)
def GoodB (rows : List Row) (sws : List Swap) (n : Nat) : Prop := ∀ j q, j < n → sws[j]? = some q → GoodQ rows (sws.take j) q
theorem GoodB.zero {rows : List Row} {sws : List Swap} : GoodB rows sws 0 := fun j q h => absurd h (Nat.not_lt_zero _)
theorem GoodB.more {rows : List Row} {sws : List Swap} {n : Nat} (g : GoodB rows sws n) {q : Swap} (hq : sws[n]? = some q) (h : GoodQ rows (sws.take n) q) : GoodB rows sws (n + 1) := fun j p hj hp => by
  rcases Nat.lt_or_ge j n with c | c
  · exact g j p c hp
  · have e : j = n := by omega
    subst e
    rw [hq] at hp
    injection hp with hp
    exact hp ▸ h
/-- e is the first fault's number; -1 the cutting price, -2 none -/
def FstF (rows : List Row) (cut : Int) (sws : List Swap) (e : Int) : Prop :=
  (e = -1 ∧ (cut < 0 ∨ 1000 < cut)) ∨ (e = -2 ∧ 0 ≤ cut ∧ cut ≤ 1000 ∧ GoodB rows sws sws.length) ∨ (0 ≤ cut ∧ cut ≤ 1000 ∧ ∃ (i : Nat) (q : Swap), e = (i : Nat) ∧ sws[i]? = some q ∧ GoodB rows sws i ∧ ¬ GoodQ rows (sws.take i) q)
theorem FstF.uniq {rows : List Row} {cut : Int} {sws : List Swap} {e e' : Int} (h : FstF rows cut sws e) (h' : FstF rows cut sws e') : e = e' := by
  rcases h with ⟨h1, h2⟩ | ⟨h1, h2, h3, h4⟩ | ⟨h2, h3, i, q, h1, h4, h5, h6⟩
  · rcases h' with ⟨g1, g2⟩ | ⟨g1, g2, g3, g4⟩ | ⟨g2, g3, j, p, g1, g4, g5, g6⟩
    · omega
    · omega
    · omega
  · rcases h' with ⟨g1, g2⟩ | ⟨g1, g2, g3, g4⟩ | ⟨g2, g3, j, p, g1, g4, g5, g6⟩
    · omega
    · omega
    · exact absurd (h4 j p (List.getElem?_eq_some_iff.mp g4).1 g4) g6
  · rcases h' with ⟨g1, g2⟩ | ⟨g1, g2, g3, g4⟩ | ⟨g2, g3, j, p, g1, g4, g5, g6⟩
    · omega
    · exact absurd (g4 i q (List.getElem?_eq_some_iff.mp h4).1 h4) h6
    · rcases Nat.lt_trichotomy i j with c | c | c
      · exact absurd (g5 i q c h4) h6
      · omega
      · exact absurd (h5 j p c g4) g6
theorem FstF.ok {rows : List Row} {cut : Int} {sws : List Swap} (W : SwOk rows sws) (R : ROk 4 rows) (h1 : 0 ≤ cut) (h2 : cut ≤ 1000) : FstF rows cut sws (-2) := by
  refine .inr (.inl ⟨rfl, h1, h2, fun j q _ hq => ?_⟩)
  have hm := List.mem_of_getElem? hq
  obtain ⟨n, d, q1, q2⟩ := W.pr q hm
  obtain ⟨n1, n2⟩ := W.num q hm
  have key : ∀ z, (z, d) ∈ rows → ((wR rows z : Nat) : Int) = d := fun z hz => by
    obtain ⟨p, p1, p2, _, p4, _⟩ := wR_mem R (z := z) ⟨_, hz, rfl⟩
    rw [p4]
    obtain ⟨i, hi, ei⟩ := List.mem_iff_getElem.mp p1
    obtain ⟨k, hk, ek⟩ := List.mem_iff_getElem.mp hz
    have a1 : (rows.map (·.1))[i]? = some z := by rw [List.getElem?_map, List.getElem?_eq_getElem hi, ei, Option.map_some, p2]
    have a2 : (rows.map (·.1))[k]? = some z := by rw [List.getElem?_map, List.getElem?_eq_getElem hk, ek]; rfl
    have := nd_at R.nd a1 a2
    subst this
    rw [← ei, ek]
  refine ⟨⟨_, q1, rfl⟩, ⟨_, q2, rfl⟩, n, ?_, n1, n2, fun hc => ?_⟩
  · have := key q.1 q1
    have := key q.2.1 q2
    omega
  · rw [List.map_take] at hc
    obtain ⟨k, hk, ek⟩ := List.mem_iff_getElem.mp hc
    rw [List.length_take] at hk
    rw [List.getElem_take] at ek
    have a1 : (sws.map fun p => (p.1, p.2.1))[k]? = some (q.1, q.2.1) := by rw [List.getElem?_eq_getElem (by omega), ek]
    have a2 : (sws.map fun p => (p.1, p.2.1))[j]? = some (q.1, q.2.1) := by rw [List.getElem?_map, hq]; rfl
    have nd := W.nd
    have : k = j := by
      obtain ⟨l1, e1⟩ := List.getElem?_eq_some_iff.mp a1
      obtain ⟨l2, e2⟩ := List.getElem?_eq_some_iff.mp a2
      exact (List.getElem_inj nd).mp (e1.trans e2.symm)
    omega
def spFst51 : Sp := fun vs H Q _ => ∃ (ar l : Addr) (cut : Int) (rows : List Row) (sws : List Swap), vs = [.ref ar, .int cut, .ref l] ∧ H ar = some (.dK (wL rows)) ∧ ROk 4 rows ∧ SwsAt H l sws ∧ TxOk sws ∧ sws.length ≤ 6 ∧ ∀ (H' : Hp) (e : Int), Same H H' → FstF rows cut sws e → Q (.int e) H'
def chD (q : Str × Str) : PyData := .tuple [.str q.1, .str q.2]
theorem shp_ch {q : Str × Str} (h : PyData.strOk q.1 = true) (h2 : PyData.strOk q.2 = true) : (chD q).canLay0 = true ∧ (chD q).depth ≤ 63 := by
  constructor
  · simp [chD, h, h2, PyData.canLay0, PyData.canLayAll0]
  · simp [chD, PyData.depth, PyData.depthAll]
theorem shp_of1 {d : PyData} (h : d.canLay0 = true ∧ d.depth ≤ 63) : SeqAt.shaped d = true := by
  unfold SeqAt.shaped
  rw [h.1, decide_eq_true (by omega)]
  rfl
theorem ch_eqv (p q : Str × Str) : PyData.eqv (chD p) (chD q) = decide (p = q) := by
  obtain ⟨a, b⟩ := p
  obtain ⟨c, d⟩ := q
  rw [Bool.eq_iff_iff]
  simp [chD, PyData.eqv, PyData.eqvAll]
theorem dp_chs {K : PySem.W.Frag} {H : Hp} {a : Addr} {ts : List Addr} {chs : List (Str × Str)} (h : SqL K H a (ts.map V.ref)) (x : PlAt chV H ts chs) : Dp K H (.ref a) (.list (chs.map chD)) :=
  .lst h (dpa_of (by rw [List.length_map]; exact x.1) fun i v q hv hq => by
    obtain ⟨t, ht, rfl⟩ := get_map hv
    exact .tup (SqT.of (x.2 i t q ht hq)) (.cons (.str _) (.cons (.str _) .nil)))
theorem any_chs (chs : List (Str × Str)) (q : Str × Str) : ((chs.map chD).any fun z => PyData.eqv z (chD q)) = true ↔ q ∈ chs := by
  rw [List.any_eq_true]
  constructor
  · rintro ⟨d, hd, e⟩
    obtain ⟨p, hp, rfl⟩ := List.mem_map.mp hd
    rw [ch_eqv] at e
    exact of_decide_eq_true e ▸ hp
  · exact fun h => ⟨_, List.mem_map_of_mem h, by rw [ch_eqv]; exact decide_eq_true rfl⟩
abbrev N_law_first_fault : List Str := ["arity", "cutting", "swaps", "known", "place", "swap"]
theorem sc_law_first_fault : FnScope N_law_first_fault ["arity", "cutting", "swaps"] (defScope s_law_first_fault) := ⟨rfl, rfl, rfl, by decide +kernel, rfl, by decide +kernel, by decide +kernel⟩
section
variable {P : Program} {w : World} {K : PySem.W.Frag} {mg : Str → Option Value} {base : Heap}
theorem has_val {rows : List Row} {m : Int} (R : ROk m rows) (z : Str) : (valV (wL rows) (.inr z)).isSome = true ↔ HasN rows z := by
  rcases nm_case R z with h | h
  · rw [h.2.2.1]
    exact ⟨fun e => (nomatch e), fun ⟨q, hq, e⟩ => absurd e (h.2.2.2 q hq)⟩
  · rw [h.2.2.1]
    exact ⟨fun _ => h.2.2.2, fun _ => rfl⟩
theorem ok_fst51 (T : Bl mg) (D : Def0 K mg "_law_first_fault" s_law_first_fault) : DefOk P w K mg base CX0 1 "_law_first_fault" spFst51 := by
  refine D.ok sc_law_first_fault (fun vs H Q E h => ?_) (fun _ _ _ _ _ _ us hl => match us, hl with | [_, _, _], _ => rfl) (fun f cdv A outer s' H vs Q E hr h => ?_)
  · obtain ⟨ar, l, cut, rows, sws, rfl, _⟩ := h
    rfl
  · obtain ⟨ar, l, cut, rows, sws, rfl, har, R, ⟨us, hl, hS⟩, hT, h6, key⟩ := h
    have hu := hu_of hr
    have ls : (us.map V.ref).length = sws.length := by rw [List.length_map, hS.1]
    refine ⟨_, (pss_cons (ps_if (PW.pt (pw_or (pt_cmpR op_lt (pv 1) pe_int (nomark _)) (pw_or1 (pt_cmpR op_gt (pv 1) pe_int (nomark _)))))
        (pss_one (ps_ret (pe_un un_neg pe_int)))
        pss_nil)
      (pss_cons (ps_set (i := 3) sc_law_first_fault.nd rfl (Or.inl rfl) (pe_lst pa_nil))
      (pss_cons (ps_for PassesOwn.never rfl (pi_range1 (by rfl) T.b_range (pa_cons (pe_callB call_len_seq (by rfl) T.b_len boot_len (pa_cons (pv 2) pa_nil)) pa_nil)) (pg_name (i := 4) sc_law_first_fault.nd rfl (Or.inl rfl))
        (pss_cons (ps_set (i := 5) sc_law_first_fault.nd rfl (Or.inl rfl) (pe_ix ix_list (pv 2) (pv 4) (fun _ _ => rfl)))
        (pss_cons (ps_if (PW.pt (pw_or (pt_cmp (pc_dnotin hu (pe_ix ix_tup (pv 5) pe_int (fun _ _ => rfl)) (pv 0))) (pw_or (pt_cmp (pc_dnotin hu (pe_ix ix_tup (pv 5) pe_int (fun _ _ => rfl)) (pv 0))) (pw_or1 (pt_cmpR op_eq (pe_ix ix_tup (pv 5) pe_int (fun _ _ => rfl)) (pe_ix ix_tup (pv 5) pe_int (fun _ _ => rfl)) (nomark _))))))
          (pss_one (ps_ret (pv 4)))
          pss_nil)
        (pss_cons (ps_if (PW.pt (pw_or (pt_cmpR op_ne (pe_dget hu (pv 0) (pe_ix ix_tup (pv 5) pe_int (fun _ _ => rfl)) (fun _ _ => rfl)) (pe_dget hu (pv 0) (pe_ix ix_tup (pv 5) pe_int (fun _ _ => rfl)) (fun _ _ => rfl)) (nomark _)) (pw_or (pt_cmpR op_lt (pe_ix ix_tup (pv 5) pe_int (fun _ _ => rfl)) pe_int (nomark _)) (pw_or1 (pt_cmpR op_gt (pe_ix ix_tup (pv 5) pe_int (fun _ _ => rfl)) pe_int (nomark _))))))
          (pss_one (ps_ret (pv 4)))
          pss_nil)
        (pss_cons (ps_if (pt_cmpR (op_inD (units65 hr)) (pe_tup (pa_cons (pe_ix ix_tup (pv 5) pe_int (fun _ _ => rfl)) (pa_cons (pe_ix ix_tup (pv 5) pe_int (fun _ _ => rfl)) pa_nil))) (pv 3) (by rfl))
          (pss_one (ps_ret (pv 4)))
          pss_nil)
        (pss_one (ps_expr (pe_bm PySem.F.plainAttrs_list PySem.F.slot_list_append PySem.F.type_list_append mt_append (pv 3) (pa_cons (pe_tup (pa_cons (pe_ix ix_tup (pv 5) pe_int (fun _ _ => rfl)) (pa_cons (pe_ix ix_tup (pv 5) pe_int (fun _ _ => rfl)) pa_nil))) pa_nil)))))))))
      (pss_one (ps_ret (pe_un un_neg pe_int)))))), ?_⟩
    refine ⟨_, rfl, _, _, rfl, rfl, _, rfl, ite2 (fun c => ⟨_, rfl, key H _ (Same.refl H) (.inl ⟨rfl, .inl (of_decide_eq_true c)⟩)⟩) (fun c0 => ?_)⟩
    refine ⟨_, rfl, _, _, rfl, rfl, _, rfl, ite2 (fun c => ⟨_, rfl, key H _ (Same.refl H) (.inl ⟨rfl, .inr (of_decide_eq_true c)⟩)⟩) (fun c1 => ?_)⟩
    have cl : 0 ≤ cut := by
      have : ¬ cut < 0 := fun h => c0 (decide_eq_true h)
      omega
    have ch : cut ≤ 1000 := by
      have : ¬ 1000 < cut := fun h => c1 (decide_eq_true h)
      omega
    refine ⟨le_line (show 0 ≤ 10000000 by decide), fun k hk => ?_⟩
    have s1 := (Same.refl H).upd_new (o := .lst []) hk
    have k1 : (upd H k (.lst [])) k = some (.lst (([] : List Addr).map V.ref)) := upd_same
    generalize upd H k (.lst []) = H1 at s1 k1
    refine ⟨_, rfl, l, _, rfl, .inl (SqL.of (s1 _ _ hl)), _, rfl, by omega, by omega, ?_⟩
    rw [ls, Int.toNat_natCast]
    refine for_range (n := sws.length) (fun i σ H' => ∃ (x4 x5 : Option V) (ks : List Addr), σ = [some (.ref ar), some (.int cut), some (.ref l), some (.ref k), x4, x5] ∧ Same H H' ∧ H' k = some (.lst (ks.map V.ref)) ∧ PlAt chV H' ks ((sws.take i).map fun p => (p.1, p.2.1)) ∧ GoodB rows sws i)
      ⟨none, none, [], rfl, s1, k1, .nil, .zero⟩ ?_ ?_
    · rintro i σ H2 hi ⟨x4, x5, ks, rfl, s2, k2, p2, g2⟩
      have hq := List.getElem?_eq_getElem hi
      have hiu : i < us.length := by rw [hS.1]; exact hi
      have hsw := s2 _ _ (hS.2 i us[i] sws[i] (List.getElem?_eq_getElem hiu) hq)
      have hut : (us.map V.ref)[i]? = some (.ref us[i]) := by rw [List.getElem?_map, List.getElem?_eq_getElem hiu]; rfl
      generalize us[i] = t at hsw hut
      have ha2 := s2 _ _ har
      have hl2 := s2 _ _ hl
      have e0 : (0 : Int) + (i : Nat) = ((i : Nat) : Int) := by omega
      rw [e0]
      generalize hqq : sws[i] = q at hq hsw
      obtain ⟨t1, t2⟩ := hT q (List.mem_of_getElem? hq)
      have bad : ¬ GoodQ rows (sws.take i) q → Q (.int (i : Nat)) H2 := fun n => key H2 _ s2 (.inr (.inr ⟨cl, ch, i, q, rfl, hq, g2, n⟩))
      refine ⟨_, rfl, _, rfl, l, _, _, _, rfl, rfl, SqL.of hl2, at_ofG (j := i) rfl hut, ?_⟩
      have T0 := SqT.of (K := K) hsw
      have g0 := DGet.k (k := .inr q.1) ha2
      have g1 := DGet.k (k := .inr q.2.1) ha2
      refine ⟨_, rfl, t, _, _, _, rfl, rfl, T0, atI_nat (j := 0) rfl, _, rfl, ar, _, rfl, g0, _, rfl, ite2 (fun c => ⟨_, rfl, bad fun g => ?_⟩) (fun a1 => ?_)⟩
      · rw [(has_val R q.1).mpr g.a] at c
        exact absurd c (by decide)
      refine ⟨_, rfl, t, _, _, _, rfl, rfl, T0, atI_nat (j := 1) rfl, _, rfl, ar, _, rfl, g1, _, rfl, ite2 (fun c => ⟨_, rfl, bad fun g => ?_⟩) (fun a2 => ?_)⟩
      · rw [(has_val R q.2.1).mpr g.b] at c
        exact absurd c (by decide)
      refine ⟨_, rfl, t, _, _, _, rfl, rfl, T0, atI_nat (j := 0) rfl, _, rfl, t, _, _, _, rfl, rfl, T0, atI_nat (j := 1) rfl, rfl, _, rfl, ite2 (fun c => ⟨_, rfl, bad fun g => g.ne ?_⟩) (fun a3 => ?_)⟩
      · have := of_decide_eq_true c
        injection this
      have ha : HasN rows q.1 := (has_val R q.1).mp (by
        cases e : (valV (wL rows) (.inr q.1)).isSome with
        | true => rfl
        | false => rw [e] at a1; exact absurd rfl a1)
      have hb : HasN rows q.2.1 := (has_val R q.2.1).mp (by
        cases e : (valV (wL rows) (.inr q.2.1)).isSome with
        | true => rfl
        | false => rw [e] at a2; exact absurd rfl a2)
      have hne : q.1 ≠ q.2.1 := fun e => a3 (decide_eq_true (by rw [e]))
      rw [val_wL R ha] at g0
      rw [val_wL R hb] at g1
      refine ⟨_, rfl, _, rfl, t, _, _, _, rfl, rfl, T0, atI_nat (j := 0) rfl, ar, _, rfl, g0, _, rfl, _, rfl, t, _, _, _, rfl, rfl, T0, atI_nat (j := 1) rfl, ar, _, rfl, g1, rfl, _, rfl, ite2 (fun c => ⟨_, rfl, bad fun g => ?_⟩) (fun a4 => ?_)⟩
      · rw [g.wd] at c
        simp at c
      refine ⟨_, rfl, t, _, _, _, rfl, rfl, T0, atI_nat (j := 2) rfl, _, _, rfl, rfl, _, rfl, ite2 (fun c => ⟨_, rfl, bad fun g => ?_⟩) (fun a5 => ?_)⟩
      · have := of_decide_eq_true c
        have := g.lo
        omega
      refine ⟨_, rfl, t, _, _, _, rfl, rfl, T0, atI_nat (j := 2) rfl, _, _, rfl, rfl, _, rfl, ite2 (fun c => ⟨_, rfl, bad fun g => ?_⟩) (fun a6 => ?_)⟩
      · have := of_decide_eq_true c
        have := g.hi
        omega
      have hwd : wR rows q.1 = wR rows q.2.1 := by
        rcases Nat.decEq (wR rows q.1) (wR rows q.2.1) with h | h
        · exact absurd (by simp; omega) a4
        · exact h
      have hlo : 0 ≤ q.2.2 := by
        have : ¬ q.2.2 < 0 := fun h => a5 (decide_eq_true h)
        omega
      have hhi : q.2.2 ≤ 1000 := by
        have : ¬ 1000 < q.2.2 := fun h => a6 (decide_eq_true h)
        omega
      -- in known
      refine ⟨_, rfl, t, _, _, _, rfl, rfl, T0, atI_nat (j := 0) rfl, _, rfl, t, _, _, _, rfl, rfl, T0, atI_nat (j := 1) rfl, le_line (show 2 ≤ 10000000 by decide), fun u hu3 => ?_⟩
      have s23 := (Same.refl H2).upd_new (o := .tup [.str q.1, .str q.2.1]) hu3
      have u3 : (upd H2 u (.tup [.str q.1, .str q.2.1])) u = some (.tup [.str q.1, .str q.2.1]) := upd_same
      generalize upd H2 u (.tup [.str q.1, .str q.2.1]) = H3 at s23 u3
      have p3 := p2.keep fun u ys h => s23 _ _ h
      have k3 := s23 _ _ k2
      refine ⟨_, rfl, chD (q.1, q.2.1), _, .tup (SqT.of u3) (.cons (.str _) (.cons (.str _) .nil)), dp_chs (SqL.of k3) p3, shp_of1 (shp_ch t1.2 t2.2), shp_of fun d hd => ?_, ?_⟩
      · obtain ⟨y, hy, rfl⟩ := List.mem_map.mp hd
        obtain ⟨z, hz, rfl⟩ := List.mem_map.mp hy
        obtain ⟨z1, z2⟩ := hT z (List.mem_of_mem_take hz)
        exact shp_ch z1.2 z2.2
      refine ⟨_, rfl, ite2 (fun c => ⟨_, rfl, key H3 _ (s2.trans s23) (.inr (.inr ⟨cl, ch, i, q, rfl, hq, g2, fun g => g.nw ?_⟩))⟩) (fun a7 => ?_)⟩
      · exact (any_chs _ (q.1, q.2.1)).mp c
      have good : GoodQ rows (sws.take i) q := ⟨ha, hb, hne, hwd, hlo, hhi, fun h => a7 ((any_chs _ (q.1, q.2.1)).mpr h)⟩
      have T3 := SqT.of (K := K) (s23 _ _ hsw)
      refine ⟨_, rfl, .inl ⟨rfl, _, SqL.of k3⟩, _, rfl, t, _, _, _, rfl, rfl, T3, atI_nat (j := 0) rfl, _, rfl, t, _, _, _, rfl, rfl, T3, atI_nat (j := 1) rfl, le_line (show 2 ≤ 10000000 by decide), fun z hz => ?_⟩
      have nz : z ≠ k := fun e => by rw [e, k3] at hz; cases hz
      refine ⟨k, _, _, rfl, rfl, by rw [upd_ne (Ne.symm nz)]; exact k3, ?_, ?_⟩
      · rw [List.length_map, p3.1, List.length_map, List.length_take]
        exact lt_line (n := min i sws.length) (by omega)
      · refine ⟨_, _, ks ++ [z], rfl, ((s2.trans s23).upd_new hz).upd_own hk, by rw [upd_same, List.map_append]; rfl, ?_, g2.more hq good⟩
        have := p3.two (q := (q.1, q.2.1)) hz k3 (vs := ks.map V.ref ++ [.ref z])
        rw [← take_snoc hq, List.map_append]
        exact this
    · rintro σ H2 ⟨x4, x5, ks, rfl, s2, k2, p2, g2⟩
      exact ⟨_, rfl, key H2 _ s2 (.inr (.inl ⟨rfl, cl, ch, g2⟩))⟩
end
end Sh
end
section
set_option Elab.async false
set_option linter.all false
set_option maxRecDepth 100000
set_option maxHeartbeats 4000000
namespace L2
open PySem PySem.Spec PyProof.Rows
namespace KSet
abbrev Ks : Type := List Key
/-- a tuple's hash -/
def kh (P : Program) (w : World) (k : Ks) : Int := tupleKeyHash (mixKind P w) k
/-- a tuple of k stands at b -/
abbrev Tk (P : Program) (w : World) (h : Heap) (k : Ks) (b : Addr) : Prop := IsTupleKey (mixKind P w) h k b
def row (P : Program) (w : World) (p : Ks × Addr) : Int × Value := (kh P w p.1, .ref p.2)
/-- the set's own object -/
structure Is (P : Program) (w : World) (h : Heap) (a : Addr) (L : List (Ks × Addr)) (ep : Nat) (t : SetTable) : Prop where
  ob : ∃ o, h.get? a = some o ∧ o.ExactSet ∧ o.data = .set (L.map (row P w)).toArray ep t
  tb : TabOk t (L.map fun p => kh P w p.1)
  rm : (t.mask = 7 ∧ L.length ≤ 4) ∨ (t.mask = 31 ∧ L.length ≤ 18)
/-- the way's c-th step -/
def pr (m : Nat) (g : Int) (c : Nat) : SetTable.Probe := nth m (runAt m (SetTable.bits g % (m + 1)) (SetTable.bits g)) c
theorem pr_dm (m : Nat) (g : Int) : ∀ c, (pr m g c).dummy = none
  | 0 => rfl
  | c + 1 => by
    have ih := pr_dm m g c
    unfold pr at ih ⊢
    rw [nth_succ]
    unfold adv
    split <;> exact ih
theorem pr_on (m : Nat) (g : Int) (c d : Nat) : nth m (pr m g c) d = pr m g (c + d) := (nth_add m c _ d).symm
section
variable {P : Program} {w : World} {A : Around} {E : Value → Shared → Prop} {s : Shared} {a x : Addr} {L : List (Ks × Addr)} {ep : Nat} {t : SetTable} {k : Ks}
theorem plain_val {u : Value} (h : carriedByValue u = true) (n : Nat) : ofAClassStatement n u = pure false ∧ ∃ b, hashByValue n u = pure b := by
  cases u with
  | ref a => exact nomatch h
  | _ => constructor <;> (cases n <;> first | rfl | exact ⟨_, rfl⟩)
theorem no_class {b : Addr} {Q : Bool → Shared → Prop} (z : Tk P w s.heap k b) (h : Q false s) : wpAny (model P w) A (ofAClassStatement 8 (.ref b)) Q E s := by
  have hT := z.typeIs
  obtain ⟨o, its, n, ho, _, hd, hi⟩ := z
  unfold ofAClassStatement
  refine wpAny_bind (wpAny_typeOf hT ?_)
  dsimp only
  simp only [show (("tuple" : String) == "tuple") = true from rfl, if_true, Bool.not_true, Bool.false_eq_true, if_false]
  first | refine wpAny_bind (wpAny_pure ?_) | skip
  show wpAny _ _ (seqItems? (.ref b) >>= _) _ _ s
  refine wpAny_bind (wpAny_seqItems ho hd ?_)
  dsimp only
  refine wpAny_bind ?_
  show wpAny _ _ (forIn its _ _) _ _ s
  rw [← Array.forIn_toList]
  refine wpAny_forIn_list _ (fun l r s' => (r.1 = none ∧ s' = s) ∧ ∀ u ∈ l, carriedByValue u = true) _ ?_ ?_ _ _ ⟨⟨rfl, rfl⟩, hi.byValue⟩
  · rintro u l r s' ⟨⟨hr, rfl⟩, al⟩
    rw [(plain_val (al u List.mem_cons_self) _).1]
    refine wpAny_bind (wpAny_pure ?_)
    exact wpAny_pure ⟨⟨rfl, rfl⟩, fun v hv => al v (List.mem_cons_of_mem _ hv)⟩
  · rintro ⟨r1, r2⟩ s' ⟨⟨hr, rfl⟩, _⟩
    simp only at hr
    subst hr
    exact wpAny_pure h
theorem by_value {b : Addr} {Q : Bool → Shared → Prop} (z : Tk P w s.heap k b) (h : ∀ y, Q y s) : wpAny (model P w) A (hashByValue 8 (.ref b)) Q E s := by
  have hT := z.typeIs
  obtain ⟨o, its, n, ho, _, hd, hi⟩ := z
  unfold hashByValue
  refine wpAny_bind (wpAny_specialOf hT F.slot_tuple_hash.lookup ?_)
  show wpAny _ _ (seqItems? (.ref b) >>= _) _ _ s
  refine wpAny_bind (wpAny_seqItems ho hd ?_)
  refine wpAny_bind ?_
  show wpAny _ _ (forIn its _ _) _ _ s
  rw [← Array.forIn_toList]
  refine wpAny_forIn_list _ (fun l r s' => (s' = s ∧ r.1 = none) ∧ ∀ u ∈ l, carriedByValue u = true) _ ?_ ?_ _ _ ⟨⟨rfl, rfl⟩, hi.byValue⟩
  · rintro u l r s' ⟨⟨rfl, hr⟩, al⟩
    obtain ⟨y, e⟩ := (plain_val (al u List.mem_cons_self) 7).2
    rw [e]
    refine wpAny_bind (wpAny_pure ?_)
    cases y with
    | false =>
      simp only [Bool.not_false, if_true]
      exact wpAny_pure (wpAny_pure (h false))
    | true => exact wpAny_pure ⟨⟨rfl, rfl⟩, fun v hv => al v (List.mem_cons_of_mem _ hv)⟩
  · rintro ⟨r1, r2⟩ s' ⟨⟨rfl, hr⟩, _⟩
    simp only at hr
    subst hr
    exact wpAny_pure (h _)
/-- among such tuples a search is seen by none -/
theorem unseen (hx : Tk P w s.heap k x) {l : List Value} (hl : ∀ y ∈ l, ∃ k' b, y = .ref b ∧ Tk P w s.heap k' b) {Q : Bool → Shared → Prop} (h : Q false s) : wpAny (model P w) A (searchCouldBeSeen (.ref x) l) Q E s := by
  unfold searchCouldBeSeen
  refine wpAny_bind (wpAny_forIn_list _ (fun l r s' => (s' = s ∧ r.1 = none) ∧ ∀ y ∈ l, ∃ k' b, y = Value.ref b ∧ Tk P w s.heap k' b) _ ?_ ?_ _ _ ⟨⟨rfl, rfl⟩, hl⟩)
  · rintro u l r s' ⟨⟨rfl, hr⟩, al⟩
    obtain ⟨k', b, rfl, hb⟩ := al u List.mem_cons_self
    have al' := fun v hv => al v (List.mem_cons_of_mem _ hv)
    dsimp only
    by_cases c : (x == b || (carriedByValue (.ref x) && carriedByValue (.ref b))) = true
    · exact wp_if_pos c (wpAny_pure ⟨⟨rfl, rfl⟩, al'⟩)
    refine wp_if_neg c (wpAny_bind (wpAny_eqIsQuiet_tuple hx ?_))
    simp only [Bool.not_true, Bool.false_eq_true, if_false]
    refine wpAny_bind (wpAny_eqIsQuiet_tuple hb ?_)
    simp only [Bool.not_true, Bool.false_eq_true, if_false]
    refine wpAny_bind (no_class hx ?_)
    simp only [Bool.false_eq_true, if_false]
    refine wpAny_bind (no_class hb ?_)
    simp only [Bool.false_eq_true, if_false]
    exact wpAny_pure ⟨⟨rfl, rfl⟩, al'⟩
  · rintro ⟨r1, r2⟩ s' ⟨⟨rfl, hr⟩, _⟩
    simp only at hr
    subst hr
    exact wpAny_pure h
theorem Is.len (R : Is P w s.heap a L ep t) : t.place.size = L.length := by rw [R.tb.sz, List.length_map]
theorem Is.fits (R : Is P w s.heap a L ep t) : t.fits (L.map (row P w)).toArray.size = true := by
  have h1 := R.len
  have h2 := R.rm
  have h3 : (L.map (row P w)).toArray.size = L.length := by simp
  unfold SetTable.fits SetTable.fill
  rw [R.tb.dm, h3, Bool.and_eq_true, beq_iff_eq, decide_eq_true_eq]
  show t.place.size = L.length ∧ t.place.size + 0 ≤ t.mask
  omega
theorem Is.whole (R : Is P w s.heap a L ep t) : ¬ t.gaveWay = true := by
  unfold SetTable.gaveWay
  rw [mask_odd R.tb.mok]
  decide
theorem ent {i : Nat} {p : Ks × Addr} (h : L[i]? = some p) : (L.map (row P w)).toArray[i]? = some (row P w p) := by
  rw [List.getElem?_toArray, List.getElem?_map, h]
  rfl
/-- the search, from step c of the way -/
theorem seek_from (R : Is P w s.heap a L ep t) (ht : ∀ p ∈ L, Tk P w s.heap p.1 p.2) (hx : Tk P w s.heap k x) (hu : A.units < cLine) {ad : Bool} {g : Int} (eg : kh P w k = g) {K : Nat} (Kb : K < 10 * SetTable.turns t.mask) (Ko : (pr t.mask g K).j ∉ t.place.toList)
    (Ki : ∀ c, c < K → (pr t.mask g c).j ∈ t.place.toList) {Q : SetFound → Shared → Prop} (yes : (∃ p ∈ L, p.1 = k) → ∀ r : Option Nat, (ad = false → r.isSome = true) → Q (.there r) s) (no : (¬ ∃ p ∈ L, p.1 = k) → Q (.free (pr t.mask g K).j false) s) :
    ∀ (f c : Nat) (st : Option SetTable.Probe), st.getD (t.probeStart g) = pr t.mask g c → c ≤ K → K < f + c → (∀ (i : Nat) (p : Ks × Addr), L[i]? = some p → p.1 = k → ∃ d, c ≤ d ∧ d < K ∧ t.place.toList[i]? = some (pr t.mask g d).j) →
      wpAny (model P w) A (setSearchFrom a (.ref x) g ad f st) Q E s
  | 0, c, st, _, cK, fK, _ => by omega
  | f + 1, c, st, es, cK, fK, re => by
    obtain ⟨o, ho, hex, hd⟩ := R.ob
    have hsh : ∀ (i : Nat) (p : Ks × Addr), L[i]? = some p → (fun i => ((L.map (row P w)).toArray[i]?.map (·.1)).getD 0) i = kh P w p.1 := fun i p hp => by
      show ((L.map (row P w)).toArray[i]?.map (·.1)).getD 0 = _
      rw [ent hp]
      rfl
    have met := go_spec t R.tb.ris R.tb.dm (fun i => ((L.map (row P w)).toArray[i]?.map (·.1)).getD 0) g (10 * SetTable.turns t.mask) (K - c) (pr t.mask g c) (pr_dm _ _ _) (by omega)
      (fun q hq => by rw [pr_on]; exact Ki _ (by omega)) (by rw [pr_on, show c + (K - c) = K by omega]; exact Ko)
    rw [setSearchFrom_succ]
    refine wpAny_bind (wpAny_setState_of ho hd R.fits ?_)
    dsimp only
    refine wp_if_neg R.whole ?_
    try refine wpAny_bind (wpAny_pure ?_)
    rw [es]
    have prb : ∀ hf : Nat → Int, t.probe hf g (pr t.mask g c) = SetTable.probe.go t hf g (10 * SetTable.turns t.mask) (pr t.mask g c) := fun _ => rfl
    rw [prb]
    rcases met with ⟨q, i, hq, hi, hh, hno, hm⟩ | ⟨hno, hm⟩
    · rw [hm]
      dsimp only
      rw [pr_on] at hi hm ⊢
      rw [pr_on]
      have il : i < L.length := by
        have := (List.getElem?_eq_some_iff.mp hi).1
        rw [Array.length_toList, R.len] at this
        exact this
      obtain ⟨p, hp⟩ : ∃ p, L[i]? = some p := ⟨_, List.getElem?_eq_getElem il⟩
      have pm := List.mem_of_getElem? hp
      have live : t.slot (pr t.mask g (c + q)).j = .live i := slot_live R.tb.ris hi
      have rest : wpAny (model P w) A (searchRest a (.ref x) g ad f (L.map (row P w)).toArray t (pr t.mask g (c + q)).j i (pr t.mask g (c + (q + 1)))) Q E s := by
        unfold searchRest
        rw [ent hp]
        dsimp only [row]
        refine wpAny_bind (wpAny_holding (wpAny_eqBool_tuple hu (ht p pm) hx ?_))
        refine wpAny_bind (wpAny_setState_of ho hd R.fits ?_)
        dsimp only
        by_cases two : (ad && decide (p.1 = k)) = true
        · refine wp_if_pos two (wpAny_pure (yes ⟨p, pm, by simp at two; exact two.2⟩ none fun e => ?_))
          rw [e] at two
          cases two
        refine wp_if_neg two ?_
        try refine wpAny_bind (wpAny_pure ?_)
        rw [sameMem]
        dsimp only
        simp only [if_true, live]
        have e0 : (L.map (fun p => (kh P w p.1, Value.ref p.2))).toArray[i]? = some (kh P w p.1, Value.ref p.2) := ent hp
        have e1 : (L.map (row P w)).toArray[i]? = some (kh P w p.1, Value.ref p.2) := ent hp
        first | rw [e1] | rw [e0]
        refine wpAny_bind (wpAny_isSame_ref_self (wpAny_bind (wpAny_pure ?_)))
        simp only [if_true]
        by_cases e : p.1 = k
        · exact wp_if_pos (decide_eq_true e) (wpAny_pure (yes ⟨p, pm, e⟩ (some i) fun _ => rfl))
        refine wp_if_neg (by simp [e]) (seek_from R ht hx hu eg Kb Ko Ki yes no f (c + (q + 1)) _ rfl (by omega) (by omega) fun i0 p0 h0 k0 => ?_)
        obtain ⟨d, d1, d2, d3⟩ := re i0 p0 h0 k0
        have far : c + q ≤ d := by
          rcases Nat.lt_or_ge d (c + q) with z | z
          · exact absurd ((hsh i0 p0 h0).trans ((congrArg (kh P w) k0).trans eg)) (hno (d - c) i0 (by omega) (by rw [pr_on, show c + (d - c) = d by omega]; exact d3))
          · exact z
        have nq : d ≠ c + q := fun z => by
          rw [z] at d3
          have y := slot_live R.tb.ris d3
          rw [live] at y
          injection y with y
          rw [← y, hp] at h0
          injection h0 with h0
          exact e (h0 ▸ k0)
        exact ⟨d, by omega, d2, d3⟩
      by_cases ld : t.led = true
      · refine wp_if_neg (by simp [ld]) ?_
        try refine wpAny_bind (wpAny_pure ?_)
        exact rest
      · refine wp_if_pos (by simp [ld]) (wpAny_bind (unseen hx (fun y hy => ?_) (wp_if_neg (by decide) ?_)))
        · obtain ⟨e, he, rfl⟩ := List.mem_map.mp hy
          have he : e ∈ (L.map (row P w)).toArray ∧ e.1 = g := by simpa using he
          obtain ⟨p2, hp2, rfl⟩ := List.mem_map.mp (List.mem_toArray.mp he.1)
          exact ⟨p2.1, p2.2, rfl, ht p2 hp2⟩
        · try refine wpAny_bind (wpAny_pure ?_)
          exact rest
    · rw [hm]
      dsimp only
      rw [pr_on, show c + (K - c) = K by omega]
      refine wpAny_pure (no ?_)
      rintro ⟨p0, h0, k0⟩
      obtain ⟨i0, hi0⟩ := List.mem_iff_getElem?.mp h0
      obtain ⟨d, d1, d2, d3⟩ := re i0 p0 hi0 k0
      exact hno (d - c) i0 (by omega) (by rw [pr_on, show c + (d - c) = d by omega]; exact d3) ((hsh i0 p0 hi0).trans ((congrArg (kh P w) k0).trans eg))
theorem Is.small (R : Is P w s.heap a L ep t) : 10 * SetTable.turns t.mask ≤ 100000 := by
  unfold SetTable.turns
  have := R.rm
  omega
/-- the search -/
theorem seek (R : Is P w s.heap a L ep t) (ht : ∀ p ∈ L, Tk P w s.heap p.1 p.2) (hx : Tk P w s.heap k x) (hu : A.units < cLine) {ad : Bool} {Q : SetFound → Shared → Prop} (yes : (∃ p ∈ L, p.1 = k) → ∀ r : Option Nat, (ad = false → r.isSome = true) → Q (.there r) s)
    (no : ∀ K, (¬ ∃ p ∈ L, p.1 = k) → way t.mask (kh P w k) K ∉ t.place.toList → (∀ c, c < K → way t.mask (kh P w k) c ∈ t.place.toList) → Q (.free (way t.mask (kh P w k) K) false) s) : wpAny (model P w) A (setSearch a (.ref x) (kh P w k) ad) Q E s := by
  have rm := R.rm
  obtain ⟨K, k1, k2, k3⟩ := R.tb.first (by rw [List.length_map]; omega) (kh P w k)
  have sm := R.small
  refine seek_from R ht hx hu rfl k1 k2 k3 yes (fun n => no K n k2 k3) 100000 0 none rfl (Nat.zero_le _) (by omega) fun i p hp e => ?_
  have il : i < t.place.toList.length := by
    rw [Array.length_toList, R.len]
    exact (List.getElem?_eq_some_iff.mp hp).1
  obtain ⟨c, hc, e2⟩ := R.tb.before (i := i) k2 (by rw [List.getElem?_map, hp, ← e]; rfl) (List.getElem?_eq_getElem il)
  exact ⟨c, Nat.zero_le _, hc, by rw [List.getElem?_eq_getElem il, ← e2]; rfl⟩
theorem Tk.same {h h' : Heap} {b : Addr} {o : Obj} {es : Array (Int × Value)} (z : Tk P w h k b) (ho : h.get? a = some o) (hd : o.data = .set es ep t) (sb : Heap.SameBut a h h') : Tk P w h' k b := by
  obtain ⟨o', its, n, ho', hc, hd', hi⟩ := z
  refine ⟨o', its, n, (sb.2 b fun e => ?_).trans ho', hc, hd', hi⟩
  rw [e, ho] at ho'
  injection ho' with ho'
  rw [ho', hd'] at hd
  cases hd
theorem picks : ∀ l : List Nat, (∀ i ∈ l, i < L.length) → (l.filterMap fun i => L[i]?).length = l.length ∧ ((l.filterMap fun i => L[i]?).map fun p => kh P w p.1) = l.map fun i => ((L.map (row P w)).toArray.map (·.1)).getD i 0
  | [], _ => ⟨rfl, rfl⟩
  | i :: l, h => by
    have hi := h i List.mem_cons_self
    obtain ⟨h1, h2⟩ := picks l fun j hj => h j (List.mem_cons_of_mem _ hj)
    have e := List.getElem?_eq_getElem hi
    rw [List.filterMap_cons_some e]
    refine ⟨congrArg Nat.succ h1, ?_⟩
    rw [List.map_cons, List.map_cons, h2]
    congr 1
    have q : ((L.map (row P w)).toArray.map (·.1))[i]? = some (kh P w (L[i]).1) := by
      rw [Array.getElem?_map, ent e]
      rfl
    rw [Array.getD_eq_getD_getElem?, q]
    rfl
/-- what an added tuple leaves -/
theorem relay {o : Obj} (ho : s.heap.get? a = some o) (hex : o.ExactSet) (hd : o.data = .set (L.map (row P w)).toArray ep t) (tb : TabOk t (L.map fun p => kh P w p.1)) (l5 : L.length = 5) (m7 : t.mask = 7) (ht : ∀ p ∈ L, Tk P w s.heap p.1 p.2) {Q : Unit → Shared → Prop}
    (hQ : ∀ h' L' ep' t', Heap.SameBut a s.heap h' → Is P w h' a L' ep' t' → L'.length = L.length → (∀ p, p ∈ L' ↔ p ∈ L) → Q () { s with heap := h' }) : wpAny (model P w) A (setRelay a (SetTable.grown 5)) Q E s := by
  have sz : (L.map (row P w)).toArray.size = L.length := by simp
  have len : t.place.size = L.length := by rw [tb.sz, List.length_map]
  have fit : t.fits (L.map (row P w)).toArray.size = true := by
    unfold SetTable.fits SetTable.fill
    rw [tb.dm, sz, Bool.and_eq_true, beq_iff_eq, decide_eq_true_eq]
    show t.place.size = L.length ∧ t.place.size + 0 ≤ t.mask
    omega
  obtain ⟨t', od, e1, pm, T, em, _⟩ := relaid_ok t (hs := (L.map (row P w)).toArray.map (·.1)) (wanted := SetTable.grown 5) (M := 31) (by rw [size_20]) (.inr (.inl rfl)) (by rw [Array.size_map, sz]; omega)
  rw [Array.size_map, sz] at pm
  have bd : ∀ i ∈ od.toList, i < L.length := fun i hi => List.mem_range.mp (pm.mem_iff.mp hi)
  obtain ⟨p1, p2⟩ := picks (P := P) (w := w) (L := L) od.toList bd
  have lo : od.toList.length = L.length := by rw [pm.length_eq, List.length_range]
  have eo : od.filterMap ((L.map (row P w)).toArray[·]?) = ((od.toList.filterMap fun i => L[i]?).map (row P w)).toArray := by
    apply Array.ext'
    rw [Array.toList_filterMap, List.map_filterMap]
    congr 1
    funext i
    rw [List.getElem?_toArray, List.getElem?_map]
  rw [setRelay_eq]
  refine wpAny_bind (wpAny_setState_of ho hd fit ?_)
  dsimp only
  refine wp_if_neg (by rw [sizeLine_eq, size_20]; decide) ?_
  try refine wpAny_bind (wpAny_pure ?_)
  rw [e1]
  dsimp only
  rw [eo]
  refine wpAny_bind (wp_if_neg (by rw [sz]; simp; omega) ?_)
  try refine wpAny_bind (wpAny_pure ?_)
  refine wpAny_pure ?_
  dsimp only
  refine wpAny_storeSet_of ho hd ?_ (by rw [sizeLine_eq]; simp; omega)
  refine hQ _ (od.toList.filterMap fun i => L[i]?) (ep + 1) t' (Heap.SameBut.update ..) ⟨⟨_, store_at ho hd, ⟨hex.1, hex.2.1, hex.2.2⟩, rfl⟩, by rw [p2]; exact T, .inr ⟨em, by omega⟩⟩ (by omega) fun p => ?_
  rw [List.mem_filterMap]
  constructor
  · rintro ⟨i, _, e⟩
    exact List.mem_of_getElem? e
  · intro h
    obtain ⟨i, hi⟩ := List.mem_iff_getElem?.mp h
    exact ⟨i, pm.mem_iff.mpr (List.mem_range.mpr (List.getElem?_eq_some_iff.mp hi).1), hi⟩
/-- a tuple that isn't there is added -/
theorem add_new (R : Is P w s.heap a L ep t) (ht : ∀ p ∈ L, Tk P w s.heap p.1 p.2) (hx : Tk P w s.heap k x) (hu : A.units < cLine) (nk : ¬ ∃ p ∈ L, p.1 = k) (few : L.length < 18) {Q : Bool → Shared → Prop}
    (hQ : ∀ h' L' ep' t', Heap.SameBut a s.heap h' → Is P w h' a L' ep' t' → L'.length = L.length + 1 → (∀ p, p ∈ L' ↔ p = (k, x) ∨ p ∈ L) → Q true { s with heap := h' }) : wpAny (model P w) A (setAddHashed a (.ref x) (kh P w k)) Q E s := by
  obtain ⟨o, ho, hex, hd⟩ := R.ob
  have rm := R.rm
  unfold setAddHashed
  refine wpAny_holding ?_
  rw [show (100000 : Nat) = 99999 + 1 from rfl, setAddHashedIn_succ]
  refine wpAny_bind (wpAny_setState_of ho hd R.fits ?_)
  dsimp only
  refine wp_if_neg (by simp [byScan, Value.scannable]) ?_
  try refine wpAny_bind (wpAny_pure ?_)
  refine wpAny_bind (seek R ht hx hu (fun y => absurd y nk) fun K _ Ko Ki => ?_)
  dsimp only
  refine wpAny_bind (wpAny_setState_of ho hd R.fits ?_)
  dsimp only
  obtain ⟨q1, q2, q3, q4, _, _, _, _, q9⟩ := R.tb.put Ko Ki
  rw [List.length_map] at q2 q9
  generalize hpt : t.put (way t.mask (kh P w k) K) = pt at q1 q3 q4 q9 ⊢
  obtain ⟨t1, j⟩ := pt
  dsimp only at q1 q3 q4 q9 ⊢
  subst q1
  generalize SetTable.below t.place (way t.mask (kh P w k) K) = j at q2 q3 ⊢
  have ei : SetTable.insertAt (L.map (row P w)).toArray j (kh P w k, Value.ref x) = ((L.take j ++ (k, x) :: L.drop j).map (row P w)).toArray := by
    apply Array.ext'
    rw [SetTable.toList_insertAt, List.map_append, List.map_cons, List.map_take, List.map_drop]
    rfl
  have eh : ((L.map fun p => kh P w p.1).take j ++ kh P w k :: (L.map fun p => kh P w p.1).drop j) = (L.take j ++ (k, x) :: L.drop j).map fun p => kh P w p.1 := by
    rw [List.map_append, List.map_cons, List.map_take, List.map_drop]
  rw [eh] at q3
  rw [ei]
  have mem : ∀ p, p ∈ L.take j ++ (k, x) :: L.drop j ↔ p = (k, x) ∨ p ∈ L := fun p => by
    constructor
    · intro h
      rcases List.mem_append.mp h with h | h
      · exact .inr (List.mem_of_mem_take h)
      · rcases List.mem_cons.mp h with h | h
        · exact .inl h
        · exact .inr (List.mem_of_mem_drop h)
    · rintro (rfl | h)
      · exact List.mem_append_right _ List.mem_cons_self
      · rw [← List.take_append_drop j L] at h
        rcases List.mem_append.mp h with h | h
        · exact List.mem_append_left _ h
        · exact List.mem_append_right _ (List.mem_cons_of_mem _ h)
  have len : (L.take j ++ (k, x) :: L.drop j).length = L.length + 1 := by
    rw [List.length_append, List.length_cons, List.length_take, List.length_drop]
    omega
  generalize L.take j ++ (k, x) :: L.drop j = L1 at q3 mem len ⊢
  -- whatever hashByValue says
  have go : ∀ t2 : SetTable, t2.place = t1.place → t2.dummies = t1.dummies → t2.mask = t1.mask → wpAny (model P w) A (do
      storeSet a (L1.map (row P w)).toArray t2
      if (!false && t2.tooFull) = true then do
        setRelay a (SetTable.grown ((L.map (row P w)).toArray.size + 1))
        pure true
      else pure true) Q E s := fun t2 e1 e2 e3 => by
    have T2 : TabOk t2 (L1.map fun p => kh P w p.1) := ⟨by rw [e1]; exact q3.ris, by rw [e2]; exact q3.dm, by rw [e1]; exact q3.sz, by rw [e3]; exact q3.mok, by rw [e1, e3]; exact q3.bd, by rw [e1, e3]; exact q3.reach⟩
    have fl : t2.fill = L.length + 1 := by
      rw [← q9]
      unfold SetTable.fill
      rw [e1, e2]
    refine wpAny_bind (wpAny_storeSet_of ho hd ?_ (by rw [sizeLine_eq]; simp; omega))
    have sb : Heap.SameBut a s.heap (s.heap.update a (Obj.putSet (L1.map (row P w)).toArray t2)) := Heap.SameBut.update ..
    have ho1 := store_at (es' := (L1.map (row P w)).toArray) (t' := t2) ho hd
    generalize s.heap.update a (Obj.putSet (L1.map (row P w)).toArray t2) = h1 at sb ho1 ⊢
    have full : t2.tooFull = true ↔ (L.length + 1) * 5 ≥ t2.mask * 3 := by
      unfold SetTable.tooFull
      rw [decide_eq_true_eq, fl]
    by_cases f : t2.tooFull = true
    · refine wp_if_pos (by simp [f]) (wpAny_bind ?_)
      have l4 : L.length = 4 ∧ t.mask = 7 := by
        have := full.mp f
        rw [e3, q4] at this
        omega
      have es : (L.map (row P w)).toArray.size + 1 = 5 := by simp [l4.1]
      rw [es]
      refine relay (s := { s with heap := h1 }) ho1 ⟨hex.1, hex.2.1, hex.2.2⟩ rfl T2 (by omega) (by rw [e3, q4]; exact l4.2) (fun p hp => ?_) fun h2 L2 ep2 t3 sb2 R2 l2 m2 => wpAny_pure (hQ h2 L2 ep2 t3 (sb.trans sb2) R2 (by omega) fun p => by rw [m2, mem])
      rcases (mem p).mp hp with rfl | hp
      · exact Tk.same hx ho hd sb
      · exact Tk.same (ht p hp) ho hd sb
    · refine wp_if_neg (by simp [f]) (wpAny_pure (hQ h1 L1 (ep + 1) t2 sb ⟨⟨_, ho1, ⟨hex.1, hex.2.1, hex.2.2⟩, rfl⟩, T2, ?_⟩ len mem))
      have : ¬ ((L.length + 1) * 5 ≥ t2.mask * 3) := fun h => f (full.mpr h)
      rw [e3, q4] at this ⊢
      omega
  by_cases tp : t1.plain = true
  · refine wp_if_pos tp (wpAny_bind (by_value hx fun y => ?_))
    cases y
    · exact go { t1 with plain := false } rfl rfl rfl
    · exact go t1 rfl rfl rfl
  · refine wp_if_neg tp (wpAny_bind (wpAny_pure ?_))
    exact go t1 rfl rfl rfl
/-- key in set -/
theorem holds (R : Is P w s.heap a L ep t) (ht : ∀ p ∈ L, Tk P w s.heap p.1 p.2) (hx : Tk P w s.heap k x) (hu : A.units + 2 < cLine) {Q : Bool → Shared → Prop} (y : Bool) (hy : y = true ↔ ∃ p ∈ L, p.1 = k)
    (h : Q y { s with toks := s.toks + (k.length + 1) }) : wpAny (model P w) A (contains (.ref a) (.ref x)) Q E s := by
  obtain ⟨o, ho, hex, hd⟩ := R.ob
  have hT : s.TypeIs (.ref a) "set" := ⟨o, ho, hex.1⟩
  unfold contains
  try with_reducible refine wpAny_holding ?_
  refine wpAny_bind (wpAny_specialOf hT F.slot_set_contains.lookup ?_)
  show wpAny _ _ (if (some (Value.builtin "set.__contains__") == some Value.none) = true then _ else _) _ E s
  refine wp_if_neg (by rw [beq_builtin_none]; exact Bool.false_ne_true) (wpAny_bind (wpAny_callSpecialUnlessNone?_slot (name := Str.ofString "__contains__") hT F.slot_set_contains (wpAny_call_entry F.slot_set_contains hT entry_set_contains ?_ (F.args_set_contains_2 _ _))))
  unfold Builtin.«frozenset.__contains__» Builtin.Frozenset.oneOther Builtin.Frozenset.addrOf Builtin.Frozenset.withSetAsKey setContains
  simp only [List.isEmpty_nil, bind_assoc]
  refine wpAny_bind (wpAny_pure ?_)
  try dsimp only
  refine wpAny_bind (wpAny_pure ?_)
  try dsimp only
  refine wpAny_bind (wpAny_tryCatch (wpAny_holding (wpAny_bind (wpAny_pyHash_tuple (knd := mixKind P w) (by first | exact Nat.lt_of_succ_lt hu | (show A.units + 1 < cLine; omega)) hx ?_))))
  unfold setFind
  have find : ∀ (s' : Shared) {A' : Around} {E' : Value → Shared → Prop} {Q' : Option Nat → Shared → Prop}, s'.heap = s.heap → A'.units < cLine → (∀ r, r.isSome = y → Q' r s') → wpAny (model P w) A' (setFindIn a (.ref x) (kh P w k) 100000) Q' E' s' := fun s' A' E' Q' es hu' q => by
    have R' : Is P w s'.heap a L ep t := by rw [es]; exact R
    have ht' : ∀ p ∈ L, Tk P w s'.heap p.1 p.2 := by rw [es]; exact ht
    have hx' : Tk P w s'.heap k x := by rw [es]; exact hx
    rw [show (100000 : Nat) = 99999 + 1 from rfl]
    unfold setFindIn
    refine wpAny_bind (wpAny_setState_of (by rw [es]; exact ho) hd R.fits ?_)
    dsimp only
    refine wp_if_neg (by simp [byScan, Value.scannable]) ?_
    try refine wpAny_bind (wpAny_pure ?_)
    refine wpAny_bind (seek R' ht' hx' hu' (fun z r hr => ?_) fun K z _ _ => ?_)
    · exact wpAny_pure (q r ((hr rfl).trans (hy.mpr z).symm))
    · refine wpAny_pure (q none ?_)
      cases y with
      | false => rfl
      | true => exact absurd (hy.mp rfl) z
  refine wpAny_bind (find _ rfl (by first | exact Nat.lt_of_succ_lt hu | (show A.units + 1 < cLine; omega)) fun r hr => ?_)
  refine wpAny_pure ?_
  show wpAny _ _ (ret (Value.bool r.isSome)) _ _ _
  rw [hr]
  exact wpAny_pure ⟨_, rfl, wpAny_truthy_bool h⟩
end
/-- the set's own object among what is tracked -/
def O (P : Program) (w : World) (a : Addr) (L : List (Ks × Addr)) : HO := .ext fun h => ∃ ep t, Is P w h a L ep t
theorem ok_O {P : Program} {w : World} {H : Hp} {h : Heap} {a : Addr} {L : List (Ks × Addr)} {ep : Nat} {t : SetTable} (R : Is P w h a L ep t) : ObjOk P w H h a (O P w a L) := by
  obtain ⟨o, ho, r⟩ := R.ob
  refine ⟨⟨ep, t, R⟩, ⟨o, ho⟩, fun h1 h2 ⟨ep', t', ⟨⟨o', g, r'⟩, tb, rm⟩⟩ k => ⟨ep', t', ⟨⟨o', k _ g, r'⟩, tb, rm⟩⟩⟩
/-- the set at a holds the tuples S -/
def At (P : Program) (w : World) (H : Hp) (a : Addr) (S : List Ks) : Prop := ∃ L, H a = some (O P w a L) ∧ (∀ p ∈ L, H p.2 = some (.tup (p.1.map kV))) ∧ L.length = S.length ∧ ∀ k, k ∈ S ↔ ∃ p ∈ L, p.1 = k
theorem At.keep {P : Program} {w : World} {H H' : Hp} {a : Addr} {S : List Ks} (z : At P w H a S) (ht : ∀ b ys, H b = some (.tup ys) → H' b = some (.tup ys)) (ha : H' a = H a) : At P w H' a S := by
  obtain ⟨L, h1, h2, h3⟩ := z
  exact ⟨L, by rw [ha]; exact h1, fun p hp => ht _ _ (h2 p hp), h3⟩
/-- set() -/
def rNew (P : Program) (w : World) : List V → Hp → VK → Prop := fun xs H Q => xs = [] ∧ ∀ p, H p = none → At P w (upd H p (O P w p [])) p [] → Q (.ref p) (upd H p (O P w p []))
def tAdd (P : Program) (w : World) (to : TE) (ta : TA) : TE := fun σ H Q => to σ H fun x H1 => (∃ a S, x = .ref a ∧ At P w H1 a S) ∧ ta σ H1 fun xs H2 => ∃ (a b : Addr) (k : Ks) (S : List Ks), x = .ref a ∧ xs = [.ref b] ∧ At P w H2 a S ∧ H2 b = some (.tup (k.map kV)) ∧ k ∉ S ∧ S.length < 18 ∧
  ∀ H', (∀ c, c ≠ a → H' c = H2 c) → At P w H' a (k :: S) → Q .non H'
def rIn (P : Program) (w : World) (neg : Bool) : V → V → Hp → VK → Prop := fun x y H Q => ∃ (a b : Addr) (k : Ks) (S : List Ks), x = .ref b ∧ y = .ref a ∧ At P w H a S ∧ H b = some (.tup (k.map kV)) ∧ ∀ y : Bool, (y = true ↔ k ∈ S) → Q (.bl (if neg then !y else y)) H
section
variable {X : Cx}
theorem cr_new : CallR X (.type "set") (rNew X.prog X.w) := by
  intro pins s σ H xs us Q I r h
  obtain ⟨rfl, q⟩ := h
  cases r
  refine setR_new fun _ => ?_
  have hn : H s.heap.objs.size = none := I.hok.fresh (Nat.le_refl _)
  have R : Is X.prog X.w (s.heap.push { cls := .type "set", dict := none, data := .set #[] 0 (.fresh 0 0 (!X.w.params.followText "set-order")) }) s.heap.objs.size [] 0 (.fresh 0 0 (!X.w.params.followText "set-order")) :=
    ⟨⟨_, Heap.get?_push_size _ rfl, ⟨rfl, rfl, rfl⟩, rfl⟩, ⟨List.Pairwise.nil, rfl, rfl, .inl rfl, (fun y hy => nomatch hy), fun i g j hi => by simp at hi⟩, .inl ⟨rfl, Nat.zero_le _⟩⟩
  exact ⟨.ref _, upd H s.heap.objs.size (O X.prog X.w s.heap.objs.size []), I.laid (t' := s.toks) (fun b u e => Heap.get?_push_of_some _ e) (Nat.le_refl _) (ok_O R), rfl, q _ hn ⟨[], upd_same, fun p hp => (nomatch hp), rfl, fun k => ⟨fun h => (nomatch h), fun ⟨p, hp, _⟩ => nomatch hp⟩⟩⟩
theorem rd {pins : List (Addr × Obj)} {σ : St} {H : Hp} {s : Shared} {a : Addr} {L : List (Ks × Addr)} (I : Inv X pins σ H s) (ha : H a = some (O X.prog X.w a L)) (ht : ∀ p ∈ L, H p.2 = some (.tup (p.1.map kV))) : (∃ ep t, Is X.prog X.w s.heap a L ep t) ∧ ∀ p ∈ L, Tk X.prog X.w s.heap p.1 p.2 :=
  ⟨(I.hok a _ ha).1, fun p hp => key_of I.hok (ht p hp)⟩
open Classical in
theorem con {pins : List (Addr × Obj)} {σ : St} {H : Hp} {s : Shared} {a b : Addr} {k : Ks} {S : List Ks} {E : Value → Shared → Prop} {Q : Bool → Shared → Prop} (hu : X.A.units + 2 < cLine) (I : Inv X pins σ H s) (ha : At X.prog X.w H a S) (hb : H b = some (.tup (k.map kV)))
    (h : ∀ y t', (y = true ↔ k ∈ S) → Q y { s with toks := t' }) : wpAny (model X.prog X.w) X.A (contains (.ref a) (.ref b)) Q E s := by
  obtain ⟨L, h1, h2, _, h3⟩ := ha
  obtain ⟨⟨ep, t, R⟩, ht⟩ := rd I h1 h2
  exact holds R ht (key_of I.hok hb) hu (decide (k ∈ S)) (by rw [decide_eq_true_eq]; exact h3 k) (h _ _ (by rw [decide_eq_true_eq]))
theorem or_in (hu : X.A.units + 2 < cLine) : OpR X (compareOp .In) (rIn X.prog X.w false) := by
  intro pins s σ H x y u v Q I rx ry h
  obtain ⟨a, b, k, S, rfl, rfl, ha, hb, q⟩ := h
  cases rx
  cases ry
  show wpAny _ _ (contains (.ref a) (.ref b) >>= fun z => pure (Value.bool z)) _ _ s
  exact wpAny_bind (con hu I ha hb fun z t' e => wpAny_pure ⟨.bl z, H, I.tok _, rfl, q z e⟩)
theorem ad {pins : List (Addr × Obj)} {σ : St} {H : Hp} {s : Shared} {a b : Addr} {k : Ks} {S : List Ks} {E : Value → Shared → Prop} {Q : Value → Shared → Prop} (hu : X.A.units + 2 < cLine) (I : Inv X pins σ H s) (ha : At X.prog X.w H a S) (hb : H b = some (.tup (k.map kV))) (nk : k ∉ S) (few : S.length < 18)
    (h : ∀ H' s', (∀ c, c ≠ a → H' c = H c) → At X.prog X.w H' a (k :: S) → Inv X pins σ H' s' → Q .none s') : wpAny (model X.prog X.w) X.A (call (.builtin "set.add") [.ref a, .ref b]) Q E s := by
  obtain ⟨L, h1, h2, h4, h3⟩ := ha
  obtain ⟨⟨ep, t, R⟩, ht⟩ := rd I h1 h2
  have hx := key_of I.hok hb
  have hT : s.TypeIs (.ref a) "set" := let ⟨o, ho, hex, _⟩ := R.ob; ⟨o, ho, hex.1⟩
  refine wpAny_call_entry F.slot_set_add hT F.entry_set_add ?_ (F.args_set_add_2 _ _)
  unfold Builtin.«set.add» Builtin.Frozenset.oneOther Builtin.Frozenset.addrOf setAdd
  simp only [List.isEmpty_nil, bind_assoc]
  refine wpAny_bind (wpAny_pure ?_)
  try dsimp only
  refine wpAny_bind (wpAny_pure ?_)
  try dsimp only
  refine wpAny_bind (wpAny_holding (wpAny_bind (wpAny_pyHash_tuple (knd := mixKind X.prog X.w) (by first | exact Nat.lt_of_succ_lt hu | (show X.A.units + 1 < cLine; omega)) hx ?_)))
  refine add_new (s := { s with toks := s.toks + (k.length + 1) }) (show Is X.prog X.w s.heap a L ep t from R) ht hx (by first | exact Nat.lt_of_succ_lt hu | (show X.A.units + 1 < cLine; omega)) (fun z => nk ((h3 k).mpr z)) (by omega) fun h' L' ep' t' sb R' l' m' => ?_
  show wpAny _ _ (ret Value.none) _ _ _
  have ot : ∀ c, c ≠ a → upd H a (O X.prog X.w a L') c = H c := fun c hc => upd_ne hc
  have nb : ∀ c ys, H c = some (.tup ys) → c ≠ a := fun c ys hc e => by
    rw [e, h1] at hc
    cases hc
  have old : ∀ p ∈ L', H p.2 = some (.tup (p.1.map kV)) := fun p hp => by
    rcases (m' p).mp hp with rfl | hp
    · exact hb
    · exact h2 p hp
  refine wpAny_pure ⟨_, rfl, h (upd H a (O X.prog X.w a L')) _ ot ⟨L', upd_same, fun p hp => (ot _ (nb _ _ (old p hp))).trans (old p hp), by rw [l', h4]; rfl, fun l => ?_⟩ (I.write (e := a) (t' := s.toks + (k.length + 1)) (by rw [h1]; trivial) (.inl rfl) (fun c u hc hu' => (sb.2 c hc).trans hu') (let ⟨o, ho, _⟩ := R'.ob; ⟨o, ho⟩) (ok_O R'))⟩
  rw [List.mem_cons, h3 l]
  constructor
  · rintro (e | ⟨p, hp, e⟩)
    · exact ⟨(k, b), (m' _).mpr (.inl rfl), e.symm⟩
    · exact ⟨p, (m' _).mpr (.inr hp), e⟩
  · rintro ⟨p, hp, e⟩
    rcases (m' p).mp hp with rfl | hp
    · exact .inl e.symm
    · exact .inr ⟨p, hp, e⟩
variable {o e : Expr} {es : List Expr} {to : TE} {t : TA} {apos cpos : Pos}
theorem pe_addP (hu : X.A.units + 2 < cLine) (ho : PE X o to) (ha : PA X (e :: es) t) (c1 : attributeBase o "add" X.env (eval o X.env) = eval o X.env := by rfl)
    (c2 : ((backTo cpos (starEach (e :: es) X.env)).all (fun x => !x.1) && (backToKw cpos (keywordEach [] X.env)).all (fun x => x.1.isSome) && decide ((e :: es).length + ([] : List Keyword).length + (if ([] : List Keyword).isEmpty then 0 else 1) < 30)) = true := by rfl)
    (c3 : (apos.endLine == cpos.line) = true := by rfl) (c4 : starEach (e :: es) X.env = (false, eval e X.env) :: starEach es X.env := by rfl) (c5 : (backTo cpos (starEach es X.env)).any (·.1) = false := by rfl) : PE X (.Call (.Attribute o "add" apos) (e :: es) [] cpos) (tAdd X.prog X.w to t) := by
  refine ⟨fun pins s σ H Q I h => wpAny_Call_method_late c1 c2 c3 rfl (thn (ho.run pins s σ H _ I h) fun v s1 ⟨x, H1, I1, r1, ⟨a, S, ex, hA⟩, q1⟩ => ?_)⟩
  subst ex
  cases r1
  obtain ⟨L, h1, h2, _, _⟩ := hA
  obtain ⟨⟨ep, tb, R⟩, _⟩ := rd I1 h1 h2
  obtain ⟨ob, hob, hex, _⟩ := R.ob
  refine ⟨"set", "set.add", F.plainAttrs_set, F.slot_set_add, F.type_set_add, ⟨ob, hob, hex.1⟩, fun b e => by injection e with e; subst e; exact ⟨ob, hob, hex.2.1⟩, ?_⟩
  have hR := ha.run cpos pins s1 σ H1 _ I1 q1
  rw [c4] at hR ⊢
  refine Calls.callWith_builtin (by show (false || (backTo cpos (starEach es X.env)).any (·.1)) = false; rw [c5]; rfl) (Calls.evalArgs_plain (thn hR fun us s2 ⟨vs, H2, I2, r2, a', b, k, S', ea, ev, g1, g2, g3, g4, q2⟩ => ?_))
  subst ev
  injection ea with ea
  subst ea
  cases r2 with
  | cons r3 r4 =>
    cases r4
    cases r3
    exact ad hu I2 g1 g2 g3 g4 fun H' s' f g I' => ⟨.non, H', I', rfl, q2 H' f g⟩
end
end KSet
end L2
end
section
set_option Elab.async false
set_option linter.all false
set_option maxRecDepth 100000
set_option maxHeartbeats 4000000
namespace Sh
open PySem PySem.Spec PyProof.Rows L2
open C8 (pss_cut tCut)
open Evl (ixN_nat)
structure Bp (mg : Str → Option Value) : Prop extends Bk mg where
  c_MOST_PRICE : ∃ t, mg "MOST_PRICE" = some (.int 1000 t)
  b_reversed : mg "reversed" = none
  b_min : mg "min" = none
theorem hu2_of {A : Around} {k : Nat} (hr : Room k A) : A.units + 2 < cLine := Nat.lt_of_le_of_lt (Nat.add_le_add_left (by decide : 2 ≤ 64) _) hr.units
def ipF (e : Int) : List (Str × V) := xfs ["place"] [.int e] []
def ipP : List V → Prop := fun vs => ∃ i : Int, vs = [.int i] ∧ -1 ≤ i ∧ i ≤ 10000
structure XP (P : Program) (w : World) (K : PySem.W.Frag) (mg : Str → Option Value) (A : XA) (AI : Addr) : Prop where
  xs : XS P w K mg A
  xI : PySem.SupX.SupCls P w K mg "InvalidPrices" AI ["place"] ipP
/-- what is wanted where InvalidPrices(e) is raised -/
def RzP (AI : Addr) (E : XK) (H : Hp) (e : Int) : Prop := ∀ H' d, Same H H' → H' d = none → E (.ref AI) (some d) (upd H' d (.xd (ipF e)))
theorem RzP.same {AI : Addr} {E : XK} {H H1 : Hp} {e : Int} (h : RzP AI E H e) (s : Same H H1) : RzP AI E H1 e := fun H' d s' hd => h H' d (s.trans s') hd
def spIsPr : Sp := fun vs H Q _ => ∃ n : Int, vs = [.int n] ∧ Q (.bl (decide (0 ≤ n ∧ n ≤ 1000))) H
def spChkSw (C AI : Addr) : Sp := fun vs H Q E => ∃ (b q : Addr) (us : List Addr) (rows : List Row) (sws : List Swap), vs = [.ref b, .ref q] ∧ BedAt C H b rows ∧ ROk 4 rows ∧ H q = some (.tup (us.map V.ref)) ∧ PlAt swV H us sws ∧ sws.length ≤ 6 ∧
  (∀ i p, sws[i]? = some p → GoodB rows sws i → ¬ GoodQ rows (sws.take i) p → RzP AI E H (i : Nat)) ∧ (GoodB rows sws sws.length → ∀ H', Same H H' → Q .non H')
def ck (p : Str × Str) : List Key := [.inr p.1, .inr p.2]
theorem ck_inj {p q : Str × Str} (h : ck p = ck q) : p = q := by
  obtain ⟨a, b⟩ := p
  obtain ⟨c, d⟩ := q
  unfold ck at h
  injection h with h1 h2
  injection h2 with h2 _
  injection h1 with h1
  injection h2 with h2
  exact Prod.ext h1 h2
theorem mem_ck {l : List (Str × Str)} {p : Str × Str} : ck p ∈ l.map ck ↔ p ∈ l := by
  rw [List.mem_map]
  exact ⟨fun ⟨q, hq, e⟩ => ck_inj e ▸ hq, fun h => ⟨p, h, rfl⟩⟩
abbrev N_is_price : List Str := ["number"]
theorem sc_is_price : FnScope N_is_price ["number"] (defScope s_is_price) := ⟨rfl, rfl, rfl, by decide +kernel, rfl, by decide +kernel, by decide +kernel⟩
abbrev N_check_swaps : List Str := ["bed", "swaps", "seen", "place", "kind", "other", "cost"]
theorem sc_check_swaps : FnScope N_check_swaps ["bed", "swaps"] (defScope s_check_swaps) := ⟨rfl, rfl, rfl, by decide +kernel, rfl, by decide +kernel, by decide +kernel⟩
section
variable {P : Program} {w : World} {K : PySem.W.Frag} {mg : Str → Option Value} {base : Heap} {C AI : Addr} {A : XA}
theorem ok_ispr (T : Bp mg) (D : Def0 K mg "is_price" s_is_price) : DefOk P w K mg base CX0 1 "is_price" spIsPr := by
  refine D.ok sc_is_price (fun vs H Q E h => ?_) (fun _ _ _ _ _ _ us hl => match us, hl with | [_], _ => rfl) (fun f cdv A outer s H vs Q E hr h => ?_)
  · obtain ⟨n, rfl, _⟩ := h
    rfl
  · obtain ⟨n, rfl, k⟩ := h
    refine ⟨_, (pss_one (ps_ret (pe_chain op_le op_le pe_int (pv 0) (pe_cI (by rfl) T.c_MOST_PRICE)))), ?_⟩
    refine ⟨_, rfl, _, _, rfl, rfl, _, rfl, ite2 (fun c => ⟨_, _, rfl, rfl, ?_⟩) (fun c => ?_)⟩
    · have h0 := of_decide_eq_true c
      have e : decide (n ≤ 1000) = decide (0 ≤ n ∧ n ≤ 1000) := by simp [h0]
      rw [← e] at k
      exact k
    · have h0 : ¬ 0 ≤ n := fun h => c (decide_eq_true h)
      have e : decide (0 ≤ n ∧ n ≤ 1000) = false := by simp [h0]
      rw [e] at k
      exact k
theorem ok_chksw (T : Bp mg) (x : XP P w K mg A AI) (B : BedT K C) (c_is_price : DefOk P w K mg base CX0 1 "is_price" spIsPr) (D : Def0 K mg "check_swaps" s_check_swaps) : DefOk P w K mg base (L2.CX P w) 2 "check_swaps" (spChkSw C AI) := by
  have x_InvalidPrices := x.xI
  refine D.okX sc_check_swaps (fun vs H Q E h => ?_) (fun _ _ _ _ _ _ us hl => match us, hl with | [_, _], _ => rfl) (fun f cdv A outer s H vs Q E hr h => ?_)
  · obtain ⟨b, q, us, rows, sws, rfl, _⟩ := h
    rfl
  · obtain ⟨b, q, us, rows, sws, rfl, hB, R, hq, hS, h6, kx, key⟩ := h
    have hu := hu_of hr
    have hu2 := hu2_of hr
    have ls : (us.map V.ref).length = sws.length := by rw [List.length_map, hS.1]
    refine ⟨_, (pss_cons (ps_set (i := 2) sc_check_swaps.nd rfl (Or.inl rfl) (pe_callTy0 (show CallR _ (.type "set") (KSet.rNew P w) from KSet.cr_new) (by rfl) T.b_set (by decide +kernel)))
      (pss_one (ps_for (passes_of rfl) rfl (pi_enumT (by rfl) T.b_enumerate (pa_cons (pv 1) pa_nil)) (pg_tup (by rfl) (pgs_cons (pg_name (i := 3) sc_check_swaps.nd rfl (Or.inl rfl)) (pgs_cons (pg_tup (by rfl) (pgs_cons (pg_name (i := 4) sc_check_swaps.nd rfl (Or.inl rfl)) (pgs_cons (pg_name (i := 5) sc_check_swaps.nd rfl (Or.inl rfl)) (pgs_cons (pg_name (i := 6) sc_check_swaps.nd rfl (Or.inl rfl)) pgs_nil)))) pgs_nil)))
        (pss_cons (ps_if (PW.pt (pw_or (pt_cmp (pc_dnotin hu (pv 4) (pe_fld (pv 0) rfl))) (pw_or (pt_cmp (pc_dnotin hu (pv 5) (pe_fld (pv 0) rfl))) (pw_or (pt_cmpR op_eq (pv 4) (pv 5) (nomark _)) (pw_or1 (pt_not (pt_val (pe_d c_is_price (hr.mono (by decide)) pass0 (pa_cons (pv 6) pa_nil)))))))))
          (pss_one (ps_raiseSup rfl x_InvalidPrices hr (takes_of rfl rfl rfl rfl) (pa_cons (pv 3) pa_nil)))
          pss_nil)
        (pss_cons (ps_if (PW.pt (pw_or (pt_cmpR op_ne (pe_dget hu (pe_fld (pv 0) rfl) (pv 4) (fun _ _ => rfl)) (pe_dget hu (pe_fld (pv 0) rfl) (pv 5) (fun _ _ => rfl)) (nomark _)) (pw_or1 (pt_cmpR (show OpR _ _ (KSet.rIn P w false) from KSet.or_in hu2) (pe_tup (pa_cons (pv 4) (pa_cons (pv 5) pa_nil))) (pv 2) (by rfl)))))
          (pss_one (ps_raiseSup rfl x_InvalidPrices hr (takes_of rfl rfl rfl rfl) (pa_cons (pv 3) pa_nil)))
          pss_nil)
        (pss_one (ps_expr (show PE _ _ (KSet.tAdd P w _ _) from KSet.pe_addP hu2 (pv 2) (pa_cons (pe_tup (pa_cons (pv 4) (pa_cons (pv 5) pa_nil))) pa_nil))))))))), ?_⟩
    refine ⟨rfl, fun p hp at1 => ?_⟩
    have s1 := (Same.refl H).upd_new (o := KSet.O P w p []) hp
    generalize upd H p (KSet.O P w p []) = H1 at s1 at1
    refine ⟨_, rfl, q, _, rfl, SqT.of (s1 _ _ hq), for_it (walk_enumT (xs := us.map V.ref)) (fun i σ H' => ∃ (x3 x4 x5 x6 : Option V), σ = [some (.ref b), some (.ref q), some (.ref p), x3, x4, x5, x6] ∧ Same H H' ∧ KSet.At P w H' p ((((sws.take i).map fun z => (z.1, z.2.1)).map ck).reverse) ∧ GoodB rows sws i)
      ⟨none, none, none, none, rfl, s1, at1, .zero⟩ (fun i σ H' _ ⟨_, _, _, _, _, s2, _⟩ => SqT.of (s2 _ _ hq)) ?_ ?_⟩
    · rintro i v σ H2 H2' hi ⟨x3, x4, x5, x6, rfl, s2, at2, g2⟩ ⟨P1, v1, v2, rfl, hP1, rfl, e1, e2⟩
      cases e1
      have his : i < sws.length := by rw [ls] at hi; exact hi
      have hiu : i < us.length := by rw [hS.1]; exact his
      have hqi := List.getElem?_eq_getElem his
      have hsw := s2 _ _ (hS.2 i us[i] sws[i] (List.getElem?_eq_getElem hiu) hqi)
      have e2' : (us.map V.ref)[i]? = some v2 := e2
      rw [List.getElem?_map, List.getElem?_eq_getElem hiu] at e2'
      cases e2'
      generalize us[i] = t at hsw
      generalize hzz : sws[i] = z at hqi hsw
      have s3 := s2.upd_new (o := .tup [.int ((i : Nat) : Int), .ref t]) hP1
      have s23 := (Same.refl H2).upd_new (o := .tup [.int ((i : Nat) : Int), .ref t]) hP1
      have f3 : (upd H2 P1 (.tup [.int ((i : Nat) : Int), .ref t])) P1 = some (.tup [.int ((i : Nat) : Int), .ref t]) := upd_same
      have at3 := at2.keep (H' := upd H2 P1 (.tup [.int ((i : Nat) : Int), .ref t])) (fun b ys h => s23 _ _ h) (by
        obtain ⟨L, hL, _⟩ := at2
        rw [hL]
        exact s23 _ _ hL)
      generalize upd H2 P1 (.tup [.int ((i : Nat) : Int), .ref t]) = H3 at s3 s23 f3 at3
      have hsw3 := s23 _ _ hsw
      have bad : ¬ GoodQ rows (sws.take i) z → RzP AI E H3 (i : Nat) := fun n => (kx i z hqi g2 n).same s3
      have thr : ¬ GoodQ rows (sws.take i) z → ipP [.int ((i : Nat) : Int)] ∧ [V.int ((i : Nat) : Int)].length = (["place"] : List Str).length ∧ ∀ d, H3 d = none → E (.ref AI) (some d) (upd H3 d (.xd (ipF (i : Nat)))) := fun n => ⟨⟨_, rfl, by omega, by omega⟩, rfl, fun d hd => bad n H3 d (Same.refl H3) hd⟩
      obtain ⟨dx, r, kk, ww, rk, ts, b1, b2, b3, b4, b5, b6⟩ := hB.same s3
      have g0 := DGet.k (k := .inr z.1) b5
      have g1 := DGet.k (k := .inr z.2.1) b5
      refine ⟨P1, _, rfl, SqT.of f3, rfl, _, _, rfl, _, _, rfl, t, _, rfl, SqT.of hsw3, rfl, _, _, rfl, _, _, rfl, _, _, rfl, rfl, rfl, ?_⟩
      refine ⟨_, rfl, _, rfl, b, C, dx, _, _, rfl, b1, B.cl, B.nW, lk_widths _ _ _ _, ww, _, rfl, g0, _, rfl, ite2 (fun c => ⟨_, rfl, thr fun g => ?_⟩) (fun a1 => ?_)⟩
      · rw [(has_val R z.1).mpr g.a] at c
        exact absurd c (by decide)
      refine ⟨_, rfl, _, rfl, b, C, dx, _, _, rfl, b1, B.cl, B.nW, lk_widths _ _ _ _, ww, _, rfl, g1, _, rfl, ite2 (fun c => ⟨_, rfl, thr fun g => ?_⟩) (fun a2 => ?_)⟩
      · rw [(has_val R z.2.1).mpr g.b] at c
        exact absurd c (by decide)
      refine ⟨_, rfl, _, rfl, rfl, _, rfl, ite2 (fun c => ⟨_, rfl, thr fun g => g.ne ?_⟩) (fun a3 => ?_)⟩
      · have := of_decide_eq_true c
        injection this
      refine ⟨_, rfl, z.2.2, rfl, _, rfl, ite2 (fun c => ⟨_, rfl, thr fun g => ?_⟩) (fun a4 => ?_)⟩
      · have := g.lo
        have := g.hi
        have e : decide (0 ≤ z.2.2 ∧ z.2.2 ≤ 1000) = true := decide_eq_true (by omega)
        rw [e] at c
        exact absurd c (by decide)
      have ha : HasN rows z.1 := (has_val R z.1).mp (by
        cases e : (valV (wL rows) (.inr z.1)).isSome with
        | true => rfl
        | false => rw [e] at a1; exact absurd rfl a1)
      have hb : HasN rows z.2.1 := (has_val R z.2.1).mp (by
        cases e : (valV (wL rows) (.inr z.2.1)).isSome with
        | true => rfl
        | false => rw [e] at a2; exact absurd rfl a2)
      have hne : z.1 ≠ z.2.1 := fun e => a3 (decide_eq_true (by rw [e]))
      have hpr : 0 ≤ z.2.2 ∧ z.2.2 ≤ 1000 := by
        cases e : decide (0 ≤ z.2.2 ∧ z.2.2 ≤ 1000) with
        | true => exact of_decide_eq_true e
        | false => rw [e] at a4; exact absurd rfl a4
      rw [val_wL R ha] at g0
      rw [val_wL R hb] at g1
      refine ⟨_, rfl, b, C, dx, _, _, rfl, b1, B.cl, B.nW, lk_widths _ _ _ _, _, rfl, ww, _, rfl, g0, _, rfl, b, C, dx, _, _, rfl, b1, B.cl, B.nW, lk_widths _ _ _ _, _, rfl, ww, _, rfl, g1, rfl, _, rfl, ite2 (fun c => ⟨_, rfl, thr fun g => ?_⟩) (fun a5 => ?_)⟩
      · rw [g.wd] at c
        simp at c
      have hwd : wR rows z.1 = wR rows z.2.1 := by
        rcases Nat.decEq (wR rows z.1) (wR rows z.2.1) with h | h
        · exact absurd (by simp; omega) a5
        · exact h
      refine ⟨_, rfl, _, rfl, le_line (show 2 ≤ 10000000 by decide), fun m hm => ?_⟩
      have s4 := (Same.refl H3).upd_new (o := .tup [.str z.1, .str z.2.1]) hm
      have m4 : (upd H3 m (.tup [.str z.1, .str z.2.1])) m = some (.tup ((ck (z.1, z.2.1)).map kV)) := upd_same
      have at4 := at3.keep (H' := upd H3 m (.tup [.str z.1, .str z.2.1])) (fun b ys h => s4 _ _ h) (by
        obtain ⟨L, hL, _⟩ := at3
        rw [hL]
        exact s4 _ _ hL)
      generalize upd H3 m (.tup [.str z.1, .str z.2.1]) = H4 at s4 m4 at4
      have mm : ∀ y : Bool, (y = true ↔ ck (z.1, z.2.1) ∈ (((sws.take i).map fun z => (z.1, z.2.1)).map ck).reverse) → (y = true ↔ (z.1, z.2.1) ∈ (sws.take i).map fun z => (z.1, z.2.1)) := fun y h => by
        rw [List.mem_reverse, mem_ck] at h
        exact h
      refine ⟨_, rfl, p, m, ck (z.1, z.2.1), _, rfl, rfl, at4, m4, fun y hy => ⟨_, rfl, ite2 (fun c => ⟨_, rfl, ⟨_, rfl, by omega, by omega⟩, rfl, fun d hd => bad (fun g => g.nw ((mm y hy).mp c)) H4 d s4 hd⟩) (fun a6 => ?_)⟩⟩
      have good : GoodQ rows (sws.take i) z := ⟨ha, hb, hne, hwd, hpr.1, hpr.2, fun h => a6 ((mm y hy).mpr h)⟩
      refine ⟨_, rfl, ⟨p, _, rfl, at4⟩, _, rfl, _, rfl, le_line (show 2 ≤ 10000000 by decide), fun n hn => ?_⟩
      have s5 := (Same.refl H4).upd_new (o := .tup [.str z.1, .str z.2.1]) hn
      have n5 : (upd H4 n (.tup [.str z.1, .str z.2.1])) n = some (.tup ((ck (z.1, z.2.1)).map kV)) := upd_same
      have at5 := at4.keep (H' := upd H4 n (.tup [.str z.1, .str z.2.1])) (fun b ys h => s5 _ _ h) (by
        obtain ⟨L, hL, _⟩ := at4
        rw [hL]
        exact s5 _ _ hL)
      generalize upd H4 n (.tup [.str z.1, .str z.2.1]) = H5 at s5 n5 at5
      refine ⟨p, n, ck (z.1, z.2.1), _, rfl, rfl, at5, n5, fun h => a6 (hy.mpr h), ?_, fun H6 ot at6 => ?_⟩
      · rw [List.length_reverse, List.length_map, List.length_map, List.length_take]
        omega
      have nhp : ∀ c o, H c = some o → c ≠ p := fun c o hc e => by rw [e, hp] at hc; cases hc
      refine ⟨_, _, _, _, rfl, fun c o hc => (ot c (nhp c o hc)).trans (((s3.trans s4).trans s5) c o hc), ?_, g2.more hqi good⟩
      rw [← take_snoc hqi, List.map_append, List.map_append, List.reverse_append]
      exact at6
    · rintro σ H2 ⟨x3, x4, x5, x6, rfl, s2, at2, g2⟩
      rw [ls] at g2
      exact key g2 H2 s2
end
end Sh
end
section
set_option Elab.async false
set_option linter.all false
set_option maxRecDepth 100000
set_option maxHeartbeats 4000000
namespace Sh
open PySem PySem.Spec PyProof.Rows L2
open C8 (pss_cut tCut)
open Evl (ixN_nat)
/-- the price of a swap, 0 of a kind for itself -/
def swp (sws : List Swap) (z y : Str) : Option Int := if z = y then some 0 else (sws.find? fun q => decide (q.1 = z ∧ q.2.1 = y)).map (·.2.2)
theorem swp_nil (z y : Str) : swp [] z y = if z = y then some 0 else none := rfl
theorem swp_snoc {rows : List Row} {sws : List Swap} {q : Swap} (g : GoodQ rows sws q) (z y : Str) : swp (sws ++ [q]) z y = if z = q.1 ∧ y = q.2.1 then some q.2.2 else swp sws z y := by
  unfold swp
  by_cases h : z = y
  · rw [if_pos h, if_pos h, if_neg]
    rintro ⟨a, b⟩
    exact g.ne (by rw [← a, h, b])
  · rw [if_neg h, if_neg h, List.find?_append]
    by_cases c : z = q.1 ∧ y = q.2.1
    · have n : sws.find? (fun p => decide (p.1 = z ∧ p.2.1 = y)) = none := List.find?_eq_none.mpr fun p hp e => g.nw (by
        have e := of_decide_eq_true e
        rw [c.1, c.2] at e
        exact List.mem_map.mpr ⟨p, hp, by rw [e.1, e.2]⟩)
      rw [n, if_pos c, List.find?_cons_of_pos (by rw [c.1, c.2]; simp)]
      rfl
    · rw [if_neg c, List.find?_cons_of_neg (by
        intro e
        have e := of_decide_eq_true e
        exact c ⟨e.1.symm, e.2.symm⟩)]
      simp
theorem swp_wd {rows : List Row} {sws : List Swap} (W : GoodB rows sws sws.length) {z y : Str} {c : Int} (h : swp sws z y = some c) : wR rows z = wR rows y := by
  unfold swp at h
  split at h
  · rename_i e
    rw [e]
  · cases hf : sws.find? (fun q => decide (q.1 = z ∧ q.2.1 = y)) with
    | none => rw [hf] at h; cases h
    | some q =>
      obtain ⟨i, hi⟩ := List.mem_iff_getElem?.mp (List.mem_of_find?_eq_some hf)
      have g := W i q (List.getElem?_eq_some_iff.mp hi).1 hi
      have hp := List.find?_some hf
      have e : q.1 = z ∧ q.2.1 = y := of_decide_eq_true hp
      rw [← e.1, ← e.2]
      exact g.wd
/-- what the kinds can be changed into -/
def tnL (ns : List Str) (ds : List Addr) : List (Key × V) := (ns.zip ds).map fun q => (.inr q.1, .ref q.2)
structure TnAt (H : Hp) (d : Addr) (ns : List Str) (ds : List Addr) (sws : List Swap) : Prop where
  at_ : H d = some (.dK (tnL ns ds))
  len : ds.length = ns.length
  nd : ds.Nodup
  nin : d ∉ ds
  row : ∀ (i : Nat) (n : Str) (a : Addr), ns[i]? = some n → ds[i]? = some a → ∃ kvs, H a = some (.dK kvs) ∧ kvs.length ≤ 1 + sws.length ∧ ∀ y : Str, valV kvs (.inr y) = (swp sws n y).map V.int
theorem TnAt.keep {H H' : Hp} {d : Addr} {ns : List Str} {ds : List Addr} {sws : List Swap} (x : TnAt H d ns ds sws) (k : ∀ a kvs, H a = some (.dK kvs) → H' a = some (.dK kvs)) : TnAt H' d ns ds sws :=
  ⟨k _ _ x.at_, x.len, x.nd, x.nin, fun i n a h1 h2 => by
    obtain ⟨kvs, q1, q2, q3⟩ := x.row i n a h1 h2
    exact ⟨kvs, k _ _ q1, q2, q3⟩⟩
theorem tn_val {ns : List Str} {ds : List Addr} (nd : ns.Nodup) {i : Nat} {n : Str} {a : Addr} (h1 : ns[i]? = some n) (h2 : ds[i]? = some a) : valV (tnL ns ds) (.inr n) = some (.ref a) := by
  unfold valV tnL
  rw [List.find?_map]
  have hz : (ns.zip ds)[i]? = some (n, a) := List.getElem?_zip_eq_some.mpr ⟨h1, h2⟩
  have : (ns.zip ds).find? ((fun kv : Key × V => decide (kv.1 = Sum.inr n)) ∘ fun q : Str × Addr => ((.inr q.1 : Key), V.ref q.2)) = some (n, a) := by
    have e : ((fun kv : Key × V => decide (kv.1 = Sum.inr n)) ∘ fun q : Str × Addr => ((.inr q.1 : Key), V.ref q.2)) = fun q => decide (q.1 = n) := by
      funext q
      exact key_rr q.1 n
    rw [e]
    have hm := List.mem_of_getElem? hz
    cases hf : (ns.zip ds).find? (fun q => decide (q.1 = n)) with
    | none => exact absurd (List.find?_eq_none.mp hf _ hm) (by simp)
    | some q =>
      have hp := List.find?_some hf
      have e1 : q.1 = n := of_decide_eq_true hp
      obtain ⟨j, hj⟩ := List.mem_iff_getElem?.mp (List.mem_of_find?_eq_some hf)
      obtain ⟨j1, j2⟩ := List.getElem?_zip_eq_some.mp hj
      rw [e1] at j1
      have := nd_at nd h1 j1
      subst this
      rw [h2] at j2
      injection j2 with j2
      exact congrArg some (Prod.ext e1 j2.symm)
  rw [this]
  rfl
theorem inr_iff {a b : Str} : (Sum.inr a : Key) = Sum.inr b ↔ a = b := ⟨fun h => by injection h, fun h => by rw [h]⟩
theorem TnAt.add {H : Hp} {D p : Addr} {ns : List Str} {ds : List Addr} {n : Str} (x : TnAt H D ns ds []) (hp : H p = none) (hn : n ∉ ns) :
    TnAt (upd (upd (upd H p (.dK [])) p (.dK [(.inr n, .int 0)])) D (.dK (putK (tnL ns ds) (.inr n) (.ref p)))) D (ns ++ [n]) (ds ++ [p]) [] := by
  have npD : p ≠ D := fun e => by rw [e, x.at_] at hp; cases hp
  have npd : ∀ a ∈ ds, a ≠ p := fun a ha e => by
    obtain ⟨i, hi⟩ := List.mem_iff_getElem?.mp ha
    have l := (List.getElem?_eq_some_iff.mp hi).1
    have l : i < ns.length := by rw [← x.len]; exact l
    obtain ⟨kvs, q, _⟩ := x.row i ns[i] a (List.getElem?_eq_getElem l) hi
    rw [e, hp] at q
    cases q
  have fresh : valV (tnL ns ds) (.inr n) = none := valV_none fun kv hk e => by
    obtain ⟨q, hq, rfl⟩ := List.mem_map.mp hk
    have e : q.1 = n := inr_iff.mp e
    exact hn (e ▸ (List.of_mem_zip hq).1)
  refine ⟨?_, ?_, ?_, ?_, ?_⟩
  · rw [upd_same, putK_new _ fresh]
    unfold tnL
    rw [List.zip_append x.len.symm, List.map_append]
    rfl
  · rw [List.length_append, List.length_append, x.len]
    rfl
  · exact List.nodup_append.mpr ⟨x.nd, by simp, fun a ha b hb => by
      rw [List.mem_singleton.mp hb]
      exact npd a ha⟩
  · intro h
    rcases List.mem_append.mp h with h | h
    · exact x.nin h
    · exact npD (List.mem_singleton.mp h).symm
  · intro i m a h1 h2
    by_cases c : i < ns.length
    · rw [List.getElem?_append_left c] at h1
      rw [List.getElem?_append_left (by rw [x.len]; exact c)] at h2
      obtain ⟨kvs, q1, q2, q3⟩ := x.row i m a h1 h2
      have ha := List.mem_of_getElem? h2
      refine ⟨kvs, ?_, q2, q3⟩
      have naD : a ≠ D := fun e => x.nin (by rw [← e]; exact ha)
      rw [upd_ne naD, upd_ne (npd a ha), upd_ne (npd a ha)]
      exact q1
    · rw [List.getElem?_append_right (by omega)] at h1
      rw [List.getElem?_append_right (by rw [x.len]; omega), x.len] at h2
      have e0 : i - ns.length = 0 := by
        have := (List.getElem?_eq_some_iff.mp h1).1
        have l1 : ([n] : List Str).length = 1 := rfl
        omega
      rw [e0] at h1 h2
      cases h1
      cases h2
      refine ⟨_, by rw [upd_ne npD, upd_same], Nat.le_refl _, fun y => ?_⟩
      rw [swp_nil]
      unfold valV
      by_cases e : n = y
      · rw [List.find?_cons_of_pos (by rw [e]; simp), if_pos e]
        rfl
      · rw [List.find?_cons_of_neg (by intro h; exact e (inr_iff.mp (of_decide_eq_true h))), if_neg e]
        rfl
theorem TnAt.put {rows : List Row} {H : Hp} {D a : Addr} {ns : List Str} {ds : List Addr} {sws : List Swap} {z : Swap} (x : TnAt H D ns ds sws) (nd : ns.Nodup) (g : GoodQ rows sws z) {i : Nat} (h1 : ns[i]? = some z.1) (h2 : ds[i]? = some a) {kvs : List (Key × V)} (ha : H a = some (.dK kvs)) :
    TnAt (upd H a (.dK (putK kvs (.inr z.2.1) (.int z.2.2)))) D ns ds (sws ++ [z]) := by
  have nDa : D ≠ a := fun e => x.nin (e ▸ List.mem_of_getElem? h2)
  refine ⟨by rw [upd_ne nDa]; exact x.at_, x.len, x.nd, x.nin, fun j m b g1 g2 => ?_⟩
  obtain ⟨kv2, q1, q2, q3⟩ := x.row j m b g1 g2
  by_cases c : j = i
  · subst c
    rw [h1] at g1
    cases g1
    rw [h2] at g2
    cases g2
    rw [ha] at q1
    injection q1 with q1
    injection q1 with q1
    subst q1
    refine ⟨_, upd_same, ?_, fun y => ?_⟩
    · have := length_putK kvs (.inr z.2.1) (.int z.2.2)
      rw [List.length_append]
      show _ ≤ 1 + (_ + 1)
      omega
    · rw [valV_put, swp_snoc g, q3 y]
      by_cases e : y = z.2.1
      · rw [if_pos (by rw [e]), if_pos ⟨rfl, e⟩]
        rfl
      · rw [if_neg (fun h => e (inr_iff.mp h)), if_neg (fun h => e h.2)]
  · have nba : b ≠ a := fun e => by
      rw [e] at g2
      obtain ⟨l1, e1⟩ := List.getElem?_eq_some_iff.mp g2
      obtain ⟨l2, e2⟩ := List.getElem?_eq_some_iff.mp h2
      exact c ((List.getElem_inj x.nd).mp (e1.trans e2.symm))
    refine ⟨kv2, by rw [upd_ne nba]; exact q1, by rw [List.length_append]; omega, fun y => ?_⟩
    rw [swp_snoc g, if_neg, q3 y]
    rintro ⟨e, _⟩
    rw [e] at g1
    exact c (nd_at nd g1 h1)
def prF (b : Addr) (cut : Int) (q d : Addr) : List (Str × V) := [("bed", .ref b), ("cutting", .int cut), ("swaps", .ref q), ("turns", .ref d)]
theorem p_ne : ¬ ("bed" : Str) = "cutting" ∧ ¬ ("bed" : Str) = "swaps" ∧ ¬ ("bed" : Str) = "turns" ∧ ¬ ("cutting" : Str) = "swaps" ∧ ¬ ("cutting" : Str) = "turns" ∧ ¬ ("swaps" : Str) = "turns" := by decide +kernel
theorem pr_put2 (b : Addr) (c : Int) : putF "cutting" (.int c) [("bed", .ref b)] = [(("bed" : Str), V.ref b), ("cutting", .int c)] := by simp [putF, p_ne]
theorem pr_put3 (b : Addr) (c : Int) (q : Addr) : putF "swaps" (.ref q) [("bed", .ref b), ("cutting", .int c)] = [(("bed" : Str), V.ref b), ("cutting", .int c), ("swaps", .ref q)] := by simp [putF, p_ne]
theorem pr_put4 (b : Addr) (c : Int) (q d : Addr) : putF "turns" (.ref d) [("bed", .ref b), ("cutting", .int c), ("swaps", .ref q)] = prF b c q d := by simp [putF, p_ne, prF]
theorem pr_bed (b : Addr) (c : Int) (q d : Addr) : (prF b c q d).lookup ("bed" : Str) = some (.ref b) := by simp [prF, List.lookup]
theorem pr_cut (b : Addr) (c : Int) (q d : Addr) : (prF b c q d).lookup ("cutting" : Str) = some (.int c) := by
  have h : (("cutting" : Str) == "bed") = false := by decide +kernel
  simp [prF, List.lookup, h]
theorem pr_sws (b : Addr) (c : Int) (q d : Addr) : (prF b c q d).lookup ("swaps" : Str) = some (.ref q) := by
  have h : (("swaps" : Str) == "bed") = false := by decide +kernel
  have h2 : (("swaps" : Str) == "cutting") = false := by decide +kernel
  simp [prF, List.lookup, h, h2]
theorem pr_tns (b : Addr) (c : Int) (q d : Addr) : (prF b c q d).lookup ("turns" : Str) = some (.ref d) := by
  have h : (("turns" : Str) == "bed") = false := by decide +kernel
  have h2 : (("turns" : Str) == "cutting") = false := by decide +kernel
  have h3 : (("turns" : Str) == "swaps") = false := by decide +kernel
  simp [prF, List.lookup, h, h2, h3]
structure PrT (K : PySem.W.Frag) (C : Addr) : Prop where
  cl : Cls K C
  nB : NoAttr K C "bed"
  nC : NoAttr K C "cutting"
  nS : NoAttr K C "swaps"
  nT : NoAttr K C "turns"
/-- prices, laid out -/
def PrcAt (C CP : Addr) (H : Hp) (p : Addr) (rows : List Row) (cut : Int) (sws : List Swap) : Prop := ∃ (dx b q d : Addr) (us ds : List Addr), H p = some (.ins CP dx (prF b cut q d)) ∧ BedAt C H b rows ∧ H q = some (.tup (us.map V.ref)) ∧ PlAt swV H us sws ∧ TnAt H d (rows.map (·.1)) ds sws
theorem PrcAt.same {C CP : Addr} {H H' : Hp} {p : Addr} {rows : List Row} {cut : Int} {sws : List Swap} (x : PrcAt C CP H p rows cut sws) (s : Same H H') : PrcAt C CP H' p rows cut sws := by
  obtain ⟨dx, b, q, d, us, ds, h1, h2, h3, h4, h5⟩ := x
  exact ⟨dx, b, q, d, us, ds, s _ _ h1, h2.same s, s _ _ h3, h4.keep fun _ _ h => s _ _ h, h5.keep fun _ _ h => s _ _ h⟩
theorem BedAt.kx {C x D dx : Addr} {H H' : Hp} {b : Addr} {rows : List Row} (B : BedAt C H b rows) (hx : H x = some (.ins D dx [])) (k : Kp x H H') : BedAt C H' b rows := by
  obtain ⟨dx', r, kk, w, rk, ts, h1, h2, h3, h4, h5, h6⟩ := B
  exact ⟨dx', r, kk, w, rk, ts, k _ _ h1 (ne_of h1 hx (fun e => by unfold bedF at e; cases e)), k _ _ h2 (ne_of h2 hx (fun e => nomatch e)), h3.keep (fun t xs q => k _ _ q (ne_of q hx (fun e => nomatch e))),
    k _ _ h4 (ne_of h4 hx (fun e => nomatch e)), k _ _ h5 (ne_of h5 hx (fun e => nomatch e)), k _ _ h6 (ne_of h6 hx (fun e => nomatch e))⟩
def spPrI (C CP AI : Addr) : Sp := fun vs H Q E => ∃ (x dx b q : Addr) (cut : Int) (us : List Addr) (rows : List Row) (sws : List Swap), vs = [.ref x, .ref b, .int cut, .ref q] ∧ H x = some (.ins CP dx []) ∧ BedAt C H b rows ∧ ROk 4 rows ∧ H q = some (.tup (us.map V.ref)) ∧ PlAt swV H us sws ∧ sws.length ≤ 6 ∧
  (∀ e, FstF rows cut sws e → e ≠ -2 → RzP AI E H e) ∧ (FstF rows cut sws (-2) → ∀ H', Kp x H H' → PrcAt C CP H' x rows cut sws → Q .non H')
abbrev N_Prices_init__ : List Str := ["self", "bed", "cutting", "swaps", "kind", "other", "cost"]
theorem sc_Prices_init__ : FnScope N_Prices_init__ ["self", "bed", "cutting", "swaps"] (defScope s_Prices_init__) := ⟨rfl, rfl, rfl, by decide +kernel, rfl, by decide +kernel, by decide +kernel⟩
section
variable {P : Program} {w : World} {K : PySem.W.Frag} {mg : Str → Option Value} {base : Heap} {C CP AI : Addr} {A : XA}
theorem body_pri (T : Bp mg) (x51 : XP P w K mg A AI) (B : BedT K C) (BP : PrT K CP) (c_is_price : DefOk P w K mg base CX0 1 "is_price" spIsPr) (c_check_swaps : DefOk P w K mg base (L2.CX P w) 2 "check_swaps" (spChkSw C AI)) {f : Addr} {cdv : Value} {A' : Around} {outer : List Env} {s' : Shared} {H : Hp} {vs : List V} {Q : VK} {E : XK} (hr : Room 3 (A'.deeper (envOfC "Prices.__init__" (defScope s_Prices_init__) s'.heap.objs.size f cdv))) (h : spPrI C CP AI vs H Q E) :
    ∃ t, PSs (cxOf (L2.CX P w) P w K mg base N_Prices_init__ "Prices.__init__" (defScope s_Prices_init__) f cdv A' outer s' H E) (defBody s_Prices_init__) t ∧ t { nx := fun _ H' => Q .non H', rt := Q } (start N_Prices_init__ vs) H := by
  have x_InvalidPrices := x51.xI
  obtain ⟨x, dx, b, q, cut, us, rows, sws, rfl, hx, hB, R, hq, hS, h6, kx, key⟩ := h
  have hu := hu_of hr
  refine ⟨_, (pss_cons (ps_if (pt_not (pt_val (pe_d c_is_price (hr.mono (by decide)) pass0 (pa_cons (pv 2) pa_nil))))
      (pss_one (ps_raiseSup rfl x_InvalidPrices hr (takes_of rfl rfl rfl rfl) (pa_cons (pe_un un_neg pe_int) pa_nil)))
      pss_nil)
    (pss_cons (ps_expr (pe_d c_check_swaps (hr.mono (by decide)) (passes_call (takes_of rfl rfl rfl rfl) fun _ _ _ _ h => h) (pa_cons (pv 1) (pa_cons (pv 3) pa_nil))))
    (pss_cons (ps_fld (pv 0) (pv 1) rfl)
    (pss_cons (ps_fld (pv 0) (pv 2) rfl)
    (pss_cons (ps_fld (pv 0) (pv 3) rfl)
    (pss_cons (ps_fld (pv 0) (pe_dc (own := [("kind", 4)]) (g := (gName 4)) (tt := tYes) rfl sc_Prices_init__.nd (pi_tup (pe_fld (pv 1) rfl)) (blkOk_by (N := N_Prices_init__) (sc := defScope s_Prices_init__) (by decide +kernel)) (fun _ _ _ _ _ => (pg_name (i := 4) sc_Prices_init__.nd rfl (Or.inl rfl))) (fun _ _ _ _ _ => pts_nil) (fun _ _ _ _ _ => (pv 4)) (fun _ _ _ _ _ => (pe_disp (pps_cons (pv 4) pe_int pps_nil) rfl rfl (by decide) (by decide)))) rfl)
    (pss_one (ps_for (passes_of rfl) rfl (pi_tup (pv 3)) (pg_tup (by rfl) (pgs_cons (pg_name (i := 4) sc_Prices_init__.nd rfl (Or.inl rfl)) (pgs_cons (pg_name (i := 5) sc_Prices_init__.nd rfl (Or.inl rfl)) (pgs_cons (pg_name (i := 6) sc_Prices_init__.nd rfl (Or.inl rfl)) pgs_nil))))
      (pss_one (ps_dput hu (pe_dget hu (pe_fld (pv 0) rfl) (pv 4) (fun _ _ => rfl)) (pv 5) (pv 6) rfl)))))))))), ?_⟩
  refine ⟨_, rfl, cut, rfl, _, rfl, ite2 (fun c => ?_) (fun c => ?_)⟩
  · have nc : cut < 0 ∨ 1000 < cut := by
      cases e : decide (0 ≤ cut ∧ cut ≤ 1000) with
      | true => rw [e] at c; exact absurd c (by decide)
      | false =>
        have := of_decide_eq_false e
        omega
    exact ⟨_, rfl, ⟨_, rfl, by omega, by omega⟩, rfl, fun d hd => kx (-1) (.inl ⟨rfl, nc⟩) (by decide) H d (Same.refl H) hd⟩
  have hc : 0 ≤ cut ∧ cut ≤ 1000 := by
    cases e : decide (0 ≤ cut ∧ cut ≤ 1000) with
    | true => exact of_decide_eq_true e
    | false => rw [e] at c; exact absurd rfl c
  refine ⟨_, rfl, _, rfl, b, q, us, rows, sws, rfl, hB, R, hq, hS, h6, fun i p hp g ng => kx _ (.inr (.inr ⟨hc.1, hc.2, i, p, rfl, hp, g, ng⟩)) (by omega), fun g H1 s1 => ?_⟩
  have key := key (.inr (.inl ⟨rfl, hc.1, hc.2, g⟩))
  have s1H := s1
  refine ⟨_, rfl, _, rfl, x, CP, dx, _, rfl, s1 _ _ hx, BP.cl, BP.nB, (by show 0 < 1000; decide), ?_⟩
  refine ⟨_, rfl, _, rfl, x, CP, dx, _, rfl, upd_same, BP.cl, BP.nC, (by show 1 < 1000; decide), ?_⟩
  refine ⟨_, rfl, _, rfl, x, CP, dx, _, rfl, upd_same, BP.cl, BP.nS, ?_, ?_⟩
  · rw [show putF "bed" (.ref b) [] = [(("bed" : Str), V.ref b)] from rfl, pr_put2]
    show 2 < 1000
    decide
  rw [show putF "bed" (.ref b) [] = [(("bed" : Str), V.ref b)] from rfl, pr_put2, pr_put3]
  generalize e2 : upd (upd (upd H1 x (.ins CP dx [(("bed" : Str), V.ref b)])) x (.ins CP dx [(("bed" : Str), V.ref b), ("cutting", .int cut)])) x (.ins CP dx [(("bed" : Str), V.ref b), ("cutting", .int cut), ("swaps", .ref q)]) = H2
  have hx2 : H2 x = some (.ins CP dx [(("bed" : Str), V.ref b), ("cutting", .int cut), ("swaps", .ref q)]) := by rw [← e2, upd_same]
  have k2 : Kp x H H2 := by rw [← e2]; exact (((Kp.same s1).upd).upd).upd
  clear e2
  have hB2 := hB.kx hx k2
  have hq2 := k2 _ _ hq (ne_of hq hx (fun e => nomatch e))
  obtain ⟨bx, r, kk, ww, rk, ts, b1, b2, b3, b4, b5, b6⟩ := hB2
  refine ⟨_, rfl, b, C, bx, _, _, rfl, b1, B.cl, B.nK, lk_kinds _ _ _ _, kk, rfl, ⟨_, SqT.of b4⟩, fun D hD => dc_it (walk_tup (xs := (rows.map (·.1)).map V.str)) (fun i H' => Same H2 H' ∧ ∃ ds, TnAt H' D ((rows.map (·.1)).take i) ds [] ∧ ∀ a ∈ ds, H2 a = none)
    ⟨(Same.refl H2).upd_new hD, [], ⟨upd_same, by simp, List.nodup_nil, (fun h => nomatch h), fun i n a h => by simp at h⟩, fun a h => nomatch h⟩ (fun i H' _ ⟨q, _⟩ => SqT.of (q _ _ b4)) ?_ ?_⟩
  · rintro i v H3 H4 hi ⟨s3, ds, T3, f3⟩ ⟨rfl, hv⟩
    rw [List.length_map] at hi
    obtain ⟨n, hn, rfl⟩ := get_map hv
    refine ⟨rfl, ?_⟩
    refine ⟨_, rfl, fun p hp => ⟨_, rfl, ⟨upd_same, [(.inr n, .int 0)], rfl, (show 1 ≤ 15 by decide), ?_⟩⟩⟩
    have npD : p ≠ D := fun e => by rw [e, T3.at_] at hp; cases hp
    have f2p : H2 p = none := by
      cases e : H2 p with
      | none => rfl
      | some o =>
        rw [s3 _ _ e] at hp
        cases hp
    have hl : ((rows.map (·.1)).take i).length = i := by rw [List.length_take]; omega
    have r4 := R.len
    refine ⟨_, .inr n, rfl, by rw [upd_ne (Ne.symm npD), upd_ne (Ne.symm npD)]; exact T3.at_, ?_, ((s3.upd_new hp).upd_own f2p).upd_own hD, ds ++ [p], ?_, fun a ha => ?_⟩
    · unfold tnL
      rw [List.length_map, List.length_zip, hl]
      rw [List.length_map] at hi
      exact lt_line (n := min i _) (by omega)
    · rw [← take_snoc hn]
      refine T3.add hp fun hm => ?_
      have := nd_take R.nd (i := i) (by omega)
      obtain ⟨l1, e1⟩ := List.getElem?_eq_some_iff.mp hn
      exact this (e1 ▸ hm)
    · rcases List.mem_append.mp ha with ha | ha
      · exact f3 a ha
      · rw [List.mem_singleton.mp ha]
        exact f2p
  rintro H3 ⟨s3, ds, T3, f3⟩
  rw [List.length_map, List.take_length] at T3
  have nDx : D ≠ x := fun e => by rw [e, hx2] at hD; cases hD
  refine ⟨_, rfl, x, CP, dx, _, rfl, s3 _ _ hx2, BP.cl, BP.nT, (by show 3 < 1000; decide), ?_⟩
  rw [pr_put4]
  have k4 : Kp x H (upd H3 x (.ins CP dx (prF b cut q D))) := (k2.trans (Kp.same s3)).upd
  have hx4 : (upd H3 x (.ins CP dx (prF b cut q D))) x = some (.ins CP dx (prF b cut q D)) := upd_same
  have T4 : TnAt (upd H3 x (.ins CP dx (prF b cut q D))) D (rows.map (·.1)) ds [] := T3.keep fun a kvs h => by
    rw [upd_ne fun e => by rw [e, s3 _ _ hx2] at h; cases h]
    exact h
  have nds : ∀ a ∈ ds, H a = none := fun a ha => by
    have h := f3 a ha
    cases e : H a with
    | none => rfl
    | some o =>
      by_cases c : a = x
      · rw [c, hx2] at h
        cases h
      · rw [k2 _ _ e c] at h
        cases h
  have hDH : H D = none := by
    cases e : H D with
    | none => rfl
    | some o =>
      rw [k2 _ _ e nDx] at hD
      cases hD
  have nxs : x ∉ ds := fun h => by
    have := nds x h
    rw [hx] at this
    cases this
  generalize upd H3 x (.ins CP dx (prF b cut q D)) = H4 at k4 hx4 T4
  have hq4 := k4 _ _ hq (ne_of hq hx (fun e => nomatch e))
  have ls : (us.map V.ref).length = sws.length := by rw [List.length_map, hS.1]
  refine ⟨_, rfl, q, rfl, ⟨_, SqT.of hq4⟩, for_it (walk_tup (xs := us.map V.ref)) (fun i σ H' => ∃ (x4 x5 x6 : Option V), σ = [some (.ref x), some (.ref b), some (.int cut), some (.ref q), x4, x5, x6] ∧ Kp x H H' ∧ H' x = some (.ins CP dx (prF b cut q D)) ∧ TnAt H' D (rows.map (·.1)) ds (sws.take i))
    ⟨none, none, none, rfl, k4, hx4, T4⟩ (fun i σ H' _ ⟨_, _, _, _, kk, _⟩ => SqT.of (kk _ _ hq (ne_of hq hx (fun e => nomatch e)))) ?_ ?_⟩
  · rintro i v σ H5' H5 hi ⟨x4, x5, x6, rfl, k5, hx5, T5⟩ ⟨rfl, hv⟩
    obtain ⟨t, ht, rfl⟩ := get_map hv
    have his : i < sws.length := by rw [ls] at hi; exact hi
    have hqi := List.getElem?_eq_getElem his
    generalize hzz : sws[i] = z at hqi
    have hsw0 := hS.2 i t z ht hqi
    have hsw := k5 _ _ hsw0 (ne_of hsw0 hx (fun e => nomatch e))
    have gz := g i z his hqi
    obtain ⟨q0, hq0, e0⟩ := gz.a
    obtain ⟨j, hj⟩ := List.mem_iff_getElem?.mp hq0
    have hjn : (rows.map (·.1))[j]? = some z.1 := by rw [List.getElem?_map, hj, ← e0]; rfl
    have jl : j < ds.length := by rw [T5.len]; exact (List.getElem?_eq_some_iff.mp hjn).1
    have hjd := List.getElem?_eq_getElem jl
    generalize hdd : ds[j] = a at hjd
    obtain ⟨kvs, r1, r2, r3⟩ := T5.row j z.1 a hjn hjd
    have am := List.mem_of_getElem? hjd
    have nax : x ≠ a := fun e => nxs (by rw [e]; exact am)
    refine ⟨t, _, rfl, SqT.of hsw, rfl, _, _, rfl, _, _, rfl, _, _, rfl, rfl, ?_⟩
    have gd : DGet H5 D (.str z.1) (some (.ref a)) := by
      have := DGet.k (k := .inr z.1) T5.at_
      rw [tn_val R.nd hjn hjd] at this
      exact this
    refine ⟨_, rfl, _, rfl, x, CP, dx, _, _, rfl, hx5, BP.cl, BP.nT, pr_tns _ _ _ _, _, rfl, D, _, rfl, gd, _, rfl, a, _, rfl, DPut.k (k := .inr z.2.1) r1 ?_, ?_⟩
    · rw [List.length_take] at r2
      exact lt_line (by omega)
    refine ⟨_, _, _, rfl, fun c o hc n => ?_, ?_, ?_⟩
    · rw [upd_ne (fun e => by rw [e, nds a am] at hc; cases hc)]
      exact k5 c o hc n
    · rw [upd_ne nax]
      exact hx5
    · rw [← take_snoc hqi]
      exact T5.put R.nd gz hjn hjd r1
  · rintro σ H5 ⟨x4, x5, x6, rfl, k5, hx5, T5⟩
    rw [ls, List.take_length] at T5
    refine key H5 k5 ⟨dx, b, q, D, us, ds, hx5, hB.kx hx k5, k5 _ _ hq (ne_of hq hx (fun e => nomatch e)), hS.keep fun t ys h => k5 _ _ h (ne_of h hx (fun e => nomatch e)), T5⟩
end
end Sh
end
section
set_option Elab.async false
set_option linter.all false
set_option maxRecDepth 100000
set_option maxHeartbeats 2000000
set_option autoImplicit false
namespace L2
open PySem PySem.Spec PyProof.Rows
section
variable {X : Cx} {CX : CXT} {k : Nat} {f C : Addr} {sp : Sp} {E : St → XK} {x : Str} {e : Expr} {es : List Expr} {t : TA} {p pos : Pos}
theorem run_makeS {pins : List (Addr × Obj)} {σ : L2.St} {H : Hp} {s : Shared} {Q : VK} {us : List Value} {vs : List V} {E : XK} (M : Mk X.K C f) (F : FnR X.prog X.w X.K X.mg X.base CX k f sp) (hr : Room (k + 1) X.A) (hx : PassesAt CX X σ E) (I : Inv X pins σ H s) (r : Vals vs us)
    (h : ∀ x dx, H x = Option.none → H dx = Option.none → dx ≠ x → sp (V.ref x :: vs) (upd (upd H dx (.own x)) x (.ins C dx [])) (fun v H2 => v = .non ∧ Q (.ref x) H2) E) :
    wpAny (model X.prog X.w) X.A (call (.ref C) us) (EP X pins σ Q) X.xe s := by
  have hq := h (s.heap.objs.size + 1) s.heap.objs.size (I.hok.fresh (Nat.le_succ _)) (I.hok.fresh (Nat.le_refl _)) (Nat.ne_of_lt (Nat.lt_succ_self _))
  have I2 := Inv.made (C := C) I
  have r2 : Vals (V.ref (s.heap.objs.size + 1) :: vs) (Value.ref (s.heap.objs.size + 1) :: us) := .cons rfl r
  refine wpAny_call (make_map (f := f) I.kIn M.makes M.init (beq_iff_eq.mp M.fn) (codeAny_mono (F _ X.stack _ _ (Value.ref (s.heap.objs.size + 1) :: us) _ _ E (hr.make C us []) (I2.env0.make C us []) r2 hq) fun r s' hq' => ?_))
  cases r with
  | error e => exact hx pins _ _ e s' I2 hq'
  | ok fl =>
    cases fl with
    | ret u =>
      obtain ⟨v, H', I3, rv, ev, q3⟩ := I2.after hq'
      subst ev
      exact ⟨rv, ⟨V.ref (s.heap.objs.size + 1), H', I3, rfl, q3⟩⟩
    | next => exact False.elim hq'
    | brk => exact False.elim hq'
    | cont => exact False.elim hq'
end
section
variable {X : Cx} {CX : CXT} {k : Nat} {f C : Addr} {sp : V → Sp} {E : St → XK} {x kn : Str} {e : Expr} {es : List Expr} {t tk : TA} {p pos : Pos} {kws : List Keyword}
end
end L2
end
section
set_option Elab.async false
set_option linter.all false
set_option maxRecDepth 100000
set_option maxHeartbeats 4000000
namespace Sh
open PySem PySem.Spec PyProof.Rows L2
open C8 (pss_cut tCut)
open Evl (ixN_nat)
theorem pe_X {X : Cx} {x : Str} {C : Addr} {pos : Pos} (hg : Gl X x) (h : X.mg x = some (.ref C)) (hd : (x == ("__debug__" : Str)) = false := by decide) : PE X (.Name x pos) (tC (.ref C)) := pe_glob hg h rfl hd
/-- the exception classes, where they are caught -/
structure XcP (K : PySem.W.Frag) (mg : Str → Option Value) (A : XA) (AI CY : Addr) : Prop where
  y : mg "YardError" = some (.ref CY)
  exI : ExcD K AI
  oI : XOk K AI ["place"]
  oP : XOk K A.P ["place"]
  kY : PySem.W.kitOne K (.ref AI) (.ref CY) = some true
  kV : PySem.W.kitOne K (.ref AI) (.type "ValueError") = some true
  kP : PySem.W.kitOne K (.ref AI) (.ref A.P) = some false
def spPrS (C CP AI : Addr) : Sp := fun vs H Q E => ∃ ws rest, vs = ws ++ rest ∧ ws.length = (["self", "bed", "cutting"] : List Str).length ∧ rest.length ≤ sizeLine ∧ ∀ p, H p = Option.none → spPrI C CP AI (ws ++ [V.ref p]) (upd H p (.tup rest)) Q E
def PricesC (P : Program) (w : World) (K : PySem.W.Frag) (mg : Str → Option Value) (base : Heap) (C CP AI : Addr) (k : Nat) : Prop := mg "Prices" = some (.ref CP) ∧ ∃ fI, Mk K CP fI ∧ FnR P w K mg base (L2.CX P w) k fI (spPrS C CP AI)
/-- what a call of the class does -/
def PrcE (C CP AI : Addr) (rows : List Row) (cut : Int) (sws : List Swap) (H : Hp) (Q : VK) (E : XK) : Prop := (∀ e, FstF rows cut sws e → e ≠ -2 → RzP AI E H e) ∧ (FstF rows cut sws (-2) → ∀ H' p, Same H H' → H p = none → PrcAt C CP H' p rows cut sws → Q (.ref p) H')
def spPrc (C CP AI : Addr) : Sp := fun vs H Q E => ∃ (b : Addr) (cut : Int) (us : List Addr) (rows : List Row) (sws : List Swap), vs = .ref b :: .int cut :: us.map V.ref ∧ PlAt swV H us sws ∧ BedAt C H b rows ∧ ROk 4 rows ∧ sws.length ≤ 6 ∧ PrcE C CP AI rows cut sws H Q E
theorem pe_prices {X : Cx} {C CP AI : Addr} {k : Nat} {E : L2.St → XK} {e : Expr} {es : List Expr} {t : TA} {p pos : Pos} (D : PricesC X.prog X.w X.K X.mg X.base C CP AI k) (hr : Room (k + 1) X.A) (hx : ∀ σ, PassesAt (L2.CX X.prog X.w) X σ (E σ)) (ha : PA X (e :: es) t) (hg : Gl X "Prices" := by rfl)
    (he : starEach (e :: es) X.env = (false, eval e X.env) :: starEach es X.env := by rfl) (hpl : (backTo pos (starEach es X.env)).any (·.1) = false := by rfl) :
    PE X (.Call (.Name "Prices" p) (e :: es) [] pos) (tCallS (spPrc C CP AI) E t) := by
  obtain ⟨hm, fI, M, F⟩ := D
  refine ⟨fun pins s σ H Q I h => ?_⟩
  refine wpAny_Call_Name_kw (ld_glob I hg hm ?_ (by decide))
  refine PySem.W.callWith_K (h₀ := X.base) I.ok.mod.kin M.kp (thn (ha.run pos pins s σ H _ I h) fun us s1 ⟨vs, H1, I1, r, q⟩ => ⟨I1.kIn, ?_⟩) he hpl
  refine run_makeS M F hr (hx σ) I1 r fun x dx hx hd hxd => ?_
  obtain ⟨b, cut, us, rows, sws, rfl, hS, hB, R, h6, kx, key⟩ := q
  have s1 : Same H1 (upd (upd H1 dx (.own x)) x (.ins CP dx [])) := ((Same.refl H1).upd_new hd).upd_own hx
  refine ⟨[.ref x, .ref b, .int cut], us.map V.ref, rfl, rfl, ?_, fun p hp => ?_⟩
  · rw [List.length_map, hS.1]
    exact le_line (by omega)
  have s2 := s1.upd_new (o := .tup (us.map V.ref)) hp
  have nxp : x ≠ p := ne_of_none (upd_same (H := upd H1 dx (.own x)) (a := x)) hp
  refine ⟨x, dx, b, p, cut, us, rows, sws, rfl, by rw [upd_ne nxp, upd_same], hB.same s2, R, upd_same, hS.keep (fun t ys h => s2 _ _ h), h6, fun e he hn => (kx e he hn).same s2, fun he H' kk y => ⟨rfl, ?_⟩⟩
  exact key he H' x (fun b o hb => kk b o (s2 b o hb) (ne_of_none hb hx)) hx y
def spMkPr (C CP AI : Addr) : Sp := fun vs H Q E => ∃ (b l : Addr) (cut : Int) (rows : List Row) (sws : List Swap), vs = [.ref b, .int cut, .ref l] ∧ SwsAt H l sws ∧ BedAt C H b rows ∧ ROk 4 rows ∧ sws.length ≤ 6 ∧ PrcE C CP AI rows cut sws H Q E
def spMade51 (C CP : Addr) : Sp := fun vs H Q _ => ∃ (b l : Addr) (cut : Int) (rows : List Row) (sws : List Swap), vs = [.ref b, .int cut, .ref l] ∧ SwsAt H l sws ∧ BedAt C H b rows ∧ ROk 4 rows ∧ sws.length ≤ 6 ∧
  ∀ (H' : Hp) (p : Addr), Same H H' → ((∃ e, FstF rows cut sws e ∧ e ≠ -2 ∧ H' p = some (.tup [.bl true, .int e])) ∨ (FstF rows cut sws (-2) ∧ ∃ c, PrcAt C CP H' c rows cut sws ∧ H' p = some (.tup [.non, .ref c]))) → Q (.ref p) H'
abbrev N_law_made_prices : List Str := ["bed", "cutting", "swaps"]
theorem sc_law_made_prices : FnScope N_law_made_prices ["bed", "cutting", "swaps"] (defScope s_law_made_prices) := ⟨rfl, rfl, rfl, by decide +kernel, rfl, by decide +kernel, by decide +kernel⟩
abbrev N_law_made : List Str := ["bed", "cutting", "swaps", "found", "e"]
theorem sc_law_made : FnScope N_law_made ["bed", "cutting", "swaps"] (defScope s_law_made) := ⟨rfl, rfl, rfl, by decide +kernel, rfl, by decide +kernel, by decide +kernel⟩
section
variable {P : Program} {w : World} {K : PySem.W.Frag} {mg : Str → Option Value} {base : Heap} {C CP AI CY : Addr} {A : XA}
theorem ok_mkpr (T : Bp mg) (c_Prices : PricesC P w K mg base C CP AI 4) (D : Def0 K mg "_law_made_prices" s_law_made_prices) : DefOk P w K mg base (L2.CX P w) 6 "_law_made_prices" (spMkPr C CP AI) := by
  refine D.okX sc_law_made_prices (fun vs H Q E h => ?_) (fun _ _ _ _ _ _ us hl => match us, hl with | [_, _, _], _ => rfl) (fun f cdv A' outer s H vs Q E hr h => ?_)
  · obtain ⟨b, l, cut, rows, sws, rfl, _⟩ := h
    rfl
  · obtain ⟨b, l, cut, rows, sws, rfl, ⟨us, hl, hS⟩, hB, R, h6, k⟩ := h
    refine ⟨_, (pss_cons (ps_if (pt_cmpR op_eq (pe_callB call_len_seq (by rfl) T.b_len boot_len (pa_cons (pv 2) pa_nil)) pe_int (nomark _))
        (pss_one (ps_ret (pe_prices c_Prices (hr.mono (by decide)) (fun σ pins H s e s' I c => (passes_call (takes_of rfl rfl rfl rfl) fun _ _ _ _ h => h) pins σ H s e s' I c) (pa_cons (pv 0) (pa_cons (pv 1) pa_nil)))))
        pss_nil)
      (pss_cons (ps_if (pt_cmpR op_eq (pe_callB call_len_seq (by rfl) T.b_len boot_len (pa_cons (pv 2) pa_nil)) pe_int (nomark _))
        (pss_one (ps_ret (pe_prices c_Prices (hr.mono (by decide)) (fun σ pins H s e s' I c => (passes_call (takes_of rfl rfl rfl rfl) fun _ _ _ _ h => h) pins σ H s e s' I c) (pa_cons (pv 0) (pa_cons (pv 1) (pa_cons (pe_ix ix_list (pv 2) pe_int (fun _ _ => rfl)) pa_nil))))))
        pss_nil)
      (pss_cons (ps_if (pt_cmpR op_eq (pe_callB call_len_seq (by rfl) T.b_len boot_len (pa_cons (pv 2) pa_nil)) pe_int (nomark _))
        (pss_one (ps_ret (pe_prices c_Prices (hr.mono (by decide)) (fun σ pins H s e s' I c => (passes_call (takes_of rfl rfl rfl rfl) fun _ _ _ _ h => h) pins σ H s e s' I c) (pa_cons (pv 0) (pa_cons (pv 1) (pa_cons (pe_ix ix_list (pv 2) pe_int (fun _ _ => rfl)) (pa_cons (pe_ix ix_list (pv 2) pe_int (fun _ _ => rfl)) pa_nil)))))))
        pss_nil)
      (pss_cons (ps_if (pt_cmpR op_eq (pe_callB call_len_seq (by rfl) T.b_len boot_len (pa_cons (pv 2) pa_nil)) pe_int (nomark _))
        (pss_one (ps_ret (pe_prices c_Prices (hr.mono (by decide)) (fun σ pins H s e s' I c => (passes_call (takes_of rfl rfl rfl rfl) fun _ _ _ _ h => h) pins σ H s e s' I c) (pa_cons (pv 0) (pa_cons (pv 1) (pa_cons (pe_ix ix_list (pv 2) pe_int (fun _ _ => rfl)) (pa_cons (pe_ix ix_list (pv 2) pe_int (fun _ _ => rfl)) (pa_cons (pe_ix ix_list (pv 2) pe_int (fun _ _ => rfl)) pa_nil))))))))
        pss_nil)
      (pss_cons (ps_if (pt_cmpR op_eq (pe_callB call_len_seq (by rfl) T.b_len boot_len (pa_cons (pv 2) pa_nil)) pe_int (nomark _))
        (pss_one (ps_ret (pe_prices c_Prices (hr.mono (by decide)) (fun σ pins H s e s' I c => (passes_call (takes_of rfl rfl rfl rfl) fun _ _ _ _ h => h) pins σ H s e s' I c) (pa_cons (pv 0) (pa_cons (pv 1) (pa_cons (pe_ix ix_list (pv 2) pe_int (fun _ _ => rfl)) (pa_cons (pe_ix ix_list (pv 2) pe_int (fun _ _ => rfl)) (pa_cons (pe_ix ix_list (pv 2) pe_int (fun _ _ => rfl)) (pa_cons (pe_ix ix_list (pv 2) pe_int (fun _ _ => rfl)) pa_nil)))))))))
        pss_nil)
      (pss_cons (ps_if (pt_cmpR op_eq (pe_callB call_len_seq (by rfl) T.b_len boot_len (pa_cons (pv 2) pa_nil)) pe_int (nomark _))
        (pss_one (ps_ret (pe_prices c_Prices (hr.mono (by decide)) (fun σ pins H s e s' I c => (passes_call (takes_of rfl rfl rfl rfl) fun _ _ _ _ h => h) pins σ H s e s' I c) (pa_cons (pv 0) (pa_cons (pv 1) (pa_cons (pe_ix ix_list (pv 2) pe_int (fun _ _ => rfl)) (pa_cons (pe_ix ix_list (pv 2) pe_int (fun _ _ => rfl)) (pa_cons (pe_ix ix_list (pv 2) pe_int (fun _ _ => rfl)) (pa_cons (pe_ix ix_list (pv 2) pe_int (fun _ _ => rfl)) (pa_cons (pe_ix ix_list (pv 2) pe_int (fun _ _ => rfl)) pa_nil))))))))))
        pss_nil)
      (pss_one (ps_ret (pe_prices c_Prices (hr.mono (by decide)) (fun σ pins H s e s' I c => (passes_call (takes_of rfl rfl rfl rfl) fun _ _ _ _ h => h) pins σ H s e s' I c) (pa_cons (pv 0) (pa_cons (pv 1) (pa_cons (pe_ix ix_list (pv 2) pe_int (fun _ _ => rfl)) (pa_cons (pe_ix ix_list (pv 2) pe_int (fun _ _ => rfl)) (pa_cons (pe_ix ix_list (pv 2) pe_int (fun _ _ => rfl)) (pa_cons (pe_ix ix_list (pv 2) pe_int (fun _ _ => rfl)) (pa_cons (pe_ix ix_list (pv 2) pe_int (fun _ _ => rfl)) (pa_cons (pe_ix ix_list (pv 2) pe_int (fun _ _ => rfl)) pa_nil))))))))))))))))), ?_⟩
    have l6 : us.length ≤ 6 := by rw [hS.1]; exact h6
    match us, l6 with
    | [], _ =>
      refine ⟨_, rfl, l, _, rfl, .inl (SqL.of hl), rfl, _, rfl, ifp (by simp) ?_⟩
      exact ⟨_, rfl, _, rfl, b, cut, [], rows, sws, rfl, hS, hB, R, h6, k⟩
    | [t0], _ =>
      refine ⟨_, rfl, l, _, rfl, .inl (SqL.of hl), rfl, _, rfl, ifn (fun e => by simp at e) ?_⟩
      refine ⟨_, rfl, l, _, rfl, .inl (SqL.of hl), rfl, _, rfl, ifp (by simp) ?_⟩
      exact ⟨_, rfl, _, rfl, _, rfl, l, _, _, _, rfl, rfl, SqL.of hl, atI_nat (j := 0) rfl, b, cut, [t0], rows, sws, rfl, hS, hB, R, h6, k⟩
    | [t0, t1], _ =>
      refine ⟨_, rfl, l, _, rfl, .inl (SqL.of hl), rfl, _, rfl, ifn (fun e => by simp at e) ?_⟩
      refine ⟨_, rfl, l, _, rfl, .inl (SqL.of hl), rfl, _, rfl, ifn (fun e => by simp at e) ?_⟩
      refine ⟨_, rfl, l, _, rfl, .inl (SqL.of hl), rfl, _, rfl, ifp (by simp) ?_⟩
      exact ⟨_, rfl, _, rfl, _, rfl, l, _, _, _, rfl, rfl, SqL.of hl, atI_nat (j := 0) rfl, _, rfl, l, _, _, _, rfl, rfl, SqL.of hl, atI_nat (j := 1) rfl, b, cut, [t0, t1], rows, sws, rfl, hS, hB, R, h6, k⟩
    | [t0, t1, t2], _ =>
      refine ⟨_, rfl, l, _, rfl, .inl (SqL.of hl), rfl, _, rfl, ifn (fun e => by simp at e) ?_⟩
      refine ⟨_, rfl, l, _, rfl, .inl (SqL.of hl), rfl, _, rfl, ifn (fun e => by simp at e) ?_⟩
      refine ⟨_, rfl, l, _, rfl, .inl (SqL.of hl), rfl, _, rfl, ifn (fun e => by simp at e) ?_⟩
      refine ⟨_, rfl, l, _, rfl, .inl (SqL.of hl), rfl, _, rfl, ifp (by simp) ?_⟩
      exact ⟨_, rfl, _, rfl, _, rfl, l, _, _, _, rfl, rfl, SqL.of hl, atI_nat (j := 0) rfl, _, rfl, l, _, _, _, rfl, rfl, SqL.of hl, atI_nat (j := 1) rfl, _, rfl, l, _, _, _, rfl, rfl, SqL.of hl, atI_nat (j := 2) rfl, b, cut, [t0, t1, t2], rows, sws, rfl, hS, hB, R, h6, k⟩
    | [t0, t1, t2, t3], _ =>
      refine ⟨_, rfl, l, _, rfl, .inl (SqL.of hl), rfl, _, rfl, ifn (fun e => by simp at e) ?_⟩
      refine ⟨_, rfl, l, _, rfl, .inl (SqL.of hl), rfl, _, rfl, ifn (fun e => by simp at e) ?_⟩
      refine ⟨_, rfl, l, _, rfl, .inl (SqL.of hl), rfl, _, rfl, ifn (fun e => by simp at e) ?_⟩
      refine ⟨_, rfl, l, _, rfl, .inl (SqL.of hl), rfl, _, rfl, ifn (fun e => by simp at e) ?_⟩
      refine ⟨_, rfl, l, _, rfl, .inl (SqL.of hl), rfl, _, rfl, ifp (by simp) ?_⟩
      exact ⟨_, rfl, _, rfl, _, rfl, l, _, _, _, rfl, rfl, SqL.of hl, atI_nat (j := 0) rfl, _, rfl, l, _, _, _, rfl, rfl, SqL.of hl, atI_nat (j := 1) rfl, _, rfl, l, _, _, _, rfl, rfl, SqL.of hl, atI_nat (j := 2) rfl, _, rfl, l, _, _, _, rfl, rfl, SqL.of hl, atI_nat (j := 3) rfl, b, cut, [t0, t1, t2, t3], rows, sws, rfl, hS, hB, R, h6, k⟩
    | [t0, t1, t2, t3, t4], _ =>
      refine ⟨_, rfl, l, _, rfl, .inl (SqL.of hl), rfl, _, rfl, ifn (fun e => by simp at e) ?_⟩
      refine ⟨_, rfl, l, _, rfl, .inl (SqL.of hl), rfl, _, rfl, ifn (fun e => by simp at e) ?_⟩
      refine ⟨_, rfl, l, _, rfl, .inl (SqL.of hl), rfl, _, rfl, ifn (fun e => by simp at e) ?_⟩
      refine ⟨_, rfl, l, _, rfl, .inl (SqL.of hl), rfl, _, rfl, ifn (fun e => by simp at e) ?_⟩
      refine ⟨_, rfl, l, _, rfl, .inl (SqL.of hl), rfl, _, rfl, ifn (fun e => by simp at e) ?_⟩
      refine ⟨_, rfl, l, _, rfl, .inl (SqL.of hl), rfl, _, rfl, ifp (by simp) ?_⟩
      exact ⟨_, rfl, _, rfl, _, rfl, l, _, _, _, rfl, rfl, SqL.of hl, atI_nat (j := 0) rfl, _, rfl, l, _, _, _, rfl, rfl, SqL.of hl, atI_nat (j := 1) rfl, _, rfl, l, _, _, _, rfl, rfl, SqL.of hl, atI_nat (j := 2) rfl, _, rfl, l, _, _, _, rfl, rfl, SqL.of hl, atI_nat (j := 3) rfl, _, rfl, l, _, _, _, rfl, rfl, SqL.of hl, atI_nat (j := 4) rfl, b, cut, [t0, t1, t2, t3, t4], rows, sws, rfl, hS, hB, R, h6, k⟩
    | [t0, t1, t2, t3, t4, t5], _ =>
      refine ⟨_, rfl, l, _, rfl, .inl (SqL.of hl), rfl, _, rfl, ifn (fun e => by simp at e) ?_⟩
      refine ⟨_, rfl, l, _, rfl, .inl (SqL.of hl), rfl, _, rfl, ifn (fun e => by simp at e) ?_⟩
      refine ⟨_, rfl, l, _, rfl, .inl (SqL.of hl), rfl, _, rfl, ifn (fun e => by simp at e) ?_⟩
      refine ⟨_, rfl, l, _, rfl, .inl (SqL.of hl), rfl, _, rfl, ifn (fun e => by simp at e) ?_⟩
      refine ⟨_, rfl, l, _, rfl, .inl (SqL.of hl), rfl, _, rfl, ifn (fun e => by simp at e) ?_⟩
      refine ⟨_, rfl, l, _, rfl, .inl (SqL.of hl), rfl, _, rfl, ifn (fun e => by simp at e) ?_⟩
      exact ⟨_, rfl, _, rfl, _, rfl, l, _, _, _, rfl, rfl, SqL.of hl, atI_nat (j := 0) rfl, _, rfl, l, _, _, _, rfl, rfl, SqL.of hl, atI_nat (j := 1) rfl, _, rfl, l, _, _, _, rfl, rfl, SqL.of hl, atI_nat (j := 2) rfl, _, rfl, l, _, _, _, rfl, rfl, SqL.of hl, atI_nat (j := 3) rfl, _, rfl, l, _, _, _, rfl, rfl, SqL.of hl, atI_nat (j := 4) rfl, _, rfl, l, _, _, _, rfl, rfl, SqL.of hl, atI_nat (j := 5) rfl, b, cut, [t0, t1, t2, t3, t4, t5], rows, sws, rfl, hS, hB, R, h6, k⟩
    | _ :: _ :: _ :: _ :: _ :: _ :: _ :: _, h => exact absurd h (by simp)
theorem ok_made51 (T : Bp mg) (x : XP P w K mg A AI) (xc : XcP K mg A AI CY) (c_law_made_prices : DefOk P w K mg base (L2.CX P w) 6 "_law_made_prices" (spMkPr C CP AI)) (D : Def0 K mg "_law_made" s_law_made) : DefOk P w K mg base CX0 7 "_law_made" (spMade51 C CP) := by
  refine D.ok sc_law_made (fun vs H Q E h => ?_) (fun _ _ _ _ _ _ us hl => match us, hl with | [_, _, _], _ => rfl) (fun f cdv A' outer s H vs Q E hr h => ?_)
  · obtain ⟨b, l, cut, rows, sws, rfl, _⟩ := h
    rfl
  · obtain ⟨b, l, cut, rows, sws, rfl, hS, hB, R, h6, k⟩ := h
    have n_InvalidPrices : ∀ {X : Cx}, X.mg = mg → Gl X "InvalidPrices" → Names X "InvalidPrices" (.ref AI) := fun e g => ⟨g, by decide, .inl (by rw [e]; exact x.xI.gC)⟩
    have x_InvalidPlant := x.xs.xP.gC
    have x_YardError := xc.y
    have X_InvalidPrices := xc.oI
    refine ⟨_, (pss_cons (ps_try_first (i := 4) rfl rfl sc_law_made.nd rfl rfl (n_InvalidPrices rfl rfl) (fun W pn xe tk po => (pss_one (ps_set (i := 3) sc_law_made.nd rfl (Or.inl rfl) (pe_dS c_law_made_prices (hr.mono (by decide)) (fun _ => passAt tk _) (pa_cons (pv 0) (pa_cons (pv 1) (pa_cons (pv 2) pa_nil))))))) (fun a oe cls d pn hz hf => (pss_one (ps_ret (pe_tup (pa_cons (pe_and (pe_callB (call_isD hz hf) (by rfl) T.b_isinstance (by decide +kernel) (pa_cons (pv 4) (pa_cons (pe_X (by rfl) x_YardError) pa_nil))) (pe_and (pe_callB (call_isD hz hf) (by rfl) T.b_isinstance (by decide +kernel) (pa_cons (pv 4) (pa_cons (pe_bltn (v := .ty "ValueError") (by rfl) T.b_ValueError (by decide +kernel) rfl) pa_nil))) (pe_one (pe_not (pe_callB (call_isD hz hf) (by rfl) T.b_isinstance (by decide +kernel) (pa_cons (pv 4) (pa_cons (pe_X (by rfl) x_InvalidPlant) pa_nil))))))) (pa_cons (pe_xf X_InvalidPrices.xf (X_InvalidPrices.no "place" (by decide +kernel)) hz hf (pv 4)) pa_nil)))))))
      (pss_one (ps_ret (pe_tup (pa_cons pe_non (pa_cons (pv 3) pa_nil)))))), ?_⟩
    refine ⟨_, rfl, _, rfl, _, rfl, b, l, cut, rows, sws, rfl, hS, hB, R, h6, fun e he hn H1 d s1 hd => ⟨X_InvalidPrices.me, fun a ha => ?_⟩, fun he H1 p s1 hp hP => ?_⟩
    · have hd2 : (upd H1 d (.xd (ipF e))) d = some (.xd (ipF e)) := upd_same
      have s2 := s1.upd_new (o := .xd (ipF e)) hd
      generalize upd H1 d (.xd (ipF e)) = H2 at hd2 s2
      refine ⟨_, rfl, _, d, ipF e, _, .ref CY, _, rfl, rfl, rfl, hd2, xc.exI, fun _ h => h, xc.kY, _, rfl, ifp rfl ?_⟩
      refine ⟨_, rfl, _, d, ipF e, .ty "ValueError", .type "ValueError", true, rfl, rfl, rfl, hd2, xc.exI, fun _ h => h, xc.kV, _, rfl, ifp rfl ?_⟩
      refine ⟨_, rfl, _, d, ipF e, _, .ref A.P, _, rfl, rfl, rfl, hd2, xc.exI, fun _ h => h, xc.kP, _, rfl, ?_⟩
      have lp : (ipF e).lookup ("place" : Str) = some (.int e) := by simp [ipF, xfs, List.lookup]
      refine ⟨_, rfl, rfl, rfl, d, _, _, rfl, hd2, lp, le_line (show 2 ≤ 10000000 by decide), fun q hq => ?_⟩
      exact k _ q (s2.upd_new hq) (.inl ⟨e, he, hn, upd_same⟩)
    · refine ⟨_, rfl, le_line (show 2 ≤ 10000000 by decide), fun q hq => ?_⟩
      have s2 := (Same.refl H1).upd_new (o := .tup [.non, .ref p]) hq
      exact k _ q (s1.trans s2) (.inr ⟨he, p, hP.same s2, upd_same⟩)
end
end Sh
end
section
set_option Elab.async false
set_option linter.all false
set_option maxRecDepth 100000
set_option maxHeartbeats 4000000
namespace Sh
open PySem PySem.Spec PyProof.Rows L2
open C8 (pss_cut tCut)
open Evl (ixN_nat)
theorem eqv_rows : ∀ rows : List Row, PyData.eqvAll (rows.map rowD) (rows.map rowD) = true
  | [] => rfl
  | q :: r => by
    rw [List.map_cons, PyData.eqvAll, eqv_rows r, Bool.and_true]
    simp [rowD, PyData.eqv, PyData.eqvAll]
theorem shp_tup {ds : List PyData} (h : SeqAt.shaped (.list ds) = true) : SeqAt.shaped (.tuple ds) = true := by
  unfold SeqAt.shaped at h ⊢
  rw [PyData.canLay0, PyData.depth] at h
  rw [PyData.canLay0, PyData.depth]
  exact h
def spSmB (C : Addr) : Sp := fun vs H Q _ => ∃ (a b : Addr) (rows : List Row), vs = [.ref a, .ref b] ∧ BedAt C H a rows ∧ BedAt C H b rows ∧ ROk 8 rows ∧ Q (.bl true) H
def SmOk (P : Program) (w : World) (K : PySem.W.Frag) (mg : Str → Option Value) (base : Heap) (C : Addr) : Prop := ∃ f, Meth K C "same" f ∧ FnR P w K mg base CX0 1 f (spSmB C)
theorem lk_same (r k w rk : Addr) : (bedF r k w rk).lookup ("same" : Str) = none := by
  have n : ¬ ("same" : Str) = "rows" ∧ ¬ ("same" : Str) = "kinds" ∧ ¬ ("same" : Str) = "widths" ∧ ¬ ("same" : Str) = "ranks" := by decide +kernel
  simp [bedF, List.lookup, n, beq_eq_false_iff_ne.mpr]
def swD (q : Swap) : PyData := .tuple [.str q.1, .str q.2.1, .int q.2.2]
theorem eqv_sws : ∀ sws : List Swap, PyData.eqvAll (sws.map swD) (sws.map swD) = true
  | [] => rfl
  | q :: r => by
    rw [List.map_cons, PyData.eqvAll, eqv_sws r, Bool.and_true]
    simp [swD, PyData.eqv, PyData.eqvAll]
theorem shp_sws {sws : List Swap} (h : TxOk sws) : SeqAt.shaped (.list (sws.map swD)) = true := shp_of fun d hd => by
  obtain ⟨q, hq, rfl⟩ := List.mem_map.mp hd
  simp [swD, (h q hq).1.2, (h q hq).2.2, PyData.canLay0, PyData.canLayAll0, PyData.depth, PyData.depthAll]
theorem dp_sws {K : PySem.W.Frag} {H : Hp} {a : Addr} {us : List Addr} {sws : List Swap} (h : SqT K H a (us.map V.ref)) (x : PlAt swV H us sws) : Dp K H (.ref a) (.tuple (sws.map swD)) :=
  .tup h (dpa_of (by rw [List.length_map]; exact x.1) fun i v q hv hq => by
    obtain ⟨t, ht, rfl⟩ := get_map hv
    exact .tup (SqT.of (x.2 i t q ht hq)) (.cons (.str _) (.cons (.str _) (.cons (.int _) .nil))))
def spTaken51 (C : Addr) : Sp := fun vs H Q _ => ∃ (b ar l : Addr) (cut : Int) (rows : List Row) (sws : List Swap), vs = [.ref b, .ref ar, .int cut, .ref l] ∧ BedAt C H b rows ∧ ROk 4 rows ∧ H ar = some (.dK (wL rows)) ∧ SwsAt H l sws ∧ TxOk sws ∧ sws.length ≤ 6 ∧ ∀ H', Same H H' → Q (.bl true) H'
theorem SwsAt.same {H H' : Hp} {p : Addr} {sws : List Swap} (x : SwsAt H p sws) (s : Same H H') : SwsAt H' p sws := by
  obtain ⟨ts, h1, h2⟩ := x
  exact ⟨ts, s _ _ h1, h2.keep fun _ _ h => s _ _ h⟩
abbrev N_same : List Str := ["self", "other"]
theorem sc_same : FnScope N_same ["self", "other"] (defScope s_same) := ⟨rfl, rfl, rfl, by decide +kernel, rfl, by decide +kernel, by decide +kernel⟩
abbrev N_law_taken : List Str := ["bed", "arity", "cutting", "swaps", "due", "told", "prices"]
theorem sc_law_taken : FnScope N_law_taken ["bed", "arity", "cutting", "swaps"] (defScope s_law_taken) := ⟨rfl, rfl, rfl, by decide +kernel, rfl, by decide +kernel, by decide +kernel⟩
section
variable {P : Program} {w : World} {K : PySem.W.Frag} {mg : Str → Option Value} {base : Heap} {C CP : Addr}
theorem ok_same (B : BedT K C) {f : Addr} {fd : FuncData} (F : FunD K "same" "Bed.same" (defArgs s_same) (defBody s_same) (defScope s_same) [] [] f fd) (M : Meth K C "same" f) : SmOk P w K mg base C := by
  have G : FnOk P w K mg base CX0 1 f fd ["self", "other"] (spSmB C) := F.ok sc_same (fun vs H Q E h => by obtain ⟨a, b, rows, rfl, _⟩ := h; rfl) fun cdv A outer s H vs Q E hr h => by
    obtain ⟨a, b, rows, rfl, hA, hB, R, k⟩ := h
    obtain ⟨dx, r, kk, ww, rk, ts, h1, h2, h3, h4, h5, h6⟩ := hA
    obtain ⟨dx', r', kk', ww', rk', ts', h1', h2', h3', h4', h5', h6'⟩ := hB
    refine ⟨_, (pss_one (ps_ret (pe_cmpR (op_eqD hr.units) (pe_fld (pv 0) rfl) (pe_fld (pv 1) rfl) (nomark _)))), ?_⟩
    refine ⟨_, rfl, a, C, dx, _, _, rfl, h1, B.cl, B.nR, lk_rows _ _ _ _, _, rfl, b, C, dx', _, _, rfl, h1', B.cl, B.nR, lk_rows _ _ _ _, ?_⟩
    have dp : ∀ {r : Addr} {ts : List Addr}, H r = some (.tup (ts.map V.ref)) → TupsAt H ts rows → Dp K H (.ref r) (.tuple (rows.map rowD)) := fun {r ts} h x =>
      .tup (SqT.of h) (dpa_of (by rw [List.length_map]; exact x.1) fun i v q hv hq => by
        obtain ⟨t, ht, rfl⟩ := get_map hv
        exact .tup (SqT.of (x.2 i t q ht hq)) (.cons (.str _) (.cons (.int _) .nil)))
    have so : SeqAt.shaped (.tuple (rows.map rowD)) = true := shp_tup (shp_rows fun q hq => nm_ok (R.nm q hq))
    refine ⟨_, _, dp h2 h3, dp h2' h3', so, so, ?_⟩
    rw [PyData.eqv, eqv_rows]
    exact k
  refine ⟨f, M, fun A' outer s H us vs Q E hr e0 r hs => G.raw (F.bindsN fun _ _ _ _ _ _ us hl => match us, hl with | [_, _], _ => rfl) .nil A' outer s H us vs Q E hr e0 r (by show spSmB C (vs ++ []) H Q E; rw [List.append_nil]; exact hs)⟩
theorem ok_taken51 (T : Bp mg) (B : BedT K C) (BP : PrT K CP) (c_same : SmOk P w K mg base C) (c_law_first_fault : DefOk P w K mg base CX0 1 "_law_first_fault" spFst51) (c_law_made : DefOk P w K mg base CX0 7 "_law_made" (spMade51 C CP)) (c_law_integer : DefOk P w K mg base CX0 1 "_law_integer" spInteger51) (D : Def0 K mg "_law_taken" s_law_taken) : DefOk P w K mg base CX0 8 "_law_taken" (spTaken51 C) := by
  obtain ⟨fM, M_same, F_same⟩ := c_same
  refine D.ok sc_law_taken (fun vs H Q E h => ?_) (fun _ _ _ _ _ _ us hl => match us, hl with | [_, _, _, _], _ => rfl) (fun f cdv A' outer s H vs Q E hr h => ?_)
  · obtain ⟨b, ar, l, cut, rows, sws, rfl, _⟩ := h
    rfl
  · obtain ⟨b, ar, l, cut, rows, sws, rfl, hB, R, har, hS, hT, h6, key⟩ := h
    refine ⟨_, (pss_cons (ps_set (i := 4) sc_law_taken.nd rfl (Or.inl rfl) (pe_d c_law_first_fault (hr.mono (by decide)) pass0 (pa_cons (pv 1) (pa_cons (pv 2) (pa_cons (pv 3) pa_nil)))))
      (pss_cons (ps_set (i := 5) sc_law_taken.nd rfl (Or.inl rfl) (pe_d c_law_made (hr.mono (by decide)) pass0 (pa_cons (pv 0) (pa_cons (pv 2) (pa_cons (pv 3) pa_nil)))))
      (pss_cons (ps_if (pt_cmpR op_gt (pv 4) (pe_un un_neg pe_int) (nomark _))
        (pss_one (ps_ret (pe_and (pe_cmpR op_is_bl (pe_ix ix_tup (pv 5) pe_int (fun _ _ => rfl)) pe_bl (nomark _)) (pe_and (pe_d c_law_integer (hr.mono (by decide)) pass0 (pa_cons (pe_ix ix_tup (pv 5) pe_int (fun _ _ => rfl)) pa_nil)) (pe_one (pe_cmpR op_eq (pe_ix ix_tup (pv 5) pe_int (fun _ _ => rfl)) (pv 4) (nomark _)))))))
        pss_nil)
      (pss_cons (ps_if (pt_cmpR op_notN (pe_ix ix_tup (pv 5) pe_int (fun _ _ => rfl)) pe_non (nomark _))
        (pss_one (ps_ret pe_bl))
        pss_nil)
      (pss_cons (ps_set (i := 6) sc_law_taken.nd rfl (Or.inl rfl) (pe_ix ix_tup (pv 5) pe_int (fun _ _ => rfl)))
      (pss_cons (ps_if (PW.pt (pw_or (pt_not (pt_val (pe_d c_law_integer (hr.mono (by decide)) pass0 (pa_cons (pe_fld (pv 6) rfl) pa_nil)))) (pw_or (pt_cmpR op_ne (pe_fld (pv 6) rfl) (pv 2) (nomark _)) (pw_or1 (pt_not (pt_val (pe_methR (pe_fld (pv 6) rfl) B.cl M_same F_same (hr.mono (by decide)) pass0 (pa_cons (pv 0) pa_nil))))))))
        (pss_one (ps_ret pe_bl))
        pss_nil)
      (pss_one (ps_ret (pe_and (pe_callB call_isi (by rfl) T.b_isinstance (by decide +kernel) (pa_cons (pe_fld (pv 6) rfl) (pa_cons (pe_bltn (v := .ty "tuple") (by rfl) T.b_tuple boot_tuple rfl) pa_nil))) (pe_one (pe_cmpR (op_eqD hr.units) (pe_fld (pv 6) rfl) (pe_callTy call_tuple_of (by rfl) T.b_tuple (by decide +kernel) (pa_cons (pv 3) pa_nil)) (nomark _)))))))))))), ?_⟩
    refine ⟨_, rfl, _, rfl, _, rfl, ar, l, cut, rows, sws, rfl, har, R, hS, hT, h6, fun H1 e s1 F1 => ?_⟩
    refine ⟨_, rfl, _, rfl, _, rfl, b, l, cut, rows, sws, rfl, hS.same s1, hB.same s1, R, h6, fun H2 p s2 alt => ?_⟩
    have s02 := s1.trans s2
    rcases alt with ⟨e2, F2, n2, hp⟩ | ⟨F2, c, hc, hp⟩
    · obtain rfl := F1.uniq F2
      have ge : -1 ≤ e := by
        rcases F1 with ⟨h, _⟩ | ⟨h, _⟩ | ⟨_, _, i, q, h, _⟩ <;> omega
      refine ⟨_, rfl, _, rfl, _, _, rfl, rfl, _, rfl, ifp (decide_eq_true (by show -2 < e; omega)) ?_⟩
      refine ⟨_, rfl, p, _, _, _, rfl, rfl, SqT.of hp, atI_nat (j := 0) rfl, ?_⟩
      refine ⟨true, true, rfl, rfl, _, rfl, ifp (by decide) ?_⟩
      refine ⟨_, rfl, p, _, _, _, rfl, rfl, SqT.of hp, atI_nat (j := 1) rfl, e, rfl, _, rfl, ifp rfl ?_⟩
      refine ⟨_, rfl, p, _, _, _, rfl, rfl, SqT.of hp, atI_nat (j := 1) rfl, _, rfl, rfl, ?_⟩
      have := key H2 s02
      simpa using this
    · obtain rfl := F1.uniq F2
      refine ⟨_, rfl, _, rfl, _, _, rfl, rfl, _, rfl, ifn (by decide) ?_⟩
      refine ⟨_, rfl, p, _, _, _, rfl, rfl, SqT.of hp, atI_nat (j := 0) rfl, rfl, _, rfl, ifn (by decide) ?_⟩
      refine ⟨_, rfl, p, _, _, _, rfl, rfl, SqT.of hp, atI_nat (j := 1) rfl, ?_⟩
      obtain ⟨dx, b2, q, d, us, ds, c1, c2, c3, c4, c5⟩ := hc
      refine ⟨_, rfl, c, CP, dx, _, _, rfl, c1, BP.cl, BP.nC, pr_cut _ _ _ _, cut, rfl, _, rfl, ifn (by decide) ?_⟩
      refine ⟨_, rfl, c, CP, dx, _, _, rfl, c1, BP.cl, BP.nC, pr_cut _ _ _ _, _, rfl, rfl, _, rfl, ifn (by simp) ?_⟩
      refine ⟨_, rfl, c, CP, dx, _, _, rfl, c1, BP.cl, BP.nB, pr_bed _ _ _ _, ?_⟩
      obtain ⟨bx, r, kk, ww, rk, ts, b1, b2', b3, b4, b5, b6⟩ := c2
      refine ⟨b2, bx, _, rfl, b1, lk_same _ _ _ _, _, rfl, b2, b, rows, rfl, ⟨bx, r, kk, ww, rk, ts, b1, b2', b3, b4, b5, b6⟩, hB.same s02, R.up, _, rfl, ifn (by decide) ?_⟩
      refine ⟨_, rfl, c, CP, dx, _, _, rfl, c1, BP.cl, BP.nS, pr_sws _ _ _ _, _, _, _, _, true, rfl, .ty _, .base (.tup c3), rfl, _, rfl, ifp rfl ?_⟩
      refine ⟨_, rfl, c, CP, dx, _, _, rfl, c1, BP.cl, BP.nS, pr_sws _ _ _ _, ?_⟩
      obtain ⟨vs, v1, v2⟩ := hS.same s02
      refine ⟨_, rfl, l, _, rfl, .inl ⟨SqL.of v1, fun m hm => ?_⟩⟩
      have s3 := (Same.refl H2).upd_new (o := .tup (vs.map V.ref)) hm
      have m3 : (upd H2 m (.tup (vs.map V.ref))) m = some (.tup (vs.map V.ref)) := upd_same
      generalize upd H2 m (.tup (vs.map V.ref)) = H3 at s3 m3
      have so := shp_tup (shp_sws hT)
      refine ⟨_, _, dp_sws (SqT.of (s3 _ _ c3)) (c4.keep fun _ _ h => s3 _ _ h), dp_sws (SqT.of m3) (v2.keep fun _ _ h => s3 _ _ h), so, so, ?_⟩
      rw [PyData.eqv, eqv_sws]
      exact key H3 (s02.trans s3)
end
end Sh
end
section
set_option Elab.async false
set_option linter.all false
set_option maxRecDepth 100000
set_option maxHeartbeats 4000000
namespace Pr
open PySem
abbrev O := Option Int
def oadd : O → O → O
  | some a, some b => some (a + b)
  | _, _ => none
theorem oadd_zero (x : O) : oadd (some 0) x = x := by cases x <;> simp [oadd]
theorem oadd_z (x : O) : oadd x (some 0) = x := by cases x <;> simp [oadd]
theorem oadd_none (x : O) : oadd x none = none := by cases x <;> rfl
theorem oadd_assoc (x y z : O) : oadd (oadd x y) z = oadd x (oadd y z) := by
  cases x <;> cases y <;> cases z <;> simp [oadd, Int.add_assoc]
/-- the price of a knot that stands -/
def fin (cut : Int) (k : Nat) (c : Int) : Int := if k = 0 then min c cut else c
section
variable {α : Type} (w : α → Nat) (sw : α → α → O) (cut : Int)
/-- n trees of the one row against n trees of the other -/
def wk : List α → List α → Nat → O
  | _, _, 0 => some 0
  | z :: r, y :: o, n + 1 => match sw z y with
    | some c => oadd (some (fin cut (w y) c)) (wk r o (w y + n))
    | none => if w y = 0 then oadd (some cut) (wk (Mth.skip w (z :: r) 1) o n) else none
  | [], _, _ + 1 => none
  | _ :: _, [], _ + 1 => none
theorem wk_zero (l o : List α) : wk w sw cut l o 0 = some 0 := by cases l <;> cases o <;> rfl
theorem wk_some {z y : α} {c : Int} (h : sw z y = some c) (r o : List α) (n : Nat) : wk w sw cut (z :: r) (y :: o) (n + 1) = oadd (some (fin cut (w y) c)) (wk w sw cut r o (w y + n)) := by
  rw [wk, h]
theorem wk_cut {z y : α} (h : sw z y = none) (h0 : w y = 0) (r o : List α) (n : Nat) : wk w sw cut (z :: r) (y :: o) (n + 1) = oadd (some cut) (wk w sw cut (Mth.skip w (z :: r) 1) o n) := by
  rw [wk, h]
  exact if_pos h0
theorem wk_none {z y : α} (h : sw z y = none) (h0 : w y ≠ 0) (r o : List α) (n : Nat) : wk w sw cut (z :: r) (y :: o) (n + 1) = none := by
  rw [wk, h]
  exact if_neg h0
theorem skip_cons (z : α) (r : List α) (n : Nat) : Mth.skip w (z :: r) (n + 1) = Mth.skip w r (w z + n) := rfl
theorem forest_cons {z : α} {r : List α} {n : Nat} (h : Mth.forest w (z :: r) (n + 1) = true) : Mth.forest w r (w z + n) = true := h
/-- tree by tree -/
theorem wk_add (hw : ∀ z y c, sw z y = some c → w z = w y) : ∀ (o l : List α) (a b d d' : Nat), Mth.forest w l (a + b + d) = true → Mth.forest w o (a + b + d') = true → wk w sw cut l o (a + b) = oadd (wk w sw cut l o a) (wk w sw cut (Mth.skip w l a) (Mth.skip w o a) b)
  | o, l, 0, b, d, d', hl, ho => by rw [wk_zero, oadd_zero, Nat.zero_add, Mth.skip_zero, Mth.skip_zero]
  | [], l, a + 1, b, d, d', hl, ho => by
    have := Mth.forest_nil w ho
    omega
  | y :: o, [], a + 1, b, d, d', hl, ho => by
    have := Mth.forest_nil w hl
    omega
  | y :: o, z :: r, a + 1, b, d, d', hl, ho => by
    have e : a + 1 + b = (a + b) + 1 := by omega
    have e1 : ∀ d, a + 1 + b + d = (a + b + d) + 1 := fun d => by omega
    rw [e1] at hl ho
    rw [e]
    have ho2 := forest_cons w ho
    cases h : sw z y with
    | some c =>
      have ew := hw z y c h
      have hl2 := forest_cons w hl
      rw [ew] at hl2
      rw [← Nat.add_assoc, ← Nat.add_assoc] at hl2 ho2
      rw [wk_some w sw cut h, wk_some w sw cut h, ← Nat.add_assoc, wk_add hw o r (w y + a) b d d' hl2 ho2, oadd_assoc, skip_cons, skip_cons, ew]
    | none =>
      by_cases h0 : w y = 0
      · have hl2 : Mth.forest w (Mth.skip w (z :: r) 1) (a + b + d) = true := Mth.forest_skip w (z :: r) 1 (a + b + d) (by rw [Nat.add_comm 1]; exact hl)
        rw [h0, Nat.zero_add] at ho2
        rw [wk_cut w sw cut h h0, wk_cut w sw cut h h0, wk_add hw o _ a b d d' hl2 ho2, oadd_assoc, skip_cons w y, h0, Nat.zero_add, ← Mth.skip_add, Nat.add_comm 1 a]
      · rw [wk_none w sw cut h h0, wk_none w sw cut h h0]
        rfl
/-- the price of the tree at p against the tree at q -/
def pq (l o : List α) (p q : Nat) : O := wk w sw cut (l.drop p) (o.drop q) 1
/-- branches' prices, one after the other -/
def sumO (f : Nat → O) : Nat → O
  | 0 => some 0
  | n + 1 => oadd (sumO f n) (f n)
theorem wk_sum (hw : ∀ z y c, sw z y = some c → w z = w y) {l o : List α} {p q m m' : Nat} (hl : Mth.Fst w l p m) (ho : Mth.Fst w o q m') : ∀ n, n ≤ m → n ≤ m' → wk w sw cut (l.drop p) (o.drop q) n = sumO (fun j => pq w sw cut l o (Mth.nxs w l p j) (Mth.nxs w o q j)) n
  | 0, _, _ => by rw [wk_zero]; rfl
  | n + 1, h, h' => by
    rw [wk_add w sw cut hw _ _ n 1 (m - n - 1) (m' - n - 1) (by rw [show n + 1 + (m - n - 1) = m by omega]; exact hl.2) (by rw [show n + 1 + (m' - n - 1) = m' by omega]; exact ho.2), wk_sum hw hl ho n (by omega) (by omega)]
    show _ = oadd (sumO _ n) (pq w sw cut l o (Mth.nxs w l p n) (Mth.nxs w o q n))
    congr 1
    show _ = wk w sw cut (l.drop (Mth.nxs w l p n)) (o.drop (Mth.nxs w o q n)) 1
    rw [Mth.drop_nxs, Mth.drop_nxs]
section
variable {l o : List α} {p q : Nat} {z y : α}
theorem drop_at (h : l[p]? = some z) : l.drop p = z :: l.drop (p + 1) := by
  obtain ⟨hp, e⟩ := List.getElem?_eq_some_iff.mp h
  rw [List.drop_eq_getElem_cons hp, e]
theorem pq_some (hw : ∀ z y c, sw z y = some c → w z = w y) {c : Int} {m m' : Nat} (hz : l[p]? = some z) (hy : o[q]? = some y) (h : sw z y = some c) (hl : Mth.Fst w l p (m + 1)) (ho : Mth.Fst w o q (m' + 1)) :
    pq w sw cut l o p q = oadd (some (fin cut (w y) c)) (sumO (fun j => pq w sw cut l o (Mth.nxs w l (p + 1) j) (Mth.nxs w o (q + 1) j)) (w y)) := by
  have l1 := hl.in w hz
  have o1 := ho.in w hy
  rw [hw z y c h] at l1
  have := wk_sum w sw cut hw l1 o1 (w y) (Nat.le_add_right _ _) (Nat.le_add_right _ _)
  rw [← this]
  unfold pq
  rw [drop_at hz, drop_at hy, wk_some w sw cut h]
  rfl
theorem pq_cut (hz : l[p]? = some z) (hy : o[q]? = some y) (h : sw z y = none) (h0 : w y = 0) : pq w sw cut l o p q = some cut := by
  unfold pq
  rw [drop_at hz, drop_at hy, wk_cut w sw cut h h0, wk_zero, oadd_z]
theorem pq_none (hz : l[p]? = some z) (hy : o[q]? = some y) (h : sw z y = none) (h0 : w y ≠ 0) : pq w sw cut l o p q = none := by
  unfold pq
  rw [drop_at hz, drop_at hy, wk_none w sw cut h h0]
/-- the size of the tree at p -/
def size (l : List α) (p : Nat) : Nat := Mth.nxs w l p 1 - p
theorem size_pos (h : p < l.length) : 1 ≤ size w l p := by
  have : p < Mth.nxs w l p 1 := Mth.nxs_gt w (l := l) 0 h
  unfold size
  omega
/-- the branches that face each other -/
def chs (l o : List α) (p q n : Nat) : List (Nat × Nat) := (List.range n).map fun j => (Mth.nxs w l (p + 1) j, Mth.nxs w o (q + 1) j)
theorem chs_succ (n : Nat) : chs w l o p q (n + 1) = chs w l o p q n ++ [(Mth.nxs w l (p + 1) n, Mth.nxs w o (q + 1) n)] := by
  unfold chs
  rw [List.range_succ, List.map_append]
  rfl
def sizes (l : List α) (ps : List (Nat × Nat)) : Nat := (ps.map fun s => size w l s.1).sum
theorem sizes_app (a b : List (Nat × Nat)) : sizes w l (a ++ b) = sizes w l a + sizes w l b := by
  unfold sizes
  rw [List.map_append, List.sum_append]
theorem sizes_chs (h : Mth.forest w l 1 = true) (hz : l[p]? = some z) : ∀ n, n ≤ w z → sizes w l (chs w l o p q n) + (p + 1) = Mth.nxs w l (p + 1) n
  | 0, _ => by
    have hp := (List.getElem?_eq_some_iff.mp hz).1
    rw [Mth.nxs_zero w (by omega)]
    show 0 + (p + 1) = p + 1
    omega
  | n + 1, hn => by
    have ih := sizes_chs h hz n (by omega)
    obtain ⟨e1, e2, e3⟩ := Mth.end_step w h hz (t := n) (by omega)
    have e4 : Mth.nxs w l (p + 1) n < Mth.nxs w l (p + 1) (n + 1) := by
      rw [← e3]
      exact Mth.nxs_gt w 0 e1
    rw [chs_succ, sizes_app]
    have : sizes w l [(Mth.nxs w l (p + 1) n, Mth.nxs w o (q + 1) n)] = Mth.nxs w l (p + 1) (n + 1) - Mth.nxs w l (p + 1) n := by
      show Mth.nxs w l (Mth.nxs w l (p + 1) n) 1 - _ + 0 = _
      rw [e3]
      rfl
    rw [this]
    omega
theorem sizes_all (h : Mth.forest w l 1 = true) (hz : l[p]? = some z) : sizes w l (chs w l o p q (w z)) + 1 = size w l p := by
  have a := sizes_chs w (o := o) (q := q) h hz (w z) (Nat.le_refl _)
  rw [Mth.end_last w hz] at a
  unfold size
  omega
end
end
end Pr
end
section
set_option Elab.async false
set_option linter.all false
set_option maxRecDepth 100000
set_option maxHeartbeats 4000000
namespace Sh
open PySem PySem.Spec PyProof.Rows L2
open C8 (pss_cut tCut)
open Evl (ixN_nat)
/-- a row of kinds -/
def KsOk (rows : List Row) (m : Nat) (l : List Str) : Prop := 1 ≤ l.length ∧ l.length ≤ m ∧ ∀ z ∈ l, HasN rows z
def spPlant51 : Sp := fun vs H Q _ => ∃ (x r : Addr) (m : Nat) (rows : List Row), vs = [.ref x, .ref r, .int (m : Nat)] ∧ BxAt H x ∧ RowsAt H r rows ∧ ROk 4 rows ∧ 1 ≤ m ∧ m ≤ 9 ∧ ∀ (H' : Hp) (p : Addr) (l : List Str), Kp x H H' → BxAt H' x → Tq H' p (sV l) → KsOk rows m l → Q (.ref p) H'
theorem BxAt.nrows {H : Hp} {x r : Addr} {rows : List Row} (b : BxAt H x) (h : RowsAt H r rows) : r ≠ x := by
  obtain ⟨ts, h, _⟩ := h
  exact b.nref h
theorem RowsAt.kp {H H' : Hp} {x r : Addr} {rows : List Row} (h : RowsAt H r rows) (b : BxAt H x) (k : Kp x H H') : RowsAt H' r rows := by
  have n := b.nrows h
  obtain ⟨ts, h1, h2⟩ := h
  exact ⟨ts, k _ _ h1 n, h2.keep (b.tk k)⟩
theorem tqk {H H' : Hp} {x t : Addr} {xs : List V} (h : Tq H t xs) (b : BxAt H x) (k : Kp x H H') : Tq H' t xs := by
  obtain ⟨za, zb, hz⟩ := b
  rcases h with h | ⟨o, h⟩
  · exact .inl (k _ _ h (ne_of h hz (fun e => nomatch e)))
  · exact .inr ⟨o, k _ _ h (ne_of h hz (fun e => nomatch e))⟩
/-- one of the rows, drawn -/
theorem RowsAt.pick {H : Hp} {r : Addr} {rows : List Row} (h : RowsAt H r rows) (d : Int) (h0 : 0 ≤ d) (h1 : d < (rows.length : Nat)) : ∃ (ts : List Addr) (t : Addr) (q : Row), H r = some (.lst (ts.map V.ref)) ∧ atI (ts.map V.ref) d = some (V.ref t) ∧ H t = some (.tup [.str q.1, .int q.2]) ∧ q ∈ rows := by
  obtain ⟨ts, h2, h3⟩ := h
  have hd : d.toNat < rows.length := by omega
  have ht : d.toNat < ts.length := by rw [h3.1]; exact hd
  exact ⟨ts, ts[d.toNat], rows[d.toNat], h2, at_ofG (j := d.toNat) (by omega) (by rw [List.getElem?_map, List.getElem?_eq_getElem ht]; rfl), h3.2 d.toNat _ _ (List.getElem?_eq_getElem ht) (List.getElem?_eq_getElem hd), List.getElem_mem hd⟩
theorem RowsAt.len {K : PySem.W.Frag} {H : Hp} {r : Addr} {rows : List Row} (h : RowsAt H r rows) : ∃ xs, SqL K H r xs ∧ xs.length = rows.length := by
  obtain ⟨ts, h2, h3⟩ := h
  exact ⟨_, SqL.of h2, by rw [List.length_map, h3.1]⟩
theorem TupsAt.nil {H : Hp} : TupsAt H [] [] := ⟨rfl, fun i t q a => by simp at a⟩
theorem RowsAt.sub {H H' : Hp} {r : Addr} {rows : List Row} (h : RowsAt H r rows) (s : Same H H') : RowsAt H' r rows := by
  obtain ⟨ts, h1, h2⟩ := h
  exact ⟨ts, s _ _ h1, h2.keep (TK.of_same s)⟩
theorem RowsAt.updl {H : Hp} {r l : Addr} {rows : List Row} {ys zs : List V} (h : RowsAt H r rows) (n : r ≠ l) (hl : H l = some (.lst ys)) : RowsAt (upd H l (.lst zs)) r rows := by
  obtain ⟨ts, h1, h2⟩ := h
  exact ⟨ts, by rw [upd_ne n]; exact h1, h2.keep (TK.lst hl)⟩
/-- one step of [q for q in rows if P q] -/
def FilAt (H H' : Hp) (D : Addr) (rows : List Row) : Prop := Same H H' ∧ ∃ fs : List Addr, H' D = some (.lst (fs.map V.ref)) ∧ TupsAt H' fs rows
theorem FilAt.start {H : Hp} {D : Addr} (h : H D = none) : FilAt H (upd H D (.lst [])) D [] := ⟨(Same.refl H).upd_new h, [], upd_same, .nil⟩
theorem FilAt.yes {H H1 : Hp} {D t : Addr} {rows : List Row} {P : Row → Bool} {i : Nat} {q : Row} (hD : H D = none) (x : FilAt H H1 D ((rows.take i).filter P)) (hq : rows[i]? = some q) (ht : H1 t = some (.tup [.str q.1, .int q.2])) (hP : P q = true) :
    ∃ fs : List Addr, H1 D = some (.lst (fs.map V.ref)) ∧ fs.length ≤ i ∧ FilAt H (upd H1 D (.lst (fs.map V.ref ++ [.ref t]))) D ((rows.take (i + 1)).filter P) := by
  obtain ⟨s1, fs, d1, f1⟩ := x
  have tk : TK H1 (upd H1 D (.lst (fs.map V.ref ++ [.ref t]))) := fun u ys h => by
    rw [upd_ne (fun e => by rw [e, d1] at h; cases h)]
    exact h
  refine ⟨fs, d1, ?_, s1.upd_own hD, fs ++ [t], by rw [upd_same, List.map_append]; rfl, ?_⟩
  · rw [f1.1]
    refine Nat.le_trans (List.length_filter_le _ _) ?_
    rw [List.length_take]
    omega
  · rw [← take_snoc hq, List.filter_append, List.filter_cons_of_pos hP]
    exact (f1.keep tk).snoc (tk _ _ ht)
theorem FilAt.no {H H1 : Hp} {D : Addr} {rows : List Row} {P : Row → Bool} {i : Nat} {q : Row} (x : FilAt H H1 D ((rows.take i).filter P)) (hq : rows[i]? = some q) (hP : ¬ P q = true) : FilAt H H1 D ((rows.take (i + 1)).filter P) := by
  rw [← take_snoc hq, List.filter_append, List.filter_cons_of_neg hP, List.filter_nil, List.append_nil]
  exact x
def p0 (q : Row) : Bool := decide (q.2 = 0)
def p1 (q : Row) : Bool := decide (0 < q.2)
abbrev N_law_plant : List Str := ["box", "kinds", "room", "tips", "inner", "row", "gap", "turn", "pair"]
theorem sc_law_plant : FnScope N_law_plant ["box", "kinds", "room"] (defScope s_law_plant) := ⟨rfl, rfl, rfl, by decide +kernel, rfl, by decide +kernel, by decide +kernel⟩
section
variable {P : Program} {w : World} {K : PySem.W.Frag} {mg : Str → Option Value} {base : Heap}
theorem ok_plant51 (T : Bl mg) (c_law_pick : DefOk P w K mg base CX0 1 "_law_pick" spPick51) (D : Def0 K mg "_law_plant" s_law_plant) : DefOk P w K mg base CX0 2 "_law_plant" spPlant51 := by
  refine D.ok sc_law_plant (fun vs H Q E h => ?_) (fun _ _ _ _ _ _ us hl => match us, hl with | [_, _, _], _ => rfl) (fun f cdv A outer s' H vs Q E hr h => ?_)
  · obtain ⟨x, r, m, rows, rfl, _⟩ := h
    rfl
  · obtain ⟨x, r, m, rows, rfl, hx, hR, R, m1, m9, key⟩ := h
    have r1 := R.pos
    have r4 := R.len
    obtain ⟨ts, hr1, hT⟩ := hR
    have lt : (ts.map V.ref).length = rows.length := by rw [List.length_map, hT.1]
    refine ⟨_, (pss_cons (ps_setLc (i := 3) (own := [("pair", 8)]) (g := (gName 8)) rfl sc_law_plant.nd rfl rfl (sw_true rfl rfl rfl (by decide +kernel)) (pi_list (pv 1)) (blkOk_by (N := N_law_plant) (sc := defScope s_law_plant) (by decide +kernel)) (fun _ _ _ _ _ => (pg_name (i := 8) sc_law_plant.nd rfl (Or.inl rfl))) (fun _ _ _ _ _ => (pts_one (pt_cmpR op_eq (pe_ix (show IxR _ (rIxT K) from ix_tup) (pv 8) pe_int (fun _ _ => rfl)) pe_int (nomark _)))) (fun _ _ _ _ _ => (pv 8)))
      (pss_cons (ps_setLc (i := 4) (own := [("pair", 8)]) (g := (gName 8)) rfl sc_law_plant.nd rfl rfl (sw_true rfl rfl rfl (by decide +kernel)) (pi_list (pv 1)) (blkOk_by (N := N_law_plant) (sc := defScope s_law_plant) (by decide +kernel)) (fun _ _ _ _ _ => (pg_name (i := 8) sc_law_plant.nd rfl (Or.inl rfl))) (fun _ _ _ _ _ => (pts_one (pt_cmpR op_gt (pe_ix (show IxR _ (rIxT K) from ix_tup) (pv 8) pe_int (fun _ _ => rfl)) pe_int (nomark _)))) (fun _ _ _ _ _ => (pv 8)))
      (pss_cons (ps_set (i := 5) sc_law_plant.nd rfl (Or.inl rfl) (pe_lst pa_nil))
      (pss_cons (ps_set (i := 6) sc_law_plant.nd rfl (Or.inl rfl) pe_int)
      (pss_cons (ps_for PassesOwn.never rfl (pi_range1 (by rfl) T.b_range (pa_cons (pv 2) pa_nil)) (pg_name (i := 7) sc_law_plant.nd rfl (Or.inl rfl))
        (pss_cons (ps_if (pt_cmpR op_eq (pv 6) pe_int (nomark _))
          (pss_one ps_break)
          pss_nil)
        (pss_cons (ps_set (i := 6) sc_law_plant.nd rfl (Or.inl rfl) (pe_op op_sub (pv 6) pe_int))
        (pss_cons (ps_set (i := 8) sc_law_plant.nd rfl (Or.inl rfl) (pe_ix ix_list (pv 1) (pe_d c_law_pick (hr.mono (by decide)) pass0 (pa_cons (pv 0) (pa_cons (pe_callB call_len_seq (by rfl) T.b_len boot_len (pa_cons (pv 1) pa_nil)) pa_nil))) (fun _ _ => rfl)))
        (pss_cut (ps_if (PW.pt (pw_and (pt_cmpR op_lt (pv 7) pe_int (nomark _)) (pw_and1 (pt_cmpR op_gt (pe_callB call_len_seq (by rfl) T.b_len boot_len (pa_cons (pv 4) pa_nil)) pe_int (nomark _)))))
          (pss_one (ps_set (i := 8) sc_law_plant.nd rfl (Or.inl rfl) (pe_ix ix_list (pv 4) (pe_d c_law_pick (hr.mono (by decide)) pass0 (pa_cons (pv 0) (pa_cons (pe_callB call_len_seq (by rfl) T.b_len boot_len (pa_cons (pv 4) pa_nil)) pa_nil))) (fun _ _ => rfl))))
          pss_nil)
        (pss_cut (ps_if (PW.pt (pw_and (pt_cmpR op_gt (pe_ix ix_tup (pv 8) pe_int (fun _ _ => rfl)) pe_int (nomark _)) (pw_and1 (pt_cmpR op_gt (pe_op op_add (pe_op op_add (pe_op op_add (pe_callB call_len_seq (by rfl) T.b_len boot_len (pa_cons (pv 5) pa_nil)) pe_int) (pv 6)) (pe_ix ix_tup (pv 8) pe_int (fun _ _ => rfl))) (pv 2) (nomark _)))))
          (pss_one (ps_set (i := 8) sc_law_plant.nd rfl (Or.inl rfl) (pe_ix ix_list (pv 3) (pe_d c_law_pick (hr.mono (by decide)) pass0 (pa_cons (pv 0) (pa_cons (pe_callB call_len_seq (by rfl) T.b_len boot_len (pa_cons (pv 3) pa_nil)) pa_nil))) (fun _ _ => rfl))))
          pss_nil)
        (pss_cons (ps_expr (pe_bm PySem.F.plainAttrs_list PySem.F.slot_list_append PySem.F.type_list_append mt_append (pv 5) (pa_cons (pe_ix ix_tup (pv 8) pe_int (fun _ _ => rfl)) pa_nil)))
        (pss_one (ps_set (i := 6) sc_law_plant.nd rfl (Or.inl rfl) (pe_op op_add (pv 6) (pe_ix ix_tup (pv 8) pe_int (fun _ _ => rfl))))))))))))
      (pss_one (ps_ret (pe_callTy call_tuple_of (by rfl) T.b_tuple (by decide +kernel) (pa_cons (pv 5) pa_nil))))))))), ?_⟩
    refine ⟨_, rfl, r, rfl, ⟨_, SqL.of hr1⟩, fun D1 hD1 => lc_it (walk_list (xs := ts.map V.ref)) (fun i H' => FilAt H H' D1 ((rows.take i).filter p0)) (.start hD1) (fun i H' _ ⟨q, _⟩ => SqL.of (q _ _ hr1)) ?_ ?_⟩
    · rintro i v H1' H1 hi a1 ⟨rfl, hv⟩
      obtain ⟨t, ht, rfl⟩ := get_map hv
      have hir : i < rows.length := by rw [← lt]; exact hi
      have hq := List.getElem?_eq_getElem hir
      have h1 := a1.1 _ _ (hT.2 i t rows[i] ht hq)
      refine ⟨rfl, _, rfl, t, _, _, _, rfl, rfl, SqT.of h1, atI_nat (j := 1) rfl, rfl, _, rfl, ite2 (fun c => ?_) (fun c => a1.no hq fun h => c ?_)⟩
      · have := of_decide_eq_true c
        obtain ⟨fs, g1, g2, g3⟩ := a1.yes hD1 hq h1 (decide_eq_true (by injection this))
        exact ⟨_, rfl, _, g1, by rw [List.length_map]; exact lt_line (by omega), g3⟩
      · exact decide_eq_true (by rw [show (rows[i]).2 = 0 from of_decide_eq_true h])
    rintro H1 a1
    rw [lt, List.take_length] at a1
    have s1 := a1.1
    refine ⟨_, rfl, r, rfl, ⟨_, SqL.of (s1 _ _ hr1)⟩, fun D2 hD2 => lc_it (walk_list (xs := ts.map V.ref)) (fun i H' => FilAt H1 H' D2 ((rows.take i).filter p1)) (.start hD2) (fun i H' _ ⟨q, _⟩ => SqL.of (q _ _ (s1 _ _ hr1))) ?_ ?_⟩
    · rintro i v H2' H2 hi a2 ⟨rfl, hv⟩
      obtain ⟨t, ht, rfl⟩ := get_map hv
      have hir : i < rows.length := by rw [← lt]; exact hi
      have hq := List.getElem?_eq_getElem hir
      have h1 := a2.1 _ _ (s1 _ _ (hT.2 i t rows[i] ht hq))
      refine ⟨rfl, _, rfl, t, _, _, _, rfl, rfl, SqT.of h1, atI_nat (j := 1) rfl, _, _, rfl, rfl, _, rfl, ite2 (fun c => ?_) (fun c => a2.no hq fun h => c h)⟩
      obtain ⟨fs, g1, g2, g3⟩ := a2.yes hD2 hq h1 c
      exact ⟨_, rfl, _, g1, by rw [List.length_map]; exact lt_line (by omega), g3⟩
    rintro H2 a2
    rw [lt, List.take_length] at a2
    have s2 := s1.trans a2.1
    have tipsAt : RowsAt H2 D1 (rows.filter p0) := by
      obtain ⟨_, fs, h1, h2⟩ := a1
      exact ⟨fs, a2.1 _ _ h1, h2.keep (TK.of_same a2.1)⟩
    have innAt : RowsAt H2 D2 (rows.filter p1) := a2.2
    have kinAt : RowsAt H2 r rows := ⟨ts, s2 _ _ hr1, hT.keep (TK.of_same s2)⟩
    have tpos : 1 ≤ (rows.filter p0).length := by
      obtain ⟨q, h1, h2⟩ := R.leaf
      have : q ∈ rows.filter p0 := List.mem_filter.mpr ⟨h1, decide_eq_true h2⟩
      exact List.length_pos_of_mem this
    have sub : ∀ {P : Row → Bool} {q : Row}, q ∈ rows.filter P → q ∈ rows := fun h => (List.mem_filter.mp h).1
    have b2 := hx.same s2
    refine ⟨le_line (show 0 ≤ 10000000 by decide), fun l hl => ?_⟩
    have hlx := b2.ne hl
    have s23 := (Same.refl H2).upd_new (o := .lst []) hl
    have l3 : (upd H2 l (.lst [])) l = some (.lst (([] : List Str).map V.str)) := upd_same
    have hl0 : H l = none := by
      cases e : H l with
      | none => rfl
      | some o => rw [s2 _ _ e] at hl; cases hl
    have nD1l : D1 ≠ l := fun e => by
      obtain ⟨fs, h, _⟩ := tipsAt
      rw [e, hl] at h
      cases h
    have nD2l : D2 ≠ l := fun e => by
      obtain ⟨fs, h, _⟩ := innAt
      rw [e, hl] at h
      cases h
    have nrl : r ≠ l := fun e => by
      rw [e, hl0] at hr1
      cases hr1
    generalize upd H2 l (.lst []) = H3 at s23 l3
    refine ⟨_, rfl, _, rfl, by omega, by omega, ?_⟩
    rw [Int.toNat_natCast]
    have b3 := b2.same s23
    have k3 : Kp x H H3 := Kp.same (s2.trans s23)
    refine for_range (n := m) (fun i σ H' => ∃ (g : Int) (x7 x8 : Option V) (ws : List Str), σ = [some (.ref x), some (.ref r), some (.int (m : Nat)), some (.ref D1), some (.ref D2), some (.ref l), some (.int g), x7, x8] ∧ Kp x H H' ∧ BxAt H' x ∧ H' l = some (.lst (ws.map V.str)) ∧ RowsAt H' D1 (rows.filter p0) ∧ RowsAt H' D2 (rows.filter p1) ∧ RowsAt H' r rows ∧ ws.length = i ∧ (∀ z ∈ ws, HasN rows z) ∧ (i = 0 → g = 1))
      ⟨1, none, none, [], rfl, k3, b3, l3, tipsAt.sub s23, innAt.sub s23, kinAt.sub s23, rfl, (fun z h => nomatch h), fun _ => rfl⟩ ?_ ?_
    · rintro i σ H4 hi ⟨g, x7, x8, ws, rfl, k4, b4, l4, t4, n4, r4, wl, wk, g1⟩
      have e0 : (0 : Int) + (i : Nat) = ((i : Nat) : Int) := by omega
      rw [e0]
      refine ⟨_, rfl, rfl, _, rfl, ite2 (fun c => ?_) (fun c => ?_)⟩
      · have hg : g = 0 := by
          have := of_decide_eq_true c
          injection this
        have i0 : i ≠ 0 := fun e => by have := g1 e; omega
        refine ⟨_, rfl, l, _, rfl, .inl ⟨SqL.of l4, fun p hp => ?_⟩⟩
        exact key _ p ws (k4.trans (Kp.same ((Same.refl H4).upd_new hp))) (b4.same ((Same.refl H4).upd_new hp)) (.of upd_same) ⟨by omega, by omega, wk⟩
      refine ⟨_, rfl, _, _, rfl, rfl, ?_⟩
      obtain ⟨xs4, q4, ql4⟩ := r4.len (K := K)
      refine ⟨_, rfl, _, rfl, _, rfl, r, _, rfl, .inl q4, ?_⟩
      rw [ql4]
      refine ⟨x, _, rfl, b4, by omega, by omega, fun H5 d k5 b5 d0 d1 => ?_⟩
      have r5 := r4.kp b4 k5
      obtain ⟨ts5, t5, q5, f1, f2, f3, f4⟩ := r5.pick d d0 d1
      refine ⟨r, _, _, _, rfl, rfl, SqL.of f1, f2, ?_⟩
      have l5 := k5 _ _ l4 hlx
      -- the first two
      refine ⟨fun σ H' => Kp x H5 H' ∧ BxAt H' x ∧ ∃ (u : Addr) (q : Row), σ = [some (.ref x), some (.ref r), some (.int (m : Nat)), some (.ref D1), some (.ref D2), some (.ref l), some (.int (g - 1)), some (.int (i : Nat)), some (.ref u)] ∧ H' u = some (.tup [.str q.1, .int q.2]) ∧ q ∈ rows, ?_, ?_⟩
      · have no : Kp x H5 H5 ∧ BxAt H5 x ∧ ∃ (u : Addr) (q : Row), [some (V.ref x), some (.ref r), some (.int (m : Nat)), some (.ref D1), some (.ref D2), some (.ref l), some (.int (g - 1)), some (.int (i : Nat)), some (.ref t5)] = [some (V.ref x), some (.ref r), some (.int (m : Nat)), some (.ref D1), some (.ref D2), some (.ref l), some (.int (g - 1)), some (.int (i : Nat)), some (.ref u)] ∧ H5 u = some (.tup [.str q.1, .int q.2]) ∧ q ∈ rows := ⟨Kp.refl x H5, b5, t5, q5, rfl, f3, f4⟩
        have n5 := n4.kp b4 k5
        obtain ⟨xs5, y5, yl5⟩ := n5.len (K := K)
        refine ⟨_, rfl, _, _, rfl, rfl, _, rfl, ite2 (fun _ => ⟨_, rfl, D2, _, rfl, .inl y5, _, _, rfl, rfl, _, rfl, ite2 (fun c => ?_) (fun _ => no)⟩) (fun _ => no)⟩
        have pos : 0 < (rows.filter p1).length := by
          have := of_decide_eq_true c
          rw [yl5] at this
          omega
        have le := List.length_filter_le p1 rows
        refine ⟨_, rfl, _, rfl, _, rfl, D2, _, rfl, .inl y5, ?_⟩
        rw [yl5]
        refine ⟨x, _, rfl, b5, by omega, by omega, fun H6 d6 k6 b6 d60 d61 => ?_⟩
        obtain ⟨ts6, t6, q6, v1, v2, v3, v4⟩ := (n5.kp b5 k6).pick d6 d60 d61
        exact ⟨D2, _, _, _, rfl, rfl, SqL.of v1, v2, k6, b6, t6, q6, rfl, v3, sub v4⟩
      rintro σ H6 ⟨k6, b6, u6, q6, rfl, hu6, hq6⟩
      have l6 := k6 _ _ l5 hlx
      -- no room
      refine ⟨fun σ H' => Kp x H6 H' ∧ BxAt H' x ∧ ∃ (u : Addr) (q : Row), σ = [some (.ref x), some (.ref r), some (.int (m : Nat)), some (.ref D1), some (.ref D2), some (.ref l), some (.int (g - 1)), some (.int (i : Nat)), some (.ref u)] ∧ H' u = some (.tup [.str q.1, .int q.2]) ∧ q ∈ rows, ?_, ?_⟩
      · have no : Kp x H6 H6 ∧ BxAt H6 x ∧ ∃ (u : Addr) (q : Row), [some (V.ref x), some (.ref r), some (.int (m : Nat)), some (.ref D1), some (.ref D2), some (.ref l), some (.int (g - 1)), some (.int (i : Nat)), some (.ref u6)] = [some (V.ref x), some (.ref r), some (.int (m : Nat)), some (.ref D1), some (.ref D2), some (.ref l), some (.int (g - 1)), some (.int (i : Nat)), some (.ref u)] ∧ H6 u = some (.tup [.str q.1, .int q.2]) ∧ q ∈ rows := ⟨Kp.refl x H6, b6, u6, q6, rfl, hu6, hq6⟩
        refine ⟨_, rfl, u6, _, _, _, rfl, rfl, SqT.of hu6, atI_nat (j := 1) rfl, _, _, rfl, rfl, _, rfl, ite2 (fun _ => ⟨_, rfl, l, _, rfl, .inl (SqL.of l6), _, _, rfl, rfl, _, rfl, _, _, rfl, rfl, _, rfl, u6, _, _, _, rfl, rfl, SqT.of hu6, atI_nat (j := 1) rfl, _, _, rfl, rfl, _, rfl, _, _, rfl, rfl, _, rfl, ite2 (fun c => ?_) (fun _ => no)⟩) (fun _ => no)⟩
        have t6 := ((t4.kp b4 k5).kp b5 k6)
        obtain ⟨xs6, y6, yl6⟩ := t6.len (K := K)
        have le := List.length_filter_le p0 rows
        refine ⟨_, rfl, _, rfl, _, rfl, D1, _, rfl, .inl y6, ?_⟩
        rw [yl6]
        refine ⟨x, _, rfl, b6, by omega, by omega, fun H7 d7 k7 b7 d70 d71 => ?_⟩
        obtain ⟨ts7, t7, q7, v1, v2, v3, v4⟩ := (t6.kp b6 k7).pick d7 d70 d71
        exact ⟨D1, _, _, _, rfl, rfl, SqL.of v1, v2, k7, b7, t7, q7, rfl, v3, sub v4⟩
      rintro σ H7 ⟨k7, b7, u7, q7, rfl, hu7, hq7⟩
      have l7 := k7 _ _ l6 hlx
      refine ⟨_, rfl, .inl ⟨rfl, _, SqL.of l7⟩, _, rfl, u7, _, _, _, rfl, rfl, SqT.of hu7, atI_nat (j := 0) rfl, l, _, _, rfl, rfl, l7, by rw [List.length_map]; exact lt_line (by omega), ?_⟩
      have k07 : Kp x H H7 := ((k4.trans k5).trans k6).trans k7
      have t7 : RowsAt H7 D1 (rows.filter p0) := ((t4.kp b4 k5).kp b5 k6).kp b6 k7
      have n7 : RowsAt H7 D2 (rows.filter p1) := ((n4.kp b4 k5).kp b5 k6).kp b6 k7
      have r7 : RowsAt H7 r rows := (r5.kp b5 k6).kp b6 k7
      refine ⟨_, rfl, _, rfl, u7, _, _, _, rfl, rfl, SqT.of (by rw [upd_ne (ne_of hu7 l7 (fun e => nomatch e))]; exact hu7), atI_nat (j := 1) rfl, _, _, rfl, rfl, ?_⟩
      refine ⟨_, _, _, ws ++ [q7.1], rfl, k07.upd_own hl0, b7.upd_ne hlx, by rw [upd_same, List.map_append]; rfl, t7.updl nD1l l7, n7.updl nD2l l7, r7.updl nrl l7, by rw [List.length_append, wl]; rfl, fun z hz => ?_, fun e => by omega⟩
      rcases List.mem_append.mp hz with hz | hz
      · exact wk z hz
      · rw [List.mem_singleton.mp hz]
        exact ⟨q7, hq7, rfl⟩
    · rintro σ H4 ⟨g, x7, x8, ws, rfl, k4, b4, l4, t4, n4, r4, wl, wk, g1⟩
      refine ⟨_, rfl, l, _, rfl, .inl ⟨SqL.of l4, fun p hp => ?_⟩⟩
      exact key _ p ws (k4.trans (Kp.same ((Same.refl H4).upd_new hp))) (b4.same ((Same.refl H4).upd_new hp)) (.of upd_same) ⟨by omega, by omega, wk⟩
end
end Sh
end
section
set_option Elab.async false
set_option linter.all false
set_option maxRecDepth 100000
set_option maxHeartbeats 4000000
namespace Sh
open PySem PySem.Spec PyProof.Rows L2
open C8 (pss_cut tCut)
open Evl (ixN_nat)
def spChain51 : Sp := fun vs H Q _ => ∃ (x r p : Addr) (rows : List Row) (l : List Str), vs = [.ref x, .ref r, .ref p, .int 1800] ∧ BxAt H x ∧ RowsAt H r rows ∧ ROk 4 rows ∧ Tq H p (sV l) ∧ KsOk rows 9 l ∧ ∀ (H' : Hp) (p' : Addr) (l' : List Str), Kp x H H' → BxAt H' x → Tq H' p' (sV l') → KsOk rows 1809 l' → Q (.ref p') H'
theorem repG_s {K : PySem.W.Frag} {H : Hp} {a : Addr} {l : List Str} {k : Int} {Q : VK} (ha : Tq H a (sV l)) (hn : l ≠ []) (h0 : 0 ≤ k) (h1 : k ≤ 4000) (hl : l.length ≤ 100) (c : ∀ r H', Same H H' → Tq H' r (sV (List.replicate k.toNat l).flatten) → Q (.ref r) H') : rRepG K (.ref a) (.int k) H Q := by
  have e : (List.replicate k.toNat (sV l)).flatten = sV (List.replicate k.toNat l).flatten := by
    unfold sV
    rw [List.map_flatten, List.map_replicate]
  refine ⟨a, k, sV l, rfl, rfl, ha.sq, fun h => hn (List.map_eq_nil_iff.mp h), h0, h1, by unfold sV; rw [List.length_map]; exact hl, fun e1 => ?_, fun _ p hp => ?_⟩
  · refine c a H (Same.refl H) ?_
    rw [e1]
    have : (List.replicate (1 : Int).toNat l).flatten = l := by simp
    rw [this]
    exact ha
  · rw [e]
    exact c p _ ((Same.refl H).upd_new hp) (.of upd_same)
theorem catA_s {K : PySem.W.Frag} {H : Hp} {a b : Addr} {l m : List Str} {Q : VK} (ha : Tq H a (sV l)) (hb : Tq H b (sV m)) (hl : l.length + m.length ≤ 10000000) (k : ∀ r H', Same H H' → Tq H' r (sV (l ++ m)) → Q (.ref r) H') : rCatA K (.ref a) (.ref b) H Q := by
  have e : sV l ++ sV m = sV (l ++ m) := by
    unfold sV
    rw [List.map_append]
  have s : ∀ {r H'}, Tq H' r (sV l ++ sV m) → Tq H' r (sV (l ++ m)) := fun h => by rw [← e]; exact h
  refine ⟨a, b, sV l, sV m, rfl, rfl, ha.sq, hb.sq, le_line (by unfold sV; rw [List.length_map, List.length_map]; exact hl), fun e => k b H (Same.refl H) (s (by rw [e]; exact hb)), fun _ e => k a H (Same.refl H) (s (by rw [e, List.append_nil]; exact ha)), fun _ _ p hp => k p _ ((Same.refl H).upd_new hp) (s (.of upd_same))⟩
theorem flat_len {α : Type} (n : Nat) (l : List α) : (List.replicate n l).flatten.length = n * l.length := by
  rw [List.length_flatten, List.map_replicate, List.sum_replicate_nat]
theorem flat_mem {α : Type} {n : Nat} {l : List α} {z : α} (h : z ∈ (List.replicate n l).flatten) : z ∈ l := by
  obtain ⟨m, h1, h2⟩ := List.mem_flatten.mp h
  rw [List.eq_of_mem_replicate h1] at h2
  exact h2
abbrev N_law_chain : List Str := ["box", "kinds", "plant", "most", "inner", "way", "pair", "side", "tips", "tip", "many", "other"]
theorem sc_law_chain : FnScope N_law_chain ["box", "kinds", "plant", "most"] (defScope s_law_chain) := ⟨rfl, rfl, rfl, by decide +kernel, rfl, by decide +kernel, by decide +kernel⟩
section
variable {P : Program} {w : World} {K : PySem.W.Frag} {mg : Str → Option Value} {base : Heap}
theorem ok_chain51 (T : Bl mg) (c_law_pick : DefOk P w K mg base CX0 1 "_law_pick" spPick51) (D : Def0 K mg "_law_chain" s_law_chain) : DefOk P w K mg base CX0 2 "_law_chain" spChain51 := by
  refine D.ok sc_law_chain (fun vs H Q E h => ?_) (fun _ _ _ _ _ _ us hl => match us, hl with | [_, _, _, _], _ => rfl) (fun f cdv A outer s' H vs Q E hr h => ?_)
  · obtain ⟨x, r, p, rows, l, rfl, _⟩ := h
    rfl
  · obtain ⟨x, r, p, rows, l, rfl, hx, hR, R, hp, hl, key⟩ := h
    have r1 := R.pos
    have r4 := R.len
    obtain ⟨ts, hr1, hT⟩ := hR
    have lt : (ts.map V.ref).length = rows.length := by rw [List.length_map, hT.1]
    refine ⟨_, (pss_cons (ps_setLc (i := 4) (own := [("pair", 6)]) (g := (gName 6)) rfl sc_law_chain.nd rfl rfl (sw_true rfl rfl rfl (by decide +kernel)) (pi_list (pv 1)) (blkOk_by (N := N_law_chain) (sc := defScope s_law_chain) (by decide +kernel)) (fun _ _ _ _ _ => (pg_name (i := 6) sc_law_chain.nd rfl (Or.inl rfl))) (fun _ _ _ _ _ => (pts_one (pt_cmpR op_gt (pe_ix (show IxR _ (rIxT K) from ix_tup) (pv 6) pe_int (fun _ _ => rfl)) pe_int (nomark _)))) (fun _ _ _ _ _ => (pv 6)))
      (pss_cons (ps_set (i := 5) sc_law_chain.nd rfl (Or.inl rfl) (pe_d c_law_pick (hr.mono (by decide)) pass0 (pa_cons (pv 0) (pa_cons pe_int pa_nil))))
      (pss_cons (ps_if (PW.pt (pw_or (pt_cmpR op_eq (pe_callB call_len_seq (by rfl) T.b_len boot_len (pa_cons (pv 4) pa_nil)) pe_int (nomark _)) (pw_or1 (pt_cmpR op_lt (pv 5) pe_int (nomark _)))))
        (pss_one (ps_ret (pv 2)))
        pss_nil)
      (pss_cons (ps_set (i := 6) sc_law_chain.nd rfl (Or.inl rfl) (pe_ix ix_list (pv 4) (pe_d c_law_pick (hr.mono (by decide)) pass0 (pa_cons (pv 0) (pa_cons (pe_callB call_len_seq (by rfl) T.b_len boot_len (pa_cons (pv 4) pa_nil)) pa_nil))) (fun _ _ => rfl)))
      (pss_cons (ps_set (i := 7) sc_law_chain.nd rfl (Or.inl rfl) (pe_d c_law_pick (hr.mono (by decide)) pass0 (pa_cons (pv 0) (pa_cons (pe_ix ix_tup (pv 6) pe_int (fun _ _ => rfl)) pa_nil))))
      (pss_cons (ps_setLc (i := 8) (own := [("other", 11)]) (g := (gName 11)) rfl sc_law_chain.nd rfl rfl (sw_true rfl rfl rfl (by decide +kernel)) (pi_list (pv 1)) (blkOk_by (N := N_law_chain) (sc := defScope s_law_chain) (by decide +kernel)) (fun _ _ _ _ _ => (pg_name (i := 11) sc_law_chain.nd rfl (Or.inl rfl))) (fun _ _ _ _ _ => (pts_one (pt_cmpR op_eq (pe_ix (show IxR _ (rIxT K) from ix_tup) (pv 11) pe_int (fun _ _ => rfl)) pe_int (nomark _)))) (fun _ _ _ _ _ => (pe_ix (show IxR _ (rIxT K) from ix_tup) (pv 11) pe_int (fun _ _ => rfl))))
      (pss_cons (ps_set (i := 9) sc_law_chain.nd rfl (Or.inl rfl) (pe_tup (pa_cons (pe_ix ix_list (pv 8) (pe_d c_law_pick (hr.mono (by decide)) pass0 (pa_cons (pv 0) (pa_cons (pe_callB call_len_seq (by rfl) T.b_len boot_len (pa_cons (pv 8) pa_nil)) pa_nil))) (fun _ _ => rfl)) pa_nil)))
      (pss_cons (ps_set (i := 10) sc_law_chain.nd rfl (Or.inl rfl) (pe_op op_add pe_int (pe_d c_law_pick (hr.mono (by decide)) pass0 (pa_cons (pv 0) (pa_cons pe_int pa_nil)))))
      (pss_cut (ps_if (pt_cmpR op_gt (pv 5) pe_int (nomark _))
        (pss_one (ps_set (i := 10) sc_law_chain.nd rfl (Or.inl rfl) (pe_op op_add pe_int (pe_d c_law_pick (hr.mono (by decide)) pass0 (pa_cons (pv 0) (pa_cons pe_int pa_nil))))))
        pss_nil)
      (pss_cut (ps_if (pt_cmpR op_eq (pv 5) pe_int (nomark _))
        (pss_one (ps_set (i := 10) sc_law_chain.nd rfl (Or.inl rfl) (pe_op op_add pe_int (pe_d c_law_pick (hr.mono (by decide)) pass0 (pa_cons (pv 0) (pa_cons (pe_callB (call_max2 rfl) (by rfl) T.b_max (by decide +kernel) (pa_cons pe_int (pa_cons (pe_op op_fdiv (pv 3) (pe_ix ix_tup (pv 6) pe_int (fun _ _ => rfl))) pa_nil))) pa_nil))))))
        pss_nil)
      (pss_one (ps_ret (pe_op op_catA (pe_op op_catA (pe_op op_repG (pe_op op_catA (pe_tup (pa_cons (pe_ix ix_tup (pv 6) pe_int (fun _ _ => rfl)) pa_nil)) (pe_op op_repG (pv 9) (pv 7))) (pv 10)) (pv 2)) (pe_op op_repG (pv 9) (pe_op op_mul (pv 10) (pe_op op_sub (pe_op op_sub (pe_ix ix_tup (pv 6) pe_int (fun _ _ => rfl)) pe_int) (pv 7))))))))))))))))), ?_⟩
    refine ⟨_, rfl, r, rfl, ⟨_, SqL.of hr1⟩, fun D2 hD2 => lc_it (walk_list (xs := ts.map V.ref)) (fun i H' => FilAt H H' D2 ((rows.take i).filter p1)) (.start hD2) (fun i H' _ ⟨q, _⟩ => SqL.of (q _ _ hr1)) ?_ ?_⟩
    · rintro i v H2' H2 hi a2 ⟨rfl, hv⟩
      obtain ⟨t, ht, rfl⟩ := get_map hv
      have hir : i < rows.length := by rw [← lt]; exact hi
      have hq := List.getElem?_eq_getElem hir
      have h1 := a2.1 _ _ (hT.2 i t rows[i] ht hq)
      refine ⟨rfl, _, rfl, t, _, _, _, rfl, rfl, SqT.of h1, atI_nat (j := 1) rfl, _, _, rfl, rfl, _, rfl, ite2 (fun c => ?_) (fun c => a2.no hq fun h => c h)⟩
      obtain ⟨fs, g1, g2, g3⟩ := a2.yes hD2 hq h1 c
      exact ⟨_, rfl, _, g1, by rw [List.length_map]; exact lt_line (by omega), g3⟩
    rintro H1 a2
    rw [lt, List.take_length] at a2
    have s1 := a2.1
    have b1 := hx.same s1
    have kin1 : RowsAt H1 r rows := ⟨ts, s1 _ _ hr1, hT.keep (TK.of_same s1)⟩
    have inn1 : RowsAt H1 D2 (rows.filter p1) := a2.2
    have hp1 := hp.same s1
    refine ⟨_, rfl, x, 32, rfl, b1, by decide, by decide, fun H2 way k2 b2 w0 w1 => ?_⟩
    have kin2 := kin1.kp b1 k2
    have inn2 := inn1.kp b1 k2
    have hp2 := tqk hp1 b1 k2
    have k02 : Kp x H H2 := (Kp.same s1).trans k2
    obtain ⟨xs2, y2, yl2⟩ := inn2.len (K := K)
    refine ⟨_, rfl, D2, _, rfl, .inl y2, rfl, _, rfl, ite2 (fun _ => ⟨_, rfl, key H2 p l k02 b2 hp2 ⟨hl.1, by have := hl.2.1; omega, hl.2.2⟩⟩) (fun c => ?_)⟩
    refine ⟨_, rfl, _, _, rfl, rfl, _, rfl, ite2 (fun _ => ⟨_, rfl, key H2 p l k02 b2 hp2 ⟨hl.1, by have := hl.2.1; omega, hl.2.2⟩⟩) (fun _ => ?_)⟩
    have pos : 0 < (rows.filter p1).length := by
      rw [yl2] at c
      rcases Nat.eq_zero_or_pos (rows.filter p1).length with h | h
      · exact absurd (by rw [h]; rfl) c
      · exact h
    have le := List.length_filter_le p1 rows
    refine ⟨_, rfl, _, rfl, _, rfl, D2, _, rfl, .inl y2, ?_⟩
    rw [yl2]
    refine ⟨x, _, rfl, b2, by omega, by omega, fun H3 d3 k3 b3 d30 d31 => ?_⟩
    obtain ⟨ts3, t3, q3, f1, f2, f3, f4⟩ := (inn2.kp b2 k3).pick d3 d30 d31
    refine ⟨D2, _, _, _, rfl, rfl, SqL.of f1, f2, ?_⟩
    obtain ⟨m3, pp⟩ := List.mem_filter.mp f4
    have q3pos : 0 < q3.2 := of_decide_eq_true pp
    have q3le := (R.wd q3 m3).2
    refine ⟨_, rfl, _, rfl, t3, _, _, _, rfl, rfl, SqT.of f3, atI_nat (j := 1) rfl, x, _, rfl, b3, q3pos, by omega, fun H4 side k4 b4 sd0 sd1 => ?_⟩
    have kin4 := (kin2.kp b2 k3).kp b3 k4
    have hp4 := tqk (tqk hp2 b2 k3) b3 k4
    have k04 : Kp x H H4 := (k02.trans k3).trans k4
    have f3' := b3.tk k4 _ _ f3
    obtain ⟨us, hr4, hT4⟩ := kin4
    have lt4 : (us.map V.ref).length = rows.length := by rw [List.length_map, hT4.1]
    refine ⟨_, rfl, r, rfl, ⟨_, SqL.of hr4⟩, fun D3 hD3 => lc_it (walk_list (xs := us.map V.ref)) (fun i H' => Same H4 H' ∧ H' D3 = some (.lst (((rows.take i).filter p0).map fun q => V.str q.1))) ⟨(Same.refl H4).upd_new hD3, upd_same⟩ (fun i H' _ ⟨q, _⟩ => SqL.of (q _ _ hr4)) ?_ ?_⟩
    · rintro i v H5' H5 hi ⟨s5, d5⟩ ⟨rfl, hv⟩
      obtain ⟨t, ht, rfl⟩ := get_map hv
      have hir : i < rows.length := by rw [← lt4]; exact hi
      have hq := List.getElem?_eq_getElem hir
      have h1 := s5 _ _ (hT4.2 i t rows[i] ht hq)
      refine ⟨rfl, _, rfl, t, _, _, _, rfl, rfl, SqT.of h1, atI_nat (j := 1) rfl, rfl, _, rfl, ite2 (fun c => ?_) (fun c => ⟨s5, ?_⟩)⟩
      · have hP : p0 rows[i] = true := decide_eq_true (by have := of_decide_eq_true c; injection this)
        refine ⟨_, rfl, t, _, _, _, rfl, rfl, SqT.of h1, atI_nat (j := 0) rfl, _, d5, ?_, s5.upd_own hD3, ?_⟩
        · rw [List.length_map]
          have := List.length_filter_le p0 (rows.take i)
          rw [List.length_take] at this
          exact lt_line (by omega)
        · rw [upd_same, ← take_snoc hq, List.filter_append, List.filter_cons_of_pos hP, List.map_append]
          rfl
      · have hP : ¬ p0 rows[i] = true := fun h => c (decide_eq_true (by rw [show (rows[i]).2 = 0 from of_decide_eq_true h]))
        rw [← take_snoc hq, List.filter_append, List.filter_cons_of_neg hP, List.filter_nil, List.append_nil]
        exact d5
    rintro H5 ⟨s5, d5⟩
    rw [lt4, List.take_length] at d5
    have tpos : 1 ≤ (rows.filter p0).length := by
      obtain ⟨q, h1, h2⟩ := R.leaf
      have : q ∈ rows.filter p0 := List.mem_filter.mpr ⟨h1, decide_eq_true h2⟩
      exact List.length_pos_of_mem this
    have tle := List.length_filter_le p0 rows
    have b5 := b4.same s5
    have nD3 := b4.ne hD3
    refine ⟨_, rfl, _, rfl, _, rfl, D3, _, rfl, .inl (SqL.of d5), ?_⟩
    rw [List.length_map]
    refine ⟨x, _, rfl, b5, by omega, by omega, fun H6 d6 k6 b6 d60 d61 => ?_⟩
    have hd6 : d6.toNat < (rows.filter p0).length := by omega
    refine ⟨D3, _, _, _, rfl, rfl, SqL.of (k6 _ _ d5 nD3), at_ofG (j := d6.toNat) (by omega) (by rw [List.getElem?_map, List.getElem?_eq_getElem hd6]; rfl), ?_⟩
    have mq := (List.mem_filter.mp (List.getElem_mem hd6)).1
    generalize (rows.filter p0)[d6.toNat] = q6 at mq
    refine ⟨le_line (show 1 ≤ 10000000 by decide), fun tp htp => ?_⟩
    have s67 := (Same.refl H6).upd_new (o := .tup [.str q6.1]) htp
    have tip7 : Tq (upd H6 tp (.tup [.str q6.1])) tp (sV [q6.1]) := .of upd_same
    have k07 : Kp x H (upd H6 tp (.tup [.str q6.1])) := (((k04.trans (Kp.same s5)).trans k6).trans (Kp.same s67))
    have b7 := b6.same s67
    have f37 := s67 _ _ (b5.tk k6 _ _ (s5 _ _ f3'))
    have hp7 := (tqk (hp4.same s5) b5 k6).same s67
    generalize upd H6 tp (.tup [.str q6.1]) = H7 at tip7 k07 b7 f37 hp7
    refine ⟨_, rfl, x, 4, rfl, b7, by decide, by decide, fun H8 d8 k8 b8 d80 d81 => ⟨_, _, rfl, rfl, ?_⟩⟩
    -- way > 27
    refine ⟨fun σ H' => Kp x H7 H' ∧ BxAt H' x ∧ ∃ many : Int, σ = [some (.ref x), some (.ref r), some (.ref p), some (.int 1800), some (.ref D2), some (.int way), some (.ref t3), some (.int side), some (.ref D3), some (.ref tp), some (.int many), none] ∧ 1 ≤ many ∧ many * q3.2 ≤ 1800, ?_, ?_⟩
    · have small : ∀ d : Int, 0 ≤ d → d < 40 → 1 ≤ 1 + d ∧ (1 + d) * q3.2 ≤ 1800 := fun d h0 h1 => by
        rcases (show q3.2 = 1 ∨ q3.2 = 2 ∨ q3.2 = 3 by omega) with h | h | h <;> rw [h] <;> omega
      refine ⟨_, rfl, _, _, rfl, rfl, _, rfl, ite2 (fun _ => ⟨_, rfl, x, 40, rfl, b8, by decide, by decide, fun H9 d9 k9 b9 d90 d91 => ⟨_, _, rfl, rfl, k8.trans k9, b9, _, rfl, small d9 d90 d91⟩⟩) (fun _ => ⟨k8, b8, _, rfl, small d8 d80 (by omega)⟩)⟩
    rintro σ H9 ⟨k9, b9, m9, rfl, m91, m92⟩
    refine ⟨fun σ H' => Kp x H7 H' ∧ BxAt H' x ∧ ∃ many : Int, σ = [some (.ref x), some (.ref r), some (.ref p), some (.int 1800), some (.ref D2), some (.int way), some (.ref t3), some (.int side), some (.ref D3), some (.ref tp), some (.int many), none] ∧ 1 ≤ many ∧ many * q3.2 ≤ 1800, ?_, ?_⟩
    · refine ⟨_, rfl, rfl, _, rfl, ite2 (fun _ => ?_) (fun _ => ⟨k9, b9, m9, rfl, m91, m92⟩)⟩
      have f39 := b7.tk k9 _ _ f37
      have q0 : 0 ≤ 1800 / q3.2 := Int.ediv_nonneg (by decide) (by omega)
      have q1 : 1800 / q3.2 ≤ 1800 := Int.ediv_le_self _ (by decide)
      have q2 : (1800 / q3.2) * q3.2 ≤ 1800 := Int.ediv_mul_le _ (by omega)
      refine ⟨_, rfl, _, rfl, _, rfl, t3, _, _, _, rfl, rfl, SqT.of f39, atI_nat (j := 1) rfl, _, _, rfl, rfl, ⟨q3pos, by omega⟩, _, _, rfl, x, _, rfl, b9, ?_, ?_, fun H' d k' b' d0 d1 => ⟨_, _, rfl, rfl, k9.trans k', b', _, rfl, by omega, ?_⟩⟩
      · omega
      · omega
      · have h : 1 + d ≤ max 1 (1800 / q3.2) := by omega
        rcases (show q3.2 = 1 ∨ q3.2 = 2 ∨ q3.2 = 3 by omega) with e | e | e <;> rw [e] at h q2 ⊢ <;> omega
    rintro σ HA ⟨kA, bA, mA, rfl, mA1, mA2⟩
    have k0A : Kp x H HA := k07.trans kA
    have f3A := b7.tk kA _ _ f37
    have tipA := tqk tip7 b7 kA
    have hpA := tqk hp7 b7 kA
    refine ⟨_, rfl, t3, _, _, _, rfl, rfl, SqT.of f3A, atI_nat (j := 0) rfl, le_line (show 1 ≤ 10000000 by decide), fun a1 ha1 => ?_⟩
    have sA1 := (Same.refl HA).upd_new (o := .tup [.str q3.1]) ha1
    have one : Tq (upd HA a1 (.tup [.str q3.1])) a1 (sV [q3.1]) := .of upd_same
    generalize upd HA a1 (.tup [.str q3.1]) = HB at sA1 one
    refine ⟨_, rfl, _, rfl, repG_s (tipA.same sA1) (by simp) sd0 (by omega) (show 1 ≤ 100 by decide) fun a2 HC s2 t2 => ?_⟩
    refine catA_s (one.same s2) t2 (by rw [flat_len]; show 1 + side.toNat * 1 ≤ _; omega) fun a3 HD s3 t3' => ?_
    have l3 : ([q3.1] ++ (List.replicate side.toNat [q6.1]).flatten).length = 1 + side.toNat := by
      rw [List.length_append, flat_len]
      show 1 + side.toNat * 1 = _
      omega
    have mle : mA ≤ 1800 := by
      rcases (show q3.2 = 1 ∨ q3.2 = 2 ∨ q3.2 = 3 by omega) with e | e | e <;> rw [e] at mA2 <;> omega
    refine ⟨_, rfl, repG_s t3' (by simp) (by omega) (by omega) (by rw [l3]; omega) fun a4 HE s4 t4 => ?_⟩
    have s4' := ((sA1.trans s2).trans s3).trans s4
    have l4 : (List.replicate mA.toNat ([q3.1] ++ (List.replicate side.toNat [q6.1]).flatten)).flatten.length = mA.toNat * (1 + side.toNat) := by rw [flat_len, l3]
    have big : mA.toNat * (1 + side.toNat) + mA.toNat * (q3.2 - 1 - side).toNat ≤ 1800 := by
      rw [← Nat.mul_add]
      have e : 1 + side.toNat + (q3.2 - 1 - side).toNat = q3.2.toNat := by omega
      rw [e]
      have : ((mA.toNat * q3.2.toNat : Nat) : Int) = mA * q3.2 := by
        rw [Int.natCast_mul, Int.toNat_of_nonneg (by omega), Int.toNat_of_nonneg (by omega)]
      omega
    have ll := hl.2.1
    refine ⟨_, rfl, catA_s t4 (hpA.same s4') (by rw [l4]; omega) fun a5 HF s5 t5 => ?_⟩
    have s5' := s4'.trans s5
    have h2 : (q3.2 - 1 - side).toNat ≤ 2 := by omega
    have hm : mA * (q3.2 - 1 - side) = ((mA.toNat * (q3.2 - 1 - side).toNat : Nat) : Int) := by
      rw [Int.natCast_mul, Int.toNat_of_nonneg (by omega), Int.toNat_of_nonneg (by omega)]
    refine ⟨_, rfl, _, rfl, _, rfl, t3, _, _, _, rfl, rfl, SqT.of (s5' _ _ f3A), atI_nat (j := 1) rfl, _, _, rfl, rfl, _, rfl, _, _, rfl, rfl, _, _, rfl, rfl, ?_⟩
    refine ⟨.inl ⟨by omega, by omega⟩, ?_⟩
    show rRepG _ (V.ref tp) (V.int (mA * (q3.2 - 1 - side))) HF _
    rw [hm]
    refine repG_s (tipA.same s5') (by simp) (by omega) (by omega) (show 1 ≤ 100 by decide) fun a6 HG s6 t6 => ?_
    rw [Int.toNat_natCast] at t6
    have l6 : (List.replicate (mA.toNat * (q3.2 - 1 - side).toNat) [q6.1]).flatten.length = mA.toNat * (q3.2 - 1 - side).toNat := by rw [flat_len]; show _ * 1 = _; omega
    refine catA_s (t5.same s6) t6 (by rw [List.length_append, l4, l6]; omega) fun a7 HI s7 t7 => ?_
    have sAI := (s5'.trans s6).trans s7
    refine key HI a7 _ (k0A.trans (Kp.same sAI)) (bA.same sAI) t7 ⟨?_, ?_, fun z hz => ?_⟩
    · rw [List.length_append, List.length_append]
      have := hl.1
      omega
    · rw [List.length_append, List.length_append, l4, l6]
      omega
    · rcases List.mem_append.mp hz with hz | hz
      · rcases List.mem_append.mp hz with hz | hz
        · rcases List.mem_append.mp (flat_mem hz) with hz | hz
          · rw [List.mem_singleton.mp hz]
            exact ⟨q3, m3, rfl⟩
          · rw [List.mem_singleton.mp (flat_mem hz)]
            exact ⟨q6, mq, rfl⟩
        · exact hl.2.2 z hz
      · rw [List.mem_singleton.mp (flat_mem hz)]
        exact ⟨q6, mq, rfl⟩
end
end Sh
end
section
set_option Elab.async false
set_option linter.all false
set_option maxRecDepth 100000
set_option maxHeartbeats 4000000
namespace Sh
open PySem PySem.Spec PyProof.Rows L2
open C8 (pss_cut tCut)
open Evl (ixN_nat)
def spBehind51 : Sp := fun vs H Q _ => ∃ (ar p : Addr) (b : Nat) (rows : List Row) (l : List Str), vs = [.ref ar, .ref p, .int (b : Nat)] ∧ H ar = some (.dK (wL rows)) ∧ ROk 4 rows ∧ Tq H p (sV l) ∧ KsOk rows 1809 l ∧ b < l.length ∧ ∀ (e : Nat), e ≤ l.length → Q (.int (e : Nat)) H
def spChg51 : Sp := fun vs H Q _ => ∃ (x r ar p : Addr) (rows : List Row) (l : List Str), vs = [.ref x, .ref r, .ref ar, .ref p] ∧ BxAt H x ∧ RowsAt H r rows ∧ ROk 4 rows ∧ H ar = some (.dK (wL rows)) ∧ Tq H p (sV l) ∧ KsOk rows 1809 l ∧ ∀ (H' : Hp) (p' : Addr) (l' : List Str), Kp x H H' → BxAt H' x → Tq H' p' (sV l') → KsOk rows 1809 l' → Q (.ref p') H'
theorem sV_len (l : List Str) : (sV l).length = l.length := List.length_map ..
theorem sV_at {l : List Str} {j : Nat} (h : j < l.length) : (sV l)[j]? = some (.str l[j]) := by
  unfold sV
  rw [List.getElem?_map, List.getElem?_eq_getElem h]
  rfl
/-- a dict is kept by the box -/
theorem dkb {H H' : Hp} {x a : Addr} {kvs : List (Key × V)} (h : H a = some (.dK kvs)) (b : BxAt H x) (k : Kp x H H') : H' a = some (.dK kvs) := by
  obtain ⟨za, zb, hz⟩ := b
  exact k _ _ h (ne_of h hz (fun e => nomatch e))
/-- names of the rows that are wanted -/
def NamAt (H H' : Hp) (D : Addr) (rows : List Row) : Prop := Same H H' ∧ H' D = some (.lst (rows.map fun q => V.str q.1))
theorem NamAt.start {H : Hp} {D : Addr} (h : H D = none) : NamAt H (upd H D (.lst [])) D [] := ⟨(Same.refl H).upd_new h, upd_same⟩
theorem NamAt.yes {H H1 : Hp} {D : Addr} {rows : List Row} {P : Row → Bool} {i : Nat} {q : Row} (hD : H D = none) (x : NamAt H H1 D ((rows.take i).filter P)) (hq : rows[i]? = some q) (hP : P q = true) :
    ∃ vs : List V, H1 D = some (.lst vs) ∧ vs.length ≤ i ∧ NamAt H (upd H1 D (.lst (vs ++ [.str q.1]))) D ((rows.take (i + 1)).filter P) := by
  refine ⟨_, x.2, ?_, x.1.upd_own hD, ?_⟩
  · rw [List.length_map]
    refine Nat.le_trans (List.length_filter_le _ _) ?_
    rw [List.length_take]
    omega
  · rw [upd_same, ← take_snoc hq, List.filter_append, List.filter_cons_of_pos hP, List.map_append]
    rfl
theorem NamAt.no {H H1 : Hp} {D : Addr} {rows : List Row} {P : Row → Bool} {i : Nat} {q : Row} (x : NamAt H H1 D ((rows.take i).filter P)) (hq : rows[i]? = some q) (hP : ¬ P q = true) : NamAt H H1 D ((rows.take (i + 1)).filter P) := by
  rw [← take_snoc hq, List.filter_append, List.filter_cons_of_neg hP, List.filter_nil, List.append_nil]
  exact x
abbrev N_law_behind : List Str := ["arity", "plant", "begin", "gap", "place"]
theorem sc_law_behind : FnScope N_law_behind ["arity", "plant", "begin"] (defScope s_law_behind) := ⟨rfl, rfl, rfl, by decide +kernel, rfl, by decide +kernel, by decide +kernel⟩
abbrev N_law_changed : List Str := ["box", "kinds", "arity", "plant", "tips", "row", "at", "turn", "entry", "way", "alike", "pair"]
theorem sc_law_changed : FnScope N_law_changed ["box", "kinds", "arity", "plant"] (defScope s_law_changed) := ⟨rfl, rfl, rfl, by decide +kernel, rfl, by decide +kernel, by decide +kernel⟩
section
variable {P : Program} {w : World} {K : PySem.W.Frag} {mg : Str → Option Value} {base : Heap}
theorem ok_behind51 (T : Bl mg) (D : Def0 K mg "_law_behind" s_law_behind) : DefOk P w K mg base CX0 1 "_law_behind" spBehind51 := by
  refine D.ok sc_law_behind (fun vs H Q E h => ?_) (fun _ _ _ _ _ _ us hl => match us, hl with | [_, _, _], _ => rfl) (fun f cdv A outer s' H vs Q E hr h => ?_)
  · obtain ⟨ar, p, b, rows, l, rfl, _⟩ := h
    rfl
  · obtain ⟨ar, p, b, rows, l, rfl, har, R, hp, hl, hb, key⟩ := h
    have hu := hu_of hr
    have ll := hl.2.1
    refine ⟨_, (pss_cons (ps_set (i := 3) sc_law_behind.nd rfl (Or.inl rfl) pe_int)
      (pss_cons (ps_for PassesOwn.never rfl (pi_range2 (by rfl) T.b_range (pa_cons (pv 2) (pa_cons (pe_callB call_len_seq (by rfl) T.b_len boot_len (pa_cons (pv 1) pa_nil)) pa_nil))) (pg_name (i := 4) sc_law_behind.nd rfl (Or.inl rfl))
        (pss_cons (ps_set (i := 3) sc_law_behind.nd rfl (Or.inl rfl) (pe_op op_add (pe_op op_sub (pv 3) pe_int) (pe_dget hu (pv 0) (pe_ix ix_tup (pv 1) (pv 4) (fun _ _ => rfl)) (fun _ _ => rfl))))
        (pss_one (ps_if (pt_cmpR op_eq (pv 3) pe_int (nomark _))
          (pss_one (ps_ret (pe_op op_add (pv 4) pe_int)))
          pss_nil))))
      (pss_one (ps_ret (pe_callB call_len_seq (by rfl) T.b_len boot_len (pa_cons (pv 1) pa_nil)))))), ?_⟩
    refine ⟨_, rfl, _, rfl, p, _, rfl, .inr hp.sq, _, _, rfl, ⟨by omega, by omega, by omega, by rw [sV_len]; omega⟩, ?_⟩
    rw [sV_len]
    refine for_range (lo := (b : Nat)) (n := (((l.length : Nat) : Int) - (b : Nat)).toNat) (fun i σ H' => H' = H ∧ ∃ (g : Int) (x4 : Option V), σ = [some (.ref ar), some (.ref p), some (.int (b : Nat)), some (.int g), x4]) ⟨rfl, 1, none, rfl⟩ ?_ ?_
    · rintro i σ H1 hi ⟨e1, g, x4, rfl⟩
      obtain rfl : H = H1 := e1.symm
      have hbi : b + i < l.length := by omega
      have ez : ((b : Nat) : Int) + (i : Nat) = ((b + i : Nat) : Int) := by omega
      rw [ez]
      have hz := hl.2.2 _ (List.getElem_mem hbi)
      have g0 := DGet.k (k := .inr l[b + i]) har
      rw [val_wL R hz] at g0
      refine ⟨_, rfl, _, _, rfl, rfl, _, rfl, _, rfl, _, rfl, p, _, _, _, rfl, rfl, hp.sq, at_ofG (j := b + i) rfl (sV_at hbi), ar, _, rfl, g0, _, _, rfl, rfl, ?_⟩
      refine ⟨_, rfl, rfl, _, rfl, ite2 (fun _ => ⟨_, rfl, _, _, rfl, rfl, ?_⟩) (fun _ => ⟨rfl, _, _, rfl⟩)⟩
      have := key (b + i + 1) hbi
      exact this
    · rintro σ H1 ⟨e1, g, x4, rfl⟩
      obtain rfl : H = H1 := e1.symm
      refine ⟨_, rfl, p, _, rfl, .inr hp.sq, ?_⟩
      rw [sV_len]
      exact key _ (Nat.le_refl _)
theorem ok_chg51 (T : Bl mg) (c_law_pick : DefOk P w K mg base CX0 1 "_law_pick" spPick51) (c_law_behind : DefOk P w K mg base CX0 1 "_law_behind" spBehind51) (D : Def0 K mg "_law_changed" s_law_changed) : DefOk P w K mg base CX0 2 "_law_changed" spChg51 := by
  refine D.ok sc_law_changed (fun vs H Q E h => ?_) (fun _ _ _ _ _ _ us hl => match us, hl with | [_, _, _, _], _ => rfl) (fun f cdv A outer s' H vs Q E hr h => ?_)
  · obtain ⟨x, r, ar, p, rows, l, rfl, _⟩ := h
    rfl
  · obtain ⟨x, r, ar, p, rows, l, rfl, hx, hR, R, har, hp, hl, key⟩ := h
    have hu := hu_of hr
    have r1 := R.pos
    have r4 := R.len
    have ll := hl.2.1
    obtain ⟨ts, hr1, hT⟩ := hR
    have lt : (ts.map V.ref).length = rows.length := by rw [List.length_map, hT.1]
    refine ⟨_, (pss_cons (ps_setLc (i := 4) (own := [("pair", 11)]) (g := (gName 11)) rfl sc_law_changed.nd rfl rfl (sw_true rfl rfl rfl (by decide +kernel)) (pi_list (pv 1)) (blkOk_by (N := N_law_changed) (sc := defScope s_law_changed) (by decide +kernel)) (fun _ _ _ _ _ => (pg_name (i := 11) sc_law_changed.nd rfl (Or.inl rfl))) (fun _ _ _ _ _ => (pts_one (pt_cmpR op_eq (pe_ix (show IxR _ (rIxT K) from ix_tup) (pv 11) pe_int (fun _ _ => rfl)) pe_int (nomark _)))) (fun _ _ _ _ _ => (pe_ix (show IxR _ (rIxT K) from ix_tup) (pv 11) pe_int (fun _ _ => rfl))))
      (pss_cons (ps_set (i := 5) sc_law_changed.nd rfl (Or.inl rfl) (pe_lst pa_nil))
      (pss_cons (ps_set (i := 6) sc_law_changed.nd rfl (Or.inl rfl) pe_int)
      (pss_cons (ps_for PassesOwn.never rfl (pi_range1 (by rfl) T.b_range (pa_cons (pe_callB call_len_seq (by rfl) T.b_len boot_len (pa_cons (pv 3) pa_nil)) pa_nil)) (pg_name (i := 7) sc_law_changed.nd rfl (Or.inl rfl))
        (pss_one (ps_if (pt_cmpR op_lt (pv 6) (pe_callB call_len_seq (by rfl) T.b_len boot_len (pa_cons (pv 3) pa_nil)) (nomark _))
          (pss_cons (ps_set (i := 8) sc_law_changed.nd rfl (Or.inr rfl) (pe_ix ix_tup (pv 3) (pv 6) (fun _ _ => rfl)))
          (pss_cons (ps_set (i := 9) sc_law_changed.nd rfl (Or.inl rfl) pe_int)
          (pss_cut (ps_if (pt_cmpR op_lt (pv 7) pe_int (nomark _))
            (pss_one (ps_set (i := 9) sc_law_changed.nd rfl (Or.inl rfl) (pe_d c_law_pick (hr.mono (by decide)) pass0 (pa_cons (pv 0) (pa_cons pe_int pa_nil)))))
            pss_nil)
          (pss_one (ps_if (pt_cmpR op_eq (pv 9) pe_int (nomark _))
            (pss_cons (ps_expr (pe_bm PySem.F.plainAttrs_list PySem.F.slot_list_append PySem.F.type_list_append mt_append (pv 5) (pa_cons (pe_ix ix_list (pv 4) (pe_d c_law_pick (hr.mono (by decide)) pass0 (pa_cons (pv 0) (pa_cons (pe_callB call_len_seq (by rfl) T.b_len boot_len (pa_cons (pv 4) pa_nil)) pa_nil))) (fun _ _ => rfl)) pa_nil)))
            (pss_one (ps_set (i := 6) sc_law_changed.nd rfl (Or.inl rfl) (pe_d c_law_behind (hr.mono (by decide)) pass0 (pa_cons (pv 2) (pa_cons (pv 3) (pa_cons (pv 6) pa_nil)))))))
            (pss_cut (ps_if (pt_cmpR op_lt (pv 9) pe_int (nomark _))
              (pss_cons (ps_setLc (i := 10) (own := [("pair", 11)]) (g := (gName 11)) rfl sc_law_changed.nd rfl rfl (sw_true rfl rfl rfl (by decide +kernel)) (pi_list (pv 1)) (blkOk_by (N := N_law_changed) (sc := defScope s_law_changed) (by decide +kernel)) (fun _ _ _ _ _ => (pg_name (i := 11) sc_law_changed.nd rfl (Or.inl rfl))) (fun _ _ _ _ _ => (pts_one (pt_cmpR op_eq (pe_ix (show IxR _ (rIxT K) from ix_tup) (pv 11) pe_int (fun _ _ => rfl)) (pe_dget hu (pv 2) (pv 8) (fun _ _ => rfl)) (nomark _)))) (fun _ _ _ _ _ => (pe_ix (show IxR _ (rIxT K) from ix_tup) (pv 11) pe_int (fun _ _ => rfl))))
              (pss_one (ps_set (i := 8) sc_law_changed.nd rfl (Or.inr rfl) (pe_ix ix_list (pv 10) (pe_d c_law_pick (hr.mono (by decide)) pass0 (pa_cons (pv 0) (pa_cons (pe_callB call_len_seq (by rfl) T.b_len boot_len (pa_cons (pv 10) pa_nil)) pa_nil))) (fun _ _ => rfl)))))
              pss_nil)
            (pss_cons (ps_expr (pe_bm PySem.F.plainAttrs_list PySem.F.slot_list_append PySem.F.type_list_append mt_append (pv 5) (pa_cons (pv 8) pa_nil)))
            (pss_one (ps_set (i := 6) sc_law_changed.nd rfl (Or.inl rfl) (pe_op op_add (pv 6) pe_int))))))))))
          pss_nil)))
      (pss_one (ps_ret (pe_callTy call_tuple_of (by rfl) T.b_tuple (by decide +kernel) (pa_cons (pv 5) pa_nil)))))))), ?_⟩
    refine ⟨_, rfl, r, rfl, ⟨_, SqL.of hr1⟩, fun D3 hD3 => lc_it (walk_list (xs := ts.map V.ref)) (fun i H' => NamAt H H' D3 ((rows.take i).filter p0)) (.start hD3) (fun i H' _ ⟨q, _⟩ => SqL.of (q _ _ hr1)) ?_ ?_⟩
    · rintro i v H1' H1 hi a1 ⟨rfl, hv⟩
      obtain ⟨t, ht, rfl⟩ := get_map hv
      have hir : i < rows.length := by rw [← lt]; exact hi
      have hq := List.getElem?_eq_getElem hir
      have h1 := a1.1 _ _ (hT.2 i t rows[i] ht hq)
      refine ⟨rfl, _, rfl, t, _, _, _, rfl, rfl, SqT.of h1, atI_nat (j := 1) rfl, rfl, _, rfl, ite2 (fun c => ?_) (fun c => a1.no hq fun h => c ?_)⟩
      · have := of_decide_eq_true c
        obtain ⟨vs, g1, g2, g3⟩ := a1.yes hD3 hq (decide_eq_true (by injection this))
        exact ⟨_, rfl, t, _, _, _, rfl, rfl, SqT.of h1, atI_nat (j := 0) rfl, _, g1, lt_line (by omega), g3⟩
      · exact decide_eq_true (by rw [show (rows[i]).2 = 0 from of_decide_eq_true h])
    rintro H1 a1
    rw [lt, List.take_length] at a1
    obtain ⟨s1, d1⟩ := a1
    have tpos : 1 ≤ (rows.filter p0).length := by
      obtain ⟨q, h1, h2⟩ := R.leaf
      have : q ∈ rows.filter p0 := List.mem_filter.mpr ⟨h1, decide_eq_true h2⟩
      exact List.length_pos_of_mem this
    have tle := List.length_filter_le p0 rows
    have b1 := hx.same s1
    have nD3 := hx.ne hD3
    refine ⟨le_line (show 0 ≤ 10000000 by decide), fun m hm => ?_⟩
    have hmx := b1.ne hm
    have s2 := (Same.refl H1).upd_new (o := .lst []) hm
    have m2 : (upd H1 m (.lst [])) m = some (.lst (([] : List Str).map V.str)) := upd_same
    have hm0 : H m = none := by
      cases e : H m with
      | none => rfl
      | some o => rw [s1 _ _ e] at hm; cases hm
    have nDm : D3 ≠ m := fun e => by rw [e, hm] at d1; cases d1
    have nrm : r ≠ m := fun e => by rw [e, hm0] at hr1; cases hr1
    have d2 := s2 _ _ d1
    generalize upd H1 m (.lst []) = H2 at s2 m2 d2
    have s02 := s1.trans s2
    have b2 := hx.same s02
    refine ⟨_, rfl, p, _, rfl, .inr (hp.same s02).sq, _, rfl, by omega, by rw [sV_len]; omega, ?_⟩
    rw [sV_len, Int.toNat_natCast]
    refine for_range (n := l.length) (fun i σ H' => ∃ (a : Nat) (x7 x8 x9 x10 : Option V) (ws : List Str), σ = [some (.ref x), some (.ref r), some (.ref ar), some (.ref p), some (.ref D3), some (.ref m), some (.int (a : Nat)), x7, x8, x9, x10, none] ∧ Kp x H H' ∧ BxAt H' x ∧ H' m = some (.lst (ws.map V.str)) ∧ H' D3 = some (.lst ((rows.filter p0).map fun q => V.str q.1)) ∧ RowsAt H' r rows ∧ ws.length ≤ i ∧ (∀ z ∈ ws, HasN rows z) ∧ (i = 0 → a = 0) ∧ (1 ≤ i → 1 ≤ ws.length))
      ⟨0, none, none, none, none, [], rfl, Kp.same s02, b2, m2, d2, ⟨ts, s02 _ _ hr1, hT.keep (TK.of_same s02)⟩, Nat.le_refl _, (fun z h => nomatch h), fun _ => rfl, fun h => absurd h (by decide)⟩ ?_ ?_
    · rintro i σ H3 hi ⟨a, x7, x8, x9, x10, ws, rfl, k3, b3, m3, d3, r3, wl, wk, a0, w1⟩
      have e0 : (0 : Int) + (i : Nat) = ((i : Nat) : Int) := by omega
      rw [e0]
      have hp3 := tqk hp hx k3
      refine ⟨_, rfl, _, rfl, p, _, rfl, .inr hp3.sq, _, _, rfl, rfl, _, rfl, ?_⟩
      rw [sV_len]
      refine ite2 (fun c => ?_) (fun c => ⟨a, _, x8, x9, x10, ws, rfl, k3, b3, m3, d3, r3, by omega, wk, fun h => by omega, fun _ => ?_⟩)
      rotate_left
      · have : ¬ ((a : Nat) : Int) < ((l.length : Nat) : Int) := fun h => c (decide_eq_true h)
        have h1 := hl.1
        refine w1 ?_
        rcases Nat.eq_zero_or_pos i with h | h
        · have := a0 h
          omega
        · exact h
      have ha : a < l.length := by
        have := of_decide_eq_true c
        omega
      have hz := hl.2.2 _ (List.getElem_mem ha)
      refine ⟨_, rfl, _, rfl, p, _, _, _, rfl, rfl, hp3.sq, at_ofG (j := a) rfl (sV_at ha), ?_⟩
      generalize l[a] = z at hz
      -- turn < 40
      refine ⟨fun σ H' => Kp x H3 H' ∧ BxAt H' x ∧ ∃ way : Int, σ = [some (.ref x), some (.ref r), some (.ref ar), some (.ref p), some (.ref D3), some (.ref m), some (.int (a : Nat)), some (.int (i : Nat)), some (.str z), some (.int way), x10, none], ?_, ?_⟩
      · exact ⟨_, rfl, _, _, rfl, rfl, _, rfl, ite2 (fun _ => ⟨_, rfl, x, 8, rfl, b3, by decide, by decide, fun H4 d k4 b4 _ _ => ⟨k4, b4, d, rfl⟩⟩) (fun _ => ⟨Kp.refl x H3, b3, 9, rfl⟩)⟩
      rintro σ H4 ⟨k4, b4, way, rfl⟩
      have k04 := k3.trans k4
      have m4 := k4 _ _ m3 hmx
      have d4 := k4 _ _ d3 nD3
      have r4' := r3.kp b3 k4
      have hp4 := tqk hp hx k04
      refine ⟨_, rfl, rfl, _, rfl, ite2 (fun _ => ?_) (fun _ => ?_)⟩
      · -- a leaf
        refine ⟨_, rfl, .inl ⟨rfl, _, SqL.of m4⟩, _, rfl, _, rfl, _, rfl, D3, _, rfl, .inl (SqL.of d4), ?_⟩
        rw [List.length_map]
        refine ⟨x, _, rfl, b4, by omega, by omega, fun H5 e k5 b5 e0 e1 => ?_⟩
        have he : e.toNat < (rows.filter p0).length := by omega
        have d5 := k5 _ _ d4 nD3
        have m5 := k5 _ _ m4 hmx
        have mq := (List.mem_filter.mp (List.getElem_mem he)).1
        refine ⟨D3, _, _, _, rfl, rfl, SqL.of d5, at_ofG (j := e.toNat) (by omega) (by rw [List.getElem?_map, List.getElem?_eq_getElem he]; rfl), m, _, _, rfl, rfl, m5, by rw [List.length_map]; exact lt_line (by omega), ?_⟩
        generalize (rows.filter p0)[e.toNat] = q at mq
        have k05 := (k04.trans k5)
        have hp6 : Tq (upd H5 m (.lst (ws.map V.str ++ [.str q.1]))) p (sV l) := tqk hp hx (k05.upd_own hm0)
        refine ⟨_, rfl, _, rfl, _, rfl, ar, p, a, rows, l, rfl, dkb har hx (k05.upd_own hm0), R, hp6, hl, ha, fun e' _ => ?_⟩
        refine ⟨e', _, _, _, _, ws ++ [q.1], rfl, k05.upd_own hm0, b5.upd_ne hmx, by rw [upd_same, List.map_append]; rfl, by rw [upd_ne nDm]; exact d5, (r4'.kp b4 k5).updl nrm m5, by rw [List.length_append]; show _ + 1 ≤ _; omega, fun y hy => ?_, fun h => by omega, fun _ => by rw [List.length_append]; show 1 ≤ _ + 1; omega⟩
        rcases List.mem_append.mp hy with hy | hy
        · exact wk y hy
        · rw [List.mem_singleton.mp hy]
          exact ⟨q, mq, rfl⟩
      · -- a kind
        refine ⟨fun σ H' => Kp x H4 H' ∧ BxAt H' x ∧ ∃ (z' : Str) (x10' : Option V), σ = [some (.ref x), some (.ref r), some (.ref ar), some (.ref p), some (.ref D3), some (.ref m), some (.int (a : Nat)), some (.int (i : Nat)), some (.str z'), some (.int way), x10', none] ∧ HasN rows z', ?_, ?_⟩
        · refine ⟨_, rfl, _, _, rfl, rfl, _, rfl, ite2 (fun _ => ?_) (fun _ => ⟨Kp.refl x H4, b4, z, x10, rfl, hz⟩)⟩
          obtain ⟨us, ru, rT⟩ := r4'
          have lu : (us.map V.ref).length = rows.length := by rw [List.length_map, rT.1]
          have har4 := dkb har hx k04
          refine ⟨_, rfl, r, rfl, ⟨_, SqL.of ru⟩, fun D5 hD5 => lc_it (walk_list (xs := us.map V.ref)) (fun i H' => NamAt H4 H' D5 ((rows.take i).filter fun q => decide (q.2 = ((wR rows z : Nat) : Int)))) (.start hD5) (fun i H' _ ⟨q, _⟩ => SqL.of (q _ _ ru)) ?_ ?_⟩
          · rintro j v H5' H5 hj a5 ⟨rfl, hv⟩
            obtain ⟨t, ht, rfl⟩ := get_map hv
            have hir : j < rows.length := by rw [← lu]; exact hj
            have hq := List.getElem?_eq_getElem hir
            have h1 := a5.1 _ _ (rT.2 j t rows[j] ht hq)
            have g0 := DGet.k (k := .inr z) (a5.1 _ _ har4)
            rw [val_wL R hz] at g0
            refine ⟨rfl, _, rfl, t, _, _, _, rfl, rfl, SqT.of h1, atI_nat (j := 1) rfl, _, rfl, _, rfl, ar, _, rfl, g0, rfl, _, rfl, ite2 (fun c => ?_) (fun c => a5.no hq fun h => c ?_)⟩
            · have := of_decide_eq_true c
              obtain ⟨vs, g1, g2, g3⟩ := a5.yes hD5 hq (decide_eq_true (by injection this))
              exact ⟨_, rfl, t, _, _, _, rfl, rfl, SqT.of h1, atI_nat (j := 0) rfl, _, g1, lt_line (by omega), g3⟩
            · have h : (rows[j]).2 = ((wR rows z : Nat) : Int) := of_decide_eq_true h
              exact decide_eq_true (by rw [h])
          rintro H5 a5
          rw [lu, List.take_length] at a5
          obtain ⟨s5, d5⟩ := a5
          have apos : 0 < (rows.filter fun q => decide (q.2 = ((wR rows z : Nat) : Int))).length := by
            obtain ⟨q, q1, q2, _, q4, _⟩ := wR_mem R hz
            exact List.length_pos_of_mem (List.mem_filter.mpr ⟨q1, decide_eq_true q4.symm⟩)
          have ale := List.length_filter_le (fun q : Row => decide (q.2 = ((wR rows z : Nat) : Int))) rows
          have b5 := b4.same s5
          have nD5 := b4.ne hD5
          refine ⟨_, rfl, _, rfl, _, rfl, D5, _, rfl, .inl (SqL.of d5), ?_⟩
          rw [List.length_map]
          refine ⟨x, _, rfl, b5, by omega, by omega, fun H6 e k6 b6 e0 e1 => ?_⟩
          have he : e.toNat < (rows.filter fun q => decide (q.2 = ((wR rows z : Nat) : Int))).length := by omega
          have mq := (List.mem_filter.mp (List.getElem_mem he)).1
          refine ⟨D5, _, _, _, rfl, rfl, SqL.of (k6 _ _ d5 nD5), at_ofG (j := e.toNat) (by omega) (by rw [List.getElem?_map, List.getElem?_eq_getElem he]; rfl), (Kp.same s5).trans k6, b6, _, _, rfl, ⟨_, mq, rfl⟩⟩
        rintro σ H5 ⟨k5, b5, z', x10', rfl, hz'⟩
        have m5 := k5 _ _ m4 hmx
        refine ⟨_, rfl, .inl ⟨rfl, _, SqL.of m5⟩, _, rfl, m, _, _, rfl, rfl, m5, by rw [List.length_map]; exact lt_line (by omega), _, rfl, _, _, rfl, rfl, ?_⟩
        refine ⟨a + 1, _, _, _, _, ws ++ [z'], rfl, (k04.trans k5).upd_own hm0, b5.upd_ne hmx, by rw [upd_same, List.map_append]; rfl, by rw [upd_ne nDm]; exact k5 _ _ d4 nD3, (r4'.kp b4 k5).updl nrm m5, by rw [List.length_append]; show _ + 1 ≤ _; omega, fun y hy => ?_, fun h => by omega, fun _ => by rw [List.length_append]; show 1 ≤ _ + 1; omega⟩
        rcases List.mem_append.mp hy with hy | hy
        · exact wk y hy
        · rw [List.mem_singleton.mp hy]
          exact hz'
    · rintro σ H3 ⟨a, x7, x8, x9, x10, ws, rfl, k3, b3, m3, d3, r3, wl, wk, a0, w1⟩
      have h1 := hl.1
      refine ⟨_, rfl, m, _, rfl, .inl ⟨SqL.of m3, fun q hq => ?_⟩⟩
      have s4 := (Same.refl H3).upd_new (o := .tup (ws.map V.str)) hq
      exact key _ q ws (k3.trans (Kp.same s4)) (b3.same s4) (.of upd_same) ⟨w1 h1, by omega, wk⟩
end
end Sh
end
section
set_option Elab.async false
set_option linter.all false
set_option maxRecDepth 100000
set_option maxHeartbeats 4000000
namespace Sh
open PySem PySem.Spec PyProof.Rows L2
open C8 (pss_cut tCut)
open Evl (ixN_nat)
def spSpoilt51 : Sp := fun vs H Q _ => ∃ (x r p : Addr) (rows : List Row) (l : List Str), vs = [.ref x, .ref r, .ref p] ∧ BxAt H x ∧ RowsAt H r rows ∧ ROk 4 rows ∧ Tq H p (sV l) ∧ 1 ≤ l.length ∧ l.length ≤ 1809 ∧ ∀ (H' : Hp) (p' : Addr) (l' : List Str), Kp x H H' → BxAt H' x → Tq H' p' (sV l') → l'.length ≤ 1810 → Q (.ref p') H'
def fltI (rows : List Row) (l : List Str) : Int := match fault rows false l with
  | some i => ((i : Nat) : Int)
  | none => -1
def spFault51 : Sp := fun vs H Q _ => ∃ (ar p : Addr) (rows : List Row) (l : List Str), vs = [.ref ar, .ref p] ∧ H ar = some (.dK (wL rows)) ∧ ROk 4 rows ∧ Tq H p (sV l) ∧ l.length ≤ 2000 ∧ Q (.int (fltI rows l)) H
theorem take_sV (l : List Str) (k : Nat) : (sV l).take k = sV (l.take k) := by unfold sV; rw [List.map_take]
theorem drop_sV (l : List Str) (k : Nat) : (sV l).drop k = sV (l.drop k) := by unfold sV; rw [List.map_drop]
abbrev N_law_spoilt : List Str := ["box", "kinds", "plant", "way", "place", "word"]
theorem sc_law_spoilt : FnScope N_law_spoilt ["box", "kinds", "plant"] (defScope s_law_spoilt) := ⟨rfl, rfl, rfl, by decide +kernel, rfl, by decide +kernel, by decide +kernel⟩
abbrev N_law_fault : List Str := ["arity", "plant", "gap", "place"]
theorem sc_law_fault : FnScope N_law_fault ["arity", "plant"] (defScope s_law_fault) := ⟨rfl, rfl, rfl, by decide +kernel, rfl, by decide +kernel, by decide +kernel⟩
section
variable {P : Program} {w : World} {K : PySem.W.Frag} {mg : Str → Option Value} {base : Heap}
theorem ok_fault51 (T : Bl mg) (D : Def0 K mg "_law_fault" s_law_fault) : DefOk P w K mg base CX0 1 "_law_fault" spFault51 := by
  refine D.ok sc_law_fault (fun vs H Q E h => ?_) (fun _ _ _ _ _ _ us hl => match us, hl with | [_, _], _ => rfl) (fun f cdv A outer s' H vs Q E hr h => ?_)
  · obtain ⟨ar, p, rows, l, rfl, _⟩ := h
    rfl
  · obtain ⟨ar, p, rows, l, rfl, har, R, hp, hl, key⟩ := h
    have hu := hu_of hr
    refine ⟨_, (pss_cons (ps_set (i := 2) sc_law_fault.nd rfl (Or.inl rfl) pe_int)
      (pss_cons (ps_for PassesOwn.never rfl (pi_range1 (by rfl) T.b_range (pa_cons (pe_callB call_len_seq (by rfl) T.b_len boot_len (pa_cons (pv 1) pa_nil)) pa_nil)) (pg_name (i := 3) sc_law_fault.nd rfl (Or.inl rfl))
        (pss_cons (ps_if (PW.pt (pw_or (pt_cmpR op_eq (pv 2) pe_int (nomark _)) (pw_or1 (pt_cmp (pc_dnotin hu (pe_ix ix_tup (pv 1) (pv 3) (fun _ _ => rfl)) (pv 0))))))
          (pss_one (ps_ret (pv 3)))
          pss_nil)
        (pss_one (ps_set (i := 2) sc_law_fault.nd rfl (Or.inl rfl) (pe_op op_add (pe_op op_sub (pv 2) pe_int) (pe_dget hu (pv 0) (pe_ix ix_tup (pv 1) (pv 3) (fun _ _ => rfl)) (fun _ _ => rfl)))))))
      (pss_cons (ps_if (pt_cmpR op_gt (pv 2) pe_int (nomark _))
        (pss_one (ps_ret (pe_callB call_len_seq (by rfl) T.b_len boot_len (pa_cons (pv 1) pa_nil))))
        pss_nil)
      (pss_one (ps_ret (pe_un un_neg pe_int)))))), ?_⟩
    refine ⟨_, rfl, p, _, rfl, .inr hp.sq, _, rfl, by omega, by rw [sV_len]; omega, ?_⟩
    rw [sV_len, Int.toNat_natCast]
    refine for_range (n := l.length) (fun i σ H' => H' = H ∧ ∃ (g : Nat) (x3 : Option V), σ = [some (.ref ar), some (.ref p), some (.int (g : Nat)), x3] ∧ fl (wO rows false) (l.drop i) g i = fault rows false l) ⟨rfl, 1, none, rfl, rfl⟩ ?_ ?_
    · rintro i σ H1 hi ⟨e1, g, x3, rfl, hf⟩
      obtain rfl : H = H1 := e1.symm
      have e0 : (0 : Int) + (i : Nat) = ((i : Nat) : Int) := by omega
      rw [e0]
      rw [List.drop_eq_getElem_cons hi] at hf
      refine ⟨_, rfl, rfl, _, rfl, ite2 (fun c => ?_) (fun c => ?_)⟩
      · have hg : g = 0 := by
          have := of_decide_eq_true c
          injection this with this
          omega
        subst hg
        have hf : some i = fault rows false l := hf
        unfold fltI at key
        rw [← hf] at key
        exact ⟨_, rfl, key⟩
      obtain ⟨m, rfl⟩ : ∃ m, g = m + 1 := ⟨g - 1, by
        have : g ≠ 0 := fun q => c (by rw [q]; exact decide_eq_true rfl)
        omega⟩
      have hf : (match wO rows false l[i] with | none => some i | some k => fl (wO rows false) (l.drop (i + 1)) (m + k) (i + 1)) = fault rows false l := hf
      refine ⟨_, rfl, _, rfl, p, _, _, _, rfl, rfl, hp.sq, at_ofG (j := i) rfl (sV_at hi), _, rfl, ar, _, rfl, DGet.k (k := .inr l[i]) har, _, rfl, ?_⟩
      rcases nm_case R l[i] with q | q
      · rw [q.2.2.1]
        refine ifp (by decide) ?_
        unfold wO at hf
        rw [if_neg (by simp), if_pos (show nmO rows l[i] < 0 by omega)] at hf
        unfold fltI at key
        rw [← hf] at key
        exact ⟨_, rfl, key⟩
      · rw [q.2.2.1]
        refine ifn (by simp) ?_
        unfold wO at hf
        rw [if_neg (by simp), if_neg (show ¬ nmO rows l[i] < 0 by omega)] at hf
        have g0 := DGet.k (k := .inr l[i]) har
        rw [q.2.2.1] at g0
        refine ⟨_, rfl, _, _, rfl, rfl, _, rfl, _, rfl, _, rfl, p, _, _, _, rfl, rfl, hp.sq, at_ofG (j := i) rfl (sV_at hi), ar, _, rfl, g0, _, _, rfl, rfl, rfl, m + wR rows l[i], some (.int ((i : Nat) : Int)), ?_, hf⟩
        have e2 : ((m + 1 : Nat) : Int) - 1 + ((wR rows l[i] : Nat) : Int) = ((m + wR rows l[i] : Nat) : Int) := by omega
        rw [← e2]
        rfl
    · rintro σ H1 ⟨e1, g, x3, rfl, hf⟩
      obtain rfl : H = H1 := e1.symm
      rw [List.drop_length] at hf
      cases g with
      | zero =>
        have hf : none = fault rows false l := hf
        unfold fltI at key
        rw [← hf] at key
        exact ⟨_, rfl, _, _, rfl, rfl, _, rfl, ifn (by simp) ⟨_, rfl, key⟩⟩
      | succ m =>
        have hf : some l.length = fault rows false l := hf
        unfold fltI at key
        rw [← hf] at key
        refine ⟨_, rfl, _, _, rfl, rfl, _, rfl, ifp (decide_eq_true (by omega)) ⟨_, rfl, p, _, rfl, .inr hp.sq, ?_⟩⟩
        rw [sV_len]
        exact key
theorem ok_spoilt51 (T : Bl mg) (c_law_pick : DefOk P w K mg base CX0 1 "_law_pick" spPick51) (D : Def0 K mg "_law_spoilt" s_law_spoilt) : DefOk P w K mg base CX0 2 "_law_spoilt" spSpoilt51 := by
  refine D.ok sc_law_spoilt (fun vs H Q E h => ?_) (fun _ _ _ _ _ _ us hl => match us, hl with | [_, _, _], _ => rfl) (fun f cdv A outer s' H vs Q E hr h => ?_)
  · obtain ⟨x, r, p, rows, l, rfl, _⟩ := h
    rfl
  · obtain ⟨x, r, p, rows, l, rfl, hx, hR, R, hp, h1, hl, key⟩ := h
    have r1 := R.pos
    have r4 := R.len
    refine ⟨_, (pss_cons (ps_set (i := 3) sc_law_spoilt.nd rfl (Or.inl rfl) (pe_d c_law_pick (hr.mono (by decide)) pass0 (pa_cons (pv 0) (pa_cons pe_int pa_nil))))
      (pss_cons (ps_set (i := 4) sc_law_spoilt.nd rfl (Or.inl rfl) (pe_d c_law_pick (hr.mono (by decide)) pass0 (pa_cons (pv 0) (pa_cons (pe_callB call_len_seq (by rfl) T.b_len boot_len (pa_cons (pv 2) pa_nil)) pa_nil))))
      (pss_cons (ps_set (i := 5) sc_law_spoilt.nd rfl (Or.inl rfl) (pe_ix ix_tup (pe_ix ix_list (pv 1) (pe_d c_law_pick (hr.mono (by decide)) pass0 (pa_cons (pv 0) (pa_cons (pe_callB call_len_seq (by rfl) T.b_len boot_len (pa_cons (pv 1) pa_nil)) pa_nil))) (fun _ _ => rfl)) pe_int (fun _ _ => rfl)))
      (pss_cut (ps_if (pt_cmpR op_eq (pv 3) pe_int (nomark _))
        (pss_one (ps_set (i := 5) sc_law_spoilt.nd rfl (Or.inl rfl) (pe_ix ix_list (pe_lst (pa_cons pe_str (pa_cons pe_str (pa_cons pe_str (pa_cons (pe_op op_add_str (pv 5) pe_str) pa_nil))))) (pe_d c_law_pick (hr.mono (by decide)) pass0 (pa_cons (pv 0) (pa_cons pe_int pa_nil))) (fun _ _ => rfl))))
        pss_nil)
      (pss_cons (ps_if (pt_cmpR op_eq (pv 3) pe_int (nomark _))
        (pss_one (ps_ret (pe_slice sl_tupA (pv 2) po_none (po_some (pv 4)))))
        pss_nil)
      (pss_cons (ps_if (pt_cmpR op_eq (pv 3) pe_int (nomark _))
        (pss_one (ps_ret (pe_op op_catA (pv 2) (pe_tup (pa_cons (pv 5) pa_nil)))))
        pss_nil)
      (pss_one (ps_ret (pe_op op_catA (pe_op op_catA (pe_slice sl_tupA (pv 2) po_none (po_some (pv 4))) (pe_tup (pa_cons (pv 5) pa_nil))) (pe_slice sl_tupA (pv 2) (po_some (pe_op op_add (pv 4) pe_int)) po_none)))))))))), ?_⟩
    refine ⟨_, rfl, x, 4, rfl, hx, by decide, by decide, fun H1 way k1 b1 _ _ => ?_⟩
    have p1 := tqk hp hx k1
    refine ⟨_, rfl, _, rfl, p, _, rfl, .inr p1.sq, ?_⟩
    rw [sV_len]
    refine ⟨x, _, rfl, b1, by omega, by omega, fun H2 pl k2 b2 pl0 pl1 => ?_⟩
    have k02 := k1.trans k2
    have R2 := hR.kp hx k02
    obtain ⟨xs2, y2, yl2⟩ := R2.len (K := K)
    refine ⟨_, rfl, _, rfl, _, rfl, r, _, rfl, .inl y2, ?_⟩
    rw [yl2]
    refine ⟨x, _, rfl, b2, by omega, by omega, fun H3 d k3 b3 d0 d1 => ?_⟩
    obtain ⟨ts3, t3, q3, f1, f2, f3, f4⟩ := (R2.kp b2 k3).pick d d0 d1
    refine ⟨r, _, _, _, rfl, rfl, SqL.of f1, f2, t3, _, _, _, rfl, rfl, SqT.of f3, atI_nat (j := 0) rfl, ?_⟩
    have k03 := k02.trans k3
    have w8 := (TOk.nm (R.nm _ f4)).1
    have zl : q3.1.length + ("Z" : Str).length ≤ sizeLine := by
      have e : ("Z" : Str).length = 1 := by decide +kernel
      rw [e, str_len]
      exact le_line (by omega)
    -- way == 0
    refine ⟨fun σ H' => Kp x H H' ∧ BxAt H' x ∧ ∃ (z : Str), σ = [some (.ref x), some (.ref r), some (.ref p), some (.int way), some (.int pl), some (.str z)], ?_, ?_⟩
    · refine ⟨_, rfl, rfl, _, rfl, ite2 (fun _ => ?_) (fun _ => ⟨k03, b3, _, rfl⟩)⟩
      refine ⟨_, rfl, _, _, rfl, rfl, zl, le_line (show 4 ≤ 10000000 by decide), fun m hm => ?_⟩
      have nm := b3.ne hm
      have s4 := (Same.refl H3).upd_new (o := .lst [V.str "*", .str "Z", .str "", .str (q3.1 ++ ("Z" : Str))]) hm
      have m4 : (upd H3 m (.lst [V.str "*", .str "Z", .str "", .str (q3.1 ++ ("Z" : Str))])) m = some (.lst [V.str "*", .str "Z", .str "", .str (q3.1 ++ ("Z" : Str))]) := upd_same
      refine ⟨_, rfl, x, 4, rfl, b3.same s4, by decide, by decide, fun H5 e k5 b5 e0 e1 => ?_⟩
      obtain ⟨z, hz⟩ : ∃ z : Str, ([V.str "*", .str "Z", .str "", .str (q3.1 ++ ("Z" : Str))] : List V)[e.toNat]? = some (.str z) := by
        rcases (show e.toNat = 0 ∨ e.toNat = 1 ∨ e.toNat = 2 ∨ e.toNat = 3 by omega) with h | h | h | h <;> rw [h]
        · exact ⟨_, rfl⟩
        · exact ⟨_, rfl⟩
        · exact ⟨_, rfl⟩
        · exact ⟨_, rfl⟩
      exact ⟨m, _, _, _, rfl, rfl, SqL.of (k5 _ _ m4 nm), at_ofG (j := e.toNat) (by omega) hz, (k03.trans (Kp.same s4)).trans k5, b5, z, rfl⟩
    rintro σ H4 ⟨k4, b4, z, rfl⟩
    have p4 := tqk hp hx k4
    have ek : pl = ((pl.toNat : Nat) : Int) := by omega
    have lek : pl.toNat ≤ (sV l).length := by rw [sV_len]; omega
    have out : ∀ {H' : Hp} {q : Addr} {m : List Str}, Same H4 H' → Tq H' q (sV m) → m.length ≤ 1810 → Q (.ref q) H' := fun s h hm => key _ _ _ (k4.trans (Kp.same s)) (b4.same s) h hm
    refine ⟨_, rfl, rfl, _, rfl, ite2 (fun _ => ?_) (fun _ => ?_)⟩
    · refine ⟨_, rfl, _, rfl, _, rfl, ?_⟩
      rw [ek]
      refine slA_lo p4 lek fun q H5 s5 t5 => ?_
      rw [take_sV] at t5
      exact out s5 t5 (by rw [List.length_take]; omega)
    refine ⟨_, rfl, rfl, _, rfl, ite2 (fun _ => ?_) (fun _ => ?_)⟩
    · refine ⟨_, rfl, _, rfl, le_line (show 1 ≤ 10000000 by decide), fun a ha => ?_⟩
      have s5 := (Same.refl H4).upd_new (o := .tup [.str z]) ha
      have t5 : Tq (upd H4 a (.tup [.str z])) a (sV [z]) := .of upd_same
      refine catA_s (p4.same s5) t5 (by show _ + 1 ≤ _; omega) fun q H6 s6 t6 => ?_
      exact out (s5.trans s6) t6 (by rw [List.length_append]; show _ + 1 ≤ _; omega)
    · refine ⟨_, rfl, _, rfl, _, rfl, ?_⟩
      rw [ek]
      refine slA_lo p4 lek fun q H5 s5 t5 => ?_
      rw [take_sV] at t5
      refine ⟨_, rfl, le_line (show 1 ≤ 10000000 by decide), fun a ha => ?_⟩
      have s6 := (Same.refl H5).upd_new (o := .tup [.str z]) ha
      have t6 : Tq (upd H5 a (.tup [.str z])) a (sV [z]) := .of upd_same
      generalize upd H5 a (.tup [.str z]) = H6 at s6 t6
      refine catA_s (t5.same s6) t6 (by rw [List.length_take]; show _ + 1 ≤ _; omega) fun q7 H7 s7 t7 => ?_
      have s47 := (s5.trans s6).trans s7
      refine ⟨_, rfl, _, rfl, _, _, rfl, rfl, _, rfl, ?_⟩
      have ek1 : ((pl.toNat : Nat) : Int) + 1 = ((pl.toNat + 1 : Nat) : Int) := by omega
      rw [ek1]
      unfold tNoPart
      refine slA_hi (i := pl.toNat + 1) (p4.same s47) (by rw [sV_len]; omega) fun q8 H8 s8 t8 => ?_
      rw [drop_sV] at t8
      refine catA_s (t7.same s8) t8 (by rw [List.length_append, List.length_take, List.length_drop]; show _ + 1 + _ ≤ _; omega) fun q9 H9 s9 t9 => ?_
      exact out ((s47.trans s8).trans s9) t9 (by rw [List.length_append, List.length_append, List.length_take, List.length_drop]; show _ + 1 + _ ≤ _; omega)
end
end Sh
end
section
set_option Elab.async false
set_option linter.all false
set_option maxRecDepth 100000
set_option maxHeartbeats 4000000
namespace Pr
theorem forest_uniq {α : Type} (w : α → Nat) : ∀ (l : List α) (a b : Nat), Mth.forest w l a = true → Mth.forest w l b = true → a = b
  | [], a, b, h, g => by rw [Mth.forest_nil w h, Mth.forest_nil w g]
  | k :: r, 0, b, h, g => by cases h
  | k :: r, a + 1, 0, h, g => by cases g
  | k :: r, a + 1, b + 1, h, g => by
    have := forest_uniq w r (w k + a) (w k + b) h g
    omega
/-- f (a + n - 1), .., f a -/
def sd (f : Nat → Int) : Nat → Nat → List Int
  | _, 0 => []
  | a, n + 1 => sd f (a + 1) n ++ [f a]
theorem sd_len (f : Nat → Int) : ∀ a n, (sd f a n).length = n
  | _, 0 => rfl
  | a, n + 1 => by
    rw [sd, List.length_append, sd_len f (a + 1) n]
    rfl
theorem sd_eq {f g : Nat → Int} : ∀ (n a b : Nat), (∀ j, j < n → f (a + j) = g (b + j)) → sd f a n = sd g b n
  | 0, _, _, _ => rfl
  | n + 1, a, b, h => by
    rw [sd, sd, sd_eq n (a + 1) (b + 1) (fun j hj => by
      have := h (j + 1) (by omega)
      rw [show a + 1 + j = a + (j + 1) by omega, show b + 1 + j = b + (j + 1) by omega]
      exact this)]
    have := h 0 (by omega)
    rw [Nat.add_zero, Nat.add_zero] at this
    rw [this]
end Pr
namespace Sh
open PySem PySem.Spec PyProof.Rows L2
open C8 (pss_cut tCut)
open Evl (ixN_nat)
/-- for each place where its branches begin -/
structure BelAt (H : Hp) (D : Addr) (rows : List Row) (l : List Str) (ds : List Addr) (q : Nat) : Prop where
  at_ : H D = some (.lst (ds.map V.ref))
  len : ds.length = l.length
  nd : ds.Nodup
  hi : ∀ (i : Nat) (a : Addr) (z : Str), q ≤ i → ds[i]? = some a → l[i]? = some z → H a = some (.lst ((Mth.starts (wR rows) l i (wR rows z)).map V.int))
  lo : ∀ (i : Nat) (a : Addr), i < q → ds[i]? = some a → H a = some (.lst [])
/-- while place p takes its branches, t of them so far -/
structure BelIn (H : Hp) (D : Addr) (rows : List Row) (l : List Str) (ds : List Addr) (p t : Nat) : Prop where
  at_ : H D = some (.lst (ds.map V.ref))
  hi : ∀ (i : Nat) (a : Addr) (z : Str), p + 1 ≤ i → ds[i]? = some a → l[i]? = some z → H a = some (.lst ((Mth.starts (wR rows) l i (wR rows z)).map V.int))
  lo : ∀ (i : Nat) (a : Addr), i < p → ds[i]? = some a → H a = some (.lst [])
  mid : ∀ (a : Addr), ds[p]? = some a → H a = some (.lst ((Mth.starts (wR rows) l p t).map V.int))
def BelowAt (H : Hp) (D : Addr) (rows : List Row) (l : List Str) : Prop := ∃ ds, BelAt H D rows l ds 0
theorem BelowAt.same {H H' : Hp} {D : Addr} {rows : List Row} {l : List Str} (x : BelowAt H D rows l) (s : Same H H') : BelowAt H' D rows l := by
  obtain ⟨ds, h1, h2, h3, h4, h5⟩ := x
  exact ⟨ds, s _ _ h1, h2, h3, fun i a z a1 a2 a3 => s _ _ (h4 i a z a1 a2 a3), fun i a a1 a2 => s _ _ (h5 i a a1 a2)⟩
def spBelow51 : Sp := fun vs H Q _ => ∃ (ar p : Addr) (rows : List Row) (l : List Str), vs = [.ref ar, .ref p] ∧ H ar = some (.dK (wL rows)) ∧ ROk 4 rows ∧ Tq H p (sV l) ∧ PlantOk rows l ∧ ∀ (H' : Hp) (D : Addr), Same H H' → BelowAt H' D rows l → Q (.ref D) H'
abbrev N_law_below : List Str := ["arity", "plant", "found", "stack", "place", "turn", "entry"]
theorem sc_law_below : FnScope N_law_below ["arity", "plant"] (defScope s_law_below) := ⟨rfl, rfl, rfl, by decide +kernel, rfl, by decide +kernel, by decide +kernel⟩
section
variable {P : Program} {w : World} {K : PySem.W.Frag} {mg : Str → Option Value} {base : Heap}
theorem ok_below51 (T : Bp mg) (D : Def0 K mg "_law_below" s_law_below) : DefOk P w K mg base CX0 1 "_law_below" spBelow51 := by
  refine D.ok sc_law_below (fun vs H Q E h => ?_) (fun _ _ _ _ _ _ us hl => match us, hl with | [_, _], _ => rfl) (fun f cdv A outer s' H vs Q E hr h => ?_)
  · obtain ⟨ar, p, rows, l, rfl, _⟩ := h
    rfl
  · obtain ⟨ar, p, rows, l, rfl, har, R, hp, O, key⟩ := h
    have hu := hu_of hr
    have sz := O.sz
    refine ⟨_, (pss_cons (ps_setLc (i := 2) (own := [("entry", 6)]) (g := (gName 6)) (tt := tYes) rfl sc_law_below.nd rfl rfl (sw_true rfl rfl rfl (by decide +kernel)) (pi_tup (pv 1)) (blkOk_by (N := N_law_below) (sc := defScope s_law_below) (by decide +kernel)) (fun _ _ _ _ _ => (pg_name (i := 6) sc_law_below.nd rfl (Or.inl rfl))) (fun _ _ _ _ _ => pts_nil) (fun _ _ _ _ _ => (pe_lst pa_nil)))
      (pss_cons (ps_set (i := 3) sc_law_below.nd rfl (Or.inl rfl) (pe_lst pa_nil))
      (pss_cons (ps_for PassesOwn.never rfl (pi_revR (by rfl) T.b_reversed (prg_1 (by rfl) T.b_range (pe_callB call_len_seq (by rfl) T.b_len boot_len (pa_cons (pv 1) pa_nil)))) (pg_name (i := 4) sc_law_below.nd rfl (Or.inl rfl))
        (pss_cons (ps_for PassesOwn.never rfl (pi_range1 (by rfl) T.b_range (pa_cons (pe_dget hu (pv 0) (pe_ix ix_tup (pv 1) (pv 4) (fun _ _ => rfl)) (fun _ _ => rfl)) pa_nil)) (pg_name (i := 5) sc_law_below.nd rfl (Or.inl rfl))
          (pss_one (ps_expr (pe_bm PySem.F.plainAttrs_list PySem.F.slot_list_append PySem.F.type_list_append mt_append (pe_ix ix_list (pv 2) (pv 4) (fun _ _ => rfl)) (pa_cons (pe_bm0 PySem.F.plainAttrs_list PySem.F.slot_list_pop PySem.F.type_list_pop mt_pop (pv 3)) pa_nil)))))
        (pss_one (ps_expr (pe_bm PySem.F.plainAttrs_list PySem.F.slot_list_append PySem.F.type_list_append mt_append (pv 3) (pa_cons (pv 4) pa_nil))))))
      (pss_one (ps_ret (pv 2)))))), ?_⟩
    refine ⟨_, rfl, p, rfl, ⟨_, hp.sq⟩, fun D hD => lc_it (walk_tup (xs := sV l)) (fun i H' => Same H H' ∧ ∃ ds : List Addr, H' D = some (.lst (ds.map V.ref)) ∧ ds.length = i ∧ ds.Nodup ∧ ∀ a ∈ ds, H a = none ∧ H' a = some (.lst []) ∧ a ≠ D) ⟨(Same.refl H).upd_new hD, [], upd_same, rfl, List.nodup_nil, fun a h => nomatch h⟩ (fun i H' _ ⟨q, _⟩ => (hp.same q).sq) ?_ ?_⟩
    · rintro i v H1' H1 hi ⟨s1, ds, d1, dl, nd, da⟩ ⟨rfl, hv⟩
      rw [sV_len] at hi
      refine ⟨rfl, le_line (show 0 ≤ 10000000 by decide), fun a ha => ?_⟩
      have naD : a ≠ D := fun e => by rw [e, d1] at ha; cases ha
      have ha0 : H a = none := by
        cases e : H a with
        | none => rfl
        | some o => rw [s1 _ _ e] at ha; cases ha
      have nad : ∀ b ∈ ds, b ≠ a := fun b hb e => by
        have := (da b hb).2.1
        rw [e, ha] at this
        cases this
      refine ⟨_, by rw [upd_ne (Ne.symm naD)]; exact d1, by rw [List.length_map, dl]; exact lt_line (by omega), (s1.upd_new ha).upd_own hD, ds ++ [a], by rw [upd_same, List.map_append]; rfl, by rw [List.length_append, dl]; rfl, ?_, fun b hb => ?_⟩
      · exact List.nodup_append.mpr ⟨nd, by simp, fun b hb c hc => by
          rw [List.mem_singleton.mp hc]
          exact nad b hb⟩
      · rcases List.mem_append.mp hb with hb | hb
        · obtain ⟨b1, b2, b3⟩ := da b hb
          exact ⟨b1, by rw [upd_ne b3, upd_ne (nad b hb)]; exact b2, b3⟩
        · rw [List.mem_singleton.mp hb]
          exact ⟨ha0, by rw [upd_ne naD, upd_same], naD⟩
    rintro H1 ⟨s1, ds, d1, dl, nd, da⟩
    rw [sV_len] at dl
    refine ⟨le_line (show 0 ≤ 10000000 by decide), fun st hst => ?_⟩
    have st0 : H st = none := by
      cases e : H st with
      | none => rfl
      | some o => rw [s1 _ _ e] at hst; cases hst
    have nsD : st ≠ D := fun e => by rw [e, d1] at hst; cases hst
    have nsd : ∀ a ∈ ds, a ≠ st := fun a ha e => by
      have := (da a ha).2.1
      rw [e, hst] at this
      cases this
    have s2 : Same H (upd H1 st (.lst [])) := s1.upd_new hst
    have g2 : (upd H1 st (.lst [])) st = some (.lst ((Pr.sd (fun j => ((Mth.nxs (wR rows) l l.length j : Nat) : Int)) 0 0).map V.int)) := upd_same
    have B2 : BelAt (upd H1 st (.lst [])) D rows l ds l.length := ⟨by rw [upd_ne (Ne.symm nsD)]; exact d1, dl, nd, fun i a z h1 _ h3 => by
      have := (List.getElem?_eq_some_iff.mp h3).1
      omega, fun i a _ h2 => by
      have hm := List.mem_of_getElem? h2
      rw [upd_ne (nsd a hm)]
      exact (da a hm).2.1⟩
    generalize upd H1 st (.lst []) = H2 at s2 g2 B2
    refine ⟨_, rfl, p, _, rfl, .inr (hp.same s2).sq, ?_⟩
    rw [sV_len]
    refine ⟨_, rfl, by omega, by omega, by omega, by omega, ?_⟩
    rw [show ((((l.length : Nat) : Int)) - 0).toNat = l.length by omega]
    refine for_rangeC (n := l.length) (fun i σ H' => ∃ (m : Nat) (x4 x5 : Option V), σ = [some (.ref ar), some (.ref p), some (.ref D), some (.ref st), x4, x5, none] ∧ Same H H' ∧ Mth.Fst (wR rows) l (l.length - i) m ∧ H' st = some (.lst ((Pr.sd (fun j => ((Mth.nxs (wR rows) l (l.length - i) j : Nat) : Int)) 0 m).map V.int)) ∧ BelAt H' D rows l ds (l.length - i))
      ⟨0, none, none, rfl, s2, ⟨Nat.le_refl _, by rw [Nat.sub_zero, List.drop_length]; rfl⟩, g2, B2⟩ ?_ ?_
    · rintro i σ H3 hi ⟨m, x4, x5, rfl, s3, F3, g3, B3⟩
      obtain ⟨q, hq⟩ : ∃ q, l.length - i = q + 1 := ⟨l.length - i - 1, by omega⟩
      have hq2 : l.length - (i + 1) = q := by omega
      have hql : q < l.length := by omega
      rw [hq] at F3 g3 B3
      rw [hq2]
      have ev : (0 : Int) + ((l.length : Nat) : Int) - 1 + ((i : Nat) : Int) * -1 = ((q : Nat) : Int) := by omega
      rw [ev]
      have hz := List.getElem?_eq_getElem hql
      have hk := O.k _ (List.getElem_mem hql)
      generalize l[q] = z at hz hk
      obtain ⟨k0, Fq⟩ := Mth.Fst.all (wR rows) O.f q (by omega)
      obtain ⟨m0, rfl⟩ := Fq.pos (wR rows) hql
      have Fq1 := Fq.in (wR rows) hz
      have em : wR rows z + m0 = m := Pr.forest_uniq (wR rows) _ _ _ Fq1.2 F3.2
      have gv := DGet.k (k := .inr z) (s3 _ _ har)
      rw [val_wL R hk] at gv
      have hzv : (sV l)[q]? = some (.str z) := by
        unfold sV
        rw [List.getElem?_map, hz]
        rfl
      have w3 := wR_le R z
      refine ⟨_, rfl, _, rfl, _, rfl, p, _, _, _, rfl, rfl, (hp.same s3).sq, at_ofG (j := q) rfl hzv, ar, _, rfl, gv, _, rfl, by omega, by omega, ?_⟩
      rw [Int.toNat_natCast]
      have hqd : q < ds.length := by rw [dl]; exact hql
      have hda := List.getElem?_eq_getElem hqd
      generalize had : ds[q] = a at hda
      have am := List.mem_of_getElem? hda
      have naD : a ≠ D := (da a am).2.2
      have nas : a ≠ st := nsd a am
      refine for_range (n := wR rows z) (fun t σ H' => ∃ (x5 : Option V), σ = [some (.ref ar), some (.ref p), some (.ref D), some (.ref st), some (.int (q : Nat)), x5, none] ∧ Same H H' ∧ H' st = some (.lst ((Pr.sd (fun j => ((Mth.nxs (wR rows) l (q + 1) j : Nat) : Int)) t (m - t)).map V.int)) ∧ BelIn H' D rows l ds q t)
        ⟨x5, rfl, s3, g3, B3.at_, B3.hi, fun i b h => B3.lo i b (by omega), fun b hb => B3.lo q b (by omega) hb⟩ ?_ ?_
      · rintro t σ H4 ht ⟨x5, rfl, s4, g4, B4⟩
        obtain ⟨m4, hm4⟩ : ∃ m4, m - t = m4 + 1 := ⟨m - t - 1, by omega⟩
        rw [hm4, Pr.sd] at g4
        have B4m := B4.mid a hda
        refine ⟨_, rfl, _, rfl, D, _, _, _, rfl, rfl, SqL.of B4.at_, at_ofG (j := q) rfl (by rw [List.getElem?_map, hda]; rfl), ?_⟩
        have len4 : ((Pr.sd (fun j => ((Mth.nxs (wR rows) l (q + 1) j : Nat) : Int)) (t + 1) m4 ++ [((Mth.nxs (wR rows) l (q + 1) t : Nat) : Int)]).map V.int).length = m4 + 1 := by
          rw [List.length_map, List.length_append, Pr.sd_len]
          rfl
        have dl4 : ((Pr.sd (fun j => ((Mth.nxs (wR rows) l (q + 1) j : Nat) : Int)) (t + 1) m4 ++ [((Mth.nxs (wR rows) l (q + 1) t : Nat) : Int)]).map V.int).dropLast = (Pr.sd (fun j => ((Mth.nxs (wR rows) l (q + 1) j : Nat) : Int)) (t + 1) m4).map V.int := by
          rw [List.map_append]
          exact List.dropLast_concat
        refine ⟨.inl ⟨rfl, _, SqL.of B4m⟩, _, rfl, .inl ⟨rfl, _, SqL.of g4⟩, st, _, .int ((Mth.nxs (wR rows) l (q + 1) t : Nat) : Int), rfl, rfl, g4, ?_, a, _, _, rfl, rfl, by rw [upd_ne nas]; exact B4m, ?_, ?_⟩
        · rw [len4, List.map_append, List.getElem?_append_right (by rw [List.length_map, Pr.sd_len]; omega), List.length_map, Pr.sd_len, show m4 + 1 - 1 - m4 = 0 by omega]
          rfl
        · rw [List.length_map, Mth.starts_len]
          exact lt_line (by omega)
        rw [dl4]
        have keep : ∀ (j : Nat) (b : Addr), j ≠ q → ds[j]? = some b → ∀ o : HO, (upd (upd H4 st (.lst ((Pr.sd (fun j => ((Mth.nxs (wR rows) l (q + 1) j : Nat) : Int)) (t + 1) m4).map V.int))) a o) b = H4 b := fun j b hj hb o => by
          have nba : b ≠ a := fun e => by
            rw [e] at hb
            obtain ⟨l1, e1⟩ := List.getElem?_eq_some_iff.mp hb
            obtain ⟨l2, e2⟩ := List.getElem?_eq_some_iff.mp hda
            exact hj ((List.getElem_inj nd).mp (e1.trans e2.symm))
          rw [upd_ne nba, upd_ne (nsd b (List.mem_of_getElem? hb))]
        refine ⟨_, rfl, (s4.upd_own st0).upd_own (da a am).1, ?_, ?_⟩
        · rw [upd_ne (Ne.symm nas), upd_same, show m - (t + 1) = m4 by omega]
        · refine ⟨by rw [upd_ne (Ne.symm naD), upd_ne (Ne.symm nsD)]; exact B4.at_, fun j b y h1 h2 h3 => by rw [keep j b (by omega) h2]; exact B4.hi j b y h1 h2 h3, fun j b h1 h2 => by rw [keep j b (by omega) h2]; exact B4.lo j b h1 h2, fun b hb => ?_⟩
          rw [hda] at hb
          injection hb with hb
          rw [← hb, upd_same, Mth.starts_succ, List.map_append]
          rfl
      · rintro σ H4 ⟨x5, rfl, s4, g4, B4⟩
        rw [show m - wR rows z = m0 by omega] at g4
        refine ⟨_, rfl, .inl ⟨rfl, _, SqL.of g4⟩, _, rfl, st, _, _, rfl, rfl, g4, ?_, ?_⟩
        · rw [List.length_map, Pr.sd_len]
          have := Mth.forest_le (wR rows) _ _ Fq.2
          rw [List.length_drop] at this
          exact lt_line (by omega)
        refine ⟨m0 + 1, _, _, rfl, s4.upd_own st0, Fq, ?_, ?_⟩
        · rw [upd_same, Pr.sd, List.map_append]
          have e1 : Pr.sd (fun j => ((Mth.nxs (wR rows) l q j : Nat) : Int)) (0 + 1) m0 = Pr.sd (fun j => ((Mth.nxs (wR rows) l (q + 1) j : Nat) : Int)) (wR rows z) m0 := Pr.sd_eq m0 _ _ fun j hj => by
            show ((Mth.nxs (wR rows) l q (0 + 1 + j) : Nat) : Int) = ((Mth.nxs (wR rows) l (q + 1) (wR rows z + j) : Nat) : Int)
            rw [show 0 + 1 + j = j + 1 by omega, Mth.nxs_in (m := 0) (wR rows) hz j]
          have e2 : Mth.nxs (wR rows) l q 0 = q := Mth.nxs_zero (wR rows) (by omega)
          rw [e1, e2]
          rfl
        · have kp : ∀ (j : Nat) (b : Addr), ds[j]? = some b → ∀ o : HO, (upd H4 st o) b = H4 b := fun j b hb o => by rw [upd_ne (nsd b (List.mem_of_getElem? hb))]
          refine ⟨by rw [upd_ne (Ne.symm nsD)]; exact B4.at_, dl, nd, fun j b y h1 h2 h3 => ?_, fun j b h1 h2 => (kp j b h2 _).trans (B4.lo j b h1 h2)⟩
          rw [kp j b h2]
          by_cases e : j = q
          · subst e
            rw [hz] at h3
            injection h3 with h3
            rw [← h3]
            exact B4.mid b h2
          · exact B4.hi j b y (by omega) h2 h3
    · rintro σ H3 ⟨m, x4, x5, rfl, s3, F3, g3, B3⟩
      rw [Nat.sub_self] at B3
      exact ⟨_, rfl, key H3 D s3 ⟨ds, B3⟩⟩
end
end Sh
end
section
set_option Elab.async false
set_option linter.all false
set_option maxRecDepth 100000
set_option maxHeartbeats 4000000
namespace Sh
open PySem PySem.Spec PyProof.Rows L2
open C8 (pss_cut tCut)
open Evl (ixN_nat)
/-- a price or none -/
def oV : Option Int → V
  | some c => .int c
  | none => .non
def spSwapped51 : Sp := fun vs H Q _ => ∃ (p : Addr) (z y : Str) (sws : List Swap), vs = [.ref p, .str z, .str y] ∧ SwsAt H p sws ∧ Q (oV (swp sws z y)) H
def prV (s : Nat × Nat) : List V := [.int ((s.1 : Nat) : Int), .int ((s.2 : Nat) : Int)]
def prK (s : Nat × Nat) : List Key := [.inl ((s.1 : Nat) : Int), .inl ((s.2 : Nat) : Int)]
/-- the price of a tree against a tree -/
abbrev PQ (rows : List Row) (sws : List Swap) (cut : Int) (l o : List Str) (s : Nat × Nat) : Option Int := Pr.pq (wR rows) (swp sws) cut l o s.1 s.2
def spLPrice51 : Sp := fun vs H Q _ => ∃ (ar sl p u : Addr) (cut : Int) (rows : List Row) (sws : List Swap) (l o : List Str), vs = [.ref ar, .int cut, .ref sl, .ref p, .ref u] ∧ H ar = some (.dK (wL rows)) ∧ ROk 4 rows ∧ SwsAt H sl sws ∧ GoodB rows sws sws.length ∧ Tq H p (sV l) ∧ Tq H u (sV o) ∧ PlantOk rows l ∧ PlantOk rows o ∧ ∀ H', Same H H' → Q (oV (PQ rows sws cut l o (0, 0))) H'
theorem len_sizes {rows : List Row} {l : List Str} : ∀ {ps : List (Nat × Nat)}, (∀ s ∈ ps, s.1 < l.length) → ps.length ≤ Pr.sizes (wR rows) l ps
  | [], _ => Nat.le_refl _
  | s :: ps, h => by
    have h1 := Pr.size_pos (wR rows) (h s List.mem_cons_self)
    have h2 := len_sizes (rows := rows) fun t ht => h t (List.mem_cons_of_mem _ ht)
    show ps.length + 1 ≤ Pr.size (wR rows) l s.1 + Pr.sizes (wR rows) l ps
    omega
/-- the pairs, i of them worked at -/
structure PsOk (rows : List Row) (sws : List Swap) (l o : List Str) (ps : List (Nat × Nat)) (i : Nat) : Prop where
  hd : ps[0]? = some (0, 0)
  inn : ∀ s ∈ ps, s.1 < l.length ∧ s.2 < o.length
  dn : ∀ (k : Nat) (s : Nat × Nat) (z y : Str) (c : Int), k < i → ps[k]? = some s → l[s.1]? = some z → o[s.2]? = some y → swp sws z y = some c → ∀ j, j < wR rows z → (Mth.nxs (wR rows) l (s.1 + 1) j, Mth.nxs (wR rows) o (s.2 + 1) j) ∈ ps.drop (k + 1)
  sz : i + Pr.sizes (wR rows) l (ps.drop i) ≤ l.length
theorem PsOk.start {rows : List Row} {sws : List Swap} {l o : List Str} (hl : PlantOk rows l) (ho : PlantOk rows o) : PsOk rows sws l o [(0, 0)] 0 := by
  refine ⟨rfl, fun s hs => ?_, fun k s z y c h => absurd h (Nat.not_lt_zero _), ?_⟩
  · rw [List.mem_singleton.mp hs]
    exact ⟨hl.pos, ho.pos⟩
  · show 0 + (Pr.size (wR rows) l 0 + 0) ≤ l.length
    unfold Pr.size
    have := Mth.nxs_le (wR rows) l 0 1
    omega
theorem PsOk.idle {rows : List Row} {sws : List Swap} {l o : List Str} {ps : List (Nat × Nat)} {i : Nat} (x : PsOk rows sws l o ps i) (h : ps.length ≤ i) (hi : i < l.length) : PsOk rows sws l o ps (i + 1) := by
  refine ⟨x.hd, x.inn, fun k s z y c hk h1 => x.dn k s z y c ?_ h1, ?_⟩
  · have := (List.getElem?_eq_some_iff.mp h1).1
    omega
  · rw [List.drop_eq_nil_of_le (by omega)]
    show i + 1 + 0 ≤ l.length
    omega
theorem drop_one {α : Type} {l : List α} {i : Nat} {x : α} (h : l[i]? = some x) : l.drop i = x :: l.drop (i + 1) := by
  obtain ⟨hp, e⟩ := List.getElem?_eq_some_iff.mp h
  rw [List.drop_eq_getElem_cons hp, e]
theorem sizes_cons {rows : List Row} {l : List Str} (s : Nat × Nat) (ps : List (Nat × Nat)) : Pr.sizes (wR rows) l (s :: ps) = Pr.size (wR rows) l s.1 + Pr.sizes (wR rows) l ps := rfl
theorem PsOk.skip {rows : List Row} {sws : List Swap} {l o : List Str} {ps : List (Nat × Nat)} {i : Nat} {s : Nat × Nat} (x : PsOk rows sws l o ps i) (hs : ps[i]? = some s) (n : ∀ z y, l[s.1]? = some z → o[s.2]? = some y → swp sws z y = none) : PsOk rows sws l o ps (i + 1) := by
  refine ⟨x.hd, x.inn, fun k t z y c hk h1 h2 h3 h4 => ?_, ?_⟩
  · rcases Nat.lt_or_ge k i with e | e
    · exact x.dn k t z y c e h1 h2 h3 h4
    · have e : k = i := by omega
      subst e
      rw [hs] at h1
      injection h1 with h1
      subst h1
      rw [n z y h2 h3] at h4
      cases h4
  · have h := x.sz
    rw [drop_one hs, sizes_cons] at h
    have := Pr.size_pos (wR rows) (x.inn s (List.mem_of_getElem? hs)).1
    omega
theorem mem_chs {rows : List Row} {l o : List Str} {p q n : Nat} {s : Nat × Nat} : s ∈ Pr.chs (wR rows) l o p q n ↔ ∃ j, j < n ∧ s = (Mth.nxs (wR rows) l (p + 1) j, Mth.nxs (wR rows) o (q + 1) j) := by
  unfold Pr.chs
  rw [List.mem_map]
  constructor
  · rintro ⟨j, hj, e⟩
    exact ⟨j, List.mem_range.mp hj, e.symm⟩
  · rintro ⟨j, hj, e⟩
    exact ⟨j, List.mem_range.mpr hj, e.symm⟩
theorem PsOk.grow {rows : List Row} {sws : List Swap} {l o : List Str} {ps : List (Nat × Nat)} {i : Nat} {s : Nat × Nat} {z y : Str} (x : PsOk rows sws l o ps i) (hl : PlantOk rows l) (ho : PlantOk rows o) (hs : ps[i]? = some s) (hz : l[s.1]? = some z) (hy : o[s.2]? = some y) (ew : wR rows z = wR rows y) :
    PsOk rows sws l o (ps ++ Pr.chs (wR rows) l o s.1 s.2 (wR rows z)) (i + 1) := by
  have hi := (List.getElem?_eq_some_iff.mp hs).1
  refine ⟨?_, fun t ht => ?_, fun k t z' y' c hk h1 h2 h3 h4 j hj => ?_, ?_⟩
  · rw [List.getElem?_append_left (by omega)]
    exact x.hd
  · rcases List.mem_append.mp ht with ht | ht
    · exact x.inn t ht
    · obtain ⟨j, hj, rfl⟩ := mem_chs.mp ht
      exact ⟨(Mth.end_step (wR rows) hl.f hz hj).1, (Mth.end_step (wR rows) ho.f hy (by omega)).1⟩
  · have hkl : k < ps.length := by omega
    rw [List.getElem?_append_left hkl] at h1
    rw [List.drop_append_of_le_length (by omega)]
    rcases Nat.lt_or_ge k i with e | e
    · exact List.mem_append_left _ (x.dn k t z' y' c e h1 h2 h3 h4 j hj)
    · have e : k = i := by omega
      subst e
      rw [hs] at h1
      injection h1 with h1
      subst h1
      rw [hz] at h2
      injection h2 with h2
      subst h2
      exact List.mem_append_right _ (mem_chs.mpr ⟨j, hj, rfl⟩)
  · have h := x.sz
    rw [drop_one hs, sizes_cons] at h
    rw [List.drop_append_of_le_length (by omega), Pr.sizes_app]
    have := Pr.sizes_all (wR rows) (o := o) (q := s.2) hl.f hz
    omega
theorem PsOk.few {rows : List Row} {sws : List Swap} {l o : List Str} {ps : List (Nat × Nat)} {i : Nat} (x : PsOk rows sws l o ps i) : ps.length ≤ i ∨ ps.length ≤ l.length := by
  have h := len_sizes (rows := rows) (l := l) (ps := ps.drop i) fun s hs => (x.inn s (List.mem_of_mem_drop hs)).1
  have := x.sz
  rw [List.length_drop] at h
  omega
/-- what the table holds of the pairs from place m on -/
def GoodT (rows : List Row) (sws : List Swap) (cut : Int) (l o : List Str) (ps : List (Nat × Nat)) (kvs : List (List Key × V)) (m : Nat) : Prop := ∀ (k : Nat) (s : Nat × Nat), m ≤ k → ps[k]? = some s → valV kvs (prK s) = some (oV (PQ rows sws cut l o s))
theorem prK_inj {s t : Nat × Nat} (h : prK s = prK t) : s = t := by
  unfold prK at h
  injection h with h1 h2
  injection h2 with h2 _
  injection h1 with h1
  injection h2 with h2
  exact Prod.ext (by omega) (by omega)
theorem GoodT.put {rows : List Row} {sws : List Swap} {cut : Int} {l o : List Str} {ps : List (Nat × Nat)} {kvs : List (List Key × V)} {m : Nat} {s : Nat × Nat} (x : GoodT rows sws cut l o ps kvs (m + 1)) (hs : ps[m]? = some s) : GoodT rows sws cut l o ps (putK kvs (prK s) (oV (PQ rows sws cut l o s))) m := fun k t hk ht => by
  rw [valV_put]
  by_cases e : prK t = prK s
  · rw [if_pos e, prK_inj e]
  · rw [if_neg e]
    refine x k t ?_ ht
    rcases Nat.lt_or_ge m k with h | h
    · exact h
    · have h : k = m := by omega
      subst h
      rw [hs] at ht
      injection ht with ht
      exact absurd (by rw [ht]) e
abbrev N_law_swapped : List Str := ["swaps", "word", "other", "swap"]
theorem sc_law_swapped : FnScope N_law_swapped ["swaps", "word", "other"] (defScope s_law_swapped) := ⟨rfl, rfl, rfl, by decide +kernel, rfl, by decide +kernel, by decide +kernel⟩
abbrev N_law_price : List Str := ["arity", "cutting", "swaps", "plant", "other", "one", "two", "pairs", "turn", "spot", "branch", "best", "total", "part"]
theorem sc_law_price : FnScope N_law_price ["arity", "cutting", "swaps", "plant", "other"] (defScope s_law_price) := ⟨rfl, rfl, rfl, by decide +kernel, rfl, by decide +kernel, by decide +kernel⟩
section
variable {P : Program} {w : World} {K : PySem.W.Frag} {mg : Str → Option Value} {base : Heap}
theorem ok_swapped51 (T : Bl mg) (D : Def0 K mg "_law_swapped" s_law_swapped) : DefOk P w K mg base CX0 1 "_law_swapped" spSwapped51 := by
  refine D.ok sc_law_swapped (fun vs H Q E h => ?_) (fun _ _ _ _ _ _ us hl => match us, hl with | [_, _, _], _ => rfl) (fun f cdv A outer s' H vs Q E hr h => ?_)
  · obtain ⟨p, z, y, sws, rfl, _⟩ := h
    rfl
  · obtain ⟨p, z, y, sws, rfl, ⟨us, hu, hS⟩, k⟩ := h
    have ls : (us.map V.ref).length = sws.length := by rw [List.length_map, hS.1]
    refine ⟨_, (pss_cons (ps_if (pt_cmpR op_eq (pv 1) (pv 2) (nomark _))
        (pss_one (ps_ret pe_int))
        pss_nil)
      (pss_cons (ps_for PassesOwn.never rfl (pi_list (pv 0)) (pg_name (i := 3) sc_law_swapped.nd rfl (Or.inl rfl))
        (pss_one (ps_if (PW.pt (pw_and (pt_cmpR op_eq (pe_ix ix_tup (pv 3) pe_int (fun _ _ => rfl)) (pv 1) (nomark _)) (pw_and1 (pt_cmpR op_eq (pe_ix ix_tup (pv 3) pe_int (fun _ _ => rfl)) (pv 2) (nomark _)))))
          (pss_one (ps_ret (pe_ix ix_tup (pv 3) pe_int (fun _ _ => rfl))))
          pss_nil)))
      (pss_one (ps_ret pe_non)))), ?_⟩
    unfold swp at k
    refine ⟨_, rfl, _, rfl, rfl, _, rfl, ite2 (fun c => ?_) (fun c => ?_)⟩
    · have e : z = y := by
        have := of_decide_eq_true c
        injection this
      rw [if_pos e] at k
      exact k
    have ne : ¬ z = y := fun e => c (decide_eq_true (by rw [e]))
    rw [if_neg ne] at k
    refine ⟨_, rfl, p, rfl, ⟨_, SqL.of hu⟩, for_it (walk_list (xs := us.map V.ref)) (fun i σ H' => ∃ x3 : Option V, σ = [some (.ref p), some (.str z), some (.str y), x3] ∧ H' = H ∧ (sws.drop i).find? (fun q => decide (q.1 = z ∧ q.2.1 = y)) = sws.find? (fun q => decide (q.1 = z ∧ q.2.1 = y)))
      ⟨none, rfl, rfl, rfl⟩ (fun i σ H' _ ⟨_, _, e, _⟩ => by rw [e]; exact SqL.of hu) ?_ ?_⟩
    · rintro i v σ H1 H1' hi ⟨x3, rfl, e1, hf⟩ ⟨e2, hv⟩
      obtain rfl : H = H1' := (e2.trans e1).symm
      obtain ⟨t, ht, rfl⟩ := get_map hv
      have his : i < sws.length := by rw [ls] at hi; exact hi
      have hq := List.getElem?_eq_getElem his
      have hsw := hS.2 i t sws[i] ht hq
      rw [List.drop_eq_getElem_cons his] at hf
      generalize sws[i] = q at hsw hf
      have no : ¬ (q.1 = z ∧ q.2.1 = y) → (sws.drop (i + 1)).find? (fun q => decide (q.1 = z ∧ q.2.1 = y)) = sws.find? (fun q => decide (q.1 = z ∧ q.2.1 = y)) := fun n => by
        rw [← hf, List.find?_cons_of_neg (by intro e; exact n (of_decide_eq_true e))]
      refine ⟨_, rfl, t, _, _, _, rfl, rfl, SqT.of hsw, atI_nat (j := 0) rfl, _, rfl, rfl, _, rfl, ite2 (fun c1 => ?_) (fun c1 => ⟨_, rfl, rfl, no fun e => c1 (decide_eq_true (by rw [e.1]))⟩)⟩
      have e1 : q.1 = z := by
        have := of_decide_eq_true c1
        injection this
      refine ⟨_, rfl, t, _, _, _, rfl, rfl, SqT.of hsw, atI_nat (j := 1) rfl, _, rfl, rfl, _, rfl, ite2 (fun c2 => ?_) (fun c2 => ⟨_, rfl, rfl, no fun e => c2 (decide_eq_true (by rw [e.2]))⟩)⟩
      have e2 : q.2.1 = y := by
        have := of_decide_eq_true c2
        injection this
      refine ⟨_, rfl, t, _, _, _, rfl, rfl, SqT.of hsw, atI_nat (j := 2) rfl, ?_⟩
      rw [← hf, List.find?_cons_of_pos (by rw [e1, e2]; simp)] at k
      exact k
    · rintro σ H1 ⟨x3, rfl, e1, hf⟩
      obtain rfl : H = H1 := e1.symm
      rw [ls, List.drop_length] at hf
      rw [← hf] at k
      exact k
theorem ok_lprice51 (T : Bp mg) (c_law_below : DefOk P w K mg base CX0 1 "_law_below" spBelow51) (c_law_swapped : DefOk P w K mg base CX0 1 "_law_swapped" spSwapped51) (D : Def0 K mg "_law_price" s_law_price) : DefOk P w K mg base CX0 2 "_law_price" spLPrice51 := by
  refine D.ok sc_law_price (fun vs H Q E h => ?_) (fun _ _ _ _ _ _ us hl => match us, hl with | [_, _, _, _, _], _ => rfl) (fun f cdv A outer s' H vs Q E hr h => ?_)
  · obtain ⟨ar, sl, p, u, cut, rows, sws, l, o, rfl, _⟩ := h
    rfl
  · obtain ⟨ar, sl, p, u, cut, rows, sws, l, o, rfl, har, R, hS, gS, hp, ho, OL, OO, key⟩ := h
    have hu := hu_of hr
    have szl := OL.sz
    have szo := OO.sz
    refine ⟨_, (pss_cons (ps_set (i := 5) sc_law_price.nd rfl (Or.inl rfl) (pe_d c_law_below (hr.mono (by decide)) pass0 (pa_cons (pv 0) (pa_cons (pv 3) pa_nil))))
      (pss_cons (ps_set (i := 6) sc_law_price.nd rfl (Or.inl rfl) (pe_d c_law_below (hr.mono (by decide)) pass0 (pa_cons (pv 0) (pa_cons (pv 4) pa_nil))))
      (pss_cons (ps_set (i := 7) sc_law_price.nd rfl (Or.inl rfl) (pe_lst (pa_cons (pe_tup (pa_cons pe_int (pa_cons pe_int pa_nil))) pa_nil)))
      (pss_cons (ps_for PassesOwn.never rfl (pi_range1 (by rfl) T.b_range (pa_cons (pe_callB call_len_seq (by rfl) T.b_len boot_len (pa_cons (pv 3) pa_nil)) pa_nil)) (pg_name (i := 8) sc_law_price.nd rfl (Or.inl rfl))
        (pss_one (ps_if (pt_cmpR op_lt (pv 8) (pe_callB call_len_seq (by rfl) T.b_len boot_len (pa_cons (pv 7) pa_nil)) (nomark _))
          (pss_cons (ps_set (i := 9) sc_law_price.nd rfl (Or.inl rfl) (pe_ix ix_list (pv 7) (pv 8) (fun _ _ => rfl)))
          (pss_one (ps_if (pt_cmpR op_notN (pe_d c_law_swapped (hr.mono (by decide)) pass0 (pa_cons (pv 2) (pa_cons (pe_ix ix_tup (pv 3) (pe_ix ix_tup (pv 9) pe_int (fun _ _ => rfl)) (fun _ _ => rfl)) (pa_cons (pe_ix ix_tup (pv 4) (pe_ix ix_tup (pv 9) pe_int (fun _ _ => rfl)) (fun _ _ => rfl)) pa_nil)))) pe_non (nomark _))
            (pss_one (ps_for PassesOwn.never rfl (pi_range1 (by rfl) T.b_range (pa_cons (pe_callB call_len_seq (by rfl) T.b_len boot_len (pa_cons (pe_ix ix_list (pv 5) (pe_ix ix_tup (pv 9) pe_int (fun _ _ => rfl)) (fun _ _ => rfl)) pa_nil)) pa_nil)) (pg_name (i := 10) sc_law_price.nd rfl (Or.inl rfl))
              (pss_one (ps_expr (pe_bm PySem.F.plainAttrs_list PySem.F.slot_list_append PySem.F.type_list_append mt_append (pv 7) (pa_cons (pe_tup (pa_cons (pe_ix ix_list (pe_ix ix_list (pv 5) (pe_ix ix_tup (pv 9) pe_int (fun _ _ => rfl)) (fun _ _ => rfl)) (pv 10) (fun _ _ => rfl)) (pa_cons (pe_ix ix_list (pe_ix ix_list (pv 6) (pe_ix ix_tup (pv 9) pe_int (fun _ _ => rfl)) (fun _ _ => rfl)) (pv 10) (fun _ _ => rfl)) pa_nil))) pa_nil))))))
            pss_nil)))
          pss_nil)))
      (pss_cons (ps_set (i := 11) sc_law_price.nd rfl (Or.inl rfl) pe_dnewT)
      (pss_cons (ps_for PassesOwn.never rfl (RT.pi_revA (by rfl) T.b_reversed (pv 7)) (pg_name (i := 9) sc_law_price.nd rfl (Or.inl rfl))
        (pss_cons (ps_set (i := 12) sc_law_price.nd rfl (Or.inl rfl) (pe_d c_law_swapped (hr.mono (by decide)) pass0 (pa_cons (pv 2) (pa_cons (pe_ix ix_tup (pv 3) (pe_ix ix_tup (pv 9) pe_int (fun _ _ => rfl)) (fun _ _ => rfl)) (pa_cons (pe_ix ix_tup (pv 4) (pe_ix ix_tup (pv 9) pe_int (fun _ _ => rfl)) (fun _ _ => rfl)) pa_nil)))))
        (pss_cut (ps_if (pt_cmpR op_notN (pv 12) pe_non (nomark _))
          (pss_one (ps_for PassesOwn.never rfl (pi_range1 (by rfl) T.b_range (pa_cons (pe_callB call_len_seq (by rfl) T.b_len boot_len (pa_cons (pe_ix ix_list (pv 5) (pe_ix ix_tup (pv 9) pe_int (fun _ _ => rfl)) (fun _ _ => rfl)) pa_nil)) pa_nil)) (pg_name (i := 10) sc_law_price.nd rfl (Or.inl rfl))
            (pss_cons (ps_set (i := 13) sc_law_price.nd rfl (Or.inl rfl) (pe_dget hu (pv 11) (pe_tup (pa_cons (pe_ix ix_list (pe_ix ix_list (pv 5) (pe_ix ix_tup (pv 9) pe_int (fun _ _ => rfl)) (fun _ _ => rfl)) (pv 10) (fun _ _ => rfl)) (pa_cons (pe_ix ix_list (pe_ix ix_list (pv 6) (pe_ix ix_tup (pv 9) pe_int (fun _ _ => rfl)) (fun _ _ => rfl)) (pv 10) (fun _ _ => rfl)) pa_nil))) (fun _ _ => rfl)))
            (pss_one (ps_if (PW.pt (pw_or (pt_cmpR op_isN (pv 12) pe_non (nomark _)) (pw_or1 (pt_cmpR op_isN (pv 13) pe_non (nomark _)))))
              (pss_one (ps_set (i := 12) sc_law_price.nd rfl (Or.inl rfl) pe_non))
              (pss_one (ps_set (i := 12) sc_law_price.nd rfl (Or.inl rfl) (pe_op op_add (pv 12) (pv 13)))))))))
          pss_nil)
        (pss_cut (ps_if (PW.pt (pw_and (pt_cmpR op_eq (pe_dget hu (pv 0) (pe_ix ix_tup (pv 4) (pe_ix ix_tup (pv 9) pe_int (fun _ _ => rfl)) (fun _ _ => rfl)) (fun _ _ => rfl)) pe_int (nomark _)) (pw_and1 (PW.pt (pw_or (pt_cmpR op_isN (pv 12) pe_non (nomark _)) (pw_or1 (pt_cmpR op_lt (pv 1) (pv 12) (nomark _))))))))
          (pss_one (ps_set (i := 12) sc_law_price.nd rfl (Or.inl rfl) (pv 1)))
          pss_nil)
        (pss_one (ps_dput hu (pv 11) (pv 9) (pv 12) rfl))))))
      (pss_one (ps_ret (pe_dget hu (pv 11) (pe_tup (pa_cons pe_int (pa_cons pe_int pa_nil))) (fun _ _ => rfl)))))))))), ?_⟩
    have wsw : ∀ z y c, swp sws z y = some c → wR rows z = wR rows y := fun z y c h => swp_wd gS h
    refine ⟨_, rfl, _, rfl, ar, p, rows, l, rfl, har, R, hp, OL, fun H1 D1 s1 B1 => ?_⟩
    refine ⟨_, rfl, _, rfl, ar, u, rows, o, rfl, s1 _ _ har, R, ho.same s1, OO, fun H2 D2 s2 B2 => ?_⟩
    obtain ⟨ds1, G1⟩ := B1.same s2
    obtain ⟨ds2, G2⟩ := B2
    have s02 := s1.trans s2
    refine ⟨le_line (show 2 ≤ 10000000 by decide), fun a ha => ?_⟩
    have s23 := (Same.refl H2).upd_new (o := .tup [.int 0, .int 0]) ha
    have a3 : (upd H2 a (.tup [.int 0, .int 0])) a = some (.tup (prV (0, 0))) := upd_same
    generalize upd H2 a (.tup [.int 0, .int 0]) = H3 at s23 a3
    refine ⟨le_line (show 1 ≤ 10000000 by decide), fun L hL => ?_⟩
    have s34 := (Same.refl H3).upd_new (o := .lst [.ref a]) hL
    have L4 : (upd H3 L (.lst [.ref a])) L = some (.lst ([a].map V.ref)) := upd_same
    have a4 := s34 _ _ a3
    generalize upd H3 L (.lst [.ref a]) = H4 at s34 L4 a4
    have s24 := s23.trans s34
    have hL2 : H2 L = none := by
      cases e : H2 L with
      | none => rfl
      | some x => rw [s23 _ _ e] at hL; cases hL
    -- what is known of places
    have inl : ∀ {q : Nat}, q < l.length → ∃ z, l[q]? = some z ∧ (sV l)[q]? = some (.str z) ∧ HasN rows z ∧ wR rows z ≤ 3 := fun {q} h => ⟨l[q], List.getElem?_eq_getElem h, sV_at h, OL.k _ (List.getElem_mem h), wR_le R _⟩
    have ino : ∀ {q : Nat}, q < o.length → ∃ z, o[q]? = some z ∧ (sV o)[q]? = some (.str z) ∧ HasN rows z ∧ wR rows z ≤ 3 := fun {q} h => ⟨o[q], List.getElem?_eq_getElem h, sV_at h, OO.k _ (List.getElem_mem h), wR_le R _⟩
    have one : ∀ {q : Nat} {z : Str}, l[q]? = some z → ∃ b, (ds1.map V.ref)[q]? = some (V.ref b) ∧ H2 b = some (.lst ((Mth.starts (wR rows) l q (wR rows z)).map V.int)) := fun {q z} h => by
      have hq : q < ds1.length := by rw [G1.len]; exact (List.getElem?_eq_some_iff.mp h).1
      exact ⟨ds1[q], by rw [List.getElem?_map, List.getElem?_eq_getElem hq]; rfl, G1.hi q _ z (Nat.zero_le _) (List.getElem?_eq_getElem hq) h⟩
    have two : ∀ {q : Nat} {z : Str}, o[q]? = some z → ∃ b, (ds2.map V.ref)[q]? = some (V.ref b) ∧ H2 b = some (.lst ((Mth.starts (wR rows) o q (wR rows z)).map V.int)) := fun {q z} h => by
      have hq : q < ds2.length := by rw [G2.len]; exact (List.getElem?_eq_some_iff.mp h).1
      exact ⟨ds2[q], by rw [List.getElem?_map, List.getElem?_eq_getElem hq]; rfl, G2.hi q _ z (Nat.zero_le _) (List.getElem?_eq_getElem hq) h⟩
    refine ⟨_, rfl, p, _, rfl, .inr ((hp.same s02).same s24).sq, _, rfl, by omega, by rw [sV_len]; omega, ?_⟩
    rw [sV_len, Int.toNat_natCast]
    refine for_range (n := l.length) (fun i σ H' => ∃ (x8 x9 x10 : Option V) (us : List Addr) (ps : List (Nat × Nat)), σ = [some (.ref ar), some (.int cut), some (.ref sl), some (.ref p), some (.ref u), some (.ref D1), some (.ref D2), some (.ref L), x8, x9, x10, none, none, none] ∧ Same H2 H' ∧ H' L = some (.lst (us.map V.ref)) ∧ PlAt prV H' us ps ∧ PsOk rows sws l o ps i)
      ⟨none, none, none, [a], [(0, 0)], rfl, s24, L4, .one a4, .start OL OO⟩ ?_ ?_
    · rintro i σ H5 hi ⟨x8, x9, x10, us, ps, rfl, s5, L5, P5, K5⟩
      have e0 : (0 : Int) + (i : Nat) = ((i : Nat) : Int) := by omega
      rw [e0]
      have lus : (us.map V.ref).length = ps.length := by rw [List.length_map, P5.1]
      refine ⟨_, rfl, _, rfl, L, _, rfl, .inl (SqL.of L5), _, _, rfl, rfl, _, rfl, ?_⟩
      rw [lus]
      refine ite2 (fun c => ?_) (fun c => ⟨_, x9, x10, us, ps, rfl, s5, L5, P5, K5.idle (by
        have : ¬ ((i : Nat) : Int) < ((ps.length : Nat) : Int) := fun h => c (decide_eq_true h)
        omega) hi⟩)
      have hip : i < ps.length := by
        have := of_decide_eq_true c
        omega
      have hiu : i < us.length := by rw [P5.1]; exact hip
      have hs := List.getElem?_eq_getElem hip
      generalize ps[i] = s at hs
      have hsu := List.getElem?_eq_getElem hiu
      generalize us[i] = t at hsu
      have ht := P5.2 i t s hsu hs
      obtain ⟨in1, in2⟩ := K5.inn s (List.mem_of_getElem? hs)
      obtain ⟨z, hz, hzv, hzk, hz3⟩ := inl in1
      obtain ⟨y, hy, hyv, hyk, hy3⟩ := ino in2
      have s05 := s02.trans s5
      refine ⟨_, rfl, _, rfl, L, _, _, _, rfl, rfl, SqL.of L5, at_ofG (j := i) rfl (by rw [List.getElem?_map, hsu]; rfl), ?_⟩
      refine ⟨_, rfl, _, rfl, _, rfl, t, _, _, _, rfl, rfl, SqT.of ht, atI_nat (j := 0) rfl, p, _, _, _, rfl, rfl, (hp.same s05).sq, at_ofG (j := s.1) rfl hzv, _, rfl, _, rfl, t, _, _, _, rfl, rfl, SqT.of ht, atI_nat (j := 1) rfl, u, _, _, _, rfl, rfl, (ho.same s05).sq, at_ofG (j := s.2) rfl hyv, sl, z, y, sws, rfl, hS.same s05, ?_⟩
      have fw : ps.length ≤ 2000 := by
        rcases K5.few with h | h <;> omega
      cases hsw : swp sws z y with
      | none => exact ⟨rfl, _, rfl, ifn (by simp [oV]) ⟨_, _, _, us, ps, rfl, s5, L5, P5, K5.skip hs fun z' y' h1 h2 => by
          rw [hz] at h1
          rw [hy] at h2
          injection h1 with h1
          injection h2 with h2
          rw [← h1, ← h2]
          exact hsw⟩⟩
      | some c =>
        have ew := wsw z y c hsw
        refine ⟨rfl, _, rfl, ifp (by simp [oV]) ?_⟩
        obtain ⟨b1, hb1, hb1'⟩ := one hz
        obtain ⟨b2, hb2, hb2'⟩ := two hy
        have D1at := s5 _ _ G1.at_
        have D2at := s5 _ _ G2.at_
        refine ⟨_, rfl, _, rfl, t, _, _, _, rfl, rfl, SqT.of ht, atI_nat (j := 0) rfl, D1, _, _, _, rfl, rfl, SqL.of D1at, at_ofG (j := s.1) rfl hb1, b1, _, rfl, .inl (SqL.of (s5 _ _ hb1')), _, rfl, by omega, by rw [List.length_map, Mth.starts_len]; omega, ?_⟩
        rw [List.length_map, Mth.starts_len, Int.toNat_natCast]
        refine for_range (n := wR rows z) (fun j σ H' => ∃ (x10 : Option V) (vs : List Addr), σ = [some (.ref ar), some (.int cut), some (.ref sl), some (.ref p), some (.ref u), some (.ref D1), some (.ref D2), some (.ref L), some (.int ((i : Nat) : Int)), some (.ref t), x10, none, none, none] ∧ Same H2 H' ∧ H' L = some (.lst (vs.map V.ref)) ∧ PlAt prV H' vs (ps ++ Pr.chs (wR rows) l o s.1 s.2 j) ∧ H' t = some (.tup (prV s)))
          ⟨x10, us, rfl, s5, L5, by rw [show Pr.chs (wR rows) l o s.1 s.2 0 = [] from rfl, List.append_nil]; exact P5, ht⟩ ?_ ?_
        · rintro j σ H6 hj ⟨x10, vs, rfl, s6, L6, P6, ht6⟩
          have e1 : (0 : Int) + (j : Nat) = ((j : Nat) : Int) := by omega
          rw [e1]
          have q1 : ((Mth.starts (wR rows) l s.1 (wR rows z)).map V.int)[j]? = some (.int ((Mth.nxs (wR rows) l (s.1 + 1) j : Nat) : Int)) := by rw [List.getElem?_map, Mth.starts_get _ _ _ hj]; rfl
          have q2 : ((Mth.starts (wR rows) o s.2 (wR rows y)).map V.int)[j]? = some (.int ((Mth.nxs (wR rows) o (s.2 + 1) j : Nat) : Int)) := by rw [List.getElem?_map, Mth.starts_get _ _ _ (by omega)]; rfl
          refine ⟨_, rfl, .inl ⟨rfl, _, SqL.of L6⟩, _, rfl, _, rfl, t, _, _, _, rfl, rfl, SqT.of ht6, atI_nat (j := 0) rfl, D1, _, _, _, rfl, rfl, SqL.of (s6 _ _ G1.at_), at_ofG (j := s.1) rfl hb1, _, rfl, b1, _, _, _, rfl, rfl, SqL.of (s6 _ _ hb1'), at_ofG (j := j) rfl q1,
            _, rfl, _, rfl, t, _, _, _, rfl, rfl, SqT.of ht6, atI_nat (j := 1) rfl, D2, _, _, _, rfl, rfl, SqL.of (s6 _ _ G2.at_), at_ofG (j := s.2) rfl hb2, _, rfl, b2, _, _, _, rfl, rfl, SqL.of (s6 _ _ hb2'), at_ofG (j := j) rfl q2, le_line (show 2 ≤ 10000000 by decide), fun m hm => ?_⟩
          have nmL : m ≠ L := fun e => by rw [e, L6] at hm; cases hm
          refine ⟨L, _, _, rfl, rfl, by rw [upd_ne (Ne.symm nmL)]; exact L6, ?_, ?_⟩
          · rw [List.length_map, P6.1, List.length_append]
            have : (Pr.chs (wR rows) l o s.1 s.2 j).length = j := by unfold Pr.chs; rw [List.length_map, List.length_range]
            exact lt_line (by omega)
          refine ⟨_, vs ++ [m], rfl, (s6.upd_new hm).upd_own hL2, by rw [upd_same, List.map_append]; rfl, ?_, ?_⟩
          · rw [Pr.chs_succ, ← List.append_assoc]
            exact P6.two hm L6
          · rw [upd_ne (fun e => by rw [e, L6] at ht6; cases ht6), upd_ne (fun e => by rw [e, hm] at ht6; cases ht6)]
            exact ht6
        · rintro σ H6 ⟨x10, vs, rfl, s6, L6, P6, ht6⟩
          exact ⟨_, _, _, vs, _, rfl, s6, L6, P6, K5.grow OL OO hs hz hy ew⟩
    · rintro σ H5 ⟨x8, x9, x10, us, ps, rfl, s5, L5, P5, K5⟩
      have all : ps.length ≤ l.length := by
        rcases K5.few with h | h <;> exact h
      have pos : 0 < ps.length := (List.getElem?_eq_some_iff.mp K5.hd).1
      have lus : (us.map V.ref).length = ps.length := by rw [List.length_map, P5.1]
      have s05 := s02.trans s5
      refine fun B hB => ?_
      have s56 := (Same.refl H5).upd_new (o := .dT []) hB
      have B6 : (upd H5 B (.dT [])) B = some (.dT []) := upd_same
      have hB2 : H2 B = none := by
        cases e : H2 B with
        | none => rfl
        | some x => rw [s5 _ _ e] at hB; cases hB
      have nBL : B ≠ L := fun e => by rw [e, L5] at hB; cases hB
      have L6 := s56 _ _ L5
      have P6 := P5.keep fun t ys h => s56 _ _ h
      have hBt : ∀ t ys, H5 t = some (.tup ys) → t ≠ B := fun t ys h e => by rw [e, hB] at h; cases h
      generalize upd H5 B (.dT []) = H6 at s56 B6 L6 P6
      refine ⟨_, rfl, L, _, rfl, .inl ⟨SqL.of L6, RT.for_Itv (xs := us.map V.ref) (fun i σ H' => ∃ (x9 x10 x12 x13 : Option V) (kvs : List (List Key × V)), σ = [some (.ref ar), some (.int cut), some (.ref sl), some (.ref p), some (.ref u), some (.ref D1), some (.ref D2), some (.ref L), x8, x9, x10, some (.ref B), x12, x13] ∧ Same H5 H' ∧ H' B = some (.dT kvs) ∧ kvs.length ≤ i ∧ GoodT rows sws cut l o ps kvs (ps.length - i))
        ⟨x9, x10, none, none, [], rfl, s56, B6, Nat.le_refl _, fun k s hk hs => by
          have := (List.getElem?_eq_some_iff.mp hs).1
          omega⟩ (fun i σ H' ⟨_, _, _, _, _, _, q, _⟩ => SqL.of (q _ _ L5)) ?_ ?_⟩⟩
      · rintro i v σ H7 hi hv ⟨x9, x10, x12, x13, kvs, rfl, s7, B7, kl, gd⟩
        rw [lus] at hi hv
        obtain ⟨t, ht, rfl⟩ := get_map hv
        obtain ⟨m, hm⟩ : ∃ m, ps.length - i = m + 1 := ⟨ps.length - i - 1, by omega⟩
        have hm1 : ps.length - 1 - i = m := by omega
        have hm2 : ps.length - (i + 1) = m := by omega
        rw [hm1] at ht
        rw [hm] at gd
        rw [hm2]
        have hmp : m < ps.length := by omega
        have hs := List.getElem?_eq_getElem hmp
        generalize ps[m] = s at hs
        have ht5 := P5.2 m t s ht hs
        have ht7 := s7 _ _ ht5
        obtain ⟨in1, in2⟩ := K5.inn s (List.mem_of_getElem? hs)
        obtain ⟨z, hz, hzv, hzk, hz3⟩ := inl in1
        obtain ⟨y, hy, hyv, hyk, hy3⟩ := ino in2
        have s07 := s05.trans s7
        have s27 := s5.trans s7
        refine ⟨_, rfl, _, rfl, _, rfl, t, _, _, _, rfl, rfl, SqT.of ht7, atI_nat (j := 0) rfl, p, _, _, _, rfl, rfl, (hp.same s07).sq, at_ofG (j := s.1) rfl hzv, _, rfl, _, rfl, t, _, _, _, rfl, rfl, SqT.of ht7, atI_nat (j := 1) rfl, u, _, _, _, rfl, rfl, (ho.same s07).sq, at_ofG (j := s.2) rfl hyv, sl, z, y, sws, rfl, hS.same s07, ?_⟩
        obtain ⟨k1, Fl⟩ := Mth.Fst.all (wR rows) OL.f s.1 (by omega)
        obtain ⟨m1, rfl⟩ := Fl.pos (wR rows) in1
        obtain ⟨k2, Fo⟩ := Mth.Fst.all (wR rows) OO.f s.2 (by omega)
        obtain ⟨m2, rfl⟩ := Fo.pos (wR rows) in2
        -- what is worked out so far
        refine ⟨fun σ H' => ∃ (x10 x13 : Option V) (tot : Option Int), σ = [some (.ref ar), some (.int cut), some (.ref sl), some (.ref p), some (.ref u), some (.ref D1), some (.ref D2), some (.ref L), x8, some (.ref t), x10, some (.ref B), some (oV tot), x13] ∧ Same H7 H' ∧ (if wR rows y = 0 then PQ rows sws cut l o s = some (match tot with | some c => min c cut | none => cut) else PQ rows sws cut l o s = tot), ?_, ?_⟩
        · cases hsw : swp sws z y with
          | none =>
            refine ⟨_, rfl, rfl, _, rfl, ifn (by simp [oV]) ⟨x10, x13, none, rfl, Same.refl H7, ?_⟩⟩
            by_cases h0 : wR rows y = 0
            · rw [if_pos h0]
              exact Pr.pq_cut (wR rows) (swp sws) cut hz hy hsw h0
            · rw [if_neg h0]
              exact Pr.pq_none (wR rows) (swp sws) cut hz hy hsw h0
          | some c =>
            have ew := wsw z y c hsw
            have pqs := Pr.pq_some (wR rows) (swp sws) cut wsw hz hy hsw Fl Fo
            refine ⟨_, rfl, rfl, _, rfl, ifp (by simp [oV]) ?_⟩
            obtain ⟨b1, hb1, hb1'⟩ := one hz
            obtain ⟨b2, hb2, hb2'⟩ := two hy
            have D1at := s27 _ _ G1.at_
            have D2at := s27 _ _ G2.at_
            refine ⟨_, rfl, _, rfl, t, _, _, _, rfl, rfl, SqT.of ht7, atI_nat (j := 0) rfl, D1, _, _, _, rfl, rfl, SqL.of D1at, at_ofG (j := s.1) rfl hb1, b1, _, rfl, .inl (SqL.of (s27 _ _ hb1')), _, rfl, by omega, by rw [List.length_map, Mth.starts_len]; omega, ?_⟩
            rw [List.length_map, Mth.starts_len, Int.toNat_natCast]
            refine for_range (n := wR rows z) (fun j σ H' => ∃ (x10 x13 : Option V), σ = [some (.ref ar), some (.int cut), some (.ref sl), some (.ref p), some (.ref u), some (.ref D1), some (.ref D2), some (.ref L), x8, some (.ref t), x10, some (.ref B), some (oV (Pr.oadd (some c) (Pr.sumO (fun j => PQ rows sws cut l o (Mth.nxs (wR rows) l (s.1 + 1) j, Mth.nxs (wR rows) o (s.2 + 1) j)) j))), x13] ∧ Same H7 H')
              ⟨x10, x13, by show _ = [_, _, _, _, _, _, _, _, _, _, _, _, some (oV (Pr.oadd (some c) (some 0))), _]; rw [Pr.oadd_z]; rfl, Same.refl H7⟩ ?_ ?_
            · rintro j σ H8 hj ⟨x10, x13, rfl, s8⟩
              have e1 : (0 : Int) + (j : Nat) = ((j : Nat) : Int) := by omega
              rw [e1]
              have s28 := s27.trans s8
              have ht8 := s8 _ _ ht7
              have q1 : ((Mth.starts (wR rows) l s.1 (wR rows z)).map V.int)[j]? = some (.int ((Mth.nxs (wR rows) l (s.1 + 1) j : Nat) : Int)) := by rw [List.getElem?_map, Mth.starts_get _ _ _ hj]; rfl
              have q2 : ((Mth.starts (wR rows) o s.2 (wR rows y)).map V.int)[j]? = some (.int ((Mth.nxs (wR rows) o (s.2 + 1) j : Nat) : Int)) := by rw [List.getElem?_map, Mth.starts_get _ _ _ (by omega)]; rfl
              obtain ⟨k, hk⟩ := List.mem_iff_getElem?.mp (K5.dn m s z y c (by omega) hs hz hy hsw j hj)
              rw [List.getElem?_drop] at hk
              have gv := gd _ _ (by omega) hk
              refine ⟨_, rfl, _, rfl, _, rfl, t, _, _, _, rfl, rfl, SqT.of ht8, atI_nat (j := 0) rfl, D1, _, _, _, rfl, rfl, SqL.of (s8 _ _ D1at), at_ofG (j := s.1) rfl hb1, _, rfl, b1, _, _, _, rfl, rfl, SqL.of (s28 _ _ hb1'), at_ofG (j := j) rfl q1,
                _, rfl, _, rfl, t, _, _, _, rfl, rfl, SqT.of ht8, atI_nat (j := 1) rfl, D2, _, _, _, rfl, rfl, SqL.of (s8 _ _ D2at), at_ofG (j := s.2) rfl hb2, _, rfl, b2, _, _, _, rfl, rfl, SqL.of (s28 _ _ hb2'), at_ofG (j := j) rfl q2, le_line (show 2 ≤ 10000000 by decide), fun n hn => ?_⟩
              have s89 := (Same.refl H8).upd_new (o := .tup [.int ((Mth.nxs (wR rows) l (s.1 + 1) j : Nat) : Int), .int ((Mth.nxs (wR rows) o (s.2 + 1) j : Nat) : Int)]) hn
              have n9 : (upd H8 n (.tup [.int ((Mth.nxs (wR rows) l (s.1 + 1) j : Nat) : Int), .int ((Mth.nxs (wR rows) o (s.2 + 1) j : Nat) : Int)])) n = some (.tup ((prK (Mth.nxs (wR rows) l (s.1 + 1) j, Mth.nxs (wR rows) o (s.2 + 1) j)).map kV)) := upd_same
              have d9 := DGet.t (s89 _ _ (s8 _ _ B7)) n9
              rw [gv] at d9
              generalize upd H8 n (.tup [.int ((Mth.nxs (wR rows) l (s.1 + 1) j : Nat) : Int), .int ((Mth.nxs (wR rows) o (s.2 + 1) j : Nat) : Int)]) = H9 at s89 n9 d9
              refine ⟨B, _, rfl, d9, ?_⟩
              show _
              generalize hacc : Pr.sumO (fun j => PQ rows sws cut l o (Mth.nxs (wR rows) l (s.1 + 1) j, Mth.nxs (wR rows) o (s.2 + 1) j)) j = acc
              have nxt : Pr.sumO (fun j => PQ rows sws cut l o (Mth.nxs (wR rows) l (s.1 + 1) j, Mth.nxs (wR rows) o (s.2 + 1) j)) (j + 1) = Pr.oadd acc (PQ rows sws cut l o (Mth.nxs (wR rows) l (s.1 + 1) j, Mth.nxs (wR rows) o (s.2 + 1) j)) := by rw [← hacc]; rfl
              rw [nxt]
              generalize PQ rows sws cut l o (Mth.nxs (wR rows) l (s.1 + 1) j, Mth.nxs (wR rows) o (s.2 + 1) j) = part
              rw [← Pr.oadd_assoc]
              generalize Pr.oadd (some c) acc = tot
              refine ⟨_, rfl, rfl, _, rfl, ?_⟩
              cases tot with
              | none => exact ifp (by simp [oV]) ⟨_, _, rfl, s8.trans s89⟩
              | some a =>
                refine ifn (by simp [oV]) ⟨_, rfl, rfl, _, rfl, ?_⟩
                cases part with
                | none => exact ifp (by simp [oV]) ⟨_, _, rfl, s8.trans s89⟩
                | some b => exact ifn (by simp [oV]) ⟨_, rfl, _, rfl, _, _, rfl, rfl, _, _, rfl, s8.trans s89⟩
            · rintro σ H8 ⟨x10, x13, rfl, s8⟩
              refine ⟨_, _, _, rfl, s8, ?_⟩
              rw [← ew] at pqs
              by_cases h0 : wR rows y = 0
              · rw [if_pos h0]
                have hz0 : wR rows z = 0 := by omega
                rw [hz0] at pqs ⊢
                show Pr.pq (wR rows) (swp sws) cut l o s.1 s.2 = _
                rw [pqs]
                show Pr.oadd (some (Pr.fin cut 0 c)) (some 0) = some (match Pr.oadd (some c) (some 0) with | some c => min c cut | none => cut)
                rw [Pr.oadd_z, Pr.oadd_z]
                rfl
              · rw [if_neg h0]
                show Pr.pq (wR rows) (swp sws) cut l o s.1 s.2 = _
                rw [pqs]
                have : Pr.fin cut (wR rows z) c = c := if_neg (by omega)
                rw [this]
        rintro σ H8 ⟨x10', x13', tot, rfl, s8, ht8⟩
        have s08 := s07.trans s8
        have gv := DGet.k (k := .inr y) (s08 _ _ har)
        rw [val_wL R hyk] at gv
        refine ⟨fun σ H' => H' = H8 ∧ σ = [some (.ref ar), some (.int cut), some (.ref sl), some (.ref p), some (.ref u), some (.ref D1), some (.ref D2), some (.ref L), x8, some (.ref t), x10', some (.ref B), some (oV (PQ rows sws cut l o s)), x13'], ?_, ?_⟩
        · refine ⟨_, rfl, _, rfl, _, rfl, t, _, _, _, rfl, rfl, SqT.of (s8 _ _ ht7), atI_nat (j := 1) rfl, u, _, _, _, rfl, rfl, (ho.same s08).sq, at_ofG (j := s.2) rfl hyv, ar, _, rfl, gv, rfl, _, rfl, ?_⟩
          by_cases h0 : wR rows y = 0
          · rw [if_pos h0] at ht8
            refine ifp (by rw [h0]; rfl) ⟨_, rfl, rfl, _, rfl, ?_⟩
            cases tot with
            | none =>
              refine ifp (by simp [oV]) ⟨_, rfl, rfl, ?_⟩
              rw [ht8]
              rfl
            | some c =>
              refine ifn (by simp [oV]) ⟨_, rfl, _, rfl, _, _, rfl, rfl, _, rfl, ?_⟩
              refine ite2 (fun q => ⟨_, rfl, rfl, ?_⟩) (fun q => ⟨rfl, ?_⟩)
              · have q := of_decide_eq_true q
                rw [ht8]
                show _ = [_, _, _, _, _, _, _, _, _, _, _, _, some (V.int (min c cut)), _]
                rw [show min c cut = cut by omega]
                rfl
              · have q : ¬ cut < c := fun h => q (decide_eq_true h)
                rw [ht8]
                show _ = [_, _, _, _, _, _, _, _, _, _, _, _, some (V.int (min c cut)), _]
                rw [show min c cut = c by omega]
                rfl
          · rw [if_neg h0] at ht8
            refine ifn (by simp; omega) ⟨rfl, ?_⟩
            rw [ht8]
        rintro σ H8' ⟨e8, rfl⟩
        obtain rfl : H8 = H8' := e8.symm
        have B8 := s8 _ _ B7
        refine ⟨_, rfl, _, rfl, _, rfl, B, _, rfl, DPut.t (k := prK s) B8 (s8 _ _ ht7) (lt_line (by omega)), ?_⟩
        refine ⟨some (.ref t), x10', some (oV (PQ rows sws cut l o s)), x13', _, rfl, (s7.trans s8).upd_own hB, upd_same, ?_, gd.put hs⟩
        have := length_putK kvs (prK s) (oV (PQ rows sws cut l o s))
        omega
      · rintro σ H7 ⟨x9, x10, x12, x13, kvs, rfl, s7, B7, kl, gd⟩
        rw [lus, Nat.sub_self] at gd
        have g0 := gd 0 (0, 0) (Nat.le_refl _) K5.hd
        refine ⟨_, rfl, le_line (show 2 ≤ 10000000 by decide), fun m hm => ?_⟩
        have s8 := (Same.refl H7).upd_new (o := .tup [.int 0, .int 0]) hm
        have m8 : (upd H7 m (.tup [.int 0, .int 0])) m = some (.tup ((prK (0, 0)).map kV)) := upd_same
        have d8 := DGet.t (s8 _ _ B7) m8
        rw [g0] at d8
        exact ⟨B, _, rfl, d8, key _ ((s05.trans s7).trans s8)⟩
end
end Sh
end
section
set_option Elab.async false
set_option linter.all false
set_option maxRecDepth 100000
set_option maxHeartbeats 4000000
namespace Sh
open PySem PySem.Spec PyProof.Rows L2
open C8 (pss_cut tCut)
open Evl (ixN_nat)
/-- what price does -/
def PrcDoes (rows : List Row) (cut : Int) (sws : List Swap) (l o : List Str) (A : XA) (H : Hp) (Q : VK) (E : XK) : Prop := match fault rows false l with
  | some i => Rz A E H (.plant i)
  | none => match fault rows false o with
    | some i => Rz A E H (.plant i)
    | none => ∀ H', Same H H' → Q (oV (PQ rows sws cut l o (0, 0))) H'
def spPrice51 (C CP : Addr) (A : XA) : Sp := fun vs H Q E => ∃ (c p u : Addr) (cut : Int) (rows : List Row) (sws : List Swap) (l o : List Str), vs = [.ref c, .ref p, .ref u] ∧ PrcAt C CP H c rows cut sws ∧ ROk 4 rows ∧ GoodB rows sws sws.length ∧ Tq H p (sV l) ∧ Tq H u (sV o) ∧ l.length ≤ 2000 ∧ o.length ≤ 2000 ∧ PrcDoes rows cut sws l o A H Q E
theorem due_len {rows : List Row} {l : List Str} (h : l.length ≤ 2000) : due rows false l = (fault rows false l).map Ex.plant := by
  unfold due
  rw [if_neg (by omega)]
  rfl
theorem ok_of_fault {rows : List Row} {m : Int} (R : ROk m rows) {l : List Str} (h : l.length ≤ 2000) (e : fault rows false l = none) : PlantOk rows l := due_plant R (by rw [due_len h, e]; rfl)
abbrev N_price : List Str := ["prices", "plant", "other", "bed", "ends", "total", "place", "kind", "cost"]
theorem sc_price : FnScope N_price ["prices", "plant", "other"] (defScope s_price) := ⟨rfl, rfl, rfl, by decide +kernel, rfl, by decide +kernel, by decide +kernel⟩
section
variable {P : Program} {w : World} {K : PySem.W.Frag} {mg : Str → Option Value} {base : Heap} {C CP : Addr} {A : XA}
theorem ok_price51 (T : Bp mg) (B : BedT K C) (BP : PrT K CP) (c_check_plant : DefOk P w K mg base (L2.CX P w) 3 "check_plant" (spChk C A false)) (c_ends_of : DefOk P w K mg base CX0 1 "ends_of" (spEnds C)) (D : Def0 K mg "price" s_price) : DefOk P w K mg base (L2.CX P w) 4 "price" (spPrice51 C CP A) := by
  refine D.okX sc_price (fun vs H Q E h => ?_) (fun _ _ _ _ _ _ us hl => match us, hl with | [_, _, _], _ => rfl) (fun f cdv A' outer s H vs Q E hr h => ?_)
  · obtain ⟨c, p, u, cut, rows, sws, l, o, rfl, _⟩ := h
    rfl
  · obtain ⟨c, p, u, cut, rows, sws, l, o, rfl, hC, R, gS, hp, ho, ll, lo, k⟩ := h
    have hu := hu_of hr
    obtain ⟨dx, b, q, d, us, ds, c1, c2, c3, c4, c5⟩ := hC
    refine ⟨_, (pss_cons (ps_set (i := 3) sc_price.nd rfl (Or.inl rfl) (pe_fld (pv 0) rfl))
      (pss_cons (ps_expr (pe_d c_check_plant (hr.mono (by decide)) (passes_call (takes_of rfl rfl rfl rfl) fun _ _ _ _ h => h) (pa_cons (pv 3) (pa_cons (pv 1) pa_nil))))
      (pss_cons (ps_expr (pe_d c_check_plant (hr.mono (by decide)) (passes_call (takes_of rfl rfl rfl rfl) fun _ _ _ _ h => h) (pa_cons (pv 3) (pa_cons (pv 2) pa_nil))))
      (pss_cons (ps_set (i := 4) sc_price.nd rfl (Or.inl rfl) (pe_d c_ends_of (hr.mono (by decide)) pass0 (pa_cons (pv 3) (pa_cons (pv 1) pa_nil))))
      (pss_cons (ps_set (i := 5) sc_price.nd rfl (Or.inl rfl) pe_int)
      (pss_cons (ps_set (i := 6) sc_price.nd rfl (Or.inl rfl) pe_int)
      (pss_cons (ps_for (passes_of rfl) rfl (pi_tup (pv 2)) (pg_name (i := 7) sc_price.nd rfl (Or.inl rfl))
        (pss_cons (ps_set (i := 8) sc_price.nd rfl (Or.inl rfl) (pe_dget1 hu (pe_dget hu (pe_fld (pv 0) rfl) (pe_ix ix_tup (pv 1) (pv 6) (fun _ _ => rfl)) (fun _ _ => rfl)) (pv 7) ⟨rfl, rfl, rfl, rfl⟩))
        (pss_cons (ps_set (i := 6) sc_price.nd rfl (Or.inl rfl) (pe_ifExp (pt_cmpR op_notN (pv 8) pe_non (nomark _)) (pe_op op_add (pv 6) pe_int) (pe_ix ix_list (pv 4) (pv 6) (fun _ _ => rfl))))
        (pss_cut (ps_if (pt_cmpR op_eq (pe_dget hu (pe_fld (pv 3) rfl) (pv 7) (fun _ _ => rfl)) pe_int (nomark _))
          (pss_one (ps_set (i := 8) sc_price.nd rfl (Or.inl rfl) (pe_ifExp (pt_cmpR op_isN (pv 8) pe_non (nomark _)) (pe_fld (pv 0) rfl) (pe_callB (call_min2 rfl) (by rfl) T.b_min (by decide +kernel) (pa_cons (pv 8) (pa_cons (pe_fld (pv 0) rfl) pa_nil))))))
          pss_nil)
        (pss_cons (ps_if (pt_cmpR op_isN (pv 8) pe_non (nomark _))
          (pss_one (ps_ret pe_non))
          pss_nil)
        (pss_one (ps_aug (i := 5) sc_price.nd rfl (Or.inl rfl) (pv 8) ip_add)))))))
      (pss_one (ps_ret (pv 5)))))))))), ?_⟩
    refine ⟨_, rfl, c, CP, dx, _, _, rfl, c1, BP.cl, BP.nB, pr_bed _ _ _ _, ?_⟩
    refine ⟨_, rfl, _, rfl, b, p, rows, l, rfl, c2, R.up, hp, by omega, ?_⟩
    unfold PrcDoes at k
    rw [due_len ll]
    cases fl1 : fault rows false l with
    | some i =>
      rw [fl1] at k
      exact k
    | none =>
    rw [fl1] at k
    intro H1 s1
    have k : Way A E H ((fault rows false o).map Ex.plant) (∀ H', Same H H' → Q (oV (PQ rows sws cut l o (0, 0))) H') := by
      cases fl2 : fault rows false o with
      | some i =>
        rw [fl2] at k
        exact k
      | none =>
        rw [fl2] at k
        exact k
    refine ⟨_, rfl, _, rfl, b, u, rows, o, rfl, c2.same s1, R.up, ho.same s1, by omega, ?_⟩
    rw [due_len lo]
    cases fl2 : fault rows false o with
    | some i =>
      rw [fl2] at k
      exact Rz.same k s1
    | none =>
    rw [fl2] at k
    have k : ∀ H', Same H H' → Q (oV (PQ rows sws cut l o (0, 0))) H' := k
    intro H2 s2
    have OL := ok_of_fault R ll fl1
    have OO := ok_of_fault R lo fl2
    have s02 := s1.trans s2
    refine ⟨_, rfl, _, rfl, b, p, rows, l, rfl, c2.same s02, R.up, hp.same s02, OL.wf, fun H3 en s3 _ e3 => ?_⟩
    have s03 := s02.trans s3
    have e3 : H3 en = some (.lst ((Mth.ends (wR rows) l).map V.int)) := e3
    have wsw : ∀ z y c, swp sws z y = some c → wR rows z = wR rows y := fun z y c h => swp_wd gS h
    have c1' := s03 _ _ c1
    have hp3 := hp.same s03
    have ho3 := ho.same s03
    have T3 := c5.keep (H' := H3) fun a kvs h => s03 _ _ h
    obtain ⟨bx, r, kk, ww, rk, ts, b1, b2, b3, b4, b5, b6⟩ := c2.same s03
    refine ⟨_, rfl, u, rfl, ⟨_, ho3.sq⟩, for_it (walk_tup (xs := sV o)) (fun i σ H' => ∃ (x7 x8 : Option V) (tot : Int) (pl n : Nat), σ = [some (.ref c), some (.ref p), some (.ref u), some (.ref b), some (.ref en), some (.int tot), some (.int (pl : Nat)), x7, x8] ∧ H' = H3 ∧ Mth.Fst (wR rows) l pl n ∧ Mth.Fst (wR rows) o i n ∧ Pr.oadd (some tot) (Pr.wk (wR rows) (swp sws) cut (l.drop pl) (o.drop i) n) = PQ rows sws cut l o (0, 0))
      ⟨none, none, 0, 0, 1, rfl, rfl, ⟨Nat.zero_le _, OL.f⟩, ⟨Nat.zero_le _, OO.f⟩, Pr.oadd_zero _⟩ (fun i σ H' _ ⟨_, _, _, _, _, _, e, _⟩ => by rw [e]; exact ho3.sq) ?_ ?_⟩
    · rintro i v σ H4 H4' hi ⟨x7, x8, tot, pl, n, rfl, e4, Fl, Fo, hw⟩ ⟨e5, hv⟩
      obtain rfl : H3 = H4' := (e5.trans e4).symm
      rw [sV_len] at hi
      have hy := List.getElem?_eq_getElem hi
      rw [sV_at hi] at hv
      injection hv with hv
      subst hv
      have hyk := OO.k _ (List.getElem_mem hi)
      generalize o[i] = y at hy hyk
      obtain ⟨n, rfl⟩ := Fo.pos (wR rows) hi
      have hpl := Fl.lt (wR rows)
      have hz := List.getElem?_eq_getElem hpl
      have hzk := OL.k _ (List.getElem_mem hpl)
      have hzv := sV_at hpl
      generalize l[pl] = z at hz hzk hzv
      obtain ⟨q0, hq0, e0⟩ := hzk
      obtain ⟨j, hj⟩ := List.mem_iff_getElem?.mp hq0
      have hjn : (rows.map (·.1))[j]? = some z := by rw [List.getElem?_map, hj, ← e0]; rfl
      have jl : j < ds.length := by rw [T3.len]; exact (List.getElem?_eq_some_iff.mp hjn).1
      have hjd := List.getElem?_eq_getElem jl
      generalize ds[j] = a at hjd
      obtain ⟨kvs, r1, r2, r3⟩ := T3.row j z a hjn hjd
      have gd : DGet H3 d (.str z) (some (.ref a)) := by
        have := DGet.k (k := .inr z) T3.at_
        rw [tn_val R.nd hjn hjd] at this
        exact this
      have ga := DGet.k (k := .inr y) r1
      rw [r3 y] at ga
      have gw := DGet.k (k := .inr y) b5
      rw [val_wL R hyk] at gw
      have Fo1 := Fo.in (wR rows) hy
      refine ⟨_, rfl, c, CP, dx, _, _, rfl, c1', BP.cl, BP.nT, pr_tns _ _ _ _, _, rfl, _, rfl, p, _, _, _, rfl, rfl, hp3.sq, at_ofG (j := pl) rfl hzv, d, _, rfl, gd, a, rfl, .inl ⟨_, .inl r1⟩, _, rfl, _, ga, ?_⟩
      have wdF : ∀ (Q' : V → Hp → Prop), Q' (.int ((wR rows y : Nat) : Int)) H3 → ∃ (a : Addr) (v : V), V.ref ww = V.ref a ∧ DGet H3 a (.str y) (some v) ∧ Q' v H3 := fun Q' h => ⟨ww, _, rfl, gw, h⟩
      cases hsw : swp sws z y with
      | some cs =>
        have ew := wsw z y cs hsw
        have Fl1 := Fl.in (wR rows) hz
        rw [ew] at Fl1
        rw [Pr.drop_at hz, Pr.drop_at hy, Pr.wk_some _ _ _ hsw, ← Pr.oadd_assoc] at hw
        refine ⟨_, rfl, rfl, _, rfl, ifp (by simp) ⟨_, rfl, _, _, rfl, rfl, ?_⟩⟩
        refine ⟨fun σ H' => H' = H3 ∧ σ = [some (.ref c), some (.ref p), some (.ref u), some (.ref b), some (.ref en), some (.int tot), some (.int ((pl : Nat) + 1)), some (.str y), some (.int (Pr.fin cut (wR rows y) cs))], ?_, ?_⟩
        · refine ⟨_, rfl, b, C, bx, _, _, rfl, b1, B.cl, B.nW, lk_widths _ _ _ _, _, rfl, ww, _, rfl, gw, rfl, _, rfl, ?_⟩
          unfold Pr.fin
          by_cases h0 : wR rows y = 0
          · refine ifp (by rw [h0]; rfl) ⟨_, rfl, rfl, _, rfl, ifn (by simp) ⟨_, rfl, _, rfl, c, CP, dx, _, _, rfl, c1', BP.cl, BP.nC, pr_cut _ _ _ _, _, _, rfl, rfl, ?_⟩⟩
            rw [if_pos h0]
            have e : (if cut < cs then cut else cs) = min cs cut := by split <;> omega
            rw [e]
            rfl
          · refine ifn (by simp; omega) ⟨rfl, ?_⟩
            rw [if_neg h0]
            rfl
        rintro σ H5 ⟨e5, rfl⟩
        obtain rfl : H3 = H5 := e5.symm
        refine ⟨_, rfl, rfl, _, rfl, ifn (by simp) ?_⟩
        refine ⟨_, rfl, _, rfl, _, _, rfl, rfl, ?_⟩
        exact ⟨_, _, tot + Pr.fin cut (wR rows y) cs, pl + 1, wR rows y + n, rfl, rfl, Fl1, Fo1, hw⟩
      | none =>
        refine ⟨_, rfl, rfl, _, rfl, ifn (by simp) ⟨_, rfl, _, rfl, en, _, _, _, rfl, rfl, SqL.of e3, at_ofG (j := pl) rfl (by rw [List.getElem?_map, Mth.ends_get (wR rows) hpl]; rfl), ?_⟩⟩
        rw [Pr.drop_at hz, Pr.drop_at hy] at hw
        by_cases h0 : wR rows y = 0
        · rw [Pr.wk_cut _ _ _ hsw h0, ← Pr.oadd_assoc] at hw
          refine ⟨fun σ H' => H' = H3 ∧ σ = [some (.ref c), some (.ref p), some (.ref u), some (.ref b), some (.ref en), some (.int tot), some (.int ((Mth.nxs (wR rows) l pl 1 : Nat) : Int)), some (.str y), some (.int cut)], ?_, ?_⟩
          · refine ⟨_, rfl, b, C, bx, _, _, rfl, b1, B.cl, B.nW, lk_widths _ _ _ _, _, rfl, ww, _, rfl, gw, rfl, _, rfl, ?_⟩
            exact ifp (by rw [h0]; rfl) ⟨_, rfl, rfl, _, rfl, ifp (by simp) ⟨_, rfl, c, CP, dx, _, _, rfl, c1', BP.cl, BP.nC, pr_cut _ _ _ _, rfl, rfl⟩⟩
          rintro σ H5 ⟨e5, rfl⟩
          obtain rfl : H3 = H5 := e5.symm
          refine ⟨_, rfl, rfl, _, rfl, ifn (by simp) ?_⟩
          refine ⟨_, rfl, _, rfl, _, _, rfl, rfl, ?_⟩
          rw [h0, Nat.zero_add] at Fo1
          refine ⟨_, _, tot + cut, Mth.nxs (wR rows) l pl 1, n, rfl, rfl, Mth.Fst.skip (wR rows) (a := 1) (by rw [Nat.add_comm]; exact Fl), Fo1, ?_⟩
          rw [Mth.drop_nxs, Pr.drop_at hz]
          exact hw
        · rw [Pr.wk_none _ _ _ hsw h0, Pr.oadd_none] at hw
          refine ⟨fun σ H' => H' = H3 ∧ σ = [some (.ref c), some (.ref p), some (.ref u), some (.ref b), some (.ref en), some (.int tot), some (.int ((Mth.nxs (wR rows) l pl 1 : Nat) : Int)), some (.str y), some .non], ?_, ?_⟩
          · refine ⟨_, rfl, b, C, bx, _, _, rfl, b1, B.cl, B.nW, lk_widths _ _ _ _, _, rfl, ww, _, rfl, gw, rfl, _, rfl, ?_⟩
            exact ifn (by simp; omega) ⟨rfl, rfl⟩
          rintro σ H5 ⟨e5, rfl⟩
          obtain rfl : H3 = H5 := e5.symm
          refine ⟨_, rfl, rfl, _, rfl, ifp (by simp) ?_⟩
          have := k H3 s03
          rw [← hw] at this
          exact this
    · rintro σ H4 ⟨x7, x8, tot, pl, n, rfl, e4, Fl, Fo, hw⟩
      obtain rfl : H3 = H4 := e4.symm
      rw [sV_len] at Fo hw
      have n0 : n = 0 := by
        have := Fo.2
        rw [List.drop_length] at this
        exact Mth.forest_nil (wR rows) this
      subst n0
      rw [Pr.wk_zero, Pr.oadd_z] at hw
      have := k H3 s03
      rw [← hw] at this
      exact ⟨_, rfl, this⟩
end
end Sh
end
section
set_option Elab.async false
set_option linter.all false
set_option maxRecDepth 100000
set_option maxHeartbeats 4000000
namespace Sh
open PySem PySem.Spec PyProof.Rows L2
open C8 (pss_cut tCut)
open Evl (ixN_nat)
/-- what is due, and told -/
def dueP (rows : List Row) (cut : Int) (sws : List Swap) (l o : List Str) : Str × V := match fault rows false l with
  | some i => ("invalid", .int ((i : Nat) : Int))
  | none => match fault rows false o with
    | some i => ("invalid", .int ((i : Nat) : Int))
    | none => ("told", oV (PQ rows sws cut l o (0, 0)))
theorem dueP_cases (rows : List Row) (cut : Int) (sws : List Swap) (l o : List Str) : (∃ i : Int, dueP rows cut sws l o = (("invalid" : Str), V.int i)) ∨ ∃ x, dueP rows cut sws l o = (("told" : Str), oV x) := by
  unfold dueP
  cases fault rows false l with
  | some i => exact .inl ⟨_, rfl⟩
  | none =>
    cases fault rows false o with
    | some i => exact .inl ⟨_, rfl⟩
    | none => exact .inr ⟨_, rfl⟩
def DueAt (H : Hp) (p : Addr) (d : Str × V) : Prop := H p = some (.tup [.str d.1, d.2])
def spDue51 : Sp := fun vs H Q _ => ∃ (ar sl p u : Addr) (cut : Int) (rows : List Row) (sws : List Swap) (l o : List Str), vs = [.ref ar, .int cut, .ref sl, .ref p, .ref u] ∧ H ar = some (.dK (wL rows)) ∧ ROk 4 rows ∧ SwsAt H sl sws ∧ GoodB rows sws sws.length ∧ Tq H p (sV l) ∧ Tq H u (sV o) ∧ l.length ≤ 2000 ∧ o.length ≤ 2000 ∧ ∀ (H' : Hp) (q : Addr), Same H H' → DueAt H' q (dueP rows cut sws l o) → Q (.ref q) H'
def spTold51 (C CP : Addr) : Sp := fun vs H Q _ => ∃ (c p u : Addr) (cut : Int) (rows : List Row) (sws : List Swap) (l o : List Str), vs = [.ref c, .ref p, .ref u] ∧ PrcAt C CP H c rows cut sws ∧ ROk 4 rows ∧ GoodB rows sws sws.length ∧ Tq H p (sV l) ∧ Tq H u (sV o) ∧ l.length ≤ 2000 ∧ o.length ≤ 2000 ∧ ∀ (H' : Hp) (q : Addr), Same H H' → DueAt H' q (dueP rows cut sws l o) → Q (.ref q) H'
def spRight51 (C CP : Addr) : Sp := fun vs H Q _ => ∃ (c p u q : Addr) (cut : Int) (rows : List Row) (sws : List Swap) (l o : List Str), vs = [.ref c, .ref p, .ref u, .ref q] ∧ PrcAt C CP H c rows cut sws ∧ ROk 4 rows ∧ GoodB rows sws sws.length ∧ Tq H p (sV l) ∧ Tq H u (sV o) ∧ l.length ≤ 2000 ∧ o.length ≤ 2000 ∧ DueAt H q (dueP rows cut sws l o) ∧ ∀ (H' : Hp), Same H H' → Q (.bl true) H'
abbrev N_law_due : List Str := ["arity", "cutting", "swaps", "plant", "other", "row", "place"]
theorem sc_law_due : FnScope N_law_due ["arity", "cutting", "swaps", "plant", "other"] (defScope s_law_due) := ⟨rfl, rfl, rfl, by decide +kernel, rfl, by decide +kernel, by decide +kernel⟩
abbrev N_law_told : List Str := ["prices", "plant", "other", "found", "e"]
theorem sc_law_told : FnScope N_law_told ["prices", "plant", "other"] (defScope s_law_told) := ⟨rfl, rfl, rfl, by decide +kernel, rfl, by decide +kernel, by decide +kernel⟩
abbrev N_law_right : List Str := ["prices", "plant", "other", "due", "told"]
theorem sc_law_right : FnScope N_law_right ["prices", "plant", "other", "due"] (defScope s_law_right) := ⟨rfl, rfl, rfl, by decide +kernel, rfl, by decide +kernel, by decide +kernel⟩
section
variable {P : Program} {w : World} {K : PySem.W.Frag} {mg : Str → Option Value} {base : Heap} {C CP CY AI : Addr} {A : XA}
theorem ok_due51 (T : Bp mg) (c_law_fault : DefOk P w K mg base CX0 1 "_law_fault" spFault51) (c_law_price : DefOk P w K mg base CX0 2 "_law_price" spLPrice51) (D : Def0 K mg "_law_due" s_law_due) : DefOk P w K mg base CX0 3 "_law_due" spDue51 := by
  refine D.ok sc_law_due (fun vs H Q E h => ?_) (fun _ _ _ _ _ _ us hl => match us, hl with | [_, _, _, _, _], _ => rfl) (fun f cdv A' outer s H vs Q E hr h => ?_)
  · obtain ⟨ar, sl, p, u, cut, rows, sws, l, o, rfl, _⟩ := h
    rfl
  · obtain ⟨ar, sl, p, u, cut, rows, sws, l, o, rfl, har, R, hS, gS, hp, ho, ll, lo, k⟩ := h
    refine ⟨_, (pss_cons (ps_for PassesOwn.never rfl (pi_list (pe_lst (pa_cons (pv 3) (pa_cons (pv 4) pa_nil)))) (pg_name (i := 5) sc_law_due.nd rfl (Or.inl rfl))
        (pss_cons (ps_set (i := 6) sc_law_due.nd rfl (Or.inl rfl) (pe_d c_law_fault (hr.mono (by decide)) pass0 (pa_cons (pv 0) (pa_cons (pv 5) pa_nil))))
        (pss_one (ps_if (pt_cmpR op_ge (pv 6) pe_int (nomark _))
          (pss_one (ps_ret (pe_tup (pa_cons pe_str (pa_cons (pv 6) pa_nil)))))
          pss_nil))))
      (pss_one (ps_ret (pe_tup (pa_cons pe_str (pa_cons (pe_d c_law_price (hr.mono (by decide)) pass0 (pa_cons (pv 0) (pa_cons (pv 1) (pa_cons (pv 2) (pa_cons (pv 3) (pa_cons (pv 4) pa_nil)))))) pa_nil)))))), ?_⟩
    refine ⟨_, rfl, _, rfl, le_line (show 2 ≤ 10000000 by decide), fun m hm => ?_⟩
    have s1 := (Same.refl H).upd_new (o := .lst [.ref p, .ref u]) hm
    have m1 : (upd H m (.lst [.ref p, .ref u])) m = some (.lst [.ref p, .ref u]) := upd_same
    generalize upd H m (.lst [.ref p, .ref u]) = H1 at s1 m1
    have out : ∀ {H' : Hp} {q : Addr} {d : Str × V}, Same H1 H' → dueP rows cut sws l o = d → DueAt H' q d → Q (.ref q) H' := fun s e h => k _ _ (s1.trans s) (by rw [e]; exact h)
    unfold dueP at out
    refine ⟨m, rfl, ⟨_, SqL.of m1⟩, for_it (walk_list (xs := [V.ref p, V.ref u])) (fun i σ H' => ∃ (x5 x6 : Option V), σ = [some (.ref ar), some (.int cut), some (.ref sl), some (.ref p), some (.ref u), x5, x6] ∧ H' = H1 ∧ (1 ≤ i → fault rows false l = none) ∧ (2 ≤ i → fault rows false o = none)) ⟨none, none, rfl, rfl, fun h => absurd h (by decide), fun h => absurd h (by decide)⟩ (fun i σ H' _ ⟨_, _, _, e, _⟩ => by rw [e]; exact SqL.of m1) ?_ ?_⟩
    · rintro i v σ H2 H2' hi ⟨x5, x6, rfl, e1, f1, f2⟩ ⟨e2, hv⟩
      obtain rfl : H1 = H2' := (e2.trans e1).symm
      match i, hi, hv, f1, f2 with
      | 0, _, hv, _, _ =>
        cases hv
        refine ⟨_, rfl, _, rfl, ar, p, rows, l, rfl, s1 _ _ har, R, hp.same s1, ll, ?_⟩
        refine ⟨_, rfl, _, _, rfl, rfl, _, rfl, ?_⟩
        unfold fltI
        cases e : fault rows false l with
        | some i =>
          rw [e] at out
          refine ifp (decide_eq_true (by show (0 : Int) ≤ ((i : Nat) : Int); omega)) ⟨_, rfl, le_line (show 2 ≤ 10000000 by decide), fun q hq => out ((Same.refl H1).upd_new hq) rfl upd_same⟩
        | none => exact ifn (by decide) ⟨_, _, rfl, rfl, fun _ => rfl, fun h => absurd h (by decide)⟩
      | 1, _, hv, f1, _ =>
        cases hv
        refine ⟨_, rfl, _, rfl, ar, u, rows, o, rfl, s1 _ _ har, R, ho.same s1, lo, ?_⟩
        refine ⟨_, rfl, _, _, rfl, rfl, _, rfl, ?_⟩
        rw [f1 (Nat.le_refl _)] at out
        unfold fltI
        cases e : fault rows false o with
        | some i =>
          rw [e] at out
          refine ifp (decide_eq_true (by show (0 : Int) ≤ ((i : Nat) : Int); omega)) ⟨_, rfl, le_line (show 2 ≤ 10000000 by decide), fun q hq => out ((Same.refl H1).upd_new hq) rfl upd_same⟩
        | none => exact ifn (by decide) ⟨_, _, rfl, rfl, fun _ => f1 (Nat.le_refl _), fun _ => rfl⟩
      | i + 2, hi, _, _, _ => exact absurd hi (by show ¬ i + 2 < 2; omega)
    · rintro σ H2 ⟨x5, x6, rfl, e1, f1, f2⟩
      obtain rfl : H1 = H2 := e1.symm
      have n1 := f1 (show 1 ≤ 2 by decide)
      have n2 := f2 (show 2 ≤ 2 by decide)
      rw [n1, n2] at out
      refine ⟨_, rfl, _, rfl, _, rfl, _, rfl, _, rfl, ar, sl, p, u, cut, rows, sws, l, o, rfl, s1 _ _ har, R, hS.same s1, gS, hp.same s1, ho.same s1, ok_of_fault R ll n1, ok_of_fault R lo n2, fun H2 s2 => ⟨le_line (show 2 ≤ 10000000 by decide), fun q hq => ?_⟩⟩
      exact out (s2.upd_new hq) rfl upd_same
theorem ok_told51 (T : Bp mg) (x : XP P w K mg A AI) (xc : XcP K mg A AI CY) (c_price : DefOk P w K mg base (L2.CX P w) 4 "price" (spPrice51 C CP A)) (D : Def0 K mg "_law_told" s_law_told) : DefOk P w K mg base CX0 5 "_law_told" (spTold51 C CP) := by
  refine D.ok sc_law_told (fun vs H Q E h => ?_) (fun _ _ _ _ _ _ us hl => match us, hl with | [_, _, _], _ => rfl) (fun f cdv A' outer s H vs Q E hr h => ?_)
  · obtain ⟨c, p, u, cut, rows, sws, l, o, rfl, _⟩ := h
    rfl
  · obtain ⟨c, p, u, cut, rows, sws, l, o, rfl, hC, R, gS, hp, ho, ll, lo, k⟩ := h
    have n_InvalidPlant : ∀ {X : Cx}, X.mg = mg → Gl X "InvalidPlant" → Names X "InvalidPlant" (.ref A.P) := fun e g => ⟨g, by decide, .inl (by rw [e]; exact x.xs.xP.gC)⟩
    have X_InvalidPlant := xc.oP
    refine ⟨_, (pss_cons (ps_try_first (i := 4) rfl rfl sc_law_told.nd rfl rfl (n_InvalidPlant rfl rfl) (fun W pn xe tk po => (pss_one (ps_set (i := 3) sc_law_told.nd rfl (Or.inl rfl) (pe_dS c_price (hr.mono (by decide)) (fun _ => passAt tk _) (pa_cons (pv 0) (pa_cons (pv 1) (pa_cons (pv 2) pa_nil))))))) (fun a oe cls d pn hz hf => (pss_one (ps_ret (pe_tup (pa_cons pe_str (pa_cons (pe_xf X_InvalidPlant.xf (X_InvalidPlant.no "place" (by decide +kernel)) hz hf (pv 4)) pa_nil)))))))
      (pss_one (ps_ret (pe_tup (pa_cons pe_str (pa_cons (pv 3) pa_nil)))))), ?_⟩
    refine ⟨_, rfl, _, rfl, _, rfl, c, p, u, cut, rows, sws, l, o, rfl, hC, R, gS, hp, ho, ll, lo, ?_⟩
    unfold PrcDoes
    unfold dueP at k
    have lp : ∀ i : Nat, (Ex.plant i).fs.lookup ("place" : Str) = some (.int (i : Nat)) := fun i => by simp [Ex.fs, xfs, List.lookup]
    revert k
    cases fault rows false l with
    | some i =>
      intro k
      refine fun H1 d s1 hd => ⟨X_InvalidPlant.me, fun a ha => ?_⟩
      have s2 := s1.upd_new (o := .xd (Ex.plant i).fs) hd
      refine ⟨_, rfl, rfl, rfl, d, _, _, rfl, upd_same, lp i, le_line (show 2 ≤ 10000000 by decide), fun q hq => ?_⟩
      exact k _ q (s2.upd_new hq) upd_same
    | none =>
      cases fault rows false o with
      | some i =>
        intro k
        refine fun H1 d s1 hd => ⟨X_InvalidPlant.me, fun a ha => ?_⟩
        have s2 := s1.upd_new (o := .xd (Ex.plant i).fs) hd
        refine ⟨_, rfl, rfl, rfl, d, _, _, rfl, upd_same, lp i, le_line (show 2 ≤ 10000000 by decide), fun q hq => ?_⟩
        exact k _ q (s2.upd_new hq) upd_same
      | none =>
        intro k H1 s1
        refine ⟨_, rfl, le_line (show 2 ≤ 10000000 by decide), fun q hq => ?_⟩
        exact k _ q (s1.upd_new hq) upd_same
theorem ok_right51 (T : Bp mg) (c_law_told : DefOk P w K mg base CX0 5 "_law_told" (spTold51 C CP)) (c_law_integer : DefOk P w K mg base CX0 1 "_law_integer" spInteger51) (D : Def0 K mg "_law_right" s_law_right) : DefOk P w K mg base CX0 6 "_law_right" (spRight51 C CP) := by
  refine D.ok sc_law_right (fun vs H Q E h => ?_) (fun _ _ _ _ _ _ us hl => match us, hl with | [_, _, _, _], _ => rfl) (fun f cdv A' outer s H vs Q E hr h => ?_)
  · obtain ⟨c, p, u, q, cut, rows, sws, l, o, rfl, _⟩ := h
    rfl
  · obtain ⟨c, p, u, q, cut, rows, sws, l, o, rfl, hC, R, gS, hp, ho, ll, lo, hq, k⟩ := h
    refine ⟨_, (pss_cons (ps_set (i := 4) sc_law_right.nd rfl (Or.inl rfl) (pe_d c_law_told (hr.mono (by decide)) pass0 (pa_cons (pv 0) (pa_cons (pv 1) (pa_cons (pv 2) pa_nil)))))
      (pss_cons (ps_if (pt_cmpR op_ne (pe_ix ix_tup (pv 4) pe_int (fun _ _ => rfl)) (pe_ix ix_tup (pv 3) pe_int (fun _ _ => rfl)) (nomark _))
        (pss_one (ps_ret pe_bl))
        pss_nil)
      (pss_cons (ps_if (pt_cmpR op_isN (pe_ix ix_tup (pv 3) pe_int (fun _ _ => rfl)) pe_non (nomark _))
        (pss_one (ps_ret (pe_cmpR op_isN (pe_ix ix_tup (pv 4) pe_int (fun _ _ => rfl)) pe_non (nomark _))))
        pss_nil)
      (pss_one (ps_ret (pe_and (pe_d c_law_integer (hr.mono (by decide)) pass0 (pa_cons (pe_ix ix_tup (pv 4) pe_int (fun _ _ => rfl)) pa_nil)) (pe_one (pe_cmpR op_eq (pe_ix ix_tup (pv 4) pe_int (fun _ _ => rfl)) (pe_ix ix_tup (pv 3) pe_int (fun _ _ => rfl)) (nomark _))))))))), ?_⟩
    refine ⟨_, rfl, _, rfl, _, rfl, c, p, u, cut, rows, sws, l, o, rfl, hC, R, gS, hp, ho, ll, lo, fun H1 t s1 ht => ?_⟩
    have hq1 := s1 _ _ hq
    have k := k H1 s1
    unfold DueAt at ht hq1
    rcases dueP_cases rows cut sws l o with ⟨i, e⟩ | ⟨y, e⟩
    · rw [e] at ht hq1
      refine ⟨_, rfl, t, _, _, _, rfl, rfl, SqT.of ht, atI_nat (j := 0) rfl, _, rfl, q, _, _, _, rfl, rfl, SqT.of hq1, atI_nat (j := 0) rfl, rfl, _, rfl, ifn (by simp) ?_⟩
      refine ⟨_, rfl, q, _, _, _, rfl, rfl, SqT.of hq1, atI_nat (j := 1) rfl, rfl, _, rfl, ifn (by simp) ?_⟩
      refine ⟨_, rfl, t, _, _, _, rfl, rfl, SqT.of ht, atI_nat (j := 1) rfl, i, rfl, _, rfl, ifp rfl ?_⟩
      refine ⟨_, rfl, t, _, _, _, rfl, rfl, SqT.of ht, atI_nat (j := 1) rfl, _, rfl, q, _, _, _, rfl, rfl, SqT.of hq1, atI_nat (j := 1) rfl, rfl, ?_⟩
      simpa using k
    · rw [e] at ht hq1
      refine ⟨_, rfl, t, _, _, _, rfl, rfl, SqT.of ht, atI_nat (j := 0) rfl, _, rfl, q, _, _, _, rfl, rfl, SqT.of hq1, atI_nat (j := 0) rfl, rfl, _, rfl, ifn (by simp) ?_⟩
      refine ⟨_, rfl, q, _, _, _, rfl, rfl, SqT.of hq1, atI_nat (j := 1) rfl, rfl, _, rfl, ?_⟩
      cases y with
      | none =>
        refine ifp (by simp [oV]) ⟨_, rfl, t, _, _, _, rfl, rfl, SqT.of ht, atI_nat (j := 1) rfl, rfl, ?_⟩
        simpa [oV] using k
      | some i =>
        refine ifn (by simp [oV]) ?_
        refine ⟨_, rfl, t, _, _, _, rfl, rfl, SqT.of ht, atI_nat (j := 1) rfl, i, rfl, _, rfl, ifp rfl ?_⟩
        refine ⟨_, rfl, t, _, _, _, rfl, rfl, SqT.of ht, atI_nat (j := 1) rfl, _, rfl, q, _, _, _, rfl, rfl, SqT.of hq1, atI_nat (j := 1) rfl, rfl, ?_⟩
        simpa [oV] using k
end
end Sh
end
section
set_option Elab.async false
set_option linter.all false
set_option maxRecDepth 100000
set_option maxHeartbeats 2000000
namespace RT
open PySem PySem.Spec PyProof.Rows
section
variable {prog : Program} {w : World} {A : Around} {E : Value → Shared → Prop} {s : Shared}
theorem wpAny_extend_rev {R : Result → Shared → Prop} {it l : Addr} {items : Array Value} (hh : A.handled = none) (hit : s.heap.IsRevIter it l ((items.size : Int) - 1)) (hl : s.heap.IsList l items) (hne : l ≠ it) (hn : items.size ≤ sizeLine) (S : Addr) (held : Value) (c₀ : Nat) (hSi : S ≠ it) (hSl : S ≠ l)
    (hS : s.heap.get? S = some { cls := .type "list", dict := none, data := .seq #[] c₀, slots := #[] })
    (hR : ∀ h' tk acc' c', (∀ b o, b ≠ S → b ≠ it → s.heap.get? b = some o → h'.get? b = some o) → h'.get? S = some { cls := .type "list", dict := none, data := .seq acc' c', slots := #[] } →
      ItemsOf (fun i v => items[items.size - 1 - i]? = some v) acc' items.size → R (.ok (.ret held)) { s with heap := h', toks := tk }) :
    wpAny (model prog w) A.in1 (Builtin.List.listExtendWith (.ref S) (.ref it) held)
      (fun fin s' => match fin with | .done f => R (.ok f) s' | .again c' => c'.quiet = true ∧ codeAny (model prog w) A c' R s') (fun e s' => R (.error e) s') s := by
  have W := (Walks.listRev (prog := prog) (w := w) (A := A.in1) hh it l hne items).toS
  have hSf : S ∉ [it, l] := by simp only [List.mem_cons, List.not_mem_nil, or_false, not_or]; exact ⟨hSi, hSl⟩
  have hT : s.TypeIs (.ref it) "list_reverseiterator" := Heap.IsRevIter.typeIs hit
  have h1 : Builtin.List.listSameRef (.ref S) (.ref it) = false := by simp [Builtin.List.listSameRef, hSi]
  unfold Builtin.List.listExtendWith
  refine wpAny_bind (wpAny_typeOf hT ?_)
  rw [if_neg (by rw [h1]; decide)]
  refine wpAny_bind (wpAny_pyIter_revIter hit ?_)
  refine wpAny_bind (wpAny_holding ?_)
  unfold Builtin.List.listLengthHint
  refine wpAny_bind (wpAny_specialOf hT nolen_lri ?_)
  show wpAny _ A.in1 (specialOf (Value.ref it) (Str.ofString "__length_hint__") >>= _) _ _ _
  refine wpAny_bind (wpAny_specialOf hT hint_lri ?_)
  generalize hid : ("list_reverseiterator.__length_hint__" : String) = id0
  wp_delta
  rw [show splitId id0 = some ("list_reverseiterator", "__length_hint__") from by subst hid; decide +kernel]
  subst hid
  refine wpAny_bind (wpAny_isInstance (b := true) hT (by rw [isSubtype_type]; kernel_rfl) ?_)
  refine wpAny_pure ?_
  rw [if_neg (by decide)]
  have e0 : ((items.size : Nat) : Int) - 1 - ((0 : Nat) : Int) = (items.size : Int) - 1 := by omega
  refine wpAny_pure ⟨plainId_quiet F.plain_extend_loop _, codeAny_extend_loopS W hn _ hSf _ items.size 0 _ _ _ rfl (Nat.zero_le _) ⟨Nat.zero_le _, by rw [e0]; exact hit, hl⟩ hS (ItemsOf.nil _) fun s' acc' c' hm hS' hacc => ?_⟩
  rw [Moved.eq_with hm]
  refine hR s'.heap s'.toks acc' c' (fun b o hb hi e => hm.heap b o (fun hmem => ?_) e) hS' hacc
  rcases List.mem_cons.mp hmem with e' | hmem
  · exact hb e'
  · exact hi (List.mem_singleton.mp hmem)
theorem wpAny_list_init_rev {R : Result → Shared → Prop} {it l : Addr} {items : Array Value} (hh : A.handled = none) (hit : s.heap.IsRevIter it l ((items.size : Int) - 1)) (hl : s.heap.IsList l items) (hne : l ≠ it) (hn : items.size ≤ sizeLine) (S : Addr) (hSi : S ≠ it) (hSl : S ≠ l)
    (hS : s.heap.get? S = some { cls := .type "list", data := .seq #[] })
    (hR : ∀ h' tk acc' c', (∀ b o, b ≠ S → b ≠ it → s.heap.get? b = some o → h'.get? b = some o) → h'.get? S = some { cls := .type "list", dict := none, data := .seq acc' c', slots := #[] } →
      ItemsOf (fun i v => items[items.size - 1 - i]? = some v) acc' items.size → R (.ok (.ret .none)) { s with heap := h', toks := tk }) :
    wpAny (model prog w) A.in1 (Builtin.«list.__init__» ⟨[.ref S, .ref it], []⟩)
      (fun fin s' => match fin with | .done f => R (.ok f) s' | .again c' => c'.quiet = true ∧ codeAny (model prog w) A c' R s') (fun e s' => R (.error e) s') s := by
  show wpAny _ _ (do let old ← Builtin.List.listItems (.ref S); Builtin.List.listUpdate (.ref S) (fun _ => #[]); letGo old.toList.reverse; Builtin.List.listExtendWith (.ref S) (.ref it) .none) _ _ s
  refine wpAny_bind ?_
  unfold Builtin.List.listItems
  refine wpAny_bind (wpAny_seqItems hS rfl (wpAny_pure ?_))
  show wpAny _ _ (updateSeq S (fun _ => #[]) >>= fun _ => letGo (#[] : Array Value).toList.reverse >>= fun _ => Builtin.List.listExtendWith (.ref S) (.ref it) .none) _ _ s
  refine wpAny_bind (wpAny_updateSeq hS rfl ?_)
  have hS₂ := Heap.get?_update_self (Obj.mapSeq (fun _ => (#[] : Array Value))) hS rfl
  have oth : ∀ b o, b ≠ S → s.heap.get? b = some o → (s.heap.update S (Obj.mapSeq (fun _ => (#[] : Array Value)))).get? b = some o :=
    fun b o hb e => (Heap.get?_update_other _ _ (Ne.symm hb)).trans e
  refine wpAny_bind (wpAny_letGo ?_)
  obtain ⟨ol, hol, hl2⟩ := id hl
  refine wpAny_extend_rev hh (hit.at fun o e => oth it o (Ne.symm hSi) e) ⟨ol, oth l _ (Ne.symm hSl) hol, hl2⟩ hne hn S .none _ hSi hSl hS₂ fun h' tk acc' c' hk hS' hacc => ?_
  exact hR h' tk acc' c' (fun b o hb hi e => hk b o hb hi (oth b o hb e)) hS' hacc
theorem call_list_rev {Q : Value → Shared → Prop} {it l : Addr} {items : Array Value} (hh : A.handled = none) (hit : s.heap.IsRevIter it l ((items.size : Int) - 1)) (hl : s.heap.IsList l items) (hne : l ≠ it) (hn : items.size ≤ sizeLine)
    (hQ : ∀ h' tk acc' c', (∀ b o, b ≠ it → s.heap.get? b = some o → h'.get? b = some o) →
      h'.get? s.heap.objs.size = some { cls := .type "list", dict := none, data := .seq acc' c', slots := #[] } → ItemsOf (fun i v => items[items.size - 1 - i]? = some v) acc' items.size → Q (.ref s.heap.objs.size) { s with heap := h', toks := tk }) :
    wpAny (model prog w) A (call (.type "list") [.ref it]) Q E s := by
  refine callType_codes (Q₁ := fun obj s₁ => obj = .ref s.heap.objs.size ∧ s₁ = { s with heap := s.heap.push { cls := .type "list", data := .seq #[] } }) F.called_list (F.typeCall_list_1 _) F.entry_list_init
    (code_list_new _ ⟨rfl, rfl⟩) fun obj s₁ h₁ => ?_
  obtain ⟨rfl, rfl⟩ := h₁
  have hS : (s.heap.push { cls := .type "list", data := .seq #[] }).get? s.heap.objs.size = some { cls := .type "list", data := .seq #[] } := Heap.get?_push_size _ rfl
  obtain ⟨oi, hoi, _⟩ := id hit
  obtain ⟨ol, hol, _⟩ := id hl
  refine ⟨⟨_, hS, rfl⟩, F.args_list_init_2 _ _, wpAny_list_init_rev (A := A.in1) hh (hit.at fun o e => Heap.get?_push_of_some _ e) (hl.push _) hne hn _ (Nat.ne_of_gt (Heap.lt_size hoi)) (Nat.ne_of_gt (Heap.lt_size hol)) hS fun h' tk acc' c' hk hS' hacc => ?_⟩
  exact ⟨rfl, hQ h' tk acc' c' (fun b o hb e => hk b o (Nat.ne_of_lt (Heap.lt_size e)) hb (Heap.get?_push_of_some _ e)) hS' hacc⟩
end
end RT
namespace RT
open PySem PySem.Spec PyProof.Rows L2
/-- list(reversed(x)), x a list: a new list -/
def tLstRev (K : PySem.W.Frag) (te : TE) : TE := fun σ H Q => te σ H fun v H1 => ∃ (a : Addr) (xs : List V), v = .ref a ∧ SqL K H1 a xs ∧ ∀ q, H1 q = none → Q (.ref q) (upd H1 q (.lst xs.reverse))
section
variable {X : Cx}
theorem pe_listRev {e : Expr} {te : TE} {p p2 pos pos2 : Pos} (hc : X.calm = true) (hg : Gl X "list") (hm : X.mg "list" = none) (hg2 : Gl X "reversed") (hm2 : X.mg "reversed" = none) (he : PE X e te)
    (hs : starEach [e] X.env = (false, eval e X.env) :: starEach [] X.env := by rfl)
    (hs2 : starEach [.Call (.Name "reversed" p2) [e] [] pos2] X.env = (false, eval (.Call (.Name "reversed" p2) [e] [] pos2) X.env) :: starEach [] X.env := by rfl) :
    PE X (.Call (.Name "list" p) [.Call (.Name "reversed" p2) [e] [] pos2] [] pos) (tLstRev X.K te) := by
  refine ⟨fun pins s σ H Q I h => ?_⟩
  refine Call_ (ld_blt I hg hm boot_list (PyProof.Rows.callWith_type1 (args_cons (Call_ (ld_blt I hg2 hm2 PyProof.Rows.boot_reversed (PyProof.Rows.callWith_type1 (args_cons (thn (he.run pins s σ H _ I h) fun u s1 ⟨v, H1, I1, r1, q1⟩ => args_nil ?_) hs) hs rfl))) hs2) hs2 rfl))
  obtain ⟨a, xs, ev, hq, q⟩ := q1
  subst ev
  obtain rfl : u = Value.ref a := r1
  obtain ⟨its, rv, p', hz⟩ := I1.list hq
  refine call_reversed_list p'.isList (args_nil ?_)
  have k0 : ∀ b o, s1.heap.get? b = some o → (s1.heap.push (revObj a ((its.toArray.size : Int) - 1))).get? b = some o := fun b o e => Heap.get?_push_of_some _ e
  have I2 : Inv X pins σ H1 { s1 with heap := s1.heap.push (revObj a ((its.toArray.size : Int) - 1)) } := I1.kept (t' := s1.toks) k0
  obtain ⟨f0, f1, f2, f3, f4, f5⟩ := I1.fpOk (H' := H1) (b := s1.heap.objs.size) (Nat.le_refl _) (I1.hok.fresh (Nat.le_refl _))
  have hl := p'.isList
  obtain ⟨ol, hol, _⟩ := id hl
  have hne : a ≠ s1.heap.objs.size := Nat.ne_of_lt (Heap.lt_size hol)
  have hn : its.toArray.size ≤ sizeLine := by rw [List.size_toArray, ← rv.length]; exact hz
  refine call_list_rev (s := { s1 with heap := s1.heap.push (revObj a ((its.toArray.size : Int) - 1)) }) (I1.ok.hd hc) ⟨_, Heap.get?_push_size _ rfl, rfl, rfl⟩ (hl.push _) hne hn fun h' tk acc c' hk hS hi => ?_
  refine ⟨.ref (s1.heap.push (revObj a ((its.toArray.size : Int) - 1))).objs.size, upd H1 (s1.heap.push (revObj a ((its.toArray.size : Int) - 1))).objs.size (.lst xs.reverse), I2.turnedNew (t' := tk) (ch := [s1.heap.objs.size]) (fun b o hb e => hk b o (fun z => hb (by rw [z]; exact List.mem_singleton.mpr rfl)) e) (fun b hb => ?_) (Nat.le_refl _) (show ObjOk X.prog X.w _ _ _ (.lst xs.reverse) from ⟨by rw [List.length_reverse]; exact hz, acc.toList, c', vals_rev rv hi, ?_⟩), rfl, q _ (I2.hok.fresh (Nat.le_refl _))⟩
  · rw [List.mem_singleton.mp hb]
    exact ⟨f0, f1, f2, f3, f4, f5⟩
  · rw [Array.toArray_toList]
    exact hS
end
end RT
end
section
set_option Elab.async false
set_option linter.all false
set_option maxRecDepth 100000
set_option maxHeartbeats 4000000
namespace Sh
open PySem PySem.Spec PyProof.Rows L2
open C8 (pss_cut tCut)
open Evl (ixN_nat)
def spLaw (K : PySem.W.Frag) : Sp := fun vs H Q _ => ∃ (s : Addr) (ns : List Int), vs = [.ref s] ∧ SqL K H s (ns.map V.int) ∧ ns.length ≤ 63 ∧ ∀ H', Q (.bl true) H'
theorem fnOk0 {P : Program} {w : World} {K : PySem.W.Frag} {mg : Str → Option Value} {base : Heap} {k : Nat} {x : Str} {sp : Sp} {st : Stmt} {N ps : List Str} {f0 : Addr} {fd : FuncData} (F : FunD K x x (defArgs st) (defBody st) (defScope st) [] [] f0 fd) (S : FnScope N ps (defScope st)) (len : ∀ vs H Q E, sp vs H Q E → vs.length = ps.length)
    (hbody : ∀ (cdv : Value) (A : Around) (outer : List Env) (s : Shared) (H : Hp) (vs : List V) (Q : VK) (E : XK), Room k (A.deeper (envOfC x (defScope st) s.heap.objs.size f0 cdv)) → sp vs H Q E →
      ∃ t, PSs (cxOf CX0 P w K mg base N x (defScope st) f0 cdv A outer s H E).nox (defBody st) t ∧ t { nx := fun _ H' => Q .non H', rt := Q } (start N vs) H) : FnOk P w K mg base CX0 (k + 1) f0 fd ps sp :=
  F.ok S len fun cdv A outer s H vs Q E hr h => by
    obtain ⟨t, a, b⟩ := hbody cdv A outer s H vs Q E hr h
    exact ⟨t, a.nox, b⟩
/-- the script stays -/
theorem sqk {K : PySem.W.Frag} {H H' : Hp} {s : Addr} {xs : List V} (h : SqL K H s xs) (k : ∀ o, H s = some o → H' s = some o) : SqL K H' s xs := by
  rcases h with (h | ⟨o, h⟩) | h
  · exact .inl (.inl (k _ h))
  · exact .inl (.inr ⟨o, k _ h⟩)
  · exact .inr h
theorem sqs {K : PySem.W.Frag} {H H' : Hp} {s : Addr} {xs : List V} (h : SqL K H s xs) (k : Same H H') : SqL K H' s xs := sqk h fun o e => k _ _ e
theorem sq_kp {K : PySem.W.Frag} {H H' : Hp} {s x : Addr} {xs : List V} (h : SqL K H s xs) (hx : H x = none) (k : Kp x H H') : SqL K H' s xs := sqk h fun o e => k _ _ e fun c => by rw [c, hx] at e; cases e
theorem SwOk.good {rows : List Row} {sws : List Swap} (W : SwOk rows sws) (R : ROk 4 rows) : GoodB rows sws sws.length := by
  rcases FstF.ok W R (Int.le_refl 0) (by decide) with ⟨h, _⟩ | ⟨_, _, _, h⟩ | ⟨_, _, i, q, h, _⟩
  · omega
  · exact h
  · omega
theorem SwOk.tx {rows : List Row} {sws : List Swap} (W : SwOk rows sws) (R : ROk 4 rows) : TxOk sws := fun q hq => by
  obtain ⟨_, d, q1, q2⟩ := W.pr q hq
  exact ⟨(TOk.nm (R.nm _ q1)).up, (TOk.nm (R.nm _ q2)).up⟩
theorem SwOk.rev {rows : List Row} {sws : List Swap} (W : SwOk rows sws) : SwOk rows sws.reverse := by
  refine ⟨fun q hq => W.pr q (List.mem_reverse.mp hq), ?_, fun q hq => W.num q (List.mem_reverse.mp hq), by rw [List.length_reverse]; exact W.len⟩
  rw [List.map_reverse]
  exact List.pairwise_reverse.mpr (W.nd.imp fun h => Ne.symm h)
theorem swp_mem {sws : List Swap} (nd : (sws.map fun q => (q.1, q.2.1)).Nodup) {z y : Str} {c : Int} : swp sws z y = some c ↔ (z = y ∧ c = 0) ∨ (z ≠ y ∧ (z, y, c) ∈ sws) := by
  unfold swp
  by_cases h : z = y
  · rw [if_pos h]
    constructor
    · intro e
      injection e with e
      exact .inl ⟨h, e.symm⟩
    · rintro (⟨_, e⟩ | ⟨n, _⟩)
      · rw [e]
      · exact absurd h n
  · rw [if_neg h]
    constructor
    · intro e
      cases hf : sws.find? (fun q => decide (q.1 = z ∧ q.2.1 = y)) with
      | none => rw [hf] at e; cases e
      | some q =>
        rw [hf] at e
        have hp := List.find?_some hf
        have e1 : q.1 = z ∧ q.2.1 = y := of_decide_eq_true hp
        have hm := List.mem_of_find?_eq_some hf
        injection e with e
        obtain ⟨q1, q2, q3⟩ := q
        obtain ⟨rfl, rfl⟩ := e1
        have e : q3 = c := e
        rw [← e]
        exact .inr ⟨h, hm⟩
    · rintro (⟨e, _⟩ | ⟨_, hm⟩)
      · exact absurd e h
      · cases hf : sws.find? (fun q => decide (q.1 = z ∧ q.2.1 = y)) with
        | none => exact absurd (List.find?_eq_none.mp hf _ hm) (by simp)
        | some q =>
          have hp := List.find?_some hf
          have e1 : q.1 = z ∧ q.2.1 = y := of_decide_eq_true hp
          have hq := List.mem_of_find?_eq_some hf
          obtain ⟨i, hi, ei⟩ := List.mem_iff_getElem.mp hm
          obtain ⟨j, hj, ej⟩ := List.mem_iff_getElem.mp hq
          have l1 : i < (sws.map fun q => (q.1, q.2.1)).length := by rw [List.length_map]; exact hi
          have l2 : j < (sws.map fun q => (q.1, q.2.1)).length := by rw [List.length_map]; exact hj
          have e2 : (sws.map fun q => (q.1, q.2.1))[i] = (sws.map fun q => (q.1, q.2.1))[j] := by
            rw [List.getElem_map, List.getElem_map, ei, ej]
            exact Prod.ext e1.1.symm e1.2.symm
          have := (List.getElem_inj nd).mp e2
          subst this
          rw [← ej, ei]
          rfl
theorem swp_rev {rows : List Row} {sws : List Swap} (W : SwOk rows sws) : swp sws.reverse = swp sws := by
  funext z y
  apply Option.ext
  intro c
  rw [swp_mem W.rev.nd, swp_mem W.nd, List.mem_reverse]
theorem dueP_rev {rows : List Row} {sws : List Swap} (W : SwOk rows sws) (cut : Int) (l o : List Str) : dueP rows cut sws.reverse l o = dueP rows cut sws l o := by
  unfold dueP PQ
  rw [swp_rev W]
theorem PlAt.reverse {α : Type} {f : α → List V} {H : Hp} {ts : List Addr} {xs : List α} (x : PlAt f H ts xs) : PlAt f H ts.reverse xs.reverse := by
  refine ⟨by rw [List.length_reverse, List.length_reverse, x.1], fun i t q a b => ?_⟩
  have hi : i < ts.length := by
    have := (List.getElem?_eq_some_iff.mp a).1
    rw [List.length_reverse] at this
    exact this
  rw [List.getElem?_reverse hi] at a
  rw [List.getElem?_reverse (by rw [← x.1]; exact hi), ← x.1] at b
  exact x.2 _ t q a b
/-- the law's pieces stay while a box is drawn from -/
theorem SwsAt.kp {H H' : Hp} {x p : Addr} {sws : List Swap} (h : SwsAt H p sws) (b : BxAt H x) (k : Kp x H H') : SwsAt H' p sws := by
  obtain ⟨ts, h1, h2⟩ := h
  exact ⟨ts, k _ _ h1 (b.nref h1), h2.keep (b.tk k)⟩
theorem BedAt.kb {C x : Addr} {H H' : Hp} {p : Addr} {rows : List Row} (y : BedAt C H p rows) (b : BxAt H x) (k : Kp x H H') : BedAt C H' p rows := by
  obtain ⟨dx, r, kk, w, rk, ts, h1, h2, h3, h4, h5, h6⟩ := y
  have tk := b.tk k
  obtain ⟨za, zb, hz⟩ := b
  exact ⟨dx, r, kk, w, rk, ts, k _ _ h1 (ne_of h1 hz (fun e => nomatch e)), tk _ _ h2, h3.keep tk, tk _ _ h4, k _ _ h5 (ne_of h5 hz (fun e => nomatch e)), k _ _ h6 (ne_of h6 hz (fun e => nomatch e))⟩
abbrev N_law : List Str := ["script", "kinds", "arity", "bed", "box", "cutting", "swaps", "wrong", "later", "mine", "room", "plant", "other", "way", "prices", "second", "turn"]
theorem sc_law : FnScope N_law ["script"] (defScope s_law) := ⟨rfl, rfl, rfl, by decide +kernel, rfl, by decide +kernel, by decide +kernel⟩
section
variable {P : Program} {w : World} {K : PySem.W.Frag} {mg : Str → Option Value} {base : Heap} {C CP AI : Addr}
theorem ok_law (T : Bp mg) (c_law_pick : DefOk P w K mg base CX0 1 "_law_pick" spPick51) (c_law_box : DefOk P w K mg base CX0 2 "_law_box" (spBox51 K)) (c_law_number : DefOk P w K mg base CX0 2 "_law_number" spNum51) (c_law_bad_number : DefOk P w K mg base CX0 2 "_law_bad_number" spBad51) (c_law_kinds : DefOk P w K mg base CX0 3 "_law_kinds" spKinds51) (c_law_arity : DefOk P w K mg base CX0 1 "_law_arity" spArity) (c_law_made_bed : DefOk P w K mg base CX0 7 "_law_made_bed" (spBed51 C)) (c_law_swaps : DefOk P w K mg base CX0 3 "_law_swaps" spSwaps51) (c_law_taken : DefOk P w K mg base CX0 8 "_law_taken" (spTaken51 C)) (c_law_bad_swaps : DefOk P w K mg base CX0 3 "_law_bad_swaps" spBadSw51) (c_law_plant : DefOk P w K mg base CX0 2 "_law_plant" spPlant51) (c_law_chain : DefOk P w K mg base CX0 2 "_law_chain" spChain51) (c_law_changed : DefOk P w K mg base CX0 2 "_law_changed" spChg51) (c_law_spoilt : DefOk P w K mg base CX0 2 "_law_spoilt" spSpoilt51) (c_law_made_prices : DefOk P w K mg base (L2.CX P w) 6 "_law_made_prices" (spMkPr C CP AI)) (c_law_due : DefOk P w K mg base CX0 3 "_law_due" spDue51) (c_law_right : DefOk P w K mg base CX0 6 "_law_right" (spRight51 C CP)) {f0 : Addr} {fd : FuncData} (F0 : FunD K "law" "law" (defArgs s_law) (defBody s_law) (defScope s_law) [] [] f0 fd) : FnOk P w K mg base CX0 11 f0 fd ["script"] (spLaw K) := by
  have b_reversed := T.b_reversed
  refine fnOk0 F0 sc_law (fun vs H Q E h => ?_) (fun cdv A outer s H vs Q E hr h => ?_)
  · obtain ⟨sc, ns, rfl, _⟩ := h
    rfl
  · obtain ⟨sc, ns, rfl, hS, hn, k⟩ := h
    refine ⟨_, (pss_cons (ps_set (i := 1) sc_law.nd rfl (Or.inl rfl) (pe_d c_law_kinds (hr.mono (by decide)) pass0 (pa_cons (pe_d c_law_box (hr.mono (by decide)) pass0 (pa_cons (pv 0) (pa_cons pe_int pa_nil))) pa_nil)))
      (pss_cons (ps_set (i := 2) sc_law.nd rfl (Or.inl rfl) (pe_d c_law_arity (hr.mono (by decide)) pass0 (pa_cons (pv 1) pa_nil)))
      (pss_cons (ps_set (i := 3) sc_law.nd rfl (Or.inl rfl) (pe_d c_law_made_bed (hr.mono (by decide)) pass0 (pa_cons (pv 1) pa_nil)))
      (pss_cons (ps_set (i := 4) sc_law.nd rfl (Or.inl rfl) (pe_d c_law_box (hr.mono (by decide)) pass0 (pa_cons (pv 0) (pa_cons pe_int pa_nil))))
      (pss_cons (ps_set (i := 5) sc_law.nd rfl (Or.inl rfl) (pe_d c_law_number (hr.mono (by decide)) pass0 (pa_cons (pv 4) pa_nil)))
      (pss_cons (ps_set (i := 6) sc_law.nd rfl (Or.inl rfl) (pe_d c_law_swaps (hr.mono (by decide)) pass0 (pa_cons (pv 4) (pa_cons (pv 1) pa_nil))))
      (pss_cons (ps_if (pt_not (pt_val (pe_d c_law_taken (hr.mono (by decide)) pass0 (pa_cons (pv 3) (pa_cons (pv 2) (pa_cons (pv 5) (pa_cons (pv 6) pa_nil)))))))
        (pss_one (ps_ret pe_bl))
        pss_nil)
      (pss_cons (ps_set (i := 7) sc_law.nd rfl (Or.inl rfl) (pv 5))
      (pss_cut (ps_if (pt_cmpR op_eq (pe_d c_law_pick (hr.mono (by decide)) pass0 (pa_cons (pv 4) (pa_cons pe_int pa_nil))) pe_int (nomark _))
        (pss_one (ps_set (i := 7) sc_law.nd rfl (Or.inl rfl) (pe_d c_law_bad_number (hr.mono (by decide)) pass0 (pa_cons (pv 4) pa_nil))))
        pss_nil)
      (pss_cons (ps_if (pt_not (pt_val (pe_d c_law_taken (hr.mono (by decide)) pass0 (pa_cons (pv 3) (pa_cons (pv 2) (pa_cons (pv 7) (pa_cons (pe_d c_law_bad_swaps (hr.mono (by decide)) pass0 (pa_cons (pv 4) (pa_cons (pv 1) (pa_cons (pv 6) pa_nil)))) pa_nil)))))))
        (pss_one (ps_ret pe_bl))
        pss_nil)
      (pss_cons (ps_set (i := 8) sc_law.nd rfl (Or.inl rfl) (pe_d c_law_number (hr.mono (by decide)) pass0 (pa_cons (pv 4) pa_nil)))
      (pss_cons (ps_set (i := 9) sc_law.nd rfl (Or.inl rfl) (pe_d c_law_box (hr.mono (by decide)) pass0 (pa_cons (pv 0) (pa_cons pe_int pa_nil))))
      (pss_cons (ps_set (i := 10) sc_law.nd rfl (Or.inl rfl) (pe_op op_add pe_int (pe_d c_law_pick (hr.mono (by decide)) pass0 (pa_cons (pv 9) (pa_cons pe_int pa_nil)))))
      (pss_cons (ps_set (i := 11) sc_law.nd rfl (Or.inl rfl) (pe_d c_law_chain (hr.mono (by decide)) pass0 (pa_cons (pv 9) (pa_cons (pv 1) (pa_cons (pe_d c_law_plant (hr.mono (by decide)) pass0 (pa_cons (pv 9) (pa_cons (pv 1) (pa_cons (pv 10) pa_nil)))) (pa_cons pe_int pa_nil))))))
      (pss_cons (ps_set (i := 12) sc_law.nd rfl (Or.inl rfl) (pe_d c_law_changed (hr.mono (by decide)) pass0 (pa_cons (pv 9) (pa_cons (pv 1) (pa_cons (pv 2) (pa_cons (pv 11) pa_nil))))))
      (pss_cons (ps_set (i := 13) sc_law.nd rfl (Or.inl rfl) (pe_d c_law_pick (hr.mono (by decide)) pass0 (pa_cons (pv 9) (pa_cons pe_int pa_nil))))
      (pss_cut (ps_if (pt_cmpR op_lt (pv 13) pe_int (nomark _))
        (pss_one (ps_set (i := 12) sc_law.nd rfl (Or.inl rfl) (pe_d c_law_plant (hr.mono (by decide)) pass0 (pa_cons (pv 9) (pa_cons (pv 1) (pa_cons (pv 10) pa_nil))))))
        pss_nil)
      (pss_cut (ps_if (PW.pt (pw_or (pt_cmpR op_eq (pv 13) pe_int (nomark _)) (pw_or1 (pt_cmpR op_eq (pv 13) pe_int (nomark _)))))
        (pss_one (ps_set (i := 11) sc_law.nd rfl (Or.inl rfl) (pe_d c_law_spoilt (hr.mono (by decide)) pass0 (pa_cons (pv 9) (pa_cons (pv 1) (pa_cons (pv 11) pa_nil))))))
        pss_nil)
      (pss_cut (ps_if (PW.pt (pw_or (pt_cmpR op_eq (pv 13) pe_int (nomark _)) (pw_or1 (pt_cmpR op_eq (pv 13) pe_int (nomark _)))))
        (pss_one (ps_set (i := 12) sc_law.nd rfl (Or.inl rfl) (pe_d c_law_spoilt (hr.mono (by decide)) pass0 (pa_cons (pv 9) (pa_cons (pv 1) (pa_cons (pv 12) pa_nil))))))
        pss_nil)
      (pss_cons (ps_set (i := 14) sc_law.nd rfl (Or.inl rfl) (pe_d c_law_made_prices (hr.mono (by decide)) passL (pa_cons (pv 3) (pa_cons (pv 5) (pa_cons (pv 6) pa_nil)))))
      (pss_cons (ps_set (i := 15) sc_law.nd rfl (Or.inl rfl) (pe_d c_law_made_prices (hr.mono (by decide)) passL (pa_cons (pv 3) (pa_cons (pv 8) (pa_cons (RT.pe_listRev rfl (by rfl) T.b_list (by rfl) b_reversed (pv 6)) pa_nil)))))
      (pss_cons (ps_for PassesOwn.never rfl (pi_range1 (by rfl) T.b_range (pa_cons pe_int pa_nil)) (pg_name (i := 16) sc_law.nd rfl (Or.inl rfl))
        (pss_cons (ps_if (pt_not (pt_val (pe_d c_law_right (hr.mono (by decide)) pass0 (pa_cons (pv 14) (pa_cons (pv 11) (pa_cons (pv 12) (pa_cons (pe_d c_law_due (hr.mono (by decide)) pass0 (pa_cons (pv 2) (pa_cons (pv 5) (pa_cons (pv 6) (pa_cons (pv 11) (pa_cons (pv 12) pa_nil)))))) pa_nil)))))))
          (pss_one (ps_ret pe_bl))
          pss_nil)
        (pss_one (ps_if (pt_not (pt_val (pe_d c_law_right (hr.mono (by decide)) pass0 (pa_cons (pv 15) (pa_cons (pv 12) (pa_cons (pv 11) (pa_cons (pe_d c_law_due (hr.mono (by decide)) pass0 (pa_cons (pv 2) (pa_cons (pv 8) (pa_cons (pv 6) (pa_cons (pv 12) (pa_cons (pv 11) pa_nil)))))) pa_nil)))))))
          (pss_one (ps_ret pe_bl))
          pss_nil))))
      (pss_one (ps_ret (pe_d c_law_right (hr.mono (by decide)) pass0 (pa_cons (pv 15) (pa_cons (pv 11) (pa_cons (pv 11) (pa_cons (pe_d c_law_due (hr.mono (by decide)) pass0 (pa_cons (pv 2) (pa_cons (pv 8) (pa_cons (pv 6) (pa_cons (pv 11) (pa_cons (pv 11) pa_nil)))))) pa_nil))))))))))))))))))))))))))))), ?_⟩
    have h20 : 63 ≤ 63 := Nat.le_refl _
    refine ⟨_, rfl, sc, ns, 0, rfl, hS, fun H' s => sqs hS s, hn, by decide, fun H1 x0 s1 hx0 b1 => ?_⟩
    have hS1 := sqs hS s1
    refine ⟨x0, rfl, b1, fun H2 r rows k2 b2 _ _ hR R => ?_⟩
    have k02 : Kp x0 H H2 := (Kp.same s1).trans k2
    have hS2 := sq_kp hS hx0 k02
    refine ⟨_, rfl, r, rows, rfl, hR, R, fun H3 ar s3 _ har => ?_⟩
    have R3 := hR.sub s3
    refine ⟨_, rfl, r, rows, rfl, R3, R, fun H4 b s4 _ hB => ?_⟩
    have R4 := R3.sub s4
    have ar4 := s4 _ _ har
    have hS4 := sqs (sqs hS2 s3) s4
    refine ⟨_, rfl, sc, ns, 1, rfl, hS4, fun H' s => sqs hS4 s, hn, by decide, fun H5 x1 s5 hx1 b5 => ?_⟩
    have hS5 := sqs hS4 s5
    have R5 := R4.sub s5
    have ar5 := s5 _ _ ar4
    have B5 := hB.same s5
    refine ⟨_, rfl, x1, rfl, b5, fun H6 cut k6 b6 cut0 cut1 => ?_⟩
    have R6 := R5.kp b5 k6
    have ar6 := dkb ar5 b5 k6
    have B6 := B5.kb b5 k6
    refine ⟨_, rfl, _, rfl, x1, r, rows, rfl, b6, R6, R, fun H7 sl sws k7 b7 _ W7 W => ?_⟩
    have R7 := R6.kp b6 k7
    have ar7 := dkb ar6 b6 k7
    have B7 := B6.kb b6 k7
    have wl := W.len
    refine ⟨_, rfl, _, rfl, _, rfl, _, rfl, b, ar, sl, cut, rows, sws, rfl, B7, R, ar7, W7, W.tx R, by omega, fun H8 s8 => ⟨_, rfl, ifn (by decide) ?_⟩⟩
    have R8 := R7.sub s8
    have ar8 := s8 _ _ ar7
    have B8 := B7.same s8
    have W8 := W7.same s8
    have b8 := b7.same s8
    refine ⟨_, rfl, ?_⟩
    have k58 : Kp x1 H5 H8 := (k6.trans k7).trans (Kp.same s8)
    -- the wrong price
    refine ⟨fun σ H' => Kp x1 H8 H' ∧ BxAt H' x1 ∧ ∃ wr : Int, σ = [some (.ref sc), some (.ref r), some (.ref ar), some (.ref b), some (.ref x1), some (.int cut), some (.ref sl), some (.int wr), none, none, none, none, none, none, none, none, none], ?_, ?_⟩
    · exact ⟨_, rfl, x1, 6, rfl, b8, by decide, by decide, fun H9 d k9 b9 _ _ => ⟨rfl, _, rfl, ite2 (fun _ => ⟨_, rfl, x1, rfl, b9, fun HA e kA bA _ _ _ => ⟨k9.trans kA, bA, e, rfl⟩⟩) (fun _ => ⟨k9, b9, cut, rfl⟩)⟩⟩
    rintro σ H9 ⟨k9, b9, wr, rfl⟩
    have R9 := R8.kp b8 k9
    have ar9 := dkb ar8 b8 k9
    have B9 := B8.kb b8 k9
    have W9 := W8.kp b8 k9
    refine ⟨_, rfl, _, rfl, _, rfl, _, rfl, _, rfl, _, rfl, x1, r, sl, rows, sws, rfl, b9, R9, R, W9, W, fun HA p sws' kA bA _ WA TX lA => ?_⟩
    have RA := R9.kp b9 kA
    have arA := dkb ar9 b9 kA
    have BA := B9.kb b9 kA
    have WsA := W9.kp b9 kA
    refine ⟨b, ar, p, wr, rows, sws', rfl, BA, R, arA, WA, TX, lA, fun HB sB => ⟨_, rfl, ifn (by decide) ?_⟩⟩
    have RB := RA.sub sB
    have arB := sB _ _ arA
    have BB := BA.same sB
    have WB := WsA.same sB
    have bB := bA.same sB
    refine ⟨_, rfl, x1, rfl, bB, fun HC lat kC bC lat0 lat1 => ?_⟩
    have RC := RB.kp bB kC
    have arC := dkb arB bB kC
    have BC := BB.kb bB kC
    have WC := WB.kp bB kC
    have k4C : Kp x1 H4 HC := ((((Kp.same s5).trans k58).trans k9).trans kA).trans ((Kp.same sB).trans kC)
    have hSC := sq_kp hS4 hx1 k4C
    refine ⟨_, rfl, sc, ns, 2, rfl, hSC, fun H' s => sqs hSC s, hn, by decide, fun HD x2 sD hx2 bD => ?_⟩
    have RD := RC.sub sD
    have arD := sD _ _ arC
    have BD := BC.same sD
    have WD := WC.same sD
    refine ⟨_, rfl, x2, 9, rfl, bD, by decide, by decide, fun HE d kE bE d0 d1 => ⟨_, _, rfl, rfl, ?_⟩⟩
    have RE := RD.kp bD kE
    have arE := dkb arD bD kE
    have BE := BD.kb bD kE
    have WE := WD.kp bD kE
    have er : 1 + d = ((1 + d.toNat : Nat) : Int) := by omega
    have k59 : KsOk rows 9 = KsOk rows 9 := rfl
    have up9 : ∀ {m : Nat} {l : List Str}, m ≤ 9 → KsOk rows m l → KsOk rows 9 l := fun h q => ⟨q.1, Nat.le_trans q.2.1 h, q.2.2⟩
    refine ⟨_, rfl, _, rfl, _, rfl, _, rfl, _, rfl, x2, r, 1 + d.toNat, rows, by show [V.ref x2, V.ref r, V.int (1 + d)] = _; rw [er], bE, RE, R, by omega, by omega, fun HF p0 l0 kF bF tF KF => ?_⟩
    have RF := RE.kp bE kF
    have arF := dkb arE bE kF
    refine ⟨x2, r, p0, rows, l0, rfl, bF, RF, R, tF, up9 (by omega) KF, fun HG p1 l1 kG bG tG KG => ?_⟩
    have RG := RF.kp bF kG
    have arG := dkb arF bF kG
    refine ⟨_, rfl, _, rfl, _, rfl, _, rfl, x2, r, ar, p1, rows, l1, rfl, bG, RG, R, arG, tG, KG, fun HI u1 o1 kI bI tI KI => ?_⟩
    have RI := RG.kp bG kI
    have arI := dkb arG bG kI
    have tI1 := tqk tG bG kI
    have k2I : Kp x2 HE HI := (kF.trans kG).trans kI
    have BI := BE.kb bE k2I
    have WI := WE.kp bE k2I
    refine ⟨_, rfl, x2, 16, rfl, bI, by decide, by decide, fun HJ way kJ bJ _ _ => ?_⟩
    have RJ := RI.kp bI kJ
    have arJ := dkb arI bI kJ
    have BJ := BI.kb bI kJ
    have WJ := WI.kp bI kJ
    have tJ1 := tqk tI1 bI kJ
    have tJ2 := tqk tI bI kJ
    -- another plant
    refine ⟨fun σ H' => Kp x2 HJ H' ∧ BxAt H' x2 ∧ ∃ (u : Addr) (o : List Str), σ = [some (.ref sc), some (.ref r), some (.ref ar), some (.ref b), some (.ref x1), some (.int cut), some (.ref sl), some (.int wr), some (.int lat), some (.ref x2), some (.int (1 + d)), some (.ref p1), some (.ref u), some (.int way), none, none, none] ∧ Tq H' u (sV o) ∧ 1 ≤ o.length ∧ o.length ≤ 1809, ?_, ?_⟩
    · refine ⟨_, rfl, _, _, rfl, rfl, _, rfl, ite2 (fun _ => ?_) (fun _ => ⟨Kp.refl x2 HJ, bJ, u1, o1, rfl, tJ2, KI.1, KI.2.1⟩)⟩
      refine ⟨_, rfl, _, rfl, _, rfl, x2, r, 1 + d.toNat, rows, by show [V.ref x2, V.ref r, V.int (1 + d)] = _; rw [er], bJ, RJ, R, by omega, by omega, fun HK u o kK bK tK KK => ⟨kK, bK, u, o, rfl, tK, KK.1, by have := KK.2.1; omega⟩⟩
    rintro σ HK ⟨kK, bK, u2, o2, rfl, tK, o21, o22⟩
    have RK := RJ.kp bJ kK
    have tK1 := tqk tJ1 bJ kK
    -- spoilt
    refine ⟨fun σ H' => Kp x2 HJ H' ∧ BxAt H' x2 ∧ ∃ (p : Addr) (l : List Str), σ = [some (.ref sc), some (.ref r), some (.ref ar), some (.ref b), some (.ref x1), some (.int cut), some (.ref sl), some (.int wr), some (.int lat), some (.ref x2), some (.int (1 + d)), some (.ref p), some (.ref u2), some (.int way), none, none, none] ∧ Tq H' p (sV l) ∧ l.length ≤ 1810 ∧ Tq H' u2 (sV o2), ?_, ?_⟩
    · have no : Kp x2 HJ HK ∧ BxAt HK x2 ∧ ∃ (p : Addr) (l : List Str), [some (V.ref sc), some (.ref r), some (.ref ar), some (.ref b), some (.ref x1), some (.int cut), some (.ref sl), some (.int wr), some (.int lat), some (.ref x2), some (.int (1 + d)), some (.ref p1), some (.ref u2), some (.int way), none, none, none] = [some (V.ref sc), some (.ref r), some (.ref ar), some (.ref b), some (.ref x1), some (.int cut), some (.ref sl), some (.int wr), some (.int lat), some (.ref x2), some (.int (1 + d)), some (.ref p), some (.ref u2), some (.int way), none, none, none] ∧ Tq HK p (sV l) ∧ l.length ≤ 1810 ∧ Tq HK u2 (sV o2) := ⟨kK, bK, p1, l1, rfl, tK1, by have := KG.2.1; omega, tK⟩
      refine ⟨_, rfl, rfl, _, rfl, ite2 (fun _ => ifp rfl ⟨_, rfl, _, rfl, _, rfl, ⟨x2, r, p1, rows, l1, rfl, bK, RK, R, tK1, KG.1, KG.2.1, fun HL p l kL bL tL ll => ⟨kK.trans kL, bL, p, l, rfl, tL, ll, tqk tK bK kL⟩⟩⟩) (fun _ => ⟨_, rfl, rfl, _, rfl, ite2 (fun _ => ⟨_, rfl, _, rfl, _, rfl, ⟨x2, r, p1, rows, l1, rfl, bK, RK, R, tK1, KG.1, KG.2.1, fun HL p l kL bL tL ll => ⟨kK.trans kL, bL, p, l, rfl, tL, ll, tqk tK bK kL⟩⟩⟩) (fun _ => no)⟩)⟩
    rintro σ HL ⟨kL, bL, p, l, rfl, tL, ll, tLo⟩
    have RL := RJ.kp bJ kL
    refine ⟨fun σ H' => Kp x2 HJ H' ∧ BxAt H' x2 ∧ ∃ (u : Addr) (o : List Str), σ = [some (.ref sc), some (.ref r), some (.ref ar), some (.ref b), some (.ref x1), some (.int cut), some (.ref sl), some (.int wr), some (.int lat), some (.ref x2), some (.int (1 + d)), some (.ref p), some (.ref u), some (.int way), none, none, none] ∧ Tq H' u (sV o) ∧ o.length ≤ 1810 ∧ Tq H' p (sV l), ?_, ?_⟩
    · have no : Kp x2 HJ HL ∧ BxAt HL x2 ∧ ∃ (u : Addr) (o : List Str), [some (V.ref sc), some (.ref r), some (.ref ar), some (.ref b), some (.ref x1), some (.int cut), some (.ref sl), some (.int wr), some (.int lat), some (.ref x2), some (.int (1 + d)), some (.ref p), some (.ref u2), some (.int way), none, none, none] = [some (V.ref sc), some (.ref r), some (.ref ar), some (.ref b), some (.ref x1), some (.int cut), some (.ref sl), some (.int wr), some (.int lat), some (.ref x2), some (.int (1 + d)), some (.ref p), some (.ref u), some (.int way), none, none, none] ∧ Tq HL u (sV o) ∧ o.length ≤ 1810 ∧ Tq HL p (sV l) := ⟨kL, bL, u2, o2, rfl, tLo, by omega, tL⟩
      refine ⟨_, rfl, rfl, _, rfl, ite2 (fun _ => ifp rfl ⟨_, rfl, _, rfl, _, rfl, ⟨x2, r, u2, rows, o2, rfl, bL, RL, R, tLo, o21, o22, fun HM u o kM bM tM lo => ⟨kL.trans kM, bM, u, o, rfl, tM, lo, tqk tL bL kM⟩⟩⟩) (fun _ => ⟨_, rfl, rfl, _, rfl, ite2 (fun _ => ⟨_, rfl, _, rfl, _, rfl, ⟨x2, r, u2, rows, o2, rfl, bL, RL, R, tLo, o21, o22, fun HM u o kM bM tM lo => ⟨kL.trans kM, bM, u, o, rfl, tM, lo, tqk tL bL kM⟩⟩⟩) (fun _ => no)⟩)⟩
    rintro σ HM ⟨kM, bM, u, o, rfl, tMo, lo, tMl⟩
    have arM := dkb arJ bJ kM
    have BM := BJ.kb bJ kM
    have WM := WJ.kp bJ kM
    -- the prices
    have good := W.good R
    have goodR := W.rev.good R
    have ok : ∀ {c : Int} {s : List Swap} {H' : Hp} {Qz : VK}, SwOk rows s → 0 ≤ c → c ≤ 1000 → (∀ (H'' : Hp) (p : Addr), Same H' H'' → H' p = none → PrcAt C CP H'' p rows c s → Qz (.ref p) H'') → PrcE C CP AI rows c s H' Qz E0 := fun W' h0 h1 h => ⟨fun e he hne => absurd (he.uniq (FstF.ok W' R h0 h1)) hne, fun _ => h⟩
    refine ⟨_, rfl, _, rfl, _, rfl, b, sl, cut, rows, sws, rfl, WM, BM, R, by omega, ok W cut0 cut1 fun HN c1 sN _ C1 => ?_⟩
    have BN := BM.same sN
    obtain ⟨vs, v1, v2⟩ := WM.same sN
    refine ⟨_, rfl, _, rfl, _, rfl, sl, _, rfl, SqL.of v1, fun rl hrl => ?_⟩
    rw [← List.map_reverse]
    have sO := (Same.refl HN).upd_new (o := .lst (vs.reverse.map V.ref)) hrl
    have rlO : (upd HN rl (.lst (vs.reverse.map V.ref))) rl = some (.lst (vs.reverse.map V.ref)) := upd_same
    generalize upd HN rl (.lst (vs.reverse.map V.ref)) = HO at sO rlO
    have WO : SwsAt HO rl sws.reverse := ⟨_, rlO, v2.reverse.keep fun _ _ h => sO _ _ h⟩
    refine ⟨b, rl, lat, rows, sws.reverse, rfl, WO, BN.same sO, R, by rw [List.length_reverse]; omega, ok W.rev lat0 lat1 fun HP c2 sP _ C2 => ?_⟩
    have sMP := (sN.trans sO).trans sP
    have C1P := C1.same (sO.trans sP)
    have arP := sMP _ _ arM
    have WP := WM.same sMP
    have tPl := tMl.same sMP
    have tPo := tMo.same sMP
    -- each question
    refine ⟨_, rfl, by decide, by decide, for_range (n := (2 : Int).toNat) (fun i σ H' => ∃ x16 : Option V, σ = [some (.ref sc), some (.ref r), some (.ref ar), some (.ref b), some (.ref x1), some (.int cut), some (.ref sl), some (.int wr), some (.int lat), some (.ref x2), some (.int (1 + d)), some (.ref p), some (.ref u), some (.int way), some (.ref c1), some (.ref c2), x16] ∧ Same HP H') ⟨none, rfl, Same.refl HP⟩ ?_ ?_⟩
    · rintro i σ H' hi ⟨x16, rfl, s'⟩
      refine ⟨_, rfl, _, rfl, _, rfl, _, rfl, _, rfl, _, rfl, _, rfl, _, rfl, ⟨ar, sl, p, u, cut, rows, sws, l, o, rfl, (s') _ _ arP, R, WP.same (s'), good, tPl.same (s'), tPo.same (s'), by omega, by omega, fun H1 q s1 hq => ⟨c1, p, u, q, cut, rows, sws, l, o, rfl, C1P.same ((s').trans s1), R, good, tPl.same ((s').trans s1), tPo.same ((s').trans s1), by omega, by omega, hq, fun H'' sz => ⟨_, rfl, ifn (by decide) ?_⟩⟩⟩⟩
      have s'' := (s'.trans s1).trans sz
      refine ⟨_, rfl, _, rfl, _, rfl, _, rfl, _, rfl, _, rfl, _, rfl, _, rfl, ⟨ar, sl, u, p, lat, rows, sws, o, l, rfl, (s'') _ _ arP, R, WP.same (s''), good, tPo.same (s''), tPl.same (s''), by omega, by omega, fun H1 q s1 hq => ⟨c2, u, p, q, lat, rows, sws.reverse, o, l, rfl, C2.same ((s'').trans s1), R, goodR, tPo.same ((s'').trans s1), tPl.same ((s'').trans s1), by omega, by omega, by rw [dueP_rev W]; exact hq, fun H3 sz => ⟨_, rfl, ifn (by decide) ⟨_, rfl, (s''.trans s1).trans sz⟩⟩⟩⟩⟩
    · rintro σ H' ⟨x16, rfl, s'⟩
      exact ⟨_, rfl, _, rfl, _, rfl, _, rfl, _, rfl, _, rfl, _, rfl, _, rfl, ⟨ar, sl, p, p, lat, rows, sws, l, l, rfl, (s') _ _ arP, R, WP.same (s'), good, tPl.same (s'), tPl.same (s'), by omega, by omega, fun H1 q s1 hq => ⟨c2, p, p, q, lat, rows, sws.reverse, l, l, rfl, C2.same ((s').trans s1), R, goodR, tPl.same ((s').trans s1), tPl.same ((s').trans s1), by omega, by omega, by rw [dueP_rev W]; exact hq, fun H3 sz => k _⟩⟩⟩
end
end Sh
end
section
set_option Elab.async false
set_option linter.all false
set_option maxRecDepth 100000
set_option maxHeartbeats 2000000
set_option autoImplicit false
namespace Sh
open PySem PySem.Spec PyProof.Rows L2
theorem app_len (x y : Str) : (x ++ y).length = x.length + y.length := by
  show (x ++ y).cps.size = x.cps.size + y.cps.size
  rw [← Array.length_toList]
  show (TL.tl (x ++ y)).length = _
  rw [TL.tl_append, List.length_append]
  show x.cps.toList.length + y.cps.toList.length = _
  rw [Array.length_toList, Array.length_toList]
theorem acc_le {x y : Str} {n m : Nat} (hx : x.length ≤ n) (hy : y.length ≤ m) (h : n + m ≤ 10000000) : (x ++ y).length ≤ sizeLine := by rw [app_len]; exact le_line (by omega)
theorem len_i {i : Nat} (h : i ≤ 10000) : (Str.ofString (toString ((i : Nat) : Int))).length ≤ 6 := by
  have e := int_text_length_le10 (a := ((i : Nat) : Int)) (k := 5) (by decide) (by omega)
  rw [PySem.ofString_length]
  exact e
theorem log_i {i : Nat} (h : i ≤ 10000) : (((i : Nat) : Int)).natAbs.log2 < 1920 := by
  rw [Int.natAbs_natCast]
  have : i.log2 ≤ i := Nat.log2_le_self i
  by_cases h0 : i = 0
  · subst h0; decide
  · have h14 : i.log2 < 14 := (Nat.log2_lt h0).mpr (by omega)
    omega
theorem len_z {i : Int} (h0 : -1 ≤ i) (h : i ≤ 10000) : (Str.ofString (toString i)).length ≤ 6 := by
  have e := int_text_length_le10 (a := i) (k := 5) (by decide) (by omega)
  rw [PySem.ofString_length]
  exact e
theorem log_z {i : Int} (h0 : -1 ≤ i) (h : i ≤ 10000) : i.natAbs.log2 < 1920 := by
  have hn : i.natAbs ≤ 10000 := by omega
  have := log_i hn
  rwa [Int.natAbs_natCast] at this
def q0 : Pos := ⟨0, 0, 0, 0⟩
def stpOf : Stmt → SupX.StP
  | .Assign [.Attribute (.Name _ q1) f q2] (.Name _ q3) q4 => ⟨f, q1, q2, q3, q4⟩
  | _ => ⟨"", q0, q0, q0, q0⟩
def headOf : List Stmt → Expr × Pos × Pos × Pos × Pos × Pos
  | .Expr (.Call (.Attribute (.Call (.Name _ p0) [] [] p1) _ p2) [msg] [] p3) p4 :: _ => (msg, p0, p1, p2, p3, p4)
  | _ => (.Name "" q0, q0, q0, q0, q0, q0)
def bodyTooMany : List Stmt := defBody s_TooMany
def zTooMany0 : SupX.StP := stpOf (bodyTooMany.getD 1 (.Pass q0))
def zTooMany1 : SupX.StP := stpOf (bodyTooMany.getD 2 (.Pass q0))
theorem eTooMany : defBody s_TooMany = SupX.iB (headOf bodyTooMany).1 (headOf bodyTooMany).2.1 (headOf bodyTooMany).2.2.1 (headOf bodyTooMany).2.2.2.1 (headOf bodyTooMany).2.2.2.2.1 (headOf bodyTooMany).2.2.2.2.2 [zTooMany0, zTooMany1] := rfl
theorem scTooMany : SupX.SupScope (defScope s_TooMany) [zTooMany0, zTooMany1] := ⟨rfl, rfl, rfl, by decide +kernel, rfl, rfl, rfl, fun z hz => by
  rcases List.mem_cons.mp hz with h | h
  · rw [h]; exact ⟨rfl, by decide +kernel⟩
  · rw [List.mem_singleton.mp h]; exact ⟨rfl, by decide +kernel⟩, by decide +kernel⟩
theorem ppTooMany (fI : Addr) : SupX.SupPos "TooMany.__init__" (defScope s_TooMany) fI (headOf bodyTooMany).1 (headOf bodyTooMany).2.1 (headOf bodyTooMany).2.2.1 (headOf bodyTooMany).2.2.2.1 (headOf bodyTooMany).2.2.2.2.1 (headOf bodyTooMany).2.2.2.2.2 := ⟨fun _ _ _ => ⟨_, rfl⟩, fun _ _ _ => rfl, fun _ _ _ => rfl⟩
def bodyInvalidPlant : List Stmt := defBody s_InvalidPlant
def zInvalidPlant0 : SupX.StP := stpOf (bodyInvalidPlant.getD 1 (.Pass q0))
theorem eInvalidPlant : defBody s_InvalidPlant = SupX.iB (headOf bodyInvalidPlant).1 (headOf bodyInvalidPlant).2.1 (headOf bodyInvalidPlant).2.2.1 (headOf bodyInvalidPlant).2.2.2.1 (headOf bodyInvalidPlant).2.2.2.2.1 (headOf bodyInvalidPlant).2.2.2.2.2 [zInvalidPlant0] := rfl
theorem scInvalidPlant : SupX.SupScope (defScope s_InvalidPlant) [zInvalidPlant0] := ⟨rfl, rfl, rfl, by decide +kernel, rfl, rfl, rfl, fun z hz => by
  rw [List.mem_singleton.mp hz]; exact ⟨rfl, by decide +kernel⟩, by decide +kernel⟩
theorem ppInvalidPlant (fI : Addr) : SupX.SupPos "InvalidPlant.__init__" (defScope s_InvalidPlant) fI (headOf bodyInvalidPlant).1 (headOf bodyInvalidPlant).2.1 (headOf bodyInvalidPlant).2.2.1 (headOf bodyInvalidPlant).2.2.2.1 (headOf bodyInvalidPlant).2.2.2.2.1 (headOf bodyInvalidPlant).2.2.2.2.2 := ⟨fun _ _ _ => ⟨_, rfl⟩, fun _ _ _ => rfl, fun _ _ _ => rfl⟩
def bodyInvalidPrices : List Stmt := defBody s_InvalidPrices
def zInvalidPrices0 : SupX.StP := stpOf (bodyInvalidPrices.getD 1 (.Pass q0))
theorem eInvalidPrices : defBody s_InvalidPrices = SupX.iB (headOf bodyInvalidPrices).1 (headOf bodyInvalidPrices).2.1 (headOf bodyInvalidPrices).2.2.1 (headOf bodyInvalidPrices).2.2.2.1 (headOf bodyInvalidPrices).2.2.2.2.1 (headOf bodyInvalidPrices).2.2.2.2.2 [zInvalidPrices0] := rfl
theorem scInvalidPrices : SupX.SupScope (defScope s_InvalidPrices) [zInvalidPrices0] := ⟨rfl, rfl, rfl, by decide +kernel, rfl, rfl, rfl, fun z hz => by
  rw [List.mem_singleton.mp hz]; exact ⟨rfl, by decide +kernel⟩, by decide +kernel⟩
theorem ppInvalidPrices (fI : Addr) : SupX.SupPos "InvalidPrices.__init__" (defScope s_InvalidPrices) fI (headOf bodyInvalidPrices).1 (headOf bodyInvalidPrices).2.1 (headOf bodyInvalidPrices).2.2.1 (headOf bodyInvalidPrices).2.2.2.1 (headOf bodyInvalidPrices).2.2.2.2.1 (headOf bodyInvalidPrices).2.2.2.2.2 := ⟨fun _ _ _ => ⟨_, rfl⟩, fun _ _ _ => rfl, fun _ _ _ => rfl⟩
def bodyUnknownKind : List Stmt := defBody s_UnknownKind
def zUnknownKind0 : SupX.StP := stpOf (bodyUnknownKind.getD 1 (.Pass q0))
theorem eUnknownKind : defBody s_UnknownKind = SupX.iB (headOf bodyUnknownKind).1 (headOf bodyUnknownKind).2.1 (headOf bodyUnknownKind).2.2.1 (headOf bodyUnknownKind).2.2.2.1 (headOf bodyUnknownKind).2.2.2.2.1 (headOf bodyUnknownKind).2.2.2.2.2 [zUnknownKind0] := rfl
theorem scUnknownKind : SupX.SupScope (defScope s_UnknownKind) [zUnknownKind0] := ⟨rfl, rfl, rfl, by decide +kernel, rfl, rfl, rfl, fun z hz => by
  rw [List.mem_singleton.mp hz]; exact ⟨rfl, by decide +kernel⟩, by decide +kernel⟩
theorem ppUnknownKind (fI : Addr) : SupX.SupPos "UnknownKind.__init__" (defScope s_UnknownKind) fI (headOf bodyUnknownKind).1 (headOf bodyUnknownKind).2.1 (headOf bodyUnknownKind).2.2.1 (headOf bodyUnknownKind).2.2.2.1 (headOf bodyUnknownKind).2.2.2.2.1 (headOf bodyUnknownKind).2.2.2.2.2 := ⟨fun _ _ _ => ⟨_, rfl⟩, fun _ _ _ => rfl, fun _ _ _ => rfl⟩
section
variable {w : World} {K : PySem.W.Frag} {mg : Str → Option Value}
theorem msg_TooMany {prog : Program} {x L fI : Addr} {cda cc : Addr} {vs : List V} {us : List Value} (rv : Vals vs us) (hP : tmP vs) : SupX.MsgOk prog w (PySem.W.ksEnv "TooMany.__init__" (defScope s_TooMany) L fI (.ref cda) cc) (fun y => (((("self" : Str) :: [zTooMany0, zTooMany1].map (·.f)).zip (.ref x :: us)).reverse).lookup y) (headOf bodyTooMany).1 := by
  subst hP
  obtain ⟨u1, u2, rfl, ⟨t1, rfl⟩, ⟨t2, rfl⟩⟩ := vals2 rv
  intro A E s Q hn hq
  have e1 : (((("self" : Str) :: [zTooMany0, zTooMany1].map (·.f)).zip [Value.ref x, .str "knots" t1, .int 2000 t2]).reverse).lookup ("what" : Str) = some (.str "knots" t1) := rfl
  have e2 : (((("self" : Str) :: [zTooMany0, zTooMany1].map (·.f)).zip [Value.ref x, .str "knots" t1, .int 2000 t2]).reverse).lookup ("limit" : Str) = some (.int 2000 t2) := rfl
  show wpAny _ _ (eval (.JoinedStr [.Constant (.str "too many ") _ _, .FormattedValue (.Name "what" _) (-1) none _, .Constant (.str ": the limit is ") _ _, .FormattedValue (.Name "limit" _) (-1) none _] _) _) Q E s
  refine wpAny_JoinedStr ?_
  refine wpAny_Constant_str ⟨_, _, rfl, le_line (by decide +kernel), ?_⟩
  refine wpAny_FormattedValue_plain (SupX.ldK hn e1 ?_ rfl rfl (by decide +kernel))
  refine wpAny_formatField_str ⟨_, _, rfl, le_line (by decide +kernel), ?_⟩ ⟨_, _, rfl, le_line (by decide +kernel), ?_⟩ (le_line (by decide +kernel))
  all_goals
    refine wpAny_Constant_str ⟨_, _, rfl, le_line (by decide +kernel), ?_⟩
    refine wpAny_FormattedValue_plain (SupX.ldK hn e2 ?_ rfl rfl (by decide +kernel))
    refine wpAny_formatField_int (by decide +kernel) ⟨_, _, rfl, le_line (by decide +kernel), ?_⟩
    exact ⟨le_line (by decide +kernel), hq _ _⟩
theorem msg_InvalidPlant {prog : Program} {x L fI : Addr} {cda cc : Addr} {vs : List V} {us : List Value} (rv : Vals vs us) (hP : plP vs) : SupX.MsgOk prog w (PySem.W.ksEnv "InvalidPlant.__init__" (defScope s_InvalidPlant) L fI (.ref cda) cc) (fun y => (((("self" : Str) :: [zInvalidPlant0].map (·.f)).zip (.ref x :: us)).reverse).lookup y) (headOf bodyInvalidPlant).1 := by
  obtain ⟨i, rfl, hi⟩ := hP
  obtain ⟨u1, rfl, ⟨t1, rfl⟩⟩ := vals1 rv
  intro A E s Q hn hq
  have e1 : (((("self" : Str) :: [zInvalidPlant0].map (·.f)).zip [Value.ref x, .int ((i : Nat) : Int) t1]).reverse).lookup ("place" : Str) = some (.int ((i : Nat) : Int) t1) := rfl
  show wpAny _ _ (eval (.JoinedStr [.Constant (.str "invalid plant at ") _ _, .FormattedValue (.Name "place" _) (-1) none _] _) _) Q E s
  refine wpAny_JoinedStr ?_
  refine wpAny_Constant_str ⟨_, _, rfl, le_line (by decide +kernel), ?_⟩
  refine wpAny_FormattedValue_plain (SupX.ldK hn e1 ?_ rfl rfl (by decide +kernel))
  have hl := acc_le (x := Str.empty ++ ("invalid plant at " : Str)) (n := 17) (by decide +kernel) (len_i hi) (by decide)
  refine wpAny_formatField_int (log_i hi) ⟨_, _, rfl, hl, ?_⟩
  exact ⟨hl, hq _ _⟩
theorem msg_InvalidPrices {prog : Program} {x L fI : Addr} {cda cc : Addr} {vs : List V} {us : List Value} (rv : Vals vs us) (hP : ipP vs) : SupX.MsgOk prog w (PySem.W.ksEnv "InvalidPrices.__init__" (defScope s_InvalidPrices) L fI (.ref cda) cc) (fun y => (((("self" : Str) :: [zInvalidPrices0].map (·.f)).zip (.ref x :: us)).reverse).lookup y) (headOf bodyInvalidPrices).1 := by
  obtain ⟨i, rfl, hi0, hi⟩ := hP
  obtain ⟨u1, rfl, ⟨t1, rfl⟩⟩ := vals1 rv
  intro A E s Q hn hq
  have e1 : (((("self" : Str) :: [zInvalidPrices0].map (·.f)).zip [Value.ref x, .int i t1]).reverse).lookup ("place" : Str) = some (.int i t1) := rfl
  show wpAny _ _ (eval (.JoinedStr [.Constant (.str "invalid prices at ") _ _, .FormattedValue (.Name "place" _) (-1) none _] _) _) Q E s
  refine wpAny_JoinedStr ?_
  refine wpAny_Constant_str ⟨_, _, rfl, le_line (by decide +kernel), ?_⟩
  refine wpAny_FormattedValue_plain (SupX.ldK hn e1 ?_ rfl rfl (by decide +kernel))
  have hl := acc_le (x := Str.empty ++ ("invalid prices at " : Str)) (n := 18) (by decide +kernel) (len_z hi0 hi) (by decide)
  refine wpAny_formatField_int (log_z hi0 hi) ⟨_, _, rfl, hl, ?_⟩
  exact ⟨hl, hq _ _⟩
theorem msg_UnknownKind {prog : Program} {x L fI : Addr} {cda cc : Addr} {vs : List V} {us : List Value} (rv : Vals vs us) (hP : ukP vs) : SupX.MsgOk prog w (PySem.W.ksEnv "UnknownKind.__init__" (defScope s_UnknownKind) L fI (.ref cda) cc) (fun y => (((("self" : Str) :: [zUnknownKind0].map (·.f)).zip (.ref x :: us)).reverse).lookup y) (headOf bodyUnknownKind).1 := by
  obtain ⟨z, rfl, hz, hc⟩ := hP
  obtain ⟨u1, rfl, ⟨t1, rfl⟩⟩ := vals1 rv
  intro A E s Q hn hq
  have e1 : (((("self" : Str) :: [zUnknownKind0].map (·.f)).zip [Value.ref x, .str z t1]).reverse).lookup ("kind" : Str) = some (.str z t1) := rfl
  have hr : (reprText z).length ≤ 1002 := by have := StrLaws.reprText_len z hc; omega
  show wpAny _ _ (eval (.JoinedStr [.Constant (.str "unknown kind: ") _ _, .FormattedValue (.Name "kind" _) 114 none _] _) _) Q E s
  refine wpAny_JoinedStr ?_
  refine wpAny_Constant_str ⟨_, _, rfl, le_line (by decide +kernel), ?_⟩
  refine wpAny_FormattedValue_repr (SupX.ldK hn e1 ?_ rfl rfl (by decide +kernel))
  have hl := acc_le (x := Str.empty ++ ("unknown kind: " : Str)) (n := 14) (by decide +kernel) hr (by decide)
  refine pyReprObj_str ?_ (le_line (by omega))
  refine wpAny_formatField_str ⟨_, _, rfl, hl, ?_⟩ ⟨_, _, rfl, hl, ?_⟩ (le_line (by omega))
  all_goals exact ⟨hl, hq _ _⟩
theorem sup_TooMany {h : Heap} (X : K.In h) (G : h.Ns mainGlobals mg) (gs : mg "super" = none) (F : Hx.XFacts TL.prog K xTooMany [zTooMany0, zTooMany1]) : PySem.SupX.SupCls TL.prog w K mg "TooMany" (He.ga K "TooMany") ["what", "limit"] tmP := by
  have T := F.txt
  have T2 : SupX.SupTxt TL.prog K (He.ga K "TooMany") (Hx.iOf K "TooMany") "TooMany.__init__" (defArgs s_TooMany) (SupX.iB (headOf bodyTooMany).1 (headOf bodyTooMany).2.1 (headOf bodyTooMany).2.2.1 (headOf bodyTooMany).2.2.2.1 (headOf bodyTooMany).2.2.2.2.1 (headOf bodyTooMany).2.2.2.2.2 [zTooMany0, zTooMany1]) (defScope s_TooMany) [zTooMany0, zTooMany1] := by
    rw [← eTooMany]
    exact T
  refine ⟨PySem.W.mg_of X G F.gl, gs, T.kC, T.exC, T.tyC, fun A s R mb vs us rv hP hl K1 hlim hG hB hbs hroom hq => ?_⟩
  exact SupX.sup_made (ppTooMany _) T2 scTooMany (by decide +kernel) ⟨_, rfl, rfl⟩ (fun _ _ _ _ _ _ _ us hu => match us, hu with | [_, _, _], _ => rfl) K1 hlim hG gs hB hbs (by rw [← rv.length, hl]; rfl) hroom (by decide) (fun x L cda cc => msg_TooMany rv hP) hq
theorem sup_InvalidPlant {h : Heap} (X : K.In h) (G : h.Ns mainGlobals mg) (gs : mg "super" = none) (F : Hx.XFacts TL.prog K xInvalidPlant [zInvalidPlant0]) : PySem.SupX.SupCls TL.prog w K mg "InvalidPlant" (He.ga K "InvalidPlant") ["place"] plP := by
  have T := F.txt
  have T2 : SupX.SupTxt TL.prog K (He.ga K "InvalidPlant") (Hx.iOf K "InvalidPlant") "InvalidPlant.__init__" (defArgs s_InvalidPlant) (SupX.iB (headOf bodyInvalidPlant).1 (headOf bodyInvalidPlant).2.1 (headOf bodyInvalidPlant).2.2.1 (headOf bodyInvalidPlant).2.2.2.1 (headOf bodyInvalidPlant).2.2.2.2.1 (headOf bodyInvalidPlant).2.2.2.2.2 [zInvalidPlant0]) (defScope s_InvalidPlant) [zInvalidPlant0] := by
    rw [← eInvalidPlant]
    exact T
  refine ⟨PySem.W.mg_of X G F.gl, gs, T.kC, T.exC, T.tyC, fun A s R mb vs us rv hP hl K1 hlim hG hB hbs hroom hq => ?_⟩
  exact SupX.sup_made (ppInvalidPlant _) T2 scInvalidPlant (by decide +kernel) ⟨_, rfl, rfl⟩ (fun _ _ _ _ _ _ _ us hu => match us, hu with | [_, _], _ => rfl) K1 hlim hG gs hB hbs (by rw [← rv.length, hl]; rfl) hroom (by decide) (fun x L cda cc => msg_InvalidPlant rv hP) hq
theorem sup_InvalidPrices {h : Heap} (X : K.In h) (G : h.Ns mainGlobals mg) (gs : mg "super" = none) (F : Hx.XFacts TL.prog K xInvalidPrices [zInvalidPrices0]) : PySem.SupX.SupCls TL.prog w K mg "InvalidPrices" (He.ga K "InvalidPrices") ["place"] ipP := by
  have T := F.txt
  have T2 : SupX.SupTxt TL.prog K (He.ga K "InvalidPrices") (Hx.iOf K "InvalidPrices") "InvalidPrices.__init__" (defArgs s_InvalidPrices) (SupX.iB (headOf bodyInvalidPrices).1 (headOf bodyInvalidPrices).2.1 (headOf bodyInvalidPrices).2.2.1 (headOf bodyInvalidPrices).2.2.2.1 (headOf bodyInvalidPrices).2.2.2.2.1 (headOf bodyInvalidPrices).2.2.2.2.2 [zInvalidPrices0]) (defScope s_InvalidPrices) [zInvalidPrices0] := by
    rw [← eInvalidPrices]
    exact T
  refine ⟨PySem.W.mg_of X G F.gl, gs, T.kC, T.exC, T.tyC, fun A s R mb vs us rv hP hl K1 hlim hG hB hbs hroom hq => ?_⟩
  exact SupX.sup_made (ppInvalidPrices _) T2 scInvalidPrices (by decide +kernel) ⟨_, rfl, rfl⟩ (fun _ _ _ _ _ _ _ us hu => match us, hu with | [_, _], _ => rfl) K1 hlim hG gs hB hbs (by rw [← rv.length, hl]; rfl) hroom (by decide) (fun x L cda cc => msg_InvalidPrices rv hP) hq
theorem sup_UnknownKind {h : Heap} (X : K.In h) (G : h.Ns mainGlobals mg) (gs : mg "super" = none) (F : Hx.XFacts TL.prog K xUnknownKind [zUnknownKind0]) : PySem.SupX.SupCls TL.prog w K mg "UnknownKind" (He.ga K "UnknownKind") ["kind"] ukP := by
  have T := F.txt
  have T2 : SupX.SupTxt TL.prog K (He.ga K "UnknownKind") (Hx.iOf K "UnknownKind") "UnknownKind.__init__" (defArgs s_UnknownKind) (SupX.iB (headOf bodyUnknownKind).1 (headOf bodyUnknownKind).2.1 (headOf bodyUnknownKind).2.2.1 (headOf bodyUnknownKind).2.2.2.1 (headOf bodyUnknownKind).2.2.2.2.1 (headOf bodyUnknownKind).2.2.2.2.2 [zUnknownKind0]) (defScope s_UnknownKind) [zUnknownKind0] := by
    rw [← eUnknownKind]
    exact T
  refine ⟨PySem.W.mg_of X G F.gl, gs, T.kC, T.exC, T.tyC, fun A s R mb vs us rv hP hl K1 hlim hG hB hbs hroom hq => ?_⟩
  exact SupX.sup_made (ppUnknownKind _) T2 scUnknownKind (by decide +kernel) ⟨_, rfl, rfl⟩ (fun _ _ _ _ _ _ _ us hu => match us, hu with | [_, _], _ => rfl) K1 hlim hG gs hB hbs (by rw [← rv.length, hl]; rfl) hroom (by decide) (fun x L cda cc => msg_UnknownKind rv hP) hq
end
end Sh
end
section
set_option Elab.async false
set_option linter.all false
set_option maxRecDepth 100000
set_option maxHeartbeats 4000000
set_option autoImplicit false
namespace Sh
open PySem PySem.Spec PyProof.Rows L2
theorem ob_eq (s : PySem.W.SharedT) : ob s = hk.obs s.abs := Hx.obsZ_eq (HandSHeadRun.getT_eq s)
def AK (K : PySem.W.Frag) : XA := ⟨He.ga K "TooMany", He.ga K "InvalidPlant", He.ga K "TooMany", He.ga K "TooMany", He.ga K "UnknownKind", He.ga K "TooMany"⟩
theorem facts {w : World} {K : PySem.W.Frag} {h : Heap} {mg : Str → Option Value} {f : Addr} (X : K.In h) (G : h.Ns mainGlobals mg) (hfa : mg ("law" : Str) = some (.ref f)) (c : He.SaysD fa fn K) (x1 : (xs.all fun d => d.ok TL.prog.main.file K) = true) (x2 : (xs.map fun d => Hx.xvOf K d.x) = xs.map Hx.XDef.val) (x3 : (nsX.all fun x => Hx.zB K "YardError" nsX x) = true) :
    ∃ fd : FuncData, (∀ (s : Shared) (v : Value), BindsTo s fd ⟨[v], []⟩ [("script", v)]) ∧ ∀ base : Heap, K.In base → base.Ns mainGlobals mg → FnOk TL.prog w K mg base CX0 11 f fd ["script"] (spLaw K) := by
  have D_all_letters : Def0 K mg "all_letters" s_all_letters := by
    obtain ⟨fd, F⟩ := c.def_ 0 (d := dOf "all_letters" s_all_letters) rfl
    exact ⟨_, fd, He.glo_ok X G (c.fact 0 (f := .glo "all_letters") rfl), F⟩
  have D_is_name : Def0 K mg "is_name" s_is_name := by
    obtain ⟨fd, F⟩ := c.def_ 1 (d := dOf "is_name" s_is_name) rfl
    exact ⟨_, fd, He.glo_ok X G (c.fact 1 (f := .glo "is_name") rfl), F⟩
  have D_check_pairs : Def0 K mg "check_pairs" s_check_pairs := by
    obtain ⟨fd, F⟩ := c.def_ 2 (d := dOf "check_pairs" s_check_pairs) rfl
    exact ⟨_, fd, He.glo_ok X G (c.fact 2 (f := .glo "check_pairs") rfl), F⟩
  have D_check_size : Def0 K mg "check_size" s_check_size := by
    obtain ⟨fd, F⟩ := c.def_ 3 (d := dOf "check_size" s_check_size) rfl
    exact ⟨_, fd, He.glo_ok X G (c.fact 3 (f := .glo "check_size") rfl), F⟩
  have D_fault_place : Def0 K mg "fault_place" s_fault_place := by
    obtain ⟨fd, F⟩ := c.def_ 4 (d := dOf "fault_place" s_fault_place) rfl
    exact ⟨_, fd, He.glo_ok X G (c.fact 4 (f := .glo "fault_place") rfl), F⟩
  have D_ends_of : Def0 K mg "ends_of" s_ends_of := by
    obtain ⟨fd, F⟩ := c.def_ 5 (d := dOf "ends_of" s_ends_of) rfl
    exact ⟨_, fd, He.glo_ok X G (c.fact 5 (f := .glo "ends_of") rfl), F⟩
  have D_check_plant : Def0 K mg "check_plant" s_check_plant := by
    obtain ⟨fd, F⟩ := c.def_ 6 (d := dOf "check_plant" s_check_plant) rfl
    exact ⟨_, fd, He.glo_ok X G (c.fact 6 (f := .glo "check_plant") rfl), F⟩
  have D_check_swaps : Def0 K mg "check_swaps" s_check_swaps := by
    obtain ⟨fd, F⟩ := c.def_ 7 (d := dOf "check_swaps" s_check_swaps) rfl
    exact ⟨_, fd, He.glo_ok X G (c.fact 7 (f := .glo "check_swaps") rfl), F⟩
  have D_is_price : Def0 K mg "is_price" s_is_price := by
    obtain ⟨fd, F⟩ := c.def_ 8 (d := dOf "is_price" s_is_price) rfl
    exact ⟨_, fd, He.glo_ok X G (c.fact 8 (f := .glo "is_price") rfl), F⟩
  have D_price : Def0 K mg "price" s_price := by
    obtain ⟨fd, F⟩ := c.def_ 9 (d := dOf "price" s_price) rfl
    exact ⟨_, fd, He.glo_ok X G (c.fact 9 (f := .glo "price") rfl), F⟩
  have D__law_cell : Def0 K mg "_law_cell" s_law_cell := by
    obtain ⟨fd, F⟩ := c.def_ 10 (d := dOf "_law_cell" s_law_cell) rfl
    exact ⟨_, fd, He.glo_ok X G (c.fact 10 (f := .glo "_law_cell") rfl), F⟩
  have D__law_box : Def0 K mg "_law_box" s_law_box := by
    obtain ⟨fd, F⟩ := c.def_ 11 (d := dOf "_law_box" s_law_box) rfl
    exact ⟨_, fd, He.glo_ok X G (c.fact 11 (f := .glo "_law_box") rfl), F⟩
  have D__law_pick : Def0 K mg "_law_pick" s_law_pick := by
    obtain ⟨fd, F⟩ := c.def_ 12 (d := dOf "_law_pick" s_law_pick) rfl
    exact ⟨_, fd, He.glo_ok X G (c.fact 12 (f := .glo "_law_pick") rfl), F⟩
  have D__law_letters : Def0 K mg "_law_letters" s_law_letters := by
    obtain ⟨fd, F⟩ := c.def_ 13 (d := dOf "_law_letters" s_law_letters) rfl
    exact ⟨_, fd, He.glo_ok X G (c.fact 13 (f := .glo "_law_letters") rfl), F⟩
  have D__law_kinds : Def0 K mg "_law_kinds" s_law_kinds := by
    obtain ⟨fd, F⟩ := c.def_ 14 (d := dOf "_law_kinds" s_law_kinds) rfl
    exact ⟨_, fd, He.glo_ok X G (c.fact 14 (f := .glo "_law_kinds") rfl), F⟩
  have D__law_arity : Def0 K mg "_law_arity" s_law_arity := by
    obtain ⟨fd, F⟩ := c.def_ 15 (d := dOf "_law_arity" s_law_arity) rfl
    exact ⟨_, fd, He.glo_ok X G (c.fact 15 (f := .glo "_law_arity") rfl), F⟩
  have D__law_made_bed : Def0 K mg "_law_made_bed" s_law_made_bed := by
    obtain ⟨fd, F⟩ := c.def_ 16 (d := dOf "_law_made_bed" s_law_made_bed) rfl
    exact ⟨_, fd, He.glo_ok X G (c.fact 16 (f := .glo "_law_made_bed") rfl), F⟩
  have D__law_plant : Def0 K mg "_law_plant" s_law_plant := by
    obtain ⟨fd, F⟩ := c.def_ 17 (d := dOf "_law_plant" s_law_plant) rfl
    exact ⟨_, fd, He.glo_ok X G (c.fact 17 (f := .glo "_law_plant") rfl), F⟩
  have D__law_chain : Def0 K mg "_law_chain" s_law_chain := by
    obtain ⟨fd, F⟩ := c.def_ 18 (d := dOf "_law_chain" s_law_chain) rfl
    exact ⟨_, fd, He.glo_ok X G (c.fact 18 (f := .glo "_law_chain") rfl), F⟩
  have D__law_fault : Def0 K mg "_law_fault" s_law_fault := by
    obtain ⟨fd, F⟩ := c.def_ 19 (d := dOf "_law_fault" s_law_fault) rfl
    exact ⟨_, fd, He.glo_ok X G (c.fact 19 (f := .glo "_law_fault") rfl), F⟩
  have D__law_spoilt : Def0 K mg "_law_spoilt" s_law_spoilt := by
    obtain ⟨fd, F⟩ := c.def_ 20 (d := dOf "_law_spoilt" s_law_spoilt) rfl
    exact ⟨_, fd, He.glo_ok X G (c.fact 20 (f := .glo "_law_spoilt") rfl), F⟩
  have D__law_number : Def0 K mg "_law_number" s_law_number := by
    obtain ⟨fd, F⟩ := c.def_ 21 (d := dOf "_law_number" s_law_number) rfl
    exact ⟨_, fd, He.glo_ok X G (c.fact 21 (f := .glo "_law_number") rfl), F⟩
  have D__law_swaps : Def0 K mg "_law_swaps" s_law_swaps := by
    obtain ⟨fd, F⟩ := c.def_ 22 (d := dOf "_law_swaps" s_law_swaps) rfl
    exact ⟨_, fd, He.glo_ok X G (c.fact 22 (f := .glo "_law_swaps") rfl), F⟩
  have D__law_made_prices : Def0 K mg "_law_made_prices" s_law_made_prices := by
    obtain ⟨fd, F⟩ := c.def_ 23 (d := dOf "_law_made_prices" s_law_made_prices) rfl
    exact ⟨_, fd, He.glo_ok X G (c.fact 23 (f := .glo "_law_made_prices") rfl), F⟩
  have D__law_integer : Def0 K mg "_law_integer" s_law_integer := by
    obtain ⟨fd, F⟩ := c.def_ 24 (d := dOf "_law_integer" s_law_integer) rfl
    exact ⟨_, fd, He.glo_ok X G (c.fact 24 (f := .glo "_law_integer") rfl), F⟩
  have D__law_bad_number : Def0 K mg "_law_bad_number" s_law_bad_number := by
    obtain ⟨fd, F⟩ := c.def_ 25 (d := dOf "_law_bad_number" s_law_bad_number) rfl
    exact ⟨_, fd, He.glo_ok X G (c.fact 25 (f := .glo "_law_bad_number") rfl), F⟩
  have D__law_bad_swaps : Def0 K mg "_law_bad_swaps" s_law_bad_swaps := by
    obtain ⟨fd, F⟩ := c.def_ 26 (d := dOf "_law_bad_swaps" s_law_bad_swaps) rfl
    exact ⟨_, fd, He.glo_ok X G (c.fact 26 (f := .glo "_law_bad_swaps") rfl), F⟩
  have D__law_first_fault : Def0 K mg "_law_first_fault" s_law_first_fault := by
    obtain ⟨fd, F⟩ := c.def_ 27 (d := dOf "_law_first_fault" s_law_first_fault) rfl
    exact ⟨_, fd, He.glo_ok X G (c.fact 27 (f := .glo "_law_first_fault") rfl), F⟩
  have D__law_made : Def0 K mg "_law_made" s_law_made := by
    obtain ⟨fd, F⟩ := c.def_ 28 (d := dOf "_law_made" s_law_made) rfl
    exact ⟨_, fd, He.glo_ok X G (c.fact 28 (f := .glo "_law_made") rfl), F⟩
  have D__law_taken : Def0 K mg "_law_taken" s_law_taken := by
    obtain ⟨fd, F⟩ := c.def_ 29 (d := dOf "_law_taken" s_law_taken) rfl
    exact ⟨_, fd, He.glo_ok X G (c.fact 29 (f := .glo "_law_taken") rfl), F⟩
  have D__law_behind : Def0 K mg "_law_behind" s_law_behind := by
    obtain ⟨fd, F⟩ := c.def_ 30 (d := dOf "_law_behind" s_law_behind) rfl
    exact ⟨_, fd, He.glo_ok X G (c.fact 30 (f := .glo "_law_behind") rfl), F⟩
  have D__law_changed : Def0 K mg "_law_changed" s_law_changed := by
    obtain ⟨fd, F⟩ := c.def_ 31 (d := dOf "_law_changed" s_law_changed) rfl
    exact ⟨_, fd, He.glo_ok X G (c.fact 31 (f := .glo "_law_changed") rfl), F⟩
  have D__law_below : Def0 K mg "_law_below" s_law_below := by
    obtain ⟨fd, F⟩ := c.def_ 32 (d := dOf "_law_below" s_law_below) rfl
    exact ⟨_, fd, He.glo_ok X G (c.fact 32 (f := .glo "_law_below") rfl), F⟩
  have D__law_swapped : Def0 K mg "_law_swapped" s_law_swapped := by
    obtain ⟨fd, F⟩ := c.def_ 33 (d := dOf "_law_swapped" s_law_swapped) rfl
    exact ⟨_, fd, He.glo_ok X G (c.fact 33 (f := .glo "_law_swapped") rfl), F⟩
  have D__law_price : Def0 K mg "_law_price" s_law_price := by
    obtain ⟨fd, F⟩ := c.def_ 34 (d := dOf "_law_price" s_law_price) rfl
    exact ⟨_, fd, He.glo_ok X G (c.fact 34 (f := .glo "_law_price") rfl), F⟩
  have D__law_due : Def0 K mg "_law_due" s_law_due := by
    obtain ⟨fd, F⟩ := c.def_ 35 (d := dOf "_law_due" s_law_due) rfl
    exact ⟨_, fd, He.glo_ok X G (c.fact 35 (f := .glo "_law_due") rfl), F⟩
  have D__law_told : Def0 K mg "_law_told" s_law_told := by
    obtain ⟨fd, F⟩ := c.def_ 36 (d := dOf "_law_told" s_law_told) rfl
    exact ⟨_, fd, He.glo_ok X G (c.fact 36 (f := .glo "_law_told") rfl), F⟩
  have D__law_right : Def0 K mg "_law_right" s_law_right := by
    obtain ⟨fd, F⟩ := c.def_ 37 (d := dOf "_law_right" s_law_right) rfl
    exact ⟨_, fd, He.glo_ok X G (c.fact 37 (f := .glo "_law_right") rfl), F⟩
  obtain ⟨fdL, F_law⟩ := c.def_ 38 (d := dOf "law" s_law) rfl
  have e := hfa.symm.trans (He.glo_ok X G (c.fact 38 (f := .glo "law") rfl))
  cases e
  have bnd := FunD.bindsA (ps := ["script"]) F_law fun _ _ _ _ _ _ us hl => match us, hl with | [_], _ => rfl
  have T0 : Bl mg := ⟨He.free_ok X G (c.fact 54 (f := .free "len") rfl), He.free_ok X G (c.fact 55 (f := .free "range") rfl), He.free_ok X G (c.fact 56 (f := .free "abs") rfl), He.free_ok X G (c.fact 57 (f := .free "int") rfl), He.free_ok X G (c.fact 58 (f := .free "max") rfl), He.free_ok X G (c.fact 59 (f := .free "all") rfl), He.free_ok X G (c.fact 60 (f := .free "isinstance") rfl), He.free_ok X G (c.fact 61 (f := .free "set") rfl), He.free_ok X G (c.fact 62 (f := .free "list") rfl), He.free_ok X G (c.fact 63 (f := .free "tuple") rfl), He.free_ok X G (c.fact 64 (f := .free "bool") rfl), He.free_ok X G (c.fact 65 (f := .free "str") rfl), He.free_ok X G (c.fact 66 (f := .free "enumerate") rfl), He.int_ok X G (c.fact 74 (f := .int "MOST_KINDS" 8) rfl), He.int_ok X G (c.fact 75 (f := .int "MOST_BRANCHES" 3) rfl), He.int_ok X G (c.fact 76 (f := .int "MOST_KNOTS" 2000) rfl), He.int_ok X G (c.fact 77 (f := .int "LONGEST_NAME" 8) rfl), He.str_ok X G (c.fact 78 (f := .str "LETTERS" "abcdefghijklmnopqrstuvwxyz") rfl)⟩
  have T1 : Bk mg := ⟨T0, He.free_ok X G (c.fact 67 (f := .free "zip") rfl), He.free_ok X G (c.fact 68 (f := .free "ValueError") rfl)⟩
  have T : Bp mg := ⟨T1, He.int_ok X G (c.fact 73 (f := .int "MOST_PRICE" 1000) rfl), He.free_ok X G (c.fact 70 (f := .free "reversed") rfl), He.free_ok X G (c.fact 71 (f := .free "min") rfl)⟩
  have B : BedT K (He.ga K "Bed") := ⟨He.cls_ok (c.fact 40 (f := .cls "Bed") rfl), He.noat_ok (c.fact 42 (f := .noat "Bed" "rows") rfl), He.noat_ok (c.fact 43 (f := .noat "Bed" "kinds") rfl), He.noat_ok (c.fact 44 (f := .noat "Bed" "widths") rfl), He.noat_ok (c.fact 45 (f := .noat "Bed" "ranks") rfl)⟩
  have BP : PrT K (He.ga K "Prices") := ⟨He.cls_ok (c.fact 48 (f := .cls "Prices") rfl), He.noat_ok (c.fact 50 (f := .noat "Prices" "bed") rfl), He.noat_ok (c.fact 51 (f := .noat "Prices" "cutting") rfl), He.noat_ok (c.fact 52 (f := .noat "Prices" "swaps") rfl), He.noat_ok (c.fact 53 (f := .noat "Prices" "turns") rfl)⟩
  obtain ⟨fd_init__, F_init__⟩ := c.def_ 39 (d := dM "Bed" "__init__" "Bed.__init__" s_init__) rfl
  obtain ⟨fd_same, F_same⟩ := c.def_ 40 (d := dM "Bed" "same" "Bed.same" s_same) rfl
  obtain ⟨fd_Prices_init__, F_Prices_init__⟩ := c.def_ 41 (d := dM "Prices" "__init__" "Prices.__init__" s_Prices_init__) rfl
  have gBed := He.glo_ok X G (c.fact 39 (f := .glo "Bed") rfl)
  have mkBed := He.mkr_ok (c.fact 41 (f := .mkr "Bed") rfl)
  have gPrices := He.glo_ok X G (c.fact 47 (f := .glo "Prices") rfl)
  have mkPrices := He.mkr_ok (c.fact 49 (f := .mkr "Prices") rfl)
  have mtSame := He.meth_ok (c.fact 46 (f := .meth "Bed" "same") rfl)
  have gs : mg "super" = none := He.free_ok X G (c.fact 69 (f := .free "super") rfl)
  have gY := He.glo_ok X G (c.fact 72 (f := .glo "YardError") rfl)
  obtain ⟨ea0, eb0⟩ := Hx.x_of x1 x2 0 (d := xTooMany) rfl
  have FTooMany : Hx.XFacts TL.prog K xTooMany [zTooMany0, zTooMany1] := Hx.facts_of ea0 eb0 (fun z hz => by
    rcases List.mem_cons.mp hz with h | h
    · rw [h]; exact List.mem_cons_self
    · rw [List.mem_singleton.mp h]; exact List.mem_cons_of_mem _ List.mem_cons_self)
  obtain ⟨ea1, eb1⟩ := Hx.x_of x1 x2 1 (d := xInvalidPlant) rfl
  have FInvalidPlant : Hx.XFacts TL.prog K xInvalidPlant [zInvalidPlant0] := Hx.facts_of ea1 eb1 (fun z hz => by rw [List.mem_singleton.mp hz]; exact List.mem_cons_self)
  obtain ⟨ea2, eb2⟩ := Hx.x_of x1 x2 2 (d := xUnknownKind) rfl
  have FUnknownKind : Hx.XFacts TL.prog K xUnknownKind [zUnknownKind0] := Hx.facts_of ea2 eb2 (fun z hz => by rw [List.mem_singleton.mp hz]; exact List.mem_cons_self)
  obtain ⟨ea3, eb3⟩ := Hx.x_of x1 x2 3 (d := xInvalidPrices) rfl
  have FInvalidPrices : Hx.XFacts TL.prog K xInvalidPrices [zInvalidPrices0] := Hx.facts_of ea3 eb3 (fun z hz => by rw [List.mem_singleton.mp hz]; exact List.mem_cons_self)
  have x : XS TL.prog w K mg (AK K) := ⟨sup_TooMany X G gs FTooMany, sup_InvalidPlant X G gs FInvalidPlant, sup_UnknownKind X G gs FUnknownKind⟩
  have x51 : XP TL.prog w K mg (AK K) (He.ga K "InvalidPrices") := ⟨x, sup_InvalidPrices X G gs FInvalidPrices⟩
  have yP : Hx.ZFacts K "YardError" nsX "InvalidPrices" := Hx.zB_ok (List.all_eq_true.mp x3 _ (by simp [nsX]))
  have xc : XcP K mg (AK K) (He.ga K "InvalidPrices") (He.ga K "YardError") := ⟨gY, yP.ex, ⟨FInvalidPrices.xf, FInvalidPrices.no, FInvalidPrices.me⟩, ⟨FInvalidPlant.xf, FInvalidPlant.no, FInvalidPlant.me⟩, yP.ky, yP.kv, (yP.ki "InvalidPlant" (by simp [nsX])).trans (by decide +kernel)⟩
  refine ⟨fdL, fun s v => bnd s [v] rfl, fun base _ _ => ?_⟩
  have c_all_letters := ok_all_letters (P := TL.prog) (w := w) (base := base) T0 D_all_letters
  have c_is_name := ok_is_name (P := TL.prog) (w := w) (base := base) T0 c_all_letters D_is_name
  have c_check_pairs := ok_check_pairs (P := TL.prog) (w := w) (base := base) T0 c_is_name D_check_pairs
  have c_Bed : BedOk TL.prog w K mg base (He.ga K "Bed") 5 := by
    refine ⟨gBed, _, mkBed, ?_⟩
    obtain ⟨oc, od, dV, kV, doc, pm, an, cdv, ct, osl, rfl, lk, hcd, hdv, _⟩ := F_init__.ex
    have hd : dV = .none := by
      rcases hdv with ⟨_, h⟩ | h
      · exact h
      · exact absurd rfl h.1
    subst hd
    refine (StX.fn_star (ps := ["self"]) (pv := "kinds") lk hcd sc_init__ StX.cxUp_none (StX.bind_star1 (B := fun us => bindArgs (PySem.W.fnOf "__init__" "Bed.__init__" (defArgs s_init__) (defBody s_init__) (defScope s_init__) .none kV doc pm an cdv ct) ⟨us, []⟩) (fun _ => rfl) (fun _ _ _ => rfl)) (sp := spBedI (He.ga K "Bed")) (k := 3) fun A outer s H vs Q E hr hsp => ?_).mono (by decide)
    obtain ⟨t, a, b⟩ := body_bedI T0 B c_check_pairs hr hsp
    exact ⟨t, a.nox, b⟩
  have c_check_size := ok_check_size (P := TL.prog) (w := w) (base := base) T1 x D_check_size
  have c_fault_place := ok_fault_place (P := TL.prog) (w := w) (base := base) T1 B D_fault_place
  have c_check_plant := ok_check_plant (P := TL.prog) (w := w) (base := base) T1 x c_check_size c_fault_place D_check_plant
  have c_ends_of := ok_ends_of (P := TL.prog) (w := w) (base := base) T1 B D_ends_of
  have c_law_pick := ok_pick51 (P := TL.prog) (w := w) (base := base) T0 D__law_pick
  have c_law_cell := ok_cell51 (P := TL.prog) (w := w) (base := base) T0 D__law_cell
  have c_law_box := ok_box51 (P := TL.prog) (w := w) (base := base) T0 c_law_cell D__law_box
  have c_law_number := ok_num51 (P := TL.prog) (w := w) (base := base) T0 c_law_pick D__law_number
  have c_law_letters := ok_let51 (P := TL.prog) (w := w) (base := base) T0 c_law_pick D__law_letters
  have c_law_kinds := ok_kinds51 (P := TL.prog) (w := w) (base := base) T0 c_law_pick c_law_letters D__law_kinds
  have c_law_arity := ok_arity51 (P := TL.prog) (w := w) (base := base) T0 D__law_arity
  have c_law_made_bed := ok_bed51 (P := TL.prog) (w := w) (base := base) T0 c_Bed D__law_made_bed
  have c_law_bad_number := ok_bad51 (P := TL.prog) (w := w) (base := base) T0 c_law_pick D__law_bad_number
  have c_law_integer := ok_integer51 (P := TL.prog) (w := w) (base := base) T0 D__law_integer
  have c_law_swaps := ok_swaps51 (P := TL.prog) (w := w) (base := base) T0 c_law_pick c_law_number D__law_swaps
  have c_law_bad_swaps := ok_badsw51 (P := TL.prog) (w := w) (base := base) T0 c_law_pick c_law_number c_law_bad_number D__law_bad_swaps
  have c_law_first_fault := ok_fst51 (P := TL.prog) (w := w) (base := base) T0 D__law_first_fault
  have c_is_price := ok_ispr (P := TL.prog) (w := w) (base := base) T D_is_price
  have c_check_swaps := ok_chksw (P := TL.prog) (w := w) (base := base) T x51 B c_is_price D_check_swaps
  have c_Prices : PricesC TL.prog w K mg base (He.ga K "Bed") (He.ga K "Prices") (He.ga K "InvalidPrices") 4 := by
    refine ⟨gPrices, _, mkPrices, ?_⟩
    obtain ⟨oc, od, dV, kV, doc, pm, an, cdv, ct, osl, rfl, lk, hcd, hdv, _⟩ := F_Prices_init__.ex
    have hd : dV = .none := by
      rcases hdv with ⟨_, h⟩ | h
      · exact h
      · exact absurd rfl h.1
    subst hd
    refine StX.fn_star (ps := ["self", "bed", "cutting"]) (pv := "swaps") lk hcd sc_Prices_init__ StX.cxUp (fun us rest hl => match us, rest, hl with
      | [_, _, _], [], _ => rfl
      | [_, _, _], _ :: _, _ => rfl) (sp := spPrI (He.ga K "Bed") (He.ga K "Prices") (He.ga K "InvalidPrices")) (k := 3) fun A outer s H vs Q E hr hsp => ?_
    exact body_pri T x51 B BP c_is_price c_check_swaps hr hsp
  have c_law_made_prices := ok_mkpr (P := TL.prog) (w := w) (base := base) T c_Prices D__law_made_prices
  have c_law_made := ok_made51 (P := TL.prog) (w := w) (base := base) T x51 xc c_law_made_prices D__law_made
  have c_same : SmOk TL.prog w K mg base (He.ga K "Bed") := ok_same B F_same mtSame
  have c_law_taken := ok_taken51 (P := TL.prog) (w := w) (base := base) T B BP c_same c_law_first_fault c_law_made c_law_integer D__law_taken
  have c_law_plant := ok_plant51 (P := TL.prog) (w := w) (base := base) T0 c_law_pick D__law_plant
  have c_law_chain := ok_chain51 (P := TL.prog) (w := w) (base := base) T0 c_law_pick D__law_chain
  have c_law_behind := ok_behind51 (P := TL.prog) (w := w) (base := base) T0 D__law_behind
  have c_law_changed := ok_chg51 (P := TL.prog) (w := w) (base := base) T0 c_law_pick c_law_behind D__law_changed
  have c_law_fault := ok_fault51 (P := TL.prog) (w := w) (base := base) T0 D__law_fault
  have c_law_spoilt := ok_spoilt51 (P := TL.prog) (w := w) (base := base) T0 c_law_pick D__law_spoilt
  have c_law_below := ok_below51 (P := TL.prog) (w := w) (base := base) T D__law_below
  have c_law_swapped := ok_swapped51 (P := TL.prog) (w := w) (base := base) T0 D__law_swapped
  have c_law_price := ok_lprice51 (P := TL.prog) (w := w) (base := base) T c_law_below c_law_swapped D__law_price
  have c_price := ok_price51 (P := TL.prog) (w := w) (base := base) T B BP c_check_plant c_ends_of D_price
  have c_law_due := ok_due51 (P := TL.prog) (w := w) (base := base) T c_law_fault c_law_price D__law_due
  have c_law_told := ok_told51 (P := TL.prog) (w := w) (base := base) T x51 xc c_price D__law_told
  have c_law_right := ok_right51 (P := TL.prog) (w := w) (base := base) T c_law_told c_law_integer D__law_right
  exact ok_law T c_law_pick c_law_box c_law_number c_law_bad_number c_law_kinds c_law_arity c_law_made_bed c_law_swaps c_law_taken c_law_bad_swaps c_law_plant c_law_chain c_law_changed c_law_spoilt c_law_made_prices c_law_due c_law_right F_law
end Sh
end
set_option Elab.async false
set_option linter.all false
set_option maxRecDepth 100000
set_option maxHeartbeats 4000000
open PySem PySem.W PySem.Calls PyProof.Rows
theorem PySem.Challenge.cw_shearyard_k51_price_of_a_change_holds : PySem.Challenge.rw_shearyard_k51_price_of_a_change.Holds := by
  w_on; o_law
  refine HandSHeadRun.head_any (r := OpenLaw.row PySem.Challenge.rw_shearyard_k51_price_of_a_change) (q := view (OpenLaw.row PySem.Challenge.rw_shearyard_k51_price_of_a_change).prog [61]) (H := Sh.hk) (ob := Sh.ob) (M := 9000) (loose := Sh.names) (d := HandSHeadRun.topDef (OpenLaw.row PySem.Challenge.rw_shearyard_k51_price_of_a_change).prog 61) (kwd := []) Sh.ob_eq
    (by kernel_rfl) (fun s => by kernel_rfl) Sh.run (by kernel_rfl) (by kernel_rfl) (by kernel_rfl) (by rfl) (by first | assumption | decide +kernel) (by decide +kernel) ⟨rfl, rfl, rfl, rfl, rfl, by decide +kernel⟩ ?hw ?hc
  case hw => w_witness2
  case hc =>
    refine L2.walk_ofE (l := PySem.Challenge.rw_shearyard_k51_price_of_a_change) (n := 63) (k := 11) (x := "script") (CX := L2.CX0) rfl (by decide) (by kernel_rfl) ⟨rfl, by decide, by decide⟩ ?F (fun _ _ _ _ z => z)
    intro w mg fa h Y G hmg0
    obtain ⟨K, KX, c, x1, x2, x3⟩ := Y
    have hmg : mg ("law" : PySem.Str) = some (.ref fa) := by
      have e : (HandSHeadRun.topDef (OpenLaw.row PySem.Challenge.rw_shearyard_k51_price_of_a_change).prog 61).name = ("law" : PySem.Str) := by kernel_rfl
      rw [← e]
      exact hmg0
    obtain ⟨fd, hb, hF⟩ := Sh.facts (w := w) KX G hmg c x1 x2 x3
    exact ⟨K, fd, Sh.spLaw K, KX, hb, fun H a ns hn _ hS => ⟨a, ns, rfl, hS, hn, fun _ => rfl⟩, hF⟩
