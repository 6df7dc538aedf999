import PyProof.Rows.All
import HandS.ForMost
import PySem.Challenge.RW_pagesagain_k02_whole_rows_that_repeat_an
import Wide.All
import OpenK.AllK
import Wide.FinOn
import KE.GoesEnum
import PyProof.ReprRoads
import PyProof.ReprLen
import HandS.ForExc
import HandS.TryMany
import HandS.ExcInit
import HandS.ExcField
import HandS.ExcIs
import HandS.IsInst
import HandS.TupAny
import HandS.WideBits
import HandS.Rev
import HandS.Lambda
import HandS.EndTab
import HandS.Walk
import HandS.NestedK
import HandS.Defaults
import KE.KDictDisplayH
import HandS.TupLen
import HandS.DictComp
import HandS.SlotsOwn
import HandS.OwnEq
import HandS.MakeKwOnly
import HandS.SetFor
import HandS.Strs
import PyProof.StrOps2
import HandS.Deep
import HandS.SortInts
import HandS.Conv
set_option Elab.async false
set_option linter.all false
set_option maxRecDepth 100000
set_option maxHeartbeats 4000000
/-! our own additions to the hand layer: defs that know that nothing guards around them, repr of data, calls by keywords alone, enumerate of a tuple -/
namespace Lx
open PySem PySem.Spec PyProof.Rows L2

/-! ### a def called, told at a context -/
structure Callee (X : Cx) (f : Addr) (fd : FuncData) (ps : List Str) (sp : Sp) (E : XK) : Prop where
  len : ∀ vs H Q, sp vs H Q E → vs.length = ps.length
  go : ∀ (pins : List (Addr × Obj)) (σ : L2.St) (s : Shared) (H : Hp) (us : List Value) (kw : List (Str × Value)) (ws : List Value) (vs : List V) (Q : VK), Inv X pins σ H s → BindsTo s fd ⟨us, kw⟩ (ps.zip ws) → Vals vs ws → sp vs H Q E →
    wpAny (model X.prog X.w) X.A (call (.ref f) us kw) (EP X pins σ Q) X.xe s

theorem callee_end {X : Cx} {CX : CXT} {E : XK} {pins : List (Addr × Obj)} {σ : L2.St} {s : Shared} {H : Hp} {f : Addr} {us : List Value} {kw : List (Str × Value)} {Q : VK} (I : Inv X pins σ H s) (hx : Passes CX X E)
    (h : codeAny (model X.prog X.w) X.A (.call (.ref f) ⟨us, kw⟩) (CR CX X.stack X.prog X.w H s Q E) s) : wpAny (model X.prog X.w) X.A (call (.ref f) us kw) (EP X pins σ Q) X.xe s := by
  apply wpAny_call
  apply codeAny_mono h
  rintro (e | (_ | _ | _ | u)) s' q
  · exact hx pins σ H s e s' I q
  all_goals first
    | exact I.after q
    | exact False.elim q

theorem FnOk.callee {X : Cx} {CX : CXT} {k : Nat} {f : Addr} {fd : FuncData} {ps : List Str} {sp : Sp} {E : XK} (F : FnOk X.prog X.w X.K X.mg X.base CX k f fd ps sp) (hr : Room k X.A) (hx : Passes CX X E) : Callee X f fd ps sp E :=
  ⟨fun vs H Q h => F.len vs H Q E h, fun pins σ s H us kw ws vs Q I hb r h => callee_end I hx (F.run X.A X.stack s H ⟨us, kw⟩ ws vs Q E hr I.env0 hb r h)⟩

/-- a def's promise where no guard stands around the call -/
structure FnOkG (P : Program) (w : World) (K : PySem.W.Frag) (mg : Str → Option Value) (base : Heap) (CX : CXT) (k : Nat) (f : Addr) (fd : FuncData) (ps : List Str) (sp : Sp) : Prop where
  len : ∀ vs H Q E, sp vs H Q E → vs.length = ps.length
  run : ∀ (A : Around) (outer : List Env) (s : Shared) (H : Hp) (args : Args) (us : List Value) (vs : List V) (Q : VK) (E : XK), Room k A → A.guards = some [] → Env0 P w K mg base A outer s H → BindsTo s fd args (ps.zip us) →
    Vals vs us → sp vs H Q E → codeAny (model P w) A (.call (.ref f) args) (CR CX outer P w H s Q E) s

theorem FnOkG.callee {X : Cx} {CX : CXT} {k : Nat} {f : Addr} {fd : FuncData} {ps : List Str} {sp : Sp} {E : XK} (F : FnOkG X.prog X.w X.K X.mg X.base CX k f fd ps sp) (hr : Room k X.A) (hg : X.A.guards = some []) (hx : Passes CX X E) : Callee X f fd ps sp E :=
  ⟨fun vs H Q h => F.len vs H Q E h, fun pins σ s H us kw ws vs Q I hb r h => callee_end I hx (F.run X.A X.stack s H ⟨us, kw⟩ ws vs Q E hr hg I.env0 hb r h)⟩

section
variable {P : Program} {w : World} {K : PySem.W.Frag} {mg : Str → Option Value} {base : Heap}
theorem okG {x qual : Str} {st : Stmt} {f : Addr} {fd : FuncData} {N ps : List Str} {k : Nat} {sp : Sp} (F : Fun K x qual st f fd) (S : FnScope N ps (defScope st)) (len : ∀ vs H Q E, sp vs H Q E → vs.length = ps.length)
    (hbody : ∀ (cdv : Value) (A : Around) (outer : List Env) (s : Shared) (H : Hp) (vs : List V) (Q : VK) (E : XK), Room k (A.deeper (envOfC qual (defScope st) s.heap.objs.size f cdv)) → A.guards = some [] → sp vs H Q E →
      ∃ t, PSs (cxOf L2.CX0 P w K mg base N qual (defScope st) f cdv A outer s H E).nox (defBody st) t ∧ t { nx := fun _ H' => Q .non H', rt := Q } (start N vs) H) : FnOkG P w K mg base L2.CX0 (k + 1) f fd ps sp := by
  obtain ⟨oc, od, kV, doc, pm, an, cdv, ct, osl, rfl, lk, hcd⟩ := F.ex
  constructor
  · exact len
  · intro A outer s H args us vs Q E hr hg e0 hb r h
    apply LamX.run_ofS lk hcd S hr e0 hb r (len vs H Q E h)
    intro hr'
    have ⟨t, ht, hq⟩ := hbody cdv A outer s H vs Q E hr' hg h
    exact ⟨t, ht.nox, hq⟩
end

/-! ### calls -/
section
variable {X : Cx} {f : Addr} {fd : FuncData} {ps ks : List Str} {sp : Sp} {dvs : List V} {ds : List Value} {E : XK} {x : Str} {p pos : Pos} {e : Expr} {es : List Expr} {kws : List Keyword} {t tk : TA} {g : List Value → List Value → List Value} {gV : List V → List V → List V}
/-- f(e, ..) -/
theorem pe_callC (F : Callee X f fd ps sp E) (hg : Gl X x) (hm : X.mg x = some (.ref f)) (hk : PySem.W.keepIn X.K (.ref f) = true) (hb : Binds X.K fd ps []) (ha : PA X (e :: es) t)
    (hdb : (x == ("__debug__" : Str)) = false := by decide) (he : starEach (e :: es) X.env = (false, eval e X.env) :: starEach es X.env := by rfl) (hpl : (backTo pos (starEach es X.env)).any (·.1) = false := by rfl) :
    PE X (.Call (.Name x p) (e :: es) [] pos) (tCall sp [] E t) := by
  constructor
  intro pins s σ H Q I h
  apply wpAny_Call_Name_kw (ld_glob I hg hm ?_ hdb)
  refine PySem.W.callWith_K (h₀ := X.base) I.ok.mod.kin hk (thn (ha.run pos pins s σ H _ I h) ?_) he hpl
  rintro us s1 ⟨vs, H1, I1, r, q⟩
  refine ⟨I1.kIn, ?_⟩
  rw [List.append_nil] at q
  have hl : us.length = ps.length := by rw [← r.length]; exact F.len _ _ _ q
  exact F.go pins σ s1 H1 us [] us vs Q I1 (by simpa using hb s1 us I1.kIn (by simpa using hl)) r q
/-- f(k = v, ..), every parameter by its name -/
theorem pe_callKw0 (F : Callee X f fd ps sp E) (hg : Gl X x) (hm : X.mg x = some (.ref f)) (hk : PySem.W.keepIn X.K (.ref f) = true) (hb : KBinds X.K fd ps ks g gV) (hkw : PK X kws tk)
    (hall : (backToKw pos (keywordEach kws X.env)).all (·.1.isSome) = true := by rfl) (hks : (backToKw pos (keywordEach kws X.env)).filterMap (·.1) = ks := by rfl)
    (hdb : (x == ("__debug__" : Str)) = false := by decide)
    (hpl : ((backTo pos (starEach [] X.env)).any (·.1) || (backToKw pos (keywordEach kws X.env)).any (·.1.isNone)) = false := by rfl) :
    PE X (.Call (.Name x p) [] kws pos) (tCallK sp gV E tNil tk) := by
  constructor
  intro pins s σ H Q I h
  apply wpAny_Call_Name_kw (ld_glob I hg hm ?_ hdb)
  refine PySem.W.callWith_KW0 (h₀ := X.base) I.ok.mod.kin hk hall (thn (hkw.run pos pins s σ H _ I h) ?_) hpl
  rintro ws s2 ⟨zs, H2, I2, rz, q2⟩
  refine ⟨I2.kIn, ?_⟩
  rw [hks]
  have r2 : Vals (gV [] zs) (g [] ws) := hb.rel .nil rz
  have hl : (g [] ws).length = ps.length := by rw [← r2.length]; exact F.len _ _ _ q2
  exact F.go pins σ s2 H2 [] _ (g [] ws) (gV [] zs) Q I2 (hb.to s2 [] ws I2.kIn hl) r2 q2
end

/-! ### repr of data -/
section
variable {X : Cx}
theorem call_reprD (hu : X.A.units + 200 < cLine) (hg : X.A.guards = some []) :
    CallR X (.builtin "repr") (fun xs H Q => ∃ v d, xs = [v] ∧ Dp X.K H v d ∧ PyData.showable d = true ∧ PyData.hasDict d = false ∧ d.depth ≤ 64 ∧ d.leavesShort 13 = true ∧ d.weight ≤ 2 ^ 20 ∧ (∀ i, d = .int i → i.natAbs.log2 < 1920) ∧ Q (.str d.shown) H) := by
  rintro pins s σ H xs us Q I r ⟨v, d, rfl, hd, hs, hn, hdep, hl, hw, hi, q⟩
  obtain ⟨u, rfl, ru⟩ := vals1 r
  have hz : d.shown.length ≤ sizeLine := PyData.shown_fits (B := 13) (by decide) (by decide) hl hw
  obtain ⟨as, rd⟩ := Dp.reads I d v u hd ru
  have sc : ∀ (z : Str) (h' : Heap) (t t2 : Nat), (∀ b o, s.heap.get? b = some o → h'.get? b = some o) → Q (.str z) H → EP X pins σ Q (.str z t) { s with heap := h', toks := t2 } := fun z h' t t2 k q => ⟨.str z, H, I.kept k, ⟨t, rfl⟩, q⟩
  have self : ∀ b o, s.heap.get? b = some o → s.heap.get? b = some o := fun _ _ e => e
  cases rd with
  | none => exact PySem.P.repr_of_none (sc "None" _ _ _ self q)
  | bool b => exact PySem.P.repr_of_bool (sc _ _ _ _ self q)
  | int i t => exact PySem.P.repr_of_int (hi i rfl) (sc _ _ _ _ self q)
  | str z t => exact PySem.P.repr_of_str (sc _ _ _ _ self q) hz
  | list h1 h2 h3 h4 => exact repr_of_reads' (.list h1 h2 h3 h4) hs (fun z => by rw [hn] at z; cases z) hg (by omega) self (fun h' u tk k => sc _ _ _ _ k q) hz
  | tuple h1 h2 h3 h4 => exact repr_of_reads' (.tuple h1 h2 h3 h4) hs (fun z => by rw [hn] at z; cases z) hg (by omega) self (fun h' u tk k => sc _ _ _ _ k q) hz
  | dict h1 h2 h3 h4 h5 => cases hd
end
end Lx

set_option Elab.async false
set_option linter.all false
set_option maxRecDepth 100000
set_option maxHeartbeats 4000000
/-! enumerate of a tuple -/
namespace Lx
open PySem PySem.Spec PyProof.Rows L2

theorem meets_enum1 {v : Value} {o : Obj} {H : Heap → Prop} (B : Begins v o H) :
    Meets (Builtin.«enumerate.__new__» ⟨[.type "enumerate", v], []⟩) (fun _ R s => H s.heap ∧
      R (.ok (.ret (.ref (s.heap.push o).objs.size))) { s with heap := (s.heap.push o).push { cls := .type "enumerate", data := .fields #[.none, .bool false, .ref s.heap.objs.size, rawInt 0, .none, .none] } }) := by
  apply Meets.of_wp
  rintro prog w A R ⟨hp, g, d, tk, os⟩ ⟨h1, h⟩
  have sub1 := sub_enumerate
  have it : ∀ {A' : Around} {E : Value → Shared → Prop} {Q : Value → Shared → Prop}, Q (.ref hp.objs.size) ⟨hp.push o, g, d, tk, os⟩ → wpAny (model prog w) A' (pyIter v) Q E ⟨hp, g, d, tk, os⟩ :=
    fun {A' E Q} q => B.iter prog w A' E ⟨hp, g, d, tk, os⟩ Q h1 q
  wp_walk using it
  apply wpAny_stack_any
  intro st
  apply wpAny_pure
  split
  · rename_i c _ _ _ _ _
    cases (c == Value.type "enumerate") <;> (wp_walk using it; exact ⟨_, rfl, h⟩)
  · wp_walk using it
    exact ⟨_, rfl, h⟩

theorem enum1_begins {prog : Program} {w : World} {A : Around} {E : Value → Shared → Prop} {s : Shared} {v : Value} {o : Obj} {H : Heap → Prop} {Q : Value → Shared → Prop} (B : Begins v o H) (h1 : H s.heap)
    (h : ∀ h', IsEnum h' (s.heap.objs.size + 1) s.heap.objs.size 0 .none → h'.get? s.heap.objs.size = some o → (∀ b u, s.heap.get? b = some u → h'.get? b = some u) → Q (.ref (s.heap.objs.size + 1)) { s with heap := h' }) :
    wpAny (model prog w) A (call (.type "enumerate") [v]) Q E s := by
  apply callType_new F.called_enumerate (by decide) (F.typeCall_enumerate_1 _) (F.newCall_enumerate_1 _) (fun obj => F.args_object_init_2 obj _) F.entry_enumerate_new (meets_enum1 B)
  refine ⟨h1, ?_⟩
  have hz : (s.heap.push o).objs.size = s.heap.objs.size + 1 := Heap.size_push ..
  show _ ∧ _
  rw [hz]
  have he : IsEnum ((s.heap.push o).push { cls := .type "enumerate", data := .fields #[.none, .bool false, .ref s.heap.objs.size, rawInt 0, .none, .none] }) (s.heap.objs.size + 1) s.heap.objs.size 0 .none := by
    have z := Heap.get?_push_size (s.heap.push o) (o := { cls := .type "enumerate", data := .fields #[.none, .bool false, .ref s.heap.objs.size, rawInt 0, .none, .none] }) rfl
    rw [hz] at z
    exact z
  exact ⟨⟨_, he, rfl⟩, h _ he (Heap.get?_push_of_some _ (Heap.get?_push_size _ B.free)) fun b u x => Heap.get?_push_of_some _ (Heap.get?_push_of_some _ x)⟩

/-- a tuple, each item in a new pair -/
def ItEt (K : PySem.W.Frag) (a : Addr) : It where
  go := fun i H => ∃ (xs : List V) (x : V), SqT K H a xs ∧ xs[i]? = some x
  yld := fun i H v H' => ∃ T x, v = .ref T ∧ H T = none ∧ H' = upd H T (.tup [.int (i : Nat), x]) ∧ ∀ xs, SqT K H a xs → xs[i]? = some x
  stop := fun i H => ∃ xs : List V, SqT K H a xs ∧ xs.length = i

theorem turn_enumT {P : Program} {w : World} {K : PySem.W.Frag} {elts : List Expr} {kk : Nat} {tpos : Pos} (a e it : Addr) (hei : e ≠ it) (hai : a ≠ it) (hae : e ≠ a) :
    Turn P w K (.Tuple elts kk tpos) (ItEt K a) [e, it] e (fun i h => (∃ old, IsEnum h e it ((i : Nat) : Int) old) ∧ h.IsTupleIter it a i) := by
  refine { mem := by simp, obj := ?_, keep := ?_, item := ?_, done := ?_, self := ?_ }
  · rintro i h ⟨⟨old, he⟩, ⟨o, ho, hc, hd⟩⟩ b hb
    rcases (by simpa using hb : b = e ∨ b = it) with rfl | rfl
    · exact ⟨_, he, fun v q => nomatch q⟩
    · exact ⟨o, ho, fun v q => by rw [hd] at q; cases q⟩
  · rintro i h h' ⟨⟨old, he⟩, hi⟩ k
    exact ⟨⟨old, k e (by simp) _ he⟩, hi.at fun o q => k it (by simp) o q⟩
  · rintro X rfl rfl rfl hc i pins s σ H E I hf ⟨⟨old, he⟩, hit⟩ ⟨xs, x, hq, hx⟩
    obtain ⟨its, rv, p, hz⟩ := I.tuple hq
    obtain ⟨u, hu, ru⟩ := rv.get hx
    have hlt : i < its.toArray.size := by
      have z := (List.getElem?_eq_some_iff.mp hu).1
      simpa using z
    have ge : e < s.heap.objs.size := Heap.lt_size he
    have gi : it < s.heap.objs.size := by obtain ⟨_, q, _⟩ := hit; exact Heap.lt_size q
    have D := Draws.tuple (prog := X.prog) (w := X.w) (A := X.A.in1) (show X.A.in1.handled = none from I.ok.hd hc) it a hai its.toArray
    apply wpAny_pyNext_enum_itemD D he ⟨hit, p⟩ hlt hei (by simp [hei, hae])
    intro y h' tk hy ho st' hT hsz hk
    have ey : y = u := by
      have z : its.toArray[i]? = some u := by simpa using hu
      rw [z] at hy
      exact (Option.some.inj hy).symm
    subst ey
    refine ⟨_, rfl, wpAny_letOwnedTupleGo_enum (s := { s with heap := h', toks := tk + 1 }) ho fun h2 he2 sb => ?_⟩
    have hT2 := (sb.2 _ (Nat.ne_of_gt ge)).trans hT
    have new : ObjOk X.prog X.w (upd H s.heap.objs.size (.tup [.int (i : Nat), x])) h2 s.heap.objs.size (.tup [.int (i : Nat), x]) :=
      ⟨by show 2 ≤ sizeLine; decide, [.int i tk, y], .cons ⟨_, rfl⟩ (.cons ru .nil), ⟨_, hT2, rfl, _, rfl⟩⟩
    have J := I.turnedNew (ch := [e, it]) (t' := tk + 1) (h' := h2) (fun b ob hb q => (sb.2 b (by rintro rfl; simp at hb)).trans (hk b ob (by rintro rfl; simp at hb) (by rintro rfl; simp at hb) q)) hf (Nat.le_refl _) new
    refine ⟨.ref s.heap.objs.size, _, J, rfl, ⟨_, x, rfl, I.hok.fresh (Nat.le_refl _), rfl, fun ys hy => by rw [I.tuple_inj hy hq]; exact hx⟩, ⟨⟨y, ?_⟩, st'.1.at fun o q => (sb.2 it (Ne.symm hei)).trans q⟩, ?_⟩
    · rw [show ((i + 1 : Nat) : Int) = (i : Int) + 1 by omega]
      exact he2
    · intro b hb
      have lt : b < s.heap.objs.size := by rcases (by simpa using hb : b = e ∨ b = it) with rfl | rfl <;> assumption
      rw [upd_ne (Nat.ne_of_lt lt)]
      exact (hf b hb).1
  · rintro X rfl rfl rfl hc i pins s σ H E I hf ⟨⟨old, he⟩, hit⟩ ⟨xs, hq, hx⟩
    obtain ⟨its, rv, p, hz⟩ := I.tuple hq
    have D := Draws.tuple (prog := X.prog) (w := X.w) (A := X.A.in1) (show X.A.in1.handled = none from I.ok.hd hc) it a hai its.toArray
    have ei : its.toArray.size = i := by
      have z := rv.length
      simp only [List.size_toArray]
      omega
    apply wpAny_pyNext_enum_endD D he (by rw [ei]; exact ⟨hit, p⟩)
    intro h' eb
    obtain ⟨f0, f1, f2, f3, f4, f5⟩ := hf it (by simp)
    exact ⟨rfl, I.turned (t' := s.toks) (fun b o hb q => eb b o hb q) f0 f1 f3 f4 f5⟩
  · rintro A i s Q E ⟨⟨_, he⟩, _⟩ h
    exact wpAny_pyIter_enum he h

/-- enumerate(x), x a list or a tuple -/
def iEnumS (K : PySem.W.Frag) (ta : TA) : TI := fun σ H R => ta σ H fun vs H1 => ∃ a xs, vs = [.ref a] ∧ ((SqL K H1 a xs ∧ R (Ite K a) H1) ∨ (SqT K H1 a xs ∧ R (ItEt K a) H1))
theorem pi_enumS {X : Cx} {e : Expr} {ta : TA} {p pos tpos : Pos} {elts : List Expr} {kk : Nat} (hg : Gl X "enumerate") (hm : X.mg "enumerate" = none) (ha : PA X [e] ta) (hs : starEach [e] X.env = [(false, eval e X.env)] := by rfl) :
    PI X (.Tuple elts kk tpos) (.Call (.Name "enumerate" p) [e] [] pos) (iEnumS X.K ta) := by
  constructor
  intro pins s σ H R I h
  apply Call_ (ld_blt I hg hm boot_enumerate (PyProof.Rows.callWith_type1 (thn (ha.run pos pins s σ H _ I h) ?_) hs rfl))
  rintro us s1 ⟨vs, H1, I1, r1, a, xs, rfl, q⟩
  obtain ⟨u, rfl, ru⟩ := vals1 r1
  obtain rfl : u = Value.ref a := ru
  have fpo : ∀ b ∈ [s1.heap.objs.size + 1, s1.heap.objs.size], FpOk X pins H1 b := fun b hb => by
    have le : s1.heap.objs.size ≤ b := by rcases (by simpa using hb : b = s1.heap.objs.size + 1 ∨ b = s1.heap.objs.size) with rfl | rfl <;> omega
    exact I1.fpOk le (I1.hok.fresh le)
  rcases q with ⟨hq, q⟩ | ⟨hq, q⟩
  · obtain ⟨its, rv, p', hz⟩ := I1.list hq
    apply call_enumerate_list p'.isList
    intro h' he hit hsz hk
    exact wpAny_pyIter_enum he ⟨s1.heap.objs.size + 1, [s1.heap.objs.size + 1, s1.heap.objs.size], _, _, H1, rfl, I1.kept (t' := s1.toks) hk, turn_enum a (s1.heap.objs.size + 1) s1.heap.objs.size, ⟨⟨.none, he⟩, hit, Nat.succ_ne_self _⟩, fpo, q⟩
  · obtain ⟨its, rv, p', hz⟩ := I1.tuple hq
    have la : a < s1.heap.objs.size := by obtain ⟨o, g, _⟩ := p'; exact Heap.lt_size g
    apply enum1_begins (begins_tuple a its.toArray) p'
    intro h' he hit hk
    exact wpAny_pyIter_enum he ⟨s1.heap.objs.size + 1, [s1.heap.objs.size + 1, s1.heap.objs.size], _, _, H1, rfl, I1.kept (t' := s1.toks) hk, turn_enumT a (s1.heap.objs.size + 1) s1.heap.objs.size (Nat.succ_ne_self _) (Nat.ne_of_lt la) (Nat.ne_of_gt (Nat.lt_succ_of_lt la)), ⟨⟨.none, he⟩, ⟨_, hit, rfl, rfl⟩⟩, fpo, q⟩

/-- walking it: an invariant over (turn, slots, heap) -/
theorem for_enumT {K : PySem.W.Frag} {a : Addr} {xs : List V} {g : TG} {tb : TS} {D : Ends} {σ : L2.St} {H : Hp} (Pv : Nat → L2.St → Hp → Prop) (h0 : Pv 0 σ H) (hl : ∀ i σ H, i ≤ xs.length → Pv i σ H → SqT K H a xs)
    (hs : ∀ i x σ H, xs[i]? = some x → Pv i σ H → ∀ T, H T = none → g (.ref T) σ (upd H T (.tup [.int (i : Nat), x])) fun σ2 H2 => tb { D with nx := Pv (i + 1), ct := Pv (i + 1), bk := D.nx } σ2 H2) (hd : ∀ σ H, Pv xs.length σ H → D.nx σ H) :
    ∃ W : Nat → Nat → L2.St → Hp → Prop, (∃ m, W 0 m σ H) ∧ ∀ i m σ H, W i m σ H →
      (((ItEt K a).stop i H ∧ D.nx σ H) ∨ ((ItEt K a).go i H ∧ ∃ N : L2.St → Hp → Prop, (∀ σ' H', N σ' H' → ∃ m', m' < m ∧ W (i + 1) m' σ' H') ∧ ∀ x H', (ItEt K a).yld i H x H' → g x σ H' fun σ2 H2 => tb { D with nx := N, ct := N, bk := D.nx } σ2 H2)) := by
  refine ⟨fun i m σ H => i + m = xs.length ∧ Pv i σ H, ⟨xs.length, by omega, h0⟩, ?_⟩
  rintro i m σ H ⟨em, hp⟩
  have hq := hl i σ H (by omega) hp
  by_cases hi : i < xs.length
  · right
    refine ⟨⟨xs, xs[i], hq, List.getElem?_eq_getElem hi⟩, Pv (i + 1), fun σ' H' z => ⟨m - 1, by omega, by omega, z⟩, ?_⟩
    rintro x H' ⟨T, y, rfl, nT, rfl, f⟩
    exact hs i y σ H (f xs hq) hp T nT
  · left
    have e : i = xs.length := by omega
    subst e
    exact ⟨⟨xs, hq, rfl⟩, hd σ H hp⟩
end Lx

set_option Elab.async false
set_option linter.all false
set_option maxRecDepth 100000
set_option maxHeartbeats 4000000
/-! exceptions: several clauses that name the error; isinstance of a caught error that bears fields; raise of an error with one field -/
namespace Lx
open PySem PySem.Spec PyProof.Rows L2

/-! ### several clauses, each «except x as n» -/
abbrev Suite := Addr → Value → Option Addr → TS
def endsNone (D : Ends) (i : Nat) : Ends := { nx := fun σ H => D.nx (σ.set i none) H, rt := D.rt, bk := fun σ H => D.bk (σ.set i none) H, ct := fun σ H => D.ct (σ.set i none) H }
def wClauses (K : PySem.W.Frag) (Wout : WX) (D : Ends) : List (Value × Nat × Suite) → WX
  | [] => Wout
  | (c, i, ts) :: r => fun cls d σ H => ∃ b, PySem.W.exmOne K cls c = some b ∧ (b = true → ∀ a, H a = none → ts a cls d (endsNone D i) (σ.set i (some (.ref a))) H) ∧ (b = false → wClauses K Wout D r cls d σ H)
inductive Clauses (X : Cx) : List ExceptHandler → List (Value × Nat × Suite) → Prop
  | nil : Clauses X [] []
  | cons {x n : Str} {c : Value} {i : Nat} {ts : Suite} {b0 : Stmt} {suite : List Stmt} {p1 p2 : Pos} {hds : List ExceptHandler} {l : List (Value × Nat × Suite)} (hc : Names X x c) (hi : X.N[i]? = some n) (hl : X.env.kindOf n = some .local)
      (hsu : ∀ (a : Addr) (oe : Obj) (cls : Value) (d : Option Addr) (pn : List (Addr × Obj)), Zc cls d oe → (∃ vs, oe.data = .fields vs) → PSs (X.suite a ((a, oe) :: pn)) (b0 :: suite) (ts a cls d)) (r : Clauses X hds l) :
      Clauses X (.ExceptHandler (some (.Name x p1)) (some n) (b0 :: suite) p2 :: hds) ((c, i, ts) :: l)


/-- the error at a flies; beneath it the frame stands as it did -/
structure Air (X : Cx) (pins : List (Addr × Obj)) (σ : L2.St) (H : Hp) (sI : Shared) (a : Addr) (B : Heap) (cls : Value) (d : Option Addr) (s : Shared) : Prop where
  J : Inv X pins σ H sI
  nb : ∀ b o, sI.heap.get? b = some o → b ∉ frs X.stack → B.get? b = some o
  up : sI.heap.UpToSlots s.heap
  fl : HandSPX.FlyingZ B (X.env :: X.outer) a (Zc cls d) s.heap
  na : H a = none
  os : s.os = sI.os
  ag : AllBare s.gens
section
variable {X : Cx} {pins : List (Addr × Obj)} {σ : L2.St} {H : Hp} {s sI : Shared} {D : Ends} {Wout : WX} {a : Addr} {B : Heap} {cls : Value} {d : Option Addr}
theorem Air.on (A : Air X pins σ H sI a B cls d s) {h : Heap} (f : HandSPX.FlyingZ B (X.env :: X.outer) a (Zc cls d) h) (u : s.heap.UpToSlots h) : Air X pins σ H sI a B cls d { s with heap := h } :=
  ⟨A.J, A.nb, A.up.trans u, f, A.na, A.os, A.ag⟩
theorem Air.inv (A : Air X pins σ H sI a B cls d s) : Inv X pins σ H s := A.J.landed A.nb A.fl.1 A.up A.os A.ag
theorem Air.suite (A : Air X pins σ H sI a B cls d s) (hf : X.env.frame = some X.env.locals) : ∃ oe, s.heap.get? a = some oe ∧ Zc cls d oe ∧ (∃ vs, oe.data = .fields vs) ∧ Inv (X.suite a ((a, oe) :: (X.pn ++ pins))) [] σ H s := by
  obtain ⟨oe, vs, he, hz, hd⟩ := A.fl.there
  have nfr : a ∉ frs (X.env :: X.outer) := by
    intro hm
    obtain ⟨_, o', e', hnf⟩ := A.fl.2.2.1.mem hm
    rw [he] at e'
    cases e'
    exact hnf _ hd
  have m1 : X.env.locals ∈ frs (X.env :: X.outer) := List.mem_filterMap.mpr ⟨X.env, List.mem_cons_self, by rw [hf]⟩
  have m2 : ∀ b ∈ X.fs, b ∈ frs (X.env :: X.outer) := fun b hb => by
    obtain ⟨e, h1, h2⟩ := List.mem_filterMap.mp hb
    exact List.mem_filterMap.mpr ⟨e, List.mem_cons_of_mem _ h1, h2⟩
  exact ⟨oe, he, hz, ⟨vs, hd⟩, A.inv.suite he hd A.na (fun z => nfr (z ▸ m1)) fun z => nfr (m2 a z)⟩

theorem clauses_run (hs : X.stack = X.env :: X.outer) (hf : X.env.frame = some X.env.locals) (hN : X.N.Nodup) (tk : Takes X Wout) {hds : List ExceptHandler} {l : List (Value × Nat × Suite)} (C : Clauses X hds l) :
    ∀ {s : Shared}, Air X pins σ H sI a B cls d s → wClauses X.K Wout D l cls d σ H → wpAny (model X.prog X.w) X.A (handleBy (.ref a) X.env hds) (SP X pins D) X.xe s := by
  induction C with
  | nil =>
    intro s A w
    apply wpAny_handleBy_nil
    obtain ⟨k1, k2, k3, oe, vs, T, oT, ts', he, hz, hd, h1, hr⟩ := A.fl
    unfold PySem.passOn
    apply wpAny_bind
    apply wpAny_field he hd h1
    rw [if_neg (by simp)]
    have fin : wpAny (model X.prog X.w) X.A (setFlight (.ref a) X.env.frame) (fun _ s4 => wpAny (model X.prog X.w) X.A (throw (.ref a) : Sem Flow) (SP X pins D) X.xe s4) X.xe s := by
      rw [hf]
      exact HandSPX.setFlight_upZ A.fl fun h4 hh up4 => wpAny_throw (tk _ _ ⟨a, B, sI, pins, σ, H, cls, d, rfl, A.J, A.nb, A.up.trans up4, .inr (.inr (by rw [hs]; exact hh)), A.na, A.os, A.ag, w⟩)
    first
      | exact wpAny_bind fin
      | exact wpAny_bind (wpAny_pure (wpAny_bind fin))
  | @cons x n c i ts b0 suite p1 p2 hds l hc hi hl hsu r ih =>
    rintro s A ⟨b, hb, yes, no⟩
    obtain ⟨oe, he, hz, hd, S⟩ := A.suite hf
    refine wpAny_handleBy_cons (codeAny_handlers_test ?_) (by intro q; cases q)
    have ty : PySem.W.Looks (model X.prog X.w) s.heap (typeOf (.ref a)) cls := fun A Q E s' k q => wpAny_typeOf_ref (k _ _ he) (by rw [hz.1]; exact q)
    have mt := PySem.W.exm_one (M := model X.prog X.w) A.inv.kIn ty hb
    have cl : ∀ {Q : Value → Shared → Prop} {E : Value → Shared → Prop}, Q c s → wpAny (model X.prog X.w) (X.A.mark (some (.ref a))) (eval (.Name x p1) X.env) Q E s := fun {Q E} q => by
      obtain ⟨g1, g2, g3 | ⟨g3, g4, g5⟩⟩ := hc
      · exact ld_glob (X := X.suite a ((a, oe) :: (X.pn ++ pins))) S g1 g3 q g2
      · exact ld_blt (X := X.suite a ((a, oe) :: (X.pn ++ pins))) S g1 g3 g4 q g5 g2
    apply cl
    apply mt.here
    cases b with
    | false => exact ih A (no rfl)
    | true =>
      apply codeAny_handlers_suite_as
      apply HandSPX.lands_againZ A.fl
      intro h4 fl4 up4
      have A4 := A.on fl4 up4
      obtain ⟨oe4, he4, hz4, hd4, S4⟩ := A4.suite hf
      apply store_ok (X := X.suite a ((a, oe4) :: (X.pn ++ pins))) (v := .ref a) S4 hN hi (.inl hl) rfl ?_ (.inr hl)
      intro s5 S5
      refine wpAny_mono ((hsu a oe4 cls d (X.pn ++ pins) hz4 hd4).run [] s5 _ H _ S5 (yes rfl a A.na)) ?_ (fun _ _ z => False.elim z)
      have fin : ∀ {σ6 : L2.St} {H6 : Hp} {s6 : Shared} {Q : Shared → Prop}, Inv (X.suite a ((a, oe4) :: (X.pn ++ pins))) [] σ6 H6 s6 → (∀ s7, Inv X pins (σ6.set i none) H6 s7 → Q s7) →
          wpAny (model X.prog X.w) X.A (do bindName X.env n .none; unbindBehindTheSuite X.env n p2) (fun _ s7 => Q s7) X.xe s6 := fun S6 hq => gone_ok (S6.unsuite A.J.ok) hN hi hl hq
      rintro (_ | _ | _ | u) s6 hsp
      · obtain ⟨σ6, H6, S6, q6⟩ := hsp
        exact fin S6 fun s7 J7 => ⟨_, _, J7, q6⟩
      · obtain ⟨σ6, H6, S6, q6⟩ := hsp
        exact fin S6 fun s7 J7 => ⟨_, _, J7, q6⟩
      · obtain ⟨σ6, H6, S6, q6⟩ := hsp
        exact fin S6 fun s7 J7 => ⟨_, _, J7, q6⟩
      · obtain ⟨v6, σ6, H6, S6, r6, q6⟩ := hsp
        exact fin S6 fun s7 J7 => ⟨_, _, _, J7, r6, q6⟩

theorem ps_try_clauses {body : List Stmt} {h0 : ExceptHandler} {hds : List ExceptHandler} {l : List (Value × Nat × Suite)} {pos : Pos} {tb : WX → TS} (hs : X.stack = X.env :: X.outer) (hf : X.env.frame = some X.env.locals) (hN : X.N.Nodup) (tk : Takes X Wout)
    (hb : ∀ (W : WX) (pn : List (Addr × Obj)) (xe : Value → Shared → Prop), Takes (X.tr pn xe) W → PassesOwn (model X.prog X.w) X.A X.env xe → PSs (X.tr pn xe) body (tb W)) (C : Clauses X (h0 :: hds) l) :
    PS X (.Try body (h0 :: hds) [] [] pos) (fun D σ H => tb (wClauses X.K Wout D l) D σ H) := by
  constructor
  intro pins s σ H D I h
  have ok := I.ok
  apply wpAny_Try_except
  refine wpAny_mono ((hb (wClauses X.K Wout D l) (X.pn ++ pins) _ ?_ PassesOwn.looking).run [] s σ H D (I.toTry _) h) ?_ (fun e s1 he => he)
  · rintro u s' ⟨a, B, sI, pins', σ', H', cls, d, rfl, J', nb, up, sky, na, os, ag, w⟩
    show wpAny (model X.prog X.w) X.A (noteFrame (.ref a) X.env) _ _ _
    apply Sky.land Zc.steady (by rw [ok.frames, hs]) hf (by rw [← hs]; exact sky)
    intro h3 fl3 up3
    exact clauses_run hs hf hN tk C ⟨J'.ofTry ok, nb, up.trans up3, fl3, na, os, ag⟩ w
  · rintro (_ | _ | _ | u) s1 hsp
    · obtain ⟨σ', H', J', q⟩ := hsp
      exact wpAny_execs_nil ⟨σ', H', J'.ofTry ok, q⟩
    · obtain ⟨σ', H', J', q⟩ := hsp
      exact ⟨σ', H', J'.ofTry ok, q⟩
    · obtain ⟨σ', H', J', q⟩ := hsp
      exact ⟨σ', H', J'.ofTry ok, q⟩
    · obtain ⟨v, σ', H', J', r, q⟩ := hsp
      exact ⟨v, σ', H', J'.ofTry ok, r, q⟩
end
end Lx

set_option Elab.async false
set_option linter.all false
set_option maxRecDepth 100000
set_option maxHeartbeats 4000000
/-! isinstance of a caught error that bears fields; raise of an error whose __init__ stores one field -/
namespace PySem.W
open PySem PySem.Spec PySem.Calls PyProof.Rows L2
theorem found_data {K : Frag} {C : Addr} {od : Option Obj} {name : Str} {a g : Value} (hc : (clsIn K C).isSome = true) (ha : findIn K (.ref C) name = some (some a)) (hg : specialIn K a "__get__" = some (some g)) (ht : takesIn K a = some true) :
    findObj K C od name = some (.bind g a) := by
  cases hq : clsIn K C with
  | none => rw [hq] at hc; cases hc
  | some cd => simp [findObj, hq, ha, hg, ht]
theorem exc_class_attr {prog : Program} {w : World} {A : Around} {E : Value → Shared → Prop} {s : Shared} {K : Frag} {x D : Addr} {ox : Obj} {od : Option Obj} {Q : Option Value → Shared → Prop} (C : ExcC K D) (X : K.In s.heap) (I : InstAt s.heap x ox D od)
    (h : Q (some (.ref D)) { s with toks := s.toks + 1 }) : wpAny (model prog w) A (getAttr? (.ref x) "__class__") Q E s := by
  have hc : (clsIn K D).isSome = true := by
    obtain ⟨cd, z, _⟩ := any_some C.hd
    rw [z]
    rfl
  have ff := found_data (od := od) hc C.ha C.hn C.ht
  obtain ⟨hp, g, d, t, os⟩ := s
  have l0 := I.type (M := model prog w)
  have l1 := looks_findIn (M := model prog w) X C.hg
  have l2 := looks_findIn (M := model prog w) X C.hk
  have l3 := looks_find (M := model prog w) X I ff
  have isExc : Looks (model prog w) hp (isInstance (.ref x) (.type "BaseException")) true := l0.andThen (looks_subIn X C.hs)
  have z0 : (false && onTheHeap (Value.builtin "BaseException.__getattribute__")) = false := rfl
  have z1 : (onTheHeap (Value.ref D) && Value.builtin "BaseException.__getattribute__" == Value.builtin "object.__getattribute__") = false := by
    rw [show (Value.builtin "BaseException.__getattribute__" == Value.builtin "object.__getattribute__") = false by decide +kernel, Bool.and_false]
  unfold getAttr? getAttrBy? getAttrBy
  apply wpAny_bind
  apply wpAny_mkText
  apply wpAny_bind
  apply wpAny_attempt
  apply wpAny_holding
  apply wpAny_bind
  apply l0.at
  apply wpAny_bind
  apply l1.at
  show wpAny _ _ (if (onTheHeap (Value.ref D) && Value.builtin "BaseException.__getattribute__" == Value.builtin "object.__getattribute__") = true then _ else _) _ _ _
  rw [z1, if_neg Bool.false_ne_true]
  unfold getAttrByItsOwn hookBefore
  apply wpAny_bind
  rw [if_pos (show onTheHeap (Value.ref D) = true from rfl)]
  apply l2.at
  apply wpAny_bind
  apply wpAny_attempt
  apply wpAny_holding
  unfold callGetattribute
  rw [z0, if_neg Bool.false_ne_true]
  unfold boundAndCalled
  rw [PySem.F.excAttr_ValueError.ga.bind (.ref x)]
  apply wpAny_bind
  apply wpAny_pure
  show wpAny _ _ (call (.builtin "BaseException.__getattribute__") [.ref x, .str "__class__" t]) _ _ _
  apply wpAny_call
  apply codeAny_call_builtin PySem.F.excAttr_ValueError.ga.plain PySem.F.entry_bexc_ga
  refine @check_slot (model prog w) _ _ ⟨hp, g, d, t + 1, os⟩ "BaseException.__getattribute__" "BaseException" "__getattribute__" (.ref x) [.str "__class__" t] [] _ (by decide +kernel) (by decide +kernel) isExc (PySem.F.args_bexc_ga (.ref x) (.str "__class__" t)) ?_
  unfold Builtin.«object.__getattribute__»
  refine wpAny_bind (wpAny_of_eq (a := ((Value.ref x : Value), [Value.str "__class__" t])) (by first | rfl | (simp only [slotArgs]; rfl)) ?_)
  apply wpAny_bind
  apply wpAny_pure
  apply wpAny_bind
  apply l0.at
  apply wpAny_bind
  apply l3.at
  show wpAny _ _ (holding [Value.builtin "object.__class__"] (call (.builtin "getset_descriptor.__get__") [.builtin "object.__class__", .ref x, .ref D]) >>= ret) _ _ _
  apply wpAny_bind
  apply wpAny_holding
  apply wpAny_call
  apply class_get (s := ⟨hp, g, d, t + 1, os⟩) (ox := ox) (od := od) X I C.hm
  apply wpAny_pure
  show wpAny _ _ (handedOut (.ref D)) _ _ _
  rw [handedOut_of (v := .ref D) rfl]
  first
    | exact wpAny_pure (wpAny_pure h)
    | exact wpAny_pure h
    | exact wpAny_pure (wpAny_bind (wpAny_pure (wpAny_pure h)))
theorem kit_exc {K : Frag} {x D : Addr} {ox : Obj} {od : Option Obj} (C : ExcC K D) : KitX K (.ref x) (.ref D) (fun h => InstAt h x ox D od) := by
  have ex : ∃ o : Obj, K.lookup D = some o ∧ (∃ c d cd sl, o = ⟨c, d, .cls cd, sl⟩) := by
    obtain ⟨cd, hc, _⟩ := any_some C.hd
    unfold clsIn at hc
    split at hc
    · rename_i c' d' cd' sl' ho
      exact ⟨_, ho, _, _, _, _, rfl⟩
    · cases hc
  refine { ty := fun _ _ _ I => I.type, it := ?_, ne := ?_, ca := fun X I k => exc_class_attr C X I k }
  · intro M h X I A' Q' E' s' k q
    obtain ⟨o, ho, c, d, cd, sl, rfl⟩ := ex
    unfold isType loadHead
    exact wpAny_bind (wpAny_loadPart (k _ _ (X _ _ ho)) (wpAny_pure q))
  · intro h tp dd its n sl X htp
    obtain ⟨o, ho, c, d, cd, sl2, rfl⟩ := ex
    apply Bool.eq_false_iff.mpr
    intro q
    have e : D = tp := Value.ref.inj (beq_iff_eq.mp q)
    subst e
    have z := (X _ _ ho).symm.trans htp
    cases z
end PySem.W
namespace Lx
open PySem PySem.Spec PyProof.Rows L2
/-- isinstance(e, c), e the exception that the suite holds, its fields in the dict at dd -/
def rIsF (K : PySem.W.Frag) (D a dd : Addr) : List V → Hp → VK → Prop := fun xs H Q => ∃ (c : V) (cv : Value) (b : Bool) (fs : List (Str × V)), xs = [.ref a, c] ∧ (∀ u, RelV c u → u = cv) ∧ PySem.W.kitOne K (.ref D) cv = some b ∧ H dd = some (.xd fs) ∧ Q (.bl b) H
theorem call_isF {X : Cx} {a D dd : Addr} {oe : Obj} {pn : List (Addr × Obj)} (C : ExcC X.K D) (hz : Zc (.ref D) (some dd) oe) (hf : ∃ vs, oe.data = .fields vs) : CallR (X.suite a ((a, oe) :: pn)) (.builtin "isinstance") (rIsF X.K D a dd) := by
  rintro pins s σ H xs us Q I r ⟨c, cv, b, fs, rfl, hcv, e, hd, q⟩
  obtain ⟨u1, u2, rfl, r1, r2⟩ := vals2 r
  cases r1
  have ec := hcv _ r2
  subst ec
  obtain ⟨hget, _⟩ := I.pin (a, oe) (List.mem_append.mpr (.inl List.mem_cons_self))
  obtain ⟨mA, hns, _⟩ := (show ObjOk X.prog X.w H s.heap dd (.xd fs) from I.hok dd _ hd)
  obtain ⟨od, ho, _⟩ := lookIn_ns hns
  have J : PySem.W.InstAt s.heap a oe D (some od) := by
    obtain ⟨vs, hv⟩ := hf
    obtain ⟨h1, h2⟩ := hz
    obtain ⟨oc, odx, oda, osl⟩ := oe
    dsimp only at h1 h2 hv
    subst h1 h2 hv
    exact ⟨hget, rfl, rfl, ho⟩
  exact PySem.W.kia_one (PySem.W.kit_exc C) I.kIn J e (fun z => nomatch z) fun tk => ⟨.bl b, H, I.kept (t' := tk) fun _ _ z => z, rfl, q⟩

/-! ### an error class whose __init__ stores one field «at» -/
def errSp (C : Addr) (fld : Str) : Sp := fun vs H Q _ => ∃ a v, vs = [.ref a, v] ∧ H a = some (exo a C none) ∧ ∀ dx, H dx = none → dx ≠ a → Q .non (upd (upd H dx (exd dx [(fld, v)])) a (exo a C (some dx)))
/-- the class x over ValueError, at C -/
structure Err (P : Program) (w : World) (K : PySem.W.Frag) (mg : Str → Option Value) (base : Heap) (x fld : Str) (C : Addr) : Prop where
  T : OexC K C
  xf : XfC K C
  ec : ExcC K C
  no : PySem.W.findIn K (.ref C) fld = some none
  gC : mg x = some (.ref C)
  ini : ∃ fI fd k ps, PySem.W.findIn K (.ref C) "__init__" = some (some (.ref fI)) ∧ PySem.W.typeIn K (.ref fI) = some (.type "function") ∧ k ≤ 1 ∧ FnOk P w K mg base L2.CX0 k fI fd ps (errSp C fld) ∧ Binds K fd ps []
def tErr (C : Addr) (fld : Str) (W : WX) (te : TE) : TS := fun _ σ H => tMkO C (errSp C fld) [] (tCons te tNil) σ H fun cls d H' => W cls d σ H'
/-- behind the argument's reading -/
theorem err_in {C : Addr} {fld : Str} {v : V} {H1 : Hp} {Q : XK} (h : ∀ d H', Same H1 H' → H1 d = none → H' d = some (.xd [(fld, v)]) → Q (.ref C) (some d) H') :
    ([v] : List V).length ≤ 1000 ∧ ∀ a, H1 a = none → errSp C fld (.ref a :: ([v] ++ [])) (upd H1 a (exo a C none))
      (fun u H2 => u = .non ∧ ∃ (d : Addr) (fs : List (Str × V)), H2 a = some (exo a C (some d)) ∧ H2 d = some (exd d fs) ∧ H1 d = none ∧ Q (.ref C) (some d) (upd (del H2 a) d (.xd fs))) (fun _ _ _ => False) := by
  refine ⟨Nat.succ_le_succ (Nat.zero_le _), fun a na => ⟨a, v, rfl, upd_same, fun dx nd ne => ⟨rfl, dx, [(fld, v)], upd_same, ?_, ?_, ?_⟩⟩⟩
  · rw [upd_ne ne, upd_same]
  · rw [upd_ne ne] at nd
    exact nd
  · rw [upd_ne ne] at nd
    refine h dx _ (fun b o z => ?_) nd upd_same
    have n1 : b ≠ dx := ne_of_none z nd
    have n2 : b ≠ a := ne_of_none z na
    rw [upd_ne n1, del_ne n2, upd_ne n2, upd_ne n1, upd_ne n2]
    exact z
theorem ps_raiseErr {X : Cx} {C : Addr} {x fld : Str} {e : Expr} {te : TE} {W : WX} {p pos pos2 : Pos} (hc : X.calm = true) (Er : Err X.prog X.w X.K X.mg X.base x fld C) (hr : Room 2 X.A) (tk : Takes X W) (he : PE X e te) (hg : Gl X x := by rfl)
    (hdb : (x == ("__debug__" : Str)) = false := by decide) (h1 : starEach [e] X.env = (false, eval e X.env) :: starEach [] X.env := by rfl) (h2 : (backTo pos (starEach [] X.env)).any (·.1) = false := by rfl) :
    PS X (.Raise (some (.Call (.Name x p) [e] [] pos)) none pos2) (tErr C fld W te) := by
  obtain ⟨fI, fd, k, ps, i1, i2, hk, F1, hb⟩ := Er.ini
  exact ps_raise (pos := pos2) hc tk (pmk_oex (p := p) (dvs := []) (ds := []) Er.T i1 i2 F1 (hr.mono (by omega)) hb .nil pass0 hg Er.gC (pa_cons he pa_nil h1) hdb h1 h2)
/-- the class's own __init__ -/
theorem ok_errInit {P : Program} {w : World} {K : PySem.W.Frag} {mg : Str → Option Value} {base : Heap} {qual fld : Str} {C f : Addr} {fd : FuncData} {st : Stmt} {k0 : Nat} {p1 p2 p3 p4 : Pos} (T : OexC K C) (no : PySem.W.findIn K (.ref C) fld = some none)
    (F : Fun K "__init__" qual st f fd) (S : FnScope ["self", fld] ["self", fld] (defScope st)) (hB : defBody st = [.Assign [.Attribute (.Name "self" p1) fld p2] (.Name fld p3) p4]) (hd : (fld == ("__debug__" : Str)) = false) (hcd : (fld == ("__classdict__" : Str)) = false)
    (v1 : Vis (defScope st) "self") (v2 : Vis (defScope st) fld) (hsw : ∀ X : Cx, swapsWith (.Name fld p3) (some (.Attribute (.Name "self" p1) fld p2)) p4.line X.env = pure false) : FnOk P w K mg base L2.CX0 1 f fd ["self", fld] (errSp C fld) := by
  apply F.ok S
  · rintro vs H Q E ⟨a, v, rfl, _⟩
    rfl
  · rintro cdv A outer s H vs Q E hr ⟨a, v, rfl, ha, h⟩
    rw [hB]
    refine ⟨_, pss_one (ps_ost (pe_var (i := 0) rfl v1) (pe_var (i := 1) rfl v2 hd hcd) (hsw _)), ?_⟩
    exact ⟨v, rfl, .ref a, rfl, a, C, rfl, T, no, .inl ⟨ha, h⟩⟩
end Lx

set_option Elab.async false
set_option linter.all false
set_option maxRecDepth 100000
set_option maxHeartbeats 4000000
/-! short words: a def by its name; values of a known kind; what stays -/
namespace Lx
open PySem PySem.Spec PyProof.Rows L2

/-- the def x keeps sp -/
structure Has (P : Program) (w : World) (K : PySem.W.Frag) (mg : Str → Option Value) (base : Heap) (CX : CXT) (k : Nat) (x : Str) (ps : List Str) (sp : Sp) : Prop where
  ex : ∃ f fd, mg x = some (.ref f) ∧ PySem.W.keepIn K (.ref f) = true ∧ Binds K fd ps [] ∧ FnOk P w K mg base CX k f fd ps sp
structure HasG (P : Program) (w : World) (K : PySem.W.Frag) (mg : Str → Option Value) (base : Heap) (k : Nat) (x : Str) (ps : List Str) (sp : Sp) : Prop where
  ex : ∃ f fd, mg x = some (.ref f) ∧ PySem.W.keepIn K (.ref f) = true ∧ Binds K fd ps [] ∧ FnOkG P w K mg base L2.CX0 k f fd ps sp
section
variable {X : Cx} {k : Nat} {x : Str} {ps : List Str} {sp : Sp} {e : Expr} {es : List Expr} {p pos : Pos} {t : TA}
theorem pe_has (F : Has X.prog X.w X.K X.mg X.base L2.CX0 k x ps sp) (hr : Room k X.A) (hg : Gl X x) (ha : PA X (e :: es) t)
    (hdb : (x == ("__debug__" : Str)) = false := by decide) (he : starEach (e :: es) X.env = (false, eval e X.env) :: starEach es X.env := by rfl) (hpl : (backTo pos (starEach es X.env)).any (·.1) = false := by rfl) :
    PE X (.Call (.Name x p) (e :: es) [] pos) (tCall sp [] L2.E0 t) := by
  obtain ⟨f, fd, h1, h2, h3, h4⟩ := F.ex
  exact pe_callC (Lx.FnOk.callee h4 hr pass0) hg h1 h2 h3 ha hdb he hpl
theorem pe_hasG (F : HasG X.prog X.w X.K X.mg X.base k x ps sp) (hr : Room k X.A) (hgd : X.A.guards = some []) (hg : Gl X x) (ha : PA X (e :: es) t)
    (hdb : (x == ("__debug__" : Str)) = false := by decide) (he : starEach (e :: es) X.env = (false, eval e X.env) :: starEach es X.env := by rfl) (hpl : (backTo pos (starEach es X.env)).any (·.1) = false := by rfl) :
    PE X (.Call (.Name x p) (e :: es) [] pos) (tCall sp [] L2.E0 t) := by
  obtain ⟨f, fd, h1, h2, h3, h4⟩ := F.ex
  exact pe_callC (Lx.FnOkG.callee h4 hr hgd pass0) hg h1 h2 h3 ha hdb he hpl
/-- a def that may raise: E what is wished of the error -/
theorem pe_hasX {E : XK} {W : WX} (F : Has X.prog X.w X.K X.mg X.base (L2.CX X.prog X.w) k x ps sp) (hr : Room k X.A) (tk : Takes X W) (hW : ∀ cls d σ H, E cls d H → W cls d σ H) (hg : Gl X x) (ha : PA X (e :: es) t)
    (hdb : (x == ("__debug__" : Str)) = false := by decide) (he : starEach (e :: es) X.env = (false, eval e X.env) :: starEach es X.env := by rfl) (hpl : (backTo pos (starEach es X.env)).any (·.1) = false := by rfl) :
    PE X (.Call (.Name x p) (e :: es) [] pos) (tCall sp [] E t) := by
  obtain ⟨f, fd, h1, h2, h3, h4⟩ := F.ex
  exact pe_callC (Lx.FnOk.callee h4 hr (passes_call tk hW)) hg h1 h2 h3 ha hdb he hpl
end

/-! ### what stays -/
theorem sameT {K : PySem.W.Frag} {H H' : Hp} {a : Addr} {xs : List V} (e : Same H H') (h : SqT K H a xs) : SqT K H' a xs := by
  rcases h with (h | ⟨o, h⟩) | h
  · exact .inl (.inl (e _ _ h))
  · exact .inl (.inr ⟨o, e _ _ h⟩)
  · exact .inr h
theorem same_new {H : Hp} {p : Addr} {o : HO} (h : H p = none) : Same H (upd H p o) := fun b x e => by
  rw [upd_ne (ne_of_none e h)]
  exact e
mutual
theorem Same.dp {K : PySem.W.Frag} {H H' : Hp} (e : Same H H') : ∀ (d : PyData) (v : V), Dp K H v d → Dp K H' v d
  | .none, _, h => by cases h; exact .non
  | .bool b, _, h => by cases h; exact .bl b
  | .int i, _, h => by cases h; exact .int i
  | .str x, _, h => by cases h; exact .str x
  | .list ds, _, h => by
    cases h with
    | lst h1 h2 => exact .lst (e.seq h1) (Same.dps e ds _ h2)
  | .tuple ds, _, h => by
    cases h with
    | tup h1 h2 => exact .tup (sameT e h1) (Same.dps e ds _ h2)
  | .dict _, _, h => by cases h
theorem Same.dps {K : PySem.W.Frag} {H H' : Hp} (e : Same H H') : ∀ (ds : List PyData) (vs : List V), DpAll K H vs ds → DpAll K H' vs ds
  | [], _, h => by cases h; exact .nil
  | d :: ds, _, h => by
    cases h with
    | cons h1 h2 => exact .cons (Same.dp e d _ h1) (Same.dps e ds _ h2)
end

theorem walk_enumT {K : PySem.W.Frag} {a : Addr} {xs : List V} : Walk (ItEt K a) xs.length (fun H => SqT K H a xs) (YPair (fun i => some (.int (i : Nat))) (fun i => xs[i]?)) := by
  constructor
  · intro i H hi q
    exact ⟨xs, xs[i], q, by simp [hi]⟩
  · intro H q
    exact ⟨xs, q, rfl⟩
  · rintro i H v H' hi q ⟨T, x, h1, h2, h3, h4⟩
    exact ⟨T, .int (i : Nat), x, h1, h2, h3, rfl, h4 xs q⟩

/-! ### values of a known kind -/
inductive Vk (K : PySem.W.Frag) (H : Hp) : V → Prop
  | non : Vk K H .non
  | bl (b : Bool) : Vk K H (.bl b)
  | int (i : Int) : Vk K H (.int i)
  | str (s : Str) : Vk K H (.str s)
  | lst {a : Addr} {xs : List V} : SqL K H a xs → Vk K H (.ref a)
  | tup {a : Addr} {xs : List V} : SqT K H a xs → Vk K H (.ref a)
theorem Vk.same {K : PySem.W.Frag} {H H' : Hp} {v : V} (h : Vk K H v) (e : Same H H') : Vk K H' v := by
  cases h with
  | non => exact .non
  | bl b => exact .bl b
  | int i => exact .int i
  | str s => exact .str s
  | lst h => exact .lst (e.seq h)
  | tup h => exact .tup (sameT e h)
theorem ty_list {K : PySem.W.Frag} {H : Hp} {a : Addr} {xs : List V} (h : SqL K H a xs) : TyX K H (.ref a) (.type "list") := by
  rcases h with (h | ⟨o, h⟩) | ⟨o, its, n, h, hc, _⟩
  · exact .base (.lst h)
  · exact .base (.frz h)
  · exact .kList h hc
theorem ty_tuple {K : PySem.W.Frag} {H : Hp} {a : Addr} {xs : List V} (h : SqT K H a xs) : TyX K H (.ref a) (.type "tuple") := by
  rcases h with (h | ⟨o, h⟩) | ⟨o, its, n, h, hc, _⟩
  · exact .base (.tup h)
  · exact .fTuple h
  · exact .kTuple h hc
def tyName : V → String
  | .non => "NoneType"
  | .bl _ => "bool"
  | .int _ => "int"
  | .str _ => "str"
  | _ => "list"
/-- what is no int and no bool by its kind -/
def isI : V → Bool
  | .int _ => true
  | .bl _ => true
  | _ => false
def isB : V → Bool
  | .bl _ => true
  | _ => false
/-- the ints from lo to hi -/
def numV (v : V) (lo hi : Int) : Bool := match v with
  | .int i => decide (lo ≤ i) && decide (i ≤ hi)
  | _ => false
theorem Vk.asInt {K : PySem.W.Frag} {H : Hp} {v : V} (h : Vk K H v) : ∃ t, TyX K H v t ∧ PySem.W.kitOne K t (.type "int") = some (isI v) := by
  cases h with
  | non => exact ⟨_, .base .non, kit_ty (r := false) (by decide +kernel)⟩
  | bl b => exact ⟨_, .base (.bl b), kit_ty (r := true) (by decide +kernel)⟩
  | int i => exact ⟨_, .base (.int i), kit_ty (r := true) (by decide +kernel)⟩
  | str s => exact ⟨_, .base (.str s), kit_ty (r := false) (by decide +kernel)⟩
  | lst h => exact ⟨_, ty_list h, kit_ty (r := false) (by decide +kernel)⟩
  | tup h => exact ⟨_, ty_tuple h, kit_ty (r := false) (by decide +kernel)⟩
theorem Vk.asBool {K : PySem.W.Frag} {H : Hp} {v : V} (h : Vk K H v) : ∃ t, TyX K H v t ∧ PySem.W.kitOne K t (.type "bool") = some (isB v) := by
  cases h with
  | non => exact ⟨_, .base .non, kit_ty (r := false) (by decide +kernel)⟩
  | bl b => exact ⟨_, .base (.bl b), kit_ty (r := true) (by decide +kernel)⟩
  | int i => exact ⟨_, .base (.int i), kit_ty (r := false) (by decide +kernel)⟩
  | str s => exact ⟨_, .base (.str s), kit_ty (r := false) (by decide +kernel)⟩
  | lst h => exact ⟨_, ty_list h, kit_ty (r := false) (by decide +kernel)⟩
  | tup h => exact ⟨_, ty_tuple h, kit_ty (r := false) (by decide +kernel)⟩
/-- a list's or tuple's items -/
inductive Seq (K : PySem.W.Frag) (H : Hp) : V → List V → Prop
  | lst {a : Addr} {xs : List V} : SqL K H a xs → Seq K H (.ref a) xs
  | tup {a : Addr} {xs : List V} : SqT K H a xs → Seq K H (.ref a) xs
/-- none, a truth value, a number, a text -/
inductive Sca : V → Prop
  | non : Sca .non
  | bl (b : Bool) : Sca (.bl b)
  | int (i : Int) : Sca (.int i)
  | str (s : Str) : Sca (.str s)
theorem Sca.vk {K : PySem.W.Frag} {H : Hp} {v : V} (h : Sca v) : Vk K H v := by
  cases h with
  | non => exact .non
  | bl b => exact .bl b
  | int i => exact .int i
  | str s => exact .str s
theorem Seq.vk {K : PySem.W.Frag} {H : Hp} {v : V} {xs : List V} (h : Seq K H v xs) : Vk K H v := by
  cases h with
  | lst h => exact .lst h
  | tup h => exact .tup h
theorem Seq.same {K : PySem.W.Frag} {H H' : Hp} {v : V} {xs : List V} (h : Seq K H v xs) (e : Same H H') : Seq K H' v xs := by
  cases h with
  | lst h => exact .lst (e.seq h)
  | tup h => exact .tup (sameT e h)
theorem kitLT {K : PySem.W.Frag} {a : String} {b1 b2 : Bool} (h1 : PySem.W.kitOne K (.type a) (.type "list") = some b1) (h2 : PySem.W.kitOne K (.type a) (.type "tuple") = some b2) :
    PySem.W.kitAny K (.type a) [.type "list", .type "tuple"] = some (b1 || b2) := by
  refine kitAny_cons h1 (fun e => ?_) (fun e => by rw [e]; rfl)
  subst e
  refine kitAny_cons h2 (fun e => ?_) (fun e => by rw [e]; rfl)
  subst e
  exact kitAny_nil
theorem Seq.kit {K : PySem.W.Frag} {H : Hp} {v : V} {xs : List V} (h : Seq K H v xs) : ∃ t, TyX K H v t ∧ PySem.W.kitAny K t [.type "list", .type "tuple"] = some true := by
  cases h with
  | lst h => exact ⟨_, ty_list h, kitLT (b1 := true) (b2 := false) (kit_ty (by decide +kernel)) (kit_ty (by decide +kernel))⟩
  | tup h => exact ⟨_, ty_tuple h, kitLT (b1 := false) (b2 := true) (kit_ty (by decide +kernel)) (kit_ty (by decide +kernel))⟩
theorem Sca.kit {K : PySem.W.Frag} {H : Hp} {v : V} (h : Sca v) : ∃ t, TyX K H v t ∧ PySem.W.kitAny K t [.type "list", .type "tuple"] = some false := by
  cases h with
  | non => exact ⟨_, .base .non, kitLT (b1 := false) (b2 := false) (kit_ty (by decide +kernel)) (kit_ty (by decide +kernel))⟩
  | bl b => exact ⟨_, .base (.bl b), kitLT (b1 := false) (b2 := false) (kit_ty (by decide +kernel)) (kit_ty (by decide +kernel))⟩
  | int i => exact ⟨_, .base (.int i), kitLT (b1 := false) (b2 := false) (kit_ty (by decide +kernel)) (kit_ty (by decide +kernel))⟩
  | str s => exact ⟨_, .base (.str s), kitLT (b1 := false) (b2 := false) (kit_ty (by decide +kernel)) (kit_ty (by decide +kernel))⟩
end Lx

set_option Elab.async false
set_option linter.all false
set_option maxRecDepth 100000
set_option maxHeartbeats 4000000
/-! a list or a tuple walked; comprehensions whose element leaves all as it was -/
namespace Lx
open PySem PySem.Spec PyProof.Rows L2

/-- a def that may raise, called where it does not -/
theorem pe_hasN {X : Cx} {k : Nat} {x : Str} {ps : List Str} {sp : Sp} {e : Expr} {es : List Expr} {p pos : Pos} {t : TA} (F : Has X.prog X.w X.K X.mg X.base (L2.CX X.prog X.w) k x ps sp) (hr : Room k X.A) (hg : Gl X x) (ha : PA X (e :: es) t)
    (hdb : (x == ("__debug__" : Str)) = false := by decide) (he : starEach (e :: es) X.env = (false, eval e X.env) :: starEach es X.env := by rfl) (hpl : (backTo pos (starEach es X.env)).any (·.1) = false := by rfl) :
    PE X (.Call (.Name x p) (e :: es) [] pos) (tCall sp [] L2.E0 t) := by
  obtain ⟨f, fd, h1, h2, h3, h4⟩ := F.ex
  exact pe_callC (Lx.FnOk.callee h4 hr passL) hg h1 h2 h3 ha hdb he hpl

/-- len of a list or a tuple, the written part named -/
def rLenS (K : PySem.W.Frag) : List V → Hp → VK → Prop := fun xs H Q => ∃ p ys, xs = [V.ref p] ∧ (SqL K H p ys ∨ SqT K H p ys) ∧ Q (V.int (ys.length : Nat)) H
theorem lenS {X : Cx} : CallR X (.builtin "len") (rLenS X.K) := call_len_seq

/-- tuple(x) of a list or a tuple, the written part named -/
def rTupOf (K : PySem.W.Frag) : List V → Hp → VK → Prop := fun xs H Q => ∃ p ys, xs = [V.ref p] ∧ ((SqL K H p ys ∧ ∀ l, H l = none → Q (V.ref l) (upd H l (.tup ys))) ∨ (SqT K H p ys ∧ Q (V.ref p) H))
theorem tupOf {X : Cx} : CallR X (.type "tuple") (rTupOf X.K) := call_tuple_of

/-- a list or a tuple -/
def iSeq (K : PySem.W.Frag) (tl : TE) : TI := fun σ H R => tl σ H fun x H1 => ∃ a, x = .ref a ∧ ((∃ xs, SqL K H1 a xs ∧ R (Itl K a) H1) ∨ (∃ xs, SqT K H1 a xs ∧ R (Itt K a) H1))
theorem pi_seq {X : Cx} {tg l : Expr} {tl : TE} (hl : PE X l tl) : PI X tg l (iSeq X.K tl) := by
  constructor
  intro pins s σ H R I h
  apply thn (hl.run pins s σ H _ I h)
  rintro v s1 ⟨x, H1, I1, r1, a, rfl, q⟩
  cases r1
  have fpo : ∀ b ∈ [s1.heap.objs.size], FpOk X pins H1 b := fun b hb => by
    obtain rfl : b = s1.heap.objs.size := by simpa using hb
    exact I1.fpOk (Nat.le_refl _) (I1.hok.fresh (Nat.le_refl _))
  rcases q with ⟨xs, hq, q⟩ | ⟨xs, hq, q⟩
  · obtain ⟨its, rv, p, hz⟩ := I1.list hq
    exact wpAny_pyIter_list p.isList ⟨s1.heap.objs.size, [s1.heap.objs.size], _, _, H1, rfl, I1.kept (t' := s1.toks) fun b o e => Heap.get?_push_of_some _ e, turn_list a _, ⟨_, Heap.get?_push_size _ rfl, rfl, rfl⟩, fpo, q⟩
  · obtain ⟨its, rv, p, hz⟩ := I1.tuple hq
    exact wpAny_pyIter_tuple (show s1.heap.IsTuple a its.toArray from p) ⟨s1.heap.objs.size, [s1.heap.objs.size], _, _, H1, rfl, I1.kept (t' := s1.toks) fun b o e => Heap.get?_push_of_some _ e, turn_tuple a _, ⟨_, Heap.get?_push_size _ rfl, rfl, rfl⟩, fpo, q⟩

theorem yes_in {σ : L2.St} {H : Hp} {A B : Hp → Prop} (h : A H) : tYes σ H (fun b H3 => if b = true then A H3 else B H3) := by
  show (if true = true then A H else B H)
  exact iteT h

/-- behind i turns the new list at D holds what f gives of the turns that p lets; all else is as it was -/
def PvF (p : Nat → Bool) (f : Nat → V) (H1 : Hp) (D : Addr) (i : Nat) (H : Hp) : Prop := Same H1 H ∧ H D = some (.lst (((List.range i).filter p).map f))
theorem pvf0 {p : Nat → Bool} {f : Nat → V} {H1 : Hp} {D : Addr} (n : H1 D = none) : PvF p f H1 D 0 (upd H1 D (.lst [])) := ⟨same_new n, upd_same⟩
theorem range_put (p : Nat → Bool) (f : Nat → V) (i : Nat) (h : p i = true) : ((List.range (i + 1)).filter p).map f = ((List.range i).filter p).map f ++ [f i] := by
  rw [List.range_succ, List.filter_append, List.map_append]
  simp [h]
theorem range_skip (p : Nat → Bool) (f : Nat → V) (i : Nat) (h : p i = false) : ((List.range (i + 1)).filter p).map f = ((List.range i).filter p).map f := by
  rw [List.range_succ, List.filter_append, List.map_append]
  simp [h]
theorem range_len (p : Nat → Bool) (f : Nat → V) (i : Nat) : (((List.range i).filter p).map f).length ≤ i := by
  rw [List.length_map]
  have := List.length_filter_le p (List.range i)
  rwa [List.length_range] at this
theorem pvf_put {p : Nat → Bool} {f : Nat → V} {H1 H H4 : Hp} {D : Addr} {i : Nat} {y : V} (n : H1 D = none) (h : PvF p f H1 D i H) (s : Same H H4) (hp : p i = true) (e : y = f i) (hi : i < 1000000) :
    ∃ acc, H4 D = some (.lst acc) ∧ acc.length < sizeLine ∧ PvF p f H1 D (i + 1) (upd H4 D (.lst (acc ++ [y]))) := by
  refine ⟨_, s _ _ h.2, ?_, fun b o z => ?_, ?_⟩
  · have := range_len p f i
    rw [sizeLine_eq]
    omega
  · rw [upd_ne (ne_of_none z n)]
    exact s _ _ (h.1 _ _ z)
  · rw [upd_same, range_put p f i hp, e]
theorem pvf_skip {p : Nat → Bool} {f : Nat → V} {H1 H H4 : Hp} {D : Addr} {i : Nat} (h : PvF p f H1 D i H) (s : Same H H4) (hp : p i = false) : PvF p f H1 D (i + 1) H4 :=
  ⟨h.1.trans s, by rw [range_skip p f i hp]; exact s _ _ h.2⟩
theorem filter_true (n : Nat) : (List.range n).filter (fun _ => true) = List.range n := List.filter_eq_self.mpr fun _ _ => rfl
theorem range_get {xs : List V} : (List.range xs.length).map (fun i => xs.getD i .non) = xs := by
  apply List.ext_getElem
  · simp
  · intro i h1 h2
    simp [h2]
theorem range_get_map {α : Type} {xs : List V} (g : V → α) : (List.range xs.length).map (fun i => g (xs.getD i .non)) = xs.map g := by
  apply List.ext_getElem
  · simp
  · intro i h1 h2
    have h3 : i < xs.length := by simpa using h1
    simp [h3]
end Lx

set_option Elab.async false
set_option linter.all false
set_option maxRecDepth 100000
set_option maxHeartbeats 4000000
/-! data: what repr and == ask of them -/
namespace Lx
open PySem PySem.Spec PyProof.Rows L2

structure Neat (d : PyData) (dep wt : Nat) : Prop where
  lay : d.canLay0 = true
  dep : d.depth ≤ dep
  wt : d.weight ≤ wt
  shw : d.showable = true
  nod : d.hasDict = false
  ls : d.leavesShort 13 = true
theorem Neat.mono {d : PyData} {a b a' b' : Nat} (h : Neat d a b) (h1 : a ≤ a') (h2 : b ≤ b') : Neat d a' b' := ⟨h.lay, by have := h.dep; omega, by have := h.wt; omega, h.shw, h.nod, h.ls⟩
theorem Neat.shaped {d : PyData} {a b : Nat} (h : Neat d a b) (h1 : a ≤ 64) : SeqAt.shaped d = true := by
  unfold SeqAt.shaped
  rw [h.lay, Bool.true_and, decide_eq_true_eq]
  have := h.dep
  omega
theorem log2_lt {n : Nat} (h : n < 10 ^ 12) : n.log2 < 1920 := by
  by_cases z : n = 0
  · subst z
    decide
  · rw [Nat.log2_lt z]
    exact Nat.lt_of_lt_of_le (Nat.lt_trans h (show 10 ^ 12 < 2 ^ 40 by decide)) (Nat.pow_le_pow_right (by decide) (by decide))
theorem neat_none : Neat .none 0 0 := ⟨rfl, Nat.le_refl _, Nat.le_refl _, rfl, rfl, rfl⟩
theorem neat_bool (b : Bool) : Neat (.bool b) 0 0 := ⟨rfl, Nat.le_refl _, Nat.le_refl _, rfl, rfl, rfl⟩
theorem neat_int {i : Int} (h : i.natAbs < 10 ^ 12) : Neat (.int i) 0 40 := by
  refine ⟨rfl, Nat.le_refl _, ?_, ?_, rfl, ?_⟩
  · show (if (i == 0) = true then 0 else i.natAbs.log2 + 1) ≤ 40
    split
    · omega
    · by_cases z : i.natAbs = 0
      · rw [z]
        decide
      · have := (Nat.log2_lt z (k := 40)).mpr (Nat.lt_trans h (by decide))
        omega
  · exact decide_eq_true (log2_lt h)
  · exact decide_eq_true (PyData.shown_int_le h)
theorem neat_all {ds : List PyData} {a b : Nat} (h : ∀ d ∈ ds, Neat d a b) : PyData.canLayAll0 ds = true ∧ PyData.depthAll ds ≤ a ∧ PyData.weightAll ds ≤ ds.length * (b + 1) ∧ PyData.showableAll ds = true ∧ PyData.hasDictAll ds = false ∧ PyData.leavesShortAll 13 ds = true := by
  induction ds with
  | nil => exact ⟨rfl, Nat.zero_le _, Nat.zero_le _, rfl, rfl, rfl⟩
  | cons d ds ih =>
    obtain ⟨i1, i2, i3, i4, i5, i6⟩ := ih fun x hx => h x (List.mem_cons_of_mem _ hx)
    have k := h d List.mem_cons_self
    refine ⟨?_, ?_, ?_, ?_, ?_, ?_⟩
    · show (d.canLay0 && PyData.canLayAll0 ds) = true
      rw [k.lay, i1]
      rfl
    · show max d.depth (PyData.depthAll ds) ≤ a
      have := k.dep
      omega
    · show d.weight + 1 + PyData.weightAll ds ≤ (ds.length + 1) * (b + 1)
      have := k.wt
      rw [Nat.add_mul]
      omega
    · show (d.showable && PyData.showableAll ds) = true
      rw [k.shw, i4]
      rfl
    · show (d.hasDict || PyData.hasDictAll ds) = false
      rw [k.nod, i5]
      rfl
    · show (d.leavesShort 13 && PyData.leavesShortAll 13 ds) = true
      rw [k.ls, i6]
      rfl
theorem neat_list {ds : List PyData} {a b : Nat} (h : ∀ d ∈ ds, Neat d a b) : Neat (.list ds) (a + 1) (ds.length * (b + 1)) := by
  obtain ⟨i1, i2, i3, i4, i5, i6⟩ := neat_all h
  exact ⟨i1, Nat.succ_le_succ i2, i3, i4, i5, i6⟩
theorem neat_tuple {ds : List PyData} {a b : Nat} (h : ∀ d ∈ ds, Neat d a b) : Neat (.tuple ds) (a + 1) (ds.length * (b + 1)) := by
  obtain ⟨i1, i2, i3, i4, i5, i6⟩ := neat_all h
  exact ⟨i1, Nat.succ_le_succ i2, i3, i4, i5, i6⟩
theorem neat_ints {ds : List Int} (h : ∀ d ∈ ds, d.natAbs < 10 ^ 12) : ∀ d ∈ ds.map PyData.int, Neat d 0 40 := fun d hd => by
  obtain ⟨i, hi, rfl⟩ := List.mem_map.mp hd
  exact neat_int (h i hi)
/-- what repr asks of a datum -/
structure RepOk (d : PyData) : Prop where
  ex : ∃ a b, Neat d a b ∧ a ≤ 64 ∧ b ≤ 2 ^ 20
theorem Neat.rep {d : PyData} {a b : Nat} (h : Neat d a b) (ha : a ≤ 64 := by decide) (hb : b ≤ 2 ^ 20 := by decide) : RepOk d := ⟨a, b, h, ha, hb⟩
def rRepr (K : PySem.W.Frag) : List V → Hp → VK → Prop := fun xs H Q => ∃ v d, xs = [v] ∧ Dp K H v d ∧ RepOk d ∧ Q (.str d.shown) H
theorem call_reprS {X : Cx} (hu : X.A.units + 200 < cLine) (hg : X.A.guards = some []) : CallR X (.builtin "repr") (rRepr X.K) := by
  rintro pins s σ H xs us Q I r ⟨v, d, rfl, hd, ⟨a, b, h, ha, hb⟩, q⟩
  refine call_reprD hu hg pins s σ H [v] us Q I r ⟨v, d, rfl, hd, h.shw, h.nod, Nat.le_trans h.dep ha, h.ls, Nat.le_trans h.wt hb, fun i e => ?_, q⟩
  have z := h.shw
  subst e
  exact of_decide_eq_true z

/-! ### == -/
theorem eqvAll_ints : ∀ (xs ys : List Int), PyData.eqvAll (xs.map PyData.int) (ys.map PyData.int) = decide (xs = ys)
  | [], [] => rfl
  | [], _ :: _ => rfl
  | _ :: _, [] => rfl
  | x :: xs, y :: ys => by
    show ((x == y) && PyData.eqvAll (xs.map PyData.int) (ys.map PyData.int)) = _
    rw [eqvAll_ints xs ys, Bool.eq_iff_iff]
    simp
theorem eqv_tuple_ints (xs ys : List Int) : PyData.eqv (.tuple (xs.map PyData.int)) (.tuple (ys.map PyData.int)) = decide (xs = ys) := eqvAll_ints xs ys
theorem eqv_list_ints (xs ys : List Int) : PyData.eqv (.list (xs.map PyData.int)) (.list (ys.map PyData.int)) = decide (xs = ys) := eqvAll_ints xs ys
theorem dps_ints {K : PySem.W.Frag} {H : Hp} : ∀ (xs : List Int), DpAll K H (xs.map V.int) (xs.map PyData.int)
  | [] => .nil
  | x :: xs => .cons (.int x) (dps_ints xs)
theorem dp_tuple_ints {K : PySem.W.Frag} {H : Hp} {a : Addr} {xs : List Int} (h : SqT K H a (xs.map V.int)) : Dp K H (.ref a) (.tuple (xs.map PyData.int)) := .tup h (dps_ints xs)
theorem dp_list_ints {K : PySem.W.Frag} {H : Hp} {a : Addr} {xs : List Int} (h : SqL K H a (xs.map V.int)) : Dp K H (.ref a) (.list (xs.map PyData.int)) := .lst h (dps_ints xs)
theorem shaped_ints_any {xs : List Int} : PyData.canLayAll0 (xs.map PyData.int) = true ∧ PyData.depthAll (xs.map PyData.int) = 0 := by
  induction xs with
  | nil => exact ⟨rfl, rfl⟩
  | cons x xs ih => exact ⟨by show (true && PyData.canLayAll0 _) = true; rw [ih.1]; rfl, by show max 0 (PyData.depthAll _) = 0; rw [ih.2]; rfl⟩
theorem shaped_tuple_ints (xs : List Int) : SeqAt.shaped (.tuple (xs.map PyData.int)) = true := by
  obtain ⟨h1, h2⟩ := shaped_ints_any (xs := xs)
  show (PyData.canLayAll0 (xs.map PyData.int) && decide (PyData.depthAll (xs.map PyData.int) + 1 ≤ 64)) = true
  rw [h1, h2]
  rfl
theorem shaped_list_ints (xs : List Int) : SeqAt.shaped (.list (xs.map PyData.int)) = true := by
  obtain ⟨h1, h2⟩ := shaped_ints_any (xs := xs)
  show (PyData.canLayAll0 (xs.map PyData.int) && decide (PyData.depthAll (xs.map PyData.int) + 1 ≤ 64)) = true
  rw [h1, h2]
  rfl

/-! ### slices -/
theorem cut_from (xs : List V) (s : Nat) : cutV xs (some (s : Int)) none = xs.drop s := by
  unfold cutV
  rw [HT.sIx_nat, HT.sIx_none]
  rcases Nat.le_total s xs.length with h | h
  · rw [Nat.min_eq_left h, List.take_of_length_le (by rw [List.length_drop]; exact Nat.le_refl _)]
  · rw [Nat.min_eq_right h, List.drop_of_length_le (Nat.le_refl _), List.drop_of_length_le h, List.take_nil]
theorem cut_to (xs : List V) (s : Nat) : cutV xs none (some (s : Int)) = xs.take s := by
  unfold cutV
  rw [HT.sIx_nat, HT.sIx_none]
  show (xs.drop 0).take (min s xs.length - 0) = xs.take s
  rw [List.drop_zero, Nat.sub_zero]
  rcases Nat.le_total s xs.length with h | h
  · rw [Nat.min_eq_left h]
  · rw [Nat.min_eq_right h, List.take_of_length_le (Nat.le_refl _), List.take_of_length_le h]
end Lx

set_option Elab.async false
set_option linter.all false
set_option maxRecDepth 100000
set_option maxHeartbeats 4000000
/-! a def called with every parameter by its name, in the reverse order -/
namespace Lx
open PySem PySem.Spec PyProof.Rows L2
def gRev (us ws : List Value) : List Value := match us with
  | [] => ws.reverse
  | _ => []
def gRevV (vs zs : List V) : List V := match vs with
  | [] => zs.reverse
  | _ => []
theorem vals_reverse : ∀ {xs : List V} {us : List Value}, Vals xs us → Vals xs.reverse us.reverse
  | _, _, .nil => .nil
  | x :: xs, u :: us, .cons r t => by
    rw [List.reverse_cons, List.reverse_cons]
    exact Vals.append (vals_reverse t) (.cons r .nil)
theorem rev_rel {vs : List V} {us : List Value} {zs : List V} {ws : List Value} (r : Vals vs us) (s : Vals zs ws) : Vals (gRevV vs zs) (gRev us ws) := by
  cases r with
  | nil => exact vals_reverse s
  | cons _ _ => exact .nil
structure HasR (P : Program) (w : World) (K : PySem.W.Frag) (mg : Str → Option Value) (base : Heap) (CX : CXT) (k : Nat) (x : Str) (ps ks : List Str) (sp : Sp) : Prop where
  ex : ∃ f fd, mg x = some (.ref f) ∧ PySem.W.keepIn K (.ref f) = true ∧ KBinds K fd ps ks gRev gRevV ∧ FnOk P w K mg base CX k f fd ps sp
theorem pe_hasR {X : Cx} {k : Nat} {x : Str} {ps ks : List Str} {sp : Sp} {p pos : Pos} {kws : List Keyword} {tk : TA} (F : HasR X.prog X.w X.K X.mg X.base (L2.CX X.prog X.w) k x ps ks sp) (hr : Room k X.A) (hg : Gl X x) (hkw : PK X kws tk)
    (hall : (backToKw pos (keywordEach kws X.env)).all (·.1.isSome) = true := by rfl) (hks : (backToKw pos (keywordEach kws X.env)).filterMap (·.1) = ks := by rfl)
    (hdb : (x == ("__debug__" : Str)) = false := by decide)
    (hpl : ((backTo pos (starEach [] X.env)).any (·.1) || (backToKw pos (keywordEach kws X.env)).any (·.1.isNone)) = false := by rfl) :
    PE X (.Call (.Name x p) [] kws pos) (tCallK sp gRevV L2.E0 tNil tk) := by
  obtain ⟨f, fd, h1, h2, h3, h4⟩ := F.ex
  exact pe_callKw0 (Lx.FnOk.callee h4 hr passL) hg h1 h2 h3 hkw hall hks hdb hpl
theorem kb2 {K : PySem.W.Frag} {fd : FuncData} {a b : Str} (h : ∀ (s : Shared) (u v : Value), K.In s.heap → BindsTo s fd ⟨[], [(b, u), (a, v)]⟩ [(a, v), (b, u)]) : KBinds K fd [a, b] [b, a] gRev gRevV where
  to := by
    rintro s us ws hK hl
    cases us with
    | cons _ _ => cases hl
    | nil =>
      match ws, hl with
      | [u, v], _ => exact h s u v hK
      | [], hl => cases hl
      | [_], hl => cases hl
      | _ :: _ :: _ :: _, hl => simp [gRev] at hl
  rel := rev_rel
theorem kb3 {K : PySem.W.Frag} {fd : FuncData} {a b c : Str} (h : ∀ (s : Shared) (u v x : Value), K.In s.heap → BindsTo s fd ⟨[], [(c, u), (b, v), (a, x)]⟩ [(a, x), (b, v), (c, u)]) : KBinds K fd [a, b, c] [c, b, a] gRev gRevV where
  to := by
    rintro s us ws hK hl
    cases us with
    | cons _ _ => cases hl
    | nil =>
      match ws, hl with
      | [u, v, x], _ => exact h s u v x hK
      | [], hl => cases hl
      | [_], hl => cases hl
      | [_, _], hl => cases hl
      | _ :: _ :: _ :: _ :: _, hl => simp [gRev] at hl
  rel := rev_rel
end Lx

set_option Elab.async false
set_option linter.all false
set_option maxRecDepth 100000
set_option maxHeartbeats 4000000
/-! lambdas that capture names: made (as a value, or handed to a def), called; with parameters -/
namespace Lx
open PySem PySem.Spec PyProof.Rows L2
abbrev lamQ (X : Cx) : Str := X.env.qual ++ "<lambda>"
/-- at f: the lambda of this text, made in X's frame, its code object at cc -/
def LamO (X : Cx) (ps : Arguments) (body : Expr) (sc : Scope) (f cc : Addr) : HO := .ext fun h => ∃ pm ctv : Value, h.get? f = some (PySem.W.kla_obj "<lambda>" (lamQ X) ps body sc (cloFrom X.env.cells sc.names []) pm cc ctv)
theorem LamO.not_tbl {X : Cx} {ps : Arguments} {body : Expr} {sc : Scope} {f cc : Addr} (z : Array Value) : LamO X ps body sc f cc ≠ .tbl z := fun e => by
  unfold LamO at e
  cases e
theorem LamX.codeO_nt {c : Addr} {q : Str} (ps : Array Value) : LamX.CodeO c q ≠ .tbl ps := LamX.codeO_ne ps
/-- a lambda's names: its parameters, captured ones, globals -/
structure LamN (sc scope : Scope) (ps : List Str) : Prop where
  kind : scope.kind = .function
  co : scope.isCoroutine = false
  gen : scope.isGenerator = false
  loc : ∀ y ∈ scope.names, y.2 = .local → y.1 ∈ ps
  nocell : ∀ y ∈ scope.names, y.2 ≠ .cell
  free : ∀ y ∈ scope.names, y.2 = .free → sc.names.lookup y.1 = some .cell ∨ sc.names.lookup y.1 = some .free
  par : ∀ p ∈ ps, scope.names.lookup p = some .local
def lamNB (sc scope : Scope) (ps : List Str) : Bool :=
  decide (scope.kind = .function) && (!scope.isCoroutine && (!scope.isGenerator && ((scope.names.all fun y => (!decide (y.2 = .local) || ps.contains y.1) && (!decide (y.2 = .cell) && (!decide (y.2 = .free) || (decide (sc.names.lookup y.1 = some .cell) || decide (sc.names.lookup y.1 = some .free))))) &&
    ps.all fun p => decide (scope.names.lookup p = some .local))))
theorem lamN_by {sc scope : Scope} {ps : List Str} (h : lamNB sc scope ps = true) : LamN sc scope ps := by
  unfold lamNB at h
  simp only [Bool.and_eq_true, Bool.or_eq_true, Bool.not_eq_true', decide_eq_true_eq, decide_eq_false_iff_not, List.all_eq_true] at h
  obtain ⟨h1, h2, h3, h4, h5⟩ := h
  refine ⟨h1, h2, h3, fun y hy e => ?_, fun y hy => (h4 y hy).2.1, fun y hy e => ?_, h5⟩
  · rcases (h4 y hy).1 with z | z
    · exact absurd e z
    · simpa using z
  · rcases (h4 y hy).2.2 with z | z | z
    · exact absurd e z
    · exact .inl z
    · exact .inr z
theorem LamN.has {X : Cx} {scope : Scope} {ps : List Str} (L : LamN X.env.scope scope ps) (ok : X.Ok) : ∀ y ∈ scope.names, y.2 = .free → ∃ c, X.env.cells.lookup y.1 = some c := fun y hy e =>
  ok.has _ (L.free y hy e)

section
variable {X : Cx} {pins : List (Addr × Obj)} {σ : L2.St} {H : Hp} {s : Shared}
/-- the lambda is made and known from now on -/
theorem lam_new {T : List (Addr × Str)} {c P : Addr} {params : Arguments} {body : Expr} {scope : Scope} {ps : List Str} {pos : Pos} {E : Value → Shared → Prop} {Q : Value → Shared → Prop} (L : LamN X.env.scope scope ps) (I : Inv X pins σ H s) (TB : LamX.TabB X.base X.mg c P) (hcode : X.env.code = .ref c)
    (hm : (P, lamQ X) ∈ T) (hu : ∀ p ∈ T, p.1 = P → p.2 = lamQ X) (hT : LamX.Tabs T H) (hdef : defaultsOf params X.env = ([], []))
    (h : ∀ (f cc : Addr) (H1 : Hp) (s' : Shared), Inv X pins σ H1 s' → LamX.ExtN H H1 → LamX.Tabs T H1 → H f = none → H1 f = some (LamO X params body scope f cc) → H1 cc = some (LamX.CodeO cc (lamQ X)) → Q (.ref f) s') :
    wpAny (model X.prog X.w) X.A (eval (.Lambda params body scope pos) X.env) Q E s := by
  obtain ⟨tb, hP, ht, ha⟩ := hT _ hm
  have bP : s.heap.BuiltinsAt X.mg P := TB.bm.keeps I.bk
  have hP' : s.heap.get? P = some { cls := .none, data := .fields tb } := I.hok P _ hP
  have clo := closure_ok (L.has I.ok)
  -- the object itself, laid upon a heap that holds the code object
  have laid : ∀ (h' : Heap) (tk : Nat) (H0 : Hp) (cc : Addr) (pm ctv : Value), Inv X pins σ H0 { s with heap := h', toks := tk } → LamX.ExtN H H0 → LamX.Tabs T H0 → H0 cc = some (LamX.CodeO cc (lamQ X)) → s.heap.objs.size ≤ h'.objs.size →
      Q (.ref h'.objs.size) { s with heap := h'.push (PySem.W.kla_obj "<lambda>" (lamQ X) params body scope (cloFrom X.env.cells scope.names []) pm cc ctv), toks := tk } := by
    intro h' tk H0 cc pm ctv I0 e0 T0 hcc hsz
    have got : (h'.push (PySem.W.kla_obj "<lambda>" (lamQ X) params body scope (cloFrom X.env.cells scope.names []) pm cc ctv)).get? h'.objs.size = some (PySem.W.kla_obj "<lambda>" (lamQ X) params body scope (cloFrom X.env.cells scope.names []) pm cc ctv) := Heap.get?_push_size _ rfl
    have nf : H0 h'.objs.size = none := I0.hok.fresh (Nat.le_refl _)
    have J := I0.laid (t' := tk) (a := h'.objs.size) (o := LamO X params body scope h'.objs.size cc) (fun b u q => Heap.get?_push_of_some _ q) (Nat.le_refl _) ⟨⟨pm, ctv, got⟩, ⟨_, got⟩, fun h1 h2 ⟨a, b, z⟩ k => ⟨a, b, k _ z⟩⟩
    have keep : ∀ b o, H0 b = some o → upd H0 h'.objs.size (LamO X params body scope h'.objs.size cc) b = some o := fun b o z => by
      rw [upd_ne (ne_of_none z nf)]
      exact z
    exact h _ cc _ _ J (e0.trans (LamX.ExtN.of keep)) (T0.ext keep) (I.hok.fresh hsz) upd_same (keep _ _ hcc)
  refine PySem.W.kla_eval hdef ?_
  cases hc : codeAmong pos tb.toList with
  | some cv =>
    obtain ⟨cc, e, hco⟩ := ha pos cv hc
    subst e
    apply PySem.W.kla_makeFunctionHit (mg := X.mg) (c := c) (P := P) (ps := tb) clo I.ok.glob (I.mod.glob.keeps I.bk) hcode (TB.code.keeps I.bk) hP' ht hc bP
    intro ctv h' tk hx hsz
    exact laid h' tk H cc _ ctv (I.kept hx) (LamX.ExtN.refl H) hT hco hsz
  | none =>
    apply PySem.W.kla_makeFunction (mg := X.mg) (c := c) (P := P) (ps := tb) clo I.ok.glob (I.mod.glob.keeps I.bk) hcode (TB.code.keeps I.bk) hP' ht hc TB.gP bP
    intro cc ctv h' tk hx hge hlt hrec htb
    obtain ⟨c2, oc, vs, t, e2, hoc, hd, hv⟩ := hrec
    cases e2
    have nC : H cc = none := I.hok.fresh hge
    have I1 := LamX.inv_table (t' := tk) (more := #[rawInt pos.line, rawInt pos.col, .ref cc]) (h' := h') (q := lamQ X) I hP (fun b o hb e => hx b o hb e) htb hge ⟨oc, vs, t, hoc, hd, hv⟩
    have e1 : LamX.ExtN H (upd (upd H P (.tbl (tb ++ #[rawInt pos.line, rawInt pos.col, .ref cc]))) cc (LamX.CodeO cc (lamQ X))) := fun b o e n => by
      have nb : b ≠ P := fun z => n tb (Option.some.inj (e.symm.trans (by rw [z]; exact hP)))
      rw [upd_ne (ne_of_none e nC), upd_ne nb]
      exact e
    have el : (tb ++ #[rawInt pos.line, rawInt pos.col, .ref cc]).toList = tb.toList ++ [rawInt pos.line, rawInt pos.col, .ref cc] := by simp
    refine laid h' tk _ cc _ ctv I1 e1 ?_ upd_same (Nat.le_trans hge (Nat.le_of_lt hlt))
    intro p hp
    by_cases hb : p.1 = P
    · rw [hu p hp hb, hb]
      refine ⟨_, by rw [upd_ne (ne_of_none hP nC), upd_same], by rw [el]; exact PySem.TriplesOk_snoc _ _ _ _ ht, fun p' cv hcv => ?_⟩
      rw [el] at hcv
      rcases LamX.among_app _ ht hcv with z | z
      · obtain ⟨c0, f1, f2⟩ := ha p' cv z
        exact ⟨c0, f1, e1 _ _ f2 LamX.codeO_ne⟩
      · exact ⟨cc, z, upd_same⟩
    · obtain ⟨ps', a1, a2, a3⟩ := hT p hp
      refine ⟨ps', by rw [upd_ne (ne_of_none a1 nC), upd_ne hb]; exact a1, a2, fun p' cv hcv => ?_⟩
      obtain ⟨c0, f1, f2⟩ := a3 p' cv hcv
      exact ⟨c0, f1, e1 _ _ f2 LamX.codeO_ne⟩
end
/-- a lambda as a value -/
def tLamV (X : Cx) (T : List (Addr × Str)) (params : Arguments) (body : Expr) (scope : Scope) : TE := fun _ H Q => LamX.Tabs T H ∧ ∀ f cc H1, LamX.ExtN H H1 → LamX.Tabs T H1 → H f = none → H1 f = some (LamO X params body scope f cc) → H1 cc = some (LamX.CodeO cc (lamQ X)) → Q (.ref f) H1
theorem pe_lamV {X : Cx} {T : List (Addr × Str)} {c P : Addr} {params : Arguments} {body : Expr} {scope : Scope} {ps : List Str} {pos : Pos} (L : LamN X.env.scope scope ps) (TB : LamX.TabB X.base X.mg c P) (hcode : X.env.code = .ref c)
    (hm : (P, lamQ X) ∈ T) (hu : ∀ p ∈ T, p.1 = P → p.2 = lamQ X) (hdef : defaultsOf params X.env = ([], [])) : PE X (.Lambda params body scope pos) (tLamV X T params body scope) := by
  constructor
  rintro pins s σ H Q I ⟨hT, q⟩
  apply lam_new L I TB hcode hm hu hT hdef
  intro f cc H1 s' I1 e1 T1 nf hf hc
  exact ⟨.ref f, H1, I1, rfl, q f cc H1 e1 T1 nf hf hc⟩
end Lx

set_option Elab.async false
set_option linter.all false
set_option maxRecDepth 100000
set_option maxHeartbeats 4000000
/-! a lambda's body runs -/
namespace Lx
open PySem PySem.Spec PyProof.Rows L2
abbrev lmEnv (X : Cx) (scope : Scope) (L f cc : Addr) : Env := PySem.W.envX (lamQ X) scope L f (.ref cc) (cloFrom X.env.cells scope.names [])
/-- the context of the body, entered at s from the frames outer: the maker's names, then the parameters -/
def lmCx (X : Cx) (ps : List Str) (A : Around) (outer : List Env) (s : Shared) (H : Hp) (E : XK) (scope : Scope) (f cc : Addr) : Cx where
  prog := X.prog
  w := X.w
  K := X.K
  mg := X.mg
  base := X.base
  A := A.deeper (lmEnv X scope s.heap.objs.size f cc)
  N := X.N ++ ps
  s_0 := s
  H_0 := H
  env := lmEnv X scope s.heap.objs.size f cc
  outer := outer
  stack := lmEnv X scope s.heap.objs.size f cc :: outer
  ex := []
  fn := fun _ => false
  calm := true
  pn := []
  xe := fun e s' => wpAny (model X.prog X.w) (A.deeper (lmEnv X scope s.heap.objs.size f cc)) (leaving (lmEnv X scope s.heap.objs.size f cc) e) (fun _ s'' => L2.CX X.prog X.w outer H s E e s'') (fun e' s'' => L2.CX X.prog X.w outer H s E e' s'') s'
/-- the maker's cells are what they were -/
def CellsOn (X : Cx) (h h' : Heap) (H' : Hp) : Prop := ∀ x c, X.env.cells.lookup x = some c → (∀ v, h.IsCell c v → h'.IsCell c v) ∧ H' c = none
theorem CellsOn.un {X : Cx} {fs : List Addr} {pins : List (Addr × Obj)} {σ : L2.St} {H H' : Hp} {s s' : Shared} (I : Inv X pins σ H s) (u : Un fs [] H H' s.heap s'.heap) : CellsOn X s.heap s'.heap H' := fun x c e => by
  obtain ⟨v, o, ho, hd⟩ := I.cell x c e
  refine ⟨fun v' ⟨o', h1, h2⟩ => ?_, u.free c o ho (I.freeC x c e) (by simp)⟩
  obtain ⟨sl, q⟩ := u.any h1 (I.freeC x c e) (by simp)
  exact ⟨_, q, h2⟩
theorem CellsOn.then {X : Cx} {fs : List Addr} {h h1 h2 : Heap} {H1 H2 : Hp} (a : CellsOn X h h1 H1) (hc : ∀ x c, X.env.cells.lookup x = some c → ∃ v, h.IsCell c v) (u : Un fs [] H1 H2 h1 h2) : CellsOn X h h2 H2 := fun x c e => by
  obtain ⟨k, n⟩ := a x c e
  obtain ⟨v, z⟩ := hc x c e
  obtain ⟨o, ho, hd⟩ := k v z
  refine ⟨fun v' y => ?_, u.free c o ho n (by simp)⟩
  obtain ⟨o', h1, h2⟩ := k v' y
  obtain ⟨sl, q⟩ := u.any h1 n (by simp)
  exact ⟨_, q, h2⟩

section
variable {X : Cx} {pins : List (Addr × Obj)} {σ : L2.St} {H HZ : Hp} {s s1 : Shared}
theorem lm_start {ps : List Str} {A : Around} {outer : List Env} {E : XK} {scope : Scope} {f cc : Addr} {h1 : Heap} {tk : Nat} {vs : List V} {us : List Value} (I : Inv X pins σ H s) (L : LamN X.env.scope scope ps) (e0 : Env0 X.prog X.w X.K X.mg X.base A outer s1 HZ) (hd : A.handled = none)
    (cl : CellsOn X s.heap s1.heap HZ) (hv : vs.length = ps.length) (hb : ∀ (j : Nat) y v, ps[j]? = some y → vs[j]? = some v → ∃ u, RelV v u ∧ (ps.zip us).reverse.lookup y = some u)
    (hns : h1.Ns s1.heap.objs.size fun y => (ps.zip us).reverse.lookup y) (kp : ∀ b o, s1.heap.get? b = some o → h1.get? b = some o) (hX : ∀ p ∈ ps, p ∉ X.N) :
    Inv (lmCx X ps A outer s1 HZ E scope f cc) [] (σ ++ vs.map some) HZ { s1 with heap := h1, toks := tk } := by
  have hfree := L.has I.ok
  -- the lambda's cells are the maker's
  have cm : ∀ {y c}, (cloFrom X.env.cells scope.names []).lookup y = some c → X.env.cells.lookup y = some c := fun {y c} e => by
    rcases cloFrom_mem (PySem.mem_of_lookup e) with hm | ⟨h1, h2⟩
    · cases hm
    · obtain ⟨c1, hc⟩ := hfree _ h1 rfl
      have hc : X.env.cells.lookup y = some c1 := hc
      rw [hc] at h2
      rw [hc, h2]
      rfl
  have there : ∀ {y}, scope.names.lookup y = some .free → ∃ c, (cloFrom X.env.cells scope.names []).lookup y = some c := fun {y} hl =>
    mem_lookup (cloFrom_has (cells := X.env.cells) (acc := []) (PySem.mem_of_lookup hl))
  have ck : ∀ {x c}, X.env.cells.lookup x = some c → ∀ {v}, s.heap.IsCell c v → h1.IsCell c v := fun {x c} e {v} z => by
    obtain ⟨o, ho, hd⟩ := (cl x c e).1 v z
    exact ⟨o, kp _ _ ho, hd⟩
  have none_ex : ∀ b : Addr, b ∉ (lmCx X ps A outer s1 HZ E scope f cc).ex := fun b z => absurd (show b ∈ ([] : List Addr) from z) (by simp)
  have okX : (lmCx X ps A outer s1 HZ E scope f cc).Ok := {
    mod := e0.mod
    kind := L.kind
    glob := rfl
    blt := rfl
    above := Nat.le_refl _
    inj := fun y z c e1 e2 => I.ok.inj y z c (cm e1) (cm e2)
    has := fun y hy => by
      rcases (show scope.names.lookup y = some .cell ∨ scope.names.lookup y = some .free from hy) with q | q
      · exact absurd rfl (L.nocell _ (PySem.mem_of_lookup q))
      · exact there q
    cab := fun y c z _ => absurd (show false = true from z) Bool.false_ne_true
    hd := fun _ => hd
    frames := Around.frames_deeper e0.frames
    stk := .inr ⟨rfl, rfl⟩
    exf := fun b z => absurd z (none_ex b)
    bs := e0.bs
    bsz := e0.bsz
    noex := fun b _ _ => none_ex b
    exfs := fun b z => absurd z (none_ex b)
    funs := e0.funs
    frf := e0.frf }
  have lenN : σ.length = X.N.length := I.len
  refine { ok := okX, os := rfl, bare := e0.bare, base := Un.kept kp, loc := ⟨_, hns, ?_⟩, cell := ?_, free := e0.hok.fresh (Nat.le_refl _), freeC := ?_, pin := ?_, hok := e0.hok.kept kp, len := ?_ }
  · intro i y v e1 e2 e3
    have e1 : (X.N ++ ps)[i]? = some y := e1
    by_cases hi : i < X.N.length
    · rw [List.getElem?_append_left hi] at e1
      rw [List.getElem?_append_left (by omega)] at e2
      have nop : y ∉ ps := fun z => hX y z (List.mem_of_getElem? e1)
      rcases (show Vis scope y from e3) with k | k | k
      · exact absurd (L.loc _ (PySem.mem_of_lookup k) rfl) nop
      · exact absurd rfl (L.nocell _ (PySem.mem_of_lookup k))
      · obtain ⟨m, hn, hl⟩ := I.loc
        have fr := L.free _ (PySem.mem_of_lookup k) rfl
        have vis : Vis X.env.scope y := fr.elim (fun k => .inr (.inl k)) (fun k => .inr (.inr k))
        obtain ⟨u, r, q⟩ := hl i y v e1 e2 vis
        obtain ⟨c2, h2⟩ := there k
        refine ⟨u, r, .inr ⟨.inr k, c2, h2, ?_⟩⟩
        rcases q with ⟨k', _⟩ | ⟨_, c3, e', z⟩
        · have k' : X.env.scope.names.lookup y = some .local := k'
          rcases fr with g | g <;> (rw [show X.env.scope.names.lookup y = _ from g] at k'; cases k')
        · rw [cm h2] at e'
          cases e'
          exact ck (cm h2) z
    · rw [List.getElem?_append_right (by omega)] at e1
      rw [List.getElem?_append_right (by omega), lenN, List.getElem?_map] at e2
      cases ev : vs[i - X.N.length]? with
      | none =>
        rw [ev] at e2
        cases e2
      | some v' =>
        rw [ev] at e2
        cases e2
        obtain ⟨u, r, q⟩ := hb _ y v e1 ev
        exact ⟨u, r, .inl ⟨L.par y (List.mem_of_getElem? e1), q⟩⟩
  · intro y c e
    obtain ⟨v, z⟩ := I.cell y c (cm e)
    exact ⟨v, ck (cm e) z⟩
  · intro y c e
    exact (cl y c (cm e)).2
  · intro p hp
    exact absurd (show p ∈ ([] : List (Addr × Obj)) ++ [] from hp) (by simp)
  · show (σ ++ vs.map some).length = (X.N ++ ps).length
    rw [List.length_append, List.length_append, List.length_map, lenN, hv]

/-- f(us), f a lambda that X's frame made; whoever calls -/
theorem lm_run {ps : List Str} {A : Around} {outer : List Env} {E : XK} {scope : Scope} {params : Arguments} {body : Expr} {f cc : Addr} {k : Nat} {vs : List V} {us : List Value} {Q : VK} (I : Inv X pins σ H s) (L : LamN X.env.scope scope ps) (e0 : Env0 X.prog X.w X.K X.mg X.base A outer s1 HZ)
    (lim : s1.heap.NoLimit) (cl : CellsOn X s.heap s1.heap HZ) (hf : HZ f = some (LamO X params body scope f cc)) (hc : HZ cc = some (LamX.CodeO cc (lamQ X))) (hr : Room (k + 1) A) (hX : ∀ p ∈ ps, p ∉ X.N) (rv : Vals vs us) (hl : vs.length = ps.length)
    (hbind : ∀ (q : Str) (clo : List (Str × Addr)) (pm cv ctv : Value), bindArgs (PySem.W.kla_fn "<lambda>" q params body scope clo pm cv ctv) ⟨us, []⟩ = pure (ps.zip us))
    (hlook : ∀ (j : Nat) y v, ps[j]? = some y → vs[j]? = some v → ∃ u, RelV v u ∧ (ps.zip us).reverse.lookup y = some u)
    (hbody : ∀ s2, Room k (A.deeper (lmEnv X scope s1.heap.objs.size f cc)) → Inv (lmCx X ps A outer s1 HZ E scope f cc) [] (σ ++ vs.map some) HZ s2 →
      wpAny (model X.prog X.w) (A.deeper (lmEnv X scope s1.heap.objs.size f cc)) (eval body (lmEnv X scope s1.heap.objs.size f cc)) (EP (lmCx X ps A outer s1 HZ E scope f cc) [] (σ ++ vs.map some) Q) (lmCx X ps A outer s1 HZ E scope f cc).xe s2) :
    codeAny (model X.prog X.w) A (.call (.ref f) ⟨us, []⟩) (CR (L2.CX X.prog X.w) outer X.prog X.w HZ s1 Q E) s1 := by
  have of : ∃ pm ctv : Value, s1.heap.get? f = some (PySem.W.kla_obj "<lambda>" (lamQ X) params body scope (cloFrom X.env.cells scope.names []) pm cc ctv) := by
    have z : ObjOk X.prog X.w HZ s1.heap f (LamO X params body scope f cc) := e0.hok f _ hf
    exact z.1
  obtain ⟨pm, ctv, ho⟩ := of
  have oc : ∃ (oc : Obj) (ws : Array Value) (t : Tok), s1.heap.get? cc = some oc ∧ oc.data = .fields ws ∧ ws[1]? = some (.str (lamQ X) t) := by
    have z : ObjOk X.prog X.w HZ s1.heap cc (LamX.CodeO cc (lamQ X)) := e0.hok cc _ hc
    exact z.1
  obtain ⟨oc, ws, t, hoc, hdc, hvc⟩ := oc
  apply PySem.W.kla_callFunE hr.depth ho rfl L.co L.gen rfl ⟨cc, oc, ws, t, rfl, hoc, hdc, hvc⟩
  rw [hbind]
  apply wpAny_pure
  apply wpAny_newFunctionEnv (fun y hy => L.nocell y hy) ?_ ?_ L.kind
  · intro y hy
    exact L.par y.1 (List.of_mem_zip hy).1
  · intro h1 hns hsb
    refine ⟨lim.fresh _ hsb, ?_⟩
    have kp : ∀ b o, s1.heap.get? b = some o → h1.get? b = some o := fun b o e => hsb.extBut b o (Nat.ne_of_lt (Heap.lt_size e)) (Heap.get?_push_of_some _ e)
    have J := lm_start (E := E) (f := f) (cc := cc) (tk := s1.toks + (ps.zip us).length) I L e0 hr.hd cl hl hlook hns kp hX
    refine PySem.W.kla_codeExpr (wpAny_mono (hbody _ (hr.deeper _) J) ?_ fun e s' q => q)
    rintro v s' ⟨w', H', J', r, q⟩
    exact ⟨w', H', J'.os, J'.bare, J'.base, J'.hok, r, q⟩
end
end Lx

set_option Elab.async false
set_option linter.all false
set_option maxRecDepth 100000
set_option maxHeartbeats 400000
/-! a lambda handed to a def that calls it first of all -/
namespace Lx
open PySem PySem.Spec PyProof.Rows L2
abbrev gCx (X : Cx) (Ng : List Str) (x : Str) (sg : Scope) (g : Addr) (cdg : Value) (s : Shared) (H : Hp) : Cx := cxOf L2.CX0 X.prog X.w X.K X.mg X.base Ng x sg g cdg X.A X.stack s H L2.E0
/-- the def calls what it got, at the heap at which it was entered; TT: what it makes of the lambda's reading -/
def GivesH (X : Cx) (Ng : List Str) (x : Str) (sg : Scope) (g : Addr) (cdg : Value) (bg : List Stmt) (a : Str) (TT : (XK → Hp → VK → Prop) → Hp → VK → Prop) : Prop :=
  ∀ (f : Addr) (s : Shared) (H : Hp) (Q : VK) (tl : XK → Hp → VK → Prop),
    (∀ (W : WX) (pn : List (Addr × Obj)) (xe : Value → Shared → Prop) (E : XK) (p1 p2 : Pos), Takes ((gCx X Ng x sg g cdg s H).tr pn xe) W → (∀ cls d σ' H', E cls d H' → W cls d σ' H') →
      PE ((gCx X Ng x sg g cdg s H).tr pn xe) (.Call (.Name a p1) [] [] p2) (fun σZ HZ Q => σZ[0]? = some (some (.ref f)) ∧ HZ = H ∧ tl E HZ Q)) →
    TT tl H Q → ∃ t, PSs (gCx X Ng x sg g cdg s H).nox bg t ∧ t { nx := fun _ H' => Q .non H', rt := Q } (L2.start Ng [.ref f]) H
def tLamG (T : List (Addr × Str)) (TT : (XK → Hp → VK → Prop) → Hp → VK → Prop) (t : XK → TE) : TE := fun σ H Q => LamX.Tabs T H ∧ ∀ H1, LamX.ExtN H H1 → LamX.Tabs T H1 → TT (fun E H' Q' => t E σ H' Q') H1 Q
/-- what is asked of the body of a lambda without parameters -/
def BodyOk (X : Cx) (k : Nat) (scope : Scope) (body : Expr) (t : XK → TE) : Prop :=
  ∀ (pins : List (Addr × Obj)) (σ : L2.St) (H0 : Hp) (s0 : Shared) (A : Around) (outer : List Env) (s1 : Shared) (H1 : Hp) (E : XK) (f cc : Addr), Inv X pins σ H0 s0 → CellsOn X s0.heap s1.heap H1 → A.guards = X.A.guards → Room k (A.deeper (lmEnv X scope s1.heap.objs.size f cc)) →
    ∀ (s2 : Shared) (Q : VK), Inv (lmCx X [] A outer s1 H1 E scope f cc) [] σ H1 s2 → t E σ H1 Q →
      wpAny (model X.prog X.w) (A.deeper (lmEnv X scope s1.heap.objs.size f cc)) (eval body (lmEnv X scope s1.heap.objs.size f cc)) (EP (lmCx X [] A outer s1 H1 E scope f cc) [] σ Q) (lmCx X [] A outer s1 H1 E scope f cc).xe s2
theorem BodyOk.of {X : Cx} {k : Nat} {scope : Scope} {body : Expr} {t : XK → TE} (h : ∀ (A : Around) (outer : List Env) (s1 : Shared) (H1 : Hp) (E : XK) (f cc : Addr), Room k (A.deeper (lmEnv X scope s1.heap.objs.size f cc)) → PE (lmCx X [] A outer s1 H1 E scope f cc) body (t E)) : BodyOk X k scope body t :=
  fun pins σ H0 s0 A outer s1 H1 E f cc I cl hg hr s2 Q J ht => (h A outer s1 H1 E f cc hr).run [] s2 σ H1 Q J ht
section
variable {X : Cx}
theorem pe_lamG {T : List (Addr × Str)} {TT : (XK → Hp → VK → Prop) → Hp → VK → Prop} {x a : Str} {g c P : Addr} {k : Nat} {st : Stmt} {fd : FuncData} {Ng : List Str} {params : Arguments} {body : Expr} {scope : Scope} {t : XK → TE} {p lpos pos : Pos}
    (hg : Gl X x) (hm : X.mg x = some (.ref g)) (F : Fun X.K x x st g fd) (hb : L2.Binds X.K fd [a] []) (Sg : FnScope Ng [a] (defScope st)) (hNg : Ng[0]? = some a) (hva : Vis (defScope st) a)
    (hG : ∀ cdg, GivesH X Ng x (defScope st) g cdg (defBody st) a TT) (TB : LamX.TabB X.base X.mg c P) (hcode : X.env.code = .ref c) (hmT : (P, lamQ X) ∈ T) (hu : ∀ p ∈ T, p.1 = P → p.2 = lamQ X) (hr : Room (k + 2) X.A) (L : LamN X.env.scope scope [])
    (hdef : defaultsOf params X.env = ([], [])) (hbind : ∀ (q : Str) (cl : List (Str × Addr)) (pm cv ctv : Value), bindArgs (PySem.W.kla_fn "<lambda>" q params body scope cl pm cv ctv) ⟨[], []⟩ = pure [])
    (hbody : BodyOk X k scope body t) (hdb : (x == ("__debug__" : Str)) = false := by decide) (hd : (a == ("__debug__" : Str)) = false := by decide) (hcd : (a == ("__classdict__" : Str)) = false := by decide) :
    PE X (.Call (.Name x p) [.Lambda params body scope lpos] [] pos) (tLamG T TT t) := by
  obtain ⟨oc, od, kV, doc, pm, an, cdv, ct, osl, rfl, lk, hcg⟩ := F.ex
  constructor
  rintro pins s σ H Q I ⟨hT, h⟩
  apply wpAny_Call_Name_kw (ld_glob I hg hm ?_ hdb)
  apply PySem.W.callWith_K (h₀ := X.base) I.ok.mod.kin F.kp ?_ (by rfl) (by rfl)
  show wpAny _ _ (spliced ((false, eval (.Lambda params body scope lpos) X.env) :: backTo pos (starEach [] X.env))) _ _ s
  apply Calls.spliced_cons (lam_new L I TB hcode hmT hu hT hdef ?_)
  intro f cc H1 s1 I1 e1 T1 nf hf hc
  apply Calls.spliced_nil
  refine ⟨I1.kIn, ?_⟩
  refine callee_end (CX := L2.CX0) (E := L2.E0) (kw := []) I1 pass0 ?_
  refine LamX.run_ofS (N := Ng) (ps := [a]) (us := [.ref f]) (vs := [.ref f]) lk hcg Sg hr I1.env0 (hb s1 [.ref f] I1.kIn rfl) (.cons rfl .nil) rfl ?_
  intro hr'
  have call : ∀ (W : WX) (pn : List (Addr × Obj)) (xe : Value → Shared → Prop) (E : XK) (p1 p2 : Pos), Takes ((gCx X Ng x (defScope st) g cdv s1 H1).tr pn xe) W → (∀ cls d σ' H', E cls d H' → W cls d σ' H') →
      PE ((gCx X Ng x (defScope st) g cdv s1 H1).tr pn xe) (.Call (.Name a p1) [] [] p2) (fun σZ HZ Q => σZ[0]? = some (some (.ref f)) ∧ HZ = H1 ∧ t E σ HZ Q) := by
    intro W pn xe E p1 p2 tk hW
    constructor
    rintro pinsZ sZ σZ HZ QZ IZ ⟨h0, rfl, ht⟩
    apply wpAny_Call_Name_kw
    refine thn ((pe_var (pos := p1) (i := 0) hNg hva hd hcd).run pinsZ sZ σZ HZ (fun v H' => v = .ref f ∧ H' = HZ) IZ ⟨.ref f, h0, rfl, rfl⟩) ?_
    rintro u s2 ⟨v, H2, I2, ru, rfl, rfl⟩
    obtain rfl : u = Value.ref f := ru
    have of : ∃ pm ctv : Value, s2.heap.get? f = some (PySem.W.kla_obj "<lambda>" (lamQ X) params body scope (cloFrom X.env.cells scope.names []) pm cc ctv) := by
      have z : ObjOk X.prog X.w H2 s2.heap f (LamO X params body scope f cc) := I2.hok f _ hf
      exact z.1
    obtain ⟨pm', ctv', of⟩ := of
    refine PySem.W.callWith_F0 ⟨_, _, _, _, of⟩ ?_
    have un : Un (frs X.stack) [] H2 H2 s1.heap s2.heap := I2.base
    have cl : CellsOn X s1.heap s2.heap H2 := CellsOn.un I1 un
    refine callee_end (CX := L2.CX X.prog X.w) (E := E) (kw := []) I2 (passes_call tk hW) ?_
    refine lm_run (X := X) (pins := pins) (σ := σ) (H := H2) (s := s1) (HZ := H2) (s1 := s2) (ps := []) (vs := []) (us := []) (E := E) (Q := QZ) (k := k) (scope := scope) (params := params) (body := body) (f := f) (cc := cc) I1 L I2.env0 I2.nolimit cl hf hc hr' (fun p hp => nomatch hp) .nil rfl (fun q clo pm cv ctv => hbind q clo pm cv ctv) (fun j y v h => by simp at h) ?_
    intro s3 hr3 J
    have eσ : σ ++ ([] : List V).map some = σ := by simp
    rw [eσ] at J ⊢
    exact hbody pins σ H2 s1 (X.A.deeper (envOfC x (defScope st) s1.heap.objs.size g cdv)) _ s2 H2 E f cc I1 cl rfl hr3 s3 QZ J ht
  obtain ⟨t', ht', hq⟩ := hG cdv f s1 H1 Q (fun E H' Q' => t E σ H' Q') call (h H1 e1 T1)
  exact ⟨t', ht'.nox, hq⟩
end
end Lx

set_option Elab.async false
set_option linter.all false
set_option maxRecDepth 100000
set_option maxHeartbeats 1000000
/-! a def that makes lambdas; what stays but the tables -/
namespace Lx
open PySem PySem.Spec PyProof.Rows L2
/-- okG for a def whose code object stands at c -/
theorem okT {P : Program} {w : World} {K : PySem.W.Frag} {mg : Str → Option Value} {base : Heap} {x qual : Str} {st : Stmt} {f c : Addr} {fd : FuncData} {N ps : List Str} {k : Nat} {sp : Sp} (F : Fun K x qual st f fd) (hcode : fd.code = .ref c) (S : FnScope N ps (defScope st)) (len : ∀ vs H Q E, sp vs H Q E → vs.length = ps.length)
    (body : ∀ (A : Around) (outer : List Env) (s : Shared) (H : Hp) (vs : List V) (Q : VK) (E : XK), Room k (A.deeper (envOfC qual (defScope st) s.heap.objs.size f (.ref c))) → A.guards = some [] → sp vs H Q E →
      ∃ t, PSs (cxOf L2.CX0 P w K mg base N qual (defScope st) f (.ref c) A outer s H E).nox (defBody st) t ∧ t { nx := fun _ H' => Q .non H', rt := Q } (start N vs) H) : FnOkG P w K mg base L2.CX0 (k + 1) f fd ps sp := by
  obtain ⟨oc, od, kV, doc, pm, an, cdv, ct, osl, rfl, lk, hcd⟩ := F.ex
  obtain rfl : cdv = .ref c := hcode
  constructor
  · exact len
  · intro A outer s H args us vs Q E hr hg e0 hb r h
    apply LamX.run_ofS lk hcd S hr e0 hb r (len vs H Q E h)
    intro hr'
    obtain ⟨t, ht, hq⟩ := body A outer s H vs Q E hr' hg h
    exact ⟨t, ht.nox, hq⟩
/-- all but the box at b and the tables stay -/
def Ext (b : Addr) (H H' : Hp) : Prop := ∀ a o, H a = some o → a ≠ b → (∀ ps, o ≠ .tbl ps) → H' a = some o
theorem Ext.refl {b : Addr} (H : Hp) : Ext b H H := fun _ _ h _ _ => h
theorem Ext.trans {b : Addr} {H H1 H2 : Hp} (x : Ext b H H1) (y : Ext b H1 H2) : Ext b H H2 := fun a o h n t => y a o (x a o h n t) n t
theorem Ext.of {b : Addr} {H H' : Hp} (e : Same H H') : Ext b H H' := fun a o h _ _ => e a o h
theorem Ext.ofN {b : Addr} {H H' : Hp} (e : LamX.ExtN H H') : Ext b H H' := fun a o h _ t => e a o h t
theorem Ext.seq {K : PySem.W.Frag} {b a : Addr} {H H' : Hp} {xs : List V} (e : Ext b H H') (n : a ≠ b) (h : SqL K H a xs) : SqL K H' a xs := by
  rcases h with (h | ⟨o, h⟩) | h
  · exact .inl (.inl (e _ _ h n fun _ z => by cases z))
  · exact .inl (.inr ⟨o, e _ _ h n fun _ z => by cases z⟩)
  · exact .inr h
theorem Ext.tup {K : PySem.W.Frag} {b a : Addr} {H H' : Hp} {xs ys : List V} (e : Ext b H H') (hb : H b = some (.lst ys)) (h : SqT K H a xs) : SqT K H' a xs := by
  have ne : ∀ {o : HO}, H a = some o → o ≠ .lst ys → a ≠ b := fun {o} h1 h2 z => by
    rw [z, hb] at h1
    exact h2 (Option.some.inj h1).symm
  rcases h with (h | ⟨o, h⟩) | h
  · exact .inl (.inl (e _ _ h (ne h fun z => by cases z) fun _ z => by cases z))
  · exact .inl (.inr ⟨o, e _ _ h (ne h fun z => by cases z) fun _ z => by cases z⟩)
  · exact .inr h
theorem tabs_but {T : List (Addr × Str)} {b : Addr} {H H' : Hp} {ys : List V} (hb : H b = some (.lst ys)) (e : ∀ a o, H a = some o → a ≠ b → H' a = some o) (h : LamX.Tabs T H) : LamX.Tabs T H' := fun p hp => by
  obtain ⟨ps, h1, h2, h3⟩ := h p hp
  have ne : ∀ {a : Addr} {o : HO}, H a = some o → o ≠ .lst ys → a ≠ b := fun {a o} h1 h2 z => by
    rw [z, hb] at h1
    exact h2 (Option.some.inj h1).symm
  refine ⟨ps, e _ _ h1 (ne h1 fun z => by cases z), h2, fun pos cv hc => ?_⟩
  obtain ⟨c, e1, e2⟩ := h3 pos cv hc
  exact ⟨c, e1, e _ _ e2 (ne e2 fun z => by unfold LamX.CodeO at z; cases z)⟩
end Lx

set_option Elab.async false
set_option linter.all false
set_option maxRecDepth 100000
set_option maxHeartbeats 1000000
/-! a lambda that a lambda calls -/
namespace Lx
open PySem PySem.Spec PyProof.Rows L2
theorem PE.mono {X : Cx} {e : Expr} {t t' : TE} (h : PE X e t) (m : ∀ σ H Q, t' σ H Q → t σ H Q) : PE X e t' := ⟨fun pins s σ H Q I q => h.run pins s σ H Q I (m σ H Q q)⟩
/-- at f a lambda of one value that X's frame made and that does what sp says -/
def WorkAt (X : Cx) (k : Nat) (f : Addr) (H : Hp) (x : Str) (sp : XK → TE) : Prop := ∃ (params : Arguments) (body : Expr) (scope : Scope) (cc : Addr), H f = some (LamO X params body scope f cc) ∧ H cc = some (LamX.CodeO cc (lamQ X)) ∧ LamN X.env.scope scope [x] ∧
  (∀ (u : Value) (q : Str) (clo : List (Str × Addr)) (pm cv ctv : Value), bindArgs (PySem.W.kla_fn "<lambda>" q params body scope clo pm cv ctv) ⟨[u], []⟩ = pure [(x, u)]) ∧
  ∀ (A : Around) (outer : List Env) (s1 : Shared) (H1 : Hp) (E : XK) (f cc : Addr), Room k (A.deeper (lmEnv X scope s1.heap.objs.size f cc)) → PE (lmCx X [x] A outer s1 H1 E scope f cc) body (sp E)
theorem BodyOk.work {X : Cx} {k i : Nat} {scope : Scope} {wn x : Str} {arg : Expr} {ta : TE} {p pos : Pos} {sp : XK → TE} (hX : x ∉ X.N) (hN : (X.N ++ [])[i]? = some wn) (hv : Vis scope wn)
    (harg : ∀ (A : Around) (outer : List Env) (s1 : Shared) (H1 : Hp) (E : XK) (f cc : Addr), PE (lmCx X [] A outer s1 H1 E scope f cc) arg ta)
    (hm : ∀ σ H Q Q', (∀ v H, Q v H → Q' v H) → ta σ H Q → ta σ H Q') (he : ∀ env : Env, starEach [arg] env = (false, eval arg env) :: starEach [] env) (hd : (wn == ("__debug__" : Str)) = false := by decide) (hcd : (wn == ("__classdict__" : Str)) = false := by decide) :
    BodyOk X (k + 1) scope (.Call (.Name wn p) [arg] [] pos) (fun E σ H Q => ∃ f1, σ[i]? = some (some (.ref f1)) ∧ WorkAt X k f1 H x sp ∧ ta σ H fun v H2 => (∀ a o, H a = some o → H2 a = some o) ∧ sp E (σ ++ [some v]) H2 Q) := by
  intro pins σ H0 s0 A outer s1 H1 E f cc I cl hg hr s2 Q J ht
  obtain ⟨f1, h1, wk, ht⟩ := ht
  have fnat : ∀ {H : Hp} {s : Shared} {σ : L2.St}, Inv (lmCx X [] A outer s1 H1 E scope f cc) [] σ H s → WorkAt X k f1 H x sp → PySem.W.FnAt f1 s.heap := fun {H s σ} Iz ⟨params, body, sc, c1, hf, _⟩ => by
    have z : ObjOk X.prog X.w H s.heap f1 (LamO X params body sc f1 c1) := Iz.hok f1 _ hf
    obtain ⟨pm, ctv, of⟩ := z.1
    exact ⟨_, _, _, _, of⟩
  apply wpAny_Call_Name_kw
  refine thn ((pe_var (X := lmCx X [] A outer s1 H1 E scope f cc) (pos := p) (i := i) hN hv hd hcd).run [] s2 σ H1 (fun v H' => v = .ref f1 ∧ H' = H1) J ⟨.ref f1, h1, rfl, rfl⟩) ?_
  rintro u s3 ⟨v, H2, I2, ru, rfl, rfl⟩
  obtain rfl : u = Value.ref f1 := ru
  have pa : PA (lmCx X [] A outer s1 H2 E scope f cc) [arg] (tCons ta tNil) := pa_cons (harg A outer s1 H2 E f cc) pa_nil (he _)
  refine PySem.W.callWith_F (fnat I2 wk) (thn (pa.run pos [] s3 σ H2 (fun xs H3 => ∃ v, xs = [v] ∧ (∀ a o, H2 a = some o → H3 a = some o) ∧ sp E (σ ++ [some v]) H3 Q) I2 ?_) ?_) (he _) (by rfl)
  · exact hm σ H2 _ _ (fun v H3 q => ⟨v, rfl, q.1, q.2⟩) ht
  · rintro us s4 ⟨vs, H3, I3, rv, v, rfl, kp, q⟩
    obtain ⟨params, body, sc, c1, hf, hc, L, hb, hbody⟩ := wk
    refine ⟨fnat I3 ⟨params, body, sc, c1, kp _ _ hf, kp _ _ hc, L, hb, hbody⟩, ?_⟩
    obtain ⟨u, rfl, rx⟩ := vals1 rv
    have cl3 : CellsOn X s0.heap s4.heap H3 := cl.then (fun y c e => I.cell y c e) (show Un (lmCx X [] A outer s1 H2 E scope f cc).fs [] H2 H3 s1.heap s4.heap from I3.base)
    have tk : Takes (lmCx X [] A outer s1 H2 E scope f cc) (fun cls d _ H => E cls d H) := takes_of rfl rfl rfl rfl
    refine callee_end (CX := L2.CX X.prog X.w) (E := E) (kw := []) I3 (passes_call tk fun _ _ _ _ z => z) ?_
    refine lm_run (X := X) (pins := pins) (σ := σ) (H := H0) (s := s0) (HZ := H3) (s1 := s4) (ps := [x]) (vs := [v]) (us := [u]) (E := E) (Q := Q) (k := k) (scope := sc) (params := params) (body := body) (f := f1) (cc := c1) I L I3.env0 I3.nolimit cl3 (kp _ _ hf) (kp _ _ hc) hr (fun p hp => by
      obtain rfl : p = x := by simpa using hp
      exact hX) (.cons rx .nil) rfl (fun q clo pm cv ctv => hb u q clo pm cv ctv) (fun j y z e1 e2 => ?_) ?_
    · cases j with
      | succ j => simp at e1
      | zero =>
        simp at e1 e2
        subst e1 e2
        exact ⟨u, rx, by simp⟩
    · intro s5 hr5 J5
      exact (hbody _ _ _ _ _ _ _ hr5).run [] s5 _ H3 Q J5 q
end Lx

set_option Elab.async false
set_option linter.all false
set_option maxRecDepth 100000
set_option maxHeartbeats 1000000
/-! the end: a law whose promise asks that no guard stands around -/
namespace Lx
open PySem PySem.Spec PyProof.Rows L2
/-- what is told apart at the call: the tables, and the script where the frag does not hold it -/
def seed (K : PySem.W.Frag) (T : List Addr) (a : Addr) (vs : List Value) (ns : List Int) : Hp := fun b =>
  if b ∈ T then some (.tbl #[]) else if b = a ∧ K.lookup a = none then some (.frz { cls := .type "list", data := .seq vs.toArray } (.lst (ns.map V.int))) else none
section
variable {P : Program} {w : World} {K : PySem.W.Frag} {T : List Addr} {a : Addr} {vs : List Value} {ns : List Int} {h : Heap}
theorem seed_tab {b : Addr} (hb : b ∈ T) : seed K T a vs ns b = some (.tbl #[]) := by
  unfold seed
  rw [if_pos hb]
theorem seed_or (b : Addr) : seed K T a vs ns b = none ∨ (b ∈ T ∧ seed K T a vs ns b = some (.tbl #[])) ∨
    (b = a ∧ K.lookup a = none ∧ seed K T a vs ns b = some (.frz { cls := .type "list", data := .seq vs.toArray } (.lst (ns.map V.int)))) := by
  by_cases h1 : b ∈ T
  · exact .inr (.inl ⟨h1, seed_tab h1⟩)
  · by_cases h2 : b = a ∧ K.lookup a = none
    · refine .inr (.inr ⟨h2.1, h2.2, ?_⟩)
      unfold seed
      rw [if_neg h1, if_pos h2]
    · left
      unfold seed
      rw [if_neg h1, if_neg h2]
/-- an object that is no list and no empty table is not told apart -/
theorem seed_none {b : Addr} {o : Obj} (hT : ∀ p ∈ T, h.get? p = some { cls := .none, data := .fields #[] }) (ha : h.get? a = some { cls := .type "list", data := .seq vs.toArray }) (e : h.get? b = some o)
    (n1 : ∀ us n, o.data ≠ .seq us n) (n2 : o.data ≠ .fields #[]) : seed K T a vs ns b = none := by
  rcases seed_or (K := K) (T := T) (a := a) (vs := vs) (ns := ns) b with q | ⟨q, _⟩ | ⟨rfl, _⟩
  · exact q
  · rw [hT b q] at e
    cases e
    exact absurd rfl n2
  · rw [ha] at e
    cases e
    exact absurd rfl (n1 _ _)
theorem seed_script (hl : (ns.map V.int).length ≤ sizeLine) (rv : Vals (ns.map V.int) vs) (KX : K.In h) (aT : a ∉ T) (ha : h.get? a = some { cls := .type "list", data := .seq vs.toArray }) : SqL K (seed K T a vs ns) a (ns.map V.int) := by
  cases q : K.lookup a with
  | none =>
    refine .inl (.inr ⟨{ cls := .type "list", data := .seq vs.toArray }, ?_⟩)
    unfold seed
    rw [if_neg aT, if_pos ⟨rfl, q⟩]
  | some o =>
    have e := (KX a o q).symm.trans ha
    cases e
    exact .inr ⟨_, vs.toArray, _, q, rfl, rfl, rfl, by rw [List.size_toArray, ← rv.length]; exact hl, by simpa using rv⟩
theorem seed_ok (hl : (ns.map V.int).length ≤ sizeLine) (rv : Vals (ns.map V.int) vs) (hT : ∀ p ∈ T, h.get? p = some { cls := .none, data := .fields #[] }) (ha : h.get? a = some { cls := .type "list", data := .seq vs.toArray }) : HOk P w (seed K T a vs ns) h := by
  intro b u e
  rcases seed_or (K := K) (T := T) (a := a) (vs := vs) (ns := ns) b with q | ⟨m, q⟩ | ⟨rfl, _, q⟩
  · rw [q] at e
    cases e
  · rw [q] at e
    cases e
    exact hT b m
  · rw [q] at e
    cases e
    exact ⟨ha, hl, vs, _, rv, ha⟩
end
/-- the facts of the head's heap that the end asks for -/
structure Ground1 (K : PySem.W.Frag) (mg mb : Str → Option Value) (cs : List (Addr × Addr)) (st : Shared) : Prop where
  kin : K.In st.heap
  glob : st.heap.Ns mainGlobals mg
  blt : st.heap.Ns builtinsNs mb
  boot : ∀ x : Str, x ≠ "__name__" → mb x = bootBuiltins x
  lim : st.heap.NoLimit
  gens : st.gens = #[]
  tabs : ∀ p ∈ cs, st.heap.get? p.2 = some { cls := .none, data := .fields #[] }
  apart : ∀ p ∈ cs, K.lookup p.2 = none
  codes : ∀ p ∈ cs, PySem.W.CodeHd st.heap p.1 p.2
  main : ∃ (bm : Addr) (ob : Obj), mg "__builtins__" = some (.ref bm) ∧ bm ≠ builtinsNs ∧ st.heap.get? bm = some ob ∧ ob.cls = .type "module" ∧ ob.dict = some builtinsNs ∧ ob.data = .plain
theorem end_run {P : Program} {w : World} {K : PySem.W.Frag} {mg mb : Str → Option Value} {k : Nat} {fa a : Addr} {cs : List (Addr × Addr)} {fd : FuncData} {x : Str} {sp : Sp} {st : Shared} {vs : List Value} {ns : List Int} (G : Ground1 K mg mb cs st)
    (ha : st.heap.get? a = some { cls := .type "list", data := .seq vs.toArray }) (hi : IntsAre vs ns) (hl : ns.length ≤ sizeLine) (hr : Room k callerA)
    (F : ∀ base : Heap, K.In base → (∀ p ∈ cs, LamX.TabB base mg p.1 p.2) → FnOkG P w K mg base L2.CX0 k fa fd [x] sp) (bind : ∀ (s : Shared) (u : Value), BindsTo s fd ⟨[u], []⟩ [(x, u)])
    (hsp : ∀ H : Hp, (∀ p ∈ cs, H p.2 = some (.tbl #[])) → SqL K H a (ns.map V.int) → sp [.ref a] H (fun v _ => v = .bl true) fun _ _ _ => False) :
    codeAny (model P w) callerA (.call (.ref fa) ⟨[.ref a], []⟩) (fun r s' => r = .ok (.ret (.bool true)) ∧ OldK st.heap s'.heap ∧ s'.os = st.os ∧ AllBare s'.gens) st := by
  have rv := vals_ints hi
  have hl' : (ns.map V.int).length ≤ sizeLine := by rw [List.length_map]; exact hl
  have inT : ∀ {p}, p ∈ cs → p.2 ∈ cs.map (·.2) := fun hp => List.mem_map.mpr ⟨_, hp, rfl⟩
  have tabs : ∀ b ∈ cs.map (·.2), st.heap.get? b = some { cls := .none, data := .fields #[] } := fun b hb => by
    obtain ⟨p, hp, rfl⟩ := List.mem_map.mp hb
    exact G.tabs p hp
  have aT : a ∉ cs.map (·.2) := fun q => by
    have e := (tabs a q).symm.trans ha
    cases e
  have none_of : ∀ {b o}, st.heap.get? b = some o → (∀ us n, o.data ≠ .seq us n) → o.data ≠ .fields #[] → seed K (cs.map (·.2)) a vs ns b = none := fun e n1 n2 => seed_none tabs ha e n1 n2
  have nsOn : ∀ {b : Addr} {m : Str → Option Value}, st.heap.Ns b m → (hidT st.heap (seed K (cs.map (·.2)) a vs ns)).Ns b m := fun ⟨o, es, ep, e, d, r⟩ =>
    ⟨o, es, ep, hidT_get e (none_of e (fun us n q => by rw [d] at q; cases q) fun q => by rw [d] at q; cases q), d, r⟩
  have kin : K.In (hidT st.heap (seed K (cs.map (·.2)) a vs ns)) := fun b o e => by
    refine hidT_get (G.kin b o e) ?_
    rcases seed_or (K := K) (T := cs.map (·.2)) (a := a) (vs := vs) (ns := ns) b with q | ⟨m, _⟩ | ⟨rfl, q, _⟩
    · exact q
    · obtain ⟨p, hp, rfl⟩ := List.mem_map.mp m
      rw [G.apart p hp] at e
      cases e
    · rw [q] at e
      cases e
  have tb : ∀ p ∈ cs, LamX.TabB (hidT st.heap (seed K (cs.map (·.2)) a vs ns)) mg p.1 p.2 := fun p hp => by
    constructor
    · obtain ⟨o, us, f1, f2, f3, f4, f5, f6, f7, g1, g2, g3, g4⟩ := G.codes p hp
      refine ⟨o, us, f1, f2, f3, f4, f5, f6, f7, hidT_get g1 (none_of g1 (fun z n q => by rw [g3] at q; cases q) fun q => ?_), g2, g3, g4⟩
      rw [g3] at q
      cases q
      have := g4.1
      simp at this
    · obtain ⟨bm, ob, m1, m2, m3, m4, m5, m6⟩ := G.main
      refine ⟨bm, ob, m1, m2, fun q => ?_, fun q => ?_, hidT_get m3 (none_of m3 (fun z n q => by rw [m6] at q; cases q) fun q => by rw [m6] at q; cases q), m4, m5, m6⟩
      · obtain ⟨o, es, ep, e, d, _⟩ := G.glob
        subst q
        rw [m3] at e
        cases e
        rw [m6] at d
        cases d
      · subst q
        rw [G.tabs p hp] at m3
        cases m3
        cases m6
    · intro q
      obtain ⟨o, es, ep, e, d, _⟩ := G.glob
      rw [q, G.tabs p hp] at e
      cases e
      cases d
  have limit : (hidT st.heap (seed K (cs.map (·.2)) a vs ns)).NoLimit := by
    obtain ⟨mc, q1, q2⟩ := G.lim
    exact ⟨mc, nsOn q1, q2⟩
  have env : Env0 P w K mg (hidT st.heap (seed K (cs.map (·.2)) a vs ns)) callerA [] st (seed K (cs.map (·.2)) a vs ns) := {
    frames := rfl
    mod := ⟨kin, nsOn G.glob, ⟨mb, nsOn G.blt, G.boot⟩, limit⟩
    bs := fun b o e => of_hidT e
    bsz := Nat.le_of_eq (hidT_size _ _)
    funs := trivial
    frf := fun b hb => absurd (show b ∈ ([] : List Addr) from hb) (by simp)
    hok := seed_ok hl' rv tabs ha
    bare := .of_eq G.gens }
  have go := (F _ kin tb).run callerA [] st _ ⟨[.ref a], []⟩ [.ref a] [.ref a] _ _ hr rfl env (bind st (.ref a)) (.cons rfl .nil) (hsp _ (fun p hp => seed_tab (inT hp)) (seed_script hl' rv G.kin aT ha))
  refine codeAny_mono go fun r s' z => ?_
  match r, z with
  | .ok (.ret u), z =>
    obtain ⟨v, H', z1, z2, un, ok', ru, rfl⟩ := z
    obtain rfl : u = Value.bool true := ru
    have grew : ∀ p ∈ cs, ∃ more : Array Value, s'.heap.get? p.2 = some { cls := .none, data := .fields more } := fun p hp => by
      obtain ⟨more, q⟩ := un.tbls p.2 #[] (seed_tab (inT hp))
      exact ⟨_, ok' p.2 _ q⟩
    have stays : ∀ b o, b ∉ cs.map (·.2) → st.heap.get? b = some o → s'.heap.get? b = some o := fun b o nb e => by
      rcases seed_or (K := K) (T := cs.map (·.2)) (a := a) (vs := vs) (ns := ns) b with q | ⟨m, _⟩ | ⟨rfl, _, q⟩
      · exact un.keep b o e q (fun m => absurd (show b ∈ ([] : List Addr) from m) (by simp)) (by simp)
      · exact absurd m nb
      · have e2 := (ok' b _ (un.frzs b _ _ q)).1
        rw [ha] at e
        cases e
        exact e2
    refine ⟨rfl, ⟨fun b o e => ?_, fun b o e => ?_⟩, z1, z2⟩
    · by_cases m : b ∈ cs.map (·.2)
      · obtain ⟨p, hp, rfl⟩ := List.mem_map.mp m
        obtain ⟨more, q⟩ := grew p hp
        have t := G.tabs p hp
        rw [t] at e
        cases e
        exact .inr (.inl ⟨((G.codes p hp).tab t).isCodeTable, rfl, #[], more, rfl, by rw [Array.empty_append]; exact q⟩)
      · exact .inl (stays b o m e)
    · by_cases m : b ∈ cs.map (·.2)
      · obtain ⟨p, hp, rfl⟩ := List.mem_map.mp m
        obtain ⟨more, q⟩ := grew p hp
        exact ⟨_, q⟩
      · exact ⟨o, stays b o m e⟩
end Lx
namespace Lx
open PySem PySem.Spec PyProof.Rows L2
/-- what is known of the law's promise at the head's heap h -/
def LawG (l : PySem.W.OpenLaw) (w : World) (K : PySem.W.Frag) (k n : Nat) (x : Str) (mg : Str → Option Value) (fa : Addr) (h : Heap) : Prop :=
  ∃ (fd : FuncData) (cs : List (Addr × Addr)) (sp : Sp), (∀ p ∈ cs, h.get? p.2 = some { cls := .none, data := .fields #[] } ∧ K.lookup p.2 = none ∧ PySem.W.CodeHd h p.1 p.2) ∧ (∀ (s : Shared) (u : Value), BindsTo s fd ⟨[u], []⟩ [(x, u)]) ∧
    (∀ (H : Hp) (a : Addr) (ns : List Int), ns.length ≤ n → (∀ p ∈ cs, H p.2 = some (.tbl #[])) → SqL K H a (ns.map V.int) → sp [.ref a] H (fun v _ => v = .bl true) fun _ _ _ => False) ∧
    ∀ base : Heap, K.In base → (∀ p ∈ cs, LamX.TabB base mg p.1 p.2) → FnOkG l.prog w K mg base L2.CX0 k fa fd [x] sp
theorem end_walk {l : PySem.W.OpenLaw} {n k : Nat} {q : Program} {loose : List Str} {XP : (Str → Option Value) → Heap → Prop} {YP : World → Heap → Prop} {d : DefRec} {K : Params → PySem.W.Frag} {x : Str} (hn : l.most = some n) (hn2 : n ≤ sizeLine) (hdf : d.params.defaults = []) (hr : Room k callerA)
    (hY : ∀ (w : World) (h : Heap), YP w h → (K w.params).In h) (F : ∀ (w : World) (mg : Str → Option Value) (fa : Addr) (h : Heap), YP w h → (K w.params).In h → h.Ns mainGlobals mg → mg d.name = some (.ref fa) → LawG l w (K w.params) k n x mg fa h) :
    PySem.W.WalkO q loose XP YP l.row.toRowW d [] (fun f vs => PySem.call f vs) := by
  refine Att.attach_callB hn hdf ?_
  intro w s0 st mg mb fa o pm cd doc a vs ns G Y ho hd hcd hmg hobj hints hlen hbits hg
  have kin := hY w _ Y
  obtain ⟨fd, cs, sp, ht, hb, hs, hF⟩ := F w mg fa _ Y kin G.T.g hmg
  exact end_run ⟨kin, G.T.g, G.T.b, G.T.builtins, G.T.nolimit, hg, fun p hp => (ht p hp).1, fun p hp => (ht p hp).2.1, fun p hp => (ht p hp).2.2, G.T.bmain⟩ hobj hints (Nat.le_trans hlen hn2) hr hF hb fun H hH hS => hs H a ns hlen hH hS
end Lx

set_option Elab.async false
set_option linter.all false
set_option maxRecDepth 100000
set_option maxHeartbeats 4000000
/-! own errors straight over KeyError, whose __init__ stores one field -/
namespace Lx
open PySem PySem.Spec PyProof.Rows L2
abbrev keTail : List Value := [.type "KeyError", .type "LookupError", .type "Exception", .type "BaseException", .type "object"]
abbrev keNew : String := "LookupError.__new__"
abbrev keObj (nm q : Str) (C N : Addr) (bs : List Value) (sn : List Str) (sub : List Value) (ab : Bool) (col : Option Bool) (dd : Option Addr) (k0 k1 k2 k3 k5 : Option Value) : Obj := excClassObj nm q C N bs keTail true sn sub ab col dd k0 k1 k2 k3 k5 keNew
theorem ke_pass (self : Value) (C : Addr) : refuseLoop self "__setattr__" (.ref C :: keTail) = pure () := by
  rw [refuseLoop_ref]
  kernel_rfl
section
variable {M : Model} {A : Around} {E : Value → Shared → Prop} {h : Heap} {g : Array GenState} {d : Drawn} {t : Nat} {os : OsState}
variable {nm q : Str} {C N : Addr} {bs : List Value} {sn : List Str} {sub : List Value} {ab : Bool} {col : Option Bool} {dd : Option Addr} {k0 k1 k2 k3 k5 : Option Value}
theorem ke_in (C : Addr) : (Value.ref C :: keTail).contains (.type "LookupError") = true := by
  rw [List.contains_cons, show keTail.contains (.type "LookupError") = true by decide +kernel, Bool.or_true]
theorem ke_noA (C : Addr) : (Value.ref C :: keTail).contains (.type "AttributeError") = false := by
  rw [List.contains_cons, show keTail.contains (.type "AttributeError") = false by decide +kernel]
  rfl
theorem ke_noN (C : Addr) : (Value.ref C :: keTail).contains (.type "NameError") = false := by
  rw [List.contains_cons, show keTail.contains (.type "NameError") = false by decide +kernel]
  rfl
theorem ke_check {us : List Value} {Q : Unit → Shared → Prop} (gC : h.get? C = some (keObj nm q C N bs sn sub ab col dd k0 k1 k2 k3 k5)) (hq : Q () ⟨h, g, d, t, os⟩) : wpAny M A (checkBuiltinCall keNew ⟨.ref C :: us, []⟩) Q E ⟨h, g, d, t, os⟩ := by
  have F := PySem.F.excBase_LookupError
  have c1 := ke_in C
  have c2 := F.noStar
  simp only [checkBuiltinCall, F.newKind, F.newSplit, F.newRow]
  repeat (first | refine wpAny_loadPart_at gC ?_ | (refine wpAny_isSubtype_exc gC ?_; rw [c1]) | refine wpAny_staticBase_exc gC ?_ | refine wpAny_madeBy_exc gC ?_ | simp only [bne_self_eq_false, Bool.false_eq_true, if_false] | wp_step)
  exact hq
end
section
variable {prog : Program} {w : World} {A : Around} {E : Value → Shared → Prop} {R : Result → Shared → Prop} {h : Heap} {g : Array GenState} {d : Drawn} {t : Nat} {os : OsState}
variable {nm q : Str} {C N fI : Addr} {bs us : List Value} {sn : List Str} {sub : List Value} {ab : Bool} {col : Option Bool} {dd : Option Addr} {k0 k1 k2 k3 k5 : Option Value}
theorem ke_new (gC : h.get? C = some (keObj nm q C N bs sn sub ab col dd k0 k1 k2 k3 k5)) (hl : us.length ≤ sizeLine)
    (hq : R (.ok (.ret (.ref (h.objs.size + 1)))) ⟨(h.push (PySem.W.kdv_tup us)).push (PySem.HandSPX.excO C h.objs.size), g, d, t, os⟩) : codeAny (model prog w) A (.builtin keNew ⟨.ref C :: us, []⟩) R ⟨h, g, d, t, os⟩ := by
  have F := PySem.F.excBase_LookupError
  have c0 := F.ends
  have c1 := ke_in C
  have c2 := ke_noA C
  have c3 := ke_noN C
  refine codeAny_builtinAt F.entry ?_
  unfold Builtin.«BaseException.__new__»
  refine PySem.wpAt_bind ?_
  show PySem.wpAt _ _ _ (stack >>= _) _ _ _
  refine PySem.wpAt_bind (PySem.wpAt_stack fun p below => PySem.wpAt_of_wpAny ?_)
  wp_walk
  refine PySem.wpAt_of_wpAny ?_
  rw [F.owner]
  repeat (first | with_reducible refine wpAny_madeHere_exc F.canon gC ?_ | with_reducible refine wpAny_loadPart_at gC ?_ | (with_reducible refine wpAny_isSubtype_exc gC ?_; first | rw [c1] | rw [c2] | rw [c3]) | wp_step)
  show R _ _
  rw [Heap.size_push]
  exact hq
theorem ke_make (gC : h.get? C = some (keObj nm q C N bs sn sub ab col dd k0 k1 k2 k3 k5)) (li : PySem.W.Looks (model prog w) h (typeLookup (.ref C) "__init__") (some (.ref fI))) (lb : ∀ self, PySem.W.Looks (model prog w) h (bindSpecial (.ref fI) self) (.ref fI, [self])) (hl : us.length ≤ sizeLine)
    (hq : codeAny (model prog w) (A.under (.builtin "type.__call__" ⟨.ref C :: us, []⟩)) (.call (.ref fI) ⟨.ref (h.objs.size + 1) :: us, []⟩) (PySem.W.InitBack (h.objs.size + 1) R) ⟨(h.push (PySem.W.kdv_tup us)).push (PySem.HandSPX.excO C h.objs.size), g, d, t, os⟩) :
    codeAny (model prog w) A (.call (.ref C) ⟨us, []⟩) R ⟨h, g, d, t, os⟩ := by
  have F := PySem.F.excBase_LookupError
  have f1 := tc_lookup
  have f2 := tc_bind (.ref C)
  have ty : (⟨h, g, d, t, os⟩ : Shared).TypeIs (.ref C) "type" := ⟨_, gC, rfl⟩
  have inner : ∀ {Q : Fin → Shared → Prop} {E : Value → Shared → Prop} {A : Around}, codeAny (model prog w) A (.call (.ref fI) ⟨.ref (h.objs.size + 1) :: us, []⟩) (fun r s' => match r with | .ok (.ret v) => v = .none ∧ Q (.done (.ret (.ref (h.objs.size + 1)))) s' | .ok _ => False | .error e => E e s') ⟨(h.push (PySem.W.kdv_tup us)).push (PySem.HandSPX.excO C h.objs.size), g, d, t, os⟩ →
      wpAny (model prog w) A (Builtin.«type.__call__» ⟨.ref C :: us, []⟩) Q E ⟨h, g, d, t, os⟩ := by
    intro Q E A hq
    repeat (first | with_reducible refine wpAny_loadPart_at gC ?_ | with_reducible refine wpAny_madeBy_exc gC ?_ | wp_step)
    refine codeAny_call_builtin_code (Code.quiet_builtin _ F.quiet) (ke_check gC ?_)
    refine ke_new gC hl ?_
    show wpAny _ _ _ _ _ _
    have kp : ∀ b o, h.get? b = some o → ((h.push (PySem.W.kdv_tup us)).push (PySem.HandSPX.excO C h.objs.size)).get? b = some o := fun b o e => Heap.get?_push_of_some _ (Heap.get?_push_of_some _ e)
    have gC1 := kp _ _ gC
    have ge : ((h.push (PySem.W.kdv_tup us)).push (PySem.HandSPX.excO C h.objs.size)).get? (h.objs.size + 1) = some (PySem.HandSPX.excO C h.objs.size) := by heap_get
    have cC : (Value.ref C :: keTail).contains (.ref C) = true := by simp
    have i1 := li.keeps kp
    have b1 := (lb (.ref (h.objs.size + 1))).keeps kp
    unfold isInstance
    repeat (first | with_reducible refine wpAny_loadPart_at ge ?_ | (with_reducible refine wpAny_isSubtype_exc gC1 ?_; rw [cC]) | wp_step)
    show wpAny _ _ (typeLookup (.ref C) _) _ _ _
    refine i1.at ?_
    refine wpAny_holding (wpAny_bind (b1.at ?_))
    refine wpAny_bind (wpAny_call (codeAny_mono hq fun r s' z => ?_))
    rcases r with e | (v | _ | _ | _) <;> first | exact z | exact z.elim | skip
    obtain ⟨rfl, z⟩ := z
    first
      | exact wpAny_pure (wpAny_pure z)
      | (wp_walk; exact z)
  refine codeAny_of_tree ?_
  show wpAny _ _ (callAny (.ref C) _) _ _ _
  repeat (any_goals (first | assumption | with_reducible refine wpAny_loadPart_at gC ?_ | wp_step))
  refine ⟨rfl, ?_⟩
  refine codeAny_call_builtin_at (Code.quiet_builtin _ (by decide +kernel)) entry_typeCall (wpAny_check_type_call_sub gC (inner ?_))
  refine codeAny_mono hq fun r s' z => ?_
  rcases r with e | (v | _ | _ | _) <;> exact z
end
end Lx

set_option Elab.async false
set_option linter.all false
set_option maxRecDepth 100000
set_option maxHeartbeats 4000000
/-! their fields stored; made; raised -/
namespace PySem.W
open PySem PySem.Spec PySem.Calls PyProof.Rows L2 Builtin Builtin.ObjectAttr
theorem ke_osa {prog : Program} {w : World} {A : Around} {R : Result → Shared → Prop} {hp : Heap} {g : Array GenState} {d : Drawn} {t : Nat} {os : OsState} {K : Frag} {name : Str} {tk : Tok} {v : Value} {x C : Addr} {fv : Array Value} {cd : ClassData}
    (X : K.In hp) (gx : hp.get? x = some { cls := .ref C, data := .fields fv }) (gcd : clsIn K C = some cd) (hm : cd.mro = .ref C :: Lx.keTail) (hh : cd.hasDict = true) (no : findIn K (.ref C) name = some none)
    (hq : ∀ h' tk' dx, (∀ b o, b ≠ x → hp.get? b = some o → h'.get? b = some o) → hp.objs.size ≤ dx → dx ≠ x → h'.get? x = some { cls := .ref C, dict := some dx, data := .fields fv } →
      h'.Ns1 dx (fun y => if y = name then some v else none) → R (.ok (.ret .none)) ⟨h', g, d, tk', os⟩) :
    codeAny (model prog w) A (.call (.builtin "object.__setattr__") ⟨[.ref x, .str name tk, v], []⟩) R ⟨hp, g, d, t, os⟩ := by
  have I : InstAt hp x { cls := .ref C, data := .fields fv } C none := ⟨gx, rfl, rfl, trivial⟩
  have SF := PySem.F.store_object
  have nx : x ≠ hp.objs.size := Nat.ne_of_lt (Heap.lt_size gx)
  have ne : cd.mro.isEmpty = false := by rw [hm]; rfl
  have ob : cd.mro.contains (.type "object") = true := by
    rw [hm, List.contains_cons, show Lx.keTail.contains (.type "object") = true by decide +kernel, Bool.or_true]
  have sub : Looks (model prog w) hp (isInstance (.ref x) (.type "object")) true := I.type.andThen (looks_mroIn X (by unfold mroIn; rw [gcd, Option.bind_some, if_neg (by rw [ne]; decide), ob]))
  refine codeAny_call_builtin SF.slot.plain SF.entry (@check_slot (model prog w) _ _ ⟨hp, g, d, t, os⟩ "object.__setattr__" "object" "__setattr__" (.ref x) [.str name tk, v] [] _ SF.kind SF.split sub (SF.args (.ref x) (.str name tk) v) ?_)
  have l1 : Looks (model prog w) hp (mroOf (.ref C)) cd.mro := (looks_clsIn X gcd).andThen .now
  have l2 : Looks (model prog w) hp (storeTaker? none) none := .now
  have l3 : Looks (model prog w) hp (classData C) cd := looks_clsIn X gcd
  rw [osa_eq, refuse_eq]
  refine wpAny_bind (wpAny_bind (I.type.at (wpAny_bind (l1.at ?_))))
  rw [hm, Lx.ke_pass]
  refine wpAny_pure (wpAny_bind (I.type.at (wpAny_bind ((looks_findIn X no).at (wpAny_bind (l2.at ?_))))))
  show wpAny _ _ (storeInOwnDict (.ref x) (.ref C) (.str name tk) name v false) _ _ _
  obtain ⟨nm, bs, mro, ns, qn, hd, sn, sb, ab, col, del⟩ := cd
  dsimp only at hh
  subst hh
  unfold storeInOwnDict ownDictForStores
  repeat (first | with_reducible refine PySem.HandSPX.store_in_new ?_ ?_ | with_reducible refine wpAny_loadPart_at gx ?_ | with_reducible refine l3.at ?_ | wp_step)
  · exact ⟨_, #[], _, (Heap.get?_update_ne _ _ _ _ nx.symm).trans (Heap.get?_push_at rfl rfl), rfl, fun e he => absurd he (by simp), fun _ => rfl⟩
  · intro h' tk' hn' hs
    have gx1 : (hp.push { cls := .type "dict", data := .dict #[] }).get? x = some { cls := .ref C, data := .fields fv } := Heap.get?_push_of_some _ gx
    refine hq h' tk' hp.objs.size (fun b o hb ho => ?_) (Nat.le_refl _) nx.symm ?_ hn'
    · exact (hs.2 b (Nat.ne_of_lt (Heap.lt_size ho))).trans ((Heap.get?_update_ne _ _ _ _ hb).trans (Heap.get?_push_of_some _ ho))
    · exact (hs.2 x nx).trans (Heap.get?_update_self _ gx1 rfl)
end PySem.W
namespace Lx
open PySem PySem.Spec PyProof.Rows L2
/-- what the written part says of a class straight over KeyError -/
structure KexC (K : PySem.W.Frag) (C : Addr) : Prop where
  cls : ∃ nm q N bs sn sub ab col dd k0 k1 k2 k3 k5, K.lookup C = some (keObj nm q C N bs sn sub ab col dd k0 k1 k2 k3 k5)
  sa : PySem.W.findIn K (.ref C) "__setattr__" = some (some (.builtin "object.__setattr__"))
  exC : PySem.W.subIn K (.ref C) (.type "BaseException") = some true
  tyC : PySem.W.typeIn K (.ref C) = some (.type "type")
  kC : PySem.W.keepIn K (.ref C) = true
section
variable {X : Cx} {pins : List (Addr × Obj)} {σ : L2.St} {H : Hp} {s : Shared} {a C : Addr} {f : Str} {y : V} {u : Value} {Q : Unit → Shared → Prop} {E : Value → Shared → Prop} {A : Around}
theorem kst_new (T : KexC X.K C) (I : Inv X pins σ H s) (e : H a = some (exo a C none)) (no : PySem.W.findIn X.K (.ref C) f = some none) (ry : RelV y u)
    (h : ∀ dx s', H dx = none → dx ≠ a → Inv X pins σ (upd (upd H dx (exd dx [(f, y)])) a (exo a C (some dx))) s' → Q () s') : wpAny (model X.prog X.w) A (setAttr (.ref a) f u) Q E s := by
  obtain ⟨nm, q, N, bs, sn, sub, ab, col, dd, k0, k1, k2, k3, k5, gC⟩ := T.cls
  have gcl : PySem.W.clsIn X.K C = some { name := nm, bases := bs, mro := .ref C :: keTail, ns := N, qualname := q, hasDict := true, slotNames := sn, subclasses := sub, abstract := ab, collection := col, hasDel := false } := by
    unfold PySem.W.clsIn
    rw [gC] <;> rfl
  obtain ⟨t1, ho⟩ := exo_at I.hok e
  obtain ⟨hp, g, d, t, os⟩ := s
  refine PySem.W.set_plain I.kIn (ox := { cls := .ref C, dict := none, data := .fields #[.ref t1, .none, .none, .none, .bool false, .none] }) (od := none) ⟨ho, rfl, rfl, trivial⟩ T.sa ?_
  refine PySem.W.ke_osa I.kIn ho gcl rfl rfl no (fun h' tk' dx k dn dne hx hn => ?_)
  have nd0 : H dx = none := I.hok.fresh dn
  have nd : ∀ {b : Addr} {o : Obj}, hp.get? b = some o → b ≠ dx := fun {b o} q => Nat.ne_of_lt (Nat.lt_of_lt_of_le (Heap.lt_size q) dn)
  have na : ∀ {b : Addr}, H b = none → b ≠ a := fun {b} n z => by
    rw [z, e] at n
    cases n
  have two : ∀ {b : Addr} {o : HO}, H b = some o → b ≠ a → upd (upd H dx (exd dx [(f, y)])) a (exo a C (some dx)) b = some o := fun {b o} q n => by
    rw [upd_ne n, upd_ne (ne_of_none q nd0)]
    exact q
  have Un1 : Un X.fs [] H (upd (upd H dx (exd dx [(f, y)])) a (exo a C (some dx))) hp h' := {
    keep := fun b o q n _ _ => k b o (na n) q
    slot := fun b o q n _ _ => ⟨o.slots, k b o (na n) q⟩
    free := fun b o q n _ => by
      rw [upd_ne (na n), upd_ne (nd q)]
      exact n
    there := fun b o q _ => by
      by_cases hb : b = a
      · exact ⟨_, hb ▸ hx⟩
      · exact ⟨o, k b o hb q⟩
    tups := fun b xs q => two q (at_ne e q exo_tup)
    frzs := fun b o v q => two q (at_ne e q exo_frz)
    tbls := fun b ps q => ⟨#[], by simp [two q (at_ne e q exo_tbl)]⟩ }
  refine h dx _ nd0 dne (I.un (t' := tk') Un1 fun b o q => ?_)
  by_cases hb : b = a
  · subst hb
    rw [upd_same] at q
    cases q
    exact exo_ok hx
  · by_cases hd : b = dx
    · subst hd
      rw [upd_ne hb, upd_same] at q
      cases q
      exact exd_ok hn (relO_put (fs := []) ry fun g => True.intro)
    · rw [upd_ne hb, upd_ne hd] at q
      refine (I.hok b o q).stay (fun c v hc z => k c v ?_ z) (fun c hc => two hc (at_ne e hc exo_own)) (fun c xs hc => two hc (at_ne e hc exo_tup))
      rcases hc with rfl | hc
      · exact hb
      · exact at_ne e hc exo_own
end
/-- self.f = e, the first field -/
def tKst (K : PySem.W.Frag) (f : Str) (to te : TE) : TS := fun D σ H => te σ H fun y H1 => to σ H1 fun x H2 => ∃ a C : Addr, x = .ref a ∧ KexC K C ∧ PySem.W.findIn K (.ref C) f = some none ∧
  H2 a = some (exo a C none) ∧ ∀ dx, H2 dx = none → dx ≠ a → D.nx σ (upd (upd H2 dx (exd dx [(f, y)])) a (exo a C (some dx)))
theorem ps_kst {X : Cx} {o e : Expr} {to te : TE} {f : Str} {p' pos : Pos} (ho : PE X o to) (he : PE X e te) (hs : swapsWith e (some (.Attribute o f p')) pos.line X.env = pure false := by rfl) : PS X (.Assign [.Attribute o f p'] e pos) (tKst X.K f to te) := by
  constructor
  intro pins s σ H D I h
  refine plainObj_wpAny_Assign_Attribute (thn (he.run pins s σ H _ I h) fun v s1 ⟨y, H1, I1, r1, q1⟩ => thn (ho.run pins s1 σ H1 _ I1 q1) fun u s2 ⟨x, H2, I2, r2, a, C, ex, T, no, ea, q⟩ => ?_) hs
  subst ex
  obtain rfl : u = Value.ref a := r2
  exact kst_new T I2 ea no r1 fun dx s' n ne J => ⟨σ, _, J, q dx n ne⟩
/-- C(e, ..), C's own __init__ keeping sp -/
theorem pmk_kex {X : Cx} {CX : CXT} {x : Str} {C fI : Addr} {k : Nat} {fd : FuncData} {ps : List Str} {sp : Sp} {e : Expr} {es : List Expr} {ta : TA} {p pos : Pos} (T : KexC X.K C) (iC : PySem.W.findIn X.K (.ref C) "__init__" = some (some (.ref fI))) (tI : PySem.W.typeIn X.K (.ref fI) = some (.type "function"))
    (F1 : FnOk X.prog X.w X.K X.mg X.base CX k fI fd ps sp) (hr : Room (k + 1) X.A) (hb : Binds X.K fd ps []) (hx : Passes CX X (fun _ _ _ => False)) (hg : Gl X x) (hm : X.mg x = some (.ref C)) (ha : PA X (e :: es) ta)
    (hdb : (x == ("__debug__" : Str)) = false := by decide) (he : starEach (e :: es) X.env = (false, eval e X.env) :: starEach es X.env := by rfl) (hpl : (backTo pos (starEach es X.env)).any (·.1) = false := by rfl) :
    PMk X (.Call (.Name x p) (e :: es) [] pos) (tMkO C sp [] ta) := by
  intro pins s σ H Q I h
  obtain ⟨nm, q, N, bs, sn, sub, ab, col, dd, k0, k1, k2, k3, k5, gC⟩ := T.cls
  refine wpAny_Call_Name_kw (ld_glob I hg hm ?_ hdb)
  refine PySem.W.callWith_K (h₀ := X.base) I.ok.mod.kin T.kC (thn (ha.run pos pins s σ H _ I h) fun us s1 ⟨vs, H1, I1, r1, hz, q1⟩ => ⟨I1.kIn, ?_⟩) he hpl
  show wpAny _ _ (call (.ref C) us) _ _ _
  obtain ⟨hp, g, dr, tk, os⟩ := s1
  have sz : hp.objs.size ≤ hp.objs.size + 1 := Nat.le_succ _
  have q2 := q1 (hp.objs.size + 1) (I1.hok.fresh sz)
  have kk : ∀ b o, hp.get? b = some o → ((hp.push (PySem.W.kdv_tup us)).push (PySem.HandSPX.excO C hp.objs.size)).get? b = some o := fun b o e => Heap.get?_push_of_some _ (Heap.get?_push_of_some _ e)
  have ge : ((hp.push (PySem.W.kdv_tup us)).push (PySem.HandSPX.excO C hp.objs.size)).get? (hp.objs.size + 1) = some (PySem.HandSPX.excO C hp.objs.size) := by heap_get
  have I2 : Inv X pins σ (upd H1 (hp.objs.size + 1) (exo (hp.objs.size + 1) C none)) ⟨(hp.push (PySem.W.kdv_tup us)).push (PySem.HandSPX.excO C hp.objs.size), g, dr, tk, os⟩ :=
    I1.laid (t' := tk) (a := hp.objs.size + 1) (o := exo (hp.objs.size + 1) C none) (h' := (hp.push (PySem.W.kdv_tup us)).push (PySem.HandSPX.excO C hp.objs.size)) kk sz (exo_ok ge)
  rw [List.append_nil] at q2
  have r2 : Vals (V.ref (hp.objs.size + 1) :: vs) (Value.ref (hp.objs.size + 1) :: us) := .cons rfl r1
  have hl : (Value.ref (hp.objs.size + 1) :: us).length = ps.length := by
    have e := r2.length
    rw [F1.len _ _ _ _ q2] at e
    exact e.symm
  have hus : us.length ≤ sizeLine := by
    rw [← Paired.length r1, sizeLine_eq]
    omega
  refine wpAny_call (ke_make (I1.kIn _ _ gC) (PySem.W.looks_findIn I1.kIn iC) (fun self => PySem.W.bind_fn I1.kIn self tI) hus
    (codeAny_mono (F1.run _ X.stack _ _ ⟨Value.ref (hp.objs.size + 1) :: us, []⟩ (Value.ref (hp.objs.size + 1) :: us) _ _ (fun _ _ _ => False) (hr.make C us []) (I2.env0.make C us []) (by simpa using hb _ (Value.ref (hp.objs.size + 1) :: us) I2.kIn (by simpa using hl)) r2 q2) fun r s' z => ?_))
  rcases r with er | (_ | _ | _ | u)
  · exact hx pins σ _ _ er s' I2 z
  · exact False.elim z
  · exact False.elim z
  · exact False.elim z
  · obtain ⟨v, H2, os2, bare2, un2, hok2, rv, ev, d, fs, ea, ed, hd1, q3⟩ := z
    subst ev
    obtain ⟨h2, g2, d2, t2, os'⟩ := s'
    exact ⟨rv, mk_end (raises_own T.exC T.tyC) I1 sz kk un2 hok2 os2 bare2 ea ed hd1 q3⟩
/-- the class x over KeyError, at C -/
structure ErrQ (P : Program) (w : World) (K : PySem.W.Frag) (mg : Str → Option Value) (base : Heap) (x fld : Str) (C : Addr) : Prop where
  T : KexC K C
  xf : XfC K C
  ec : ExcC K C
  no : PySem.W.findIn K (.ref C) fld = some none
  gC : mg x = some (.ref C)
  ini : ∃ fI fd k ps, PySem.W.findIn K (.ref C) "__init__" = some (some (.ref fI)) ∧ PySem.W.typeIn K (.ref fI) = some (.type "function") ∧ k ≤ 1 ∧ FnOk P w K mg base L2.CX0 k fI fd ps (errSp C fld) ∧ Binds K fd ps []
theorem ps_raiseQ {X : Cx} {C : Addr} {x fld : Str} {e : Expr} {te : TE} {W : WX} {p pos pos2 : Pos} (hc : X.calm = true) (Er : ErrQ X.prog X.w X.K X.mg X.base x fld C) (hr : Room 2 X.A) (tk : Takes X W) (he : PE X e te) (hg : Gl X x := by rfl)
    (hdb : (x == ("__debug__" : Str)) = false := by decide) (h1 : starEach [e] X.env = (false, eval e X.env) :: starEach [] X.env := by rfl) (h2 : (backTo pos (starEach [] X.env)).any (·.1) = false := by rfl) :
    PS X (.Raise (some (.Call (.Name x p) [e] [] pos)) none pos2) (tErr C fld W te) := by
  obtain ⟨fI, fd, k, ps, i1, i2, hk, F1, hb⟩ := Er.ini
  exact ps_raise (pos := pos2) hc tk (pmk_kex (p := p) Er.T i1 i2 F1 (hr.mono (by omega)) hb pass0 hg Er.gC (pa_cons he pa_nil h1) hdb h1 h2)
theorem ok_keInit {P : Program} {w : World} {K : PySem.W.Frag} {mg : Str → Option Value} {base : Heap} {qual fld : Str} {C f : Addr} {fd : FuncData} {st : Stmt} {p1 p2 p3 p4 : Pos} (T : KexC K C) (no : PySem.W.findIn K (.ref C) fld = some none)
    (F : Fun K "__init__" qual st f fd) (S : FnScope ["self", fld] ["self", fld] (defScope st)) (hB : defBody st = [.Assign [.Attribute (.Name "self" p1) fld p2] (.Name fld p3) p4]) (hd : (fld == ("__debug__" : Str)) = false) (hcd : (fld == ("__classdict__" : Str)) = false)
    (v1 : Vis (defScope st) "self") (v2 : Vis (defScope st) fld) (hsw : ∀ X : Cx, swapsWith (.Name fld p3) (some (.Attribute (.Name "self" p1) fld p2)) p4.line X.env = pure false) : FnOk P w K mg base L2.CX0 1 f fd ["self", fld] (errSp C fld) := by
  apply F.ok S
  · rintro vs H Q E ⟨a, v, rfl, _⟩
    rfl
  · rintro cdv A outer s H vs Q E hr ⟨a, v, rfl, ha, h⟩
    rw [hB]
    refine ⟨_, pss_one (ps_kst (pe_var (i := 0) rfl v1) (pe_var (i := 1) rfl v2 hd hcd) (hsw _)), ?_⟩
    exact ⟨v, rfl, .ref a, rfl, a, C, rfl, T, no, ha, h⟩
end Lx

set_option Elab.async false
set_option linter.all false
set_option maxRecDepth 100000
set_option maxHeartbeats 4000000
/-! functions handed on: made in one frame, called from another; defs with defaults; a display of one pair -/
namespace Lx
open PySem PySem.Spec PyProof.Rows L2 NdefX

theorem cells_later {cl : List (Str × Addr)} {fr : List Str} {ws : List (Option V)} {fs : List Addr} {h h' : Heap} {H H' : Hp} (C : CellsAt cl fr ws h H) (u : Un fs [] H H' h h') : CellsAt cl fr ws h' H' := by
  have cell : ∀ {c v}, H c = none → h.IsCell c v → h'.IsCell c v := fun {c v} n ⟨o, ho, hd⟩ => by
    obtain ⟨sl, q⟩ := u.any ho n (by simp)
    exact ⟨_, q, hd⟩
  refine ⟨C.len, fun y c e => ?_, C.inj, fun i y e => ?_⟩
  · obtain ⟨n, v, z⟩ := C.all y c e
    obtain ⟨o, ho, _⟩ := id z
    exact ⟨u.free c o ho n (by simp), v, cell n z⟩
  · obtain ⟨c, hc, hv⟩ := C.has i y e
    refine ⟨c, hc, fun v ev => ?_⟩
    obtain ⟨r, h1, h2⟩ := hv v ev
    exact ⟨r, h1, cell (C.all y c hc).1 h2⟩
/-- the function at f may be called at any heap that comes of (s0, H0) -/
structure Clo (P : Program) (w : World) (K : PySem.W.Frag) (mg : Str → Option Value) (base : Heap) (CX : CXT) (k : Nat) (f : Addr) (s0 : Shared) (H0 : Hp) (sp : Sp) : Prop where
  run : ∀ (A : Around) (outer : List Env) (s : Shared) (H : Hp) (us : List Value) (vs : List V) (Q : VK) (E : XK) (fs : List Addr), Room k A → Env0 P w K mg base A outer s H → Un fs [] H0 H s0.heap s.heap → Same H0 H → Vals vs us → sp vs H Q E →
    codeAny (model P w) A (.call (.ref f) ⟨us, []⟩) (CR CX outer P w H s Q E) s
  fn : ∀ (s : Shared) (H : Hp), HOk P w H s.heap → Same H0 H → PySem.W.FnAt f s.heap
section
variable {P : Program} {w : World} {K : PySem.W.Frag} {mg : Str → Option Value} {base : Heap} {CX : CXT}
theorem clo_nested {k : Nat} {f : Addr} {F : NF} {ps fr : List Str} {sp : List (Option V) → Sp} {ws : List (Option V)} {s0 : Shared} {H0 : Hp} (N : NOk P w K mg base CX k f F ps fr sp) (hf : H0 f = some (FnO f F)) (hc : H0 F.c = some (LamX.CodeO F.c F.qual)) (C : CellsAt F.cl fr ws s0.heap H0) :
    Clo P w K mg base CX k f s0 H0 (sp ws) := by
  constructor
  · intro A outer s H us vs Q E fs hr e0 u sm rv h
    exact N.run A outer s H us vs ws Q E hr e0 (sm _ _ hf) (sm _ _ hc) (cells_later C u) rv h
  · intro s H ok sm
    obtain ⟨od, sl, doc, pm, ctv, ho⟩ := fnO_at ok (sm _ _ hf)
    exact ⟨_, od, _, sl, ho⟩
theorem Clo.imp {k : Nat} {f : Addr} {s0 : Shared} {H0 : Hp} {sp sp' : Sp} (c : Clo P w K mg base CX k f s0 H0 sp) (h : ∀ vs H Q E, Same H0 H → sp' vs H Q E → sp vs H Q E) : Clo P w K mg base CX k f s0 H0 sp' :=
  ⟨fun A outer s H us vs Q E fs hr e0 u sm rv q => c.run A outer s H us vs Q E fs hr e0 u sm rv (h _ _ _ _ sm q), c.fn⟩
/-- a def whose promise speaks of the state at which it is called -/
structure FnOkS (P : Program) (w : World) (K : PySem.W.Frag) (mg : Str → Option Value) (base : Heap) (CX : CXT) (k : Nat) (f : Addr) (fd : FuncData) (ps : List Str) (sp : Shared → Sp) : Prop where
  len : ∀ s vs H Q E, sp s vs H Q E → vs.length = ps.length
  run : ∀ (A : Around) (outer : List Env) (s : Shared) (H : Hp) (args : Args) (us : List Value) (vs : List V) (Q : VK) (E : XK), Room k A → Env0 P w K mg base A outer s H → BindsTo s fd args (ps.zip us) → Vals vs us → sp s vs H Q E →
    codeAny (model P w) A (.call (.ref f) args) (CR CX outer P w H s Q E) s
theorem okS {x qual : Str} {params : Arguments} {body : List Stmt} {scope : Scope} {dvs : List V} {kws : List (Str × V)} {f : Addr} {fd : FuncData} {N ps : List Str} {k : Nat} {sp : Shared → Sp} (F : FunD K x qual params body scope dvs kws f fd) (S : FnScope N ps scope) (len : ∀ s vs H Q E, sp s vs H Q E → vs.length = ps.length)
    (hbody : ∀ (cdv : Value) (A : Around) (outer : List Env) (s : Shared) (H : Hp) (vs : List V) (Q : VK) (E : XK), Room k (A.deeper (envOfC qual scope s.heap.objs.size f cdv)) → sp s vs H Q E →
      ∃ t, PSs (cxOf L2.CX0 P w K mg base N qual scope f cdv A outer s H E).nox body t ∧ t { nx := fun _ H' => Q .non H', rt := Q } (start N vs) H) : FnOkS P w K mg base L2.CX0 (k + 1) f fd ps sp := by
  obtain ⟨oc, od, dV, kV, doc, pm, an, cdv, ct, osl, rfl, lk, hcd, _, _⟩ := F.ex
  constructor
  · exact len
  · intro A outer s H args us vs Q E hr e0 hb r h
    apply LamX.run_ofS lk hcd S hr e0 hb r (len s vs H Q E h)
    intro hr'
    obtain ⟨t, ht, hq⟩ := hbody cdv A outer s H vs Q E hr' h
    exact ⟨t, ht.nox, hq⟩
end
/-- the def x with defaults dvs, the last ones of which a call may leave out -/
structure HasS (P : Program) (w : World) (K : PySem.W.Frag) (mg : Str → Option Value) (base : Heap) (CX : CXT) (k : Nat) (x : Str) (ps : List Str) (dvs : List V) (sp : Shared → Sp) : Prop where
  ex : ∃ f fd ds, mg x = some (.ref f) ∧ PySem.W.keepIn K (.ref f) = true ∧ Vals dvs ds ∧ Binds K fd ps ds ∧ FnOkS P w K mg base CX k f fd ps sp
structure HasD (P : Program) (w : World) (K : PySem.W.Frag) (mg : Str → Option Value) (base : Heap) (CX : CXT) (k : Nat) (x : Str) (ps : List Str) (dvs : List V) (sp : Sp) : Prop where
  ex : ∃ f fd ds, mg x = some (.ref f) ∧ PySem.W.keepIn K (.ref f) = true ∧ Vals dvs ds ∧ Binds K fd ps ds ∧ FnOk P w K mg base CX k f fd ps sp
def tCallS (X : Cx) (sp : Shared → Sp) (dvs : List V) (E : XK) (t : TA) : TE := fun σ H Q => t σ H fun vs H1 => ∀ pins s, Inv X pins σ H1 s → sp s (vs ++ dvs) H1 Q E
section
variable {X : Cx} {k : Nat} {x : Str} {ps : List Str} {dvs : List V} {e : Expr} {es : List Expr} {p pos : Pos} {t : TA}
theorem pe_hasD {sp : Sp} {CX : CXT} {E : XK} (F : HasD X.prog X.w X.K X.mg X.base CX k x ps dvs sp) (hr : Room k X.A) (hx : Passes CX X E) (hg : Gl X x) (ha : PA X (e :: es) t)
    (hdb : (x == ("__debug__" : Str)) = false := by decide) (he : starEach (e :: es) X.env = (false, eval e X.env) :: starEach es X.env := by rfl) (hpl : (backTo pos (starEach es X.env)).any (·.1) = false := by rfl) :
    PE X (.Call (.Name x p) (e :: es) [] pos) (tCall sp dvs E t) := by
  obtain ⟨f, fd, ds, h1, h2, h3, h4, h5⟩ := F.ex
  exact pe_call h5 hr hg h1 h2 h4 h3 hx ha hdb he hpl
theorem pe_hasS {sp : Shared → Sp} {CX : CXT} {E : XK} (F : HasS X.prog X.w X.K X.mg X.base CX k x ps dvs sp) (hr : Room k X.A) (hx : Passes CX X E) (hg : Gl X x) (ha : PA X (e :: es) t)
    (hdb : (x == ("__debug__" : Str)) = false := by decide) (he : starEach (e :: es) X.env = (false, eval e X.env) :: starEach es X.env := by rfl) (hpl : (backTo pos (starEach es X.env)).any (·.1) = false := by rfl) :
    PE X (.Call (.Name x p) (e :: es) [] pos) (tCallS X sp dvs E t) := by
  obtain ⟨f, fd, ds, h1, h2, h3, h4, h5⟩ := F.ex
  constructor
  intro pins s σ H Q I h
  apply wpAny_Call_Name_kw (ld_glob I hg h1 ?_ hdb)
  refine PySem.W.callWith_K (h₀ := X.base) I.ok.mod.kin h2 (thn (ha.run pos pins s σ H _ I h) fun us s1 ⟨vs, H1, I1, r, q⟩ => ⟨I1.kIn, ?_⟩) he hpl
  have q := q pins s1 I1
  have r2 : Vals (vs ++ dvs) (us ++ ds) := r.append h3
  have hl : (us ++ ds).length = ps.length := by rw [← r2.length]; exact h5.len _ _ _ _ _ q
  exact callee_end (kw := []) I1 hx (h5.run X.A X.stack s1 H1 ⟨us, []⟩ (us ++ ds) (vs ++ dvs) Q E hr I1.env0 (h4 s1 us I1.kIn hl) r2 q)
/-- g(e, ..), g a name of this frame that was handed a function -/
def tClo (X : Cx) (CX : CXT) (k i : Nat) (E : XK) (t : TA) : TE := fun σ H Q => ∃ f sp, σ[i]? = some (some (.ref f)) ∧ Clo X.prog X.w X.K X.mg X.base CX k f X.s_0 X.H_0 sp ∧ Same X.H_0 H ∧ t σ H fun vs H1 => Same X.H_0 H1 ∧ sp vs H1 Q E
theorem pe_clo {CX : CXT} {i j : Nat} {E : XK} (hex : X.ex = []) (hr : Room j X.A) (hk : k ≤ j) (hx : Passes CX X E) (hN : X.N[i]? = some x) (hv : Vis X.env.scope x) (ha : PA X (e :: es) t)
    (hd : (x == ("__debug__" : Str)) = false := by decide) (hcd : (x == ("__classdict__" : Str)) = false := by decide)
    (he : starEach (e :: es) X.env = (false, eval e X.env) :: starEach es X.env := by rfl) (hpl : (backTo pos (starEach es X.env)).any (·.1) = false := by rfl) :
    PE X (.Call (.Name x p) (e :: es) [] pos) (tClo X CX k i E t) := by
  constructor
  rintro pins s σ H Q I ⟨f, sp, hs, C, sm, ht⟩
  apply wpAny_Call_Name_kw
  refine thn ((pe_var (pos := p) hN hv hd hcd).run pins s σ H (fun v H1 => v = .ref f ∧ H1 = H) I ⟨.ref f, hs, rfl, rfl⟩) ?_
  rintro u s1 ⟨v, H1, I1, r1, rfl, rfl⟩
  obtain rfl : u = Value.ref f := r1
  refine PySem.W.callWith_F (first := []) (C.fn s1 _ I1.hok sm) (thn (ha.run pos pins s1 σ _ _ I1 ht) fun us s2 ⟨vs, H2, I2, r, sm2, q⟩ => ⟨C.fn s2 _ I2.hok sm2, ?_⟩) he hpl
  have u2 : Un X.fs [] X.H_0 H2 X.s_0.heap s2.heap := by
    have z := I2.base
    rw [hex] at z
    exact z
  exact callee_end (kw := []) I2 hx (C.run X.A X.stack s2 H2 us vs Q E X.fs (hr.mono hk) I2.env0 u2 sm2 r q)
end

/-! ### {k: v} -/
/-- k a tuple of ints and texts -/
def tDisp1T (tk tv : TE) : TE := fun σ H Q => ∀ p, H p = none → tk σ (upd H p (.dT [])) fun x H1 => tv σ H1 fun y H2 => ∃ kk b, x = .ref b ∧ H2 b = some (.tup (kk.map kV)) ∧ H2 p = some (.dT []) ∧ Q (.ref p) (upd H2 p (.dT [(kk, y)]))
theorem pe_disp1T {X : Cx} {k v : Expr} {tk tv : TE} {pos : Pos} (hu : X.A.units + 1 < cLine) (hk : PE X k tk) (hv : PE X v tv) : PE X (.Dict [some k] [v] pos) (tDisp1T tk tv) := by
  constructor
  intro pins s σ H Q I h
  have nn := I.hok.fresh (Nat.le_refl s.heap.objs.size)
  have I1 := I.laid (a := s.heap.objs.size) (o := .dT []) (h' := s.heap.push { cls := .type "dict", data := .dict #[] }) (t' := s.toks) (fun _ _ q => Heap.get?_push_of_some _ q) (Nat.le_refl _) (dt_empty s.heap I.big)
  rw [arm_eval_Dict, zip_pairTrees [some k] [v] X.env pos rfl rfl, dictDisplay_pairs _ (by simp [pairTrees]) (by simp [pairTrees])]
  refine wpAny_bind (wpAny_standAt (wpAny_bind (wpAny_subDictH (knd := tupleKind (mixKind X.prog X.w)) (s := s) (pairs := pairTrees [some k] [v] X.env pos) (show X.A.units < cLine by omega) (by simp [pairTrees]) ?_)))
  refine pairTrees_cons_walk (thn (hk.run pins _ σ _ _ I1 (h _ nn)) fun u s1 ⟨x, H1, J1, rx, q1⟩ => thn (hv.run pins s1 σ H1 _ J1 q1) fun w2 s2 ⟨y, H2, J2, ry, kk, b, ex, hb, hp, q⟩ => pairTrees_nil_walk ?_)
  subst ex
  cases (show u = Value.ref b from rx)
  obtain ⟨z, hd, xs, rel, dd⟩ := dt_of J2.hok hp
  cases rel
  refine ⟨[(kk, b, w2)], ⟨rfl, rfl, key_of J2.hok hb, trivial⟩, dd, fun h' tk dd' hs => wpAny_pure ⟨.ref s.heap.objs.size, upd H2 s.heap.objs.size (.dT [(kk, y)]), ?_, rfl, q⟩⟩
  obtain ⟨o, es, ep, ho, h2, h3, h4, _, h5⟩ := dd'
  refine d_write J2 (by rw [hp]; exact True.intro) hs ⟨o, ho⟩ ⟨by show 1 ≤ sizeLine; decide, hd, [(kk, b, w2)], .cons ⟨rfl, ?_, ry⟩ .nil, o, es, ep, ho, h2, h3, h4, h5⟩
  rw [upd_ne (ne_of hb hp (fun z => nomatch z))]
  exact hb
end Lx

set_option Elab.async false
set_option linter.all false
/-! walks as plain functions: by thing the first row that leads to it -/
namespace Wk
section
variable {κ : Type} [DecidableEq κ]
abbrev Got (κ : Type) := List (κ × List Int)
def has (W : Got κ) (k : κ) : Bool := W.any fun e => decide (e.1 = k)
def rowOf (W : Got κ) (k : κ) : List Int := ((W.find? fun e => decide (e.1 = k)).map (·.2)).getD []
def put1 (row : List Int) (i : Nat) (o : Option κ) (s : Got κ × List κ) : Got κ × List κ := match o with
  | none => s
  | some t => if has s.1 t then s else (s.1 ++ [(t, row ++ [(i : Int)])], s.2 ++ [t])
def put (row : List Int) : List (Option κ) → Nat → Got κ × List κ → Got κ × List κ
  | [], _, s => s
  | o :: r, i, s => put row r (i + 1) (put1 row i o s)
theorem put_snoc (row : List Int) (o : Option κ) : ∀ (l : List (Option κ)) (i : Nat) (s : Got κ × List κ), put row (l ++ [o]) i s = put1 row (i + l.length) o (put row l i s)
  | [], i, s => rfl
  | p :: l, i, s => by
    show put row (l ++ [o]) (i + 1) (put1 row i p s) = _
    rw [put_snoc row o l (i + 1), List.length_cons, Nat.add_right_comm, Nat.add_assoc]
    rfl
theorem put_take (row : List Int) {l : List (Option κ)} {i : Nat} {o : Option κ} (h : l[i]? = some o) (s : Got κ × List κ) : put row (l.take (i + 1)) 0 s = put1 row i o (put row (l.take i) 0 s) := by
  have lt := (List.getElem?_eq_some_iff.mp h).1
  rw [List.take_add_one, h]
  show put row (l.take i ++ [o]) 0 s = _
  rw [put_snoc, List.length_take, Nat.min_eq_left (Nat.le_of_lt lt), Nat.zero_add]
def layer (nxt : κ → List (Option κ)) (L : List κ) (s : Got κ × List κ) : Got κ × List κ := L.foldl (fun s t => put (rowOf s.1 t) (nxt t) 0 s) s
theorem layer_take (nxt : κ → List (Option κ)) {L : List κ} {i : Nat} {t : κ} (h : L[i]? = some t) (s : Got κ × List κ) : layer nxt (L.take (i + 1)) s = put (rowOf (layer nxt (L.take i) s).1 t) (nxt t) 0 (layer nxt (L.take i) s) := by
  unfold layer
  rw [List.take_add_one, h, List.foldl_append]
  rfl
def turn (nxt : κ → List (Option κ)) (s : Got κ × List κ) : Got κ × List κ := layer nxt s.2 (s.1, [])
def turns (nxt : κ → List (Option κ)) : Nat → Got κ × List κ → Got κ × List κ
  | 0, s => s
  | n + 1, s => turn nxt (turns nxt n s)
def keys (W : Got κ) : List κ := W.map (·.1)
theorem has_iff {W : Got κ} {k : κ} : has W k = true ↔ k ∈ keys W := by
  unfold has keys
  rw [List.any_eq_true, List.mem_map]
  constructor
  · rintro ⟨e, h1, h2⟩
    exact ⟨e, h1, of_decide_eq_true h2⟩
  · rintro ⟨e, h1, h2⟩
    exact ⟨e, h1, decide_eq_true h2⟩

/-! ### what holds all along -/
/-- s0 ahead, s behind: what was told stays, what is fresh is new -/
structure Grew (U : κ → Prop) (s0 s : Got κ × List κ) : Prop where
  nd : (keys s.1).Nodup
  sub : ∀ k ∈ keys s.1, U k
  old : ∃ more, s.1 = s0.1 ++ more ∧ s.2 = s0.2 ++ keys more
theorem Grew.refl {U : κ → Prop} {s : Got κ × List κ} (h1 : (keys s.1).Nodup) (h2 : ∀ k ∈ keys s.1, U k) : Grew U s s := ⟨h1, h2, [], by simp, by simp [keys]⟩
theorem Grew.trans {U : κ → Prop} {s0 s1 s2 : Got κ × List κ} (a : Grew U s0 s1) (b : Grew U s1 s2) : Grew U s0 s2 := by
  obtain ⟨m1, e1, e2⟩ := a.old
  obtain ⟨m2, e3, e4⟩ := b.old
  exact ⟨b.nd, b.sub, m1 ++ m2, by rw [e3, e1, List.append_assoc], by rw [e4, e2, List.append_assoc]; simp [keys]⟩
theorem Grew.put1 {U : κ → Prop} {s0 s : Got κ × List κ} (g : Grew U s0 s) (row : List Int) (i : Nat) (o : Option κ) (h : ∀ t, o = some t → U t) : Grew U s0 (put1 row i o s) := by
  cases o with
  | none => exact g
  | some t =>
    unfold Wk.put1
    by_cases c : has s.1 t = true
    · simp only [c, if_true]
      exact g
    · simp only [c]
      have nt : t ∉ keys s.1 := fun z => c (has_iff.mpr z)
      obtain ⟨m, e1, e2⟩ := g.old
      refine ⟨?_, ?_, m ++ [(t, row ++ [(i : Int)])], ?_, ?_⟩
      · show (keys (s.1 ++ [(t, row ++ [(i : Int)])])).Nodup
        unfold keys
        rw [List.map_append, List.nodup_append]
        refine ⟨g.nd, by simp, ?_⟩
        intro a ha b hb
        simp at hb
        subst hb
        rintro rfl
        exact nt ha
      · intro k hk
        have hk : k ∈ keys (s.1 ++ [(t, row ++ [(i : Int)])]) := hk
        unfold keys at hk
        rw [List.map_append, List.mem_append] at hk
        rcases hk with hk | hk
        · exact g.sub k hk
        · simp at hk
          subst hk
          exact h _ rfl
      · show s.1 ++ [(t, row ++ [(i : Int)])] = _
        rw [e1, List.append_assoc]
      · show s.2 ++ [t] = _
        rw [e2]
        simp [keys]
theorem Grew.put {U : κ → Prop} {s0 : Got κ × List κ} (row : List Int) : ∀ (l : List (Option κ)) (i : Nat) (s : Got κ × List κ), Grew U s0 s → (∀ t, some t ∈ l → U t) → Grew U s0 (put row l i s)
  | [], _, _, g, _ => g
  | o :: r, i, s, g, h => Grew.put row r (i + 1) _ (g.put1 row i o fun t e => h t (by rw [e]; exact List.mem_cons_self)) fun t ht => h t (List.mem_cons_of_mem _ ht)
theorem Grew.layer {U : κ → Prop} {s0 : Got κ × List κ} {nxt : κ → List (Option κ)} (hU : ∀ k, U k → ∀ t, some t ∈ nxt k → U t) : ∀ (L : List κ) (s : Got κ × List κ), (∀ t ∈ L, U t) → Grew U s0 s → Grew U s0 (layer nxt L s)
  | [], _, _, g => g
  | t :: L, s, h, g => Grew.layer hU L _ (fun u hu => h u (List.mem_cons_of_mem _ hu)) (Grew.put _ _ 0 s g fun u hu => hU t (h t List.mem_cons_self) u hu)
theorem grew_len {U : List κ} {s0 s : Got κ × List κ} (g : Grew (· ∈ U) s0 s) : s.1.length ≤ U.length := by
  have z : (keys s.1).length ≤ U.length := List.Nodup.length_le_of_subset g.nd g.sub
  unfold keys at z
  rwa [List.length_map] at z
/-! ### nothing is left out -/
theorem put1_mono {row : List Int} {i : Nat} {o : Option κ} {s : Got κ × List κ} {k : κ} (h : k ∈ keys s.1) : k ∈ keys (put1 row i o s).1 := by
  unfold put1
  split
  · exact h
  · split
    · exact h
    · unfold keys at h ⊢
      rw [List.map_append]
      exact List.mem_append_left _ h
theorem put_mono {row : List Int} {k : κ} : ∀ {l : List (Option κ)} {i : Nat} {s : Got κ × List κ}, k ∈ keys s.1 → k ∈ keys (put row l i s).1
  | [], _, _, h => h
  | o :: l, i, s, h => put_mono (l := l) (i := i + 1) (s := put1 row i o s) (put1_mono h)
theorem put1_in {row : List Int} {i : Nat} {t : κ} {s : Got κ × List κ} : t ∈ keys (put1 row i (some t) s).1 := by
  unfold put1
  by_cases c : has s.1 t = true
  · simp only [c, if_true]
    exact has_iff.mp c
  · simp only [c]
    show t ∈ keys (s.1 ++ [(t, row ++ [(i : Int)])])
    unfold keys
    rw [List.map_append]
    exact List.mem_append_right _ (by simp)
theorem put_in {row : List Int} {t : κ} : ∀ {l : List (Option κ)} {i : Nat} {s : Got κ × List κ}, some t ∈ l → t ∈ keys (put row l i s).1
  | o :: l, i, s, h => by
    rcases List.mem_cons.mp h with e | h
    · subst e
      exact put_mono (l := l) (i := i + 1) (s := put1 row i (some t) s) put1_in
    · exact put_in (l := l) (i := i + 1) (s := put1 row i o s) h
theorem layer_mono {nxt : κ → List (Option κ)} {k : κ} : ∀ {L : List κ} {s : Got κ × List κ}, k ∈ keys s.1 → k ∈ keys (layer nxt L s).1
  | [], _, h => h
  | u :: L, s, h => layer_mono (L := L) (s := put (rowOf s.1 u) (nxt u) 0 s) (put_mono h)
theorem layer_in {nxt : κ → List (Option κ)} {k t : κ} (ht : some t ∈ nxt k) : ∀ {L : List κ} {s : Got κ × List κ}, k ∈ L → t ∈ keys (layer nxt L s).1
  | u :: L, s, h => by
    rcases List.mem_cons.mp h with e | h
    · subst e
      exact layer_mono (L := L) (s := put (rowOf s.1 k) (nxt k) 0 s) (put_in ht)
    · exact layer_in ht (L := L) (s := put (rowOf s.1 u) (nxt u) 0 s) h
/-- rows lead from the first thing to this one -/
inductive Comes (nxt : κ → List (Option κ)) (a : κ) : κ → Prop
  | here : Comes nxt a a
  | step {k t : κ} : Comes nxt a k → some t ∈ nxt k → Comes nxt a t
/-- behind some turns -/
structure Walked (nxt : κ → List (Option κ)) (a : κ) (U : List κ) (s : Got κ × List κ) : Prop where
  nd : (keys s.1).Nodup
  sub : ∀ k ∈ keys s.1, k ∈ U
  come : ∀ k ∈ keys s.1, Comes nxt a k
  fst : ∃ more, s.1 = (a, []) :: more
  lay : ∀ k ∈ s.2, k ∈ keys s.1
  shut : ∀ k ∈ keys s.1, k ∉ s.2 → ∀ t, some t ∈ nxt k → t ∈ keys s.1
theorem Walked.start {nxt : κ → List (Option κ)} {a : κ} {U : List κ} (h : a ∈ U) : Walked nxt a U ([(a, [])], [a]) := by
  refine ⟨by simp [keys], fun k hk => ?_, fun k hk => ?_, ⟨[], rfl⟩, fun k hk => by simpa [keys] using hk, fun k hk n => absurd (by simpa [keys] using hk) n⟩
  · have e : k = a := by simpa [keys] using hk
    subst e
    exact h
  · have e : k = a := by simpa [keys] using hk
    subst e
    exact .here
theorem Walked.turn {nxt : κ → List (Option κ)} {a : κ} {U : List κ} {s : Got κ × List κ} (hU : ∀ k, k ∈ U → ∀ t, some t ∈ nxt k → t ∈ U) (w : Walked nxt a U s) : Walked nxt a U (turn nxt s) ∧ ((turn nxt s).2 = [] ∨ s.1.length < (turn nxt s).1.length) := by
  have g0 : ∀ {P : κ → Prop}, (∀ k ∈ keys s.1, P k) → Grew P ((s.1, []) : Got κ × List κ) (s.1, []) := fun {P} h => ⟨w.nd, h, [], by simp, by simp [keys]⟩
  have g1 := Grew.layer (nxt := nxt) (U := (· ∈ U)) hU s.2 (s.1, []) (fun t ht => w.sub t (w.lay t ht)) (g0 w.sub)
  have g2 := Grew.layer (nxt := nxt) (U := Comes nxt a) (fun k hk t ht => .step hk ht) s.2 (s.1, []) (fun t ht => w.come t (w.lay t ht)) (g0 w.come)
  obtain ⟨m, e1, e2⟩ := g1.old
  have e1 : (Wk.turn nxt s).1 = s.1 ++ m := e1
  have e2 : (Wk.turn nxt s).2 = keys m := by
    rw [List.nil_append] at e2
    exact e2
  have ek : keys (Wk.turn nxt s).1 = keys s.1 ++ keys m := by rw [e1]; simp [keys]
  refine ⟨⟨g1.nd, g1.sub, g2.sub, ?_, fun k hk => ?_, fun k hk n t ht => ?_⟩, ?_⟩
  · obtain ⟨more, e⟩ := w.fst
    exact ⟨more ++ m, by rw [e1, e]; rfl⟩
  · rw [ek]
    rw [e2] at hk
    exact List.mem_append_right _ hk
  · rw [ek, List.mem_append] at hk
    rw [e2] at n
    rcases hk with hk | hk
    · by_cases c : k ∈ s.2
      · exact layer_in ht c
      · exact layer_mono (w.shut k hk c t ht)
    · exact absurd hk n
  · cases m with
    | nil => exact .inl e2
    | cons x m =>
      right
      rw [e1, List.length_append, List.length_cons]
      omega
theorem Walked.len {nxt : κ → List (Option κ)} {a : κ} {U : List κ} {s : Got κ × List κ} (w : Walked nxt a U s) : s.1.length ≤ U.length := by
  have z : (keys s.1).length ≤ U.length := List.Nodup.length_le_of_subset w.nd w.sub
  unfold keys at z
  rwa [List.length_map] at z
/-- at the end: just what comes -/
theorem Walked.all {nxt : κ → List (Option κ)} {a : κ} {U : List κ} {s : Got κ × List κ} (w : Walked nxt a U s) (h : s.2 = []) (k : κ) : k ∈ keys s.1 ↔ Comes nxt a k := by
  refine ⟨w.come k, fun c => ?_⟩
  induction c with
  | here =>
    obtain ⟨more, e⟩ := w.fst
    rw [e]
    simp [keys]
  | step _ ht ih => exact w.shut _ ih (by rw [h]; simp) _ ht
/-- what holds within a layer -/
theorem layer_len {nxt : κ → List (Option κ)} {a : κ} {U : List κ} {s : Got κ × List κ} (hU : ∀ k, k ∈ U → ∀ t, some t ∈ nxt k → t ∈ U) (w : Walked nxt a U s) (i : Nat) : Grew (· ∈ U) (s.1, []) (layer nxt (s.2.take i) (s.1, [])) :=
  Grew.layer (nxt := nxt) (U := (· ∈ U)) hU _ _ (fun t ht => w.sub t (w.lay t (List.mem_of_mem_take ht))) ⟨w.nd, w.sub, [], by simp, by simp [keys]⟩
theorem put_len {nxt : κ → List (Option κ)} {U : List κ} {s0 s : Got κ × List κ} {row : List Int} (hU : ∀ k, k ∈ U → ∀ t, some t ∈ nxt k → t ∈ U) (g : Grew (· ∈ U) s0 s) {t : κ} (ht : t ∈ U) (i : Nat) : Grew (· ∈ U) s0 (put row ((nxt t).take i) 0 s) :=
  Grew.put row _ 0 s g fun u hu => hU t ht u (List.mem_of_mem_take hu)
/-- no row is longer than things stand ahead of it -/
def Short (s : Got κ × List κ) : Prop := 0 < s.1.length ∧ ∀ e ∈ s.1, e.2.length < s.1.length
theorem Short.rowOf {s : Got κ × List κ} (h : Short s) (k : κ) : (rowOf s.1 k).length < s.1.length := by
  unfold Wk.rowOf
  cases e : s.1.find? fun e => decide (e.1 = k) with
  | none => exact h.1
  | some p => exact h.2 p (List.mem_of_find?_eq_some e)
theorem Short.put1 {row : List Int} {i : Nat} {o : Option κ} {s : Got κ × List κ} (h : Short s) (hr : row.length < s.1.length) : Short (put1 row i o s) ∧ row.length < (put1 row i o s).1.length := by
  unfold Wk.put1
  split
  · exact ⟨h, hr⟩
  · rename_i t
    by_cases c : has s.1 t = true
    · simp only [c, if_true]
      exact ⟨h, hr⟩
    · simp only [c]
      refine ⟨⟨by simp, fun e he => ?_⟩, ?_⟩
      · have he : e ∈ s.1 ++ [(t, row ++ [(i : Int)])] := he
        show e.2.length < (s.1 ++ [(t, row ++ [(i : Int)])]).length
        rw [List.length_append, List.length_singleton]
        rcases List.mem_append.mp he with z | z
        · have := h.2 e z
          omega
        · have z : e = (t, row ++ [(i : Int)]) := by simpa using z
          subst z
          rw [List.length_append, List.length_singleton]
          omega
      · show row.length < (s.1 ++ [(t, row ++ [(i : Int)])]).length
        rw [List.length_append]
        omega
theorem Short.put {row : List Int} : ∀ {l : List (Option κ)} {i : Nat} {s : Got κ × List κ}, Short s → row.length < s.1.length → Short (Wk.put row l i s) ∧ row.length < (Wk.put row l i s).1.length
  | [], _, _, h, hr => ⟨h, hr⟩
  | o :: l, i, s, h, hr => Short.put (l := l) (i := i + 1) (s := Wk.put1 row i o s) (h.put1 hr).1 (h.put1 hr).2
theorem Short.layer {nxt : κ → List (Option κ)} : ∀ {L : List κ} {s : Got κ × List κ}, Short s → Short (Wk.layer nxt L s)
  | [], _, h => h
  | u :: L, s, h => Short.layer (L := L) (s := Wk.put (Wk.rowOf s.1 u) (nxt u) 0 s) (Short.put h (h.rowOf u)).1
end
end Wk

set_option Elab.async false
set_option linter.all false
set_option maxRecDepth 100000
set_option maxHeartbeats 4000000
/-! dicts of rows by thing, the things being ints or tuples -/
namespace Lx
open PySem PySem.Spec PyProof.Rows L2 Wk
/-- all but the tables of code objects stays, nothing that was tracked is gone -/
structure ExtB (H H' : Hp) : Prop where
  ext : LamX.ExtN H H'
  back : ∀ b, H' b = none → H b = none
theorem ExtB.of {H H' : Hp} (e : Same H H') : ExtB H H' := ⟨LamX.ExtN.of e, fun b n => e.free n⟩
theorem ExtB.refl (H : Hp) : ExtB H H := .of (Same.refl H)
theorem ExtB.trans {H H1 H2 : Hp} (a : ExtB H H1) (b : ExtB H1 H2) : ExtB H H2 := ⟨a.ext.trans b.ext, fun c n => a.back c (b.back c n)⟩
/-- how things stand as values, and a dict by them -/
structure KeyRep (κ : Type) [DecidableEq κ] where
  is : Hp → V → κ → Prop
  dict : List (κ × V) → HO
  same : ∀ {H H' : Hp} {v : V} {k : κ}, Same H H' → is H v k → is H' v k
  some_ : ∀ {H : Hp} {v : V} {k : κ}, is H v k → v ≠ .non
  wr : ∀ kvs, Mut (some (dict kvs))
  get : ∀ {H : Hp} {a : Addr} {v : V} {k : κ} {kvs : List (κ × V)}, H a = some (dict kvs) → is H v k → DGet H a v (valV kvs k)
  put : ∀ {H : Hp} {a : Addr} {v y : V} {k : κ} {kvs : List (κ × V)}, H a = some (dict kvs) → is H v k → kvs.length < sizeLine → DPut H a v y (upd H a (dict (putK kvs k y)))
  stay : ∀ {H : Hp} {a : Addr} {v : V} {k : κ} {kvs : List (κ × V)} {o : HO}, H a = some (dict kvs) → is H v k → is (upd H a o) v k
  stayL : ∀ {H : Hp} {a : Addr} {v : V} {k : κ} {xs : List V} {o : HO}, H a = some (.lst xs) → is H v k → is (upd H a o) v k
  noTup : ∀ kvs xs, dict kvs ≠ .tup xs
  noLst : ∀ kvs xs, dict kvs ≠ .lst xs
  noFrz : ∀ kvs o u, dict kvs ≠ .frz o u
/-- tuples of ints and texts -/
def repT : KeyRep (List Key) where
  is := fun H v k => ∃ b, v = .ref b ∧ H b = some (.tup (k.map kV))
  dict := .dT
  same := fun e ⟨b, h1, h2⟩ => ⟨b, h1, e _ _ h2⟩
  some_ := fun ⟨b, h1, _⟩ z => by rw [h1] at z; cases z
  wr := fun _ => True.intro
  get := fun e ⟨b, h1, h2⟩ => by subst h1; exact .t e h2
  put := fun e ⟨b, h1, h2⟩ hl => by subst h1; exact .t e h2 hl
  stay := fun e ⟨b, h1, h2⟩ => ⟨b, h1, by rw [upd_ne (ne_of h2 e (fun z => by cases z))]; exact h2⟩
  stayL := fun e ⟨b, h1, h2⟩ => ⟨b, h1, by rw [upd_ne (ne_of h2 e (fun z => by cases z))]; exact h2⟩
  noTup := fun _ _ z => by cases z
  noLst := fun _ _ z => by cases z
  noFrz := fun _ _ _ z => by cases z
/-- ints and texts -/
def repI : KeyRep Key where
  is := fun _ v k => v = kV k
  dict := .dK
  same := fun _ h => h
  some_ := fun {_ v k} h z => by cases k <;> (rw [h] at z; cases z)
  wr := fun _ => True.intro
  get := fun e h => by rw [h]; exact .k e
  put := fun e h hl => by rw [h]; exact .k e hl
  stay := fun _ h => h
  stayL := fun _ h => h
  noTup := fun _ _ z => by cases z
  noLst := fun _ _ z => by cases z
  noFrz := fun _ _ _ z => by cases z
section
variable {κ : Type} [DecidableEq κ] {K : PySem.W.Frag}
abbrev RepW (K : PySem.W.Frag) (H : Hp) (kvs : List (κ × V)) (W : Got κ) : Prop := Paired (fun (p : κ × V) (e : κ × List Int) => p.1 = e.1 ∧ ∃ r, p.2 = .ref r ∧ SqT K H r (e.2.map V.int)) kvs W
theorem repW_imp {H H' : Hp} : ∀ {kvs : List (κ × V)} {W : Got κ}, RepW K H kvs W → (∀ r xs, SqT K H r xs → SqT K H' r xs) → RepW K H' kvs W
  | _, _, .nil, _ => .nil
  | _, _, .cons ⟨h1, r, h2, h3⟩ t, f => .cons ⟨h1, r, h2, f _ _ h3⟩ (repW_imp t f)
theorem repW_len {H : Hp} : ∀ {kvs : List (κ × V)} {W : Got κ}, RepW K H kvs W → kvs.length = W.length
  | _, _, .nil => rfl
  | _, _, .cons _ t => by rw [List.length_cons, List.length_cons, repW_len t]
theorem repW_get {H : Hp} {k : κ} : ∀ {kvs : List (κ × V)} {W : Got κ}, RepW K H kvs W → has W k = true → ∃ r, valV kvs k = some (.ref r) ∧ SqT K H r ((rowOf W k).map V.int)
  | _, _, .nil, h => by cases h
  | p :: kvs, e :: W, .cons ⟨h1, r, h2, h3⟩ t, h => by
    by_cases c : e.1 = k
    · refine ⟨r, by rw [valV_pos (h1.trans c), h2], ?_⟩
      have z : rowOf (e :: W) k = e.2 := by simp [rowOf, c]
      rw [z]
      exact h3
    · have h' : has W k = true := by simpa [has, c] using h
      obtain ⟨r', g1, g2⟩ := repW_get t h'
      refine ⟨r', by rw [valV_neg (fun z => c (h1.symm.trans z))]; exact g1, ?_⟩
      have z : rowOf (e :: W) k = rowOf W k := by simp [rowOf, c]
      rw [z]
      exact g2
theorem repW_no {H : Hp} {k : κ} : ∀ {kvs : List (κ × V)} {W : Got κ}, RepW K H kvs W → has W k = false → valV kvs k = none
  | _, _, .nil, _ => rfl
  | p :: kvs, e :: W, .cons ⟨h1, r, h2, h3⟩ t, h => by
    have c : ¬ e.1 = k := fun z => by simp [has, z] at h
    have h' : has W k = false := by simpa [has, c] using h
    rw [valV_neg (fun z => c (h1.symm.trans z))]
    exact repW_no t h'
theorem repW_some {H : Hp} {k : κ} {kvs : List (κ × V)} {W : Got κ} (h : RepW K H kvs W) : (valV kvs k).isSome = has W k := by
  cases c : has W k with
  | true =>
    obtain ⟨r, g, _⟩ := repW_get h c
    rw [g]
    rfl
  | false =>
    rw [repW_no h c]
    rfl
theorem repW_snoc {H : Hp} {k : κ} {r : Addr} {row : List Int} (hr : SqT K H r (row.map V.int)) : ∀ {kvs : List (κ × V)} {W : Got κ}, RepW K H kvs W → RepW K H (kvs ++ [(k, .ref r)]) (W ++ [(k, row)])
  | _, _, .nil => .cons ⟨rfl, r, rfl, hr⟩ .nil
  | _, _, .cons h t => .cons h (repW_snoc hr t)
/-- at d the dict of W -/
def GotAt (R : KeyRep κ) (K : PySem.W.Frag) (H : Hp) (d : Addr) (W : Got κ) : Prop := ∃ kvs, H d = some (R.dict kvs) ∧ RepW K H kvs W
theorem GotAt.same {R : KeyRep κ} {H H' : Hp} {d : Addr} {W : Got κ} (g : GotAt R K H d W) (e : Same H H') : GotAt R K H' d W := by
  obtain ⟨kvs, h1, h2⟩ := g
  exact ⟨kvs, e _ _ h1, repW_imp h2 fun r xs z => sameT e z⟩
theorem upd_tup {H : Hp} {a r : Addr} {o u : HO} {xs : List V} (h : H a = some u) (n1 : ∀ ys, u ≠ .tup ys) (n2 : ∀ o' ys, u ≠ .frz o' (.tup ys)) (g : SqT K H r xs) : SqT K (upd H a o) r xs := by
  rcases g with (z | ⟨ob, z⟩) | z
  · exact .inl (.inl (by rw [upd_ne (ne_of z h (fun e => n1 _ e.symm))]; exact z))
  · exact .inl (.inr ⟨ob, by rw [upd_ne (ne_of z h (fun e => n2 _ _ e.symm))]; exact z⟩)
  · exact .inr z
/-- a dict made by a comprehension: Pv by the turn and the heap (the new dict at D within) -/
theorem dc_it {J : It} {n : Nat} {G : Hp → Prop} {Y : Nat → Hp → V → Hp → Prop} (w : Walk J n G Y) {g : TG} {tt : TT} {tk tv : TE} {vs : List Nat} {σ : L2.St} {H1 : Hp} {D : Addr} {Qd : Hp → Prop} (Pv : Nat → Hp → Prop) (h0 : Pv 0 (upd H1 D (.dK []))) (hG : ∀ i H, i ≤ n → Pv i H → G H)
    (turn : ∀ i x H H', i < n → Pv i H → Y i H x H' → g x (wipe σ vs) H' fun σ2 H2 => wipe σ2 vs = wipe σ vs ∧ tt σ2 H2 fun b H3 =>
      if b = true then tk σ2 H3 fun y H4 => tv σ2 H4 fun z H5 => ∃ kvs k, y = kV k ∧ H5 D = some (.dK kvs) ∧ kvs.length < sizeLine ∧ Pv (i + 1) (upd H5 D (.dK (putK kvs k z))) else Pv (i + 1) H3) (fin : ∀ H, Pv n H → Qd H) :
    ∃ W : Nat → Nat → Hp → Prop, (∃ m, W 0 m (upd H1 D (.dK []))) ∧ ∀ i m H, W i m H → (J.stop i H ∧ Qd H) ∨ (J.go i H ∧ ∃ Nx : Hp → Prop, (∀ H', Nx H' → ∃ m', m' < m ∧ W (i + 1) m' H') ∧ ∀ x H', J.yld i H x H' → g x (wipe σ vs) H' fun σ2 H2 => wipe σ2 vs = wipe σ vs ∧ tt σ2 H2 fun b H3 =>
      if b = true then tk σ2 H3 fun y H4 => tv σ2 H4 fun z H5 => ∃ kvs k, y = kV k ∧ H5 D = some (.dK kvs) ∧ kvs.length < sizeLine ∧ Nx (upd H5 D (.dK (putK kvs k z))) else Nx H3) := by
  refine ⟨fun i m H => m + i = n ∧ Pv i H, ⟨n, rfl, h0⟩, ?_⟩
  rintro i m H ⟨em, p⟩
  have gH := hG i H (by omega) p
  rcases Nat.lt_or_ge i n with lt | ge
  · exact .inr ⟨w.goes i H lt gH, Pv (i + 1), fun H' p' => ⟨n - (i + 1), by omega, by omega, p'⟩, fun x H' y => turn i x H H' lt p (w.yields i H x H' lt gH y)⟩
  · obtain rfl : i = n := by omega
    exact .inl ⟨w.stops H gH, fin H p⟩
/-- a list of things -/
abbrev Things (R : KeyRep κ) (H : Hp) (vs : List V) (L : List κ) : Prop := Paired (fun v k => R.is H v k) vs L
theorem things_imp {R : KeyRep κ} {H H' : Hp} : ∀ {vs : List V} {L : List κ}, Things R H vs L → (∀ v k, R.is H v k → R.is H' v k) → Things R H' vs L
  | _, _, .nil, _ => .nil
  | _, _, .cons h t, f => .cons (f _ _ h) (things_imp t f)
theorem things_snoc {R : KeyRep κ} {H : Hp} {v : V} {k : κ} (h : R.is H v k) : ∀ {vs : List V} {L : List κ}, Things R H vs L → Things R H (vs ++ [v]) (L ++ [k])
  | _, _, .nil => .cons h .nil
  | _, _, .cons g t => .cons g (things_snoc h t)
theorem things_len {R : KeyRep κ} {H : Hp} : ∀ {vs : List V} {L : List κ}, Things R H vs L → vs.length = L.length
  | _, _, .nil => rfl
  | _, _, .cons _ t => by rw [List.length_cons, List.length_cons, things_len t]
theorem things_get {R : KeyRep κ} {H : Hp} : ∀ {vs : List V} {L : List κ} {i : Nat} {v : V}, Things R H vs L → vs[i]? = some v → ∃ k, L[i]? = some k ∧ R.is H v k
  | _, _, _, _, .nil, h => by simp at h
  | _, _, 0, _, .cons h t, e => by
    simp at e
    subst e
    exact ⟨_, rfl, h⟩
  | _, _, i + 1, _, .cons _ t, e => by
    obtain ⟨k, g1, g2⟩ := things_get (i := i) t (by simpa using e)
    exact ⟨k, by simpa using g1, g2⟩
/-- what follows a thing, by deed; none where nothing does -/
def MayBe (R : KeyRep κ) (H : Hp) (v : V) : Option κ → Prop
  | none => v = .non
  | some k => R.is H v k
theorem mays_imp {R : KeyRep κ} {H H' : Hp} (f : ∀ v k, R.is H v k → R.is H' v k) : ∀ {os : List V} {ts : List (Option κ)}, Paired (fun o t => MayBe R H o t) os ts → Paired (fun o t => MayBe R H' o t) os ts
  | _, _, .nil => .nil
  | o :: os, none :: ts, .cons h t => .cons h (mays_imp f t)
  | o :: os, some k :: ts, .cons h t => .cons (f _ _ h) (mays_imp f t)
theorem upd_seqL {H : Hp} {a l : Addr} {o : HO} {xs : List V} (n : l ≠ a) (g : SqL K H l xs) : SqL K (upd H a o) l xs := by
  rcases g with (z | ⟨ob, z⟩) | z
  · exact .inl (.inl (by rw [upd_ne n]; exact z))
  · exact .inl (.inr ⟨ob, by rw [upd_ne n]; exact z⟩)
  · exact .inr z
theorem upd_seqT {H : Hp} {a l : Addr} {o : HO} {xs : List V} (n : l ≠ a) (g : SqT K H l xs) : SqT K (upd H a o) l xs := by
  rcases g with (z | ⟨ob, z⟩) | z
  · exact .inl (.inl (by rw [upd_ne n]; exact z))
  · exact .inl (.inr ⟨ob, by rw [upd_ne n]; exact z⟩)
  · exact .inr z
/-- the promise of the function that tells what follows -/
def spFollow (R : KeyRep κ) (K : PySem.W.Frag) (H0 : Hp) (nxt : κ → List (Option κ)) (U : List κ) : Sp := fun vs H Q _ => ∃ v k, vs = [v] ∧ R.is H v k ∧ k ∈ U ∧ ∀ H' l os, Same H H' → (H l = none ∨ ∃ o, H0 l = some o) → Seq K H' (.ref l) os → Paired (fun o t => MayBe R H' o t) os (nxt k) → Q (.ref l) H'
end
end Lx

set_option Elab.async false
set_option linter.all false
set_option maxRecDepth 100000
set_option maxHeartbeats 2000000
namespace Lx
open PySem PySem.Spec PyProof.Rows L2
/-- x == y, x an instance of the class at C whose own == is at g; y of the type t -/
def rEqI (K : PySem.W.Frag) (C : Addr) (sp : Sp) (E : XK) : R2 := fun x y H Q => ∃ a dx fs t, x = .ref a ∧ H a = some (.ins C dx fs) ∧ TyX K H y t ∧ PySem.W.notFirst K C t = true ∧ sp [x, y] H Q E
theorem op_eqI {X : Cx} {CX : CXT} {n : Nat} {g C : Addr} {fd : FuncData} {ps : List Str} {sp : Sp} {E : XK} (F : FnOk X.prog X.w X.K X.mg X.base CX n g fd ps sp) (hs : PySem.W.findIn X.K (.ref C) "__eq__" = some (some (.ref g))) (hf : PySem.W.isFn X.K (.ref g) = true)
    (hb : Binds X.K fd ps []) (hr : Room n X.A) (hx : Passes CX X E) : OpR X (compareOp .Eq) (rEqI X.K C sp E) := by
  intro pins s σ H x y v u Q I rx ry h
  obtain ⟨a, dx, fs, t, rfl, ha, ty, hn, q⟩ := h
  cases (show v = Value.ref a from rx)
  obtain ⟨mA, J, _⟩ := ins_get I.hok ha
  obtain ⟨od, J, _⟩ := J.look
  obtain ⟨P, Z, hP, _⟩ := kit_of I ry ty
  obtain ⟨m, hF⟩ := I.fr
  show wpAny _ _ (richCompare .Eq (.ref a) u) _ _ s
  refine PySem.W.cmp_K (op := .Eq) (tb := t) hr.units0 hF I.ok.mod.kin J (Z.ty _ _ I.kIn hP) hn hs hf ?_
  have F' : FnR X.prog X.w X.K X.mg X.base CX n g sp := (F.raw hb .nil).imp fun vs H Q E h => by rw [List.append_nil]; exact h
  refine wpAny_mono (wpAny_call (run_fnR (us := [.ref a, u]) (vs := [.ref a, y]) F' hr hx I (.cons rfl (.cons ry .nil)) q)) (fun w s' z => ?_) fun _ _ x => x
  obtain ⟨z', H', I', rz, qz⟩ := z
  exact SlX.cmpback rz ⟨z', H', I', rz, qz⟩
/-! ### tuples of tuples of whole numbers -/
def rowsT (rs : List (List Int)) : PyData := .tuple (rs.map fun r => .tuple (r.map PyData.int))
def rowsL (rs : List (List Int)) : PyData := .list (rs.map fun r => .tuple (r.map PyData.int))
theorem lay_rows : ∀ rs : List (List Int), PyData.canLayAll0 (rs.map fun r => PyData.tuple (r.map PyData.int)) = true ∧ PyData.depthAll (rs.map fun r => PyData.tuple (r.map PyData.int)) ≤ 1
  | [] => ⟨rfl, Nat.zero_le _⟩
  | r :: rs => by
    obtain ⟨a, b⟩ := shaped_ints_any (xs := r)
    obtain ⟨c, d⟩ := lay_rows rs
    constructor
    · show (PyData.canLayAll0 (r.map PyData.int) && PyData.canLayAll0 (rs.map _)) = true
      rw [a, c]
      rfl
    · show max (PyData.depthAll (r.map PyData.int) + 1) (PyData.depthAll (rs.map _)) ≤ 1
      rw [b]
      omega
theorem shaped_rowsT (rs : List (List Int)) : SeqAt.shaped (rowsT rs) = true := by
  obtain ⟨h1, h2⟩ := lay_rows rs
  show (PyData.canLayAll0 (rs.map _) && decide (PyData.depthAll (rs.map _) + 1 ≤ 64)) = true
  rw [h1, decide_eq_true (by omega)]
  rfl
theorem eqvAll_rows : ∀ rs : List (List Int), PyData.eqvAll (rs.map fun r => PyData.tuple (r.map PyData.int)) (rs.map fun r => PyData.tuple (r.map PyData.int)) = true
  | [] => rfl
  | r :: rs => by
    show (PyData.eqvAll (r.map PyData.int) (r.map PyData.int) && PyData.eqvAll (rs.map _) (rs.map _)) = true
    rw [eqvAll_ints, eqvAll_rows rs, decide_eq_true rfl]
    rfl
theorem eqv_rowsT (rs : List (List Int)) : PyData.eqv (rowsT rs) (rowsT rs) = true := eqvAll_rows rs
theorem dp_rows {K : PySem.W.Frag} {H : Hp} : ∀ {bs : List Addr} {rs : List (List Int)}, Paired (fun (a : Addr) (r : List Int) => SqT K H a (r.map V.int)) bs rs → DpAll K H (bs.map V.ref) (rs.map fun r => PyData.tuple (r.map PyData.int))
  | _, _, .nil => .nil
  | _, _, .cons h t => .cons (dp_tuple_ints h) (dp_rows t)
theorem ty_sqt {K : PySem.W.Frag} {H : Hp} {a : Addr} {xs : List V} (h : SqT K H a xs) : TyX K H (.ref a) (.type "tuple") := by
  rcases h with (h | ⟨o, h⟩) | h
  · exact .base (.tup h)
  · exact .fTuple h
  · obtain ⟨o, its, n, h1, h2, _⟩ := h
    exact .kTuple h1 h2
end Lx

set_option Elab.async false
set_option linter.all false
set_option maxRecDepth 100000
set_option maxHeartbeats 3200000
/-! set(xs), xs a list of whole numbers; sorted of it -/
namespace Lx
open PySem PySem.Spec PyProof.Rows L2
section
variable {P : Program} {w : World} {A : Around} {E : Value → Shared → Prop} {s : Shared}
/-- a set that nothing was put in yet -/
abbrev bareSet (w : World) : Obj := { cls := .type "set", dict := none, data := .set #[] 0 (.fresh 0 0 (!w.params.followText "set-order")) }
/-- what the filling of the bare set at S by whole numbers leaves -/
def Filled (w : World) (s : Shared) (S : Addr) (ns : List Int) (s2 : Shared) : Prop :=
  ∃ h' tk c, s2 = { s with heap := h', toks := tk } ∧ SetR w h' S (fun j => decide (j ∈ ns)) c ∧ c ≤ ns.length ∧ ∀ b o, b ≠ S → s.heap.get? b = some o → h'.get? b = some o
theorem fill_list {l S : Addr} {items : Array Value} {ns : List Int} (hh : A.handled = none) (hl : s.heap.IsList l items) (hit : IntsAre items.toList ns) (hb : ns.length + 1 < scanBound) (hS : s.heap.get? S = some (bareSet w)) (ne : l ≠ S) :
    codeAny (model P w) A (.call (.builtin "set.__init__") ⟨[.ref S, .ref l], []⟩) (wants (fun r s2 => r = .none ∧ Filled w s S ns s2) E) s := by
  have tyS : s.TypeIs (.ref S) "set" := ⟨_, hS, rfl⟩
  have size : items.size = ns.length := by have q := IntsAre.length hit; rwa [Array.length_toList] at q
  refine codeAny_call_builtin PySem.F.called_set.init.plain PySem.F.entry_set_init (PySem.check_set_init_1 tyS ?_)
  obtain ⟨⟨cl, dc, dt, sl⟩, at_, c1, n0, d1⟩ := hl
  cases c1
  cases d1
  have k1 := PySem.F.sub_list_set
  have k2 := PySem.F.sub_list_frozenset
  have k3 : (Value.type "list" == Value.type "dict") = false := by decide
  unfold Builtin.«set.__init__» noKeywords Builtin.Frozenset.updateFrom
  generalize hPI : pyIter = it
  wp_walk
  cases hPI
  have isl : s.heap.IsList l items := ⟨_, at_, rfl, n0, rfl⟩
  refine wpAny_pyIter_list isl (wpAny_bind (wpAny_runValue ?_))
  have lt_l := Heap.lt_size at_
  have lt_S := Heap.lt_size hS
  have off : S ∉ [s.heap.objs.size, l] := by
    intro m
    rcases List.mem_cons.mp m with e | m
    · rw [← e] at lt_S
      exact Nat.lt_irrefl _ lt_S
    · exact ne (List.mem_singleton.mp m).symm
  have at_i : ∀ (i : Nat) (v : Value), items[i]? = some v → ∃ k t, ns[i]? = some k ∧ v = .int k t := fun i v hv => by
    obtain ⟨li, _⟩ := Array.getElem?_eq_some_iff.mp hv
    have ln : i < ns.length := by omega
    obtain ⟨t, e⟩ := PyProof.Rows.IntsAre.int_at hit i v (by rw [Array.getElem?_toList]; exact hv)
    rw [List.getD_eq_getElem?_getD, List.getElem?_eq_getElem ln] at e
    exact ⟨_, t, List.getElem?_eq_getElem ln, e⟩
  refine set_update_ints ((Walks.list (show A.in1.in1.handled = none by simp [hh]) _ l (Nat.ne_of_lt lt_l) items).toS) S off ns size hb at_i (items.size - 0) 0 _ (by omega) (Nat.zero_le _) ⟨?_, ?_⟩
    ⟨0, Nat.le_refl 0, ?_⟩ ?_
  · exact ⟨_, Heap.get?_push_size _ rfl, rfl, rfl⟩
  · exact isl.push _
  · exact setR_new_at (Heap.get?_push_of_some _ hS)
  rintro ⟨h2, g2, d2, t2, o2⟩ c mv hc got
  have e1 : g2 = s.gens := mv.gens
  have e2 : d2 = s.drawn := mv.drawn
  have e3 : o2 = s.os := mv.os
  cases e1
  cases e2
  cases e3
  refine wpAny_pure (wpAny_pure ?_)
  refine ⟨rfl, h2, t2, c, rfl, got, size ▸ hc, fun b o nb e => mv.heap b o ?_ (Heap.get?_push_of_some _ e)⟩
  intro m
  rcases List.mem_cons.mp m with z | m
  · exact nb z
  · have lt := Heap.lt_size e
    have eb : b = s.heap.objs.size := List.mem_singleton.mp m
    rw [eb] at lt
    exact Nat.lt_irrefl _ lt
/-- set(xs) -/
theorem made_set {l : Addr} {items : Array Value} (ns : List Int) {Q : Value → Shared → Prop} (hh : A.handled = none) (hl : s.heap.IsList l items) (hit : IntsAre items.toList ns) (hb : ns.length + 1 < scanBound)
    (q : ∀ (h' : Heap) (tk c : Nat), SetR w h' s.heap.objs.size (fun j => decide (j ∈ ns)) c → c ≤ ns.length → (∀ b o, s.heap.get? b = some o → h'.get? b = some o) → Q (.ref s.heap.objs.size) { s with heap := h', toks := tk }) :
    wpAny (model P w) A (call (.type "set") [.ref l]) Q E s := by
  obtain ⟨c, tl, way⟩ := PySem.F.called_set.mro
  have z1 := PySem.F.called_set.made
  have z2 := PySem.F.called_set.sub
  have z3 := PySem.F.called_set.notType
  have z4 := PySem.F.called_set.canCreate
  have z5 := PySem.F.typeCall_set_1 (.ref l)
  have z6 := PySem.F.called_set.init.lookup
  have z7 := PySem.F.called_set.init.bind (.ref s.heap.objs.size)
  have old : ∀ b o, s.heap.get? b = some o → (s.heap.push (bareSet w)).get? b = some o := fun b o e => Heap.get?_push_of_some _ e
  have at_ : (s.heap.push (bareSet w)).get? s.heap.objs.size = some (bareSet w) := Heap.get?_push_size _ rfl
  have lt_l : l < s.heap.objs.size := by obtain ⟨o, e, _⟩ := hl; exact Heap.lt_size e
  have new : ∀ B : Around, codeAny (model P w) B (.call (.builtin "set.__new__") ⟨[.type "set", .ref l], []⟩) (wants (fun r s2 => r = .ref s.heap.objs.size ∧ s2 = { s with heap := s.heap.push (bareSet w) }) E) s := fun B => code_set_led1 (.ref l) ⟨rfl, rfl⟩
  have ty : Shared.TypeIs { s with heap := s.heap.push (bareSet w) } (.ref s.heap.objs.size) "set" := ⟨_, at_, rfl⟩
  have fill : ∀ B : Around, B.handled = none → codeAny (model P w) B (.call (.builtin "set.__init__") ⟨[.ref s.heap.objs.size, .ref l], []⟩) (wants (fun r s2 => r = .none ∧ Filled w { s with heap := s.heap.push (bareSet w) } s.heap.objs.size ns s2) E) { s with heap := s.heap.push (bareSet w) } :=
    fun B hB => fill_list hB (hl.push _) hit hb at_ (Nat.ne_of_lt lt_l)
  refine wpAny_call (codeAny_of_tree (show wpAny _ _ (callAny (.type "set") _) _ _ _ from wpAny_pure ⟨Code.quiet_builtin _ (by decide +kernel), codeAny_builtin PySem.F.entry_type_call ?_⟩))
  rw [Around.under_plain (weight_type_call_type "set" [.ref l] []) rfl]
  repeat (any_goals (first | assumption | wp_step))
  refine codeAny_mono (new _) fun r s1 h1 => ?_
  match r, h1 with
  | .error e, h1 => exact h1
  | .ok (.ret _), h1 =>
    obtain ⟨rfl, rfl⟩ := h1
    repeat (any_goals (first | assumption | wp_step))
    refine codeAny_mono (fill _ (by simp [hh])) fun r2 s2 h2 => ?_
    match r2, h2 with
    | .error e, h2 => exact h2
    | .ok (.ret _), h2 =>
      obtain ⟨rfl, h', tk, c, rfl, g1, g2, g3⟩ := h2
      repeat (any_goals (first | assumption | wp_step))
      exact q h' tk c g1 g2 fun b o e => g3 b o (Nat.ne_of_lt (Heap.lt_size e)) (old b o e)
    | .ok .next, h2 => exact h2.elim
    | .ok .brk, h2 => exact h2.elim
    | .ok .cont, h2 => exact h2.elim
  | .ok .next, h1 => exact h1.elim
  | .ok .brk, h1 => exact h1.elim
  | .ok .cont, h1 => exact h1.elim
end
/-- set(xs), xs a list of whole numbers: the members are those of xs -/
def rSetOfI (K : PySem.W.Frag) (w : World) : List V → Hp → VK → Prop := fun xs H Q => ∃ (l : Addr) (ns : List Int), xs = [.ref l] ∧ SqL K H l (ns.map V.int) ∧ ns.length < 1000 ∧
  ∀ p n, n ≤ ns.length → H p = none → Q (.ref p) (upd H p (SetO w p (fun j => decide (j ∈ ns)) n))
theorem call_setOfI {X : Cx} (hc : X.calm = true) : CallR X (.type "set") (rSetOfI X.K X.w) := by
  intro pins s σ H xs us Q I r h
  obtain ⟨l, ns, rfl, hl, hf, q⟩ := h
  rw [Vals.ref1 r]
  obtain ⟨its, rv, pl, hz⟩ := I.list hl
  refine made_set (ns := ns) (I.ok.hd hc) pl.isList (by simpa using Vals.ints rv) (by unfold scanBound; omega) fun h' tk c R hc k => ?_
  exact ⟨.ref s.heap.objs.size, _, I.laid (t' := tk) k (Nat.le_refl _) (setO_new R), rfl, q _ c hc (I.hok.fresh (Nat.le_refl _))⟩
end Lx

set_option Elab.async false
set_option linter.all false
set_option maxRecDepth 100000
set_option maxHeartbeats 2000000
namespace Lx
open PySem PySem.Spec PyProof.Rows L2
/-- "0" times one to five: some text -/
def rMulS : R2 := fun x y H Q => ∃ k : Nat, x = .str "0" ∧ y = .int k ∧ 1 ≤ k ∧ k ≤ 5 ∧ ∀ r : Str, Q (.str r) H
theorem op_mulS {X : Cx} : OpR X (binaryOp .Mult) rMulS := by
  intro pins s σ H x y v u Q I rx ry h
  obtain ⟨k, rfl, rfl, h1, h5, q⟩ := h
  obtain ⟨t, rfl⟩ := rx
  obtain ⟨t2, rfl⟩ := ry
  have any : ∀ (r : Str) (tk tk2 : Nat), ∃ v' H', Inv X pins σ H' { s with toks := tk2 } ∧ RelV v' (Value.str r tk) ∧ Q v' H' := fun r tk tk2 => ⟨.str r, H, I.tok _, ⟨_, rfl⟩, q r⟩
  obtain rfl | rfl | rfl | rfl | rfl : k = 1 ∨ k = 2 ∨ k = 3 ∨ k = 4 ∨ k = 5 := by omega
  all_goals
    refine PySem.P.mul_str (by decide) (fun _ _ => by decide +kernel) (fun _ _ => by decide +kernel) ?_
  · rw [if_neg (by decide), if_pos (by decide)]
    exact any _ _ s.toks
  all_goals
    rw [if_neg (by decide), if_neg (by decide +kernel)]
    exact ⟨by decide +kernel, any _ _ _⟩
end Lx

set_option Elab.async false
set_option linter.all false
set_option maxRecDepth 100000
set_option maxHeartbeats 4000000
/-! the data layer: values as data, what is frozen, what an evaluation may change -/
namespace Dl
open PySem PySem.Spec PyProof.Rows L2 Lx

/-- what a lambda of the def's own does, by where it stands -/
structure LamW where
  ok : Hp → Addr → Prop
  mono : ∀ {F F' : Hp} {f : Addr}, Same F F' → ok F f → ok F' f
/-- a value: data, an instance that stays as it is, the box of draws, a thing of the written part -/
inductive DV where
  | py (d : PyData) | ins (C : Addr) (fs : List (Str × DV)) | box | scr (K : PySem.W.Frag) (ns : List Int) | ref (a : Addr) | ty (n : String) | lam (W : LamW) | lams (W : LamW) (n : Nat)
abbrev DV.int (i : Int) : DV := .py (.int i)
abbrev DV.bl (b : Bool) : DV := .py (.bool b)
abbrev DV.str (x : Str) : DV := .py (.str x)
abbrev DV.non : DV := .py .none
abbrev DV.tup (l : List PyData) : DV := .py (.tuple l)
abbrev DV.lst (l : List PyData) : DV := .py (.list l)

/-- a value and the data that it is, every list and tuple of it standing in F -/
inductive Rp (F : Hp) : V → PyData → Prop
  | non : Rp F .non .none
  | bl (b : Bool) : Rp F (.bl b) (.bool b)
  | int (i : Int) : Rp F (.int i) (.int i)
  | str (x : Str) : Rp F (.str x) (.str x)
  | lst {a : Addr} {xs : List V} {ds : List PyData} : F a = some (.lst xs) → Paired (Rp F) xs ds → Rp F (.ref a) (.list ds)
  | tup {a : Addr} {xs : List V} {ds : List PyData} : F a = some (.tup xs) → Paired (Rp F) xs ds → Rp F (.ref a) (.tuple ds)
abbrev RpA (F : Hp) : List V → List PyData → Prop := Paired (Rp F)
mutual
theorem Rp.mono {F F' : Hp} (e : Same F F') : ∀ (d : PyData) (v : V), Rp F v d → Rp F' v d
  | .none, _, h => by cases h; exact .non
  | .bool b, _, h => by cases h; exact .bl b
  | .int i, _, h => by cases h; exact .int i
  | .str x, _, h => by cases h; exact .str x
  | .list ds, _, h => by
    cases h with
    | lst h1 h2 => exact .lst (e _ _ h1) (RpA.mono e ds _ h2)
  | .tuple ds, _, h => by
    cases h with
    | tup h1 h2 => exact .tup (e _ _ h1) (RpA.mono e ds _ h2)
  | .dict _, _, h => by cases h
theorem RpA.mono {F F' : Hp} (e : Same F F') : ∀ (ds : List PyData) (vs : List V), RpA F vs ds → RpA F' vs ds
  | [], _, h => by cases h; exact .nil
  | d :: ds, _, h => by
    cases h with
    | cons h1 h2 => exact .cons (Rp.mono e d _ h1) (RpA.mono e ds _ h2)
end
mutual
theorem Rp.dp {K : PySem.W.Frag} {F H : Hp} (e : Same F H) : ∀ (d : PyData) (v : V), Rp F v d → Dp K H v d
  | .none, _, h => by cases h; exact .non
  | .bool b, _, h => by cases h; exact .bl b
  | .int i, _, h => by cases h; exact .int i
  | .str x, _, h => by cases h; exact .str x
  | .list ds, _, h => by
    cases h with
    | lst h1 h2 => exact .lst (.inl (.inl (e _ _ h1))) (RpA.dp e ds _ h2)
  | .tuple ds, _, h => by
    cases h with
    | tup h1 h2 => exact .tup (.inl (.inl (e _ _ h1))) (RpA.dp e ds _ h2)
  | .dict _, _, h => by cases h
theorem RpA.dp {K : PySem.W.Frag} {F H : Hp} (e : Same F H) : ∀ (ds : List PyData) (vs : List V), RpA F vs ds → DpAll K H vs ds
  | [], _, h => by cases h; exact .nil
  | d :: ds, _, h => by
    cases h with
    | cons h1 h2 => exact .cons (Rp.dp e d _ h1) (RpA.dp e ds _ h2)
end
mutual
/-- no list in it -/
def noL : PyData → Bool
  | .list _ => false
  | .tuple ds => noLs ds
  | .dict _ => false
  | _ => true
def noLs : List PyData → Bool
  | [] => true
  | d :: ds => noL d && noLs ds
end
mutual
/-- what holds no list leans on tuples alone -/
theorem Rp.tups {F F' : Hp} (e : ∀ a xs, F a = some (.tup xs) → F' a = some (.tup xs)) : ∀ (d : PyData) (v : V), noL d = true → Rp F v d → Rp F' v d
  | .none, _, _, h => by cases h; exact .non
  | .bool b, _, _, h => by cases h; exact .bl b
  | .int i, _, _, h => by cases h; exact .int i
  | .str x, _, _, h => by cases h; exact .str x
  | .list ds, _, n, h => by cases n
  | .tuple ds, _, n, h => by
    cases h with
    | tup h1 h2 => exact .tup (e _ _ h1) (RpA.tups e ds _ n h2)
  | .dict _, _, _, h => by cases h
theorem RpA.tups {F F' : Hp} (e : ∀ a xs, F a = some (.tup xs) → F' a = some (.tup xs)) : ∀ (ds : List PyData) (vs : List V), noLs ds = true → RpA F vs ds → RpA F' vs ds
  | [], _, _, h => by cases h; exact .nil
  | d :: ds, _, n, h => by
    have n : (noL d && noLs ds) = true := n
    rw [Bool.and_eq_true] at n
    cases h with
    | cons h1 h2 => exact .cons (Rp.tups e d _ n.1 h1) (RpA.tups e ds _ n.2 h2)
end

/-- what is frozen; which are the boxes -/
structure Gh where
  F : Hp
  B : Addr → Prop
mutual
inductive RV (G : Gh) : V → DV → Prop
  | py {v : V} {d : PyData} : Rp G.F v d → RV G v (.py d)
  | ins {m C dx : Addr} {vs : List (Str × V)} {fs : List (Str × DV)} : G.F m = some (.ins C dx vs) → RFs G vs fs → RV G (.ref m) (.ins C fs)
  | box {b : Addr} : G.B b → RV G (.ref b) .box
  | scr {K : PySem.W.Frag} {a : Addr} {ns : List Int} : ((G.F a = some (.lst (ns.map V.int)) ∨ ∃ o, G.F a = some (.frz o (.lst (ns.map V.int)))) ∨ ∀ H, SqL K H a (ns.map V.int)) → RV G (.ref a) (.scr K ns)
  | ref {a : Addr} : RV G (.ref a) (.ref a)
  | ty {n : String} : RV G (.ty n) (.ty n)
  | lam {f : Addr} {W : LamW} : W.ok G.F f → RV G (.ref f) (.lam W)
  | lams {p : Addr} {W : LamW} {vs : List V} {n : Nat} : G.F p = some (.lst vs) → vs.length = n → (∀ x ∈ vs, ∃ f, x = .ref f ∧ W.ok G.F f) → RV G (.ref p) (.lams W n)
inductive RFs (G : Gh) : List (Str × V) → List (Str × DV) → Prop
  | nil {vs : List (Str × V)} : RFs G vs []
  | cons {vs : List (Str × V)} {n : Str} {v : V} {d : DV} {fs : List (Str × DV)} : vs.lookup n = some v → RV G v d → RFs G vs fs → RFs G vs ((n, d) :: fs)
end
abbrev RVs (G : Gh) : List V → List DV → Prop := Paired (RV G)
mutual
theorem RV.mono {G G' : Gh} (e : Same G.F G'.F) (eb : ∀ b, G.B b → G'.B b) : ∀ {v : V} {d : DV}, RV G v d → RV G' v d
  | _, _, .py h => .py (Rp.mono e _ _ h)
  | _, _, .ins h1 h2 => .ins (e _ _ h1) (RFs.mono e eb h2)
  | _, _, .box h => .box (eb _ h)
  | _, _, .scr h => .scr (h.elim (fun h => .inl (h.elim (fun h => .inl (e _ _ h)) fun ⟨o, h⟩ => .inr ⟨o, e _ _ h⟩)) .inr)
  | _, _, .ref => .ref
  | _, _, .ty => .ty
  | _, .lam W, .lam h => .lam (W.mono e h)
  | _, .lams W n, .lams h1 h2 h3 => .lams (e _ _ h1) h2 fun x hx => (h3 x hx).elim fun f hf => ⟨f, hf.1, W.mono e hf.2⟩
theorem RFs.mono {G G' : Gh} (e : Same G.F G'.F) (eb : ∀ b, G.B b → G'.B b) : ∀ {vs : List (Str × V)} {fs : List (Str × DV)}, RFs G vs fs → RFs G' vs fs
  | _, _, .nil => .nil
  | _, _, .cons h1 h2 h3 => .cons h1 (RV.mono e eb h2) (RFs.mono e eb h3)
end
theorem RVs.mono {G G' : Gh} (e : Same G.F G'.F) (eb : ∀ b, G.B b → G'.B b) {vs : List V} {ds : List DV} (h : RVs G vs ds) : RVs G' vs ds := Paired.mapP h fun _ _ z => z.mono e eb
theorem RFs.get {G : Gh} {vs : List (Str × V)} {n : Str} {d : DV} : ∀ {fs : List (Str × DV)}, RFs G vs fs → fs.lookup n = some d → ∃ v, vs.lookup n = some v ∧ RV G v d
  | [], _, h => by cases h
  | (m, x) :: fs, .cons h1 h2 h3, h => by
    rw [List.lookup_cons] at h
    split at h
    · rename_i e
      have e : n = m := by simpa using e
      subst e
      cases h
      exact ⟨_, h1, h2⟩
    · exact RFs.get h3 h

/-- the box of draws at b: n whole numbers, the first one not below zero -/
def BoxN (n : Nat) (H : Hp) (b : Addr) : Prop := ∃ (c0 : Int) (cs : List Int), H b = some (.lst (.int c0 :: cs.map V.int)) ∧ cs.length + 1 = n ∧ 0 ≤ c0
/-- what stays fixed: the written part, the tables of lambdas, the box's size -/
structure Sx where
  K : PySem.W.Frag
  Tb : List (Addr × Str)
  nb : Nat
structure Wf (S : Sx) (G : Gh) (H : Hp) : Prop where
  sub : Same G.F H
  box : ∀ b, G.B b → BoxN S.nb H b ∧ G.F b = none
  tbl : ∀ a z, G.F a ≠ some (.tbl z)
  tabs : LamX.Tabs S.Tb H
/-- no thing but a table stands there -/
def Fr (H : Hp) (p : Addr) : Prop := ∀ o, H p = some o → ∃ z, o = .tbl z
theorem Fr.of {H : Hp} {p : Addr} (n : H p = none) : Fr H p := fun o h => by
  rw [n] at h
  cases h
theorem Fr.ne {H : Hp} {p x : Addr} {u : HO} (n : Fr H p) (h : H x = some u) (nt : ∀ z, u ≠ .tbl z) : x ≠ p := by
  rintro rfl
  obtain ⟨z, e⟩ := n u h
  exact nt z e
/-- a list or an instance -/
def MutD : HO → Prop
  | .lst _ => True
  | .ins _ _ _ => True
  | _ => False
/-- from G, H to G', H': nothing is changed but boxes and tables; more may be frozen, but no thing that could be written and was not -/
structure Step (S : Sx) (G : Gh) (H : Hp) (G' : Gh) (H' : Hp) : Prop where
  w0 : Wf S G H
  wf : Wf S G' H'
  fm : Same G.F G'.F
  bm : ∀ b, G.B b → G'.B b
  keep : ∀ a o, H a = some o → ¬ G.B a → (∀ z, o ≠ .tbl z) → H' a = some o
  nf : ∀ a o, H a = some o → MutD o → G.F a = none → G'.F a = none
  nb : ∀ a o, H a = some o → (∀ z, o ≠ .tbl z) → ¬ G.B a → ¬ G'.B a
  there : ∀ a o, H a = some o → (∀ z, o ≠ .tbl z) → ∃ o', H' a = some o' ∧ ∀ z, o' ≠ .tbl z
theorem not_tbl_of_mut {o : HO} (h : MutD o) : ∀ z, o ≠ .tbl z := by
  rintro z rfl
  exact h
section
variable {S : Sx} {G G0 G1 G2 : Gh} {H H0 H1 H2 H' : Hp} {p : Addr} {o : HO}
theorem Step.refl (w : Wf S G H) : Step S G H G H := ⟨w, w, Same.refl _, fun _ h => h, fun _ _ h _ _ => h, fun _ _ _ _ h => h, fun _ _ _ _ h => h, fun _ _ h n => ⟨_, h, n⟩⟩
theorem Step.trans (a : Step S G H G1 H1) (b : Step S G1 H1 G2 H2) : Step S G H G2 H2 where
  w0 := a.w0
  wf := b.wf
  fm := a.fm.trans b.fm
  bm := fun x h => b.bm x (a.bm x h)
  keep := fun x o h n t => b.keep x o (a.keep x o h n t) (a.nb x o h t n) t
  nf := fun x o h m f => by
    by_cases z : G.B x
    · exact (b.wf.box x (b.bm x (a.bm x z))).2
    · exact b.nf x o (a.keep x o h z (not_tbl_of_mut m)) m (a.nf x o h m f)
  nb := fun x o h t n => by
    obtain ⟨o', h', t'⟩ := a.there x o h t
    exact b.nb x o' h' t' (a.nb x o h t n)
  there := fun x o h t => by
    obtain ⟨o', h', t'⟩ := a.there x o h t
    exact b.there x o' h' t'
theorem BoxN.same {n : Nat} {b : Addr} (h : BoxN n H b) (e : Same H H') : BoxN n H' b := by
  obtain ⟨c0, cs, h1, h2, h3⟩ := h
  exact ⟨c0, cs, e _ _ h1, h2, h3⟩
theorem BoxN.some {n : Nat} {b : Addr} (h : BoxN n H b) : ∃ o, H b = some o := by
  obtain ⟨c0, cs, h1, _⟩ := h
  exact ⟨_, h1⟩
theorem Wf.same (w : Wf S G H) (e : Same H H') : Wf S G H' := ⟨w.sub.trans e, fun b h => ⟨(w.box b h).1.same e, (w.box b h).2⟩, w.tbl, w.tabs.ext e⟩
theorem Step.same (w : Wf S G H) (e : Same H H') : Step S G H G H' := ⟨w, w.same e, Same.refl _, fun _ h => h, fun _ _ h _ _ => e _ _ h, fun _ _ _ _ h => h, fun _ _ _ _ h => h, fun _ _ h n => ⟨_, e _ _ h, n⟩⟩
theorem Step.new (w : Wf S G H) (n : H p = none) : Step S G H G (upd H p o) := Step.same w (same_new n)
abbrev Gh.put (G : Gh) (p : Addr) (o : HO) : Gh := ⟨upd G.F p o, G.B⟩
theorem put_same : (G.put p o).F p = some o := upd_same
theorem put_ne {a : Addr} (z : a ≠ p) : (G.put p o).F a = G.F a := upd_ne z
theorem same_upd {F : Hp} (h : F p = none ∨ F p = some o) : Same F (upd F p o) := fun a x e => by
  by_cases z : a = p
  · subst z
    rcases h with h | h
    · rw [h] at e
      cases e
    · rw [h] at e
      cases e
      exact upd_same
  · rw [upd_ne z]
    exact e
theorem Wf.free (w : Wf S G H) (n : H p = none) : G.F p = none := by
  cases q : G.F p with
  | none => rfl
  | some x =>
    rw [w.sub _ _ q] at n
    cases n
theorem Wf.put (w : Wf S G H) (h : H p = some o) (nt : ∀ z, o ≠ .tbl z) (nb : ¬ G.B p) : Wf S (G.put p o) H := by
  refine ⟨fun a x e => ?_, fun b hb => ⟨(w.box b hb).1, ?_⟩, fun a z e => ?_, w.tabs⟩
  · by_cases z : a = p
    · subst z
      rw [put_same] at e
      cases e
      exact h
    · rw [put_ne z] at e
      exact w.sub _ _ e
  · by_cases z : b = p
    · subst z
      exact absurd hb nb
    · show upd G.F p o b = none
      rw [upd_ne z]
      exact (w.box b hb).2
  · by_cases y : a = p
    · subst y
      rw [show (G.put a o).F a = some o from upd_same] at e
      cases e
      exact nt z rfl
    · rw [show (G.put p o).F a = G.F a from upd_ne y] at e
      exact w.tbl a z e
theorem Wf.agree (w : Wf S G H) (h : H p = some o) : G.F p = none ∨ G.F p = some o := by
  cases q : G.F p with
  | none => exact .inl rfl
  | some x =>
    rw [w.sub _ _ q] at h
    exact .inr h
/-- a thing that is younger than the entry is frozen -/
theorem Step.freeze (a : Step S G0 H0 G H) (h : H p = some o) (nt : ∀ z, o ≠ .tbl z) (n0 : Fr H0 p) (nb : ¬ G.B p) : Step S G0 H0 (G.put p o) H where
  w0 := a.w0
  wf := a.wf.put h nt nb
  fm := a.fm.trans (same_upd (a.wf.agree h))
  bm := a.bm
  keep := a.keep
  nf := fun x u hx m f => by
    show upd G.F p o x = none
    rw [upd_ne (n0.ne hx (not_tbl_of_mut m))]
    exact a.nf x u hx m f
  nb := a.nb
  there := a.there
/-- a tuple may be frozen at any time -/
theorem Step.freezeT {xs : List V} (a : Step S G0 H0 G H) (h : H p = some (.tup xs)) (nb : ¬ G.B p) : Step S G0 H0 (G.put p (.tup xs)) H where
  w0 := a.w0
  wf := a.wf.put h (fun z e => by cases e) nb
  fm := a.fm.trans (same_upd (a.wf.agree h))
  bm := a.bm
  keep := a.keep
  nf := fun x u hx m f => by
    have z : x ≠ p := by
      rintro rfl
      by_cases b : G0.B x
      · obtain ⟨c0, cs, q, _⟩ := (a.wf.box x (a.bm x b)).1
        rw [h] at q
        cases q
      · have q := a.keep x u hx b (not_tbl_of_mut m)
        rw [h] at q
        cases q
        exact m
    show upd G.F p (.tup xs) x = none
    rw [upd_ne z]
    exact a.nf x u hx m f
  nb := a.nb
  there := a.there
/-- what is neither a list nor an instance may be frozen at any time -/
theorem Step.freezeI (a : Step S G0 H0 G H) (h : H p = some o) (nt : ∀ z, o ≠ .tbl z) (nm : ¬ MutD o) (nb : ¬ G.B p) : Step S G0 H0 (G.put p o) H where
  w0 := a.w0
  wf := a.wf.put h nt nb
  fm := a.fm.trans (same_upd (a.wf.agree h))
  bm := a.bm
  keep := a.keep
  nf := fun x u hx m f => by
    have z : x ≠ p := by
      rintro rfl
      by_cases b : G0.B x
      · obtain ⟨c0, cs, q, _⟩ := (a.wf.box x (a.bm x b)).1
        rw [h] at q
        cases q
        exact nm trivial
      · have q := a.keep x u hx b (not_tbl_of_mut m)
        rw [h] at q
        cases q
        exact nm m
    show upd G.F p o x = none
    rw [upd_ne z]
    exact a.nf x u hx m f
  nb := a.nb
  there := a.there
theorem Wf.box_ne (w : Wf S G H) (n : H p = none) : ¬ G.B p := fun hb => by
  obtain ⟨o, h⟩ := (w.box p hb).1.some
  rw [n] at h
  cases h
/-- a new thing, frozen at once -/
theorem Step.newF (w : Wf S G H) (n : H p = none) (nt : ∀ z, o ≠ .tbl z) : Step S G H (G.put p o) (upd H p o) :=
  (Step.new (o := o) w n).freeze upd_same nt (.of n) (w.box_ne n)
/-- a box is drawn from -/
theorem Step.draw {b : Addr} (w : Wf S G H) (hb : G.B b) (e : ∀ a x, H a = some x → a ≠ b → H' a = some x) (h' : BoxN S.nb H' b) : Step S G H G H' := by
  obtain ⟨⟨c0, cs, hb0, _⟩, hf⟩ := w.box b hb
  refine ⟨w, ⟨fun a x h => ?_, fun c hc => ?_, w.tbl, ?_⟩, Same.refl _, fun _ h => h, fun a x h n t => e a x h ?_, fun _ _ _ _ h => h, fun _ _ _ _ h => h, fun a x h nt => ?_⟩
  · refine e a x (w.sub _ _ h) ?_
    rintro rfl
    rw [hf] at h
    cases h
  · by_cases z : c = b
    · subst z
      exact ⟨h', hf⟩
    · obtain ⟨⟨d0, ds, hc1, hc2, hc3⟩, hcf⟩ := w.box c hc
      exact ⟨⟨d0, ds, e _ _ hc1 z, hc2, hc3⟩, hcf⟩
  · exact tabs_but hb0 (fun a x h n => e a x h n) w.tabs
  · rintro rfl
    exact n hb
  · by_cases z : a = b
    · subst z
      obtain ⟨d0, ds, hc1, _⟩ := h'
      exact ⟨_, hc1, fun z e => by cases e⟩
    · exact ⟨x, e a x h z, nt⟩
/-- all but tables stays -/
theorem Step.lam (w : Wf S G H) (e : LamX.ExtN H H') (t : LamX.Tabs S.Tb H') : Step S G H G H' := by
  refine ⟨w, ⟨fun a x h => e a x (w.sub _ _ h) (fun z q => w.tbl a z (by rw [h, q])), fun c hc => ?_, w.tbl, t⟩, Same.refl _, fun _ h => h, fun a x h n t => e a x h t, fun _ _ _ _ h => h, fun _ _ _ _ h => h, fun a o h n => ⟨o, e a o h n, n⟩⟩
  obtain ⟨⟨d0, ds, hc1, hc2, hc3⟩, hcf⟩ := w.box c hc
  exact ⟨⟨d0, ds, e _ _ hc1 (fun z q => by cases q), hc2, hc3⟩, hcf⟩
end
end Dl

set_option Elab.async false
set_option linter.all false
set_option maxRecDepth 100000
set_option maxHeartbeats 4000000
/-! the data layer: readings over data -/
namespace Dl
open PySem PySem.Spec PyProof.Rows L2 Lx

/-- an error: its class, its one field -/
structure Er where
  C : Addr
  fld : Str
  v : DV
/-- what a slot holds: data; a list of the def's own that may still be written -/
inductive SV where
  | dv (d : DV) | own (l : List PyData) | ini (p dx C : Addr) (fs : List (Str × DV))
abbrev Rho := List (Option SV)
abbrev TD := Rho → (DV → Prop) → (Er → Prop) → Prop
abbrev TAD := Rho → (List DV → Prop) → (Er → Prop) → Prop
abbrev TTD := Rho → (Bool → Prop) → (Er → Prop) → Prop
abbrev TOD := Rho → (List PyData → Prop) → (Er → Prop) → Prop
def RS (G : Gh) (H0 H : Hp) (v : V) : SV → Prop
  | .dv d => RV G v d
  | .own l => ∃ p vs, v = .ref p ∧ H p = some (.lst vs) ∧ G.F p = none ∧ ¬ G.B p ∧ Fr H0 p ∧ RpA G.F vs l
  | .ini p dx C fs => ∃ vs, v = .ref p ∧ H p = some (.ins C dx vs) ∧ G.F p = none ∧ ¬ G.B p ∧ Fr H0 p ∧ Paired (fun a b => a.1 = b.1 ∧ RV G a.2 b.2) vs fs
structure StR (G : Gh) (H0 H : Hp) (σ : L2.St) (ρ : Rho) : Prop where
  len : ρ.length = σ.length
  at_ : ∀ (i : Nat) (x : SV), ρ[i]? = some (some x) → ∃ v, σ[i]? = some (some v) ∧ RS G H0 H v x
  sep : ∀ (i j : Nat) (l l' : List PyData) (p : Addr), ρ[i]? = some (some (.own l)) → ρ[j]? = some (some (.own l')) → σ[i]? = some (some (.ref p)) → σ[j]? = some (some (.ref p)) → i = j
section
variable {S : Sx} {E : XK} {G G' : Gh} {H0 H H' : Hp} {σ : L2.St} {ρ : Rho}
theorem RS.step {v : V} {x : SV} (h : RS G H0 H v x) (s : Step S G H G' H') : RS G' H0 H' v x := by
  cases x with
  | dv d => exact RV.mono s.fm s.bm h
  | own l =>
    obtain ⟨p, vs, h1, h2, h3, h4, h5, h6⟩ := h
    exact ⟨p, vs, h1, s.keep _ _ h2 h4 (fun z e => by cases e), s.nf _ _ h2 trivial h3, s.nb _ _ h2 (fun z e => by cases e) h4, h5, RpA.mono s.fm _ _ h6⟩
  | ini p dx C fs =>
    obtain ⟨vs, h1, h2, h3, h4, h5, h6⟩ := h
    exact ⟨vs, h1, s.keep _ _ h2 h4 (fun z e => by cases e), s.nf _ _ h2 trivial h3, s.nb _ _ h2 (fun z e => by cases e) h4, h5, Paired.mapP h6 fun _ _ z => ⟨z.1, z.2.mono s.fm s.bm⟩⟩
theorem StR.step (h : StR G H0 H σ ρ) (s : Step S G H G' H') : StR G' H0 H' σ ρ := ⟨h.len, fun i x e => by
  obtain ⟨v, h1, h2⟩ := h.at_ i x e
  exact ⟨v, h1, h2.step s⟩, h.sep⟩
theorem Step.was_free {p : Addr} (s : Step S G H G' H') (n : Fr H' p) : Fr H p := fun o h => by
  apply Classical.byContradiction
  intro q
  have nt : ∀ z, o ≠ .tbl z := fun z e => q ⟨z, e⟩
  obtain ⟨o', h', t'⟩ := s.there p o h nt
  obtain ⟨z, e⟩ := n o' h'
  exact t' z e
/-- an error that flies -/
def ErAt (G : Gh) (H : Hp) (cls : Value) (d : Option Addr) (e : Er) : Prop := cls = .ref e.C ∧ ∃ dd v, d = some dd ∧ H dd = some (.xd [(e.fld, v)]) ∧ RV G v e.v
/-- what an expression's reading is over data -/
def LE (S : Sx) (E : XK) (T : TE) (t : TD) : Prop := ∀ (H0 : Hp) (ρ : Rho) (σ : L2.St) (G : Gh) (H : Hp) (Qd : DV → Prop) (Ed : Er → Prop) (Q : VK), Wf S G H → StR G H0 H σ ρ → t ρ Qd Ed →
  (∀ v d G' H', Step S G H G' H' → RV G' v d → Qd d → Q v H') → (∀ e cls d G' H', Step S G H G' H' → ErAt G' H' cls d e → Ed e → E cls d H') → T σ H Q
def LA (n : Nat) (S : Sx) (E : XK) (T : TA) (t : TAD) : Prop := ∀ (H0 : Hp) (ρ : Rho) (σ : L2.St) (G : Gh) (H : Hp) (Qd : List DV → Prop) (Ed : Er → Prop) (Q : List V → Hp → Prop), Wf S G H → StR G H0 H σ ρ → t ρ Qd Ed →
  (∀ vs ds G' H', Step S G H G' H' → vs.length = n → RVs G' vs ds → Qd ds → Q vs H') → (∀ e cls d G' H', Step S G H G' H' → ErAt G' H' cls d e → Ed e → E cls d H') → T σ H Q
def LT (S : Sx) (E : XK) (T : TT) (t : TTD) : Prop := ∀ (H0 : Hp) (ρ : Rho) (σ : L2.St) (G : Gh) (H : Hp) (Qd : Bool → Prop) (Ed : Er → Prop) (Q : Bool → Hp → Prop), Wf S G H → StR G H0 H σ ρ → t ρ Qd Ed →
  (∀ b G' H', Step S G H G' H' → Qd b → Q b H') → (∀ e cls d G' H', Step S G H G' H' → ErAt G' H' cls d e → Ed e → E cls d H') → T σ H Q
/-- an expression that makes a new list -/
def LO (S : Sx) (E : XK) (T : TE) (t : TOD) : Prop := ∀ (H0 : Hp) (ρ : Rho) (σ : L2.St) (G : Gh) (H : Hp) (Qd : List PyData → Prop) (Ed : Er → Prop) (Q : VK), Wf S G H → StR G H0 H σ ρ → t ρ Qd Ed →
  (∀ p vs l G' H', Step S G H G' H' → Fr H p → H' p = some (.lst vs) → G'.F p = none → ¬ G'.B p → RpA G'.F vs l → Qd l → Q (.ref p) H') → (∀ e cls d G' H', Step S G H G' H' → ErAt G' H' cls d e → Ed e → E cls d H') → T σ H Q
def dOf (t : TOD) : TD := fun ρ Qd Ed => t ρ (fun l => Qd (.lst l)) Ed
theorem LO.le {T : TE} {t : TOD} (h : LO S E T t) : LE S E T (dOf t) := fun H0 ρ σ G H Qd Ed Q w st q k ke =>
  h H0 ρ σ G H _ Ed Q w st q (fun p vs l G' H' s n hp nf nb r q => k (.ref p) _ _ H' (s.freeze hp (fun z e => by cases e) n nb) (.py (.lst put_same (RpA.mono (same_upd (.inl nf)) _ _ r))) q) ke

theorem papp {α β : Type} {F : α → β → Prop} : ∀ {l l2 : List α} {r r2 : List β}, Paired F l r → Paired F l2 r2 → Paired F (l ++ l2) (r ++ r2)
  | _, _, _, _, .nil, h => h
  | _, _, _, _, .cons h t, k => .cons h (papp t k)
/-! ### names, constants -/
def dVar (i : Nat) : TD := fun ρ Qd _ => match ρ[i]? with
  | some (some (.dv d)) => Qd d
  | _ => False
theorem le_var {i : Nat} : LE S E (tVar i) (dVar i) := by
  intro H0 ρ σ G H Qd Ed Q w st q k ke
  unfold dVar at q
  split at q
  · rename_i d e
    obtain ⟨v, h1, h2⟩ := st.at_ i _ e
    exact ⟨v, h1, k v d G H (Step.refl w) h2 q⟩
  · exact q.elim
def dC (d : DV) : TD := fun _ Qd _ => Qd d
theorem le_c {v : V} {d : DV} (h : ∀ G, RV G v d) : LE S E (tC v) (dC d) := fun H0 ρ σ G H Qd Ed Q w st q k ke => k v d G H (Step.refl w) (h G) q
theorem le_int {i : Int} : LE S E (tC (.int i)) (dC (.int i)) := le_c fun _ => .py (.int i)
theorem le_bl {b : Bool} : LE S E (tC (.bl b)) (dC (.bl b)) := le_c fun _ => .py (.bl b)
theorem le_str {x : Str} : LE S E (tC (.str x)) (dC (.str x)) := le_c fun _ => .py (.str x)
theorem le_non : LE S E (tC .non) (dC .non) := le_c fun _ => .py .non
theorem le_ref {a : Addr} : LE S E (tC (.ref a)) (dC (.ref a)) := le_c fun _ => .ref
theorem le_ty {n : String} : LE S E (tC (.ty n)) (dC (.ty n)) := le_c fun _ => .ty

/-! ### operations by values -/
abbrev F2 := DV → DV → (DV → Prop) → Prop
def L2r (S : Sx) (r : R2) (f : F2) : Prop := ∀ (G : Gh) (H : Hp) (x y : V) (dx dy : DV) (Qd : DV → Prop) (Q : VK), Wf S G H → RV G x dx → RV G y dy → f dx dy Qd → (∀ v d G' H', Step S G H G' H' → RV G' v d → Qd d → Q v H') → r x y H Q
def dOp (f : F2) (ta tb : TD) : TD := fun ρ Qd Ed => ta ρ (fun x => tb ρ (fun y => f x y Qd) Ed) Ed
theorem le_op {r : R2} {f : F2} {Ta Tb : TE} {ta tb : TD} (hr : L2r S r f) (ha : LE S E Ta ta) (hb : LE S E Tb tb) : LE S E (tOp r Ta Tb) (dOp f ta tb) := by
  intro H0 ρ σ G H Qd Ed Q w st q k ke
  refine ha H0 ρ σ G H _ Ed _ w st q (fun x dx G1 H1 s1 rx q1 => ?_) ke
  refine hb H0 ρ σ G1 H1 _ Ed _ s1.wf (st.step s1) q1 (fun y dy G2 H2 s2 ry q2 => ?_) (fun e cls d G2 H2 s2 he h => ke e cls d G2 H2 (s1.trans s2) he h)
  exact hr G2 H2 x y dx dy Qd Q s2.wf (rx.mono s2.fm s2.bm) ry q2 fun v d G3 H3 s3 rv q3 => k v d G3 H3 (s1.trans (s2.trans s3)) rv q3
abbrev F1 := DV → (DV → Prop) → Prop
def L1r (S : Sx) (r : V → Hp → VK → Prop) (f : F1) : Prop := ∀ (G : Gh) (H : Hp) (x : V) (dx : DV) (Qd : DV → Prop) (Q : VK), Wf S G H → RV G x dx → f dx Qd → (∀ v d G' H', Step S G H G' H' → RV G' v d → Qd d → Q v H') → r x H Q
def dUn (f : F1) (ta : TD) : TD := fun ρ Qd Ed => ta ρ (fun x => f x Qd) Ed
theorem le_un {r : V → Hp → VK → Prop} {f : F1} {Ta : TE} {ta : TD} (hr : L1r S r f) (ha : LE S E Ta ta) : LE S E (tUn r Ta) (dUn f ta) := by
  intro H0 ρ σ G H Qd Ed Q w st q k ke
  refine ha H0 ρ σ G H _ Ed _ w st q (fun x dx G1 H1 s1 rx q1 => ?_) ke
  exact hr G1 H1 x dx Qd Q s1.wf rx q1 fun v d G3 H3 s3 rv q3 => k v d G3 H3 (s1.trans s3) rv q3
/-! ### arguments -/
def dNil : TAD := fun _ Qd _ => Qd []
theorem la_nil : LA 0 S E tNil dNil := fun H0 ρ σ G H Qd Ed Q w st q k ke => k [] [] G H (Step.refl w) rfl .nil q
def dCons (ta : TD) (tr : TAD) : TAD := fun ρ Qd Ed => ta ρ (fun x => tr ρ (fun xs => Qd (x :: xs)) Ed) Ed
theorem la_cons {n : Nat} {Ta : TE} {Tr : TA} {ta : TD} {tr : TAD} (ha : LE S E Ta ta) (hr : LA n S E Tr tr) : LA (n + 1) S E (tCons Ta Tr) (dCons ta tr) := by
  intro H0 ρ σ G H Qd Ed Q w st q k ke
  refine ha H0 ρ σ G H _ Ed _ w st q (fun x dx G1 H1 s1 rx q1 => ?_) ke
  refine hr H0 ρ σ G1 H1 _ Ed _ s1.wf (st.step s1) q1 (fun ys dys G2 H2 s2 hl ry q2 => ?_) (fun e cls d G2 H2 s2 he h => ke e cls d G2 H2 (s1.trans s2) he h)
  exact k (x :: ys) (dx :: dys) G2 H2 (s1.trans s2) (by rw [List.length_cons, hl]) (.cons (rx.mono s2.fm s2.bm) ry) q2
/-- data among the values -/
def pys : List DV → Option (List PyData)
  | [] => some []
  | .py d :: r => match pys r with
    | some l => some (d :: l)
    | none => none
  | _ :: _ => none
theorem pys_rp {G : Gh} : ∀ {ds : List DV} {vs : List V} {l : List PyData}, RVs G vs ds → pys ds = some l → RpA G.F vs l
  | [], _, _, .nil, e => by cases e; exact .nil
  | .py d :: r, _, _, .cons h t, e => by
    unfold pys at e
    split at e
    · rename_i l' e'
      cases e
      cases h with
      | py h => exact .cons h (pys_rp t e')
    · cases e
  | .ins _ _ :: _, _, _, _, e => by cases e
  | .box :: _, _, _, _, e => by cases e
  | .scr _ _ :: _, _, _, _, e => by cases e
  | .ref _ :: _, _, _, _, e => by cases e
  | .ty _ :: _, _, _, _, e => by cases e
def dTup (ta : TAD) : TD := fun ρ Qd Ed => ta ρ (fun ds => match pys ds with
  | some l => Qd (.tup l)
  | none => False) Ed
theorem le_tup {n : Nat} {Ta : TA} {ta : TAD} (ha : LA n S E Ta ta) (hn : n ≤ 1000) : LE S E (tTup Ta) (dTup ta) := by
  intro H0 ρ σ G H Qd Ed Q w st q k ke
  refine ha H0 ρ σ G H _ Ed _ w st q (fun vs ds G1 H1 s1 hl rs q1 => ?_) ke
  refine ⟨by rw [hl, sizeLine_eq]; omega, fun p np => ?_⟩
  cases e : pys ds with
  | none =>
    rw [e] at q1
    exact q1.elim
  | some l =>
    rw [e] at q1
    exact k _ _ _ _ (s1.trans (Step.newF (o := .tup vs) s1.wf np (fun z e => by cases e))) (.py (.tup put_same (RpA.mono (same_upd (.inl (s1.wf.free np))) _ _ (pys_rp rs e)))) q1
def oLst (ta : TAD) : TOD := fun ρ Qd Ed => ta ρ (fun ds => match pys ds with
  | some l => Qd l
  | none => False) Ed
theorem lo_lst {n : Nat} {Ta : TA} {ta : TAD} (ha : LA n S E Ta ta) (hn : n ≤ 1000) : LO S E (tLst Ta) (oLst ta) := by
  intro H0 ρ σ G H Qd Ed Q w st q k ke
  refine ha H0 ρ σ G H _ Ed _ w st q (fun vs ds G1 H1 s1 hl rs q1 => ?_) ke
  refine ⟨by rw [hl, sizeLine_eq]; omega, fun p np => ?_⟩
  cases e : pys ds with
  | none =>
    rw [e] at q1
    exact q1.elim
  | some l =>
    rw [e] at q1
    exact k p vs l G1 _ (s1.trans (Step.new s1.wf np)) (s1.was_free (.of np)) upd_same (s1.wf.free np) (s1.wf.box_ne np) (pys_rp rs e) q1

/-! ### a built-in, a def called -/
abbrev FA := List DV → (DV → Prop) → Prop
def LCr (S : Sx) (r : List V → Hp → VK → Prop) (f : FA) : Prop := ∀ (G : Gh) (H : Hp) (xs : List V) (ds : List DV) (Qd : DV → Prop) (Q : VK), Wf S G H → RVs G xs ds → f ds Qd → (∀ v d G' H', Step S G H G' H' → RV G' v d → Qd d → Q v H') → r xs H Q
def dCB (f : FA) (ta : TAD) : TD := fun ρ Qd Ed => ta ρ (fun ds => f ds Qd) Ed
theorem le_cb {n : Nat} {r : List V → Hp → VK → Prop} {f : FA} {Ta : TA} {ta : TAD} (hr : LCr S r f) (ha : LA n S E Ta ta) : LE S E (tCB r Ta) (dCB f ta) := by
  intro H0 ρ σ G H Qd Ed Q w st q k ke
  refine ha H0 ρ σ G H _ Ed _ w st q (fun xs ds G1 H1 s1 hl rx q1 => ?_) ke
  exact hr G1 H1 xs ds Qd Q s1.wf rx q1 fun v d G3 H3 s3 rv q3 => k v d G3 H3 (s1.trans s3) rv q3
/-- .. that makes a new list -/
abbrev FO := List DV → (List PyData → Prop) → Prop
def LCo (S : Sx) (r : List V → Hp → VK → Prop) (f : FO) : Prop := ∀ (G : Gh) (H : Hp) (xs : List V) (ds : List DV) (Qd : List PyData → Prop) (Q : VK), Wf S G H → RVs G xs ds → f ds Qd →
  (∀ p vs l G' H', Step S G H G' H' → Fr H p → H' p = some (.lst vs) → G'.F p = none → ¬ G'.B p → RpA G'.F vs l → Qd l → Q (.ref p) H') → r xs H Q
def oCB (f : FO) (ta : TAD) : TOD := fun ρ Qd Ed => ta ρ (fun ds => f ds Qd) Ed
theorem lo_cb {n : Nat} {r : List V → Hp → VK → Prop} {f : FO} {Ta : TA} {ta : TAD} (hr : LCo S r f) (ha : LA n S E Ta ta) : LO S E (tCB r Ta) (oCB f ta) := by
  intro H0 ρ σ G H Qd Ed Q w st q k ke
  refine ha H0 ρ σ G H _ Ed _ w st q (fun xs ds G1 H1 s1 hl rx q1 => ?_) ke
  exact hr G1 H1 xs ds Qd Q s1.wf rx q1 fun p vs l G3 H3 s3 n h1 h2 h3 h4 q3 => k p vs l G3 H3 (s1.trans s3) (s1.was_free n) h1 h2 h3 h4 q3
/-- a def's promise over data -/
abbrev SpD := List DV → (DV → Prop) → (Er → Prop) → Prop
def spD (S : Sx) (n : Nat) (sp : SpD) : Sp := fun vs H Q E => ∃ G ds Qd Ed, vs.length = n ∧ Wf S G H ∧ RVs G vs ds ∧ sp ds Qd Ed ∧ (∀ v d G' H', Step S G H G' H' → RV G' v d → Qd d → Q v H') ∧
  (∀ e cls d G' H', Step S G H G' H' → ErAt G' H' cls d e → Ed e → E cls d H')
def dCall (sp : SpD) (ta : TAD) : TD := fun ρ Qd Ed => ta ρ (fun ds => sp ds Qd Ed) Ed
def dCall0 (sp : SpD) (ta : TAD) : TD := fun ρ Qd Ed => ta ρ (fun ds => sp ds Qd fun _ => False) Ed
theorem le_call {n : Nat} {sp : SpD} {Ta : TA} {ta : TAD} (ha : LA n S E Ta ta) : LE S E (tCall (spD S n sp) [] E Ta) (dCall sp ta) := by
  intro H0 ρ σ G H Qd Ed Q w st q k ke
  refine ha H0 ρ σ G H _ Ed _ w st q (fun xs ds G1 H1 s1 hl rx q1 => ?_) ke
  exact ⟨G1, ds, Qd, Ed, by rw [List.append_nil]; exact hl, s1.wf, by rw [List.append_nil]; exact rx, q1, fun v d G' H' s rv q => k v d G' H' (s1.trans s) rv q, fun e cls d G' H' s he h => ke e cls d G' H' (s1.trans s) he h⟩
theorem le_call0 {n : Nat} {sp : SpD} {Ta : TA} {ta : TAD} (ha : LA n S E Ta ta) : LE S E (tCall (spD S n sp) [] L2.E0 Ta) (dCall0 sp ta) := by
  intro H0 ρ σ G H Qd Ed Q w st q k ke
  refine ha H0 ρ σ G H _ Ed _ w st q (fun xs ds G1 H1 s1 hl rx q1 => ?_) ke
  exact ⟨G1, ds, Qd, _, by rw [List.append_nil]; exact hl, s1.wf, by rw [List.append_nil]; exact rx, q1, fun v d G' H' s rv q => k v d G' H' (s1.trans s) rv q, fun e cls d G' H' s he h => h.elim⟩
/-- a default at the end: its value is known -/
theorem le_callD {n : Nat} {sp : SpD} {Ta : TA} {ta : TAD} {dvs : List V} {dds : List DV} (hd : ∀ G, RVs G dvs dds) (ha : LA n S E Ta ta) : LE S E (tCall (spD S (n + dvs.length) sp) dvs L2.E0 Ta) (dCall0 (fun ds => sp (ds ++ dds)) ta) := by
  intro H0 ρ σ G H Qd Ed Q w st q k ke
  refine ha H0 ρ σ G H _ Ed _ w st q (fun xs ds G1 H1 s1 hl rx q1 => ?_) ke
  refine ⟨G1, ds ++ dds, Qd, _, by rw [List.length_append, hl], s1.wf, ?_, q1, fun v d G' H' s rv q => k v d G' H' (s1.trans s) rv q, fun e cls d G' H' s he h => h.elim⟩
  exact papp rx (hd G1)
end
end Dl

set_option Elab.async false
set_option linter.all false
set_option maxRecDepth 100000
set_option maxHeartbeats 4000000
/-! the data layer: operators, subscripts, slices, built-ins -/
namespace Dl
open PySem PySem.Spec PyProof.Rows L2 Lx
theorem opR_or {X : Cx} {f : Value → Value → Sem Value} {r r' : R2} (h : OpR X f r) (h' : OpR X f r') : OpR X f (fun x y H Q => r x y H Q ∨ r' x y H Q) := by
  rintro pins s σ H x y v u Q I rx ry (q | q)
  · exact h pins s σ H x y v u Q I rx ry q
  · exact h' pins s σ H x y v u Q I rx ry q
theorem rp_len {F : Hp} {xs : List V} {ds : List PyData} (h : RpA F xs ds) : xs.length = ds.length := Paired.length h
section
variable {S : Sx} {G : Gh} {H : Hp} {x : V}
theorem rv_int {i : Int} (h : RV G x (.py (.int i))) : x = .int i := by
  cases h with
  | py h => cases h; rfl
theorem rv_bl {b : Bool} (h : RV G x (.py (.bool b))) : x = .bl b := by
  cases h with
  | py h => cases h; rfl
theorem rv_str {z : Str} (h : RV G x (.py (.str z))) : x = .str z := by
  cases h with
  | py h => cases h; rfl
theorem rv_non (h : RV G x (.py .none)) : x = .non := by
  cases h with
  | py h => cases h; rfl
theorem rv_tup {l : List PyData} (h : RV G x (.py (.tuple l))) : ∃ p xs, x = .ref p ∧ G.F p = some (.tup xs) ∧ RpA G.F xs l := by
  cases h with
  | py h =>
    cases h with
    | tup h1 h2 => exact ⟨_, _, rfl, h1, h2⟩
theorem rv_lst {l : List PyData} (h : RV G x (.py (.list l))) : ∃ p xs, x = .ref p ∧ G.F p = some (.lst xs) ∧ RpA G.F xs l := by
  cases h with
  | py h =>
    cases h with
    | lst h1 h2 => exact ⟨_, _, rfl, h1, h2⟩
theorem rv_py {d : PyData} (h : RV G x (.py d)) : Rp G.F x d := by
  cases h with
  | py h => exact h
theorem rpa_app {F : Hp} {xs ys : List V} {a b : List PyData} (h : RpA F xs a) (k : RpA F ys b) : RpA F (xs ++ ys) (a ++ b) := papp h k
theorem rpa_nil {F : Hp} {xs : List V} {a : List PyData} (h : RpA F xs a) : xs = [] ↔ a = [] := by
  cases h with
  | nil => exact ⟨fun _ => rfl, fun _ => rfl⟩
  | cons _ _ => exact ⟨fun z => (List.cons_ne_nil _ _ z).elim, fun z => (List.cons_ne_nil _ _ z).elim⟩
theorem rpa_get {F : Hp} : ∀ {xs : List V} {a : List PyData} {i : Nat} {d : PyData}, RpA F xs a → a[i]? = some d → ∃ v, xs[i]? = some v ∧ Rp F v d
  | _, _, _, _, .nil, e => by simp at e
  | _, _, 0, _, .cons h _, e => by
    simp at e
    subst e
    exact ⟨_, rfl, h⟩
  | _, _, i + 1, _, .cons _ t, e => by
    obtain ⟨v, h1, h2⟩ := rpa_get (i := i) t (by simpa using e)
    exact ⟨v, by simpa using h1, h2⟩
theorem rpa_get' {F : Hp} : ∀ {xs : List V} {a : List PyData} {i : Nat} {v : V}, RpA F xs a → xs[i]? = some v → ∃ d, a[i]? = some d ∧ Rp F v d
  | _, _, _, _, .nil, e => by simp at e
  | _, _, 0, _, .cons h _, e => by
    simp at e
    subst e
    exact ⟨_, rfl, h⟩
  | _, _, i + 1, _, .cons _ t, e => by
    obtain ⟨v, h1, h2⟩ := rpa_get' (i := i) t (by simpa using e)
    exact ⟨v, by simpa using h1, h2⟩
theorem rpa_drop {F : Hp} : ∀ {xs : List V} {a : List PyData} (n : Nat), RpA F xs a → RpA F (xs.drop n) (a.drop n)
  | _, _, 0, h => h
  | _, _, _ + 1, .nil => .nil
  | _, _, n + 1, .cons _ t => rpa_drop n t
theorem rpa_take {F : Hp} : ∀ {xs : List V} {a : List PyData} (n : Nat), RpA F xs a → RpA F (xs.take n) (a.take n)
  | _, _, 0, _ => .nil
  | _, _, _ + 1, .nil => .nil
  | _, _, n + 1, .cons h t => .cons h (rpa_take n t)
theorem rpa_rep {F : Hp} {xs : List V} {a : List PyData} (h : RpA F xs a) : ∀ n : Nat, RpA F (List.replicate n xs).flatten (List.replicate n a).flatten
  | 0 => .nil
  | n + 1 => by
    rw [List.replicate_succ, List.replicate_succ, List.flatten_cons, List.flatten_cons]
    exact rpa_app h (rpa_rep h n)

/-! ### a + b -/
def rAddA (K : PySem.W.Frag) : R2 := fun x y H Q => (rI0 (fun i j => .int (i + j)) x y H Q ∨ rCatA K x y H Q) ∨ (rCat x y H Q ∨ ∃ i j, x = .str i ∧ y = .str j ∧ i.length + j.length ≤ sizeLine ∧ Q (.str (i ++ j)) H)
theorem op_addA {X : Cx} : OpR X (binaryOp .Add) (rAddA X.K) := opR_or (opR_or op_add op_catA) (opR_or op_cat op_add_str)
def fAdd : F2 := fun x y Q => match x, y with
  | .py (.int i), .py (.int j) => Q (.int (i + j))
  | .py (.str a), .py (.str b) => a.length + b.length ≤ 1000000 ∧ Q (.str (a ++ b))
  | .py (.tuple a), .py (.tuple b) => a.length + b.length ≤ 1000000 ∧ Q (.tup (a ++ b))
  | .py (.list a), .py (.list b) => a.length + b.length ≤ 1000000 ∧ Q (.lst (a ++ b))
  | _, _ => False
theorem l2_add : L2r S (rAddA S.K) fAdd := by
  intro G H x y dx dy Qd Q w rx ry q k
  unfold fAdd at q
  split at q
  · cases rv_int rx
    cases rv_int ry
    exact .inl (.inl ⟨_, _, rfl, rfl, k _ _ G H (Step.refl w) (.py (.int _)) q⟩)
  · rename_i a b
    cases rv_str rx
    cases rv_str ry
    exact .inr (.inr ⟨_, _, rfl, rfl, by rw [sizeLine_eq]; have := q.1; omega, k _ _ G H (Step.refl w) (.py (.str _)) q.2⟩)
  · rename_i a b
    obtain ⟨p, xs, rfl, h1, h2⟩ := rv_tup rx
    obtain ⟨p', ys, rfl, h3, h4⟩ := rv_tup ry
    refine .inl (.inr ⟨p, p', xs, ys, rfl, rfl, .inl (.inl (w.sub _ _ h1)), .inl (.inl (w.sub _ _ h3)), by rw [rp_len h2, rp_len h4, sizeLine_eq]; have := q.1; omega, fun e => ?_, fun _ e => ?_, fun _ _ t nt => ?_⟩)
    · have e' := (rpa_nil h2).mp e
      subst e'
      exact k _ _ G H (Step.refl w) ry q.2
    · have e' := (rpa_nil h4).mp e
      subst e'
      have z := q.2
      rw [List.append_nil] at z
      exact k _ _ G H (Step.refl w) rx z
    · exact k _ _ _ _ (Step.newF (o := .tup (xs ++ ys)) w nt (fun z e => by cases e)) (.py (.tup put_same (RpA.mono (same_upd (.inl (w.free nt))) _ _ (rpa_app h2 h4)))) q.2
  · rename_i a b
    obtain ⟨p, xs, rfl, h1, h2⟩ := rv_lst rx
    obtain ⟨p', ys, rfl, h3, h4⟩ := rv_lst ry
    exact .inr (.inl ⟨p, p', xs, ys, rfl, rfl, w.sub _ _ h1, w.sub _ _ h3, by rw [rp_len h2, rp_len h4, sizeLine_eq]; have := q.1; omega, fun t nt =>
      k _ _ _ _ (Step.newF (o := .lst (xs ++ ys)) w nt (fun z e => by cases e)) (.py (.lst put_same (RpA.mono (same_upd (.inl (w.free nt))) _ _ (rpa_app h2 h4)))) q.2⟩)
  · exact q.elim
/-- .. that makes a new list of the def's own -/
abbrev FO2 := DV → DV → (List PyData → Prop) → Prop
def L2o (S : Sx) (r : R2) (f : FO2) : Prop := ∀ (G : Gh) (H : Hp) (x y : V) (dx dy : DV) (Qd : List PyData → Prop) (Q : VK), Wf S G H → RV G x dx → RV G y dy → f dx dy Qd →
  (∀ p vs l G' H', Step S G H G' H' → Fr H p → H' p = some (.lst vs) → G'.F p = none → ¬ G'.B p → RpA G'.F vs l → Qd l → Q (.ref p) H') → r x y H Q
def oOp (f : FO2) (ta tb : TD) : TOD := fun ρ Qd Ed => ta ρ (fun x => tb ρ (fun y => f x y Qd) Ed) Ed
theorem lo_op {E : XK} {r : R2} {f : FO2} {Ta Tb : TE} {ta tb : TD} (hr : L2o S r f) (ha : LE S E Ta ta) (hb : LE S E Tb tb) : LO S E (tOp r Ta Tb) (oOp f ta tb) := by
  intro H0 ρ σ G H Qd Ed Q w st q k ke
  refine ha H0 ρ σ G H _ Ed _ w st q (fun x dx G1 H1 s1 rx q1 => ?_) ke
  refine hb H0 ρ σ G1 H1 _ Ed _ s1.wf (st.step s1) q1 (fun y dy G2 H2 s2 ry q2 => ?_) (fun e cls d G2 H2 s2 he h => ke e cls d G2 H2 (s1.trans s2) he h)
  exact hr G2 H2 x y dx dy Qd Q s2.wf (rx.mono s2.fm s2.bm) ry q2 fun p vs l G3 H3 s3 n h1 h2 h3 h4 q3 => k p vs l G3 H3 (s1.trans (s2.trans s3)) ((s1.trans s2).was_free n) h1 h2 h3 h4 q3
def fCat : FO2 := fun x y Q => match x, y with
  | .py (.list a), .py (.list b) => a.length + b.length ≤ 1000000 ∧ Q (a ++ b)
  | _, _ => False
theorem l2o_cat : L2o S (rAddA S.K) fCat := by
  intro G H x y dx dy Qd Q w rx ry q k
  unfold fCat at q
  split at q
  · rename_i a b
    obtain ⟨p, xs, rfl, h1, h2⟩ := rv_lst rx
    obtain ⟨p', ys, rfl, h3, h4⟩ := rv_lst ry
    exact .inr (.inl ⟨p, p', xs, ys, rfl, rfl, w.sub _ _ h1, w.sub _ _ h3, by rw [rp_len h2, rp_len h4, sizeLine_eq]; have := q.1; omega, fun t nt =>
      k t _ _ G _ (Step.new w nt) (.of nt) upd_same (w.free nt) (w.box_ne nt) (rpa_app h2 h4) q.2⟩)
  · exact q.elim

/-! ### numbers -/
def fInt (g : Int → Int → DV) : F2 := fun x y Q => match x, y with
  | .py (.int i), .py (.int j) => Q (g i j)
  | _, _ => False
theorem l2_sub : L2r S (rI0 fun i j => .int (i - j)) (fInt fun i j => .int (i - j)) := by
  intro G H x y dx dy Qd Q w rx ry q k
  unfold fInt at q
  split at q
  · cases rv_int rx
    cases rv_int ry
    exact ⟨_, _, rfl, rfl, k _ _ G H (Step.refl w) (.py (.int _)) q⟩
  · exact q.elim
theorem l2_cmp {p : Int → Int → Bool} : L2r S (rI0 fun i j => .bl (p i j)) (fInt fun i j => .bl (p i j)) := by
  intro G H x y dx dy Qd Q w rx ry q k
  unfold fInt at q
  split at q
  · cases rv_int rx
    cases rv_int ry
    exact ⟨_, _, rfl, rfl, k _ _ G H (Step.refl w) (.py (.bl _)) q⟩
  · exact q.elim
def fIntC (C : Int → Int → Prop) (g : Int → Int → Int) : F2 := fun x y Q => match x, y with
  | .py (.int i), .py (.int j) => C i j ∧ Q (.int (g i j))
  | _, _ => False
theorem l2_intC {C : Int → Int → Prop} {g : Int → Int → Int} : L2r S (rI C fun i j => .int (g i j)) (fIntC C g) := by
  intro G H x y dx dy Qd Q w rx ry q k
  unfold fIntC at q
  split at q
  · cases rv_int rx
    cases rv_int ry
    exact ⟨_, _, rfl, rfl, q.1, k _ _ G H (Step.refl w) (.py (.int _)) q.2⟩
  · exact q.elim
def fNeg (g : Int → Int) : F1 := fun x Q => match x with
  | .py (.int i) => Q (.int (g i))
  | _ => False
theorem l1_int {g : Int → Int} : L1r S (rU fun i => .int (g i)) (fNeg g) := by
  intro G H x dx Qd Q w rx q k
  unfold fNeg at q
  split at q
  · cases rv_int rx
    exact ⟨_, rfl, k _ _ G H (Step.refl w) (.py (.int _)) q⟩
  · exact q.elim
/-! ### ==, != of data -/
/-- both are data that == can compare -/
def shp (d : PyData) : Bool := SeqAt.shaped d
def fEq (neg : Bool) : F2 := fun x y Q => match x, y with
  | .py (.int i), .py (.int j) => Q (.bl (decide (i = j) != neg))
  | .py (.str i), .py (.str j) => shp (.str i) = true ∧ shp (.str j) = true ∧ Q (.bl (PyData.eqv (.str i) (.str j) != neg))
  | .py d, .py e => shp d = true ∧ shp e = true ∧ Q (.bl (PyData.eqv d e != neg))
  | _, _ => False
theorem eqv_int (i j : Int) : PyData.eqv (.int i) (.int j) = decide (i = j) := by
  show (i == j) = _
  rw [Bool.beq_eq_decide_eq]
theorem l2_eq : L2r S (rEqD S.K) (fEq false) := by
  intro G H x y dx dy Qd Q w rx ry q k
  unfold fEq at q
  split at q
  · refine ⟨_, _, Rp.dp w.sub _ _ (rv_py rx), Rp.dp w.sub _ _ (rv_py ry), rfl, rfl, k _ _ G H (Step.refl w) (.py (.bl _)) ?_⟩
    rw [eqv_int]
    simpa using q
  · refine ⟨_, _, Rp.dp w.sub _ _ (rv_py rx), Rp.dp w.sub _ _ (rv_py ry), q.1, q.2.1, k _ _ G H (Step.refl w) (.py (.bl _)) ?_⟩
    simpa using q.2.2
  · refine ⟨_, _, Rp.dp w.sub _ _ (rv_py rx), Rp.dp w.sub _ _ (rv_py ry), q.1, q.2.1, k _ _ G H (Step.refl w) (.py (.bl _)) ?_⟩
    simpa using q.2.2
  · exact q.elim
theorem l2_ne : L2r S (rNeD S.K) (fEq true) := by
  intro G H x y dx dy Qd Q w rx ry q k
  unfold fEq at q
  split at q
  · refine ⟨_, _, Rp.dp w.sub _ _ (rv_py rx), Rp.dp w.sub _ _ (rv_py ry), rfl, rfl, k _ _ G H (Step.refl w) (.py (.bl _)) ?_⟩
    rw [eqv_int]
    simpa using q
  · refine ⟨_, _, Rp.dp w.sub _ _ (rv_py rx), Rp.dp w.sub _ _ (rv_py ry), q.1, q.2.1, k _ _ G H (Step.refl w) (.py (.bl _)) ?_⟩
    simpa using q.2.2
  · refine ⟨_, _, Rp.dp w.sub _ _ (rv_py rx), Rp.dp w.sub _ _ (rv_py ry), q.1, q.2.1, k _ _ G H (Step.refl w) (.py (.bl _)) ?_⟩
    simpa using q.2.2
  · exact q.elim
/-! ### is None -/
def isNonD : DV → Bool
  | .py .none => true
  | _ => false
theorem rv_isNon {d : DV} (h : RV G x d) : decide (x = .non) = isNonD d := by
  cases h with
  | py h => cases h <;> rfl
  | _ => rfl
def fIsN (neg : Bool) : F2 := fun x y Q => match y with
  | .py .none => Q (.bl (isNonD x != neg))
  | _ => False
theorem l2_isN : L2r S (fun x y H Q => y = .non ∧ Q (.bl (decide (x = .non))) H) (fIsN false) := by
  intro G H x y dx dy Qd Q w rx ry q k
  unfold fIsN at q
  split at q
  · refine ⟨rv_non ry, ?_⟩
    rw [rv_isNon rx]
    exact k _ _ G H (Step.refl w) (.py (.bl _)) (by simpa using q)
  · exact q.elim
theorem l2_notN : L2r S (fun x y H Q => y = .non ∧ Q (.bl (!decide (x = .non))) H) (fIsN true) := by
  intro G H x y dx dy Qd Q w rx ry q k
  unfold fIsN at q
  split at q
  · refine ⟨rv_non ry, ?_⟩
    rw [rv_isNon rx]
    exact k _ _ G H (Step.refl w) (.py (.bl _)) (by simpa using q)
  · exact q.elim
/-! ### in, not in -/
def fIn (neg : Bool) : F2 := fun x y Q => match x, y with
  | .py d, .py (.list ds) => shp d = true ∧ shp (.list ds) = true ∧ Q (.bl ((ds.any fun z => PyData.eqv z d) != neg))
  | _, _ => False
theorem l2_in : L2r S (rInD S.K) (fIn false) := by
  intro G H x y dx dy Qd Q w rx ry q k
  unfold fIn at q
  split at q
  · exact ⟨_, _, Rp.dp w.sub _ _ (rv_py rx), Rp.dp w.sub _ _ (rv_py ry), q.1, q.2.1, k _ _ G H (Step.refl w) (.py (.bl _)) (by simpa using q.2.2)⟩
  · exact q.elim
theorem l2_notIn : L2r S (rNotInD S.K) (fIn true) := by
  intro G H x y dx dy Qd Q w rx ry q k
  unfold fIn at q
  split at q
  · exact ⟨_, _, Rp.dp w.sub _ _ (rv_py rx), Rp.dp w.sub _ _ (rv_py ry), q.1, q.2.1, k _ _ G H (Step.refl w) (.py (.bl _)) (by simpa using q.2.2)⟩
  · exact q.elim
/-! ### xs[i] -/
def fIx (K : PySem.W.Frag) (n : Nat) : F2 := fun x y Q => match x, y with
  | .py (.list l), .py (.int i) => ∃ d, atI l i = some d ∧ Q (.py d)
  | .py (.tuple l), .py (.int i) => ∃ d, atI l i = some d ∧ Q (.py d)
  | .scr K' ns, .py (.int i) => K' = K ∧ ∃ d, atI ns i = some d ∧ Q (.int d)
  | .box, .py (.int i) => (0 ≤ i ∧ i < n) ∧ ∀ c : Int, (i = 0 → 0 ≤ c) → Q (.int c)
  | _, _ => False
theorem rpa_at {F : Hp} {xs : List V} {l : List PyData} {i : Int} {d : PyData} (h : RpA F xs l) (e : atI l i = some d) : ∃ v, atI xs i = some v ∧ Rp F v d := by
  unfold atI at e ⊢
  rw [rp_len h]
  cases z : ixN l.length i with
  | none =>
    rw [z] at e
    cases e
  | some j =>
    rw [z] at e
    exact rpa_get h e
theorem atI_map {α β : Type} {f : α → β} {l : List α} {i : Int} {d : α} (e : atI l i = some d) : atI (l.map f) i = some (f d) := by
  unfold atI at e ⊢
  rw [List.length_map]
  cases z : ixN l.length i with
  | none =>
    rw [z] at e
    cases e
  | some j =>
    rw [z] at e
    have e : l[j]? = some d := e
    show (l.map f)[j]? = _
    rw [List.getElem?_map, e]
    rfl
theorem l2_ix : L2r S (rIx S.K) (fIx S.K S.nb) := by
  intro G H x y dx dy Qd Q w rx ry q k
  unfold fIx at q
  split at q
  · obtain ⟨p, xs, rfl, h1, h2⟩ := rv_lst rx
    cases rv_int ry
    obtain ⟨d, e, q⟩ := q
    obtain ⟨v, e', hv⟩ := rpa_at h2 e
    exact .inl ⟨p, xs, _, v, rfl, rfl, .inl (.inl (w.sub _ _ h1)), e', k _ _ G H (Step.refl w) (.py hv) q⟩
  · obtain ⟨p, xs, rfl, h1, h2⟩ := rv_tup rx
    cases rv_int ry
    obtain ⟨d, e, q⟩ := q
    obtain ⟨v, e', hv⟩ := rpa_at h2 e
    exact .inr (.inl ⟨p, xs, _, v, rfl, rfl, .inl (.inl (w.sub _ _ h1)), e', k _ _ G H (Step.refl w) (.py hv) q⟩)
  · cases rv_int ry
    obtain ⟨eK, d, e, q⟩ := q
    subst eK
    cases rx with
    | @scr _ a ns h =>
      refine .inl ⟨a, _, _, .int d, rfl, rfl, ?_, atI_map e, k _ _ G H (Step.refl w) (.py (.int _)) q⟩
      rcases h with (h | ⟨o, h⟩) | h
      · exact .inl (.inl (w.sub _ _ h))
      · exact .inl (.inr ⟨o, w.sub _ _ h⟩)
      · exact h H
  · cases rv_int ry
    cases rx with
    | @box b hb =>
      obtain ⟨⟨i0, i1⟩, q⟩ := q
      obtain ⟨⟨c0, cs, h1, h2, h3⟩, _⟩ := w.box b hb
      rename_i i
      obtain ⟨j, rfl⟩ := Int.eq_ofNat_of_zero_le i0
      have lt : j < (c0 :: cs).length := by rw [List.length_cons, h2]; omega
      have e : atI (c0 :: cs) (j : Int) = some ((c0 :: cs)[j]) := atI_nat (List.getElem?_eq_getElem lt)
      refine .inl ⟨b, _, _, _, rfl, rfl, .inl (.inl h1), atI_map (f := V.int) e, k _ _ G H (Step.refl w) (.py (.int _)) (q _ fun z => ?_)⟩
      have z : j = 0 := by omega
      subst z
      exact h3
  · exact q.elim
end
end Dl

set_option Elab.async false
set_option linter.all false
set_option maxRecDepth 100000
set_option maxHeartbeats 4000000
/-! the data layer: tests, statements, loops, comprehensions -/
namespace Dl
open PySem PySem.Spec PyProof.Rows L2 Lx
section
variable {S : Sx} {E : XK} {G G0 : Gh} {H H0 : Hp}
/-! ### tests -/
def dTest (t : TD) : TTD := fun ρ Qb Ed => t ρ (fun d => match d with
  | .py (.bool b) => Qb b
  | _ => False) Ed
theorem lt_test {T : TE} {t : TD} (h : LE S E T t) : LT S E (tTest T) (dTest t) := by
  intro H0 ρ σ G H Qd Ed Q w st q k ke
  refine h H0 ρ σ G H _ Ed _ w st q (fun v d G1 H1 s1 rv q1 => ?_) ke
  split at q1
  · cases rv_bl rv
    exact ⟨_, rfl, k _ G1 H1 s1 q1⟩
  · exact q1.elim
theorem lt_b {T : TE} {t : TD} (h : LE S E T t) : LT S E (tB T) (dTest t) := by
  intro H0 ρ σ G H Qd Ed Q w st q k ke
  refine h H0 ρ σ G H _ Ed _ w st q (fun v d G1 H1 s1 rv q1 => ?_) ke
  split at q1
  · cases rv_bl rv
    exact ⟨_, rfl, k _ G1 H1 s1 q1⟩
  · exact q1.elim
def dAnd (t u : TTD) : TTD := fun ρ Qb Ed => t ρ (fun b => if b = true then u ρ Qb Ed else Qb false) Ed
def dOr (t u : TTD) : TTD := fun ρ Qb Ed => t ρ (fun b => if b = true then Qb true else u ρ Qb Ed) Ed
def dNot (t : TTD) : TTD := fun ρ Qb Ed => t ρ (fun b => Qb (!b)) Ed
theorem lt_and {T U : TT} {t u : TTD} (h : LT S E T t) (k : LT S E U u) : LT S E (L2.tAnd T U) (dAnd t u) := by
  intro H0 ρ σ G H Qd Ed Q w st q kk ke
  refine h H0 ρ σ G H _ Ed _ w st q (fun b G1 H1 s1 q1 => ?_) ke
  cases b with
  | true => exact k H0 ρ σ G1 H1 _ Ed _ s1.wf (st.step s1) q1 (fun b G2 H2 s2 q2 => kk b G2 H2 (s1.trans s2) q2) fun e cls d G2 H2 s2 he h => ke e cls d G2 H2 (s1.trans s2) he h
  | false => exact kk false G1 H1 s1 q1
theorem lt_or {T U : TT} {t u : TTD} (h : LT S E T t) (k : LT S E U u) : LT S E (L2.tOr T U) (dOr t u) := by
  intro H0 ρ σ G H Qd Ed Q w st q kk ke
  refine h H0 ρ σ G H _ Ed _ w st q (fun b G1 H1 s1 q1 => ?_) ke
  cases b with
  | true => exact kk true G1 H1 s1 q1
  | false => exact k H0 ρ σ G1 H1 _ Ed _ s1.wf (st.step s1) q1 (fun b G2 H2 s2 q2 => kk b G2 H2 (s1.trans s2) q2) fun e cls d G2 H2 s2 he h => ke e cls d G2 H2 (s1.trans s2) he h
theorem lt_not {T : TT} {t : TTD} (h : LT S E T t) : LT S E (L2.tNot T) (dNot t) := by
  intro H0 ρ σ G H Qd Ed Q w st q kk ke
  exact h H0 ρ σ G H _ Ed _ w st q (fun b G1 H1 s1 q1 => kk _ G1 H1 s1 q1) ke
/-- and, or, not as values, all True or False -/
def dAndV (t u : TD) : TD := fun ρ Qd Ed => t ρ (fun d => match d with
  | .py (.bool b) => if b = true then u ρ Qd Ed else Qd (.bl false)
  | _ => False) Ed
def dOrV (t u : TD) : TD := fun ρ Qd Ed => t ρ (fun d => match d with
  | .py (.bool b) => if b = true then Qd (.bl true) else u ρ Qd Ed
  | _ => False) Ed
def dNotV (t : TD) : TD := fun ρ Qd Ed => t ρ (fun d => match d with
  | .py (.bool b) => Qd (.bl (!b))
  | _ => False) Ed
theorem le_andV {T U : TE} {t u : TD} (h : LE S E T t) (k : LE S E U u) : LE S E (tAndV T U) (dAndV t u) := by
  intro H0 ρ σ G H Qd Ed Q w st q kk ke
  refine h H0 ρ σ G H _ Ed _ w st q (fun v d G1 H1 s1 rv q1 => ?_) ke
  split at q1
  · rename_i b
    cases rv_bl rv
    cases b with
    | true => exact ⟨true, rfl, iteT (k H0 ρ σ G1 H1 _ Ed _ s1.wf (st.step s1) q1 (fun b d G2 H2 s2 r q2 => kk b d G2 H2 (s1.trans s2) r q2) fun e cls d G2 H2 s2 he h => ke e cls d G2 H2 (s1.trans s2) he h)⟩
    | false => exact ⟨false, rfl, iteF (kk _ _ G1 H1 s1 (.py (.bl _)) q1)⟩
  · exact q1.elim
theorem le_orV {T U : TE} {t u : TD} (h : LE S E T t) (k : LE S E U u) : LE S E (tOrV T U) (dOrV t u) := by
  intro H0 ρ σ G H Qd Ed Q w st q kk ke
  refine h H0 ρ σ G H _ Ed _ w st q (fun v d G1 H1 s1 rv q1 => ?_) ke
  split at q1
  · rename_i b
    cases rv_bl rv
    cases b with
    | true => exact ⟨true, rfl, iteT (kk _ _ G1 H1 s1 (.py (.bl _)) q1)⟩
    | false => exact ⟨false, rfl, iteF (k H0 ρ σ G1 H1 _ Ed _ s1.wf (st.step s1) q1 (fun b d G2 H2 s2 r q2 => kk b d G2 H2 (s1.trans s2) r q2) fun e cls d G2 H2 s2 he h => ke e cls d G2 H2 (s1.trans s2) he h)⟩
  · exact q1.elim
theorem le_notV {T : TE} {t : TD} (h : LE S E T t) : LE S E (tNotV T) (dNotV t) := by
  intro H0 ρ σ G H Qd Ed Q w st q kk ke
  refine h H0 ρ σ G H _ Ed _ w st q (fun v d G1 H1 s1 rv q1 => ?_) ke
  split at q1
  · cases rv_bl rv
    exact ⟨_, rfl, kk _ _ G1 H1 s1 (.py (.bl _)) q1⟩
  · exact q1.elim
def dIfE (c : TTD) (t u : TD) : TD := fun ρ Qd Ed => c ρ (fun b => if b = true then t ρ Qd Ed else u ρ Qd Ed) Ed
theorem le_ifE {C : TT} {T U : TE} {c : TTD} {t u : TD} (hc : LT S E C c) (h : LE S E T t) (k : LE S E U u) : LE S E (tIf C T U) (dIfE c t u) := by
  intro H0 ρ σ G H Qd Ed Q w st q kk ke
  refine hc H0 ρ σ G H _ Ed _ w st q (fun b G1 H1 s1 q1 => ?_) ke
  cases b with
  | true => exact iteT (h H0 ρ σ G1 H1 _ Ed _ s1.wf (st.step s1) q1 (fun b d G2 H2 s2 r q2 => kk b d G2 H2 (s1.trans s2) r q2) fun e cls d G2 H2 s2 he h => ke e cls d G2 H2 (s1.trans s2) he h)
  | false => exact iteF (k H0 ρ σ G1 H1 _ Ed _ s1.wf (st.step s1) q1 (fun b d G2 H2 s2 r q2 => kk b d G2 H2 (s1.trans s2) r q2) fun e cls d G2 H2 s2 he h => ke e cls d G2 H2 (s1.trans s2) he h)
/-- a op b op c -/
def dChain (f f' : F2) (ta tb tc : TD) : TD := fun ρ Qd Ed => ta ρ (fun x => tb ρ (fun y => f x y fun z => match z with
  | .py (.bool b) => if b = true then tc ρ (fun u => f' y u Qd) Ed else Qd (.bl false)
  | _ => False) Ed) Ed

/-! ### fields -/
def fldD (C : Addr) (f : Str) (d : DV) (Qd : DV → Prop) : Prop := match d with
  | .ins C' fs => C' = C ∧ (match fs.lookup f with
    | some x => Qd x
    | none => False)
  | _ => False
def dFld (C : Addr) (f : Str) (ta : TD) : TD := fun ρ Qd Ed => ta ρ (fun d => fldD C f d Qd) Ed
theorem le_fld {C : Addr} {f : Str} {T : TE} {t : TD} (hC : Cls S.K C) (hN : NoAttr S.K C f) (h : LE S E T t) : LE S E (tFld S.K T f) (dFld C f t) := by
  intro H0 ρ σ G H Qd Ed Q w st q kk ke
  refine h H0 ρ σ G H _ Ed _ w st q (fun v d G1 H1 s1 rv q1 => ?_) ke
  cases rv with
  | @ins m C' dx vs fs h1 h2 =>
    obtain ⟨e, q1⟩ := q1
    subst e
    split at q1
    · rename_i x e
      obtain ⟨u, h3, h4⟩ := h2.get e
      exact ⟨m, C', dx, vs, u, rfl, s1.wf.sub _ _ h1, hC, hN, h3, kk u x G1 H1 s1 h4 q1⟩
    · exact q1.elim
  | _ => exact q1.elim

/-! ### statements -/
structure EndsD where
  nx : Rho → Prop
  rt : DV → Prop
  bk : Rho → Prop := fun _ => False
  ct : Rho → Prop := fun _ => False
  er : Er → Prop := fun _ => False
abbrev TSD := EndsD → Rho → Prop
/-- where a def's body stands: what became of the entry's things, the slots -/
structure At (S : Sx) (G0 : Gh) (H0 : Hp) (Fb : Hp) (σ : L2.St) (ρ : Rho) (G : Gh) (H : Hp) : Prop where
  s : Step S G0 H0 G H
  r : StR G H0 H σ ρ
  f : Same Fb G.F
structure EndsR (S : Sx) (E : XK) (G0 : Gh) (H0 : Hp) (Fb : Hp) (D : Ends) (Dd : EndsD) : Prop where
  nx : ∀ σ ρ G H, At S G0 H0 Fb σ ρ G H → Dd.nx ρ → D.nx σ H
  rt : ∀ v d G H, Step S G0 H0 G H → RV G v d → Dd.rt d → D.rt v H
  bk : ∀ σ ρ G H, At S G0 H0 Fb σ ρ G H → Dd.bk ρ → D.bk σ H
  ct : ∀ σ ρ G H, At S G0 H0 Fb σ ρ G H → Dd.ct ρ → D.ct σ H
  er : ∀ e cls d G H, Step S G0 H0 G H → ErAt G H cls d e → Dd.er e → E cls d H
def LS (S : Sx) (E : XK) (T : TS) (t : TSD) : Prop := ∀ (G0 : Gh) (H0 Fb : Hp) (D : Ends) (Dd : EndsD) (σ : L2.St) (ρ : Rho) (G : Gh) (H : Hp), At S G0 H0 Fb σ ρ G H → EndsR S E G0 H0 Fb D Dd → t Dd ρ → T D σ H
theorem At.on {Fb : Hp} {σ : L2.St} {ρ : Rho} {G' : Gh} {H' : Hp} (a : At S G0 H0 Fb σ ρ G H) (s : Step S G H G' H') : At S G0 H0 Fb σ ρ G' H' := ⟨a.s.trans s, a.r.step s, a.f.trans s.fm⟩
theorem EndsR.err {Fb : Hp} {D : Ends} {Dd : EndsD} (r : EndsR S E G0 H0 Fb D Dd) (s : Step S G0 H0 G H) : ∀ e cls d G' H', Step S G H G' H' → ErAt G' H' cls d e → Dd.er e → E cls d H' := fun e cls d G' H' s' he h => r.er e cls d G' H' (s.trans s') he h
def dNext : TSD := fun D ρ => D.nx ρ
theorem ls_next : LS S E tNext dNext := fun G0 H0 Fb D Dd σ ρ G H a r q => r.nx σ ρ G H a q
def dSeq (t u : TSD) : TSD := fun D ρ => t { D with nx := u D } ρ
theorem ls_seq {T U : TS} {t u : TSD} (h : LS S E T t) (k : LS S E U u) : LS S E (tSeq T U) (dSeq t u) := fun G0 H0 Fb D Dd σ ρ G H a r q =>
  h G0 H0 Fb _ { Dd with nx := u Dd } σ ρ G H a ⟨fun σ' ρ' G' H' a' q' => k G0 H0 Fb D Dd σ' ρ' G' H' a' r q', r.rt, r.bk, r.ct, r.er⟩ q
/-- a word between: what follows is shown once -/
def dCut (t u : TSD) : TSD := fun D ρ => ∃ Mid : Rho → Prop, t { D with nx := Mid } ρ ∧ ∀ ρ', Mid ρ' → u D ρ'
theorem ls_cut {T U : TS} {t u : TSD} (h : LS S E T t) (k : LS S E U u) : LS S E (C8.tCut T U) (dCut t u) := by
  rintro G0 H0 Fb D Dd σ ρ G H a r ⟨Mid, q1, q2⟩
  refine ⟨fun σ' H' => ∃ ρ' G', At S G0 H0 Fb σ' ρ' G' H' ∧ Mid ρ', ?_, fun σ' H' ⟨ρ', G', a', q'⟩ => k G0 H0 Fb D Dd σ' ρ' G' H' a' r (q2 ρ' q')⟩
  exact h G0 H0 Fb _ { Dd with nx := Mid } σ ρ G H a ⟨fun σ' ρ' G' H' a' q' => ⟨ρ', G', a', q'⟩, r.rt, r.bk, r.ct, r.er⟩ q1
def dRet (t : TD) : TSD := fun D ρ => t ρ D.rt D.er
theorem ls_ret {T : TE} {t : TD} (h : LE S E T t) : LS S E (tRet T) (dRet t) := fun G0 H0 Fb D Dd σ ρ G H a r q =>
  h H0 ρ σ G H _ _ _ a.s.wf a.r q (fun v d G' H' s rv q => r.rt v d G' H' (a.s.trans s) rv q) (r.err a.s)
def dRetN : TSD := fun D _ => D.rt .non
theorem ls_retN : LS S E tRetN dRetN := fun G0 H0 Fb D Dd σ ρ G H a r q => r.rt _ _ G H a.s (.py .non) q
def dDrop (t : TD) : TSD := fun D ρ => t ρ (fun _ => D.nx ρ) D.er
theorem ls_drop {T : TE} {t : TD} (h : LE S E T t) : LS S E (tDrop T) (dDrop t) := fun G0 H0 Fb D Dd σ ρ G H a r q =>
  h H0 ρ σ G H _ _ _ a.s.wf a.r q (fun v d G' H' s rv q => r.nx σ ρ G' H' (a.on s) q) (r.err a.s)
def dIfS (c : TTD) (t u : TSD) : TSD := fun D ρ => c ρ (fun b => if b = true then t D ρ else u D ρ) D.er
theorem ls_if {C : TT} {T U : TS} {c : TTD} {t u : TSD} (hc : LT S E C c) (h : LS S E T t) (k : LS S E U u) : LS S E (tIfS C T U) (dIfS c t u) := fun G0 H0 Fb D Dd σ ρ G H a r q =>
  hc H0 ρ σ G H _ _ _ a.s.wf a.r q (fun b G' H' s q => by
    cases b with
    | true => exact iteT (h G0 H0 Fb D Dd σ ρ G' H' (a.on s) r q)
    | false => exact iteF (k G0 H0 Fb D Dd σ ρ G' H' (a.on s) r q)) (r.err a.s)
def dBreak : TSD := fun D ρ => D.bk ρ
def dCont : TSD := fun D ρ => D.ct ρ
theorem ls_break : LS S E L2.tBreak dBreak := fun G0 H0 Fb D Dd σ ρ G H a r q => r.bk σ ρ G H a q
theorem ls_cont : LS S E L2.tCont dCont := fun G0 H0 Fb D Dd σ ρ G H a r q => r.ct σ ρ G H a q
/-! ### stores into slots -/
theorem set_some {α : Type} {l : List (Option α)} {i j : Nat} {x y : α} (h : (l.set i (some x))[j]? = some (some y)) : (i = j ∧ x = y) ∨ (i ≠ j ∧ l[j]? = some (some y)) := by
  by_cases e : i = j
  · subst e
    rw [List.getElem?_set] at h
    split at h
    · split at h
      · cases h
        exact .inl ⟨rfl, rfl⟩
      · cases h
    · exact absurd rfl (by assumption)
  · rw [List.getElem?_set_ne e] at h
    exact .inr ⟨e, h⟩
theorem StR.set {σ : L2.St} {ρ : Rho} {i : Nat} {v : V} {d : DV} (st : StR G H0 H σ ρ) (rv : RV G v d) : StR G H0 H (σ.set i (some v)) (ρ.set i (some (.dv d))) := by
  refine ⟨by rw [List.length_set, List.length_set, st.len], fun j x e => ?_, fun j k l l' p e1 e2 e3 e4 => ?_⟩
  · rcases set_some e with ⟨rfl, rfl⟩ | ⟨ne, e⟩
    · have lt : i < σ.length := by
        have := (List.getElem?_eq_some_iff.mp e).1
        rw [List.length_set, st.len] at this
        exact this
      exact ⟨v, by rw [List.getElem?_set_self lt], rv⟩
    · obtain ⟨u, h1, h2⟩ := st.at_ j x e
      exact ⟨u, by rw [List.getElem?_set_ne ne]; exact h1, h2⟩
  · rcases set_some e1 with ⟨_, z⟩ | ⟨n1, e1⟩
    · cases z
    rcases set_some e2 with ⟨_, z⟩ | ⟨n2, e2⟩
    · cases z
    rw [List.getElem?_set_ne n1] at e3
    rw [List.getElem?_set_ne n2] at e4
    exact st.sep j k l l' p e1 e2 e3 e4
theorem StR.setO {σ : L2.St} {ρ : Rho} {i : Nat} {p : Addr} {vs : List V} {l : List PyData} {G' : Gh} {H' : Hp} (st : StR G H0 H σ ρ) (s : Step S G H G' H') (n : Fr H p) (n0 : Fr H0 p) (hp : H' p = some (.lst vs)) (nf : G'.F p = none) (nb : ¬ G'.B p) (r : RpA G'.F vs l) : StR G' H0 H' (σ.set i (some (.ref p))) (ρ.set i (some (.own l))) := by
  have st' := st.step s
  have no : ∀ (j : Nat) (l' : List PyData), ρ[j]? = some (some (.own l')) → σ[j]? ≠ some (some (.ref p)) := fun j l' e z => by
    obtain ⟨v, h1, q, vs', h2, h3, _⟩ := st.at_ j _ e
    rw [z] at h1
    cases h1
    cases h2
    obtain ⟨z, e⟩ := n _ h3
    cases e
  refine ⟨by rw [List.length_set, List.length_set, st.len], fun j x e => ?_, fun j k l l' q e1 e2 e3 e4 => ?_⟩
  · rcases set_some e with ⟨rfl, rfl⟩ | ⟨ne, e⟩
    · have lt : i < σ.length := by
        have := (List.getElem?_eq_some_iff.mp e).1
        rw [List.length_set, st.len] at this
        exact this
      exact ⟨.ref p, by rw [List.getElem?_set_self lt], p, vs, rfl, hp, nf, nb, n0, r⟩
    · obtain ⟨u, h1, h2⟩ := st'.at_ j x e
      exact ⟨u, by rw [List.getElem?_set_ne ne]; exact h1, h2⟩
  · rcases set_some e1 with ⟨z1, z⟩ | ⟨n1, e1⟩
    · rcases set_some e2 with ⟨z2, _⟩ | ⟨n2, e2⟩
      · omega
      · rcases set_some e3 with ⟨_, w⟩ | ⟨w, _⟩
        · cases w
          rw [List.getElem?_set_ne n2] at e4
          exact absurd e4 (no k l' e2)
        · exact absurd z1 w
    · rcases set_some e2 with ⟨z2, _⟩ | ⟨n2, e2⟩
      · rcases set_some e4 with ⟨_, w⟩ | ⟨w, _⟩
        · cases w
          rw [List.getElem?_set_ne n1] at e3
          exact absurd e3 (no j l e1)
        · exact absurd z2 w
      · rw [List.getElem?_set_ne n1] at e3
        rw [List.getElem?_set_ne n2] at e4
        exact st.sep j k l l' q e1 e2 e3 e4
def dSet (i : Nat) (t : TD) : TSD := fun D ρ => t ρ (fun d => D.nx (ρ.set i (some (.dv d)))) D.er
theorem ls_set {i : Nat} {T : TE} {t : TD} (h : LE S E T t) : LS S E (tAsg T (gName i)) (dSet i t) := fun G0 H0 Fb D Dd σ ρ G H a r q =>
  h H0 ρ σ G H _ _ _ a.s.wf a.r q (fun v d G' H' s rv q => r.nx _ _ G' H' ⟨a.s.trans s, (a.r.step s).set rv, a.f.trans s.fm⟩ q) (r.err a.s)
/-- .. a new list that the def may write to -/
def dSetO (i : Nat) (t : TOD) : TSD := fun D ρ => t ρ (fun l => D.nx (ρ.set i (some (.own l)))) D.er
theorem ls_setO {i : Nat} {T : TE} {t : TOD} (h : LO S E T t) : LS S E (tAsg T (gName i)) (dSetO i t) := fun G0 H0 Fb D Dd σ ρ G H a r q =>
  h H0 ρ σ G H _ _ _ a.s.wf a.r q (fun p vs l G' H' s n hp nf nb rr q => r.nx _ _ G' H' ⟨a.s.trans s, a.r.setO s n (a.s.was_free n) hp nf nb rr, a.f.trans s.fm⟩ q) (r.err a.s)
/-- several names from a tuple -/
def setAll : Rho → List Nat → List PyData → Option Rho
  | ρ, [], [] => some ρ
  | ρ, i :: is, d :: ds => setAll (ρ.set i (some (.dv (.py d)))) is ds
  | _, _, _ => none
def setAllV : L2.St → List Nat → List V → L2.St
  | σ, [], _ => σ
  | σ, _, [] => σ
  | σ, i :: is, v :: vs => setAllV (σ.set i (some v)) is vs
def gNames : List Nat → TGs
  | [] => gNil
  | i :: is => gCons (gName i) (gNames is)
theorem setAll_st : ∀ {is : List Nat} {σ : L2.St} {ρ ρ' : Rho} {vs : List V} {ds : List PyData}, StR G H0 H σ ρ → RpA G.F vs ds → setAll ρ is ds = some ρ' → StR G H0 H (setAllV σ is vs) ρ' ∧ vs.length = is.length
  | [], σ, ρ, ρ', vs, [], st, r, e => by
    cases e
    cases r
    exact ⟨st, rfl⟩
  | i :: is, σ, ρ, ρ', _, d :: ds, st, .cons h t, e => by
    obtain ⟨h1, h2⟩ := setAll_st (is := is) (StR.set (i := i) st (.py h)) t e
    exact ⟨h1, by rw [List.length_cons, List.length_cons, h2]⟩
  | [], _, _, _, _, _ :: _, _, _, e => by cases e
  | _ :: _, _, _, _, _, [], _, _, e => by cases e
theorem gNames_at : ∀ {is : List Nat} {vs : List V} {σ : L2.St} {H : Hp} {Q : L2.St → Hp → Prop}, vs.length = is.length → Q (setAllV σ is vs) H → gNames is vs σ H Q
  | [], [], _, _, _, _, q => ⟨rfl, q⟩
  | i :: is, v :: vs, σ, H, Q, e, q => ⟨v, vs, rfl, gNames_at (is := is) (by simpa using e) q⟩
  | [], _ :: _, _, _, _, e, _ => by cases e
  | _ :: _, [], _, _, _, e, _ => by cases e
def dSetT (is : List Nat) (t : TD) : TSD := fun D ρ => t ρ (fun d => match d with
  | .py (.tuple ds) => (match setAll ρ is ds with
    | some ρ' => D.nx ρ'
    | none => False)
  | _ => False) D.er
theorem ls_setT {is : List Nat} {n : Nat} {T : TE} {t : TD} (h : LE S E T t) (hn : is.length = n) : LS S E (tAsg T (gTup S.K n (gNames is))) (dSetT is t) := fun G0 H0 Fb D Dd σ ρ G H a r q =>
  h H0 ρ σ G H _ _ _ a.s.wf a.r q (fun v d G' H' s rv q => by
    split at q
    · rename_i ds
      split at q
      · rename_i ρ' e
        obtain ⟨p, xs, rfl, h1, h2⟩ := rv_tup rv
        obtain ⟨h3, h4⟩ := setAll_st (a.r.step s) h2 e
        exact ⟨p, xs, rfl, .inl (.inl (s.wf.sub _ _ h1)), by rw [h4, hn], gNames_at h4 (r.nx _ _ G' H' ⟨a.s.trans s, h3, a.f.trans s.fm⟩ q)⟩
      · exact q.elim
    · exact q.elim) (r.err a.s)
def dPar (i j : Nat) (ta : TAD) : TSD := fun D ρ => ta ρ (fun ds => match ds with
  | [x, y] => D.nx ((ρ.set i (some (.dv x))).set j (some (.dv y)))
  | _ => False) D.er
theorem ls_par {i j : Nat} {T : TA} {t : TAD} {n : Nat} (h : LA n S E T t) : LS S E (tPar i j T) (dPar i j t) := fun G0 H0 Fb D Dd σ ρ G H a r q =>
  h H0 ρ σ G H _ _ _ a.s.wf a.r q (fun vs ds G' H' s hl rv q => by
    split at q
    · cases rv with
      | cons h1 t1 =>
        cases t1 with
        | cons h2 t2 =>
          cases t2
          exact ⟨_, _, rfl, r.nx _ _ G' H' ⟨a.s.trans s, ((a.r.step s).set h1).set h2, a.f.trans s.fm⟩ q⟩
    · exact q.elim) (r.err a.s)
end
end Dl

set_option Elab.async false
set_option linter.all false
set_option maxRecDepth 100000
set_option maxHeartbeats 4000000
/-! the data layer: what is walked; for; comprehensions; while -/
namespace Dl
open PySem PySem.Spec PyProof.Rows L2 Lx
section
variable {S : Sx} {E : XK} {G G0 : Gh} {H H0 : Hp}
/-! ### what is walked -/
/-- wi walks data: the items, by turns -/
def LI (S : Sx) (E : XK) (wi : TI) (t : TOD) : Prop := ∀ (H0 : Hp) (ρ : Rho) (σ : L2.St) (G : Gh) (H : Hp) (Qd : List PyData → Prop) (Ed : Er → Prop) (R : It → Hp → Prop), Wf S G H → StR G H0 H σ ρ → t ρ Qd Ed →
  (∀ (l : List PyData) (J : It) (Gd : Hp → Prop) (Y : Nat → Hp → V → Hp → Prop) (G' : Gh) (H' : Hp), Step S G H G' H' → Qd l → Walk J l.length Gd Y → (∀ H2, Same G'.F H2 → Gd H2) →
    (∀ i G2 H2 x H3, Wf S G2 H2 → Same G'.F G2.F → Y i H2 x H3 → ∃ G3 d, Step S G2 H2 G3 H3 ∧ l[i]? = some d ∧ RV G3 x (.py d)) → R J H') →
  (∀ e cls d G' H', Step S G H G' H' → ErAt G' H' cls d e → Ed e → E cls d H') → wi σ H R
/-- the items of a list or a tuple -/
def itSeq (t : TD) : TOD := fun ρ Qd Ed => t ρ (fun d => match d with
  | .py (.list l) => Qd l
  | .py (.tuple l) => Qd l
  | _ => False) Ed
theorem li_seq {T : TE} {t : TD} (h : LE S E T t) : LI S E (iSeq S.K T) (itSeq t) := by
  intro H0 ρ σ G H Qd Ed R w st q k ke
  refine h H0 ρ σ G H _ Ed _ w st q (fun v d G1 H1 s1 rv q1 => ?_) ke
  split at q1
  · obtain ⟨p, xs, rfl, h1, h2⟩ := rv_lst rv
    have hl := rp_len h2
    refine ⟨p, rfl, .inl ⟨xs, .inl (.inl (s1.wf.sub _ _ h1)), ?_⟩⟩
    refine k _ (Itl S.K p) (fun H => SqL S.K H p xs) (YAt xs) G1 H1 s1 q1 (by rw [← hl]; exact walk_list) (fun H2 e => .inl (.inl (e _ _ h1))) ?_
    rintro i G2 H2 x H3 w2 e2 ⟨rfl, ex⟩
    obtain ⟨d, h3, h4⟩ := rpa_get' h2 ex
    exact ⟨G2, d, Step.refl w2, h3, .py (Rp.mono e2 _ _ h4)⟩
  · obtain ⟨p, xs, rfl, h1, h2⟩ := rv_tup rv
    have hl := rp_len h2
    refine ⟨p, rfl, .inr ⟨xs, .inl (.inl (s1.wf.sub _ _ h1)), ?_⟩⟩
    refine k _ (Itt S.K p) (fun H => SqT S.K H p xs) (YAt xs) G1 H1 s1 q1 (by rw [← hl]; exact walk_tup) (fun H2 e => .inl (.inl (e _ _ h1))) ?_
    rintro i G2 H2 x H3 w2 e2 ⟨rfl, ex⟩
    obtain ⟨d, h3, h4⟩ := rpa_get' h2 ex
    exact ⟨G2, d, Step.refl w2, h3, .py (Rp.mono e2 _ _ h4)⟩
  · exact q1.elim
def rangeD (lo : Int) (n : Nat) : List PyData := (List.range n).map fun i => .int (lo + (i : Nat))
theorem rangeD_len {lo : Int} {n : Nat} : (rangeD lo n).length = n := by
  unfold rangeD
  rw [List.length_map, List.length_range]
theorem rangeD_get {lo : Int} {n i : Nat} (h : i < n) : (rangeD lo n)[i]? = some (.int (lo + i)) := by
  unfold rangeD
  rw [List.getElem?_map, List.getElem?_range h]
  rfl
/-- small enough for a range -/
def rgOk (i : Int) : Prop := -(2 ^ 62) ≤ i ∧ i < 2 ^ 62
def itRange1 (ta : TAD) : TOD := fun ρ Qd Ed => ta ρ (fun ds => match ds with
  | [.py (.int j)] => rgOk j ∧ Qd (rangeD 0 j.toNat)
  | _ => False) Ed
def itRange2 (ta : TAD) : TOD := fun ρ Qd Ed => ta ρ (fun ds => match ds with
  | [.py (.int i), .py (.int j)] => rgOk i ∧ rgOk j ∧ Qd (rangeD i (j - i).toNat)
  | _ => False) Ed
theorem range_fin {G1 : Gh} {H1 : Hp} {lo : Int} {n : Nat} {R : It → Hp → Prop} (k : ∀ (l : List PyData) (J : It) (Gd : Hp → Prop) (Y : Nat → Hp → V → Hp → Prop), l = rangeD lo n → Walk J l.length Gd Y → (∀ H2, Same G1.F H2 → Gd H2) →
    (∀ i G2 H2 x H3, Wf S G2 H2 → Same G1.F G2.F → Y i H2 x H3 → ∃ G3 d, Step S G2 H2 G3 H3 ∧ l[i]? = some d ∧ RV G3 x (.py d)) → R J H1) : R (Itr lo n) H1 := by
  refine k (rangeD lo n) (Itr lo n) (fun _ => True) (fun i H x H' => H' = H ∧ x = .int (lo + i) ∧ i < n) rfl ?_ (fun _ _ => trivial) ?_
  · rw [rangeD_len]
    exact ⟨fun _ _ hi _ => hi, fun _ _ => Nat.le_refl _, fun i H x H' hi _ y => ⟨y.1, y.2, hi⟩⟩
  · rintro i G2 H2 x H3 w2 e2 ⟨rfl, rfl, hi⟩
    exact ⟨G2, _, Step.refl w2, rangeD_get hi, .py (.int _)⟩
theorem li_range1 {n : Nat} {T : TA} {t : TAD} (h : LA n S E T t) : LI S E (iRng1 T) (itRange1 t) := by
  intro H0 ρ σ G H Qd Ed R w st q k ke
  refine h H0 ρ σ G H _ Ed _ w st q (fun vs ds G1 H1 s1 hl rv q1 => ?_) ke
  split at q1
  · cases rv with
    | cons h1 t1 =>
      cases t1
      cases rv_int h1
      exact ⟨_, rfl, q1.1.1, q1.1.2, range_fin (G1 := G1) fun l J Gd Y e h1 h2 h3 => k l J Gd Y G1 H1 s1 (by rw [e]; exact q1.2) h1 h2 h3⟩
  · exact q1.elim
theorem li_range2 {n : Nat} {T : TA} {t : TAD} (h : LA n S E T t) : LI S E (iRng2 T) (itRange2 t) := by
  intro H0 ρ σ G H Qd Ed R w st q k ke
  refine h H0 ρ σ G H _ Ed _ w st q (fun vs ds G1 H1 s1 hl rv q1 => ?_) ke
  split at q1
  · cases rv with
    | cons h1 t1 =>
      cases t1 with
      | cons h2 t2 =>
        cases t2
        cases rv_int h1
        cases rv_int h2
        exact ⟨_, _, rfl, ⟨q1.1.1, q1.1.2, q1.2.1.1, q1.2.1.2⟩, range_fin (G1 := G1) fun l J Gd Y e h1 h2 h3 => k l J Gd Y G1 H1 s1 (by rw [e]; exact q1.2.2) h1 h2 h3⟩
  · exact q1.elim
/-- enumerate of a list or a tuple -/
def enumD (l : List PyData) : List PyData := (List.range l.length).map fun i => .tuple [.int (i : Nat), l.getD i .none]
theorem enumD_len {l : List PyData} : (enumD l).length = l.length := by
  unfold enumD
  rw [List.length_map, List.length_range]
theorem enumD_get {l : List PyData} {i : Nat} {d : PyData} (h : l[i]? = some d) : (enumD l)[i]? = some (.tuple [.int (i : Nat), d]) := by
  have lt := (List.getElem?_eq_some_iff.mp h).1
  unfold enumD
  rw [List.getElem?_map, List.getElem?_range lt]
  show some (PyData.tuple [PyData.int (i : Nat), l.getD i .none]) = _
  rw [List.getD_eq_getElem?_getD, h]
  rfl
def itEnum (ta : TAD) : TOD := fun ρ Qd Ed => ta ρ (fun ds => match ds with
  | [.py (.list l)] => Qd (enumD l)
  | [.py (.tuple l)] => Qd (enumD l)
  | _ => False) Ed
theorem enum_yld {G1 : Gh} {xs : List V} {l : List PyData} (h2 : RpA G1.F xs l) : ∀ (i : Nat) (G2 : Gh) (H2 : Hp) (x : V) (H3 : Hp), Wf S G2 H2 → Same G1.F G2.F → YPair (fun i => some (.int (i : Nat))) (fun i => xs[i]?) i H2 x H3 →
    ∃ G3 d, Step S G2 H2 G3 H3 ∧ (enumD l)[i]? = some d ∧ RV G3 x (.py d) := by
  rintro i G2 H2 x H3 w2 e2 ⟨T, y, z, rfl, nT, rfl, e1, e3⟩
  cases e1
  obtain ⟨d, h3, h4⟩ := rpa_get' h2 e3
  refine ⟨_, _, Step.newF w2 nT (fun z e => by cases e), enumD_get h3, .py (.tup put_same (.cons (.int _) (.cons ?_ .nil)))⟩
  exact Rp.mono (e2.trans (same_upd (.inl (w2.free nT)))) _ _ h4
theorem li_enum {n : Nat} {T : TA} {t : TAD} (h : LA n S E T t) : LI S E (iEnumS S.K T) (itEnum t) := by
  intro H0 ρ σ G H Qd Ed R w st q k ke
  refine h H0 ρ σ G H _ Ed _ w st q (fun vs ds G1 H1 s1 hl rv q1 => ?_) ke
  split at q1
  · cases rv with
    | cons h1 t1 =>
      cases t1
      obtain ⟨p, xs, rfl, h1, h2⟩ := rv_lst h1
      have hl := rp_len h2
      refine ⟨p, xs, rfl, .inl ⟨.inl (.inl (s1.wf.sub _ _ h1)), ?_⟩⟩
      exact k _ (Ite S.K p) (fun H => SqL S.K H p xs) _ G1 H1 s1 q1 (by rw [enumD_len, ← hl]; exact walk_enum) (fun H2 e => .inl (.inl (e _ _ h1))) (enum_yld h2)
  · cases rv with
    | cons h1 t1 =>
      cases t1
      obtain ⟨p, xs, rfl, h1, h2⟩ := rv_tup h1
      have hl := rp_len h2
      refine ⟨p, xs, rfl, .inr ⟨.inl (.inl (s1.wf.sub _ _ h1)), ?_⟩⟩
      exact k _ (ItEt S.K p) (fun H => SqT S.K H p xs) _ G1 H1 s1 q1 (by rw [enumD_len, ← hl]; exact walk_enumT) (fun H2 e => .inl (.inl (e _ _ h1))) (enum_yld h2)
  · exact q1.elim

/-! ### targets -/
/-- a target: one name, or names of a tuple -/
inductive Tg where
  | one (i : Nat) | many (is : List Nat)
def Tg.rd (K : PySem.W.Frag) : Tg → TG
  | .one i => gName i
  | .many is => gTup K is.length (gNames is)
def Tg.put (ρ : Rho) (d : PyData) : Tg → Option Rho
  | .one i => some (ρ.set i (some (.dv (.py d))))
  | .many is => match d with
    | .tuple ds => setAll ρ is ds
    | _ => none
def Tg.ix : Tg → List Nat
  | .one i => [i]
  | .many is => is
theorem tg_put {g : Tg} {σ : L2.St} {ρ ρ' : Rho} {v : V} {d : PyData} {H1 : Hp} {Q : L2.St → Hp → Prop} (w : Wf S G H1) (st : StR G H0 H1 σ ρ) (rv : RV G v (.py d)) (e : g.put ρ d = some ρ')
    (q : ∀ σ', StR G H0 H1 σ' ρ' → (∃ xs, σ' = setAllV σ g.ix xs) → Q σ' H1) : g.rd S.K v σ H1 Q := by
  cases g with
  | one i =>
    cases e
    exact q _ (st.set rv) ⟨[v], rfl⟩
  | many is =>
    cases d with
    | tuple ds =>
      have e : setAll ρ is ds = some ρ' := e
      obtain ⟨p, xs, rfl, h1, h2⟩ := rv_tup rv
      obtain ⟨h3, h4⟩ := setAll_st st h2 e
      exact ⟨p, xs, rfl, .inl (.inl (w.sub _ _ h1)), h4, gNames_at h4 (q _ h3 ⟨xs, rfl⟩)⟩
    | _ => cases e
/-! ### for -/
def dLoop (g : Tg) (body : TSD) (D : EndsD) : List PyData → Rho → Prop
  | [], ρ => D.nx ρ
  | d :: ds, ρ => match g.put ρ d with
    | some ρ' => body { D with nx := dLoop g body D ds, ct := dLoop g body D ds, bk := D.nx } ρ'
    | none => False
def dFor (ti : TOD) (g : Tg) (body : TSD) : TSD := fun D ρ => ti ρ (fun l => dLoop g body D l ρ) D.er
theorem drop_cons {α : Type} {l : List α} {i : Nat} {d : α} (h : l[i]? = some d) : l.drop i = d :: l.drop (i + 1) := by
  obtain ⟨h1, h2⟩ := List.getElem?_eq_some_iff.mp h
  rw [← h2]
  exact List.drop_eq_getElem_cons h1
theorem ls_for {wi : TI} {ti : TOD} {g : Tg} {T : TS} {t : TSD} (h : LI S E wi ti) (hb : LS S E T t) : LS S E (tFor wi (g.rd S.K) T) (dFor ti g t) := fun G0 H0 Fb D Dd σ ρ G H a r q =>
  h H0 ρ σ G H _ _ _ a.s.wf a.r q (fun l J Gd Y G1 H1 s1 q1 w st yl => by
    have fb := a.f.trans s1.fm
    refine for_it w (fun i σ H' => ∃ ρ' G', At S G0 H0 G1.F σ ρ' G' H' ∧ dLoop g t Dd (l.drop i) ρ') ⟨ρ, G1, ⟨a.s.trans s1, a.r.step s1, Same.refl _⟩, q1⟩ (fun i σ H' _ ⟨ρ', G', a', _⟩ => st H' (a'.f.trans a'.s.wf.sub)) ?_ ?_
    · rintro i x σ2 H2 H3 hi ⟨ρ', G', a', q'⟩ hy
      obtain ⟨G3, d, s3, hd, rv⟩ := yl i G' H2 x H3 a'.s.wf a'.f hy
      rw [drop_cons hd] at q'
      unfold dLoop at q'
      split at q'
      · rename_i ρ2 e2
        refine tg_put s3.wf (a'.r.step s3) rv e2 fun σ' st' _ => ?_
        refine hb G0 H0 G1.F _ { Dd with nx := dLoop g t Dd (l.drop (i + 1)), ct := dLoop g t Dd (l.drop (i + 1)), bk := Dd.nx } σ' ρ2 G3 H3 ⟨a'.s.trans s3, st', a'.f.trans s3.fm⟩ ?_ q'
        exact ⟨fun σ4 ρ4 G4 H4 a4 q4 => ⟨ρ4, G4, a4, q4⟩, r.rt, fun σ4 ρ4 G4 H4 a4 q4 => r.nx _ _ _ _ ⟨a4.s, a4.r, fb.trans a4.f⟩ q4, fun σ4 ρ4 G4 H4 a4 q4 => ⟨ρ4, G4, a4, q4⟩, r.er⟩
      · exact q'.elim
    · rintro σ2 H2 ⟨ρ', G', a', q'⟩
      rw [List.drop_of_length_le (Nat.le_refl _)] at q'
      exact r.nx _ _ _ _ ⟨a'.s, a'.r, fb.trans a'.f⟩ q') (r.err a.s)
/-! ### while: an invariant, a measure that falls -/
def dWhile (c : TTD) (body : TSD) : TSD := fun D ρ => ∃ W : Nat → Rho → Prop, (∃ m, W m ρ) ∧ ∀ m ρ, W m ρ → c ρ (fun b => if b = true then body { D with nx := fun ρ' => ∃ m', m' < m ∧ W m' ρ', ct := fun ρ' => ∃ m', m' < m ∧ W m' ρ', bk := D.nx } ρ else D.nx ρ) D.er
end
end Dl

set_option Elab.async false
set_option linter.all false
set_option maxRecDepth 100000
set_option maxHeartbeats 4000000
/-! the data layer: while; comprehensions; lists of the def's own -/
namespace Dl
open PySem PySem.Spec PyProof.Rows L2 Lx
section
variable {S : Sx} {E : XK} {G G0 : Gh} {H H0 : Hp}
theorem ls_while {C : TT} {T : TS} {c : TTD} {t : TSD} (hc : LT S E C c) (hb : LS S E T t) : LS S E (tWhile C T) (dWhile c t) := by
  rintro G0 H0 Fb D Dd σ ρ G H a r ⟨W, ⟨m0, w0⟩, turn⟩
  refine ⟨fun m σ H => ∃ ρ G, At S G0 H0 Fb σ ρ G H ∧ W m ρ, ⟨m0, ρ, G, a, w0⟩, ?_⟩
  rintro m σ1 H1 ⟨ρ1, G1, a1, w1⟩
  refine hc H0 ρ1 σ1 G1 H1 _ _ _ a1.s.wf a1.r (turn m ρ1 w1) (fun b G2 H2 s2 q2 => ?_) (r.err a1.s)
  cases b with
  | true =>
    refine iteT ⟨fun σ H => ∃ ρ' G' m', At S G0 H0 Fb σ ρ' G' H ∧ m' < m ∧ W m' ρ', fun σ' H' ⟨ρ', G', m', a', h1, h2⟩ => ⟨m', h1, ρ', G', a', h2⟩, ?_⟩
    refine hb G0 H0 Fb _ { Dd with nx := fun ρ' => ∃ m', m' < m ∧ W m' ρ', ct := fun ρ' => ∃ m', m' < m ∧ W m' ρ', bk := Dd.nx } σ1 ρ1 G2 H2 (a1.on s2) ?_ q2
    exact ⟨fun σ4 ρ4 G4 H4 a4 ⟨m', h1, h2⟩ => ⟨ρ4, G4, m', a4, h1, h2⟩, r.rt, r.nx, fun σ4 ρ4 G4 H4 a4 ⟨m', h1, h2⟩ => ⟨ρ4, G4, m', a4, h1, h2⟩, r.er⟩
  | false => exact iteF (r.nx _ _ _ _ (a1.on s2) q2)

/-! ### a list of the def's own is written -/
theorem Wf.write {p : Addr} {vs ws : List V} (w : Wf S G H) (h : H p = some (.lst vs)) (nf : G.F p = none) (nb : ¬ G.B p) : Wf S G (upd H p (.lst ws)) := by
  refine ⟨fun a x e => ?_, fun b hb => ?_, w.tbl, tabs_but h (fun a o z n => by rw [upd_ne n]; exact z) w.tabs⟩
  · have z : a ≠ p := by
      rintro rfl
      rw [nf] at e
      cases e
    rw [upd_ne z]
    exact w.sub _ _ e
  · obtain ⟨⟨c0, cs, h1, h2, h3⟩, h4⟩ := w.box b hb
    have z : b ≠ p := by
      rintro rfl
      exact nb hb
    exact ⟨⟨c0, cs, by rw [upd_ne z]; exact h1, h2, h3⟩, h4⟩
theorem Step.write {p : Addr} {vs ws : List V} (a : Step S G0 H0 G H) (h : H p = some (.lst vs)) (nf : G.F p = none) (nb : ¬ G.B p) (n0 : Fr H0 p) : Step S G0 H0 G (upd H p (.lst ws)) where
  w0 := a.w0
  wf := a.wf.write h nf nb
  fm := a.fm
  bm := a.bm
  keep := fun x o hx n t => by
    rw [upd_ne (n0.ne hx t)]
    exact a.keep x o hx n t
  nf := a.nf
  nb := a.nb
  there := fun x o hx t => by
    rw [upd_ne (n0.ne hx t)]
    exact a.there x o hx t

/-! ### comprehensions -/
def wipeL {α : Type} (l : List (Option α)) : List Nat → List (Option α)
  | [] => l
  | v :: vs => (wipeL l vs).set v none
theorem wipe_eq (σ : L2.St) : ∀ vs, wipe σ vs = wipeL σ vs
  | [] => rfl
  | v :: vs => by
    show (wipe σ vs).set v none = (wipeL σ vs).set v none
    rw [wipe_eq σ vs]
theorem wipeL_get {α : Type} (l : List (Option α)) (j : Nat) : ∀ vs : List Nat, (wipeL l vs)[j]? = if j ∈ vs then (l[j]?).map (fun _ => none) else l[j]?
  | [] => by simp [wipeL]
  | v :: vs => by
    show ((wipeL l vs).set v none)[j]? = _
    rw [List.getElem?_set, wipeL_get l j vs]
    have len : (wipeL l vs).length = l.length := by
      clear j
      induction vs with
      | nil => rfl
      | cons v vs ih =>
        show ((wipeL l vs).set v none).length = _
        rw [List.length_set, ih]
    by_cases e : v = j
    · subst e
      rw [len]
      simp only [if_true, List.mem_cons, true_or]
      by_cases h : v < l.length
      · rw [if_pos h, List.getElem?_eq_getElem h]
        rfl
      · rw [if_neg h, List.getElem?_eq_none (by omega)]
        rfl
    · rw [if_neg e]
      by_cases h : j ∈ vs
      · rw [if_pos h, if_pos (List.mem_cons_of_mem _ h)]
      · rw [if_neg h, if_neg]
        intro z
        rcases List.mem_cons.mp z with z | z
        · exact e z.symm
        · exact h z
theorem setAllV_get {j : Nat} : ∀ {is : List Nat} {σ : L2.St} {xs : List V}, j ∉ is → (setAllV σ is xs)[j]? = σ[j]?
  | [], _, _, _ => by simp [setAllV]
  | i :: is, σ, [], _ => by simp [setAllV]
  | i :: is, σ, x :: xs, h => by
    show (setAllV (σ.set i (some x)) is xs)[j]? = _
    rw [setAllV_get (is := is) (fun z => h (List.mem_cons_of_mem _ z)), List.getElem?_set_ne (fun z => h (by rw [z]; exact List.mem_cons_self))]
theorem setAllV_len : ∀ {is : List Nat} {σ : L2.St} {xs : List V}, (setAllV σ is xs).length = σ.length
  | [], _, _ => by simp [setAllV]
  | i :: is, σ, [] => by simp [setAllV]
  | i :: is, σ, x :: xs => by
    show (setAllV (σ.set i (some x)) is xs).length = _
    rw [setAllV_len (is := is), List.length_set]
theorem wipe_setAll {σ : L2.St} {is : List Nat} {xs : List V} : wipe (setAllV (wipe σ is) is xs) is = wipe σ is := by
  rw [wipe_eq, wipe_eq]
  apply List.ext_getElem?
  intro j
  rw [wipeL_get, wipeL_get]
  by_cases h : j ∈ is
  · rw [if_pos h, if_pos h]
    have len : (setAllV (wipeL σ is) is xs).length = σ.length := by
      rw [setAllV_len]
      clear h
      induction is with
      | nil => rfl
      | cons v vs ih =>
        show ((wipeL σ vs).set v none).length = _
        rw [List.length_set]
        have : ∀ vs : List Nat, (wipeL σ vs).length = σ.length := by
          intro vs
          induction vs with
          | nil => rfl
          | cons v vs ih =>
            show ((wipeL σ vs).set v none).length = _
            rw [List.length_set, ih]
        exact this vs
    by_cases lt : j < σ.length
    · rw [List.getElem?_eq_getElem lt, List.getElem?_eq_getElem (by rw [len]; exact lt)]
      rfl
    · have l2 : σ.length ≤ j := by omega
      have z1 : (setAllV (wipeL σ is) is xs)[j]? = none := List.getElem?_eq_none (by omega)
      have z2 : σ[j]? = none := List.getElem?_eq_none l2
      rw [z1, z2]
  · rw [if_neg h, if_neg h, setAllV_get h, wipeL_get, if_neg h]
theorem StR.wipe {σ : L2.St} {ρ : Rho} (st : StR G H0 H σ ρ) (vs : List Nat) : StR G H0 H (wipe σ vs) (wipeL ρ vs) := by
  have none_of : ∀ {j : Nat} {x : SV}, (wipeL ρ vs)[j]? = some (some x) → j ∉ vs ∧ ρ[j]? = some (some x) := fun {j x} e => by
    rw [wipeL_get] at e
    by_cases h : j ∈ vs
    · rw [if_pos h] at e
      cases q : ρ[j]? with
      | none => rw [q] at e; cases e
      | some y => rw [q] at e; cases e
    · rw [if_neg h] at e
      exact ⟨h, e⟩
  have len : ∀ {α : Type} (l : List (Option α)) (vs : List Nat), (wipeL l vs).length = l.length := fun l vs => by
    induction vs with
    | nil => rfl
    | cons v vs ih =>
      show ((wipeL l vs).set v none).length = _
      rw [List.length_set, ih]
  refine ⟨by rw [wipe_eq, len, len, st.len], fun j x e => ?_, fun i j l l' p e1 e2 e3 e4 => ?_⟩
  · obtain ⟨h, e⟩ := none_of e
    obtain ⟨v, h1, h2⟩ := st.at_ j x e
    exact ⟨v, by rw [wipe_eq, wipeL_get, if_neg h]; exact h1, h2⟩
  · obtain ⟨h1, e1⟩ := none_of e1
    obtain ⟨h2, e2⟩ := none_of e2
    rw [wipe_eq, wipeL_get, if_neg h1] at e3
    rw [wipe_eq, wipeL_get, if_neg h2] at e4
    exact st.sep i j l l' p e1 e2 e3 e4
def dYes : TTD := fun _ Qb _ => Qb true
theorem lt_yes : LT S E tYes dYes := fun H0 ρ σ G H Qd Ed Q w st q k ke => k true G H (Step.refl w) q
/-- the turns of a comprehension -/
def dTurns (g : Tg) (tt : TTD) (te : TD) (Ed : Er → Prop) (Qd : List PyData → Prop) (ρ : Rho) : List PyData → List PyData → Prop
  | [], acc => Qd acc
  | d :: ds, acc => match g.put ρ d with
    | some ρ' => tt ρ' (fun b => if b = true then te ρ' (fun y => match y with
        | .py y => acc.length < 1000000 ∧ dTurns g tt te Ed Qd ρ ds (acc ++ [y])
        | _ => False) Ed
      else dTurns g tt te Ed Qd ρ ds acc) Ed
    | none => False
def oLc (ti : TOD) (g : Tg) (tt : TTD) (te : TD) : TOD := fun ρ Qd Ed => ti ρ (fun l => dTurns g tt te Ed Qd (wipeL ρ g.ix) l []) Ed
theorem lo_lc {wi : TI} {ti : TOD} {g : Tg} {Tt : TT} {Te : TE} {tt : TTD} {te : TD} (h : LI S E wi ti) (ht : LT S E Tt tt) (he : LE S E Te te) : LO S E (tLc wi (g.rd S.K) Tt Te g.ix) (oLc ti g tt te) := by
  intro H0 ρ σ G H Qd Ed Q w st q k ke
  refine h H0 ρ σ G H _ Ed _ w st q (fun l J Gd Y G1 H1 s1 q1 wk sd yl => ?_) ke
  intro D nD
  have n0 := s1.was_free (.of nD)
  refine lc_it wk (fun i H' => ∃ G' vs acc, Step S G1 H1 G' H' ∧ H' D = some (.lst vs) ∧ G'.F D = none ∧ ¬ G'.B D ∧ RpA G'.F vs acc ∧ dTurns g tt te Ed Qd (wipeL ρ g.ix) (l.drop i) acc)
    ⟨G1, [], [], Step.new s1.wf nD, upd_same, s1.wf.free nD, s1.wf.box_ne nD, .nil, q1⟩ (fun i H' _ ⟨G', vs, acc, a1, _⟩ => sd H' (a1.fm.trans a1.wf.sub)) ?_ ?_
  · rintro i x H2 H3 hi ⟨G', vs, acc, a1, hD, fD, bD, rD, q'⟩ hy
    obtain ⟨G3, d, s3, hd, rv⟩ := yl i G' H2 x H3 a1.wf a1.fm hy
    rw [drop_cons hd] at q'
    unfold dTurns at q'
    split at q'
    · rename_i ρ2 e2
      have a3 := a1.trans s3
      have stw : StR G3 H0 H3 (wipe σ g.ix) (wipeL ρ g.ix) := (((st.step s1).step a1).step s3).wipe g.ix
      refine tg_put s3.wf stw rv e2 fun σ' st' ⟨xs, ex⟩ => ?_
      subst ex
      refine ⟨wipe_setAll, ?_⟩
      refine ht H0 ρ2 _ G3 H3 _ Ed _ a3.wf st' q' (fun b G4 H4 s4 q4 => ?_) (fun e cls d G' H' s he h => ke e cls d G' H' (s1.trans (a3.trans s)) he h)
      have a4 := a3.trans s4
      cases b with
      | true =>
        refine iteT ?_
        refine he H0 ρ2 _ G4 H4 _ Ed _ a4.wf (st'.step s4) q4 (fun v y G5 H5 s5 ry q5 => ?_) (fun e cls d G' H' s he h => ke e cls d G' H' (s1.trans (a4.trans s)) he h)
        have a5 := a4.trans s5
        have s35 := (s3.trans s4).trans s5
        split at q5
        · rename_i y
          have hD5 := s35.keep _ _ hD bD (fun z e => by cases e)
          have fD5 := s35.nf _ _ hD trivial fD
          have bD5 := s35.nb _ _ hD (fun z e => by cases e) bD
          have rD5 := RpA.mono s35.fm _ _ rD
          refine ⟨vs, hD5, by rw [rp_len rD, sizeLine_eq]; have := q5.1; omega, G5, vs ++ [v], acc ++ [y], a5.write hD5 fD5 bD5 (.of nD), upd_same, fD5, bD5, rpa_app rD5 (.cons (rv_py ry) .nil), q5.2⟩
        · exact q5.elim
      | false =>
        have s34 := s3.trans s4
        exact iteF ⟨G4, vs, acc, a4, s34.keep _ _ hD bD (fun z e => by cases e), s34.nf _ _ hD trivial fD, s34.nb _ _ hD (fun z e => by cases e) bD, RpA.mono s34.fm _ _ rD, q4⟩
    · exact q'.elim
  · rintro H2 ⟨G', vs, acc, a1, hD, fD, bD, rD, q'⟩
    rw [List.drop_of_length_le (Nat.le_refl _)] at q'
    exact k D vs acc G' H2 (s1.trans a1) n0 hD fD bD rD q'
end
end Dl

set_option Elab.async false
set_option linter.all false
set_option maxRecDepth 100000
set_option maxHeartbeats 4000000
/-! the data layer: lists of the def's own, raise, defs -/
namespace Dl
open PySem PySem.Spec PyProof.Rows L2 Lx
section
variable {S : Sx} {E : XK} {G G0 : Gh} {H H0 : Hp}
theorem StR.write {σ : L2.St} {ρ : Rho} {i : Nat} {p : Addr} {l l' : List PyData} {vs ws : List V} (st : StR G H0 H σ ρ) (hi : ρ[i]? = some (some (.own l))) (hs : σ[i]? = some (some (.ref p))) (hp : H p = some (.lst vs)) (r : RpA G.F ws l') :
    StR G H0 (upd H p (.lst ws)) σ (ρ.set i (some (.own l'))) := by
  obtain ⟨v, z1, q, vs', z2, z3, z4, z5, z6, z7⟩ := st.at_ i _ hi
  rw [hs] at z1
  cases z1
  cases z2
  have own_ne : ∀ (j : Nat) (y : SV), i ≠ j → ρ[j]? = some (some y) → ∀ v, σ[j]? = some (some v) → RS G H0 H v y → RS G H0 (upd H p (.lst ws)) v y := fun j y n e v e2 h => by
    cases y with
    | dv d => exact h
    | own m =>
      obtain ⟨q, us, h1, h2, h3, h4, h5, h6⟩ := h
      subst h1
      have ne : q ≠ p := by
        rintro rfl
        exact n (st.sep i j l m q hi e hs e2)
      exact ⟨q, us, rfl, by rw [upd_ne ne]; exact h2, h3, h4, h5, h6⟩
    | ini q dx C fs =>
      obtain ⟨us, h1, h2, h3, h4, h5, h6⟩ := h
      subst h1
      exact ⟨us, rfl, by rw [upd_ne (ne_of h2 hp (fun z => by cases z))]; exact h2, h3, h4, h5, h6⟩
  refine ⟨by rw [List.length_set, st.len], fun j x e => ?_, fun j k m m' q e1 e2 e3 e4 => ?_⟩
  · rcases set_some e with ⟨rfl, rfl⟩ | ⟨ne, e⟩
    · exact ⟨.ref p, hs, p, ws, rfl, upd_same, z4, z5, z6, r⟩
    · obtain ⟨v, h1, h2⟩ := st.at_ j x e
      exact ⟨v, h1, own_ne j x ne e v h1 h2⟩
  · have get : ∀ (j : Nat) (m : List PyData), (ρ.set i (some (.own l')))[j]? = some (some (.own m)) → ∃ m0, ρ[j]? = some (some (.own m0)) := fun j m e => by
      rcases set_some e with ⟨rfl, _⟩ | ⟨_, e⟩
      · exact ⟨l, hi⟩
      · exact ⟨m, e⟩
    obtain ⟨m0, f1⟩ := get j m e1
    obtain ⟨m1, f2⟩ := get k m' e2
    exact st.sep j k m0 m1 q f1 f2 e3 e4
/-- x.append(e), x a list of the def's own -/
def dAppend (i : Nat) (te : TD) : TSD := fun D ρ => match ρ[i]? with
  | some (some (.own l)) => te ρ (fun y => match y with
    | .py y => l.length < 1000000 ∧ D.nx (ρ.set i (some (.own (l ++ [y]))))
    | _ => False) D.er
  | _ => False
theorem ls_append {i : Nat} {Te : TE} {te : TD} (he : LE S E Te te) : LS S E (tDrop (tBM S.K "list" rAppend (tVar i) (tCons Te tNil))) (dAppend i te) := by
  intro G0 H0 Fb D Dd σ ρ G H a r q
  unfold dAppend at q
  split at q
  · rename_i l e
    obtain ⟨v, z1, p, vs, rfl, z3, z4, z5, z6, z7⟩ := a.r.at_ i _ e
    refine ⟨.ref p, z1, .inl ⟨rfl, _, .inl (.inl z3)⟩, ?_⟩
    refine he H0 ρ σ G H _ _ _ a.s.wf a.r q (fun v d G1 H1 s1 rv q1 => ?_) (r.err a.s)
    split at q1
    · rename_i y
      have hp := s1.keep _ _ z3 z5 (fun z e => by cases e)
      have fp := s1.nf _ _ z3 trivial z4
      have bp := s1.nb _ _ z3 (fun z e => by cases e) z5
      have rp := RpA.mono s1.fm _ _ z7
      refine ⟨p, vs, v, rfl, rfl, hp, by rw [rp_len z7, sizeLine_eq]; have := q1.1; omega, ?_⟩
      exact r.nx _ _ _ _ ⟨(a.s.trans s1).write hp fp bp z6, (a.r.step s1).write e z1 hp (rpa_app rp (.cons (rv_py rv) .nil)), a.f.trans s1.fm⟩ q1.2
    · exact q1.elim
  · exact q.elim
/-- x[k] = e, x a list of the def's own -/
def dPutIx (i : Nat) (te tk : TD) : TSD := fun D ρ => match ρ[i]? with
  | some (some (.own l)) => te ρ (fun y => tk ρ (fun k => match k, y with
    | .py (.int k), .py y => ∃ j, ixN l.length k = some j ∧ D.nx (ρ.set i (some (.own (l.set j y))))
    | _, _ => False) D.er) D.er
  | _ => False
theorem rpa_set {F : Hp} {v : V} {d : PyData} (h : Rp F v d) : ∀ {xs : List V} {l : List PyData} (j : Nat), RpA F xs l → RpA F (xs.set j v) (l.set j d)
  | _, _, _, .nil => .nil
  | _, _, 0, .cons _ t => .cons h t
  | _, _, j + 1, .cons k t => .cons k (rpa_set h j t)
theorem ls_putIx {i : Nat} {Te Tk : TE} {te tk : TD} (he : LE S E Te te) (hk : LE S E Tk tk) : LS S E (tAsg Te (gSub (tVar i) Tk rSetL)) (dPutIx i te tk) := by
  intro G0 H0 Fb D Dd σ ρ G H a r q
  unfold dPutIx at q
  split at q
  · rename_i l e
    obtain ⟨v0, z1, p, vs, rfl, z3, z4, z5, z6, z7⟩ := a.r.at_ i _ e
    refine he H0 ρ σ G H _ _ _ a.s.wf a.r q (fun v d G1 H1 s1 rv q1 => ?_) (r.err a.s)
    refine ⟨.ref p, z1, ?_⟩
    refine hk H0 ρ σ G1 H1 _ _ _ s1.wf (a.r.step s1) q1 (fun kv kd G2 H2 s2 rk q2 => ?_) (r.err (a.s.trans s1))
    split at q2
    · obtain ⟨j, hj, q2⟩ := q2
      cases rv_int rk
      have s12 := s1.trans s2
      have hp := s12.keep _ _ z3 z5 (fun z e => by cases e)
      have fp := s12.nf _ _ z3 trivial z4
      have bp := s12.nb _ _ z3 (fun z e => by cases e) z5
      have rp := RpA.mono s12.fm _ _ z7
      have rv2 := rv.mono s2.fm s2.bm
      refine ⟨p, vs, _, j, rfl, rfl, hp, by rw [rp_len z7]; exact hj, ?_⟩
      exact r.nx _ _ _ _ ⟨(a.s.trans s12).write hp fp bp z6, (a.r.step s12).write e z1 hp (rpa_set (rv_py rv2) j rp), a.f.trans s12.fm⟩ q2
    · exact q2.elim
  · exact q.elim
/-- a list of the def's own is frozen: from now on it is data -/
def dFreeze (i : Nat) (t : TSD) : TSD := fun D ρ => match ρ[i]? with
  | some (some (.own l)) => t D (ρ.set i (some (.dv (.lst l))))
  | _ => False
theorem StR.freeze {σ : L2.St} {ρ : Rho} {i : Nat} {l : List PyData} {p : Addr} {vs : List V} (w : Wf S G H) (st : StR G H0 H σ ρ) (hi : ρ[i]? = some (some (.own l))) (hs : σ[i]? = some (some (.ref p))) (hp : H p = some (.lst vs)) (hf : G.F p = none) (r : RpA G.F vs l) :
    StR (G.put p (.lst vs)) H0 H σ (ρ.set i (some (.dv (.lst l)))) := by
  have fm : Same G.F (G.put p (.lst vs)).F := same_upd (.inl hf)
  refine ⟨by rw [List.length_set, st.len], fun j x e => ?_, fun j k m m' q e1 e2 e3 e4 => ?_⟩
  · rcases set_some e with ⟨rfl, rfl⟩ | ⟨ne, e⟩
    · exact ⟨.ref p, hs, .py (.lst put_same (RpA.mono fm _ _ r))⟩
    · obtain ⟨v, h1, h2⟩ := st.at_ j x e
      refine ⟨v, h1, ?_⟩
      cases x with
      | dv d => exact RV.mono fm (fun _ h => h) h2
      | own m =>
        obtain ⟨q, us, g1, g2, g3, g4, g5, g6⟩ := h2
        subst g1
        have n : q ≠ p := by
          rintro rfl
          exact ne (st.sep i j l m q hi e hs h1)
        exact ⟨q, us, rfl, g2, by rw [put_ne n]; exact g3, g4, g5, RpA.mono fm _ _ g6⟩
      | ini q dx C fs =>
        obtain ⟨us, g1, g2, g3, g4, g5, g6⟩ := h2
        subst g1
        exact ⟨us, rfl, g2, by rw [put_ne (ne_of g2 hp (fun z => by cases z))]; exact g3, g4, g5, Paired.mapP g6 fun _ _ z => ⟨z.1, z.2.mono fm (fun _ h => h)⟩⟩
  · rcases set_some e1 with ⟨_, z⟩ | ⟨_, e1⟩
    · cases z
    rcases set_some e2 with ⟨_, z⟩ | ⟨_, e2⟩
    · cases z
    exact st.sep j k m m' q e1 e2 e3 e4
theorem ls_freeze {i : Nat} {T : TS} {t : TSD} (h : LS S E T t) : LS S E T (dFreeze i t) := by
  intro G0 H0 Fb D Dd σ ρ G H a r q
  unfold dFreeze at q
  split at q
  · rename_i l e
    obtain ⟨v0, z1, p, vs, rfl, z3, z4, z5, z6, z7⟩ := a.r.at_ i _ e
    exact h G0 H0 Fb D Dd σ _ (G.put p (.lst vs)) H ⟨a.s.freeze z3 (fun z e => by cases e) z6 z5, a.r.freeze a.s.wf e z1 z3 z4 z7, a.f.trans (same_upd (.inl z4))⟩ r q
  · exact q.elim
/-- within an expression the def's own lists are data; what comes out of it holds no list -/
def unown : Rho → Rho
  | [] => []
  | some (.own l) :: r => some (.dv (.lst l)) :: unown r
  | x :: r => x :: unown r
def hasOwn : Rho → Bool
  | [] => false
  | some (.own _) :: _ => true
  | _ :: r => hasOwn r
def noLD : DV → Bool
  | .py d => noL d
  | .ins _ _ => false
  | .scr _ _ => false
  | .lam _ => false
  | .lams _ _ => false
  | _ => true
def okL (ρ : Rho) (d : DV) : Prop := (!hasOwn ρ || noLD d) = true
theorem unown_get : ∀ {ρ : Rho} {i : Nat}, (unown ρ)[i]? = (ρ[i]?).map (fun x => match x with | some (.own l) => some (.dv (.lst l)) | x => x)
  | [], i => by simp [unown]
  | some (.own l) :: r, 0 => rfl
  | some (.dv d) :: r, 0 => rfl
  | some (.ini p dx C fs) :: r, 0 => rfl
  | none :: r, 0 => rfl
  | some (.own l) :: r, i + 1 => by
    show (unown r)[i]? = _
    rw [unown_get]
    rfl
  | some (.dv d) :: r, i + 1 => by
    show (unown r)[i]? = _
    rw [unown_get]
    rfl
  | some (.ini p dx C fs) :: r, i + 1 => by
    show (unown r)[i]? = _
    rw [unown_get]
    rfl
  | none :: r, i + 1 => by
    show (unown r)[i]? = _
    rw [unown_get]
    rfl
theorem unown_len : ∀ {ρ : Rho}, (unown ρ).length = ρ.length
  | [] => rfl
  | some (.own l) :: r => by show (unown r).length + 1 = _; rw [unown_len]; rfl
  | some (.dv d) :: r => by show (unown r).length + 1 = _; rw [unown_len]; rfl
  | some (.ini p dx C fs) :: r => by show (unown r).length + 1 = _; rw [unown_len]; rfl
  | none :: r => by show (unown r).length + 1 = _; rw [unown_len]; rfl
theorem hasOwn_no {ρ : Rho} (h : hasOwn ρ = false) : ∀ (i : Nat) (l : List PyData), ρ[i]? ≠ some (some (.own l)) := by
  induction ρ with
  | nil => intro i l e; cases e
  | cons x r ih =>
    intro i l e
    cases x with
    | none =>
      cases i with
      | zero => cases e
      | succ i => exact ih h i l (by simpa using e)
    | some y =>
      cases y with
      | own m => cases h
      | ini p dx C fs =>
        cases i with
        | zero => cases e
        | succ i => exact ih h i l (by simpa using e)
      | dv d =>
        cases i with
        | zero => cases e
        | succ i => exact ih h i l (by simpa using e)
/-- the own lists' addresses -/
def OwnAt (ρ : Rho) (σ : L2.St) (p : Addr) : Prop := ∃ (i : Nat) (l : List PyData), ρ[i]? = some (some (.own l)) ∧ σ[i]? = some (some (.ref p))
noncomputable instance (ρ : Rho) (σ : L2.St) (p : Addr) : Decidable (OwnAt ρ σ p) := Classical.propDecidable _
noncomputable def Gh.withOwn (G : Gh) (H : Hp) (ρ : Rho) (σ : L2.St) : Gh := ⟨fun a => if OwnAt ρ σ a then H a else G.F a, G.B⟩
noncomputable def Gh.less (G' G : Gh) (ρ : Rho) (σ : L2.St) : Gh := ⟨fun a => if OwnAt ρ σ a then none else G'.F a, G'.B⟩
theorem le_snap' {σ : L2.St} {ρ : Rho} (w : Wf S G H) (st : StR G H0 H σ ρ) : Wf S (G.withOwn H ρ σ) H ∧ StR (G.withOwn H ρ σ) H0 H σ (unown ρ) ∧ Same G.F (G.withOwn H ρ σ).F ∧
    (∀ v d G' H', Step S (G.withOwn H ρ σ) H G' H' → RV G' v d → okL ρ d → ∃ G2, Step S G H G2 H' ∧ RV G2 v d ∧ (∀ b, G'.B b → G2.B b)) := by
  have own : ∀ p, OwnAt ρ σ p → ∃ l vs, H p = some (.lst vs) ∧ G.F p = none ∧ ¬ G.B p ∧ RpA G.F vs l := by
    rintro p ⟨i, l, h1, h2⟩
    obtain ⟨v0, z1, p', vs, rfl, z3, z4, z5, z6, z7⟩ := st.at_ i _ h1
    rw [h2] at z1
    cases z1
    exact ⟨l, vs, z3, z4, z5, z7⟩
  have fm : Same G.F (G.withOwn H ρ σ).F := fun a o e => by
    show (if OwnAt ρ σ a then H a else G.F a) = some o
    split
    · exact w.sub _ _ e
    · exact e
  have w' : Wf S (G.withOwn H ρ σ) H := by
    refine ⟨fun a o e => ?_, fun b hb => ⟨(w.box b hb).1, ?_⟩, fun a z e => ?_, w.tabs⟩
    · have e : (if OwnAt ρ σ a then H a else G.F a) = some o := e
      split at e
      · exact e
      · exact w.sub _ _ e
    · show (if OwnAt ρ σ b then H b else G.F b) = none
      split
      · rename_i h
        obtain ⟨_, _, _, _, z, _⟩ := own b h
        exact absurd hb z
      · exact (w.box b hb).2
    · have e : (if OwnAt ρ σ a then H a else G.F a) = some (.tbl z) := e
      split at e
      · rename_i h
        obtain ⟨_, _, q, _⟩ := own a h
        rw [q] at e
        cases e
      · exact w.tbl a z e
  refine ⟨w', ?_, fm, ?_⟩
  · refine ⟨by rw [unown_len, st.len], fun i x e => ?_, fun i j l l' p e1 => ?_⟩
    · rw [unown_get] at e
      cases q : ρ[i]? with
      | none => rw [q] at e; cases e
      | some y =>
        rw [q] at e
        cases y with
        | none => cases e
        | some y =>
          obtain ⟨v, h1, h2⟩ := st.at_ i y q
          cases y with
          | dv d =>
            cases e
            exact ⟨v, h1, RV.mono fm (fun _ h => h) h2⟩
          | own l =>
            cases e
            obtain ⟨p, vs, g1, g2, g3, g4, g5, g6⟩ := h2
            subst g1
            refine ⟨.ref p, h1, .py (.lst (xs := vs) ?_ (RpA.mono fm _ _ g6))⟩
            show (if OwnAt ρ σ p then H p else G.F p) = _
            rw [if_pos ⟨i, l, q, h1⟩]
            exact g2
          | ini p dx C fs =>
            cases e
            obtain ⟨vs, g1, g2, g3, g4, g5, g6⟩ := h2
            subst g1
            refine ⟨.ref p, h1, vs, rfl, g2, ?_, g4, g5, Paired.mapP g6 fun _ _ z => ⟨z.1, z.2.mono fm (fun _ h => h)⟩⟩
            show (if OwnAt ρ σ p then H p else G.F p) = none
            rw [if_neg]
            · exact g3
            · intro z
              obtain ⟨_, _, z, _⟩ := own p z
              rw [g2] at z
              cases z
    · rw [unown_get] at e1
      cases q : ρ[i]? with
      | none => rw [q] at e1; cases e1
      | some y =>
        rw [q] at e1
        cases y with
        | none => cases e1
        | some y => cases y <;> cases e1
  · intro v d G' H' s rv ok
    refine ⟨G'.less G ρ σ, ⟨w, ?_, ?_, s.bm, s.keep, fun a o h m f => ?_, s.nb, s.there⟩, ?_, fun b h => h⟩
    · refine ⟨fun a o e => ?_, fun b hb => ⟨(s.wf.box b hb).1, ?_⟩, fun a z e => ?_, s.wf.tabs⟩
      · have e : (if OwnAt ρ σ a then none else G'.F a) = some o := e
        split at e
        · cases e
        · exact s.wf.sub _ _ e
      · show (if OwnAt ρ σ b then none else G'.F b) = none
        split
        · rfl
        · exact (s.wf.box b hb).2
      · have e : (if OwnAt ρ σ a then none else G'.F a) = some (.tbl z) := e
        split at e
        · cases e
        · exact s.wf.tbl a z e
    · intro a o e
      show (if OwnAt ρ σ a then none else G'.F a) = some o
      split
      · rename_i h
        obtain ⟨_, _, _, q, _⟩ := own a h
        rw [q] at e
        cases e
      · exact s.fm _ _ (fm _ _ e)
    · show (if OwnAt ρ σ a then none else G'.F a) = none
      split
      · rfl
      · rename_i hn
        refine s.nf a o h m ?_
        show (if OwnAt ρ σ a then H a else G.F a) = none
        rw [if_neg hn]
        exact f
    · unfold okL at ok
      rw [Bool.or_eq_true] at ok
      have tup : ∀ a xs, G'.F a = some (.tup xs) → (G'.less G ρ σ).F a = some (.tup xs) := fun a xs e => by
        show (if OwnAt ρ σ a then none else G'.F a) = _
        split
        · rename_i h
          obtain ⟨l, vs, q1, q2, q3, q4⟩ := own a h
          have z := s.keep _ _ q1 q3 (fun z e => by cases e)
          have y := s.wf.sub _ _ e
          rw [z] at y
          cases y
        · exact e
      rcases ok with ok | ok
      · have no := hasOwn_no (ρ := ρ) (by simpa using ok)
        have e2 : Same G'.F (G'.less G ρ σ).F := fun a o e => by
          show (if OwnAt ρ σ a then none else G'.F a) = some o
          rw [if_neg]
          · exact e
          · rintro ⟨i, l, h, _⟩
            exact no i l h
        exact RV.mono e2 (fun _ h => h) rv
      · cases rv with
        | py h => exact .py (Rp.tups tup _ _ ok h)
        | ins _ _ => cases ok
        | scr _ => cases ok
        | lam _ => cases ok
        | lams _ _ _ => cases ok
        | box h => exact .box h
        | ref => exact .ref
        | ty => exact .ty
def dSnap (t : TD) : TD := fun ρ Qd Ed => t (unown ρ) (fun d => okL ρ d ∧ Qd d) (fun e => okL ρ e.v ∧ Ed e)
theorem le_snap {T : TE} {t : TD} (h : LE S E T t) : LE S E T (dSnap t) := by
  intro H0 ρ σ G H Qd Ed Q w st q k ke
  obtain ⟨w', st', fm, back⟩ := le_snap' w st
  refine h H0 (unown ρ) σ _ H _ _ _ w' st' q (fun v d G' H' s rv q => ?_) (fun e cls d G' H' s he q => ?_)
  · obtain ⟨G2, s2, r2, _⟩ := back v d G' H' s rv q.1
    exact k v d G2 H' s2 r2 q.2
  · obtain ⟨h1, dd, v, h2, h3, h4⟩ := he
    obtain ⟨G2, s2, r2, _⟩ := back v e.v G' H' s h4 q.1
    exact ke e cls d G2 H' s2 ⟨h1, dd, v, h2, h3, r2⟩ q.2
def dSnapT (t : TTD) : TTD := fun ρ Qb Ed => t (unown ρ) Qb (fun e => okL ρ e.v ∧ Ed e)
theorem lt_snap {T : TT} {t : TTD} (h : LT S E T t) : LT S E T (dSnapT t) := by
  intro H0 ρ σ G H Qd Ed Q w st q k ke
  obtain ⟨w', st', fm, back⟩ := le_snap' w st
  refine h H0 (unown ρ) σ _ H _ _ _ w' st' q (fun b G' H' s q => ?_) (fun e cls d G' H' s he q => ?_)
  · obtain ⟨G2, s2, r2, _⟩ := back (.bl true) (.bl true) G' H' s (.py (.bl _)) (by unfold okL; simp [noLD, noL])
    exact k b G2 H' s2 q
  · obtain ⟨h1, dd, v, h2, h3, h4⟩ := he
    obtain ⟨G2, s2, r2, _⟩ := back v e.v G' H' s h4 q.1
    exact ke e cls d G2 H' s2 ⟨h1, dd, v, h2, h3, r2⟩ q.2

/-! ### raise -/
def dRaise (C : Addr) (fld : Str) (te : TD) : TSD := fun D ρ => te ρ (fun v => D.er ⟨C, fld, v⟩) D.er
theorem ls_raise {C : Addr} {fld : Str} {Te : TE} {te : TD} (he : LE S E Te te) : LS S E (tErr C fld (fun cls d _ H => E cls d H) Te) (dRaise C fld te) := by
  intro G0 H0 Fb D Dd σ ρ G H a r q
  refine he H0 ρ σ G H _ _ _ a.s.wf a.r q (fun v d G1 H1 s1 rv q1 => ?_) (r.err a.s)
  refine err_in fun dd H' sm nd hd => ?_
  have s2 := Step.same s1.wf sm
  exact r.er ⟨C, fld, d⟩ _ _ G1 H' (a.s.trans (s1.trans s2)) ⟨rfl, dd, v, rfl, hd, rv⟩ q1
end

/-! ### defs -/
def startD (N : List Str) (ds : List DV) : Rho := ds.map (fun d => some (.dv d)) ++ List.replicate (N.length - ds.length) none
theorem startD_st {G : Gh} {H : Hp} {N : List Str} {vs : List V} {ds : List DV} (r : RVs G vs ds) : StR G H H (L2.start N vs) (startD N ds) := by
  have hl : vs.length = ds.length := Paired.length r
  have get : ∀ (i : Nat) (x : SV), (startD N ds)[i]? = some (some x) → ∃ d, ds[i]? = some d ∧ x = .dv d := fun i x e => by
    unfold startD at e
    rw [List.getElem?_append] at e
    split at e
    · rw [List.getElem?_map] at e
      cases q : ds[i]? with
      | none => rw [q] at e; cases e
      | some d =>
        rw [q] at e
        cases e
        exact ⟨d, rfl, rfl⟩
    · rw [List.getElem?_replicate] at e
      split at e <;> cases e
  have pget : ∀ {vs : List V} {ds : List DV} {i : Nat} {d : DV}, RVs G vs ds → ds[i]? = some d → ∃ v, vs[i]? = some v ∧ RV G v d := by
    intro vs ds i d r
    induction r generalizing i with
    | nil => intro e; cases e
    | cons h t ih =>
      intro e
      cases i with
      | zero =>
        simp at e
        subst e
        exact ⟨_, rfl, h⟩
      | succ i =>
        obtain ⟨v, h1, h2⟩ := ih (by simpa using e)
        exact ⟨v, by simpa using h1, h2⟩
  refine ⟨?_, fun i x e => ?_, fun i j l l' p e1 => ?_⟩
  · unfold startD L2.start
    simp [hl]
  · obtain ⟨d, h1, rfl⟩ := get i x e
    obtain ⟨v, h2, h3⟩ := pget r h1
    refine ⟨v, ?_, h3⟩
    unfold L2.start
    have lt := (List.getElem?_eq_some_iff.mp h2).1
    rw [List.getElem?_append_left (by rw [List.length_map]; exact lt), List.getElem?_map, h2]
    rfl
  · obtain ⟨d, _, h⟩ := get i _ e1
    cases h
theorem def_end {S : Sx} {E : XK} {N : List Str} {T : TS} {t : TSD} {vs : List V} {ds : List DV} {G : Gh} {H : Hp} {Q : VK} {Qd : DV → Prop} {Ed : Er → Prop} (w : Wf S G H) (r : RVs G vs ds) (h : LS S E T t)
    (k : ∀ v d G' H', Step S G H G' H' → RV G' v d → Qd d → Q v H') (ke : ∀ e cls d G' H', Step S G H G' H' → ErAt G' H' cls d e → Ed e → E cls d H')
    (q : t { nx := fun _ => Qd .non, rt := Qd, er := Ed } (startD N ds)) : T { nx := fun _ H' => Q .non H', rt := Q } (L2.start N vs) H :=
  h G H G.F _ { nx := fun _ => Qd .non, rt := Qd, er := Ed } _ _ G H ⟨Step.refl w, startD_st r, Same.refl _⟩
    ⟨fun σ ρ G' H' a q => k .non _ G' H' a.s (.py .non) q, fun v d G' H' s rv q => k v d G' H' s rv q, fun _ _ _ _ _ q => q.elim, fun _ _ _ _ _ q => q.elim, fun e cls d G' H' s he q => ke e cls d G' H' s he q⟩ q
section
variable {P : Program} {w : World} {mg : Str → Option Value} {base : Heap} {S : Sx}
/-- a def that may raise -/
theorem okDX {x qual : Str} {st : Stmt} {f : Addr} {fd : FuncData} {N ps : List Str} {k : Nat} {sp : SpD} (F : Fun S.K x qual st f fd) (Sc : FnScope N ps (defScope st))
    (hb : ∀ (cdv : Value) (A : Around) (outer : List Env) (s : Shared) (H : Hp) (E : XK), Room k (A.deeper (envOfC qual (defScope st) s.heap.objs.size f cdv)) →
      ∃ T t, PSs (cxOf (L2.CX P w) P w S.K mg base N qual (defScope st) f cdv A outer s H E) (defBody st) T ∧ LS S E T t ∧ ∀ ds Qd Ed, ds.length = ps.length → sp ds Qd Ed → t { nx := fun _ => Qd .non, rt := Qd, er := Ed } (startD N ds)) :
    FnOk P w S.K mg base (L2.CX P w) (k + 1) f fd ps (spD S ps.length sp) := by
  refine F.okX Sc (fun vs H Q E ⟨_, _, _, _, h, _⟩ => h) (fun cdv A outer s H vs Q E hr h => ?_)
  obtain ⟨G, ds, Qd, Ed, hl, wf, rv, q, k1, k2⟩ := h
  obtain ⟨T, t, h1, h2, h3⟩ := hb cdv A outer s H E hr
  exact ⟨T, h1, def_end wf rv h2 k1 k2 (h3 ds Qd Ed (by rw [← hl]; exact (Paired.length rv).symm) q)⟩
/-- a def that raises nothing -/
theorem okD0 {x qual : Str} {st : Stmt} {f : Addr} {fd : FuncData} {N ps : List Str} {k : Nat} {sp : SpD} (F : Fun S.K x qual st f fd) (Sc : FnScope N ps (defScope st))
    (hb : ∀ (cdv : Value) (A : Around) (outer : List Env) (s : Shared) (H : Hp) (E : XK), Room k (A.deeper (envOfC qual (defScope st) s.heap.objs.size f cdv)) →
      ∃ T t, PSs (cxOf L2.CX0 P w S.K mg base N qual (defScope st) f cdv A outer s H E).nox (defBody st) T ∧ LS S L2.E0 T t ∧ ∀ ds Qd Ed, ds.length = ps.length → sp ds Qd Ed → t { nx := fun _ => Qd .non, rt := Qd } (startD N ds)) :
    FnOk P w S.K mg base L2.CX0 (k + 1) f fd ps (spD S ps.length sp) := by
  refine F.ok Sc (fun vs H Q E ⟨_, _, _, _, h, _⟩ => h) (fun cdv A outer s H vs Q E hr h => ?_)
  obtain ⟨G, ds, Qd, Ed, hl, wf, rv, q, k1, k2⟩ := h
  obtain ⟨T, t, h1, h2, h3⟩ := hb cdv A outer s H E hr
  exact ⟨T, h1, def_end wf rv h2 k1 (fun _ _ _ _ _ _ _ z => z.elim) (h3 ds Qd Ed (by rw [← hl]; exact (Paired.length rv).symm) q)⟩
/-- .. that is called where no guard stands -/
theorem okDG {x qual : Str} {st : Stmt} {f : Addr} {fd : FuncData} {N ps : List Str} {k : Nat} {sp : SpD} (F : Fun S.K x qual st f fd) (Sc : FnScope N ps (defScope st))
    (hb : ∀ (cdv : Value) (A : Around) (outer : List Env) (s : Shared) (H : Hp) (E : XK), Room k (A.deeper (envOfC qual (defScope st) s.heap.objs.size f cdv)) → A.guards = some [] →
      ∃ T t, PSs (cxOf L2.CX0 P w S.K mg base N qual (defScope st) f cdv A outer s H E).nox (defBody st) T ∧ LS S L2.E0 T t ∧ ∀ ds Qd Ed, ds.length = ps.length → sp ds Qd Ed → t { nx := fun _ => Qd .non, rt := Qd } (startD N ds)) :
    FnOkG P w S.K mg base L2.CX0 (k + 1) f fd ps (spD S ps.length sp) := by
  refine okG F Sc (fun vs H Q E ⟨_, _, _, _, h, _⟩ => h) (fun cdv A outer s H vs Q E hr hg h => ?_)
  obtain ⟨G, ds, Qd, Ed, hl, wf, rv, q, k1, k2⟩ := h
  obtain ⟨T, t, h1, h2, h3⟩ := hb cdv A outer s H E hr hg
  exact ⟨T, h1, def_end wf rv h2 k1 (fun _ _ _ _ _ _ _ z => z.elim) (h3 ds Qd Ed (by rw [← hl]; exact (Paired.length rv).symm) q)⟩
end
end Dl

set_option Elab.async false
set_option linter.all false
set_option maxRecDepth 100000
set_option maxHeartbeats 4000000
/-! the data layer: slices, built-ins, instances under way -/
namespace Dl
open PySem PySem.Spec PyProof.Rows L2 Lx
section
variable {S : Sx} {E : XK} {G G0 : Gh} {H H0 : Hp}
/-! ### slices -/
abbrev POD := Rho → (Option Int → Prop) → (Er → Prop) → Prop
def LP (S : Sx) (E : XK) (T : TO) (t : POD) : Prop := ∀ (H0 : Hp) (ρ : Rho) (σ : L2.St) (G : Gh) (H : Hp) (Qd : Option Int → Prop) (Ed : Er → Prop) (Q : Option Int → Hp → Prop), Wf S G H → StR G H0 H σ ρ → t ρ Qd Ed →
  (∀ o G' H', Step S G H G' H' → Qd o → Q o H') → (∀ e cls d G' H', Step S G H G' H' → ErAt G' H' cls d e → Ed e → E cls d H') → T σ H Q
def dNoPart : POD := fun _ Qd _ => Qd none
theorem lp_none : LP S E tNoPart dNoPart := fun H0 ρ σ G H Qd Ed Q w st q k ke => k none G H (Step.refl w) q
def dPart (t : TD) : POD := fun ρ Qd Ed => t ρ (fun d => match d with
  | .py (.int i) => Qd (some i)
  | _ => False) Ed
theorem lp_some {T : TE} {t : TD} (h : LE S E T t) : LP S E (tPart T) (dPart t) := by
  intro H0 ρ σ G H Qd Ed Q w st q k ke
  refine h H0 ρ σ G H _ Ed _ w st q (fun v d G1 H1 s1 rv q1 => ?_) ke
  split at q1
  · cases rv_int rv
    exact ⟨_, rfl, k _ G1 H1 s1 q1⟩
  · exact q1.elim
def cutD (l : List PyData) (lo hi : Option Int) : List PyData := (l.drop (HT.sIx l.length 0 lo)).take (HT.sIx l.length l.length hi - HT.sIx l.length 0 lo)
theorem rpa_cut {F : Hp} {xs : List V} {l : List PyData} {lo hi : Option Int} (h : RpA F xs l) : RpA F (cutV xs lo hi) (cutD l lo hi) := by
  unfold cutV cutD
  rw [rp_len h]
  exact rpa_take _ (rpa_drop _ h)
theorem cutD_from (l : List PyData) (s : Nat) : cutD l (some (s : Int)) none = l.drop s := by
  unfold cutD
  rw [HT.sIx_nat, HT.sIx_none]
  rcases Nat.le_total s l.length with h | h
  · rw [Nat.min_eq_left h, List.take_of_length_le (by rw [List.length_drop]; exact Nat.le_refl _)]
  · rw [Nat.min_eq_right h, List.drop_of_length_le (Nat.le_refl _), List.drop_of_length_le h, List.take_nil]
theorem cutD_to (l : List PyData) (s : Nat) : cutD l none (some (s : Int)) = l.take s := by
  unfold cutD
  rw [HT.sIx_nat, HT.sIx_none, List.drop_zero, Nat.sub_zero]
  rcases Nat.le_total s l.length with h | h
  · rw [Nat.min_eq_left h]
  · rw [Nat.min_eq_right h, List.take_of_length_le (Nat.le_refl _), List.take_of_length_le h]
def rSlAny (K : PySem.W.Frag) : V → Option Int → Option Int → Hp → VK → Prop := fun x lo hi H Q => rSlL K x lo hi H Q ∨ rSlA K x lo hi H Q
theorem sl_any {X : Cx} : SlR X (rSlAny X.K) := SlR.or sl_list sl_tupA
def dSl (te : TD) (tl th : POD) : TD := fun ρ Qd Ed => te ρ (fun d => tl ρ (fun lo => th ρ (fun hi => match d with
  | .py (.list l) => Qd (.lst (cutD l lo hi))
  | .py (.tuple l) => Qd (.tup (cutD l lo hi))
  | _ => False) Ed) Ed) Ed
def oSl (te : TD) (tl th : POD) : TOD := fun ρ Qd Ed => te ρ (fun d => tl ρ (fun lo => th ρ (fun hi => match d with
  | .py (.list l) => Qd (cutD l lo hi)
  | _ => False) Ed) Ed) Ed
theorem le_sl {Te : TE} {Tl Th : TO} {te : TD} {tl th : POD} (he : LE S E Te te) (hl : LP S E Tl tl) (hh : LP S E Th th) : LE S E (tSl (rSlAny S.K) Te Tl Th) (dSl te tl th) := by
  intro H0 ρ σ G H Qd Ed Q w st q k ke
  refine he H0 ρ σ G H _ Ed _ w st q (fun v d G1 H1 s1 rv q1 => ?_) ke
  refine hl H0 ρ σ G1 H1 _ Ed _ s1.wf (st.step s1) q1 (fun lo G2 H2 s2 q2 => ?_) (fun e cls d G' H' s he h => ke e cls d G' H' (s1.trans s) he h)
  have s12 := s1.trans s2
  refine hh H0 ρ σ G2 H2 _ Ed _ s2.wf (st.step s12) q2 (fun hi G3 H3 s3 q3 => ?_) (fun e cls d G' H' s he h => ke e cls d G' H' (s12.trans s) he h)
  have s13 := s12.trans s3
  have rv3 := rv.mono (s2.trans s3).fm (s2.trans s3).bm
  split at q3
  · obtain ⟨p, xs, rfl, h1, h2⟩ := rv_lst rv3
    exact .inl ⟨p, xs, rfl, .inl (.inl (s13.wf.sub _ _ h1)), fun t nt => k _ _ _ _ (s13.trans (Step.newF (o := .lst (cutV xs lo hi)) s13.wf nt (fun z e => by cases e))) (.py (.lst put_same (RpA.mono (same_upd (.inl (s13.wf.free nt))) _ _ (rpa_cut h2)))) q3⟩
  · rename_i l
    obtain ⟨p, xs, rfl, h1, h2⟩ := rv_tup rv3
    refine .inr ⟨p, xs, rfl, .inl (.inl (s13.wf.sub _ _ h1)), fun ⟨e1, e2⟩ => ?_, fun _ t nt => k _ _ _ _ (s13.trans (Step.newF (o := .tup (cutV xs lo hi)) s13.wf nt (fun z e => by cases e))) (.py (.tup put_same (RpA.mono (same_upd (.inl (s13.wf.free nt))) _ _ (rpa_cut h2)))) q3⟩
    have e : cutD l lo hi = l := by
      unfold cutD
      rw [← rp_len h2, e1, e2, List.drop_zero, Nat.sub_zero, rp_len h2, List.take_of_length_le (Nat.le_refl _)]
    rw [e] at q3
    exact k _ _ G3 H3 s13 rv3 q3
  · exact q3.elim
theorem lo_sl {Te : TE} {Tl Th : TO} {te : TD} {tl th : POD} (he : LE S E Te te) (hl : LP S E Tl tl) (hh : LP S E Th th) : LO S E (tSl (rSlAny S.K) Te Tl Th) (oSl te tl th) := by
  intro H0 ρ σ G H Qd Ed Q w st q k ke
  refine he H0 ρ σ G H _ Ed _ w st q (fun v d G1 H1 s1 rv q1 => ?_) ke
  refine hl H0 ρ σ G1 H1 _ Ed _ s1.wf (st.step s1) q1 (fun lo G2 H2 s2 q2 => ?_) (fun e cls d G' H' s he h => ke e cls d G' H' (s1.trans s) he h)
  have s12 := s1.trans s2
  refine hh H0 ρ σ G2 H2 _ Ed _ s2.wf (st.step s12) q2 (fun hi G3 H3 s3 q3 => ?_) (fun e cls d G' H' s he h => ke e cls d G' H' (s12.trans s) he h)
  have s13 := s12.trans s3
  have rv3 := rv.mono (s2.trans s3).fm (s2.trans s3).bm
  split at q3
  · obtain ⟨p, xs, rfl, h1, h2⟩ := rv_lst rv3
    exact .inl ⟨p, xs, rfl, .inl (.inl (s13.wf.sub _ _ h1)), fun t nt => k t _ _ G3 _ (s13.trans (Step.new s13.wf nt)) (s13.was_free (.of nt)) upd_same (s13.wf.free nt) (s13.wf.box_ne nt) (rpa_cut h2) q3⟩
  · exact q3.elim

/-! ### built-ins -/
theorem cr_or {X : Cx} {f : Value} {r r' : List V → Hp → VK → Prop} (h : CallR X f r) (h' : CallR X f r') : CallR X f (fun xs H Q => r xs H Q ∨ r' xs H Q) := by
  rintro pins s σ H xs us Q I rx (q | q)
  · exact h pins s σ H xs us Q I rx q
  · exact h' pins s σ H xs us Q I rx q
def rLenA (K : PySem.W.Frag) : List V → Hp → VK → Prop := fun xs H Q => rLenS K xs H Q ∨ ∃ z, xs = [.str z] ∧ z.length ≤ sizeLine ∧ Q (.int z.length) H
theorem lenA {X : Cx} : CallR X (.builtin "len") (rLenA X.K) := cr_or lenS call_len_str
def fLen (K : PySem.W.Frag) : FA := fun ds Q => match ds with
  | [.py (.list l)] => Q (.int (l.length : Nat))
  | [.py (.tuple l)] => Q (.int (l.length : Nat))
  | [.py (.str z)] => z.length ≤ sizeLine ∧ Q (.int z.length)
  | [.scr K' ns] => K' = K ∧ Q (.int (ns.length : Nat))
  | _ => False
theorem lc_len : LCr S (rLenA S.K) (fLen S.K) := by
  intro G H xs ds Qd Q w rx q k
  unfold fLen at q
  split at q
  · cases rx with
    | cons h t =>
      cases t
      obtain ⟨p, xs, rfl, h1, h2⟩ := rv_lst h
      refine .inl ⟨p, xs, rfl, .inl (.inl (.inl (w.sub _ _ h1))), ?_⟩
      rw [rp_len h2]
      exact k _ _ G H (Step.refl w) (.py (.int _)) q
  · cases rx with
    | cons h t =>
      cases t
      obtain ⟨p, xs, rfl, h1, h2⟩ := rv_tup h
      refine .inl ⟨p, xs, rfl, .inr (.inl (.inl (w.sub _ _ h1))), ?_⟩
      rw [rp_len h2]
      exact k _ _ G H (Step.refl w) (.py (.int _)) q
  · cases rx with
    | cons h t =>
      cases t
      cases rv_str h
      exact .inr ⟨_, rfl, q.1, k _ _ G H (Step.refl w) (.py (.int _)) q.2⟩
  · rename_i K' ns
    obtain ⟨eK, q⟩ := q
    subst eK
    cases rx with
    | cons h t =>
      cases t
      cases h with
      | @scr _ a _ h =>
        refine .inl ⟨a, ns.map V.int, rfl, .inl ?_, ?_⟩
        · rcases h with (h | ⟨o, h⟩) | h
          · exact .inl (.inl (w.sub _ _ h))
          · exact .inl (.inr ⟨o, w.sub _ _ h⟩)
          · exact h H
        · rw [List.length_map]
          exact k _ _ G H (Step.refl w) (.py (.int _)) q
  · exact q.elim
def fInt1 : FA := fun ds Q => match ds with
  | [.py (.int i)] => Q (.int i)
  | [.py (.bool b)] => Q (.int (if b then 1 else 0))
  | _ => False
theorem lc_int1 : LCr S (fun xs H Q => (∃ i, xs = [.int i] ∧ Q (.int i) H) ∨ ∃ k, xs = [.bl k] ∧ Q (.int (if k then 1 else 0)) H) fInt1 := by
  intro G H xs ds Qd Q w rx q k
  unfold fInt1 at q
  split at q
  · cases rx with
    | cons h t =>
      cases t
      cases rv_int h
      exact .inl ⟨_, rfl, k _ _ G H (Step.refl w) (.py (.int _)) q⟩
  · cases rx with
    | cons h t =>
      cases t
      cases rv_bl h
      exact .inr ⟨_, rfl, k _ _ G H (Step.refl w) (.py (.int _)) q⟩
  · exact q.elim
def fAbs : FA := fun ds Q => match ds with
  | [.py (.int i)] => Q (.int (if i < 0 then -i else i))
  | _ => False
theorem lc_abs : LCr S (fun xs H Q => ∃ i, xs = [.int i] ∧ Q (.int (if i < 0 then -i else i)) H) fAbs := by
  intro G H xs ds Qd Q w rx q k
  unfold fAbs at q
  split at q
  · cases rx with
    | cons h t =>
      cases t
      cases rv_int h
      exact ⟨_, rfl, k _ _ G H (Step.refl w) (.py (.int _)) q⟩
  · exact q.elim
def fInt2 (g : Int → Int → Int) : FA := fun ds Q => match ds with
  | [.py (.int i), .py (.int j)] => Q (.int (g i j))
  | _ => False
theorem lc_int2 {g : Int → Int → Int} : LCr S (fun xs H Q => ∃ i j, xs = [.int i, .int j] ∧ Q (.int (g i j)) H) (fInt2 g) := by
  intro G H xs ds Qd Q w rx q k
  unfold fInt2 at q
  split at q
  · cases rx with
    | cons h t =>
      cases t with
      | cons h' t =>
        cases t
        cases rv_int h
        cases rv_int h'
        exact ⟨_, _, rfl, k _ _ G H (Step.refl w) (.py (.int _)) q⟩
  · exact q.elim
def fDivmod : FA := fun ds Q => match ds with
  | [.py (.int i), .py (.int j)] => CDiv i j ∧ Q (.tup [.int (i / j), .int (i % j)])
  | _ => False
theorem lc_divmod : LCr S (fun xs H Q => ∃ i j, xs = [.int i, .int j] ∧ CDiv i j ∧ ∀ p, H p = none → Q (.ref p) (upd H p (.tup [.int (i / j), .int (i % j)]))) fDivmod := by
  intro G H xs ds Qd Q w rx q k
  unfold fDivmod at q
  split at q
  · cases rx with
    | cons h t =>
      cases t with
      | cons h' t =>
        cases t
        cases rv_int h
        cases rv_int h'
        exact ⟨_, _, rfl, q.1, fun p np => k _ _ _ _ (Step.newF w np (fun z e => by cases e)) (.py (.tup put_same (.cons (.int _) (.cons (.int _) .nil)))) q.2⟩
  · exact q.elim
def fTuple : FA := fun ds Q => match ds with
  | [.py (.list l)] => Q (.tup l)
  | [.py (.tuple l)] => Q (.tup l)
  | _ => False
theorem lc_tuple : LCr S (rTupOf S.K) fTuple := by
  intro G H xs ds Qd Q w rx q k
  unfold fTuple at q
  split at q
  · cases rx with
    | cons h t =>
      cases t
      obtain ⟨p, xs, rfl, h1, h2⟩ := rv_lst h
      exact ⟨p, xs, rfl, .inl ⟨.inl (.inl (w.sub _ _ h1)), fun l nl => k _ _ _ _ (Step.newF (o := .tup xs) w nl (fun z e => by cases e)) (.py (.tup put_same (RpA.mono (same_upd (.inl (w.free nl))) _ _ h2))) q⟩⟩
  · cases rx with
    | cons h t =>
      cases t
      have h' := h
      obtain ⟨p, xs, rfl, h1, h2⟩ := rv_tup h
      exact ⟨p, xs, rfl, .inr ⟨.inl (.inl (w.sub _ _ h1)), k _ _ G H (Step.refl w) h' q⟩⟩
  · exact q.elim
def rListOf (K : PySem.W.Frag) : List V → Hp → VK → Prop := fun xs H Q => ∃ p ys, xs = [.ref p] ∧ (SqL K H p ys ∨ SqT K H p ys) ∧ ∀ l, H l = none → Q (.ref l) (upd H l (.lst ys))
theorem listOf {X : Cx} : CallR X (.type "list") (rListOf X.K) := call_list_of
def fList : FO := fun ds Q => match ds with
  | [.py (.list l)] => Q l
  | [.py (.tuple l)] => Q l
  | _ => False
theorem lc_list : LCo S (rListOf S.K) fList := by
  intro G H xs ds Qd Q w rx q k
  unfold fList at q
  split at q
  · cases rx with
    | cons h t =>
      cases t
      obtain ⟨p, xs, rfl, h1, h2⟩ := rv_lst h
      exact ⟨p, xs, rfl, .inl (.inl (.inl (w.sub _ _ h1))), fun l nl => k l _ _ G _ (Step.new w nl) (.of nl) upd_same (w.free nl) (w.box_ne nl) h2 q⟩
  · cases rx with
    | cons h t =>
      cases t
      obtain ⟨p, xs, rfl, h1, h2⟩ := rv_tup h
      exact ⟨p, xs, rfl, .inr (.inl (.inl (w.sub _ _ h1))), fun l nl => k l _ _ G _ (Step.new w nl) (.of nl) upd_same (w.free nl) (w.box_ne nl) h2 q⟩
  · exact q.elim
theorem rpa_ints {F : Hp} {xs : List V} : ∀ {ns : List Int}, RpA F xs (ns.map PyData.int) → xs = ns.map V.int := by
  intro ns
  induction ns generalizing xs with
  | nil => intro h; cases h; rfl
  | cons n ns ih =>
    intro h
    cases h with
    | cons h t =>
      cases h
      rw [ih t]
      rfl
theorem ints_rpa {F : Hp} : ∀ (ns : List Int), RpA F (ns.map V.int) (ns.map PyData.int)
  | [] => .nil
  | n :: ns => .cons (.int n) (ints_rpa ns)
/-- sorted(ints) -/
def fSorted : FO := fun ds Q => match ds with
  | [.py (.list l)] => ∃ ns : List Int, l = ns.map .int ∧ ∀ ns' : List Int, ns'.Perm ns → ns'.Pairwise (· ≤ ·) → Q (ns'.map .int)
  | _ => False
theorem lc_sorted : LCo S (rSortedI S.K) fSorted := by
  intro G H xs ds Qd Q w rx q k
  unfold fSorted at q
  split at q
  · cases rx with
    | cons h t =>
      cases t
      obtain ⟨p, xs, rfl, h1, h2⟩ := rv_lst h
      obtain ⟨ns, rfl, q⟩ := q
      rw [rpa_ints h2] at h1
      exact ⟨p, ns, rfl, .inl (.inl (w.sub _ _ h1)), fun ns' l hp hs nl => k l _ _ G _ (Step.new w nl) (.of nl) upd_same (w.free nl) (w.box_ne nl) (ints_rpa ns') (q ns' hp hs)⟩
  · exact q.elim
/-- sorted(set(ints)) -/
def oSortedSet (te : TD) : TOD := fun ρ Qd Ed => te ρ (fun d => match d with
  | .py (.list l) => ∃ ns : List Int, l = ns.map .int ∧ ns.length < 64 ∧ ∀ ns' : List Int, ns'.Pairwise (· < ·) → (∀ k, k ∈ ns' ↔ k ∈ ns) → Qd (ns'.map .int)
  | _ => False) Ed
theorem lo_sortedSet {w : World} {Te : TE} {te : TD} (h : LE S E Te te) : LO S E (tCB (rSortedSet w) (tCons (tCB (rSetOfI S.K w) (tCons Te tNil)) tNil)) (oSortedSet te) := by
  intro H0 ρ σ G H Qd Ed Q wf st q k ke
  refine h H0 ρ σ G H _ Ed _ wf st q (fun v d G1 H1 s1 rv q1 => ?_) ke
  split at q1
  · obtain ⟨p, xs, rfl, h1, h2⟩ := rv_lst rv
    obtain ⟨ns, rfl, h64, q⟩ := q1
    rw [rpa_ints h2] at h1
    refine ⟨p, ns, rfl, .inl (.inl (s1.wf.sub _ _ h1)), by omega, fun t n hn nt => ?_⟩
    refine ⟨t, _, n, rfl, upd_same, by omega, fun ns' l hs hm hl nl => ?_⟩
    have w2 := s1.trans (Step.new (o := SetO w t (fun j => decide (j ∈ ns)) n) s1.wf nt)
    exact k l _ _ G1 _ (w2.trans (Step.new w2.wf nl)) (w2.was_free (.of nl)) upd_same (w2.wf.free nl) (w2.wf.box_ne nl) (ints_rpa ns') (q ns' hs fun k => by rw [hm k, decide_eq_true_eq])
  · exact q1.elim
def fRepr : FA := fun ds Q => match ds with
  | [.py d] => RepOk d ∧ Q (.str d.shown)
  | _ => False
theorem lc_repr : LCr S (rRepr S.K) fRepr := by
  intro G H xs ds Qd Q w rx q k
  unfold fRepr at q
  split at q
  · cases rx with
    | cons h t =>
      cases t
      exact ⟨_, _, rfl, Rp.dp w.sub _ _ (rv_py h), q.1, k _ _ G H (Step.refl w) (.py (.str _)) q.2⟩
  · exact q.elim
theorem rpa_bools {F : Hp} {xs : List V} : ∀ {ns : List Bool}, RpA F xs (ns.map PyData.bool) → xs = ns.map V.bl := by
  intro ns
  induction ns generalizing xs with
  | nil => intro h; cases h; rfl
  | cons n ns ih =>
    intro h
    cases h with
    | cons h t =>
      cases h
      rw [ih t]
      rfl
def fAll (g : List Bool → Bool) : FA := fun ds Q => match ds with
  | [.py (.list l)] => ∃ bs : List Bool, l = bs.map .bool ∧ Q (.bl (g bs))
  | _ => False
theorem lc_all {g : List Bool → Bool} : LCr S (fun vs H Q => ∃ (a : Addr) (bs : List Bool), vs = [V.ref a] ∧ SqL S.K H a (bs.map V.bl) ∧ Q (.bl (g bs)) H) (fAll g) := by
  intro G H xs ds Qd Q w rx q k
  unfold fAll at q
  split at q
  · cases rx with
    | cons h t =>
      cases t
      obtain ⟨p, xs, rfl, h1, h2⟩ := rv_lst h
      obtain ⟨bs, rfl, q⟩ := q
      rw [rpa_bools h2] at h1
      exact ⟨p, bs, rfl, .inl (.inl (w.sub _ _ h1)), k _ _ G H (Step.refl w) (.py (.bl _)) q⟩
  · exact q.elim
def fSum : FA := fun ds Q => match ds with
  | [.py (.list l)] => ∃ ns : List Int, l = ns.map .int ∧ Q (.int ns.sum)
  | _ => False
theorem lc_sum : LCr S (rSum S.K) fSum := by
  intro G H xs ds Qd Q w rx q k
  unfold fSum at q
  split at q
  · cases rx with
    | cons h t =>
      cases t
      obtain ⟨p, xs, rfl, h1, h2⟩ := rv_lst h
      obtain ⟨ns, rfl, q⟩ := q
      rw [rpa_ints h2] at h1
      exact ⟨p, ns, rfl, .inl (.inl (w.sub _ _ h1)), k _ _ G H (Step.refl w) (.py (.int _)) q⟩
  · exact q.elim
/-! ### isinstance -/
theorem rp_kit {F : Hp} {K : PySem.W.Frag} {H : Hp} {v : V} {d : PyData} (e : Same F H) (h : Rp F v d) : Vk K H v := by
  cases h with
  | non => exact .non
  | bl b => exact .bl b
  | int i => exact .int i
  | str x => exact .str x
  | lst h _ => exact .lst (.inl (.inl (e _ _ h)))
  | tup h _ => exact .tup (.inl (.inl (e _ _ h)))
def isIntD : PyData → Bool
  | .int _ => true
  | .bool _ => true
  | _ => false
def isBoolD : PyData → Bool
  | .bool _ => true
  | _ => false
def isStrD : PyData → Bool
  | .str _ => true
  | _ => false
def isTupD : PyData → Bool
  | .tuple _ => true
  | _ => false
def isSeqD : PyData → Bool
  | .list _ => true
  | .tuple _ => true
  | _ => false
def fIsT (n : String) (g : PyData → Bool) : FA := fun ds Q => match ds with
  | [.py d, .ty m] => m = n ∧ Q (.bl (g d))
  | _ => False
theorem lc_isInt : LCr S (rIsi S.K) (fIsT "int" isIntD) := by
  intro G H xs ds Qd Q w rx q k
  unfold fIsT at q
  split at q
  · rename_i d m
    obtain ⟨rfl, q⟩ := q
    cases rx with
    | cons h t =>
      cases t with
      | cons h' t =>
        cases t
        cases h'
        have r := rv_py h
        obtain ⟨t, y, z⟩ := (rp_kit (K := S.K) w.sub r).asInt
        have e : ∀ v, Rp G.F v d → isI v = isIntD d := fun v r => by cases r <;> rfl
        rw [e _ r] at z
        exact ⟨_, _, t, _, _, rfl, .ty "int", y, z, k _ _ G H (Step.refl w) (.py (.bl _)) q⟩
  · exact q.elim
theorem lc_isBool : LCr S (rIsi S.K) (fIsT "bool" isBoolD) := by
  intro G H xs ds Qd Q w rx q k
  unfold fIsT at q
  split at q
  · rename_i d m
    obtain ⟨rfl, q⟩ := q
    cases rx with
    | cons h t =>
      cases t with
      | cons h' t =>
        cases t
        cases h'
        have r := rv_py h
        obtain ⟨t, y, z⟩ := (rp_kit (K := S.K) w.sub r).asBool
        have e : ∀ v, Rp G.F v d → isB v = isBoolD d := fun v r => by cases r <;> rfl
        rw [e _ r] at z
        exact ⟨_, _, t, _, _, rfl, .ty "bool", y, z, k _ _ G H (Step.refl w) (.py (.bl _)) q⟩
  · exact q.elim
def tyNm : PyData → String
  | .none => "NoneType" | .bool _ => "bool" | .int _ => "int" | .str _ => "str" | .list _ => "list" | .tuple _ => "tuple" | .dict _ => "dict"
theorem rp_ty {F : Hp} {K : PySem.W.Frag} {H : Hp} {v : V} {d : PyData} (e : Same F H) (h : Rp F v d) : TyX K H v (.type (tyNm d)) := by
  cases h with
  | non => exact .base .non
  | bl b => exact .base (.bl b)
  | int i => exact .base (.int i)
  | str x => exact .base (.str x)
  | lst h _ => exact .base (.lst (e _ _ h))
  | tup h _ => exact .base (.tup (e _ _ h))
theorem kit_str (K : PySem.W.Frag) (d : PyData) : PySem.W.kitOne K (.type (tyNm d)) (.type "str") = some (isStrD d) := by
  cases d with
  | none => exact show PySem.W.kitOne K (.type "NoneType") (.type "str") = some false from kit_ty (by decide +kernel)
  | bool => exact show PySem.W.kitOne K (.type "bool") (.type "str") = some false from kit_ty (by decide +kernel)
  | int => exact show PySem.W.kitOne K (.type "int") (.type "str") = some false from kit_ty (by decide +kernel)
  | str => exact show PySem.W.kitOne K (.type "str") (.type "str") = some true from kit_ty (by decide +kernel)
  | list => exact show PySem.W.kitOne K (.type "list") (.type "str") = some false from kit_ty (by decide +kernel)
  | tuple => exact show PySem.W.kitOne K (.type "tuple") (.type "str") = some false from kit_ty (by decide +kernel)
  | dict => exact show PySem.W.kitOne K (.type "dict") (.type "str") = some false from kit_ty (by decide +kernel)
theorem kit_tup (K : PySem.W.Frag) (d : PyData) : PySem.W.kitOne K (.type (tyNm d)) (.type "tuple") = some (isTupD d) := by
  cases d with
  | none => exact show PySem.W.kitOne K (.type "NoneType") (.type "tuple") = some false from kit_ty (by decide +kernel)
  | bool => exact show PySem.W.kitOne K (.type "bool") (.type "tuple") = some false from kit_ty (by decide +kernel)
  | int => exact show PySem.W.kitOne K (.type "int") (.type "tuple") = some false from kit_ty (by decide +kernel)
  | str => exact show PySem.W.kitOne K (.type "str") (.type "tuple") = some false from kit_ty (by decide +kernel)
  | list => exact show PySem.W.kitOne K (.type "list") (.type "tuple") = some false from kit_ty (by decide +kernel)
  | tuple => exact show PySem.W.kitOne K (.type "tuple") (.type "tuple") = some true from kit_ty (by decide +kernel)
  | dict => exact show PySem.W.kitOne K (.type "dict") (.type "tuple") = some false from kit_ty (by decide +kernel)
theorem kit_seq (K : PySem.W.Frag) (d : PyData) : PySem.W.kitAny K (.type (tyNm d)) [.type "list", .type "tuple"] = some (isSeqD d) := by
  cases d with
  | none => exact show PySem.W.kitAny K (.type "NoneType") [.type "list", .type "tuple"] = some false from kitLT (b1 := false) (b2 := false) (kit_ty (by decide +kernel)) (kit_ty (by decide +kernel))
  | bool => exact show PySem.W.kitAny K (.type "bool") [.type "list", .type "tuple"] = some false from kitLT (b1 := false) (b2 := false) (kit_ty (by decide +kernel)) (kit_ty (by decide +kernel))
  | int => exact show PySem.W.kitAny K (.type "int") [.type "list", .type "tuple"] = some false from kitLT (b1 := false) (b2 := false) (kit_ty (by decide +kernel)) (kit_ty (by decide +kernel))
  | str => exact show PySem.W.kitAny K (.type "str") [.type "list", .type "tuple"] = some false from kitLT (b1 := false) (b2 := false) (kit_ty (by decide +kernel)) (kit_ty (by decide +kernel))
  | list => exact show PySem.W.kitAny K (.type "list") [.type "list", .type "tuple"] = some true from kitLT (b1 := true) (b2 := false) (kit_ty (by decide +kernel)) (kit_ty (by decide +kernel))
  | tuple => exact show PySem.W.kitAny K (.type "tuple") [.type "list", .type "tuple"] = some true from kitLT (b1 := false) (b2 := true) (kit_ty (by decide +kernel)) (kit_ty (by decide +kernel))
  | dict => exact show PySem.W.kitAny K (.type "dict") [.type "list", .type "tuple"] = some false from kitLT (b1 := false) (b2 := false) (kit_ty (by decide +kernel)) (kit_ty (by decide +kernel))
theorem lc_isStr : LCr S (rIsi S.K) (fIsT "str" isStrD) := by
  intro G H xs ds Qd Q w rx q k
  unfold fIsT at q
  split at q
  · rename_i d m
    obtain ⟨rfl, q⟩ := q
    cases rx with
    | cons h t =>
      cases t with
      | cons h' t =>
        cases t
        cases h'
        exact ⟨_, _, _, _, isStrD d, rfl, .ty "str", rp_ty w.sub (rv_py h), kit_str _ d, k _ _ G H (Step.refl w) (.py (.bl _)) q⟩
  · exact q.elim
theorem lc_isTup : LCr S (rIsi S.K) (fIsT "tuple" isTupD) := by
  intro G H xs ds Qd Q w rx q k
  unfold fIsT at q
  split at q
  · rename_i d m
    obtain ⟨rfl, q⟩ := q
    cases rx with
    | cons h t =>
      cases t with
      | cons h' t =>
        cases t
        cases h'
        exact ⟨_, _, _, _, isTupD d, rfl, .ty "tuple", rp_ty w.sub (rv_py h), kit_tup _ d, k _ _ G H (Step.refl w) (.py (.bl _)) q⟩
  · exact q.elim
/-- isinstance(e, (list, tuple)) -/
def dIsLT (te : TD) : TD := fun ρ Qd Ed => te ρ (fun d => match d with
  | .py d => Qd (.bl (isSeqD d))
  | _ => False) Ed
theorem le_isLT {Te : TE} {te : TD} (h : LE S E Te te) : LE S E (tCB (rIsiT S.K) (tCons Te (tCons (tTup (tCons (tC (.ty "list")) (tCons (tC (.ty "tuple")) tNil))) tNil))) (dIsLT te) := by
  intro H0 ρ σ G H Qd Ed Q wf st q k ke
  refine h H0 ρ σ G H _ Ed _ wf st q (fun v d G1 H1 s1 rv q1 => ?_) ke
  split at q1
  · rename_i d
    refine ⟨by show 2 ≤ sizeLine; decide, fun p np => ?_⟩
    have s2 := s1.trans (Step.new (o := .tup [.ty "list", .ty "tuple"]) s1.wf np)
    exact ⟨v, p, [.ty "list", .ty "tuple"], _, [.type "list", .type "tuple"], isSeqD d, rfl, upd_same, .cons (.ty _) (.cons (.ty _) .nil), rp_ty s2.wf.sub (rv_py rv), kit_seq _ d, k _ _ G1 _ s2 (.py (.bl _)) q1⟩
  · exact q1.elim
end
end Dl

set_option Elab.async false
set_option linter.all false
set_option maxRecDepth 100000
set_option maxHeartbeats 4000000
/-! the data layer: chains, op=, keywords, instances under way, instances made -/
namespace Dl
open PySem PySem.Spec PyProof.Rows L2 Lx
section
variable {S : Sx} {E : XK} {G G0 : Gh} {H H0 : Hp}
theorem le_chain {r r' : R2} {f f' : F2} {Ta Tb Tc : TE} {ta tb tc : TD} (hr : L2r S r f) (hr' : L2r S r' f') (ha : LE S E Ta ta) (hb : LE S E Tb tb) (hc : LE S E Tc tc) : LE S E (tChain r r' Ta Tb Tc) (dChain f f' ta tb tc) := by
  intro H0 ρ σ G H Qd Ed Q w st q k ke
  refine ha H0 ρ σ G H _ Ed _ w st q (fun x dx G1 H1 s1 rx q1 => ?_) ke
  refine hb H0 ρ σ G1 H1 _ Ed _ s1.wf (st.step s1) q1 (fun y dy G2 H2 s2 ry q2 => ?_) (fun e cls d G2 H2 s2 he h => ke e cls d G2 H2 (s1.trans s2) he h)
  have s12 := s1.trans s2
  refine hr G2 H2 x y dx dy _ _ s2.wf (rx.mono s2.fm s2.bm) ry q2 fun v d G3 H3 s3 rv q3 => ?_
  have s13 := s12.trans s3
  split at q3
  · rename_i b
    cases rv_bl rv
    cases b with
    | false => exact ⟨false, rfl, iteF (k _ _ G3 H3 s13 (.py (.bl _)) q3)⟩
    | true =>
    refine ⟨true, rfl, iteT ?_⟩
    refine hc H0 ρ σ G3 H3 _ Ed _ s13.wf (st.step s13) q3 (fun z dz G4 H4 s4 rz q4 => ?_) (fun e cls d G4 H4 s4 he h => ke e cls d G4 H4 (s13.trans s4) he h)
    have s34 := s3.trans s4
    exact hr' G4 H4 y z dy dz Qd Q s4.wf (ry.mono s34.fm s34.bm) rz q4 fun v d G5 H5 s5 rv q5 => k v d G5 H5 ((s13.trans s4).trans s5) rv q5
  · exact q3.elim
/-- x += e, x -= e of ints -/
def dAug (i : Nat) (f : Int → Int → Int) (te : TD) : TSD := fun D ρ => match ρ[i]? with
  | some (some (.dv (.py (.int a)))) => te ρ (fun y => match y with
    | .py (.int b) => D.nx (ρ.set i (some (.dv (.int (f a b)))))
    | _ => False) D.er
  | _ => False
theorem ls_aug {i : Nat} {f : Int → Int → Int} {Te : TE} {te : TD} (he : LE S E Te te) : LS S E (tAug i Te (ipI f)) (dAug i f te) := by
  intro G0 H0 Fb D Dd σ ρ G H a r q
  unfold dAug at q
  split at q
  · rename_i x e
    obtain ⟨v, z1, z2⟩ := a.r.at_ i _ e
    cases rv_int z2
    refine ⟨_, z1, ?_⟩
    refine he H0 ρ σ G H _ _ _ a.s.wf a.r q (fun v d G1 H1 s1 rv q1 => ?_) (r.err a.s)
    split at q1
    · cases rv_int rv
      exact ⟨_, _, rfl, rfl, r.nx _ _ _ _ ⟨a.s.trans s1, (a.r.step s1).set (.py (.int _)), a.f.trans s1.fm⟩ q1⟩
    · exact q1.elim
  · exact q.elim
/-! ### calls by keywords in the reverse order -/
theorem rvs_rev {G : Gh} : ∀ {vs : List V} {ds : List DV}, RVs G vs ds → RVs G vs.reverse ds.reverse
  | _, _, .nil => .nil
  | x :: xs, u :: us, .cons r t => by
    rw [List.reverse_cons, List.reverse_cons]
    exact papp (rvs_rev t) (.cons r .nil)
def dCallR (sp : SpD) (ta : TAD) : TD := fun ρ Qd Ed => ta ρ (fun ds => sp ds.reverse Qd fun _ => False) Ed
theorem le_callR {n : Nat} {sp : SpD} {Ta : TA} {ta : TAD} (ha : LA n S E Ta ta) : LE S E (tCallK (spD S n sp) gRevV L2.E0 tNil Ta) (dCallR sp ta) := by
  intro H0 ρ σ G H Qd Ed Q w st q k ke
  refine ha H0 ρ σ G H _ Ed _ w st q (fun xs ds G1 H1 s1 hl rx q1 => ?_) ke
  exact ⟨G1, ds.reverse, Qd, _, by show xs.reverse.length = n; rw [List.length_reverse]; exact hl, s1.wf, rvs_rev rx, q1, fun v d G' H' s rv q => k v d G' H' (s1.trans s) rv q, fun e cls d G' H' s he h => h.elim⟩

/-! ### an instance under way -/
def putD (f : Str) (d : DV) : List (Str × DV) → List (Str × DV)
  | [] => [(f, d)]
  | (g, x) :: r => if g = f then (g, d) :: r else (g, x) :: putD f d r
theorem put_pair {f : Str} {v : V} {d : DV} (h : RV G v d) : ∀ {vs : List (Str × V)} {fs : List (Str × DV)}, Paired (fun a b => a.1 = b.1 ∧ RV G a.2 b.2) vs fs → Paired (fun a b => a.1 = b.1 ∧ RV G a.2 b.2) (putF f v vs) (putD f d fs)
  | _, _, .nil => .cons ⟨rfl, h⟩ .nil
  | (g, x) :: r, (g', x') :: r', .cons ⟨e, k⟩ t => by
    have e : g = g' := e
    subst e
    show Paired _ (if g = f then (g, v) :: r else (g, x) :: putF f v r) (if g = f then (g, d) :: r' else (g, x') :: putD f d r')
    split
    · exact .cons ⟨rfl, h⟩ t
    · exact .cons ⟨rfl, k⟩ (put_pair h t)
theorem Wf.writeI {p C dx : Addr} {vs ws : List (Str × V)} (w : Wf S G H) (h : H p = some (.ins C dx vs)) (nf : G.F p = none) (nb : ¬ G.B p) : Wf S G (upd H p (.ins C dx ws)) := by
  have tb : LamX.Tabs S.Tb (upd H p (.ins C dx ws)) := fun q hq => by
    obtain ⟨ps, h1, h2, h3⟩ := w.tabs q hq
    have ne : ∀ {a : Addr} {o : HO}, H a = some o → (∀ C dx vs, o ≠ .ins C dx vs) → a ≠ p := fun {a o} h1 h2 z => by
      subst z
      rw [h] at h1
      cases h1
      exact h2 _ _ _ rfl
    refine ⟨ps, by rw [upd_ne (ne h1 (fun _ _ _ z => by cases z))]; exact h1, h2, fun pos cv hc => ?_⟩
    obtain ⟨c0, f1, f2⟩ := h3 pos cv hc
    exact ⟨c0, f1, by rw [upd_ne (ne f2 (fun _ _ _ z => by unfold LamX.CodeO at z; cases z))]; exact f2⟩
  refine ⟨fun a x e => ?_, fun b hb => ?_, w.tbl, tb⟩
  · have z : a ≠ p := by
      rintro rfl
      rw [nf] at e
      cases e
    rw [upd_ne z]
    exact w.sub _ _ e
  · obtain ⟨⟨c0, cs, h1, h2, h3⟩, h4⟩ := w.box b hb
    have z : b ≠ p := by
      rintro rfl
      exact nb hb
    exact ⟨⟨c0, cs, by rw [upd_ne z]; exact h1, h2, h3⟩, h4⟩
theorem Step.writeI {p C dx : Addr} {vs ws : List (Str × V)} (a : Step S G0 H0 G H) (h : H p = some (.ins C dx vs)) (nf : G.F p = none) (nb : ¬ G.B p) (n0 : Fr H0 p) : Step S G0 H0 G (upd H p (.ins C dx ws)) where
  w0 := a.w0
  wf := a.wf.writeI h nf nb
  fm := a.fm
  bm := a.bm
  keep := fun x o hx n t => by
    rw [upd_ne (n0.ne hx t)]
    exact a.keep x o hx n t
  nf := a.nf
  nb := a.nb
  there := fun x o hx t => by
    rw [upd_ne (n0.ne hx t)]
    exact a.there x o hx t
theorem StR.writeI {σ : L2.St} {ρ : Rho} {i : Nat} {p C dx : Addr} {fs fs' : List (Str × DV)} {vs ws : List (Str × V)} (one : ∀ (j : Nat) (q dq C : Addr) (fs : List (Str × DV)), ρ[j]? = some (some (.ini q dq C fs)) → j = i) (st : StR G H0 H σ ρ) (hi : ρ[i]? = some (some (.ini p dx C fs)))
    (hp : H p = some (.ins C dx vs)) (r : Paired (fun a b => a.1 = b.1 ∧ RV G a.2 b.2) ws fs') : StR G H0 (upd H p (.ins C dx ws)) σ (ρ.set i (some (.ini p dx C fs'))) := by
  obtain ⟨v, z1, vs', z2, z3, z4, z5, z6, z7⟩ := st.at_ i _ hi
  subst z2
  refine ⟨by rw [List.length_set, st.len], fun j x e => ?_, fun j k m m' q e1 e2 e3 e4 => ?_⟩
  · rcases set_some e with ⟨rfl, rfl⟩ | ⟨ne, e⟩
    · exact ⟨.ref p, z1, ws, rfl, upd_same, z4, z5, z6, r⟩
    · obtain ⟨v, h1, h2⟩ := st.at_ j x e
      refine ⟨v, h1, ?_⟩
      cases x with
      | dv d => exact h2
      | own l =>
        obtain ⟨q, us, g1, g2, g3, g4, g5, g6⟩ := h2
        exact ⟨q, us, g1, by rw [upd_ne (ne_of g2 hp (fun z => by cases z))]; exact g2, g3, g4, g5, g6⟩
      | ini q dq C' fs2 => exact absurd (one j _ _ _ _ e).symm ne
  · rcases set_some e1 with ⟨_, z⟩ | ⟨_, e1⟩
    · cases z
    rcases set_some e2 with ⟨_, z⟩ | ⟨_, e2⟩
    · cases z
    exact st.sep j k m m' q e1 e2 e3 e4
/-- no other slot holds an instance under way -/
def noIni : Rho → Bool
  | [] => true
  | some (.ini _ _ _ _) :: _ => false
  | _ :: r => noIni r
theorem noIni_no {ρ : Rho} (h : noIni ρ = true) : ∀ (i : Nat) (p dx C : Addr) (fs : List (Str × DV)), ρ[i]? ≠ some (some (.ini p dx C fs)) := by
  induction ρ with
  | nil => intro i p dx C fs e; cases e
  | cons x r ih =>
    intro i p dx C fs e
    cases x with
    | none =>
      cases i with
      | zero => cases e
      | succ i => exact ih h i p dx C fs (by simpa using e)
    | some y =>
      cases y with
      | ini _ _ _ _ => cases h
      | dv d =>
        cases i with
        | zero => cases e
        | succ i => exact ih h i p dx C fs (by simpa using e)
      | own d =>
        cases i with
        | zero => cases e
        | succ i => exact ih h i p dx C fs (by simpa using e)
/-- self.f = e, self in slot 0 -/
def dPutF (f : Str) (te : TD) : TSD := fun D ρ => match ρ with
  | some (.ini p dx C fs) :: r => (noIni r = true ∧ fs.length < 1000) ∧ te (some (.ini p dx C fs) :: r) (fun y => D.nx (some (.ini p dx C (putD f y fs)) :: r)) D.er
  | _ => False
theorem ls_putF {C : Addr} {f : Str} {Te : TE} {te : TD} (hC : Cls S.K C) (hN : NoAttr S.K C f) (he : LE S E Te te) : LS S E (sFld S.K (tVar 0) Te f) (fun D ρ => (∃ p dx fs r, ρ = some (.ini p dx C fs) :: r) ∧ dPutF f te D ρ) := by
  rintro G0 H0 Fb D Dd σ ρ G H a r ⟨⟨p, dx, fs, rr, rfl⟩, ⟨no, hl⟩, q⟩
  have e : (some (SV.ini p dx C fs) :: rr)[0]? = some (some (.ini p dx C fs)) := rfl
  obtain ⟨v0, z1, vs, rfl, z3, z4, z5, z6, z7⟩ := a.r.at_ 0 _ e
  refine he H0 _ σ G H _ _ _ a.s.wf a.r q (fun v d G1 H1 s1 rv q1 => ?_) (r.err a.s)
  have hp := s1.keep _ _ z3 z5 (fun z e => by cases e)
  have fp := s1.nf _ _ z3 trivial z4
  have bp := s1.nb _ _ z3 (fun z e => by cases e) z5
  have rp : Paired (fun a b => a.1 = b.1 ∧ RV G1 a.2 b.2) vs fs := Paired.mapP z7 fun _ _ z => ⟨z.1, z.2.mono s1.fm s1.bm⟩
  refine ⟨.ref p, z1, p, C, dx, vs, rfl, hp, hC, hN, by rw [Paired.length rp]; exact hl, ?_⟩
  have one : ∀ (j : Nat) (q dq C' : Addr) (fs' : List (Str × DV)), (some (SV.ini p dx C fs) :: rr)[j]? = some (some (.ini q dq C' fs')) → j = 0 := fun j q dq C' fs' e => by
    cases j with
    | zero => rfl
    | succ j => exact absurd (show rr[j]? = _ by simpa using e) (noIni_no no j q dq C' fs')
  exact r.nx _ _ _ _ ⟨(a.s.trans s1).writeI hp fp bp z6, StR.writeI one (a.r.step s1) e hp (put_pair rv rp), a.f.trans s1.fm⟩ q1
theorem pair_get {vs : List (Str × V)} {fs : List (Str × DV)} {n : Str} {d : DV} (h : Paired (fun a b => a.1 = b.1 ∧ RV G a.2 b.2) vs fs) : fs.lookup n = some d → ∃ v, vs.lookup n = some v ∧ RV G v d := by
  induction h with
  | nil => intro h; cases h
  | @cons a b l r hab t ih =>
    obtain ⟨e, k⟩ := hab
    intro h
    obtain ⟨g, x⟩ := a
    obtain ⟨g', y⟩ := b
    have e : g = g' := e
    subst e
    rw [List.lookup_cons] at h
    rw [List.lookup_cons]
    cases z : (n == g) with
    | true =>
      rw [z] at h
      cases h
      exact ⟨x, rfl, k⟩
    | false =>
      rw [z] at h
      exact ih h
/-- self.f where self is under way -/
def dFldI (f : Str) : TD := fun ρ Qd _ => match ρ with
  | some (.ini _ _ _ fs) :: _ => (match fs.lookup f with
    | some d => Qd d
    | none => False)
  | _ => False
theorem le_fldI {C : Addr} {f : Str} (hC : Cls S.K C) (hN : NoAttr S.K C f) : LE S E (tFld S.K (tVar 0) f) (fun ρ Qd Ed => (∃ p dx fs r, ρ = some (.ini p dx C fs) :: r) ∧ dFldI f ρ Qd Ed) := by
  rintro H0 ρ σ G H Qd Ed Q w st ⟨⟨p, dx, fs, rr, rfl⟩, q⟩ k ke
  obtain ⟨v0, z1, vs, rfl, z3, z4, z5, z6, z7⟩ := st.at_ 0 (.ini p dx C fs) rfl
  have q : (match fs.lookup f with | some d => Qd d | none => False) := q
  split at q
  · rename_i d e2
    obtain ⟨u, h1, h2⟩ := pair_get z7 e2
    exact ⟨.ref p, z1, p, C, dx, vs, u, rfl, z3, hC, hN, h1, k u d G H (Step.refl w) h2 q⟩
  · exact q.elim
/-! ### an instance is made -/
abbrev SpI := List DV → (List (Str × DV) → Prop) → (Er → Prop) → Prop
def lessI (H : Hp) (x dx : Addr) : Hp := fun a => if a = x ∨ a = dx then none else H a
def spDI (S : Sx) (n : Nat) (C : Addr) (sp : SpI) : Sp := fun vs H Q E => ∃ G x dx rest ds Qd Ed, vs = .ref x :: rest ∧ rest.length = n ∧ H x = some (.ins C dx []) ∧ H dx = some (.own x) ∧ dx ≠ x ∧ Wf S G (lessI H x dx) ∧ RVs G rest ds ∧ sp ds Qd Ed ∧
  (∀ fs vs G' H', Step S G (lessI H x dx) G' H' → H' x = some (.ins C dx vs) → G'.F x = none → ¬ G'.B x → Paired (fun a b => a.1 = b.1 ∧ RV G' a.2 b.2) vs fs → Qd fs → Q .non H') ∧
  (∀ e cls d G' H', Step S G (lessI H x dx) G' H' → ErAt G' H' cls d e → Ed e → E cls d H')
theorem rfs_of_pair {vs : List (Str × V)} {fs : List (Str × DV)} (h : Paired (fun a b => a.1 = b.1 ∧ RV G a.2 b.2) vs fs) (nd : (fs.map (·.1)).Nodup) : RFs G vs fs := by
  have main : ∀ (gs : List (Str × DV)), (∀ n d, (n, d) ∈ gs → fs.lookup n = some d) → RFs G vs gs := by
    intro gs
    induction gs with
    | nil => intro _; exact .nil
    | cons g gs ih =>
      intro hm
      obtain ⟨n, d⟩ := g
      obtain ⟨v, h1, h2⟩ := pair_get h (hm n d List.mem_cons_self)
      exact .cons h1 h2 (ih fun n d hx => hm n d (List.mem_cons_of_mem _ hx))
  refine main fs fun n d hm => ?_
  clear main h
  induction fs with
  | nil => cases hm
  | cons f fs ih =>
    obtain ⟨m, x⟩ := f
    rw [List.map_cons, List.nodup_cons] at nd
    rw [List.lookup_cons]
    rcases List.mem_cons.mp hm with z | z
    · cases z
      simp
    · have ne : (n == m) = false := by
        rw [beq_eq_false_iff_ne]
        rintro rfl
        exact nd.1 (List.mem_map.mpr ⟨(n, d), z, rfl⟩)
      rw [ne]
      exact ih nd.2 z
def dMake (C : Addr) (sp : SpI) (ta : TAD) : TD := fun ρ Qd Ed => ta ρ (fun ds => sp ds (fun fs => (fs.map (·.1)).Nodup ∧ Qd (.ins C fs)) Ed) Ed
theorem le_make {n : Nat} {C : Addr} {sp : SpI} {Ta : TA} {ta : TAD} (ha : LA n S E Ta ta) : LE S E (tMake C (spDI S n C sp) [] E Ta) (dMake C sp ta) := by
  intro H0 ρ σ G H Qd Ed Q w st q k ke
  refine ha H0 ρ σ G H _ Ed _ w st q (fun xs ds G1 H1 s1 hl rx q1 => ?_) ke
  intro x dx nx ndx ne
  have eq : lessI (upd (upd H1 dx (.own x)) x (.ins C dx [])) x dx = H1 := by
    funext a
    unfold lessI
    by_cases h : a = x ∨ a = dx
    · rw [if_pos h]
      rcases h with rfl | rfl
      · exact nx.symm
      · exact ndx.symm
    · rw [if_neg h, upd_ne (fun z => h (.inl z)), upd_ne (fun z => h (.inr z))]
  refine ⟨G1, x, dx, xs, ds, _, Ed, by rw [List.append_nil], hl, upd_same, by rw [upd_ne ne, upd_same], ne, by rw [eq]; exact s1.wf, rx, q1, fun fs vs G' H' s hx hf hb hp q => ⟨rfl, ?_⟩, fun e cls d G' H' s he h => ?_⟩
  · rw [eq] at s
    have fm : Same G'.F (G'.put x (.ins C dx vs)).F := same_upd (.inl hf)
    have hp' : Paired (fun a b => a.1 = b.1 ∧ RV (G'.put x (.ins C dx vs)) a.2 b.2) vs fs := Paired.mapP hp fun _ _ z => ⟨z.1, z.2.mono fm (fun _ h => h)⟩
    exact k (.ref x) _ (G'.put x (.ins C dx vs)) H' (s1.trans (s.freeze hx (fun z e => by cases e) (.of nx) hb)) (.ins put_same (rfs_of_pair hp' q.1)) q.2
  · rw [eq] at s
    exact ke e cls d G' H' (s1.trans s) he h
end
/-- the slots of __init__ at its start -/
def startI (N : List Str) (x dx C : Addr) (ds : List DV) : Rho := some (.ini x dx C []) :: startD N.tail ds
section
variable {P : Program} {w : World} {mg : Str → Option Value} {base : Heap} {S : Sx}
theorem startI_st {G : Gh} {H : Hp} {N : List Str} {rest : List V} {ds : List DV} {x dx C : Addr} (hN : N ≠ []) (hx : H x = some (.ins C dx [])) (w : Wf S G (lessI H x dx)) (r : RVs G rest ds) : StR G (lessI H x dx) H (L2.start N (.ref x :: rest)) (startI N x dx C ds) := by
  have s0 := startD_st (H := H) (N := N.tail) r
  have e : L2.start N (.ref x :: rest) = some (.ref x) :: L2.start N.tail rest := by
    cases N with
    | nil => exact absurd rfl hN
    | cons n N =>
      unfold L2.start
      simp
  have nx : lessI H x dx x = none := if_pos (.inl rfl)
  rw [e]
  refine ⟨by show (startD N.tail ds).length + 1 = (L2.start N.tail rest).length + 1; rw [s0.len], fun i y hy => ?_, fun i j l l' p e1 => ?_⟩
  · cases i with
    | zero =>
      cases hy
      exact ⟨.ref x, rfl, [], rfl, hx, w.free nx, w.box_ne nx, .of nx, .nil⟩
    | succ i =>
      have hy : (startD N.tail ds)[i]? = some (some y) := by simpa [startI] using hy
      obtain ⟨v, h1, h2⟩ := s0.at_ i y hy
      refine ⟨v, by simpa using h1, ?_⟩
      cases y with
      | dv d => exact h2
      | own l => exact absurd hy (fun z => by
          unfold startD at z
          rw [List.getElem?_append] at z
          split at z
          · rw [List.getElem?_map] at z
            cases q : ds[i]? with
            | none => rw [q] at z; cases z
            | some d => rw [q] at z; cases z
          · rw [List.getElem?_replicate] at z
            split at z <;> cases z)
      | ini p dx C fs => exact absurd hy (fun z => by
          unfold startD at z
          rw [List.getElem?_append] at z
          split at z
          · rw [List.getElem?_map] at z
            cases q : ds[i]? with
            | none => rw [q] at z; cases z
            | some d => rw [q] at z; cases z
          · rw [List.getElem?_replicate] at z
            split at z <;> cases z)
  · cases i with
    | zero => cases e1
    | succ i =>
      have e1 : (startD N.tail ds)[i]? = some (some (.own l)) := by simpa [startI] using e1
      unfold startD at e1
      rw [List.getElem?_append] at e1
      split at e1
      · rw [List.getElem?_map] at e1
        cases q : ds[i]? with
        | none => rw [q] at e1; cases e1
        | some d => rw [q] at e1; cases e1
      · rw [List.getElem?_replicate] at e1
        split at e1 <;> cases e1
/-- __init__ of the class at C, a def that may raise -/
theorem okDI {x qual : Str} {st : Stmt} {f C : Addr} {fd : FuncData} {N ps : List Str} {k : Nat} {sp : SpI} (F : Fun S.K x qual st f fd) (Sc : FnScope N ps (defScope st)) (hN : N ≠ [] := by simp) (hps : ps ≠ [] := by simp)
    (hb : ∀ (cdv : Value) (A : Around) (outer : List Env) (s : Shared) (H : Hp) (E : XK), Room k (A.deeper (envOfC qual (defScope st) s.heap.objs.size f cdv)) →
      ∃ T t, PSs (cxOf (L2.CX P w) P w S.K mg base N qual (defScope st) f cdv A outer s H E) (defBody st) T ∧ LS S E T t ∧ ∀ ds Qd Ed x dx, ds.length + 1 = ps.length → sp ds Qd Ed →
        t { nx := fun ρ => ∃ fs r, ρ = some (.ini x dx C fs) :: r ∧ Qd fs, rt := fun _ => False, er := Ed } (startI N x dx C ds)) :
    FnOk P w S.K mg base (L2.CX P w) (k + 1) f fd ps (spDI S (ps.length - 1) C sp) := by
  have len : ∀ (vs : List V) (rest : List V) (x : Addr), vs = V.ref x :: rest → rest.length = ps.length - 1 → vs.length = ps.length := fun vs rest x e h => by
    subst e
    have : 0 < ps.length := List.length_pos_iff.mpr hps
    rw [List.length_cons, h]
    omega
  refine F.okX Sc (fun vs H Q E ⟨_, x, _, rest, _, _, _, h, h2, _⟩ => len vs rest x h h2) (fun cdv A outer s H vs Q E hr h => ?_)
  obtain ⟨G, x, dx, rest, ds, Qd, Ed, rfl, hl, hx, hd, ne, wf, rv, q, k1, k2⟩ := h
  obtain ⟨T, t, h1, h2, h3⟩ := hb cdv A outer s H E hr
  have sm : Same (lessI H x dx) H := fun a o e => by
    unfold lessI at e
    split at e
    · cases e
    · exact e
  have pos : 0 < ps.length := List.length_pos_iff.mpr hps
  refine ⟨T, h1, h2 G (lessI H x dx) G.F _ { nx := fun ρ => ∃ fs r, ρ = some (.ini x dx C fs) :: r ∧ Qd fs, rt := fun _ => False, er := Ed } _ _ G H ⟨Step.same wf sm, startI_st hN hx wf rv, Same.refl _⟩ ?_ (h3 ds Qd Ed x dx (by rw [← Paired.length rv, hl]; omega) q)⟩
  refine ⟨fun σ ρ G' H' a ⟨fs, r, e, q⟩ => ?_, fun _ _ _ _ _ _ q => q.elim, fun _ _ _ _ _ q => q.elim, fun _ _ _ _ _ q => q.elim, fun e cls d G' H' s he q => k2 e cls d G' H' s he q⟩
  subst e
  obtain ⟨v, z1, vs, z2, z3, z4, z5, z6, z7⟩ := a.r.at_ 0 (.ini x dx C fs) rfl
  exact k1 fs vs G' H' a.s z3 z4 z5 z7 q
end
end Dl

set_option Elab.async false
set_option linter.all false
set_option maxRecDepth 100000
set_option maxHeartbeats 4000000
/-! the data layer: defs with defaults; what holds of any data -/
namespace Dl
open PySem PySem.Spec PyProof.Rows L2 Lx
section
variable {P : Program} {w : World} {mg : Str → Option Value} {base : Heap} {S : Sx}
theorem okD0D {x qual : Str} {params : Arguments} {body : List Stmt} {scope : Scope} {dvs : List V} {kws : List (Str × V)} {f : Addr} {fd : FuncData} {N ps : List Str} {k : Nat} {sp : SpD} (F : FunD S.K x qual params body scope dvs kws f fd) (Sc : FnScope N ps scope)
    (hb : ∀ (cdv : Value) (A : Around) (outer : List Env) (s : Shared) (H : Hp) (E : XK), Room k (A.deeper (envOfC qual scope s.heap.objs.size f cdv)) →
      ∃ T t, PSs (cxOf L2.CX0 P w S.K mg base N qual scope f cdv A outer s H E).nox body T ∧ LS S L2.E0 T t ∧ ∀ ds Qd Ed, ds.length = ps.length → sp ds Qd Ed → t { nx := fun _ => Qd .non, rt := Qd } (startD N ds)) :
    FnOk P w S.K mg base L2.CX0 (k + 1) f fd ps (spD S ps.length sp) := by
  refine F.ok Sc (fun vs H Q E ⟨_, _, _, _, h, _⟩ => h) (fun cdv A outer s H vs Q E hr h => ?_)
  obtain ⟨G, ds, Qd, Ed, hl, wf, rv, q, k1, k2⟩ := h
  obtain ⟨T, t, h1, h2, h3⟩ := hb cdv A outer s H E hr
  exact ⟨T, h1.nox, def_end wf rv h2 k1 (fun _ _ _ _ _ _ _ z => z.elim) (h3 ds Qd Ed (by rw [← hl]; exact (Paired.length rv).symm) q)⟩
theorem okDXD {x qual : Str} {params : Arguments} {body : List Stmt} {scope : Scope} {dvs : List V} {kws : List (Str × V)} {f : Addr} {fd : FuncData} {N ps : List Str} {k : Nat} {sp : SpD} (F : FunD S.K x qual params body scope dvs kws f fd) (Sc : FnScope N ps scope)
    (hb : ∀ (cdv : Value) (A : Around) (outer : List Env) (s : Shared) (H : Hp) (E : XK), Room k (A.deeper (envOfC qual scope s.heap.objs.size f cdv)) →
      ∃ T t, PSs (cxOf (L2.CX P w) P w S.K mg base N qual scope f cdv A outer s H E) body T ∧ LS S E T t ∧ ∀ ds Qd Ed, ds.length = ps.length → sp ds Qd Ed → t { nx := fun _ => Qd .non, rt := Qd, er := Ed } (startD N ds)) :
    FnOk P w S.K mg base (L2.CX P w) (k + 1) f fd ps (spD S ps.length sp) := by
  refine F.ok Sc (fun vs H Q E ⟨_, _, _, _, h, _⟩ => h) (fun cdv A outer s H vs Q E hr h => ?_)
  obtain ⟨G, ds, Qd, Ed, hl, wf, rv, q, k1, k2⟩ := h
  obtain ⟨T, t, h1, h2, h3⟩ := hb cdv A outer s H E hr
  exact ⟨T, h1, def_end wf rv h2 k1 k2 (h3 ds Qd Ed (by rw [← hl]; exact (Paired.length rv).symm) q)⟩
end
/-- the ints from lo to hi, if there is one -/
def numD (v : PyData) (lo : Int) (hi : Option Int) : Bool := match v with
  | .int i => decide (lo ≤ i) && (match hi with
    | some h => decide (i ≤ h)
    | none => true)
  | _ => false
/-- a list or a tuple of that many -/
def seqB (v : PyData) (lo hi : Int) : Bool := match v with
  | .list l => decide (lo ≤ (l.length : Int)) && decide ((l.length : Int) ≤ hi)
  | .tuple l => decide (lo ≤ (l.length : Int)) && decide ((l.length : Int) ≤ hi)
  | _ => false
def itemsD (v : PyData) : List PyData := match v with
  | .list l => l
  | .tuple l => l
  | _ => []
theorem bool_cases {p : Bool → Prop} (b : Bool) (h1 : b = true → p true) (h2 : b = false → p false) : p b := by
  cases b
  · exact h2 rfl
  · exact h1 rfl
end Dl

set_option Elab.async false
set_option linter.all false
set_option maxRecDepth 100000
set_option maxHeartbeats 4000000
/-! the data layer: loops and comprehensions by their turns -/
namespace Dl
open PySem PySem.Spec PyProof.Rows L2 Lx
/-- a for, turn by turn: I tells what holds where these items are left -/
theorem loop_ind {g : Tg} {body : TSD} {D : EndsD} (I : List PyData → Rho → Prop) (h0 : ∀ ρ, I [] ρ → D.nx ρ)
    (hs : ∀ (d : PyData) (ds : List PyData) (ρ : Rho) (K : Rho → Prop), (∀ ρ, I ds ρ → K ρ) → I (d :: ds) ρ → match g.put ρ d with
      | some ρ' => body { D with nx := K, ct := K, bk := D.nx } ρ'
      | none => False) : ∀ (l : List PyData) (ρ : Rho), I l ρ → dLoop g body D l ρ
  | [], ρ, h => h0 ρ h
  | d :: ds, ρ, h => hs d ds ρ (dLoop g body D ds) (loop_ind I h0 hs ds) h
/-- a comprehension, turn by turn -/
theorem turns_ind {g : Tg} {tt : TTD} {te : TD} {Ed : Er → Prop} {Qd : List PyData → Prop} {ρ : Rho} (I : List PyData → List PyData → Prop) (h0 : ∀ acc, I [] acc → Qd acc)
    (hs : ∀ (d : PyData) (ds acc : List PyData) (K : List PyData → Prop), (∀ acc, I ds acc → K acc) → I (d :: ds) acc → match g.put ρ d with
      | some ρ' => tt ρ' (fun b => if b = true then te ρ' (fun y => match y with
        | .py y => acc.length < 1000000 ∧ K (acc ++ [y])
        | _ => False) Ed
      else K acc) Ed
      | none => False) : ∀ (l acc : List PyData), I l acc → dTurns g tt te Ed Qd ρ l acc
  | [], acc, h => h0 acc h
  | d :: ds, acc, h => by
    have z := hs d ds acc (dTurns g tt te Ed Qd ρ ds) (turns_ind I h0 hs ds) h
    unfold dTurns
    split at z
    · rename_i ρ' e
      first
        | exact z
        | (rw [e]; exact z)
    · exact z.elim
/-- a comprehension that maps and filters -/
theorem turns_fm {g : Tg} {tt : TTD} {te : TD} {Ed : Er → Prop} {Qd : List PyData → Prop} {ρ : Rho} {l : List PyData} (p : PyData → Bool) (f : PyData → PyData) (hl : l.length ≤ 900000)
    (hs : ∀ d ∈ l, ∃ ρ', g.put ρ d = some ρ' ∧ (∀ K : Bool → Prop, K (p d) → tt ρ' K Ed) ∧ (p d = true → ∀ K : DV → Prop, K (.py (f d)) → te ρ' K Ed)) (h : Qd ((l.filter p).map f)) : dTurns g tt te Ed Qd ρ l [] := by
  refine turns_ind (fun ds acc => (∀ d ∈ ds, d ∈ l) ∧ acc.length + ds.length ≤ l.length ∧ Qd (acc ++ (ds.filter p).map f)) (fun acc h => by simpa using h.2.2) ?_ l [] ⟨fun _ h => h, by simp, by simpa using h⟩
  rintro d ds acc K hK ⟨hm, hlen, hq⟩
  obtain ⟨ρ', e, h1, h2⟩ := hs d (hm d List.mem_cons_self)
  rw [e]
  rw [List.length_cons] at hlen
  show tt ρ' _ Ed
  refine h1 _ ?_
  cases hp : p d with
  | true =>
    rw [if_pos rfl]
    refine h2 hp _ ⟨by omega, hK _ ⟨fun x hx => hm x (List.mem_cons_of_mem _ hx), by rw [List.length_append]; show acc.length + 1 + ds.length ≤ _; omega, ?_⟩⟩
    rw [List.filter_cons_of_pos (by simpa using hp)] at hq
    rw [List.append_assoc]
    exact hq
  | false =>
    rw [if_neg Bool.false_ne_true]
    refine hK _ ⟨fun x hx => hm x (List.mem_cons_of_mem _ hx), by omega, ?_⟩
    rw [List.filter_cons_of_neg (by simp [hp])] at hq
    exact hq
/-- .. that only maps -/
theorem turns_map {g : Tg} {te : TD} {Ed : Er → Prop} {Qd : List PyData → Prop} {ρ : Rho} {l : List PyData} (f : PyData → PyData) (hl : l.length ≤ 900000)
    (hs : ∀ d ∈ l, ∃ ρ', g.put ρ d = some ρ' ∧ ∀ K : DV → Prop, K (.py (f d)) → te ρ' K Ed) (h : Qd (l.map f)) : dTurns g dYes te Ed Qd ρ l [] := by
  refine turns_fm (fun _ => true) f hl (fun d hd => ?_) (by rw [List.filter_eq_self.mpr fun _ _ => rfl]; exact h)
  obtain ⟨ρ', e, k⟩ := hs d hd
  exact ⟨ρ', e, fun K h => h, fun _ K h => k K h⟩
/-- enumerate, from a number on -/
def enumR : Nat → List PyData → List PyData
  | _, [] => []
  | k, d :: ds => .tuple [.int (k : Nat), d] :: enumR (k + 1) ds
theorem enumR_get : ∀ (l : List PyData) (k i : Nat), (enumR k l)[i]? = (l[i]?).map fun d => .tuple [.int ((k + i : Nat) : Int), d]
  | [], k, i => by simp [enumR]
  | d :: ds, k, 0 => by simp [enumR]
  | d :: ds, k, i + 1 => by
    show (enumR (k + 1) ds)[i]? = _
    rw [enumR_get ds (k + 1) i, List.getElem?_cons_succ]
    congr 1
    funext d
    rw [show k + 1 + i = k + (i + 1) by omega]
theorem enumD_R (l : List PyData) : enumD l = enumR 0 l := by
  apply List.ext_getElem?
  intro i
  rw [enumR_get]
  cases e : l[i]? with
  | none =>
    have : l.length ≤ i := List.getElem?_eq_none_iff.mp e
    rw [List.getElem?_eq_none (by rw [enumD_len]; exact this)]
    rfl
  | some d =>
    rw [enumD_get e, Nat.zero_add]
    rfl
/-- the numbers from a number on -/
def rangeR : Int → Nat → List PyData
  | _, 0 => []
  | lo, n + 1 => .int lo :: rangeR (lo + 1) n
theorem rangeD_R : ∀ (lo : Int) (n : Nat), rangeD lo n = rangeR lo n
  | lo, 0 => rfl
  | lo, n + 1 => by
    unfold rangeD
    rw [List.range_succ_eq_map, List.map_cons, List.map_map]
    show _ :: _ = .int lo :: rangeR (lo + 1) n
    rw [← rangeD_R (lo + 1) n]
    congr 1
    · simp
    · unfold rangeD
      apply List.map_congr_left
      intro i _
      show PyData.int (lo + ((i + 1 : Nat) : Int)) = PyData.int (lo + 1 + (i : Int))
      congr 1
      omega
theorem mem_rangeD {lo : Int} {n : Nat} {d : PyData} : d ∈ rangeD lo n ↔ ∃ i : Nat, i < n ∧ d = .int (lo + i) := by
  unfold rangeD
  rw [List.mem_map]
  constructor
  · rintro ⟨i, hi, rfl⟩
    exact ⟨i, List.mem_range.mp hi, rfl⟩
  · rintro ⟨i, hi, rfl⟩
    exact ⟨i, List.mem_range.mpr hi, rfl⟩
end Dl
namespace Dl
open PySem PySem.Spec PyProof.Rows L2 Lx
/-- tuple(reversed(x)), x a list -/
def dTupRev (te : TD) : TD := fun ρ Qd Ed => te ρ (fun d => match d with
  | .py (.list l) => Qd (.tup l.reverse)
  | _ => False) Ed
theorem rpa_rev {F : Hp} : ∀ {xs : List V} {l : List PyData}, RpA F xs l → RpA F xs.reverse l.reverse
  | _, _, .nil => .nil
  | x :: xs, d :: ds, .cons r t => by
    rw [List.reverse_cons, List.reverse_cons]
    exact rpa_app (rpa_rev t) (.cons r .nil)
theorem le_tupRev {S : Sx} {E : XK} {Te : TE} {te : TD} (h : LE S E Te te) : LE S E (RT.tTupRev S.K Te) (dTupRev te) := by
  intro H0 ρ σ G H Qd Ed Q wf st q k ke
  refine h H0 ρ σ G H _ Ed _ wf st q (fun v d G1 H1 s1 rv q1 => ?_) ke
  split at q1
  · obtain ⟨p, xs, rfl, h1, h2⟩ := rv_lst rv
    exact ⟨p, xs, rfl, .inl (.inl (s1.wf.sub _ _ h1)), fun t nt => k _ _ _ _ (s1.trans (Step.newF (o := .tup xs.reverse) s1.wf nt (fun z e => by cases e))) (.py (.tup put_same (RpA.mono (same_upd (.inl (s1.wf.free nt))) _ _ (rpa_rev h2)))) q1⟩
  · exact q1.elim
end Dl

set_option Elab.async false
set_option linter.all false
set_option maxRecDepth 100000
set_option maxHeartbeats 4000000
/-! the data layer: the box of draws -/
namespace Dl
open PySem PySem.Spec PyProof.Rows L2 Lx
section
variable {S : Sx} {E : XK} {G G0 : Gh} {H H0 : Hp}
/-- a new list becomes a box -/
theorem Step.toBox {p : Addr} {c0 : Int} {cs : List Int} (a : Step S G0 H0 G H) (n0 : Fr H0 p) (h : H p = some (.lst (.int c0 :: cs.map V.int))) (hl : cs.length + 1 = S.nb) (h0 : 0 ≤ c0) (nf : G.F p = none) : Step S G0 H0 ⟨G.F, fun b => G.B b ∨ b = p⟩ H where
  w0 := a.w0
  wf := ⟨a.wf.sub, fun b hb => by
    rcases hb with hb | rfl
    · exact a.wf.box b hb
    · exact ⟨⟨c0, cs, h, hl, h0⟩, nf⟩, a.wf.tbl, a.wf.tabs⟩
  fm := a.fm
  bm := fun b hb => .inl (a.bm b hb)
  keep := a.keep
  nf := a.nf
  nb := fun x o hx t n => by
    rintro (z | rfl)
    · exact a.nb x o hx t n z
    · exact n0.ne hx t rfl
  there := a.there
def isBox (n : Nat) (l : List PyData) : Prop := l.length = n ∧ ∃ (c0 : Int) (cs : List Int), l = .int c0 :: cs.map .int ∧ 0 ≤ c0
def dNewBox (n : Nat) (t : TOD) : TD := fun ρ Qd Ed => t ρ (fun l => isBox n l ∧ Qd .box) Ed
theorem le_newBox {T : TE} {t : TOD} (h : LO S E T t) : LE S E T (dNewBox S.nb t) := by
  intro H0 ρ σ G H Qd Ed Q wf st q k ke
  refine h H0 ρ σ G H _ Ed _ wf st q (fun p vs l G1 H1 s1 n hp nf nb r q1 => ?_) ke
  obtain ⟨⟨hl, c0, cs, rfl, h0⟩, q1⟩ := q1
  have e : vs = .int c0 :: cs.map V.int := by
    have z := rpa_ints (ns := c0 :: cs) r
    exact z
  subst e
  refine k (.ref p) .box _ H1 (s1.toBox n hp (by rw [← hl]; simp) h0 nf) (.box (.inr rfl)) q1
/-- box[k] = e -/
def dBoxPut (n i : Nat) (k : Int) (te : TD) : TSD := fun D ρ => match ρ[i]? with
  | some (some (.dv .box)) => (0 ≤ k ∧ k < n) ∧ te ρ (fun y => match y with
    | .py (.int c) => (k = 0 → 0 ≤ c) ∧ D.nx ρ
    | _ => False) D.er
  | _ => False
theorem ls_boxPut {i : Nat} {k : Int} {Te : TE} {te : TD} (he : LE S E Te te) : LS S E (tAsg Te (gSub (tVar i) (tC (.int k)) rSetL)) (dBoxPut S.nb i k te) := by
  intro G0 H0 Fb D Dd σ ρ G H a r q
  unfold dBoxPut at q
  split at q
  · rename_i e
    obtain ⟨⟨k0, k1⟩, q⟩ := q
    obtain ⟨v0, z1, z2⟩ := a.r.at_ i _ e
    cases z2 with
    | @box b hb =>
      refine he H0 ρ σ G H _ _ _ a.s.wf a.r q (fun v d G1 H1 s1 rv q1 => ?_) (r.err a.s)
      split at q1
      · rename_i c
        cases rv_int rv
        obtain ⟨j, rfl⟩ := Int.eq_ofNat_of_zero_le k0
        have hb1 := s1.bm b hb
        obtain ⟨⟨c0, cs, h1, h2, h3⟩, hf⟩ := s1.wf.box b hb1
        have lt : j < (c0 :: cs).length := by rw [List.length_cons, h2]; omega
        have hn : ixN (V.int c0 :: cs.map V.int).length (j : Int) = some j := by
          have : (V.int c0 :: cs.map V.int).length = (c0 :: cs).length := by simp
          unfold ixN
          rw [if_pos (by omega), if_pos (by omega)]
          rfl
        refine ⟨.ref b, z1, b, _, _, j, rfl, rfl, h1, hn, ?_⟩
        have box' : BoxN S.nb (upd H1 b (.lst ((V.int c0 :: cs.map V.int).set j (.int c)))) b := by
          cases j with
          | zero => exact ⟨c, cs, upd_same, h2, q1.1 rfl⟩
          | succ j => exact ⟨c0, cs.set j c, by rw [upd_same, List.map_set]; rfl, by rw [List.length_set]; exact h2, h3⟩
        have st := s1.trans (Step.draw s1.wf hb1 (fun x o hx n => by rw [upd_ne n]; exact hx) box')
        exact r.nx _ _ _ _ (a.on st) q1.2
      · exact q1.elim
  · exact q.elim
end
end Dl

set_option Elab.async false
set_option linter.all false
set_option maxRecDepth 100000
set_option maxHeartbeats 4000000
/-! the data layer: a lambda handed to a def that calls it -/
namespace Dl
open PySem PySem.Spec PyProof.Rows L2 Lx
/-- what a def makes of a lambda, over data -/
def LH (S : Sx) (TT : (XK → Hp → VK → Prop) → Hp → VK → Prop) (f : TD → TD) : Prop := ∀ (T : XK → TE) (t : TD), (∀ E', LE S E' (T E') t) → ∀ (E : XK) (H0 : Hp) (ρ : Rho) (σ : L2.St) (G : Gh) (H : Hp) (Qd : DV → Prop) (Ed : Er → Prop) (Q : VK), Wf S G H → StR G H0 H σ ρ → f t ρ Qd Ed →
  (∀ v d G' H', Step S G H G' H' → RV G' v d → Qd d → Q v H') → (∀ e cls d G' H', Step S G H G' H' → ErAt G' H' cls d e → Ed e → E cls d H') → TT (fun E' H' Q' => T E' σ H' Q') H Q
theorem le_lamG {S : Sx} {E : XK} {TT : (XK → Hp → VK → Prop) → Hp → VK → Prop} {f : TD → TD} {T : XK → TE} {t : TD} (hT : LH S TT f) (h : ∀ E', LE S E' (T E') t) : LE S E (tLamG S.Tb TT T) (f t) := by
  intro H0 ρ σ G H Qd Ed Q w st q k ke
  refine ⟨w.tabs, fun H1 e1 t1 => ?_⟩
  have s1 := Step.lam w e1 t1
  exact hT T t h E H0 ρ σ G H1 Qd Ed Q s1.wf (st.step s1) q (fun v d G' H' s rv q => k v d G' H' (s1.trans s) rv q) (fun e cls d G' H' s he q => ke e cls d G' H' (s1.trans s) he q)
theorem rv_tup_new {S : Sx} {G : Gh} {H H' : Hp} {p : Addr} {xs : List V} {l : List PyData} (w : Wf S G H) (sm : Same H H') (np : H p = none) (hp : H' p = some (.tup xs)) (r : RpA G.F xs l) : Step S G H (G.put p (.tup xs)) H' ∧ RV (G.put p (.tup xs)) (.ref p) (.tup l) := by
  have s1 := Step.same w sm
  exact ⟨s1.freezeT hp (w.box_ne np), .py (.tup put_same (RpA.mono (same_upd (.inl (w.free np))) _ _ r))⟩
end Dl

set_option Elab.async false
set_option linter.all false
set_option maxRecDepth 100000
set_option maxHeartbeats 4000000
/-! the data layer: comprehensions over ranges -/
namespace Dl
open PySem PySem.Spec PyProof.Rows L2 Lx
theorem turns_rg {g : Tg} {tt : TTD} {te : TD} {Ed : Er → Prop} {Qd : List PyData → Prop} {ρ : Rho} {lo : Int} {n : Nat} (p : Nat → Bool) (f : Nat → PyData) (hl : n ≤ 900000)
    (hs : ∀ i, i < n → ∃ ρ', g.put ρ (.int (lo + (i : Nat))) = some ρ' ∧ (∀ K : Bool → Prop, K (p i) → tt ρ' K Ed) ∧ (p i = true → ∀ K : DV → Prop, K (.py (f i)) → te ρ' K Ed)) (h : Qd (((List.range n).filter p).map f)) : dTurns g tt te Ed Qd ρ (rangeD lo n) [] := by
  have back : ∀ i : Nat, (lo + (i : Int) - lo).toNat = i := fun i => by omega
  refine turns_fm (fun d => match d with | .int j => p (j - lo).toNat | _ => false) (fun d => match d with | .int j => f (j - lo).toNat | _ => .none) (by rw [rangeD_len]; exact hl) (fun d hd => ?_) ?_
  · obtain ⟨i, hi, rfl⟩ := mem_rangeD.mp hd
    obtain ⟨ρ', e, h1, h2⟩ := hs i hi
    refine ⟨ρ', e, fun K hK => h1 K ?_, fun hp K hK => h2 ?_ K ?_⟩
    · simpa [back] using hK
    · simpa [back] using hp
    · simpa [back] using hK
  · have z : ((rangeD lo n).filter fun d => match d with | .int j => p (j - lo).toNat | _ => false).map (fun d => match d with | .int j => f (j - lo).toNat | _ => .none) = ((List.range n).filter p).map f := by
      unfold rangeD
      rw [List.filter_map, List.map_map]
      have e1 : ((fun d => match d with | PyData.int j => p (j - lo).toNat | _ => false) ∘ fun (i : Nat) => PyData.int (lo + (i : Nat))) = p := by
        funext i
        show p (lo + (i : Int) - lo).toNat = _
        rw [back]
      rw [e1]
      apply List.map_congr_left
      intro i _
      show f (lo + (i : Int) - lo).toNat = _
      rw [back]
    rw [z]
    exact h
/-- .. that only maps -/
theorem turns_rgm {g : Tg} {te : TD} {Ed : Er → Prop} {Qd : List PyData → Prop} {ρ : Rho} {lo : Int} {n : Nat} (f : Nat → PyData) (hl : n ≤ 900000)
    (hs : ∀ i, i < n → ∃ ρ', g.put ρ (.int (lo + (i : Nat))) = some ρ' ∧ ∀ K : DV → Prop, K (.py (f i)) → te ρ' K Ed) (h : Qd ((List.range n).map f)) : dTurns g dYes te Ed Qd ρ (rangeD lo n) [] := by
  refine turns_rg (fun _ => true) f hl (fun i hi => ?_) (by rw [List.filter_eq_self.mpr fun _ _ => rfl]; exact h)
  obtain ⟨ρ', e, k⟩ := hs i hi
  exact ⟨ρ', e, fun K h => h, fun _ K h => k K h⟩
/-- a list of draws: whatever they are, they keep to p -/
theorem turns_any {g : Tg} {te : TD} {Ed : Er → Prop} {Qd : List PyData → Prop} {ρ : Rho} {l : List PyData} (p : PyData → Prop) (hl : l.length ≤ 900000)
    (hs : ∀ d ∈ l, ∃ ρ', g.put ρ d = some ρ' ∧ ∀ K : DV → Prop, (∀ x, p x → K (.py x)) → te ρ' K Ed) (h : ∀ xs : List PyData, xs.length = l.length → (∀ x ∈ xs, p x) → Qd xs) : dTurns g dYes te Ed Qd ρ l [] := by
  refine turns_ind (fun ds acc => (∀ d ∈ ds, d ∈ l) ∧ acc.length + ds.length = l.length ∧ ∀ x ∈ acc, p x) (fun acc ha => h acc (by simpa using ha.2.1) ha.2.2) ?_ l [] ⟨fun _ h => h, by simp, fun x hx => by cases hx⟩
  rintro d ds acc K hK ⟨hm, hlen, hq⟩
  obtain ⟨ρ', e, h1⟩ := hs d (hm d List.mem_cons_self)
  rw [e]
  rw [List.length_cons] at hlen
  show dYes ρ' _ Ed
  simp only [dYes, if_true]
  refine h1 _ fun x hx => ⟨by omega, hK _ ⟨fun y hy => hm y (List.mem_cons_of_mem _ hy), by rw [List.length_append]; show acc.length + 1 + ds.length = _; omega, fun y hy => ?_⟩⟩
  rcases List.mem_append.mp hy with hy | hy
  · exact hq y hy
  · rw [List.mem_singleton.mp hy]
    exact hx
end Dl
namespace Dl
open PySem PySem.Spec PyProof.Rows L2 Lx
/-- a list, so many times -/
def fRep : FO2 := fun x y Q => match x, y with
  | .py (.list a), .py (.int k) => -(2 ^ 62) ≤ k ∧ k < 2 ^ 62 ∧ a.length * k.toNat ≤ 1000000 ∧ Q (List.replicate k.toNat a).flatten
  | _, _ => False
theorem l2o_rep {S : Sx} : L2o S rRep fRep := by
  intro G H x y dx dy Qd Q w rx ry q k
  unfold fRep at q
  split at q
  · rename_i a i
    obtain ⟨p, xs, rfl, h1, h2⟩ := rv_lst rx
    cases rv_int ry
    exact ⟨p, i, xs, rfl, rfl, w.sub _ _ h1, by have := q.1; omega, by have := q.2.1; omega, by rw [rp_len h2, sizeLine_eq]; have := q.2.2.1; omega, fun t nt =>
      k t _ _ G _ (Step.new w nt) (.of nt) upd_same (w.free nt) (w.box_ne nt) (rpa_rep h2 _) q.2.2.2⟩
  · exact q.elim
end Dl
namespace Dl
open PySem PySem.Spec PyProof.Rows L2 Lx
/-! ### ==, != of two texts -/
def fEqS (neg : Bool) : F2 := fun x y Q => match x, y with
  | .py (.str i), .py (.str j) => Q (.bl (decide (i = j) != neg))
  | _, _ => False
theorem l2_eqS {S : Sx} : L2r S rEq (fEqS false) := by
  intro G H x y dx dy Qd Q w rx ry q k
  unfold fEqS at q
  split at q
  · rename_i i j
    rw [rv_str rx, rv_str ry]
    refine ⟨rfl, k _ (.bl (decide (i = j))) G H (Step.refl w) (.py ?_) (by simpa using q)⟩
    rw [show decide (V.str i = V.str j) = decide (i = j) by simp]
    exact .bl _
  · exact q.elim
theorem l2_neS {S : Sx} : L2r S rNe (fEqS true) := by
  intro G H x y dx dy Qd Q w rx ry q k
  unfold fEqS at q
  split at q
  · rename_i i j
    rw [rv_str rx, rv_str ry]
    refine ⟨rfl, k _ (.bl (!decide (i = j))) G H (Step.refl w) (.py ?_) (by simpa using q)⟩
    rw [show decide (V.str i = V.str j) = decide (i = j) by simp]
    exact .bl _
  · exact q.elim
end Dl

set_option Elab.async false
set_option linter.all false
set_option maxRecDepth 100000
set_option maxHeartbeats 4000000
/-! the data layer: defs with lambdas; list(range(n)); texts that show data -/
namespace Dl
open PySem PySem.Spec PyProof.Rows L2 Lx
section
variable {P : Program} {w : World} {mg : Str → Option Value} {base : Heap} {S : Sx} {E : XK}
/-- a def that makes lambdas -/
theorem okDT {x qual : Str} {st : Stmt} {f c : Addr} {fd : FuncData} {N ps : List Str} {k : Nat} {sp : SpD} (F : Fun S.K x qual st f fd) (hcode : fd.code = .ref c) (Sc : FnScope N ps (defScope st))
    (hb : ∀ (A : Around) (outer : List Env) (s : Shared) (H : Hp) (E : XK), Room k (A.deeper (envOfC qual (defScope st) s.heap.objs.size f (.ref c))) → A.guards = some [] →
      ∃ T t, PSs (cxOf L2.CX0 P w S.K mg base N qual (defScope st) f (.ref c) A outer s H E).nox (defBody st) T ∧ LS S L2.E0 T t ∧ ∀ ds Qd Ed, ds.length = ps.length → sp ds Qd Ed → t { nx := fun _ => Qd .non, rt := Qd } (startD N ds)) :
    FnOkG P w S.K mg base L2.CX0 (k + 1) f fd ps (spD S ps.length sp) := by
  refine okT F hcode Sc (fun vs H Q E ⟨_, _, _, _, h, _⟩ => h) (fun A outer s H vs Q E hr hg h => ?_)
  obtain ⟨G, ds, Qd, Ed, hl, wf, rv, q, k1, k2⟩ := h
  obtain ⟨T, t, h1, h2, h3⟩ := hb A outer s H E hr hg
  exact ⟨T, h1, def_end wf rv h2 k1 (fun _ _ _ _ _ _ _ z => z.elim) (h3 ds Qd Ed (by rw [← hl]; exact (Paired.length rv).symm) q)⟩
/-- list(range(n)) -/
def oListRg (te : TD) : TOD := fun ρ Qd Ed => te ρ (fun d => match d with
  | .py (.int n) => 0 ≤ n ∧ n ≤ 1000000 ∧ Qd (rangeD 0 n.toNat)
  | _ => False) Ed
theorem rgV_data {F : Hp} {n : Nat} : RpA F (rgV 0 (n : Nat)) (rangeD 0 n) := by
  have h : ∀ (lo : Int) (m : Nat), RpA F ((List.range m).map fun i => V.int (lo + (i : Nat))) ((List.range m).map fun i => PyData.int (lo + (i : Nat))) := fun lo m => by
    induction m with
    | zero => exact .nil
    | succ m ih =>
      rw [List.range_succ, List.map_append, List.map_append]
      exact rpa_app ih (.cons (.int _) .nil)
  unfold rgV rangeD
  rw [show ((n : Int) - 0).toNat = n by omega]
  exact h 0 n
theorem lo_listRg {Te : TE} {te : TD} (h : LE S E Te te) : LO S E (tLstRg (tRg1 Te)) (oListRg te) := by
  intro H0 ρ σ G H Qd Ed Q wf st q k ke
  refine h H0 ρ σ G H _ Ed _ wf st q (fun v d G1 H1 s1 rv q1 => ?_) ke
  split at q1
  · rename_i n
    cases rv_int rv
    obtain ⟨n0, n1, q1⟩ := q1
    obtain ⟨m, rfl⟩ := Int.eq_ofNat_of_zero_le n0
    refine ⟨_, rfl, ⟨by omega, by omega, by omega, by omega, by omega⟩, fun t nt => ?_⟩
    exact k t _ _ G1 _ (s1.trans (Step.new s1.wf nt)) (s1.was_free (.of nt)) upd_same (s1.wf.free nt) (s1.wf.box_ne nt) rgV_data (by simpa using q1)
  · exact q1.elim
end
/-- its characters are characters -/
def Chars (x : Str) : Prop := (PyData.str x).canLay0 = true
instance (x : Str) : Decidable (Chars x) := inferInstanceAs (Decidable (_ = true))
theorem rep0 : RepOk (.str "0") := ⟨0, 1, ⟨by decide +kernel, Nat.le_refl _, by decide +kernel, by decide +kernel, rfl, by decide +kernel⟩, by decide, by decide⟩
theorem rep1 : RepOk (.str "1") := ⟨0, 1, ⟨by decide +kernel, Nat.le_refl _, by decide +kernel, by decide +kernel, rfl, by decide +kernel⟩, by decide, by decide⟩
theorem chars_int : ∀ M : Fin 402, Chars (PyData.int ((M.val : Nat) : Int)).shown := by decide +kernel
/-- a value that an ear can tell of -/
def Told (d : PyData) : Prop := RepOk d ∧ Chars d.shown
theorem told_int {M : Nat} (h : M ≤ 401) : Told (.int (M : Nat)) := ⟨(neat_int (i := ((M : Nat) : Int)) (by omega)).rep, chars_int ⟨M, by omega⟩⟩
theorem told_neg : Told (.int (-1)) := ⟨(neat_int (i := -1) (by decide)).rep, by decide +kernel⟩
theorem told_none : Told .none := ⟨neat_none.rep, by decide +kernel⟩
theorem told_bool (b : Bool) : Told (.bool b) := ⟨(neat_bool b).rep, by cases b <;> decide +kernel⟩
theorem told0 : Told (.str "0") := ⟨rep0, by decide +kernel⟩
theorem told1 : Told (.str "1") := ⟨rep1, by decide +kernel⟩
theorem shp_told {a b : Str} (ha : Chars a) (hb : Chars b) : shp (.tuple [.str a, .str b, .bool true]) = true := by
  show ((PyData.str a).canLay0 && ((PyData.str b).canLay0 && (true && true)) && true) = true
  rw [ha, hb]
  rfl
theorem eqv_told (a b : Str) : PyData.eqv (.tuple [.str a, .str b, .bool true]) (.tuple [.str a, .str b, .bool true]) = true := by
  simp [PyData.eqv, PyData.eqvAll]
theorem shp_row {a : Str} (ha : Chars a) (i : Int) : shp (.tuple [.str a, .int i, .bool true]) = true := by
  show ((PyData.str a).canLay0 && (true && (true && true)) && true) = true
  rw [ha]
  rfl
theorem eqv_row (a : Str) (i : Int) : PyData.eqv (.tuple [.str a, .int i, .bool true]) (.tuple [.str a, .int i, .bool true]) = true := by
  simp [PyData.eqv, PyData.eqvAll]
end Dl

set_option Elab.async false
set_option linter.all false
set_option maxRecDepth 100000
set_option maxHeartbeats 4000000
/-! the data layer: lists of lambdas, a lambda that a lambda calls -/
namespace Dl
open PySem PySem.Spec PyProof.Rows L2 Lx
theorem work_same {X : Cx} {k : Nat} {f : Addr} {F F' : Hp} {x : Str} {sp : XK → TE} (e : Same F F') (h : WorkAt X k f F x sp) : WorkAt X k f F' x sp := by
  obtain ⟨params, body, sc, cc, h1, h2, h3⟩ := h
  exact ⟨params, body, sc, cc, e _ _ h1, e _ _ h2, h3⟩
/-- a lambda of one value x that X's frame made -/
def lamW (X : Cx) (k : Nat) (x : Str) (sp : XK → TE) : LamW := ⟨fun F f => WorkAt X k f F x sp, fun e h => work_same e h⟩
section
variable {S : Sx} {E : XK} {G G0 : Gh} {H H0 : Hp}
theorem StR.app {σ : L2.St} {ρ : Rho} {v : V} {d : DV} (st : StR G H0 H σ ρ) (h : RV G v d) : StR G H0 H (σ ++ [some v]) (ρ ++ [some (.dv d)]) := by
  have get : ∀ (j : Nat) (x : SV), (ρ ++ [some (SV.dv d)])[j]? = some (some x) → (j < ρ.length ∧ ρ[j]? = some (some x)) ∨ (j = ρ.length ∧ x = .dv d) := fun j x e => by
    by_cases lt : j < ρ.length
    · rw [List.getElem?_append_left lt] at e
      exact .inl ⟨lt, e⟩
    · rw [List.getElem?_append_right (by omega)] at e
      have z := (List.getElem?_eq_some_iff.mp e).1
      have z : j - ρ.length < 1 := z
      have z : j = ρ.length := by omega
      subst z
      simp at e
      exact .inr ⟨rfl, e.symm⟩
  refine ⟨by rw [List.length_append, List.length_append, st.len]; rfl, fun j x e => ?_, fun i j l l' p e1 e2 e3 e4 => ?_⟩
  · rcases get j x e with ⟨lt, e⟩ | ⟨rfl, rfl⟩
    · obtain ⟨u, h1, h2⟩ := st.at_ j x e
      exact ⟨u, by rw [List.getElem?_append_left (by rw [← st.len]; exact lt)]; exact h1, h2⟩
    · exact ⟨v, by rw [st.len, List.getElem?_append_right (Nat.le_refl _)]; simp, h⟩
  · rcases get i _ e1 with ⟨lt, e1⟩ | ⟨_, z⟩
    · rcases get j _ e2 with ⟨lt2, e2⟩ | ⟨_, z⟩
      · rw [List.getElem?_append_left (by rw [← st.len]; exact lt)] at e3
        rw [List.getElem?_append_left (by rw [← st.len]; exact lt2)] at e4
        exact st.sep i j l l' p e1 e2 e3 e4
      · cases z
    · cases z
/-- work(e) within a lambda -/
def dWork (W : LamW) (i : Nat) (ta t : TD) : TD := fun ρ Qd Ed => ρ[i]? = some (some (.dv (.lam W))) ∧ ta ρ (fun d => t (ρ ++ [some (.dv d)]) Qd Ed) Ed
theorem le_workV {X : Cx} {k i j : Nat} {x : Str} {sp : XK → TE} {t : TD} (ht : LE S E (sp E) t) : LE S E (fun σ H Q => ∃ f1, σ[i]? = some (some (.ref f1)) ∧ WorkAt X k f1 H x sp ∧ tVar j σ H fun v H2 => (∀ a o, H a = some o → H2 a = some o) ∧ sp E (σ ++ [some v]) H2 Q) (dWork (lamW X k x sp) i (dVar j) t) := by
  rintro H0 ρ σ G H Qd Ed Q wf st ⟨e, q⟩ kk ke
  obtain ⟨v0, z1, z2⟩ := st.at_ i _ e
  cases z2 with
  | lam hok =>
    refine ⟨_, z1, work_same wf.sub hok, ?_⟩
    unfold dVar at q
    split at q
    · rename_i d e2
      obtain ⟨v, h1, h2⟩ := st.at_ j _ e2
      exact ⟨v, h1, fun _ _ z => z, ht H0 _ _ G H Qd Ed Q wf (st.app h2) q kk ke⟩
    · exact q.elim
theorem le_workC {X : Cx} {k i : Nat} {x : Str} {sp : XK → TE} {t : TD} {v : V} {d : DV} (hd : ∀ G, RV G v d) (ht : LE S E (sp E) t) : LE S E (fun σ H Q => ∃ f1, σ[i]? = some (some (.ref f1)) ∧ WorkAt X k f1 H x sp ∧ tC v σ H fun v H2 => (∀ a o, H a = some o → H2 a = some o) ∧ sp E (σ ++ [some v]) H2 Q) (dWork (lamW X k x sp) i (dC d) t) := by
  rintro H0 ρ σ G H Qd Ed Q wf st ⟨e, q⟩ kk ke
  obtain ⟨v0, z1, z2⟩ := st.at_ i _ e
  cases z2 with
  | lam hok => exact ⟨_, z1, work_same wf.sub hok, fun _ _ z => z, ht H0 _ _ G H Qd Ed Q wf (st.app (hd G)) q kk ke⟩
def allDv : Rho → Bool
  | [] => true
  | some (.dv _) :: r => allDv r
  | none :: r => allDv r
  | _ => false
theorem allDv_at : ∀ {ρ : Rho}, allDv ρ = true → ∀ (i : Nat) (x : SV), ρ[i]? = some (some x) → ∃ d, x = .dv d
  | [], _, i, x, e => by simp at e
  | some (.dv d) :: r, h, 0, x, e => by
    simp at e
    exact ⟨d, e.symm⟩
  | none :: r, h, 0, x, e => by simp at e
  | some (.dv d) :: r, h, i + 1, x, e => allDv_at (ρ := r) h i x (by simpa using e)
  | none :: r, h, i + 1, x, e => allDv_at (ρ := r) h i x (by simpa using e)
  | some (.own _) :: _, h, _, _, _ => by cases h
  | some (.ini _ _ _ _) :: _, h, _, _, _ => by cases h
/-- slots of data stand whatever becomes of the heap -/
theorem StR.dv {G' : Gh} {H' : Hp} {σ : L2.St} {ρ : Rho} (st : StR G H0 H σ ρ) (h : allDv ρ = true) (fm : Same G.F G'.F) (bm : ∀ b, G.B b → G'.B b) : StR G' H0 H' σ ρ := by
  refine ⟨st.len, fun j x e => ?_, fun i j l l' p e1 => ?_⟩
  · obtain ⟨d, rfl⟩ := allDv_at h j x e
    obtain ⟨v, h1, h2⟩ := st.at_ j _ e
    exact ⟨v, h1, RV.mono fm bm h2⟩
  · obtain ⟨d, z⟩ := allDv_at h i _ e1
    cases z
theorem StR.setNone {σ : L2.St} {ρ : Rho} {i : Nat} {v : V} (st : StR G H0 H σ ρ) (h : allDv (ρ.set i none) = true) : StR G H0 H (σ.set i (some v)) (ρ.set i none) := by
  refine ⟨by rw [List.length_set, List.length_set, st.len], fun j x e => ?_, fun k j l l' p e1 => ?_⟩
  · by_cases z : j = i
    · subst z
      by_cases lt : j < ρ.length
      · rw [List.getElem?_set_self lt] at e
        cases e
      · rw [List.getElem?_eq_none (by rw [List.length_set]; omega)] at e
        cases e
    · rw [List.getElem?_set_ne (Ne.symm z)] at e
      obtain ⟨u, h1, h2⟩ := st.at_ j x e
      exact ⟨u, by rw [List.getElem?_set_ne (Ne.symm z)]; exact h1, h2⟩
  · obtain ⟨d, z⟩ := allDv_at h k _ e1
    cases z
/-- a list of k lambdas stands in slot i, and may still grow -/
def LB (S : Sx) (E : XK) (i k : Nat) (W : LamW) (U : TS) (u : TSD) : Prop := ∀ (G0 : Gh) (H0 Fb : Hp) (D : Ends) (Dd : EndsD) (σ : L2.St) (ρ : Rho) (G : Gh) (H : Hp) (p : Addr) (vs : List V), At S G0 H0 Fb σ ρ G H → EndsR S E G0 H0 Fb D Dd → σ[i]? = some (some (.ref p)) → H p = some (.lst vs) → vs.length = k → k ≤ 1000 →
  (∀ x ∈ vs, ∃ f, x = .ref f ∧ W.ok G.F f) → G.F p = none → ¬ G.B p → Fr H0 p → allDv ρ = true → u Dd ρ → U D σ H
theorem lb_done {i k : Nat} {W : LamW} {U : TS} {u : TSD} (h : LS S E U u) : LB S E i k W U (fun D ρ => u D (ρ.set i (some (.dv (.lams W k))))) := by
  intro G0 H0 Fb D Dd σ ρ G H p vs a r hs hp hl hk ok nf nb n0 dv q
  have fm : Same G.F (G.put p (.lst vs)).F := same_upd (.inl nf)
  refine h G0 H0 Fb D Dd σ _ (G.put p (.lst vs)) H ⟨a.s.freeze hp (fun z e => by cases e) n0 nb, ?_, a.f.trans fm⟩ r q
  have st := a.r.dv (H' := H) (G' := G.put p (.lst vs)) dv fm (fun _ h => h)
  refine ⟨by rw [List.length_set, st.len], fun j x e => ?_, fun j k l l' q e1 e2 e3 e4 => ?_⟩
  · rcases set_some e with ⟨rfl, rfl⟩ | ⟨ne, e⟩
    · exact ⟨.ref p, hs, .lams put_same hl fun x hx => (ok x hx).elim fun f hf => ⟨f, hf.1, W.mono fm hf.2⟩⟩
    · exact st.at_ j x e
  · rcases set_some e1 with ⟨_, z⟩ | ⟨_, e1⟩
    · cases z
    · obtain ⟨d, z⟩ := allDv_at dv _ _ e1
      cases z
variable {X : Cx} {params : Arguments} {body : Expr} {scope : Scope}
theorem lam_freeze {Fb : Hp} {σ : L2.St} {ρ : Rho} {f cc : Addr} {H1 : Hp} (a : At S G0 H0 Fb σ ρ G H) (dv : allDv ρ = true) (e1 : LamX.ExtN H H1) (t1 : LamX.Tabs S.Tb H1) (nf : H f = none) (hf : H1 f = some (LamO X params body scope f cc)) (hc : H1 cc = some (LamX.CodeO cc (lamQ X))) :
    ∃ G2, Step S G0 H0 G2 H1 ∧ Same G.F G2.F ∧ (∀ b, G.B b ↔ G2.B b) ∧ G2.F f = some (LamO X params body scope f cc) ∧ G2.F cc = some (LamX.CodeO cc (lamQ X)) ∧ ∀ p vs, H1 p = some (.lst vs) → G.F p = none → G2.F p = none := by
  have s1 := a.s.trans (Step.lam a.s.wf e1 t1)
  have no : ∀ {x : Addr} {o : HO}, H1 x = some o → (∀ l, o ≠ .lst l) → ¬ G.B x := fun {x o} hx n hb => by
    obtain ⟨⟨c0, cs, h1, _⟩, _⟩ := s1.wf.box x hb
    rw [hx] at h1
    cases h1
    exact n _ rfl
  have nl1 : ∀ l, LamO X params body scope f cc ≠ .lst l := fun l e => by unfold LamO at e; cases e
  have nl2 : ∀ l, LamX.CodeO cc (lamQ X) ≠ .lst l := fun l e => by unfold LamX.CodeO at e; cases e
  have nm1 : ¬ MutD (LamO X params body scope f cc) := fun z => by unfold LamO at z; exact z
  have nm2 : ¬ MutD (LamX.CodeO cc (lamQ X)) := fun z => by unfold LamX.CodeO at z; exact z
  have s2 := s1.freezeI hf (fun z e => LamO.not_tbl z e) nm1 (no hf nl1)
  have s3 := s2.freezeI hc (fun z e => LamX.codeO_nt z e) nm2 (no hc nl2)
  refine ⟨_, s3, (same_upd (s1.wf.agree hf)).trans (same_upd (s2.wf.agree hc)), fun _ => Iff.rfl, (same_upd (s2.wf.agree hc)) _ _ put_same, put_same, fun p vs hp np => ?_⟩
  have n1 : p ≠ f := by
    rintro rfl
    rw [hf] at hp
    cases hp
  have n2 : p ≠ cc := by
    rintro rfl
    rw [hc] at hp
    exact nl2 _ (Option.some.inj hp)
  rw [put_ne n2, put_ne n1]
  exact np
theorem lb_app {i k : Nat} {W : LamW} {U : TS} {u : TSD} (h : LB S E i (k + 1) W U u) (hk : k + 1 ≤ 1000) (hw : ∀ (F : Hp) (f cc : Addr), F f = some (LamO X params body scope f cc) → F cc = some (LamX.CodeO cc (lamQ X)) → W.ok F f) :
    LB S E i k W (tSeq (tDrop (tBM S.K "list" rAppend (tVar i) (tCons (tLamV X S.Tb params body scope) tNil))) U) u := by
  intro G0 H0 Fb D Dd σ ρ G H p vs a r hs hp hl _ ok nf nb n0 dv q
  refine ⟨.ref p, hs, .inl ⟨rfl, _, .inl (.inl hp)⟩, a.s.wf.tabs, fun f cc H1 e1 t1 ff hf hc => ?_⟩
  have hp1 := e1 _ _ hp (fun _ z => by cases z)
  refine ⟨p, vs, .ref f, rfl, rfl, hp1, by rw [hl, sizeLine_eq]; omega, ?_⟩
  obtain ⟨G2, s2, fm, bm, g1, g2, g3⟩ := lam_freeze a dv e1 t1 ff hf hc
  have nf2 := g3 p vs hp1 nf
  have nb2 : ¬ G2.B p := fun z => nb ((bm p).mpr z)
  refine h G0 H0 Fb D Dd σ ρ G2 (upd H1 p (.lst (vs ++ [.ref f]))) p _ ⟨s2.write hp1 nf2 nb2 n0, a.r.dv dv fm (fun b hb => (bm b).mp hb), a.f.trans fm⟩ r hs upd_same (by rw [List.length_append, hl]; rfl) hk (fun x hx => ?_) nf2 nb2 n0 dv q
  rcases List.mem_append.mp hx with hx | hx
  · obtain ⟨g, e, w⟩ := ok x hx
    exact ⟨g, e, W.mono fm w⟩
  · rw [List.mem_singleton] at hx
    exact ⟨f, hx, hw _ f cc g1 g2⟩
/-- x = [lambda ..] -/
def dLams (i : Nat) (u : TSD) : TSD := fun D ρ => (allDv (ρ.set i none) = true ∧ i < ρ.length) ∧ u D (ρ.set i none)
theorem ls_lams {i : Nat} {W : LamW} {U : TS} {u : TSD} (h : LB S E i 1 W U u) (hw : ∀ (F : Hp) (f cc : Addr), F f = some (LamO X params body scope f cc) → F cc = some (LamX.CodeO cc (lamQ X)) → W.ok F f) :
    LS S E (tSeq (tAsg (tLst (tCons (tLamV X S.Tb params body scope) tNil)) (gName i)) U) (dLams i u) := by
  rintro G0 H0 Fb D Dd σ ρ G H a r ⟨⟨dv, lt⟩, q⟩
  refine ⟨a.s.wf.tabs, fun f cc H1 e1 t1 ff hf hc => ⟨by rw [sizeLine_eq]; show 1 ≤ 16777216; decide, fun p np => ?_⟩⟩
  have a' : At S G0 H0 Fb (σ.set i (some (.ref p))) (ρ.set i none) G H := ⟨a.s, a.r.setNone dv, a.f⟩
  obtain ⟨G2, s2, fm, bm, g1, g2, g3⟩ := lam_freeze a' dv e1 t1 ff hf hc
  have s3 := s2.trans (Step.new (o := .lst [.ref f]) s2.wf np)
  refine h G0 H0 Fb D Dd _ _ G2 _ p [.ref f] ⟨s3, a'.r.dv dv fm (fun b hb => (bm b).mp hb), a.f.trans fm⟩ r (by rw [List.getElem?_set_self (by rw [← a.r.len]; exact lt)]) upd_same rfl (by decide) (fun x hx => ⟨f, by simpa using hx, hw _ f cc g1 g2⟩) (s2.wf.free np) (s2.wf.box_ne np) (s2.was_free (.of np)) dv q
/-- for work in a list of lambdas -/
def dLoopL (W : LamW) (j : Nat) (t : TSD) (D : EndsD) : Nat → Rho → Prop
  | 0, ρ => D.nx ρ
  | n + 1, ρ => t { D with nx := dLoopL W j t D n, ct := dLoopL W j t D n, bk := D.nx } (ρ.set j (some (.dv (.lam W))))
def dForL (W : LamW) (i j : Nat) (t : TSD) : TSD := fun D ρ => ∃ k, ρ[i]? = some (some (.dv (.lams W k))) ∧ dLoopL W j t D k ρ
theorem ls_forL {W : LamW} {i j : Nat} {T : TS} {t : TSD} (hb : LS S E T t) : LS S E (tFor (iSeq S.K (tVar i)) (gName j) T) (dForL W i j t) := by
  rintro G0 H0 Fb D Dd σ ρ G H a r ⟨k, e, q⟩
  obtain ⟨v0, z1, z2⟩ := a.r.at_ i _ e
  cases z2 with
  | @lams p _ vs _ h1 hl hok =>
    have hp := a.s.wf.sub _ _ h1
    refine ⟨.ref p, z1, p, rfl, .inl ⟨vs, .inl (.inl hp), ?_⟩⟩
    refine for_it walk_list (fun n σ H' => n ≤ k ∧ ∃ ρ' G', At S G0 H0 G.F σ ρ' G' H' ∧ dLoopL W j t Dd (k - n) ρ') ⟨Nat.zero_le _, ρ, G, ⟨a.s, a.r, Same.refl _⟩, q⟩ (fun n σ H' _ ⟨_, ρ', G', a', _⟩ => .inl (.inl (a'.s.wf.sub _ _ (a'.f _ _ h1)))) ?_ ?_
    · rintro n x σ2 H2 H3 hn ⟨_, ρ', G', a', q'⟩ ⟨rfl, ex⟩
      obtain ⟨f, rfl, hw⟩ := hok x (List.mem_of_getElem? ex)
      rw [show k - n = (k - (n + 1)) + 1 by omega] at q'
      have rv : RV G' (.ref f) (.lam W) := .lam (W.mono a'.f hw)
      refine hb G0 H0 G.F _ { Dd with nx := dLoopL W j t Dd (k - (n + 1)), ct := dLoopL W j t Dd (k - (n + 1)), bk := Dd.nx } _ _ G' _ ⟨a'.s, a'.r.set rv, a'.f⟩ ?_ q'
      exact ⟨fun σ4 ρ4 G4 H4 a4 q4 => ⟨by omega, ρ4, G4, a4, q4⟩, r.rt, fun σ4 ρ4 G4 H4 a4 q4 => r.nx _ _ _ _ ⟨a4.s, a4.r, a.f.trans a4.f⟩ q4, fun σ4 ρ4 G4 H4 a4 q4 => ⟨by omega, ρ4, G4, a4, q4⟩, r.er⟩
    · rintro σ2 H2 ⟨_, ρ', G', a', q'⟩
      rw [hl, Nat.sub_self] at q'
      exact r.nx _ _ _ _ ⟨a'.s, a'.r, a.f.trans a'.f⟩ q'
end
end Dl
namespace Dl
open PySem PySem.Spec PyProof.Rows L2 Lx
/-- two names from a pair of any values -/
def dPair (i j : Nat) (ta : TAD) : TSD := fun D ρ => ta ρ (fun ds => match ds with
  | [x, y] => D.nx ((ρ.set i (some (.dv x))).set j (some (.dv y)))
  | _ => False) D.er
theorem ls_pair {S : Sx} {E : XK} {i j : Nat} {T : TA} {t : TAD} (h : LA 2 S E T t) : LS S E (tAsg (tTup T) (gTup S.K 2 (gCons (gName i) (gCons (gName j) gNil)))) (dPair i j t) := fun G0 H0 Fb D Dd σ ρ G H a r q =>
  h H0 ρ σ G H _ _ _ a.s.wf a.r q (fun vs ds G1 H1 s1 hl rv q1 => by
    split at q1
    · rename_i x y
      cases rv with
      | cons h1 t1 => cases t1 with
        | cons h2 t2 =>
          cases t2
          refine ⟨by rw [sizeLine_eq]; show 2 ≤ 16777216; decide, fun p np => ?_⟩
          refine ⟨p, _, rfl, .inl (.inl upd_same), rfl, _, _, rfl, _, _, rfl, rfl, ?_⟩
          exact r.nx _ _ G1 _ ⟨(a.s.trans s1).trans (Step.new s1.wf np), (((a.r.step s1).step (Step.new s1.wf np)).set h1).set h2, a.f.trans s1.fm⟩ q1
    · exact q1.elim) (r.err a.s)
theorem var_mono (i : Nat) : ∀ (σ : L2.St) (H : Hp) (Q Q' : VK), (∀ v H, Q v H → Q' v H) → tVar i σ H Q → tVar i σ H Q' := fun σ H Q Q' m ⟨v, h1, h2⟩ => ⟨v, h1, m _ _ h2⟩
theorem con_mono (x : V) : ∀ (σ : L2.St) (H : Hp) (Q Q' : VK), (∀ v H, Q v H → Q' v H) → tC x σ H Q → tC x σ H Q' := fun σ H Q Q' m h => m _ _ h
end Dl
namespace Dl
open PySem PySem.Spec PyProof.Rows L2 Lx
theorem loopL_ind {W : LamW} {j : Nat} {t : TSD} {D : EndsD} (I : Nat → Rho → Prop) (h0 : ∀ ρ, I 0 ρ → D.nx ρ)
    (hs : ∀ (n : Nat) (ρ : Rho) (K : Rho → Prop), (∀ ρ, I n ρ → K ρ) → I (n + 1) ρ → t { D with nx := K, ct := K, bk := D.nx } (ρ.set j (some (.dv (.lam W))))) : ∀ (n : Nat) (ρ : Rho), I n ρ → dLoopL W j t D n ρ
  | 0, ρ, h => h0 ρ h
  | n + 1, ρ, h => hs n ρ _ (loopL_ind I h0 hs n) h
end Dl

set_option Elab.async false
set_option linter.all false
set_option maxRecDepth 100000
set_option maxHeartbeats 4000000
/-! the data layer: how the law begins -/
namespace Dl
open PySem PySem.Spec PyProof.Rows L2 Lx
theorem law_start {S : Sx} {sp : SpD} {H : Hp} {a : Addr} {ns : List Int} (h : SqL S.K H a (ns.map V.int)) (t : LamX.Tabs S.Tb H) (q : sp [.scr S.K ns] (fun d => d = .bl true) (fun _ => False)) : spD S 1 sp [.ref a] H (fun v _ => v = .bl true) (fun _ _ _ => False) := by
  have fin : ∀ G : Gh, Wf S G H → RV G (.ref a) (.scr S.K ns) → spD S 1 sp [.ref a] H (fun v _ => v = .bl true) (fun _ _ _ => False) := fun G wf rv =>
    ⟨G, [.scr S.K ns], _, _, rfl, wf, .cons rv .nil, q, fun v d G' H' s r e => by
      subst e
      cases r with
      | py h =>
        cases h
        rfl, fun e cls d G' H' s he z => z⟩
  have one : ∀ o : HO, H a = some o → (∀ z, o ≠ .tbl z) → Wf S ⟨fun x => if x = a then some o else none, fun _ => False⟩ H := fun o ho nt => by
    refine ⟨fun x u e => ?_, fun b hb => hb.elim, fun x z e => ?_, t⟩
    · have e : (if x = a then some o else none) = some u := e
      split at e
      · rename_i z
        rw [z, ho]
        exact e
      · cases e
    · have e : (if x = a then some o else none) = some (HO.tbl z) := e
      split at e
      · exact nt z (Option.some.inj e)
      · cases e
  rcases h with (h | ⟨o, h⟩) | h
  · exact fin _ (one _ h fun z e => by cases e) (.scr (.inl (.inl (if_pos rfl))))
  · exact fin _ (one _ h fun z e => by cases e) (.scr (.inl (.inr ⟨o, if_pos rfl⟩)))
  · exact fin ⟨fun _ => none, fun _ => False⟩ ⟨fun x u e => (by cases e), fun b hb => hb.elim, fun x z e => (by cases e), t⟩ (.scr (.inr fun H => .inr h))
end Dl

set_option Elab.async false
namespace Pg
open PySem
def topS (i : Nat) : Stmt := PySem.Challenge.pw_pagesagain_k02_whole_rows_that_repeat_an.main.body.getD i (.Pass ⟨0, 0, 0, 0⟩)
abbrev cPageError : Stmt := topS 1
abbrev cBadMachine : Stmt := topS 2
abbrev cBadRow : Stmt := topS 3
abbrev cRefused : Stmt := topS 4
abbrev sIsNumber : Stmt := topS 6
abbrev sNeedNumber : Stmt := topS 7
abbrev sIsSequence : Stmt := topS 8
abbrev cMachine : Stmt := topS 13
abbrev sIsTable : Stmt := topS 14
abbrev sIsDeed : Stmt := topS 15
abbrev sCheckRow : Stmt := topS 16
abbrev sPower : Stmt := topS 18
abbrev sRepeatEnd : Stmt := topS 20
abbrev sRepeatSteps : Stmt := topS 21
abbrev sRepeats : Stmt := topS 22
abbrev sNthRow : Stmt := topS 23
abbrev sRowPlace : Stmt := topS 24
abbrev sRowCount : Stmt := topS 25
abbrev sLawBox : Stmt := topS 27
abbrev sLawTake : Stmt := topS 28
abbrev sLawPick : Stmt := topS 29
abbrev sLawIsRepeating : Stmt := topS 30
abbrev sLawRow : Stmt := topS 31
abbrev sLawHeard : Stmt := topS 32
abbrev sLawDivisor : Stmt := topS 33
abbrev sLawRepeatsRight : Stmt := topS 34
abbrev sLawNumbersRight : Stmt := topS 35
abbrev sLaw : Stmt := topS 36
end Pg

set_option Elab.async false
set_option linter.all false
set_option maxRecDepth 100000
set_option maxHeartbeats 4000000
namespace Pg
open PySem PySem.Spec PyProof.Rows L2 Lx
/-- no global of the module bears this built-in's name -/
structure Bare (mg : Str → Option Value) : Prop where
  isinstance : mg "isinstance" = none
  int : mg "int" = none
  bool : mg "bool" = none
  list : mg "list" = none
  tuple : mg "tuple" = none
  len : mg "len" = none
  range : mg "range" = none
  enumerate : mg "enumerate" = none
  reversed : mg "reversed" = none
  divmod : mg "divmod" = none
  min : mg "min" = none
  max : mg "max" = none
  all : mg "all" = none
  repr : mg "repr" = none
  abs : mg "abs" = none
  sorted : mg "sorted" = none
  set : mg "set" = none
  any : mg "any" = none
  sum : mg "sum" = none
  str : mg "str" = none
  zip : mg "zip" = none
end Pg

set_option Elab.async false
set_option linter.all false
set_option maxRecDepth 100000
set_option maxHeartbeats 4000000
namespace Pg
open PySem PySem.Spec PyProof.Rows L2 Lx Dl
section
variable {P : Program} {w : World} {mg : Str → Option Value} {base : Heap} {S : Sx}
def spIsNumber : SpD := fun ds Q _ => match ds with
  | [.py v, .py (.int lo), .py (.int hi)] => Q (.bl (numD v lo (some hi)))
  | [.py v, .py (.int lo), .py .none] => Q (.bl (numD v lo none))
  | _ => False
def nIsNumberN : List Str := ["value", "least", "greatest"]
theorem scIsNumber : FnScope nIsNumberN ["value", "least", "greatest"] (defScope sIsNumber) := ⟨rfl, rfl, rfl, by decide +kernel, rfl, by decide +kernel, by decide +kernel⟩
theorem ok_is_number {f : Addr} {fd : FuncData} (F : FunD S.K "is_number" "is_number" (defArgs sIsNumber) (defBody sIsNumber) (defScope sIsNumber) [.non] [] f fd) (B : Bare mg) : FnOk P w S.K mg base L2.CX0 1 f fd ["value", "least", "greatest"] (spD S 3 spIsNumber) := by
  have nd : nIsNumberN.Nodup := scIsNumber.nd
  refine okD0D (N := nIsNumberN) (k := 0) F scIsNumber (hb := fun cdv A outer s H E hr => ?_)
  have hu2 : (A.deeper (envOfC "is_number" (defScope sIsNumber) s.heap.objs.size f cdv)).units + 200 < cLine := by have := hr.un; omega
  have hu65 : (A.deeper (envOfC "is_number" (defScope sIsNumber) s.heap.objs.size f cdv)).units + 65 < cLine := by omega
  refine ⟨_, _, (pss_cons (ps_if (PW.pt (pw_or (pt_not (pt_val (pe_callB (r := rIsi _) call_isi (by rfl) B.isinstance boot_isinstance (pa_cons (pv 0) (pa_cons (pe_bltn (v := .ty "int") (by rfl) B.int boot_int rfl) pa_nil))))) (pw_or1 (pt_val (pe_callB (r := rIsi _) call_isi (by rfl) B.isinstance boot_isinstance (pa_cons (pv 0) (pa_cons (pe_bltn (v := .ty "bool") (by rfl) B.bool boot_bool rfl) pa_nil))))))) (pss_one (ps_ret pe_bl)) pss_nil)
      (pss_one (ps_ret (pe_and (pe_cmpR op_le (pv 1) (pv 0) (nomark _)) (pe_one (pe_or (pe_cmpR op_isN (pv 2) pe_non (nomark _)) (pe_one (pe_cmpR op_le (pv 0) (pv 2) (nomark _))))))))),
      (ls_seq (ls_if (lt_or (lt_not (lt_b (le_cb lc_isInt (la_cons le_var (la_cons le_ty la_nil))))) (lt_b (le_cb lc_isBool (la_cons le_var (la_cons le_ty la_nil))))) (ls_ret le_bl) ls_next)
      (ls_ret (le_andV (le_op l2_cmp le_var le_var) (le_orV (le_op l2_isN le_var le_non) (le_op l2_cmp le_var le_var))))), fun ds Qd Ed hl h => ?_⟩
  unfold spIsNumber at h
  split at h
  · rename_i v lo hi
    cases v <;> simp [dOf, dVar, dC, dOp, dUn, dNil, dCons, pys, dTup, oLst, dCB, oCB, dCall, dCall0, dCallR, fAdd, oOp, fCat, fInt, fIntC, fNeg, fEq, isNonD, fIsN, fIn, fIx, dTest, dAnd, dOr, dNot, dAndV, dOrV, dNotV, dIfE, dChain, dFld, dNext, dSeq, dRet, dRetN, dDrop, dIfS, dBreak, dCont, dSet, dSetO, setAll, dSetT, dPar, itSeq, itRange1, itRange2, itEnum, Tg.put, Tg.ix, dFor, wipeL, dYes, oLc, dAppend, dPutIx, dFreeze, unown, hasOwn, noLD, okL, dSnap, dSnapT, dRaise, startD, dNoPart, dPart, dSl, oSl, fLen, fInt1, fAbs, fInt2, fDivmod, fTuple, fList, fSorted, oSortedSet, fRepr, fAll, fSum, isIntD, isBoolD, isStrD, isTupD, isSeqD, fIsT, dIsLT, dAug, dPutF, dFldI, dMake, startI, putD, nIsNumberN, numD] at h ⊢ <;> try exact h
    split <;> simp_all
  · rename_i v lo
    cases v <;> simp [dOf, dVar, dC, dOp, dUn, dNil, dCons, pys, dTup, oLst, dCB, oCB, dCall, dCall0, dCallR, fAdd, oOp, fCat, fInt, fIntC, fNeg, fEq, isNonD, fIsN, fIn, fIx, dTest, dAnd, dOr, dNot, dAndV, dOrV, dNotV, dIfE, dChain, dFld, dNext, dSeq, dRet, dRetN, dDrop, dIfS, dBreak, dCont, dSet, dSetO, setAll, dSetT, dPar, itSeq, itRange1, itRange2, itEnum, Tg.put, Tg.ix, dFor, wipeL, dYes, oLc, dAppend, dPutIx, dFreeze, unown, hasOwn, noLD, okL, dSnap, dSnapT, dRaise, startD, dNoPart, dPart, dSl, oSl, fLen, fInt1, fAbs, fInt2, fDivmod, fTuple, fList, fSorted, oSortedSet, fRepr, fAll, fSum, isIntD, isBoolD, isStrD, isTupD, isSeqD, fIsT, dIsLT, dAug, dPutF, dFldI, dMake, startI, putD, nIsNumberN, numD] at h ⊢ <;> try exact h
    split <;> simp_all
  · exact h.elim

def spIsSequence : SpD := fun ds Q _ => match ds with
  | [.py v, .py (.int lo), .py (.int hi)] => Q (.bl (seqB v lo hi))
  | _ => False
def nIsSequenceN : List Str := ["value", "fewest", "most"]
theorem scIsSequence : FnScope nIsSequenceN ["value", "fewest", "most"] (defScope sIsSequence) := ⟨rfl, rfl, rfl, by decide +kernel, rfl, by decide +kernel, by decide +kernel⟩
theorem ok_is_sequence {f : Addr} {fd : FuncData} (F : Fun S.K "is_sequence" "is_sequence" sIsSequence f fd) (B : Bare mg) : FnOk P w S.K mg base L2.CX0 1 f fd ["value", "fewest", "most"] (spD S 3 spIsSequence) := by
  have nd : nIsSequenceN.Nodup := scIsSequence.nd
  refine okD0 (N := nIsSequenceN) (k := 0) F scIsSequence (hb := fun cdv A outer s H E hr => ?_)
  have hu2 : (A.deeper (envOfC "is_sequence" (defScope sIsSequence) s.heap.objs.size f cdv)).units + 200 < cLine := by have := hr.un; omega
  have hu65 : (A.deeper (envOfC "is_sequence" (defScope sIsSequence) s.heap.objs.size f cdv)).units + 65 < cLine := by omega
  refine ⟨_, _, (pss_one (ps_ret (pe_and (pe_callB call_isiT (by rfl) B.isinstance boot_isinstance (pa_cons (pv 0) (pa_cons (pe_tup (pa_cons (pe_bltn (v := .ty "list") (by rfl) B.list boot_list rfl) (pa_cons (pe_bltn (v := .ty "tuple") (by rfl) B.tuple boot_tuple rfl) pa_nil))) pa_nil))) (pe_one (pe_chain op_le op_le (pv 1) (pe_callB (r := rLenA _) lenA (by rfl) B.len PySem.boot_len (pa_cons (pv 0) pa_nil)) (pv 2)))))),
      (ls_ret (le_andV (le_isLT le_var) (le_chain l2_cmp l2_cmp le_var (le_cb lc_len (la_cons le_var la_nil)) le_var))), fun ds Qd Ed hl h => ?_⟩
  unfold spIsSequence at h
  split at h
  · rename_i v lo hi
    cases v <;> simp [dOf, dVar, dC, dOp, dUn, dNil, dCons, pys, dTup, oLst, dCB, oCB, dCall, dCall0, dCallR, fAdd, oOp, fCat, fInt, fIntC, fNeg, fEq, isNonD, fIsN, fIn, fIx, dTest, dAnd, dOr, dNot, dAndV, dOrV, dNotV, dIfE, dChain, dFld, dNext, dSeq, dRet, dRetN, dDrop, dIfS, dBreak, dCont, dSet, dSetO, setAll, dSetT, dPar, itSeq, itRange1, itRange2, itEnum, Tg.put, Tg.ix, dFor, wipeL, dYes, oLc, dAppend, dPutIx, dFreeze, unown, hasOwn, noLD, okL, dSnap, dSnapT, dRaise, startD, dNoPart, dPart, dSl, oSl, fLen, fInt1, fAbs, fInt2, fDivmod, fTuple, fList, fSorted, oSortedSet, fRepr, fAll, fSum, isIntD, isBoolD, isStrD, isTupD, isSeqD, fIsT, dIsLT, dAug, dPutF, dFldI, dMake, startI, putD, nIsSequenceN, seqB] at h ⊢ <;> try exact h
    all_goals split <;> simp_all
  · exact h.elim

/-- the number itself, or Refused -/
def spNeedNumber (CF : Addr) : SpD := fun ds Q Ed => ∃ v lo hi, (ds = [.py v, .py (.int lo), .py (.int hi)] ∧ (numD v lo (some hi) = true → Q (.py v)) ∧ (numD v lo (some hi) = false → Ed ⟨CF, "at", .py v⟩))
def nNeedNumberN : List Str := ["value", "least", "greatest"]
theorem scNeedNumber : FnScope nNeedNumberN ["value", "least", "greatest"] (defScope sNeedNumber) := ⟨rfl, rfl, rfl, by decide +kernel, rfl, by decide +kernel, by decide +kernel⟩
theorem ok_need_number {f : Addr} {fd : FuncData} (F : FunD S.K "need_number" "need_number" (defArgs sNeedNumber) (defBody sNeedNumber) (defScope sNeedNumber) [.non] [] f fd) {CF : Addr} (ErF : Err P w S.K mg base "Refused" "at" CF) (Gn : Has P w S.K mg base L2.CX0 1 "is_number" ["value", "least", "greatest"] (spD S 3 spIsNumber)) : FnOk P w S.K mg base (L2.CX P w) 3 f fd ["value", "least", "greatest"] (spD S 3 (spNeedNumber CF)) := by
  have nd : nNeedNumberN.Nodup := scNeedNumber.nd
  refine okDXD (N := nNeedNumberN) (k := 2) F scNeedNumber (hb := fun cdv A outer s H E hr => ?_)
  have hu2 : (A.deeper (envOfC "need_number" (defScope sNeedNumber) s.heap.objs.size f cdv)).units + 200 < cLine := by have := hr.un; omega
  have hu65 : (A.deeper (envOfC "need_number" (defScope sNeedNumber) s.heap.objs.size f cdv)).units + 65 < cLine := by omega
  have tk : Takes (cxOf (L2.CX P w) P w S.K mg base nNeedNumberN "need_number" (defScope sNeedNumber) f cdv A outer s H E) (fun cls d _ H => E cls d H) := takes_of rfl rfl rfl rfl
  refine ⟨_, _, (pss_cons (ps_if (pt_not (pt_val (pe_has Gn (hr.mono (by decide)) (by rfl) (pa_cons (pv 0) (pa_cons (pv 1) (pa_cons (pv 2) pa_nil)))))) (pss_one (ps_raiseErr rfl ErF (hr.mono (by decide)) tk (pv 0))) pss_nil)
      (pss_one (ps_ret (pv 0)))),
      (ls_seq (ls_if (lt_not (lt_b (le_call0 (la_cons le_var (la_cons le_var (la_cons le_var la_nil)))))) (ls_raise le_var) ls_next)
      (ls_ret le_var)), fun ds Qd Ed hl h => ?_⟩
  obtain ⟨v, lo, hi, rfl, h1, h2⟩ := h
  simp [dOf, dVar, dC, dOp, dUn, dNil, dCons, pys, dTup, oLst, dCB, oCB, dCall, dCall0, dCallR, fAdd, oOp, fCat, fInt, fIntC, fNeg, fEq, isNonD, fIsN, fIn, fIx, dTest, dAnd, dOr, dNot, dAndV, dOrV, dNotV, dIfE, dChain, dFld, dNext, dSeq, dRet, dRetN, dDrop, dIfS, dBreak, dCont, dSet, dSetO, setAll, dSetT, dPar, itSeq, itRange1, itRange2, itEnum, Tg.put, Tg.ix, dFor, wipeL, dYes, oLc, dAppend, dPutIx, dFreeze, unown, hasOwn, noLD, okL, dSnap, dSnapT, dRaise, startD, dNoPart, dPart, dSl, oSl, fLen, fInt1, fAbs, fInt2, fDivmod, fTuple, fList, fSorted, oSortedSet, fRepr, fAll, fSum, isIntD, isBoolD, isStrD, isTupD, isSeqD, fIsT, dIsLT, dAug, dPutF, dFldI, dMake, startI, putD, nNeedNumberN, spIsNumber]
  cases e : numD v lo (some hi) <;> simp_all

end
end Pg

set_option Elab.async false
set_option linter.all false
set_option maxRecDepth 100000
set_option maxHeartbeats 4000000
namespace Pg
open PySem PySem.Spec PyProof.Rows L2 Lx Dl
section
variable {P : Program} {w : World} {mg : Str → Option Value} {base : Heap} {S : Sx}
theorem snm_tables_deeds : (Str.ofString "tables" = Str.ofString "deeds") = False := by simp only [eq_iff_iff, iff_false]; decide +kernel
theorem snm_tables_deedsb : (Str.ofString "tables" == Str.ofString "deeds") = false := by decide +kernel
theorem snm_tables_states : (Str.ofString "tables" = Str.ofString "states") = False := by simp only [eq_iff_iff, iff_false]; decide +kernel
theorem snm_tables_statesb : (Str.ofString "tables" == Str.ofString "states") = false := by decide +kernel
theorem snm_deeds_tables : (Str.ofString "deeds" = Str.ofString "tables") = False := by simp only [eq_iff_iff, iff_false]; decide +kernel
theorem snm_deeds_tablesb : (Str.ofString "deeds" == Str.ofString "tables") = false := by decide +kernel
theorem snm_deeds_states : (Str.ofString "deeds" = Str.ofString "states") = False := by simp only [eq_iff_iff, iff_false]; decide +kernel
theorem snm_deeds_statesb : (Str.ofString "deeds" == Str.ofString "states") = false := by decide +kernel
theorem snm_states_tables : (Str.ofString "states" = Str.ofString "tables") = False := by simp only [eq_iff_iff, iff_false]; decide +kernel
theorem snm_states_tablesb : (Str.ofString "states" == Str.ofString "tables") = false := by decide +kernel
theorem snm_states_deeds : (Str.ofString "states" = Str.ofString "deeds") = False := by simp only [eq_iff_iff, iff_false]; decide +kernel
theorem snm_states_deedsb : (Str.ofString "states" == Str.ofString "deeds") = false := by decide +kernel
theorem noIni_dv {d : DV} {r : Rho} : noIni (some (.dv d) :: r) = noIni r := rfl
theorem noIni_none {r : Rho} : noIni (none :: r) = noIni r := rfl
variable {CM CR CB CF CS CD : Addr}
/-- a row of whole numbers -/
def rowT (r : List Int) : PyData := .tuple (r.map .int)
/-- the machine of these tables, by deed -/
def mach (CM : Addr) (T : List (List Int)) : DV := .ins CM [("tables", .tup (T.map rowT)), ("deeds", .int (T.length : Nat)), ("states", .int ((T.headD []).length : Nat))]
theorem fld_deeds {T : List (List Int)} {Q : DV → Prop} : fldD CM (Str.ofString "deeds") (mach CM T) Q = Q (.int (T.length : Nat)) := by
  simp [fldD, mach, List.map, List.getElem?_cons_zero, List.getElem?_cons_succ, List.set_cons_zero, List.set_cons_succ, List.lookup_cons, List.lookup_nil, snm_tables_deeds, snm_tables_deedsb, snm_tables_states, snm_tables_statesb, snm_deeds_tables, snm_deeds_tablesb, snm_deeds_states, snm_deeds_statesb, snm_states_tables, snm_states_tablesb, snm_states_deeds, snm_states_deedsb]
theorem fld_states {T : List (List Int)} {Q : DV → Prop} : fldD CM (Str.ofString "states") (mach CM T) Q = Q (.int ((T.headD []).length : Nat)) := by
  simp [fldD, mach, List.map, List.getElem?_cons_zero, List.getElem?_cons_succ, List.set_cons_zero, List.set_cons_succ, List.lookup_cons, List.lookup_nil, snm_tables_deeds, snm_tables_deedsb, snm_tables_states, snm_tables_statesb, snm_deeds_tables, snm_deeds_tablesb, snm_deeds_states, snm_deeds_statesb, snm_states_tables, snm_states_tablesb, snm_states_deeds, snm_states_deedsb]
theorem fld_tables {T : List (List Int)} {Q : DV → Prop} : fldD CM (Str.ofString "tables") (mach CM T) Q = Q (.tup (T.map rowT)) := by
  simp [fldD, mach, List.map, List.getElem?_cons_zero, List.getElem?_cons_succ, List.set_cons_zero, List.set_cons_succ, List.lookup_cons, List.lookup_nil, snm_tables_deeds, snm_tables_deedsb, snm_tables_states, snm_tables_statesb, snm_deeds_tables, snm_deeds_tablesb, snm_deeds_states, snm_deeds_statesb, snm_states_tables, snm_states_tablesb, snm_states_deeds, snm_states_deedsb]
structure MachC (K : PySem.W.Frag) (C : Addr) : Prop where
  cl : Cls K C
  nD : NoAttr K C "deeds"
  nS : NoAttr K C "states"
  nT : NoAttr K C "tables"
def isDp (n : Nat) (v : PyData) : Bool := numD v 0 (some ((n : Int) - 1))
def spIsDeed (CM : Addr) : SpD := fun ds Q _ => ∃ T v, ds = [mach CM T, .py v] ∧ Q (.bl (isDp T.length v))
def spIsState (CM : Addr) : SpD := fun ds Q _ => ∃ T v, ds = [mach CM T, .py v] ∧ Q (.bl (isDp (T.headD []).length v))
def nIsDeedN : List Str := ["machine", "value"]
theorem scIsDeed : FnScope nIsDeedN ["machine", "value"] (defScope sIsDeed) := ⟨rfl, rfl, rfl, by decide +kernel, rfl, by decide +kernel, by decide +kernel⟩
theorem ok_is_deed {f : Addr} {fd : FuncData} (F : Fun S.K "is_deed" "is_deed" sIsDeed f fd) (M : MachC S.K CM) (Gn : Has P w S.K mg base L2.CX0 1 "is_number" ["value", "least", "greatest"] (spD S 3 spIsNumber)) : FnOk P w S.K mg base L2.CX0 2 f fd ["machine", "value"] (spD S 2 (spIsDeed CM)) := by
  have nd : nIsDeedN.Nodup := scIsDeed.nd
  refine okD0 (N := nIsDeedN) (k := 1) F scIsDeed (hb := fun cdv A outer s H E hr => ?_)
  have hu2 : (A.deeper (envOfC "is_deed" (defScope sIsDeed) s.heap.objs.size f cdv)).units + 200 < cLine := by have := hr.un; omega
  have hu65 : (A.deeper (envOfC "is_deed" (defScope sIsDeed) s.heap.objs.size f cdv)).units + 65 < cLine := by omega
  refine ⟨_, _, (pss_one (ps_ret (pe_has Gn (hr.mono (by decide)) (by rfl) (pa_cons (pv 1) (pa_cons pe_int (pa_cons (pe_op op_sub (pe_fld (pv 0) rfl) pe_int) pa_nil)))))),
      (ls_ret (le_call0 (la_cons le_var (la_cons le_int (la_cons (le_op l2_sub (le_fld M.cl M.nD le_var) le_int) la_nil))))), fun ds Qd Ed hl h => ?_⟩
  obtain ⟨T, v, rfl, h⟩ := h
  simp only [dOf, dVar, dC, dOp, dUn, dNil, dCons, pys, dTup, oLst, dCB, oCB, dCall, dCall0, dCallR, fAdd, oOp, fCat, fInt, fIntC, fNeg, fEq, isNonD, fIsN, fIn, fIx, dTest, dAnd, dOr, dNot, dAndV, dOrV, dNotV, dIfE, dChain, dFld, dNext, dSeq, dRet, dRetN, dDrop, dIfS, dBreak, dCont, dSet, dSetO, setAll, dSetT, dPar, itSeq, itRange1, itRange2, itEnum, Tg.put, Tg.ix, dFor, wipeL, dYes, oLc, dAppend, dPutIx, dFreeze, unown, hasOwn, noLD, okL, dSnap, dSnapT, dRaise, startD, dNoPart, dPart, dSl, oSl, fLen, fInt1, fAbs, fInt2, fDivmod, fTuple, fList, fSorted, oSortedSet, fRepr, fAll, fSum, isIntD, isBoolD, isStrD, isTupD, isSeqD, fIsT, dIsLT, dAug, dPutF, dFldI, dMake, startI, putD, nIsDeedN, spIsNumber, fld_deeds, fld_states, List.map, List.getElem?_cons_zero, List.getElem?_cons_succ, List.set_cons_zero, List.set_cons_succ, List.lookup_cons, List.lookup_nil, List.length_cons, List.length_nil, Nat.sub_self, List.replicate, List.append_nil]
  exact h

/-- what is wrong with a row: the first item that is none, or -1 -/
def rowFault (n : Nat) (v : PyData) : Option Int := if seqB v 0 400 = true then Option.map (fun i : Nat => (i : Int)) ((itemsD v).findIdx? fun x => !isDp n x) else some (-1)
def spCheckRow (CM CR : Addr) : SpD := fun ds Q Ed => ∃ T v, ds = [mach CM T, .py v] ∧ (∀ i, rowFault T.length v = some i → Ed ⟨CR, "at", .int i⟩) ∧ (rowFault T.length v = none → Q (.tup (itemsD v)))
def nCheckRowN : List Str := ["machine", "value", "at", "deed"]
theorem scCheckRow : FnScope nCheckRowN ["machine", "value"] (defScope sCheckRow) := ⟨rfl, rfl, rfl, by decide +kernel, rfl, by decide +kernel, by decide +kernel⟩
theorem ok_check_row {f : Addr} {fd : FuncData} (F : Fun S.K "check_row" "check_row" sCheckRow f fd) {tL : Tok} (B : Bare mg) (gR : mg "LONGEST_ROW" = some (.int 400 tL)) (ErR : Err P w S.K mg base "BadRow" "at" CR) (Gs : Has P w S.K mg base L2.CX0 1 "is_sequence" ["value", "fewest", "most"] (spD S 3 spIsSequence)) (Gd : Has P w S.K mg base L2.CX0 2 "is_deed" ["machine", "value"] (spD S 2 (spIsDeed CM))) : FnOk P w S.K mg base (L2.CX P w) 4 f fd ["machine", "value"] (spD S 2 (spCheckRow CM CR)) := by
  have nd : nCheckRowN.Nodup := scCheckRow.nd
  refine okDX (N := nCheckRowN) (k := 3) F scCheckRow (hb := fun cdv A outer s H E hr => ?_)
  have hu2 : (A.deeper (envOfC "check_row" (defScope sCheckRow) s.heap.objs.size f cdv)).units + 200 < cLine := by have := hr.un; omega
  have hu65 : (A.deeper (envOfC "check_row" (defScope sCheckRow) s.heap.objs.size f cdv)).units + 65 < cLine := by omega
  have tk : Takes (cxOf (L2.CX P w) P w S.K mg base nCheckRowN "check_row" (defScope sCheckRow) f cdv A outer s H E) (fun cls d _ H => E cls d H) := takes_of rfl rfl rfl rfl
  refine ⟨_, _, (pss_cons (ps_if (pt_not (pt_val (pe_has Gs (hr.mono (by decide)) (by rfl) (pa_cons (pv 1) (pa_cons pe_int (pa_cons (pe_glob (v := .int 400) rfl gR ⟨_, rfl⟩) pa_nil)))))) (pss_one (ps_raiseErr rfl ErR (hr.mono (by decide)) tk (pe_un un_neg pe_int))) pss_nil)
      (pss_cons (ps_for (passes_of rfl) rfl (pi_enumS (by rfl) B.enumerate (pa_cons (pv 1) pa_nil)) (pg_tup rfl (pgs_cons (pg_name (i := 2) nd rfl (Or.inl rfl)) (pgs_cons (pg_name (i := 3) nd rfl (Or.inl rfl)) pgs_nil)))
      (pss_one (ps_if (pt_not (pt_val (pe_has Gd (hr.mono (by decide)) (by rfl) (pa_cons (pv 0) (pa_cons (pv 3) pa_nil))))) (pss_one (ps_raiseErr rfl ErR (hr.mono (by decide)) tk (pv 2))) pss_nil)))
      (pss_one (ps_ret (pe_callTy (r := rTupOf _) tupOf (by rfl) B.tuple boot_tuple (pa_cons (pv 1) pa_nil)))))),
      (ls_seq (ls_if (lt_not (lt_b (le_call0 (la_cons le_var (la_cons le_int (la_cons le_int la_nil)))))) (ls_raise (le_un l1_int le_int)) ls_next)
      (ls_seq (ls_for (g := .many [2, 3]) (li_enum (la_cons le_var la_nil))
      (ls_if (lt_not (lt_b (le_call0 (la_cons le_var (la_cons le_var la_nil))))) (ls_raise le_var) ls_next))
      (ls_ret (le_cb lc_tuple (la_cons le_var la_nil))))), fun ds Qd Ed hl h => ?_⟩
  obtain ⟨T, v, rfl, h1, h2⟩ := h
  simp [dOf, dVar, dC, dOp, dUn, dNil, dCons, pys, dTup, oLst, dCB, oCB, dCall, dCall0, dCallR, fAdd, oOp, fCat, fInt, fIntC, fNeg, fEq, isNonD, fIsN, fIn, fIx, dTest, dAnd, dOr, dNot, dAndV, dOrV, dNotV, dIfE, dChain, dFld, dNext, dSeq, dRet, dRetN, dDrop, dIfS, dBreak, dCont, dSet, dSetO, setAll, dSetT, dPar, itSeq, itRange1, itRange2, itEnum, Tg.put, Tg.ix, dFor, wipeL, dYes, oLc, dAppend, dPutIx, dFreeze, unown, hasOwn, noLD, okL, dSnap, dSnapT, dRaise, startD, dNoPart, dPart, dSl, oSl, fLen, fInt1, fAbs, fInt2, fDivmod, fTuple, fList, fSorted, oSortedSet, fRepr, fAll, fSum, isIntD, isBoolD, isStrD, isTupD, isSeqD, fIsT, dIsLT, dAug, dPutF, dFldI, dMake, startI, putD, nCheckRowN, spIsSequence]
  cases e : seqB v 0 400
  · simp
    exact h1 (-1) (by simp [rowFault, e])
  · simp
    have h1' : ∀ i : Nat, ((itemsD v).findIdx? fun x => !isDp T.length x) = some i → Ed ⟨CR, "at", .int (i : Nat)⟩ := fun i hi => h1 i (by simp [rowFault, e, hi])
    have h2' : ((itemsD v).findIdx? fun x => !isDp T.length x) = none → Qd (.tup (itemsD v)) := fun hi => h2 (by simp [rowFault, e, hi])
    clear h1 h2
    cases v with
    | list l | tuple l => 
      simp [itemsD] at h1' h2' ⊢
      rw [enumD_R]
      refine loop_ind (fun ds ρ => ∃ (k : Nat) (l' : List PyData) (x y : Option SV), ds = enumR k l' ∧ ρ = [_, _, x, y] ∧ (∀ i : Nat, (l'.findIdx? fun x => !isDp T.length x) = some i → Ed ⟨CR, "at", .int ((k + i : Nat) : Int)⟩) ∧ ((l'.findIdx? fun x => !isDp T.length x) = none → Qd (.tup l))) ?_ ?_ _ _ ⟨0, l, none, none, rfl, rfl, by simpa using h1', by simpa using h2'⟩
      · rintro ρ ⟨k, l', x, y, e1, rfl, a1, a2⟩
        cases l' with
        | nil => 
          simp [dOf, dVar, dC, dOp, dUn, dNil, dCons, pys, dTup, oLst, dCB, oCB, dCall, dCall0, dCallR, fAdd, oOp, fCat, fInt, fIntC, fNeg, fEq, isNonD, fIsN, fIn, fIx, dTest, dAnd, dOr, dNot, dAndV, dOrV, dNotV, dIfE, dChain, dFld, dNext, dSeq, dRet, dRetN, dDrop, dIfS, dBreak, dCont, dSet, dSetO, setAll, dSetT, dPar, itSeq, itRange1, itRange2, itEnum, Tg.put, Tg.ix, dFor, wipeL, dYes, oLc, dAppend, dPutIx, dFreeze, unown, hasOwn, noLD, okL, dSnap, dSnapT, dRaise, startD, dNoPart, dPart, dSl, oSl, fLen, fInt1, fAbs, fInt2, fDivmod, fTuple, fList, fSorted, oSortedSet, fRepr, fAll, fSum, isIntD, isBoolD, isStrD, isTupD, isSeqD, fIsT, dIsLT, dAug, dPutF, dFldI, dMake, startI, putD, List.map, List.getElem?_cons_zero, List.getElem?_cons_succ, List.set_cons_zero, List.set_cons_succ, List.lookup_cons, List.lookup_nil]
          exact a2 rfl
        | cons d l' => cases e1
      · rintro d ds ρ K hK ⟨k, l', x, y, e1, rfl, a1, a2⟩
        cases l' with
        | nil => cases e1
        | cons z l' =>
          cases e1
          simp [dOf, dVar, dC, dOp, dUn, dNil, dCons, pys, dTup, oLst, dCB, oCB, dCall, dCall0, dCallR, fAdd, oOp, fCat, fInt, fIntC, fNeg, fEq, isNonD, fIsN, fIn, fIx, dTest, dAnd, dOr, dNot, dAndV, dOrV, dNotV, dIfE, dChain, dFld, dNext, dSeq, dRet, dRetN, dDrop, dIfS, dBreak, dCont, dSet, dSetO, setAll, dSetT, dPar, itSeq, itRange1, itRange2, itEnum, Tg.put, Tg.ix, dFor, wipeL, dYes, oLc, dAppend, dPutIx, dFreeze, unown, hasOwn, noLD, okL, dSnap, dSnapT, dRaise, startD, dNoPart, dPart, dSl, oSl, fLen, fInt1, fAbs, fInt2, fDivmod, fTuple, fList, fSorted, oSortedSet, fRepr, fAll, fSum, isIntD, isBoolD, isStrD, isTupD, isSeqD, fIsT, dIsLT, dAug, dPutF, dFldI, dMake, startI, putD, List.map, List.getElem?_cons_zero, List.getElem?_cons_succ, List.set_cons_zero, List.set_cons_succ, List.lookup_cons, List.lookup_nil]
          refine ⟨T, z, rfl, ?_⟩
          cases hz : isDp T.length z
          · simp
            exact a1 0 (by simp [List.findIdx?_cons, hz])
          · simp
            refine hK _ ⟨k + 1, l', _, _, rfl, rfl, fun i hi => ?_, fun hi => a2 (by simp [List.findIdx?_cons, hz, hi])⟩
            rw [show k + 1 + i = k + (i + 1) by omega]
            exact a1 (i + 1) (by simp [List.findIdx?_cons, hz, hi])
    | _ => cases e

/-- a table of as many states as the first one has -/
def tabB (v f : PyData) : Bool := seqB v 1 8 && decide ((itemsD v).length = (itemsD f).length) && (itemsD v).all (isDp (itemsD v).length)
def spIsTable : SpD := fun ds Q _ => ∃ v f, ds = [.py v, .py f] ∧ (seqB v 1 8 = true → isSeqD f = true) ∧ Q (.bl (tabB v f))
theorem seqB_items {v : PyData} {lo hi : Int} (h : seqB v lo hi = true) : (v = .list (itemsD v) ∨ v = .tuple (itemsD v)) ∧ lo ≤ ((itemsD v).length : Int) ∧ ((itemsD v).length : Int) ≤ hi := by
  cases v with
  | list l =>
    simp only [seqB, Bool.and_eq_true, decide_eq_true_eq] at h
    exact ⟨.inl rfl, h⟩
  | tuple l =>
    simp only [seqB, Bool.and_eq_true, decide_eq_true_eq] at h
    exact ⟨.inr rfl, h⟩
  | _ => cases h
theorem isSeq_items {v : PyData} (h : isSeqD v = true) : v = .list (itemsD v) ∨ v = .tuple (itemsD v) := by
  cases v with
  | list l => exact .inl rfl
  | tuple l => exact .inr rfl
  | _ => cases h
def nIsTableN : List Str := ["value", "first", "state"]
theorem scIsTable : FnScope nIsTableN ["value", "first"] (defScope sIsTable) := ⟨rfl, rfl, rfl, by decide +kernel, rfl, by decide +kernel, by decide +kernel⟩
theorem ok_is_table {f : Addr} {fd : FuncData} (F : Fun S.K "_is_table" "_is_table" sIsTable f fd) {tS : Tok} (B : Bare mg) (gS : mg "MOST_STATES" = some (.int 8 tS)) (Gn : Has P w S.K mg base L2.CX0 1 "is_number" ["value", "least", "greatest"] (spD S 3 spIsNumber)) (Gs : Has P w S.K mg base L2.CX0 1 "is_sequence" ["value", "fewest", "most"] (spD S 3 spIsSequence)) : FnOk P w S.K mg base L2.CX0 2 f fd ["value", "first"] (spD S 2 spIsTable) := by
  have nd : nIsTableN.Nodup := scIsTable.nd
  refine okD0 (N := nIsTableN) (k := 1) F scIsTable (hb := fun cdv A outer s H E hr => ?_)
  have hu2 : (A.deeper (envOfC "_is_table" (defScope sIsTable) s.heap.objs.size f cdv)).units + 200 < cLine := by have := hr.un; omega
  have hu65 : (A.deeper (envOfC "_is_table" (defScope sIsTable) s.heap.objs.size f cdv)).units + 65 < cLine := by omega
  refine ⟨_, _, (pss_cons (ps_if (PW.pt (pw_or (pt_not (pt_val (pe_has Gs (hr.mono (by decide)) (by rfl) (pa_cons (pv 0) (pa_cons pe_int (pa_cons (pe_glob (v := .int 8) rfl gS ⟨_, rfl⟩) pa_nil)))))) (pw_or1 (pt_cmpR (op_neD hr.units) (pe_callB (r := rLenA _) lenA (by rfl) B.len PySem.boot_len (pa_cons (pv 0) pa_nil)) (pe_callB (r := rLenA _) lenA (by rfl) B.len PySem.boot_len (pa_cons (pv 1) pa_nil)) (nomark _))))) (pss_one (ps_ret pe_bl)) pss_nil)
      (pss_one (ps_ret (pe_callB (r := rAll _) (cr_all rfl) (by rfl) B.all (by decide +kernel) (pa_cons (pe_lc (own := [("state", 2)]) (g := gName 2) (tt := tYes) rfl nd (pi_seq (pv 0)) (blkOk_by (N := nIsTableN) (sc := defScope sIsTable) (by decide +kernel)) (fun _ _ _ _ _ => (pg_name (i := 2) nd rfl (Or.inl rfl))) (fun _ _ _ _ _ => pts_nil) (fun _ _ _ _ _ => (pe_has Gn (hr.mono (by decide)) (by rfl) (pa_cons (pv 2) (pa_cons pe_int (pa_cons (pe_op op_sub (pe_callB (r := rLenA _) lenA (by rfl) B.len PySem.boot_len (pa_cons (pv 0) pa_nil)) pe_int) pa_nil)))))) pa_nil))))),
      (ls_seq (ls_if (lt_or (lt_not (lt_b (le_call0 (la_cons le_var (la_cons le_int (la_cons le_int la_nil)))))) (lt_test (le_op l2_ne (le_cb lc_len (la_cons le_var la_nil)) (le_cb lc_len (la_cons le_var la_nil))))) (ls_ret le_bl) ls_next)
      (ls_ret (le_cb lc_all (la_cons (LO.le (lo_lc (g := .one 2) (li_seq le_var) lt_yes (le_call0 (la_cons le_var (la_cons le_int (la_cons (le_op l2_sub (le_cb lc_len (la_cons le_var la_nil)) le_int) la_nil)))))) la_nil)))), fun ds Qd Ed hl h => ?_⟩
  obtain ⟨v, f, rfl, hf, h⟩ := h
  simp [dOf, dVar, dC, dOp, dUn, dNil, dCons, pys, dTup, oLst, dCB, oCB, dCall, dCall0, dCallR, fAdd, oOp, fCat, fInt, fIntC, fNeg, fEq, isNonD, fIsN, fIn, fIx, dTest, dAnd, dOr, dNot, dAndV, dOrV, dNotV, dIfE, dChain, dFld, dNext, dSeq, dRet, dRetN, dDrop, dIfS, dBreak, dCont, dSet, dSetO, setAll, dSetT, dPar, itSeq, itRange1, itRange2, itEnum, Tg.put, Tg.ix, dFor, wipeL, dYes, oLc, dAppend, dPutIx, dFreeze, unown, hasOwn, noLD, okL, dSnap, dSnapT, dRaise, startD, dNoPart, dPart, dSl, oSl, fLen, fInt1, fAbs, fInt2, fDivmod, fTuple, fList, fSorted, oSortedSet, fRepr, fAll, fSum, isIntD, isBoolD, isStrD, isTupD, isSeqD, fIsT, dIsLT, dAug, dPutF, dFldI, dMake, startI, putD, nIsTableN, spIsSequence]
  cases e : seqB v 1 8
  · simp [tabB, e] at h ⊢
    exact h
  · obtain ⟨ev, _, l8⟩ := seqB_items e
    have ef := isSeq_items (hf e)
    have main : (if (itemsD v).length = (itemsD f).length then Qd (.bl ((itemsD v).all (isDp (itemsD v).length))) else Qd (.bl false)) := by
      split
      · rename_i n
        simpa [tabB, e, n] using h
      · rename_i n
        simpa [tabB, e, n] using h
    generalize itemsD v = l at ev main l8
    generalize itemsD f = r at ef main
    rcases ev with rfl | rfl <;> rcases ef with rfl | rfl
    all_goals
      simp
      by_cases n : l.length = r.length
      · simp [n] at main ⊢
        refine turns_map (fun d => .bool (isDp l.length d)) (by omega) (fun d hd => ⟨_, rfl, fun K hK => ?_⟩) ⟨l.map (isDp l.length), by simp [List.map_map], by simpa [n] using main⟩
        simp [dOf, dVar, dC, dOp, dUn, dNil, dCons, pys, dTup, oLst, dCB, oCB, dCall, dCall0, dCallR, fAdd, oOp, fCat, fInt, fIntC, fNeg, fEq, isNonD, fIsN, fIn, fIx, dTest, dAnd, dOr, dNot, dAndV, dOrV, dNotV, dIfE, dChain, dFld, dNext, dSeq, dRet, dRetN, dDrop, dIfS, dBreak, dCont, dSet, dSetO, setAll, dSetT, dPar, itSeq, itRange1, itRange2, itEnum, Tg.put, Tg.ix, dFor, wipeL, dYes, oLc, dAppend, dPutIx, dFreeze, unown, hasOwn, noLD, okL, dSnap, dSnapT, dRaise, startD, dNoPart, dPart, dSl, oSl, fLen, fInt1, fAbs, fInt2, fDivmod, fTuple, fList, fSorted, oSortedSet, fRepr, fAll, fSum, isIntD, isBoolD, isStrD, isTupD, isSeqD, fIsT, dIsLT, dAug, dPutF, dFldI, dMake, startI, putD, spIsNumber, List.map, List.getElem?_cons_zero, List.getElem?_cons_succ, List.set_cons_zero, List.set_cons_succ, List.lookup_cons, List.lookup_nil]
        exact hK
      · have n2 : ¬ ((l.length : Nat) : Int) = (r.length : Nat) := by omega
        simp [n, n2] at main ⊢
        exact main

/-- what is wrong with tables: the first one that is none, or -1 -/
def mFault (v : PyData) : Option Int := if seqB v 1 4 = true then Option.map (fun i : Nat => (i : Int)) ((itemsD v).findIdx? fun t => !tabB t ((itemsD v).headD .none)) else some (-1)
def intsOf (v : PyData) : List Int := (itemsD v).map fun x => match x with
  | .int i => i
  | _ => 0
def tablesOf (v : PyData) : List (List Int) := (itemsD v).map intsOf
def machFs (T : List (List Int)) : List (Str × DV) := [("tables", .tup (T.map rowT)), ("deeds", .int (T.length : Nat)), ("states", .int ((T.headD []).length : Nat))]
def spMachine (CB : Addr) : SpI := fun ds Q Ed => ∃ v, ds = [.py v] ∧ (∀ i, mFault v = some i → Ed ⟨CB, "at", .int i⟩) ∧ (mFault v = none → Q (machFs (tablesOf v)))
theorem isDp_int {n : Nat} {d : PyData} (h : isDp n d = true) : ∃ i : Int, d = .int i ∧ 0 ≤ i ∧ i < n := by
  unfold isDp numD at h
  cases d with
  | int i =>
    simp at h
    exact ⟨i, rfl, h.1, by omega⟩
  | _ => cases h
theorem tabB_row {t f : PyData} (h : tabB t f = true) : .tuple (itemsD t) = rowT (intsOf t) := by
  unfold tabB at h
  rw [Bool.and_eq_true, List.all_eq_true] at h
  unfold rowT intsOf
  rw [List.map_map]
  congr 1
  have : ∀ l : List PyData, (∀ x ∈ l, isDp (itemsD t).length x = true) → l = l.map (PyData.int ∘ fun x => match x with | .int i => i | _ => 0) := by
    intro l
    induction l with
    | nil => intro _; rfl
    | cons x l ih =>
      intro hl
      obtain ⟨i, rfl, _⟩ := isDp_int (hl x List.mem_cons_self)
      rw [List.map_cons, ← ih fun y hy => hl y (List.mem_cons_of_mem _ hy)]
      rfl
  exact this _ h.2
theorem intsOf_len (v : PyData) : (intsOf v).length = (itemsD v).length := by
  unfold intsOf
  rw [List.length_map]
def nMachineInitN : List Str := ["self", "tables", "at", "table"]
theorem scMachineInit : FnScope nMachineInitN ["self", "tables"] (defScope (inClass cMachine 0)) := ⟨rfl, rfl, rfl, by decide +kernel, rfl, by decide +kernel, by decide +kernel⟩
theorem ok_Machine_init {f : Addr} {fd : FuncData} (F : Fun S.K "__init__" "Machine.__init__" (inClass cMachine 0) f fd) {tD : Tok} (B : Bare mg) (M : MachC S.K CM) (gD : mg "MOST_DEEDS" = some (.int 4 tD)) (ErB : Err P w S.K mg base "BadMachine" "at" CB) (Gs : Has P w S.K mg base L2.CX0 1 "is_sequence" ["value", "fewest", "most"] (spD S 3 spIsSequence)) (Gt : Has P w S.K mg base L2.CX0 2 "_is_table" ["value", "first"] (spD S 2 spIsTable)) : FnOk P w S.K mg base (L2.CX P w) 3 f fd ["self", "tables"] (spDI S 1 CM (spMachine CB)) := by
  have nd : nMachineInitN.Nodup := scMachineInit.nd
  refine okDI (N := nMachineInitN) (k := 2) F scMachineInit (hN := by simp [nMachineInitN]) (hps := by simp) (hb := fun cdv A outer s H E hr => ?_)
  have hu2 : (A.deeper (envOfC "Machine.__init__" (defScope (inClass cMachine 0)) s.heap.objs.size f cdv)).units + 200 < cLine := by have := hr.un; omega
  have hu65 : (A.deeper (envOfC "Machine.__init__" (defScope (inClass cMachine 0)) s.heap.objs.size f cdv)).units + 65 < cLine := by omega
  have tk : Takes (cxOf (L2.CX P w) P w S.K mg base nMachineInitN "Machine.__init__" (defScope (inClass cMachine 0)) f cdv A outer s H E) (fun cls d _ H => E cls d H) := takes_of rfl rfl rfl rfl
  refine ⟨_, _, (pss_cons (ps_if (pt_not (pt_val (pe_has Gs (hr.mono (by decide)) (by rfl) (pa_cons (pv 1) (pa_cons pe_int (pa_cons (pe_glob (v := .int 4) rfl gD ⟨_, rfl⟩) pa_nil)))))) (pss_one (ps_raiseErr rfl ErB (hr.mono (by decide)) tk (pe_un un_neg pe_int))) pss_nil)
      (pss_cons (ps_for (passes_of rfl) rfl (pi_enumS (by rfl) B.enumerate (pa_cons (pv 1) pa_nil)) (pg_tup rfl (pgs_cons (pg_name (i := 2) nd rfl (Or.inl rfl)) (pgs_cons (pg_name (i := 3) nd rfl (Or.inl rfl)) pgs_nil)))
      (pss_one (ps_if (pt_not (pt_val (pe_has Gt (hr.mono (by decide)) (by rfl) (pa_cons (pv 3) (pa_cons (pe_ix (r := rIx _) ix_seq (pv 1) pe_int (fun _ _ => rfl)) pa_nil))))) (pss_one (ps_raiseErr rfl ErB (hr.mono (by decide)) tk (pv 2))) pss_nil)))
      (pss_cons (ps_fld (pv 0) (pe_callTy (r := rTupOf _) tupOf (by rfl) B.tuple boot_tuple (pa_cons (pe_lc (own := [("table", 3)]) (g := gName 3) (tt := tYes) rfl nd (pi_seq (pv 1)) (blkOk_by (N := nMachineInitN) (sc := defScope (inClass cMachine 0)) (by decide +kernel)) (fun _ _ _ _ _ => (pg_name (i := 3) nd rfl (Or.inl rfl))) (fun _ _ _ _ _ => pts_nil) (fun _ _ _ _ _ => (pe_callTy (r := rTupOf _) tupOf (by rfl) B.tuple boot_tuple (pa_cons (pv 3) pa_nil)))) pa_nil)) rfl)
      (pss_cons (ps_fld (pv 0) (pe_callB (r := rLenA _) lenA (by rfl) B.len PySem.boot_len (pa_cons (pe_fld (pv 0) rfl) pa_nil)) rfl)
      (pss_one (ps_fld (pv 0) (pe_callB (r := rLenA _) lenA (by rfl) B.len PySem.boot_len (pa_cons (pe_ix (r := rIx _) ix_seq (pe_fld (pv 0) rfl) pe_int (fun _ _ => rfl)) pa_nil)) rfl)))))),
      (ls_seq (ls_if (lt_not (lt_b (le_call0 (la_cons le_var (la_cons le_int (la_cons le_int la_nil)))))) (ls_raise (le_un l1_int le_int)) ls_next)
      (ls_seq (ls_for (g := .many [2, 3]) (li_enum (la_cons le_var la_nil))
      (ls_if (lt_not (lt_b (le_call0 (la_cons le_var (la_cons (le_op l2_ix le_var le_int) la_nil))))) (ls_raise le_var) ls_next))
      (ls_seq (ls_putF M.cl M.nT (le_cb lc_tuple (la_cons (LO.le (lo_lc (g := .one 3) (li_seq le_var) lt_yes (le_cb lc_tuple (la_cons le_var la_nil)))) la_nil)))
      (ls_seq (ls_putF M.cl M.nD (le_cb lc_len (la_cons (le_fldI M.cl M.nT) la_nil)))
      (ls_putF M.cl M.nS (le_cb lc_len (la_cons (le_op l2_ix (le_fldI M.cl M.nT) le_int) la_nil))))))), fun ds Qd Ed x dx hl h => ?_⟩
  obtain ⟨v, rfl, h1, h2⟩ := h
  simp [dOf, dVar, dC, dOp, dUn, dNil, dCons, pys, dTup, oLst, dCB, oCB, dCall, dCall0, dCallR, fAdd, oOp, fCat, fInt, fIntC, fNeg, fEq, isNonD, fIsN, fIn, fIx, dTest, dAnd, dOr, dNot, dAndV, dOrV, dNotV, dIfE, dChain, dFld, dNext, dSeq, dRet, dRetN, dDrop, dIfS, dBreak, dCont, dSet, dSetO, setAll, dSetT, dPar, itSeq, itRange1, itRange2, itEnum, Tg.put, Tg.ix, dFor, wipeL, dYes, oLc, dAppend, dPutIx, dFreeze, unown, hasOwn, noLD, okL, dSnap, dSnapT, dRaise, startD, dNoPart, dPart, dSl, oSl, fLen, fInt1, fAbs, fInt2, fDivmod, fTuple, fList, fSorted, oSortedSet, fRepr, fAll, fSum, isIntD, isBoolD, isStrD, isTupD, isSeqD, fIsT, dIsLT, dAug, dPutF, dFldI, dMake, startI, putD, nMachineInitN, spIsSequence]
  cases e : seqB v 1 4
  · simp
    exact h1 (-1) (by simp [mFault, e])
  · simp
    obtain ⟨ev, l1, l4⟩ := seqB_items e
    have h1' : ∀ i : Nat, ((itemsD v).findIdx? fun t => !tabB t ((itemsD v).headD .none)) = some i → Ed ⟨CB, "at", .int (i : Nat)⟩ := fun i hi => h1 i (by unfold mFault; rw [if_pos e, hi]; rfl)
    have h2' : ((itemsD v).findIdx? fun t => !tabB t ((itemsD v).headD .none)) = none → Qd (machFs (tablesOf v)) := fun hi => h2 (by unfold mFault; rw [if_pos e, hi]; rfl)
    have rows : ((itemsD v).findIdx? fun t => !tabB t ((itemsD v).headD .none)) = none → (itemsD v).map (fun t => PyData.tuple (itemsD t)) = (tablesOf v).map rowT ∧ ∀ t ∈ itemsD v, isSeqD t = true := fun hi => by
      rw [List.findIdx?_eq_none_iff] at hi
      have hi : ∀ t ∈ itemsD v, tabB t ((itemsD v).headD .none) = true := fun t ht => by simpa using hi t ht
      refine ⟨?_, fun t ht => ?_⟩
      · unfold tablesOf
        rw [List.map_map]
        exact List.map_congr_left fun t ht => tabB_row (hi t ht)
      · have z := hi t ht
        unfold tabB at z
        rw [Bool.and_eq_true, Bool.and_eq_true] at z
        rcases (seqB_items z.1.1).1 with q | q <;> rw [q] <;> rfl
    have tl : (tablesOf v).length = (itemsD v).length := by unfold tablesOf; rw [List.length_map]
    have hd : (tablesOf v).headD [] = intsOf ((itemsD v).headD .none) := by
      unfold tablesOf
      cases itemsD v <;> rfl
    clear h1 h2
    generalize tablesOf v = TT at h2' rows tl hd
    generalize hl0 : itemsD v = l at ev l1 l4 h1' h2' rows tl hd
    cases l with
    | nil => simp at l1
    | cons t0 l0 =>
      rcases ev with rfl | rfl
      all_goals
        simp
        rw [enumD_R]
        refine loop_ind (fun ds ρ => ∃ (k : Nat) (l' : List PyData) (y2 y3 : Option SV), ds = enumR k l' ∧ ρ = [_, _, y2, y3] ∧ noIni [y2, y3] = true ∧ (k = 0 → l'.head? = some t0 ∨ l' = []) ∧ (0 < k → isSeqD t0 = true) ∧
          (∀ i : Nat, (l'.findIdx? fun t => !tabB t t0) = some i → Ed ⟨CB, "at", .int ((k + i : Nat) : Int)⟩) ∧ ((l'.findIdx? fun t => !tabB t t0) = none → ((t0 :: l0).findIdx? fun t => !tabB t t0) = none)) ?_ ?_ _ _
          ⟨0, t0 :: l0, none, none, rfl, rfl, rfl, fun _ => .inl rfl, fun z => absurd z (by decide), by simpa using h1', fun h => h⟩
        · rintro ρ ⟨k, l', y2, y3, e1, rfl, an, a0, a1, a2, a3⟩
          cases l' with
          | cons d l' => cases e1
          | nil =>
            obtain ⟨r1, r2⟩ := rows (a3 rfl)
            have h3 := h2' (a3 rfl)
            have s0 := r2 t0 List.mem_cons_self
            simp [dOf, dVar, dC, dOp, dUn, dNil, dCons, pys, dTup, oLst, dCB, oCB, dCall, dCall0, dCallR, fAdd, oOp, fCat, fInt, fIntC, fNeg, fEq, isNonD, fIsN, fIn, fIx, dTest, dAnd, dOr, dNot, dAndV, dOrV, dNotV, dIfE, dChain, dFld, dNext, dSeq, dRet, dRetN, dDrop, dIfS, dBreak, dCont, dSet, dSetO, setAll, dSetT, dPar, itSeq, itRange1, itRange2, itEnum, Tg.put, Tg.ix, dFor, wipeL, dYes, oLc, dAppend, dPutIx, dFreeze, unown, hasOwn, noLD, okL, dSnap, dSnapT, dRaise, startD, dNoPart, dPart, dSl, oSl, fLen, fInt1, fAbs, fInt2, fDivmod, fTuple, fList, fSorted, oSortedSet, fRepr, fAll, fSum, isIntD, isBoolD, isStrD, isTupD, isSeqD, fIsT, dIsLT, dAug, dPutF, dFldI, dMake, startI, putD, List.map, List.getElem?_cons_zero, List.getElem?_cons_succ, List.set_cons_zero, List.set_cons_succ, List.lookup_cons, List.lookup_nil, snm_tables_deeds, snm_tables_deedsb, snm_tables_states, snm_tables_statesb, snm_deeds_tables, snm_deeds_tablesb, snm_deeds_states, snm_deeds_statesb, snm_states_tables, snm_states_tablesb, snm_states_deeds, snm_states_deedsb, noIni_dv, noIni_none, an]
            refine turns_map (fun t => .tuple (itemsD t)) (by simp at l4 ⊢; omega) (fun t ht => ⟨_, rfl, fun K hK => ?_⟩) ?_
            · have st := isSeq_items (r2 t ht)
              simp [dOf, dVar, dC, dOp, dUn, dNil, dCons, pys, dTup, oLst, dCB, oCB, dCall, dCall0, dCallR, fAdd, oOp, fCat, fInt, fIntC, fNeg, fEq, isNonD, fIsN, fIn, fIx, dTest, dAnd, dOr, dNot, dAndV, dOrV, dNotV, dIfE, dChain, dFld, dNext, dSeq, dRet, dRetN, dDrop, dIfS, dBreak, dCont, dSet, dSetO, setAll, dSetT, dPar, itSeq, itRange1, itRange2, itEnum, Tg.put, Tg.ix, dFor, wipeL, dYes, oLc, dAppend, dPutIx, dFreeze, unown, hasOwn, noLD, okL, dSnap, dSnapT, dRaise, startD, dNoPart, dPart, dSl, oSl, fLen, fInt1, fAbs, fInt2, fDivmod, fTuple, fList, fSorted, oSortedSet, fRepr, fAll, fSum, isIntD, isBoolD, isStrD, isTupD, isSeqD, fIsT, dIsLT, dAug, dPutF, dFldI, dMake, startI, putD, List.map, List.getElem?_cons_zero, List.getElem?_cons_succ, List.set_cons_zero, List.set_cons_succ, List.lookup_cons, List.lookup_nil]
              generalize itemsD t = r at st hK
              rcases st with rfl | rfl <;> exact hK
            · have st := isSeq_items s0
              rw [r1]
              cases TT with
              | nil => simp at tl
              | cons r0 TT =>
                refine ⟨rowT r0, atI_nat (j := 0) rfl, ?_⟩
                simpa [machFs, rowT] using h3
        · rintro d ds ρ K hK ⟨k, l', y2, y3, e1, rfl, an, a0, a1, a2, a3⟩
          cases l' with
          | nil => cases e1
          | cons z l' =>
            cases e1
            have at0 : atI (t0 :: l0) 0 = some t0 := atI_nat (j := 0) rfl
            simp [dOf, dVar, dC, dOp, dUn, dNil, dCons, pys, dTup, oLst, dCB, oCB, dCall, dCall0, dCallR, fAdd, oOp, fCat, fInt, fIntC, fNeg, fEq, isNonD, fIsN, fIn, fIx, dTest, dAnd, dOr, dNot, dAndV, dOrV, dNotV, dIfE, dChain, dFld, dNext, dSeq, dRet, dRetN, dDrop, dIfS, dBreak, dCont, dSet, dSetO, setAll, dSetT, dPar, itSeq, itRange1, itRange2, itEnum, Tg.put, Tg.ix, dFor, wipeL, dYes, oLc, dAppend, dPutIx, dFreeze, unown, hasOwn, noLD, okL, dSnap, dSnapT, dRaise, startD, dNoPart, dPart, dSl, oSl, fLen, fInt1, fAbs, fInt2, fDivmod, fTuple, fList, fSorted, oSortedSet, fRepr, fAll, fSum, isIntD, isBoolD, isStrD, isTupD, isSeqD, fIsT, dIsLT, dAug, dPutF, dFldI, dMake, startI, putD, List.map, List.getElem?_cons_zero, List.getElem?_cons_succ, List.set_cons_zero, List.set_cons_succ, List.lookup_cons, List.lookup_nil]
            refine ⟨t0, at0, z, t0, rfl, ?_, ?_⟩
            · intro hz
              rcases Nat.eq_zero_or_pos k with k0 | k0
              · rcases a0 k0 with q | q
                · cases q
                  rcases (seqB_items hz).1 with q | q <;> rw [q] <;> rfl
                · cases q
              · exact a1 k0
            · cases hz : tabB z t0
              · simp
                exact a2 0 (by simp [List.findIdx?_cons, hz])
              · simp
                refine hK _ ⟨k + 1, l', _, _, rfl, rfl, rfl, fun q => by omega, fun _ => ?_, fun i hi => ?_, fun hi => a3 (by simp [List.findIdx?_cons, hz, hi])⟩
                · rcases Nat.eq_zero_or_pos k with k0 | k0
                  · rcases a0 k0 with q | q
                    · cases q
                      unfold tabB at hz
                      rw [Bool.and_eq_true, Bool.and_eq_true] at hz
                      rcases (seqB_items hz.1.1).1 with q | q <;> rw [q] <;> rfl
                    · cases q
                  · exact a1 k0
                · rw [show k + 1 + i = k + (i + 1) by omega]
                  exact a2 (i + 1) (by simp [List.findIdx?_cons, hz, hi])

end
end Pg

set_option Elab.async false
set_option linter.all false
set_option maxRecDepth 100000
set_option maxHeartbeats 4000000
/-! what a module's top has left: the facts and their makers -/
namespace Lw
open PySem PySem.Spec PyProof.Rows L2 Lx Pg
/-- the def x of the text st stands in the module -/
structure DefK (K : PySem.W.Frag) (mg : Str → Option Value) (x : Str) (st : Stmt) : Prop where
  ex : ∃ f fd, mg x = some (.ref f) ∧ Fun K x x st f fd
theorem defK {K : PySem.W.Frag} {h : Heap} {mg : Str → Option Value} (X : K.In h) (G : h.Ns mainGlobals mg) {x : Str} {st : Stmt} {f : Addr} {od an : Option Addr} {sl : Array (Option Value)} {oc kV doc pm cd ct : Value}
    (a : PySem.W.nsIn K mainGlobals x = some (some (.ref f))) (l : K.lookup f = some ⟨oc, od, .func (PySem.W.fnOf x x (defArgs st) (defBody st) (defScope st) .none kV doc pm an cd ct), sl⟩) (c : PySem.W.codeIn K cd x = true) (k : PySem.W.keepIn K (.ref f) = true) : DefK K mg x st :=
  ⟨f, _, PySem.W.mg_of X G a, fun_mk l c k⟩
/-- .. that makes lambdas or defs: its code object and its table -/
structure DefT (K : PySem.W.Frag) (h : Heap) (mg : Str → Option Value) (x : Str) (st : Stmt) (c T : Addr) : Prop where
  ex : ∃ f fd, mg x = some (.ref f) ∧ Fun K x x st f fd ∧ fd.code = .ref c
  hd : PySem.W.CodeHd h c T
  no : K.lookup T = none
  at_ : h.get? T = some { cls := .none, data := .fields #[] }
theorem defT {K : PySem.W.Frag} {h : Heap} {mg : Str → Option Value} (X : K.In h) (G : h.Ns mainGlobals mg) {x : Str} {st : Stmt} {f c0 T : Addr} {od an : Option Addr} {sl : Array (Option Value)} {oc kV doc pm ct : Value}
    (a : PySem.W.nsIn K mainGlobals x = some (some (.ref f))) (l : K.lookup f = some ⟨oc, od, .func (PySem.W.fnOf x x (defArgs st) (defBody st) (defScope st) .none kV doc pm an (.ref c0) ct), sl⟩) (c : PySem.W.codeIn K (.ref c0) x = true) (k : PySem.W.keepIn K (.ref f) = true)
    (e : PySem.W.codeHdIn K c0 T = true) (n : K.lookup T = none) (t : h.get? T = some { cls := .none, data := .fields #[] }) : DefT K h mg x st c0 T :=
  ⟨⟨f, _, PySem.W.mg_of X G a, fun_mk l c k, rfl⟩, PySem.W.codeHd_of_K X e, n, t⟩
/-- .. with None as its last one's default -/
structure DefD (K : PySem.W.Frag) (mg : Str → Option Value) (x : Str) (st : Stmt) : Prop where
  ex : ∃ f fd, mg x = some (.ref f) ∧ FunD K x x (defArgs st) (defBody st) (defScope st) [.non] [] f fd
theorem defD {K : PySem.W.Frag} {h : Heap} {mg : Str → Option Value} (X : K.In h) (G : h.Ns mainGlobals mg) {x : Str} {st : Stmt} {f T : Addr} {od an dT : Option Addr} {sl sT : Array (Option Value)} {oc oT kV doc pm cd ct : Value} {nT : Nat}
    (a : PySem.W.nsIn K mainGlobals x = some (some (.ref f))) (l : K.lookup f = some ⟨oc, od, .func (PySem.W.fnOf x x (defArgs st) (defBody st) (defScope st) (.ref T) kV doc pm an cd ct), sl⟩) (c : PySem.W.codeIn K cd x = true) (k : PySem.W.keepIn K (.ref f) = true)
    (lT : K.lookup T = some ⟨oT, dT, .seq #[.none] nT, sT⟩) : DefD K mg x st :=
  ⟨f, _, PySem.W.mg_of X G a, ⟨oc, od, .ref T, kV, doc, pm, an, cd, ct, sl, rfl, l, c, .inr ⟨by simp, T, _, [.none], nT, rfl, lT, rfl, .cons rfl .nil⟩, .inl rfl⟩, k⟩
theorem DefK.has {P : Program} {w : World} {K : PySem.W.Frag} {mg : Str → Option Value} {base : Heap} {CX : CXT} {k : Nat} {x : Str} {st : Stmt} {ps : List Str} {sp : Sp} (D : DefK K mg x st) (hb : ∀ f fd, Fun K x x st f fd → L2.Binds K fd ps []) (ok : ∀ f fd, Fun K x x st f fd → FnOk P w K mg base CX k f fd ps sp) : Has P w K mg base CX k x ps sp := by
  obtain ⟨f, fd, hm, F⟩ := D.ex
  exact ⟨f, fd, hm, F.kp, hb f fd F, ok f fd F⟩
/-- an error class of one field, over PageError -/
structure ErrK1 (K : PySem.W.Frag) (mg : Str → Option Value) (x qual : Str) (st : Stmt) (C : Addr) : Prop where
  T : OexC K C
  xf : XfC K C
  ec : ExcC K C
  no : PySem.W.findIn K (.ref C) "at" = some none
  gC : mg x = some (.ref C)
  ini : ∃ fI fd, PySem.W.findIn K (.ref C) "__init__" = some (some (.ref fI)) ∧ PySem.W.typeIn K (.ref fI) = some (.type "function") ∧ Fun K "__init__" qual st fI fd
/-- .. over KeyError -/
structure ErrK2 (K : PySem.W.Frag) (mg : Str → Option Value) (x fld qual : Str) (st : Stmt) (C : Addr) : Prop where
  T : KexC K C
  xf : XfC K C
  ec : ExcC K C
  no : PySem.W.findIn K (.ref C) fld = some none
  gC : mg x = some (.ref C)
  ini : ∃ fI fd, PySem.W.findIn K (.ref C) "__init__" = some (some (.ref fI)) ∧ PySem.W.typeIn K (.ref fI) = some (.type "function") ∧ Fun K "__init__" qual st fI fd
theorem err_mk {K : PySem.W.Frag} {h : Heap} {mg : Str → Option Value} (X : K.In h) (G : h.Ns mainGlobals mg) {x qual : Str} {st : Stmt} {C f : Addr} {od an : Option Addr} {sl : Array (Option Value)} {oc kV doc pm cd ct : Value}
    {nm q : Str} {N : Addr} {bs bm : List Value} {sn : List Str} {sub : List Value} {ab : Bool} {col : Option Bool} {dd : Option Addr} {m0 m1 m2 m3 m5 : Option Value}
    (a : PySem.W.nsIn K mainGlobals x = some (some (.ref C))) (xl : K.lookup C = some (excClassObj nm q C N bs bm true sn sub ab col dd m0 m1 m2 m3 m5 "ValueError.__new__")) (rv : PySem.HandSPX.refsVE bm = true) (sa : PySem.W.findIn K (.ref C) "__setattr__" = some (some (.builtin "object.__setattr__")))
    (ga : PySem.W.findIn K (.ref C) "__getattribute__" = some (some (.builtin "BaseException.__getattribute__"))) (gg : PySem.W.findIn K (.ref C) "__getattr__" = some none) (no : PySem.W.findIn K (.ref C) "at" = some none)
    (kC : PySem.W.keepIn K (.ref C) = true) (eC : PySem.W.subIn K (.ref C) (.type "BaseException") = some true) (tC : PySem.W.typeIn K (.ref C) = some (.type "type")) (hC : PySem.W.hasDictIn K C = true)
    (ha : PySem.W.findIn K (.ref C) "__class__" = some (some (.builtin "object.__class__"))) (hn : PySem.W.specialIn K (.builtin "object.__class__") "__get__" = some (some (.builtin "getset_descriptor.__get__"))) (ht : PySem.W.takesIn K (.builtin "object.__class__") = some true) (hm : PySem.W.mroIn K C (.type "object") = some true)
    (i : PySem.W.findIn K (.ref C) "__init__" = some (some (.ref f))) (t : PySem.W.typeIn K (.ref f) = some (.type "function"))
    (l : K.lookup f = some ⟨oc, od, .func (PySem.W.fnOf "__init__" qual (defArgs st) (defBody st) (defScope st) .none kV doc pm an cd ct), sl⟩) (c : PySem.W.codeIn K cd qual = true) (k : PySem.W.keepIn K (.ref f) = true) : ErrK1 K mg x qual st C :=
  ⟨⟨⟨nm, q, N, bs, bm, sn, sub, ab, col, dd, m0, m1, m2, m3, m5, xl, rv⟩, sa, eC, tC, kC⟩, ⟨ga, gg, eC, hC⟩, ⟨ga, gg, eC, hC, ha, hn, ht, hm⟩, no, PySem.W.mg_of X G a, f, _, i, t, fun_mk l c k⟩
theorem err2_mk {K : PySem.W.Frag} {h : Heap} {mg : Str → Option Value} (X : K.In h) (G : h.Ns mainGlobals mg) {x fld qual : Str} {st : Stmt} {C f : Addr} {od an : Option Addr} {sl : Array (Option Value)} {oc kV doc pm cd ct : Value}
    (a : PySem.W.nsIn K mainGlobals x = some (some (.ref C))) (cls : ∃ nm q N bs sn sub ab col dd k0 k1 k2 k3 k5, K.lookup C = some (keObj nm q C N bs sn sub ab col dd k0 k1 k2 k3 k5)) (sa : PySem.W.findIn K (.ref C) "__setattr__" = some (some (.builtin "object.__setattr__")))
    (ga : PySem.W.findIn K (.ref C) "__getattribute__" = some (some (.builtin "BaseException.__getattribute__"))) (gg : PySem.W.findIn K (.ref C) "__getattr__" = some none) (no : PySem.W.findIn K (.ref C) fld = some none)
    (kC : PySem.W.keepIn K (.ref C) = true) (eC : PySem.W.subIn K (.ref C) (.type "BaseException") = some true) (tC : PySem.W.typeIn K (.ref C) = some (.type "type")) (hC : PySem.W.hasDictIn K C = true)
    (ha : PySem.W.findIn K (.ref C) "__class__" = some (some (.builtin "object.__class__"))) (hn : PySem.W.specialIn K (.builtin "object.__class__") "__get__" = some (some (.builtin "getset_descriptor.__get__"))) (ht : PySem.W.takesIn K (.builtin "object.__class__") = some true) (hm : PySem.W.mroIn K C (.type "object") = some true)
    (i : PySem.W.findIn K (.ref C) "__init__" = some (some (.ref f))) (t : PySem.W.typeIn K (.ref f) = some (.type "function"))
    (l : K.lookup f = some ⟨oc, od, .func (PySem.W.fnOf "__init__" qual (defArgs st) (defBody st) (defScope st) .none kV doc pm an cd ct), sl⟩) (c : PySem.W.codeIn K cd qual = true) (k : PySem.W.keepIn K (.ref f) = true) : ErrK2 K mg x fld qual st C :=
  ⟨⟨cls, sa, eC, tC, kC⟩, ⟨ga, gg, eC, hC⟩, ⟨ga, gg, eC, hC, ha, hn, ht, hm⟩, no, PySem.W.mg_of X G a, f, _, i, t, fun_mk l c k⟩
theorem mgInt {K : PySem.W.Frag} {h : Heap} {mg : Str → Option Value} (X : K.In h) (G : h.Ns mainGlobals mg) {x : Str} {n : Int} {t : Tok} (a : PySem.W.nsIn K mainGlobals x = some (some (.int n t))) : ∃ tk, mg x = some (.int n tk) := ⟨t, PySem.W.mg_of X G a⟩
theorem kit_ref {K : PySem.W.Frag} {C D : Addr} (hd : PySem.W.hasDictIn K C = true) (ht : PySem.W.typeIn K (.ref C) = some (.type "type")) (h : PySem.W.subIn K (.ref D) (.ref C) = some true) : PySem.W.kitOne K (.ref D) (.ref C) = some true := by
  obtain ⟨cd, hc, _⟩ := PySem.W.any_some hd
  have e : ((PySem.W.clsIn K C).isSome && PySem.W.typeIn K (.ref C) == some (.type "type")) = true := by rw [hc, ht] <;> rfl
  show (if ((Value.ref D) == (Value.ref C)) = true then some true else (if ((PySem.W.clsIn K C).isSome && PySem.W.typeIn K (.ref C) == some (.type "type")) = true then PySem.W.subIn K (.ref D) (.ref C) else none)) = some true
  rw [if_pos e, h]
  split <;> rfl
theorem kit_tup {K : PySem.W.Frag} {C : Addr} (hd : PySem.W.hasDictIn K C = true) (ht : PySem.W.typeIn K (.ref C) = some (.type "type")) (h : PySem.W.subIn K (.type "tuple") (.ref C) = some false) : PySem.W.kitOne K (.type "tuple") (.ref C) = some false := by
  obtain ⟨cd, hc, _⟩ := PySem.W.any_some hd
  have e : ((PySem.W.clsIn K C).isSome && PySem.W.typeIn K (.ref C) == some (.type "type")) = true := by rw [hc, ht] <;> rfl
  show (if ((Value.type "tuple") == (Value.ref C)) = true then some true else (if ((PySem.W.clsIn K C).isSome && PySem.W.typeIn K (.ref C) == some (.type "type")) = true then PySem.W.subIn K (.type "tuple") (.ref C) else none)) = some false
  rw [if_pos e, h, if_neg (by show ¬ (false = true); decide)]
theorem kit_self {K : PySem.W.Frag} {C : Addr} : PySem.W.kitOne K (.ref C) (.ref C) = some true := by
  show (if ((Value.ref C) == (Value.ref C)) = true then some true else _) = some true
  rw [if_pos (by simp)]
theorem mach_mk {K : PySem.W.Frag} {C : Addr} (a : PySem.W.plainGet K C Str.empty = true) (b : PySem.W.hasDictIn K C = true) (c : PySem.W.plainOver K C = true) (d : PySem.W.findIn K (.ref C) "__setattr__" = some (some (.builtin "object.__setattr__")))
    (e : PySem.W.findIn K (.ref C) "deeds" = some none) (f : PySem.W.findIn K (.ref C) "states" = some none) (g : PySem.W.findIn K (.ref C) "tables" = some none) : MachC K C := ⟨⟨a, b, c, d⟩, e, f, g⟩
theorem bare_mk {K : PySem.W.Frag} {h : Heap} {mg : Str → Option Value} (X : K.In h) (G : h.Ns mainGlobals mg) (z : ∀ x ∈ (["isinstance", "int", "bool", "list", "tuple", "len", "range", "enumerate", "reversed", "divmod", "min", "max", "all", "repr", "abs", "sorted", "set", "any", "sum", "str", "zip"] : List Str), PySem.W.nsIn K mainGlobals x = some none) : Bare mg := by
  have m : ∀ x ∈ (["isinstance", "int", "bool", "list", "tuple", "len", "range", "enumerate", "reversed", "divmod", "min", "max", "all", "repr", "abs", "sorted", "set", "any", "sum", "str", "zip"] : List Str), mg x = none := fun x hx => PySem.W.mg_none_of X G (z x hx)
  exact ⟨m _ (by simp), m _ (by simp), m _ (by simp), m _ (by simp), m _ (by simp), m _ (by simp), m _ (by simp), m _ (by simp), m _ (by simp), m _ (by simp), m _ (by simp), m _ (by simp), m _ (by simp), m _ (by simp), m _ (by simp), m _ (by simp), m _ (by simp), m _ (by simp), m _ (by simp), m _ (by simp), m _ (by simp)⟩
end Lw

set_option Elab.async false
set_option linter.all false
set_option maxRecDepth 100000
set_option maxHeartbeats 4000000
/-! mathematics of rows that repeat and rows by number -/
namespace Pg
open PySem PySem.Spec PyProof.Rows L2 Lx Dl
/-- the last l of ds repeat with the step s -/
def EndRep (ds : List Int) (s l : Nat) : Prop := ∀ i, ds.length - l + s ≤ i → i < ds.length → ds[i]? = ds[i - s]?
/-- r is the longest of them -/
structure Longest (ds : List Int) (s r : Nat) : Prop where
  le : r ≤ ds.length
  rep : EndRep ds s r
  low : min s ds.length ≤ r
  most : ∀ l, l ≤ ds.length → EndRep ds s l → l ≤ r
theorem EndRep.short {ds : List Int} {s l : Nat} (h : l ≤ s) (hl : l ≤ ds.length) : EndRep ds s l := fun i h1 h2 => by omega
theorem EndRep.less {ds : List Int} {s l m : Nat} (h : EndRep ds s l) (hm : m ≤ l) : EndRep ds s m := fun i h1 h2 => h i (by omega) h2
theorem EndRep.more {ds : List Int} {s l : Nat} (h : EndRep ds s l) (hs : s ≤ l) (hl : l < ds.length) (e : ds[ds.length - 1 - l + s]? = ds[ds.length - 1 - l]?) : EndRep ds s (l + 1) := fun i h1 h2 => by
  by_cases z : i = ds.length - 1 - l + s
  · subst z
    rw [Nat.add_sub_cancel]
    exact e
  · exact h i (by omega) h2
theorem atI_neg {α : Type} {xs : List α} {k : Nat} {v : α} (hk : k < xs.length) (h : xs[xs.length - 1 - k]? = some v) : atI xs (-(k : Int) - 1) = some v := by
  have e : ixN xs.length (-(k : Int) - 1) = some (xs.length - 1 - k) := by
    unfold ixN
    rw [if_neg (by omega), if_pos (by omega)]
    congr 1
    omega
  unfold atI
  rw [e]
  exact h

/-- all of ds repeats with the step s -/
def perB (ds : List Int) (s : Nat) : Bool := decide (ds.drop s = ds.take (ds.length - s))
def stepsOf (ds : List Int) : List Int := ((List.range (ds.length - 1)).filter (fun i => perB ds (i + 1))).map (fun (i : Nat) => ((i : Int) + 1))
def digits (n k x : Nat) : List Int := ((List.range k).map (fun i => ((x / n ^ i % n : Nat) : Int))).reverse
def placeOf (n : Nat) (ds : List Int) : Int := ds.foldl (fun p d => p * n + d) 0
def missB (ds : List Int) (s : Nat) (i : Nat) : Bool := !decide (V.int (ds.getD (s + i) 0) = V.int (ds.getD i 0))
def repB (ds : List Int) (s : Nat) : Bool := decide (((List.range (ds.length - s)).filter (missB ds s)).map (fun (i : Nat) => ((s : Int) + i)) = [])
theorem repB_iff {ds : List Int} {s : Nat} : repB ds s = true ↔ ∀ i, i + s < ds.length → ds.getD (s + i) 0 = ds.getD i 0 := by
  unfold repB
  rw [decide_eq_true_eq, List.map_eq_nil_iff, List.filter_eq_nil_iff]
  constructor
  · intro h i hi
    have z := h i (List.mem_range.mpr (by omega))
    simpa [missB] using z
  · intro h i hi
    have z := h i (by have := List.mem_range.mp hi; omega)
    unfold missB
    rw [z]
    simp
def divB (a b : Nat) (i : Nat) : Bool := decide ((i + 1) ∣ a) && decide ((i + 1) ∣ b)
theorem filter_last {n : Nat} {p : Nat → Bool} {g : Nat} (hg : g < n) (hp : p g = true) (hm : ∀ i, g < i → i < n → p i = false) : ((List.range n).filter p).getLast? = some g := by
  induction n with
  | zero => omega
  | succ n ih =>
    rw [List.range_succ, List.filter_append]
    by_cases e : g = n
    · subst e
      simp [hp]
    · have z := hm n (by omega) (by omega)
      have y := ih (by omega) fun i h1 h2 => hm i h1 (by omega)
      simpa [z] using y
theorem div_last {a b : Nat} (ha : 1 ≤ a) : ((List.range a).filter (divB a b)).getLast? = some (Nat.gcd a b - 1) := by
  have g1 : 1 ≤ Nat.gcd a b := Nat.gcd_pos_of_pos_left b ha
  have g2 : Nat.gcd a b ≤ a := Nat.le_of_dvd ha (Nat.gcd_dvd_left a b)
  apply filter_last
  · omega
  · unfold divB
    rw [Nat.sub_add_cancel g1, Bool.and_eq_true, decide_eq_true_eq, decide_eq_true_eq]
    exact ⟨Nat.gcd_dvd_left a b, Nat.gcd_dvd_right a b⟩
  · intro i h1 h2
    rw [← Bool.not_eq_true]
    intro h
    unfold divB at h
    rw [Bool.and_eq_true, decide_eq_true_eq, decide_eq_true_eq] at h
    have := Nat.le_of_dvd (by omega) (Nat.dvd_gcd h.1 h.2)
    omega
theorem atI_last' {α : Type} {xs : List α} {v : α} (h : xs.getLast? = some v) : atI xs (-1) = some v := by
  obtain ⟨ys, rfl⟩ := List.getLast?_eq_some_iff.mp h
  exact atI_last ys v
def Per (x : Nat → Int) (n p : Nat) : Prop := ∀ i, i + p < n → x (i + p) = x i
theorem Per.mod {x : Nat → Int} {n p : Nat} (h : Per x n p) (hp : 0 < p) : ∀ j, j < n → x j = x (j % p) := by
  intro j
  induction j using Nat.strongRecOn with
  | _ j ih =>
    intro hj
    by_cases z : j < p
    · rw [Nat.mod_eq_of_lt z]
    · have e : j - p + p = j := by omega
      have a := h (j - p) (by omega)
      rw [e] at a
      have c : j % p = (j - p) % p := Nat.mod_eq_sub_mod (by omega)
      rw [a, c]
      exact ih (j - p) (by omega) (by omega)
theorem per_common (x : Nat → Int) : ∀ (N p q n : Nat), p + q ≤ N → 0 < p → 0 < q → Per x n p → Per x n q → p + q ≤ n + Nat.gcd p q → Per x n (Nat.gcd p q) := by
  intro N
  induction N with
  | zero => intro p q n h1 h2; omega
  | succ N ih =>
    -- the greater step first
    have main : ∀ p q n : Nat, p + q ≤ N + 1 → q < p → 0 < q → Per x n p → Per x n q → p + q ≤ n + Nat.gcd p q → Per x n (Nat.gcd p q) := by
      intro p q n hN hlt hq hp hqq hlen
      have eg : Nat.gcd (p - q) q = Nat.gcd p q := Nat.gcd_sub_self_left (by omega)
      have g0 : 0 < Nat.gcd p q := Nat.gcd_pos_of_pos_right p hq
      have gq : Nat.gcd p q ∣ q := Nat.gcd_dvd_right p q
      have gp : Nat.gcd p q ∣ p := Nat.gcd_dvd_left p q
      have far : q + Nat.gcd p q ≤ p := by
        have z := Nat.dvd_sub gp gq
        have := Nat.le_of_dvd (by omega) z
        omega
      have sub : Per x (n - q) (Nat.gcd (p - q) q) := by
        apply ih (p - q) q (n - q) (by omega) (by omega) hq
        · intro i hi
          have a := hp i (by omega)
          have b := hqq (i + (p - q)) (by omega)
          rw [show i + (p - q) + q = i + p by omega] at b
          rw [← b, a]
        · intro i hi
          exact hqq i (by omega)
        · rw [eg]
          omega
      rw [eg] at sub
      have small : ∀ j, j < n → x j = x (j % Nat.gcd p q) := by
        intro j hj
        rw [hqq.mod hq j hj, sub.mod g0 (j % q) (by have := Nat.mod_lt j hq; omega), Nat.mod_mod_of_dvd _ gq]
      intro i hi
      rw [small _ hi, small i (by omega), Nat.add_mod_right]
    intro p q n hN hp0 hq0 hp hq hlen
    rcases Nat.lt_trichotomy p q with z | z | z
    · have := main q p n (by omega) z hp0 hq hp (by rw [Nat.gcd_comm]; omega)
      rwa [Nat.gcd_comm] at this
    · subst z
      rwa [Nat.gcd_self]
    · exact main p q n hN z hq0 hp hq hlen

theorem repB_per {ds : List Int} {s : Nat} : repB ds s = true ↔ Per (fun i => ds.getD i 0) ds.length s := by
  rw [repB_iff]
  constructor
  · intro h i hi
    have := h i hi
    rwa [Nat.add_comm] at this
  · intro h i hi
    have := h i hi
    rwa [Nat.add_comm] at this
theorem getD_eq_iff {ds : List Int} {i j : Nat} (hi : i < ds.length) (hj : j < ds.length) : ds[i]? = ds[j]? ↔ ds.getD i 0 = ds.getD j 0 := by
  rw [List.getD_eq_getElem?_getD, List.getD_eq_getElem?_getD, List.getElem?_eq_getElem hi, List.getElem?_eq_getElem hj]
  simp
theorem repB_perB {ds : List Int} {s : Nat} : repB ds s = perB ds s := by
  rw [Bool.eq_iff_iff, repB_iff]
  unfold perB
  rw [decide_eq_true_eq]
  constructor
  · intro h
    apply List.ext_getElem?
    intro i
    rw [List.getElem?_drop, List.getElem?_take]
    by_cases z : i + s < ds.length
    · rw [if_pos (by omega), getD_eq_iff (by omega) (by omega), h i z]
    · rw [if_neg (by omega), List.getElem?_eq_none (by omega)]
  · intro h i hi
    have z := congrArg (fun l => l[i]?) h
    simp only [List.getElem?_drop, List.getElem?_take] at z
    rw [if_pos (by omega)] at z
    exact (getD_eq_iff (by omega) (by omega)).mp z
theorem drop_getD {ds : List Int} {k i : Nat} : (ds.drop k).getD i 0 = ds.getD (k + i) 0 := by
  rw [List.getD_eq_getElem?_getD, List.getD_eq_getElem?_getD, List.getElem?_drop]
theorem repB_end {ds : List Int} {s l : Nat} (hl : l ≤ ds.length) : repB (ds.drop (ds.length - l)) s = true ↔ EndRep ds s l := by
  rw [repB_iff]
  have e : (ds.drop (ds.length - l)).length = l := by rw [List.length_drop]; omega
  rw [e]
  constructor
  · intro h i h1 h2
    have z := h (i - (ds.length - l) - s) (by omega)
    rw [drop_getD, drop_getD, show ds.length - l + (s + (i - (ds.length - l) - s)) = i by omega, show ds.length - l + (i - (ds.length - l) - s) = i - s by omega] at z
    exact (getD_eq_iff h2 (by omega)).mpr z
  · intro h i hi
    rw [drop_getD, drop_getD]
    have z := h (ds.length - l + (s + i)) (by omega) (by omega)
    rw [show ds.length - l + (s + i) - s = ds.length - l + i by omega] at z
    exact (getD_eq_iff (by omega) (by omega)).mp z
/-- the last of all numbers whose end repeats is the longest -/
theorem due_last {ds : List Int} {s r : Nat} (h : Longest ds s r) : ((List.range (ds.length + 1)).filter (fun m => repB (ds.drop (ds.length - m)) s)).getLast? = some r := by
  have le := h.le
  apply filter_last (by omega)
  · exact (repB_end le).mpr h.rep
  · intro i h1 h2
    rw [← Bool.not_eq_true]
    intro z
    have := h.most i (by omega) ((repB_end (by omega)).mp z)
    omega
theorem mem_steps {ds : List Int} {z : Int} : z ∈ stepsOf ds ↔ ∃ s : Nat, z = s ∧ 1 ≤ s ∧ s < ds.length ∧ perB ds s = true := by
  unfold stepsOf
  rw [List.mem_map]
  constructor
  · rintro ⟨i, hi, rfl⟩
    rw [List.mem_filter, List.mem_range] at hi
    exact ⟨i + 1, by omega, by omega, by omega, hi.2⟩
  · rintro ⟨s, rfl, h1, h2, h3⟩
    refine ⟨s - 1, ?_, by omega⟩
    rw [List.mem_filter, List.mem_range]
    exact ⟨by omega, by rw [Nat.sub_add_cancel h1]; exact h3⟩
theorem steps_common {ds : List Int} {a b : Nat} (ha : ((a : Nat) : Int) ∈ stepsOf ds) (hb : ((b : Nat) : Int) ∈ stepsOf ds) (h : a + b ≤ ds.length + Nat.gcd a b) : ((Nat.gcd a b : Nat) : Int) ∈ stepsOf ds := by
  obtain ⟨a', ea, a1, a2, a3⟩ := mem_steps.mp ha
  obtain ⟨b', eb, b1, b2, b3⟩ := mem_steps.mp hb
  have ea : a = a' := by omega
  have eb : b = b' := by omega
  subst ea eb
  have g1 : 1 ≤ Nat.gcd a b := Nat.gcd_pos_of_pos_left b a1
  have g2 : Nat.gcd a b ≤ a := Nat.le_of_dvd a1 (Nat.gcd_dvd_left a b)
  refine mem_steps.mpr ⟨Nat.gcd a b, rfl, g1, by omega, ?_⟩
  rw [← repB_perB] at a3 b3 ⊢
  exact repB_per.mpr (per_common _ _ a b ds.length (Nat.le_refl _) a1 b1 (repB_per.mp a3) (repB_per.mp b3) h)
theorem most_of {p : Nat → Prop} (h0 : p 0) (n : Nat) : ∃ r, r ≤ n ∧ p r ∧ ∀ l, l ≤ n → p l → l ≤ r := by
  induction n with
  | zero => exact ⟨0, Nat.le_refl _, h0, fun l h _ => h⟩
  | succ n ih =>
    rcases Classical.em (p (n + 1)) with h | h
    · exact ⟨n + 1, Nat.le_refl _, h, fun l hl _ => hl⟩
    · obtain ⟨r, h1, h2, h3⟩ := ih
      refine ⟨r, by omega, h2, fun l hl hp => ?_⟩
      by_cases e : l = n + 1
      · subst e
        exact absurd hp h
      · exact h3 l (by omega) hp
theorem longest_ex (ds : List Int) (s : Nat) : ∃ r, Longest ds s r := by
  obtain ⟨r, h1, h2, h3⟩ := most_of (p := EndRep ds s) (EndRep.short (Nat.zero_le _) (Nat.zero_le _)) ds.length
  exact ⟨r, h1, h2, h3 _ (by omega) (EndRep.short (by omega) (by omega)), h3⟩
theorem longest_one {ds : List Int} {s r r' : Nat} (h : Longest ds s r) (h' : Longest ds s r') : r = r' := Nat.le_antisymm (h'.most r h.le h.rep) (h.most r' h'.le h'.rep)
theorem steps_len {ds : List Int} : (stepsOf ds).length ≤ ds.length := by
  unfold stepsOf
  rw [List.length_map]
  have := List.length_filter_le (fun i => perB ds (i + 1)) (List.range (ds.length - 1))
  rw [List.length_range] at this
  omega
theorem digits_len (n k x : Nat) : (digits n k x).length = k := by
  unfold digits
  rw [List.length_reverse, List.length_map, List.length_range]
theorem digits_more {n k j d : Nat} (hd : d < n) : digits n (k + 1) (j * n + d) = digits n k j ++ [(d : Int)] := by
  have n0 : 0 < n := by omega
  have e0 : (j * n + d) % n = d := by rw [Nat.mul_comm, Nat.mul_add_mod, Nat.mod_eq_of_lt hd]
  have e1 : (j * n + d) / n = j := by rw [Nat.mul_comm, Nat.mul_add_div n0, Nat.div_eq_of_lt hd, Nat.add_zero]
  unfold digits
  rw [List.range_succ_eq_map, List.map_cons, List.reverse_cons, List.map_map]
  congr 1
  · congr 1
    apply List.map_congr_left
    intro i _
    show (((j * n + d) / n ^ (i + 1) % n : Nat) : Int) = ((j / n ^ i % n : Nat) : Int)
    rw [Nat.pow_succ, Nat.mul_comm (n ^ i) n, ← Nat.div_div_eq_div_mul, e1]
  · rw [Nat.pow_zero, Nat.div_one, e0]
theorem digits_ok {n k x : Nat} (hn : 1 ≤ n) : ∀ d ∈ digits n k x, 0 ≤ d ∧ d < n := by
  intro d hd
  unfold digits at hd
  rw [List.mem_reverse] at hd
  obtain ⟨i, _, rfl⟩ := List.mem_map.mp hd
  have := Nat.mod_lt (x / n ^ i) (show n > 0 by omega)
  omega
theorem place_digits {n : Nat} (hn : 1 ≤ n) : ∀ (k x : Nat), x < n ^ k → placeOf n (digits n k x) = (x : Int)
  | 0, x, h => by
    have : x = 0 := by simpa using h
    subst this
    rfl
  | k + 1, x, h => by
    have hd := Nat.mod_lt x (show n > 0 by omega)
    have hx : x = x / n * n + x % n := by
      have := Nat.div_add_mod x n
      rw [Nat.mul_comm] at this
      exact this.symm
    have hq : x / n < n ^ k := by
      rw [Nat.div_lt_iff_lt_mul (by omega), ← Nat.pow_succ]
      exact h
    have ih := place_digits hn k (x / n) hq
    rw [hx, digits_more hd]
    unfold placeOf at ih ⊢
    rw [List.foldl_append, ih]
    show ((x / n : Nat) : Int) * (n : Int) + ((x % n : Nat) : Int) = _
    rw [← hx]
    omega
/-- the first m rows of k deeds -/
def rowsOf (n k m : Nat) : List (List Int) := (List.range m).map (digits n k)
theorem rowsOf_len (n k m : Nat) : (rowsOf n k m).length = m := by
  unfold rowsOf
  rw [List.length_map, List.length_range]
theorem rowsOf_get {n k m i : Nat} (h : i < m) : (rowsOf n k m)[i]? = some (digits n k i) := by
  unfold rowsOf
  rw [List.getElem?_map, List.getElem?_range h]
  rfl
theorem rowsOf_more (n k j : Nat) : rowsOf n (k + 1) ((j + 1) * n) = rowsOf n (k + 1) (j * n) ++ (List.range n).map (fun d => digits n k j ++ [((d : Nat) : Int)]) := by
  unfold rowsOf
  rw [Nat.add_mul, Nat.one_mul, List.range_add, List.map_append, List.map_map]
  congr 1
  apply List.map_congr_left
  intro d hd
  exact digits_more (List.mem_range.mp hd)
theorem rowsOf_zero (n : Nat) : rowsOf n 0 1 = [[]] := rfl

theorem pow_most {n k : Nat} (h4 : n ≤ 4) (hk : k ≤ 4) : n ^ k ≤ 256 := by
  have a : n ^ k ≤ 4 ^ k := Nat.pow_le_pow_left h4 k
  have b : 4 ^ k ≤ 4 ^ 4 := Nat.pow_le_pow_right (by decide) hk
  omega
end Pg

set_option Elab.async false
set_option linter.all false
set_option maxRecDepth 100000
set_option maxHeartbeats 4000000
namespace Pg
open PySem PySem.Spec PyProof.Rows L2 Lx Dl
section
variable {P : Program} {w : World} {mg : Str → Option Value} {base : Heap} {S : Sx}
variable {CM CR CB CF : Addr}
/-- a good row's deeds -/
theorem rowFault_items {n : Nat} {v : PyData} (h : rowFault n v = none) : itemsD v = (intsOf v).map .int ∧ (intsOf v).length ≤ 400 ∧ ∀ d ∈ intsOf v, 0 ≤ d ∧ d < n := by
  unfold rowFault at h
  split at h
  · rename_i e
    rw [Option.map_eq_none_iff, List.findIdx?_eq_none_iff] at h
    obtain ⟨_, _, l4⟩ := seqB_items e
    have all : ∀ x ∈ itemsD v, isDp n x = true := fun x hx => by simpa using h x hx
    refine ⟨?_, by rw [intsOf_len]; omega, fun d hd => ?_⟩
    · have : ∀ l : List PyData, (∀ x ∈ l, isDp n x = true) → l = (l.map fun x => match x with | .int i => i | _ => 0).map PyData.int := by
        intro l
        induction l with
        | nil => intro _; rfl
        | cons x l ih =>
          intro hl
          obtain ⟨i, rfl, _⟩ := isDp_int (hl x List.mem_cons_self)
          rw [List.map_cons, List.map_cons, ← ih fun y hy => hl y (List.mem_cons_of_mem _ hy)]
      exact this _ all
    · unfold intsOf at hd
      obtain ⟨x, hx, rfl⟩ := List.mem_map.mp hd
      obtain ⟨i, rfl, h1, h2⟩ := isDp_int (all x hx)
      exact ⟨h1, h2⟩
  · cases h
def spPower : SpD := fun ds Q _ => ∃ b n : Nat, ds = [.int (b : Nat), .int (n : Nat)] ∧ b ≤ 1000 ∧ n ≤ 1000 ∧ Q (.int ((b ^ n : Nat) : Int))
def nPowerN : List Str := ["base", "many", "product", "_"]
theorem scPower : FnScope nPowerN ["base", "many"] (defScope sPower) := ⟨rfl, rfl, rfl, by decide +kernel, rfl, by decide +kernel, by decide +kernel⟩
theorem ok_power {f : Addr} {fd : FuncData} (F : Fun S.K "power" "power" sPower f fd) (B : Bare mg) : FnOk P w S.K mg base L2.CX0 1 f fd ["base", "many"] (spD S 2 spPower) := by
  have nd : nPowerN.Nodup := scPower.nd
  refine okD0 (N := nPowerN) (k := 0) F scPower (hb := fun cdv A outer s H E hr => ?_)
  have hu2 : (A.deeper (envOfC "power" (defScope sPower) s.heap.objs.size f cdv)).units + 200 < cLine := by have := hr.un; omega
  have hu65 : (A.deeper (envOfC "power" (defScope sPower) s.heap.objs.size f cdv)).units + 65 < cLine := by omega
  refine ⟨_, _, (pss_cons (ps_set (i := 2) nd rfl (Or.inl rfl) pe_int)
      (pss_cons (ps_for PassesOwn.never rfl (pi_range1 (by rfl) B.range (pa_cons (pv 1) pa_nil)) (pg_name (i := 3) nd rfl (Or.inl rfl))
      (pss_one (ps_set (i := 2) nd rfl (Or.inl rfl) (pe_op op_mul (pv 2) (pv 0)))))
      (pss_one (ps_ret (pv 2))))),
      (ls_seq (ls_set (i := 2) le_int)
      (ls_seq (ls_for (g := .one 3) (li_range1 (la_cons le_var la_nil))
      (ls_set (i := 2) (le_op l2_intC le_var le_var)))
      (ls_ret le_var))), fun ds Qd Ed hl h => ?_⟩
  obtain ⟨b, n, rfl, hb, hn, h⟩ := h
  simp [dOf, dVar, dC, dOp, dUn, dNil, dCons, pys, dTup, oLst, dCB, oCB, dCall, dCall0, dCallR, fAdd, oOp, fCat, fInt, fIntC, fNeg, fEq, isNonD, fIsN, fIn, fIx, dTest, dAnd, dOr, dNot, dAndV, dOrV, dNotV, dIfE, dChain, dFld, dNext, dSeq, dRet, dRetN, dDrop, dIfS, dBreak, dCont, dSet, dSetO, setAll, dSetT, dPar, itSeq, itRange1, itRange2, itEnum, Tg.put, Tg.ix, dFor, wipeL, dYes, oLc, dAppend, dPutIx, dFreeze, unown, hasOwn, noLD, okL, dSnap, dSnapT, dRaise, startD, dNoPart, dPart, dSl, oSl, fLen, fInt1, fAbs, fInt2, fDivmod, fTuple, fList, fSorted, oSortedSet, fRepr, fAll, fSum, isIntD, isBoolD, isStrD, isTupD, isSeqD, fIsT, dIsLT, dAug, dPutF, dFldI, dMake, startI, putD, dTupRev, nPowerN, List.map, List.cons_append, List.nil_append, List.append_eq, List.getElem?_cons_zero, List.getElem?_cons_succ, List.set_cons_zero, List.set_cons_succ, List.lookup_cons, List.lookup_nil, rgOk]
  refine ⟨by omega, ?_⟩
  rw [rangeD_R]
  refine loop_ind (fun ds ρ => ∃ (lo : Int) (k : Nat) (y : Option SV), ds = rangeR lo k ∧ k ≤ n ∧ ρ = [some (.dv (.int (b : Nat))), some (.dv (.int (n : Nat))), some (.dv (.int ((b ^ (n - k) : Nat) : Int))), y]) ?_ ?_ _ _ ⟨0, n, none, rfl, Nat.le_refl _, by simp⟩
  · rintro ρ ⟨lo, k, y, e, hk, rfl⟩
    cases k with
    | succ k => cases e
    | zero => simpa [dOf, dVar, dC, dOp, dUn, dNil, dCons, pys, dTup, oLst, dCB, oCB, dCall, dCall0, dCallR, fAdd, oOp, fCat, fInt, fIntC, fNeg, fEq, isNonD, fIsN, fIn, fIx, dTest, dAnd, dOr, dNot, dAndV, dOrV, dNotV, dIfE, dChain, dFld, dNext, dSeq, dRet, dRetN, dDrop, dIfS, dBreak, dCont, dSet, dSetO, setAll, dSetT, dPar, itSeq, itRange1, itRange2, itEnum, Tg.put, Tg.ix, dFor, wipeL, dYes, oLc, dAppend, dPutIx, dFreeze, unown, hasOwn, noLD, okL, dSnap, dSnapT, dRaise, startD, dNoPart, dPart, dSl, oSl, fLen, fInt1, fAbs, fInt2, fDivmod, fTuple, fList, fSorted, oSortedSet, fRepr, fAll, fSum, isIntD, isBoolD, isStrD, isTupD, isSeqD, fIsT, dIsLT, dAug, dPutF, dFldI, dMake, startI, putD, dTupRev, List.map, List.cons_append, List.nil_append, List.append_eq, List.getElem?_cons_zero, List.getElem?_cons_succ, List.set_cons_zero, List.set_cons_succ, List.lookup_cons, List.lookup_nil] using h
  · rintro d ds ρ K hK ⟨lo, k, y, e, hk, rfl⟩
    cases k with
    | zero => cases e
    | succ k =>
      cases e
      simp [dOf, dVar, dC, dOp, dUn, dNil, dCons, pys, dTup, oLst, dCB, oCB, dCall, dCall0, dCallR, fAdd, oOp, fCat, fInt, fIntC, fNeg, fEq, isNonD, fIsN, fIn, fIx, dTest, dAnd, dOr, dNot, dAndV, dOrV, dNotV, dIfE, dChain, dFld, dNext, dSeq, dRet, dRetN, dDrop, dIfS, dBreak, dCont, dSet, dSetO, setAll, dSetT, dPar, itSeq, itRange1, itRange2, itEnum, Tg.put, Tg.ix, dFor, wipeL, dYes, oLc, dAppend, dPutIx, dFreeze, unown, hasOwn, noLD, okL, dSnap, dSnapT, dRaise, startD, dNoPart, dPart, dSl, oSl, fLen, fInt1, fAbs, fInt2, fDivmod, fTuple, fList, fSorted, oSortedSet, fRepr, fAll, fSum, isIntD, isBoolD, isStrD, isTupD, isSeqD, fIsT, dIsLT, dAug, dPutF, dFldI, dMake, startI, putD, dTupRev, List.map, List.cons_append, List.nil_append, List.append_eq, List.getElem?_cons_zero, List.getElem?_cons_succ, List.set_cons_zero, List.set_cons_succ, List.lookup_cons, List.lookup_nil, CMul]
      refine ⟨.inr (by omega), hK _ ⟨lo + 1, k, some (.dv (.py (.int lo))), rfl, by omega, ?_⟩⟩
      have e : n - k = n - (k + 1) + 1 := by omega
      rw [e, Nat.pow_succ]
      simp

def spRowCount (CM : Addr) : SpD := fun ds Q _ => ∃ T, ∃ n : Nat, ds = [mach CM T, .int (n : Nat)] ∧ T.length ≤ 4 ∧ n ≤ 400 ∧ Q (.int ((T.length ^ n : Nat) : Int))
def nRowCountN : List Str := ["machine", "many"]
theorem scRowCount : FnScope nRowCountN ["machine", "many"] (defScope sRowCount) := ⟨rfl, rfl, rfl, by decide +kernel, rfl, by decide +kernel, by decide +kernel⟩
theorem ok_row_count {f : Addr} {fd : FuncData} (F : Fun S.K "row_count" "row_count" sRowCount f fd) (M : MachC S.K CM) (Gp : Has P w S.K mg base L2.CX0 1 "power" ["base", "many"] (spD S 2 spPower)) : FnOk P w S.K mg base L2.CX0 2 f fd ["machine", "many"] (spD S 2 (spRowCount CM)) := by
  have nd : nRowCountN.Nodup := scRowCount.nd
  refine okD0 (N := nRowCountN) (k := 1) F scRowCount (hb := fun cdv A outer s H E hr => ?_)
  have hu2 : (A.deeper (envOfC "row_count" (defScope sRowCount) s.heap.objs.size f cdv)).units + 200 < cLine := by have := hr.un; omega
  have hu65 : (A.deeper (envOfC "row_count" (defScope sRowCount) s.heap.objs.size f cdv)).units + 65 < cLine := by omega
  refine ⟨_, _, (pss_one (ps_ret (pe_has Gp (hr.mono (by decide)) (by rfl) (pa_cons (pe_fld (pv 0) rfl) (pa_cons (pv 1) pa_nil))))),
      (ls_ret (le_call0 (la_cons (le_fld M.cl M.nD le_var) (la_cons le_var la_nil)))), fun ds Qd Ed hl h => ?_⟩
  obtain ⟨T, n, rfl, h4, hn, h⟩ := h
  simp [dOf, dVar, dC, dOp, dUn, dNil, dCons, pys, dTup, oLst, dCB, oCB, dCall, dCall0, dCallR, fAdd, oOp, fCat, fInt, fIntC, fNeg, fEq, isNonD, fIsN, fIn, fIx, dTest, dAnd, dOr, dNot, dAndV, dOrV, dNotV, dIfE, dChain, dFld, dNext, dSeq, dRet, dRetN, dDrop, dIfS, dBreak, dCont, dSet, dSetO, setAll, dSetT, dPar, itSeq, itRange1, itRange2, itEnum, Tg.put, Tg.ix, dFor, wipeL, dYes, oLc, dAppend, dPutIx, dFreeze, unown, hasOwn, noLD, okL, dSnap, dSnapT, dRaise, startD, dNoPart, dPart, dSl, oSl, fLen, fInt1, fAbs, fInt2, fDivmod, fTuple, fList, fSorted, oSortedSet, fRepr, fAll, fSum, isIntD, isBoolD, isStrD, isTupD, isSeqD, fIsT, dIsLT, dAug, dPutF, dFldI, dMake, startI, putD, dTupRev, nRowCountN, List.map, List.cons_append, List.nil_append, List.append_eq, List.getElem?_cons_zero, List.getElem?_cons_succ, List.set_cons_zero, List.set_cons_succ, List.lookup_cons, List.lookup_nil, fld_deeds]
  exact ⟨T.length, n, rfl, by omega, by omega, h⟩

theorem noL_ints : ∀ l : List Int, noLs (l.map PyData.int) = true
  | [] => rfl
  | x :: l => by
    show (true && noLs (l.map PyData.int)) = true
    rw [noL_ints l]
    rfl
theorem shp_tup (l : List Int) : shp (.tuple (l.map .int)) = true := shaped_tuple_ints l
theorem shp_lst (l : List Int) : shp (.list (l.map .int)) = true := shaped_list_ints l
def spRepeats : SpD := fun ds Q _ => ∃ (l : List Int) (s : Nat), ds = [.tup (l.map .int), .int (s : Nat)] ∧ s ≤ l.length ∧ Q (.bl (perB l s))
theorem cutD_sub (l : List PyData) (s : Nat) (h : s ≤ l.length) : cutD l none (some ((l.length : Int) - (s : Int))) = l.take (l.length - s) := by
  rw [show (l.length : Int) - (s : Int) = ((l.length - s : Nat) : Int) by omega, cutD_to]
def nRepeatsN : List Str := ["deeds", "step"]
theorem scRepeats : FnScope nRepeatsN ["deeds", "step"] (defScope sRepeats) := ⟨rfl, rfl, rfl, by decide +kernel, rfl, by decide +kernel, by decide +kernel⟩
theorem ok_repeats {f : Addr} {fd : FuncData} (F : Fun S.K "repeats" "repeats" sRepeats f fd) (B : Bare mg) : FnOk P w S.K mg base L2.CX0 1 f fd ["deeds", "step"] (spD S 2 spRepeats) := by
  have nd : nRepeatsN.Nodup := scRepeats.nd
  refine okD0 (N := nRepeatsN) (k := 0) F scRepeats (hb := fun cdv A outer s H E hr => ?_)
  have hu2 : (A.deeper (envOfC "repeats" (defScope sRepeats) s.heap.objs.size f cdv)).units + 200 < cLine := by have := hr.un; omega
  have hu65 : (A.deeper (envOfC "repeats" (defScope sRepeats) s.heap.objs.size f cdv)).units + 65 < cLine := by omega
  refine ⟨_, _, (pss_one (ps_ret (pe_cmpR (op_eqD hr.units) (pe_slice (r := rSlAny _) sl_any (pv 0) (po_some (pv 1)) po_none) (pe_slice (r := rSlAny _) sl_any (pv 0) po_none (po_some (pe_op op_sub (pe_callB (r := rLenA _) lenA (by rfl) B.len PySem.boot_len (pa_cons (pv 0) pa_nil)) (pv 1)))) (nomark _)))),
      (ls_ret (le_op l2_eq (le_sl le_var (lp_some le_var) lp_none) (le_sl le_var lp_none (lp_some (le_op l2_sub (le_cb lc_len (la_cons le_var la_nil)) le_var))))), fun ds Qd Ed hl h => ?_⟩
  obtain ⟨l, s, rfl, hs, h⟩ := h
  have e1 : cutD (l.map PyData.int) (some (s : Int)) none = (l.drop s).map .int := by rw [cutD_from, List.map_drop]
  have e2 : cutD (l.map PyData.int) none (some ((l.length : Int) - (s : Int))) = (l.take (l.length - s)).map .int := by
    have z := cutD_sub (l.map PyData.int) s (by rw [List.length_map]; exact hs)
    rw [List.length_map] at z
    rw [z, List.map_take]
  simp only [dOf, dVar, dC, dOp, dUn, dNil, dCons, pys, dTup, oLst, dCB, oCB, dCall, dCall0, dCallR, fAdd, oOp, fCat, fInt, fIntC, fNeg, fEq, isNonD, fIsN, fIn, fIx, dTest, dAnd, dOr, dNot, dAndV, dOrV, dNotV, dIfE, dChain, dFld, dNext, dSeq, dRet, dRetN, dDrop, dIfS, dBreak, dCont, dSet, dSetO, setAll, dSetT, dPar, itSeq, itRange1, itRange2, itEnum, Tg.put, Tg.ix, dFor, wipeL, dYes, oLc, dAppend, dPutIx, dFreeze, unown, hasOwn, noLD, okL, dSnap, dSnapT, dRaise, startD, dNoPart, dPart, dSl, oSl, fLen, fInt1, fAbs, fInt2, fDivmod, fTuple, fList, fSorted, oSortedSet, fRepr, fAll, fSum, isIntD, isBoolD, isStrD, isTupD, isSeqD, fIsT, dIsLT, dAug, dPutF, dFldI, dMake, startI, putD, dTupRev, nRepeatsN, List.map, List.cons_append, List.nil_append, List.append_eq, List.getElem?_cons_zero, List.getElem?_cons_succ, List.set_cons_zero, List.set_cons_succ, List.lookup_cons, List.lookup_nil, List.length_map, List.length_cons, List.length_nil, Nat.sub_self, List.replicate, List.append_nil, e1, e2]
  refine ⟨shp_tup _, shp_tup _, ?_⟩
  rw [eqv_tuple_ints]
  simpa [perB] using h

def spRepeatSteps (CM CR : Addr) : SpD := fun ds Q Ed => ∃ T v, ds = [mach CM T, .py v] ∧ (∀ i, rowFault T.length v = some i → Ed ⟨CR, "at", .int i⟩) ∧ (rowFault T.length v = none → Q (.tup ((stepsOf (intsOf v)).map .int)))
def nRepeatStepsN : List Str := ["machine", "row", "deeds", "step"]
theorem scRepeatSteps : FnScope nRepeatStepsN ["machine", "row"] (defScope sRepeatSteps) := ⟨rfl, rfl, rfl, by decide +kernel, rfl, by decide +kernel, by decide +kernel⟩
theorem ok_repeat_steps {f : Addr} {fd : FuncData} (F : Fun S.K "repeat_steps" "repeat_steps" sRepeatSteps f fd) (B : Bare mg) (Gr : Has P w S.K mg base L2.CX0 1 "repeats" ["deeds", "step"] (spD S 2 spRepeats)) (Gc : Has P w S.K mg base (L2.CX P w) 4 "check_row" ["machine", "value"] (spD S 2 (spCheckRow CM CR))) : FnOk P w S.K mg base (L2.CX P w) 5 f fd ["machine", "row"] (spD S 2 (spRepeatSteps CM CR)) := by
  have nd : nRepeatStepsN.Nodup := scRepeatSteps.nd
  refine okDX (N := nRepeatStepsN) (k := 4) F scRepeatSteps (hb := fun cdv A outer s H E hr => ?_)
  have hu2 : (A.deeper (envOfC "repeat_steps" (defScope sRepeatSteps) s.heap.objs.size f cdv)).units + 200 < cLine := by have := hr.un; omega
  have hu65 : (A.deeper (envOfC "repeat_steps" (defScope sRepeatSteps) s.heap.objs.size f cdv)).units + 65 < cLine := by omega
  have tk : Takes (cxOf (L2.CX P w) P w S.K mg base nRepeatStepsN "repeat_steps" (defScope sRepeatSteps) f cdv A outer s H E) (fun cls d _ H => E cls d H) := takes_of rfl rfl rfl rfl
  refine ⟨_, _, (pss_cons (ps_set (i := 2) nd rfl (Or.inr rfl) (pe_hasX (E := E) Gc (hr.mono (by decide)) tk (fun _ _ _ _ z => z) (by rfl) (pa_cons (pv 0) (pa_cons (pv 1) pa_nil))))
      (pss_one (ps_ret (pe_callTy (r := rTupOf _) tupOf (by rfl) B.tuple boot_tuple (pa_cons (pe_lc (own := [("step", 3)]) (g := gName 3) rfl nd (pi_range2 (by rfl) B.range (pa_cons pe_int (pa_cons (pe_callB (r := rLenA _) lenA (by rfl) B.len PySem.boot_len (pa_cons (pv 2) pa_nil)) pa_nil))) (blkOk_by (N := nRepeatStepsN) (sc := defScope sRepeatSteps) (by decide +kernel)) (fun _ _ _ _ _ => (pg_name (i := 3) nd rfl (Or.inl rfl))) (fun _ _ _ _ _ => (pts_one (pt_val (pe_has Gr (hr.mono (by decide)) (by rfl) (pa_cons (pv 2) (pa_cons (pv 3) pa_nil)))))) (fun _ _ _ _ _ => (pv 3))) pa_nil))))),
      (ls_seq (ls_set (i := 2) (le_call (la_cons le_var (la_cons le_var la_nil))))
      (ls_ret (le_cb lc_tuple (la_cons (LO.le (lo_lc (g := .one 3) (li_range2 (la_cons le_int (la_cons (le_cb lc_len (la_cons le_var la_nil)) la_nil))) (lt_b (le_call0 (la_cons le_var (la_cons le_var la_nil)))) le_var)) la_nil)))), fun ds Qd Ed hl h => ?_⟩
  obtain ⟨T, v, rfl, h1, h2⟩ := h
  simp only [dOf, dVar, dC, dOp, dUn, dNil, dCons, pys, dTup, oLst, dCB, oCB, dCall, dCall0, dCallR, fAdd, oOp, fCat, fInt, fIntC, fNeg, fEq, isNonD, fIsN, fIn, fIx, dTest, dAnd, dOr, dNot, dAndV, dOrV, dNotV, dIfE, dChain, dFld, dNext, dSeq, dRet, dRetN, dDrop, dIfS, dBreak, dCont, dSet, dSetO, setAll, dSetT, dPar, itSeq, itRange1, itRange2, itEnum, Tg.put, Tg.ix, dFor, wipeL, dYes, oLc, dAppend, dPutIx, dFreeze, unown, hasOwn, noLD, okL, dSnap, dSnapT, dRaise, startD, dNoPart, dPart, dSl, oSl, fLen, fInt1, fAbs, fInt2, fDivmod, fTuple, fList, fSorted, oSortedSet, fRepr, fAll, fSum, isIntD, isBoolD, isStrD, isTupD, isSeqD, fIsT, dIsLT, dAug, dPutF, dFldI, dMake, startI, putD, dTupRev, nRepeatStepsN, List.map, List.cons_append, List.nil_append, List.append_eq, List.getElem?_cons_zero, List.getElem?_cons_succ, List.set_cons_zero, List.set_cons_succ, List.lookup_cons, List.lookup_nil, List.length_cons, List.length_nil, Nat.sub_self, List.replicate, List.append_nil]
  refine ⟨T, v, rfl, h1, fun hf => ?_⟩
  have h2 := h2 hf
  obtain ⟨e, l4, _⟩ := rowFault_items hf
  rw [e]
  generalize intsOf v = l at h2 e l4
  simp [dOf, dVar, dC, dOp, dUn, dNil, dCons, pys, dTup, oLst, dCB, oCB, dCall, dCall0, dCallR, fAdd, oOp, fCat, fInt, fIntC, fNeg, fEq, isNonD, fIsN, fIn, fIx, dTest, dAnd, dOr, dNot, dAndV, dOrV, dNotV, dIfE, dChain, dFld, dNext, dSeq, dRet, dRetN, dDrop, dIfS, dBreak, dCont, dSet, dSetO, setAll, dSetT, dPar, itSeq, itRange1, itRange2, itEnum, Tg.put, Tg.ix, dFor, wipeL, dYes, oLc, dAppend, dPutIx, dFreeze, unown, hasOwn, noLD, okL, dSnap, dSnapT, dRaise, startD, dNoPart, dPart, dSl, oSl, fLen, fInt1, fAbs, fInt2, fDivmod, fTuple, fList, fSorted, oSortedSet, fRepr, fAll, fSum, isIntD, isBoolD, isStrD, isTupD, isSeqD, fIsT, dIsLT, dAug, dPutF, dFldI, dMake, startI, putD, dTupRev, List.map, List.cons_append, List.nil_append, List.append_eq, List.getElem?_cons_zero, List.getElem?_cons_succ, List.set_cons_zero, List.set_cons_succ, List.lookup_cons, List.lookup_nil, rgOk]
  refine ⟨by omega, ?_⟩
  refine turns_fm (fun d => match d with | .int i => perB l i.toNat | _ => false) (fun d => d) (by rw [rangeD_len]; omega) (fun d hd => ?_) ?_
  · obtain ⟨i, hi, rfl⟩ := mem_rangeD.mp hd
    refine ⟨_, rfl, fun K hK => ?_, fun _ K hK => ?_⟩
    · simp [dOf, dVar, dC, dOp, dUn, dNil, dCons, pys, dTup, oLst, dCB, oCB, dCall, dCall0, dCallR, fAdd, oOp, fCat, fInt, fIntC, fNeg, fEq, isNonD, fIsN, fIn, fIx, dTest, dAnd, dOr, dNot, dAndV, dOrV, dNotV, dIfE, dChain, dFld, dNext, dSeq, dRet, dRetN, dDrop, dIfS, dBreak, dCont, dSet, dSetO, setAll, dSetT, dPar, itSeq, itRange1, itRange2, itEnum, Tg.put, Tg.ix, dFor, wipeL, dYes, oLc, dAppend, dPutIx, dFreeze, unown, hasOwn, noLD, okL, dSnap, dSnapT, dRaise, startD, dNoPart, dPart, dSl, oSl, fLen, fInt1, fAbs, fInt2, fDivmod, fTuple, fList, fSorted, oSortedSet, fRepr, fAll, fSum, isIntD, isBoolD, isStrD, isTupD, isSeqD, fIsT, dIsLT, dAug, dPutF, dFldI, dMake, startI, putD, dTupRev, List.map, List.cons_append, List.nil_append, List.append_eq, List.getElem?_cons_zero, List.getElem?_cons_succ, List.set_cons_zero, List.set_cons_succ, List.lookup_cons, List.lookup_nil]
      exact ⟨l, 1 + i, by simp, by omega, by simpa [show ((1 : Int) + i).toNat = 1 + i by omega] using hK⟩
    · simp [dOf, dVar, dC, dOp, dUn, dNil, dCons, pys, dTup, oLst, dCB, oCB, dCall, dCall0, dCallR, fAdd, oOp, fCat, fInt, fIntC, fNeg, fEq, isNonD, fIsN, fIn, fIx, dTest, dAnd, dOr, dNot, dAndV, dOrV, dNotV, dIfE, dChain, dFld, dNext, dSeq, dRet, dRetN, dDrop, dIfS, dBreak, dCont, dSet, dSetO, setAll, dSetT, dPar, itSeq, itRange1, itRange2, itEnum, Tg.put, Tg.ix, dFor, wipeL, dYes, oLc, dAppend, dPutIx, dFreeze, unown, hasOwn, noLD, okL, dSnap, dSnapT, dRaise, startD, dNoPart, dPart, dSl, oSl, fLen, fInt1, fAbs, fInt2, fDivmod, fTuple, fList, fSorted, oSortedSet, fRepr, fAll, fSum, isIntD, isBoolD, isStrD, isTupD, isSeqD, fIsT, dIsLT, dAug, dPutF, dFldI, dMake, startI, putD, dTupRev, List.map, List.cons_append, List.nil_append, List.append_eq, List.getElem?_cons_zero, List.getElem?_cons_succ, List.set_cons_zero, List.set_cons_succ, List.lookup_cons, List.lookup_nil]
      exact hK
  · have z : (((rangeD 1 (l.length - 1)).filter fun d => match d with | .int i => perB l i.toNat | _ => false).map fun d => d) = (stepsOf l).map PyData.int := by
      unfold rangeD stepsOf
      rw [List.filter_map, List.map_map, List.map_map]
      have f : ((fun d => match d with | PyData.int i => perB l i.toNat | _ => false) ∘ fun (i : Nat) => PyData.int (1 + (i : Nat))) = fun i => perB l (i + 1) := by
        funext i
        show perB l ((1 : Int) + (i : Int)).toNat = _
        rw [show ((1 : Int) + (i : Int)).toNat = i + 1 by omega]
      rw [f]
      apply List.map_congr_left
      intro i _
      show PyData.int (1 + (i : Int)) = PyData.int ((i : Int) + 1)
      congr 1
      omega
    rw [z]
    exact h2

def placeSp (CM CR : Addr) : SpD := fun ds Q Ed => ∃ T v, ds = [mach CM T, .py v] ∧ T.length ≤ 4 ∧ (∀ i, rowFault T.length v = some i → Ed ⟨CR, "at", .int i⟩) ∧ (rowFault T.length v = none → Q (.int (placeOf T.length (intsOf v))))
def nRowPlaceN : List Str := ["machine", "row", "place", "deed"]
theorem scRowPlace : FnScope nRowPlaceN ["machine", "row"] (defScope sRowPlace) := ⟨rfl, rfl, rfl, by decide +kernel, rfl, by decide +kernel, by decide +kernel⟩
theorem ok_row_place {f : Addr} {fd : FuncData} (F : Fun S.K "row_place" "row_place" sRowPlace f fd) (M : MachC S.K CM) (Gc : Has P w S.K mg base (L2.CX P w) 4 "check_row" ["machine", "value"] (spD S 2 (spCheckRow CM CR))) : FnOk P w S.K mg base (L2.CX P w) 5 f fd ["machine", "row"] (spD S 2 (placeSp CM CR)) := by
  have nd : nRowPlaceN.Nodup := scRowPlace.nd
  refine okDX (N := nRowPlaceN) (k := 4) F scRowPlace (hb := fun cdv A outer s H E hr => ?_)
  have hu2 : (A.deeper (envOfC "row_place" (defScope sRowPlace) s.heap.objs.size f cdv)).units + 200 < cLine := by have := hr.un; omega
  have hu65 : (A.deeper (envOfC "row_place" (defScope sRowPlace) s.heap.objs.size f cdv)).units + 65 < cLine := by omega
  have tk : Takes (cxOf (L2.CX P w) P w S.K mg base nRowPlaceN "row_place" (defScope sRowPlace) f cdv A outer s H E) (fun cls d _ H => E cls d H) := takes_of rfl rfl rfl rfl
  refine ⟨_, _, (pss_cons (ps_set (i := 2) nd rfl (Or.inl rfl) pe_int)
      (pss_cons (ps_for (passes_of rfl) rfl (pi_seq (pe_hasX (E := E) Gc (hr.mono (by decide)) tk (fun _ _ _ _ z => z) (by rfl) (pa_cons (pv 0) (pa_cons (pv 1) pa_nil)))) (pg_name (i := 3) nd rfl (Or.inl rfl))
      (pss_one (ps_set (i := 2) nd rfl (Or.inl rfl) (pe_op op_addA (pe_op op_mul (pv 2) (pe_fld (pv 0) rfl)) (pv 3)))))
      (pss_one (ps_ret (pv 2))))),
      (ls_seq (ls_set (i := 2) le_int)
      (ls_seq (ls_for (g := .one 3) (li_seq (le_call (la_cons le_var (la_cons le_var la_nil))))
      (ls_set (i := 2) (le_op l2_add (le_op l2_intC le_var (le_fld M.cl M.nD le_var)) le_var)))
      (ls_ret le_var))), fun ds Qd Ed hl h => ?_⟩
  obtain ⟨T, v, rfl, h4, h1, h2⟩ := h
  simp only [dOf, dVar, dC, dOp, dUn, dNil, dCons, pys, dTup, oLst, dCB, oCB, dCall, dCall0, dCallR, fAdd, oOp, fCat, fInt, fIntC, fNeg, fEq, isNonD, fIsN, fIn, fIx, dTest, dAnd, dOr, dNot, dAndV, dOrV, dNotV, dIfE, dChain, dFld, dNext, dSeq, dRet, dRetN, dDrop, dIfS, dBreak, dCont, dSet, dSetO, setAll, dSetT, dPar, itSeq, itRange1, itRange2, itEnum, Tg.put, Tg.ix, dFor, wipeL, dYes, oLc, dAppend, dPutIx, dFreeze, unown, hasOwn, noLD, okL, dSnap, dSnapT, dRaise, startD, dNoPart, dPart, dSl, oSl, fLen, fInt1, fAbs, fInt2, fDivmod, fTuple, fList, fSorted, oSortedSet, fRepr, fAll, fSum, isIntD, isBoolD, isStrD, isTupD, isSeqD, fIsT, dIsLT, dAug, dPutF, dFldI, dMake, startI, putD, dTupRev, nRowPlaceN, List.map, List.cons_append, List.nil_append, List.append_eq, List.getElem?_cons_zero, List.getElem?_cons_succ, List.set_cons_zero, List.set_cons_succ, List.lookup_cons, List.lookup_nil, List.length_cons, List.length_nil, Nat.sub_self, List.replicate, List.append_nil]
  refine ⟨T, v, rfl, h1, fun hf => ?_⟩
  have h2 := h2 hf
  obtain ⟨e, l4, _⟩ := rowFault_items hf
  rw [e]
  generalize intsOf v = l at h2 e l4
  refine loop_ind (fun ds ρ => ∃ (l' : List Int) (p : Int) (y : Option SV), ds = l'.map .int ∧ ρ = [_, _, some (.dv (.int p)), y] ∧ l'.foldl (fun (p : Int) (d : Int) => p * (T.length : Int) + d) p = placeOf T.length l) ?_ ?_ _ _ ⟨l, 0, none, rfl, rfl, rfl⟩
  · rintro ρ ⟨l', p, y, e, rfl, hp⟩
    cases l' with
    | cons d l' => cases e
    | nil =>
      have hp : p = placeOf T.length l := hp
      simp [dOf, dVar, dC, dOp, dUn, dNil, dCons, pys, dTup, oLst, dCB, oCB, dCall, dCall0, dCallR, fAdd, oOp, fCat, fInt, fIntC, fNeg, fEq, isNonD, fIsN, fIn, fIx, dTest, dAnd, dOr, dNot, dAndV, dOrV, dNotV, dIfE, dChain, dFld, dNext, dSeq, dRet, dRetN, dDrop, dIfS, dBreak, dCont, dSet, dSetO, setAll, dSetT, dPar, itSeq, itRange1, itRange2, itEnum, Tg.put, Tg.ix, dFor, wipeL, dYes, oLc, dAppend, dPutIx, dFreeze, unown, hasOwn, noLD, okL, dSnap, dSnapT, dRaise, startD, dNoPart, dPart, dSl, oSl, fLen, fInt1, fAbs, fInt2, fDivmod, fTuple, fList, fSorted, oSortedSet, fRepr, fAll, fSum, isIntD, isBoolD, isStrD, isTupD, isSeqD, fIsT, dIsLT, dAug, dPutF, dFldI, dMake, startI, putD, dTupRev, List.map, List.cons_append, List.nil_append, List.append_eq, List.getElem?_cons_zero, List.getElem?_cons_succ, List.set_cons_zero, List.set_cons_succ, List.lookup_cons, List.lookup_nil]
      rw [hp]
      exact h2
  · rintro d ds ρ K hK ⟨l', p, y, e, rfl, hp⟩
    cases l' with
    | nil => cases e
    | cons x l' =>
      cases e
      simp [dOf, dVar, dC, dOp, dUn, dNil, dCons, pys, dTup, oLst, dCB, oCB, dCall, dCall0, dCallR, fAdd, oOp, fCat, fInt, fIntC, fNeg, fEq, isNonD, fIsN, fIn, fIx, dTest, dAnd, dOr, dNot, dAndV, dOrV, dNotV, dIfE, dChain, dFld, dNext, dSeq, dRet, dRetN, dDrop, dIfS, dBreak, dCont, dSet, dSetO, setAll, dSetT, dPar, itSeq, itRange1, itRange2, itEnum, Tg.put, Tg.ix, dFor, wipeL, dYes, oLc, dAppend, dPutIx, dFreeze, unown, hasOwn, noLD, okL, dSnap, dSnapT, dRaise, startD, dNoPart, dPart, dSl, oSl, fLen, fInt1, fAbs, fInt2, fDivmod, fTuple, fList, fSorted, oSortedSet, fRepr, fAll, fSum, isIntD, isBoolD, isStrD, isTupD, isSeqD, fIsT, dIsLT, dAug, dPutF, dFldI, dMake, startI, putD, dTupRev, List.map, List.cons_append, List.nil_append, List.append_eq, List.getElem?_cons_zero, List.getElem?_cons_succ, List.set_cons_zero, List.set_cons_succ, List.lookup_cons, List.lookup_nil, fld_deeds, CMul]
      exact ⟨.inr (by omega), hK _ ⟨l', _, _, rfl, rfl, hp⟩⟩

def spRepeatEnd (CM CR CF : Addr) : SpD := fun ds Q Ed => ∃ T v st, ds = [mach CM T, .py v, .py st] ∧ (∀ i, rowFault T.length v = some i → Ed ⟨CR, "at", .int i⟩) ∧
  (rowFault T.length v = none → (numD st 1 (some 400) = false → Ed ⟨CF, "at", .py st⟩) ∧ (∀ s : Nat, st = .int (s : Nat) → 1 ≤ s → s ≤ 400 → ∀ r, Longest (intsOf v) s r → Q (.int (r : Nat))))
theorem numD_nat {st : PyData} {a b : Nat} (h : numD st a (some b) = true) : ∃ s : Nat, st = .int (s : Nat) ∧ a ≤ s ∧ s ≤ b := by
  unfold numD at h
  cases st with
  | int i =>
    simp at h
    exact ⟨i.toNat, by congr 1; omega, by omega, by omega⟩
  | _ => cases h
theorem numD_nat0 {st : PyData} {b : Int} (h : numD st 0 (some b) = true) : ∃ s : Nat, st = .int (s : Nat) ∧ (s : Int) ≤ b := by
  unfold numD at h
  cases st with
  | int i =>
    simp at h
    exact ⟨i.toNat, by congr 1; omega, by omega⟩
  | _ => cases h
theorem at_int {l : List Int} {i : Nat} (h : i < l.length) : (l.map PyData.int)[i]? = some (.int (l.getD i 0)) := by
  rw [List.getElem?_map, List.getElem?_eq_getElem h, List.getD_eq_getElem?_getD, List.getElem?_eq_getElem h]
  rfl
def nRepeatEndN : List Str := ["machine", "row", "step", "deeds", "length"]
theorem scRepeatEnd : FnScope nRepeatEndN ["machine", "row", "step"] (defScope sRepeatEnd) := ⟨rfl, rfl, rfl, by decide +kernel, rfl, by decide +kernel, by decide +kernel⟩
theorem ok_repeat_end {f : Addr} {fd : FuncData} (F : Fun S.K "repeat_end" "repeat_end" sRepeatEnd f fd) (B : Bare mg) {tL : Tok} (gR : mg "LONGEST_ROW" = some (.int 400 tL)) (Gc : Has P w S.K mg base (L2.CX P w) 4 "check_row" ["machine", "value"] (spD S 2 (spCheckRow CM CR))) (Gnn : Has P w S.K mg base (L2.CX P w) 3 "need_number" ["value", "least", "greatest"] (spD S 3 (spNeedNumber CF))) : FnOk P w S.K mg base (L2.CX P w) 5 f fd ["machine", "row", "step"] (spD S 3 (spRepeatEnd CM CR CF)) := by
  have nd : nRepeatEndN.Nodup := scRepeatEnd.nd
  refine okDX (N := nRepeatEndN) (k := 4) F scRepeatEnd (hb := fun cdv A outer s H E hr => ?_)
  have hu2 : (A.deeper (envOfC "repeat_end" (defScope sRepeatEnd) s.heap.objs.size f cdv)).units + 200 < cLine := by have := hr.un; omega
  have hu65 : (A.deeper (envOfC "repeat_end" (defScope sRepeatEnd) s.heap.objs.size f cdv)).units + 65 < cLine := by omega
  have tk : Takes (cxOf (L2.CX P w) P w S.K mg base nRepeatEndN "repeat_end" (defScope sRepeatEnd) f cdv A outer s H E) (fun cls d _ H => E cls d H) := takes_of rfl rfl rfl rfl
  refine ⟨_, _, (pss_cons (ps_set (i := 3) nd rfl (Or.inl rfl) (pe_hasX (E := E) Gc (hr.mono (by decide)) tk (fun _ _ _ _ z => z) (by rfl) (pa_cons (pv 0) (pa_cons (pv 1) pa_nil))))
      (pss_cons (ps_expr (pe_hasX (E := E) Gnn (hr.mono (by decide)) tk (fun _ _ _ _ z => z) (by rfl) (pa_cons (pv 2) (pa_cons pe_int (pa_cons (pe_glob (v := .int 400) rfl gR ⟨_, rfl⟩) pa_nil)))))
      (pss_cons (ps_set (i := 4) nd rfl (Or.inl rfl) (pe_callB (call_min2 rfl) (by rfl) B.min (by decide +kernel) (pa_cons (pv 2) (pa_cons (pe_callB (r := rLenA _) lenA (by rfl) B.len PySem.boot_len (pa_cons (pv 3) pa_nil)) pa_nil))))
      (pss_cons (ps_while (passes_of rfl) (PW.pt (pw_and (pt_cmpR op_lt (pv 4) (pe_callB (r := rLenA _) lenA (by rfl) B.len PySem.boot_len (pa_cons (pv 3) pa_nil)) (nomark _)) (pw_and1 (pt_cmpR (op_eqD hr.units) (pe_ix (r := rIx _) ix_seq (pv 3) (pe_op op_sub (pe_un un_neg (pv 4)) pe_int) (fun _ _ => rfl)) (pe_ix (r := rIx _) ix_seq (pv 3) (pe_op op_sub (pe_op op_sub (pv 2) (pv 4)) pe_int) (fun _ _ => rfl)) (nomark _))))) (pss_one (ps_aug (i := 4) nd rfl (Or.inl rfl) pe_int ip_add)))
      (pss_one (ps_ret (pv 4))))))),
      (ls_seq (ls_set (i := 3) (le_call (la_cons le_var (la_cons le_var la_nil))))
      (ls_seq (ls_drop (le_call (la_cons le_var (la_cons le_int (la_cons le_int la_nil)))))
      (ls_seq (ls_set (i := 4) (le_cb lc_int2 (la_cons le_var (la_cons (le_cb lc_len (la_cons le_var la_nil)) la_nil))))
      (ls_seq (ls_while (lt_and (lt_test (le_op l2_cmp le_var (le_cb lc_len (la_cons le_var la_nil)))) (lt_test (le_op l2_eq (le_op l2_ix le_var (le_op l2_sub (le_un l1_int le_var) le_int)) (le_op l2_ix le_var (le_op l2_sub (le_op l2_sub le_var le_var) le_int))))) (ls_aug le_int))
      (ls_ret le_var))))), fun ds Qd Ed hl h => ?_⟩
  obtain ⟨T, v, st, rfl, h1, h2⟩ := h
  simp only [dOf, dVar, dC, dOp, dUn, dNil, dCons, pys, dTup, oLst, dCB, oCB, dCall, dCall0, dCallR, fAdd, oOp, fCat, fInt, fIntC, fNeg, fEq, isNonD, fIsN, fIn, fIx, dTest, dAnd, dOr, dNot, dAndV, dOrV, dNotV, dIfE, dChain, dFld, dNext, dSeq, dRet, dRetN, dDrop, dIfS, dBreak, dCont, dSet, dSetO, setAll, dSetT, dPar, itSeq, itRange1, itRange2, itEnum, Tg.put, Tg.ix, dFor, wipeL, dYes, oLc, dAppend, dPutIx, dFreeze, unown, hasOwn, noLD, okL, dSnap, dSnapT, dRaise, startD, dNoPart, dPart, dSl, oSl, fLen, fInt1, fAbs, fInt2, fDivmod, fTuple, fList, fSorted, oSortedSet, fRepr, fAll, fSum, isIntD, isBoolD, isStrD, isTupD, isSeqD, fIsT, dIsLT, dAug, dPutF, dFldI, dMake, startI, putD, dTupRev, nRepeatEndN, List.map, List.cons_append, List.nil_append, List.append_eq, List.getElem?_cons_zero, List.getElem?_cons_succ, List.set_cons_zero, List.set_cons_succ, List.lookup_cons, List.lookup_nil, List.length_cons, List.length_nil, Nat.sub_self, List.replicate, List.append_nil]
  refine ⟨T, v, rfl, h1, fun hf => ?_⟩
  obtain ⟨h3, h4⟩ := h2 hf
  obtain ⟨e, l4, _⟩ := rowFault_items hf
  rw [e]
  refine ⟨st, 1, 400, rfl, fun hn => ?_, h3⟩
  obtain ⟨s, rfl, s1, s4⟩ := numD_nat (a := 1) (b := 400) hn
  have h4 := h4 s rfl s1 s4
  generalize intsOf v = l at h4 e l4
  have em : (if ((l.length : Nat) : Int) < (s : Int) then ((l.length : Nat) : Int) else (s : Int)) = ((min s l.length : Nat) : Int) := by
    split <;> omega
  simp only [dOf, dVar, dC, dOp, dUn, dNil, dCons, pys, dTup, oLst, dCB, oCB, dCall, dCall0, dCallR, fAdd, oOp, fCat, fInt, fIntC, fNeg, fEq, isNonD, fIsN, fIn, fIx, dTest, dAnd, dOr, dNot, dAndV, dOrV, dNotV, dIfE, dChain, dFld, dNext, dSeq, dRet, dRetN, dDrop, dIfS, dBreak, dCont, dSet, dSetO, setAll, dSetT, dPar, itSeq, itRange1, itRange2, itEnum, Tg.put, Tg.ix, dFor, wipeL, dYes, oLc, dAppend, dPutIx, dFreeze, unown, hasOwn, noLD, okL, dSnap, dSnapT, dRaise, startD, dNoPart, dPart, dSl, oSl, fLen, fInt1, fAbs, fInt2, fDivmod, fTuple, fList, fSorted, oSortedSet, fRepr, fAll, fSum, isIntD, isBoolD, isStrD, isTupD, isSeqD, fIsT, dIsLT, dAug, dPutF, dFldI, dMake, startI, putD, dTupRev, List.map, List.cons_append, List.nil_append, List.append_eq, List.getElem?_cons_zero, List.getElem?_cons_succ, List.set_cons_zero, List.set_cons_succ, List.lookup_cons, List.lookup_nil, List.length_map, em]
  have same : ∀ i j : Nat, i < l.length → j < l.length → (l[i]? = l[j]? ↔ l.getD i 0 = l.getD j 0) := fun i j hi hj => getD_eq_iff hi hj
  refine ⟨fun k ρ => ∃ n : Nat, n + k = l.length ∧ min s l.length ≤ n ∧ EndRep l s n ∧ ρ = [_, _, _, _, some (.dv (.int (n : Nat)))], ⟨l.length - min s l.length, min s l.length, by omega, Nat.le_refl _, EndRep.short (by omega) (by omega), rfl⟩, ?_⟩
  rintro k ρ ⟨n, hk, hlow, hrep, rfl⟩
  simp [dOf, dVar, dC, dOp, dUn, dNil, dCons, pys, dTup, oLst, dCB, oCB, dCall, dCall0, dCallR, fAdd, oOp, fCat, fInt, fIntC, fNeg, fEq, isNonD, fIsN, fIn, fIx, dTest, dAnd, dOr, dNot, dAndV, dOrV, dNotV, dIfE, dChain, dFld, dNext, dSeq, dRet, dRetN, dDrop, dIfS, dBreak, dCont, dSet, dSetO, setAll, dSetT, dPar, itSeq, itRange1, itRange2, itEnum, Tg.put, Tg.ix, dFor, wipeL, dYes, oLc, dAppend, dPutIx, dFreeze, unown, hasOwn, noLD, okL, dSnap, dSnapT, dRaise, startD, dNoPart, dPart, dSl, oSl, fLen, fInt1, fAbs, fInt2, fDivmod, fTuple, fList, fSorted, oSortedSet, fRepr, fAll, fSum, isIntD, isBoolD, isStrD, isTupD, isSeqD, fIsT, dIsLT, dAug, dPutF, dFldI, dMake, startI, putD, dTupRev, List.map, List.cons_append, List.nil_append, List.append_eq, List.getElem?_cons_zero, List.getElem?_cons_succ, List.set_cons_zero, List.set_cons_succ, List.lookup_cons, List.lookup_nil]
  by_cases lt : n < l.length
  · have i1 : l.length - 1 - n < l.length := by omega
    have i2 : l.length - 1 - n + s < l.length := by omega
    have a1 : atI (l.map PyData.int) (-(n : Int) - 1) = some (.int (l.getD (l.length - 1 - n) 0)) := atI_neg (by rw [List.length_map]; exact lt) (by rw [List.length_map]; exact at_int i1)
    have a2 : atI (l.map PyData.int) ((s : Int) - n - 1) = some (.int (l.getD (l.length - 1 - n + s) 0)) := by
      have z := atI_neg (xs := l.map PyData.int) (k := n - s) (v := .int (l.getD (l.length - 1 - n + s) 0)) (by rw [List.length_map]; omega) (by
        rw [List.length_map, show l.length - 1 - (n - s) = l.length - 1 - n + s by omega]
        exact at_int i2)
      rw [show -((n - s : Nat) : Int) - 1 = (s : Int) - n - 1 by omega] at z
      exact z
    rw [if_pos lt, a1, a2]
    simp
    by_cases c2 : l[l.length - 1 - n]?.getD 0 = l[l.length - 1 - n + s]?.getD 0
    · rw [if_pos c2]
      have sl : s ≤ n := by omega
      exact ⟨k - 1, by omega, n + 1, by omega, by omega, hrep.more sl lt ((same _ _ i2 i1).mpr (by rw [List.getD_eq_getElem?_getD, List.getD_eq_getElem?_getD]; exact c2.symm)), by simp⟩
    · rw [if_neg c2]
      refine h4 n ⟨by omega, hrep, hlow, fun l' hl' hr' => ?_⟩
      apply Nat.le_of_not_lt
      intro z
      have w := (hr'.less (m := n + 1) (by omega)) (l.length - 1 - n + s) (by omega) i2
      rw [Nat.add_sub_cancel] at w
      have w2 := (same _ _ i2 i1).mp w
      rw [List.getD_eq_getElem?_getD, List.getD_eq_getElem?_getD] at w2
      exact c2 w2.symm
  · rw [if_neg lt]
    exact h4 n ⟨by omega, hrep, hlow, fun l' hl' _ => by omega⟩

def spNthRow (CM CF : Addr) : SpD := fun ds Q Ed => ∃ T kv xv, ds = [mach CM T, .py kv, .py xv] ∧ 1 ≤ T.length ∧ T.length ≤ 4 ∧ (numD kv 0 (some 400) = false → Ed ⟨CF, "at", .py kv⟩) ∧
  (∀ k : Nat, kv = .int (k : Nat) → k ≤ 400 → (numD xv 0 (some (((T.length ^ k : Nat) : Int) - 1)) = false → Ed ⟨CF, "at", .py xv⟩) ∧ (∀ x : Nat, xv = .int (x : Nat) → x < T.length ^ k → Q (.tup ((digits T.length k x).map .int))))
def nNthRowN : List Str := ["machine", "many", "number", "deeds", "left", "_", "deed"]
theorem scNthRow : FnScope nNthRowN ["machine", "many", "number"] (defScope sNthRow) := ⟨rfl, rfl, rfl, by decide +kernel, rfl, by decide +kernel, by decide +kernel⟩
theorem ok_nth_row {f : Addr} {fd : FuncData} (F : Fun S.K "nth_row" "nth_row" sNthRow f fd) (B : Bare mg) (M : MachC S.K CM) {tL : Tok} (gR : mg "LONGEST_ROW" = some (.int 400 tL)) (Gnn : Has P w S.K mg base (L2.CX P w) 3 "need_number" ["value", "least", "greatest"] (spD S 3 (spNeedNumber CF))) (Grc : Has P w S.K mg base L2.CX0 2 "row_count" ["machine", "many"] (spD S 2 (spRowCount CM))) : FnOk P w S.K mg base (L2.CX P w) 5 f fd ["machine", "many", "number"] (spD S 3 (spNthRow CM CF)) := by
  have nd : nNthRowN.Nodup := scNthRow.nd
  refine okDX (N := nNthRowN) (k := 4) F scNthRow (hb := fun cdv A outer s H E hr => ?_)
  have hu2 : (A.deeper (envOfC "nth_row" (defScope sNthRow) s.heap.objs.size f cdv)).units + 200 < cLine := by have := hr.un; omega
  have hu65 : (A.deeper (envOfC "nth_row" (defScope sNthRow) s.heap.objs.size f cdv)).units + 65 < cLine := by omega
  have tk : Takes (cxOf (L2.CX P w) P w S.K mg base nNthRowN "nth_row" (defScope sNthRow) f cdv A outer s H E) (fun cls d _ H => E cls d H) := takes_of rfl rfl rfl rfl
  refine ⟨_, _, (pss_cons (ps_expr (pe_hasX (E := E) Gnn (hr.mono (by decide)) tk (fun _ _ _ _ z => z) (by rfl) (pa_cons (pv 1) (pa_cons pe_int (pa_cons (pe_glob (v := .int 400) rfl gR ⟨_, rfl⟩) pa_nil)))))
      (pss_cons (ps_expr (pe_hasX (E := E) Gnn (hr.mono (by decide)) tk (fun _ _ _ _ z => z) (by rfl) (pa_cons (pv 2) (pa_cons pe_int (pa_cons (pe_op op_sub (pe_has Grc (hr.mono (by decide)) (by rfl) (pa_cons (pv 0) (pa_cons (pv 1) pa_nil))) pe_int) pa_nil)))))
      (pss_cons (ps_set (i := 3) nd rfl (Or.inl rfl) (pe_lst pa_nil))
      (pss_cons (ps_set (i := 4) nd rfl (Or.inl rfl) (pv 2))
      (pss_cons (ps_for (passes_of rfl) rfl (pi_range1 (by rfl) B.range (pa_cons (pv 1) pa_nil)) (pg_name (i := 5) nd rfl (Or.inl rfl))
      (pss_cons (ps_asg (pe_callB call_divmod (by rfl) B.divmod (by decide +kernel) (pa_cons (pv 4) (pa_cons (pe_fld (pv 0) rfl) pa_nil))) (pg_tup rfl (pgs_cons (pg_name (i := 4) nd rfl (Or.inl rfl)) (pgs_cons (pg_name (i := 6) nd rfl (Or.inl rfl)) pgs_nil))))
      (pss_one (ps_expr (pe_bm PySem.F.plainAttrs_list PySem.F.slot_list_append PySem.F.type_list_append mt_append (pv 3) (pa_cons (pv 6) pa_nil))))))
      (pss_one (ps_ret (RT.pe_tupRev rfl (by rfl) B.tuple (by rfl) B.reversed (pv 3))))))))),
      (ls_seq (ls_drop (le_call (la_cons le_var (la_cons le_int (la_cons le_int la_nil)))))
      (ls_seq (ls_drop (le_call (la_cons le_var (la_cons le_int (la_cons (le_op l2_sub (le_call0 (la_cons le_var (la_cons le_var la_nil))) le_int) la_nil)))))
      (ls_seq (ls_setO (i := 3) (lo_lst la_nil (by decide)))
      (ls_seq (ls_set (i := 4) (le_snap le_var))
      (ls_seq (ls_for (g := .one 5) (li_range1 (la_cons le_var la_nil))
      (ls_seq (ls_setT (is := [4, 6]) (le_snap (le_cb lc_divmod (la_cons le_var (la_cons (le_fld M.cl M.nD le_var) la_nil)))) rfl)
      (ls_append (i := 3) (le_snap le_var))))
      (ls_ret (le_snap (le_tupRev le_var)))))))), fun ds Qd Ed hl h => ?_⟩
  obtain ⟨T, kv, xv, rfl, t1, t4, h1, h2⟩ := h
  simp only [dOf, dVar, dC, dOp, dUn, dNil, dCons, pys, dTup, oLst, dCB, oCB, dCall, dCall0, dCallR, fAdd, oOp, fCat, fInt, fIntC, fNeg, fEq, isNonD, fIsN, fIn, fIx, dTest, dAnd, dOr, dNot, dAndV, dOrV, dNotV, dIfE, dChain, dFld, dNext, dSeq, dRet, dRetN, dDrop, dIfS, dBreak, dCont, dSet, dSetO, setAll, dSetT, dPar, itSeq, itRange1, itRange2, itEnum, Tg.put, Tg.ix, dFor, wipeL, dYes, oLc, dAppend, dPutIx, dFreeze, unown, hasOwn, noLD, okL, dSnap, dSnapT, dRaise, startD, dNoPart, dPart, dSl, oSl, fLen, fInt1, fAbs, fInt2, fDivmod, fTuple, fList, fSorted, oSortedSet, fRepr, fAll, fSum, isIntD, isBoolD, isStrD, isTupD, isSeqD, fIsT, dIsLT, dAug, dPutF, dFldI, dMake, startI, putD, dTupRev, nNthRowN, List.map, List.cons_append, List.nil_append, List.append_eq, List.getElem?_cons_zero, List.getElem?_cons_succ, List.set_cons_zero, List.set_cons_succ, List.lookup_cons, List.lookup_nil, List.length_cons, List.length_nil, Nat.sub_self, List.replicate]
  refine ⟨kv, 0, 400, rfl, fun hk => ?_, h1⟩
  obtain ⟨k, rfl, k0, k4⟩ := numD_nat (a := 0) (b := 400) hk
  obtain ⟨h3, h4⟩ := h2 k rfl k4
  refine ⟨T, k, rfl, t4, k4, xv, 0, ((T.length ^ k : Nat) : Int) - 1, rfl, fun hx => ?_, h3⟩
  obtain ⟨x, rfl, hx⟩ := numD_nat0 hx
  have h4 := h4 x rfl (by omega)
  simp [rgOk, noL]
  refine ⟨by omega, ?_⟩
  rw [rangeD_R]
  generalize hn : T.length = n at *
  refine loop_ind (fun ds ρ => ∃ (lo : Int) (i m : Nat) (y5 y6 : Option SV), ds = rangeR lo m ∧ i + m = k ∧ hasOwn [y5, y6] = false ∧ ρ = [some (.dv (mach CM T)), some (.dv (.py (.int (k : Nat)))), some (.dv (.py (.int (x : Nat)))), some (.own ((List.range i).map fun j => .int ((x / n ^ j % n : Nat) : Int))), some (.dv (.int ((x / n ^ i : Nat) : Int))), y5, y6]) ?_ ?_ _ _ ⟨0, 0, k, none, none, rfl, by omega, rfl, by simp⟩
  · rintro ρ ⟨lo, i, m, y5, y6, e, hi, hy, rfl⟩
    cases m with
    | succ m => cases e
    | zero =>
      have e : i = k := by omega
      subst e
      simp [dOf, dVar, dC, dOp, dUn, dNil, dCons, pys, dTup, oLst, dCB, oCB, dCall, dCall0, dCallR, fAdd, oOp, fCat, fInt, fIntC, fNeg, fEq, isNonD, fIsN, fIn, fIx, dTest, dAnd, dOr, dNot, dAndV, dOrV, dNotV, dIfE, dChain, dFld, dNext, dSeq, dRet, dRetN, dDrop, dIfS, dBreak, dCont, dSet, dSetO, setAll, dSetT, dPar, itSeq, itRange1, itRange2, itEnum, Tg.put, Tg.ix, dFor, wipeL, dYes, oLc, dAppend, dPutIx, dFreeze, unown, hasOwn, noLD, okL, dSnap, dSnapT, dRaise, startD, dNoPart, dPart, dSl, oSl, fLen, fInt1, fAbs, fInt2, fDivmod, fTuple, fList, fSorted, oSortedSet, fRepr, fAll, fSum, isIntD, isBoolD, isStrD, isTupD, isSeqD, fIsT, dIsLT, dAug, dPutF, dFldI, dMake, startI, putD, dTupRev, List.map, List.cons_append, List.nil_append, List.append_eq, List.getElem?_cons_zero, List.getElem?_cons_succ, List.set_cons_zero, List.set_cons_succ, List.lookup_cons, List.lookup_nil]
      have z : ((List.range i).map fun j => PyData.int ((x / n ^ j % n : Nat) : Int)).reverse = (digits n i x).map .int := by
        unfold digits
        rw [List.map_reverse, List.map_map]
        rfl
      have nl : noL (.tuple ((digits n i x).map .int)) = true := noL_ints _
      simp at z
      rw [z]
      exact ⟨nl, h4⟩
  · rintro d ds ρ K hK ⟨lo, i, m, y5, y6, e, hi, hy, rfl⟩
    cases m with
    | zero => cases e
    | succ m =>
      cases e
      simp [dOf, dVar, dC, dOp, dUn, dNil, dCons, pys, dTup, oLst, dCB, oCB, dCall, dCall0, dCallR, fAdd, oOp, fCat, fInt, fIntC, fNeg, fEq, isNonD, fIsN, fIn, fIx, dTest, dAnd, dOr, dNot, dAndV, dOrV, dNotV, dIfE, dChain, dFld, dNext, dSeq, dRet, dRetN, dDrop, dIfS, dBreak, dCont, dSet, dSetO, setAll, dSetT, dPar, itSeq, itRange1, itRange2, itEnum, Tg.put, Tg.ix, dFor, wipeL, dYes, oLc, dAppend, dPutIx, dFreeze, unown, hasOwn, noLD, okL, dSnap, dSnapT, dRaise, startD, dNoPart, dPart, dSl, oSl, fLen, fInt1, fAbs, fInt2, fDivmod, fTuple, fList, fSorted, oSortedSet, fRepr, fAll, fSum, isIntD, isBoolD, isStrD, isTupD, isSeqD, fIsT, dIsLT, dAug, dPutF, dFldI, dMake, startI, putD, dTupRev, List.map, List.cons_append, List.nil_append, List.append_eq, List.getElem?_cons_zero, List.getElem?_cons_succ, List.set_cons_zero, List.set_cons_succ, List.lookup_cons, List.lookup_nil, fld_deeds, hn, CDiv, noL, noLs]
      refine ⟨⟨by omega, by omega⟩, by omega, hK _ ⟨lo + 1, i + 1, m, some (.dv (.py (.int lo))), some (.dv (.int ((x / n ^ i % n : Nat) : Int))), rfl, by omega, rfl, ?_⟩⟩
      rw [List.range_succ, List.map_append, Nat.pow_succ, ← Nat.div_div_eq_div_mul]
      simp

end
end Pg

set_option Elab.async false
set_option linter.all false
set_option maxRecDepth 100000
set_option maxHeartbeats 4000000
namespace Lw
open PySem PySem.Spec PyProof.Rows L2 Lx Dl Pg
section
variable {P : Program} {w : World} {mg : Str → Option Value} {base : Heap} {S : Sx}
/-- a draw below n -/
def spTake : SpD := fun ds Q _ => ∃ n : Nat, ds = [.box, .int (n : Nat)] ∧ 1 ≤ n ∧ n < 1073741824 ∧ ∀ r : Nat, r < n → Q (.int (r : Nat))
theorem mod_nat (z : Int) {n : Nat} (h : 1 ≤ n) : ∃ r : Nat, z % (n : Int) = r ∧ r < n := by
  have z1 := Int.emod_nonneg z (show (n : Int) ≠ 0 by omega)
  have z2 := Int.emod_lt_of_pos z (show (0 : Int) < (n : Int) by omega)
  exact ⟨(z % (n : Int)).toNat, by omega, by omega⟩
def nLawTakeN : List Str := ["box", "many", "digit", "raw"]
theorem scLawTake : FnScope nLawTakeN ["box", "many"] (defScope sLawTake) := ⟨rfl, rfl, rfl, by decide +kernel, rfl, by decide +kernel, by decide +kernel⟩
theorem ok_law_take {f : Addr} {fd : FuncData} (F : Fun S.K "_law_take" "_law_take" sLawTake f fd) (B : Bare mg) (nb : S.nb = 3) : FnOk P w S.K mg base L2.CX0 1 f fd ["box", "many"] (spD S 2 spTake) := by
  have nd : nLawTakeN.Nodup := scLawTake.nd
  refine okD0 (N := nLawTakeN) (k := 0) F scLawTake (hb := fun cdv A outer s H E hr => ?_)
  have hu2 : (A.deeper (envOfC "_law_take" (defScope sLawTake) s.heap.objs.size f cdv)).units + 200 < cLine := by have := hr.un; omega
  have hu65 : (A.deeper (envOfC "_law_take" (defScope sLawTake) s.heap.objs.size f cdv)).units + 65 < cLine := by omega
  refine ⟨_, _, (pss_cons (ps_if (pt_cmpR op_gt (pe_ix (r := rIx _) ix_seq (pv 0) pe_int (fun _ _ => rfl)) pe_int (nomark _)) (pss_cons (ps_set (i := 2) nd rfl (Or.inl rfl) (pe_op op_mod (pe_callTy call_int1 (by rfl) B.int boot_int (pa_cons (pe_ix (r := rIx _) ix_seq (pv 0) pe_int (fun _ _ => rfl)) pa_nil)) (pv 1)))
      (pss_cons (ps_asg (pe_op op_fdiv (pe_ix (r := rIx _) ix_seq (pv 0) pe_int (fun _ _ => rfl)) (pv 1)) (pg_sub (pv 0) pe_int set_list (fun _ => rfl)))
      (pss_one (ps_ret (pv 2))))) pss_nil)
      (pss_cons (ps_asg (pe_op op_addA (pe_ix (r := rIx _) ix_seq (pv 0) pe_int (fun _ _ => rfl)) pe_int) (pg_sub (pv 0) pe_int set_list (fun _ => rfl)))
      (pss_cons (ps_set (i := 3) nd rfl (Or.inl rfl) (pe_op op_mod (pe_callTy call_int1 (by rfl) B.int boot_int (pa_cons (pe_op op_addA (pe_op op_mul (pe_op op_addA (pe_ix (r := rIx _) ix_seq (pv 0) pe_int (fun _ _ => rfl)) (pe_op op_mul pe_int (pe_ix (r := rIx _) ix_seq (pv 0) pe_int (fun _ _ => rfl)))) pe_int) pe_int) pa_nil)) pe_int))
      (pss_cons (ps_asg (pe_op op_addA (pe_op op_mod (pe_callTy call_int1 (by rfl) B.int boot_int (pa_cons (pe_op op_addA (pe_op op_mul (pv 3) pe_int) pe_int) pa_nil)) pe_int) pe_int) (pg_sub (pv 0) pe_int set_list (fun _ => rfl)))
      (pss_one (ps_ret (pe_op op_mod (pe_callTy call_int1 (by rfl) B.int boot_int (pa_cons (pe_op op_fdiv (pe_op op_addA (pe_op op_mul (pv 3) pe_int) (pe_ix (r := rIx _) ix_seq (pv 0) pe_int (fun _ _ => rfl))) pe_int) pa_nil)) (pv 1)))))))),
      (ls_seq (ls_if (lt_test (le_op l2_cmp (le_op l2_ix le_var le_int) le_int)) (ls_seq (ls_set (i := 2) (le_op l2_intC (le_cb lc_int1 (la_cons (le_op l2_ix le_var le_int) la_nil)) le_var))
      (ls_seq (ls_boxPut (i := 0) (le_op l2_intC (le_op l2_ix le_var le_int) le_var))
      (ls_ret le_var))) ls_next)
      (ls_seq (ls_boxPut (i := 0) (le_op l2_add (le_op l2_ix le_var le_int) le_int))
      (ls_seq (ls_set (i := 3) (le_op l2_intC (le_cb lc_int1 (la_cons (le_op l2_add (le_op l2_intC (le_op l2_add (le_op l2_ix le_var le_int) (le_op l2_intC le_int (le_op l2_ix le_var le_int))) le_int) le_int) la_nil)) le_int))
      (ls_seq (ls_boxPut (i := 0) (le_op l2_add (le_op l2_intC (le_cb lc_int1 (la_cons (le_op l2_add (le_op l2_intC le_var le_int) le_int) la_nil)) le_int) le_int))
      (ls_ret (le_op l2_intC (le_cb lc_int1 (la_cons (le_op l2_intC (le_op l2_add (le_op l2_intC le_var le_int) (le_op l2_ix le_var le_int)) le_int) la_nil)) le_var)))))), fun ds Qd Ed hl h => ?_⟩
  obtain ⟨n, rfl, h1, h2, h⟩ := h
  have hq : ∀ z : Int, Qd (.int (z % (n : Int))) := fun z => by
    obtain ⟨r, e, hr⟩ := mod_nat z h1
    rw [e]
    exact h r hr
  have np : 0 < n := h1
  simp [dOf, dVar, dC, dOp, dUn, dNil, dCons, pys, dTup, oLst, dCB, oCB, dCall, dCall0, dCallR, fAdd, oOp, fCat, fInt, fIntC, fNeg, fEq, isNonD, fIsN, fIn, fIx, dTest, dAnd, dOr, dNot, dAndV, dOrV, dNotV, dIfE, dChain, dFld, dNext, dSeq, dRet, dRetN, dDrop, dIfS, dBreak, dCont, dSet, dSetO, setAll, dSetT, dPar, itSeq, itRange1, itRange2, itEnum, Tg.put, Tg.ix, dFor, wipeL, dYes, oLc, dAppend, dPutIx, dFreeze, unown, hasOwn, noLD, okL, dSnap, dSnapT, dRaise, startD, dNoPart, dPart, dSl, oSl, fLen, fInt1, fAbs, fInt2, fDivmod, fTuple, fList, fSorted, oSortedSet, fRepr, fAll, fSum, isIntD, isBoolD, isStrD, isTupD, isSeqD, fIsT, dIsLT, dAug, dPutF, dFldI, dMake, startI, putD, dTupRev, dNewBox, dBoxPut, nLawTakeN, List.map, List.cons_append, List.nil_append, List.append_eq, List.getElem?_cons_zero, List.getElem?_cons_succ, List.set_cons_zero, List.set_cons_succ, List.lookup_cons, List.lookup_nil, nb, CMul, CDiv, np, h2]
  intro c hc
  split
  · intro c1 hc1
    intro c2 hc2
    exact ⟨by omega, Int.ediv_nonneg hc2 (by omega), hq _⟩
  · intros
    exact hq _

/-- the box of draws for a turn -/
def spBoxOf (S : Sx) : SpD := fun ds Q _ => ∃ (ns : List Int) (k : Nat), ds = [.scr S.K ns, .int (k : Nat)] ∧ Q .box
def nLawBoxN : List Str := ["script", "k", "cell"]
theorem scLawBox : FnScope nLawBoxN ["script", "k"] (defScope sLawBox) := ⟨rfl, rfl, rfl, by decide +kernel, rfl, by decide +kernel, by decide +kernel⟩
theorem ok_law_box {f : Addr} {fd : FuncData} (F : Fun S.K "_law_box" "_law_box" sLawBox f fd) (B : Bare mg) (nb : S.nb = 3) : FnOk P w S.K mg base L2.CX0 1 f fd ["script", "k"] (spD S 2 (spBoxOf S)) := by
  have nd : nLawBoxN.Nodup := scLawBox.nd
  refine okD0 (N := nLawBoxN) (k := 0) F scLawBox (hb := fun cdv A outer s H E hr => ?_)
  have hu2 : (A.deeper (envOfC "_law_box" (defScope sLawBox) s.heap.objs.size f cdv)).units + 200 < cLine := by have := hr.un; omega
  have hu65 : (A.deeper (envOfC "_law_box" (defScope sLawBox) s.heap.objs.size f cdv)).units + 65 < cLine := by omega
  refine ⟨_, _, (pss_cons (ps_set (i := 2) nd rfl (Or.inl rfl) (pe_op op_addA (pe_op op_mul pe_int (pv 1)) pe_int))
      (pss_cons (ps_if (pt_cmpR op_lt (pv 1) (pe_callB (r := rLenA _) lenA (by rfl) B.len PySem.boot_len (pa_cons (pv 0) pa_nil)) (nomark _)) (pss_one (ps_set (i := 2) nd rfl (Or.inl rfl) (pe_callB call_abs (by rfl) B.abs (by decide +kernel) (pa_cons (pe_ix (r := rIx _) ix_seq (pv 0) (pv 1) (fun _ _ => rfl)) pa_nil)))) (pss_one (ps_if (pt_cmpR op_gt (pe_callB (r := rLenA _) lenA (by rfl) B.len PySem.boot_len (pa_cons (pv 0) pa_nil)) pe_int (nomark _)) (pss_one (ps_set (i := 2) nd rfl (Or.inl rfl) (pe_op op_addA (pv 2) (pe_op op_mul (pe_op op_mod (pe_callTy call_int1 (by rfl) B.int boot_int (pa_cons (pe_callB call_abs (by rfl) B.abs (by decide +kernel) (pa_cons (pe_ix (r := rIx _) ix_seq (pv 0) (pe_op op_mod (pe_callTy call_int1 (by rfl) B.int boot_int (pa_cons (pv 1) pa_nil)) (pe_callB (r := rLenA _) lenA (by rfl) B.len PySem.boot_len (pa_cons (pv 0) pa_nil))) (fun _ _ => rfl)) pa_nil)) pa_nil)) pe_int) pe_int)))) pss_nil)))
      (pss_one (ps_ret (pe_lst (pa_cons (pe_ix (r := rIx _) ix_seq (pe_lst (pa_cons pe_int (pa_cons (pv 2) pa_nil))) (pe_callTy call_int1 (by rfl) B.int boot_int (pa_cons (pe_cmpR op_ge (pv 2) (pe_op op_pow pe_int pe_int) (nomark _)) pa_nil)) (fun _ _ => rfl)) (pa_cons (pe_op op_addA (pe_op op_mod (pe_callTy call_int1 (by rfl) B.int boot_int (pa_cons (pe_op op_addA (pe_op op_mul (pe_op op_mod (pe_callTy call_int1 (by rfl) B.int boot_int (pa_cons (pv 2) pa_nil)) pe_int) pe_int) (pe_op op_mul pe_int (pv 1))) pa_nil)) pe_int) pe_int) (pa_cons pe_int pa_nil)))))))),
      (ls_seq (ls_set (i := 2) (le_op l2_add (le_op l2_intC le_int le_var) le_int))
      (ls_seq (ls_if (lt_test (le_op l2_cmp le_var (le_cb lc_len (la_cons le_var la_nil)))) (ls_set (i := 2) (le_cb lc_abs (la_cons (le_op l2_ix le_var le_var) la_nil))) (ls_if (lt_test (le_op l2_cmp (le_cb lc_len (la_cons le_var la_nil)) le_int)) (ls_set (i := 2) (le_op l2_add le_var (le_op l2_intC (le_op l2_intC (le_cb lc_int1 (la_cons (le_cb lc_abs (la_cons (le_op l2_ix le_var (le_op l2_intC (le_cb lc_int1 (la_cons le_var la_nil)) (le_cb lc_len (la_cons le_var la_nil)))) la_nil)) la_nil)) le_int) le_int))) ls_next))
      (ls_ret (le_newBox (lo_lst (la_cons (le_op l2_ix (LO.le (lo_lst (la_cons le_int (la_cons le_var la_nil)) (by decide))) (le_cb lc_int1 (la_cons (le_op l2_cmp le_var (le_op l2_intC le_int le_int)) la_nil))) (la_cons (le_op l2_add (le_op l2_intC (le_cb lc_int1 (la_cons (le_op l2_add (le_op l2_intC (le_op l2_intC (le_cb lc_int1 (la_cons le_var la_nil)) le_int) le_int) (le_op l2_intC le_int le_var)) la_nil)) le_int) le_int) (la_cons le_int la_nil))) (by decide)))))), fun ds Qd Ed hl h => ?_⟩
  obtain ⟨ns, k, rfl, h⟩ := h
  have sel : ∀ (c c1 : Int), ∃ d, atI [PyData.int 0, PyData.int c] (if 1000000000000000000 ≤ c then 1 else 0) = some d ∧ isBox 3 [d, .int c1, .int 0] ∧ Qd .box := fun c c1 => by
    split
    · rename_i hc
      exact ⟨.int c, atI_nat (j := 1) rfl, ⟨rfl, c, [c1, 0], rfl, by omega⟩, h⟩
    · exact ⟨.int 0, atI_nat (j := 0) rfl, ⟨rfl, 0, [c1, 0], rfl, by omega⟩, h⟩
  have cp : CPow 10 18 := by refine ⟨by decide, by decide, by decide⟩
  simp [dOf, dVar, dC, dOp, dUn, dNil, dCons, pys, dTup, oLst, dCB, oCB, dCall, dCall0, dCallR, fAdd, oOp, fCat, fInt, fIntC, fNeg, fEq, isNonD, fIsN, fIn, fIx, dTest, dAnd, dOr, dNot, dAndV, dOrV, dNotV, dIfE, dChain, dFld, dNext, dSeq, dRet, dRetN, dDrop, dIfS, dBreak, dCont, dSet, dSetO, setAll, dSetT, dPar, itSeq, itRange1, itRange2, itEnum, Tg.put, Tg.ix, dFor, wipeL, dYes, oLc, dAppend, dPutIx, dFreeze, unown, hasOwn, noLD, okL, dSnap, dSnapT, dRaise, startD, dNoPart, dPart, dSl, oSl, fLen, fInt1, fAbs, fInt2, fDivmod, fTuple, fList, fSorted, oSortedSet, fRepr, fAll, fSum, isIntD, isBoolD, isStrD, isTupD, isSeqD, fIsT, dIsLT, dAug, dPutF, dFldI, dMake, startI, putD, dTupRev, dNewBox, dBoxPut, nLawBoxN, List.map, List.cons_append, List.nil_append, List.append_eq, List.getElem?_cons_zero, List.getElem?_cons_succ, List.set_cons_zero, List.set_cons_succ, List.lookup_cons, List.lookup_nil, nb, CMul, CDiv, cp, sel]
  split
  · rename_i hk
    exact ⟨_, atI_nat (List.getElem?_eq_getElem hk)⟩
  · intro hp
    have hm := Nat.mod_lt k hp
    exact ⟨hp, _, by rw [← Int.natCast_emod]; exact atI_nat (List.getElem?_eq_getElem hm)⟩

/-- one of some -/
def spPick : SpD := fun ds Q _ => ∃ l : List PyData, ds = [.box, .lst l] ∧ 1 ≤ l.length ∧ l.length < 1073741824 ∧ ∀ d ∈ l, Q (.py d)
def nLawPickN : List Str := ["box", "some"]
theorem scLawPick : FnScope nLawPickN ["box", "some"] (defScope sLawPick) := ⟨rfl, rfl, rfl, by decide +kernel, rfl, by decide +kernel, by decide +kernel⟩
theorem ok_law_pick {f : Addr} {fd : FuncData} (F : Fun S.K "_law_pick" "_law_pick" sLawPick f fd) (B : Bare mg) (Gt : Has P w S.K mg base L2.CX0 1 "_law_take" ["box", "many"] (spD S 2 spTake)) : FnOk P w S.K mg base L2.CX0 2 f fd ["box", "some"] (spD S 2 spPick) := by
  have nd : nLawPickN.Nodup := scLawPick.nd
  refine okD0 (N := nLawPickN) (k := 1) F scLawPick (hb := fun cdv A outer s H E hr => ?_)
  have hu2 : (A.deeper (envOfC "_law_pick" (defScope sLawPick) s.heap.objs.size f cdv)).units + 200 < cLine := by have := hr.un; omega
  have hu65 : (A.deeper (envOfC "_law_pick" (defScope sLawPick) s.heap.objs.size f cdv)).units + 65 < cLine := by omega
  refine ⟨_, _, (pss_one (ps_ret (pe_ix (r := rIx _) ix_seq (pv 1) (pe_has Gt (hr.mono (by decide)) (by rfl) (pa_cons (pv 0) (pa_cons (pe_callB (r := rLenA _) lenA (by rfl) B.len PySem.boot_len (pa_cons (pv 1) pa_nil)) pa_nil))) (fun _ _ => rfl)))),
      (ls_ret (le_op l2_ix le_var (le_call0 (la_cons le_var (la_cons (le_cb lc_len (la_cons le_var la_nil)) la_nil))))), fun ds Qd Ed hl h => ?_⟩
  obtain ⟨l, rfl, h1, h2, h⟩ := h
  simp [dOf, dVar, dC, dOp, dUn, dNil, dCons, pys, dTup, oLst, dCB, oCB, dCall, dCall0, dCallR, fAdd, oOp, fCat, fInt, fIntC, fNeg, fEq, isNonD, fIsN, fIn, fIx, dTest, dAnd, dOr, dNot, dAndV, dOrV, dNotV, dIfE, dChain, dFld, dNext, dSeq, dRet, dRetN, dDrop, dIfS, dBreak, dCont, dSet, dSetO, setAll, dSetT, dPar, itSeq, itRange1, itRange2, itEnum, Tg.put, Tg.ix, dFor, wipeL, dYes, oLc, dAppend, dPutIx, dFreeze, unown, hasOwn, noLD, okL, dSnap, dSnapT, dRaise, startD, dNoPart, dPart, dSl, oSl, fLen, fInt1, fAbs, fInt2, fDivmod, fTuple, fList, fSorted, oSortedSet, fRepr, fAll, fSum, isIntD, isBoolD, isStrD, isTupD, isSeqD, fIsT, dIsLT, dAug, dPutF, dFldI, dMake, startI, putD, dTupRev, dNewBox, dBoxPut, nLawPickN, List.map, List.cons_append, List.nil_append, List.append_eq, List.getElem?_cons_zero, List.getElem?_cons_succ, List.set_cons_zero, List.set_cons_succ, List.lookup_cons, List.lookup_nil]
  refine ⟨l.length, rfl, h1, h2, fun r hr => ?_⟩
  exact ⟨_, atI_nat (List.getElem?_eq_getElem hr), h _ (List.getElem_mem hr)⟩

/-- each item is like the one that many before it -/
def spIsRep : SpD := fun ds Q _ => ∃ (l : List Int) (s : Nat), ds = [.lst (l.map .int), .int (s : Nat)] ∧ l.length < 1000 ∧ s < 1000 ∧ Q (.bl (repB l s))
def nLawIsRepeatingN : List Str := ["row", "step", "at"]
theorem scLawIsRepeating : FnScope nLawIsRepeatingN ["row", "step"] (defScope sLawIsRepeating) := ⟨rfl, rfl, rfl, by decide +kernel, rfl, by decide +kernel, by decide +kernel⟩
theorem ok_law_is_repeating {f : Addr} {fd : FuncData} (F : Fun S.K "_law_is_repeating" "_law_is_repeating" sLawIsRepeating f fd) (B : Bare mg) : FnOk P w S.K mg base L2.CX0 1 f fd ["row", "step"] (spD S 2 spIsRep) := by
  have nd : nLawIsRepeatingN.Nodup := scLawIsRepeating.nd
  refine okD0 (N := nLawIsRepeatingN) (k := 0) F scLawIsRepeating (hb := fun cdv A outer s H E hr => ?_)
  have hu2 : (A.deeper (envOfC "_law_is_repeating" (defScope sLawIsRepeating) s.heap.objs.size f cdv)).units + 200 < cLine := by have := hr.un; omega
  have hu65 : (A.deeper (envOfC "_law_is_repeating" (defScope sLawIsRepeating) s.heap.objs.size f cdv)).units + 65 < cLine := by omega
  refine ⟨_, _, (pss_one (ps_ret (pe_cmpR (op_eqD hr.units) (pe_lc (own := [("at", 2)]) (g := gName 2) rfl nd (pi_range2 (by rfl) B.range (pa_cons (pv 1) (pa_cons (pe_callB (r := rLenA _) lenA (by rfl) B.len PySem.boot_len (pa_cons (pv 0) pa_nil)) pa_nil))) (blkOk_by (N := nLawIsRepeatingN) (sc := defScope sLawIsRepeating) (by decide +kernel)) (fun _ _ _ _ _ => (pg_name (i := 2) nd rfl (Or.inl rfl))) (fun _ _ _ _ _ => (pts_one (pt_cmpR (op_neD hr.units) (pe_ix (r := rIx _) ix_seq (pv 0) (pv 2) (fun _ _ => rfl)) (pe_ix (r := rIx _) ix_seq (pv 0) (pe_op op_sub (pv 2) (pv 1)) (fun _ _ => rfl)) (nomark _)))) (fun _ _ _ _ _ => (pv 2))) (pe_lst pa_nil) (nomark _)))),
      (ls_ret (le_op l2_eq (LO.le (lo_lc (g := .one 2) (li_range2 (la_cons le_var (la_cons (le_cb lc_len (la_cons le_var la_nil)) la_nil))) (lt_test (le_op l2_ne (le_op l2_ix le_var le_var) (le_op l2_ix le_var (le_op l2_sub le_var le_var)))) le_var)) (LO.le (lo_lst la_nil (by decide))))), fun ds Qd Ed hl h => ?_⟩
  obtain ⟨l, s, rfl, h1, h2, h⟩ := h
  simp [dOf, dVar, dC, dOp, dUn, dNil, dCons, pys, dTup, oLst, dCB, oCB, dCall, dCall0, dCallR, fAdd, oOp, fCat, fInt, fIntC, fNeg, fEq, isNonD, fIsN, fIn, fIx, dTest, dAnd, dOr, dNot, dAndV, dOrV, dNotV, dIfE, dChain, dFld, dNext, dSeq, dRet, dRetN, dDrop, dIfS, dBreak, dCont, dSet, dSetO, setAll, dSetT, dPar, itSeq, itRange1, itRange2, itEnum, Tg.put, Tg.ix, dFor, wipeL, dYes, oLc, dAppend, dPutIx, dFreeze, unown, hasOwn, noLD, okL, dSnap, dSnapT, dRaise, startD, dNoPart, dPart, dSl, oSl, fLen, fInt1, fAbs, fInt2, fDivmod, fTuple, fList, fSorted, oSortedSet, fRepr, fAll, fSum, isIntD, isBoolD, isStrD, isTupD, isSeqD, fIsT, dIsLT, dAug, dPutF, dFldI, dMake, startI, putD, dTupRev, dNewBox, dBoxPut, nLawIsRepeatingN, List.map, List.cons_append, List.nil_append, List.append_eq, List.getElem?_cons_zero, List.getElem?_cons_succ, List.set_cons_zero, List.set_cons_succ, List.lookup_cons, List.lookup_nil]
  refine ⟨⟨by omega, by omega⟩, ⟨by omega, by omega⟩, ?_⟩
  refine turns_rg (missB l s) (fun i => .int ((s : Int) + i)) (by omega) (fun i hi => ⟨_, rfl, fun K hK => ?_, fun _ K hK => ?_⟩) ?_
  · simp [dOf, dVar, dC, dOp, dUn, dNil, dCons, pys, dTup, oLst, dCB, oCB, dCall, dCall0, dCallR, fAdd, oOp, fCat, fInt, fIntC, fNeg, fEq, isNonD, fIsN, fIn, fIx, dTest, dAnd, dOr, dNot, dAndV, dOrV, dNotV, dIfE, dChain, dFld, dNext, dSeq, dRet, dRetN, dDrop, dIfS, dBreak, dCont, dSet, dSetO, setAll, dSetT, dPar, itSeq, itRange1, itRange2, itEnum, Tg.put, Tg.ix, dFor, wipeL, dYes, oLc, dAppend, dPutIx, dFreeze, unown, hasOwn, noLD, okL, dSnap, dSnapT, dRaise, startD, dNoPart, dPart, dSl, oSl, fLen, fInt1, fAbs, fInt2, fDivmod, fTuple, fList, fSorted, oSortedSet, fRepr, fAll, fSum, isIntD, isBoolD, isStrD, isTupD, isSeqD, fIsT, dIsLT, dAug, dPutF, dFldI, dMake, startI, putD, dTupRev, dNewBox, dBoxPut, List.map, List.cons_append, List.nil_append, List.append_eq, List.getElem?_cons_zero, List.getElem?_cons_succ, List.set_cons_zero, List.set_cons_succ, List.lookup_cons, List.lookup_nil]
    refine ⟨.int (l.getD (s + i) 0), atI_nat (j := s + i) (at_int (by omega)), .int (l.getD i 0), by rw [show (s : Int) + i - s = (i : Nat) by omega]; exact atI_nat (at_int (by omega)), ?_⟩
    have z : missB l s i = !decide (l.getD (s + i) 0 = l.getD i 0) := by simp [missB]
    rw [z] at hK
    show K (!decide (l.getD (s + i) 0 = l.getD i 0))
    exact hK
  · simp [dOf, dVar, dC, dOp, dUn, dNil, dCons, pys, dTup, oLst, dCB, oCB, dCall, dCall0, dCallR, fAdd, oOp, fCat, fInt, fIntC, fNeg, fEq, isNonD, fIsN, fIn, fIx, dTest, dAnd, dOr, dNot, dAndV, dOrV, dNotV, dIfE, dChain, dFld, dNext, dSeq, dRet, dRetN, dDrop, dIfS, dBreak, dCont, dSet, dSetO, setAll, dSetT, dPar, itSeq, itRange1, itRange2, itEnum, Tg.put, Tg.ix, dFor, wipeL, dYes, oLc, dAppend, dPutIx, dFreeze, unown, hasOwn, noLD, okL, dSnap, dSnapT, dRaise, startD, dNoPart, dPart, dSl, oSl, fLen, fInt1, fAbs, fInt2, fDivmod, fTuple, fList, fSorted, oSortedSet, fRepr, fAll, fSum, isIntD, isBoolD, isStrD, isTupD, isSeqD, fIsT, dIsLT, dAug, dPutF, dFldI, dMake, startI, putD, dTupRev, dNewBox, dBoxPut, List.map, List.cons_append, List.nil_append, List.append_eq, List.getElem?_cons_zero, List.getElem?_cons_succ, List.set_cons_zero, List.set_cons_succ, List.lookup_cons, List.lookup_nil]
    exact hK
  · have e : ((List.range (l.length - s)).filter (missB l s)).map (fun i : Nat => PyData.int ((s : Int) + i)) = (((List.range (l.length - s)).filter (missB l s)).map (fun i : Nat => (s : Int) + i)).map PyData.int := by rw [List.map_map]; rfl
    rw [e]
    refine ⟨shp_lst _, shp_lst [], ?_⟩
    rw [show PyData.eqv (.list ((((List.range (l.length - s)).filter (missB l s)).map (fun i : Nat => (s : Int) + i)).map PyData.int)) (.list []) = _ from eqv_list_ints _ []]
    exact h

end
end Lw

set_option Elab.async false
set_option linter.all false
set_option maxRecDepth 100000
set_option maxHeartbeats 4000000
namespace Lw
open PySem PySem.Spec PyProof.Rows L2 Lx Dl Pg
section
variable {P : Program} {w : World} {mg : Str → Option Value} {base : Heap} {S : Sx}
variable {CM CR CF : Addr}
def intB (n : Nat) (d : PyData) : Prop := ∃ r : Nat, d = .int (r : Nat) ∧ r < n
theorem ints_of {n : Nat} : ∀ {l : List PyData}, (∀ d ∈ l, intB n d) → ∃ ns : List Int, l = ns.map .int ∧ ∀ d ∈ ns, 0 ≤ d ∧ d < n
  | [], _ => ⟨[], rfl, fun d h => by cases h⟩
  | d :: l, h => by
    obtain ⟨ns, e, hn⟩ := ints_of fun x hx => h x (List.mem_cons_of_mem _ hx)
    obtain ⟨r, er, hr⟩ := h d List.mem_cons_self
    refine ⟨(r : Int) :: ns, by rw [e, er]; rfl, fun x hx => ?_⟩
    rcases List.mem_cons.mp hx with rfl | hx
    · exact ⟨by omega, by omega⟩
    · exact hn x hx
theorem take_eq {i : Int} {Q : DV → Prop} {Ed : Er → Prop} : spTake [.box, .int i] Q Ed = (1 ≤ i ∧ i < 1073741824 ∧ ∀ r : Nat, (r : Int) < i → Q (.int (r : Nat))) := by
  apply propext
  constructor
  · rintro ⟨n, e, h1, h2, h⟩
    cases e
    exact ⟨by omega, by omega, fun r hr => h r (by omega)⟩
  · rintro ⟨h1, h2, h⟩
    exact ⟨i.toNat, by rw [Int.toNat_of_nonneg (by omega)], by omega, by omega, fun r hr => h r (by omega)⟩
/-- a row of deeds -/
def spRow : SpD := fun ds Q _ => ∃ n : Nat, ds = [.box, .int (n : Nat)] ∧ 1 ≤ n ∧ n ≤ 4 ∧ ∀ l : List Int, l.length ≤ 20 → (∀ d ∈ l, 0 ≤ d ∧ d < n) → Q (.lst (l.map .int))
def nLawRowN : List Str := ["box", "deeds", "turn", "word", "row"]
theorem scLawRow : FnScope nLawRowN ["box", "deeds"] (defScope sLawRow) := ⟨rfl, rfl, rfl, by decide +kernel, rfl, by decide +kernel, by decide +kernel⟩
theorem ok_law_row {f : Addr} {fd : FuncData} (F : Fun S.K "_law_row" "_law_row" sLawRow f fd) (B : Bare mg) (Gt : Has P w S.K mg base L2.CX0 1 "_law_take" ["box", "many"] (spD S 2 spTake)) : FnOk P w S.K mg base L2.CX0 2 f fd ["box", "deeds"] (spD S 2 spRow) := by
  have nd : nLawRowN.Nodup := scLawRow.nd
  refine okD0 (N := nLawRowN) (k := 1) F scLawRow (hb := fun cdv A outer s H E hr => ?_)
  have hu2 : (A.deeper (envOfC "_law_row" (defScope sLawRow) s.heap.objs.size f cdv)).units + 200 < cLine := by have := hr.un; omega
  have hu65 : (A.deeper (envOfC "_law_row" (defScope sLawRow) s.heap.objs.size f cdv)).units + 65 < cLine := by omega
  refine ⟨_, _, (pss_cons (ps_setLc (i := 3) (own := [("turn", 2)]) (g := gName 2) (tt := tYes) rfl nd rfl rfl (sw_true rfl rfl rfl (by decide +kernel)) (pi_range1 (by rfl) B.range (pa_cons (pe_op op_addA pe_int (pe_has Gt (hr.mono (by decide)) (by rfl) (pa_cons (pv 0) (pa_cons pe_int pa_nil)))) pa_nil)) (blkOk_by (N := nLawRowN) (sc := defScope sLawRow) (by decide +kernel)) (fun _ _ _ _ _ => (pg_name (i := 2) nd rfl (Or.inl rfl))) (fun _ _ _ _ _ => pts_nil) (fun _ _ _ _ _ => (pe_has Gt (hr.mono (by decide)) (by rfl) (pa_cons (pv 0) (pa_cons (pv 1) pa_nil)))))
      (pss_cons (ps_set (i := 4) nd rfl (Or.inl rfl) (pe_slice (r := rSlAny _) sl_any (pe_op op_rep (pv 3) pe_int) po_none (po_some (pe_has Gt (hr.mono (by decide)) (by rfl) (pa_cons (pv 0) (pa_cons pe_int pa_nil))))))
      (C8.pss_cut (ps_if (pt_cmpR (op_eqD hr.units) (pe_has Gt (hr.mono (by decide)) (by rfl) (pa_cons (pv 0) (pa_cons pe_int pa_nil))) pe_int (nomark _)) (pss_one (ps_setLc (i := 4) (own := [("turn", 2)]) (g := gName 2) (tt := tYes) rfl nd rfl rfl (sw_true rfl rfl rfl (by decide +kernel)) (pi_range1 (by rfl) B.range (pa_cons (pe_has Gt (hr.mono (by decide)) (by rfl) (pa_cons (pv 0) (pa_cons pe_int pa_nil))) pa_nil)) (blkOk_by (N := nLawRowN) (sc := defScope sLawRow) (by decide +kernel)) (fun _ _ _ _ _ => (pg_name (i := 2) nd rfl (Or.inl rfl))) (fun _ _ _ _ _ => pts_nil) (fun _ _ _ _ _ => (pe_has Gt (hr.mono (by decide)) (by rfl) (pa_cons (pv 0) (pa_cons (pv 1) pa_nil)))))) pss_nil)
      (C8.pss_cut (ps_if (PW.pt (pw_and (pt_cmpR (op_neD hr.units) (pv 4) (pe_lst pa_nil) (nomark _)) (pw_and1 (pt_cmpR (op_eqD hr.units) (pe_has Gt (hr.mono (by decide)) (by rfl) (pa_cons (pv 0) (pa_cons pe_int pa_nil))) pe_int (nomark _))))) (pss_one (ps_asg (pe_has Gt (hr.mono (by decide)) (by rfl) (pa_cons (pv 0) (pa_cons (pv 1) pa_nil))) (pg_sub (pv 4) (pe_has Gt (hr.mono (by decide)) (by rfl) (pa_cons (pv 0) (pa_cons (pe_callB (r := rLenA _) lenA (by rfl) B.len PySem.boot_len (pa_cons (pv 4) pa_nil)) pa_nil))) set_list (fun _ => rfl)))) pss_nil)
      (pss_one (ps_ret (pe_op op_addA (pe_lc (own := [("turn", 2)]) (g := gName 2) (tt := tYes) rfl nd (pi_range1 (by rfl) B.range (pa_cons (pe_has Gt (hr.mono (by decide)) (by rfl) (pa_cons (pv 0) (pa_cons pe_int pa_nil))) pa_nil)) (blkOk_by (N := nLawRowN) (sc := defScope sLawRow) (by decide +kernel)) (fun _ _ _ _ _ => (pg_name (i := 2) nd rfl (Or.inl rfl))) (fun _ _ _ _ _ => pts_nil) (fun _ _ _ _ _ => (pe_has Gt (hr.mono (by decide)) (by rfl) (pa_cons (pv 0) (pa_cons (pv 1) pa_nil))))) (pv 4)))))))),
      (ls_seq (ls_set (i := 3) (LO.le (lo_lc (g := .one 2) (li_range1 (la_cons (le_op l2_add le_int (le_call0 (la_cons le_var (la_cons le_int la_nil)))) la_nil)) lt_yes (le_call0 (la_cons le_var (la_cons le_var la_nil))))))
      (ls_seq (ls_setO (i := 4) (lo_sl (LO.le (lo_op l2o_rep le_var le_int)) lp_none (lp_some (le_call0 (la_cons le_var (la_cons le_int la_nil))))))
      (ls_cut (ls_if (lt_snap (lt_test (le_op l2_eq (le_call0 (la_cons le_var (la_cons le_int la_nil))) le_int))) (ls_setO (i := 4) (lo_lc (g := .one 2) (li_range1 (la_cons (le_call0 (la_cons le_var (la_cons le_int la_nil))) la_nil)) lt_yes (le_call0 (la_cons le_var (la_cons le_var la_nil))))) ls_next)
      (ls_cut (ls_if (lt_snap (lt_and (lt_test (le_op l2_ne le_var (LO.le (lo_lst la_nil (by decide))))) (lt_test (le_op l2_eq (le_call0 (la_cons le_var (la_cons le_int la_nil))) le_int)))) (ls_putIx (i := 4) (le_snap (le_call0 (la_cons le_var (la_cons le_var la_nil)))) (le_snap (le_call0 (la_cons le_var (la_cons (le_cb lc_len (la_cons le_var la_nil)) la_nil))))) ls_next)
      (ls_freeze (i := 4) (ls_ret (le_op l2_add (LO.le (lo_lc (g := .one 2) (li_range1 (la_cons (le_call0 (la_cons le_var (la_cons le_int la_nil))) la_nil)) lt_yes (le_call0 (la_cons le_var (la_cons le_var la_nil))))) le_var))))))), fun ds Qd Ed hl h => ?_⟩
  obtain ⟨n, rfl, h1, h4, h⟩ := h
  have draws : ∀ {ρ : Rho} {k : Nat} {Q : List PyData → Prop}, k ≤ 900 → ρ[0]? = some (some (.dv .box)) → ρ[1]? = some (some (.dv (.int (n : Nat)))) → (∀ l : List Int, l.length = k → (∀ d ∈ l, 0 ≤ d ∧ d < n) → Q (l.map .int)) → dTurns (Tg.one 2) dYes (dCall0 spTake (dCons (dVar 0) (dCons (dVar 1) dNil))) (fun x => False) Q ρ (rangeD 0 k) [] := fun {ρ k Q} hk r0 r1 hq => by
    refine turns_any (intB n) (by rw [rangeD_len]; omega) (fun d hd => ⟨_, rfl, fun K hK => ?_⟩) (fun xs hx hp => ?_)
    · have e0 : (ρ.set 2 (some (SV.dv (.py d))))[0]? = some (some (.dv .box)) := by rw [List.getElem?_set_ne (by decide)]; exact r0
      have e1 : (ρ.set 2 (some (SV.dv (.py d))))[1]? = some (some (.dv (.int (n : Nat)))) := by rw [List.getElem?_set_ne (by decide)]; exact r1
      simp only [dCall0, dCons, dVar, dNil, e0, e1]
      rw [take_eq]
      exact ⟨by omega, by omega, fun r hr => hK _ ⟨r, rfl, by omega⟩⟩
    · obtain ⟨ns, rfl, hn⟩ := ints_of hp
      exact hq ns (by simpa [rangeD_len] using hx) hn
  simp [dOf, dVar, dC, dOp, dUn, dNil, dCons, pys, dTup, oLst, dCB, oCB, dCall, dCall0, dCallR, fAdd, oOp, fCat, fInt, fIntC, fNeg, fEq, isNonD, fIsN, fIn, fIx, dTest, dAnd, dOr, dNot, dAndV, dOrV, dNotV, dIfE, dChain, dFld, dNext, dSeq, dRet, dRetN, dDrop, dIfS, dBreak, dCont, dSet, dSetO, setAll, dSetT, dPar, itSeq, itRange1, itRange2, itEnum, Tg.put, Tg.ix, dFor, wipeL, dYes, oLc, dAppend, dPutIx, dFreeze, unown, hasOwn, noLD, okL, dSnap, dSnapT, dRaise, startD, dNoPart, dPart, dSl, oSl, fLen, fInt1, fAbs, fInt2, fDivmod, fTuple, fList, fSorted, oSortedSet, fRepr, fAll, fSum, isIntD, isBoolD, isStrD, isTupD, isSeqD, fIsT, dIsLT, dAug, dPutF, dFldI, dMake, startI, putD, dTupRev, dNewBox, dBoxPut, fRep, nLawRowN, List.map, List.cons_append, List.nil_append, List.append_eq, List.getElem?_cons_zero, List.getElem?_cons_succ, List.set_cons_zero, List.set_cons_succ, List.lookup_cons, List.lookup_nil, take_eq]
  intro r hr
  refine ⟨⟨by omega, by omega⟩, ?_⟩
  rw [show (1 + (r : Int)).toNat = 1 + r by omega]
  refine draws (by omega) rfl rfl fun wd hw okw => ?_
  refine ⟨by rw [List.length_map]; omega, fun r2 hr2 => ?_⟩
  have e0 : ∃ l0 : List Int, Dl.cutD (wd.map PyData.int ++ (wd.map PyData.int ++ (wd.map PyData.int ++ (wd.map PyData.int ++ (wd.map PyData.int ++ (wd.map PyData.int ++ (wd.map PyData.int ++ wd.map PyData.int))))))) none (some (r2 : Int)) = l0.map .int ∧ l0.length ≤ 13 ∧ ∀ d ∈ l0, 0 ≤ d ∧ d < (n : Int) := by
    rw [cutD_to]
    simp only [← List.map_append, ← List.map_take]
    refine ⟨_, rfl, by rw [List.length_take]; omega, fun d hd => ?_⟩
    have hd := List.mem_of_mem_take hd
    simp only [List.mem_append] at hd
    exact okw d (by rcases hd with h | h | h | h | h | h | h | h <;> exact h)
  obtain ⟨l0, e0, len0, ok0⟩ := e0
  rw [e0]
  unfold dCut
  refine ⟨fun ρ => ∃ l1 : List Int, ρ = [some (.dv .box), some (.dv (.int (n : Nat))), none, some (.dv (.lst (wd.map .int))), some (.own (l1.map .int))] ∧ l1.length ≤ 13 ∧ ∀ d ∈ l1, 0 ≤ d ∧ d < (n : Int), ?_, ?_⟩
  · simp [dOf, dVar, dC, dOp, dUn, dNil, dCons, pys, dTup, oLst, dCB, oCB, dCall, dCall0, dCallR, fAdd, oOp, fCat, fInt, fIntC, fNeg, fEq, isNonD, fIsN, fIn, fIx, dTest, dAnd, dOr, dNot, dAndV, dOrV, dNotV, dIfE, dChain, dFld, dNext, dSeq, dRet, dRetN, dDrop, dIfS, dBreak, dCont, dSet, dSetO, setAll, dSetT, dPar, itSeq, itRange1, itRange2, itEnum, Tg.put, Tg.ix, dFor, wipeL, dYes, oLc, dAppend, dPutIx, dFreeze, unown, hasOwn, noLD, okL, dSnap, dSnapT, dRaise, startD, dNoPart, dPart, dSl, oSl, fLen, fInt1, fAbs, fInt2, fDivmod, fTuple, fList, fSorted, oSortedSet, fRepr, fAll, fSum, isIntD, isBoolD, isStrD, isTupD, isSeqD, fIsT, dIsLT, dAug, dPutF, dFldI, dMake, startI, putD, dTupRev, dNewBox, dBoxPut, fRep, List.map, List.cons_append, List.nil_append, List.append_eq, List.getElem?_cons_zero, List.getElem?_cons_succ, List.set_cons_zero, List.set_cons_succ, List.lookup_cons, List.lookup_nil, take_eq]
    intro r3 hr3
    split
    · intro r4 hr4
      refine ⟨⟨by omega, by omega⟩, draws (by omega) rfl rfl fun l1 h1l ok1 => ?_⟩
      exact ⟨l1, rfl, by omega, ok1⟩
    · exact ⟨l0, rfl, len0, ok0⟩
  rintro ρ ⟨l1, rfl, len1, ok1⟩
  refine ⟨fun ρ => ∃ l2 : List Int, ρ = [some (.dv .box), some (.dv (.int (n : Nat))), none, some (.dv (.lst (wd.map .int))), some (.own (l2.map .int))] ∧ l2.length ≤ 13 ∧ ∀ d ∈ l2, 0 ≤ d ∧ d < (n : Int), ?_, ?_⟩
  · simp [dOf, dVar, dC, dOp, dUn, dNil, dCons, pys, dTup, oLst, dCB, oCB, dCall, dCall0, dCallR, fAdd, oOp, fCat, fInt, fIntC, fNeg, fEq, isNonD, fIsN, fIn, fIx, dTest, dAnd, dOr, dNot, dAndV, dOrV, dNotV, dIfE, dChain, dFld, dNext, dSeq, dRet, dRetN, dDrop, dIfS, dBreak, dCont, dSet, dSetO, setAll, dSetT, dPar, itSeq, itRange1, itRange2, itEnum, Tg.put, Tg.ix, dFor, wipeL, dYes, oLc, dAppend, dPutIx, dFreeze, unown, hasOwn, noLD, okL, dSnap, dSnapT, dRaise, startD, dNoPart, dPart, dSl, oSl, fLen, fInt1, fAbs, fInt2, fDivmod, fTuple, fList, fSorted, oSortedSet, fRepr, fAll, fSum, isIntD, isBoolD, isStrD, isTupD, isSeqD, fIsT, dIsLT, dAug, dPutF, dFldI, dMake, startI, putD, dTupRev, dNewBox, dBoxPut, fRep, List.map, List.cons_append, List.nil_append, List.append_eq, List.getElem?_cons_zero, List.getElem?_cons_succ, List.set_cons_zero, List.set_cons_succ, List.lookup_cons, List.lookup_nil, take_eq]
    refine ⟨shp_lst _, shp_lst [], ?_⟩
    rw [show PyData.eqv (.list (l1.map .int)) (.list []) = _ from eqv_list_ints l1 []]
    by_cases z : l1 = []
    · subst z
      simp
    · have len0 : 0 < l1.length := List.length_pos_iff.mpr z
      simp [z]
      intro r3 hr3
      split
      · refine ⟨by omega, by omega, fun x hx => ⟨rfl, by omega, by omega, fun y hy => ⟨rfl, y, ?_, ?_⟩⟩⟩
        · unfold ixN
          rw [if_pos (by omega), if_pos (by omega)]
          simp
        · refine ⟨l1.set y (x : Int), by rw [List.map_set], by rw [List.length_set]; exact len1, fun d hd => ?_⟩
          rcases List.mem_or_eq_of_mem_set hd with hd | rfl
          · exact ok1 d hd
          · omega
      · exact ⟨l1, rfl, len1, ok1⟩
  rintro ρ ⟨l2, rfl, len2, ok2⟩
  simp [dOf, dVar, dC, dOp, dUn, dNil, dCons, pys, dTup, oLst, dCB, oCB, dCall, dCall0, dCallR, fAdd, oOp, fCat, fInt, fIntC, fNeg, fEq, isNonD, fIsN, fIn, fIx, dTest, dAnd, dOr, dNot, dAndV, dOrV, dNotV, dIfE, dChain, dFld, dNext, dSeq, dRet, dRetN, dDrop, dIfS, dBreak, dCont, dSet, dSetO, setAll, dSetT, dPar, itSeq, itRange1, itRange2, itEnum, Tg.put, Tg.ix, dFor, wipeL, dYes, oLc, dAppend, dPutIx, dFreeze, unown, hasOwn, noLD, okL, dSnap, dSnapT, dRaise, startD, dNoPart, dPart, dSl, oSl, fLen, fInt1, fAbs, fInt2, fDivmod, fTuple, fList, fSorted, oSortedSet, fRepr, fAll, fSum, isIntD, isBoolD, isStrD, isTupD, isSeqD, fIsT, dIsLT, dAug, dPutF, dFldI, dMake, startI, putD, dTupRev, dNewBox, dBoxPut, fRep, List.map, List.cons_append, List.nil_append, List.append_eq, List.getElem?_cons_zero, List.getElem?_cons_succ, List.set_cons_zero, List.set_cons_succ, List.lookup_cons, List.lookup_nil, take_eq]
  intro r3 hr3
  refine ⟨⟨by omega, by omega⟩, draws (by omega) rfl rfl fun l3 len3 ok3 => ?_⟩
  refine ⟨by rw [List.length_map]; omega, ?_⟩
  · rw [← List.map_append]
    refine h _ (by rw [List.length_append]; omega) fun d hd => ?_
    rcases List.mem_append.mp hd with hd | hd
    · exact ok3 d hd
    · exact ok2 d hd

end
end Lw

set_option Elab.async false
set_option linter.all false
set_option maxRecDepth 100000
set_option maxHeartbeats 4000000
namespace Lw
open PySem PySem.Spec PyProof.Rows L2 Lx Dl Pg
section
variable {P : Program} {w : World} {mg : Str → Option Value} {base : Heap} {S : Sx}
variable {CM CR CF : Addr}
def spDivisor : SpD := fun ds Q _ => ∃ a b : Nat, ds = [.int (a : Nat), .int (b : Nat)] ∧ 1 ≤ a ∧ a ≤ 1000 ∧ Q (.int ((Nat.gcd a b : Nat) : Int))
def nLawDivisorN : List Str := ["one", "other", "number"]
theorem scLawDivisor : FnScope nLawDivisorN ["one", "other"] (defScope sLawDivisor) := ⟨rfl, rfl, rfl, by decide +kernel, rfl, by decide +kernel, by decide +kernel⟩
theorem ok_law_divisor {f : Addr} {fd : FuncData} (F : Fun S.K "_law_divisor" "_law_divisor" sLawDivisor f fd) (B : Bare mg) : FnOk P w S.K mg base L2.CX0 1 f fd ["one", "other"] (spD S 2 spDivisor) := by
  have nd : nLawDivisorN.Nodup := scLawDivisor.nd
  refine okD0 (N := nLawDivisorN) (k := 0) F scLawDivisor (hb := fun cdv A outer s H E hr => ?_)
  have hu2 : (A.deeper (envOfC "_law_divisor" (defScope sLawDivisor) s.heap.objs.size f cdv)).units + 200 < cLine := by have := hr.un; omega
  have hu65 : (A.deeper (envOfC "_law_divisor" (defScope sLawDivisor) s.heap.objs.size f cdv)).units + 65 < cLine := by omega
  refine ⟨_, _, (pss_one (ps_ret (pe_ix (r := rIx _) ix_seq (pe_lc (own := [("number", 2)]) (g := gName 2) rfl nd (pi_range2 (by rfl) B.range (pa_cons pe_int (pa_cons (pe_op op_addA (pv 0) pe_int) pa_nil))) (blkOk_by (N := nLawDivisorN) (sc := defScope sLawDivisor) (by decide +kernel)) (fun _ _ _ _ _ => (pg_name (i := 2) nd rfl (Or.inl rfl))) (fun _ _ _ _ _ => (pts_one (PW.pt (pw_and (pt_cmpR (op_eqD hr.units) (pe_op op_mod (pe_callTy call_int1 (by rfl) B.int boot_int (pa_cons (pv 0) pa_nil)) (pv 2)) pe_int (nomark _)) (pw_and1 (pt_cmpR (op_eqD hr.units) (pe_op op_mod (pe_callTy call_int1 (by rfl) B.int boot_int (pa_cons (pv 1) pa_nil)) (pv 2)) pe_int (nomark _))))))) (fun _ _ _ _ _ => (pv 2))) (pe_un un_neg pe_int) (fun _ _ => rfl)))),
      (ls_ret (le_op l2_ix (LO.le (lo_lc (g := .one 2) (li_range2 (la_cons le_int (la_cons (le_op l2_add le_var le_int) la_nil))) (lt_and (lt_test (le_op l2_eq (le_op l2_intC (le_cb lc_int1 (la_cons le_var la_nil)) le_var) le_int)) (lt_test (le_op l2_eq (le_op l2_intC (le_cb lc_int1 (la_cons le_var la_nil)) le_var) le_int))) le_var)) (le_un l1_int le_int))), fun ds Qd Ed hl h => ?_⟩
  obtain ⟨a, b, rfl, h1, h2, h⟩ := h
  simp [dOf, dVar, dC, dOp, dUn, dNil, dCons, pys, dTup, oLst, dCB, oCB, dCall, dCall0, dCallR, fAdd, oOp, fCat, fInt, fIntC, fNeg, fEq, isNonD, fIsN, fIn, fIx, dTest, dAnd, dOr, dNot, dAndV, dOrV, dNotV, dIfE, dChain, dFld, dNext, dSeq, dRet, dRetN, dDrop, dIfS, dBreak, dCont, dSet, dSetO, setAll, dSetT, dPar, itSeq, itRange1, itRange2, itEnum, Tg.put, Tg.ix, dFor, wipeL, dYes, oLc, dAppend, dPutIx, dFreeze, unown, hasOwn, noLD, okL, dSnap, dSnapT, dRaise, startD, dNoPart, dPart, dSl, oSl, fLen, fInt1, fAbs, fInt2, fDivmod, fTuple, fList, fSorted, oSortedSet, fRepr, fAll, fSum, isIntD, isBoolD, isStrD, isTupD, isSeqD, fIsT, dIsLT, dAug, dPutF, dFldI, dMake, startI, putD, dTupRev, dNewBox, dBoxPut, fRep, fEqS, nLawDivisorN, List.map, List.cons_append, List.nil_append, List.append_eq, List.getElem?_cons_zero, List.getElem?_cons_succ, List.set_cons_zero, List.set_cons_succ, List.lookup_cons, List.lookup_nil]
  refine ⟨⟨by decide, by decide⟩, ⟨by omega, by omega⟩, ?_⟩
  refine turns_rg (n := a) (lo := 1) (divB a b) (fun i : Nat => .int (1 + (i : Nat))) (by omega) (fun i hi => ⟨_, rfl, fun K hK => ?_, fun _ K hK => ?_⟩) ?_
  · simp [dOf, dVar, dC, dOp, dUn, dNil, dCons, pys, dTup, oLst, dCB, oCB, dCall, dCall0, dCallR, fAdd, oOp, fCat, fInt, fIntC, fNeg, fEq, isNonD, fIsN, fIn, fIx, dTest, dAnd, dOr, dNot, dAndV, dOrV, dNotV, dIfE, dChain, dFld, dNext, dSeq, dRet, dRetN, dDrop, dIfS, dBreak, dCont, dSet, dSetO, setAll, dSetT, dPar, itSeq, itRange1, itRange2, itEnum, Tg.put, Tg.ix, dFor, wipeL, dYes, oLc, dAppend, dPutIx, dFreeze, unown, hasOwn, noLD, okL, dSnap, dSnapT, dRaise, startD, dNoPart, dPart, dSl, oSl, fLen, fInt1, fAbs, fInt2, fDivmod, fTuple, fList, fSorted, oSortedSet, fRepr, fAll, fSum, isIntD, isBoolD, isStrD, isTupD, isSeqD, fIsT, dIsLT, dAug, dPutF, dFldI, dMake, startI, putD, dTupRev, dNewBox, dBoxPut, fRep, fEqS, List.map, List.cons_append, List.nil_append, List.append_eq, List.getElem?_cons_zero, List.getElem?_cons_succ, List.set_cons_zero, List.set_cons_succ, List.lookup_cons, List.lookup_nil, CDiv]
    have e1 : ∀ n : Nat, decide ((n : Int) % (1 + (i : Int)) = 0) = decide ((i + 1) ∣ n) := fun n => by
      rw [decide_eq_decide, show (1 : Int) + i = ((i + 1 : Nat) : Int) by omega, ← Int.natCast_emod]
      rw [show ((n % (i + 1) : Nat) : Int) = 0 ↔ n % (i + 1) = 0 by omega]
      exact (Nat.dvd_iff_mod_eq_zero ..).symm
    unfold divB at hK
    rw [← e1 a, ← e1 b] at hK
    refine ⟨by omega, ?_⟩
    split
    · rename_i z
      simp [z] at hK
      exact ⟨by omega, hK⟩
    · rename_i z
      simp [z] at hK
      exact hK
  · simp [dOf, dVar, dC, dOp, dUn, dNil, dCons, pys, dTup, oLst, dCB, oCB, dCall, dCall0, dCallR, fAdd, oOp, fCat, fInt, fIntC, fNeg, fEq, isNonD, fIsN, fIn, fIx, dTest, dAnd, dOr, dNot, dAndV, dOrV, dNotV, dIfE, dChain, dFld, dNext, dSeq, dRet, dRetN, dDrop, dIfS, dBreak, dCont, dSet, dSetO, setAll, dSetT, dPar, itSeq, itRange1, itRange2, itEnum, Tg.put, Tg.ix, dFor, wipeL, dYes, oLc, dAppend, dPutIx, dFreeze, unown, hasOwn, noLD, okL, dSnap, dSnapT, dRaise, startD, dNoPart, dPart, dSl, oSl, fLen, fInt1, fAbs, fInt2, fDivmod, fTuple, fList, fSorted, oSortedSet, fRepr, fAll, fSum, isIntD, isBoolD, isStrD, isTupD, isSeqD, fIsT, dIsLT, dAug, dPutF, dFldI, dMake, startI, putD, dTupRev, dNewBox, dBoxPut, fRep, fEqS, List.map, List.cons_append, List.nil_append, List.append_eq, List.getElem?_cons_zero, List.getElem?_cons_succ, List.set_cons_zero, List.set_cons_succ, List.lookup_cons, List.lookup_nil]
    exact hK
  · have z := div_last (b := b) h1
    refine ⟨.int ((Nat.gcd a b : Nat) : Int), atI_last' ?_, ?_⟩
    · rw [List.getLast?_map, z]
      have := Nat.gcd_pos_of_pos_left b h1
      show some (PyData.int _) = _
      congr 2
      omega
    · exact h

theorem any_int {z : Int} : ∀ {ns : List Int}, ((ns.map PyData.int).any fun d => PyData.eqv d (.int z)) = decide (z ∈ ns)
  | [] => rfl
  | n :: ns => by
    rw [List.map_cons, List.any_cons, any_int, eqv_int, Bool.eq_iff_iff, Bool.or_eq_true, decide_eq_true_eq, decide_eq_true_eq, decide_eq_true_eq, List.mem_cons]
    exact or_congr_left eq_comm
theorem rep_ints_tup {l : List Int} (h : ∀ d ∈ l, d.natAbs < 10 ^ 12) (hl : l.length ≤ 400) : RepOk (.tuple (l.map .int)) := by
  have z := neat_tuple (neat_ints h)
  exact z.rep (by decide) (by rw [List.length_map]; omega)
theorem rep_ints_lst {l : List Int} (h : ∀ d ∈ l, d.natAbs < 10 ^ 12) (hl : l.length ≤ 400) : RepOk (.list (l.map .int)) := by
  have z := neat_list (neat_ints h)
  exact z.rep (by decide) (by rw [List.length_map]; omega)
theorem rep_int {i : Int} (h : i.natAbs < 10 ^ 12) : RepOk (.int i) := (neat_int h).rep
theorem steps_data {l : List Int} : ((List.range (l.length - 1)).filter fun i => perB l (i + 1)).map (fun i : Nat => PyData.int (1 + (i : Nat))) = (stepsOf l).map .int := by
  unfold stepsOf
  rw [List.map_map]
  apply List.map_congr_left
  intro i _
  show PyData.int (1 + (i : Int)) = PyData.int ((i : Int) + 1)
  congr 1
  omega
theorem fault_lst {n : Nat} {l : List Int} (hl : l.length ≤ 400) (ok : ∀ d ∈ l, 0 ≤ d ∧ d < (n : Int)) : rowFault n (.list (l.map .int)) = none := by
  unfold rowFault
  rw [if_pos (by simp [seqB]; omega)]
  simp [itemsD, isDp, numD]
  intro d hd
  have := ok d hd
  omega
theorem fault_tup {n : Nat} {l : List Int} (hl : l.length ≤ 400) (ok : ∀ d ∈ l, 0 ≤ d ∧ d < (n : Int)) : rowFault n (.tuple (l.map .int)) = none := by
  unfold rowFault
  rw [if_pos (by simp [seqB]; omega)]
  simp [itemsD, isDp, numD]
  intro d hd
  have := ok d hd
  omega
theorem ints_lst {l : List Int} : intsOf (.list (l.map .int)) = l := by
  unfold intsOf itemsD
  rw [List.map_map]
  exact List.map_id _
theorem ints_tup {l : List Int} : intsOf (.tuple (l.map .int)) = l := by
  unfold intsOf itemsD
  rw [List.map_map]
  exact List.map_id _
def spRepRight (CM : Addr) : SpD := fun ds Q _ => ∃ T, ∃ l : List Int, ds = [.box, mach CM T, .lst (l.map .int)] ∧ l.length ≤ 20 ∧ (∀ d ∈ l, 0 ≤ d ∧ d < (T.length : Int)) ∧ Q (.bl true)
def nLawRepeatsRightN : List Str := ["box", "machine", "row", "step", "many", "due", "steps", "one", "other", "common"]
theorem scLawRepeatsRight : FnScope nLawRepeatsRightN ["box", "machine", "row"] (defScope sLawRepeatsRight) := ⟨rfl, rfl, rfl, by decide +kernel, rfl, by decide +kernel, by decide +kernel⟩
theorem ok_law_repeats_right {f : Addr} {fd : FuncData} (F : Fun S.K "_law_repeats_right" "_law_repeats_right" sLawRepeatsRight f fd) (B : Bare mg) (Gi : Has P w S.K mg base L2.CX0 1 "_law_is_repeating" ["row", "step"] (spD S 2 spIsRep)) (Gdv : Has P w S.K mg base L2.CX0 1 "_law_divisor" ["one", "other"] (spD S 2 spDivisor)) (Ge : Has P w S.K mg base (L2.CX P w) 5 "repeat_end" ["machine", "row", "step"] (spD S 3 (spRepeatEnd CM CR CF))) (Ger : HasR P w S.K mg base (L2.CX P w) 5 "repeat_end" ["machine", "row", "step"] ["step", "row", "machine"] (spD S 3 (spRepeatEnd CM CR CF))) (Gst : Has P w S.K mg base (L2.CX P w) 5 "repeat_steps" ["machine", "row"] (spD S 2 (spRepeatSteps CM CR))) (Gsr : HasR P w S.K mg base (L2.CX P w) 5 "repeat_steps" ["machine", "row"] ["row", "machine"] (spD S 2 (spRepeatSteps CM CR))) : FnOkG P w S.K mg base L2.CX0 6 f fd ["box", "machine", "row"] (spD S 3 (spRepRight CM)) := by
  have nd : nLawRepeatsRightN.Nodup := scLawRepeatsRight.nd
  refine okDG (N := nLawRepeatsRightN) (k := 5) F scLawRepeatsRight (hb := fun cdv A outer s H E hr hgd => ?_)
  have hu2 : (A.deeper (envOfC "_law_repeats_right" (defScope sLawRepeatsRight) s.heap.objs.size f cdv)).units + 200 < cLine := by have := hr.un; omega
  have hu65 : (A.deeper (envOfC "_law_repeats_right" (defScope sLawRepeatsRight) s.heap.objs.size f cdv)).units + 65 < cLine := by omega
  refine ⟨_, _, (pss_cons (ps_for PassesOwn.never rfl (pi_range2 (by rfl) B.range (pa_cons pe_int (pa_cons (pe_op op_addA (pe_callB (r := rLenA _) lenA (by rfl) B.len PySem.boot_len (pa_cons (pv 2) pa_nil)) pe_int) pa_nil))) (pg_name (i := 3) nd rfl (Or.inr rfl))
      (pss_cons (ps_set (i := 5) nd rfl (Or.inl rfl) (pe_ix (r := rIx _) ix_seq (pe_lc (own := [("many", 4)]) (g := gName 4) rfl nd (pi_range1 (by rfl) B.range (pa_cons (pe_op op_addA (pe_callB (r := rLenA _) lenA (by rfl) B.len PySem.boot_len (pa_cons (pv 2) pa_nil)) pe_int) pa_nil)) (blkOk_by (N := nLawRepeatsRightN) (sc := defScope sLawRepeatsRight) (by decide +kernel)) (fun _ _ _ _ _ => (pg_name (i := 4) nd rfl (Or.inl rfl))) (fun _ _ _ _ _ => (pts_one (pt_val (pe_has Gi (hr.mono (by decide)) (by rfl) (pa_cons (pe_slice (r := rSlAny _) sl_any (pv 2) (po_some (pe_op op_sub (pe_callB (r := rLenA _) lenA (by rfl) B.len PySem.boot_len (pa_cons (pv 2) pa_nil)) (pv 4))) po_none) (pa_cons (pv 3) pa_nil)))))) (fun _ _ _ _ _ => (pv 4))) (pe_un un_neg pe_int) (fun _ _ => rfl)))
      (pss_cons (ps_if (PW.pt (pw_or (pt_cmpR op_ne (pe_callB (r := rRepr _) (call_reprS hu2 hgd) (by rfl) B.repr (by decide +kernel) (pa_cons (pe_hasN Ge (hr.mono (by decide)) (by rfl) (pa_cons (pv 1) (pa_cons (pv 2) (pa_cons (pv 3) pa_nil)))) pa_nil)) (pe_callB (r := rRepr _) (call_reprS hu2 hgd) (by rfl) B.repr (by decide +kernel) (pa_cons (pv 5) pa_nil)) (nomark _)) (pw_or1 (pt_cmpR (op_neD hr.units) (pe_hasR Ger (hr.mono (by decide)) (by rfl) (pk_cons (pv 3) (pk_cons (pe_callTy (r := rTupOf _) tupOf (by rfl) B.tuple boot_tuple (pa_cons (pv 2) pa_nil)) (pk_cons (pv 1) pk_nil)))) (pv 5) (nomark _))))) (pss_one (ps_ret pe_bl)) pss_nil)
      (pss_one (ps_if (pt_cmpR op_lt (pv 5) (pe_callB (call_min2 rfl) (by rfl) B.min (by decide +kernel) (pa_cons (pv 3) (pa_cons (pe_callB (r := rLenA _) lenA (by rfl) B.len PySem.boot_len (pa_cons (pv 2) pa_nil)) pa_nil))) (nomark _)) (pss_one (ps_ret pe_bl)) pss_nil)))))
      (pss_cons (ps_setLc (i := 6) (own := [("step", 3)]) (g := gName 3) rfl nd rfl rfl (sw_true rfl rfl rfl (by decide +kernel)) (pi_range2 (by rfl) B.range (pa_cons pe_int (pa_cons (pe_callB (r := rLenA _) lenA (by rfl) B.len PySem.boot_len (pa_cons (pv 2) pa_nil)) pa_nil))) (blkOk_by (N := nLawRepeatsRightN) (sc := defScope sLawRepeatsRight) (by decide +kernel)) (fun _ _ _ _ _ => (pg_name (i := 3) nd rfl (Or.inl rfl))) (fun _ _ _ _ _ => (pts_one (pt_val (pe_has Gi (hr.mono (by decide)) (by rfl) (pa_cons (pv 2) (pa_cons (pv 3) pa_nil)))))) (fun _ _ _ _ _ => (pv 3)))
      (pss_cons (ps_if (PW.pt (pw_or (pt_cmpR op_ne (pe_callB (r := rRepr _) (call_reprS hu2 hgd) (by rfl) B.repr (by decide +kernel) (pa_cons (pe_hasN Gst (hr.mono (by decide)) (by rfl) (pa_cons (pv 1) (pa_cons (pv 2) pa_nil))) pa_nil)) (pe_callB (r := rRepr _) (call_reprS hu2 hgd) (by rfl) B.repr (by decide +kernel) (pa_cons (pe_callTy (r := rTupOf _) tupOf (by rfl) B.tuple boot_tuple (pa_cons (pv 6) pa_nil)) pa_nil)) (nomark _)) (pw_or1 (pt_cmpR (op_neD hr.units) (pe_hasR Gsr (hr.mono (by decide)) (by rfl) (pk_cons (pe_callTy (r := rTupOf _) tupOf (by rfl) B.tuple boot_tuple (pa_cons (pv 2) pa_nil)) (pk_cons (pv 1) pk_nil))) (pe_callTy (r := rTupOf _) tupOf (by rfl) B.tuple boot_tuple (pa_cons (pv 6) pa_nil)) (nomark _))))) (pss_one (ps_ret pe_bl)) pss_nil)
      (pss_cons (ps_for PassesOwn.never rfl (pi_seq (pv 6)) (pg_name (i := 7) nd rfl (Or.inl rfl))
      (pss_one (ps_for PassesOwn.never rfl (pi_seq (pv 6)) (pg_name (i := 8) nd rfl (Or.inl rfl))
      (pss_cons (ps_set (i := 9) nd rfl (Or.inl rfl) (pe_has Gdv (hr.mono (by decide)) (by rfl) (pa_cons (pv 7) (pa_cons (pv 8) pa_nil))))
      (pss_one (ps_if (PW.pt (pw_and (pt_cmpR op_ge (pe_callB (r := rLenA _) lenA (by rfl) B.len PySem.boot_len (pa_cons (pv 2) pa_nil)) (pe_op op_sub (pe_op op_addA (pv 7) (pv 8)) (pv 9)) (nomark _)) (pw_and1 (pt_cmpR (op_notInD hu65) (pv 9) (pv 6) (by rfl))))) (pss_one (ps_ret pe_bl)) pss_nil))))))
      (pss_one (ps_ret pe_bl)))))),
      (ls_seq (ls_for (g := .one 3) (li_range2 (la_cons le_int (la_cons (le_op l2_add (le_cb lc_len (la_cons le_var la_nil)) le_int) la_nil)))
      (ls_seq (ls_set (i := 5) (le_op l2_ix (LO.le (lo_lc (g := .one 4) (li_range1 (la_cons (le_op l2_add (le_cb lc_len (la_cons le_var la_nil)) le_int) la_nil)) (lt_b (le_call0 (la_cons (le_sl le_var (lp_some (le_op l2_sub (le_cb lc_len (la_cons le_var la_nil)) le_var)) lp_none) (la_cons le_var la_nil)))) le_var)) (le_un l1_int le_int)))
      (ls_seq (ls_if (lt_or (lt_test (le_op l2_neS (le_cb lc_repr (la_cons (le_call0 (la_cons le_var (la_cons le_var (la_cons le_var la_nil)))) la_nil)) (le_cb lc_repr (la_cons le_var la_nil)))) (lt_test (le_op l2_ne (le_callR (la_cons le_var (la_cons (le_cb lc_tuple (la_cons le_var la_nil)) (la_cons le_var la_nil)))) le_var))) (ls_ret le_bl) ls_next)
      (ls_if (lt_test (le_op l2_cmp le_var (le_cb lc_int2 (la_cons le_var (la_cons (le_cb lc_len (la_cons le_var la_nil)) la_nil))))) (ls_ret le_bl) ls_next))))
      (ls_seq (ls_set (i := 6) (LO.le (lo_lc (g := .one 3) (li_range2 (la_cons le_int (la_cons (le_cb lc_len (la_cons le_var la_nil)) la_nil))) (lt_b (le_call0 (la_cons le_var (la_cons le_var la_nil)))) le_var)))
      (ls_seq (ls_if (lt_or (lt_test (le_op l2_neS (le_cb lc_repr (la_cons (le_call0 (la_cons le_var (la_cons le_var la_nil))) la_nil)) (le_cb lc_repr (la_cons (le_cb lc_tuple (la_cons le_var la_nil)) la_nil)))) (lt_test (le_op l2_ne (le_callR (la_cons (le_cb lc_tuple (la_cons le_var la_nil)) (la_cons le_var la_nil))) (le_cb lc_tuple (la_cons le_var la_nil))))) (ls_ret le_bl) ls_next)
      (ls_seq (ls_for (g := .one 7) (li_seq le_var)
      (ls_for (g := .one 8) (li_seq le_var)
      (ls_seq (ls_set (i := 9) (le_call0 (la_cons le_var (la_cons le_var la_nil))))
      (ls_if (lt_and (lt_test (le_op l2_cmp (le_cb lc_len (la_cons le_var la_nil)) (le_op l2_sub (le_op l2_add le_var le_var) le_var))) (lt_test (le_op l2_notIn le_var le_var))) (ls_ret le_bl) ls_next))))
      (ls_ret le_bl))))), fun ds Qd Ed hl h => ?_⟩
  obtain ⟨T, l, rfl, h1, ok, h⟩ := h
  simp [dOf, dVar, dC, dOp, dUn, dNil, dCons, pys, dTup, oLst, dCB, oCB, dCall, dCall0, dCallR, fAdd, oOp, fCat, fInt, fIntC, fNeg, fEq, isNonD, fIsN, fIn, fIx, dTest, dAnd, dOr, dNot, dAndV, dOrV, dNotV, dIfE, dChain, dFld, dNext, dSeq, dRet, dRetN, dDrop, dIfS, dBreak, dCont, dSet, dSetO, setAll, dSetT, dPar, itSeq, itRange1, itRange2, itEnum, Tg.put, Tg.ix, dFor, wipeL, dYes, oLc, dAppend, dPutIx, dFreeze, unown, hasOwn, noLD, okL, dSnap, dSnapT, dRaise, startD, dNoPart, dPart, dSl, oSl, fLen, fInt1, fAbs, fInt2, fDivmod, fTuple, fList, fSorted, oSortedSet, fRepr, fAll, fSum, isIntD, isBoolD, isStrD, isTupD, isSeqD, fIsT, dIsLT, dAug, dPutF, dFldI, dMake, startI, putD, dTupRev, dNewBox, dBoxPut, fRep, fEqS, nLawRepeatsRightN, List.map, List.cons_append, List.nil_append, List.append_eq, List.getElem?_cons_zero, List.getElem?_cons_succ, List.set_cons_zero, List.set_cons_succ, List.lookup_cons, List.lookup_nil]
  refine ⟨⟨by omega, by omega⟩, ⟨by omega, by omega⟩, ?_⟩
  have flt := fault_lst (n := T.length) (l := l) (by omega) ok
  have ftu := fault_tup (n := T.length) (l := l) (by omega) ok
  rw [rangeD_R]
  refine loop_ind (fun ds ρ => ∃ (k m : Nat) (y3 y4 y5 : Option SV), ds = rangeR (k : Nat) m ∧ 1 ≤ k ∧ k + m = l.length + 3 ∧ ρ = [some (SV.dv DV.box), some (SV.dv (mach CM T)), some (SV.dv (DV.lst (l.map .int))), y3, y4, y5, none, none, none, none]) ?_ ?_ _ _ ⟨1, l.length + 2, none, none, none, rfl, by omega, by omega, rfl⟩
  · rintro ρ ⟨k, m, y3, y4, y5, e, k1, hk, rfl⟩
    simp [dOf, dVar, dC, dOp, dUn, dNil, dCons, pys, dTup, oLst, dCB, oCB, dCall, dCall0, dCallR, fAdd, oOp, fCat, fInt, fIntC, fNeg, fEq, isNonD, fIsN, fIn, fIx, dTest, dAnd, dOr, dNot, dAndV, dOrV, dNotV, dIfE, dChain, dFld, dNext, dSeq, dRet, dRetN, dDrop, dIfS, dBreak, dCont, dSet, dSetO, setAll, dSetT, dPar, itSeq, itRange1, itRange2, itEnum, Tg.put, Tg.ix, dFor, wipeL, dYes, oLc, dAppend, dPutIx, dFreeze, unown, hasOwn, noLD, okL, dSnap, dSnapT, dRaise, startD, dNoPart, dPart, dSl, oSl, fLen, fInt1, fAbs, fInt2, fDivmod, fTuple, fList, fSorted, oSortedSet, fRepr, fAll, fSum, isIntD, isBoolD, isStrD, isTupD, isSeqD, fIsT, dIsLT, dAug, dPutF, dFldI, dMake, startI, putD, dTupRev, dNewBox, dBoxPut, fRep, fEqS, List.map, List.cons_append, List.nil_append, List.append_eq, List.getElem?_cons_zero, List.getElem?_cons_succ, List.set_cons_zero, List.set_cons_succ, List.lookup_cons, List.lookup_nil]
    refine ⟨⟨by decide, by decide⟩, ⟨by omega, by omega⟩, ?_⟩
    refine turns_rg (fun i => perB l (i + 1)) (fun i : Nat => .int (1 + (i : Nat))) (by omega) (fun i hi => ⟨_, rfl, fun K hK => ?_, fun _ K hK => ?_⟩) ?_
    · simp [dOf, dVar, dC, dOp, dUn, dNil, dCons, pys, dTup, oLst, dCB, oCB, dCall, dCall0, dCallR, fAdd, oOp, fCat, fInt, fIntC, fNeg, fEq, isNonD, fIsN, fIn, fIx, dTest, dAnd, dOr, dNot, dAndV, dOrV, dNotV, dIfE, dChain, dFld, dNext, dSeq, dRet, dRetN, dDrop, dIfS, dBreak, dCont, dSet, dSetO, setAll, dSetT, dPar, itSeq, itRange1, itRange2, itEnum, Tg.put, Tg.ix, dFor, wipeL, dYes, oLc, dAppend, dPutIx, dFreeze, unown, hasOwn, noLD, okL, dSnap, dSnapT, dRaise, startD, dNoPart, dPart, dSl, oSl, fLen, fInt1, fAbs, fInt2, fDivmod, fTuple, fList, fSorted, oSortedSet, fRepr, fAll, fSum, isIntD, isBoolD, isStrD, isTupD, isSeqD, fIsT, dIsLT, dAug, dPutF, dFldI, dMake, startI, putD, dTupRev, dNewBox, dBoxPut, fRep, fEqS, List.map, List.cons_append, List.nil_append, List.append_eq, List.getElem?_cons_zero, List.getElem?_cons_succ, List.set_cons_zero, List.set_cons_succ, List.lookup_cons, List.lookup_nil]
      refine ⟨l, 1 + i, by simp, by omega, by omega, ?_⟩
      rw [repB_perB, Nat.add_comm]
      exact hK
    · simp [dOf, dVar, dC, dOp, dUn, dNil, dCons, pys, dTup, oLst, dCB, oCB, dCall, dCall0, dCallR, fAdd, oOp, fCat, fInt, fIntC, fNeg, fEq, isNonD, fIsN, fIn, fIx, dTest, dAnd, dOr, dNot, dAndV, dOrV, dNotV, dIfE, dChain, dFld, dNext, dSeq, dRet, dRetN, dDrop, dIfS, dBreak, dCont, dSet, dSetO, setAll, dSetT, dPar, itSeq, itRange1, itRange2, itEnum, Tg.put, Tg.ix, dFor, wipeL, dYes, oLc, dAppend, dPutIx, dFreeze, unown, hasOwn, noLD, okL, dSnap, dSnapT, dRaise, startD, dNoPart, dPart, dSl, oSl, fLen, fInt1, fAbs, fInt2, fDivmod, fTuple, fList, fSorted, oSortedSet, fRepr, fAll, fSum, isIntD, isBoolD, isStrD, isTupD, isSeqD, fIsT, dIsLT, dAug, dPutF, dFldI, dMake, startI, putD, dTupRev, dNewBox, dBoxPut, fRep, fEqS, List.map, List.cons_append, List.nil_append, List.append_eq, List.getElem?_cons_zero, List.getElem?_cons_succ, List.set_cons_zero, List.set_cons_succ, List.lookup_cons, List.lookup_nil]
      exact hK
    rw [steps_data]
    have sb : ∀ d ∈ stepsOf l, ∃ s : Nat, d = (s : Nat) ∧ 1 ≤ s ∧ s < l.length := fun d hd => by
      obtain ⟨s, e, s1, s2, _⟩ := mem_steps.mp hd
      exact ⟨s, e, s1, s2⟩
    have sr : RepOk (.tuple ((stepsOf l).map .int)) := rep_ints_tup (fun d hd => by
      obtain ⟨s, rfl, s1, s2⟩ := sb d hd
      omega) (by have := steps_len (ds := l); omega)
    refine ⟨T, .list (l.map .int), rfl, fun i hi => (by rw [flt] at hi; cases hi), fun _ => ?_⟩
    rw [ints_lst]
    refine ⟨sr, sr, ?_⟩
    rw [if_pos rfl]
    refine ⟨T, .tuple (l.map .int), rfl, fun i hi => (by rw [ftu] at hi; cases hi), fun _ => ?_⟩
    rw [ints_tup]
    simp [shp_tup, eqv_tuple_ints]
    have sc : ∀ a b : Nat, ((a : Nat) : Int) ∈ stepsOf l → ((b : Nat) : Int) ∈ stepsOf l → a + b ≤ l.length + Nat.gcd a b → ((Nat.gcd a b : Nat) : Int) ∈ stepsOf l := fun a b ha hb h => steps_common ha hb h
    generalize stepsOf l = st at sb sc
    refine loop_ind (fun ds ρ => ∃ (sl : List Int) (y7 y8 y9 : Option SV), ds = sl.map .int ∧ (∀ d ∈ sl, d ∈ st) ∧ ρ = [some (SV.dv DV.box), some (SV.dv (mach CM T)), some (SV.dv (DV.lst (l.map .int))), y3, y4, y5, some (SV.dv (DV.lst (st.map .int))), y7, y8, y9]) ?_ ?_ _ _ ⟨st, none, none, none, rfl, fun _ h => h, rfl⟩
    · rintro ρ ⟨sl, y7, y8, y9, e, hs, rfl⟩
      simp [dOf, dVar, dC, dOp, dUn, dNil, dCons, pys, dTup, oLst, dCB, oCB, dCall, dCall0, dCallR, fAdd, oOp, fCat, fInt, fIntC, fNeg, fEq, isNonD, fIsN, fIn, fIx, dTest, dAnd, dOr, dNot, dAndV, dOrV, dNotV, dIfE, dChain, dFld, dNext, dSeq, dRet, dRetN, dDrop, dIfS, dBreak, dCont, dSet, dSetO, setAll, dSetT, dPar, itSeq, itRange1, itRange2, itEnum, Tg.put, Tg.ix, dFor, wipeL, dYes, oLc, dAppend, dPutIx, dFreeze, unown, hasOwn, noLD, okL, dSnap, dSnapT, dRaise, startD, dNoPart, dPart, dSl, oSl, fLen, fInt1, fAbs, fInt2, fDivmod, fTuple, fList, fSorted, oSortedSet, fRepr, fAll, fSum, isIntD, isBoolD, isStrD, isTupD, isSeqD, fIsT, dIsLT, dAug, dPutF, dFldI, dMake, startI, putD, dTupRev, dNewBox, dBoxPut, fRep, fEqS, List.map, List.cons_append, List.nil_append, List.append_eq, List.getElem?_cons_zero, List.getElem?_cons_succ, List.set_cons_zero, List.set_cons_succ, List.lookup_cons, List.lookup_nil]
      exact h
    · rintro d ds ρ K hK ⟨sl, y7, y8, y9, e, hs, rfl⟩
      cases sl with
      | nil => cases e
      | cons a sl =>
      cases e
      obtain ⟨a, rfl, a1, a2⟩ := sb a (hs _ List.mem_cons_self)
      simp [dOf, dVar, dC, dOp, dUn, dNil, dCons, pys, dTup, oLst, dCB, oCB, dCall, dCall0, dCallR, fAdd, oOp, fCat, fInt, fIntC, fNeg, fEq, isNonD, fIsN, fIn, fIx, dTest, dAnd, dOr, dNot, dAndV, dOrV, dNotV, dIfE, dChain, dFld, dNext, dSeq, dRet, dRetN, dDrop, dIfS, dBreak, dCont, dSet, dSetO, setAll, dSetT, dPar, itSeq, itRange1, itRange2, itEnum, Tg.put, Tg.ix, dFor, wipeL, dYes, oLc, dAppend, dPutIx, dFreeze, unown, hasOwn, noLD, okL, dSnap, dSnapT, dRaise, startD, dNoPart, dPart, dSl, oSl, fLen, fInt1, fAbs, fInt2, fDivmod, fTuple, fList, fSorted, oSortedSet, fRepr, fAll, fSum, isIntD, isBoolD, isStrD, isTupD, isSeqD, fIsT, dIsLT, dAug, dPutF, dFldI, dMake, startI, putD, dTupRev, dNewBox, dBoxPut, fRep, fEqS, List.map, List.cons_append, List.nil_append, List.append_eq, List.getElem?_cons_zero, List.getElem?_cons_succ, List.set_cons_zero, List.set_cons_succ, List.lookup_cons, List.lookup_nil]
      refine loop_ind (fun ds ρ => ∃ (tl : List Int) (y8 y9 : Option SV), ds = tl.map .int ∧ (∀ d ∈ tl, d ∈ st) ∧ ρ = [some (SV.dv DV.box), some (SV.dv (mach CM T)), some (SV.dv (DV.lst (l.map .int))), y3, y4, y5, some (SV.dv (DV.lst (st.map .int))), some (SV.dv (DV.int (a : Nat))), y8, y9]) ?_ ?_ _ _ ⟨st, y8, y9, rfl, fun _ h => h, rfl⟩
      · rintro ρ ⟨tl, y8, y9, e, ht, rfl⟩
        exact hK _ ⟨sl, _, _, _, rfl, fun d hd => hs d (List.mem_cons_of_mem _ hd), rfl⟩
      · rintro d ds ρ K2 hK2 ⟨tl, y8, y9, e, ht, rfl⟩
        cases tl with
        | nil => cases e
        | cons b tl =>
        cases e
        obtain ⟨b, rfl, b1, b2⟩ := sb b (ht _ List.mem_cons_self)
        have next : ∀ y, K2 [some (SV.dv DV.box), some (SV.dv (mach CM T)), some (SV.dv (DV.lst (l.map .int))), y3, y4, y5, some (SV.dv (DV.lst (st.map .int))), some (SV.dv (DV.int (a : Nat))), some (SV.dv (DV.int (b : Nat))), y] := fun y => hK2 _ ⟨tl, _, _, rfl, fun d hd => ht d (List.mem_cons_of_mem _ hd), rfl⟩
        simp [dOf, dVar, dC, dOp, dUn, dNil, dCons, pys, dTup, oLst, dCB, oCB, dCall, dCall0, dCallR, fAdd, oOp, fCat, fInt, fIntC, fNeg, fEq, isNonD, fIsN, fIn, fIx, dTest, dAnd, dOr, dNot, dAndV, dOrV, dNotV, dIfE, dChain, dFld, dNext, dSeq, dRet, dRetN, dDrop, dIfS, dBreak, dCont, dSet, dSetO, setAll, dSetT, dPar, itSeq, itRange1, itRange2, itEnum, Tg.put, Tg.ix, dFor, wipeL, dYes, oLc, dAppend, dPutIx, dFreeze, unown, hasOwn, noLD, okL, dSnap, dSnapT, dRaise, startD, dNoPart, dPart, dSl, oSl, fLen, fInt1, fAbs, fInt2, fDivmod, fTuple, fList, fSorted, oSortedSet, fRepr, fAll, fSum, isIntD, isBoolD, isStrD, isTupD, isSeqD, fIsT, dIsLT, dAug, dPutF, dFldI, dMake, startI, putD, dTupRev, dNewBox, dBoxPut, fRep, fEqS, List.map, List.cons_append, List.nil_append, List.append_eq, List.getElem?_cons_zero, List.getElem?_cons_succ, List.set_cons_zero, List.set_cons_succ, List.lookup_cons, List.lookup_nil]
        refine ⟨a, b, rfl, a1, by omega, ?_⟩
        simp [dOf, dVar, dC, dOp, dUn, dNil, dCons, pys, dTup, oLst, dCB, oCB, dCall, dCall0, dCallR, fAdd, oOp, fCat, fInt, fIntC, fNeg, fEq, isNonD, fIsN, fIn, fIx, dTest, dAnd, dOr, dNot, dAndV, dOrV, dNotV, dIfE, dChain, dFld, dNext, dSeq, dRet, dRetN, dDrop, dIfS, dBreak, dCont, dSet, dSetO, setAll, dSetT, dPar, itSeq, itRange1, itRange2, itEnum, Tg.put, Tg.ix, dFor, wipeL, dYes, oLc, dAppend, dPutIx, dFreeze, unown, hasOwn, noLD, okL, dSnap, dSnapT, dRaise, startD, dNoPart, dPart, dSl, oSl, fLen, fInt1, fAbs, fInt2, fDivmod, fTuple, fList, fSorted, oSortedSet, fRepr, fAll, fSum, isIntD, isBoolD, isStrD, isTupD, isSeqD, fIsT, dIsLT, dAug, dPutF, dFldI, dMake, startI, putD, dTupRev, dNewBox, dBoxPut, fRep, fEqS, List.map, List.cons_append, List.nil_append, List.append_eq, List.getElem?_cons_zero, List.getElem?_cons_succ, List.set_cons_zero, List.set_cons_succ, List.lookup_cons, List.lookup_nil]
        split
        · rename_i hle
          refine ⟨rfl, shp_lst _, ?_⟩
          have hin : ((Nat.gcd a b : Nat) : Int) ∈ st := sc a b (hs _ List.mem_cons_self) (ht _ List.mem_cons_self) (by omega)
          rw [if_neg fun z => by
            have z := z _ hin
            rw [eqv_int, decide_eq_false_iff_not] at z
            exact z rfl]
          exact next _
        · exact next _
  · rintro d ds ρ K hK ⟨k, m, y3, y4, y5, e, k1, hk, rfl⟩
    cases m with
    | zero => cases e
    | succ m =>
    cases e
    simp [dOf, dVar, dC, dOp, dUn, dNil, dCons, pys, dTup, oLst, dCB, oCB, dCall, dCall0, dCallR, fAdd, oOp, fCat, fInt, fIntC, fNeg, fEq, isNonD, fIsN, fIn, fIx, dTest, dAnd, dOr, dNot, dAndV, dOrV, dNotV, dIfE, dChain, dFld, dNext, dSeq, dRet, dRetN, dDrop, dIfS, dBreak, dCont, dSet, dSetO, setAll, dSetT, dPar, itSeq, itRange1, itRange2, itEnum, Tg.put, Tg.ix, dFor, wipeL, dYes, oLc, dAppend, dPutIx, dFreeze, unown, hasOwn, noLD, okL, dSnap, dSnapT, dRaise, startD, dNoPart, dPart, dSl, oSl, fLen, fInt1, fAbs, fInt2, fDivmod, fTuple, fList, fSorted, oSortedSet, fRepr, fAll, fSum, isIntD, isBoolD, isStrD, isTupD, isSeqD, fIsT, dIsLT, dAug, dPutF, dFldI, dMake, startI, putD, dTupRev, dNewBox, dBoxPut, fRep, fEqS, List.map, List.cons_append, List.nil_append, List.append_eq, List.getElem?_cons_zero, List.getElem?_cons_succ, List.set_cons_zero, List.set_cons_succ, List.lookup_cons, List.lookup_nil]
    refine ⟨⟨by omega, by omega⟩, ?_⟩
    obtain ⟨r, hr⟩ := longest_ex l k
    refine turns_rg (lo := 0) (n := l.length + 1) (fun i => repB (l.drop (l.length - i)) k) (fun i : Nat => .int ((i : Nat) : Int)) (by omega) (fun i hi => ⟨_, rfl, fun K hK => ?_, fun _ K hK => ?_⟩) ?_
    · simp [dOf, dVar, dC, dOp, dUn, dNil, dCons, pys, dTup, oLst, dCB, oCB, dCall, dCall0, dCallR, fAdd, oOp, fCat, fInt, fIntC, fNeg, fEq, isNonD, fIsN, fIn, fIx, dTest, dAnd, dOr, dNot, dAndV, dOrV, dNotV, dIfE, dChain, dFld, dNext, dSeq, dRet, dRetN, dDrop, dIfS, dBreak, dCont, dSet, dSetO, setAll, dSetT, dPar, itSeq, itRange1, itRange2, itEnum, Tg.put, Tg.ix, dFor, wipeL, dYes, oLc, dAppend, dPutIx, dFreeze, unown, hasOwn, noLD, okL, dSnap, dSnapT, dRaise, startD, dNoPart, dPart, dSl, oSl, fLen, fInt1, fAbs, fInt2, fDivmod, fTuple, fList, fSorted, oSortedSet, fRepr, fAll, fSum, isIntD, isBoolD, isStrD, isTupD, isSeqD, fIsT, dIsLT, dAug, dPutF, dFldI, dMake, startI, putD, dTupRev, dNewBox, dBoxPut, fRep, fEqS, List.map, List.cons_append, List.nil_append, List.append_eq, List.getElem?_cons_zero, List.getElem?_cons_succ, List.set_cons_zero, List.set_cons_succ, List.lookup_cons, List.lookup_nil]
      refine ⟨l.drop (l.length - i), k, ?_, by rw [List.length_drop]; omega, by omega, hK⟩
      rw [show (l.length : Int) - i = ((l.length - i : Nat) : Int) by omega, cutD_from, List.map_drop]
    · simp [dOf, dVar, dC, dOp, dUn, dNil, dCons, pys, dTup, oLst, dCB, oCB, dCall, dCall0, dCallR, fAdd, oOp, fCat, fInt, fIntC, fNeg, fEq, isNonD, fIsN, fIn, fIx, dTest, dAnd, dOr, dNot, dAndV, dOrV, dNotV, dIfE, dChain, dFld, dNext, dSeq, dRet, dRetN, dDrop, dIfS, dBreak, dCont, dSet, dSetO, setAll, dSetT, dPar, itSeq, itRange1, itRange2, itEnum, Tg.put, Tg.ix, dFor, wipeL, dYes, oLc, dAppend, dPutIx, dFreeze, unown, hasOwn, noLD, okL, dSnap, dSnapT, dRaise, startD, dNoPart, dPart, dSl, oSl, fLen, fInt1, fAbs, fInt2, fDivmod, fTuple, fList, fSorted, oSortedSet, fRepr, fAll, fSum, isIntD, isBoolD, isStrD, isTupD, isSeqD, fIsT, dIsLT, dAug, dPutF, dFldI, dMake, startI, putD, dTupRev, dNewBox, dBoxPut, fRep, fEqS, List.map, List.cons_append, List.nil_append, List.append_eq, List.getElem?_cons_zero, List.getElem?_cons_succ, List.set_cons_zero, List.set_cons_succ, List.lookup_cons, List.lookup_nil]
      exact hK
    refine ⟨.int (r : Nat), atI_last' (by rw [List.getLast?_map, due_last hr]; rfl), ?_⟩
    have rl := hr.le
    have rw_ := hr.low
    have rr : RepOk (.int (r : Nat)) := rep_int (by omega)
    refine ⟨T, .list (l.map .int), .int (k : Nat), rfl, fun i hi => (by rw [flt] at hi; cases hi), fun _ => ⟨fun z => (by simp [numD] at z; omega), fun s e s1 s4 r2 hr2 => ?_⟩⟩
    rw [ints_lst] at hr2
    have e : s = k := (by have e : (k : Int) = s := (by simpa using e); omega)
    subst e
    obtain rfl := longest_one hr hr2
    refine ⟨rr, rr, ?_⟩
    rw [if_pos rfl]
    refine ⟨T, .tuple (l.map .int), .int (s : Nat), rfl, fun i hi => (by rw [ftu] at hi; cases hi), fun _ => ⟨fun z => (by simp [numD] at z; omega), fun s' e s1 s4 r3 hr3 => ?_⟩⟩
    rw [ints_tup] at hr3
    have e : s' = s := (by have e : (s : Int) = s' := (by simpa using e); omega)
    subst e
    have er := longest_one hr hr3
    subst er
    simp
    have em : (if l.length < s' then (l.length : Int) else (s' : Int)) = ((min s' l.length : Nat) : Int) := by
      split <;> omega
    rw [em, if_neg (by omega)]
    refine hK _ ⟨s' + 1, m, _, _, _, rfl, by omega, by omega, rfl⟩

end
end Lw

set_option Elab.async false
set_option linter.all false
set_option maxRecDepth 100000
set_option maxHeartbeats 1000000
namespace Lx
open PySem PySem.Spec PyProof.Rows L2
/-- isinstance(e, c) of the error that the suite holds: cls its class, d its dict -/
def rIsG (K : PySem.W.Frag) (a : Addr) (cls : Value) (d : Option Addr) : List V → Hp → VK → Prop := fun xs H Q => ∃ (D dd : Addr), cls = .ref D ∧ d = some dd ∧ ExcC K D ∧ rIsF K D a dd xs H Q
theorem call_isG {X : Cx} {a : Addr} {cls : Value} {d : Option Addr} {oe : Obj} {pn : List (Addr × Obj)} (hz : Zc cls d oe) (hf : ∃ vs, oe.data = .fields vs) : CallR (X.suite a ((a, oe) :: pn)) (.builtin "isinstance") (rIsG X.K a cls d) := by
  rintro pins s σ H xs us Q I r ⟨D, dd, rfl, rfl, C, h⟩
  exact call_isF C hz hf pins s σ H xs us Q I r h
end Lx
namespace Lw
open PySem PySem.Spec PyProof.Rows L2 Lx Pg
/-- the error classes of the law's ears -/
structure Ears (K : PySem.W.Frag) (mg : Str → Option Value) (CR CF CP : Addr) : Prop where
  gR : mg "BadRow" = some (.ref CR)
  gF : mg "Refused" = some (.ref CF)
  gP : mg "PageError" = some (.ref CP)
  rr : PySem.W.exmOne K (.ref CR) (.ref CR) = some true
  fr : PySem.W.exmOne K (.ref CF) (.ref CR) = some false
  ff : PySem.W.exmOne K (.ref CF) (.ref CF) = some true
  pr : PySem.W.kitOne K (.ref CR) (.ref CP) = some true
  pf : PySem.W.kitOne K (.ref CF) (.ref CP) = some true
  xr : XfC K CR
  xf : XfC K CF
  er : ExcC K CR
  ef : ExcC K CF
  nr : PySem.W.findIn K (.ref CR) "at" = some none
  nf : PySem.W.findIn K (.ref CF) "at" = some none
/-- what _law_heard makes of what its lambda does -/
def heardE (K : PySem.W.Frag) (CR CF : Addr) (Q : VK) : XK := fun cls d H' =>
  (cls = .ref CR ∧ ∃ dd v, d = some dd ∧ H' dd = some (.xd [("at", v)]) ∧ ∀ p H'', Same H' H'' → H' p = none → H'' p = some (.tup [.str "row", v, .bl true]) → Q (.ref p) H'') ∨
  (cls = .ref CF ∧ ∃ dd v dv, d = some dd ∧ H' dd = some (.xd [("at", v)]) ∧ Dp K H' v dv ∧ RepOk dv ∧ ∀ p H'', Same H' H'' → H' p = none → H'' p = some (.tup [.str "refused", .str dv.shown, .bl true]) → Q (.ref p) H'')
def heardT (K : PySem.W.Frag) (CR CF : Addr) : (XK → Hp → VK → Prop) → Hp → VK → Prop := fun tl H Q => tl (heardE K CR CF Q) H fun _ H' => Q .non H'
theorem scHeard : FnScope ["ask", "e"] ["ask"] (defScope sLawHeard) := ⟨rfl, rfl, rfl, by decide +kernel, rfl, by decide +kernel, by decide +kernel⟩
theorem heard_gives {X : Cx} {g CR CF CP : Addr} {cdg : Value} (B : Bare X.mg) (ea : Ears X.K X.mg CR CF CP) (hu : X.A.units + 300 < cLine) (hgd : X.A.guards = some []) :
    GivesH X ["ask", "e"] "_law_heard" (defScope sLawHeard) g cdg (defBody sLawHeard) "ask" (heardT X.K CR CF) := by
  intro f s H Q tl act h
  have hu2 : (X.A.deeper (envOfC "_law_heard" (defScope sLawHeard) s.heap.objs.size g cdg)).units + 200 < cLine := by
    show X.A.units + 3 + 200 < cLine
    omega
  refine ⟨_, pss_cons (ps_try_clauses (Wout := fun _ _ _ _ => False)
      (tb := fun W D σ H' => ∃ Ech : XK, (∀ cls d σ' H'', Ech cls d H'' → σ'.length = 2 → W cls d σ' H'') ∧ σ[0]? = some (some (.ref f)) ∧ H' = H ∧ tl Ech H' fun _ H'' => D.nx σ H'')
      rfl rfl scHeard.nd L2.takes0 (fun W pn xe tk _ => ?_)
      (.cons (i := 1) ⟨rfl, by decide, .inl ea.gR⟩ rfl rfl (fun a oe cls d pn hz hf => pss_one (ps_ret (pe_tup (pa_cons pe_str (pa_cons (pe_xf ea.xr ea.nr hz hf (pv 1)) (pa_cons (pe_callB (r := rIsG X.K a cls d) (call_isG hz hf) (by rfl) B.isinstance boot_isinstance (pa_cons (pv 1) (pa_cons (pe_glob (v := .ref CP) rfl ea.gP rfl) pa_nil))) pa_nil))))))
      (.cons (i := 1) ⟨rfl, by decide, .inl ea.gF⟩ rfl rfl (fun a oe cls d pn hz hf => pss_one (ps_ret (pe_tup (pa_cons pe_str (pa_cons (pe_callB (r := rRepr X.K) (call_reprS hu2 hgd) (by rfl) B.repr (by decide +kernel) (pa_cons (pe_xf ea.xf ea.nf hz hf (pv 1)) pa_nil)) (pa_cons (pe_callB (r := rIsG X.K a cls d) (call_isG hz hf) (by rfl) B.isinstance boot_isinstance (pa_cons (pv 1) (pa_cons (pe_glob (v := .ref CP) rfl ea.gP rfl) pa_nil))) pa_nil)))))) .nil)))
    (pss_one (ps_ret pe_non)), ?_⟩
  · constructor
    rintro pins s' σ H' D I ⟨Ech, hW, h1, rfl, h2⟩
    have tk2 : Takes ((gCx X ["ask", "e"] "_law_heard" (defScope sLawHeard) g cdg s H').tr pn xe) (fun cls d σ H => σ.length = 2 → W cls d σ H) := fun u s' ⟨a, B, sI, pins, σ, H, cls, d, e, I, nb, up, sky, na, os, ag, w⟩ => tk u s' ⟨a, B, sI, pins, σ, H, cls, d, e, I, nb, up, sky, na, os, ag, w I.len⟩
    exact (pss_one (ps_expr (act _ pn xe Ech _ _ tk2 hW))).run pins s' σ H' D I ⟨h1, rfl, h2⟩
  · refine ⟨heardE X.K CR CF Q, ?_, rfl, rfl, h⟩
    rintro cls d σ' H' (⟨rfl, dd, v, rfl, hd, q⟩ | ⟨rfl, dd, v, dv, rfl, hd, hv, rep, q⟩) hl
    all_goals
      obtain ⟨y0, y1, rfl⟩ : ∃ y0 y1, σ' = [y0, y1] := by
        match σ', hl with
        | [y0, y1], _ => exact ⟨y0, y1, rfl⟩
    · refine ⟨true, ea.rr, fun _ a na => ?_, fun z => Bool.noConfusion z⟩
      exact ⟨.ref a, rfl, rfl, rfl, dd, [("at", v)], v, rfl, hd, rfl, .ref a, rfl, CR, dd, rfl, rfl, ea.er, .ref CP, .ref CP, true, [("at", v)], rfl, fun u h => h, ea.pr, hd, by show 3 ≤ sizeLine; decide, fun p np => q p _ (same_new np) np upd_same⟩
    · refine ⟨false, ea.fr, fun z => Bool.noConfusion z, fun _ => ⟨true, ea.ff, fun _ a na => ?_, fun z => Bool.noConfusion z⟩⟩
      exact ⟨.ref a, rfl, rfl, rfl, dd, [("at", v)], v, rfl, hd, rfl, v, dv, rfl, hv, rep, .ref a, rfl, CF, dd, rfl, rfl, ea.ef, .ref CP, .ref CP, true, [("at", v)], rfl, fun u h => h, ea.pf, hd, by show 3 ≤ sizeLine; decide, fun p np => q p _ (same_new np) np upd_same⟩
end Lw

set_option Elab.async false
set_option linter.all false
set_option maxRecDepth 100000
set_option maxHeartbeats 4000000
namespace Lw
open PySem PySem.Spec PyProof.Rows L2 Lx Pg Dl
/-- what the ear makes of an error -/
def hear (CR CF : Addr) (e : Er) (Q : DV → Prop) : Prop := (e.C = CR ∧ e.fld = "at" ∧ ∃ d, e.v = .py d ∧ Q (.tup [.str "row", d, .bool true])) ∨ (e.C = CF ∧ e.fld = "at" ∧ ∃ d, e.v = .py d ∧ RepOk d ∧ Q (.tup [.str "refused", .str d.shown, .bool true]))
def dHeard (CR CF : Addr) (t : TD) : TD := fun ρ Qd _ => t ρ (fun _ => Qd .non) (fun e => hear CR CF e Qd)
theorem lh_heard {S : Sx} {CR CF : Addr} : LH S (heardT S.K CR CF) (dHeard CR CF) := by
  intro T t h E H0 ρ σ G H Qd Ed Q w st q k ke
  refine h (heardE S.K CR CF Q) H0 ρ σ G H _ _ _ w st q (fun v d G' H' s rv q => k .non _ G' H' s (.py .non) q) (fun e cls d G' H' s he q => ?_)
  obtain ⟨h1, dd, v, h2, h3, h4⟩ := he
  rcases q with ⟨e1, e2, x, e3, q⟩ | ⟨e1, e2, x, e3, hr, q⟩
  · rw [e3] at h4
    rw [e2] at h3
    refine .inl ⟨by rw [h1, e1], dd, v, h2, h3, fun p H'' sm np hp => ?_⟩
    obtain ⟨s2, r2⟩ := rv_tup_new s.wf sm np hp (.cons (.str _) (.cons (rv_py h4) (.cons (.bl _) .nil)))
    exact k _ _ _ _ (s.trans s2) r2 q
  · rw [e3] at h4
    rw [e2] at h3
    refine .inr ⟨by rw [h1, e1], dd, v, x, h2, h3, Rp.dp s.wf.sub _ _ (rv_py h4), hr, fun p H'' sm np hp => ?_⟩
    obtain ⟨s2, r2⟩ := rv_tup_new s.wf sm np hp (.cons (.str _) (.cons (.str _) (.cons (.bl _) .nil)))
    exact k _ _ _ _ (s.trans s2) r2 q
end Lw

set_option Elab.async false
set_option linter.all false
set_option maxRecDepth 100000
set_option maxHeartbeats 4000000
namespace Lw
open PySem PySem.Spec PyProof.Rows L2 Lx Dl Pg
section
variable {P : Program} {w : World} {mg : Str → Option Value} {base : Heap} {S : Sx}
variable {CM CR CF : Addr}
/-- the def of the ear -/
structure EarDef (K : PySem.W.Frag) (mg : Str → Option Value) : Prop where
  ex : ∃ g fd, mg "_law_heard" = some (.ref g) ∧ Fun K "_law_heard" "_law_heard" sLawHeard g fd ∧ L2.Binds K fd ["ask"] []
/-- the rows of k deeds from number j on, m of them -/
def rowsP (n k j m : Nat) : List PyData := (List.range' j m).map fun x => rowT (digits n k x)
theorem rowsP_eq {n k m : Nat} : rowsP n k 0 m = (rowsOf n k m).map rowT := by
  unfold rowsP rowsOf
  rw [List.range_eq_range', List.map_map]
  rfl
theorem rowsP_len {n k j m : Nat} : (rowsP n k j m).length = m := by simp [rowsP]
theorem rowsP_get {n k m x : Nat} (h : x < m) : (rowsP n k 0 m)[x]? = some (rowT (digits n k x)) := by
  rw [rowsP_eq, List.getElem?_map, rowsOf_get h]
  rfl
theorem rows_rep {n k m : Nat} (hn : 1 ≤ n) (h4 : n ≤ 4) (hk : k ≤ 4) (hm : m ≤ 256) : RepOk (.list (rowsP n k 0 m)) := by
  have z := neat_list (ds := rowsP n k 0 m) (a := 1) (b := 4 * 41) fun d hd => by
    unfold rowsP at hd
    obtain ⟨x, _, rfl⟩ := List.mem_map.mp hd
    have t := neat_tuple (ds := (digits n k x).map PyData.int) (a := 0) (b := 40) (neat_ints fun d hd => by
      have := digits_ok (k := k) (x := x) hn d hd
      omega)
    refine t.mono (Nat.le_refl _) ?_
    rw [List.length_map, digits_len]
    omega
  exact z.rep (by decide) (by rw [rowsP_len]; omega)
theorem ints_rep {m : Nat} (hm : m ≤ 256) : RepOk (.list (rangeD 0 m)) := by
  have z := neat_list (ds := rangeD 0 m) (a := 0) (b := 40) (fun d hd => by
    obtain ⟨i, hi, rfl⟩ := mem_rangeD.mp hd
    exact neat_int (by omega))
  exact z.rep (by decide) (by rw [rangeD_len]; omega)
theorem place_use {CM CR : Addr} {T : List (List Int)} {v : PyData} {Q : DV → Prop} {Ed : Er → Prop} (t4 : T.length ≤ 4) (hf : rowFault T.length v = none) (q : Q (.int (placeOf T.length (intsOf v)))) : placeSp CM CR [mach CM T, .py v] Q Ed :=
  ⟨T, v, rfl, t4, fun i hi => (by rw [hf] at hi; cases hi), fun _ => q⟩
theorem nth_use {CM CF : Addr} {T : List (List Int)} {k x : Nat} {Q : DV → Prop} {Ed : Er → Prop} (t1 : 1 ≤ T.length) (t4 : T.length ≤ 4) (hk : k ≤ 400) (hx : x < T.length ^ k) (q : Q (.py (rowT (digits T.length k x)))) : spNthRow CM CF [mach CM T, .int (k : Nat), .int (x : Nat)] Q Ed := by
  refine ⟨T, _, _, rfl, t1, t4, fun z => ?_, fun k' e hk' => ⟨fun z => ?_, fun x' e' hx' => ?_⟩⟩
  · simp [numD] at z
    omega
  · have e : k = k' := (by have e : (k : Int) = k' := (by simpa using e); omega)
    subst e
    generalize T.length ^ k = M at hx z
    simp [numD] at z
    omega
  · have e : k = k' := (by have e : (k : Int) = k' := (by simpa using e); omega)
    have e' : x = x' := (by have e : (x : Int) = x' := (by simpa using e'); omega)
    subst e
    subst e'
    exact q
theorem nth_refuse {CM CF : Addr} {T : List (List Int)} {k : Nat} {xv : PyData} {Q : DV → Prop} {Ed : Er → Prop} (t1 : 1 ≤ T.length) (t4 : T.length ≤ 4) (hk : k ≤ 400) (hx : numD xv 0 (some (((T.length ^ k : Nat) : Int) - 1)) = false) (q : Ed ⟨CF, "at", .py xv⟩) : spNthRow CM CF [mach CM T, .int (k : Nat), .py xv] Q Ed := by
  refine ⟨T, _, _, rfl, t1, t4, fun z => ?_, fun k' e hk' => ⟨fun z => q, fun x' e' hx' => ?_⟩⟩
  · simp [numD] at z
    omega
  · have e : k = k' := (by have e : (k : Int) = k' := (by simpa using e); omega)
    subst e
    subst e'
    generalize T.length ^ k = M at hx hx'
    simp [numD] at hx
    omega
theorem nth_refuse2 {CM CF : Addr} {T : List (List Int)} {kv xv : PyData} {Q : DV → Prop} {Ed : Er → Prop} (t1 : 1 ≤ T.length) (t4 : T.length ≤ 4) (hk : numD kv 0 (some 400) = false) (q : Ed ⟨CF, "at", .py kv⟩) : spNthRow CM CF [mach CM T, .py kv, .py xv] Q Ed := by
  refine ⟨T, _, _, rfl, t1, t4, fun z => q, fun k' e hk' => ?_⟩
  subst e
  simp [numD] at hk
  omega
theorem bad_of {M : Nat} {d : PyData} (hM : M ≤ 401) (h : d ∈ [PyData.int (M : Nat), .int (-1), .none, .bool true, .str (Str.ofString "0")]) : Told d ∧ numD d 0 (some ((M : Int) - 1)) = false := by
  simp only [List.mem_cons, List.not_mem_nil, or_false] at h
  rcases h with rfl | rfl | rfl | rfl | rfl
  · exact ⟨told_int hM, by simp [numD]; omega⟩
  · exact ⟨told_neg, by simp [numD]⟩
  · exact ⟨told_none, rfl⟩
  · exact ⟨told_bool _, rfl⟩
  · exact ⟨told0, rfl⟩
def spNumRight (CM : Addr) : SpD := fun ds Q _ => ∃ T, ds = [.box, mach CM T, .int (T.length : Nat)] ∧ 1 ≤ T.length ∧ T.length ≤ 4 ∧ Q (.bl true)
def nLawNumbersRightN : List Str := ["box", "machine", "deeds", "many", "rows", "turn", "longer", "row", "deed", "number", "at", "bad"]
theorem scLawNumbersRight : FnScope nLawNumbersRightN ["box", "machine", "deeds"] (defScope sLawNumbersRight) := ⟨rfl, rfl, rfl, by decide +kernel, rfl, by decide +kernel, by decide +kernel⟩
theorem ok_law_numbers_right {f : Addr} {fd : FuncData} (F : Fun S.K "_law_numbers_right" "_law_numbers_right" sLawNumbersRight f fd) {c Pt : Addr} (hcode : fd.code = .ref c) (TB : LamX.TabB base mg c Pt) (hmT : ∀ X : Cx, X.env.qual = ("_law_numbers_right" : Str) ++ ".<locals>." → (Pt, lamQ X) ∈ S.Tb) (hu : ∀ X : Cx, X.env.qual = ("_law_numbers_right" : Str) ++ ".<locals>." → ∀ p ∈ S.Tb, p.1 = Pt → p.2 = lamQ X) (ear : EarDef S.K mg) (ea : ∃ CP, Ears S.K mg CR CF CP) (B : Bare mg) (Gt : Has P w S.K mg base L2.CX0 1 "_law_take" ["box", "many"] (spD S 2 spTake)) (Gp : Has P w S.K mg base L2.CX0 2 "_law_pick" ["box", "some"] (spD S 2 spPick)) (Gn : Has P w S.K mg base (L2.CX P w) 5 "nth_row" ["machine", "many", "number"] (spD S 3 (spNthRow CM CF))) (Gnr : HasR P w S.K mg base (L2.CX P w) 5 "nth_row" ["machine", "many", "number"] ["number", "many", "machine"] (spD S 3 (spNthRow CM CF))) (Gp2 : Has P w S.K mg base (L2.CX P w) 5 "row_place" ["machine", "row"] (spD S 2 (placeSp CM CR))) (Gpr : HasR P w S.K mg base (L2.CX P w) 5 "row_place" ["machine", "row"] ["row", "machine"] (spD S 2 (placeSp CM CR))) : FnOkG P w S.K mg base L2.CX0 9 f fd ["box", "machine", "deeds"] (spD S 3 (spNumRight CM)) := by
  have nd : nLawNumbersRightN.Nodup := scLawNumbersRight.nd
  obtain ⟨CP, ea⟩ := ea
  obtain ⟨ge, fde, mge, Fe, be⟩ := ear.ex
  refine okDT (N := nLawNumbersRightN) (k := 8) F hcode scLawNumbersRight (hb := fun A outer s H E hr hgd => ?_)
  have hu3 : (A.deeper (envOfC "_law_numbers_right" (defScope sLawNumbersRight) s.heap.objs.size f (.ref c))).units + 300 < cLine := by have := hr.un; omega
  have hu2 : (A.deeper (envOfC "_law_numbers_right" (defScope sLawNumbersRight) s.heap.objs.size f (.ref c))).units + 200 < cLine := by have := hr.un; omega
  have hu65 : (A.deeper (envOfC "_law_numbers_right" (defScope sLawNumbersRight) s.heap.objs.size f (.ref c))).units + 65 < cLine := by omega
  refine ⟨_, _, (pss_cons (ps_asg (pe_tup (pa_cons (pe_has Gt (hr.mono (by decide)) (by rfl) (pa_cons (pv 0) (pa_cons pe_int pa_nil))) (pa_cons (pe_lst (pa_cons (pe_tup pa_nil) pa_nil)) pa_nil))) (pg_tup rfl (pgs_cons (pg_name (i := 3) nd rfl (Or.inr rfl)) (pgs_cons (pg_name (i := 4) nd rfl (Or.inl rfl)) pgs_nil))))
      (pss_cons (ps_for PassesOwn.never rfl (pi_range1 (by rfl) B.range (pa_cons (pv 3) pa_nil)) (pg_name (i := 5) nd rfl (Or.inl rfl))
      (pss_cons (ps_set (i := 6) nd rfl (Or.inl rfl) (pe_lst pa_nil))
      (pss_cons (ps_for PassesOwn.never rfl (pi_seq (pv 4)) (pg_name (i := 7) nd rfl (Or.inr rfl))
      (pss_one (ps_set (i := 6) nd rfl (Or.inl rfl) (pe_op op_addA (pv 6) (pe_lc (own := [("deed", 8)]) (g := gName 8) (tt := tYes) rfl nd (pi_range1 (by rfl) B.range (pa_cons (pv 2) pa_nil)) (blkOk_by (N := nLawNumbersRightN) (sc := defScope sLawNumbersRight) (by decide +kernel)) (fun _ _ _ _ _ => (pg_name (i := 8) nd rfl (Or.inl rfl))) (fun _ _ _ _ _ => pts_nil) (fun _ _ _ _ _ => (pe_op op_addA (pv 7) (pe_tup (pa_cons (pv 8) pa_nil)))))))))
      (pss_one (ps_set (i := 4) nd rfl (Or.inl rfl) (pv 6))))))
      (pss_cons (ps_set (i := 9) nd rfl (Or.inl rfl) (pe_has Gt (hr.mono (by decide)) (by rfl) (pa_cons (pv 0) (pa_cons (pe_callB (r := rLenA _) lenA (by rfl) B.len PySem.boot_len (pa_cons (pv 4) pa_nil)) pa_nil))))
      (pss_cons (ps_if (pt_cmpR op_ne (pe_callB (r := rRepr _) (call_reprS hu2 hgd) (by rfl) B.repr (by decide +kernel) (pa_cons (pe_lc (own := [("at", 10)]) (g := gName 10) (tt := tYes) rfl nd (pi_range1 (by rfl) B.range (pa_cons (pe_callB (r := rLenA _) lenA (by rfl) B.len PySem.boot_len (pa_cons (pv 4) pa_nil)) pa_nil)) (blkOk_by (N := nLawNumbersRightN) (sc := defScope sLawNumbersRight) (by decide +kernel)) (fun _ _ _ _ _ => (pg_name (i := 10) nd rfl (Or.inl rfl))) (fun _ _ _ _ _ => pts_nil) (fun _ _ _ _ _ => (pe_hasN Gn (hr.mono (by decide)) (by rfl) (pa_cons (pv 1) (pa_cons (pv 3) (pa_cons (pv 10) pa_nil)))))) pa_nil)) (pe_callB (r := rRepr _) (call_reprS hu2 hgd) (by rfl) B.repr (by decide +kernel) (pa_cons (pv 4) pa_nil)) (nomark _)) (pss_one (ps_ret pe_bl)) pss_nil)
      (pss_cons (ps_if (pt_cmpR (op_neD hr.units) (pe_hasR Gnr (hr.mono (by decide)) (by rfl) (pk_cons (pv 9) (pk_cons (pv 3) (pk_cons (pv 1) pk_nil)))) (pe_ix (r := rIx _) ix_seq (pv 4) (pv 9) (fun _ _ => rfl)) (nomark _)) (pss_one (ps_ret pe_bl)) pss_nil)
      (pss_cons (ps_if (pt_cmpR op_ne (pe_callB (r := rRepr _) (call_reprS hu2 hgd) (by rfl) B.repr (by decide +kernel) (pa_cons (pe_lc (own := [("row", 7)]) (g := gName 7) (tt := tYes) rfl nd (pi_seq (pv 4)) (blkOk_by (N := nLawNumbersRightN) (sc := defScope sLawNumbersRight) (by decide +kernel)) (fun _ _ _ _ _ => (pg_name (i := 7) nd rfl (Or.inl rfl))) (fun _ _ _ _ _ => pts_nil) (fun _ _ _ _ _ => (pe_hasN Gp2 (hr.mono (by decide)) (by rfl) (pa_cons (pv 1) (pa_cons (pv 7) pa_nil))))) pa_nil)) (pe_callB (r := rRepr _) (call_reprS hu2 hgd) (by rfl) B.repr (by decide +kernel) (pa_cons (pe_listRg rfl (by rfl) B.list (prg_1 (by rfl) B.range (pe_callB (r := rLenA _) lenA (by rfl) B.len PySem.boot_len (pa_cons (pv 4) pa_nil)))) pa_nil)) (nomark _)) (pss_one (ps_ret pe_bl)) pss_nil)
      (pss_cons (ps_if (pt_cmpR (op_neD hr.units) (pe_hasR Gpr (hr.mono (by decide)) (by rfl) (pk_cons (pe_callTy (r := rListOf _) listOf (by rfl) B.list boot_list (pa_cons (pe_ix (r := rIx _) ix_seq (pv 4) (pv 9) (fun _ _ => rfl)) pa_nil)) (pk_cons (pv 1) pk_nil))) (pv 9) (nomark _)) (pss_one (ps_ret pe_bl)) pss_nil)
      (pss_cons (ps_set (i := 11) nd rfl (Or.inr rfl) (pe_has Gp (hr.mono (by decide)) (by rfl) (pa_cons (pv 0) (pa_cons (pe_lst (pa_cons (pe_callB (r := rLenA _) lenA (by rfl) B.len PySem.boot_len (pa_cons (pv 4) pa_nil)) (pa_cons (pe_op op_sub pe_int pe_int) (pa_cons pe_non (pa_cons pe_bl (pa_cons pe_str pa_nil)))))) pa_nil))))
      (pss_cons (ps_if (pt_cmpR (op_neD hr.units) (pe_lamG (TT := heardT _ CR CF) (k := 5) (by rfl) mge Fe be scHeard rfl (Or.inl rfl) (fun _ => heard_gives B ea hu3 hgd) TB rfl (hmT _ (by rfl)) (hu _ (by rfl)) (hr.mono (by decide)) (lamN_by (sc := defScope sLawNumbersRight) (by decide +kernel)) (by rfl) (fun _ _ _ _ _ => rfl) (BodyOk.of fun A2 outer2 s2 H2 E2 f2 c2 hr2 => (pe_hasX (E := E2) Gn (hr2.mono (by decide)) (takes_of rfl rfl rfl rfl) (fun _ _ _ _ z => z) (by rfl) (pa_cons (pv 1) (pa_cons (pv 3) (pa_cons (pv 11) pa_nil)))))) (pe_tup (pa_cons pe_str (pa_cons (pe_callB (r := rRepr _) (call_reprS hu2 hgd) (by rfl) B.repr (by decide +kernel) (pa_cons (pv 11) pa_nil)) (pa_cons pe_bl pa_nil)))) (nomark _)) (pss_one (ps_ret pe_bl)) pss_nil)
      (pss_cons (ps_set (i := 11) nd rfl (Or.inr rfl) (pe_has Gp (hr.mono (by decide)) (by rfl) (pa_cons (pv 0) (pa_cons (pe_lst (pa_cons pe_int (pa_cons (pe_op op_sub pe_int pe_int) (pa_cons pe_non (pa_cons pe_bl (pa_cons pe_str pa_nil)))))) pa_nil))))
      (pss_cons (ps_if (pt_cmpR (op_neD hr.units) (pe_lamG (TT := heardT _ CR CF) (k := 5) (by rfl) mge Fe be scHeard rfl (Or.inl rfl) (fun _ => heard_gives B ea hu3 hgd) TB rfl (hmT _ (by rfl)) (hu _ (by rfl)) (hr.mono (by decide)) (lamN_by (sc := defScope sLawNumbersRight) (by decide +kernel)) (by rfl) (fun _ _ _ _ _ => rfl) (BodyOk.of fun A2 outer2 s2 H2 E2 f2 c2 hr2 => (pe_hasX (E := E2) Gn (hr2.mono (by decide)) (takes_of rfl rfl rfl rfl) (fun _ _ _ _ z => z) (by rfl) (pa_cons (pv 1) (pa_cons (pv 11) (pa_cons pe_non pa_nil)))))) (pe_tup (pa_cons pe_str (pa_cons (pe_callB (r := rRepr _) (call_reprS hu2 hgd) (by rfl) B.repr (by decide +kernel) (pa_cons (pv 11) pa_nil)) (pa_cons pe_bl pa_nil)))) (nomark _)) (pss_one (ps_ret pe_bl)) pss_nil)
      (pss_one (ps_ret (pe_cmpR (op_eqD hr.units) (pe_callB (r := rLenA _) lenA (by rfl) B.len PySem.boot_len (pa_cons (pe_hasN Gn (hr.mono (by decide)) (by rfl) (pa_cons (pv 1) (pa_cons pe_int (pa_cons pe_int pa_nil)))) pa_nil)) pe_int (nomark _))))))))))))))),
      (ls_seq (ls_setT (is := [3, 4]) (le_tup (la_cons (le_call0 (la_cons le_var (la_cons le_int la_nil))) (la_cons (LO.le (lo_lst (la_cons (le_tup la_nil (by decide)) la_nil) (by decide))) la_nil)) (by decide)) rfl)
      (ls_seq (ls_for (g := .one 5) (li_range1 (la_cons le_var la_nil))
      (ls_seq (ls_set (i := 6) (LO.le (lo_lst la_nil (by decide))))
      (ls_seq (ls_for (g := .one 7) (li_seq le_var)
      (ls_set (i := 6) (le_op l2_add le_var (LO.le (lo_lc (g := .one 8) (li_range1 (la_cons le_var la_nil)) lt_yes (le_op l2_add le_var (le_tup (la_cons le_var la_nil) (by decide))))))))
      (ls_set (i := 4) le_var))))
      (ls_seq (ls_set (i := 9) (le_call0 (la_cons le_var (la_cons (le_cb lc_len (la_cons le_var la_nil)) la_nil))))
      (ls_seq (ls_if (lt_test (le_op l2_neS (le_cb lc_repr (la_cons (LO.le (lo_lc (g := .one 10) (li_range1 (la_cons (le_cb lc_len (la_cons le_var la_nil)) la_nil)) lt_yes (le_call0 (la_cons le_var (la_cons le_var (la_cons le_var la_nil)))))) la_nil)) (le_cb lc_repr (la_cons le_var la_nil)))) (ls_ret le_bl) ls_next)
      (ls_seq (ls_if (lt_test (le_op l2_ne (le_callR (la_cons le_var (la_cons le_var (la_cons le_var la_nil)))) (le_op l2_ix le_var le_var))) (ls_ret le_bl) ls_next)
      (ls_seq (ls_if (lt_test (le_op l2_neS (le_cb lc_repr (la_cons (LO.le (lo_lc (g := .one 7) (li_seq le_var) lt_yes (le_call0 (la_cons le_var (la_cons le_var la_nil))))) la_nil)) (le_cb lc_repr (la_cons (LO.le (lo_listRg (le_cb lc_len (la_cons le_var la_nil)))) la_nil)))) (ls_ret le_bl) ls_next)
      (ls_seq (ls_if (lt_test (le_op l2_ne (le_callR (la_cons (LO.le (lo_cb lc_list (la_cons (le_op l2_ix le_var le_var) la_nil))) (la_cons le_var la_nil))) le_var)) (ls_ret le_bl) ls_next)
      (ls_seq (ls_set (i := 11) (le_call0 (la_cons le_var (la_cons (LO.le (lo_lst (la_cons (le_cb lc_len (la_cons le_var la_nil)) (la_cons (le_op l2_sub le_int le_int) (la_cons le_non (la_cons le_bl (la_cons le_str la_nil))))) (by decide))) la_nil))))
      (ls_seq (ls_if (lt_test (le_op l2_ne (le_lamG lh_heard (fun _ => (le_call (la_cons le_var (la_cons le_var (la_cons le_var la_nil)))))) (le_tup (la_cons le_str (la_cons (le_cb lc_repr (la_cons le_var la_nil)) (la_cons le_bl la_nil))) (by decide)))) (ls_ret le_bl) ls_next)
      (ls_seq (ls_set (i := 11) (le_call0 (la_cons le_var (la_cons (LO.le (lo_lst (la_cons le_int (la_cons (le_op l2_sub le_int le_int) (la_cons le_non (la_cons le_bl (la_cons le_str la_nil))))) (by decide))) la_nil))))
      (ls_seq (ls_if (lt_test (le_op l2_ne (le_lamG lh_heard (fun _ => (le_call (la_cons le_var (la_cons le_var (la_cons le_non la_nil)))))) (le_tup (la_cons le_str (la_cons (le_cb lc_repr (la_cons le_var la_nil)) (la_cons le_bl la_nil))) (by decide)))) (ls_ret le_bl) ls_next)
      (ls_ret (le_op l2_eq (le_cb lc_len (la_cons (le_call0 (la_cons le_var (la_cons le_int (la_cons le_int la_nil)))) la_nil)) le_int))))))))))))), fun ds Qd Ed hl h => ?_⟩
  obtain ⟨T, rfl, t1, t4, h⟩ := h
  simp [dOf, dVar, dC, dOp, dUn, dNil, dCons, pys, dTup, oLst, dCB, oCB, dCall, dCall0, dCallR, fAdd, oOp, fCat, fInt, fIntC, fNeg, fEq, isNonD, fIsN, fIn, fIx, dTest, dAnd, dOr, dNot, dAndV, dOrV, dNotV, dIfE, dChain, dFld, dNext, dSeq, dRet, dRetN, dDrop, dIfS, dBreak, dCont, dSet, dSetO, setAll, dSetT, dPar, itSeq, itRange1, itRange2, itEnum, Tg.put, Tg.ix, dFor, wipeL, dYes, oLc, dAppend, dPutIx, dFreeze, unown, hasOwn, noLD, okL, dSnap, dSnapT, dRaise, startD, dNoPart, dPart, dSl, oSl, fLen, fInt1, fAbs, fInt2, fDivmod, fTuple, fList, fSorted, oSortedSet, fRepr, fAll, fSum, isIntD, isBoolD, isStrD, isTupD, isSeqD, fIsT, dIsLT, dAug, dPutF, dFldI, dMake, startI, putD, dTupRev, dNewBox, dBoxPut, fRep, fEqS, oListRg, dHeard, nLawNumbersRightN, List.map, List.cons_append, List.nil_append, List.append_eq, List.getElem?_cons_zero, List.getElem?_cons_succ, List.set_cons_zero, List.set_cons_succ, List.lookup_cons, List.lookup_nil, take_eq]
  intro r hr5
  refine ⟨⟨by omega, by omega⟩, ?_⟩
  rw [rangeD_R]
  have M4 : ∀ i, i ≤ 4 → T.length ^ i ≤ 256 := fun i hi => pow_most t4 hi
  refine loop_ind (fun ds ρ => ∃ (lo : Int) (i m : Nat) (y5 y6 y7 y8 : Option SV), ds = rangeR lo m ∧ i + m = r ∧ ρ = [some (SV.dv DV.box), some (SV.dv (mach CM T)), some (SV.dv (DV.int (T.length : Nat))), some (SV.dv (DV.int (r : Nat))), some (SV.dv (DV.lst (rowsP T.length i 0 (T.length ^ i)))), y5, y6, y7, y8, none, none, none]) ?_ ?_ _ _ ⟨0, 0, r, none, none, none, none, rfl, by omega, rfl⟩
  · rintro ρ ⟨lo, i, m, y5, y6, y7, y8, e, hi, rfl⟩
    cases m with
    | succ m => cases e
    | zero =>
    have e : i = r := by omega
    subst e
    have Mi := M4 i (by omega)
    have Mp : 1 ≤ T.length ^ i := Nat.pow_pos t1
    generalize hM : T.length ^ i = M at Mi Mp
    have getR : ∀ x, x < M → (rowsP T.length i 0 (M))[x]? = some (rowT (digits T.length i x)) := fun x hx => rowsP_get hx
    have repR : RepOk (.list (rowsP T.length i 0 (M))) := rows_rep t1 t4 (by omega) Mi
    have dok : ∀ x, ∀ d ∈ digits T.length i x, 0 ≤ d ∧ d < (T.length : Int) := fun x => digits_ok t1
    simp [dOf, dVar, dC, dOp, dUn, dNil, dCons, pys, dTup, oLst, dCB, oCB, dCall, dCall0, dCallR, fAdd, oOp, fCat, fInt, fIntC, fNeg, fEq, isNonD, fIsN, fIn, fIx, dTest, dAnd, dOr, dNot, dAndV, dOrV, dNotV, dIfE, dChain, dFld, dNext, dSeq, dRet, dRetN, dDrop, dIfS, dBreak, dCont, dSet, dSetO, setAll, dSetT, dPar, itSeq, itRange1, itRange2, itEnum, Tg.put, Tg.ix, dFor, wipeL, dYes, oLc, dAppend, dPutIx, dFreeze, unown, hasOwn, noLD, okL, dSnap, dSnapT, dRaise, startD, dNoPart, dPart, dSl, oSl, fLen, fInt1, fAbs, fInt2, fDivmod, fTuple, fList, fSorted, oSortedSet, fRepr, fAll, fSum, isIntD, isBoolD, isStrD, isTupD, isSeqD, fIsT, dIsLT, dAug, dPutF, dFldI, dMake, startI, putD, dTupRev, dNewBox, dBoxPut, fRep, fEqS, oListRg, dHeard, List.map, List.cons_append, List.nil_append, List.append_eq, List.getElem?_cons_zero, List.getElem?_cons_succ, List.set_cons_zero, List.set_cons_succ, List.lookup_cons, List.lookup_nil, take_eq, rowsP_len]
    refine ⟨by omega, by omega, fun x hx => ⟨⟨by omega, by omega⟩, turns_rgm (lo := 0) (fun y => rowT (digits T.length i y)) (by omega) (fun y hy => ⟨_, rfl, fun K hK => ?_⟩) ?_⟩⟩
    · simp [dOf, dVar, dC, dOp, dUn, dNil, dCons, pys, dTup, oLst, dCB, oCB, dCall, dCall0, dCallR, fAdd, oOp, fCat, fInt, fIntC, fNeg, fEq, isNonD, fIsN, fIn, fIx, dTest, dAnd, dOr, dNot, dAndV, dOrV, dNotV, dIfE, dChain, dFld, dNext, dSeq, dRet, dRetN, dDrop, dIfS, dBreak, dCont, dSet, dSetO, setAll, dSetT, dPar, itSeq, itRange1, itRange2, itEnum, Tg.put, Tg.ix, dFor, wipeL, dYes, oLc, dAppend, dPutIx, dFreeze, unown, hasOwn, noLD, okL, dSnap, dSnapT, dRaise, startD, dNoPart, dPart, dSl, oSl, fLen, fInt1, fAbs, fInt2, fDivmod, fTuple, fList, fSorted, oSortedSet, fRepr, fAll, fSum, isIntD, isBoolD, isStrD, isTupD, isSeqD, fIsT, dIsLT, dAug, dPutF, dFldI, dMake, startI, putD, dTupRev, dNewBox, dBoxPut, fRep, fEqS, oListRg, dHeard, List.map, List.cons_append, List.nil_append, List.append_eq, List.getElem?_cons_zero, List.getElem?_cons_succ, List.set_cons_zero, List.set_cons_succ, List.lookup_cons, List.lookup_nil]
      exact nth_use t1 t4 (by omega) (by rw [hM]; exact hy) hK
    rw [show (List.range (M)).map (fun y => rowT (digits T.length i y)) = rowsP T.length i 0 (M) by unfold rowsP; rw [List.range_eq_range']]
    refine ⟨repR, repR, ?_⟩
    rw [if_pos rfl]
    refine nth_use t1 t4 (by omega) (by rw [hM]; exact hx) ⟨_, atI_nat (getR x hx), ?_⟩
    simp only [rowT]
    refine ⟨shp_tup _, shp_tup _, ?_⟩
    rw [eqv_tuple_ints, if_pos (by simp)]
    refine turns_map (fun d => .int (placeOf T.length (intsOf d))) (by rw [rowsP_len]; omega) (fun d hd => ⟨_, rfl, fun K hK => ?_⟩) ?_
    · simp [dOf, dVar, dC, dOp, dUn, dNil, dCons, pys, dTup, oLst, dCB, oCB, dCall, dCall0, dCallR, fAdd, oOp, fCat, fInt, fIntC, fNeg, fEq, isNonD, fIsN, fIn, fIx, dTest, dAnd, dOr, dNot, dAndV, dOrV, dNotV, dIfE, dChain, dFld, dNext, dSeq, dRet, dRetN, dDrop, dIfS, dBreak, dCont, dSet, dSetO, setAll, dSetT, dPar, itSeq, itRange1, itRange2, itEnum, Tg.put, Tg.ix, dFor, wipeL, dYes, oLc, dAppend, dPutIx, dFreeze, unown, hasOwn, noLD, okL, dSnap, dSnapT, dRaise, startD, dNoPart, dPart, dSl, oSl, fLen, fInt1, fAbs, fInt2, fDivmod, fTuple, fList, fSorted, oSortedSet, fRepr, fAll, fSum, isIntD, isBoolD, isStrD, isTupD, isSeqD, fIsT, dIsLT, dAug, dPutF, dFldI, dMake, startI, putD, dTupRev, dNewBox, dBoxPut, fRep, fEqS, oListRg, dHeard, List.map, List.cons_append, List.nil_append, List.append_eq, List.getElem?_cons_zero, List.getElem?_cons_succ, List.set_cons_zero, List.set_cons_succ, List.lookup_cons, List.lookup_nil]
      unfold rowsP at hd
      obtain ⟨y, _, rfl⟩ := List.mem_map.mp hd
      exact place_use t4 (fault_tup (by rw [digits_len]; omega) (dok y)) hK
    have em : (rowsP T.length i 0 (M)).map (fun d => PyData.int (placeOf T.length (intsOf d))) = rangeD 0 (M) := by
      unfold rowsP rangeD
      rw [List.map_map, List.range_eq_range']
      apply List.map_congr_left
      intro y hy
      have hy := (List.mem_range'_1.mp hy).2
      show PyData.int (placeOf T.length (intsOf (rowT (digits T.length i y)))) = _
      unfold rowT
      rw [ints_tup, place_digits t1 i y (by rw [hM]; omega)]
      simp
    rw [em]
    refine ⟨ints_rep Mi, by omega, ints_rep Mi, ?_⟩
    rw [if_pos rfl]
    refine ⟨_, atI_nat (getR x hx), ?_⟩
    refine place_use t4 (v := .list ((digits T.length i x).map .int)) (fault_lst (by rw [digits_len]; omega) (dok x)) ?_
    rw [ints_lst, place_digits t1 i x (by rw [hM]; exact hx)]
    show (if ((x : Nat) : Int) = (x : Nat) then _ else _)
    rw [if_pos rfl]
    refine ⟨_, rfl, by simp, by simp, fun d hd => ?_⟩
    obtain ⟨td, nd1⟩ := bad_of (M := M) (by omega) hd
    refine nth_refuse t1 t4 (by omega) (by rw [hM]; exact nd1) (.inr ⟨rfl, rfl, d, rfl, td.1, ?_⟩)
    refine ⟨td.1, shp_told (by decide +kernel) td.2, shp_told (by decide +kernel) td.2, ?_⟩
    rw [if_pos (eqv_told _ _)]
    refine ⟨_, rfl, by decide, by decide, fun d hd => ?_⟩
    obtain ⟨td, nd1⟩ := bad_of (M := 401) (by omega) hd
    refine nth_refuse2 t1 t4 nd1 (.inr ⟨rfl, rfl, d, rfl, td.1, ?_⟩)
    refine ⟨td.1, shp_told (by decide +kernel) td.2, shp_told (by decide +kernel) td.2, ?_⟩
    rw [if_pos (eqv_told _ _)]
    refine nth_use (k := 400) (x := 0) t1 t4 (by omega) (Nat.pow_pos t1) ?_
    show Qd (.bl (decide ((((digits T.length 400 0).map PyData.int).length : Int) = 400)))
    rw [List.length_map, digits_len]
    exact h
  · rintro d ds ρ K hK ⟨lo, i, m, y5, y6, y7, y8, e, hi, rfl⟩
    cases m with
    | zero => cases e
    | succ m =>
    cases e
    have Mi := M4 i (by omega)
    simp [dOf, dVar, dC, dOp, dUn, dNil, dCons, pys, dTup, oLst, dCB, oCB, dCall, dCall0, dCallR, fAdd, oOp, fCat, fInt, fIntC, fNeg, fEq, isNonD, fIsN, fIn, fIx, dTest, dAnd, dOr, dNot, dAndV, dOrV, dNotV, dIfE, dChain, dFld, dNext, dSeq, dRet, dRetN, dDrop, dIfS, dBreak, dCont, dSet, dSetO, setAll, dSetT, dPar, itSeq, itRange1, itRange2, itEnum, Tg.put, Tg.ix, dFor, wipeL, dYes, oLc, dAppend, dPutIx, dFreeze, unown, hasOwn, noLD, okL, dSnap, dSnapT, dRaise, startD, dNoPart, dPart, dSl, oSl, fLen, fInt1, fAbs, fInt2, fDivmod, fTuple, fList, fSorted, oSortedSet, fRepr, fAll, fSum, isIntD, isBoolD, isStrD, isTupD, isSeqD, fIsT, dIsLT, dAug, dPutF, dFldI, dMake, startI, putD, dTupRev, dNewBox, dBoxPut, fRep, fEqS, oListRg, dHeard, List.map, List.cons_append, List.nil_append, List.append_eq, List.getElem?_cons_zero, List.getElem?_cons_succ, List.set_cons_zero, List.set_cons_succ, List.lookup_cons, List.lookup_nil, rowsP]
    refine loop_ind (fun ds ρ => ∃ (j q : Nat) (y7 y8 : Option SV), ds = rowsP T.length i j q ∧ j + q = T.length ^ i ∧ ρ = [some (SV.dv DV.box), some (SV.dv (mach CM T)), some (SV.dv (DV.int (T.length : Nat))), some (SV.dv (DV.int (r : Nat))), some (SV.dv (DV.lst (rowsP T.length i 0 (T.length ^ i)))), some (SV.dv (DV.int lo)), some (SV.dv (DV.lst (rowsP T.length (i + 1) 0 (j * T.length)))), y7, y8, none, none, none]) ?_ ?_ _ _ ⟨0, T.length ^ i, y7, y8, rfl, by omega, by simp [rowsP]⟩
    · rintro ρ ⟨j, q, y7, y8, e, hj, rfl⟩
      cases q with
      | succ q => cases e
      | zero =>
      have e : j = T.length ^ i := by omega
      subst e
      simp [dOf, dVar, dC, dOp, dUn, dNil, dCons, pys, dTup, oLst, dCB, oCB, dCall, dCall0, dCallR, fAdd, oOp, fCat, fInt, fIntC, fNeg, fEq, isNonD, fIsN, fIn, fIx, dTest, dAnd, dOr, dNot, dAndV, dOrV, dNotV, dIfE, dChain, dFld, dNext, dSeq, dRet, dRetN, dDrop, dIfS, dBreak, dCont, dSet, dSetO, setAll, dSetT, dPar, itSeq, itRange1, itRange2, itEnum, Tg.put, Tg.ix, dFor, wipeL, dYes, oLc, dAppend, dPutIx, dFreeze, unown, hasOwn, noLD, okL, dSnap, dSnapT, dRaise, startD, dNoPart, dPart, dSl, oSl, fLen, fInt1, fAbs, fInt2, fDivmod, fTuple, fList, fSorted, oSortedSet, fRepr, fAll, fSum, isIntD, isBoolD, isStrD, isTupD, isSeqD, fIsT, dIsLT, dAug, dPutF, dFldI, dMake, startI, putD, dTupRev, dNewBox, dBoxPut, fRep, fEqS, oListRg, dHeard, List.map, List.cons_append, List.nil_append, List.append_eq, List.getElem?_cons_zero, List.getElem?_cons_succ, List.set_cons_zero, List.set_cons_succ, List.lookup_cons, List.lookup_nil]
      refine hK _ ⟨lo + 1, i + 1, m, _, _, _, _, rfl, by omega, by rw [Nat.pow_succ]⟩
    · rintro d ds ρ K2 hK2 ⟨j, q, y7, y8, e, hj, rfl⟩
      cases q with
      | zero => cases e
      | succ q =>
      have e1 : d :: ds = rowT (digits T.length i j) :: rowsP T.length i (j + 1) q := e
      cases e1
      have jb : (j + 1) * T.length ≤ 256 * 4 := Nat.mul_le_mul (by omega) t4
      simp [dOf, dVar, dC, dOp, dUn, dNil, dCons, pys, dTup, oLst, dCB, oCB, dCall, dCall0, dCallR, fAdd, oOp, fCat, fInt, fIntC, fNeg, fEq, isNonD, fIsN, fIn, fIx, dTest, dAnd, dOr, dNot, dAndV, dOrV, dNotV, dIfE, dChain, dFld, dNext, dSeq, dRet, dRetN, dDrop, dIfS, dBreak, dCont, dSet, dSetO, setAll, dSetT, dPar, itSeq, itRange1, itRange2, itEnum, Tg.put, Tg.ix, dFor, wipeL, dYes, oLc, dAppend, dPutIx, dFreeze, unown, hasOwn, noLD, okL, dSnap, dSnapT, dRaise, startD, dNoPart, dPart, dSl, oSl, fLen, fInt1, fAbs, fInt2, fDivmod, fTuple, fList, fSorted, oSortedSet, fRepr, fAll, fSum, isIntD, isBoolD, isStrD, isTupD, isSeqD, fIsT, dIsLT, dAug, dPutF, dFldI, dMake, startI, putD, dTupRev, dNewBox, dBoxPut, fRep, fEqS, oListRg, dHeard, List.map, List.cons_append, List.nil_append, List.append_eq, List.getElem?_cons_zero, List.getElem?_cons_succ, List.set_cons_zero, List.set_cons_succ, List.lookup_cons, List.lookup_nil, rowT]
      refine ⟨⟨by omega, by omega⟩, turns_rgm (lo := 0) (fun x => rowT (digits T.length i j ++ [((x : Nat) : Int)])) (by omega) (fun x hx => ⟨_, rfl, fun K hK => ?_⟩) ?_⟩
      · simp [dOf, dVar, dC, dOp, dUn, dNil, dCons, pys, dTup, oLst, dCB, oCB, dCall, dCall0, dCallR, fAdd, oOp, fCat, fInt, fIntC, fNeg, fEq, isNonD, fIsN, fIn, fIx, dTest, dAnd, dOr, dNot, dAndV, dOrV, dNotV, dIfE, dChain, dFld, dNext, dSeq, dRet, dRetN, dDrop, dIfS, dBreak, dCont, dSet, dSetO, setAll, dSetT, dPar, itSeq, itRange1, itRange2, itEnum, Tg.put, Tg.ix, dFor, wipeL, dYes, oLc, dAppend, dPutIx, dFreeze, unown, hasOwn, noLD, okL, dSnap, dSnapT, dRaise, startD, dNoPart, dPart, dSl, oSl, fLen, fInt1, fAbs, fInt2, fDivmod, fTuple, fList, fSorted, oSortedSet, fRepr, fAll, fSum, isIntD, isBoolD, isStrD, isTupD, isSeqD, fIsT, dIsLT, dAug, dPutF, dFldI, dMake, startI, putD, dTupRev, dNewBox, dBoxPut, fRep, fEqS, oListRg, dHeard, List.map, List.cons_append, List.nil_append, List.append_eq, List.getElem?_cons_zero, List.getElem?_cons_succ, List.set_cons_zero, List.set_cons_succ, List.lookup_cons, List.lookup_nil]
        exact ⟨by rw [digits_len]; omega, by simpa [rowT] using hK⟩
      · rw [show (rowsP T.length (i + 1) 0 (j * T.length)).length = j * T.length by simp [rowsP], show ((List.range T.length).map fun x => rowT (digits T.length i j ++ [((x : Nat) : Int)])).length = T.length by simp]
        have jb2 : j * T.length + T.length ≤ 1024 := by rw [Nat.add_mul] at jb; omega
        have em : rowsP T.length (i + 1) 0 (j * T.length) ++ (List.range T.length).map (fun x => rowT (digits T.length i j ++ [((x : Nat) : Int)])) = rowsP T.length (i + 1) 0 ((j + 1) * T.length) := by
          rw [rowsP_eq, rowsP_eq, rowsOf_more, List.map_append, List.map_map]
          rfl
        rw [em]
        exact ⟨by omega, hK2 _ ⟨j + 1, q, _, _, rfl, by omega, rfl⟩⟩

end
end Lw

set_option Elab.async false
set_option linter.all false
set_option maxRecDepth 100000
set_option maxHeartbeats 4000000
namespace Lw
open PySem PySem.Spec PyProof.Rows L2 Lx Dl Pg
section
variable {P : Program} {w : World} {mg : Str → Option Value} {base : Heap} {S : Sx}
variable {CM CR CF CB : Addr}
/-- Machine(..) -/
structure MkM (P : Program) (w : World) (S : Sx) (mg : Str → Option Value) (base : Heap) (CM CB : Addr) : Prop where
  ex : ∃ f fd, Mk S.K CM f ∧ FnOk P w S.K mg base (L2.CX P w) 3 f fd ["self", "tables"] (spDI S 1 CM (spMachine CB)) ∧ mg "Machine" = some (.ref CM) ∧ L2.Binds S.K fd ["self", "tables"] []
def spLawD (S : Sx) : SpD := fun ds Q _ => ∃ ns : List Int, ds = [.scr S.K ns] ∧ Q (.bl true)
/-- a wrong row -/
def spBadRow (CM CR : Addr) : SpD := fun ds Q Ed => ∃ T v i, ds = [mach CM T, .py v] ∧ T.length ≤ 4 ∧ rowFault T.length v = some i ∧ Ed ⟨CR, "at", .int i⟩
theorem bad_end {vs : List V} {H : Hp} {Q : VK} {E : XK} (h : spD S 2 (spBadRow CM CR) vs H Q E) : spD S 3 (spRepeatEnd CM CR CF) (vs ++ [.non]) H Q E := by
  obtain ⟨G, ds, Qd, Ed, hl, wf, rv, ⟨T, v, i, rfl, t4, hf, he⟩, k1, k2⟩ := h
  refine ⟨G, [mach CM T, .py v, .py .none], Qd, Ed, by rw [List.length_append, hl]; rfl, wf, papp rv (.cons (.py .non) .nil), ⟨T, v, .none, rfl, fun j hj => ?_, fun z => ?_⟩, k1, k2⟩
  · rw [hf] at hj
    cases hj
    exact he
  · rw [hf] at z
    cases z
theorem bad_steps {vs : List V} {H : Hp} {Q : VK} {E : XK} (h : spD S 2 (spBadRow CM CR) vs H Q E) : spD S 2 (spRepeatSteps CM CR) vs H Q E := by
  obtain ⟨G, ds, Qd, Ed, hl, wf, rv, ⟨T, v, i, rfl, t4, hf, he⟩, k1, k2⟩ := h
  refine ⟨G, _, Qd, Ed, hl, wf, rv, ⟨T, v, rfl, fun j hj => ?_, fun z => ?_⟩, k1, k2⟩
  · rw [hf] at hj
    cases hj
    exact he
  · rw [hf] at z
    cases z
theorem bad_place {vs : List V} {H : Hp} {Q : VK} {E : XK} (h : spD S 2 (spBadRow CM CR) vs H Q E) : spD S 2 (placeSp CM CR) vs H Q E := by
  obtain ⟨G, ds, Qd, Ed, hl, wf, rv, ⟨T, v, i, rfl, t4, hf, he⟩, k1, k2⟩ := h
  refine ⟨G, _, Qd, Ed, hl, wf, rv, ⟨T, v, rfl, t4, fun j hj => ?_, fun z => ?_⟩, k1, k2⟩
  · rw [hf] at hj
    cases hj
    exact he
  · rw [hf] at z
    cases z
/-- what each of the asked lambdas does of a wrong row -/
def badSp (S : Sx) (CM CR : Addr) (E : XK) : TE := tCall (spD S 2 (spBadRow CM CR)) [] E (tCons (tVar 4) (tCons (tVar 11) tNil))
theorem noValue : ("value" : Str) ∉ (["script", "k", "box", "deeds", "machine", "row", "at", "bent", "asks", "work", "bad"] : List Str) := by decide +kernel
theorem mach_use {n c : Nat} {Q : List (Str × DV) → Prop} {Ed : Er → Prop} (n1 : 1 ≤ n) (n4 : n ≤ 4) (c1 : 1 ≤ c) (c8 : c ≤ 8) (q : Q (machFs (List.replicate n (List.replicate c 0)))) : spMachine CB [.lst (List.replicate n (.list ((List.replicate c (0 : Int)).map .int)))] Q Ed := by
  have sq : seqB (.list (List.replicate n (PyData.list ((List.replicate c (0 : Int)).map .int)))) 1 4 = true := by
    simp [seqB]
    omega
  have tb : tabB (.list ((List.replicate c (0 : Int)).map .int)) (.list ((List.replicate c (0 : Int)).map .int)) = true := by
    unfold tabB
    rw [Bool.and_eq_true, Bool.and_eq_true]
    refine ⟨⟨by simp [seqB]; omega, by simp⟩, ?_⟩
    rw [List.all_eq_true]
    intro x hx
    simp [itemsD] at hx
    rw [hx.2]
    simp [isDp, numD, itemsD]
    omega
  have hd : (List.replicate n (PyData.list ((List.replicate c (0 : Int)).map .int))).headD .none = .list ((List.replicate c (0 : Int)).map .int) := by
    obtain ⟨m, rfl⟩ : ∃ m, n = m + 1 := ⟨n - 1, by omega⟩
    rfl
  have nf : mFault (.list (List.replicate n (PyData.list ((List.replicate c (0 : Int)).map .int)))) = none := by
    unfold mFault
    rw [if_pos sq]
    simp only [itemsD]
    rw [hd, Option.map_eq_none_iff, List.findIdx?_eq_none_iff]
    intro x hx
    rw [(List.mem_replicate.mp hx).2, tb]
    rfl
  refine ⟨_, rfl, fun i hi => ?_, fun _ => ?_⟩
  · rw [nf] at hi
    cases hi
  · have e : tablesOf (.list (List.replicate n (PyData.list ((List.replicate c (0 : Int)).map .int)))) = List.replicate n (List.replicate c 0) := by
      unfold tablesOf
      simp only [itemsD, List.map_replicate]
      congr 1
      have z := ints_lst (l := List.replicate c (0 : Int))
      simpa using z
    rw [e]
    exact q
theorem bent_fault {n : Nat} {l : List Int} {x : PyData} {a : Nat} (hl : l.length ≤ 399) (ok : ∀ d ∈ l, 0 ≤ d ∧ d < (n : Int)) (ha : a ≤ l.length) (hx : isDp n x = false) : rowFault n (.list ((l.map .int).take a ++ ([x] ++ (l.map .int).drop a))) = some (a : Int) := by
  have len : ((l.map PyData.int).take a ++ ([x] ++ (l.map PyData.int).drop a)).length = l.length + 1 := by
    rw [List.length_append, List.length_append, List.length_take, List.length_drop, List.length_map]
    show min a l.length + (1 + _) = _
    omega
  unfold rowFault
  rw [if_pos (by simp only [seqB, len, Bool.and_eq_true, decide_eq_true_eq]; omega)]
  simp only [itemsD]
  have z : ((l.map PyData.int).take a).findIdx? (fun x => !isDp n x) = none := by
    rw [List.findIdx?_eq_none_iff]
    intro d hd
    obtain ⟨i, hi, rfl⟩ := List.mem_map.mp (List.mem_of_mem_take hd)
    have := ok i hi
    simp [isDp, numD]
    omega
  rw [List.findIdx?_append, z]
  simp only [List.cons_append, List.nil_append, List.findIdx?_cons, hx, List.length_take, List.length_map]
  simp
  omega
theorem step_of {d : PyData} (h : d ∈ [PyData.int 0, .int 401, .int (-1), .none, .bool true, .str (Str.ofString "1")]) : Told d ∧ numD d 1 (some 400) = false := by
  simp only [List.mem_cons, List.not_mem_nil, or_false] at h
  rcases h with rfl | rfl | rfl | rfl | rfl | rfl
  · exact ⟨told_int (M := 0) (by decide), by decide⟩
  · exact ⟨told_int (M := 401) (by decide), by decide⟩
  · exact ⟨told_neg, by decide⟩
  · exact ⟨told_none, rfl⟩
  · exact ⟨told_bool _, rfl⟩
  · exact ⟨told1, rfl⟩
theorem mach_nodup {T : List (List Int)} : ((machFs T).map fun x => x.fst).Nodup := by
  show ([Str.ofString "tables", Str.ofString "deeds", Str.ofString "states"] : List Str).Nodup
  decide +kernel
theorem allDv_dv {d : DV} {r : Rho} : allDv (some (.dv d) :: r) = allDv r := rfl
theorem allDv_tail : ∀ {y : Option SV} {r : Rho}, allDv (y :: r) = true → allDv r = true
  | none, _, h => h
  | some (.dv _), _, h => h
  | some (.own _), _, h => by cases h
  | some (.ini _ _ _ _), _, h => by cases h
theorem allDv_fst {d : DV} : ∀ {y : Option SV} {r : Rho}, allDv (y :: r) = true → allDv [y, some (.dv d)] = true
  | none, _, h => rfl
  | some (.dv _), _, h => rfl
  | some (.own _), _, h => by cases h
  | some (.ini _ _ _ _), _, h => by cases h
theorem allDv_none {r : Rho} : allDv (none :: r) = allDv r := rfl
def nLawN : List Str := ["script", "k", "box", "deeds", "machine", "row", "at", "bent", "asks", "work", "bad"]
theorem scLaw : FnScope nLawN ["script"] (defScope sLaw) := ⟨rfl, rfl, rfl, by decide +kernel, rfl, by decide +kernel, by decide +kernel⟩
theorem ok_law {f : Addr} {fd : FuncData} (F : Fun S.K "law" "law" sLaw f fd) {c Pt : Addr} (hcode : fd.code = .ref c) (TB : LamX.TabB base mg c Pt) (hmT : ∀ X : Cx, X.env.qual = ("law" : Str) ++ ".<locals>." → (Pt, lamQ X) ∈ S.Tb) (hu : ∀ X : Cx, X.env.qual = ("law" : Str) ++ ".<locals>." → ∀ p ∈ S.Tb, p.1 = Pt → p.2 = lamQ X) (ear : EarDef S.K mg) (ea : ∃ CP, Ears S.K mg CR CF CP) (B : Bare mg) (MM : MkM P w S mg base CM CB) (Gb : Has P w S.K mg base L2.CX0 1 "_law_box" ["script", "k"] (spD S 2 (spBoxOf S))) (Gt : Has P w S.K mg base L2.CX0 1 "_law_take" ["box", "many"] (spD S 2 spTake)) (Gp : Has P w S.K mg base L2.CX0 2 "_law_pick" ["box", "some"] (spD S 2 spPick)) (Gw : Has P w S.K mg base L2.CX0 2 "_law_row" ["box", "deeds"] (spD S 2 spRow)) (Gr : HasG P w S.K mg base 6 "_law_repeats_right" ["box", "machine", "row"] (spD S 3 (spRepRight CM))) (Gnu : HasG P w S.K mg base 9 "_law_numbers_right" ["box", "machine", "deeds"] (spD S 3 (spNumRight CM))) (Ge : Has P w S.K mg base (L2.CX P w) 5 "repeat_end" ["machine", "row", "step"] (spD S 3 (spRepeatEnd CM CR CF))) (Gs : Has P w S.K mg base (L2.CX P w) 5 "repeat_steps" ["machine", "row"] (spD S 2 (spRepeatSteps CM CR))) (Gpl : Has P w S.K mg base (L2.CX P w) 5 "row_place" ["machine", "row"] (spD S 2 (placeSp CM CR))) : FnOkG P w S.K mg base L2.CX0 10 f fd ["script"] (spD S 1 (spLawD S)) := by
  have nd : nLawN.Nodup := scLaw.nd
  obtain ⟨CP, ea⟩ := ea
  obtain ⟨ge, fde, mge, Fe, be⟩ := ear.ex
  obtain ⟨fm, fdm, mk, okM, mgM, bM⟩ := MM.ex
  refine okDT (N := nLawN) (k := 9) F hcode scLaw (hb := fun A outer s H E hr hgd => ?_)
  have hu3 : (A.deeper (envOfC "law" (defScope sLaw) s.heap.objs.size f (.ref c))).units + 300 < cLine := by have := hr.un; omega
  have hu2 : (A.deeper (envOfC "law" (defScope sLaw) s.heap.objs.size f (.ref c))).units + 200 < cLine := by have := hr.un; omega
  have hu65 : (A.deeper (envOfC "law" (defScope sLaw) s.heap.objs.size f (.ref c))).units + 65 < cLine := by omega
  refine ⟨_, _, (pss_cons (ps_for PassesOwn.never rfl (pi_range1 (by rfl) B.range (pa_cons pe_int pa_nil)) (pg_name (i := 1) nd rfl (Or.inl rfl))
      (pss_cons (ps_set (i := 2) nd rfl (Or.inl rfl) (pe_has Gb (hr.mono (by decide)) (by rfl) (pa_cons (pv 0) (pa_cons (pv 1) pa_nil))))
      (pss_cons (ps_set (i := 3) nd rfl (Or.inl rfl) (pe_op op_addA pe_int (pe_has Gt (hr.mono (by decide)) (by rfl) (pa_cons (pv 2) (pa_cons pe_int pa_nil)))))
      (pss_cons (ps_asg (pe_tup (pa_cons (pe_make (E := L2.E0) (dvs := []) (ds := []) mk okM (hr.mono (by decide)) (by rfl) mgM bM .nil passL (pa_cons (pe_op op_rep (pe_lst (pa_cons (pe_lst (pa_cons pe_int (pa_cons pe_int pa_nil))) pa_nil)) (pv 3)) pa_nil)) (pa_cons (pe_has Gw (hr.mono (by decide)) (by rfl) (pa_cons (pv 2) (pa_cons (pv 3) pa_nil))) pa_nil))) (pg_tup rfl (pgs_cons (pg_name (i := 4) nd rfl (Or.inr rfl)) (pgs_cons (pg_name (i := 5) nd rfl (Or.inr rfl)) pgs_nil))))
      (pss_cons (ps_if (PW.pt (pw_or (pt_not (pt_val (pe_hasG Gr (hr.mono (by decide)) hgd (by rfl) (pa_cons (pv 2) (pa_cons (pv 4) (pa_cons (pv 5) pa_nil)))))) (pw_or1 (pt_not (pt_val (pe_hasG Gnu (hr.mono (by decide)) hgd (by rfl) (pa_cons (pv 2) (pa_cons (pv 4) (pa_cons (pv 3) pa_nil))))))))) (pss_one (ps_ret pe_bl)) pss_nil)
      (pss_cons (ps_set (i := 6) nd rfl (Or.inl rfl) (pe_has Gt (hr.mono (by decide)) (by rfl) (pa_cons (pv 2) (pa_cons (pe_op op_addA (pe_callB (r := rLenA _) lenA (by rfl) B.len PySem.boot_len (pa_cons (pv 5) pa_nil)) pe_int) pa_nil))))
      (pss_cons (ps_set (i := 7) nd rfl (Or.inr rfl) (pe_op op_addA (pe_op op_addA (pe_slice (r := rSlAny _) sl_any (pv 5) po_none (po_some (pv 6))) (pe_lst (pa_cons (pe_has Gp (hr.mono (by decide)) (by rfl) (pa_cons (pv 2) (pa_cons (pe_lst (pa_cons (pv 3) (pa_cons (pe_op op_sub pe_int pe_int) (pa_cons pe_bl (pa_cons pe_non pa_nil))))) pa_nil))) pa_nil))) (pe_slice (r := rSlAny _) sl_any (pv 5) (po_some (pv 6)) po_none)))
      (pss_cons (ps_set (i := 8) nd rfl (Or.inl rfl) (pe_lst (pa_cons (pe_lamV (ps := ["value"]) (lamN_by (sc := defScope sLaw) (by decide +kernel)) TB rfl (hmT _ (by rfl)) (hu _ (by rfl)) (by rfl)) pa_nil)))
      (pss_cons (ps_expr (pe_bm PySem.F.plainAttrs_list PySem.F.slot_list_append PySem.F.type_list_append mt_append (pv 8) (pa_cons (pe_lamV (ps := ["value"]) (lamN_by (sc := defScope sLaw) (by decide +kernel)) TB rfl (hmT _ (by rfl)) (hu _ (by rfl)) (by rfl)) pa_nil)))
      (pss_cons (ps_expr (pe_bm PySem.F.plainAttrs_list PySem.F.slot_list_append PySem.F.type_list_append mt_append (pv 8) (pa_cons (pe_lamV (ps := ["value"]) (lamN_by (sc := defScope sLaw) (by decide +kernel)) TB rfl (hmT _ (by rfl)) (hu _ (by rfl)) (by rfl)) pa_nil)))
      (pss_cons (ps_for PassesOwn.never rfl (pi_seq (pv 8)) (pg_name (i := 9) nd rfl (Or.inr rfl))
      (pss_cons (ps_if (pt_cmpR (op_neD hr.units) (pe_lamG (TT := heardT _ CR CF) (k := 6) (by rfl) mge Fe be scHeard rfl (Or.inl rfl) (fun _ => heard_gives B ea hu3 hgd) TB rfl (hmT _ (by rfl)) (hu _ (by rfl)) (hr.mono (by decide)) (lamN_by (sc := defScope sLaw) (by decide +kernel)) (by rfl) (fun _ _ _ _ _ => rfl) (BodyOk.work (k := 5) (i := 9) (ta := tVar 7) (sp := badSp S CM CR) noValue rfl (by exact Or.inr (Or.inr rfl)) (fun _ _ _ _ _ _ _ => pv 7) (var_mono 7) (fun _ => rfl))) (pe_tup (pa_cons pe_str (pa_cons (pv 6) (pa_cons pe_bl pa_nil)))) (nomark _)) (pss_one (ps_ret pe_bl)) pss_nil)
      (pss_one (ps_if (pt_cmpR (op_neD hr.units) (pe_lamG (TT := heardT _ CR CF) (k := 6) (by rfl) mge Fe be scHeard rfl (Or.inl rfl) (fun _ => heard_gives B ea hu3 hgd) TB rfl (hmT _ (by rfl)) (hu _ (by rfl)) (hr.mono (by decide)) (lamN_by (sc := defScope sLaw) (by decide +kernel)) (by rfl) (fun _ _ _ _ _ => rfl) (BodyOk.work (k := 5) (i := 9) (ta := tC .non) (sp := badSp S CM CR) noValue rfl (by exact Or.inr (Or.inr rfl)) (fun _ _ _ _ _ _ _ => pe_non) (con_mono .non) (fun _ => rfl))) (pe_tup (pa_cons pe_str (pa_cons (pe_op op_sub pe_int pe_int) (pa_cons pe_bl pa_nil)))) (nomark _)) (pss_one (ps_ret pe_bl)) pss_nil))))
      (pss_cons (ps_set (i := 10) nd rfl (Or.inr rfl) (pe_has Gp (hr.mono (by decide)) (by rfl) (pa_cons (pv 2) (pa_cons (pe_lst (pa_cons pe_int (pa_cons pe_int (pa_cons (pe_op op_sub pe_int pe_int) (pa_cons pe_non (pa_cons pe_bl (pa_cons pe_str pa_nil))))))) pa_nil))))
      (pss_one (ps_if (pt_cmpR (op_neD hr.units) (pe_lamG (TT := heardT _ CR CF) (k := 6) (by rfl) mge Fe be scHeard rfl (Or.inl rfl) (fun _ => heard_gives B ea hu3 hgd) TB rfl (hmT _ (by rfl)) (hu _ (by rfl)) (hr.mono (by decide)) (lamN_by (sc := defScope sLaw) (by decide +kernel)) (by rfl) (fun _ _ _ _ _ => rfl) (BodyOk.of fun A2 outer2 s2 H2 E2 f2 c2 hr2 => (pe_hasX (E := E2) Ge (hr2.mono (by decide)) (takes_of rfl rfl rfl rfl) (fun _ _ _ _ z => z) (by rfl) (pa_cons (pv 4) (pa_cons (pv 5) (pa_cons (pv 10) pa_nil)))))) (pe_tup (pa_cons pe_str (pa_cons (pe_callB (r := rRepr _) (call_reprS hu2 hgd) (by rfl) B.repr (by decide +kernel) (pa_cons (pv 10) pa_nil)) (pa_cons pe_bl pa_nil)))) (nomark _)) (pss_one (ps_ret pe_bl)) pss_nil))))))))))))))
      (pss_one (ps_ret (pe_cmpR (op_eqD hr.units) (pe_hasN Ge (hr.mono (by decide)) (by rfl) (pa_cons (pe_make (E := L2.E0) (dvs := []) (ds := []) mk okM (hr.mono (by decide)) (by rfl) mgM bM .nil passL (pa_cons (pe_lst (pa_cons (pe_lst (pa_cons pe_int pa_nil)) pa_nil)) pa_nil)) (pa_cons (pe_op op_rep (pe_lst (pa_cons pe_int pa_nil)) pe_int) (pa_cons pe_int pa_nil)))) pe_int (nomark _))))),
      (ls_seq (ls_for (g := .one 1) (li_range1 (la_cons le_int la_nil))
      (ls_seq (ls_set (i := 2) (le_call0 (la_cons le_var (la_cons le_var la_nil))))
      (ls_seq (ls_set (i := 3) (le_op l2_add le_int (le_call0 (la_cons le_var (la_cons le_int la_nil)))))
      (ls_seq (ls_pair (i := 4) (j := 5) (la_cons (le_make (la_cons (LO.le (lo_op l2o_rep (LO.le (lo_lst (la_cons (LO.le (lo_lst (la_cons le_int (la_cons le_int la_nil)) (by decide))) la_nil) (by decide))) le_var)) la_nil)) (la_cons (le_call0 (la_cons le_var (la_cons le_var la_nil))) la_nil)))
      (ls_seq (ls_if (lt_or (lt_not (lt_b (le_call0 (la_cons le_var (la_cons le_var (la_cons le_var la_nil)))))) (lt_not (lt_b (le_call0 (la_cons le_var (la_cons le_var (la_cons le_var la_nil))))))) (ls_ret le_bl) ls_next)
      (ls_seq (ls_set (i := 6) (le_call0 (la_cons le_var (la_cons (le_op l2_add (le_cb lc_len (la_cons le_var la_nil)) le_int) la_nil))))
      (ls_seq (ls_set (i := 7) (le_op l2_add (le_op l2_add (le_sl le_var lp_none (lp_some le_var)) (LO.le (lo_lst (la_cons (le_call0 (la_cons le_var (la_cons (LO.le (lo_lst (la_cons le_var (la_cons (le_op l2_sub le_int le_int) (la_cons le_bl (la_cons le_non la_nil)))) (by decide))) la_nil))) la_nil) (by decide)))) (le_sl le_var (lp_some le_var) lp_none)))
      (ls_lams (W := lamW (cxOf L2.CX0 P w S.K mg base nLawN "law" (defScope sLaw) f (.ref c) A outer s H E).nox 5 "value" (badSp S CM CR)) (i := 8) (lb_app (lb_app (lb_done (ls_seq (ls_forL (W := lamW (cxOf L2.CX0 P w S.K mg base nLawN "law" (defScope sLaw) f (.ref c) A outer s H E).nox 5 "value" (badSp S CM CR)) (i := 8) (j := 9)
      (ls_seq (ls_if (lt_test (le_op l2_ne (le_lamG lh_heard (fun _ => le_workV (sp := badSp S CM CR) (le_call (la_cons le_var (la_cons le_var la_nil))))) (le_tup (la_cons le_str (la_cons le_var (la_cons le_bl la_nil))) (by decide)))) (ls_ret le_bl) ls_next)
      (ls_if (lt_test (le_op l2_ne (le_lamG lh_heard (fun _ => le_workC (fun _ => .py .non) (sp := badSp S CM CR) (le_call (la_cons le_var (la_cons le_var la_nil))))) (le_tup (la_cons le_str (la_cons (le_op l2_sub le_int le_int) (la_cons le_bl la_nil))) (by decide)))) (ls_ret le_bl) ls_next)))
      (ls_seq (ls_set (i := 10) (le_call0 (la_cons le_var (la_cons (LO.le (lo_lst (la_cons le_int (la_cons le_int (la_cons (le_op l2_sub le_int le_int) (la_cons le_non (la_cons le_bl (la_cons le_str la_nil)))))) (by decide))) la_nil))))
      (ls_if (lt_test (le_op l2_ne (le_lamG lh_heard (fun _ => (le_call (la_cons le_var (la_cons le_var (la_cons le_var la_nil)))))) (le_tup (la_cons le_str (la_cons (le_cb lc_repr (la_cons le_var la_nil)) (la_cons le_bl la_nil))) (by decide)))) (ls_ret le_bl) ls_next)))) (by decide) (fun F f cc h1 h2 => ⟨_, _, _, cc, h1, h2, lamN_by (sc := defScope sLaw) (by decide +kernel), fun _ _ _ _ _ _ => rfl, fun A2 outer2 s2 H2 E2 f2 c2 hr2 => PE.mono (pe_hasX (E := E2) Gpl (hr2.mono (by decide)) (takes_of rfl rfl rfl rfl) (fun _ _ _ _ z => z) (by rfl) (pa_cons (pv 4) (pa_cons (pv 11) pa_nil))) (fun σ H Q ⟨a, g4, b, g11, z⟩ => ⟨a, g4, b, g11, bad_place z⟩)⟩)) (by decide) (fun F f cc h1 h2 => ⟨_, _, _, cc, h1, h2, lamN_by (sc := defScope sLaw) (by decide +kernel), fun _ _ _ _ _ _ => rfl, fun A2 outer2 s2 H2 E2 f2 c2 hr2 => PE.mono (pe_hasX (E := E2) Gs (hr2.mono (by decide)) (takes_of rfl rfl rfl rfl) (fun _ _ _ _ z => z) (by rfl) (pa_cons (pv 4) (pa_cons (pv 11) pa_nil))) (fun σ H Q ⟨a, g4, b, g11, z⟩ => ⟨a, g4, b, g11, bad_steps z⟩)⟩)) (fun F f cc h1 h2 => ⟨_, _, _, cc, h1, h2, lamN_by (sc := defScope sLaw) (by decide +kernel), fun _ _ _ _ _ _ => rfl, fun A2 outer2 s2 H2 E2 f2 c2 hr2 => PE.mono (pe_hasX (E := E2) Ge (hr2.mono (by decide)) (takes_of rfl rfl rfl rfl) (fun _ _ _ _ z => z) (by rfl) (pa_cons (pv 4) (pa_cons (pv 11) (pa_cons pe_non pa_nil)))) (fun σ H Q ⟨a, g4, b, g11, z⟩ => ⟨a, g4, b, g11, bad_end z⟩)⟩)))))))))
      (ls_ret (le_op l2_eq (le_call0 (la_cons (le_make (la_cons (LO.le (lo_lst (la_cons (LO.le (lo_lst (la_cons le_int la_nil) (by decide))) la_nil) (by decide))) la_nil)) (la_cons (LO.le (lo_op l2o_rep (LO.le (lo_lst (la_cons le_int la_nil) (by decide))) le_int)) (la_cons le_int la_nil)))) le_int))), fun ds Qd Ed hl h => ?_⟩
  obtain ⟨ns, rfl, h⟩ := h
  generalize lamW (cxOf L2.CX0 P w S.K mg base nLawN "law" (defScope sLaw) f (.ref c) A outer s H E).nox 5 "value" (badSp S CM CR) = W
  simp [dOf, dVar, dC, dOp, dUn, dNil, dCons, pys, dTup, oLst, dCB, oCB, dCall, dCall0, dCallR, fAdd, oOp, fCat, fInt, fIntC, fNeg, fEq, isNonD, fIsN, fIn, fIx, dTest, dAnd, dOr, dNot, dAndV, dOrV, dNotV, dIfE, dChain, dFld, dNext, dSeq, dRet, dRetN, dDrop, dIfS, dBreak, dCont, dSet, dSetO, setAll, dSetT, dPar, itSeq, itRange1, itRange2, itEnum, Tg.put, Tg.ix, dFor, wipeL, dYes, oLc, dAppend, dPutIx, dFreeze, unown, hasOwn, noLD, okL, dSnap, dSnapT, dRaise, startD, dNoPart, dPart, dSl, oSl, fLen, fInt1, fAbs, fInt2, fDivmod, fTuple, fList, fSorted, oSortedSet, fRepr, fAll, fSum, isIntD, isBoolD, isStrD, isTupD, isSeqD, fIsT, dIsLT, dAug, dPutF, dFldI, dMake, startI, putD, dTupRev, dNewBox, dBoxPut, fRep, fEqS, oListRg, dHeard, dPair, dWork, nLawN, List.map, List.cons_append, List.nil_append, List.append_eq, List.getElem?_cons_zero, List.getElem?_cons_succ, List.set_cons_zero, List.set_cons_succ, List.lookup_cons, List.lookup_nil, take_eq]
  refine ⟨⟨by decide, by decide⟩, ?_⟩
  rw [rangeD_R]
  refine loop_ind (fun ds ρ => ∃ (k m : Nat) (y1 y2 y3 y4 y5 y6 y7 y8 y9 y10 : Option SV), ds = rangeR (k : Nat) m ∧ allDv [y9, y10] = true ∧ ρ = [some (SV.dv (.scr S.K ns)), y1, y2, y3, y4, y5, y6, y7, y8, y9, y10]) ?_ ?_ _ _ ⟨0, 4, none, none, none, none, none, none, none, none, none, none, rfl, rfl, rfl⟩
  · rintro ρ ⟨k, m, y1, y2, y3, y4, y5, y6, y7, y8, y9, y10, e, dv, rfl⟩
    simp [dOf, dVar, dC, dOp, dUn, dNil, dCons, pys, dTup, oLst, dCB, oCB, dCall, dCall0, dCallR, fAdd, oOp, fCat, fInt, fIntC, fNeg, fEq, isNonD, fIsN, fIn, fIx, dTest, dAnd, dOr, dNot, dAndV, dOrV, dNotV, dIfE, dChain, dFld, dNext, dSeq, dRet, dRetN, dDrop, dIfS, dBreak, dCont, dSet, dSetO, setAll, dSetT, dPar, itSeq, itRange1, itRange2, itEnum, Tg.put, Tg.ix, dFor, wipeL, dYes, oLc, dAppend, dPutIx, dFreeze, unown, hasOwn, noLD, okL, dSnap, dSnapT, dRaise, startD, dNoPart, dPart, dSl, oSl, fLen, fInt1, fAbs, fInt2, fDivmod, fTuple, fList, fSorted, oSortedSet, fRepr, fAll, fSum, isIntD, isBoolD, isStrD, isTupD, isSeqD, fIsT, dIsLT, dAug, dPutF, dFldI, dMake, startI, putD, dTupRev, dNewBox, dBoxPut, fRep, fEqS, oListRg, dHeard, dPair, dWork, List.map, List.cons_append, List.nil_append, List.append_eq, List.getElem?_cons_zero, List.getElem?_cons_succ, List.set_cons_zero, List.set_cons_succ, List.lookup_cons, List.lookup_nil, -List.reduceReplicate]
    refine mach_use (n := 1) (c := 1) (by decide) (by decide) (by decide) (by decide) ⟨mach_nodup, ?_⟩
    have z0 : ∀ d ∈ List.replicate 400 (0 : Int), 0 ≤ d ∧ d < ((List.replicate 1 (List.replicate 1 (0 : Int))).length : Int) := fun d hd => by
      rw [(List.mem_replicate.mp hd).2]
      exact ⟨by decide, by decide⟩
    have fl := fault_lst (n := (List.replicate 1 (List.replicate 1 (0 : Int))).length) (l := List.replicate 400 (0 : Int)) (by rw [List.length_replicate]; decide) z0
    rw [List.map_replicate] at fl
    refine ⟨List.replicate 1 (List.replicate 1 0), .list (List.replicate 400 (.int 0)), .int 400, rfl, fun i hi => (by rw [fl] at hi; cases hi), fun _ => ⟨fun z => (by simp [numD] at z), fun s e s1 s4 r lr => ?_⟩⟩
    have e : (400 : Int) = s := by simpa using e
    have g0 := ints_lst (l := List.replicate 400 (0 : Int))
    rw [List.map_replicate] at g0
    have g1 := lr.le
    have g2 := lr.low
    rw [g0, List.length_replicate] at g1 g2
    show Qd (.bl (decide ((r : Int) = 400)))
    rw [decide_eq_true (show (r : Int) = 400 by omega)]
    exact h
  · rintro d ds ρ K hK ⟨k, m, y1, y2, y3, y4, y5, y6, y7, y8, y9, y10, e, dv, rfl⟩
    cases m with
    | zero => cases e
    | succ m =>
    cases e
    have next : ∀ z1 z2 z3 z4 z5 z6 z7 z8 z9 z10, allDv [z9, z10] = true → K [some (SV.dv (.scr S.K ns)), z1, z2, z3, z4, z5, z6, z7, z8, z9, z10] := fun z1 z2 z3 z4 z5 z6 z7 z8 z9 z10 h => hK _ ⟨k + 1, m, z1, z2, z3, z4, z5, z6, z7, z8, z9, z10, by simp, h, rfl⟩
    clear hK
    simp [dOf, dVar, dC, dOp, dUn, dNil, dCons, pys, dTup, oLst, dCB, oCB, dCall, dCall0, dCallR, fAdd, oOp, fCat, fInt, fIntC, fNeg, fEq, isNonD, fIsN, fIn, fIx, dTest, dAnd, dOr, dNot, dAndV, dOrV, dNotV, dIfE, dChain, dFld, dNext, dSeq, dRet, dRetN, dDrop, dIfS, dBreak, dCont, dSet, dSetO, setAll, dSetT, dPar, itSeq, itRange1, itRange2, itEnum, Tg.put, Tg.ix, dFor, wipeL, dYes, oLc, dAppend, dPutIx, dFreeze, unown, hasOwn, noLD, okL, dSnap, dSnapT, dRaise, startD, dNoPart, dPart, dSl, oSl, fLen, fInt1, fAbs, fInt2, fDivmod, fTuple, fList, fSorted, oSortedSet, fRepr, fAll, fSum, isIntD, isBoolD, isStrD, isTupD, isSeqD, fIsT, dIsLT, dAug, dPutF, dFldI, dMake, startI, putD, dTupRev, dNewBox, dBoxPut, fRep, fEqS, oListRg, dHeard, dPair, dWork, List.map, List.cons_append, List.nil_append, List.append_eq, List.getElem?_cons_zero, List.getElem?_cons_succ, List.set_cons_zero, List.set_cons_succ, List.lookup_cons, List.lookup_nil, take_eq]
    refine ⟨ns, k, rfl, ?_⟩
    simp [dOf, dVar, dC, dOp, dUn, dNil, dCons, pys, dTup, oLst, dCB, oCB, dCall, dCall0, dCallR, fAdd, oOp, fCat, fInt, fIntC, fNeg, fEq, isNonD, fIsN, fIn, fIx, dTest, dAnd, dOr, dNot, dAndV, dOrV, dNotV, dIfE, dChain, dFld, dNext, dSeq, dRet, dRetN, dDrop, dIfS, dBreak, dCont, dSet, dSetO, setAll, dSetT, dPar, itSeq, itRange1, itRange2, itEnum, Tg.put, Tg.ix, dFor, wipeL, dYes, oLc, dAppend, dPutIx, dFreeze, unown, hasOwn, noLD, okL, dSnap, dSnapT, dRaise, startD, dNoPart, dPart, dSl, oSl, fLen, fInt1, fAbs, fInt2, fDivmod, fTuple, fList, fSorted, oSortedSet, fRepr, fAll, fSum, isIntD, isBoolD, isStrD, isTupD, isSeqD, fIsT, dIsLT, dAug, dPutF, dFldI, dMake, startI, putD, dTupRev, dNewBox, dBoxPut, fRep, fEqS, oListRg, dHeard, dPair, dWork, List.map, List.cons_append, List.nil_append, List.append_eq, List.getElem?_cons_zero, List.getElem?_cons_succ, List.set_cons_zero, List.set_cons_succ, List.lookup_cons, List.lookup_nil, take_eq]
    intro r hr
    obtain ⟨n, hn⟩ : ∃ n : Nat, 1 + (r : Int) = n := ⟨1 + r, by omega⟩
    simp only [hn]
    have n1 : 1 ≤ n := by omega
    have n4 : n ≤ 4 := by omega
    clear hn hr
    have tl : (List.replicate n (List.replicate 2 (0 : Int))).length = n := List.length_replicate
    rw [show ((n : Nat) : Int).toNat = n by omega]
    refine ⟨by omega, by omega, by omega, mach_use (n := n) (c := 2) n1 n4 (by decide) (by decide) ⟨mach_nodup, n, rfl, n1, n4, fun l len ok => ?_⟩⟩
    generalize hT : List.replicate n (List.replicate 2 (0 : Int)) = T at tl ⊢
    refine ⟨T, l, rfl, len, by rw [tl]; exact ok, ?_⟩
    simp only [if_true]
    refine ⟨T, by rw [tl]; rfl, by omega, by omega, ?_⟩
    simp only [if_true]
    rw [List.length_map]
    refine ⟨by omega, by omega, fun at_ hat => ?_⟩
    refine ⟨_, rfl, by simp, by simp, fun x hx => ?_⟩
    simp only [pys]
    rw [cutD_to, cutD_from]
    have xb : isDp n x = false := by
      simp only [List.mem_cons, List.not_mem_nil, or_false] at hx
      rcases hx with rfl | rfl | rfl | rfl
      · simp [isDp, numD]
        omega
      · simp [isDp, numD]
      · rfl
      · rfl
    have bf := bent_fault (n := n) (l := l) (x := x) (a := at_) (by omega) ok (by omega) xb
    refine ⟨by rw [List.length_take, List.length_map]; show min at_ l.length + 1 ≤ _; omega, by rw [List.length_take, List.length_drop, List.length_map]; show min at_ l.length + 1 + _ ≤ _; omega, ?_⟩
    generalize (l.map PyData.int).take at_ ++ ([x] ++ (l.map PyData.int).drop at_) = bent at bf ⊢
    refine ⟨⟨dv, by simp⟩, ?_⟩
    refine ⟨3, rfl, ?_⟩
    refine loopL_ind (fun _ ρ => ∃ y9, allDv [y9, y10] = true ∧ ρ = [some (SV.dv (.scr S.K ns)), some (SV.dv (.int (k : Nat))), some (SV.dv .box), some (SV.dv (.int (n : Nat))), some (SV.dv (.ins CM (machFs T))), some (SV.dv (.lst (l.map .int))), some (SV.dv (.int (at_ : Nat))), some (SV.dv (.lst bent)), some (SV.dv (.lams W 3)), y9, y10]) ?_ ?_ 3 _ ⟨y9, dv, rfl⟩
    · rintro ρ ⟨y9, dv, rfl⟩
      simp [dOf, dVar, dC, dOp, dUn, dNil, dCons, pys, dTup, oLst, dCB, oCB, dCall, dCall0, dCallR, fAdd, oOp, fCat, fInt, fIntC, fNeg, fEq, isNonD, fIsN, fIn, fIx, dTest, dAnd, dOr, dNot, dAndV, dOrV, dNotV, dIfE, dChain, dFld, dNext, dSeq, dRet, dRetN, dDrop, dIfS, dBreak, dCont, dSet, dSetO, setAll, dSetT, dPar, itSeq, itRange1, itRange2, itEnum, Tg.put, Tg.ix, dFor, wipeL, dYes, oLc, dAppend, dPutIx, dFreeze, unown, hasOwn, noLD, okL, dSnap, dSnapT, dRaise, startD, dNoPart, dPart, dSl, oSl, fLen, fInt1, fAbs, fInt2, fDivmod, fTuple, fList, fSorted, oSortedSet, fRepr, fAll, fSum, isIntD, isBoolD, isStrD, isTupD, isSeqD, fIsT, dIsLT, dAug, dPutF, dFldI, dMake, startI, putD, dTupRev, dNewBox, dBoxPut, fRep, fEqS, oListRg, dHeard, dPair, dWork, List.map, List.cons_append, List.nil_append, List.append_eq, List.getElem?_cons_zero, List.getElem?_cons_succ, List.set_cons_zero, List.set_cons_succ, List.lookup_cons, List.lookup_nil]
      refine ⟨_, rfl, by simp, by simp, fun d hd => ?_⟩
      obtain ⟨td, nd1⟩ := step_of hd
      have fl := fault_lst (n := T.length) (l := l) (by omega) (by rw [tl]; exact ok)
      refine ⟨T, .list (l.map .int), d, rfl, fun i hi => (by rw [fl] at hi; cases hi), fun _ => ⟨fun _ => .inr ⟨rfl, rfl, d, rfl, td.1, ?_⟩, fun s e s1 s4 => ?_⟩⟩
      · refine ⟨td.1, shp_told (by decide +kernel) td.2, shp_told (by decide +kernel) td.2, ?_⟩
        rw [if_pos (eqv_told _ _)]
        exact next _ _ _ _ _ _ _ _ _ _ (allDv_fst dv)
      · subst e
        simp [numD] at nd1
        omega
    · rintro _ ρ K2 hK2 ⟨y9, dv, rfl⟩
      simp [dOf, dVar, dC, dOp, dUn, dNil, dCons, pys, dTup, oLst, dCB, oCB, dCall, dCall0, dCallR, fAdd, oOp, fCat, fInt, fIntC, fNeg, fEq, isNonD, fIsN, fIn, fIx, dTest, dAnd, dOr, dNot, dAndV, dOrV, dNotV, dIfE, dChain, dFld, dNext, dSeq, dRet, dRetN, dDrop, dIfS, dBreak, dCont, dSet, dSetO, setAll, dSetT, dPar, itSeq, itRange1, itRange2, itEnum, Tg.put, Tg.ix, dFor, wipeL, dYes, oLc, dAppend, dPutIx, dFreeze, unown, hasOwn, noLD, okL, dSnap, dSnapT, dRaise, startD, dNoPart, dPart, dSl, oSl, fLen, fInt1, fAbs, fInt2, fDivmod, fTuple, fList, fSorted, oSortedSet, fRepr, fAll, fSum, isIntD, isBoolD, isStrD, isTupD, isSeqD, fIsT, dIsLT, dAug, dPutF, dFldI, dMake, startI, putD, dTupRev, dNewBox, dBoxPut, fRep, fEqS, oListRg, dHeard, dPair, dWork, List.map, List.cons_append, List.nil_append, List.append_eq, List.getElem?_cons_zero, List.getElem?_cons_succ, List.set_cons_zero, List.set_cons_succ, List.lookup_cons, List.lookup_nil]
      refine ⟨T, .list bent, (at_ : Int), rfl, by omega, by rw [tl]; exact bf, .inl ⟨rfl, rfl, .int (at_ : Nat), rfl, ?_⟩⟩
      refine ⟨shp_row (by decide +kernel) _, shp_row (by decide +kernel) _, ?_⟩
      rw [if_pos (eqv_row _ _)]
      refine ⟨T, .none, -1, rfl, by omega, rfl, .inl ⟨rfl, rfl, .int (-1), rfl, ?_⟩⟩
      refine ⟨shp_row (by decide +kernel) _, shp_row (by decide +kernel) _, ?_⟩
      rw [if_pos (eqv_row _ _)]
      exact hK2 _ ⟨_, by rw [allDv_dv]; exact allDv_tail dv, rfl⟩

end
end Lw

set_option Elab.async false
set_option linter.all false
set_option maxRecDepth 100000
set_option maxHeartbeats 4000000
namespace Lw
open PySem PySem.Spec PyProof.Rows L2 Lx Dl Pg
theorem scBadMachineInit : FnScope ["self", "at"] ["self", "at"] (defScope (inClass cBadMachine 0)) := ⟨rfl, rfl, rfl, by decide +kernel, rfl, by decide +kernel, by decide +kernel⟩
theorem ErrK1.badMachine {P : Program} {w : World} {K : PySem.W.Frag} {mg : Str → Option Value} {base : Heap} {C : Addr} (D : ErrK1 K mg "BadMachine" "BadMachine.__init__" (inClass cBadMachine 0) C) : Err P w K mg base "BadMachine" "at" C := by
  obtain ⟨fI, fd, h1, h2, F⟩ := D.ini
  refine ⟨D.T, D.xf, D.ec, D.no, D.gC, fI, fd, 1, ["self", "at"], h1, h2, Nat.le_refl _, ok_errInit (k0 := 0) D.T D.no F scBadMachineInit rfl (by decide) (by decide) (Or.inl rfl) (Or.inl rfl) (fun _ => rfl), F.binds (ps := ["self", "at"]) fun _ _ _ _ _ _ us hl => match us, hl with | [_, _], _ => rfl⟩
theorem scBadRowInit : FnScope ["self", "at"] ["self", "at"] (defScope (inClass cBadRow 0)) := ⟨rfl, rfl, rfl, by decide +kernel, rfl, by decide +kernel, by decide +kernel⟩
theorem ErrK1.badRow {P : Program} {w : World} {K : PySem.W.Frag} {mg : Str → Option Value} {base : Heap} {C : Addr} (D : ErrK1 K mg "BadRow" "BadRow.__init__" (inClass cBadRow 0) C) : Err P w K mg base "BadRow" "at" C := by
  obtain ⟨fI, fd, h1, h2, F⟩ := D.ini
  refine ⟨D.T, D.xf, D.ec, D.no, D.gC, fI, fd, 1, ["self", "at"], h1, h2, Nat.le_refl _, ok_errInit (k0 := 0) D.T D.no F scBadRowInit rfl (by decide) (by decide) (Or.inl rfl) (Or.inl rfl) (fun _ => rfl), F.binds (ps := ["self", "at"]) fun _ _ _ _ _ _ us hl => match us, hl with | [_, _], _ => rfl⟩
theorem scRefusedInit : FnScope ["self", "at"] ["self", "at"] (defScope (inClass cRefused 0)) := ⟨rfl, rfl, rfl, by decide +kernel, rfl, by decide +kernel, by decide +kernel⟩
theorem ErrK1.refused {P : Program} {w : World} {K : PySem.W.Frag} {mg : Str → Option Value} {base : Heap} {C : Addr} (D : ErrK1 K mg "Refused" "Refused.__init__" (inClass cRefused 0) C) : Err P w K mg base "Refused" "at" C := by
  obtain ⟨fI, fd, h1, h2, F⟩ := D.ini
  refine ⟨D.T, D.xf, D.ec, D.no, D.gC, fI, fd, 1, ["self", "at"], h1, h2, Nat.le_refl _, ok_errInit (k0 := 0) D.T D.no F scRefusedInit rfl (by decide) (by decide) (Or.inl rfl) (Or.inl rfl) (fun _ => rfl), F.binds (ps := ["self", "at"]) fun _ _ _ _ _ _ us hl => match us, hl with | [_, _], _ => rfl⟩
/-- what the module's top has left -/
structure TopR (K : PySem.W.Frag) (h : Heap) (mg : Str → Option Value) (CM CB CR CF CP c1 c2 T1 T2 fm : Addr) : Prop where
  B : Bare mg
  M : MachC K CM
  mkm : Mk K CM fm
  mi : ∃ fd, Fun K "__init__" "Machine.__init__" (inClass cMachine 0) fm fd
  mM : mg "Machine" = some (.ref CM)
  gR : ∃ tk, mg "LONGEST_ROW" = some (.int 400 tk)
  gD : ∃ tk, mg "MOST_DEEDS" = some (.int 4 tk)
  gS : ∃ tk, mg "MOST_STATES" = some (.int 8 tk)
  eB : ErrK1 K mg "BadMachine" "BadMachine.__init__" (inClass cBadMachine 0) CB
  eR : ErrK1 K mg "BadRow" "BadRow.__init__" (inClass cBadRow 0) CR
  eF : ErrK1 K mg "Refused" "Refused.__init__" (inClass cRefused 0) CF
  mP : mg "PageError" = some (.ref CP)
  rr : PySem.W.exmOne K (.ref CR) (.ref CR) = some true
  fr : PySem.W.exmOne K (.ref CF) (.ref CR) = some false
  ff : PySem.W.exmOne K (.ref CF) (.ref CF) = some true
  pr : PySem.W.kitOne K (.ref CR) (.ref CP) = some true
  pf : PySem.W.kitOne K (.ref CF) (.ref CP) = some true
  d0 : DefD K mg "is_number" sIsNumber
  d1 : DefD K mg "need_number" sNeedNumber
  d2 : DefK K mg "is_sequence" sIsSequence
  d3 : DefK K mg "_is_table" sIsTable
  d4 : DefK K mg "is_deed" sIsDeed
  d5 : DefK K mg "check_row" sCheckRow
  d6 : DefK K mg "power" sPower
  d7 : DefK K mg "row_count" sRowCount
  d8 : DefK K mg "repeats" sRepeats
  d9 : DefK K mg "repeat_steps" sRepeatSteps
  d10 : DefK K mg "row_place" sRowPlace
  d11 : DefK K mg "repeat_end" sRepeatEnd
  d12 : DefK K mg "nth_row" sNthRow
  d13 : DefK K mg "_law_box" sLawBox
  d14 : DefK K mg "_law_take" sLawTake
  d15 : DefK K mg "_law_pick" sLawPick
  d16 : DefK K mg "_law_is_repeating" sLawIsRepeating
  d17 : DefK K mg "_law_row" sLawRow
  d18 : DefK K mg "_law_heard" sLawHeard
  d19 : DefK K mg "_law_divisor" sLawDivisor
  d20 : DefK K mg "_law_repeats_right" sLawRepeatsRight
  d21 : DefT K h mg "_law_numbers_right" sLawNumbersRight c2 T2
  d22 : DefT K h mg "law" sLaw c1 T1
  ne : T1 ≠ T2
theorem law_top {l : PySem.W.OpenLaw} {w : World} {K : PySem.W.Frag} {mg : Str → Option Value} {fa : Addr} {h : Heap} {CM CB CR CF CP c1 c2 T1 T2 fm : Addr} (T : TopR K h mg CM CB CR CF CP c1 c2 T1 T2 fm) (hfa : mg "law" = some (.ref fa)) : LawG l w K 10 63 "script" mg fa h := by
  obtain ⟨f, fd, hm, F, hcode⟩ := T.d22.ex
  rw [hfa] at hm
  cases hm
  refine ⟨fd, [(c1, T1), (c2, T2)], spD (Sx.mk K [(T1, (("law" : Str) ++ ".<locals>.") ++ "<lambda>"), (T2, (("_law_numbers_right" : Str) ++ ".<locals>.") ++ "<lambda>")] 3) 1 (spLawD (Sx.mk K [(T1, (("law" : Str) ++ ".<locals>.") ++ "<lambda>"), (T2, (("_law_numbers_right" : Str) ++ ".<locals>.") ++ "<lambda>")] 3)), ?_, ?_, ?_, ?_⟩
  · intro p hp
    simp only [List.mem_cons, List.not_mem_nil, or_false] at hp
    rcases hp with rfl | rfl
    · exact ⟨T.d22.at_, T.d22.no, T.d22.hd⟩
    · exact ⟨T.d21.at_, T.d21.no, T.d21.hd⟩
  · intro s u
    obtain ⟨oc, od, kV, doc, pm, an, cdv, ct, osl, rfl, _, _⟩ := F.ex
    exact .of_eq rfl
  · intro H a ns hl hH hS
    refine law_start (S := (Sx.mk K [(T1, (("law" : Str) ++ ".<locals>.") ++ "<lambda>"), (T2, (("_law_numbers_right" : Str) ++ ".<locals>.") ++ "<lambda>")] 3)) hS (fun p hp => ?_) ⟨ns, rfl, rfl⟩
    simp only [List.mem_cons, List.not_mem_nil, or_false] at hp
    rcases hp with rfl | rfl
    · exact LamX.TabS.nil (hH (c1, T1) List.mem_cons_self)
    · exact LamX.TabS.nil (hH (c2, T2) (List.mem_cons_of_mem _ List.mem_cons_self))
  · intro base KB TB
    have tb1 := TB (c1, T1) List.mem_cons_self
    have tb2 := TB (c2, T2) (List.mem_cons_of_mem _ List.mem_cons_self)
    obtain ⟨S, hS⟩ : ∃ S : Sx, S = (Sx.mk K [(T1, (("law" : Str) ++ ".<locals>.") ++ "<lambda>"), (T2, (("_law_numbers_right" : Str) ++ ".<locals>.") ++ "<lambda>")] 3) := ⟨_, rfl⟩
    have SK : S.K = K := by rw [hS]
    have ST : S.Tb = [(T1, (("law" : Str) ++ ".<locals>.") ++ "<lambda>"), (T2, (("_law_numbers_right" : Str) ++ ".<locals>.") ++ "<lambda>")] := by rw [hS]
    have nb : S.nb = 3 := by rw [hS]
    rw [← hS]
    clear hS
    subst SK
    have ErB : Err l.prog w S.K mg base "BadMachine" "at" CB := T.eB.badMachine
    have ErR : Err l.prog w S.K mg base "BadRow" "at" CR := T.eR.badRow
    have ErF : Err l.prog w S.K mg base "Refused" "at" CF := T.eF.refused
    obtain ⟨tkR, gR⟩ := T.gR
    obtain ⟨tkD, gD⟩ := T.gD
    obtain ⟨tkS, gS⟩ := T.gS
    have Gn : Has l.prog w S.K mg base L2.CX0 1 "is_number" ["value", "least", "greatest"] (spD S 3 spIsNumber) := by
      obtain ⟨f, fd, hm, F⟩ := T.d0.ex
      obtain ⟨ds, r, b⟩ := F.binds1 (ps := ["value", "least", "greatest"]) 3 1 (by simp) rfl fun T kV doc pm an cdv ct us its hl hi => by
        match us, hl, its, hi with
        | [_, _, _], _, [_], _ => exact ⟨_, rfl, rfl⟩
      cases r
      exact ⟨f, fd, hm, F.kp, b, ok_is_number F T.B⟩
    have Gs : Has l.prog w S.K mg base L2.CX0 1 "is_sequence" ["value", "fewest", "most"] (spD S 3 spIsSequence) := T.d2.has (fun f fd F => F.binds fun _ _ _ _ _ _ us hl => match us, hl with | [_, _, _], _ => rfl) fun f fd F => ok_is_sequence F T.B
    have Gnn : Has l.prog w S.K mg base (L2.CX l.prog w) 3 "need_number" ["value", "least", "greatest"] (spD S 3 (spNeedNumber CF)) := by
      obtain ⟨f, fd, hm, F⟩ := T.d1.ex
      obtain ⟨ds, r, b⟩ := F.binds1 (ps := ["value", "least", "greatest"]) 3 1 (by simp) rfl fun T kV doc pm an cdv ct us its hl hi => by
        match us, hl, its, hi with
        | [_, _, _], _, [_], _ => exact ⟨_, rfl, rfl⟩
      cases r
      exact ⟨f, fd, hm, F.kp, b, ok_need_number F ErF Gn⟩
    have Gt : Has l.prog w S.K mg base L2.CX0 2 "_is_table" ["value", "first"] (spD S 2 spIsTable) := T.d3.has (fun f fd F => F.binds fun _ _ _ _ _ _ us hl => match us, hl with | [_, _], _ => rfl) fun f fd F => ok_is_table F T.B gS Gn Gs
    have Gd : Has l.prog w S.K mg base L2.CX0 2 "is_deed" ["machine", "value"] (spD S 2 (spIsDeed CM)) := T.d4.has (fun f fd F => F.binds fun _ _ _ _ _ _ us hl => match us, hl with | [_, _], _ => rfl) fun f fd F => ok_is_deed F T.M Gn
    have Gc : Has l.prog w S.K mg base (L2.CX l.prog w) 4 "check_row" ["machine", "value"] (spD S 2 (spCheckRow CM CR)) := T.d5.has (fun f fd F => F.binds fun _ _ _ _ _ _ us hl => match us, hl with | [_, _], _ => rfl) fun f fd F => ok_check_row F T.B gR ErR Gs Gd
    have Gpw : Has l.prog w S.K mg base L2.CX0 1 "power" ["base", "many"] (spD S 2 spPower) := T.d6.has (fun f fd F => F.binds fun _ _ _ _ _ _ us hl => match us, hl with | [_, _], _ => rfl) fun f fd F => ok_power F T.B
    have Grc : Has l.prog w S.K mg base L2.CX0 2 "row_count" ["machine", "many"] (spD S 2 (spRowCount CM)) := T.d7.has (fun f fd F => F.binds fun _ _ _ _ _ _ us hl => match us, hl with | [_, _], _ => rfl) fun f fd F => ok_row_count F T.M Gpw
    have Gre : Has l.prog w S.K mg base L2.CX0 1 "repeats" ["deeds", "step"] (spD S 2 spRepeats) := T.d8.has (fun f fd F => F.binds fun _ _ _ _ _ _ us hl => match us, hl with | [_, _], _ => rfl) fun f fd F => ok_repeats F T.B
    have Gst : Has l.prog w S.K mg base (L2.CX l.prog w) 5 "repeat_steps" ["machine", "row"] (spD S 2 (spRepeatSteps CM CR)) := T.d9.has (fun f fd F => F.binds fun _ _ _ _ _ _ us hl => match us, hl with | [_, _], _ => rfl) fun f fd F => ok_repeat_steps F T.B Gre Gc
    have Gstr : HasR l.prog w S.K mg base (L2.CX l.prog w) 5 "repeat_steps" ["machine", "row"] ["row", "machine"] (spD S 2 (spRepeatSteps CM CR)) := by
      obtain ⟨f, fd, hm, F⟩ := T.d9.ex
      refine ⟨f, fd, hm, F.kp, kb2 fun s u v _ => ?_, ok_repeat_steps F T.B Gre Gc⟩
      obtain ⟨oc, od, kV, doc, pm, an, cdv, ct, osl, rfl, _, _⟩ := F.ex
      exact .of_eq rfl
    have Gpl : Has l.prog w S.K mg base (L2.CX l.prog w) 5 "row_place" ["machine", "row"] (spD S 2 (placeSp CM CR)) := T.d10.has (fun f fd F => F.binds fun _ _ _ _ _ _ us hl => match us, hl with | [_, _], _ => rfl) fun f fd F => ok_row_place F T.M Gc
    have Gplr : HasR l.prog w S.K mg base (L2.CX l.prog w) 5 "row_place" ["machine", "row"] ["row", "machine"] (spD S 2 (placeSp CM CR)) := by
      obtain ⟨f, fd, hm, F⟩ := T.d10.ex
      refine ⟨f, fd, hm, F.kp, kb2 fun s u v _ => ?_, ok_row_place F T.M Gc⟩
      obtain ⟨oc, od, kV, doc, pm, an, cdv, ct, osl, rfl, _, _⟩ := F.ex
      exact .of_eq rfl
    have Ge : Has l.prog w S.K mg base (L2.CX l.prog w) 5 "repeat_end" ["machine", "row", "step"] (spD S 3 (spRepeatEnd CM CR CF)) := T.d11.has (fun f fd F => F.binds fun _ _ _ _ _ _ us hl => match us, hl with | [_, _, _], _ => rfl) fun f fd F => ok_repeat_end F T.B gR Gc Gnn
    have Ger : HasR l.prog w S.K mg base (L2.CX l.prog w) 5 "repeat_end" ["machine", "row", "step"] ["step", "row", "machine"] (spD S 3 (spRepeatEnd CM CR CF)) := by
      obtain ⟨f, fd, hm, F⟩ := T.d11.ex
      refine ⟨f, fd, hm, F.kp, kb3 fun s u v x _ => ?_, ok_repeat_end F T.B gR Gc Gnn⟩
      obtain ⟨oc, od, kV, doc, pm, an, cdv, ct, osl, rfl, _, _⟩ := F.ex
      exact .of_eq rfl
    have Gnt : Has l.prog w S.K mg base (L2.CX l.prog w) 5 "nth_row" ["machine", "many", "number"] (spD S 3 (spNthRow CM CF)) := T.d12.has (fun f fd F => F.binds fun _ _ _ _ _ _ us hl => match us, hl with | [_, _, _], _ => rfl) fun f fd F => ok_nth_row F T.B T.M gR Gnn Grc
    have Gntr : HasR l.prog w S.K mg base (L2.CX l.prog w) 5 "nth_row" ["machine", "many", "number"] ["number", "many", "machine"] (spD S 3 (spNthRow CM CF)) := by
      obtain ⟨f, fd, hm, F⟩ := T.d12.ex
      refine ⟨f, fd, hm, F.kp, kb3 fun s u v x _ => ?_, ok_nth_row F T.B T.M gR Gnn Grc⟩
      obtain ⟨oc, od, kV, doc, pm, an, cdv, ct, osl, rfl, _, _⟩ := F.ex
      exact .of_eq rfl
    have MM : MkM l.prog w S mg base CM CB := by
      obtain ⟨fd, F⟩ := T.mi
      exact ⟨fm, fd, T.mkm, ok_Machine_init F T.B T.M gD ErB Gs Gt, T.mM, F.binds fun _ _ _ _ _ _ us hl => match us, hl with | [_, _], _ => rfl⟩
    have ea : ∃ CP, Ears S.K mg CR CF CP := ⟨CP, T.eR.gC, T.eF.gC, T.mP, T.rr, T.fr, T.ff, T.pr, T.pf, T.eR.xf, T.eF.xf, T.eR.ec, T.eF.ec, T.eR.no, T.eF.no⟩
    have ear : EarDef S.K mg := by
      obtain ⟨f, fd, hm, F⟩ := T.d18.ex
      exact ⟨f, fd, hm, F, F.binds fun _ _ _ _ _ _ us hl => match us, hl with | [_], _ => rfl⟩
    have Lb : Has l.prog w S.K mg base L2.CX0 1 "_law_box" ["script", "k"] (spD S 2 (spBoxOf S)) := T.d13.has (fun f fd F => F.binds fun _ _ _ _ _ _ us hl => match us, hl with | [_, _], _ => rfl) fun f fd F => ok_law_box F T.B nb
    have Lt : Has l.prog w S.K mg base L2.CX0 1 "_law_take" ["box", "many"] (spD S 2 spTake) := T.d14.has (fun f fd F => F.binds fun _ _ _ _ _ _ us hl => match us, hl with | [_, _], _ => rfl) fun f fd F => ok_law_take F T.B nb
    have Lp : Has l.prog w S.K mg base L2.CX0 2 "_law_pick" ["box", "some"] (spD S 2 spPick) := T.d15.has (fun f fd F => F.binds fun _ _ _ _ _ _ us hl => match us, hl with | [_, _], _ => rfl) fun f fd F => ok_law_pick F T.B Lt
    have Li : Has l.prog w S.K mg base L2.CX0 1 "_law_is_repeating" ["row", "step"] (spD S 2 spIsRep) := T.d16.has (fun f fd F => F.binds fun _ _ _ _ _ _ us hl => match us, hl with | [_, _], _ => rfl) fun f fd F => ok_law_is_repeating F T.B
    have Lw_ : Has l.prog w S.K mg base L2.CX0 2 "_law_row" ["box", "deeds"] (spD S 2 spRow) := T.d17.has (fun f fd F => F.binds fun _ _ _ _ _ _ us hl => match us, hl with | [_, _], _ => rfl) fun f fd F => ok_law_row F T.B Lt
    have Ld : Has l.prog w S.K mg base L2.CX0 1 "_law_divisor" ["one", "other"] (spD S 2 spDivisor) := T.d19.has (fun f fd F => F.binds fun _ _ _ _ _ _ us hl => match us, hl with | [_, _], _ => rfl) fun f fd F => ok_law_divisor F T.B
    have Lr : HasG l.prog w S.K mg base 6 "_law_repeats_right" ["box", "machine", "row"] (spD S 3 (spRepRight CM)) := by
      obtain ⟨f, fd, hm, F⟩ := T.d20.ex
      exact ⟨f, fd, hm, F.kp, F.binds fun _ _ _ _ _ _ us hl => match us, hl with | [_, _, _], _ => rfl, ok_law_repeats_right F T.B Li Ld Ge Ger Gst Gstr⟩
    have two : ∀ {p : Addr × Str} {q1 q2 : Str}, p ∈ [(T1, q1), (T2, q2)] → (p.1 = T1 → p.2 = q1) ∧ (p.1 = T2 → p.2 = q2) := fun {p q1 q2} hp => by
      simp only [List.mem_cons, List.not_mem_nil, or_false] at hp
      rcases hp with rfl | rfl
      · exact ⟨fun _ => rfl, fun e => absurd e T.ne⟩
      · exact ⟨fun e => absurd e.symm T.ne, fun _ => rfl⟩
    have Ln : HasG l.prog w S.K mg base 9 "_law_numbers_right" ["box", "machine", "deeds"] (spD S 3 (spNumRight CM)) := by
      obtain ⟨f, fd, hm, F, hc⟩ := T.d21.ex
      refine ⟨f, fd, hm, F.kp, F.binds fun _ _ _ _ _ _ us hl => match us, hl with | [_, _, _], _ => rfl, ok_law_numbers_right F hc tb2 (fun X e => ?_) (fun X e p hp e1 => ?_) ear ea T.B Lt Lp Gnt Gntr Gpl Gplr⟩
      · show (T2, X.env.qual ++ "<lambda>") ∈ S.Tb
        rw [e, ST]
        exact List.mem_cons_of_mem _ List.mem_cons_self
      · show p.2 = X.env.qual ++ "<lambda>"
        rw [e]
        rw [ST] at hp
        exact (two hp).2 e1
    refine ok_law F hcode tb1 (fun X e => ?_) (fun X e p hp e1 => ?_) ear ea T.B MM Lb Lt Lp Lw_ Lr Ln Ge Gst Gpl
    · show (T1, X.env.qual ++ "<lambda>") ∈ S.Tb
      rw [e, ST]
      exact List.mem_cons_self
    · show p.2 = X.env.qual ++ "<lambda>"
      rw [e]
      rw [ST] at hp
      exact (two hp).1 e1
end Lw

open PySem PySem.W PyProof.Rows
set_option Elab.async false
set_option maxRecDepth 100000
set_option maxHeartbeats 0
theorem PySem.Challenge.cw_pagesagain_k02_whole_rows_that_repeat_an_holds : PySem.Challenge.rw_pagesagain_k02_whole_rows_that_repeat_an.Holds := by
  w_on; o_law; k_head; (case hw => w_witness2)
  k_fill
  refine Lx.end_walk (l := PySem.Challenge.rw_pagesagain_k02_whole_rows_that_repeat_an) (n := 63) (k := 10) (x := "script") rfl (by decide) rfl ⟨rfl, by decide, by decide⟩ (fun w h Y => PySem.W.km_in_of Y) ?F
  case F =>
    intro w mg fa h Y KX G hmg
    refine' Lw.law_top (T1 := 254) (T2 := 249) ⟨?qB, ?qM, ?qmkm, ?qmi, ?qmM, ?qgR, ?qgD, ?qgS, ?qeB, ?qeR, ?qeF, ?qmP, ?qrr, ?qfr, ?qff, ?qpr, ?qpf, ?qd0, ?qd1, ?qd2, ?qd3, ?qd4, ?qd5, ?qd6, ?qd7, ?qd8, ?qd9, ?qd10, ?qd11, ?qd12, ?qd13, ?qd14, ?qd15, ?qd16, ?qd17, ?qd18, ?qd19, ?qd20, ?qd21, ?qd22, ?qne⟩ hmg
    (case qmM =>
      refine' PySem.W.mg_of KX G ?qz
      (case qz => k_is))
    (case qmP =>
      refine' PySem.W.mg_of KX G ?qz
      (case qz => k_is))
    (case qM =>
      refine' Lw.mach_mk ?qza ?qzb ?qzc ?qzd ?qze ?qzf ?qzg
      (case qza => k_is); (case qzb => k_is); (case qzc => k_is); (case qzd => k_is); (case qze => k_is); (case qzf => k_is); (case qzg => k_is))
    (case qmkm =>
      refine' ⟨?qza, ?qzb, ?qzc, ?qzd⟩
      (case qza => k_is); (case qzb => k_is); (case qzc => k_is); (case qzd => k_is))
    (case qmi =>
      refine' ⟨_, L2.fun_mk ?ql ?qc ?qk⟩
      (case ql => k_is); (case qc => k_is); (case qk => k_is))
    (case qgR =>
      refine' Lw.mgInt KX G ?qz
      (case qz => k_is))
    (case qgD =>
      refine' Lw.mgInt KX G ?qz
      (case qz => k_is))
    (case qgS =>
      refine' Lw.mgInt KX G ?qz
      (case qz => k_is))
    (case qeB =>
      refine' Lw.err_mk KX G ?qza ?qzxl ?qzrv ?qzsa ?qzga ?qzgg ?qzno ?qzkC ?qzeC ?qztC ?qzhC ?qzha ?qzhn ?qzht ?qzhm ?qzi ?qzt ?qzl ?qzc ?qzk
      (case qza => k_is); (case qzxl => k_is); (case qzrv => decide +kernel); (case qzsa => k_is); (case qzga => k_is); (case qzgg => k_is); (case qzno => k_is); (case qzkC => k_is); (case qzeC => k_is); (case qztC => k_is); (case qzhC => k_is); (case qzha => k_is); (case qzhn => k_is); (case qzht => k_is); (case qzhm => k_is); (case qzi => k_is); (case qzt => k_is); (case qzl => k_is); (case qzc => k_is); (case qzk => k_is))
    (case qeR =>
      refine' Lw.err_mk KX G ?qza ?qzxl ?qzrv ?qzsa ?qzga ?qzgg ?qzno ?qzkC ?qzeC ?qztC ?qzhC ?qzha ?qzhn ?qzht ?qzhm ?qzi ?qzt ?qzl ?qzc ?qzk
      (case qza => k_is); (case qzxl => k_is); (case qzrv => decide +kernel); (case qzsa => k_is); (case qzga => k_is); (case qzgg => k_is); (case qzno => k_is); (case qzkC => k_is); (case qzeC => k_is); (case qztC => k_is); (case qzhC => k_is); (case qzha => k_is); (case qzhn => k_is); (case qzht => k_is); (case qzhm => k_is); (case qzi => k_is); (case qzt => k_is); (case qzl => k_is); (case qzc => k_is); (case qzk => k_is))
    (case qeF =>
      refine' Lw.err_mk KX G ?qza ?qzxl ?qzrv ?qzsa ?qzga ?qzgg ?qzno ?qzkC ?qzeC ?qztC ?qzhC ?qzha ?qzhn ?qzht ?qzhm ?qzi ?qzt ?qzl ?qzc ?qzk
      (case qza => k_is); (case qzxl => k_is); (case qzrv => decide +kernel); (case qzsa => k_is); (case qzga => k_is); (case qzgg => k_is); (case qzno => k_is); (case qzkC => k_is); (case qzeC => k_is); (case qztC => k_is); (case qzhC => k_is); (case qzha => k_is); (case qzhn => k_is); (case qzht => k_is); (case qzhm => k_is); (case qzi => k_is); (case qzt => k_is); (case qzl => k_is); (case qzc => k_is); (case qzk => k_is))
    (case qrr =>
      refine' PySem.W.exm_ref ?qza ?qzb ?qzc ?qzd
      (case qza => k_is); (case qzb => k_is); (case qzc => k_is); (case qzd => first | rfl | k_is))
    (case qfr =>
      refine' PySem.W.exm_ref ?qza ?qzb ?qzc ?qzd
      (case qza => k_is); (case qzb => k_is); (case qzc => k_is); (case qzd => k_is))
    (case qff =>
      refine' PySem.W.exm_ref ?qza ?qzb ?qzc ?qzd
      (case qza => k_is); (case qzb => k_is); (case qzc => k_is); (case qzd => first | rfl | k_is))
    (case qpr =>
      refine' Lw.kit_ref ?qza ?qzb ?qzc
      (case qza => k_is); (case qzb => k_is); (case qzc => k_is))
    (case qpf =>
      refine' Lw.kit_ref ?qza ?qzb ?qzc
      (case qza => k_is); (case qzb => k_is); (case qzc => k_is))
    (case qd0 =>
      refine' Lw.defD KX G ?qza ?qzl ?qzc ?qzk ?qzT
      (case qza => k_is); (case qzl => k_is); (case qzc => k_is); (case qzk => k_is); (case qzT => k_is))
    (case qd1 =>
      refine' Lw.defD KX G ?qza ?qzl ?qzc ?qzk ?qzT
      (case qza => k_is); (case qzl => k_is); (case qzc => k_is); (case qzk => k_is); (case qzT => k_is))
    (case qd2 =>
      refine' Lw.defK KX G ?qza ?qzl ?qzc ?qzk
      (case qza => k_is); (case qzl => k_is); (case qzc => k_is); (case qzk => k_is))
    (case qd3 =>
      refine' Lw.defK KX G ?qza ?qzl ?qzc ?qzk
      (case qza => k_is); (case qzl => k_is); (case qzc => k_is); (case qzk => k_is))
    (case qd4 =>
      refine' Lw.defK KX G ?qza ?qzl ?qzc ?qzk
      (case qza => k_is); (case qzl => k_is); (case qzc => k_is); (case qzk => k_is))
    (case qd5 =>
      refine' Lw.defK KX G ?qza ?qzl ?qzc ?qzk
      (case qza => k_is); (case qzl => k_is); (case qzc => k_is); (case qzk => k_is))
    (case qd6 =>
      refine' Lw.defK KX G ?qza ?qzl ?qzc ?qzk
      (case qza => k_is); (case qzl => k_is); (case qzc => k_is); (case qzk => k_is))
    (case qd7 =>
      refine' Lw.defK KX G ?qza ?qzl ?qzc ?qzk
      (case qza => k_is); (case qzl => k_is); (case qzc => k_is); (case qzk => k_is))
    (case qd8 =>
      refine' Lw.defK KX G ?qza ?qzl ?qzc ?qzk
      (case qza => k_is); (case qzl => k_is); (case qzc => k_is); (case qzk => k_is))
    (case qd9 =>
      refine' Lw.defK KX G ?qza ?qzl ?qzc ?qzk
      (case qza => k_is); (case qzl => k_is); (case qzc => k_is); (case qzk => k_is))
    (case qd10 =>
      refine' Lw.defK KX G ?qza ?qzl ?qzc ?qzk
      (case qza => k_is); (case qzl => k_is); (case qzc => k_is); (case qzk => k_is))
    (case qd11 =>
      refine' Lw.defK KX G ?qza ?qzl ?qzc ?qzk
      (case qza => k_is); (case qzl => k_is); (case qzc => k_is); (case qzk => k_is))
    (case qd12 =>
      refine' Lw.defK KX G ?qza ?qzl ?qzc ?qzk
      (case qza => k_is); (case qzl => k_is); (case qzc => k_is); (case qzk => k_is))
    (case qd13 =>
      refine' Lw.defK KX G ?qza ?qzl ?qzc ?qzk
      (case qza => k_is); (case qzl => k_is); (case qzc => k_is); (case qzk => k_is))
    (case qd14 =>
      refine' Lw.defK KX G ?qza ?qzl ?qzc ?qzk
      (case qza => k_is); (case qzl => k_is); (case qzc => k_is); (case qzk => k_is))
    (case qd15 =>
      refine' Lw.defK KX G ?qza ?qzl ?qzc ?qzk
      (case qza => k_is); (case qzl => k_is); (case qzc => k_is); (case qzk => k_is))
    (case qd16 =>
      refine' Lw.defK KX G ?qza ?qzl ?qzc ?qzk
      (case qza => k_is); (case qzl => k_is); (case qzc => k_is); (case qzk => k_is))
    (case qd17 =>
      refine' Lw.defK KX G ?qza ?qzl ?qzc ?qzk
      (case qza => k_is); (case qzl => k_is); (case qzc => k_is); (case qzk => k_is))
    (case qd18 =>
      refine' Lw.defK KX G ?qza ?qzl ?qzc ?qzk
      (case qza => k_is); (case qzl => k_is); (case qzc => k_is); (case qzk => k_is))
    (case qd19 =>
      refine' Lw.defK KX G ?qza ?qzl ?qzc ?qzk
      (case qza => k_is); (case qzl => k_is); (case qzc => k_is); (case qzk => k_is))
    (case qd20 =>
      refine' Lw.defK KX G ?qza ?qzl ?qzc ?qzk
      (case qza => k_is); (case qzl => k_is); (case qzc => k_is); (case qzk => k_is))
    (case qd21 =>
      refine' Lw.defT KX G ?qa ?ql ?qc ?qk ?qe ?qn ?qt
      (case qa => k_is); (case ql => k_is); (case qc => k_is); (case qk => k_is); (case qe => kernel_rfl); (case qn => kernel_rfl)
      (case qt => exact PySem.W.km_tabs_of Y _ (by decide)))
    (case qd22 =>
      refine' Lw.defT KX G ?qa ?ql ?qc ?qk ?qe ?qn ?qt
      (case qa => k_is); (case ql => k_is); (case qc => k_is); (case qk => k_is); (case qe => kernel_rfl); (case qn => kernel_rfl)
      (case qt => exact PySem.W.km_tabs_of Y _ (by decide)))
    (case qne => decide)
    (case qB =>
      refine' Lw.bare_mk KX G ?qz
      (case qz =>
        intro x hx
        simp only [List.mem_cons, List.not_mem_nil, or_false] at hx
        rcases hx with rfl | rfl | rfl | rfl | rfl | rfl | rfl | rfl | rfl | rfl | rfl | rfl | rfl | rfl | rfl | rfl | rfl | rfl | rfl | rfl | rfl <;> k_is))
