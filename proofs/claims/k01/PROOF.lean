import PyProof.Rows.All
import HandS.ForMost
import PySem.Challenge.RW_pagesagain_k01_machines_and_what_is_none
import Wide.All
import OpenK.AllK
import Wide.FinOn
import KE.GoesEnum
import PyProof.ReprRoads
import PyProof.ReprLen
import HandS.ForExc
import HandS.TryMany
import HandS.ExcInit
import HandS.ExcField
import HandS.ExcIs
import HandS.IsInst
import HandS.TupAny
import HandS.WideBits
import HandS.Rev
import HandS.Lambda
import HandS.EndTab
import HandS.Walk
import HandS.NestedK
import HandS.Defaults
import KE.KDictDisplayH
import HandS.TupLen
import HandS.DictComp
import HandS.SlotsOwn
import HandS.OwnEq
import HandS.MakeKwOnly
import HandS.SetFor
import HandS.Strs
import PyProof.StrOps2
import HandS.More
import HandS.Conv
set_option Elab.async false
set_option linter.all false
set_option maxRecDepth 100000
set_option maxHeartbeats 4000000
/-! our own additions to the hand layer: defs that know that nothing guards around them, repr of data, calls by keywords alone, enumerate of a tuple -/
namespace Lx
open PySem PySem.Spec PyProof.Rows L2

/-! ### a def called, told at a context -/
structure Callee (X : Cx) (f : Addr) (fd : FuncData) (ps : List Str) (sp : Sp) (E : XK) : Prop where
  len : ∀ vs H Q, sp vs H Q E → vs.length = ps.length
  go : ∀ (pins : List (Addr × Obj)) (σ : L2.St) (s : Shared) (H : Hp) (us : List Value) (kw : List (Str × Value)) (ws : List Value) (vs : List V) (Q : VK), Inv X pins σ H s → BindsTo s fd ⟨us, kw⟩ (ps.zip ws) → Vals vs ws → sp vs H Q E →
    wpAny (model X.prog X.w) X.A (call (.ref f) us kw) (EP X pins σ Q) X.xe s

theorem callee_end {X : Cx} {CX : CXT} {E : XK} {pins : List (Addr × Obj)} {σ : L2.St} {s : Shared} {H : Hp} {f : Addr} {us : List Value} {kw : List (Str × Value)} {Q : VK} (I : Inv X pins σ H s) (hx : Passes CX X E)
    (h : codeAny (model X.prog X.w) X.A (.call (.ref f) ⟨us, kw⟩) (CR CX X.stack X.prog X.w H s Q E) s) : wpAny (model X.prog X.w) X.A (call (.ref f) us kw) (EP X pins σ Q) X.xe s := by
  apply wpAny_call
  apply codeAny_mono h
  rintro (e | (_ | _ | _ | u)) s' q
  · exact hx pins σ H s e s' I q
  all_goals first
    | exact I.after q
    | exact False.elim q

theorem FnOk.callee {X : Cx} {CX : CXT} {k : Nat} {f : Addr} {fd : FuncData} {ps : List Str} {sp : Sp} {E : XK} (F : FnOk X.prog X.w X.K X.mg X.base CX k f fd ps sp) (hr : Room k X.A) (hx : Passes CX X E) : Callee X f fd ps sp E :=
  ⟨fun vs H Q h => F.len vs H Q E h, fun pins σ s H us kw ws vs Q I hb r h => callee_end I hx (F.run X.A X.stack s H ⟨us, kw⟩ ws vs Q E hr I.env0 hb r h)⟩

/-- a def's promise where no guard stands around the call -/
structure FnOkG (P : Program) (w : World) (K : PySem.W.Frag) (mg : Str → Option Value) (base : Heap) (CX : CXT) (k : Nat) (f : Addr) (fd : FuncData) (ps : List Str) (sp : Sp) : Prop where
  len : ∀ vs H Q E, sp vs H Q E → vs.length = ps.length
  run : ∀ (A : Around) (outer : List Env) (s : Shared) (H : Hp) (args : Args) (us : List Value) (vs : List V) (Q : VK) (E : XK), Room k A → A.guards = some [] → Env0 P w K mg base A outer s H → BindsTo s fd args (ps.zip us) →
    Vals vs us → sp vs H Q E → codeAny (model P w) A (.call (.ref f) args) (CR CX outer P w H s Q E) s

theorem FnOkG.callee {X : Cx} {CX : CXT} {k : Nat} {f : Addr} {fd : FuncData} {ps : List Str} {sp : Sp} {E : XK} (F : FnOkG X.prog X.w X.K X.mg X.base CX k f fd ps sp) (hr : Room k X.A) (hg : X.A.guards = some []) (hx : Passes CX X E) : Callee X f fd ps sp E :=
  ⟨fun vs H Q h => F.len vs H Q E h, fun pins σ s H us kw ws vs Q I hb r h => callee_end I hx (F.run X.A X.stack s H ⟨us, kw⟩ ws vs Q E hr hg I.env0 hb r h)⟩

section
variable {P : Program} {w : World} {K : PySem.W.Frag} {mg : Str → Option Value} {base : Heap}
theorem okG {x qual : Str} {st : Stmt} {f : Addr} {fd : FuncData} {N ps : List Str} {k : Nat} {sp : Sp} (F : Fun K x qual st f fd) (S : FnScope N ps (defScope st)) (len : ∀ vs H Q E, sp vs H Q E → vs.length = ps.length)
    (hbody : ∀ (cdv : Value) (A : Around) (outer : List Env) (s : Shared) (H : Hp) (vs : List V) (Q : VK) (E : XK), Room k (A.deeper (envOfC qual (defScope st) s.heap.objs.size f cdv)) → A.guards = some [] → sp vs H Q E →
      ∃ t, PSs (cxOf L2.CX0 P w K mg base N qual (defScope st) f cdv A outer s H E).nox (defBody st) t ∧ t { nx := fun _ H' => Q .non H', rt := Q } (start N vs) H) : FnOkG P w K mg base L2.CX0 (k + 1) f fd ps sp := by
  obtain ⟨oc, od, kV, doc, pm, an, cdv, ct, osl, rfl, lk, hcd⟩ := F.ex
  constructor
  · exact len
  · intro A outer s H args us vs Q E hr hg e0 hb r h
    apply LamX.run_ofS lk hcd S hr e0 hb r (len vs H Q E h)
    intro hr'
    have ⟨t, ht, hq⟩ := hbody cdv A outer s H vs Q E hr' hg h
    exact ⟨t, ht.nox, hq⟩
end

/-! ### calls -/
section
variable {X : Cx} {f : Addr} {fd : FuncData} {ps ks : List Str} {sp : Sp} {dvs : List V} {ds : List Value} {E : XK} {x : Str} {p pos : Pos} {e : Expr} {es : List Expr} {kws : List Keyword} {t tk : TA} {g : List Value → List Value → List Value} {gV : List V → List V → List V}
/-- f(e, ..) -/
theorem pe_callC (F : Callee X f fd ps sp E) (hg : Gl X x) (hm : X.mg x = some (.ref f)) (hk : PySem.W.keepIn X.K (.ref f) = true) (hb : Binds X.K fd ps []) (ha : PA X (e :: es) t)
    (hdb : (x == ("__debug__" : Str)) = false := by decide) (he : starEach (e :: es) X.env = (false, eval e X.env) :: starEach es X.env := by rfl) (hpl : (backTo pos (starEach es X.env)).any (·.1) = false := by rfl) :
    PE X (.Call (.Name x p) (e :: es) [] pos) (tCall sp [] E t) := by
  constructor
  intro pins s σ H Q I h
  apply wpAny_Call_Name_kw (ld_glob I hg hm ?_ hdb)
  refine PySem.W.callWith_K (h₀ := X.base) I.ok.mod.kin hk (thn (ha.run pos pins s σ H _ I h) ?_) he hpl
  rintro us s1 ⟨vs, H1, I1, r, q⟩
  refine ⟨I1.kIn, ?_⟩
  rw [List.append_nil] at q
  have hl : us.length = ps.length := by rw [← r.length]; exact F.len _ _ _ q
  exact F.go pins σ s1 H1 us [] us vs Q I1 (by simpa using hb s1 us I1.kIn (by simpa using hl)) r q
/-- f(k = v, ..), every parameter by its name -/
theorem pe_callKw0 (F : Callee X f fd ps sp E) (hg : Gl X x) (hm : X.mg x = some (.ref f)) (hk : PySem.W.keepIn X.K (.ref f) = true) (hb : KBinds X.K fd ps ks g gV) (hkw : PK X kws tk)
    (hall : (backToKw pos (keywordEach kws X.env)).all (·.1.isSome) = true := by rfl) (hks : (backToKw pos (keywordEach kws X.env)).filterMap (·.1) = ks := by rfl)
    (hdb : (x == ("__debug__" : Str)) = false := by decide)
    (hpl : ((backTo pos (starEach [] X.env)).any (·.1) || (backToKw pos (keywordEach kws X.env)).any (·.1.isNone)) = false := by rfl) :
    PE X (.Call (.Name x p) [] kws pos) (tCallK sp gV E tNil tk) := by
  constructor
  intro pins s σ H Q I h
  apply wpAny_Call_Name_kw (ld_glob I hg hm ?_ hdb)
  refine PySem.W.callWith_KW0 (h₀ := X.base) I.ok.mod.kin hk hall (thn (hkw.run pos pins s σ H _ I h) ?_) hpl
  rintro ws s2 ⟨zs, H2, I2, rz, q2⟩
  refine ⟨I2.kIn, ?_⟩
  rw [hks]
  have r2 : Vals (gV [] zs) (g [] ws) := hb.rel .nil rz
  have hl : (g [] ws).length = ps.length := by rw [← r2.length]; exact F.len _ _ _ q2
  exact F.go pins σ s2 H2 [] _ (g [] ws) (gV [] zs) Q I2 (hb.to s2 [] ws I2.kIn hl) r2 q2
end

/-! ### repr of data -/
section
variable {X : Cx}
theorem call_reprD (hu : X.A.units + 200 < cLine) (hg : X.A.guards = some []) :
    CallR X (.builtin "repr") (fun xs H Q => ∃ v d, xs = [v] ∧ Dp X.K H v d ∧ PyData.showable d = true ∧ PyData.hasDict d = false ∧ d.depth ≤ 64 ∧ d.leavesShort 13 = true ∧ d.weight ≤ 2 ^ 20 ∧ (∀ i, d = .int i → i.natAbs.log2 < 1920) ∧ Q (.str d.shown) H) := by
  rintro pins s σ H xs us Q I r ⟨v, d, rfl, hd, hs, hn, hdep, hl, hw, hi, q⟩
  obtain ⟨u, rfl, ru⟩ := vals1 r
  have hz : d.shown.length ≤ sizeLine := PyData.shown_fits (B := 13) (by decide) (by decide) hl hw
  obtain ⟨as, rd⟩ := Dp.reads I d v u hd ru
  have sc : ∀ (z : Str) (h' : Heap) (t t2 : Nat), (∀ b o, s.heap.get? b = some o → h'.get? b = some o) → Q (.str z) H → EP X pins σ Q (.str z t) { s with heap := h', toks := t2 } := fun z h' t t2 k q => ⟨.str z, H, I.kept k, ⟨t, rfl⟩, q⟩
  have self : ∀ b o, s.heap.get? b = some o → s.heap.get? b = some o := fun _ _ e => e
  cases rd with
  | none => exact PySem.P.repr_of_none (sc "None" _ _ _ self q)
  | bool b => exact PySem.P.repr_of_bool (sc _ _ _ _ self q)
  | int i t => exact PySem.P.repr_of_int (hi i rfl) (sc _ _ _ _ self q)
  | str z t => exact PySem.P.repr_of_str (sc _ _ _ _ self q) hz
  | list h1 h2 h3 h4 => exact repr_of_reads' (.list h1 h2 h3 h4) hs (fun z => by rw [hn] at z; cases z) hg (by omega) self (fun h' u tk k => sc _ _ _ _ k q) hz
  | tuple h1 h2 h3 h4 => exact repr_of_reads' (.tuple h1 h2 h3 h4) hs (fun z => by rw [hn] at z; cases z) hg (by omega) self (fun h' u tk k => sc _ _ _ _ k q) hz
  | dict h1 h2 h3 h4 h5 => cases hd
end
end Lx

set_option Elab.async false
set_option linter.all false
set_option maxRecDepth 100000
set_option maxHeartbeats 4000000
/-! enumerate of a tuple -/
namespace Lx
open PySem PySem.Spec PyProof.Rows L2

theorem meets_enum1 {v : Value} {o : Obj} {H : Heap → Prop} (B : Begins v o H) :
    Meets (Builtin.«enumerate.__new__» ⟨[.type "enumerate", v], []⟩) (fun _ R s => H s.heap ∧
      R (.ok (.ret (.ref (s.heap.push o).objs.size))) { s with heap := (s.heap.push o).push { cls := .type "enumerate", data := .fields #[.none, .bool false, .ref s.heap.objs.size, rawInt 0, .none, .none] } }) := by
  apply Meets.of_wp
  rintro prog w A R ⟨hp, g, d, tk, os⟩ ⟨h1, h⟩
  have sub1 := sub_enumerate
  have it : ∀ {A' : Around} {E : Value → Shared → Prop} {Q : Value → Shared → Prop}, Q (.ref hp.objs.size) ⟨hp.push o, g, d, tk, os⟩ → wpAny (model prog w) A' (pyIter v) Q E ⟨hp, g, d, tk, os⟩ :=
    fun {A' E Q} q => B.iter prog w A' E ⟨hp, g, d, tk, os⟩ Q h1 q
  wp_walk using it
  apply wpAny_stack_any
  intro st
  apply wpAny_pure
  split
  · rename_i c _ _ _ _ _
    cases (c == Value.type "enumerate") <;> (wp_walk using it; exact ⟨_, rfl, h⟩)
  · wp_walk using it
    exact ⟨_, rfl, h⟩

theorem enum1_begins {prog : Program} {w : World} {A : Around} {E : Value → Shared → Prop} {s : Shared} {v : Value} {o : Obj} {H : Heap → Prop} {Q : Value → Shared → Prop} (B : Begins v o H) (h1 : H s.heap)
    (h : ∀ h', IsEnum h' (s.heap.objs.size + 1) s.heap.objs.size 0 .none → h'.get? s.heap.objs.size = some o → (∀ b u, s.heap.get? b = some u → h'.get? b = some u) → Q (.ref (s.heap.objs.size + 1)) { s with heap := h' }) :
    wpAny (model prog w) A (call (.type "enumerate") [v]) Q E s := by
  apply callType_new F.called_enumerate (by decide) (F.typeCall_enumerate_1 _) (F.newCall_enumerate_1 _) (fun obj => F.args_object_init_2 obj _) F.entry_enumerate_new (meets_enum1 B)
  refine ⟨h1, ?_⟩
  have hz : (s.heap.push o).objs.size = s.heap.objs.size + 1 := Heap.size_push ..
  show _ ∧ _
  rw [hz]
  have he : IsEnum ((s.heap.push o).push { cls := .type "enumerate", data := .fields #[.none, .bool false, .ref s.heap.objs.size, rawInt 0, .none, .none] }) (s.heap.objs.size + 1) s.heap.objs.size 0 .none := by
    have z := Heap.get?_push_size (s.heap.push o) (o := { cls := .type "enumerate", data := .fields #[.none, .bool false, .ref s.heap.objs.size, rawInt 0, .none, .none] }) rfl
    rw [hz] at z
    exact z
  exact ⟨⟨_, he, rfl⟩, h _ he (Heap.get?_push_of_some _ (Heap.get?_push_size _ B.free)) fun b u x => Heap.get?_push_of_some _ (Heap.get?_push_of_some _ x)⟩

/-- a tuple, each item in a new pair -/
def ItEt (K : PySem.W.Frag) (a : Addr) : It where
  go := fun i H => ∃ (xs : List V) (x : V), SqT K H a xs ∧ xs[i]? = some x
  yld := fun i H v H' => ∃ T x, v = .ref T ∧ H T = none ∧ H' = upd H T (.tup [.int (i : Nat), x]) ∧ ∀ xs, SqT K H a xs → xs[i]? = some x
  stop := fun i H => ∃ xs : List V, SqT K H a xs ∧ xs.length = i

theorem turn_enumT {P : Program} {w : World} {K : PySem.W.Frag} {elts : List Expr} {kk : Nat} {tpos : Pos} (a e it : Addr) (hei : e ≠ it) (hai : a ≠ it) (hae : e ≠ a) :
    Turn P w K (.Tuple elts kk tpos) (ItEt K a) [e, it] e (fun i h => (∃ old, IsEnum h e it ((i : Nat) : Int) old) ∧ h.IsTupleIter it a i) := by
  refine { mem := by simp, obj := ?_, keep := ?_, item := ?_, done := ?_, self := ?_ }
  · rintro i h ⟨⟨old, he⟩, ⟨o, ho, hc, hd⟩⟩ b hb
    rcases (by simpa using hb : b = e ∨ b = it) with rfl | rfl
    · exact ⟨_, he, fun v q => nomatch q⟩
    · exact ⟨o, ho, fun v q => by rw [hd] at q; cases q⟩
  · rintro i h h' ⟨⟨old, he⟩, hi⟩ k
    exact ⟨⟨old, k e (by simp) _ he⟩, hi.at fun o q => k it (by simp) o q⟩
  · rintro X rfl rfl rfl hc i pins s σ H E I hf ⟨⟨old, he⟩, hit⟩ ⟨xs, x, hq, hx⟩
    obtain ⟨its, rv, p, hz⟩ := I.tuple hq
    obtain ⟨u, hu, ru⟩ := rv.get hx
    have hlt : i < its.toArray.size := by
      have z := (List.getElem?_eq_some_iff.mp hu).1
      simpa using z
    have ge : e < s.heap.objs.size := Heap.lt_size he
    have gi : it < s.heap.objs.size := by obtain ⟨_, q, _⟩ := hit; exact Heap.lt_size q
    have D := Draws.tuple (prog := X.prog) (w := X.w) (A := X.A.in1) (show X.A.in1.handled = none from I.ok.hd hc) it a hai its.toArray
    apply wpAny_pyNext_enum_itemD D he ⟨hit, p⟩ hlt hei (by simp [hei, hae])
    intro y h' tk hy ho st' hT hsz hk
    have ey : y = u := by
      have z : its.toArray[i]? = some u := by simpa using hu
      rw [z] at hy
      exact (Option.some.inj hy).symm
    subst ey
    refine ⟨_, rfl, wpAny_letOwnedTupleGo_enum (s := { s with heap := h', toks := tk + 1 }) ho fun h2 he2 sb => ?_⟩
    have hT2 := (sb.2 _ (Nat.ne_of_gt ge)).trans hT
    have new : ObjOk X.prog X.w (upd H s.heap.objs.size (.tup [.int (i : Nat), x])) h2 s.heap.objs.size (.tup [.int (i : Nat), x]) :=
      ⟨by show 2 ≤ sizeLine; decide, [.int i tk, y], .cons ⟨_, rfl⟩ (.cons ru .nil), ⟨_, hT2, rfl, _, rfl⟩⟩
    have J := I.turnedNew (ch := [e, it]) (t' := tk + 1) (h' := h2) (fun b ob hb q => (sb.2 b (by rintro rfl; simp at hb)).trans (hk b ob (by rintro rfl; simp at hb) (by rintro rfl; simp at hb) q)) hf (Nat.le_refl _) new
    refine ⟨.ref s.heap.objs.size, _, J, rfl, ⟨_, x, rfl, I.hok.fresh (Nat.le_refl _), rfl, fun ys hy => by rw [I.tuple_inj hy hq]; exact hx⟩, ⟨⟨y, ?_⟩, st'.1.at fun o q => (sb.2 it (Ne.symm hei)).trans q⟩, ?_⟩
    · rw [show ((i + 1 : Nat) : Int) = (i : Int) + 1 by omega]
      exact he2
    · intro b hb
      have lt : b < s.heap.objs.size := by rcases (by simpa using hb : b = e ∨ b = it) with rfl | rfl <;> assumption
      rw [upd_ne (Nat.ne_of_lt lt)]
      exact (hf b hb).1
  · rintro X rfl rfl rfl hc i pins s σ H E I hf ⟨⟨old, he⟩, hit⟩ ⟨xs, hq, hx⟩
    obtain ⟨its, rv, p, hz⟩ := I.tuple hq
    have D := Draws.tuple (prog := X.prog) (w := X.w) (A := X.A.in1) (show X.A.in1.handled = none from I.ok.hd hc) it a hai its.toArray
    have ei : its.toArray.size = i := by
      have z := rv.length
      simp only [List.size_toArray]
      omega
    apply wpAny_pyNext_enum_endD D he (by rw [ei]; exact ⟨hit, p⟩)
    intro h' eb
    obtain ⟨f0, f1, f2, f3, f4, f5⟩ := hf it (by simp)
    exact ⟨rfl, I.turned (t' := s.toks) (fun b o hb q => eb b o hb q) f0 f1 f3 f4 f5⟩
  · rintro A i s Q E ⟨⟨_, he⟩, _⟩ h
    exact wpAny_pyIter_enum he h

/-- enumerate(x), x a list or a tuple -/
def iEnumS (K : PySem.W.Frag) (ta : TA) : TI := fun σ H R => ta σ H fun vs H1 => ∃ a xs, vs = [.ref a] ∧ ((SqL K H1 a xs ∧ R (Ite K a) H1) ∨ (SqT K H1 a xs ∧ R (ItEt K a) H1))
theorem pi_enumS {X : Cx} {e : Expr} {ta : TA} {p pos tpos : Pos} {elts : List Expr} {kk : Nat} (hg : Gl X "enumerate") (hm : X.mg "enumerate" = none) (ha : PA X [e] ta) (hs : starEach [e] X.env = [(false, eval e X.env)] := by rfl) :
    PI X (.Tuple elts kk tpos) (.Call (.Name "enumerate" p) [e] [] pos) (iEnumS X.K ta) := by
  constructor
  intro pins s σ H R I h
  apply Call_ (ld_blt I hg hm boot_enumerate (PyProof.Rows.callWith_type1 (thn (ha.run pos pins s σ H _ I h) ?_) hs rfl))
  rintro us s1 ⟨vs, H1, I1, r1, a, xs, rfl, q⟩
  obtain ⟨u, rfl, ru⟩ := vals1 r1
  obtain rfl : u = Value.ref a := ru
  have fpo : ∀ b ∈ [s1.heap.objs.size + 1, s1.heap.objs.size], FpOk X pins H1 b := fun b hb => by
    have le : s1.heap.objs.size ≤ b := by rcases (by simpa using hb : b = s1.heap.objs.size + 1 ∨ b = s1.heap.objs.size) with rfl | rfl <;> omega
    exact I1.fpOk le (I1.hok.fresh le)
  rcases q with ⟨hq, q⟩ | ⟨hq, q⟩
  · obtain ⟨its, rv, p', hz⟩ := I1.list hq
    apply call_enumerate_list p'.isList
    intro h' he hit hsz hk
    exact wpAny_pyIter_enum he ⟨s1.heap.objs.size + 1, [s1.heap.objs.size + 1, s1.heap.objs.size], _, _, H1, rfl, I1.kept (t' := s1.toks) hk, turn_enum a (s1.heap.objs.size + 1) s1.heap.objs.size, ⟨⟨.none, he⟩, hit, Nat.succ_ne_self _⟩, fpo, q⟩
  · obtain ⟨its, rv, p', hz⟩ := I1.tuple hq
    have la : a < s1.heap.objs.size := by obtain ⟨o, g, _⟩ := p'; exact Heap.lt_size g
    apply enum1_begins (begins_tuple a its.toArray) p'
    intro h' he hit hk
    exact wpAny_pyIter_enum he ⟨s1.heap.objs.size + 1, [s1.heap.objs.size + 1, s1.heap.objs.size], _, _, H1, rfl, I1.kept (t' := s1.toks) hk, turn_enumT a (s1.heap.objs.size + 1) s1.heap.objs.size (Nat.succ_ne_self _) (Nat.ne_of_lt la) (Nat.ne_of_gt (Nat.lt_succ_of_lt la)), ⟨⟨.none, he⟩, ⟨_, hit, rfl, rfl⟩⟩, fpo, q⟩

/-- walking it: an invariant over (turn, slots, heap) -/
theorem for_enumT {K : PySem.W.Frag} {a : Addr} {xs : List V} {g : TG} {tb : TS} {D : Ends} {σ : L2.St} {H : Hp} (Pv : Nat → L2.St → Hp → Prop) (h0 : Pv 0 σ H) (hl : ∀ i σ H, i ≤ xs.length → Pv i σ H → SqT K H a xs)
    (hs : ∀ i x σ H, xs[i]? = some x → Pv i σ H → ∀ T, H T = none → g (.ref T) σ (upd H T (.tup [.int (i : Nat), x])) fun σ2 H2 => tb { D with nx := Pv (i + 1), ct := Pv (i + 1), bk := D.nx } σ2 H2) (hd : ∀ σ H, Pv xs.length σ H → D.nx σ H) :
    ∃ W : Nat → Nat → L2.St → Hp → Prop, (∃ m, W 0 m σ H) ∧ ∀ i m σ H, W i m σ H →
      (((ItEt K a).stop i H ∧ D.nx σ H) ∨ ((ItEt K a).go i H ∧ ∃ N : L2.St → Hp → Prop, (∀ σ' H', N σ' H' → ∃ m', m' < m ∧ W (i + 1) m' σ' H') ∧ ∀ x H', (ItEt K a).yld i H x H' → g x σ H' fun σ2 H2 => tb { D with nx := N, ct := N, bk := D.nx } σ2 H2)) := by
  refine ⟨fun i m σ H => i + m = xs.length ∧ Pv i σ H, ⟨xs.length, by omega, h0⟩, ?_⟩
  rintro i m σ H ⟨em, hp⟩
  have hq := hl i σ H (by omega) hp
  by_cases hi : i < xs.length
  · right
    refine ⟨⟨xs, xs[i], hq, List.getElem?_eq_getElem hi⟩, Pv (i + 1), fun σ' H' z => ⟨m - 1, by omega, by omega, z⟩, ?_⟩
    rintro x H' ⟨T, y, rfl, nT, rfl, f⟩
    exact hs i y σ H (f xs hq) hp T nT
  · left
    have e : i = xs.length := by omega
    subst e
    exact ⟨⟨xs, hq, rfl⟩, hd σ H hp⟩
end Lx

set_option Elab.async false
set_option linter.all false
set_option maxRecDepth 100000
set_option maxHeartbeats 4000000
/-! exceptions: several clauses that name the error; isinstance of a caught error that bears fields; raise of an error with one field -/
namespace Lx
open PySem PySem.Spec PyProof.Rows L2

/-! ### several clauses, each «except x as n» -/
abbrev Suite := Addr → Value → Option Addr → TS
def endsNone (D : Ends) (i : Nat) : Ends := { nx := fun σ H => D.nx (σ.set i none) H, rt := D.rt, bk := fun σ H => D.bk (σ.set i none) H, ct := fun σ H => D.ct (σ.set i none) H }
def wClauses (K : PySem.W.Frag) (Wout : WX) (D : Ends) : List (Value × Nat × Suite) → WX
  | [] => Wout
  | (c, i, ts) :: r => fun cls d σ H => ∃ b, PySem.W.exmOne K cls c = some b ∧ (b = true → ∀ a, H a = none → ts a cls d (endsNone D i) (σ.set i (some (.ref a))) H) ∧ (b = false → wClauses K Wout D r cls d σ H)
inductive Clauses (X : Cx) : List ExceptHandler → List (Value × Nat × Suite) → Prop
  | nil : Clauses X [] []
  | cons {x n : Str} {c : Value} {i : Nat} {ts : Suite} {b0 : Stmt} {suite : List Stmt} {p1 p2 : Pos} {hds : List ExceptHandler} {l : List (Value × Nat × Suite)} (hc : Names X x c) (hi : X.N[i]? = some n) (hl : X.env.kindOf n = some .local)
      (hsu : ∀ (a : Addr) (oe : Obj) (cls : Value) (d : Option Addr) (pn : List (Addr × Obj)), Zc cls d oe → (∃ vs, oe.data = .fields vs) → PSs (X.suite a ((a, oe) :: pn)) (b0 :: suite) (ts a cls d)) (r : Clauses X hds l) :
      Clauses X (.ExceptHandler (some (.Name x p1)) (some n) (b0 :: suite) p2 :: hds) ((c, i, ts) :: l)


/-- the error at a flies; beneath it the frame stands as it did -/
structure Air (X : Cx) (pins : List (Addr × Obj)) (σ : L2.St) (H : Hp) (sI : Shared) (a : Addr) (B : Heap) (cls : Value) (d : Option Addr) (s : Shared) : Prop where
  J : Inv X pins σ H sI
  nb : ∀ b o, sI.heap.get? b = some o → b ∉ frs X.stack → B.get? b = some o
  up : sI.heap.UpToSlots s.heap
  fl : HandSPX.FlyingZ B (X.env :: X.outer) a (Zc cls d) s.heap
  na : H a = none
  os : s.os = sI.os
  ag : AllBare s.gens
section
variable {X : Cx} {pins : List (Addr × Obj)} {σ : L2.St} {H : Hp} {s sI : Shared} {D : Ends} {Wout : WX} {a : Addr} {B : Heap} {cls : Value} {d : Option Addr}
theorem Air.on (A : Air X pins σ H sI a B cls d s) {h : Heap} (f : HandSPX.FlyingZ B (X.env :: X.outer) a (Zc cls d) h) (u : s.heap.UpToSlots h) : Air X pins σ H sI a B cls d { s with heap := h } :=
  ⟨A.J, A.nb, A.up.trans u, f, A.na, A.os, A.ag⟩
theorem Air.inv (A : Air X pins σ H sI a B cls d s) : Inv X pins σ H s := A.J.landed A.nb A.fl.1 A.up A.os A.ag
theorem Air.suite (A : Air X pins σ H sI a B cls d s) (hf : X.env.frame = some X.env.locals) : ∃ oe, s.heap.get? a = some oe ∧ Zc cls d oe ∧ (∃ vs, oe.data = .fields vs) ∧ Inv (X.suite a ((a, oe) :: (X.pn ++ pins))) [] σ H s := by
  obtain ⟨oe, vs, he, hz, hd⟩ := A.fl.there
  have nfr : a ∉ frs (X.env :: X.outer) := by
    intro hm
    obtain ⟨_, o', e', hnf⟩ := A.fl.2.2.1.mem hm
    rw [he] at e'
    cases e'
    exact hnf _ hd
  have m1 : X.env.locals ∈ frs (X.env :: X.outer) := List.mem_filterMap.mpr ⟨X.env, List.mem_cons_self, by rw [hf]⟩
  have m2 : ∀ b ∈ X.fs, b ∈ frs (X.env :: X.outer) := fun b hb => by
    obtain ⟨e, h1, h2⟩ := List.mem_filterMap.mp hb
    exact List.mem_filterMap.mpr ⟨e, List.mem_cons_of_mem _ h1, h2⟩
  exact ⟨oe, he, hz, ⟨vs, hd⟩, A.inv.suite he hd A.na (fun z => nfr (z ▸ m1)) fun z => nfr (m2 a z)⟩

theorem clauses_run (hs : X.stack = X.env :: X.outer) (hf : X.env.frame = some X.env.locals) (hN : X.N.Nodup) (tk : Takes X Wout) {hds : List ExceptHandler} {l : List (Value × Nat × Suite)} (C : Clauses X hds l) :
    ∀ {s : Shared}, Air X pins σ H sI a B cls d s → wClauses X.K Wout D l cls d σ H → wpAny (model X.prog X.w) X.A (handleBy (.ref a) X.env hds) (SP X pins D) X.xe s := by
  induction C with
  | nil =>
    intro s A w
    apply wpAny_handleBy_nil
    obtain ⟨k1, k2, k3, oe, vs, T, oT, ts', he, hz, hd, h1, hr⟩ := A.fl
    unfold PySem.passOn
    apply wpAny_bind
    apply wpAny_field he hd h1
    rw [if_neg (by simp)]
    have fin : wpAny (model X.prog X.w) X.A (setFlight (.ref a) X.env.frame) (fun _ s4 => wpAny (model X.prog X.w) X.A (throw (.ref a) : Sem Flow) (SP X pins D) X.xe s4) X.xe s := by
      rw [hf]
      exact HandSPX.setFlight_upZ A.fl fun h4 hh up4 => wpAny_throw (tk _ _ ⟨a, B, sI, pins, σ, H, cls, d, rfl, A.J, A.nb, A.up.trans up4, .inr (.inr (by rw [hs]; exact hh)), A.na, A.os, A.ag, w⟩)
    first
      | exact wpAny_bind fin
      | exact wpAny_bind (wpAny_pure (wpAny_bind fin))
  | @cons x n c i ts b0 suite p1 p2 hds l hc hi hl hsu r ih =>
    rintro s A ⟨b, hb, yes, no⟩
    obtain ⟨oe, he, hz, hd, S⟩ := A.suite hf
    refine wpAny_handleBy_cons (codeAny_handlers_test ?_) (by intro q; cases q)
    have ty : PySem.W.Looks (model X.prog X.w) s.heap (typeOf (.ref a)) cls := fun A Q E s' k q => wpAny_typeOf_ref (k _ _ he) (by rw [hz.1]; exact q)
    have mt := PySem.W.exm_one (M := model X.prog X.w) A.inv.kIn ty hb
    have cl : ∀ {Q : Value → Shared → Prop} {E : Value → Shared → Prop}, Q c s → wpAny (model X.prog X.w) (X.A.mark (some (.ref a))) (eval (.Name x p1) X.env) Q E s := fun {Q E} q => by
      obtain ⟨g1, g2, g3 | ⟨g3, g4, g5⟩⟩ := hc
      · exact ld_glob (X := X.suite a ((a, oe) :: (X.pn ++ pins))) S g1 g3 q g2
      · exact ld_blt (X := X.suite a ((a, oe) :: (X.pn ++ pins))) S g1 g3 g4 q g5 g2
    apply cl
    apply mt.here
    cases b with
    | false => exact ih A (no rfl)
    | true =>
      apply codeAny_handlers_suite_as
      apply HandSPX.lands_againZ A.fl
      intro h4 fl4 up4
      have A4 := A.on fl4 up4
      obtain ⟨oe4, he4, hz4, hd4, S4⟩ := A4.suite hf
      apply store_ok (X := X.suite a ((a, oe4) :: (X.pn ++ pins))) (v := .ref a) S4 hN hi (.inl hl) rfl ?_ (.inr hl)
      intro s5 S5
      refine wpAny_mono ((hsu a oe4 cls d (X.pn ++ pins) hz4 hd4).run [] s5 _ H _ S5 (yes rfl a A.na)) ?_ (fun _ _ z => False.elim z)
      have fin : ∀ {σ6 : L2.St} {H6 : Hp} {s6 : Shared} {Q : Shared → Prop}, Inv (X.suite a ((a, oe4) :: (X.pn ++ pins))) [] σ6 H6 s6 → (∀ s7, Inv X pins (σ6.set i none) H6 s7 → Q s7) →
          wpAny (model X.prog X.w) X.A (do bindName X.env n .none; unbindBehindTheSuite X.env n p2) (fun _ s7 => Q s7) X.xe s6 := fun S6 hq => gone_ok (S6.unsuite A.J.ok) hN hi hl hq
      rintro (_ | _ | _ | u) s6 hsp
      · obtain ⟨σ6, H6, S6, q6⟩ := hsp
        exact fin S6 fun s7 J7 => ⟨_, _, J7, q6⟩
      · obtain ⟨σ6, H6, S6, q6⟩ := hsp
        exact fin S6 fun s7 J7 => ⟨_, _, J7, q6⟩
      · obtain ⟨σ6, H6, S6, q6⟩ := hsp
        exact fin S6 fun s7 J7 => ⟨_, _, J7, q6⟩
      · obtain ⟨v6, σ6, H6, S6, r6, q6⟩ := hsp
        exact fin S6 fun s7 J7 => ⟨_, _, _, J7, r6, q6⟩

theorem ps_try_clauses {body : List Stmt} {h0 : ExceptHandler} {hds : List ExceptHandler} {l : List (Value × Nat × Suite)} {pos : Pos} {tb : WX → TS} (hs : X.stack = X.env :: X.outer) (hf : X.env.frame = some X.env.locals) (hN : X.N.Nodup) (tk : Takes X Wout)
    (hb : ∀ (W : WX) (pn : List (Addr × Obj)) (xe : Value → Shared → Prop), Takes (X.tr pn xe) W → PassesOwn (model X.prog X.w) X.A X.env xe → PSs (X.tr pn xe) body (tb W)) (C : Clauses X (h0 :: hds) l) :
    PS X (.Try body (h0 :: hds) [] [] pos) (fun D σ H => tb (wClauses X.K Wout D l) D σ H) := by
  constructor
  intro pins s σ H D I h
  have ok := I.ok
  apply wpAny_Try_except
  refine wpAny_mono ((hb (wClauses X.K Wout D l) (X.pn ++ pins) _ ?_ PassesOwn.looking).run [] s σ H D (I.toTry _) h) ?_ (fun e s1 he => he)
  · rintro u s' ⟨a, B, sI, pins', σ', H', cls, d, rfl, J', nb, up, sky, na, os, ag, w⟩
    show wpAny (model X.prog X.w) X.A (noteFrame (.ref a) X.env) _ _ _
    apply Sky.land Zc.steady (by rw [ok.frames, hs]) hf (by rw [← hs]; exact sky)
    intro h3 fl3 up3
    exact clauses_run hs hf hN tk C ⟨J'.ofTry ok, nb, up.trans up3, fl3, na, os, ag⟩ w
  · rintro (_ | _ | _ | u) s1 hsp
    · obtain ⟨σ', H', J', q⟩ := hsp
      exact wpAny_execs_nil ⟨σ', H', J'.ofTry ok, q⟩
    · obtain ⟨σ', H', J', q⟩ := hsp
      exact ⟨σ', H', J'.ofTry ok, q⟩
    · obtain ⟨σ', H', J', q⟩ := hsp
      exact ⟨σ', H', J'.ofTry ok, q⟩
    · obtain ⟨v, σ', H', J', r, q⟩ := hsp
      exact ⟨v, σ', H', J'.ofTry ok, r, q⟩
end
end Lx

set_option Elab.async false
set_option linter.all false
set_option maxRecDepth 100000
set_option maxHeartbeats 4000000
/-! isinstance of a caught error that bears fields; raise of an error whose __init__ stores one field -/
namespace PySem.W
open PySem PySem.Spec PySem.Calls PyProof.Rows L2
theorem found_data {K : Frag} {C : Addr} {od : Option Obj} {name : Str} {a g : Value} (hc : (clsIn K C).isSome = true) (ha : findIn K (.ref C) name = some (some a)) (hg : specialIn K a "__get__" = some (some g)) (ht : takesIn K a = some true) :
    findObj K C od name = some (.bind g a) := by
  cases hq : clsIn K C with
  | none => rw [hq] at hc; cases hc
  | some cd => simp [findObj, hq, ha, hg, ht]
theorem exc_class_attr {prog : Program} {w : World} {A : Around} {E : Value → Shared → Prop} {s : Shared} {K : Frag} {x D : Addr} {ox : Obj} {od : Option Obj} {Q : Option Value → Shared → Prop} (C : ExcC K D) (X : K.In s.heap) (I : InstAt s.heap x ox D od)
    (h : Q (some (.ref D)) { s with toks := s.toks + 1 }) : wpAny (model prog w) A (getAttr? (.ref x) "__class__") Q E s := by
  have hc : (clsIn K D).isSome = true := by
    obtain ⟨cd, z, _⟩ := any_some C.hd
    rw [z]
    rfl
  have ff := found_data (od := od) hc C.ha C.hn C.ht
  obtain ⟨hp, g, d, t, os⟩ := s
  have l0 := I.type (M := model prog w)
  have l1 := looks_findIn (M := model prog w) X C.hg
  have l2 := looks_findIn (M := model prog w) X C.hk
  have l3 := looks_find (M := model prog w) X I ff
  have isExc : Looks (model prog w) hp (isInstance (.ref x) (.type "BaseException")) true := l0.andThen (looks_subIn X C.hs)
  have z0 : (false && onTheHeap (Value.builtin "BaseException.__getattribute__")) = false := rfl
  have z1 : (onTheHeap (Value.ref D) && Value.builtin "BaseException.__getattribute__" == Value.builtin "object.__getattribute__") = false := by
    rw [show (Value.builtin "BaseException.__getattribute__" == Value.builtin "object.__getattribute__") = false by decide +kernel, Bool.and_false]
  unfold getAttr? getAttrBy? getAttrBy
  apply wpAny_bind
  apply wpAny_mkText
  apply wpAny_bind
  apply wpAny_attempt
  apply wpAny_holding
  apply wpAny_bind
  apply l0.at
  apply wpAny_bind
  apply l1.at
  show wpAny _ _ (if (onTheHeap (Value.ref D) && Value.builtin "BaseException.__getattribute__" == Value.builtin "object.__getattribute__") = true then _ else _) _ _ _
  rw [z1, if_neg Bool.false_ne_true]
  unfold getAttrByItsOwn hookBefore
  apply wpAny_bind
  rw [if_pos (show onTheHeap (Value.ref D) = true from rfl)]
  apply l2.at
  apply wpAny_bind
  apply wpAny_attempt
  apply wpAny_holding
  unfold callGetattribute
  rw [z0, if_neg Bool.false_ne_true]
  unfold boundAndCalled
  rw [PySem.F.excAttr_ValueError.ga.bind (.ref x)]
  apply wpAny_bind
  apply wpAny_pure
  show wpAny _ _ (call (.builtin "BaseException.__getattribute__") [.ref x, .str "__class__" t]) _ _ _
  apply wpAny_call
  apply codeAny_call_builtin PySem.F.excAttr_ValueError.ga.plain PySem.F.entry_bexc_ga
  refine @check_slot (model prog w) _ _ ⟨hp, g, d, t + 1, os⟩ "BaseException.__getattribute__" "BaseException" "__getattribute__" (.ref x) [.str "__class__" t] [] _ (by decide +kernel) (by decide +kernel) isExc (PySem.F.args_bexc_ga (.ref x) (.str "__class__" t)) ?_
  unfold Builtin.«object.__getattribute__»
  refine wpAny_bind (wpAny_of_eq (a := ((Value.ref x : Value), [Value.str "__class__" t])) (by first | rfl | (simp only [slotArgs]; rfl)) ?_)
  apply wpAny_bind
  apply wpAny_pure
  apply wpAny_bind
  apply l0.at
  apply wpAny_bind
  apply l3.at
  show wpAny _ _ (holding [Value.builtin "object.__class__"] (call (.builtin "getset_descriptor.__get__") [.builtin "object.__class__", .ref x, .ref D]) >>= ret) _ _ _
  apply wpAny_bind
  apply wpAny_holding
  apply wpAny_call
  apply class_get (s := ⟨hp, g, d, t + 1, os⟩) (ox := ox) (od := od) X I C.hm
  apply wpAny_pure
  show wpAny _ _ (handedOut (.ref D)) _ _ _
  rw [handedOut_of (v := .ref D) rfl]
  first
    | exact wpAny_pure (wpAny_pure h)
    | exact wpAny_pure h
    | exact wpAny_pure (wpAny_bind (wpAny_pure (wpAny_pure h)))
theorem kit_exc {K : Frag} {x D : Addr} {ox : Obj} {od : Option Obj} (C : ExcC K D) : KitX K (.ref x) (.ref D) (fun h => InstAt h x ox D od) := by
  have ex : ∃ o : Obj, K.lookup D = some o ∧ (∃ c d cd sl, o = ⟨c, d, .cls cd, sl⟩) := by
    obtain ⟨cd, hc, _⟩ := any_some C.hd
    unfold clsIn at hc
    split at hc
    · rename_i c' d' cd' sl' ho
      exact ⟨_, ho, _, _, _, _, rfl⟩
    · cases hc
  refine { ty := fun _ _ _ I => I.type, it := ?_, ne := ?_, ca := fun X I k => exc_class_attr C X I k }
  · intro M h X I A' Q' E' s' k q
    obtain ⟨o, ho, c, d, cd, sl, rfl⟩ := ex
    unfold isType loadHead
    exact wpAny_bind (wpAny_loadPart (k _ _ (X _ _ ho)) (wpAny_pure q))
  · intro h tp dd its n sl X htp
    obtain ⟨o, ho, c, d, cd, sl2, rfl⟩ := ex
    apply Bool.eq_false_iff.mpr
    intro q
    have e : D = tp := Value.ref.inj (beq_iff_eq.mp q)
    subst e
    have z := (X _ _ ho).symm.trans htp
    cases z
end PySem.W
namespace Lx
open PySem PySem.Spec PyProof.Rows L2
/-- isinstance(e, c), e the exception that the suite holds, its fields in the dict at dd -/
def rIsF (K : PySem.W.Frag) (D a dd : Addr) : List V → Hp → VK → Prop := fun xs H Q => ∃ (c : V) (cv : Value) (b : Bool) (fs : List (Str × V)), xs = [.ref a, c] ∧ (∀ u, RelV c u → u = cv) ∧ PySem.W.kitOne K (.ref D) cv = some b ∧ H dd = some (.xd fs) ∧ Q (.bl b) H
theorem call_isF {X : Cx} {a D dd : Addr} {oe : Obj} {pn : List (Addr × Obj)} (C : ExcC X.K D) (hz : Zc (.ref D) (some dd) oe) (hf : ∃ vs, oe.data = .fields vs) : CallR (X.suite a ((a, oe) :: pn)) (.builtin "isinstance") (rIsF X.K D a dd) := by
  rintro pins s σ H xs us Q I r ⟨c, cv, b, fs, rfl, hcv, e, hd, q⟩
  obtain ⟨u1, u2, rfl, r1, r2⟩ := vals2 r
  cases r1
  have ec := hcv _ r2
  subst ec
  obtain ⟨hget, _⟩ := I.pin (a, oe) (List.mem_append.mpr (.inl List.mem_cons_self))
  obtain ⟨mA, hns, _⟩ := (show ObjOk X.prog X.w H s.heap dd (.xd fs) from I.hok dd _ hd)
  obtain ⟨od, ho, _⟩ := lookIn_ns hns
  have J : PySem.W.InstAt s.heap a oe D (some od) := by
    obtain ⟨vs, hv⟩ := hf
    obtain ⟨h1, h2⟩ := hz
    obtain ⟨oc, odx, oda, osl⟩ := oe
    dsimp only at h1 h2 hv
    subst h1 h2 hv
    exact ⟨hget, rfl, rfl, ho⟩
  exact PySem.W.kia_one (PySem.W.kit_exc C) I.kIn J e (fun z => nomatch z) fun tk => ⟨.bl b, H, I.kept (t' := tk) fun _ _ z => z, rfl, q⟩

/-! ### an error class whose __init__ stores one field «at» -/
def errSp (C : Addr) (fld : Str) : Sp := fun vs H Q _ => ∃ a v, vs = [.ref a, v] ∧ H a = some (exo a C none) ∧ ∀ dx, H dx = none → dx ≠ a → Q .non (upd (upd H dx (exd dx [(fld, v)])) a (exo a C (some dx)))
/-- the class x over ValueError, at C -/
structure Err (P : Program) (w : World) (K : PySem.W.Frag) (mg : Str → Option Value) (base : Heap) (x fld : Str) (C : Addr) : Prop where
  T : OexC K C
  xf : XfC K C
  ec : ExcC K C
  no : PySem.W.findIn K (.ref C) fld = some none
  gC : mg x = some (.ref C)
  ini : ∃ fI fd k ps, PySem.W.findIn K (.ref C) "__init__" = some (some (.ref fI)) ∧ PySem.W.typeIn K (.ref fI) = some (.type "function") ∧ k ≤ 1 ∧ FnOk P w K mg base L2.CX0 k fI fd ps (errSp C fld) ∧ Binds K fd ps []
def tErr (C : Addr) (fld : Str) (W : WX) (te : TE) : TS := fun _ σ H => tMkO C (errSp C fld) [] (tCons te tNil) σ H fun cls d H' => W cls d σ H'
/-- behind the argument's reading -/
theorem err_in {C : Addr} {fld : Str} {v : V} {H1 : Hp} {Q : XK} (h : ∀ d H', Same H1 H' → H1 d = none → H' d = some (.xd [(fld, v)]) → Q (.ref C) (some d) H') :
    ([v] : List V).length ≤ 1000 ∧ ∀ a, H1 a = none → errSp C fld (.ref a :: ([v] ++ [])) (upd H1 a (exo a C none))
      (fun u H2 => u = .non ∧ ∃ (d : Addr) (fs : List (Str × V)), H2 a = some (exo a C (some d)) ∧ H2 d = some (exd d fs) ∧ H1 d = none ∧ Q (.ref C) (some d) (upd (del H2 a) d (.xd fs))) (fun _ _ _ => False) := by
  refine ⟨Nat.succ_le_succ (Nat.zero_le _), fun a na => ⟨a, v, rfl, upd_same, fun dx nd ne => ⟨rfl, dx, [(fld, v)], upd_same, ?_, ?_, ?_⟩⟩⟩
  · rw [upd_ne ne, upd_same]
  · rw [upd_ne ne] at nd
    exact nd
  · rw [upd_ne ne] at nd
    refine h dx _ (fun b o z => ?_) nd upd_same
    have n1 : b ≠ dx := ne_of_none z nd
    have n2 : b ≠ a := ne_of_none z na
    rw [upd_ne n1, del_ne n2, upd_ne n2, upd_ne n1, upd_ne n2]
    exact z
theorem ps_raiseErr {X : Cx} {C : Addr} {x fld : Str} {e : Expr} {te : TE} {W : WX} {p pos pos2 : Pos} (hc : X.calm = true) (Er : Err X.prog X.w X.K X.mg X.base x fld C) (hr : Room 2 X.A) (tk : Takes X W) (he : PE X e te) (hg : Gl X x := by rfl)
    (hdb : (x == ("__debug__" : Str)) = false := by decide) (h1 : starEach [e] X.env = (false, eval e X.env) :: starEach [] X.env := by rfl) (h2 : (backTo pos (starEach [] X.env)).any (·.1) = false := by rfl) :
    PS X (.Raise (some (.Call (.Name x p) [e] [] pos)) none pos2) (tErr C fld W te) := by
  obtain ⟨fI, fd, k, ps, i1, i2, hk, F1, hb⟩ := Er.ini
  exact ps_raise (pos := pos2) hc tk (pmk_oex (p := p) (dvs := []) (ds := []) Er.T i1 i2 F1 (hr.mono (by omega)) hb .nil pass0 hg Er.gC (pa_cons he pa_nil h1) hdb h1 h2)
/-- the class's own __init__ -/
theorem ok_errInit {P : Program} {w : World} {K : PySem.W.Frag} {mg : Str → Option Value} {base : Heap} {qual fld : Str} {C f : Addr} {fd : FuncData} {st : Stmt} {k0 : Nat} {p1 p2 p3 p4 : Pos} (T : OexC K C) (no : PySem.W.findIn K (.ref C) fld = some none)
    (F : Fun K "__init__" qual st f fd) (S : FnScope ["self", fld] ["self", fld] (defScope st)) (hB : defBody st = [.Assign [.Attribute (.Name "self" p1) fld p2] (.Name fld p3) p4]) (hd : (fld == ("__debug__" : Str)) = false) (hcd : (fld == ("__classdict__" : Str)) = false)
    (v1 : Vis (defScope st) "self") (v2 : Vis (defScope st) fld) (hsw : ∀ X : Cx, swapsWith (.Name fld p3) (some (.Attribute (.Name "self" p1) fld p2)) p4.line X.env = pure false) : FnOk P w K mg base L2.CX0 1 f fd ["self", fld] (errSp C fld) := by
  apply F.ok S
  · rintro vs H Q E ⟨a, v, rfl, _⟩
    rfl
  · rintro cdv A outer s H vs Q E hr ⟨a, v, rfl, ha, h⟩
    rw [hB]
    refine ⟨_, pss_one (ps_ost (pe_var (i := 0) rfl v1) (pe_var (i := 1) rfl v2 hd hcd) (hsw _)), ?_⟩
    exact ⟨v, rfl, .ref a, rfl, a, C, rfl, T, no, .inl ⟨ha, h⟩⟩
end Lx

set_option Elab.async false
set_option linter.all false
set_option maxRecDepth 100000
set_option maxHeartbeats 4000000
/-! short words: a def by its name; values of a known kind; what stays -/
namespace Lx
open PySem PySem.Spec PyProof.Rows L2

/-- the def x keeps sp -/
structure Has (P : Program) (w : World) (K : PySem.W.Frag) (mg : Str → Option Value) (base : Heap) (CX : CXT) (k : Nat) (x : Str) (ps : List Str) (sp : Sp) : Prop where
  ex : ∃ f fd, mg x = some (.ref f) ∧ PySem.W.keepIn K (.ref f) = true ∧ Binds K fd ps [] ∧ FnOk P w K mg base CX k f fd ps sp
structure HasG (P : Program) (w : World) (K : PySem.W.Frag) (mg : Str → Option Value) (base : Heap) (k : Nat) (x : Str) (ps : List Str) (sp : Sp) : Prop where
  ex : ∃ f fd, mg x = some (.ref f) ∧ PySem.W.keepIn K (.ref f) = true ∧ Binds K fd ps [] ∧ FnOkG P w K mg base L2.CX0 k f fd ps sp
section
variable {X : Cx} {k : Nat} {x : Str} {ps : List Str} {sp : Sp} {e : Expr} {es : List Expr} {p pos : Pos} {t : TA}
theorem pe_has (F : Has X.prog X.w X.K X.mg X.base L2.CX0 k x ps sp) (hr : Room k X.A) (hg : Gl X x) (ha : PA X (e :: es) t)
    (hdb : (x == ("__debug__" : Str)) = false := by decide) (he : starEach (e :: es) X.env = (false, eval e X.env) :: starEach es X.env := by rfl) (hpl : (backTo pos (starEach es X.env)).any (·.1) = false := by rfl) :
    PE X (.Call (.Name x p) (e :: es) [] pos) (tCall sp [] L2.E0 t) := by
  obtain ⟨f, fd, h1, h2, h3, h4⟩ := F.ex
  exact pe_callC (Lx.FnOk.callee h4 hr pass0) hg h1 h2 h3 ha hdb he hpl
theorem pe_hasG (F : HasG X.prog X.w X.K X.mg X.base k x ps sp) (hr : Room k X.A) (hgd : X.A.guards = some []) (hg : Gl X x) (ha : PA X (e :: es) t)
    (hdb : (x == ("__debug__" : Str)) = false := by decide) (he : starEach (e :: es) X.env = (false, eval e X.env) :: starEach es X.env := by rfl) (hpl : (backTo pos (starEach es X.env)).any (·.1) = false := by rfl) :
    PE X (.Call (.Name x p) (e :: es) [] pos) (tCall sp [] L2.E0 t) := by
  obtain ⟨f, fd, h1, h2, h3, h4⟩ := F.ex
  exact pe_callC (Lx.FnOkG.callee h4 hr hgd pass0) hg h1 h2 h3 ha hdb he hpl
/-- a def that may raise: E what is wished of the error -/
theorem pe_hasX {E : XK} {W : WX} (F : Has X.prog X.w X.K X.mg X.base (L2.CX X.prog X.w) k x ps sp) (hr : Room k X.A) (tk : Takes X W) (hW : ∀ cls d σ H, E cls d H → W cls d σ H) (hg : Gl X x) (ha : PA X (e :: es) t)
    (hdb : (x == ("__debug__" : Str)) = false := by decide) (he : starEach (e :: es) X.env = (false, eval e X.env) :: starEach es X.env := by rfl) (hpl : (backTo pos (starEach es X.env)).any (·.1) = false := by rfl) :
    PE X (.Call (.Name x p) (e :: es) [] pos) (tCall sp [] E t) := by
  obtain ⟨f, fd, h1, h2, h3, h4⟩ := F.ex
  exact pe_callC (Lx.FnOk.callee h4 hr (passes_call tk hW)) hg h1 h2 h3 ha hdb he hpl
end

/-! ### what stays -/
theorem sameT {K : PySem.W.Frag} {H H' : Hp} {a : Addr} {xs : List V} (e : Same H H') (h : SqT K H a xs) : SqT K H' a xs := by
  rcases h with (h | ⟨o, h⟩) | h
  · exact .inl (.inl (e _ _ h))
  · exact .inl (.inr ⟨o, e _ _ h⟩)
  · exact .inr h
theorem same_new {H : Hp} {p : Addr} {o : HO} (h : H p = none) : Same H (upd H p o) := fun b x e => by
  rw [upd_ne (ne_of_none e h)]
  exact e
mutual
theorem Same.dp {K : PySem.W.Frag} {H H' : Hp} (e : Same H H') : ∀ (d : PyData) (v : V), Dp K H v d → Dp K H' v d
  | .none, _, h => by cases h; exact .non
  | .bool b, _, h => by cases h; exact .bl b
  | .int i, _, h => by cases h; exact .int i
  | .str x, _, h => by cases h; exact .str x
  | .list ds, _, h => by
    cases h with
    | lst h1 h2 => exact .lst (e.seq h1) (Same.dps e ds _ h2)
  | .tuple ds, _, h => by
    cases h with
    | tup h1 h2 => exact .tup (sameT e h1) (Same.dps e ds _ h2)
  | .dict _, _, h => by cases h
theorem Same.dps {K : PySem.W.Frag} {H H' : Hp} (e : Same H H') : ∀ (ds : List PyData) (vs : List V), DpAll K H vs ds → DpAll K H' vs ds
  | [], _, h => by cases h; exact .nil
  | d :: ds, _, h => by
    cases h with
    | cons h1 h2 => exact .cons (Same.dp e d _ h1) (Same.dps e ds _ h2)
end

theorem walk_enumT {K : PySem.W.Frag} {a : Addr} {xs : List V} : Walk (ItEt K a) xs.length (fun H => SqT K H a xs) (YPair (fun i => some (.int (i : Nat))) (fun i => xs[i]?)) := by
  constructor
  · intro i H hi q
    exact ⟨xs, xs[i], q, by simp [hi]⟩
  · intro H q
    exact ⟨xs, q, rfl⟩
  · rintro i H v H' hi q ⟨T, x, h1, h2, h3, h4⟩
    exact ⟨T, .int (i : Nat), x, h1, h2, h3, rfl, h4 xs q⟩

/-! ### values of a known kind -/
inductive Vk (K : PySem.W.Frag) (H : Hp) : V → Prop
  | non : Vk K H .non
  | bl (b : Bool) : Vk K H (.bl b)
  | int (i : Int) : Vk K H (.int i)
  | str (s : Str) : Vk K H (.str s)
  | lst {a : Addr} {xs : List V} : SqL K H a xs → Vk K H (.ref a)
  | tup {a : Addr} {xs : List V} : SqT K H a xs → Vk K H (.ref a)
theorem Vk.same {K : PySem.W.Frag} {H H' : Hp} {v : V} (h : Vk K H v) (e : Same H H') : Vk K H' v := by
  cases h with
  | non => exact .non
  | bl b => exact .bl b
  | int i => exact .int i
  | str s => exact .str s
  | lst h => exact .lst (e.seq h)
  | tup h => exact .tup (sameT e h)
theorem ty_list {K : PySem.W.Frag} {H : Hp} {a : Addr} {xs : List V} (h : SqL K H a xs) : TyX K H (.ref a) (.type "list") := by
  rcases h with (h | ⟨o, h⟩) | ⟨o, its, n, h, hc, _⟩
  · exact .base (.lst h)
  · exact .base (.frz h)
  · exact .kList h hc
theorem ty_tuple {K : PySem.W.Frag} {H : Hp} {a : Addr} {xs : List V} (h : SqT K H a xs) : TyX K H (.ref a) (.type "tuple") := by
  rcases h with (h | ⟨o, h⟩) | ⟨o, its, n, h, hc, _⟩
  · exact .base (.tup h)
  · exact .fTuple h
  · exact .kTuple h hc
def tyName : V → String
  | .non => "NoneType"
  | .bl _ => "bool"
  | .int _ => "int"
  | .str _ => "str"
  | _ => "list"
/-- what is no int and no bool by its kind -/
def isI : V → Bool
  | .int _ => true
  | .bl _ => true
  | _ => false
def isB : V → Bool
  | .bl _ => true
  | _ => false
/-- the ints from lo to hi -/
def numV (v : V) (lo hi : Int) : Bool := match v with
  | .int i => decide (lo ≤ i) && decide (i ≤ hi)
  | _ => false
theorem Vk.asInt {K : PySem.W.Frag} {H : Hp} {v : V} (h : Vk K H v) : ∃ t, TyX K H v t ∧ PySem.W.kitOne K t (.type "int") = some (isI v) := by
  cases h with
  | non => exact ⟨_, .base .non, kit_ty (r := false) (by decide +kernel)⟩
  | bl b => exact ⟨_, .base (.bl b), kit_ty (r := true) (by decide +kernel)⟩
  | int i => exact ⟨_, .base (.int i), kit_ty (r := true) (by decide +kernel)⟩
  | str s => exact ⟨_, .base (.str s), kit_ty (r := false) (by decide +kernel)⟩
  | lst h => exact ⟨_, ty_list h, kit_ty (r := false) (by decide +kernel)⟩
  | tup h => exact ⟨_, ty_tuple h, kit_ty (r := false) (by decide +kernel)⟩
theorem Vk.asBool {K : PySem.W.Frag} {H : Hp} {v : V} (h : Vk K H v) : ∃ t, TyX K H v t ∧ PySem.W.kitOne K t (.type "bool") = some (isB v) := by
  cases h with
  | non => exact ⟨_, .base .non, kit_ty (r := false) (by decide +kernel)⟩
  | bl b => exact ⟨_, .base (.bl b), kit_ty (r := true) (by decide +kernel)⟩
  | int i => exact ⟨_, .base (.int i), kit_ty (r := false) (by decide +kernel)⟩
  | str s => exact ⟨_, .base (.str s), kit_ty (r := false) (by decide +kernel)⟩
  | lst h => exact ⟨_, ty_list h, kit_ty (r := false) (by decide +kernel)⟩
  | tup h => exact ⟨_, ty_tuple h, kit_ty (r := false) (by decide +kernel)⟩
/-- a list's or tuple's items -/
inductive Seq (K : PySem.W.Frag) (H : Hp) : V → List V → Prop
  | lst {a : Addr} {xs : List V} : SqL K H a xs → Seq K H (.ref a) xs
  | tup {a : Addr} {xs : List V} : SqT K H a xs → Seq K H (.ref a) xs
/-- none, a truth value, a number, a text -/
inductive Sca : V → Prop
  | non : Sca .non
  | bl (b : Bool) : Sca (.bl b)
  | int (i : Int) : Sca (.int i)
  | str (s : Str) : Sca (.str s)
theorem Sca.vk {K : PySem.W.Frag} {H : Hp} {v : V} (h : Sca v) : Vk K H v := by
  cases h with
  | non => exact .non
  | bl b => exact .bl b
  | int i => exact .int i
  | str s => exact .str s
theorem Seq.vk {K : PySem.W.Frag} {H : Hp} {v : V} {xs : List V} (h : Seq K H v xs) : Vk K H v := by
  cases h with
  | lst h => exact .lst h
  | tup h => exact .tup h
theorem Seq.same {K : PySem.W.Frag} {H H' : Hp} {v : V} {xs : List V} (h : Seq K H v xs) (e : Same H H') : Seq K H' v xs := by
  cases h with
  | lst h => exact .lst (e.seq h)
  | tup h => exact .tup (sameT e h)
theorem kitLT {K : PySem.W.Frag} {a : String} {b1 b2 : Bool} (h1 : PySem.W.kitOne K (.type a) (.type "list") = some b1) (h2 : PySem.W.kitOne K (.type a) (.type "tuple") = some b2) :
    PySem.W.kitAny K (.type a) [.type "list", .type "tuple"] = some (b1 || b2) := by
  refine kitAny_cons h1 (fun e => ?_) (fun e => by rw [e]; rfl)
  subst e
  refine kitAny_cons h2 (fun e => ?_) (fun e => by rw [e]; rfl)
  subst e
  exact kitAny_nil
theorem Seq.kit {K : PySem.W.Frag} {H : Hp} {v : V} {xs : List V} (h : Seq K H v xs) : ∃ t, TyX K H v t ∧ PySem.W.kitAny K t [.type "list", .type "tuple"] = some true := by
  cases h with
  | lst h => exact ⟨_, ty_list h, kitLT (b1 := true) (b2 := false) (kit_ty (by decide +kernel)) (kit_ty (by decide +kernel))⟩
  | tup h => exact ⟨_, ty_tuple h, kitLT (b1 := false) (b2 := true) (kit_ty (by decide +kernel)) (kit_ty (by decide +kernel))⟩
theorem Sca.kit {K : PySem.W.Frag} {H : Hp} {v : V} (h : Sca v) : ∃ t, TyX K H v t ∧ PySem.W.kitAny K t [.type "list", .type "tuple"] = some false := by
  cases h with
  | non => exact ⟨_, .base .non, kitLT (b1 := false) (b2 := false) (kit_ty (by decide +kernel)) (kit_ty (by decide +kernel))⟩
  | bl b => exact ⟨_, .base (.bl b), kitLT (b1 := false) (b2 := false) (kit_ty (by decide +kernel)) (kit_ty (by decide +kernel))⟩
  | int i => exact ⟨_, .base (.int i), kitLT (b1 := false) (b2 := false) (kit_ty (by decide +kernel)) (kit_ty (by decide +kernel))⟩
  | str s => exact ⟨_, .base (.str s), kitLT (b1 := false) (b2 := false) (kit_ty (by decide +kernel)) (kit_ty (by decide +kernel))⟩
end Lx

set_option Elab.async false
set_option linter.all false
set_option maxRecDepth 100000
set_option maxHeartbeats 4000000
/-! a list or a tuple walked; comprehensions whose element leaves all as it was -/
namespace Lx
open PySem PySem.Spec PyProof.Rows L2

/-- a def that may raise, called where it does not -/
theorem pe_hasN {X : Cx} {k : Nat} {x : Str} {ps : List Str} {sp : Sp} {e : Expr} {es : List Expr} {p pos : Pos} {t : TA} (F : Has X.prog X.w X.K X.mg X.base (L2.CX X.prog X.w) k x ps sp) (hr : Room k X.A) (hg : Gl X x) (ha : PA X (e :: es) t)
    (hdb : (x == ("__debug__" : Str)) = false := by decide) (he : starEach (e :: es) X.env = (false, eval e X.env) :: starEach es X.env := by rfl) (hpl : (backTo pos (starEach es X.env)).any (·.1) = false := by rfl) :
    PE X (.Call (.Name x p) (e :: es) [] pos) (tCall sp [] L2.E0 t) := by
  obtain ⟨f, fd, h1, h2, h3, h4⟩ := F.ex
  exact pe_callC (Lx.FnOk.callee h4 hr passL) hg h1 h2 h3 ha hdb he hpl

/-- len of a list or a tuple, the written part named -/
def rLenS (K : PySem.W.Frag) : List V → Hp → VK → Prop := fun xs H Q => ∃ p ys, xs = [V.ref p] ∧ (SqL K H p ys ∨ SqT K H p ys) ∧ Q (V.int (ys.length : Nat)) H
theorem lenS {X : Cx} : CallR X (.builtin "len") (rLenS X.K) := call_len_seq

/-- tuple(x) of a list or a tuple, the written part named -/
def rTupOf (K : PySem.W.Frag) : List V → Hp → VK → Prop := fun xs H Q => ∃ p ys, xs = [V.ref p] ∧ ((SqL K H p ys ∧ ∀ l, H l = none → Q (V.ref l) (upd H l (.tup ys))) ∨ (SqT K H p ys ∧ Q (V.ref p) H))
theorem tupOf {X : Cx} : CallR X (.type "tuple") (rTupOf X.K) := call_tuple_of

/-- a list or a tuple -/
def iSeq (K : PySem.W.Frag) (tl : TE) : TI := fun σ H R => tl σ H fun x H1 => ∃ a, x = .ref a ∧ ((∃ xs, SqL K H1 a xs ∧ R (Itl K a) H1) ∨ (∃ xs, SqT K H1 a xs ∧ R (Itt K a) H1))
theorem pi_seq {X : Cx} {tg l : Expr} {tl : TE} (hl : PE X l tl) : PI X tg l (iSeq X.K tl) := by
  constructor
  intro pins s σ H R I h
  apply thn (hl.run pins s σ H _ I h)
  rintro v s1 ⟨x, H1, I1, r1, a, rfl, q⟩
  cases r1
  have fpo : ∀ b ∈ [s1.heap.objs.size], FpOk X pins H1 b := fun b hb => by
    obtain rfl : b = s1.heap.objs.size := by simpa using hb
    exact I1.fpOk (Nat.le_refl _) (I1.hok.fresh (Nat.le_refl _))
  rcases q with ⟨xs, hq, q⟩ | ⟨xs, hq, q⟩
  · obtain ⟨its, rv, p, hz⟩ := I1.list hq
    exact wpAny_pyIter_list p.isList ⟨s1.heap.objs.size, [s1.heap.objs.size], _, _, H1, rfl, I1.kept (t' := s1.toks) fun b o e => Heap.get?_push_of_some _ e, turn_list a _, ⟨_, Heap.get?_push_size _ rfl, rfl, rfl⟩, fpo, q⟩
  · obtain ⟨its, rv, p, hz⟩ := I1.tuple hq
    exact wpAny_pyIter_tuple (show s1.heap.IsTuple a its.toArray from p) ⟨s1.heap.objs.size, [s1.heap.objs.size], _, _, H1, rfl, I1.kept (t' := s1.toks) fun b o e => Heap.get?_push_of_some _ e, turn_tuple a _, ⟨_, Heap.get?_push_size _ rfl, rfl, rfl⟩, fpo, q⟩

theorem yes_in {σ : L2.St} {H : Hp} {A B : Hp → Prop} (h : A H) : tYes σ H (fun b H3 => if b = true then A H3 else B H3) := by
  show (if true = true then A H else B H)
  exact iteT h

/-- behind i turns the new list at D holds what f gives of the turns that p lets; all else is as it was -/
def PvF (p : Nat → Bool) (f : Nat → V) (H1 : Hp) (D : Addr) (i : Nat) (H : Hp) : Prop := Same H1 H ∧ H D = some (.lst (((List.range i).filter p).map f))
theorem pvf0 {p : Nat → Bool} {f : Nat → V} {H1 : Hp} {D : Addr} (n : H1 D = none) : PvF p f H1 D 0 (upd H1 D (.lst [])) := ⟨same_new n, upd_same⟩
theorem range_put (p : Nat → Bool) (f : Nat → V) (i : Nat) (h : p i = true) : ((List.range (i + 1)).filter p).map f = ((List.range i).filter p).map f ++ [f i] := by
  rw [List.range_succ, List.filter_append, List.map_append]
  simp [h]
theorem range_skip (p : Nat → Bool) (f : Nat → V) (i : Nat) (h : p i = false) : ((List.range (i + 1)).filter p).map f = ((List.range i).filter p).map f := by
  rw [List.range_succ, List.filter_append, List.map_append]
  simp [h]
theorem range_len (p : Nat → Bool) (f : Nat → V) (i : Nat) : (((List.range i).filter p).map f).length ≤ i := by
  rw [List.length_map]
  have := List.length_filter_le p (List.range i)
  rwa [List.length_range] at this
theorem pvf_put {p : Nat → Bool} {f : Nat → V} {H1 H H4 : Hp} {D : Addr} {i : Nat} {y : V} (n : H1 D = none) (h : PvF p f H1 D i H) (s : Same H H4) (hp : p i = true) (e : y = f i) (hi : i < 1000000) :
    ∃ acc, H4 D = some (.lst acc) ∧ acc.length < sizeLine ∧ PvF p f H1 D (i + 1) (upd H4 D (.lst (acc ++ [y]))) := by
  refine ⟨_, s _ _ h.2, ?_, fun b o z => ?_, ?_⟩
  · have := range_len p f i
    rw [sizeLine_eq]
    omega
  · rw [upd_ne (ne_of_none z n)]
    exact s _ _ (h.1 _ _ z)
  · rw [upd_same, range_put p f i hp, e]
theorem pvf_skip {p : Nat → Bool} {f : Nat → V} {H1 H H4 : Hp} {D : Addr} {i : Nat} (h : PvF p f H1 D i H) (s : Same H H4) (hp : p i = false) : PvF p f H1 D (i + 1) H4 :=
  ⟨h.1.trans s, by rw [range_skip p f i hp]; exact s _ _ h.2⟩
theorem filter_true (n : Nat) : (List.range n).filter (fun _ => true) = List.range n := List.filter_eq_self.mpr fun _ _ => rfl
theorem range_get {xs : List V} : (List.range xs.length).map (fun i => xs.getD i .non) = xs := by
  apply List.ext_getElem
  · simp
  · intro i h1 h2
    simp [h2]
theorem range_get_map {α : Type} {xs : List V} (g : V → α) : (List.range xs.length).map (fun i => g (xs.getD i .non)) = xs.map g := by
  apply List.ext_getElem
  · simp
  · intro i h1 h2
    have h3 : i < xs.length := by simpa using h1
    simp [h3]
end Lx

set_option Elab.async false
set_option linter.all false
set_option maxRecDepth 100000
set_option maxHeartbeats 4000000
/-! data: what repr and == ask of them -/
namespace Lx
open PySem PySem.Spec PyProof.Rows L2

structure Neat (d : PyData) (dep wt : Nat) : Prop where
  lay : d.canLay0 = true
  dep : d.depth ≤ dep
  wt : d.weight ≤ wt
  shw : d.showable = true
  nod : d.hasDict = false
  ls : d.leavesShort 13 = true
theorem Neat.mono {d : PyData} {a b a' b' : Nat} (h : Neat d a b) (h1 : a ≤ a') (h2 : b ≤ b') : Neat d a' b' := ⟨h.lay, by have := h.dep; omega, by have := h.wt; omega, h.shw, h.nod, h.ls⟩
theorem Neat.shaped {d : PyData} {a b : Nat} (h : Neat d a b) (h1 : a ≤ 64) : SeqAt.shaped d = true := by
  unfold SeqAt.shaped
  rw [h.lay, Bool.true_and, decide_eq_true_eq]
  have := h.dep
  omega
theorem log2_lt {n : Nat} (h : n < 10 ^ 12) : n.log2 < 1920 := by
  by_cases z : n = 0
  · subst z
    decide
  · rw [Nat.log2_lt z]
    exact Nat.lt_of_lt_of_le (Nat.lt_trans h (show 10 ^ 12 < 2 ^ 40 by decide)) (Nat.pow_le_pow_right (by decide) (by decide))
theorem neat_none : Neat .none 0 0 := ⟨rfl, Nat.le_refl _, Nat.le_refl _, rfl, rfl, rfl⟩
theorem neat_bool (b : Bool) : Neat (.bool b) 0 0 := ⟨rfl, Nat.le_refl _, Nat.le_refl _, rfl, rfl, rfl⟩
theorem neat_int {i : Int} (h : i.natAbs < 10 ^ 12) : Neat (.int i) 0 40 := by
  refine ⟨rfl, Nat.le_refl _, ?_, ?_, rfl, ?_⟩
  · show (if (i == 0) = true then 0 else i.natAbs.log2 + 1) ≤ 40
    split
    · omega
    · by_cases z : i.natAbs = 0
      · rw [z]
        decide
      · have := (Nat.log2_lt z (k := 40)).mpr (Nat.lt_trans h (by decide))
        omega
  · exact decide_eq_true (log2_lt h)
  · exact decide_eq_true (PyData.shown_int_le h)
theorem neat_all {ds : List PyData} {a b : Nat} (h : ∀ d ∈ ds, Neat d a b) : PyData.canLayAll0 ds = true ∧ PyData.depthAll ds ≤ a ∧ PyData.weightAll ds ≤ ds.length * (b + 1) ∧ PyData.showableAll ds = true ∧ PyData.hasDictAll ds = false ∧ PyData.leavesShortAll 13 ds = true := by
  induction ds with
  | nil => exact ⟨rfl, Nat.zero_le _, Nat.zero_le _, rfl, rfl, rfl⟩
  | cons d ds ih =>
    obtain ⟨i1, i2, i3, i4, i5, i6⟩ := ih fun x hx => h x (List.mem_cons_of_mem _ hx)
    have k := h d List.mem_cons_self
    refine ⟨?_, ?_, ?_, ?_, ?_, ?_⟩
    · show (d.canLay0 && PyData.canLayAll0 ds) = true
      rw [k.lay, i1]
      rfl
    · show max d.depth (PyData.depthAll ds) ≤ a
      have := k.dep
      omega
    · show d.weight + 1 + PyData.weightAll ds ≤ (ds.length + 1) * (b + 1)
      have := k.wt
      rw [Nat.add_mul]
      omega
    · show (d.showable && PyData.showableAll ds) = true
      rw [k.shw, i4]
      rfl
    · show (d.hasDict || PyData.hasDictAll ds) = false
      rw [k.nod, i5]
      rfl
    · show (d.leavesShort 13 && PyData.leavesShortAll 13 ds) = true
      rw [k.ls, i6]
      rfl
theorem neat_list {ds : List PyData} {a b : Nat} (h : ∀ d ∈ ds, Neat d a b) : Neat (.list ds) (a + 1) (ds.length * (b + 1)) := by
  obtain ⟨i1, i2, i3, i4, i5, i6⟩ := neat_all h
  exact ⟨i1, Nat.succ_le_succ i2, i3, i4, i5, i6⟩
theorem neat_tuple {ds : List PyData} {a b : Nat} (h : ∀ d ∈ ds, Neat d a b) : Neat (.tuple ds) (a + 1) (ds.length * (b + 1)) := by
  obtain ⟨i1, i2, i3, i4, i5, i6⟩ := neat_all h
  exact ⟨i1, Nat.succ_le_succ i2, i3, i4, i5, i6⟩
theorem neat_ints {ds : List Int} (h : ∀ d ∈ ds, d.natAbs < 10 ^ 12) : ∀ d ∈ ds.map PyData.int, Neat d 0 40 := fun d hd => by
  obtain ⟨i, hi, rfl⟩ := List.mem_map.mp hd
  exact neat_int (h i hi)
/-- what repr asks of a datum -/
structure RepOk (d : PyData) : Prop where
  ex : ∃ a b, Neat d a b ∧ a ≤ 64 ∧ b ≤ 2 ^ 20
theorem Neat.rep {d : PyData} {a b : Nat} (h : Neat d a b) (ha : a ≤ 64 := by decide) (hb : b ≤ 2 ^ 20 := by decide) : RepOk d := ⟨a, b, h, ha, hb⟩
def rRepr (K : PySem.W.Frag) : List V → Hp → VK → Prop := fun xs H Q => ∃ v d, xs = [v] ∧ Dp K H v d ∧ RepOk d ∧ Q (.str d.shown) H
theorem call_reprS {X : Cx} (hu : X.A.units + 200 < cLine) (hg : X.A.guards = some []) : CallR X (.builtin "repr") (rRepr X.K) := by
  rintro pins s σ H xs us Q I r ⟨v, d, rfl, hd, ⟨a, b, h, ha, hb⟩, q⟩
  refine call_reprD hu hg pins s σ H [v] us Q I r ⟨v, d, rfl, hd, h.shw, h.nod, Nat.le_trans h.dep ha, h.ls, Nat.le_trans h.wt hb, fun i e => ?_, q⟩
  have z := h.shw
  subst e
  exact of_decide_eq_true z

/-! ### == -/
theorem eqvAll_ints : ∀ (xs ys : List Int), PyData.eqvAll (xs.map PyData.int) (ys.map PyData.int) = decide (xs = ys)
  | [], [] => rfl
  | [], _ :: _ => rfl
  | _ :: _, [] => rfl
  | x :: xs, y :: ys => by
    show ((x == y) && PyData.eqvAll (xs.map PyData.int) (ys.map PyData.int)) = _
    rw [eqvAll_ints xs ys, Bool.eq_iff_iff]
    simp
theorem eqv_tuple_ints (xs ys : List Int) : PyData.eqv (.tuple (xs.map PyData.int)) (.tuple (ys.map PyData.int)) = decide (xs = ys) := eqvAll_ints xs ys
theorem eqv_list_ints (xs ys : List Int) : PyData.eqv (.list (xs.map PyData.int)) (.list (ys.map PyData.int)) = decide (xs = ys) := eqvAll_ints xs ys
theorem dps_ints {K : PySem.W.Frag} {H : Hp} : ∀ (xs : List Int), DpAll K H (xs.map V.int) (xs.map PyData.int)
  | [] => .nil
  | x :: xs => .cons (.int x) (dps_ints xs)
theorem dp_tuple_ints {K : PySem.W.Frag} {H : Hp} {a : Addr} {xs : List Int} (h : SqT K H a (xs.map V.int)) : Dp K H (.ref a) (.tuple (xs.map PyData.int)) := .tup h (dps_ints xs)
theorem dp_list_ints {K : PySem.W.Frag} {H : Hp} {a : Addr} {xs : List Int} (h : SqL K H a (xs.map V.int)) : Dp K H (.ref a) (.list (xs.map PyData.int)) := .lst h (dps_ints xs)
theorem shaped_ints_any {xs : List Int} : PyData.canLayAll0 (xs.map PyData.int) = true ∧ PyData.depthAll (xs.map PyData.int) = 0 := by
  induction xs with
  | nil => exact ⟨rfl, rfl⟩
  | cons x xs ih => exact ⟨by show (true && PyData.canLayAll0 _) = true; rw [ih.1]; rfl, by show max 0 (PyData.depthAll _) = 0; rw [ih.2]; rfl⟩
theorem shaped_tuple_ints (xs : List Int) : SeqAt.shaped (.tuple (xs.map PyData.int)) = true := by
  obtain ⟨h1, h2⟩ := shaped_ints_any (xs := xs)
  show (PyData.canLayAll0 (xs.map PyData.int) && decide (PyData.depthAll (xs.map PyData.int) + 1 ≤ 64)) = true
  rw [h1, h2]
  rfl
theorem shaped_list_ints (xs : List Int) : SeqAt.shaped (.list (xs.map PyData.int)) = true := by
  obtain ⟨h1, h2⟩ := shaped_ints_any (xs := xs)
  show (PyData.canLayAll0 (xs.map PyData.int) && decide (PyData.depthAll (xs.map PyData.int) + 1 ≤ 64)) = true
  rw [h1, h2]
  rfl

/-! ### slices -/
theorem cut_from (xs : List V) (s : Nat) : cutV xs (some (s : Int)) none = xs.drop s := by
  unfold cutV
  rw [HT.sIx_nat, HT.sIx_none]
  rcases Nat.le_total s xs.length with h | h
  · rw [Nat.min_eq_left h, List.take_of_length_le (by rw [List.length_drop]; exact Nat.le_refl _)]
  · rw [Nat.min_eq_right h, List.drop_of_length_le (Nat.le_refl _), List.drop_of_length_le h, List.take_nil]
theorem cut_to (xs : List V) (s : Nat) : cutV xs none (some (s : Int)) = xs.take s := by
  unfold cutV
  rw [HT.sIx_nat, HT.sIx_none]
  show (xs.drop 0).take (min s xs.length - 0) = xs.take s
  rw [List.drop_zero, Nat.sub_zero]
  rcases Nat.le_total s xs.length with h | h
  · rw [Nat.min_eq_left h]
  · rw [Nat.min_eq_right h, List.take_of_length_le (Nat.le_refl _), List.take_of_length_le h]
end Lx

set_option Elab.async false
set_option linter.all false
set_option maxRecDepth 100000
set_option maxHeartbeats 4000000
/-! a def called with every parameter by its name, in the reverse order -/
namespace Lx
open PySem PySem.Spec PyProof.Rows L2
def gRev (us ws : List Value) : List Value := match us with
  | [] => ws.reverse
  | _ => []
def gRevV (vs zs : List V) : List V := match vs with
  | [] => zs.reverse
  | _ => []
theorem vals_reverse : ∀ {xs : List V} {us : List Value}, Vals xs us → Vals xs.reverse us.reverse
  | _, _, .nil => .nil
  | x :: xs, u :: us, .cons r t => by
    rw [List.reverse_cons, List.reverse_cons]
    exact Vals.append (vals_reverse t) (.cons r .nil)
theorem rev_rel {vs : List V} {us : List Value} {zs : List V} {ws : List Value} (r : Vals vs us) (s : Vals zs ws) : Vals (gRevV vs zs) (gRev us ws) := by
  cases r with
  | nil => exact vals_reverse s
  | cons _ _ => exact .nil
structure HasR (P : Program) (w : World) (K : PySem.W.Frag) (mg : Str → Option Value) (base : Heap) (CX : CXT) (k : Nat) (x : Str) (ps ks : List Str) (sp : Sp) : Prop where
  ex : ∃ f fd, mg x = some (.ref f) ∧ PySem.W.keepIn K (.ref f) = true ∧ KBinds K fd ps ks gRev gRevV ∧ FnOk P w K mg base CX k f fd ps sp
theorem pe_hasR {X : Cx} {k : Nat} {x : Str} {ps ks : List Str} {sp : Sp} {p pos : Pos} {kws : List Keyword} {tk : TA} (F : HasR X.prog X.w X.K X.mg X.base (L2.CX X.prog X.w) k x ps ks sp) (hr : Room k X.A) (hg : Gl X x) (hkw : PK X kws tk)
    (hall : (backToKw pos (keywordEach kws X.env)).all (·.1.isSome) = true := by rfl) (hks : (backToKw pos (keywordEach kws X.env)).filterMap (·.1) = ks := by rfl)
    (hdb : (x == ("__debug__" : Str)) = false := by decide)
    (hpl : ((backTo pos (starEach [] X.env)).any (·.1) || (backToKw pos (keywordEach kws X.env)).any (·.1.isNone)) = false := by rfl) :
    PE X (.Call (.Name x p) [] kws pos) (tCallK sp gRevV L2.E0 tNil tk) := by
  obtain ⟨f, fd, h1, h2, h3, h4⟩ := F.ex
  exact pe_callKw0 (Lx.FnOk.callee h4 hr passL) hg h1 h2 h3 hkw hall hks hdb hpl
theorem kb2 {K : PySem.W.Frag} {fd : FuncData} {a b : Str} (h : ∀ (s : Shared) (u v : Value), K.In s.heap → BindsTo s fd ⟨[], [(b, u), (a, v)]⟩ [(a, v), (b, u)]) : KBinds K fd [a, b] [b, a] gRev gRevV where
  to := by
    rintro s us ws hK hl
    cases us with
    | cons _ _ => cases hl
    | nil =>
      match ws, hl with
      | [u, v], _ => exact h s u v hK
      | [], hl => cases hl
      | [_], hl => cases hl
      | _ :: _ :: _ :: _, hl => simp [gRev] at hl
  rel := rev_rel
theorem kb3 {K : PySem.W.Frag} {fd : FuncData} {a b c : Str} (h : ∀ (s : Shared) (u v x : Value), K.In s.heap → BindsTo s fd ⟨[], [(c, u), (b, v), (a, x)]⟩ [(a, x), (b, v), (c, u)]) : KBinds K fd [a, b, c] [c, b, a] gRev gRevV where
  to := by
    rintro s us ws hK hl
    cases us with
    | cons _ _ => cases hl
    | nil =>
      match ws, hl with
      | [u, v, x], _ => exact h s u v x hK
      | [], hl => cases hl
      | [_], hl => cases hl
      | [_, _], hl => cases hl
      | _ :: _ :: _ :: _ :: _, hl => simp [gRev] at hl
  rel := rev_rel
end Lx

set_option Elab.async false
set_option linter.all false
set_option maxRecDepth 100000
set_option maxHeartbeats 4000000
/-! lambdas that capture names: made (as a value, or handed to a def), called; with parameters -/
namespace Lx
open PySem PySem.Spec PyProof.Rows L2
abbrev lamQ (X : Cx) : Str := X.env.qual ++ "<lambda>"
/-- at f: the lambda of this text, made in X's frame, its code object at cc -/
def LamO (X : Cx) (ps : Arguments) (body : Expr) (sc : Scope) (f cc : Addr) : HO := .ext fun h => ∃ pm ctv : Value, h.get? f = some (PySem.W.kla_obj "<lambda>" (lamQ X) ps body sc (cloFrom X.env.cells sc.names []) pm cc ctv)
theorem LamO.not_tbl {X : Cx} {ps : Arguments} {body : Expr} {sc : Scope} {f cc : Addr} (z : Array Value) : LamO X ps body sc f cc ≠ .tbl z := fun e => by
  unfold LamO at e
  cases e
theorem LamX.codeO_nt {c : Addr} {q : Str} (ps : Array Value) : LamX.CodeO c q ≠ .tbl ps := LamX.codeO_ne ps
/-- a lambda's names: its parameters, captured ones, globals -/
structure LamN (sc scope : Scope) (ps : List Str) : Prop where
  kind : scope.kind = .function
  co : scope.isCoroutine = false
  gen : scope.isGenerator = false
  loc : ∀ y ∈ scope.names, y.2 = .local → y.1 ∈ ps
  nocell : ∀ y ∈ scope.names, y.2 ≠ .cell
  free : ∀ y ∈ scope.names, y.2 = .free → sc.names.lookup y.1 = some .cell ∨ sc.names.lookup y.1 = some .free
  par : ∀ p ∈ ps, scope.names.lookup p = some .local
def lamNB (sc scope : Scope) (ps : List Str) : Bool :=
  decide (scope.kind = .function) && (!scope.isCoroutine && (!scope.isGenerator && ((scope.names.all fun y => (!decide (y.2 = .local) || ps.contains y.1) && (!decide (y.2 = .cell) && (!decide (y.2 = .free) || (decide (sc.names.lookup y.1 = some .cell) || decide (sc.names.lookup y.1 = some .free))))) &&
    ps.all fun p => decide (scope.names.lookup p = some .local))))
theorem lamN_by {sc scope : Scope} {ps : List Str} (h : lamNB sc scope ps = true) : LamN sc scope ps := by
  unfold lamNB at h
  simp only [Bool.and_eq_true, Bool.or_eq_true, Bool.not_eq_true', decide_eq_true_eq, decide_eq_false_iff_not, List.all_eq_true] at h
  obtain ⟨h1, h2, h3, h4, h5⟩ := h
  refine ⟨h1, h2, h3, fun y hy e => ?_, fun y hy => (h4 y hy).2.1, fun y hy e => ?_, h5⟩
  · rcases (h4 y hy).1 with z | z
    · exact absurd e z
    · simpa using z
  · rcases (h4 y hy).2.2 with z | z | z
    · exact absurd e z
    · exact .inl z
    · exact .inr z
theorem LamN.has {X : Cx} {scope : Scope} {ps : List Str} (L : LamN X.env.scope scope ps) (ok : X.Ok) : ∀ y ∈ scope.names, y.2 = .free → ∃ c, X.env.cells.lookup y.1 = some c := fun y hy e =>
  ok.has _ (L.free y hy e)

section
variable {X : Cx} {pins : List (Addr × Obj)} {σ : L2.St} {H : Hp} {s : Shared}
/-- the lambda is made and known from now on -/
theorem lam_new {T : List (Addr × Str)} {c P : Addr} {params : Arguments} {body : Expr} {scope : Scope} {ps : List Str} {pos : Pos} {E : Value → Shared → Prop} {Q : Value → Shared → Prop} (L : LamN X.env.scope scope ps) (I : Inv X pins σ H s) (TB : LamX.TabB X.base X.mg c P) (hcode : X.env.code = .ref c)
    (hm : (P, lamQ X) ∈ T) (hu : ∀ p ∈ T, p.1 = P → p.2 = lamQ X) (hT : LamX.Tabs T H) (hdef : defaultsOf params X.env = ([], []))
    (h : ∀ (f cc : Addr) (H1 : Hp) (s' : Shared), Inv X pins σ H1 s' → LamX.ExtN H H1 → LamX.Tabs T H1 → H f = none → H1 f = some (LamO X params body scope f cc) → H1 cc = some (LamX.CodeO cc (lamQ X)) → Q (.ref f) s') :
    wpAny (model X.prog X.w) X.A (eval (.Lambda params body scope pos) X.env) Q E s := by
  obtain ⟨tb, hP, ht, ha⟩ := hT _ hm
  have bP : s.heap.BuiltinsAt X.mg P := TB.bm.keeps I.bk
  have hP' : s.heap.get? P = some { cls := .none, data := .fields tb } := I.hok P _ hP
  have clo := closure_ok (L.has I.ok)
  -- the object itself, laid upon a heap that holds the code object
  have laid : ∀ (h' : Heap) (tk : Nat) (H0 : Hp) (cc : Addr) (pm ctv : Value), Inv X pins σ H0 { s with heap := h', toks := tk } → LamX.ExtN H H0 → LamX.Tabs T H0 → H0 cc = some (LamX.CodeO cc (lamQ X)) → s.heap.objs.size ≤ h'.objs.size →
      Q (.ref h'.objs.size) { s with heap := h'.push (PySem.W.kla_obj "<lambda>" (lamQ X) params body scope (cloFrom X.env.cells scope.names []) pm cc ctv), toks := tk } := by
    intro h' tk H0 cc pm ctv I0 e0 T0 hcc hsz
    have got : (h'.push (PySem.W.kla_obj "<lambda>" (lamQ X) params body scope (cloFrom X.env.cells scope.names []) pm cc ctv)).get? h'.objs.size = some (PySem.W.kla_obj "<lambda>" (lamQ X) params body scope (cloFrom X.env.cells scope.names []) pm cc ctv) := Heap.get?_push_size _ rfl
    have nf : H0 h'.objs.size = none := I0.hok.fresh (Nat.le_refl _)
    have J := I0.laid (t' := tk) (a := h'.objs.size) (o := LamO X params body scope h'.objs.size cc) (fun b u q => Heap.get?_push_of_some _ q) (Nat.le_refl _) ⟨⟨pm, ctv, got⟩, ⟨_, got⟩, fun h1 h2 ⟨a, b, z⟩ k => ⟨a, b, k _ z⟩⟩
    have keep : ∀ b o, H0 b = some o → upd H0 h'.objs.size (LamO X params body scope h'.objs.size cc) b = some o := fun b o z => by
      rw [upd_ne (ne_of_none z nf)]
      exact z
    exact h _ cc _ _ J (e0.trans (LamX.ExtN.of keep)) (T0.ext keep) (I.hok.fresh hsz) upd_same (keep _ _ hcc)
  refine PySem.W.kla_eval hdef ?_
  cases hc : codeAmong pos tb.toList with
  | some cv =>
    obtain ⟨cc, e, hco⟩ := ha pos cv hc
    subst e
    apply PySem.W.kla_makeFunctionHit (mg := X.mg) (c := c) (P := P) (ps := tb) clo I.ok.glob (I.mod.glob.keeps I.bk) hcode (TB.code.keeps I.bk) hP' ht hc bP
    intro ctv h' tk hx hsz
    exact laid h' tk H cc _ ctv (I.kept hx) (LamX.ExtN.refl H) hT hco hsz
  | none =>
    apply PySem.W.kla_makeFunction (mg := X.mg) (c := c) (P := P) (ps := tb) clo I.ok.glob (I.mod.glob.keeps I.bk) hcode (TB.code.keeps I.bk) hP' ht hc TB.gP bP
    intro cc ctv h' tk hx hge hlt hrec htb
    obtain ⟨c2, oc, vs, t, e2, hoc, hd, hv⟩ := hrec
    cases e2
    have nC : H cc = none := I.hok.fresh hge
    have I1 := LamX.inv_table (t' := tk) (more := #[rawInt pos.line, rawInt pos.col, .ref cc]) (h' := h') (q := lamQ X) I hP (fun b o hb e => hx b o hb e) htb hge ⟨oc, vs, t, hoc, hd, hv⟩
    have e1 : LamX.ExtN H (upd (upd H P (.tbl (tb ++ #[rawInt pos.line, rawInt pos.col, .ref cc]))) cc (LamX.CodeO cc (lamQ X))) := fun b o e n => by
      have nb : b ≠ P := fun z => n tb (Option.some.inj (e.symm.trans (by rw [z]; exact hP)))
      rw [upd_ne (ne_of_none e nC), upd_ne nb]
      exact e
    have el : (tb ++ #[rawInt pos.line, rawInt pos.col, .ref cc]).toList = tb.toList ++ [rawInt pos.line, rawInt pos.col, .ref cc] := by simp
    refine laid h' tk _ cc _ ctv I1 e1 ?_ upd_same (Nat.le_trans hge (Nat.le_of_lt hlt))
    intro p hp
    by_cases hb : p.1 = P
    · rw [hu p hp hb, hb]
      refine ⟨_, by rw [upd_ne (ne_of_none hP nC), upd_same], by rw [el]; exact PySem.TriplesOk_snoc _ _ _ _ ht, fun p' cv hcv => ?_⟩
      rw [el] at hcv
      rcases LamX.among_app _ ht hcv with z | z
      · obtain ⟨c0, f1, f2⟩ := ha p' cv z
        exact ⟨c0, f1, e1 _ _ f2 LamX.codeO_ne⟩
      · exact ⟨cc, z, upd_same⟩
    · obtain ⟨ps', a1, a2, a3⟩ := hT p hp
      refine ⟨ps', by rw [upd_ne (ne_of_none a1 nC), upd_ne hb]; exact a1, a2, fun p' cv hcv => ?_⟩
      obtain ⟨c0, f1, f2⟩ := a3 p' cv hcv
      exact ⟨c0, f1, e1 _ _ f2 LamX.codeO_ne⟩
end
/-- a lambda as a value -/
def tLamV (X : Cx) (T : List (Addr × Str)) (params : Arguments) (body : Expr) (scope : Scope) : TE := fun _ H Q => LamX.Tabs T H ∧ ∀ f cc H1, LamX.ExtN H H1 → LamX.Tabs T H1 → H f = none → H1 f = some (LamO X params body scope f cc) → H1 cc = some (LamX.CodeO cc (lamQ X)) → Q (.ref f) H1
theorem pe_lamV {X : Cx} {T : List (Addr × Str)} {c P : Addr} {params : Arguments} {body : Expr} {scope : Scope} {ps : List Str} {pos : Pos} (L : LamN X.env.scope scope ps) (TB : LamX.TabB X.base X.mg c P) (hcode : X.env.code = .ref c)
    (hm : (P, lamQ X) ∈ T) (hu : ∀ p ∈ T, p.1 = P → p.2 = lamQ X) (hdef : defaultsOf params X.env = ([], [])) : PE X (.Lambda params body scope pos) (tLamV X T params body scope) := by
  constructor
  rintro pins s σ H Q I ⟨hT, q⟩
  apply lam_new L I TB hcode hm hu hT hdef
  intro f cc H1 s' I1 e1 T1 nf hf hc
  exact ⟨.ref f, H1, I1, rfl, q f cc H1 e1 T1 nf hf hc⟩
end Lx

set_option Elab.async false
set_option linter.all false
set_option maxRecDepth 100000
set_option maxHeartbeats 4000000
/-! a lambda's body runs -/
namespace Lx
open PySem PySem.Spec PyProof.Rows L2
abbrev lmEnv (X : Cx) (scope : Scope) (L f cc : Addr) : Env := PySem.W.envX (lamQ X) scope L f (.ref cc) (cloFrom X.env.cells scope.names [])
/-- the context of the body, entered at s from the frames outer: the maker's names, then the parameters -/
def lmCx (X : Cx) (ps : List Str) (A : Around) (outer : List Env) (s : Shared) (H : Hp) (E : XK) (scope : Scope) (f cc : Addr) : Cx where
  prog := X.prog
  w := X.w
  K := X.K
  mg := X.mg
  base := X.base
  A := A.deeper (lmEnv X scope s.heap.objs.size f cc)
  N := X.N ++ ps
  s_0 := s
  H_0 := H
  env := lmEnv X scope s.heap.objs.size f cc
  outer := outer
  stack := lmEnv X scope s.heap.objs.size f cc :: outer
  ex := []
  fn := fun _ => false
  calm := true
  pn := []
  xe := fun e s' => wpAny (model X.prog X.w) (A.deeper (lmEnv X scope s.heap.objs.size f cc)) (leaving (lmEnv X scope s.heap.objs.size f cc) e) (fun _ s'' => L2.CX X.prog X.w outer H s E e s'') (fun e' s'' => L2.CX X.prog X.w outer H s E e' s'') s'
/-- the maker's cells are what they were -/
def CellsOn (X : Cx) (h h' : Heap) (H' : Hp) : Prop := ∀ x c, X.env.cells.lookup x = some c → (∀ v, h.IsCell c v → h'.IsCell c v) ∧ H' c = none
theorem CellsOn.un {X : Cx} {fs : List Addr} {pins : List (Addr × Obj)} {σ : L2.St} {H H' : Hp} {s s' : Shared} (I : Inv X pins σ H s) (u : Un fs [] H H' s.heap s'.heap) : CellsOn X s.heap s'.heap H' := fun x c e => by
  obtain ⟨v, o, ho, hd⟩ := I.cell x c e
  refine ⟨fun v' ⟨o', h1, h2⟩ => ?_, u.free c o ho (I.freeC x c e) (by simp)⟩
  obtain ⟨sl, q⟩ := u.any h1 (I.freeC x c e) (by simp)
  exact ⟨_, q, h2⟩
theorem CellsOn.then {X : Cx} {fs : List Addr} {h h1 h2 : Heap} {H1 H2 : Hp} (a : CellsOn X h h1 H1) (hc : ∀ x c, X.env.cells.lookup x = some c → ∃ v, h.IsCell c v) (u : Un fs [] H1 H2 h1 h2) : CellsOn X h h2 H2 := fun x c e => by
  obtain ⟨k, n⟩ := a x c e
  obtain ⟨v, z⟩ := hc x c e
  obtain ⟨o, ho, hd⟩ := k v z
  refine ⟨fun v' y => ?_, u.free c o ho n (by simp)⟩
  obtain ⟨o', h1, h2⟩ := k v' y
  obtain ⟨sl, q⟩ := u.any h1 n (by simp)
  exact ⟨_, q, h2⟩

section
variable {X : Cx} {pins : List (Addr × Obj)} {σ : L2.St} {H HZ : Hp} {s s1 : Shared}
theorem lm_start {ps : List Str} {A : Around} {outer : List Env} {E : XK} {scope : Scope} {f cc : Addr} {h1 : Heap} {tk : Nat} {vs : List V} {us : List Value} (I : Inv X pins σ H s) (L : LamN X.env.scope scope ps) (e0 : Env0 X.prog X.w X.K X.mg X.base A outer s1 HZ) (hd : A.handled = none)
    (cl : CellsOn X s.heap s1.heap HZ) (hv : vs.length = ps.length) (hb : ∀ (j : Nat) y v, ps[j]? = some y → vs[j]? = some v → ∃ u, RelV v u ∧ (ps.zip us).reverse.lookup y = some u)
    (hns : h1.Ns s1.heap.objs.size fun y => (ps.zip us).reverse.lookup y) (kp : ∀ b o, s1.heap.get? b = some o → h1.get? b = some o) (hX : ∀ p ∈ ps, p ∉ X.N) :
    Inv (lmCx X ps A outer s1 HZ E scope f cc) [] (σ ++ vs.map some) HZ { s1 with heap := h1, toks := tk } := by
  have hfree := L.has I.ok
  -- the lambda's cells are the maker's
  have cm : ∀ {y c}, (cloFrom X.env.cells scope.names []).lookup y = some c → X.env.cells.lookup y = some c := fun {y c} e => by
    rcases cloFrom_mem (PySem.mem_of_lookup e) with hm | ⟨h1, h2⟩
    · cases hm
    · obtain ⟨c1, hc⟩ := hfree _ h1 rfl
      have hc : X.env.cells.lookup y = some c1 := hc
      rw [hc] at h2
      rw [hc, h2]
      rfl
  have there : ∀ {y}, scope.names.lookup y = some .free → ∃ c, (cloFrom X.env.cells scope.names []).lookup y = some c := fun {y} hl =>
    mem_lookup (cloFrom_has (cells := X.env.cells) (acc := []) (PySem.mem_of_lookup hl))
  have ck : ∀ {x c}, X.env.cells.lookup x = some c → ∀ {v}, s.heap.IsCell c v → h1.IsCell c v := fun {x c} e {v} z => by
    obtain ⟨o, ho, hd⟩ := (cl x c e).1 v z
    exact ⟨o, kp _ _ ho, hd⟩
  have none_ex : ∀ b : Addr, b ∉ (lmCx X ps A outer s1 HZ E scope f cc).ex := fun b z => absurd (show b ∈ ([] : List Addr) from z) (by simp)
  have okX : (lmCx X ps A outer s1 HZ E scope f cc).Ok := {
    mod := e0.mod
    kind := L.kind
    glob := rfl
    blt := rfl
    above := Nat.le_refl _
    inj := fun y z c e1 e2 => I.ok.inj y z c (cm e1) (cm e2)
    has := fun y hy => by
      rcases (show scope.names.lookup y = some .cell ∨ scope.names.lookup y = some .free from hy) with q | q
      · exact absurd rfl (L.nocell _ (PySem.mem_of_lookup q))
      · exact there q
    cab := fun y c z _ => absurd (show false = true from z) Bool.false_ne_true
    hd := fun _ => hd
    frames := Around.frames_deeper e0.frames
    stk := .inr ⟨rfl, rfl⟩
    exf := fun b z => absurd z (none_ex b)
    bs := e0.bs
    bsz := e0.bsz
    noex := fun b _ _ => none_ex b
    exfs := fun b z => absurd z (none_ex b)
    funs := e0.funs
    frf := e0.frf }
  have lenN : σ.length = X.N.length := I.len
  refine { ok := okX, os := rfl, bare := e0.bare, base := Un.kept kp, loc := ⟨_, hns, ?_⟩, cell := ?_, free := e0.hok.fresh (Nat.le_refl _), freeC := ?_, pin := ?_, hok := e0.hok.kept kp, len := ?_ }
  · intro i y v e1 e2 e3
    have e1 : (X.N ++ ps)[i]? = some y := e1
    by_cases hi : i < X.N.length
    · rw [List.getElem?_append_left hi] at e1
      rw [List.getElem?_append_left (by omega)] at e2
      have nop : y ∉ ps := fun z => hX y z (List.mem_of_getElem? e1)
      rcases (show Vis scope y from e3) with k | k | k
      · exact absurd (L.loc _ (PySem.mem_of_lookup k) rfl) nop
      · exact absurd rfl (L.nocell _ (PySem.mem_of_lookup k))
      · obtain ⟨m, hn, hl⟩ := I.loc
        have fr := L.free _ (PySem.mem_of_lookup k) rfl
        have vis : Vis X.env.scope y := fr.elim (fun k => .inr (.inl k)) (fun k => .inr (.inr k))
        obtain ⟨u, r, q⟩ := hl i y v e1 e2 vis
        obtain ⟨c2, h2⟩ := there k
        refine ⟨u, r, .inr ⟨.inr k, c2, h2, ?_⟩⟩
        rcases q with ⟨k', _⟩ | ⟨_, c3, e', z⟩
        · have k' : X.env.scope.names.lookup y = some .local := k'
          rcases fr with g | g <;> (rw [show X.env.scope.names.lookup y = _ from g] at k'; cases k')
        · rw [cm h2] at e'
          cases e'
          exact ck (cm h2) z
    · rw [List.getElem?_append_right (by omega)] at e1
      rw [List.getElem?_append_right (by omega), lenN, List.getElem?_map] at e2
      cases ev : vs[i - X.N.length]? with
      | none =>
        rw [ev] at e2
        cases e2
      | some v' =>
        rw [ev] at e2
        cases e2
        obtain ⟨u, r, q⟩ := hb _ y v e1 ev
        exact ⟨u, r, .inl ⟨L.par y (List.mem_of_getElem? e1), q⟩⟩
  · intro y c e
    obtain ⟨v, z⟩ := I.cell y c (cm e)
    exact ⟨v, ck (cm e) z⟩
  · intro y c e
    exact (cl y c (cm e)).2
  · intro p hp
    exact absurd (show p ∈ ([] : List (Addr × Obj)) ++ [] from hp) (by simp)
  · show (σ ++ vs.map some).length = (X.N ++ ps).length
    rw [List.length_append, List.length_append, List.length_map, lenN, hv]

/-- f(us), f a lambda that X's frame made; whoever calls -/
theorem lm_run {ps : List Str} {A : Around} {outer : List Env} {E : XK} {scope : Scope} {params : Arguments} {body : Expr} {f cc : Addr} {k : Nat} {vs : List V} {us : List Value} {Q : VK} (I : Inv X pins σ H s) (L : LamN X.env.scope scope ps) (e0 : Env0 X.prog X.w X.K X.mg X.base A outer s1 HZ)
    (lim : s1.heap.NoLimit) (cl : CellsOn X s.heap s1.heap HZ) (hf : HZ f = some (LamO X params body scope f cc)) (hc : HZ cc = some (LamX.CodeO cc (lamQ X))) (hr : Room (k + 1) A) (hX : ∀ p ∈ ps, p ∉ X.N) (rv : Vals vs us) (hl : vs.length = ps.length)
    (hbind : ∀ (q : Str) (clo : List (Str × Addr)) (pm cv ctv : Value), bindArgs (PySem.W.kla_fn "<lambda>" q params body scope clo pm cv ctv) ⟨us, []⟩ = pure (ps.zip us))
    (hlook : ∀ (j : Nat) y v, ps[j]? = some y → vs[j]? = some v → ∃ u, RelV v u ∧ (ps.zip us).reverse.lookup y = some u)
    (hbody : ∀ s2, Room k (A.deeper (lmEnv X scope s1.heap.objs.size f cc)) → Inv (lmCx X ps A outer s1 HZ E scope f cc) [] (σ ++ vs.map some) HZ s2 →
      wpAny (model X.prog X.w) (A.deeper (lmEnv X scope s1.heap.objs.size f cc)) (eval body (lmEnv X scope s1.heap.objs.size f cc)) (EP (lmCx X ps A outer s1 HZ E scope f cc) [] (σ ++ vs.map some) Q) (lmCx X ps A outer s1 HZ E scope f cc).xe s2) :
    codeAny (model X.prog X.w) A (.call (.ref f) ⟨us, []⟩) (CR (L2.CX X.prog X.w) outer X.prog X.w HZ s1 Q E) s1 := by
  have of : ∃ pm ctv : Value, s1.heap.get? f = some (PySem.W.kla_obj "<lambda>" (lamQ X) params body scope (cloFrom X.env.cells scope.names []) pm cc ctv) := by
    have z : ObjOk X.prog X.w HZ s1.heap f (LamO X params body scope f cc) := e0.hok f _ hf
    exact z.1
  obtain ⟨pm, ctv, ho⟩ := of
  have oc : ∃ (oc : Obj) (ws : Array Value) (t : Tok), s1.heap.get? cc = some oc ∧ oc.data = .fields ws ∧ ws[1]? = some (.str (lamQ X) t) := by
    have z : ObjOk X.prog X.w HZ s1.heap cc (LamX.CodeO cc (lamQ X)) := e0.hok cc _ hc
    exact z.1
  obtain ⟨oc, ws, t, hoc, hdc, hvc⟩ := oc
  apply PySem.W.kla_callFunE hr.depth ho rfl L.co L.gen rfl ⟨cc, oc, ws, t, rfl, hoc, hdc, hvc⟩
  rw [hbind]
  apply wpAny_pure
  apply wpAny_newFunctionEnv (fun y hy => L.nocell y hy) ?_ ?_ L.kind
  · intro y hy
    exact L.par y.1 (List.of_mem_zip hy).1
  · intro h1 hns hsb
    refine ⟨lim.fresh _ hsb, ?_⟩
    have kp : ∀ b o, s1.heap.get? b = some o → h1.get? b = some o := fun b o e => hsb.extBut b o (Nat.ne_of_lt (Heap.lt_size e)) (Heap.get?_push_of_some _ e)
    have J := lm_start (E := E) (f := f) (cc := cc) (tk := s1.toks + (ps.zip us).length) I L e0 hr.hd cl hl hlook hns kp hX
    refine PySem.W.kla_codeExpr (wpAny_mono (hbody _ (hr.deeper _) J) ?_ fun e s' q => q)
    rintro v s' ⟨w', H', J', r, q⟩
    exact ⟨w', H', J'.os, J'.bare, J'.base, J'.hok, r, q⟩
end
end Lx

set_option Elab.async false
set_option linter.all false
set_option maxRecDepth 100000
set_option maxHeartbeats 400000
/-! a lambda handed to a def that calls it first of all -/
namespace Lx
open PySem PySem.Spec PyProof.Rows L2
abbrev gCx (X : Cx) (Ng : List Str) (x : Str) (sg : Scope) (g : Addr) (cdg : Value) (s : Shared) (H : Hp) : Cx := cxOf L2.CX0 X.prog X.w X.K X.mg X.base Ng x sg g cdg X.A X.stack s H L2.E0
/-- the def calls what it got, at the heap at which it was entered; TT: what it makes of the lambda's reading -/
def GivesH (X : Cx) (Ng : List Str) (x : Str) (sg : Scope) (g : Addr) (cdg : Value) (bg : List Stmt) (a : Str) (TT : (XK → Hp → VK → Prop) → Hp → VK → Prop) : Prop :=
  ∀ (f : Addr) (s : Shared) (H : Hp) (Q : VK) (tl : XK → Hp → VK → Prop),
    (∀ (W : WX) (pn : List (Addr × Obj)) (xe : Value → Shared → Prop) (E : XK) (p1 p2 : Pos), Takes ((gCx X Ng x sg g cdg s H).tr pn xe) W → (∀ cls d σ' H', E cls d H' → W cls d σ' H') →
      PE ((gCx X Ng x sg g cdg s H).tr pn xe) (.Call (.Name a p1) [] [] p2) (fun σZ HZ Q => σZ[0]? = some (some (.ref f)) ∧ HZ = H ∧ tl E HZ Q)) →
    TT tl H Q → ∃ t, PSs (gCx X Ng x sg g cdg s H).nox bg t ∧ t { nx := fun _ H' => Q .non H', rt := Q } (L2.start Ng [.ref f]) H
def tLamG (T : List (Addr × Str)) (TT : (XK → Hp → VK → Prop) → Hp → VK → Prop) (t : XK → TE) : TE := fun σ H Q => LamX.Tabs T H ∧ ∀ H1, LamX.ExtN H H1 → LamX.Tabs T H1 → TT (fun E H' Q' => t E σ H' Q') H1 Q
/-- what is asked of the body of a lambda without parameters -/
def BodyOk (X : Cx) (k : Nat) (scope : Scope) (body : Expr) (t : XK → TE) : Prop :=
  ∀ (pins : List (Addr × Obj)) (σ : L2.St) (H0 : Hp) (s0 : Shared) (A : Around) (outer : List Env) (s1 : Shared) (H1 : Hp) (E : XK) (f cc : Addr), Inv X pins σ H0 s0 → CellsOn X s0.heap s1.heap H1 → A.guards = X.A.guards → Room k (A.deeper (lmEnv X scope s1.heap.objs.size f cc)) →
    ∀ (s2 : Shared) (Q : VK), Inv (lmCx X [] A outer s1 H1 E scope f cc) [] σ H1 s2 → t E σ H1 Q →
      wpAny (model X.prog X.w) (A.deeper (lmEnv X scope s1.heap.objs.size f cc)) (eval body (lmEnv X scope s1.heap.objs.size f cc)) (EP (lmCx X [] A outer s1 H1 E scope f cc) [] σ Q) (lmCx X [] A outer s1 H1 E scope f cc).xe s2
theorem BodyOk.of {X : Cx} {k : Nat} {scope : Scope} {body : Expr} {t : XK → TE} (h : ∀ (A : Around) (outer : List Env) (s1 : Shared) (H1 : Hp) (E : XK) (f cc : Addr), Room k (A.deeper (lmEnv X scope s1.heap.objs.size f cc)) → PE (lmCx X [] A outer s1 H1 E scope f cc) body (t E)) : BodyOk X k scope body t :=
  fun pins σ H0 s0 A outer s1 H1 E f cc I cl hg hr s2 Q J ht => (h A outer s1 H1 E f cc hr).run [] s2 σ H1 Q J ht
section
variable {X : Cx}
theorem pe_lamG {T : List (Addr × Str)} {TT : (XK → Hp → VK → Prop) → Hp → VK → Prop} {x a : Str} {g c P : Addr} {k : Nat} {st : Stmt} {fd : FuncData} {Ng : List Str} {params : Arguments} {body : Expr} {scope : Scope} {t : XK → TE} {p lpos pos : Pos}
    (hg : Gl X x) (hm : X.mg x = some (.ref g)) (F : Fun X.K x x st g fd) (hb : L2.Binds X.K fd [a] []) (Sg : FnScope Ng [a] (defScope st)) (hNg : Ng[0]? = some a) (hva : Vis (defScope st) a)
    (hG : ∀ cdg, GivesH X Ng x (defScope st) g cdg (defBody st) a TT) (TB : LamX.TabB X.base X.mg c P) (hcode : X.env.code = .ref c) (hmT : (P, lamQ X) ∈ T) (hu : ∀ p ∈ T, p.1 = P → p.2 = lamQ X) (hr : Room (k + 2) X.A) (L : LamN X.env.scope scope [])
    (hdef : defaultsOf params X.env = ([], [])) (hbind : ∀ (q : Str) (cl : List (Str × Addr)) (pm cv ctv : Value), bindArgs (PySem.W.kla_fn "<lambda>" q params body scope cl pm cv ctv) ⟨[], []⟩ = pure [])
    (hbody : BodyOk X k scope body t) (hdb : (x == ("__debug__" : Str)) = false := by decide) (hd : (a == ("__debug__" : Str)) = false := by decide) (hcd : (a == ("__classdict__" : Str)) = false := by decide) :
    PE X (.Call (.Name x p) [.Lambda params body scope lpos] [] pos) (tLamG T TT t) := by
  obtain ⟨oc, od, kV, doc, pm, an, cdv, ct, osl, rfl, lk, hcg⟩ := F.ex
  constructor
  rintro pins s σ H Q I ⟨hT, h⟩
  apply wpAny_Call_Name_kw (ld_glob I hg hm ?_ hdb)
  apply PySem.W.callWith_K (h₀ := X.base) I.ok.mod.kin F.kp ?_ (by rfl) (by rfl)
  show wpAny _ _ (spliced ((false, eval (.Lambda params body scope lpos) X.env) :: backTo pos (starEach [] X.env))) _ _ s
  apply Calls.spliced_cons (lam_new L I TB hcode hmT hu hT hdef ?_)
  intro f cc H1 s1 I1 e1 T1 nf hf hc
  apply Calls.spliced_nil
  refine ⟨I1.kIn, ?_⟩
  refine callee_end (CX := L2.CX0) (E := L2.E0) (kw := []) I1 pass0 ?_
  refine LamX.run_ofS (N := Ng) (ps := [a]) (us := [.ref f]) (vs := [.ref f]) lk hcg Sg hr I1.env0 (hb s1 [.ref f] I1.kIn rfl) (.cons rfl .nil) rfl ?_
  intro hr'
  have call : ∀ (W : WX) (pn : List (Addr × Obj)) (xe : Value → Shared → Prop) (E : XK) (p1 p2 : Pos), Takes ((gCx X Ng x (defScope st) g cdv s1 H1).tr pn xe) W → (∀ cls d σ' H', E cls d H' → W cls d σ' H') →
      PE ((gCx X Ng x (defScope st) g cdv s1 H1).tr pn xe) (.Call (.Name a p1) [] [] p2) (fun σZ HZ Q => σZ[0]? = some (some (.ref f)) ∧ HZ = H1 ∧ t E σ HZ Q) := by
    intro W pn xe E p1 p2 tk hW
    constructor
    rintro pinsZ sZ σZ HZ QZ IZ ⟨h0, rfl, ht⟩
    apply wpAny_Call_Name_kw
    refine thn ((pe_var (pos := p1) (i := 0) hNg hva hd hcd).run pinsZ sZ σZ HZ (fun v H' => v = .ref f ∧ H' = HZ) IZ ⟨.ref f, h0, rfl, rfl⟩) ?_
    rintro u s2 ⟨v, H2, I2, ru, rfl, rfl⟩
    obtain rfl : u = Value.ref f := ru
    have of : ∃ pm ctv : Value, s2.heap.get? f = some (PySem.W.kla_obj "<lambda>" (lamQ X) params body scope (cloFrom X.env.cells scope.names []) pm cc ctv) := by
      have z : ObjOk X.prog X.w H2 s2.heap f (LamO X params body scope f cc) := I2.hok f _ hf
      exact z.1
    obtain ⟨pm', ctv', of⟩ := of
    refine PySem.W.callWith_F0 ⟨_, _, _, _, of⟩ ?_
    have un : Un (frs X.stack) [] H2 H2 s1.heap s2.heap := I2.base
    have cl : CellsOn X s1.heap s2.heap H2 := CellsOn.un I1 un
    refine callee_end (CX := L2.CX X.prog X.w) (E := E) (kw := []) I2 (passes_call tk hW) ?_
    refine lm_run (X := X) (pins := pins) (σ := σ) (H := H2) (s := s1) (HZ := H2) (s1 := s2) (ps := []) (vs := []) (us := []) (E := E) (Q := QZ) (k := k) (scope := scope) (params := params) (body := body) (f := f) (cc := cc) I1 L I2.env0 I2.nolimit cl hf hc hr' (fun p hp => nomatch hp) .nil rfl (fun q clo pm cv ctv => hbind q clo pm cv ctv) (fun j y v h => by simp at h) ?_
    intro s3 hr3 J
    have eσ : σ ++ ([] : List V).map some = σ := by simp
    rw [eσ] at J ⊢
    exact hbody pins σ H2 s1 (X.A.deeper (envOfC x (defScope st) s1.heap.objs.size g cdv)) _ s2 H2 E f cc I1 cl rfl hr3 s3 QZ J ht
  obtain ⟨t', ht', hq⟩ := hG cdv f s1 H1 Q (fun E H' Q' => t E σ H' Q') call (h H1 e1 T1)
  exact ⟨t', ht'.nox, hq⟩
end
end Lx

set_option Elab.async false
set_option linter.all false
set_option maxRecDepth 100000
set_option maxHeartbeats 1000000
/-! a def that makes lambdas; what stays but the tables -/
namespace Lx
open PySem PySem.Spec PyProof.Rows L2
/-- okG for a def whose code object stands at c -/
theorem okT {P : Program} {w : World} {K : PySem.W.Frag} {mg : Str → Option Value} {base : Heap} {x qual : Str} {st : Stmt} {f c : Addr} {fd : FuncData} {N ps : List Str} {k : Nat} {sp : Sp} (F : Fun K x qual st f fd) (hcode : fd.code = .ref c) (S : FnScope N ps (defScope st)) (len : ∀ vs H Q E, sp vs H Q E → vs.length = ps.length)
    (body : ∀ (A : Around) (outer : List Env) (s : Shared) (H : Hp) (vs : List V) (Q : VK) (E : XK), Room k (A.deeper (envOfC qual (defScope st) s.heap.objs.size f (.ref c))) → A.guards = some [] → sp vs H Q E →
      ∃ t, PSs (cxOf L2.CX0 P w K mg base N qual (defScope st) f (.ref c) A outer s H E).nox (defBody st) t ∧ t { nx := fun _ H' => Q .non H', rt := Q } (start N vs) H) : FnOkG P w K mg base L2.CX0 (k + 1) f fd ps sp := by
  obtain ⟨oc, od, kV, doc, pm, an, cdv, ct, osl, rfl, lk, hcd⟩ := F.ex
  obtain rfl : cdv = .ref c := hcode
  constructor
  · exact len
  · intro A outer s H args us vs Q E hr hg e0 hb r h
    apply LamX.run_ofS lk hcd S hr e0 hb r (len vs H Q E h)
    intro hr'
    obtain ⟨t, ht, hq⟩ := body A outer s H vs Q E hr' hg h
    exact ⟨t, ht.nox, hq⟩
/-- all but the box at b and the tables stay -/
def Ext (b : Addr) (H H' : Hp) : Prop := ∀ a o, H a = some o → a ≠ b → (∀ ps, o ≠ .tbl ps) → H' a = some o
theorem Ext.refl {b : Addr} (H : Hp) : Ext b H H := fun _ _ h _ _ => h
theorem Ext.trans {b : Addr} {H H1 H2 : Hp} (x : Ext b H H1) (y : Ext b H1 H2) : Ext b H H2 := fun a o h n t => y a o (x a o h n t) n t
theorem Ext.of {b : Addr} {H H' : Hp} (e : Same H H') : Ext b H H' := fun a o h _ _ => e a o h
theorem Ext.ofN {b : Addr} {H H' : Hp} (e : LamX.ExtN H H') : Ext b H H' := fun a o h _ t => e a o h t
theorem Ext.seq {K : PySem.W.Frag} {b a : Addr} {H H' : Hp} {xs : List V} (e : Ext b H H') (n : a ≠ b) (h : SqL K H a xs) : SqL K H' a xs := by
  rcases h with (h | ⟨o, h⟩) | h
  · exact .inl (.inl (e _ _ h n fun _ z => by cases z))
  · exact .inl (.inr ⟨o, e _ _ h n fun _ z => by cases z⟩)
  · exact .inr h
theorem Ext.tup {K : PySem.W.Frag} {b a : Addr} {H H' : Hp} {xs ys : List V} (e : Ext b H H') (hb : H b = some (.lst ys)) (h : SqT K H a xs) : SqT K H' a xs := by
  have ne : ∀ {o : HO}, H a = some o → o ≠ .lst ys → a ≠ b := fun {o} h1 h2 z => by
    rw [z, hb] at h1
    exact h2 (Option.some.inj h1).symm
  rcases h with (h | ⟨o, h⟩) | h
  · exact .inl (.inl (e _ _ h (ne h fun z => by cases z) fun _ z => by cases z))
  · exact .inl (.inr ⟨o, e _ _ h (ne h fun z => by cases z) fun _ z => by cases z⟩)
  · exact .inr h
theorem tabs_but {T : List (Addr × Str)} {b : Addr} {H H' : Hp} {ys : List V} (hb : H b = some (.lst ys)) (e : ∀ a o, H a = some o → a ≠ b → H' a = some o) (h : LamX.Tabs T H) : LamX.Tabs T H' := fun p hp => by
  obtain ⟨ps, h1, h2, h3⟩ := h p hp
  have ne : ∀ {a : Addr} {o : HO}, H a = some o → o ≠ .lst ys → a ≠ b := fun {a o} h1 h2 z => by
    rw [z, hb] at h1
    exact h2 (Option.some.inj h1).symm
  refine ⟨ps, e _ _ h1 (ne h1 fun z => by cases z), h2, fun pos cv hc => ?_⟩
  obtain ⟨c, e1, e2⟩ := h3 pos cv hc
  exact ⟨c, e1, e _ _ e2 (ne e2 fun z => by unfold LamX.CodeO at z; cases z)⟩
end Lx

set_option Elab.async false
set_option linter.all false
set_option maxRecDepth 100000
set_option maxHeartbeats 1000000
/-! a lambda that a lambda calls -/
namespace Lx
open PySem PySem.Spec PyProof.Rows L2
theorem PE.mono {X : Cx} {e : Expr} {t t' : TE} (h : PE X e t) (m : ∀ σ H Q, t' σ H Q → t σ H Q) : PE X e t' := ⟨fun pins s σ H Q I q => h.run pins s σ H Q I (m σ H Q q)⟩
/-- at f a lambda of one value that X's frame made and that does what sp says -/
def WorkAt (X : Cx) (k : Nat) (f : Addr) (H : Hp) (x : Str) (sp : XK → TE) : Prop := ∃ (params : Arguments) (body : Expr) (scope : Scope) (cc : Addr), H f = some (LamO X params body scope f cc) ∧ H cc = some (LamX.CodeO cc (lamQ X)) ∧ LamN X.env.scope scope [x] ∧
  (∀ (u : Value) (q : Str) (clo : List (Str × Addr)) (pm cv ctv : Value), bindArgs (PySem.W.kla_fn "<lambda>" q params body scope clo pm cv ctv) ⟨[u], []⟩ = pure [(x, u)]) ∧
  ∀ (A : Around) (outer : List Env) (s1 : Shared) (H1 : Hp) (E : XK) (f cc : Addr), Room k (A.deeper (lmEnv X scope s1.heap.objs.size f cc)) → PE (lmCx X [x] A outer s1 H1 E scope f cc) body (sp E)
theorem BodyOk.work {X : Cx} {k i : Nat} {scope : Scope} {wn x : Str} {arg : Expr} {ta : TE} {p pos : Pos} {sp : XK → TE} (hX : x ∉ X.N) (hN : (X.N ++ [])[i]? = some wn) (hv : Vis scope wn)
    (harg : ∀ (A : Around) (outer : List Env) (s1 : Shared) (H1 : Hp) (E : XK) (f cc : Addr), PE (lmCx X [] A outer s1 H1 E scope f cc) arg ta)
    (hm : ∀ σ H Q Q', (∀ v H, Q v H → Q' v H) → ta σ H Q → ta σ H Q') (he : ∀ env : Env, starEach [arg] env = (false, eval arg env) :: starEach [] env) (hd : (wn == ("__debug__" : Str)) = false := by decide) (hcd : (wn == ("__classdict__" : Str)) = false := by decide) :
    BodyOk X (k + 1) scope (.Call (.Name wn p) [arg] [] pos) (fun E σ H Q => ∃ f1, σ[i]? = some (some (.ref f1)) ∧ WorkAt X k f1 H x sp ∧ ta σ H fun v H2 => (∀ a o, H a = some o → H2 a = some o) ∧ sp E (σ ++ [some v]) H2 Q) := by
  intro pins σ H0 s0 A outer s1 H1 E f cc I cl hg hr s2 Q J ht
  obtain ⟨f1, h1, wk, ht⟩ := ht
  have fnat : ∀ {H : Hp} {s : Shared} {σ : L2.St}, Inv (lmCx X [] A outer s1 H1 E scope f cc) [] σ H s → WorkAt X k f1 H x sp → PySem.W.FnAt f1 s.heap := fun {H s σ} Iz ⟨params, body, sc, c1, hf, _⟩ => by
    have z : ObjOk X.prog X.w H s.heap f1 (LamO X params body sc f1 c1) := Iz.hok f1 _ hf
    obtain ⟨pm, ctv, of⟩ := z.1
    exact ⟨_, _, _, _, of⟩
  apply wpAny_Call_Name_kw
  refine thn ((pe_var (X := lmCx X [] A outer s1 H1 E scope f cc) (pos := p) (i := i) hN hv hd hcd).run [] s2 σ H1 (fun v H' => v = .ref f1 ∧ H' = H1) J ⟨.ref f1, h1, rfl, rfl⟩) ?_
  rintro u s3 ⟨v, H2, I2, ru, rfl, rfl⟩
  obtain rfl : u = Value.ref f1 := ru
  have pa : PA (lmCx X [] A outer s1 H2 E scope f cc) [arg] (tCons ta tNil) := pa_cons (harg A outer s1 H2 E f cc) pa_nil (he _)
  refine PySem.W.callWith_F (fnat I2 wk) (thn (pa.run pos [] s3 σ H2 (fun xs H3 => ∃ v, xs = [v] ∧ (∀ a o, H2 a = some o → H3 a = some o) ∧ sp E (σ ++ [some v]) H3 Q) I2 ?_) ?_) (he _) (by rfl)
  · exact hm σ H2 _ _ (fun v H3 q => ⟨v, rfl, q.1, q.2⟩) ht
  · rintro us s4 ⟨vs, H3, I3, rv, v, rfl, kp, q⟩
    obtain ⟨params, body, sc, c1, hf, hc, L, hb, hbody⟩ := wk
    refine ⟨fnat I3 ⟨params, body, sc, c1, kp _ _ hf, kp _ _ hc, L, hb, hbody⟩, ?_⟩
    obtain ⟨u, rfl, rx⟩ := vals1 rv
    have cl3 : CellsOn X s0.heap s4.heap H3 := cl.then (fun y c e => I.cell y c e) (show Un (lmCx X [] A outer s1 H2 E scope f cc).fs [] H2 H3 s1.heap s4.heap from I3.base)
    have tk : Takes (lmCx X [] A outer s1 H2 E scope f cc) (fun cls d _ H => E cls d H) := takes_of rfl rfl rfl rfl
    refine callee_end (CX := L2.CX X.prog X.w) (E := E) (kw := []) I3 (passes_call tk fun _ _ _ _ z => z) ?_
    refine lm_run (X := X) (pins := pins) (σ := σ) (H := H0) (s := s0) (HZ := H3) (s1 := s4) (ps := [x]) (vs := [v]) (us := [u]) (E := E) (Q := Q) (k := k) (scope := sc) (params := params) (body := body) (f := f1) (cc := c1) I L I3.env0 I3.nolimit cl3 (kp _ _ hf) (kp _ _ hc) hr (fun p hp => by
      obtain rfl : p = x := by simpa using hp
      exact hX) (.cons rx .nil) rfl (fun q clo pm cv ctv => hb u q clo pm cv ctv) (fun j y z e1 e2 => ?_) ?_
    · cases j with
      | succ j => simp at e1
      | zero =>
        simp at e1 e2
        subst e1 e2
        exact ⟨u, rx, by simp⟩
    · intro s5 hr5 J5
      exact (hbody _ _ _ _ _ _ _ hr5).run [] s5 _ H3 Q J5 q
end Lx

set_option Elab.async false
set_option linter.all false
set_option maxRecDepth 100000
set_option maxHeartbeats 1000000
/-! the end: a law whose promise asks that no guard stands around -/
namespace Lx
open PySem PySem.Spec PyProof.Rows L2
/-- what is told apart at the call: the tables, and the script where the frag does not hold it -/
def seed (K : PySem.W.Frag) (T : List Addr) (a : Addr) (vs : List Value) (ns : List Int) : Hp := fun b =>
  if b ∈ T then some (.tbl #[]) else if b = a ∧ K.lookup a = none then some (.frz { cls := .type "list", data := .seq vs.toArray } (.lst (ns.map V.int))) else none
section
variable {P : Program} {w : World} {K : PySem.W.Frag} {T : List Addr} {a : Addr} {vs : List Value} {ns : List Int} {h : Heap}
theorem seed_tab {b : Addr} (hb : b ∈ T) : seed K T a vs ns b = some (.tbl #[]) := by
  unfold seed
  rw [if_pos hb]
theorem seed_or (b : Addr) : seed K T a vs ns b = none ∨ (b ∈ T ∧ seed K T a vs ns b = some (.tbl #[])) ∨
    (b = a ∧ K.lookup a = none ∧ seed K T a vs ns b = some (.frz { cls := .type "list", data := .seq vs.toArray } (.lst (ns.map V.int)))) := by
  by_cases h1 : b ∈ T
  · exact .inr (.inl ⟨h1, seed_tab h1⟩)
  · by_cases h2 : b = a ∧ K.lookup a = none
    · refine .inr (.inr ⟨h2.1, h2.2, ?_⟩)
      unfold seed
      rw [if_neg h1, if_pos h2]
    · left
      unfold seed
      rw [if_neg h1, if_neg h2]
/-- an object that is no list and no empty table is not told apart -/
theorem seed_none {b : Addr} {o : Obj} (hT : ∀ p ∈ T, h.get? p = some { cls := .none, data := .fields #[] }) (ha : h.get? a = some { cls := .type "list", data := .seq vs.toArray }) (e : h.get? b = some o)
    (n1 : ∀ us n, o.data ≠ .seq us n) (n2 : o.data ≠ .fields #[]) : seed K T a vs ns b = none := by
  rcases seed_or (K := K) (T := T) (a := a) (vs := vs) (ns := ns) b with q | ⟨q, _⟩ | ⟨rfl, _⟩
  · exact q
  · rw [hT b q] at e
    cases e
    exact absurd rfl n2
  · rw [ha] at e
    cases e
    exact absurd rfl (n1 _ _)
theorem seed_script (hl : (ns.map V.int).length ≤ sizeLine) (rv : Vals (ns.map V.int) vs) (KX : K.In h) (aT : a ∉ T) (ha : h.get? a = some { cls := .type "list", data := .seq vs.toArray }) : SqL K (seed K T a vs ns) a (ns.map V.int) := by
  cases q : K.lookup a with
  | none =>
    refine .inl (.inr ⟨{ cls := .type "list", data := .seq vs.toArray }, ?_⟩)
    unfold seed
    rw [if_neg aT, if_pos ⟨rfl, q⟩]
  | some o =>
    have e := (KX a o q).symm.trans ha
    cases e
    exact .inr ⟨_, vs.toArray, _, q, rfl, rfl, rfl, by rw [List.size_toArray, ← rv.length]; exact hl, by simpa using rv⟩
theorem seed_ok (hl : (ns.map V.int).length ≤ sizeLine) (rv : Vals (ns.map V.int) vs) (hT : ∀ p ∈ T, h.get? p = some { cls := .none, data := .fields #[] }) (ha : h.get? a = some { cls := .type "list", data := .seq vs.toArray }) : HOk P w (seed K T a vs ns) h := by
  intro b u e
  rcases seed_or (K := K) (T := T) (a := a) (vs := vs) (ns := ns) b with q | ⟨m, q⟩ | ⟨rfl, _, q⟩
  · rw [q] at e
    cases e
  · rw [q] at e
    cases e
    exact hT b m
  · rw [q] at e
    cases e
    exact ⟨ha, hl, vs, _, rv, ha⟩
end
/-- the facts of the head's heap that the end asks for -/
structure Ground1 (K : PySem.W.Frag) (mg mb : Str → Option Value) (cs : List (Addr × Addr)) (st : Shared) : Prop where
  kin : K.In st.heap
  glob : st.heap.Ns mainGlobals mg
  blt : st.heap.Ns builtinsNs mb
  boot : ∀ x : Str, x ≠ "__name__" → mb x = bootBuiltins x
  lim : st.heap.NoLimit
  gens : st.gens = #[]
  tabs : ∀ p ∈ cs, st.heap.get? p.2 = some { cls := .none, data := .fields #[] }
  apart : ∀ p ∈ cs, K.lookup p.2 = none
  codes : ∀ p ∈ cs, PySem.W.CodeHd st.heap p.1 p.2
  main : ∃ (bm : Addr) (ob : Obj), mg "__builtins__" = some (.ref bm) ∧ bm ≠ builtinsNs ∧ st.heap.get? bm = some ob ∧ ob.cls = .type "module" ∧ ob.dict = some builtinsNs ∧ ob.data = .plain
theorem end_run {P : Program} {w : World} {K : PySem.W.Frag} {mg mb : Str → Option Value} {k : Nat} {fa a : Addr} {cs : List (Addr × Addr)} {fd : FuncData} {x : Str} {sp : Sp} {st : Shared} {vs : List Value} {ns : List Int} (G : Ground1 K mg mb cs st)
    (ha : st.heap.get? a = some { cls := .type "list", data := .seq vs.toArray }) (hi : IntsAre vs ns) (hl : ns.length ≤ sizeLine) (hr : Room k callerA)
    (F : ∀ base : Heap, K.In base → (∀ p ∈ cs, LamX.TabB base mg p.1 p.2) → FnOkG P w K mg base L2.CX0 k fa fd [x] sp) (bind : ∀ (s : Shared) (u : Value), BindsTo s fd ⟨[u], []⟩ [(x, u)])
    (hsp : ∀ H : Hp, (∀ p ∈ cs, H p.2 = some (.tbl #[])) → SqL K H a (ns.map V.int) → sp [.ref a] H (fun v _ => v = .bl true) fun _ _ _ => False) :
    codeAny (model P w) callerA (.call (.ref fa) ⟨[.ref a], []⟩) (fun r s' => r = .ok (.ret (.bool true)) ∧ OldK st.heap s'.heap ∧ s'.os = st.os ∧ AllBare s'.gens) st := by
  have rv := vals_ints hi
  have hl' : (ns.map V.int).length ≤ sizeLine := by rw [List.length_map]; exact hl
  have inT : ∀ {p}, p ∈ cs → p.2 ∈ cs.map (·.2) := fun hp => List.mem_map.mpr ⟨_, hp, rfl⟩
  have tabs : ∀ b ∈ cs.map (·.2), st.heap.get? b = some { cls := .none, data := .fields #[] } := fun b hb => by
    obtain ⟨p, hp, rfl⟩ := List.mem_map.mp hb
    exact G.tabs p hp
  have aT : a ∉ cs.map (·.2) := fun q => by
    have e := (tabs a q).symm.trans ha
    cases e
  have none_of : ∀ {b o}, st.heap.get? b = some o → (∀ us n, o.data ≠ .seq us n) → o.data ≠ .fields #[] → seed K (cs.map (·.2)) a vs ns b = none := fun e n1 n2 => seed_none tabs ha e n1 n2
  have nsOn : ∀ {b : Addr} {m : Str → Option Value}, st.heap.Ns b m → (hidT st.heap (seed K (cs.map (·.2)) a vs ns)).Ns b m := fun ⟨o, es, ep, e, d, r⟩ =>
    ⟨o, es, ep, hidT_get e (none_of e (fun us n q => by rw [d] at q; cases q) fun q => by rw [d] at q; cases q), d, r⟩
  have kin : K.In (hidT st.heap (seed K (cs.map (·.2)) a vs ns)) := fun b o e => by
    refine hidT_get (G.kin b o e) ?_
    rcases seed_or (K := K) (T := cs.map (·.2)) (a := a) (vs := vs) (ns := ns) b with q | ⟨m, _⟩ | ⟨rfl, q, _⟩
    · exact q
    · obtain ⟨p, hp, rfl⟩ := List.mem_map.mp m
      rw [G.apart p hp] at e
      cases e
    · rw [q] at e
      cases e
  have tb : ∀ p ∈ cs, LamX.TabB (hidT st.heap (seed K (cs.map (·.2)) a vs ns)) mg p.1 p.2 := fun p hp => by
    constructor
    · obtain ⟨o, us, f1, f2, f3, f4, f5, f6, f7, g1, g2, g3, g4⟩ := G.codes p hp
      refine ⟨o, us, f1, f2, f3, f4, f5, f6, f7, hidT_get g1 (none_of g1 (fun z n q => by rw [g3] at q; cases q) fun q => ?_), g2, g3, g4⟩
      rw [g3] at q
      cases q
      have := g4.1
      simp at this
    · obtain ⟨bm, ob, m1, m2, m3, m4, m5, m6⟩ := G.main
      refine ⟨bm, ob, m1, m2, fun q => ?_, fun q => ?_, hidT_get m3 (none_of m3 (fun z n q => by rw [m6] at q; cases q) fun q => by rw [m6] at q; cases q), m4, m5, m6⟩
      · obtain ⟨o, es, ep, e, d, _⟩ := G.glob
        subst q
        rw [m3] at e
        cases e
        rw [m6] at d
        cases d
      · subst q
        rw [G.tabs p hp] at m3
        cases m3
        cases m6
    · intro q
      obtain ⟨o, es, ep, e, d, _⟩ := G.glob
      rw [q, G.tabs p hp] at e
      cases e
      cases d
  have limit : (hidT st.heap (seed K (cs.map (·.2)) a vs ns)).NoLimit := by
    obtain ⟨mc, q1, q2⟩ := G.lim
    exact ⟨mc, nsOn q1, q2⟩
  have env : Env0 P w K mg (hidT st.heap (seed K (cs.map (·.2)) a vs ns)) callerA [] st (seed K (cs.map (·.2)) a vs ns) := {
    frames := rfl
    mod := ⟨kin, nsOn G.glob, ⟨mb, nsOn G.blt, G.boot⟩, limit⟩
    bs := fun b o e => of_hidT e
    bsz := Nat.le_of_eq (hidT_size _ _)
    funs := trivial
    frf := fun b hb => absurd (show b ∈ ([] : List Addr) from hb) (by simp)
    hok := seed_ok hl' rv tabs ha
    bare := .of_eq G.gens }
  have go := (F _ kin tb).run callerA [] st _ ⟨[.ref a], []⟩ [.ref a] [.ref a] _ _ hr rfl env (bind st (.ref a)) (.cons rfl .nil) (hsp _ (fun p hp => seed_tab (inT hp)) (seed_script hl' rv G.kin aT ha))
  refine codeAny_mono go fun r s' z => ?_
  match r, z with
  | .ok (.ret u), z =>
    obtain ⟨v, H', z1, z2, un, ok', ru, rfl⟩ := z
    obtain rfl : u = Value.bool true := ru
    have grew : ∀ p ∈ cs, ∃ more : Array Value, s'.heap.get? p.2 = some { cls := .none, data := .fields more } := fun p hp => by
      obtain ⟨more, q⟩ := un.tbls p.2 #[] (seed_tab (inT hp))
      exact ⟨_, ok' p.2 _ q⟩
    have stays : ∀ b o, b ∉ cs.map (·.2) → st.heap.get? b = some o → s'.heap.get? b = some o := fun b o nb e => by
      rcases seed_or (K := K) (T := cs.map (·.2)) (a := a) (vs := vs) (ns := ns) b with q | ⟨m, _⟩ | ⟨rfl, _, q⟩
      · exact un.keep b o e q (fun m => absurd (show b ∈ ([] : List Addr) from m) (by simp)) (by simp)
      · exact absurd m nb
      · have e2 := (ok' b _ (un.frzs b _ _ q)).1
        rw [ha] at e
        cases e
        exact e2
    refine ⟨rfl, ⟨fun b o e => ?_, fun b o e => ?_⟩, z1, z2⟩
    · by_cases m : b ∈ cs.map (·.2)
      · obtain ⟨p, hp, rfl⟩ := List.mem_map.mp m
        obtain ⟨more, q⟩ := grew p hp
        have t := G.tabs p hp
        rw [t] at e
        cases e
        exact .inr (.inl ⟨((G.codes p hp).tab t).isCodeTable, rfl, #[], more, rfl, by rw [Array.empty_append]; exact q⟩)
      · exact .inl (stays b o m e)
    · by_cases m : b ∈ cs.map (·.2)
      · obtain ⟨p, hp, rfl⟩ := List.mem_map.mp m
        obtain ⟨more, q⟩ := grew p hp
        exact ⟨_, q⟩
      · exact ⟨o, stays b o m e⟩
end Lx
namespace Lx
open PySem PySem.Spec PyProof.Rows L2
/-- what is known of the law's promise at the head's heap h -/
def LawG (l : PySem.W.OpenLaw) (w : World) (K : PySem.W.Frag) (k n : Nat) (x : Str) (mg : Str → Option Value) (fa : Addr) (h : Heap) : Prop :=
  ∃ (fd : FuncData) (cs : List (Addr × Addr)) (sp : Sp), (∀ p ∈ cs, h.get? p.2 = some { cls := .none, data := .fields #[] } ∧ K.lookup p.2 = none ∧ PySem.W.CodeHd h p.1 p.2) ∧ (∀ (s : Shared) (u : Value), BindsTo s fd ⟨[u], []⟩ [(x, u)]) ∧
    (∀ (H : Hp) (a : Addr) (ns : List Int), ns.length ≤ n → (∀ p ∈ cs, H p.2 = some (.tbl #[])) → SqL K H a (ns.map V.int) → sp [.ref a] H (fun v _ => v = .bl true) fun _ _ _ => False) ∧
    ∀ base : Heap, K.In base → (∀ p ∈ cs, LamX.TabB base mg p.1 p.2) → FnOkG l.prog w K mg base L2.CX0 k fa fd [x] sp
theorem end_walk {l : PySem.W.OpenLaw} {n k : Nat} {q : Program} {loose : List Str} {XP : (Str → Option Value) → Heap → Prop} {YP : World → Heap → Prop} {d : DefRec} {K : Params → PySem.W.Frag} {x : Str} (hn : l.most = some n) (hn2 : n ≤ sizeLine) (hdf : d.params.defaults = []) (hr : Room k callerA)
    (hY : ∀ (w : World) (h : Heap), YP w h → (K w.params).In h) (F : ∀ (w : World) (mg : Str → Option Value) (fa : Addr) (h : Heap), YP w h → (K w.params).In h → h.Ns mainGlobals mg → mg d.name = some (.ref fa) → LawG l w (K w.params) k n x mg fa h) :
    PySem.W.WalkO q loose XP YP l.row.toRowW d [] (fun f vs => PySem.call f vs) := by
  refine Att.attach_callB hn hdf ?_
  intro w s0 st mg mb fa o pm cd doc a vs ns G Y ho hd hcd hmg hobj hints hlen hbits hg
  have kin := hY w _ Y
  obtain ⟨fd, cs, sp, ht, hb, hs, hF⟩ := F w mg fa _ Y kin G.T.g hmg
  exact end_run ⟨kin, G.T.g, G.T.b, G.T.builtins, G.T.nolimit, hg, fun p hp => (ht p hp).1, fun p hp => (ht p hp).2.1, fun p hp => (ht p hp).2.2, G.T.bmain⟩ hobj hints (Nat.le_trans hlen hn2) hr hF hb fun H hH hS => hs H a ns hlen hH hS
end Lx

set_option Elab.async false
set_option linter.all false
set_option maxRecDepth 100000
set_option maxHeartbeats 4000000
/-! own errors straight over KeyError, whose __init__ stores one field -/
namespace Lx
open PySem PySem.Spec PyProof.Rows L2
abbrev keTail : List Value := [.type "KeyError", .type "LookupError", .type "Exception", .type "BaseException", .type "object"]
abbrev keNew : String := "LookupError.__new__"
abbrev keObj (nm q : Str) (C N : Addr) (bs : List Value) (sn : List Str) (sub : List Value) (ab : Bool) (col : Option Bool) (dd : Option Addr) (k0 k1 k2 k3 k5 : Option Value) : Obj := excClassObj nm q C N bs keTail true sn sub ab col dd k0 k1 k2 k3 k5 keNew
theorem ke_pass (self : Value) (C : Addr) : refuseLoop self "__setattr__" (.ref C :: keTail) = pure () := by
  rw [refuseLoop_ref]
  kernel_rfl
section
variable {M : Model} {A : Around} {E : Value → Shared → Prop} {h : Heap} {g : Array GenState} {d : Drawn} {t : Nat} {os : OsState}
variable {nm q : Str} {C N : Addr} {bs : List Value} {sn : List Str} {sub : List Value} {ab : Bool} {col : Option Bool} {dd : Option Addr} {k0 k1 k2 k3 k5 : Option Value}
theorem ke_in (C : Addr) : (Value.ref C :: keTail).contains (.type "LookupError") = true := by
  rw [List.contains_cons, show keTail.contains (.type "LookupError") = true by decide +kernel, Bool.or_true]
theorem ke_noA (C : Addr) : (Value.ref C :: keTail).contains (.type "AttributeError") = false := by
  rw [List.contains_cons, show keTail.contains (.type "AttributeError") = false by decide +kernel]
  rfl
theorem ke_noN (C : Addr) : (Value.ref C :: keTail).contains (.type "NameError") = false := by
  rw [List.contains_cons, show keTail.contains (.type "NameError") = false by decide +kernel]
  rfl
theorem ke_check {us : List Value} {Q : Unit → Shared → Prop} (gC : h.get? C = some (keObj nm q C N bs sn sub ab col dd k0 k1 k2 k3 k5)) (hq : Q () ⟨h, g, d, t, os⟩) : wpAny M A (checkBuiltinCall keNew ⟨.ref C :: us, []⟩) Q E ⟨h, g, d, t, os⟩ := by
  have F := PySem.F.excBase_LookupError
  have c1 := ke_in C
  have c2 := F.noStar
  simp only [checkBuiltinCall, F.newKind, F.newSplit, F.newRow]
  repeat (first | refine wpAny_loadPart_at gC ?_ | (refine wpAny_isSubtype_exc gC ?_; rw [c1]) | refine wpAny_staticBase_exc gC ?_ | refine wpAny_madeBy_exc gC ?_ | simp only [bne_self_eq_false, Bool.false_eq_true, if_false] | wp_step)
  exact hq
end
section
variable {prog : Program} {w : World} {A : Around} {E : Value → Shared → Prop} {R : Result → Shared → Prop} {h : Heap} {g : Array GenState} {d : Drawn} {t : Nat} {os : OsState}
variable {nm q : Str} {C N fI : Addr} {bs us : List Value} {sn : List Str} {sub : List Value} {ab : Bool} {col : Option Bool} {dd : Option Addr} {k0 k1 k2 k3 k5 : Option Value}
theorem ke_new (gC : h.get? C = some (keObj nm q C N bs sn sub ab col dd k0 k1 k2 k3 k5)) (hl : us.length ≤ sizeLine)
    (hq : R (.ok (.ret (.ref (h.objs.size + 1)))) ⟨(h.push (PySem.W.kdv_tup us)).push (PySem.HandSPX.excO C h.objs.size), g, d, t, os⟩) : codeAny (model prog w) A (.builtin keNew ⟨.ref C :: us, []⟩) R ⟨h, g, d, t, os⟩ := by
  have F := PySem.F.excBase_LookupError
  have c0 := F.ends
  have c1 := ke_in C
  have c2 := ke_noA C
  have c3 := ke_noN C
  refine codeAny_builtinAt F.entry ?_
  unfold Builtin.«BaseException.__new__»
  refine PySem.wpAt_bind ?_
  show PySem.wpAt _ _ _ (stack >>= _) _ _ _
  refine PySem.wpAt_bind (PySem.wpAt_stack fun p below => PySem.wpAt_of_wpAny ?_)
  wp_walk
  refine PySem.wpAt_of_wpAny ?_
  rw [F.owner]
  repeat (first | with_reducible refine wpAny_madeHere_exc F.canon gC ?_ | with_reducible refine wpAny_loadPart_at gC ?_ | (with_reducible refine wpAny_isSubtype_exc gC ?_; first | rw [c1] | rw [c2] | rw [c3]) | wp_step)
  show R _ _
  rw [Heap.size_push]
  exact hq
theorem ke_make (gC : h.get? C = some (keObj nm q C N bs sn sub ab col dd k0 k1 k2 k3 k5)) (li : PySem.W.Looks (model prog w) h (typeLookup (.ref C) "__init__") (some (.ref fI))) (lb : ∀ self, PySem.W.Looks (model prog w) h (bindSpecial (.ref fI) self) (.ref fI, [self])) (hl : us.length ≤ sizeLine)
    (hq : codeAny (model prog w) (A.under (.builtin "type.__call__" ⟨.ref C :: us, []⟩)) (.call (.ref fI) ⟨.ref (h.objs.size + 1) :: us, []⟩) (PySem.W.InitBack (h.objs.size + 1) R) ⟨(h.push (PySem.W.kdv_tup us)).push (PySem.HandSPX.excO C h.objs.size), g, d, t, os⟩) :
    codeAny (model prog w) A (.call (.ref C) ⟨us, []⟩) R ⟨h, g, d, t, os⟩ := by
  have F := PySem.F.excBase_LookupError
  have f1 := tc_lookup
  have f2 := tc_bind (.ref C)
  have ty : (⟨h, g, d, t, os⟩ : Shared).TypeIs (.ref C) "type" := ⟨_, gC, rfl⟩
  have inner : ∀ {Q : Fin → Shared → Prop} {E : Value → Shared → Prop} {A : Around}, codeAny (model prog w) A (.call (.ref fI) ⟨.ref (h.objs.size + 1) :: us, []⟩) (fun r s' => match r with | .ok (.ret v) => v = .none ∧ Q (.done (.ret (.ref (h.objs.size + 1)))) s' | .ok _ => False | .error e => E e s') ⟨(h.push (PySem.W.kdv_tup us)).push (PySem.HandSPX.excO C h.objs.size), g, d, t, os⟩ →
      wpAny (model prog w) A (Builtin.«type.__call__» ⟨.ref C :: us, []⟩) Q E ⟨h, g, d, t, os⟩ := by
    intro Q E A hq
    repeat (first | with_reducible refine wpAny_loadPart_at gC ?_ | with_reducible refine wpAny_madeBy_exc gC ?_ | wp_step)
    refine codeAny_call_builtin_code (Code.quiet_builtin _ F.quiet) (ke_check gC ?_)
    refine ke_new gC hl ?_
    show wpAny _ _ _ _ _ _
    have kp : ∀ b o, h.get? b = some o → ((h.push (PySem.W.kdv_tup us)).push (PySem.HandSPX.excO C h.objs.size)).get? b = some o := fun b o e => Heap.get?_push_of_some _ (Heap.get?_push_of_some _ e)
    have gC1 := kp _ _ gC
    have ge : ((h.push (PySem.W.kdv_tup us)).push (PySem.HandSPX.excO C h.objs.size)).get? (h.objs.size + 1) = some (PySem.HandSPX.excO C h.objs.size) := by heap_get
    have cC : (Value.ref C :: keTail).contains (.ref C) = true := by simp
    have i1 := li.keeps kp
    have b1 := (lb (.ref (h.objs.size + 1))).keeps kp
    unfold isInstance
    repeat (first | with_reducible refine wpAny_loadPart_at ge ?_ | (with_reducible refine wpAny_isSubtype_exc gC1 ?_; rw [cC]) | wp_step)
    show wpAny _ _ (typeLookup (.ref C) _) _ _ _
    refine i1.at ?_
    refine wpAny_holding (wpAny_bind (b1.at ?_))
    refine wpAny_bind (wpAny_call (codeAny_mono hq fun r s' z => ?_))
    rcases r with e | (v | _ | _ | _) <;> first | exact z | exact z.elim | skip
    obtain ⟨rfl, z⟩ := z
    first
      | exact wpAny_pure (wpAny_pure z)
      | (wp_walk; exact z)
  refine codeAny_of_tree ?_
  show wpAny _ _ (callAny (.ref C) _) _ _ _
  repeat (any_goals (first | assumption | with_reducible refine wpAny_loadPart_at gC ?_ | wp_step))
  refine ⟨rfl, ?_⟩
  refine codeAny_call_builtin_at (Code.quiet_builtin _ (by decide +kernel)) entry_typeCall (wpAny_check_type_call_sub gC (inner ?_))
  refine codeAny_mono hq fun r s' z => ?_
  rcases r with e | (v | _ | _ | _) <;> exact z
end
end Lx

set_option Elab.async false
set_option linter.all false
set_option maxRecDepth 100000
set_option maxHeartbeats 4000000
/-! their fields stored; made; raised -/
namespace PySem.W
open PySem PySem.Spec PySem.Calls PyProof.Rows L2 Builtin Builtin.ObjectAttr
theorem ke_osa {prog : Program} {w : World} {A : Around} {R : Result → Shared → Prop} {hp : Heap} {g : Array GenState} {d : Drawn} {t : Nat} {os : OsState} {K : Frag} {name : Str} {tk : Tok} {v : Value} {x C : Addr} {fv : Array Value} {cd : ClassData}
    (X : K.In hp) (gx : hp.get? x = some { cls := .ref C, data := .fields fv }) (gcd : clsIn K C = some cd) (hm : cd.mro = .ref C :: Lx.keTail) (hh : cd.hasDict = true) (no : findIn K (.ref C) name = some none)
    (hq : ∀ h' tk' dx, (∀ b o, b ≠ x → hp.get? b = some o → h'.get? b = some o) → hp.objs.size ≤ dx → dx ≠ x → h'.get? x = some { cls := .ref C, dict := some dx, data := .fields fv } →
      h'.Ns1 dx (fun y => if y = name then some v else none) → R (.ok (.ret .none)) ⟨h', g, d, tk', os⟩) :
    codeAny (model prog w) A (.call (.builtin "object.__setattr__") ⟨[.ref x, .str name tk, v], []⟩) R ⟨hp, g, d, t, os⟩ := by
  have I : InstAt hp x { cls := .ref C, data := .fields fv } C none := ⟨gx, rfl, rfl, trivial⟩
  have SF := PySem.F.store_object
  have nx : x ≠ hp.objs.size := Nat.ne_of_lt (Heap.lt_size gx)
  have ne : cd.mro.isEmpty = false := by rw [hm]; rfl
  have ob : cd.mro.contains (.type "object") = true := by
    rw [hm, List.contains_cons, show Lx.keTail.contains (.type "object") = true by decide +kernel, Bool.or_true]
  have sub : Looks (model prog w) hp (isInstance (.ref x) (.type "object")) true := I.type.andThen (looks_mroIn X (by unfold mroIn; rw [gcd, Option.bind_some, if_neg (by rw [ne]; decide), ob]))
  refine codeAny_call_builtin SF.slot.plain SF.entry (@check_slot (model prog w) _ _ ⟨hp, g, d, t, os⟩ "object.__setattr__" "object" "__setattr__" (.ref x) [.str name tk, v] [] _ SF.kind SF.split sub (SF.args (.ref x) (.str name tk) v) ?_)
  have l1 : Looks (model prog w) hp (mroOf (.ref C)) cd.mro := (looks_clsIn X gcd).andThen .now
  have l2 : Looks (model prog w) hp (storeTaker? none) none := .now
  have l3 : Looks (model prog w) hp (classData C) cd := looks_clsIn X gcd
  rw [osa_eq, refuse_eq]
  refine wpAny_bind (wpAny_bind (I.type.at (wpAny_bind (l1.at ?_))))
  rw [hm, Lx.ke_pass]
  refine wpAny_pure (wpAny_bind (I.type.at (wpAny_bind ((looks_findIn X no).at (wpAny_bind (l2.at ?_))))))
  show wpAny _ _ (storeInOwnDict (.ref x) (.ref C) (.str name tk) name v false) _ _ _
  obtain ⟨nm, bs, mro, ns, qn, hd, sn, sb, ab, col, del⟩ := cd
  dsimp only at hh
  subst hh
  unfold storeInOwnDict ownDictForStores
  repeat (first | with_reducible refine PySem.HandSPX.store_in_new ?_ ?_ | with_reducible refine wpAny_loadPart_at gx ?_ | with_reducible refine l3.at ?_ | wp_step)
  · exact ⟨_, #[], _, (Heap.get?_update_ne _ _ _ _ nx.symm).trans (Heap.get?_push_at rfl rfl), rfl, fun e he => absurd he (by simp), fun _ => rfl⟩
  · intro h' tk' hn' hs
    have gx1 : (hp.push { cls := .type "dict", data := .dict #[] }).get? x = some { cls := .ref C, data := .fields fv } := Heap.get?_push_of_some _ gx
    refine hq h' tk' hp.objs.size (fun b o hb ho => ?_) (Nat.le_refl _) nx.symm ?_ hn'
    · exact (hs.2 b (Nat.ne_of_lt (Heap.lt_size ho))).trans ((Heap.get?_update_ne _ _ _ _ hb).trans (Heap.get?_push_of_some _ ho))
    · exact (hs.2 x nx).trans (Heap.get?_update_self _ gx1 rfl)
end PySem.W
namespace Lx
open PySem PySem.Spec PyProof.Rows L2
/-- what the written part says of a class straight over KeyError -/
structure KexC (K : PySem.W.Frag) (C : Addr) : Prop where
  cls : ∃ nm q N bs sn sub ab col dd k0 k1 k2 k3 k5, K.lookup C = some (keObj nm q C N bs sn sub ab col dd k0 k1 k2 k3 k5)
  sa : PySem.W.findIn K (.ref C) "__setattr__" = some (some (.builtin "object.__setattr__"))
  exC : PySem.W.subIn K (.ref C) (.type "BaseException") = some true
  tyC : PySem.W.typeIn K (.ref C) = some (.type "type")
  kC : PySem.W.keepIn K (.ref C) = true
section
variable {X : Cx} {pins : List (Addr × Obj)} {σ : L2.St} {H : Hp} {s : Shared} {a C : Addr} {f : Str} {y : V} {u : Value} {Q : Unit → Shared → Prop} {E : Value → Shared → Prop} {A : Around}
theorem kst_new (T : KexC X.K C) (I : Inv X pins σ H s) (e : H a = some (exo a C none)) (no : PySem.W.findIn X.K (.ref C) f = some none) (ry : RelV y u)
    (h : ∀ dx s', H dx = none → dx ≠ a → Inv X pins σ (upd (upd H dx (exd dx [(f, y)])) a (exo a C (some dx))) s' → Q () s') : wpAny (model X.prog X.w) A (setAttr (.ref a) f u) Q E s := by
  obtain ⟨nm, q, N, bs, sn, sub, ab, col, dd, k0, k1, k2, k3, k5, gC⟩ := T.cls
  have gcl : PySem.W.clsIn X.K C = some { name := nm, bases := bs, mro := .ref C :: keTail, ns := N, qualname := q, hasDict := true, slotNames := sn, subclasses := sub, abstract := ab, collection := col, hasDel := false } := by
    unfold PySem.W.clsIn
    rw [gC] <;> rfl
  obtain ⟨t1, ho⟩ := exo_at I.hok e
  obtain ⟨hp, g, d, t, os⟩ := s
  refine PySem.W.set_plain I.kIn (ox := { cls := .ref C, dict := none, data := .fields #[.ref t1, .none, .none, .none, .bool false, .none] }) (od := none) ⟨ho, rfl, rfl, trivial⟩ T.sa ?_
  refine PySem.W.ke_osa I.kIn ho gcl rfl rfl no (fun h' tk' dx k dn dne hx hn => ?_)
  have nd0 : H dx = none := I.hok.fresh dn
  have nd : ∀ {b : Addr} {o : Obj}, hp.get? b = some o → b ≠ dx := fun {b o} q => Nat.ne_of_lt (Nat.lt_of_lt_of_le (Heap.lt_size q) dn)
  have na : ∀ {b : Addr}, H b = none → b ≠ a := fun {b} n z => by
    rw [z, e] at n
    cases n
  have two : ∀ {b : Addr} {o : HO}, H b = some o → b ≠ a → upd (upd H dx (exd dx [(f, y)])) a (exo a C (some dx)) b = some o := fun {b o} q n => by
    rw [upd_ne n, upd_ne (ne_of_none q nd0)]
    exact q
  have Un1 : Un X.fs [] H (upd (upd H dx (exd dx [(f, y)])) a (exo a C (some dx))) hp h' := {
    keep := fun b o q n _ _ => k b o (na n) q
    slot := fun b o q n _ _ => ⟨o.slots, k b o (na n) q⟩
    free := fun b o q n _ => by
      rw [upd_ne (na n), upd_ne (nd q)]
      exact n
    there := fun b o q _ => by
      by_cases hb : b = a
      · exact ⟨_, hb ▸ hx⟩
      · exact ⟨o, k b o hb q⟩
    tups := fun b xs q => two q (at_ne e q exo_tup)
    frzs := fun b o v q => two q (at_ne e q exo_frz)
    tbls := fun b ps q => ⟨#[], by simp [two q (at_ne e q exo_tbl)]⟩ }
  refine h dx _ nd0 dne (I.un (t' := tk') Un1 fun b o q => ?_)
  by_cases hb : b = a
  · subst hb
    rw [upd_same] at q
    cases q
    exact exo_ok hx
  · by_cases hd : b = dx
    · subst hd
      rw [upd_ne hb, upd_same] at q
      cases q
      exact exd_ok hn (relO_put (fs := []) ry fun g => True.intro)
    · rw [upd_ne hb, upd_ne hd] at q
      refine (I.hok b o q).stay (fun c v hc z => k c v ?_ z) (fun c hc => two hc (at_ne e hc exo_own)) (fun c xs hc => two hc (at_ne e hc exo_tup))
      rcases hc with rfl | hc
      · exact hb
      · exact at_ne e hc exo_own
end
/-- self.f = e, the first field -/
def tKst (K : PySem.W.Frag) (f : Str) (to te : TE) : TS := fun D σ H => te σ H fun y H1 => to σ H1 fun x H2 => ∃ a C : Addr, x = .ref a ∧ KexC K C ∧ PySem.W.findIn K (.ref C) f = some none ∧
  H2 a = some (exo a C none) ∧ ∀ dx, H2 dx = none → dx ≠ a → D.nx σ (upd (upd H2 dx (exd dx [(f, y)])) a (exo a C (some dx)))
theorem ps_kst {X : Cx} {o e : Expr} {to te : TE} {f : Str} {p' pos : Pos} (ho : PE X o to) (he : PE X e te) (hs : swapsWith e (some (.Attribute o f p')) pos.line X.env = pure false := by rfl) : PS X (.Assign [.Attribute o f p'] e pos) (tKst X.K f to te) := by
  constructor
  intro pins s σ H D I h
  refine plainObj_wpAny_Assign_Attribute (thn (he.run pins s σ H _ I h) fun v s1 ⟨y, H1, I1, r1, q1⟩ => thn (ho.run pins s1 σ H1 _ I1 q1) fun u s2 ⟨x, H2, I2, r2, a, C, ex, T, no, ea, q⟩ => ?_) hs
  subst ex
  obtain rfl : u = Value.ref a := r2
  exact kst_new T I2 ea no r1 fun dx s' n ne J => ⟨σ, _, J, q dx n ne⟩
/-- C(e, ..), C's own __init__ keeping sp -/
theorem pmk_kex {X : Cx} {CX : CXT} {x : Str} {C fI : Addr} {k : Nat} {fd : FuncData} {ps : List Str} {sp : Sp} {e : Expr} {es : List Expr} {ta : TA} {p pos : Pos} (T : KexC X.K C) (iC : PySem.W.findIn X.K (.ref C) "__init__" = some (some (.ref fI))) (tI : PySem.W.typeIn X.K (.ref fI) = some (.type "function"))
    (F1 : FnOk X.prog X.w X.K X.mg X.base CX k fI fd ps sp) (hr : Room (k + 1) X.A) (hb : Binds X.K fd ps []) (hx : Passes CX X (fun _ _ _ => False)) (hg : Gl X x) (hm : X.mg x = some (.ref C)) (ha : PA X (e :: es) ta)
    (hdb : (x == ("__debug__" : Str)) = false := by decide) (he : starEach (e :: es) X.env = (false, eval e X.env) :: starEach es X.env := by rfl) (hpl : (backTo pos (starEach es X.env)).any (·.1) = false := by rfl) :
    PMk X (.Call (.Name x p) (e :: es) [] pos) (tMkO C sp [] ta) := by
  intro pins s σ H Q I h
  obtain ⟨nm, q, N, bs, sn, sub, ab, col, dd, k0, k1, k2, k3, k5, gC⟩ := T.cls
  refine wpAny_Call_Name_kw (ld_glob I hg hm ?_ hdb)
  refine PySem.W.callWith_K (h₀ := X.base) I.ok.mod.kin T.kC (thn (ha.run pos pins s σ H _ I h) fun us s1 ⟨vs, H1, I1, r1, hz, q1⟩ => ⟨I1.kIn, ?_⟩) he hpl
  show wpAny _ _ (call (.ref C) us) _ _ _
  obtain ⟨hp, g, dr, tk, os⟩ := s1
  have sz : hp.objs.size ≤ hp.objs.size + 1 := Nat.le_succ _
  have q2 := q1 (hp.objs.size + 1) (I1.hok.fresh sz)
  have kk : ∀ b o, hp.get? b = some o → ((hp.push (PySem.W.kdv_tup us)).push (PySem.HandSPX.excO C hp.objs.size)).get? b = some o := fun b o e => Heap.get?_push_of_some _ (Heap.get?_push_of_some _ e)
  have ge : ((hp.push (PySem.W.kdv_tup us)).push (PySem.HandSPX.excO C hp.objs.size)).get? (hp.objs.size + 1) = some (PySem.HandSPX.excO C hp.objs.size) := by heap_get
  have I2 : Inv X pins σ (upd H1 (hp.objs.size + 1) (exo (hp.objs.size + 1) C none)) ⟨(hp.push (PySem.W.kdv_tup us)).push (PySem.HandSPX.excO C hp.objs.size), g, dr, tk, os⟩ :=
    I1.laid (t' := tk) (a := hp.objs.size + 1) (o := exo (hp.objs.size + 1) C none) (h' := (hp.push (PySem.W.kdv_tup us)).push (PySem.HandSPX.excO C hp.objs.size)) kk sz (exo_ok ge)
  rw [List.append_nil] at q2
  have r2 : Vals (V.ref (hp.objs.size + 1) :: vs) (Value.ref (hp.objs.size + 1) :: us) := .cons rfl r1
  have hl : (Value.ref (hp.objs.size + 1) :: us).length = ps.length := by
    have e := r2.length
    rw [F1.len _ _ _ _ q2] at e
    exact e.symm
  have hus : us.length ≤ sizeLine := by
    rw [← Paired.length r1, sizeLine_eq]
    omega
  refine wpAny_call (ke_make (I1.kIn _ _ gC) (PySem.W.looks_findIn I1.kIn iC) (fun self => PySem.W.bind_fn I1.kIn self tI) hus
    (codeAny_mono (F1.run _ X.stack _ _ ⟨Value.ref (hp.objs.size + 1) :: us, []⟩ (Value.ref (hp.objs.size + 1) :: us) _ _ (fun _ _ _ => False) (hr.make C us []) (I2.env0.make C us []) (by simpa using hb _ (Value.ref (hp.objs.size + 1) :: us) I2.kIn (by simpa using hl)) r2 q2) fun r s' z => ?_))
  rcases r with er | (_ | _ | _ | u)
  · exact hx pins σ _ _ er s' I2 z
  · exact False.elim z
  · exact False.elim z
  · exact False.elim z
  · obtain ⟨v, H2, os2, bare2, un2, hok2, rv, ev, d, fs, ea, ed, hd1, q3⟩ := z
    subst ev
    obtain ⟨h2, g2, d2, t2, os'⟩ := s'
    exact ⟨rv, mk_end (raises_own T.exC T.tyC) I1 sz kk un2 hok2 os2 bare2 ea ed hd1 q3⟩
/-- the class x over KeyError, at C -/
structure ErrQ (P : Program) (w : World) (K : PySem.W.Frag) (mg : Str → Option Value) (base : Heap) (x fld : Str) (C : Addr) : Prop where
  T : KexC K C
  xf : XfC K C
  ec : ExcC K C
  no : PySem.W.findIn K (.ref C) fld = some none
  gC : mg x = some (.ref C)
  ini : ∃ fI fd k ps, PySem.W.findIn K (.ref C) "__init__" = some (some (.ref fI)) ∧ PySem.W.typeIn K (.ref fI) = some (.type "function") ∧ k ≤ 1 ∧ FnOk P w K mg base L2.CX0 k fI fd ps (errSp C fld) ∧ Binds K fd ps []
theorem ps_raiseQ {X : Cx} {C : Addr} {x fld : Str} {e : Expr} {te : TE} {W : WX} {p pos pos2 : Pos} (hc : X.calm = true) (Er : ErrQ X.prog X.w X.K X.mg X.base x fld C) (hr : Room 2 X.A) (tk : Takes X W) (he : PE X e te) (hg : Gl X x := by rfl)
    (hdb : (x == ("__debug__" : Str)) = false := by decide) (h1 : starEach [e] X.env = (false, eval e X.env) :: starEach [] X.env := by rfl) (h2 : (backTo pos (starEach [] X.env)).any (·.1) = false := by rfl) :
    PS X (.Raise (some (.Call (.Name x p) [e] [] pos)) none pos2) (tErr C fld W te) := by
  obtain ⟨fI, fd, k, ps, i1, i2, hk, F1, hb⟩ := Er.ini
  exact ps_raise (pos := pos2) hc tk (pmk_kex (p := p) Er.T i1 i2 F1 (hr.mono (by omega)) hb pass0 hg Er.gC (pa_cons he pa_nil h1) hdb h1 h2)
theorem ok_keInit {P : Program} {w : World} {K : PySem.W.Frag} {mg : Str → Option Value} {base : Heap} {qual fld : Str} {C f : Addr} {fd : FuncData} {st : Stmt} {p1 p2 p3 p4 : Pos} (T : KexC K C) (no : PySem.W.findIn K (.ref C) fld = some none)
    (F : Fun K "__init__" qual st f fd) (S : FnScope ["self", fld] ["self", fld] (defScope st)) (hB : defBody st = [.Assign [.Attribute (.Name "self" p1) fld p2] (.Name fld p3) p4]) (hd : (fld == ("__debug__" : Str)) = false) (hcd : (fld == ("__classdict__" : Str)) = false)
    (v1 : Vis (defScope st) "self") (v2 : Vis (defScope st) fld) (hsw : ∀ X : Cx, swapsWith (.Name fld p3) (some (.Attribute (.Name "self" p1) fld p2)) p4.line X.env = pure false) : FnOk P w K mg base L2.CX0 1 f fd ["self", fld] (errSp C fld) := by
  apply F.ok S
  · rintro vs H Q E ⟨a, v, rfl, _⟩
    rfl
  · rintro cdv A outer s H vs Q E hr ⟨a, v, rfl, ha, h⟩
    rw [hB]
    refine ⟨_, pss_one (ps_kst (pe_var (i := 0) rfl v1) (pe_var (i := 1) rfl v2 hd hcd) (hsw _)), ?_⟩
    exact ⟨v, rfl, .ref a, rfl, a, C, rfl, T, no, ha, h⟩
end Lx

set_option Elab.async false
set_option linter.all false
set_option maxRecDepth 100000
set_option maxHeartbeats 4000000
/-! functions handed on: made in one frame, called from another; defs with defaults; a display of one pair -/
namespace Lx
open PySem PySem.Spec PyProof.Rows L2 NdefX

theorem cells_later {cl : List (Str × Addr)} {fr : List Str} {ws : List (Option V)} {fs : List Addr} {h h' : Heap} {H H' : Hp} (C : CellsAt cl fr ws h H) (u : Un fs [] H H' h h') : CellsAt cl fr ws h' H' := by
  have cell : ∀ {c v}, H c = none → h.IsCell c v → h'.IsCell c v := fun {c v} n ⟨o, ho, hd⟩ => by
    obtain ⟨sl, q⟩ := u.any ho n (by simp)
    exact ⟨_, q, hd⟩
  refine ⟨C.len, fun y c e => ?_, C.inj, fun i y e => ?_⟩
  · obtain ⟨n, v, z⟩ := C.all y c e
    obtain ⟨o, ho, _⟩ := id z
    exact ⟨u.free c o ho n (by simp), v, cell n z⟩
  · obtain ⟨c, hc, hv⟩ := C.has i y e
    refine ⟨c, hc, fun v ev => ?_⟩
    obtain ⟨r, h1, h2⟩ := hv v ev
    exact ⟨r, h1, cell (C.all y c hc).1 h2⟩
/-- the function at f may be called at any heap that comes of (s0, H0) -/
structure Clo (P : Program) (w : World) (K : PySem.W.Frag) (mg : Str → Option Value) (base : Heap) (CX : CXT) (k : Nat) (f : Addr) (s0 : Shared) (H0 : Hp) (sp : Sp) : Prop where
  run : ∀ (A : Around) (outer : List Env) (s : Shared) (H : Hp) (us : List Value) (vs : List V) (Q : VK) (E : XK) (fs : List Addr), Room k A → Env0 P w K mg base A outer s H → Un fs [] H0 H s0.heap s.heap → Same H0 H → Vals vs us → sp vs H Q E →
    codeAny (model P w) A (.call (.ref f) ⟨us, []⟩) (CR CX outer P w H s Q E) s
  fn : ∀ (s : Shared) (H : Hp), HOk P w H s.heap → Same H0 H → PySem.W.FnAt f s.heap
section
variable {P : Program} {w : World} {K : PySem.W.Frag} {mg : Str → Option Value} {base : Heap} {CX : CXT}
theorem clo_nested {k : Nat} {f : Addr} {F : NF} {ps fr : List Str} {sp : List (Option V) → Sp} {ws : List (Option V)} {s0 : Shared} {H0 : Hp} (N : NOk P w K mg base CX k f F ps fr sp) (hf : H0 f = some (FnO f F)) (hc : H0 F.c = some (LamX.CodeO F.c F.qual)) (C : CellsAt F.cl fr ws s0.heap H0) :
    Clo P w K mg base CX k f s0 H0 (sp ws) := by
  constructor
  · intro A outer s H us vs Q E fs hr e0 u sm rv h
    exact N.run A outer s H us vs ws Q E hr e0 (sm _ _ hf) (sm _ _ hc) (cells_later C u) rv h
  · intro s H ok sm
    obtain ⟨od, sl, doc, pm, ctv, ho⟩ := fnO_at ok (sm _ _ hf)
    exact ⟨_, od, _, sl, ho⟩
theorem Clo.imp {k : Nat} {f : Addr} {s0 : Shared} {H0 : Hp} {sp sp' : Sp} (c : Clo P w K mg base CX k f s0 H0 sp) (h : ∀ vs H Q E, Same H0 H → sp' vs H Q E → sp vs H Q E) : Clo P w K mg base CX k f s0 H0 sp' :=
  ⟨fun A outer s H us vs Q E fs hr e0 u sm rv q => c.run A outer s H us vs Q E fs hr e0 u sm rv (h _ _ _ _ sm q), c.fn⟩
/-- a def whose promise speaks of the state at which it is called -/
structure FnOkS (P : Program) (w : World) (K : PySem.W.Frag) (mg : Str → Option Value) (base : Heap) (CX : CXT) (k : Nat) (f : Addr) (fd : FuncData) (ps : List Str) (sp : Shared → Sp) : Prop where
  len : ∀ s vs H Q E, sp s vs H Q E → vs.length = ps.length
  run : ∀ (A : Around) (outer : List Env) (s : Shared) (H : Hp) (args : Args) (us : List Value) (vs : List V) (Q : VK) (E : XK), Room k A → Env0 P w K mg base A outer s H → BindsTo s fd args (ps.zip us) → Vals vs us → sp s vs H Q E →
    codeAny (model P w) A (.call (.ref f) args) (CR CX outer P w H s Q E) s
theorem okS {x qual : Str} {params : Arguments} {body : List Stmt} {scope : Scope} {dvs : List V} {kws : List (Str × V)} {f : Addr} {fd : FuncData} {N ps : List Str} {k : Nat} {sp : Shared → Sp} (F : FunD K x qual params body scope dvs kws f fd) (S : FnScope N ps scope) (len : ∀ s vs H Q E, sp s vs H Q E → vs.length = ps.length)
    (hbody : ∀ (cdv : Value) (A : Around) (outer : List Env) (s : Shared) (H : Hp) (vs : List V) (Q : VK) (E : XK), Room k (A.deeper (envOfC qual scope s.heap.objs.size f cdv)) → sp s vs H Q E →
      ∃ t, PSs (cxOf L2.CX0 P w K mg base N qual scope f cdv A outer s H E).nox body t ∧ t { nx := fun _ H' => Q .non H', rt := Q } (start N vs) H) : FnOkS P w K mg base L2.CX0 (k + 1) f fd ps sp := by
  obtain ⟨oc, od, dV, kV, doc, pm, an, cdv, ct, osl, rfl, lk, hcd, _, _⟩ := F.ex
  constructor
  · exact len
  · intro A outer s H args us vs Q E hr e0 hb r h
    apply LamX.run_ofS lk hcd S hr e0 hb r (len s vs H Q E h)
    intro hr'
    obtain ⟨t, ht, hq⟩ := hbody cdv A outer s H vs Q E hr' h
    exact ⟨t, ht.nox, hq⟩
end
/-- the def x with defaults dvs, the last ones of which a call may leave out -/
structure HasS (P : Program) (w : World) (K : PySem.W.Frag) (mg : Str → Option Value) (base : Heap) (CX : CXT) (k : Nat) (x : Str) (ps : List Str) (dvs : List V) (sp : Shared → Sp) : Prop where
  ex : ∃ f fd ds, mg x = some (.ref f) ∧ PySem.W.keepIn K (.ref f) = true ∧ Vals dvs ds ∧ Binds K fd ps ds ∧ FnOkS P w K mg base CX k f fd ps sp
structure HasD (P : Program) (w : World) (K : PySem.W.Frag) (mg : Str → Option Value) (base : Heap) (CX : CXT) (k : Nat) (x : Str) (ps : List Str) (dvs : List V) (sp : Sp) : Prop where
  ex : ∃ f fd ds, mg x = some (.ref f) ∧ PySem.W.keepIn K (.ref f) = true ∧ Vals dvs ds ∧ Binds K fd ps ds ∧ FnOk P w K mg base CX k f fd ps sp
def tCallS (X : Cx) (sp : Shared → Sp) (dvs : List V) (E : XK) (t : TA) : TE := fun σ H Q => t σ H fun vs H1 => ∀ pins s, Inv X pins σ H1 s → sp s (vs ++ dvs) H1 Q E
section
variable {X : Cx} {k : Nat} {x : Str} {ps : List Str} {dvs : List V} {e : Expr} {es : List Expr} {p pos : Pos} {t : TA}
theorem pe_hasD {sp : Sp} {CX : CXT} {E : XK} (F : HasD X.prog X.w X.K X.mg X.base CX k x ps dvs sp) (hr : Room k X.A) (hx : Passes CX X E) (hg : Gl X x) (ha : PA X (e :: es) t)
    (hdb : (x == ("__debug__" : Str)) = false := by decide) (he : starEach (e :: es) X.env = (false, eval e X.env) :: starEach es X.env := by rfl) (hpl : (backTo pos (starEach es X.env)).any (·.1) = false := by rfl) :
    PE X (.Call (.Name x p) (e :: es) [] pos) (tCall sp dvs E t) := by
  obtain ⟨f, fd, ds, h1, h2, h3, h4, h5⟩ := F.ex
  exact pe_call h5 hr hg h1 h2 h4 h3 hx ha hdb he hpl
theorem pe_hasS {sp : Shared → Sp} {CX : CXT} {E : XK} (F : HasS X.prog X.w X.K X.mg X.base CX k x ps dvs sp) (hr : Room k X.A) (hx : Passes CX X E) (hg : Gl X x) (ha : PA X (e :: es) t)
    (hdb : (x == ("__debug__" : Str)) = false := by decide) (he : starEach (e :: es) X.env = (false, eval e X.env) :: starEach es X.env := by rfl) (hpl : (backTo pos (starEach es X.env)).any (·.1) = false := by rfl) :
    PE X (.Call (.Name x p) (e :: es) [] pos) (tCallS X sp dvs E t) := by
  obtain ⟨f, fd, ds, h1, h2, h3, h4, h5⟩ := F.ex
  constructor
  intro pins s σ H Q I h
  apply wpAny_Call_Name_kw (ld_glob I hg h1 ?_ hdb)
  refine PySem.W.callWith_K (h₀ := X.base) I.ok.mod.kin h2 (thn (ha.run pos pins s σ H _ I h) fun us s1 ⟨vs, H1, I1, r, q⟩ => ⟨I1.kIn, ?_⟩) he hpl
  have q := q pins s1 I1
  have r2 : Vals (vs ++ dvs) (us ++ ds) := r.append h3
  have hl : (us ++ ds).length = ps.length := by rw [← r2.length]; exact h5.len _ _ _ _ _ q
  exact callee_end (kw := []) I1 hx (h5.run X.A X.stack s1 H1 ⟨us, []⟩ (us ++ ds) (vs ++ dvs) Q E hr I1.env0 (h4 s1 us I1.kIn hl) r2 q)
/-- g(e, ..), g a name of this frame that was handed a function -/
def tClo (X : Cx) (CX : CXT) (k i : Nat) (E : XK) (t : TA) : TE := fun σ H Q => ∃ f sp, σ[i]? = some (some (.ref f)) ∧ Clo X.prog X.w X.K X.mg X.base CX k f X.s_0 X.H_0 sp ∧ Same X.H_0 H ∧ t σ H fun vs H1 => Same X.H_0 H1 ∧ sp vs H1 Q E
theorem pe_clo {CX : CXT} {i j : Nat} {E : XK} (hex : X.ex = []) (hr : Room j X.A) (hk : k ≤ j) (hx : Passes CX X E) (hN : X.N[i]? = some x) (hv : Vis X.env.scope x) (ha : PA X (e :: es) t)
    (hd : (x == ("__debug__" : Str)) = false := by decide) (hcd : (x == ("__classdict__" : Str)) = false := by decide)
    (he : starEach (e :: es) X.env = (false, eval e X.env) :: starEach es X.env := by rfl) (hpl : (backTo pos (starEach es X.env)).any (·.1) = false := by rfl) :
    PE X (.Call (.Name x p) (e :: es) [] pos) (tClo X CX k i E t) := by
  constructor
  rintro pins s σ H Q I ⟨f, sp, hs, C, sm, ht⟩
  apply wpAny_Call_Name_kw
  refine thn ((pe_var (pos := p) hN hv hd hcd).run pins s σ H (fun v H1 => v = .ref f ∧ H1 = H) I ⟨.ref f, hs, rfl, rfl⟩) ?_
  rintro u s1 ⟨v, H1, I1, r1, rfl, rfl⟩
  obtain rfl : u = Value.ref f := r1
  refine PySem.W.callWith_F (first := []) (C.fn s1 _ I1.hok sm) (thn (ha.run pos pins s1 σ _ _ I1 ht) fun us s2 ⟨vs, H2, I2, r, sm2, q⟩ => ⟨C.fn s2 _ I2.hok sm2, ?_⟩) he hpl
  have u2 : Un X.fs [] X.H_0 H2 X.s_0.heap s2.heap := by
    have z := I2.base
    rw [hex] at z
    exact z
  exact callee_end (kw := []) I2 hx (C.run X.A X.stack s2 H2 us vs Q E X.fs (hr.mono hk) I2.env0 u2 sm2 r q)
end

/-! ### {k: v} -/
/-- k a tuple of ints and texts -/
def tDisp1T (tk tv : TE) : TE := fun σ H Q => ∀ p, H p = none → tk σ (upd H p (.dT [])) fun x H1 => tv σ H1 fun y H2 => ∃ kk b, x = .ref b ∧ H2 b = some (.tup (kk.map kV)) ∧ H2 p = some (.dT []) ∧ Q (.ref p) (upd H2 p (.dT [(kk, y)]))
theorem pe_disp1T {X : Cx} {k v : Expr} {tk tv : TE} {pos : Pos} (hu : X.A.units + 1 < cLine) (hk : PE X k tk) (hv : PE X v tv) : PE X (.Dict [some k] [v] pos) (tDisp1T tk tv) := by
  constructor
  intro pins s σ H Q I h
  have nn := I.hok.fresh (Nat.le_refl s.heap.objs.size)
  have I1 := I.laid (a := s.heap.objs.size) (o := .dT []) (h' := s.heap.push { cls := .type "dict", data := .dict #[] }) (t' := s.toks) (fun _ _ q => Heap.get?_push_of_some _ q) (Nat.le_refl _) (dt_empty s.heap I.big)
  rw [arm_eval_Dict, zip_pairTrees [some k] [v] X.env pos rfl rfl, dictDisplay_pairs _ (by simp [pairTrees]) (by simp [pairTrees])]
  refine wpAny_bind (wpAny_standAt (wpAny_bind (wpAny_subDictH (knd := tupleKind (mixKind X.prog X.w)) (s := s) (pairs := pairTrees [some k] [v] X.env pos) (show X.A.units < cLine by omega) (by simp [pairTrees]) ?_)))
  refine pairTrees_cons_walk (thn (hk.run pins _ σ _ _ I1 (h _ nn)) fun u s1 ⟨x, H1, J1, rx, q1⟩ => thn (hv.run pins s1 σ H1 _ J1 q1) fun w2 s2 ⟨y, H2, J2, ry, kk, b, ex, hb, hp, q⟩ => pairTrees_nil_walk ?_)
  subst ex
  cases (show u = Value.ref b from rx)
  obtain ⟨z, hd, xs, rel, dd⟩ := dt_of J2.hok hp
  cases rel
  refine ⟨[(kk, b, w2)], ⟨rfl, rfl, key_of J2.hok hb, trivial⟩, dd, fun h' tk dd' hs => wpAny_pure ⟨.ref s.heap.objs.size, upd H2 s.heap.objs.size (.dT [(kk, y)]), ?_, rfl, q⟩⟩
  obtain ⟨o, es, ep, ho, h2, h3, h4, _, h5⟩ := dd'
  refine d_write J2 (by rw [hp]; exact True.intro) hs ⟨o, ho⟩ ⟨by show 1 ≤ sizeLine; decide, hd, [(kk, b, w2)], .cons ⟨rfl, ?_, ry⟩ .nil, o, es, ep, ho, h2, h3, h4, h5⟩
  rw [upd_ne (ne_of hb hp (fun z => nomatch z))]
  exact hb
end Lx

set_option Elab.async false
set_option linter.all false
/-! walks as plain functions: by thing the first row that leads to it -/
namespace Wk
section
variable {κ : Type} [DecidableEq κ]
abbrev Got (κ : Type) := List (κ × List Int)
def has (W : Got κ) (k : κ) : Bool := W.any fun e => decide (e.1 = k)
def rowOf (W : Got κ) (k : κ) : List Int := ((W.find? fun e => decide (e.1 = k)).map (·.2)).getD []
def put1 (row : List Int) (i : Nat) (o : Option κ) (s : Got κ × List κ) : Got κ × List κ := match o with
  | none => s
  | some t => if has s.1 t then s else (s.1 ++ [(t, row ++ [(i : Int)])], s.2 ++ [t])
def put (row : List Int) : List (Option κ) → Nat → Got κ × List κ → Got κ × List κ
  | [], _, s => s
  | o :: r, i, s => put row r (i + 1) (put1 row i o s)
theorem put_snoc (row : List Int) (o : Option κ) : ∀ (l : List (Option κ)) (i : Nat) (s : Got κ × List κ), put row (l ++ [o]) i s = put1 row (i + l.length) o (put row l i s)
  | [], i, s => rfl
  | p :: l, i, s => by
    show put row (l ++ [o]) (i + 1) (put1 row i p s) = _
    rw [put_snoc row o l (i + 1), List.length_cons, Nat.add_right_comm, Nat.add_assoc]
    rfl
theorem put_take (row : List Int) {l : List (Option κ)} {i : Nat} {o : Option κ} (h : l[i]? = some o) (s : Got κ × List κ) : put row (l.take (i + 1)) 0 s = put1 row i o (put row (l.take i) 0 s) := by
  have lt := (List.getElem?_eq_some_iff.mp h).1
  rw [List.take_add_one, h]
  show put row (l.take i ++ [o]) 0 s = _
  rw [put_snoc, List.length_take, Nat.min_eq_left (Nat.le_of_lt lt), Nat.zero_add]
def layer (nxt : κ → List (Option κ)) (L : List κ) (s : Got κ × List κ) : Got κ × List κ := L.foldl (fun s t => put (rowOf s.1 t) (nxt t) 0 s) s
theorem layer_take (nxt : κ → List (Option κ)) {L : List κ} {i : Nat} {t : κ} (h : L[i]? = some t) (s : Got κ × List κ) : layer nxt (L.take (i + 1)) s = put (rowOf (layer nxt (L.take i) s).1 t) (nxt t) 0 (layer nxt (L.take i) s) := by
  unfold layer
  rw [List.take_add_one, h, List.foldl_append]
  rfl
def turn (nxt : κ → List (Option κ)) (s : Got κ × List κ) : Got κ × List κ := layer nxt s.2 (s.1, [])
def turns (nxt : κ → List (Option κ)) : Nat → Got κ × List κ → Got κ × List κ
  | 0, s => s
  | n + 1, s => turn nxt (turns nxt n s)
def keys (W : Got κ) : List κ := W.map (·.1)
theorem has_iff {W : Got κ} {k : κ} : has W k = true ↔ k ∈ keys W := by
  unfold has keys
  rw [List.any_eq_true, List.mem_map]
  constructor
  · rintro ⟨e, h1, h2⟩
    exact ⟨e, h1, of_decide_eq_true h2⟩
  · rintro ⟨e, h1, h2⟩
    exact ⟨e, h1, decide_eq_true h2⟩

/-! ### what holds all along -/
/-- s0 ahead, s behind: what was told stays, what is fresh is new -/
structure Grew (U : κ → Prop) (s0 s : Got κ × List κ) : Prop where
  nd : (keys s.1).Nodup
  sub : ∀ k ∈ keys s.1, U k
  old : ∃ more, s.1 = s0.1 ++ more ∧ s.2 = s0.2 ++ keys more
theorem Grew.refl {U : κ → Prop} {s : Got κ × List κ} (h1 : (keys s.1).Nodup) (h2 : ∀ k ∈ keys s.1, U k) : Grew U s s := ⟨h1, h2, [], by simp, by simp [keys]⟩
theorem Grew.trans {U : κ → Prop} {s0 s1 s2 : Got κ × List κ} (a : Grew U s0 s1) (b : Grew U s1 s2) : Grew U s0 s2 := by
  obtain ⟨m1, e1, e2⟩ := a.old
  obtain ⟨m2, e3, e4⟩ := b.old
  exact ⟨b.nd, b.sub, m1 ++ m2, by rw [e3, e1, List.append_assoc], by rw [e4, e2, List.append_assoc]; simp [keys]⟩
theorem Grew.put1 {U : κ → Prop} {s0 s : Got κ × List κ} (g : Grew U s0 s) (row : List Int) (i : Nat) (o : Option κ) (h : ∀ t, o = some t → U t) : Grew U s0 (put1 row i o s) := by
  cases o with
  | none => exact g
  | some t =>
    unfold Wk.put1
    by_cases c : has s.1 t = true
    · simp only [c, if_true]
      exact g
    · simp only [c]
      have nt : t ∉ keys s.1 := fun z => c (has_iff.mpr z)
      obtain ⟨m, e1, e2⟩ := g.old
      refine ⟨?_, ?_, m ++ [(t, row ++ [(i : Int)])], ?_, ?_⟩
      · show (keys (s.1 ++ [(t, row ++ [(i : Int)])])).Nodup
        unfold keys
        rw [List.map_append, List.nodup_append]
        refine ⟨g.nd, by simp, ?_⟩
        intro a ha b hb
        simp at hb
        subst hb
        rintro rfl
        exact nt ha
      · intro k hk
        have hk : k ∈ keys (s.1 ++ [(t, row ++ [(i : Int)])]) := hk
        unfold keys at hk
        rw [List.map_append, List.mem_append] at hk
        rcases hk with hk | hk
        · exact g.sub k hk
        · simp at hk
          subst hk
          exact h _ rfl
      · show s.1 ++ [(t, row ++ [(i : Int)])] = _
        rw [e1, List.append_assoc]
      · show s.2 ++ [t] = _
        rw [e2]
        simp [keys]
theorem Grew.put {U : κ → Prop} {s0 : Got κ × List κ} (row : List Int) : ∀ (l : List (Option κ)) (i : Nat) (s : Got κ × List κ), Grew U s0 s → (∀ t, some t ∈ l → U t) → Grew U s0 (put row l i s)
  | [], _, _, g, _ => g
  | o :: r, i, s, g, h => Grew.put row r (i + 1) _ (g.put1 row i o fun t e => h t (by rw [e]; exact List.mem_cons_self)) fun t ht => h t (List.mem_cons_of_mem _ ht)
theorem Grew.layer {U : κ → Prop} {s0 : Got κ × List κ} {nxt : κ → List (Option κ)} (hU : ∀ k, U k → ∀ t, some t ∈ nxt k → U t) : ∀ (L : List κ) (s : Got κ × List κ), (∀ t ∈ L, U t) → Grew U s0 s → Grew U s0 (layer nxt L s)
  | [], _, _, g => g
  | t :: L, s, h, g => Grew.layer hU L _ (fun u hu => h u (List.mem_cons_of_mem _ hu)) (Grew.put _ _ 0 s g fun u hu => hU t (h t List.mem_cons_self) u hu)
theorem grew_len {U : List κ} {s0 s : Got κ × List κ} (g : Grew (· ∈ U) s0 s) : s.1.length ≤ U.length := by
  have z : (keys s.1).length ≤ U.length := List.Nodup.length_le_of_subset g.nd g.sub
  unfold keys at z
  rwa [List.length_map] at z
/-! ### nothing is left out -/
theorem put1_mono {row : List Int} {i : Nat} {o : Option κ} {s : Got κ × List κ} {k : κ} (h : k ∈ keys s.1) : k ∈ keys (put1 row i o s).1 := by
  unfold put1
  split
  · exact h
  · split
    · exact h
    · unfold keys at h ⊢
      rw [List.map_append]
      exact List.mem_append_left _ h
theorem put_mono {row : List Int} {k : κ} : ∀ {l : List (Option κ)} {i : Nat} {s : Got κ × List κ}, k ∈ keys s.1 → k ∈ keys (put row l i s).1
  | [], _, _, h => h
  | o :: l, i, s, h => put_mono (l := l) (i := i + 1) (s := put1 row i o s) (put1_mono h)
theorem put1_in {row : List Int} {i : Nat} {t : κ} {s : Got κ × List κ} : t ∈ keys (put1 row i (some t) s).1 := by
  unfold put1
  by_cases c : has s.1 t = true
  · simp only [c, if_true]
    exact has_iff.mp c
  · simp only [c]
    show t ∈ keys (s.1 ++ [(t, row ++ [(i : Int)])])
    unfold keys
    rw [List.map_append]
    exact List.mem_append_right _ (by simp)
theorem put_in {row : List Int} {t : κ} : ∀ {l : List (Option κ)} {i : Nat} {s : Got κ × List κ}, some t ∈ l → t ∈ keys (put row l i s).1
  | o :: l, i, s, h => by
    rcases List.mem_cons.mp h with e | h
    · subst e
      exact put_mono (l := l) (i := i + 1) (s := put1 row i (some t) s) put1_in
    · exact put_in (l := l) (i := i + 1) (s := put1 row i o s) h
theorem layer_mono {nxt : κ → List (Option κ)} {k : κ} : ∀ {L : List κ} {s : Got κ × List κ}, k ∈ keys s.1 → k ∈ keys (layer nxt L s).1
  | [], _, h => h
  | u :: L, s, h => layer_mono (L := L) (s := put (rowOf s.1 u) (nxt u) 0 s) (put_mono h)
theorem layer_in {nxt : κ → List (Option κ)} {k t : κ} (ht : some t ∈ nxt k) : ∀ {L : List κ} {s : Got κ × List κ}, k ∈ L → t ∈ keys (layer nxt L s).1
  | u :: L, s, h => by
    rcases List.mem_cons.mp h with e | h
    · subst e
      exact layer_mono (L := L) (s := put (rowOf s.1 k) (nxt k) 0 s) (put_in ht)
    · exact layer_in ht (L := L) (s := put (rowOf s.1 u) (nxt u) 0 s) h
/-- rows lead from the first thing to this one -/
inductive Comes (nxt : κ → List (Option κ)) (a : κ) : κ → Prop
  | here : Comes nxt a a
  | step {k t : κ} : Comes nxt a k → some t ∈ nxt k → Comes nxt a t
/-- behind some turns -/
structure Walked (nxt : κ → List (Option κ)) (a : κ) (U : List κ) (s : Got κ × List κ) : Prop where
  nd : (keys s.1).Nodup
  sub : ∀ k ∈ keys s.1, k ∈ U
  come : ∀ k ∈ keys s.1, Comes nxt a k
  fst : ∃ more, s.1 = (a, []) :: more
  lay : ∀ k ∈ s.2, k ∈ keys s.1
  shut : ∀ k ∈ keys s.1, k ∉ s.2 → ∀ t, some t ∈ nxt k → t ∈ keys s.1
theorem Walked.start {nxt : κ → List (Option κ)} {a : κ} {U : List κ} (h : a ∈ U) : Walked nxt a U ([(a, [])], [a]) := by
  refine ⟨by simp [keys], fun k hk => ?_, fun k hk => ?_, ⟨[], rfl⟩, fun k hk => by simpa [keys] using hk, fun k hk n => absurd (by simpa [keys] using hk) n⟩
  · have e : k = a := by simpa [keys] using hk
    subst e
    exact h
  · have e : k = a := by simpa [keys] using hk
    subst e
    exact .here
theorem Walked.turn {nxt : κ → List (Option κ)} {a : κ} {U : List κ} {s : Got κ × List κ} (hU : ∀ k, k ∈ U → ∀ t, some t ∈ nxt k → t ∈ U) (w : Walked nxt a U s) : Walked nxt a U (turn nxt s) ∧ ((turn nxt s).2 = [] ∨ s.1.length < (turn nxt s).1.length) := by
  have g0 : ∀ {P : κ → Prop}, (∀ k ∈ keys s.1, P k) → Grew P ((s.1, []) : Got κ × List κ) (s.1, []) := fun {P} h => ⟨w.nd, h, [], by simp, by simp [keys]⟩
  have g1 := Grew.layer (nxt := nxt) (U := (· ∈ U)) hU s.2 (s.1, []) (fun t ht => w.sub t (w.lay t ht)) (g0 w.sub)
  have g2 := Grew.layer (nxt := nxt) (U := Comes nxt a) (fun k hk t ht => .step hk ht) s.2 (s.1, []) (fun t ht => w.come t (w.lay t ht)) (g0 w.come)
  obtain ⟨m, e1, e2⟩ := g1.old
  have e1 : (Wk.turn nxt s).1 = s.1 ++ m := e1
  have e2 : (Wk.turn nxt s).2 = keys m := by
    rw [List.nil_append] at e2
    exact e2
  have ek : keys (Wk.turn nxt s).1 = keys s.1 ++ keys m := by rw [e1]; simp [keys]
  refine ⟨⟨g1.nd, g1.sub, g2.sub, ?_, fun k hk => ?_, fun k hk n t ht => ?_⟩, ?_⟩
  · obtain ⟨more, e⟩ := w.fst
    exact ⟨more ++ m, by rw [e1, e]; rfl⟩
  · rw [ek]
    rw [e2] at hk
    exact List.mem_append_right _ hk
  · rw [ek, List.mem_append] at hk
    rw [e2] at n
    rcases hk with hk | hk
    · by_cases c : k ∈ s.2
      · exact layer_in ht c
      · exact layer_mono (w.shut k hk c t ht)
    · exact absurd hk n
  · cases m with
    | nil => exact .inl e2
    | cons x m =>
      right
      rw [e1, List.length_append, List.length_cons]
      omega
theorem Walked.len {nxt : κ → List (Option κ)} {a : κ} {U : List κ} {s : Got κ × List κ} (w : Walked nxt a U s) : s.1.length ≤ U.length := by
  have z : (keys s.1).length ≤ U.length := List.Nodup.length_le_of_subset w.nd w.sub
  unfold keys at z
  rwa [List.length_map] at z
/-- at the end: just what comes -/
theorem Walked.all {nxt : κ → List (Option κ)} {a : κ} {U : List κ} {s : Got κ × List κ} (w : Walked nxt a U s) (h : s.2 = []) (k : κ) : k ∈ keys s.1 ↔ Comes nxt a k := by
  refine ⟨w.come k, fun c => ?_⟩
  induction c with
  | here =>
    obtain ⟨more, e⟩ := w.fst
    rw [e]
    simp [keys]
  | step _ ht ih => exact w.shut _ ih (by rw [h]; simp) _ ht
/-- what holds within a layer -/
theorem layer_len {nxt : κ → List (Option κ)} {a : κ} {U : List κ} {s : Got κ × List κ} (hU : ∀ k, k ∈ U → ∀ t, some t ∈ nxt k → t ∈ U) (w : Walked nxt a U s) (i : Nat) : Grew (· ∈ U) (s.1, []) (layer nxt (s.2.take i) (s.1, [])) :=
  Grew.layer (nxt := nxt) (U := (· ∈ U)) hU _ _ (fun t ht => w.sub t (w.lay t (List.mem_of_mem_take ht))) ⟨w.nd, w.sub, [], by simp, by simp [keys]⟩
theorem put_len {nxt : κ → List (Option κ)} {U : List κ} {s0 s : Got κ × List κ} {row : List Int} (hU : ∀ k, k ∈ U → ∀ t, some t ∈ nxt k → t ∈ U) (g : Grew (· ∈ U) s0 s) {t : κ} (ht : t ∈ U) (i : Nat) : Grew (· ∈ U) s0 (put row ((nxt t).take i) 0 s) :=
  Grew.put row _ 0 s g fun u hu => hU t ht u (List.mem_of_mem_take hu)
/-- no row is longer than things stand ahead of it -/
def Short (s : Got κ × List κ) : Prop := 0 < s.1.length ∧ ∀ e ∈ s.1, e.2.length < s.1.length
theorem Short.rowOf {s : Got κ × List κ} (h : Short s) (k : κ) : (rowOf s.1 k).length < s.1.length := by
  unfold Wk.rowOf
  cases e : s.1.find? fun e => decide (e.1 = k) with
  | none => exact h.1
  | some p => exact h.2 p (List.mem_of_find?_eq_some e)
theorem Short.put1 {row : List Int} {i : Nat} {o : Option κ} {s : Got κ × List κ} (h : Short s) (hr : row.length < s.1.length) : Short (put1 row i o s) ∧ row.length < (put1 row i o s).1.length := by
  unfold Wk.put1
  split
  · exact ⟨h, hr⟩
  · rename_i t
    by_cases c : has s.1 t = true
    · simp only [c, if_true]
      exact ⟨h, hr⟩
    · simp only [c]
      refine ⟨⟨by simp, fun e he => ?_⟩, ?_⟩
      · have he : e ∈ s.1 ++ [(t, row ++ [(i : Int)])] := he
        show e.2.length < (s.1 ++ [(t, row ++ [(i : Int)])]).length
        rw [List.length_append, List.length_singleton]
        rcases List.mem_append.mp he with z | z
        · have := h.2 e z
          omega
        · have z : e = (t, row ++ [(i : Int)]) := by simpa using z
          subst z
          rw [List.length_append, List.length_singleton]
          omega
      · show row.length < (s.1 ++ [(t, row ++ [(i : Int)])]).length
        rw [List.length_append]
        omega
theorem Short.put {row : List Int} : ∀ {l : List (Option κ)} {i : Nat} {s : Got κ × List κ}, Short s → row.length < s.1.length → Short (Wk.put row l i s) ∧ row.length < (Wk.put row l i s).1.length
  | [], _, _, h, hr => ⟨h, hr⟩
  | o :: l, i, s, h, hr => Short.put (l := l) (i := i + 1) (s := Wk.put1 row i o s) (h.put1 hr).1 (h.put1 hr).2
theorem Short.layer {nxt : κ → List (Option κ)} : ∀ {L : List κ} {s : Got κ × List κ}, Short s → Short (Wk.layer nxt L s)
  | [], _, h => h
  | u :: L, s, h => Short.layer (L := L) (s := Wk.put (Wk.rowOf s.1 u) (nxt u) 0 s) (Short.put h (h.rowOf u)).1
end
end Wk

set_option Elab.async false
set_option linter.all false
set_option maxRecDepth 100000
set_option maxHeartbeats 4000000
/-! dicts of rows by thing, the things being ints or tuples -/
namespace Lx
open PySem PySem.Spec PyProof.Rows L2 Wk
/-- all but the tables of code objects stays, nothing that was tracked is gone -/
structure ExtB (H H' : Hp) : Prop where
  ext : LamX.ExtN H H'
  back : ∀ b, H' b = none → H b = none
theorem ExtB.of {H H' : Hp} (e : Same H H') : ExtB H H' := ⟨LamX.ExtN.of e, fun b n => e.free n⟩
theorem ExtB.refl (H : Hp) : ExtB H H := .of (Same.refl H)
theorem ExtB.trans {H H1 H2 : Hp} (a : ExtB H H1) (b : ExtB H1 H2) : ExtB H H2 := ⟨a.ext.trans b.ext, fun c n => a.back c (b.back c n)⟩
/-- how things stand as values, and a dict by them -/
structure KeyRep (κ : Type) [DecidableEq κ] where
  is : Hp → V → κ → Prop
  dict : List (κ × V) → HO
  same : ∀ {H H' : Hp} {v : V} {k : κ}, Same H H' → is H v k → is H' v k
  some_ : ∀ {H : Hp} {v : V} {k : κ}, is H v k → v ≠ .non
  wr : ∀ kvs, Mut (some (dict kvs))
  get : ∀ {H : Hp} {a : Addr} {v : V} {k : κ} {kvs : List (κ × V)}, H a = some (dict kvs) → is H v k → DGet H a v (valV kvs k)
  put : ∀ {H : Hp} {a : Addr} {v y : V} {k : κ} {kvs : List (κ × V)}, H a = some (dict kvs) → is H v k → kvs.length < sizeLine → DPut H a v y (upd H a (dict (putK kvs k y)))
  stay : ∀ {H : Hp} {a : Addr} {v : V} {k : κ} {kvs : List (κ × V)} {o : HO}, H a = some (dict kvs) → is H v k → is (upd H a o) v k
  stayL : ∀ {H : Hp} {a : Addr} {v : V} {k : κ} {xs : List V} {o : HO}, H a = some (.lst xs) → is H v k → is (upd H a o) v k
  noTup : ∀ kvs xs, dict kvs ≠ .tup xs
  noLst : ∀ kvs xs, dict kvs ≠ .lst xs
  noFrz : ∀ kvs o u, dict kvs ≠ .frz o u
/-- tuples of ints and texts -/
def repT : KeyRep (List Key) where
  is := fun H v k => ∃ b, v = .ref b ∧ H b = some (.tup (k.map kV))
  dict := .dT
  same := fun e ⟨b, h1, h2⟩ => ⟨b, h1, e _ _ h2⟩
  some_ := fun ⟨b, h1, _⟩ z => by rw [h1] at z; cases z
  wr := fun _ => True.intro
  get := fun e ⟨b, h1, h2⟩ => by subst h1; exact .t e h2
  put := fun e ⟨b, h1, h2⟩ hl => by subst h1; exact .t e h2 hl
  stay := fun e ⟨b, h1, h2⟩ => ⟨b, h1, by rw [upd_ne (ne_of h2 e (fun z => by cases z))]; exact h2⟩
  stayL := fun e ⟨b, h1, h2⟩ => ⟨b, h1, by rw [upd_ne (ne_of h2 e (fun z => by cases z))]; exact h2⟩
  noTup := fun _ _ z => by cases z
  noLst := fun _ _ z => by cases z
  noFrz := fun _ _ _ z => by cases z
/-- ints and texts -/
def repI : KeyRep Key where
  is := fun _ v k => v = kV k
  dict := .dK
  same := fun _ h => h
  some_ := fun {_ v k} h z => by cases k <;> (rw [h] at z; cases z)
  wr := fun _ => True.intro
  get := fun e h => by rw [h]; exact .k e
  put := fun e h hl => by rw [h]; exact .k e hl
  stay := fun _ h => h
  stayL := fun _ h => h
  noTup := fun _ _ z => by cases z
  noLst := fun _ _ z => by cases z
  noFrz := fun _ _ _ z => by cases z
section
variable {κ : Type} [DecidableEq κ] {K : PySem.W.Frag}
abbrev RepW (K : PySem.W.Frag) (H : Hp) (kvs : List (κ × V)) (W : Got κ) : Prop := Paired (fun (p : κ × V) (e : κ × List Int) => p.1 = e.1 ∧ ∃ r, p.2 = .ref r ∧ SqT K H r (e.2.map V.int)) kvs W
theorem repW_imp {H H' : Hp} : ∀ {kvs : List (κ × V)} {W : Got κ}, RepW K H kvs W → (∀ r xs, SqT K H r xs → SqT K H' r xs) → RepW K H' kvs W
  | _, _, .nil, _ => .nil
  | _, _, .cons ⟨h1, r, h2, h3⟩ t, f => .cons ⟨h1, r, h2, f _ _ h3⟩ (repW_imp t f)
theorem repW_len {H : Hp} : ∀ {kvs : List (κ × V)} {W : Got κ}, RepW K H kvs W → kvs.length = W.length
  | _, _, .nil => rfl
  | _, _, .cons _ t => by rw [List.length_cons, List.length_cons, repW_len t]
theorem repW_get {H : Hp} {k : κ} : ∀ {kvs : List (κ × V)} {W : Got κ}, RepW K H kvs W → has W k = true → ∃ r, valV kvs k = some (.ref r) ∧ SqT K H r ((rowOf W k).map V.int)
  | _, _, .nil, h => by cases h
  | p :: kvs, e :: W, .cons ⟨h1, r, h2, h3⟩ t, h => by
    by_cases c : e.1 = k
    · refine ⟨r, by rw [valV_pos (h1.trans c), h2], ?_⟩
      have z : rowOf (e :: W) k = e.2 := by simp [rowOf, c]
      rw [z]
      exact h3
    · have h' : has W k = true := by simpa [has, c] using h
      obtain ⟨r', g1, g2⟩ := repW_get t h'
      refine ⟨r', by rw [valV_neg (fun z => c (h1.symm.trans z))]; exact g1, ?_⟩
      have z : rowOf (e :: W) k = rowOf W k := by simp [rowOf, c]
      rw [z]
      exact g2
theorem repW_no {H : Hp} {k : κ} : ∀ {kvs : List (κ × V)} {W : Got κ}, RepW K H kvs W → has W k = false → valV kvs k = none
  | _, _, .nil, _ => rfl
  | p :: kvs, e :: W, .cons ⟨h1, r, h2, h3⟩ t, h => by
    have c : ¬ e.1 = k := fun z => by simp [has, z] at h
    have h' : has W k = false := by simpa [has, c] using h
    rw [valV_neg (fun z => c (h1.symm.trans z))]
    exact repW_no t h'
theorem repW_some {H : Hp} {k : κ} {kvs : List (κ × V)} {W : Got κ} (h : RepW K H kvs W) : (valV kvs k).isSome = has W k := by
  cases c : has W k with
  | true =>
    obtain ⟨r, g, _⟩ := repW_get h c
    rw [g]
    rfl
  | false =>
    rw [repW_no h c]
    rfl
theorem repW_snoc {H : Hp} {k : κ} {r : Addr} {row : List Int} (hr : SqT K H r (row.map V.int)) : ∀ {kvs : List (κ × V)} {W : Got κ}, RepW K H kvs W → RepW K H (kvs ++ [(k, .ref r)]) (W ++ [(k, row)])
  | _, _, .nil => .cons ⟨rfl, r, rfl, hr⟩ .nil
  | _, _, .cons h t => .cons h (repW_snoc hr t)
/-- at d the dict of W -/
def GotAt (R : KeyRep κ) (K : PySem.W.Frag) (H : Hp) (d : Addr) (W : Got κ) : Prop := ∃ kvs, H d = some (R.dict kvs) ∧ RepW K H kvs W
theorem GotAt.same {R : KeyRep κ} {H H' : Hp} {d : Addr} {W : Got κ} (g : GotAt R K H d W) (e : Same H H') : GotAt R K H' d W := by
  obtain ⟨kvs, h1, h2⟩ := g
  exact ⟨kvs, e _ _ h1, repW_imp h2 fun r xs z => sameT e z⟩
theorem upd_tup {H : Hp} {a r : Addr} {o u : HO} {xs : List V} (h : H a = some u) (n1 : ∀ ys, u ≠ .tup ys) (n2 : ∀ o' ys, u ≠ .frz o' (.tup ys)) (g : SqT K H r xs) : SqT K (upd H a o) r xs := by
  rcases g with (z | ⟨ob, z⟩) | z
  · exact .inl (.inl (by rw [upd_ne (ne_of z h (fun e => n1 _ e.symm))]; exact z))
  · exact .inl (.inr ⟨ob, by rw [upd_ne (ne_of z h (fun e => n2 _ _ e.symm))]; exact z⟩)
  · exact .inr z
/-- a dict made by a comprehension: Pv by the turn and the heap (the new dict at D within) -/
theorem dc_it {J : It} {n : Nat} {G : Hp → Prop} {Y : Nat → Hp → V → Hp → Prop} (w : Walk J n G Y) {g : TG} {tt : TT} {tk tv : TE} {vs : List Nat} {σ : L2.St} {H1 : Hp} {D : Addr} {Qd : Hp → Prop} (Pv : Nat → Hp → Prop) (h0 : Pv 0 (upd H1 D (.dK []))) (hG : ∀ i H, i ≤ n → Pv i H → G H)
    (turn : ∀ i x H H', i < n → Pv i H → Y i H x H' → g x (wipe σ vs) H' fun σ2 H2 => wipe σ2 vs = wipe σ vs ∧ tt σ2 H2 fun b H3 =>
      if b = true then tk σ2 H3 fun y H4 => tv σ2 H4 fun z H5 => ∃ kvs k, y = kV k ∧ H5 D = some (.dK kvs) ∧ kvs.length < sizeLine ∧ Pv (i + 1) (upd H5 D (.dK (putK kvs k z))) else Pv (i + 1) H3) (fin : ∀ H, Pv n H → Qd H) :
    ∃ W : Nat → Nat → Hp → Prop, (∃ m, W 0 m (upd H1 D (.dK []))) ∧ ∀ i m H, W i m H → (J.stop i H ∧ Qd H) ∨ (J.go i H ∧ ∃ Nx : Hp → Prop, (∀ H', Nx H' → ∃ m', m' < m ∧ W (i + 1) m' H') ∧ ∀ x H', J.yld i H x H' → g x (wipe σ vs) H' fun σ2 H2 => wipe σ2 vs = wipe σ vs ∧ tt σ2 H2 fun b H3 =>
      if b = true then tk σ2 H3 fun y H4 => tv σ2 H4 fun z H5 => ∃ kvs k, y = kV k ∧ H5 D = some (.dK kvs) ∧ kvs.length < sizeLine ∧ Nx (upd H5 D (.dK (putK kvs k z))) else Nx H3) := by
  refine ⟨fun i m H => m + i = n ∧ Pv i H, ⟨n, rfl, h0⟩, ?_⟩
  rintro i m H ⟨em, p⟩
  have gH := hG i H (by omega) p
  rcases Nat.lt_or_ge i n with lt | ge
  · exact .inr ⟨w.goes i H lt gH, Pv (i + 1), fun H' p' => ⟨n - (i + 1), by omega, by omega, p'⟩, fun x H' y => turn i x H H' lt p (w.yields i H x H' lt gH y)⟩
  · obtain rfl : i = n := by omega
    exact .inl ⟨w.stops H gH, fin H p⟩
/-- a list of things -/
abbrev Things (R : KeyRep κ) (H : Hp) (vs : List V) (L : List κ) : Prop := Paired (fun v k => R.is H v k) vs L
theorem things_imp {R : KeyRep κ} {H H' : Hp} : ∀ {vs : List V} {L : List κ}, Things R H vs L → (∀ v k, R.is H v k → R.is H' v k) → Things R H' vs L
  | _, _, .nil, _ => .nil
  | _, _, .cons h t, f => .cons (f _ _ h) (things_imp t f)
theorem things_snoc {R : KeyRep κ} {H : Hp} {v : V} {k : κ} (h : R.is H v k) : ∀ {vs : List V} {L : List κ}, Things R H vs L → Things R H (vs ++ [v]) (L ++ [k])
  | _, _, .nil => .cons h .nil
  | _, _, .cons g t => .cons g (things_snoc h t)
theorem things_len {R : KeyRep κ} {H : Hp} : ∀ {vs : List V} {L : List κ}, Things R H vs L → vs.length = L.length
  | _, _, .nil => rfl
  | _, _, .cons _ t => by rw [List.length_cons, List.length_cons, things_len t]
theorem things_get {R : KeyRep κ} {H : Hp} : ∀ {vs : List V} {L : List κ} {i : Nat} {v : V}, Things R H vs L → vs[i]? = some v → ∃ k, L[i]? = some k ∧ R.is H v k
  | _, _, _, _, .nil, h => by simp at h
  | _, _, 0, _, .cons h t, e => by
    simp at e
    subst e
    exact ⟨_, rfl, h⟩
  | _, _, i + 1, _, .cons _ t, e => by
    obtain ⟨k, g1, g2⟩ := things_get (i := i) t (by simpa using e)
    exact ⟨k, by simpa using g1, g2⟩
/-- what follows a thing, by deed; none where nothing does -/
def MayBe (R : KeyRep κ) (H : Hp) (v : V) : Option κ → Prop
  | none => v = .non
  | some k => R.is H v k
theorem mays_imp {R : KeyRep κ} {H H' : Hp} (f : ∀ v k, R.is H v k → R.is H' v k) : ∀ {os : List V} {ts : List (Option κ)}, Paired (fun o t => MayBe R H o t) os ts → Paired (fun o t => MayBe R H' o t) os ts
  | _, _, .nil => .nil
  | o :: os, none :: ts, .cons h t => .cons h (mays_imp f t)
  | o :: os, some k :: ts, .cons h t => .cons (f _ _ h) (mays_imp f t)
theorem upd_seqL {H : Hp} {a l : Addr} {o : HO} {xs : List V} (n : l ≠ a) (g : SqL K H l xs) : SqL K (upd H a o) l xs := by
  rcases g with (z | ⟨ob, z⟩) | z
  · exact .inl (.inl (by rw [upd_ne n]; exact z))
  · exact .inl (.inr ⟨ob, by rw [upd_ne n]; exact z⟩)
  · exact .inr z
theorem upd_seqT {H : Hp} {a l : Addr} {o : HO} {xs : List V} (n : l ≠ a) (g : SqT K H l xs) : SqT K (upd H a o) l xs := by
  rcases g with (z | ⟨ob, z⟩) | z
  · exact .inl (.inl (by rw [upd_ne n]; exact z))
  · exact .inl (.inr ⟨ob, by rw [upd_ne n]; exact z⟩)
  · exact .inr z
/-- the promise of the function that tells what follows -/
def spFollow (R : KeyRep κ) (K : PySem.W.Frag) (H0 : Hp) (nxt : κ → List (Option κ)) (U : List κ) : Sp := fun vs H Q _ => ∃ v k, vs = [v] ∧ R.is H v k ∧ k ∈ U ∧ ∀ H' l os, Same H H' → (H l = none ∨ ∃ o, H0 l = some o) → Seq K H' (.ref l) os → Paired (fun o t => MayBe R H' o t) os (nxt k) → Q (.ref l) H'
end
end Lx

set_option Elab.async false
set_option linter.all false
set_option maxRecDepth 100000
set_option maxHeartbeats 4000000
/-! a def within a def, that has captured names and captured ones of its own -/
namespace Lx
open PySem PySem.Spec PyProof.Rows L2 NdefX
theorem cf_app : ∀ (names : List (Str × NameKind)) (n : Nat) (a b : List (Str × Addr)), cellsFrom n names (a ++ b) = cellsFrom n names a ++ b
  | [], _, _, _ => rfl
  | (x, k) :: r, n, a, b => by
    unfold cellsFrom
    split
    · exact cf_app r (n + 1) ((x, n) :: a) b
    · exact cf_app r n a b
theorem cf_names : ∀ (names : List (Str × NameKind)) (n : Nat) (acc : List (Str × Addr)) (y : Str) (c : Addr), (y, c) ∈ cellsFrom n names acc → (y, c) ∈ acc ∨ (y, NameKind.cell) ∈ names
  | [], _, _, _, _, h => .inl h
  | (x, k) :: r, n, acc, y, c, h => by
    unfold cellsFrom at h
    split at h
    · rename_i hk
      rcases cf_names r _ _ y c h with q | q
      · rcases List.mem_cons.mp q with e | q
        · cases e
          exact .inr (by rw [show k = NameKind.cell by simpa using hk]; exact List.mem_cons_self)
        · exact .inl q
      · exact .inr (List.mem_cons_of_mem _ q)
    · rcases cf_names r _ _ y c h with q | q
      · exact .inl q
      · exact .inr (List.mem_cons_of_mem _ q)
section
variable {M : Model} {A : Around} {E : Value → Shared → Prop}
theorem bind_locals {env : Env} (f : Str × Value → PUnit → Sem (ForInStep PUnit)) (hf : ∀ n v u, f (n, v) u = (do storeName env n v; pure (.yield ⟨⟩))) (hk : env.scope.kind = .function) :
    ∀ (binds : List (Str × Value)) (m : Str → Option Value) (s : Shared) (Q : PUnit → Shared → Prop), s.heap.Ns env.locals m → (∀ x ∈ binds, env.kindOf x.1 = some .local) →
      (∀ h' tk, h'.Ns env.locals (bindL env.kindOf binds m) → Heap.SameBut env.locals s.heap h' → Q ⟨⟩ { s with heap := h', toks := tk }) → wpAny M A (forIn binds ⟨⟩ f) Q E s
  | [], m, s, Q, hn, _, h => by
    rw [List.forIn_nil]
    exact wpAny_pure (h s.heap s.toks hn (Heap.SameBut.refl _ _))
  | (n, v) :: r, m, s, Q, hn, hl, h => by
    rw [List.forIn_cons, hf]
    have l0 := hl (n, v) List.mem_cons_self
    refine wpAny_bind (wpAny_bind (wpAny_storeName_local l0 hn (fun h' hn' hs' => wpAny_pure (bind_locals f hf hk r _ _ Q hn' (fun x hx => hl x (List.mem_cons_of_mem _ hx)) fun h2 tk hn2 hs2 => ?_)) (by rw [hk]; rfl)))
    refine h h2 tk ?_ (hs'.trans hs2)
    unfold bindL
    rw [if_pos l0]
    exact hn2
end
/-- its names: the parameters, the captured ones, then its own, some of which are captured in turn -/
structure MScope (N ps fr : List Str) (sc : Scope) : Prop where
  kind : sc.kind = .function
  co : sc.isCoroutine = false
  gen : sc.isGenerator = false
  nd : N.Nodup
  pre : N.take (ps.length + fr.length) = ps ++ fr
  par : ∀ x ∈ ps, sc.names.lookup x = some .local
  free : ∀ y ∈ sc.names, y.2 = .free → y.1 ∈ fr
  frk : ∀ x ∈ fr, sc.names.lookup x = some .free
  cel : ∀ y ∈ sc.names, y.2 = .cell → sc.names.lookup y.1 = some .cell
def mscB (N ps fr : List Str) (sc : Scope) : Bool :=
  decide (sc.kind = .function) && !sc.isCoroutine && !sc.isGenerator && decide N.Nodup && decide (N.take (ps.length + fr.length) = ps ++ fr) && ps.all (fun x => decide (sc.names.lookup x = some .local)) && sc.names.all (fun y => !decide (y.2 = .free) || decide (y.1 ∈ fr)) && fr.all (fun x => decide (sc.names.lookup x = some .free)) &&
    sc.names.all (fun y => !decide (y.2 = .cell) || decide (sc.names.lookup y.1 = some .cell))
theorem mscope_by {N ps fr : List Str} {sc : Scope} (h : mscB N ps fr sc = true) : MScope N ps fr sc := by
  unfold mscB at h
  simp only [Bool.and_eq_true, Bool.not_eq_true', decide_eq_true_eq, List.all_eq_true, Bool.or_eq_true, decide_eq_false_iff_not] at h
  obtain ⟨⟨⟨⟨⟨⟨⟨⟨h1, h2⟩, h3⟩, h4⟩, h5⟩, h6⟩, h7⟩, h8⟩, h9⟩ := h
  exact ⟨h1, h2, h3, h4, h5, h6, fun y hy e => (h7 y hy).elim (fun z => absurd e z) id, h8, fun y hy e => (h9 y hy).elim (fun z => absurd e z) id⟩
abbrev envM (F : NF) (f L : Addr) : Env := PySem.W.envX F.qual F.scope L f (.ref F.c) (cellsFrom (L + 1) F.scope.names F.cl)
/-- the context of its body, at its entry -/
def mcx (CX : CXT) (P : Program) (w : World) (K : PySem.W.Frag) (mg : Str → Option Value) (base : Heap) (N : List Str) (F : NF) (f : Addr) (A : Around) (outer : List Env) (s : Shared) (H : Hp) (E : XK) : Cx where
  prog := P
  w := w
  K := K
  mg := mg
  base := base
  A := A.deeper (envM F f s.heap.objs.size)
  N := N
  s_0 := s
  H_0 := H
  env := envM F f s.heap.objs.size
  outer := outer
  stack := envM F f s.heap.objs.size :: outer
  ex := []
  calm := true
  fn := fun y => decide (F.scope.names.lookup y = some .cell)
  pn := []
  xe := fun e s' => wpAny (model P w) (A.deeper (envM F f s.heap.objs.size)) (leaving (envM F f s.heap.objs.size) e) (fun _ s'' => CX outer H s E e s'') (fun e' s'' => CX outer H s E e' s'') s'
section
variable {CX : CXT} {P : Program} {w : World} {K : PySem.W.Frag} {mg : Str → Option Value} {base : Heap} {N ps fr : List Str} {F : NF} {f : Addr} {A : Around} {outer : List Env} {s : Shared} {H : Hp} {E : XK} {us : List Value} {vs : List V} {ws : List (Option V)} {k : Nat}
theorem m_start {h1 : Heap} {tk : Nat} (S : MScope N ps fr F.scope) (hd : A.handled = none) (e0 : Env0 P w K mg base A outer s H) (hl : vs.length = ps.length) (r : Vals vs us) (C : CellsAt F.cl fr ws s.heap H)
    (hns : h1.Ns s.heap.objs.size (bindL (envM F f s.heap.objs.size).kindOf (ps.zip us) fun _ => none)) (kp : ∀ b o, s.heap.get? b = some o → h1.get? b = some o)
    (own : CellsOk h1 (s.heap.objs.size + 1) (cellsFrom (s.heap.objs.size + 1) F.scope.names [])) : Inv (mcx CX P w K mg base N F f A outer s H E) [] (startF N vs ws) H { s with heap := h1, toks := tk } := by
  have lens : ps.length + fr.length ≤ N.length := by
    have q := congrArg List.length S.pre
    rw [List.length_take, List.length_append] at q
    omega
  have ndP : ps.Nodup := by
    have q := S.nd.sublist (List.take_sublist (ps.length + fr.length) N)
    rw [S.pre] at q
    exact (List.nodup_append.mp q).1
  have none_ex : ∀ b : Addr, b ∉ (mcx CX P w K mg base N F f A outer s H E).ex := fun b z => absurd (show b ∈ ([] : List Addr) from z) (by simp)
  have kcell : ∀ {c : Addr} {v : Option Value}, s.heap.IsCell c v → h1.IsCell c v := fun {c v} ⟨o, ho, hd⟩ => ⟨o, kp _ _ ho, hd⟩
  -- a cell is one of its own, or a captured one
  have which : ∀ {y c}, (cellsFrom (s.heap.objs.size + 1) F.scope.names F.cl).lookup y = some c → ((y, c) ∈ cellsFrom (s.heap.objs.size + 1) F.scope.names [] ∧ s.heap.objs.size < c) ∨ (F.cl.lookup y = some c ∧ c < s.heap.objs.size) := fun {y c} e => by
    have e : (cellsFrom (s.heap.objs.size + 1) F.scope.names ([] ++ F.cl)).lookup y = some c := e
    rw [cf_app, List.lookup_append] at e
    cases q : (cellsFrom (s.heap.objs.size + 1) F.scope.names []).lookup y with
    | some c' =>
      rw [q] at e
      cases e
      have m := PySem.mem_of_lookup q
      exact .inl ⟨m, (own.empty y c m).2⟩
    | none =>
      rw [q] at e
      have e : F.cl.lookup y = some c := e
      obtain ⟨_, v, z⟩ := C.all y c e
      exact .inr ⟨e, z.lt⟩
  have capt : ∀ {y c}, y ∈ fr → F.cl.lookup y = some c → (cellsFrom (s.heap.objs.size + 1) F.scope.names F.cl).lookup y = some c := fun {y c} hy e => by
    show (cellsFrom (s.heap.objs.size + 1) F.scope.names ([] ++ F.cl)).lookup y = some c
    rw [cf_app, List.lookup_append]
    cases q : (cellsFrom (s.heap.objs.size + 1) F.scope.names []).lookup y with
    | none => exact e
    | some c' =>
      exfalso
      rcases cf_names _ _ _ _ _ (PySem.mem_of_lookup q) with z | z
      · cases z
      · have a := S.cel _ z rfl
        rw [S.frk y hy] at a
        cases a
  have okX : (mcx CX P w K mg base N F f A outer s H E).Ok := {
    mod := e0.mod
    kind := S.kind
    glob := rfl
    blt := rfl
    above := Nat.le_refl _
    inj := fun y z c e1 e2 => by
      rcases which e1 with ⟨m1, l1⟩ | ⟨m1, l1⟩ <;> rcases which e2 with ⟨m2, l2⟩ | ⟨m2, l2⟩
      · exact name_of_addr own.apart m1 m2
      · exact absurd l1 (Nat.not_lt.mpr (Nat.le_of_lt l2))
      · exact absurd l2 (Nat.not_lt.mpr (Nat.le_of_lt l1))
      · exact C.inj y z c m1 m2
    has := fun y hy => by
      rcases (show F.scope.names.lookup y = some .cell ∨ F.scope.names.lookup y = some .free from hy) with q | q
      · exact Option.isSome_iff_exists.mp (PySem.W.cellsFrom_some F.scope.names (s.heap.objs.size + 1) F.cl (.inl q))
      · have m := S.free _ (PySem.mem_of_lookup q) rfl
        obtain ⟨i, hi⟩ := List.mem_iff_getElem?.mp m
        obtain ⟨c, hc, _⟩ := C.has i y hi
        exact ⟨c, capt m hc⟩
    cab := fun y c z e => by
      have z : F.scope.names.lookup y = some .cell := of_decide_eq_true z
      rcases which e with ⟨_, l⟩ | ⟨m, _⟩
      · exact Nat.le_of_lt l
      · exfalso
        obtain ⟨c', hc'⟩ := cell_has (n := s.heap.objs.size + 1) z
        have e : (cellsFrom (s.heap.objs.size + 1) F.scope.names ([] ++ F.cl)).lookup y = some c := e
        rw [cf_app, List.lookup_append, hc'] at e
        cases e
        have l1 := (own.empty y c (PySem.mem_of_lookup hc')).2
        obtain ⟨_, v, q⟩ := C.all y c m
        exact absurd (Nat.lt_of_lt_of_le q.lt (Nat.le_of_succ_le l1)) (Nat.lt_irrefl _)
    hd := fun _ => hd
    frames := Around.frames_deeper e0.frames
    stk := .inr ⟨rfl, rfl⟩
    exf := fun b z => absurd z (none_ex b)
    bs := e0.bs
    bsz := e0.bsz
    noex := fun b _ _ => none_ex b
    exfs := fun b z => absurd z (none_ex b)
    funs := e0.funs
    frf := e0.frf }
  refine { ok := okX, os := rfl, bare := e0.bare, base := Un.kept kp, loc := ⟨_, hns, ?_⟩, cell := ?_, free := e0.hok.fresh (Nat.le_refl _), freeC := ?_, pin := ?_, hok := e0.hok.kept kp, len := ?_ }
  · intro i y v e1 e2 e3
    have e1 : N[i]? = some y := e1
    have clen := C.len
    unfold startF at e2
    by_cases h1 : i < ps.length
    · have hq : (ps ++ fr)[i]? = some y := by
        rw [← S.pre, List.getElem?_take_of_lt (by omega)]
        exact e1
      rw [List.getElem?_append_left h1] at hq
      rw [List.getElem?_append_left (by rw [List.length_map]; omega), List.getElem?_map] at e2
      cases ev : vs[i]? with
      | none => rw [ev] at e2; cases e2
      | some a =>
        rw [ev] at e2
        cases e2
        obtain ⟨u, hu, rv⟩ := r.get ev
        have lk := S.par y (List.mem_of_getElem? hq)
        exact ⟨u, rv, .inl ⟨lk, bindL_get ndP hq hu lk⟩⟩
    · rw [List.getElem?_append_right (by rw [List.length_map]; omega), List.length_map] at e2
      by_cases h2 : i < ps.length + fr.length
      · have hq : (ps ++ fr)[i]? = some y := by
          rw [← S.pre, List.getElem?_take_of_lt (by omega)]
          exact e1
        rw [List.getElem?_append_right (by omega)] at hq
        rw [List.getElem?_append_left (by omega), hl] at e2
        obtain ⟨c, hc, hv⟩ := C.has (i - ps.length) y hq
        obtain ⟨u, ru, hu⟩ := hv v e2
        have m := List.mem_of_getElem? hq
        exact ⟨u, ru, .inr ⟨.inr (S.frk y m), c, capt m hc, kcell hu⟩⟩
      · rw [List.getElem?_append_right (by omega), List.getElem?_replicate] at e2
        split at e2 <;> cases e2
  · intro y c e
    rcases which e with ⟨m, _⟩ | ⟨m, _⟩
    · exact ⟨none, (own.empty y c m).1⟩
    · obtain ⟨_, v, z⟩ := C.all y c m
      exact ⟨v, kcell z⟩
  · intro y c e
    rcases which e with ⟨_, l⟩ | ⟨m, _⟩
    · exact e0.hok.fresh (Nat.le_of_lt l)
    · exact (C.all y c m).1
  · intro p hp
    exact absurd (show p ∈ ([] : List (Addr × Obj)) ++ [] from hp) (by simp)
  · have clen := C.len
    unfold startF
    show _ = N.length
    rw [List.length_append, List.length_append, List.length_map, List.length_replicate]
    omega
/-- such a def by its body -/
theorem nok_ofM {sp : List (Option V) → Sp} (S : MScope N ps fr F.scope) (hb : ∀ (doc pm ctv : Value) (us : List Value), us.length = ps.length → bindArgs (F.fd doc pm ctv) ⟨us, []⟩ = pure (ps.zip us)) (len : ∀ ws vs H Q E, sp ws vs H Q E → vs.length = ps.length)
    (hbody : ∀ (A : Around) (outer : List Env) (s : Shared) (H : Hp) (vs : List V) (ws : List (Option V)) (Q : VK) (E : XK), Room k (A.deeper (envM F f s.heap.objs.size)) → ws.length = fr.length → sp ws vs H Q E →
      ∃ t, PSs (mcx CX P w K mg base N F f A outer s H E) F.body t ∧ t { nx := fun _ H' => Q .non H', rt := Q } (startF N vs ws) H) : NOk P w K mg base CX (k + 1) f F ps fr sp := by
  constructor
  · exact len
  · intro A outer s H us vs ws Q E hr e0 hf hc C r h
    have hl := len _ _ _ _ _ h
    have lim : s.heap.NoLimit := e0.mod.nolimit.keeps fun b o e => (e0.bs b o e).1
    obtain ⟨od, sl, doc, pm, ctv, ho⟩ := fnO_at e0.hok hf
    refine codeAny_call_function hr.depth ho rfl S.co S.gen rfl (codeO_at e0.hok hc) ?_
    rw [hb doc pm ctv us (by rw [← r.length]; exact hl)]
    refine wpAny_pure ?_
    show wpAny _ _ (newFunctionEnv F.scope mainGlobals F.cl (ps.zip us) (F.qual ++ ".<locals>.") (some f) (.ref F.c) none builtinsNs) _ _ s
    simp only [newFunctionEnv, Option.isSome_none, Bool.false_eq_true, if_false]
    refine wpAny_bind (wpAny_alloc ?_)
    refine wpAny_bind (wpAny_layCells _ (fun name kind cells => by cases hkc : kind == NameKind.cell <;> simp [hkc]) _ _ _ _ ?_)
    have sz : ({ s with heap := s.heap.push { cls := .type "frame", data := .dict #[] } } : Shared).heap.objs.size = s.heap.objs.size + 1 := Heap.size_push ..
    rw [sz]
    have own := cellsFrom_ok F.scope.names (s.heap.push { cls := .type "frame", data := .dict #[] }) (s.heap.objs.size + 1) [] ⟨fun _ _ hm => (nomatch hm), List.Pairwise.nil⟩ (by rw [Heap.size_push]; exact Nat.le_refl _)
    rw [Heap.size_push] at own
    have ns0 : (pushCells (s.heap.push { cls := .type "frame", data := .dict #[] }) F.scope.names).Ns s.heap.objs.size (fun _ => none) := (Heap.Ns.new s.heap (.type "frame")).keeps (pushCells_keeps _ _)
    refine wpAny_bind (bind_locals (env := envM F f s.heap.objs.size) _ (fun _ _ _ => rfl) S.kind (ps.zip us) (fun _ => none) _ _ ns0 (fun ⟨n, v⟩ hx => S.par n (List.of_mem_zip hx).1) fun h' tk hn hs => wpAny_pure ?_)
    have kp : ∀ b o, s.heap.get? b = some o → h'.get? b = some o := fun b o e => hs.extBut b o (Nat.ne_of_lt (Heap.lt_size e)) (pushCells_keeps _ _ b o (Heap.get?_push_of_some _ e))
    have own' : CellsOk h' (s.heap.objs.size + 1) (cellsFrom (s.heap.objs.size + 1) F.scope.names []) := ⟨fun n c hm => ⟨(own.empty n c hm).1.sameBut hs (fun z => by
      have := (own.empty n c hm).2
      rw [z] at this
      exact absurd this (by show ¬ s.heap.objs.size + 1 ≤ s.heap.objs.size; omega)), (own.empty n c hm).2⟩, own.apart⟩
    refine ⟨lim.keeps kp, ?_⟩
    show codeAny _ _ (.func F.body (envM F f s.heap.objs.size)) _ _
    refine codeAny_func ?_
    obtain ⟨t, ht, hq⟩ := hbody A outer s H vs ws Q E (hr.deeper _) C.len h
    have I : Inv (mcx CX P w K mg base N F f A outer s H E) [] (startF N vs ws) H { s with heap := h', toks := tk } := m_start S hr.hd e0 hl r C hn kp own'
    refine wpAny_mono (ht.run [] _ (startF N vs ws) H _ I hq) (fun fl s' z => ?_) fun e s' z => z
    have fin : ∀ {σ' : L2.St} {H' : Hp} {v : V} {u : Value}, Inv (mcx CX P w K mg base N F f A outer s H E) [] σ' H' s' → L2.RelV v u → Q v H' → CE outer P w H s Q u s' :=
      fun {σ' H' v u} J rv q => ⟨v, H', J.os, J.bare, J.base, J.hok, rv, q⟩
    cases fl with
    | ret u =>
      obtain ⟨v, σ', H', J, rv, q⟩ := z
      exact fin J rv q
    | next =>
      obtain ⟨σ', H', J, q⟩ := z
      exact fin (v := V.non) (u := Value.none) J rfl q
    | brk =>
      obtain ⟨_, _, _, q⟩ := z
      exact False.elim q
    | cont =>
      obtain ⟨_, _, _, q⟩ := z
      exact False.elim q
end
end Lx

set_option Elab.async false
set_option linter.all false
set_option maxRecDepth 100000
set_option maxHeartbeats 2000000
namespace Lx
open PySem PySem.Spec PyProof.Rows L2
/-- x == y, x an instance of the class at C whose own == is at g; y of the type t -/
def rEqI (K : PySem.W.Frag) (C : Addr) (sp : Sp) (E : XK) : R2 := fun x y H Q => ∃ a dx fs t, x = .ref a ∧ H a = some (.ins C dx fs) ∧ TyX K H y t ∧ PySem.W.notFirst K C t = true ∧ sp [x, y] H Q E
theorem op_eqI {X : Cx} {CX : CXT} {n : Nat} {g C : Addr} {fd : FuncData} {ps : List Str} {sp : Sp} {E : XK} (F : FnOk X.prog X.w X.K X.mg X.base CX n g fd ps sp) (hs : PySem.W.findIn X.K (.ref C) "__eq__" = some (some (.ref g))) (hf : PySem.W.isFn X.K (.ref g) = true)
    (hb : Binds X.K fd ps []) (hr : Room n X.A) (hx : Passes CX X E) : OpR X (compareOp .Eq) (rEqI X.K C sp E) := by
  intro pins s σ H x y v u Q I rx ry h
  obtain ⟨a, dx, fs, t, rfl, ha, ty, hn, q⟩ := h
  cases (show v = Value.ref a from rx)
  obtain ⟨mA, J, _⟩ := ins_get I.hok ha
  obtain ⟨od, J, _⟩ := J.look
  obtain ⟨P, Z, hP, _⟩ := kit_of I ry ty
  obtain ⟨m, hF⟩ := I.fr
  show wpAny _ _ (richCompare .Eq (.ref a) u) _ _ s
  refine PySem.W.cmp_K (op := .Eq) (tb := t) hr.units0 hF I.ok.mod.kin J (Z.ty _ _ I.kIn hP) hn hs hf ?_
  have F' : FnR X.prog X.w X.K X.mg X.base CX n g sp := (F.raw hb .nil).imp fun vs H Q E h => by rw [List.append_nil]; exact h
  refine wpAny_mono (wpAny_call (run_fnR (us := [.ref a, u]) (vs := [.ref a, y]) F' hr hx I (.cons rfl (.cons ry .nil)) q)) (fun w s' z => ?_) fun _ _ x => x
  obtain ⟨z', H', I', rz, qz⟩ := z
  exact SlX.cmpback rz ⟨z', H', I', rz, qz⟩
/-! ### tuples of tuples of whole numbers -/
def rowsT (rs : List (List Int)) : PyData := .tuple (rs.map fun r => .tuple (r.map PyData.int))
def rowsL (rs : List (List Int)) : PyData := .list (rs.map fun r => .tuple (r.map PyData.int))
theorem lay_rows : ∀ rs : List (List Int), PyData.canLayAll0 (rs.map fun r => PyData.tuple (r.map PyData.int)) = true ∧ PyData.depthAll (rs.map fun r => PyData.tuple (r.map PyData.int)) ≤ 1
  | [] => ⟨rfl, Nat.zero_le _⟩
  | r :: rs => by
    obtain ⟨a, b⟩ := shaped_ints_any (xs := r)
    obtain ⟨c, d⟩ := lay_rows rs
    constructor
    · show (PyData.canLayAll0 (r.map PyData.int) && PyData.canLayAll0 (rs.map _)) = true
      rw [a, c]
      rfl
    · show max (PyData.depthAll (r.map PyData.int) + 1) (PyData.depthAll (rs.map _)) ≤ 1
      rw [b]
      omega
theorem shaped_rowsT (rs : List (List Int)) : SeqAt.shaped (rowsT rs) = true := by
  obtain ⟨h1, h2⟩ := lay_rows rs
  show (PyData.canLayAll0 (rs.map _) && decide (PyData.depthAll (rs.map _) + 1 ≤ 64)) = true
  rw [h1, decide_eq_true (by omega)]
  rfl
theorem eqvAll_rows : ∀ rs : List (List Int), PyData.eqvAll (rs.map fun r => PyData.tuple (r.map PyData.int)) (rs.map fun r => PyData.tuple (r.map PyData.int)) = true
  | [] => rfl
  | r :: rs => by
    show (PyData.eqvAll (r.map PyData.int) (r.map PyData.int) && PyData.eqvAll (rs.map _) (rs.map _)) = true
    rw [eqvAll_ints, eqvAll_rows rs, decide_eq_true rfl]
    rfl
theorem eqv_rowsT (rs : List (List Int)) : PyData.eqv (rowsT rs) (rowsT rs) = true := eqvAll_rows rs
theorem dp_rows {K : PySem.W.Frag} {H : Hp} : ∀ {bs : List Addr} {rs : List (List Int)}, Paired (fun (a : Addr) (r : List Int) => SqT K H a (r.map V.int)) bs rs → DpAll K H (bs.map V.ref) (rs.map fun r => PyData.tuple (r.map PyData.int))
  | _, _, .nil => .nil
  | _, _, .cons h t => .cons (dp_tuple_ints h) (dp_rows t)
theorem ty_sqt {K : PySem.W.Frag} {H : Hp} {a : Addr} {xs : List V} (h : SqT K H a xs) : TyX K H (.ref a) (.type "tuple") := by
  rcases h with (h | ⟨o, h⟩) | h
  · exact .base (.tup h)
  · exact .fTuple h
  · obtain ⟨o, its, n, h1, h2, _⟩ := h
    exact .kTuple h1 h2
end Lx

set_option Elab.async false
set_option linter.all false
set_option maxRecDepth 100000
set_option maxHeartbeats 3200000
/-! set(xs), xs a list of whole numbers; sorted of it -/
namespace Lx
open PySem PySem.Spec PyProof.Rows L2
section
variable {P : Program} {w : World} {A : Around} {E : Value → Shared → Prop} {s : Shared}
/-- a set that nothing was put in yet -/
abbrev bareSet (w : World) : Obj := { cls := .type "set", dict := none, data := .set #[] 0 (.fresh 0 0 (!w.params.followText "set-order")) }
/-- what the filling of the bare set at S by whole numbers leaves -/
def Filled (w : World) (s : Shared) (S : Addr) (ns : List Int) (s2 : Shared) : Prop :=
  ∃ h' tk c, s2 = { s with heap := h', toks := tk } ∧ SetR w h' S (fun j => decide (j ∈ ns)) c ∧ c ≤ ns.length ∧ ∀ b o, b ≠ S → s.heap.get? b = some o → h'.get? b = some o
theorem fill_list {l S : Addr} {items : Array Value} {ns : List Int} (hh : A.handled = none) (hl : s.heap.IsList l items) (hit : IntsAre items.toList ns) (hb : ns.length + 1 < scanBound) (hS : s.heap.get? S = some (bareSet w)) (ne : l ≠ S) :
    codeAny (model P w) A (.call (.builtin "set.__init__") ⟨[.ref S, .ref l], []⟩) (wants (fun r s2 => r = .none ∧ Filled w s S ns s2) E) s := by
  have tyS : s.TypeIs (.ref S) "set" := ⟨_, hS, rfl⟩
  have size : items.size = ns.length := by have q := IntsAre.length hit; rwa [Array.length_toList] at q
  refine codeAny_call_builtin PySem.F.called_set.init.plain PySem.F.entry_set_init (PySem.check_set_init_1 tyS ?_)
  obtain ⟨⟨cl, dc, dt, sl⟩, at_, c1, n0, d1⟩ := hl
  cases c1
  cases d1
  have k1 := PySem.F.sub_list_set
  have k2 := PySem.F.sub_list_frozenset
  have k3 : (Value.type "list" == Value.type "dict") = false := by decide
  unfold Builtin.«set.__init__» noKeywords Builtin.Frozenset.updateFrom
  generalize hPI : pyIter = it
  wp_walk
  cases hPI
  have isl : s.heap.IsList l items := ⟨_, at_, rfl, n0, rfl⟩
  refine wpAny_pyIter_list isl (wpAny_bind (wpAny_runValue ?_))
  have lt_l := Heap.lt_size at_
  have lt_S := Heap.lt_size hS
  have off : S ∉ [s.heap.objs.size, l] := by
    intro m
    rcases List.mem_cons.mp m with e | m
    · rw [← e] at lt_S
      exact Nat.lt_irrefl _ lt_S
    · exact ne (List.mem_singleton.mp m).symm
  have at_i : ∀ (i : Nat) (v : Value), items[i]? = some v → ∃ k t, ns[i]? = some k ∧ v = .int k t := fun i v hv => by
    obtain ⟨li, _⟩ := Array.getElem?_eq_some_iff.mp hv
    have ln : i < ns.length := by omega
    obtain ⟨t, e⟩ := PyProof.Rows.IntsAre.int_at hit i v (by rw [Array.getElem?_toList]; exact hv)
    rw [List.getD_eq_getElem?_getD, List.getElem?_eq_getElem ln] at e
    exact ⟨_, t, List.getElem?_eq_getElem ln, e⟩
  refine set_update_ints ((Walks.list (show A.in1.in1.handled = none by simp [hh]) _ l (Nat.ne_of_lt lt_l) items).toS) S off ns size hb at_i (items.size - 0) 0 _ (by omega) (Nat.zero_le _) ⟨?_, ?_⟩
    ⟨0, Nat.le_refl 0, ?_⟩ ?_
  · exact ⟨_, Heap.get?_push_size _ rfl, rfl, rfl⟩
  · exact isl.push _
  · exact setR_new_at (Heap.get?_push_of_some _ hS)
  rintro ⟨h2, g2, d2, t2, o2⟩ c mv hc got
  have e1 : g2 = s.gens := mv.gens
  have e2 : d2 = s.drawn := mv.drawn
  have e3 : o2 = s.os := mv.os
  cases e1
  cases e2
  cases e3
  refine wpAny_pure (wpAny_pure ?_)
  refine ⟨rfl, h2, t2, c, rfl, got, size ▸ hc, fun b o nb e => mv.heap b o ?_ (Heap.get?_push_of_some _ e)⟩
  intro m
  rcases List.mem_cons.mp m with z | m
  · exact nb z
  · have lt := Heap.lt_size e
    have eb : b = s.heap.objs.size := List.mem_singleton.mp m
    rw [eb] at lt
    exact Nat.lt_irrefl _ lt
/-- set(xs) -/
theorem made_set {l : Addr} {items : Array Value} (ns : List Int) {Q : Value → Shared → Prop} (hh : A.handled = none) (hl : s.heap.IsList l items) (hit : IntsAre items.toList ns) (hb : ns.length + 1 < scanBound)
    (q : ∀ (h' : Heap) (tk c : Nat), SetR w h' s.heap.objs.size (fun j => decide (j ∈ ns)) c → c ≤ ns.length → (∀ b o, s.heap.get? b = some o → h'.get? b = some o) → Q (.ref s.heap.objs.size) { s with heap := h', toks := tk }) :
    wpAny (model P w) A (call (.type "set") [.ref l]) Q E s := by
  obtain ⟨c, tl, way⟩ := PySem.F.called_set.mro
  have z1 := PySem.F.called_set.made
  have z2 := PySem.F.called_set.sub
  have z3 := PySem.F.called_set.notType
  have z4 := PySem.F.called_set.canCreate
  have z5 := PySem.F.typeCall_set_1 (.ref l)
  have z6 := PySem.F.called_set.init.lookup
  have z7 := PySem.F.called_set.init.bind (.ref s.heap.objs.size)
  have old : ∀ b o, s.heap.get? b = some o → (s.heap.push (bareSet w)).get? b = some o := fun b o e => Heap.get?_push_of_some _ e
  have at_ : (s.heap.push (bareSet w)).get? s.heap.objs.size = some (bareSet w) := Heap.get?_push_size _ rfl
  have lt_l : l < s.heap.objs.size := by obtain ⟨o, e, _⟩ := hl; exact Heap.lt_size e
  have new : ∀ B : Around, codeAny (model P w) B (.call (.builtin "set.__new__") ⟨[.type "set", .ref l], []⟩) (wants (fun r s2 => r = .ref s.heap.objs.size ∧ s2 = { s with heap := s.heap.push (bareSet w) }) E) s := fun B => code_set_led1 (.ref l) ⟨rfl, rfl⟩
  have ty : Shared.TypeIs { s with heap := s.heap.push (bareSet w) } (.ref s.heap.objs.size) "set" := ⟨_, at_, rfl⟩
  have fill : ∀ B : Around, B.handled = none → codeAny (model P w) B (.call (.builtin "set.__init__") ⟨[.ref s.heap.objs.size, .ref l], []⟩) (wants (fun r s2 => r = .none ∧ Filled w { s with heap := s.heap.push (bareSet w) } s.heap.objs.size ns s2) E) { s with heap := s.heap.push (bareSet w) } :=
    fun B hB => fill_list hB (hl.push _) hit hb at_ (Nat.ne_of_lt lt_l)
  refine wpAny_call (codeAny_of_tree (show wpAny _ _ (callAny (.type "set") _) _ _ _ from wpAny_pure ⟨Code.quiet_builtin _ (by decide +kernel), codeAny_builtin PySem.F.entry_type_call ?_⟩))
  rw [Around.under_plain (weight_type_call_type "set" [.ref l] []) rfl]
  repeat (any_goals (first | assumption | wp_step))
  refine codeAny_mono (new _) fun r s1 h1 => ?_
  match r, h1 with
  | .error e, h1 => exact h1
  | .ok (.ret _), h1 =>
    obtain ⟨rfl, rfl⟩ := h1
    repeat (any_goals (first | assumption | wp_step))
    refine codeAny_mono (fill _ (by simp [hh])) fun r2 s2 h2 => ?_
    match r2, h2 with
    | .error e, h2 => exact h2
    | .ok (.ret _), h2 =>
      obtain ⟨rfl, h', tk, c, rfl, g1, g2, g3⟩ := h2
      repeat (any_goals (first | assumption | wp_step))
      exact q h' tk c g1 g2 fun b o e => g3 b o (Nat.ne_of_lt (Heap.lt_size e)) (old b o e)
    | .ok .next, h2 => exact h2.elim
    | .ok .brk, h2 => exact h2.elim
    | .ok .cont, h2 => exact h2.elim
  | .ok .next, h1 => exact h1.elim
  | .ok .brk, h1 => exact h1.elim
  | .ok .cont, h1 => exact h1.elim
end
/-- set(xs), xs a list of whole numbers: the members are those of xs -/
def rSetOfI (K : PySem.W.Frag) (w : World) : List V → Hp → VK → Prop := fun xs H Q => ∃ (l : Addr) (ns : List Int), xs = [.ref l] ∧ SqL K H l (ns.map V.int) ∧ ns.length < 1000 ∧
  ∀ p n, n ≤ ns.length → H p = none → Q (.ref p) (upd H p (SetO w p (fun j => decide (j ∈ ns)) n))
theorem call_setOfI {X : Cx} (hc : X.calm = true) : CallR X (.type "set") (rSetOfI X.K X.w) := by
  intro pins s σ H xs us Q I r h
  obtain ⟨l, ns, rfl, hl, hf, q⟩ := h
  rw [Vals.ref1 r]
  obtain ⟨its, rv, pl, hz⟩ := I.list hl
  refine made_set (ns := ns) (I.ok.hd hc) pl.isList (by simpa using Vals.ints rv) (by unfold scanBound; omega) fun h' tk c R hc k => ?_
  exact ⟨.ref s.heap.objs.size, _, I.laid (t' := tk) k (Nat.le_refl _) (setO_new R), rfl, q _ c hc (I.hok.fresh (Nat.le_refl _))⟩
end Lx

set_option Elab.async false
set_option linter.all false
set_option maxRecDepth 100000
set_option maxHeartbeats 2000000
namespace Lx
open PySem PySem.Spec PyProof.Rows L2
/-- "0" times one to five: some text -/
def rMulS : R2 := fun x y H Q => ∃ k : Nat, x = .str "0" ∧ y = .int k ∧ 1 ≤ k ∧ k ≤ 5 ∧ ∀ r : Str, Q (.str r) H
theorem op_mulS {X : Cx} : OpR X (binaryOp .Mult) rMulS := by
  intro pins s σ H x y v u Q I rx ry h
  obtain ⟨k, rfl, rfl, h1, h5, q⟩ := h
  obtain ⟨t, rfl⟩ := rx
  obtain ⟨t2, rfl⟩ := ry
  have any : ∀ (r : Str) (tk tk2 : Nat), ∃ v' H', Inv X pins σ H' { s with toks := tk2 } ∧ RelV v' (Value.str r tk) ∧ Q v' H' := fun r tk tk2 => ⟨.str r, H, I.tok _, ⟨_, rfl⟩, q r⟩
  obtain rfl | rfl | rfl | rfl | rfl : k = 1 ∨ k = 2 ∨ k = 3 ∨ k = 4 ∨ k = 5 := by omega
  all_goals
    refine PySem.P.mul_str (by decide) (fun _ _ => by decide +kernel) (fun _ _ => by decide +kernel) ?_
  · rw [if_neg (by decide), if_pos (by decide)]
    exact any _ _ s.toks
  all_goals
    rw [if_neg (by decide), if_neg (by decide +kernel)]
    exact ⟨by decide +kernel, any _ _ _⟩
end Lx

set_option Elab.async false
namespace Pg
open PySem
def topS (i : Nat) : Stmt := PySem.Challenge.pw_pagesagain_k01_machines_and_what_is_none.main.body.getD i (.Pass ⟨0, 0, 0, 0⟩)
abbrev cPageError : Stmt := topS 1
abbrev cBadMachine : Stmt := topS 2
abbrev cBadRow : Stmt := topS 3
abbrev cNoState : Stmt := topS 4
abbrev cNoDeed : Stmt := topS 5
abbrev sIsNumber : Stmt := topS 7
abbrev sIsSequence : Stmt := topS 8
abbrev sFirstWalks : Stmt := topS 10
abbrev cMachine : Stmt := topS 15
abbrev sIsTable : Stmt := topS 16
abbrev sIsState : Stmt := topS 17
abbrev sIsDeed : Stmt := topS 18
abbrev sNeedState : Stmt := topS 19
abbrev sNeedDeed : Stmt := topS 20
abbrev sCheckRow : Stmt := topS 21
abbrev sLed : Stmt := topS 22
abbrev sLead : Stmt := topS 23
abbrev sReached : Stmt := topS 24
abbrev sFirstRows : Stmt := topS 25
abbrev sCountedRows : Stmt := topS 26
abbrev sLawBox : Stmt := topS 28
abbrev sLawTake : Stmt := topS 29
abbrev sLawPick : Stmt := topS 30
abbrev sLawTables : Stmt := topS 31
abbrev sLawRun : Stmt := topS 32
abbrev sLawLog : Stmt := topS 33
abbrev sLawHeard : Stmt := topS 34
abbrev sLawToldRight : Stmt := topS 35
abbrev sLawNoneRight : Stmt := topS 36
abbrev sLaw : Stmt := topS 37
end Pg

set_option Elab.async false
set_option linter.all false
set_option maxRecDepth 100000
set_option maxHeartbeats 4000000
namespace Pg
open PySem PySem.Spec PyProof.Rows L2 Lx
/-- no global of the module bears this built-in's name -/
structure Bare (mg : Str → Option Value) : Prop where
  isinstance : mg "isinstance" = none
  int : mg "int" = none
  bool : mg "bool" = none
  list : mg "list" = none
  tuple : mg "tuple" = none
  len : mg "len" = none
  range : mg "range" = none
  enumerate : mg "enumerate" = none
  reversed : mg "reversed" = none
  divmod : mg "divmod" = none
  min : mg "min" = none
  max : mg "max" = none
  all : mg "all" = none
  repr : mg "repr" = none
  abs : mg "abs" = none
  sorted : mg "sorted" = none
  set : mg "set" = none
/-- at least lo -/
def geV (v : V) (lo : Int) : Bool := match v with
  | .int i => decide (lo ≤ i)
  | _ => false
section
variable {P : Program} {w : World} {K : PySem.W.Frag} {mg : Str → Option Value} {base : Heap}

/-! ### is_number -/
def spIsNumber (K : PySem.W.Frag) : Sp := fun vs H Q _ => ∃ v lo hv, vs = [v, .int lo, hv] ∧ Vk K H v ∧ ((∃ hi, hv = .int hi ∧ Q (.bl (numV v lo hi)) H) ∨ (hv = .non ∧ Q (.bl (geV v lo)) H))
theorem scIsNumber : FnScope ["value", "least", "greatest"] ["value", "least", "greatest"] (defScope sIsNumber) := ⟨rfl, rfl, rfl, by decide +kernel, rfl, by decide +kernel, by decide +kernel⟩
theorem ok_is_number {dvs : List V} {f : Addr} {fd : FuncData} (F : FunD K "is_number" "is_number" (defArgs sIsNumber) (defBody sIsNumber) (defScope sIsNumber) dvs [] f fd) (B : Bare mg) : FnOk P w K mg base L2.CX0 1 f fd ["value", "least", "greatest"] (spIsNumber K) := by
  refine F.ok scIsNumber (fun vs H Q E h => ?_) (fun cdv A outer s H vs Q E hr h => ?_)
  · obtain ⟨v, lo, hv, rfl, _⟩ := h
    rfl
  · obtain ⟨v, lo, hv, rfl, kv, h⟩ := h
    refine ⟨_, pss_cons (ps_if (PW.pt (pw_or (pt_not (pt_val (pe_callB call_isi (by rfl) B.isinstance boot_isinstance (pa_cons (pv 0) (pa_cons (pe_bltn (v := .ty "int") (by rfl) B.int boot_int rfl) pa_nil)))))
        (pw_or1 (pt_val (pe_callB call_isi (by rfl) B.isinstance boot_isinstance (pa_cons (pv 0) (pa_cons (pe_bltn (v := .ty "bool") (by rfl) B.bool boot_bool rfl) pa_nil)))))))
        (pss_one (ps_ret pe_bl)) pss_nil)
      (pss_one (ps_ret (pe_and (pe_cmpR op_le (pv 1) (pv 0) (nomark _)) (pe_one (pe_or (pe_cmpR op_isN (pv 2) pe_non (nomark _)) (pe_one (pe_cmpR op_le (pv 0) (pv 2) (nomark _)))))))), ?_⟩
    obtain ⟨t1, y1, k1⟩ := kv.asInt
    obtain ⟨t2, y2, k2⟩ := kv.asBool
    have two : isI v = true → isB v = false → ∃ i, v = .int i := fun h1 h2 => by
      cases v with
      | int i => exact ⟨i, rfl⟩
      | bl b => cases h2
      | _ => cases h1
    have no : isI v = false ∨ isB v = true → Q (.bl false) H := fun z => by
      have e : ∀ lo hi, numV v lo hi = false := fun lo hi => by
        cases v with
        | int i => rcases z with z | z <;> cases z
        | _ => rfl
      have e2 : geV v lo = false := by
        cases v with
        | int i => rcases z with z | z <;> cases z
        | _ => rfl
      rcases h with ⟨hi, _, q⟩ | ⟨_, q⟩
      · rw [e] at q
        exact q
      · rw [e2] at q
        exact q
    refine ⟨v, rfl, v, .ty "int", t1, _, isI v, rfl, .ty "int", y1, k1, isI v, rfl, ?_⟩
    by_cases c1 : isI v = true
    · rw [c1]
      refine iteF ⟨v, rfl, v, .ty "bool", t2, _, isB v, rfl, .ty "bool", y2, k2, isB v, rfl, ?_⟩
      by_cases c2 : isB v = true
      · rw [c2]
        exact iteT (no (.inr c2))
      · have c2 : isB v = false := by simpa using c2
        rw [c2]
        refine iteF ?_
        obtain ⟨i, rfl⟩ := two c1 c2
        refine ⟨_, rfl, _, rfl, lo, i, rfl, rfl, decide (lo ≤ i), rfl, ite2 (fun c3 => ?_) (fun c3 => ?_)⟩
        · refine ⟨hv, rfl, rfl, decide (hv = .non), rfl, ?_⟩
          rcases h with ⟨hi, rfl, q⟩ | ⟨rfl, q⟩
          · refine iteF ⟨_, rfl, _, rfl, i, hi, rfl, rfl, ?_⟩
            simpa [numV, c3] using q
          · refine iteT ?_
            simpa [geV, c3] using q
        · have e : decide (lo ≤ i) = false := by simpa using c3
          rcases h with ⟨hi, rfl, q⟩ | ⟨rfl, q⟩
          · simpa [numV, e] using q
          · simpa [geV, e] using q
    · have c1 : isI v = false := by simpa using c1
      rw [c1]
      exact iteT (iteT (no (.inl c1)))
end
end Pg

set_option Elab.async false
set_option linter.all false
set_option maxRecDepth 100000
set_option maxHeartbeats 4000000
namespace Pg
open PySem PySem.Spec PyProof.Rows L2 Lx
section
variable {P : Program} {w : World} {K : PySem.W.Frag} {mg : Str → Option Value} {base : Heap}
/-! ### is_sequence -/
def spIsSequence (K : PySem.W.Frag) : Sp := fun vs H Q _ => ∃ v lo hi, vs = [v, .int lo, .int hi] ∧
  ((Sca v ∧ ∀ H', Same H H' → Q (.bl false) H') ∨ ∃ xs : List V, Seq K H v xs ∧ ∀ H', Same H H' → Q (.bl (decide (lo ≤ (xs.length : Int)) && decide ((xs.length : Int) ≤ hi))) H')
theorem scIsSequence : FnScope ["value", "fewest", "most"] ["value", "fewest", "most"] (defScope sIsSequence) := ⟨rfl, rfl, rfl, by decide +kernel, rfl, by decide +kernel, by decide +kernel⟩
theorem ok_is_sequence {f : Addr} {fd : FuncData} (F : Fun K "is_sequence" "is_sequence" sIsSequence f fd) (B : Bare mg) : FnOk P w K mg base L2.CX0 1 f fd ["value", "fewest", "most"] (spIsSequence K) := by
  refine F.ok scIsSequence (fun vs H Q E h => ?_) (fun cdv A outer s H vs Q E hr h => ?_)
  · obtain ⟨v, lo, hi, rfl, _⟩ := h
    rfl
  · obtain ⟨v, lo, hi, rfl, h⟩ := h
    refine ⟨_, pss_one (ps_ret (pe_and (pe_callB call_isiT (by rfl) B.isinstance boot_isinstance (pa_cons (pv 0) (pa_cons (pe_tup (pa_cons (pe_bltn (v := .ty "list") (by rfl) B.list boot_list rfl) (pa_cons (pe_bltn (v := .ty "tuple") (by rfl) B.tuple boot_tuple rfl) pa_nil))) pa_nil)))
      (pe_one (pe_chain op_le op_le (pv 1) (pe_callB call_len_seq (by rfl) B.len PySem.boot_len (pa_cons (pv 0) pa_nil)) (pv 2))))), ?_⟩
    refine ⟨v, rfl, by show 2 ≤ sizeLine; decide, fun tp np => ?_⟩
    have s1 : Same H (upd H tp (.tup [.ty "list", .ty "tuple"])) := same_new np
    have cls : Paired ClsV [.ty "list", .ty "tuple"] [.type "list", .type "tuple"] := .cons (.ty _) (.cons (.ty _) .nil)
    rcases h with ⟨hv, q⟩ | ⟨xs, hv, q⟩
    · obtain ⟨t, y, k⟩ := Sca.kit (K := K) (H := upd H tp (.tup [.ty "list", .ty "tuple"])) hv
      exact ⟨v, tp, _, t, _, false, rfl, upd_same, cls, y, k, false, rfl, iteF (q _ s1)⟩
    · obtain ⟨t, y, k⟩ := (hv.same s1).kit
      refine ⟨v, tp, _, t, _, true, rfl, upd_same, cls, y, k, true, rfl, iteT ?_⟩
      have hs := hv.same s1
      have ln : ∃ a : Addr, v = .ref a ∧ (SqL K (upd H tp (.tup [.ty "list", .ty "tuple"])) a xs ∨ SqT K (upd H tp (.tup [.ty "list", .ty "tuple"])) a xs) := by
        cases hs with
        | lst h => exact ⟨_, rfl, .inl h⟩
        | tup h => exact ⟨_, rfl, .inr h⟩
      obtain ⟨a, ev, hs⟩ := ln
      refine ⟨.int lo, rfl, v, rfl, a, xs, by rw [ev], hs, lo, _, rfl, rfl, decide (lo ≤ (xs.length : Int)), rfl, ite2 (fun c => ?_) (fun c => ?_)⟩
      · refine ⟨.int hi, rfl, _, hi, rfl, rfl, ?_⟩
        have z := q _ s1
        simpa [c] using z
      · have e : decide (lo ≤ (xs.length : Int)) = false := by simpa using c
        have z := q _ s1
        simpa [e] using z
end
/-! ### machines -/
structure MachC (K : PySem.W.Frag) (C : Addr) : Prop where
  cl : Cls K C
  nD : NoAttr K C "deeds"
  nS : NoAttr K C "states"
  nT : NoAttr K C "tables"
/-- at m: the machine of the tables T, by deed -/
structure MachAt (K : PySem.W.Frag) (C : Addr) (H : Hp) (m : Addr) (T : List (List Int)) : Prop where
  ex : ∃ dx fs t, ∃ as : List Addr, H m = some (.ins C dx fs) ∧ List.lookup ("deeds" : Str) fs = some (V.int T.length) ∧ List.lookup ("states" : Str) fs = some (V.int (T.headD []).length) ∧ List.lookup ("tables" : Str) fs = some (V.ref t) ∧
    SqT K H t (as.map V.ref) ∧ Paired (fun (a : Addr) (row : List Int) => SqT K H a (row.map V.int)) as T
theorem paired_imp {α β : Type} {F G : α → β → Prop} : ∀ {l : List α} {r : List β}, Paired F l r → (∀ a b, F a b → G a b) → Paired G l r
  | _, _, .nil, _ => .nil
  | _, _, .cons h t, f => .cons (f _ _ h) (paired_imp t f)
theorem MachAt.same {K : PySem.W.Frag} {C : Addr} {H H' : Hp} {m : Addr} {T : List (List Int)} (h : MachAt K C H m T) (e : Same H H') : MachAt K C H' m T := by
  obtain ⟨dx, fs, t, as, h1, h2, h3, h4, h5, h6⟩ := h.ex
  exact ⟨dx, fs, t, as, e _ _ h1, h2, h3, h4, sameT e h5, paired_imp h6 fun a b z => sameT e z⟩
/-- the wish of an error of the class at C that keeps v -/
def ErrK (E : XK) (C : Addr) (v : V) (H : Hp) : Prop := ∀ d H', Same H H' → H d = none → H' d = some (.xd [("at", v)]) → E (.ref C) (some d) H'
theorem ErrK.on {E : XK} {C : Addr} {v : V} {H H1 : Hp} (h : ErrK E C v H) (e : Same H H1) : ErrK E C v H1 := fun d H' s n x => h d H' (e.trans s) (e.free n) x

section
variable {P : Program} {w : World} {K : PySem.W.Frag} {mg : Str → Option Value} {base : Heap} {CM : Addr}
def spIsDeed (K : PySem.W.Frag) (CM : Addr) : Sp := fun vs H Q _ => ∃ m v T, vs = [.ref m, v] ∧ MachAt K CM H m T ∧ Vk K H v ∧ Q (.bl (numV v 0 ((T.length : Int) - 1))) H
theorem scIsDeed : FnScope ["machine", "value"] ["machine", "value"] (defScope sIsDeed) := ⟨rfl, rfl, rfl, by decide +kernel, rfl, by decide +kernel, by decide +kernel⟩
theorem ok_is_deed {f : Addr} {fd : FuncData} (F : Fun K "is_deed" "is_deed" sIsDeed f fd) (M : MachC K CM) (G : Has P w K mg base L2.CX0 1 "is_number" ["value", "least", "greatest"] (spIsNumber K)) : FnOk P w K mg base L2.CX0 2 f fd ["machine", "value"] (spIsDeed K CM) := by
  refine F.ok scIsDeed (fun vs H Q E h => ?_) (fun cdv A outer s H vs Q E hr h => ?_)
  · obtain ⟨m, v, T, rfl, _⟩ := h
    rfl
  · obtain ⟨m, v, T, rfl, hm, hv, q⟩ := h
    refine ⟨_, pss_one (ps_ret (pe_has G hr (by rfl) (pa_cons (pv 1) (pa_cons pe_int (pa_cons (pe_op op_sub (pe_fld (pv 0) rfl) pe_int) pa_nil))))), ?_⟩
    obtain ⟨dx, fs, t, as, h1, h2, h3, h4, h5, h6⟩ := hm.ex
    exact ⟨v, rfl, .ref m, rfl, m, CM, dx, fs, _, rfl, h1, M.cl, M.nD, h2, _, _, rfl, rfl, v, 0, _, rfl, hv, .inl ⟨_, rfl, q⟩⟩

def spIsState (K : PySem.W.Frag) (CM : Addr) : Sp := fun vs H Q _ => ∃ m v T, vs = [.ref m, v] ∧ MachAt K CM H m T ∧ Vk K H v ∧ Q (.bl (numV v 0 (((T.headD []).length : Int) - 1))) H
theorem scIsState : FnScope ["machine", "value"] ["machine", "value"] (defScope sIsState) := ⟨rfl, rfl, rfl, by decide +kernel, rfl, by decide +kernel, by decide +kernel⟩
theorem ok_is_state {f : Addr} {fd : FuncData} (F : Fun K "is_state" "is_state" sIsState f fd) (M : MachC K CM) (G : Has P w K mg base L2.CX0 1 "is_number" ["value", "least", "greatest"] (spIsNumber K)) : FnOk P w K mg base L2.CX0 2 f fd ["machine", "value"] (spIsState K CM) := by
  refine F.ok scIsState (fun vs H Q E h => ?_) (fun cdv A outer s H vs Q E hr h => ?_)
  · obtain ⟨m, v, T, rfl, _⟩ := h
    rfl
  · obtain ⟨m, v, T, rfl, hm, hv, q⟩ := h
    refine ⟨_, pss_one (ps_ret (pe_has G hr (by rfl) (pa_cons (pv 1) (pa_cons pe_int (pa_cons (pe_op op_sub (pe_fld (pv 0) rfl) pe_int) pa_nil))))), ?_⟩
    obtain ⟨dx, fs, t, as, h1, h2, h3, h4, h5, h6⟩ := hm.ex
    exact ⟨v, rfl, .ref m, rfl, m, CM, dx, fs, _, rfl, h1, M.cl, M.nS, h3, _, _, rfl, rfl, v, 0, _, rfl, hv, .inl ⟨_, rfl, q⟩⟩

/-! ### need_state, need_deed -/
/-- the wish of an error of the class at C whose field bears v -/
def ErrF (E : XK) (C : Addr) (fld : Str) (v : V) (H : Hp) : Prop := ∀ d H', Same H H' → H d = none → H' d = some (.xd [(fld, v)]) → E (.ref C) (some d) H'
theorem ErrF.on {E : XK} {C : Addr} {fld : Str} {v : V} {H H1 : Hp} (h : ErrF E C fld v H) (e : Same H H1) : ErrF E C fld v H1 := fun d H' s n x => h d H' (e.trans s) (e.free n) x
def spNeedState (K : PySem.W.Frag) (CM CS : Addr) : Sp := fun vs H Q E => ∃ m v T, vs = [.ref m, v] ∧ MachAt K CM H m T ∧ Vk K H v ∧ ((numV v 0 (((T.headD []).length : Int) - 1) = true ∧ Q v H) ∨ (numV v 0 (((T.headD []).length : Int) - 1) = false ∧ ErrF E CS "state" v H))
theorem scNeedState : FnScope ["machine", "state"] ["machine", "state"] (defScope sNeedState) := ⟨rfl, rfl, rfl, by decide +kernel, rfl, by decide +kernel, by decide +kernel⟩
theorem ok_need_state {f CS : Addr} {fd : FuncData} (F : Fun K "need_state" "need_state" sNeedState f fd) (Er : ErrQ P w K mg base "NoState" "state" CS) (G : Has P w K mg base L2.CX0 2 "is_state" ["machine", "value"] (spIsState K CM)) :
    FnOk P w K mg base (L2.CX P w) 3 f fd ["machine", "state"] (spNeedState K CM CS) := by
  refine F.okX scNeedState (fun vs H Q E h => ?_) (fun cdv A outer s H vs Q E hr h => ?_)
  · obtain ⟨m, v, T, rfl, _⟩ := h
    rfl
  · obtain ⟨m, v, T, rfl, hm, hv, h⟩ := h
    have tk : Takes (cxOf (L2.CX P w) P w K mg base ["machine", "state"] "need_state" (defScope sNeedState) f cdv A outer s H E) (fun cls d _ H => E cls d H) := takes_of rfl rfl rfl rfl
    refine ⟨_, pss_cons (ps_if (pt_not (pt_val (pe_has G (hr.mono (by decide)) (by rfl) (pa_cons (pv 0) (pa_cons (pv 1) pa_nil))))) (pss_one (ps_raiseQ rfl Er (hr.mono (by decide)) tk (pv 1))) pss_nil)
      (pss_one (ps_ret (pv 1))), ?_⟩
    refine ⟨.ref m, rfl, v, rfl, m, v, T, rfl, hm, hv, _, rfl, ?_⟩
    rcases h with ⟨e, q⟩ | ⟨e, er⟩
    · rw [e]
      exact iteF ⟨v, rfl, q⟩
    · rw [e]
      exact iteT ⟨v, rfl, err_in fun d H' s2 n x => er d H' s2 n x⟩
def spNeedDeed (K : PySem.W.Frag) (CM CS : Addr) : Sp := fun vs H Q E => ∃ m v T, vs = [.ref m, v] ∧ MachAt K CM H m T ∧ Vk K H v ∧ ((numV v 0 ((T.length : Int) - 1) = true ∧ Q v H) ∨ (numV v 0 ((T.length : Int) - 1) = false ∧ ErrF E CS "deed" v H))
theorem scNeedDeed : FnScope ["machine", "deed"] ["machine", "deed"] (defScope sNeedDeed) := ⟨rfl, rfl, rfl, by decide +kernel, rfl, by decide +kernel, by decide +kernel⟩
theorem ok_need_deed {f CS : Addr} {fd : FuncData} (F : Fun K "need_deed" "need_deed" sNeedDeed f fd) (Er : ErrQ P w K mg base "NoDeed" "deed" CS) (G : Has P w K mg base L2.CX0 2 "is_deed" ["machine", "value"] (spIsDeed K CM)) :
    FnOk P w K mg base (L2.CX P w) 3 f fd ["machine", "deed"] (spNeedDeed K CM CS) := by
  refine F.okX scNeedDeed (fun vs H Q E h => ?_) (fun cdv A outer s H vs Q E hr h => ?_)
  · obtain ⟨m, v, T, rfl, _⟩ := h
    rfl
  · obtain ⟨m, v, T, rfl, hm, hv, h⟩ := h
    have tk : Takes (cxOf (L2.CX P w) P w K mg base ["machine", "deed"] "need_deed" (defScope sNeedDeed) f cdv A outer s H E) (fun cls d _ H => E cls d H) := takes_of rfl rfl rfl rfl
    refine ⟨_, pss_cons (ps_if (pt_not (pt_val (pe_has G (hr.mono (by decide)) (by rfl) (pa_cons (pv 0) (pa_cons (pv 1) pa_nil))))) (pss_one (ps_raiseQ rfl Er (hr.mono (by decide)) tk (pv 1))) pss_nil)
      (pss_one (ps_ret (pv 1))), ?_⟩
    refine ⟨.ref m, rfl, v, rfl, m, v, T, rfl, hm, hv, _, rfl, ?_⟩
    rcases h with ⟨e, q⟩ | ⟨e, er⟩
    · rw [e]
      exact iteF ⟨v, rfl, q⟩
    · rw [e]
      exact iteT ⟨v, rfl, err_in fun d H' s2 n x => er d H' s2 n x⟩
/-- deeds -/
def isD (n : Nat) (x : V) : Bool := numV x 0 ((n : Int) - 1)
/-- what check_row asks of its caller -/
def CheckRow (K : PySem.W.Frag) (CR : Addr) (n : Nat) (v : V) (H : Hp) (Q : VK) (E : XK) : Prop :=
  ((Sca v ∨ ∃ xs, Seq K H v xs ∧ 400 < xs.length) ∧ ErrK E CR (.int (-1)) H) ∨
  (∃ xs, Seq K H v xs ∧ xs.length ≤ 400 ∧ (∀ x ∈ xs, Vk K H x) ∧
    ((∃ i x, xs[i]? = some x ∧ isD n x = false ∧ (∀ j y, j < i → xs[j]? = some y → isD n y = true) ∧ ErrK E CR (.int (i : Nat)) H) ∨
     ((∀ x ∈ xs, isD n x = true) ∧ ∀ H' r, Same H H' → SqT K H' r xs → Q (.ref r) H')))
def spCheckRow (K : PySem.W.Frag) (CM CR : Addr) : Sp := fun vs H Q E => ∃ m v T, vs = [.ref m, v] ∧ MachAt K CM H m T ∧ CheckRow K CR T.length v H Q E
theorem scCheckRow : FnScope ["machine", "value", "at", "deed"] ["machine", "value"] (defScope sCheckRow) := ⟨rfl, rfl, rfl, by decide +kernel, rfl, by decide +kernel, by decide +kernel⟩
theorem ok_check_row {f CR : Addr} {fd : FuncData} {tk : Tok} (F : Fun K "check_row" "check_row" sCheckRow f fd) (B : Bare mg) (gL : mg "LONGEST_ROW" = some (.int 400 tk)) (Er : Err P w K mg base "BadRow" "at" CR)
    (Gs : Has P w K mg base L2.CX0 1 "is_sequence" ["value", "fewest", "most"] (spIsSequence K)) (Gd : Has P w K mg base L2.CX0 2 "is_deed" ["machine", "value"] (spIsDeed K CM)) :
    FnOk P w K mg base (L2.CX P w) 4 f fd ["machine", "value"] (spCheckRow K CM CR) := by
  refine F.okX scCheckRow (fun vs H Q E h => ?_) (fun cdv A outer s H vs Q E hr h => ?_)
  · obtain ⟨m, v, T, rfl, _⟩ := h
    rfl
  · obtain ⟨m, v, T, rfl, hm, h⟩ := h
    have tk : Takes (cxOf (L2.CX P w) P w K mg base ["machine", "value", "at", "deed"] "check_row" (defScope sCheckRow) f cdv A outer s H E) (fun cls d _ H => E cls d H) := takes_of rfl rfl rfl rfl
    refine ⟨_, pss_cons (ps_if (pt_not (pt_val (pe_has Gs (hr.mono (by decide)) (by rfl) (pa_cons (pv 1) (pa_cons pe_int (pa_cons (pe_glob (v := .int 400) rfl gL ⟨_, rfl⟩) pa_nil)))))) (pss_one (ps_raiseErr rfl Er (hr.mono (by decide)) tk (pe_un un_neg pe_int))) pss_nil)
      (pss_cons (ps_for (passes_of rfl) rfl (pi_enumS (by rfl) B.enumerate (pa_cons (pv 1) pa_nil)) (pg_tup rfl (pgs_cons (pg_name (i := 2) scCheckRow.nd rfl (Or.inl rfl)) (pgs_cons (pg_name (i := 3) scCheckRow.nd rfl (Or.inl rfl)) pgs_nil)))
        (pss_one (ps_if (pt_not (pt_val (pe_has Gd (hr.mono (by decide)) (by rfl) (pa_cons (pv 0) (pa_cons (pv 3) pa_nil))))) (pss_one (ps_raiseErr rfl Er (hr.mono (by decide)) tk (pv 2))) pss_nil)))
      (pss_one (ps_ret (pe_callTy call_tuple_of (by rfl) B.tuple boot_tuple (pa_cons (pv 1) pa_nil))))), ?_⟩
    refine ⟨v, rfl, v, 0, 400, rfl, ?_⟩
    rcases h with ⟨hb, er⟩ | ⟨xs, hs, hl, hk, h⟩
    · have bad : ∀ H', Same H H' → ErrK E CR (.int (-1)) H' := fun H' s => er.on s
      rcases hb with hb | ⟨xs, hs, hl⟩
      · exact .inl ⟨hb, fun H1 s1 => ⟨false, rfl, iteT ⟨1, rfl, err_in fun d H' s2 n x => bad H1 s1 d H' s2 n x⟩⟩⟩
      · refine .inr ⟨xs, hs, fun H1 s1 => ⟨_, rfl, ?_⟩⟩
        have e : (decide ((0 : Int) ≤ (xs.length : Int)) && decide ((xs.length : Int) ≤ 400)) = false := by
          rw [Bool.and_eq_false_iff]
          exact .inr (decide_eq_false (by omega))
        rw [e]
        exact iteT ⟨1, rfl, err_in fun d H' s2 n x => bad H1 s1 d H' s2 n x⟩
    · refine .inr ⟨xs, hs, fun H1 s1 => ⟨_, rfl, ?_⟩⟩
      have e : (decide ((0 : Int) ≤ (xs.length : Int)) && decide ((xs.length : Int) ≤ 400)) = true := by
        rw [Bool.and_eq_true]
        exact ⟨decide_eq_true (by omega), decide_eq_true (by omega)⟩
      rw [e]
      refine iteF ?_
      -- the walk, over a list and over a tuple alike
      have Pv0 : ∀ H', Same H H' → ∀ j y, j < 0 → xs[j]? = some y → isD T.length y = true := fun _ _ j y z => absurd z (Nat.not_lt_zero j)
      have ret : ∀ (H2 : Hp), Same H H2 → (∀ j y, j < xs.length → xs[j]? = some y → isD T.length y = true) → ((∀ x ∈ xs, isD T.length x = true) ∧ ∀ H' r, Same H H' → SqT K H' r xs → Q (.ref r) H') := fun H2 s2 al => by
        rcases h with ⟨i, x, hx, hf, _⟩ | h
        · have lt := (List.getElem?_eq_some_iff.mp hx).1
          rw [al i x lt hx] at hf
          cases hf
        · exact h
      have ln : ∃ a : Addr, v = .ref a ∧ (SqL K H a xs ∨ SqT K H a xs) := by
        cases hs with
        | lst h => exact ⟨_, rfl, .inl h⟩
        | tup h => exact ⟨_, rfl, .inr h⟩
      obtain ⟨a, rfl, hq⟩ := ln
      refine ⟨.ref a, rfl, a, xs, rfl, ?_⟩
      rcases hq with hq | hq
      case' inl => refine .inl ⟨s1.seq hq, for_it walk_enum (fun i σ H2 => (∃ y2 y3, σ = [some (.ref m), some (.ref a), y2, y3]) ∧ Same H H2 ∧ ∀ j y, j < i → xs[j]? = some y → isD T.length y = true) ⟨⟨none, none, rfl⟩, s1, Pv0 H1 s1⟩ (fun i σ H2 _ hp => hp.2.1.seq hq) ?turn1 ?fin1⟩
      case' inr => refine .inr ⟨sameT s1 hq, for_it walk_enumT (fun i σ H2 => (∃ y2 y3, σ = [some (.ref m), some (.ref a), y2, y3]) ∧ Same H H2 ∧ ∀ j y, j < i → xs[j]? = some y → isD T.length y = true) ⟨⟨none, none, rfl⟩, s1, Pv0 H1 s1⟩ (fun i σ H2 _ hp => sameT hp.2.1 hq) ?turn2 ?fin2⟩
      case turn1 | turn2 =>
           rintro i x σ H2 H3 hi ⟨⟨y2, y3, rfl⟩, s2, al⟩ ⟨Tp, x1, x2, rfl, nT, rfl, e1, e2⟩
           have ex1 : x1 = .int (i : Nat) := (Option.some.inj e1).symm
           subst ex1
           have s3 : Same H2 (upd H2 Tp (.tup [.int (i : Nat), x2])) := same_new nT
           have s4 := s2.trans s3
           have mem : x2 ∈ xs := List.mem_of_getElem? e2
           refine ⟨Tp, _, rfl, .inl (.inl upd_same), rfl, .int (i : Nat), [x2], rfl, x2, [], rfl, rfl, ?_⟩
           refine ⟨.ref m, rfl, x2, rfl, m, x2, T, rfl, hm.same s4, (hk x2 mem).same s4, _, rfl, ?_⟩
           refine ite2 (fun c => ?_) (fun c => ?_)
           · have bad : isD T.length x2 = false := by simpa [isD] using c
             rcases h with ⟨k, x, hx, hf, hb, er⟩ | ⟨h, _⟩
             · have ek : k = i := by
                 rcases Nat.lt_trichotomy k i with z | z | z
                 · rw [al k x z hx] at hf
                   cases hf
                 · exact z
                 · rw [hb i x2 z e2] at bad
                   cases bad
               subst ek
               exact ⟨.int (k : Nat), rfl, err_in fun d H' s5 n z => er.on s4 d H' s5 n z⟩
             · rw [h x2 mem] at bad
               cases bad
           · have good : isD T.length x2 = true := by simpa [isD] using c
             refine ⟨⟨_, _, rfl⟩, s4, fun j y hj hy => ?_⟩
             rcases Nat.lt_or_ge j i with z | z
             · exact al j y z hy
             · have ej : j = i := by omega
               subst ej
               have e3 : xs[j]? = some x2 := e2
               rw [hy] at e3
               cases e3
               exact good
      case fin1 | fin2 =>
           rintro σ H2 ⟨⟨y2, y3, rfl⟩, s2, al⟩
           obtain ⟨_, q⟩ := ret H2 s2 al
           refine ⟨.ref a, rfl, a, xs, rfl, ?_⟩
           first
             | exact .inl ⟨s2.seq hq, fun r nr => q _ r (s2.trans (same_new nr)) (.inl (.inl upd_same))⟩
             | exact .inr ⟨sameT s2 hq, q H2 a s2 (sameT s2 hq)⟩
end
end Pg

set_option Elab.async false
set_option linter.all false
set_option maxRecDepth 100000
set_option maxHeartbeats 4000000
namespace Pg
open PySem PySem.Spec PyProof.Rows L2 Lx
section
variable {P : Program} {w : World} {K : PySem.W.Frag} {mg : Str → Option Value} {base : Heap} {CM : Addr}
theorem Seq.cases {K : PySem.W.Frag} {H : Hp} {v : V} {xs : List V} (h : Lx.Seq K H v xs) : ∃ a : Addr, v = .ref a ∧ (SqL K H a xs ∨ SqT K H a xs) := by
  cases h with
  | lst h => exact ⟨_, rfl, .inl h⟩
  | tup h => exact ⟨_, rfl, .inr h⟩

/-! ### _is_table -/
def spIsTable (K : PySem.W.Frag) : Sp := fun vs H Q _ => ∃ v u, vs = [v, u] ∧
  ((Sca v ∧ ∀ H', Same H H' → Q (.bl false) H') ∨
   (∃ xs, Lx.Seq K H v xs ∧ ¬ (1 ≤ xs.length ∧ xs.length ≤ 8) ∧ ∀ H', Same H H' → Q (.bl false) H') ∨
   (∃ xs ys, Lx.Seq K H v xs ∧ Lx.Seq K H u ys ∧ 1 ≤ xs.length ∧ xs.length ≤ 8 ∧ (∀ x ∈ xs, Vk K H x) ∧
     ∀ H', Same H H' → Q (.bl (decide (xs.length = ys.length) && xs.all (fun x => isD xs.length x))) H'))
theorem scIsTable : FnScope ["value", "first", "state"] ["value", "first"] (defScope sIsTable) := ⟨rfl, rfl, rfl, by decide +kernel, rfl, by decide +kernel, by decide +kernel⟩
theorem ok_is_table {f : Addr} {fd : FuncData} {tk : Tok} (F : Fun K "_is_table" "_is_table" sIsTable f fd) (B : Bare mg) (gL : mg "MOST_STATES" = some (.int 8 tk))
    (Gs : Has P w K mg base L2.CX0 1 "is_sequence" ["value", "fewest", "most"] (spIsSequence K)) (Gn : Has P w K mg base L2.CX0 1 "is_number" ["value", "least", "greatest"] (spIsNumber K)) :
    FnOk P w K mg base L2.CX0 2 f fd ["value", "first"] (spIsTable K) := by
  refine F.ok scIsTable (fun vs H Q E h => ?_) (fun cdv A outer s H vs Q E hr h => ?_)
  · obtain ⟨v, u, rfl, _⟩ := h
    rfl
  · obtain ⟨v, u, rfl, h⟩ := h
    refine ⟨_, pss_cons (ps_if (PW.pt (pw_or (pt_not (pt_val (pe_has Gs hr (by rfl) (pa_cons (pv 0) (pa_cons pe_int (pa_cons (pe_glob (v := .int 8) rfl gL ⟨_, rfl⟩) pa_nil))))))
        (pw_or1 (pt_cmpR op_ne (pe_callB call_len_seq (by rfl) B.len PySem.boot_len (pa_cons (pv 0) pa_nil)) (pe_callB call_len_seq (by rfl) B.len PySem.boot_len (pa_cons (pv 1) pa_nil)) (nomark _)))))
        (pss_one (ps_ret pe_bl)) pss_nil)
      (pss_one (ps_ret (pe_callB (cr_all rfl) (by rfl) B.all (by decide +kernel) (pa_cons
        (pe_lc (own := [("state", 2)]) (g := gName 2) (tt := tYes) rfl scIsTable.nd (pi_seq (pv 0)) (blkOk_by (N := ["value", "first", "state"]) (sc := defScope sIsTable) (by decide +kernel))
          (fun _ _ _ _ _ => pg_name (i := 2) scIsTable.nd rfl (Or.inl rfl)) (fun _ _ _ _ _ => pts_nil)
          (fun _ _ _ _ _ => pe_has Gn hr (by rfl) (pa_cons (pv 2) (pa_cons pe_int (pa_cons (pe_op op_sub (pe_callB (r := rLenS K) lenS (by rfl) B.len PySem.boot_len (pa_cons (pv 0) pa_nil)) pe_int) pa_nil))))) pa_nil)))), ?_⟩
    refine ⟨v, rfl, v, 1, 8, rfl, ?_⟩
    rcases h with ⟨hv, q⟩ | ⟨xs, hs, hn, q⟩ | ⟨xs, ys, hs, hu, h1, h8, hk, q⟩
    · exact .inl ⟨hv, fun H1 s1 => ⟨_, rfl, iteT (iteT (q H1 s1))⟩⟩
    · refine .inr ⟨xs, hs, fun H1 s1 => ⟨_, rfl, ?_⟩⟩
      have e : (decide ((1 : Int) ≤ (xs.length : Int)) && decide ((xs.length : Int) ≤ 8)) = false := by
        rw [← Bool.not_eq_true, Bool.and_eq_true, decide_eq_true_eq, decide_eq_true_eq]
        omega
      rw [e]
      exact iteT (iteT (q H1 s1))
    · refine .inr ⟨xs, hs, fun H1 s1 => ⟨_, rfl, ?_⟩⟩
      have e : (decide ((1 : Int) ≤ (xs.length : Int)) && decide ((xs.length : Int) ≤ 8)) = true := by
        rw [Bool.and_eq_true, decide_eq_true_eq, decide_eq_true_eq]
        omega
      rw [e]
      refine iteF ?_
      obtain ⟨a, rfl, ha⟩ := Seq.cases (hs.same s1)
      obtain ⟨b, rfl, hb⟩ := Seq.cases (hu.same s1)
      refine ⟨.ref a, rfl, a, xs, rfl, ha, .ref b, rfl, b, ys, rfl, hb, rfl, _, rfl, ?_⟩
      refine ite2 (fun c => ?_) (fun c => ?_)
      · have ne : ¬ xs.length = ys.length := fun z => by
          rw [z] at c
          simp at c
        have z := q H1 s1
        rw [decide_eq_false ne] at z
        exact z
      · have eq : xs.length = ys.length := by
          by_cases z : xs.length = ys.length
          · exact z
          · have : (V.int (xs.length : Int)) ≠ V.int (ys.length : Int) := fun y => z (by injection y with y; omega)
            simp [this] at c
        refine ⟨.ref a, rfl, a, rfl, ?_⟩
        have fin : ∀ (D : Addr) (H2 : Hp), PvF (fun _ => true) (fun i => .bl (isD xs.length (xs.getD i .non))) H1 D xs.length H2 → ∃ (a : Addr) (bs : List Bool), [V.ref D] = [V.ref a] ∧ SqL K H2 a (bs.map V.bl) ∧ Q (.bl (bs.all id)) H2 := fun D H2 hp => by
          refine ⟨D, xs.map (fun x => isD xs.length x), rfl, .inl (.inl ?_), ?_⟩
          · rw [hp.2, filter_true]
            rw [range_get_map (fun x => V.bl (isD xs.length x)), List.map_map]
            rfl
          · have z := q H2 (s1.trans hp.1)
            rw [decide_eq_true eq, Bool.true_and] at z
            rw [List.all_map]
            exact z
        have turn : ∀ (i : Nat) (x : V), xs[i]? = some x → x = xs.getD i .non := fun i x e => by
          rw [List.getD_eq_getElem?_getD, e]
          rfl
        rcases ha with ha | ha
        case' inl =>
          refine .inl ⟨xs, ha, fun D nD => ?_⟩
          refine lc_it (walk_list (xs := xs)) (PvF (fun _ => true) (fun i => .bl (isD xs.length (xs.getD i .non))) H1 D) (pvf0 nD) (fun i H2 _ hp => hp.1.seq ha) ?t1 (fin D)
        case' inr =>
          refine .inr ⟨xs, ha, fun D nD => ?_⟩
          refine lc_it (walk_tup (xs := xs)) (PvF (fun _ => true) (fun i => .bl (isD xs.length (xs.getD i .non))) H1 D) (pvf0 nD) (fun i H2 _ hp => sameT hp.1 ha) ?t2 (fin D)
        case inl | inr =>
          rintro i x H2 H3 hi hp ⟨rfl, ex⟩
          have mem : x ∈ xs := List.mem_of_getElem? ex
          have lst : SqL K H3 a xs ∨ SqT K H3 a xs := by
            first
              | exact .inl (hp.1.seq ha)
              | exact .inr (sameT hp.1 ha)
          refine ⟨rfl, yes_in ?_⟩
          refine ⟨x, rfl, .ref a, rfl, a, xs, rfl, lst, _, _, rfl, rfl, x, 0, _, rfl, (hk x mem).same (s1.trans hp.1), .inl ⟨_, rfl, ?_⟩⟩
          exact pvf_put nD hp (Same.refl _) rfl (by rw [← turn i x ex]; rfl) (by omega)
end
end Pg

set_option Elab.async false
set_option linter.all false
set_option maxRecDepth 100000
set_option maxHeartbeats 4000000
namespace Pg
open PySem PySem.Spec PyProof.Rows L2 Lx
/-- tables that make a machine: by deed by state the next one -/
structure Tabs (T : List (List Int)) : Prop where
  some1 : 1 ≤ T.length
  most4 : T.length ≤ 4
  rows : ∃ n : Nat, 1 ≤ n ∧ n ≤ 8 ∧ ∀ row ∈ T, row.length = n ∧ ∀ z ∈ row, 0 ≤ z ∧ z < n
/-- all but the object at x -/
def SameBut (x : Addr) (H H' : Hp) : Prop := ∀ b o, H b = some o → b ≠ x → H' b = some o
theorem SameBut.of {x : Addr} {H H' : Hp} (e : Same H H') : SameBut x H H' := fun b o h _ => e b o h
theorem SameBut.trans {x : Addr} {H H1 H2 : Hp} (e : SameBut x H H1) (e' : SameBut x H1 H2) : SameBut x H H2 := fun b o h n => e' b o (e b o h n) n
theorem SameBut.put {x : Addr} {H : Hp} {o : HO} : SameBut x H (upd H x o) := fun b u h n => by rw [upd_ne n]; exact h
theorem SameBut.seq {K : PySem.W.Frag} {x a : Addr} {H H' : Hp} {v : V} {xs : List V} (e : SameBut x H H') (hx : ∃ C dx fs, H x = some (.ins C dx fs)) (h : Lx.Seq K H v xs) : Lx.Seq K H' v xs := by
  obtain ⟨C, dx, fs, hx⟩ := hx
  cases h with
  | lst h =>
    rcases h with (h | ⟨o, h⟩) | h
    · exact .lst (.inl (.inl (e _ _ h (ne_of h hx (fun z => by cases z)))))
    · exact .lst (.inl (.inr ⟨o, e _ _ h (ne_of h hx (fun z => by cases z))⟩))
    · exact .lst (.inr h)
  | tup h =>
    rcases h with (h | ⟨o, h⟩) | h
    · exact .tup (.inl (.inl (e _ _ h (ne_of h hx (fun z => by cases z)))))
    · exact .tup (.inl (.inr ⟨o, e _ _ h (ne_of h hx (fun z => by cases z))⟩))
    · exact .tup (.inr h)
theorem SameBut.tup {K : PySem.W.Frag} {x a : Addr} {H H' : Hp} {xs : List V} (e : SameBut x H H') (hx : ∃ C dx fs, H x = some (.ins C dx fs)) (h : SqT K H a xs) : SqT K H' a xs := by
  obtain ⟨C, dx, fs, hx⟩ := hx
  rcases h with (h | ⟨o, h⟩) | h
  · exact .inl (.inl (e _ _ h (ne_of h hx (fun z => by cases z))))
  · exact .inl (.inr ⟨o, e _ _ h (ne_of h hx (fun z => by cases z))⟩)
  · exact .inr h
theorem paired_len {α β : Type} {F : α → β → Prop} : ∀ {l : List α} {r : List β}, Paired F l r → l.length = r.length
  | _, _, .nil => rfl
  | _, _, .cons _ t => by simp [paired_len t]
theorem paired_get {α β : Type} {F : α → β → Prop} : ∀ {l : List α} {r : List β} {i : Nat} {x : α}, Paired F l r → l[i]? = some x → ∃ y, r[i]? = some y ∧ F x y
  | _, _, _, _, .nil, h => by simp at h
  | _, _, 0, _, .cons h t, e => by
    simp at e
    subst e
    exact ⟨_, rfl, h⟩
  | _, _, i + 1, _, .cons h t, e => by
    obtain ⟨y, h1, h2⟩ := paired_get (i := i) t (by simpa using e)
    exact ⟨y, by simpa using h1, h2⟩
theorem paired_snoc {α β : Type} {F : α → β → Prop} : ∀ {l : List α} {r : List β} {x : α} {y : β}, Paired F l r → F x y → Paired F (l ++ [x]) (r ++ [y])
  | _, _, _, _, .nil, h => .cons h .nil
  | _, _, _, _, .cons h t, k => .cons h (paired_snoc t k)
section
variable {P : Program} {w : World} {K : PySem.W.Frag} {mg : Str → Option Value} {base : Heap} {CM : Addr}
/-- v is a list or tuple of lists or tuples that make up the tables T -/
def TabV (K : PySem.W.Frag) (H : Hp) (v : V) (T : List (List Int)) : Prop := ∃ as : List Addr, Lx.Seq K H v (as.map V.ref) ∧ Paired (fun (a : Addr) (row : List Int) => Lx.Seq K H (.ref a) (row.map V.int)) as T
theorem TabV.same {H H' : Hp} {v : V} {T : List (List Int)} (h : TabV K H v T) (e : Same H H') : TabV K H' v T := by
  obtain ⟨as, h1, h2⟩ := h
  exact ⟨as, h1.same e, paired_imp h2 fun a b z => z.same e⟩
/-- what is no table beside the first one, u; what is one -/
def TabIs (K : PySem.W.Frag) (H : Hp) (x u : V) (b : Bool) : Prop := ∃ zs ys, Lx.Seq K H x zs ∧ Lx.Seq K H u ys ∧ 1 ≤ zs.length ∧ zs.length ≤ 8 ∧ (∀ z ∈ zs, Vk K H z) ∧ (decide (zs.length = ys.length) && zs.all (fun z => isD zs.length z)) = b
def TabBad (K : PySem.W.Frag) (H : Hp) (x u : V) : Prop := Sca x ∨ (∃ zs, Lx.Seq K H x zs ∧ ¬ (1 ≤ zs.length ∧ zs.length ≤ 8)) ∨ TabIs K H x u false
def MachBad (K : PySem.W.Frag) (CB : Addr) (v : V) (H : Hp) (E : XK) : Prop :=
  ((Sca v ∨ ∃ xs, Lx.Seq K H v xs ∧ ¬ (1 ≤ xs.length ∧ xs.length ≤ 4)) ∧ ErrK E CB (.int (-1)) H) ∨
  (∃ xs u, Lx.Seq K H v xs ∧ 1 ≤ xs.length ∧ xs.length ≤ 4 ∧ xs[0]? = some u ∧ ∃ i x, xs[i]? = some x ∧ TabBad K H x u ∧ (∀ j y, j < i → xs[j]? = some y → TabIs K H y u true) ∧ ErrK E CB (.int (i : Nat)) H)
def spMachine (K : PySem.W.Frag) (CM CB : Addr) : Sp := fun vs H Q E => ∃ x dx v, vs = [.ref x, v] ∧ H x = some (.ins CM dx []) ∧ (MachBad K CB v H E ∨ ∃ T, Tabs T ∧ TabV K H v T ∧ ∀ H', SameBut x H H' → MachAt K CM H' x T → Q .non H')
def PvM (K : PySem.W.Frag) (H2 : Hp) (D : Addr) (T : List (List Int)) (i : Nat) (H3 : Hp) : Prop :=
  Same H2 H3 ∧ ∃ bs : List Addr, H3 D = some (.lst (bs.map V.ref)) ∧ bs.length = i ∧ Paired (fun (b : Addr) (row : List Int) => SqT K H3 b (row.map V.int)) bs (T.take i)
abbrev sMachineInit : Stmt := inClass cMachine 0
theorem scMachineInit : FnScope ["self", "tables", "at", "table"] ["self", "tables"] (defScope sMachineInit) := ⟨rfl, rfl, rfl, by decide +kernel, rfl, by decide +kernel, by decide +kernel⟩
theorem ok_machine {f CB : Addr} {fd : FuncData} {tk : Tok} (F : Fun K "__init__" "Machine.__init__" sMachineInit f fd) (B : Bare mg) (M : MachC K CM) (gL : mg "MOST_DEEDS" = some (.int 4 tk)) (Er : Err P w K mg base "BadMachine" "at" CB)
    (Gs : Has P w K mg base L2.CX0 1 "is_sequence" ["value", "fewest", "most"] (spIsSequence K)) (Gt : Has P w K mg base L2.CX0 2 "_is_table" ["value", "first"] (spIsTable K)) :
    FnOk P w K mg base (L2.CX P w) 3 f fd ["self", "tables"] (spMachine K CM CB) := by
  refine F.okX scMachineInit (fun vs H Q E h => ?_) (fun cdv A outer s H vs Q E hr h => ?_)
  · obtain ⟨x, dx, v, rfl, _⟩ := h
    rfl
  · obtain ⟨x, dx, v, rfl, hx, h⟩ := h
    have tk : Takes (cxOf (L2.CX P w) P w K mg base ["self", "tables", "at", "table"] "Machine.__init__" (defScope sMachineInit) f cdv A outer s H E) (fun cls d _ H => E cls d H) := takes_of rfl rfl rfl rfl
    refine ⟨_, pss_cons (ps_if (pt_not (pt_val (pe_has Gs (hr.mono (by decide)) (by rfl) (pa_cons (pv 1) (pa_cons pe_int (pa_cons (pe_glob (v := .int 4) rfl gL ⟨_, rfl⟩) pa_nil)))))) (pss_one (ps_raiseErr rfl Er (hr.mono (by decide)) tk (pe_un un_neg pe_int))) pss_nil)
      (pss_cons (ps_for (passes_of rfl) rfl (pi_enumS (by rfl) B.enumerate (pa_cons (pv 1) pa_nil)) (pg_tup rfl (pgs_cons (pg_name (i := 2) scMachineInit.nd rfl (Or.inl rfl)) (pgs_cons (pg_name (i := 3) scMachineInit.nd rfl (Or.inl rfl)) pgs_nil)))
        (pss_one (ps_if (pt_not (pt_val (pe_has Gt hr (by rfl) (pa_cons (pv 3) (pa_cons (pe_ix ix_seq (pv 1) pe_int (fun _ _ => rfl)) pa_nil))))) (pss_one (ps_raiseErr rfl Er (hr.mono (by decide)) tk (pv 2))) pss_nil)))
      (pss_cons (ps_fld (pv 0) (pe_callTy call_tuple_of (by rfl) B.tuple boot_tuple (pa_cons
          (pe_lc (own := [("table", 3)]) (g := gName 3) (tt := tYes) rfl scMachineInit.nd (pi_seq (pv 1)) (blkOk_by (N := ["self", "tables", "at", "table"]) (sc := defScope sMachineInit) (by decide +kernel))
            (fun _ _ _ _ _ => pg_name (i := 3) scMachineInit.nd rfl (Or.inl rfl)) (fun _ _ _ _ _ => pts_nil)
            (fun _ _ _ _ _ => pe_callTy (r := rTupOf K) tupOf (by rfl) B.tuple boot_tuple (pa_cons (pv 3) pa_nil))) pa_nil)) rfl)
      (pss_cons (ps_fld (pv 0) (pe_callB lenS (by rfl) B.len PySem.boot_len (pa_cons (pe_fld (pv 0) rfl) pa_nil)) rfl)
      (pss_one (ps_fld (pv 0) (pe_callB lenS (by rfl) B.len PySem.boot_len (pa_cons (pe_ix ix_tup (pe_fld (pv 0) rfl) pe_int (fun _ _ => rfl)) pa_nil)) rfl))))), ?_⟩
    rcases h with h | ⟨T, hT, hv, q⟩
    · -- what is no machine
      rcases h with ⟨hb, er⟩ | ⟨xs, u, hs, h1, h4, h0, k, z, hz, bad, good, er⟩
      · rcases hb with hb | ⟨xs, hs, hl⟩
        · exact ⟨v, rfl, v, 1, 4, rfl, .inl ⟨hb, fun H1 s1 => ⟨false, rfl, iteT ⟨1, rfl, err_in fun d H' s2 n x => er.on s1 d H' s2 n x⟩⟩⟩⟩
        · refine ⟨v, rfl, v, 1, 4, rfl, .inr ⟨xs, hs, fun H1 s1 => ⟨_, rfl, ?_⟩⟩⟩
          have e : (decide ((1 : Int) ≤ (xs.length : Int)) && decide ((xs.length : Int) ≤ 4)) = false := by
            rw [← Bool.not_eq_true, Bool.and_eq_true, decide_eq_true_eq, decide_eq_true_eq]
            omega
          rw [e]
          exact iteT ⟨1, rfl, err_in fun d H' s2 n x => er.on s1 d H' s2 n x⟩
      · refine ⟨v, rfl, v, 1, 4, rfl, .inr ⟨xs, hs, fun H1 s1 => ⟨_, rfl, ?_⟩⟩⟩
        have e : (decide ((1 : Int) ≤ (xs.length : Int)) && decide ((xs.length : Int) ≤ 4)) = true := by
          rw [Bool.and_eq_true, decide_eq_true_eq, decide_eq_true_eq]
          omega
        rw [e]
        refine iteF ?_
        have lk := (List.getElem?_eq_some_iff.mp hz).1
        obtain ⟨a, rfl, hq⟩ := Seq.cases hs
        refine ⟨.ref a, rfl, a, xs, rfl, ?_⟩
        rcases hq with hq | hq
        case' inl => refine .inl ⟨s1.seq hq, for_it walk_enum (fun i σ H2 => (∃ y2 y3, σ = [some (.ref x), some (.ref a), y2, y3]) ∧ Same H H2 ∧ i ≤ k) ⟨⟨none, none, rfl⟩, s1, Nat.zero_le _⟩ (fun i σ H2 _ hp => hp.2.1.seq hq) ?turn1 ?fin1⟩
        case' inr => refine .inr ⟨sameT s1 hq, for_it walk_enumT (fun i σ H2 => (∃ y2 y3, σ = [some (.ref x), some (.ref a), y2, y3]) ∧ Same H H2 ∧ i ≤ k) ⟨⟨none, none, rfl⟩, s1, Nat.zero_le _⟩ (fun i σ H2 _ hp => sameT hp.2.1 hq) ?turn2 ?fin2⟩
        case turn1 | turn2 =>
          rintro i y σ H2 H3 hi ⟨⟨y2, y3, rfl⟩, s2, ik⟩ ⟨Tp, x1, x2, rfl, nT, rfl, e1, e2⟩
          have ex1 : x1 = .int (i : Nat) := (Option.some.inj e1).symm
          subst ex1
          have s4 : Same H (upd H2 Tp (.tup [.int (i : Nat), x2])) := s2.trans (same_new nT)
          refine ⟨Tp, _, rfl, .inl (.inl upd_same), rfl, _, [x2], rfl, x2, [], rfl, rfl, ?_⟩
          have ix0 : ∀ Qx : VK, Qx u (upd H2 Tp (.tup [.int (i : Nat), x2])) → rIx K (.ref a) (.int 0) (upd H2 Tp (.tup [.int (i : Nat), x2])) Qx := fun Qx z => by
            first
              | exact .inl ⟨a, _, 0, _, rfl, rfl, s4.seq hq, atI_nat (j := 0) h0, z⟩
              | exact .inr (.inl ⟨a, _, 0, _, rfl, rfl, sameT s4 hq, atI_nat (j := 0) h0, z⟩)
          refine ⟨x2, rfl, .ref a, rfl, ix0 _ ?_⟩
          rcases Nat.lt_or_ge i k with lt | ge
          · obtain ⟨zs, ys, g1, g2, g3, g4, g5, g6⟩ := good i x2 lt e2
            refine ⟨x2, u, rfl, .inr (.inr ⟨zs, ys, g1.same s4, g2.same s4, g3, g4, fun z hz => (g5 z hz).same s4, fun H5 s5 => ⟨_, rfl, ?_⟩⟩)⟩
            rw [g6]
            exact iteF ⟨⟨_, _, rfl⟩, s4.trans s5, lt⟩
          · have ek : i = k := Nat.le_antisymm ik ge
            subst ek
            have e3 : xs[i]? = some x2 := e2
            rw [hz] at e3
            cases e3
            have fin : ∀ H5, Same (upd H2 Tp (.tup [.int (i : Nat), z])) H5 → ErrK E CB (.int (i : Nat)) H5 := fun H5 s5 => er.on (s4.trans s5)
            rcases bad with hb | ⟨zs, g1, g2⟩ | hb
            · exact ⟨z, u, rfl, .inl ⟨hb, fun H5 s5 => ⟨_, rfl, iteT ⟨.int (i : Nat), rfl, err_in fun d H' s6 n w => fin H5 s5 d H' s6 n w⟩⟩⟩⟩
            · exact ⟨z, u, rfl, .inr (.inl ⟨zs, g1.same s4, g2, fun H5 s5 => ⟨_, rfl, iteT ⟨.int (i : Nat), rfl, err_in fun d H' s6 n w => fin H5 s5 d H' s6 n w⟩⟩⟩)⟩
            · obtain ⟨zs, ys, g1, g2, g3, g4, g5, g6⟩ := hb
              refine ⟨z, u, rfl, .inr (.inr ⟨zs, ys, g1.same s4, g2.same s4, g3, g4, fun z hz => (g5 z hz).same s4, fun H5 s5 => ⟨_, rfl, ?_⟩⟩)⟩
              rw [g6]
              exact iteT ⟨.int (i : Nat), rfl, err_in fun d H' s6 n w => fin H5 s5 d H' s6 n w⟩
        case fin1 | fin2 =>
          rintro σ H2 ⟨_, _, ik⟩
          omega
    obtain ⟨as, hs, hp⟩ := hv
    obtain ⟨n, n1, n8, hrow⟩ := hT.rows
    have lenT : as.length = T.length := paired_len hp
    have lenM : ((as.map V.ref).length : Int) = T.length := by rw [List.length_map, lenT]
    refine ⟨v, rfl, v, 1, 4, rfl, .inr ⟨as.map V.ref, hs, fun H1 s1 => ⟨_, rfl, ?_⟩⟩⟩
    have e : (decide ((1 : Int) ≤ ((as.map V.ref).length : Int)) && decide (((as.map V.ref).length : Int) ≤ 4)) = true := by
      rw [lenM, Bool.and_eq_true, decide_eq_true_eq, decide_eq_true_eq]
      have := hT.some1
      have := hT.most4
      omega
    rw [e]
    refine iteF ?_
    have row_of : ∀ (i : Nat) (y : V), (as.map V.ref)[i]? = some y → ∃ (b : Addr) (row : List Int), y = .ref b ∧ T[i]? = some row ∧ Lx.Seq K H (.ref b) (row.map V.int) := fun i y h => by
      rw [List.getElem?_map] at h
      cases ei : as[i]? with
      | none =>
        rw [ei] at h
        cases h
      | some b =>
        rw [ei] at h
        cases h
        obtain ⟨row, h1, h2⟩ := paired_get hp ei
        exact ⟨b, row, rfl, h1, h2⟩
    obtain ⟨row0, T', eT⟩ : ∃ row0 T', T = row0 :: T' := by
      cases T with
      | nil => exact absurd hT.some1 (by decide)
      | cons a b => exact ⟨a, b, rfl⟩
    obtain ⟨b0, as', eA⟩ : ∃ b0 as', as = b0 :: as' := by
      cases as with
      | nil =>
        rw [eT] at lenT
        simp at lenT
      | cons a b => exact ⟨a, b, rfl⟩
    have at0 : (as.map V.ref)[0]? = some (.ref b0) := by rw [eA]; rfl
    have seq0 : Lx.Seq K H (.ref b0) (row0.map V.int) := by
      obtain ⟨b, row, h1, h2, h3⟩ := row_of 0 _ at0
      cases h1
      rw [eT] at h2
      cases h2
      exact h3
    have hr0 := hrow row0 (by rw [eT]; exact List.mem_cons_self)
    obtain ⟨a, rfl, hq⟩ := Seq.cases hs
    refine ⟨.ref a, rfl, a, as.map V.ref, rfl, ?_⟩
    rcases hq with hq | hq
    case' inl => refine .inl ⟨s1.seq hq, for_it walk_enum (fun i σ H2 => (∃ y2 y3, σ = [some (.ref x), some (.ref a), y2, y3]) ∧ Same H H2) ⟨⟨none, none, rfl⟩, s1⟩ (fun i σ H2 _ hp => hp.2.seq hq) ?turn1 ?fin1⟩
    case' inr => refine .inr ⟨sameT s1 hq, for_it walk_enumT (fun i σ H2 => (∃ y2 y3, σ = [some (.ref x), some (.ref a), y2, y3]) ∧ Same H H2) ⟨⟨none, none, rfl⟩, s1⟩ (fun i σ H2 _ hp => sameT hp.2 hq) ?turn2 ?fin2⟩
    case turn1 | turn2 =>
      rintro i y σ H2 H3 hi ⟨⟨y2, y3, rfl⟩, s2⟩ ⟨Tp, x1, x2, rfl, nT, rfl, e1, e2⟩
      have s4 : Same H (upd H2 Tp (.tup [x1, x2])) := s2.trans (same_new nT)
      obtain ⟨b, row, rfl, hb, hsb⟩ := row_of i x2 e2
      obtain ⟨hr1, hr2⟩ := hrow row (List.mem_of_getElem? hb)
      refine ⟨Tp, _, rfl, .inl (.inl upd_same), rfl, x1, [.ref b], rfl, .ref b, [], rfl, rfl, ?_⟩
      have ix0 : ∀ Qx : VK, Qx (.ref b0) (upd H2 Tp (.tup [x1, .ref b])) → rIx K (.ref a) (.int 0) (upd H2 Tp (.tup [x1, .ref b])) Qx := fun Qx z => by
        first
          | exact .inl ⟨a, _, 0, _, rfl, rfl, s4.seq hq, atI_nat (j := 0) at0, z⟩
          | exact .inr (.inl ⟨a, _, 0, _, rfl, rfl, sameT s4 hq, atI_nat (j := 0) at0, z⟩)
      refine ⟨.ref b, rfl, .ref a, rfl, ix0 _ ?_⟩
      refine ⟨.ref b, .ref b0, rfl, .inr (.inr ⟨row.map V.int, row0.map V.int, hsb.same s4, seq0.same s4, by rw [List.length_map]; omega, by rw [List.length_map]; omega, ?_, fun H5 s5 => ⟨_, rfl, ?_⟩⟩)⟩
      · intro z hz
        obtain ⟨k, _, rfl⟩ := List.mem_map.mp hz
        exact .int k
      · have ok : (decide ((row.map V.int).length = (row0.map V.int).length) && (row.map V.int).all (fun x => isD (row.map V.int).length x)) = true := by
          rw [Bool.and_eq_true, decide_eq_true_eq, List.all_eq_true]
          refine ⟨by rw [List.length_map, List.length_map]; omega, fun z hz => ?_⟩
          obtain ⟨k, hk, rfl⟩ := List.mem_map.mp hz
          have := hr2 k hk
          rw [List.length_map]
          simp only [isD, numV, Bool.and_eq_true, decide_eq_true_eq]
          omega
        rw [ok]
        exact iteF ⟨⟨_, _, rfl⟩, s4.trans s5⟩
    case fin1 | fin2 =>
      rintro σ H2 ⟨⟨y2, y3, rfl⟩, s2⟩
      refine ⟨.ref a, rfl, a, rfl, ?_⟩
      -- tuple([tuple(table) for table in tables])
      have elem : ∀ (D : Addr), H2 D = none → ∀ (i : Nat) (H3 : Hp) (b : Addr) (row : List Int), T[i]? = some row → Lx.Seq K H (.ref b) (row.map V.int) → Same H2 H3 → (bs : List Addr) → H3 D = some (.lst (bs.map V.ref)) → bs.length = i → Paired (fun (b : Addr) (row : List Int) => SqT K H3 b (row.map V.int)) bs (T.take i) →
          ∀ (c : Addr) (H4 : Hp), Same H3 H4 → SqT K H4 c (row.map V.int) → ∃ acc, H4 D = some (.lst acc) ∧ acc.length < sizeLine ∧ (Same H2 (upd H4 D (.lst (acc ++ [.ref c]))) ∧ ∃ bs : List Addr, upd H4 D (.lst (acc ++ [.ref c])) D = some (.lst (bs.map V.ref)) ∧ bs.length = i + 1 ∧
            Paired (fun (b : Addr) (row : List Int) => SqT K (upd H4 D (.lst (acc ++ [.ref c]))) b (row.map V.int)) bs (T.take (i + 1))) := by
        intro D nD i H3 b row hrow_i hsb s3 bs hD hl hpb c H4 s4 hc
        have lt : i < T.length := (List.getElem?_eq_some_iff.mp hrow_i).1
        have m4 := hT.most4
        refine ⟨_, s4 _ _ hD, by rw [List.length_map, sizeLine_eq]; omega, ?_, bs ++ [c], by rw [upd_same, List.map_append]; rfl, by simp [hl], ?_⟩
        · intro b' o' z
          rw [upd_ne (ne_of_none z nD)]
          exact s4 _ _ (s3 _ _ z)
        · have keep : ∀ (b' : Addr) (xs : List V), SqT K H4 b' xs → SqT K (upd H4 D (.lst (bs.map V.ref ++ [.ref c]))) b' xs := fun b' xs z => by
            rcases z with (z | ⟨o, z⟩) | z
            · exact .inl (.inl (by rw [upd_ne (ne_of z (s4 _ _ hD) (fun q => by cases q))]; exact z))
            · exact .inl (.inr ⟨o, by rw [upd_ne (ne_of z (s4 _ _ hD) (fun q => by cases q))]; exact z⟩)
            · exact .inr z
          have e : T.take (i + 1) = T.take i ++ [row] := by
            rw [List.take_add_one, hrow_i]
            rfl
          rw [e]
          exact paired_snoc (paired_imp hpb fun b' r z => keep b' _ (sameT s4 z)) (keep c _ hc)
      first
        | refine .inl ⟨_, s2.seq hq, fun D nD => ?_⟩
        | refine .inr ⟨_, sameT s2 hq, fun D nD => ?_⟩
      first
        | refine lc_it ((walk_list (K := K) (a := a) (xs := as.map V.ref)).mono (G' := fun H' => Same H2 H') (Y' := YAt (as.map V.ref)) (fun H' s3 => (s2.trans s3).seq hq) (fun _ _ _ _ _ _ y => y)) (PvM K H2 D T) ⟨same_new nD, [], upd_same, rfl, .nil⟩ (fun i H3 _ hp => hp.1) (fun i y H3 H4 hi hp hy => ?_) (fun H3 hp => ?_)
        | refine lc_it ((walk_tup (K := K) (a := a) (xs := as.map V.ref)).mono (G' := fun H' => Same H2 H') (Y' := YAt (as.map V.ref)) (fun H' s3 => sameT (s2.trans s3) hq) (fun _ _ _ _ _ _ y => y)) (PvM K H2 D T) ⟨same_new nD, [], upd_same, rfl, .nil⟩ (fun i H3 _ hp => hp.1) (fun i y H3 H4 hi hp hy => ?_) (fun H3 hp => ?_)
      · obtain ⟨s3, bs, hD, hl, hpb⟩ := hp
        obtain ⟨rfl, ey⟩ := hy
        obtain ⟨b, row, rfl, hb, hsb⟩ := row_of i y ey
        refine ⟨rfl, yes_in ?_⟩
        refine ⟨.ref b, rfl, ?_⟩
        cases hsb.same (s2.trans s3) with
        | lst h => exact ⟨b, row.map V.int, rfl, .inl ⟨h, fun l nl => elem D nD i H4 b row hb hsb s3 bs hD hl hpb l _ (same_new nl) (.inl (.inl upd_same))⟩⟩
        | tup h => exact ⟨b, row.map V.int, rfl, .inr ⟨h, elem D nD i H4 b row hb hsb s3 bs hD hl hpb b H4 (Same.refl _) h⟩⟩
      · obtain ⟨s3, bs, hD, hl, hpb⟩ := hp
        have eT2 : T.take (as.map V.ref).length = T := List.take_of_length_le (by rw [List.length_map]; omega)
        rw [eT2] at hpb
        refine ⟨D, bs.map V.ref, rfl, .inl ⟨.inl (.inl hD), fun t nt => ?_⟩⟩
        have hx3 := s3 _ _ (s2 _ _ hx)
        have s4 : Same H3 (upd H3 t (.tup (bs.map V.ref))) := same_new nt
        have ext : ∃ C dx fs, (upd H3 t (.tup (bs.map V.ref))) x = some (.ins C dx fs) := ⟨_, _, _, s4 _ _ hx3⟩
        have lb : bs.length = T.length := paired_len hpb
        have nxt : t ≠ x := fun z => by rw [z, hx3] at nt; cases nt
        -- self.tables
        refine ⟨.ref x, rfl, x, CM, dx, [], rfl, s4 _ _ hx3, M.cl, M.nT, by decide, ?_⟩
        -- self.deeds
        refine ⟨.ref x, rfl, x, CM, dx, _, .ref t, rfl, upd_same, M.cl, M.nT, rfl, t, bs.map V.ref, rfl, .inr (.inl (.inl (by rw [upd_ne nxt, upd_same]))), ?_⟩
        refine ⟨.ref x, rfl, x, CM, dx, _, rfl, upd_same, M.cl, M.nD, (show (1 : Nat) < 1000 by decide), ?_⟩
        -- self.states
        obtain ⟨c0, bs', eB⟩ : ∃ c0 bs', bs = c0 :: bs' := by
          cases bs with
          | nil =>
            rw [eT] at lb
            simp at lb
          | cons p q => exact ⟨p, q, rfl⟩
        have hc0 : SqT K H3 c0 (row0.map V.int) := by
          rw [eB, eT] at hpb
          cases hpb with
          | cons h _ => exact h
        have up3 : ∀ (o1 o2 : HO) (c : Addr) (xs : List V), SqT K H3 c xs → SqT K (upd (upd (upd H3 t (.tup (bs.map V.ref))) x o1) x o2) c xs := fun o1 o2 c xs z =>
          (SameBut.trans (SameBut.of s4) (SameBut.trans (x := x) SameBut.put SameBut.put)).tup ⟨_, _, _, hx3⟩ z
        refine ⟨.ref x, rfl, x, CM, dx, _, .ref t, rfl, upd_same, M.cl, M.nT, rfl, t, bs.map V.ref, 0, .ref c0, rfl, rfl, .inl (.inl (by rw [upd_ne nxt, upd_ne nxt, upd_same])), atI_nat (j := 0) (by rw [eB]; rfl), c0, row0.map V.int, rfl, .inr (up3 _ _ _ _ hc0), ?_⟩
        refine ⟨.ref x, rfl, x, CM, dx, _, rfl, upd_same, M.cl, M.nS, (show (2 : Nat) < 1000 by decide), ?_⟩
        refine q _ ?_ ⟨dx, _, t, bs, upd_same, ?_, ?_, ?_, .inl (.inl (by rw [upd_ne nxt, upd_ne nxt, upd_ne nxt, upd_same])), ?_⟩
        · exact (SameBut.of (s2.trans (s3.trans s4))).trans (SameBut.trans (SameBut.trans SameBut.put SameBut.put) SameBut.put)
        · show some (V.int ((bs.map V.ref).length : Nat)) = _
          rw [List.length_map, lb]
        · show some (V.int ((row0.map V.int).length : Nat)) = _
          rw [List.length_map, eT]
          rfl
        · rfl
        · exact paired_imp hpb fun c r z => (SameBut.put (x := x)).tup ⟨_, _, _, upd_same⟩ (up3 _ _ _ _ z)
end
end Pg

set_option Elab.async false
set_option linter.all false
set_option maxRecDepth 100000
set_option maxHeartbeats 4000000
namespace Pg
open PySem PySem.Spec PyProof.Rows L2 Lx Wk
section
variable {κ : Type} [DecidableEq κ] {P : Program} {w : World} {K : PySem.W.Frag} {mg : Str → Option Value} {base : Heap}
/-! ### first_walks, all of them -/
def spWalks (P : Program) (w : World) (K : PySem.W.Frag) (mg : Str → Option Value) (base : Heap) (R : KeyRep κ) (k : Nat) : Shared → Sp := fun s vs H Q _ => ∃ v a f nxt, ∃ U : List κ, vs = [v, .ref f, .non] ∧ R.is H v a ∧ a ∈ U ∧ U.length ≤ 1000000 ∧ (∀ k, k ∈ U → ∀ t, some t ∈ nxt k → t ∈ U) ∧ (∀ k, (nxt k).length ≤ 1000) ∧
  Clo P w K mg base L2.CX0 k f s H (spFollow R K H nxt U) ∧ ∀ H' d W n, Same H H' → H d = none → GotAt R K H' d W → turns nxt n ([(a, [])], [a]) = (W, []) → Walked nxt a U (W, []) → Q (.ref d) H'
def nWalks : List Str := ["start", "follow", "most", "rows", "layer", "fresh", "thing", "row", "deed", "then"]
theorem scWalks : FnScope nWalks ["start", "follow", "most"] (defScope sFirstWalks) := ⟨rfl, rfl, rfl, by decide +kernel, rfl, by decide +kernel, by decide +kernel⟩
theorem ok_first_walks {dvs : List V} {f : Addr} {fd : FuncData} (R : KeyRep κ) (k : Nat) (F : FunD K "first_walks" "first_walks" (defArgs sFirstWalks) (defBody sFirstWalks) (defScope sFirstWalks) dvs [] f fd) (B : Bare mg)
    (dsp : ∀ {X : Cx} {k v : Expr} {pos : Pos} {tk tv : TE}, X.A.units + 1 < cLine → PE X k tk → PE X v tv → PE X (.Dict [some k] [v] pos) (fun σ H Q => ∀ p, H p = none → tk σ (upd H p (R.dict [])) fun x H1 => tv σ H1 fun y H2 => ∃ kk, R.is H2 x kk ∧ H2 p = some (R.dict []) ∧ Q (.ref p) (upd H2 p (R.dict [(kk, y)])))) :
    FnOkS P w K mg base L2.CX0 (k + 1) f fd ["start", "follow", "most"] (spWalks P w K mg base R k) := by
  refine okS F scWalks (fun s vs H Q E h => ?_) (fun cdv A outer s H vs Q E hr h => ?_)
  · obtain ⟨v, a, f, nxt, U, rfl, _⟩ := h
    rfl
  · obtain ⟨v, a, g, nxt, U, rfl, hv, aU, Ul, hU, nl, C, q⟩ := h
    have nd : nWalks.Nodup := scWalks.nd
    have hu : (A.deeper (envOfC "first_walks" (defScope sFirstWalks) s.heap.objs.size f cdv)).units + 1 < cLine := by have := hr.units; omega
    refine ⟨_, pss_cons (ps_set (i := 3) nd rfl (Or.inl rfl) (dsp hu (pv 0) (pe_tup pa_nil)))
      (pss_cons (ps_set (i := 4) nd rfl (Or.inl rfl) (pe_lst (pa_cons (pv 0) pa_nil)))
      (pss_cons (ps_while PassesOwn.never (pt_truth (pv 4) (fun _ => rfl))
        (pss_cons (ps_set (i := 5) nd rfl (Or.inl rfl) (pe_lst pa_nil))
        (pss_cons (ps_for PassesOwn.never rfl (pi_list (pv 4)) (pg_name (i := 6) nd rfl (Or.inl rfl))
          (pss_cons (ps_set (i := 7) nd rfl (Or.inl rfl) (pe_dget hu (pv 3) (pv 6) (fun _ _ => rfl)))
          (pss_one (ps_for PassesOwn.never rfl (pi_enumS (by rfl) B.enumerate (pa_cons (pe_clo (k := k) (i := 1) (CX := L2.CX0) (E := L2.E0) rfl hr (Nat.le_refl _) pass0 rfl (Or.inl rfl) (pa_cons (pv 6) pa_nil)) pa_nil)) (pg_tup (by rfl) (pgs_cons (pg_name (i := 8) nd rfl (Or.inl rfl)) (pgs_cons (pg_name (i := 9) nd rfl (Or.inl rfl)) pgs_nil)))
            (pss_one (ps_if (PW.pt (pw_and (pt_cmpR op_notN (pv 9) pe_non (nomark _)) (pw_and1 (pt_cmp (pc_dnotin hu (pv 9) (pv 3))))))
              (pss_cons (ps_dput hu (pv 3) (pv 9) (pe_op (r := rCatA K) op_catA (pv 7) (pe_tup (pa_cons (pv 8) pa_nil))) rfl)
              (pss_cons (ps_expr (pe_bm PySem.F.plainAttrs_list PySem.F.slot_list_append PySem.F.type_list_append mt_append (pv 5) (pa_cons (pv 9) pa_nil)))
              (pss_one (ps_if (PW.pt (pw_and (pt_cmpR op_notN (pv 2) pe_non (nomark _)) (pw_and1 (pt_cmpR op_gt (pe_callB call_len_dT (by rfl) B.len PySem.boot_len (pa_cons (pv 3) pa_nil)) (pv 2) (nomark _))))) (pss_one (ps_ret (pv 3))) pss_nil)))) pss_nil))))))
        (pss_one (ps_set (i := 4) nd rfl (Or.inl rfl) (pv 5))))))
      (pss_one (ps_ret (pv 3))))), ?_⟩
    intro d nd0
    refine ⟨v, rfl, Nat.zero_le _, fun pe ne => ?_⟩
    have s1 : Same H (upd (upd H d (R.dict [])) pe (.tup [])) := (same_new nd0).trans (same_new ne)
    have hd1 : (upd (upd H d (R.dict [])) pe (.tup [])) d = some (R.dict []) := same_new ne _ _ upd_same
    refine ⟨a, R.same s1 hv, hd1, ?_⟩
    have ned : pe ≠ d := (ne_of_none (show (upd H d (R.dict [])) d = some (R.dict []) from upd_same) ne).symm
    have hpe : (upd (upd (upd H d (R.dict [])) pe (.tup [])) d (R.dict [(a, .ref pe)])) pe = some (.tup []) := by
      rw [upd_ne ned]
      exact upd_same
    have hd2 : (upd (upd (upd H d (R.dict [])) pe (.tup [])) d (R.dict [(a, .ref pe)])) d = some (R.dict [(a, .ref pe)]) := upd_same
    have s2 : Same H (upd (upd (upd H d (R.dict [])) pe (.tup [])) d (R.dict [(a, .ref pe)])) := fun b o z => by
      rw [upd_ne (ne_of_none z nd0)]
      exact s1 _ _ z
    generalize upd (upd (upd H d (R.dict [])) pe (.tup [])) d (R.dict [(a, .ref pe)]) = H2 at hpe hd2 s2 ⊢
    refine ⟨v, rfl, by show 1 ≤ sizeLine; decide, fun l0 nl0 => ?_⟩
    have hl0 : H l0 = none := s2.free nl0
    have s3 : Same H2 (upd H2 l0 (.lst [v])) := same_new nl0
    have g3 : GotAt R K (upd H2 l0 (.lst [v])) d [(a, [])] := ⟨_, s3 _ _ hd2, .cons ⟨rfl, pe, rfl, .inl (.inl (s3 _ _ hpe))⟩ .nil⟩
    have w0 : Walked nxt a U ([(a, [])], [a]) := .start aU
    refine ⟨fun m σ H' => ∃ la vs W L n y5 y6 y7 y8 y9, σ = [some v, some (.ref g), some .non, some (.ref d), some (.ref la), y5, y6, y7, y8, y9] ∧ Same H H' ∧ H la = none ∧ H' la = some (.lst vs) ∧ Things R H' vs L ∧ GotAt R K H' d W ∧
      turns nxt n ([(a, [])], [a]) = (W, L) ∧ Walked nxt a U (W, L) ∧ Short (W, L) ∧ m = 2 * (U.length - W.length) + (if L = [] then 0 else 1),
      ⟨_, l0, [v], [(a, [])], [a], 0, none, none, none, none, none, rfl, s2.trans s3, hl0, upd_same, .cons (R.same s3 (R.same s2 hv)) .nil, g3, rfl, w0, ⟨by simp, fun e he => by simp at he; subst he; simp⟩, rfl⟩, ?_⟩
    rintro m σ H' ⟨la, vs, W, L, n, y5, y6, y7, y8, y9, rfl, sm, nla, hla, th, gt, tn, wk, sh, rfl⟩
    have lv := things_len th
    refine ⟨.ref la, rfl, !vs.isEmpty, .inl ⟨vs, .inl (.inl hla), rfl⟩, ?_⟩
    by_cases c : L = []
    · subst c
      have e : vs = [] := List.length_eq_zero_iff.mp lv
      subst e
      refine iteF ⟨.ref d, rfl, q _ d W n sm nd0 gt tn wk⟩
    · have ev : (!vs.isEmpty) = true := by
        cases vs with
        | nil =>
          exact absurd (List.length_eq_zero_iff.mp lv.symm) c
        | cons _ _ => rfl
      rw [ev]
      refine iteT ?_
      refine ⟨fun σ' H'' => ∃ m', m' < 2 * (U.length - W.length) + (if L = [] then 0 else 1) ∧ ∃ la vs W L n y5 y6 y7 y8 y9, σ' = [some v, some (.ref g), some .non, some (.ref d), some (.ref la), y5, y6, y7, y8, y9] ∧ Same H H'' ∧ H la = none ∧ H'' la = some (.lst vs) ∧ Things R H'' vs L ∧ GotAt R K H'' d W ∧
        turns nxt n ([(a, [])], [a]) = (W, L) ∧ Walked nxt a U (W, L) ∧ Short (W, L) ∧ m' = 2 * (U.length - W.length) + (if L = [] then 0 else 1), fun σ' H'' z => z, ?_⟩
      refine ⟨Nat.zero_le _, fun fr nfr => ?_⟩
      have nfr0 : H fr = none := sm.free nfr
      have s4 : Same H' (upd H' fr (.lst [])) := same_new nfr
      have nfl : fr ≠ la := (ne_of_none hla nfr).symm
      refine ⟨.ref la, rfl, la, rfl, ⟨vs, .inl (.inl (s4 _ _ hla))⟩, for_it walk_list (fun i σ H2 => (∃ y6 y7 y8 y9, σ = [some v, some (.ref g), some .non, some (.ref d), some (.ref la), some (.ref fr), y6, y7, y8, y9]) ∧ Same H H2 ∧ H2 la = some (.lst vs) ∧ Things R H2 vs L ∧
        GotAt R K H2 d (layer nxt (L.take i) (W, [])).1 ∧ ∃ fs, H2 fr = some (.lst fs) ∧ Things R H2 fs (layer nxt (L.take i) (W, [])).2) ⟨⟨_, _, _, _, rfl⟩, sm.trans s4, s4 _ _ hla, things_imp th fun _ _ z => R.same s4 z, gt.same s4, [], upd_same, .nil⟩ (fun i σ H2 _ hp => .inl (.inl hp.2.2.1)) ?_ ?_⟩
      · -- one thing of the layer
        rintro i x σ H2 H3 hi ⟨⟨y6, y7, y8, y9, rfl⟩, sm2, hla2, th2, gt2, fs, hfr, thf⟩ ⟨rfl, ex⟩
        obtain ⟨t, et, it⟩ := things_get th2 ex
        have tL : t ∈ L := List.mem_of_getElem? et
        have tU : t ∈ U := wk.sub t (wk.lay t tL)
        have hst : has (layer nxt (L.take i) (W, [])).1 t = true := has_iff.mpr (layer_mono (s := (W, [])) (wk.lay t tL))
        have grow := layer_len hU wk i
        have shs : Short (layer nxt (L.take i) (W, [])) := Short.layer (s := (W, [])) sh
        have lt := layer_take nxt et (W, [])
        generalize layer nxt (L.take i) (W, []) = st at gt2 thf hst grow shs lt
        rw [lt]
        have hrow := shs.rowOf t
        obtain ⟨kvs, hd, rep⟩ := gt2
        obtain ⟨r, gr, hr0⟩ := repW_get rep hst
        have dg := R.get hd it
        rw [gr] at dg
        refine ⟨.ref d, rfl, x, rfl, d, .ref r, rfl, dg, ?_⟩
        refine ⟨g, _, rfl, C, sm2, x, rfl, sm2, x, t, rfl, it, tU, fun H4 l os s34 hl hos mb => ?_⟩
        have lno : ∀ b, H b = none → (∃ o, H3 b = some o) → l ≠ b := fun b n ⟨o, e⟩ z => by
          rcases hl with hl | ⟨o2, hl⟩
          · rw [z, e] at hl
            cases hl
          · rw [z, n] at hl
            cases hl
        have lfr := lno fr nfr0 ⟨_, hfr⟩
        have ld := lno d nd0 ⟨_, hd⟩
        have mlen := paired_len mb
        have nlt := nl t
        refine ⟨l, os, rfl, ?_⟩
        obtain ⟨l', el, hq⟩ := Seq.cases hos
        cases el
        have st1 : put (rowOf st.1 t) ((nxt t).take 0) 0 st = st := rfl
        rcases hq with hq | hq
        case' inl => refine .inl ⟨hq, for_it walk_enum (fun j σ H5 => (∃ y8 y9, σ = [some v, some (.ref g), some .non, some (.ref d), some (.ref la), some (.ref fr), some x, some (.ref r), y8, y9]) ∧ Same H H5 ∧ H5 la = some (.lst vs) ∧ Things R H5 vs L ∧ SqL K H5 l os ∧ Paired (fun o t => MayBe R H5 o t) os (nxt t) ∧ SqT K H5 r ((rowOf st.1 t).map V.int) ∧
          GotAt R K H5 d (put (rowOf st.1 t) ((nxt t).take j) 0 st).1 ∧ ∃ fs, H5 fr = some (.lst fs) ∧ Things R H5 fs (put (rowOf st.1 t) ((nxt t).take j) 0 st).2) ⟨⟨_, _, rfl⟩, sm2.trans s34, s34 _ _ hla2, things_imp th2 fun _ _ z => R.same s34 z, hq, mb, sameT s34 hr0, ⟨kvs, s34 _ _ hd, repW_imp rep fun _ _ z => sameT s34 z⟩, fs, s34 _ _ hfr, things_imp thf fun _ _ z => R.same s34 z⟩ (fun j σ H5 _ hp => hp.2.2.2.2.1) ?turn1 ?fin1⟩
        case' inr => refine .inr ⟨hq, for_it walk_enumT (fun j σ H5 => (∃ y8 y9, σ = [some v, some (.ref g), some .non, some (.ref d), some (.ref la), some (.ref fr), some x, some (.ref r), y8, y9]) ∧ Same H H5 ∧ H5 la = some (.lst vs) ∧ Things R H5 vs L ∧ SqT K H5 l os ∧ Paired (fun o t => MayBe R H5 o t) os (nxt t) ∧ SqT K H5 r ((rowOf st.1 t).map V.int) ∧
          GotAt R K H5 d (put (rowOf st.1 t) ((nxt t).take j) 0 st).1 ∧ ∃ fs, H5 fr = some (.lst fs) ∧ Things R H5 fs (put (rowOf st.1 t) ((nxt t).take j) 0 st).2) ⟨⟨_, _, rfl⟩, sm2.trans s34, s34 _ _ hla2, things_imp th2 fun _ _ z => R.same s34 z, hq, mb, sameT s34 hr0, ⟨kvs, s34 _ _ hd, repW_imp rep fun _ _ z => sameT s34 z⟩, fs, s34 _ _ hfr, things_imp thf fun _ _ z => R.same s34 z⟩ (fun j σ H5 _ hp => hp.2.2.2.2.1) ?turn2 ?fin2⟩
        case turn1 | turn2 =>
          rintro j y σ H5 H6 hj ⟨⟨y8, y9, rfl⟩, sm5, hla5, th5, hq5, mb5, hr5, gt5, fs5, hfr5, thf5⟩ ⟨Tp, x1, o, rfl, nT, rfl, e1, e2⟩
          have ex1 : x1 = .int (j : Nat) := (Option.some.inj e1).symm
          subst ex1
          obtain ⟨ot, eot, mo⟩ : ∃ ot, (nxt t)[j]? = some ot ∧ MayBe R H5 o ot := paired_get mb5 e2
          have s6 : Same H5 (upd H5 Tp (.tup [.int (j : Nat), o])) := same_new nT
          have ptk := put_take (rowOf st.1 t) eot st
          have gj := put_len (s0 := (W, [])) (row := rowOf st.1 t) hU grow tU j
          have shj := (Short.put (l := (nxt t).take j) (i := 0) shs hrow)
          generalize put (rowOf st.1 t) ((nxt t).take j) 0 st = st' at gt5 thf5 ptk gj shj
          obtain ⟨kvs5, hd5, rep5⟩ := gt5
          have sm6 := sm5.trans s6
          have hla6 := s6 _ _ hla5
          have hd6 := s6 _ _ hd5
          have hfr6 := s6 _ _ hfr5
          have hr6 := sameT s6 hr5
          have mb6 := mays_imp (R := R) (fun _ _ z => R.same s6 z) mb5
          have th6 := things_imp th5 fun _ _ z => R.same s6 z
          have thf6 := things_imp thf5 fun _ _ z => R.same s6 z
          have rep6 := repW_imp rep5 fun _ _ z => sameT s6 z
          have mo6 : MayBe R (upd H5 Tp (.tup [.int (j : Nat), o])) o ot := by
            cases ot with
            | none => exact mo
            | some k => exact R.same s6 mo
          have hq6 := by
            first
              | exact s6.seq hq5
              | exact sameT s6 hq5
          refine ⟨Tp, _, rfl, .inl (.inl upd_same), rfl, _, [o], rfl, o, [], rfl, rfl, ?_⟩
          generalize upd H5 Tp (.tup [.int (j : Nat), o]) = H6 at sm6 hla6 hd6 hfr6 hr6 mb6 th6 thf6 rep6 mo6 hq6 ⊢
          refine ⟨o, rfl, rfl, !decide (o = .non), rfl, ?_⟩
          cases ot with
          | none =>
            obtain rfl : o = .non := mo6
            refine iteF (iteF ⟨⟨_, _, rfl⟩, sm6, hla6, th6, hq6, mb6, hr6, ?_⟩)
            rw [ptk]
            exact ⟨⟨kvs5, hd6, rep6⟩, fs5, hfr6, thf6⟩
          | some u =>
            have io : R.is H6 o u := mo6
            have no : (!decide (o = .non)) = true := by simp [R.some_ io]
            rw [no]
            refine iteT ⟨o, rfl, .ref d, rfl, d, _, rfl, R.get hd6 io, _, rfl, ?_⟩
            rw [repW_some rep6]
            by_cases hs : has st'.1 u = true
            · rw [hs]
              refine iteF ⟨⟨_, _, rfl⟩, sm6, hla6, th6, hq6, mb6, hr6, ?_⟩
              rw [ptk]
              unfold put1
              simp only [hs, if_true]
              exact ⟨⟨kvs5, hd6, rep6⟩, fs5, hfr6, thf6⟩
            · have hs : has st'.1 u = false := by simpa using hs
              rw [hs]
              refine iteT ?_
              have len1 : kvs5.length < sizeLine := by
                have := repW_len rep6
                have := grew_len gj
                rw [sizeLine_eq]
                omega
              have len2 : fs5.length < sizeLine := by
                have a1 := things_len thf6
                have a2 := grew_len gj
                obtain ⟨more, b1, b2⟩ := gj.old
                rw [b2] at a1
                rw [b1, List.length_append] at a2
                have a3 : (keys more).length = more.length := by simp [keys]
                simp only [List.nil_append] at a1
                rw [sizeLine_eq]
                omega
              have len3 : ((rowOf st.1 t).map V.int).length + 1 ≤ sizeLine := by
                have a1 := shs.rowOf t
                have a2 := grew_len grow
                rw [List.length_map, sizeLine_eq]
                omega
              -- row + (deed,)
              refine ⟨.ref r, rfl, _, rfl, by show 1 ≤ sizeLine; decide, fun p np => ?_⟩
              have s7 : Same H6 (upd H6 p (.tup [.int (j : Nat)])) := same_new np
              refine ⟨r, p, _, [.int (j : Nat)], rfl, rfl, sameT s7 hr6, .inl (.inl upd_same), len3, fun en => ?A, fun _ en => (by cases en), fun _ _ p2 np2 => ?B⟩
              case' A =>
                have hc : SqT K (upd H6 p (.tup [.int (j : Nat)])) p ((rowOf st.1 t ++ [(j : Int)]).map V.int) := by
                  rw [List.map_eq_nil_iff.mp en]
                  exact .inl (.inl upd_same)
                have s8 := s7
                clear s7
                generalize upd H6 p (.tup [.int (j : Nat)]) = H7 at s8 hc ⊢
                generalize p = c at hc ⊢
              case' B =>
                have hc : SqT K (upd (upd H6 p (.tup [.int (j : Nat)])) p2 (.tup ((rowOf st.1 t).map V.int ++ [.int (j : Nat)]))) p2 ((rowOf st.1 t ++ [(j : Int)]).map V.int) := by
                  rw [List.map_append]
                  exact .inl (.inl upd_same)
                have s8 := s7.trans (same_new (o := .tup ((rowOf st.1 t).map V.int ++ [.int (j : Nat)])) np2)
                clear s7
                generalize upd (upd H6 p (.tup [.int (j : Nat)])) p2 (.tup ((rowOf st.1 t).map V.int ++ [.int (j : Nat)])) = H7 at s8 hc ⊢
                generalize p2 = c at hc ⊢
              case A | B =>
                have hd7 := s8 _ _ hd6
                have hla7 := s8 _ _ hla6
                have hfr7 := s8 _ _ hfr6
                refine ⟨.ref d, rfl, o, rfl, d, _, rfl, R.put hd7 (R.same s8 io) len1, ?_⟩
                rw [putK_new _ (repW_no rep6 hs)]
                have st8 : ∀ {r : Addr} {xs : List V} {ob : HO}, SqT K H7 r xs → SqT K (upd H7 d ob) r xs := fun z => upd_tup hd7 (R.noTup _) (fun o ys => R.noFrz _ o (.tup ys)) z
                have sm8 : Same H (upd H7 d (R.dict (kvs5 ++ [(u, .ref c)]))) := fun b ob z => by
                  rw [upd_ne (ne_of_none z nd0)]
                  exact s8 _ _ (sm6 _ _ z)
                have hla8 : upd H7 d (R.dict (kvs5 ++ [(u, .ref c)])) la = some (.lst vs) := by
                  rw [upd_ne (ne_of hla7 hd7 (fun z => R.noLst _ _ z.symm))]
                  exact hla7
                have hfr8 : upd H7 d (R.dict (kvs5 ++ [(u, .ref c)])) fr = some (.lst fs5) := by
                  rw [upd_ne (ne_of hfr7 hd7 (fun z => R.noLst _ _ z.symm))]
                  exact hfr7
                have th8 := things_imp th6 fun _ _ z => R.stay (o := R.dict (kvs5 ++ [(u, .ref c)])) hd7 (R.same s8 z)
                have thf8 := things_imp thf6 fun _ _ z => R.stay (o := R.dict (kvs5 ++ [(u, .ref c)])) hd7 (R.same s8 z)
                have mb8 := mays_imp (R := R) (fun _ _ z => R.stay (o := R.dict (kvs5 ++ [(u, .ref c)])) hd7 (R.same s8 z)) mb6
                have io8 := R.stay (o := R.dict (kvs5 ++ [(u, .ref c)])) hd7 (R.same s8 io)
                have hq8 := by
                  first
                    | exact upd_seqL (o := R.dict (kvs5 ++ [(u, .ref c)])) ld (s8.seq hq6)
                    | exact upd_seqT (o := R.dict (kvs5 ++ [(u, .ref c)])) ld (sameT s8 hq6)
                have hr8 := st8 (ob := R.dict (kvs5 ++ [(u, .ref c)])) (sameT s8 hr6)
                have rep8 := repW_snoc (k := u) (st8 (ob := R.dict (kvs5 ++ [(u, .ref c)])) hc) (repW_imp rep6 fun r xs z => st8 (ob := R.dict (kvs5 ++ [(u, .ref c)])) (sameT s8 z))
                have hd8 : upd H7 d (R.dict (kvs5 ++ [(u, .ref c)])) d = some (R.dict (kvs5 ++ [(u, .ref c)])) := upd_same
                clear st8
                generalize upd H7 d (R.dict (kvs5 ++ [(u, .ref c)])) = H8 at sm8 hla8 hfr8 th8 thf8 mb8 io8 hq8 hr8 rep8 hd8 ⊢
                refine ⟨.ref fr, rfl, .inl ⟨rfl, _, .inl (.inl hfr8)⟩, o, rfl, fr, _, _, rfl, rfl, hfr8, len2, ?_⟩
                refine ⟨.non, rfl, rfl, _, rfl, iteF (iteF ⟨⟨_, _, rfl⟩, fun b ob z => ?_, ?_, ?_, ?_, ?_, ?_, ?_⟩)⟩
                · rw [upd_ne (ne_of_none z nfr0)]
                  exact sm8 _ _ z
                · rw [upd_ne nfl.symm]
                  exact hla8
                · exact things_imp th8 fun _ _ z => R.stayL hfr8 z
                · first
                    | exact upd_seqL lfr hq8
                    | exact upd_seqT lfr hq8
                · exact mays_imp (R := R) (fun _ _ z => R.stayL hfr8 z) mb8
                · exact upd_tup hfr8 (fun _ z => by cases z) (fun _ _ z => by cases z) hr8
                · rw [ptk]
                  unfold put1
                  simp only [hs]
                  refine ⟨⟨kvs5 ++ [(u, .ref c)], ?_, repW_imp rep8 fun r xs z => upd_tup hfr8 (fun _ z => by cases z) (fun _ _ z => by cases z) z⟩, fs5 ++ [o], upd_same, things_imp (things_snoc io8 thf8) fun _ _ z => R.stayL hfr8 z⟩
                  rw [upd_ne (ne_of hd8 hfr8 (R.noLst _ _))]
                  exact hd8
        case fin1 | fin2 =>
          rintro σ H5 ⟨⟨y8, y9, rfl⟩, sm5, hla5, th5, hq5, mb5, hr5, gt5, fs5, hfr5, thf5⟩
          have et : (nxt t).take os.length = nxt t := List.take_of_length_le (by omega)
          rw [et] at gt5 thf5
          exact ⟨⟨_, _, _, _, rfl⟩, sm5, hla5, th5, gt5, fs5, hfr5, thf5⟩
      · rintro σ H2 ⟨⟨y6, y7, y8, y9, rfl⟩, sm2, hla2, th2, gt2, fs, hfr, thf⟩
        have el : L.take vs.length = L := List.take_of_length_le (by omega)
        rw [el] at gt2 thf
        obtain ⟨wk', dn⟩ := wk.turn hU
        have sh' : Short (layer nxt L (W, [])) := Short.layer (s := (W, [])) sh
        have wl := wk'.len
        have wl0 := wk.len
        refine ⟨.ref fr, rfl, _, ?_, fr, fs, _, _, n + 1, _, _, _, _, _, rfl, sm2, nfr0, hfr, thf, gt2, ?_, wk', sh', rfl⟩
        · show 2 * (U.length - (turn nxt (W, L)).1.length) + (if (turn nxt (W, L)).2 = [] then 0 else 1) < _
          rw [if_neg c]
          rcases dn with dn | dn
          · rw [if_pos dn]
            obtain ⟨m, e1, _⟩ := (layer_len hU wk L.length).old
            have e1 : (layer nxt (L.take L.length) (W, [])).1 = W ++ m := e1
            rw [List.take_length] at e1
            have e2 : (turn nxt (W, L)).1 = W ++ m := e1
            rw [e2, List.length_append]
            omega
          · have dn : W.length < (turn nxt (W, L)).1.length := dn
            have wl : (turn nxt (W, L)).1.length ≤ U.length := wl
            split <;> omega
        · show turn nxt (turns nxt n ([(a, [])], [a])) = _
          rw [tn]
          rfl
end
end Pg

set_option Elab.async false
set_option linter.all false
set_option maxRecDepth 100000
set_option maxHeartbeats 4000000
namespace Lx
open PySem PySem.Spec PyProof.Rows L2 NdefX
/-- a def whose code object stands at c -/
theorem okC {P : Program} {w : World} {K : PySem.W.Frag} {mg : Str → Option Value} {base : Heap} {CX : CXT} {x qual : Str} {st : Stmt} {f c : Addr} {fd : FuncData} {N ps : List Str} {k : Nat} {sp : Sp} (F : Fun K x qual st f fd) (hcode : fd.code = .ref c) (S : FnScope N ps (defScope st)) (len : ∀ vs H Q E, sp vs H Q E → vs.length = ps.length)
    (body : ∀ (A : Around) (outer : List Env) (s : Shared) (H : Hp) (vs : List V) (Q : VK) (E : XK), Room k (A.deeper (envOfC qual (defScope st) s.heap.objs.size f (.ref c))) → sp vs H Q E →
      ∃ t, PSs (cxOf CX P w K mg base N qual (defScope st) f (.ref c) A outer s H E) (defBody st) t ∧ t { nx := fun _ H' => Q .non H', rt := Q } (start N vs) H) : FnOk P w K mg base CX (k + 1) f fd ps sp := by
  obtain ⟨oc, od, kV, doc, pm, an, cdv, ct, osl, rfl, lk, hcd⟩ := F.ex
  obtain rfl : cdv = .ref c := hcode
  constructor
  · exact len
  · intro A outer s H args us vs Q E hr e0 hb r h
    apply LamX.run_ofS lk hcd S hr e0 hb r (len vs H Q E h)
    intro hr'
    exact body A outer s H vs Q E hr' h
theorem tabsN_of {T : List (Addr × Str)} {H : Hp} (h : LamX.Tabs T H) : TabsN (T.map fun p => (p.1, fun _ _ => p.2)) H := fun p hp => by
  obtain ⟨q, hq, rfl⟩ := List.mem_map.mp hp
  exact TabN.of (h q hq)
theorem tabs_ofN {T : List (Addr × Str)} {H : Hp} (h : TabsN (T.map fun p => (p.1, fun _ _ => p.2)) H) : LamX.Tabs T H := fun p hp => TabN.to (h _ (List.mem_map.mpr ⟨p, hp, rfl⟩))
theorem ofExtN_tup {K : PySem.W.Frag} {H H' : Hp} {a : Addr} {xs : List V} (e : LamX.ExtN H H') (h : SqT K H a xs) : SqT K H' a xs := by
  rcases h with (h | ⟨o, h⟩) | h
  · exact .inl (.inl (e _ _ h fun _ z => by cases z))
  · exact .inl (.inr ⟨o, e _ _ h fun _ z => by cases z⟩)
  · exact .inr h
end Lx
namespace Pg
open PySem PySem.Spec PyProof.Rows L2 Lx Wk NdefX
theorem MachAt.extN {K : PySem.W.Frag} {C : Addr} {H H' : Hp} {m : Addr} {T : List (List Int)} (h : MachAt K C H m T) (e : LamX.ExtN H H') : MachAt K C H' m T := by
  obtain ⟨dx, fs, t, as, h1, h2, h3, h4, h5, h6⟩ := h.ex
  exact ⟨dx, fs, t, as, e _ _ h1 (fun _ z => by cases z), h2, h3, h4, ofExtN_tup e h5, paired_imp h6 fun a b z => ofExtN_tup e z⟩
/-! ### counted_rows -/
/-- behind one deed: the state, the number of deeds modulo mu -/
def cNext (T : List (List Int)) (mu : Nat) (k : List Key) : List (Option (List Key)) := match k with
  | [.inl s, .inl r] => T.map fun row => some [.inl (row.getD s.toNat 0), .inl ((r + 1) % (mu : Int))]
  | _ => []
def cAll (n mu : Nat) : List (List Key) := (List.range n).flatMap fun (s : Nat) => (List.range mu).map fun (r : Nat) => [Sum.inl (s : Int), Sum.inl (r : Int)]
theorem mem_cAll {n mu : Nat} {k : List Key} : k ∈ cAll n mu ↔ ∃ s r : Nat, s < n ∧ r < mu ∧ k = [.inl (s : Int), .inl (r : Int)] := by
  unfold cAll
  simp only [List.mem_flatMap, List.mem_map, List.mem_range]
  constructor
  · rintro ⟨s, hs, r, hr, rfl⟩
    exact ⟨s, r, hs, hr, rfl⟩
  · rintro ⟨s, r, hs, hr, rfl⟩
    exact ⟨s, hs, r, hr, rfl⟩
theorem len_cAll (n mu : Nat) : (cAll n mu).length = n * mu := by
  unfold cAll
  rw [List.length_flatMap]
  simp only [List.length_map, List.length_range]
  induction n with
  | zero => simp
  | succ n ih => rw [List.range_succ, List.map_append, List.sum_append, ih, Nat.succ_mul]; simp
theorem cNext_shut {T : List (List Int)} {n mu : Nat} (hT : ∀ row ∈ T, row.length = n ∧ ∀ z ∈ row, 0 ≤ z ∧ z < n) (hmu : 1 ≤ mu) : ∀ k, k ∈ cAll n mu → ∀ t, some t ∈ cNext T mu k → t ∈ cAll n mu := by
  intro k hk t ht
  obtain ⟨s, r, hs, hr, rfl⟩ := mem_cAll.mp hk
  obtain ⟨row, hrow, e⟩ := List.mem_map.mp (show some t ∈ T.map _ from ht)
  cases e
  obtain ⟨l, hz⟩ := hT row hrow
  have g : row.getD (s : Int).toNat 0 = row[s]'(by omega) := by simp [List.getD_eq_getElem?_getD, List.getElem?_eq_getElem (show s < row.length by omega)]
  have b := hz _ (List.getElem_mem (show s < row.length by omega))
  have m1 := Int.emod_nonneg ((r : Int) + 1) (show (mu : Int) ≠ 0 by omega)
  have m2 := Int.emod_lt_of_pos ((r : Int) + 1) (show (0 : Int) < mu by omega)
  refine mem_cAll.mpr ⟨(row[s]'(by omega)).toNat, (((r : Int) + 1) % (mu : Int)).toNat, by omega, by omega, ?_⟩
  rw [g, Int.toNat_of_nonneg b.1, Int.toNat_of_nonneg m1]
section
variable {P : Program} {w : World} {K : PySem.W.Frag} {mg : Str → Option Value} {base : Heap} {CM : Addr}
abbrev sFollow : Stmt := (defBody sCountedRows).getD 0 (.Pass ⟨0, 0, 0, 0⟩)
def spCounted (K : PySem.W.Frag) (CM : Addr) (Tb : List (Addr × Str)) : Sp := fun vs H Q _ => ∃ m, ∃ a mu : Nat, ∃ T, vs = [.ref m, .int a, .int mu] ∧ MachAt K CM H m T ∧ Tabs T ∧ a < (T.headD []).length ∧ 1 ≤ mu ∧ mu ≤ 9 ∧ LamX.Tabs Tb H ∧
  ∀ H' d W n, ExtB H H' → LamX.Tabs Tb H' → H d = none → GotAt repT K H' d W → turns (cNext T mu) n ([([.inl (a : Int), .inl 0], [])], [[.inl (a : Int), .inl 0]]) = (W, []) → Walked (cNext T mu) [.inl (a : Int), .inl 0] (cAll (T.headD []).length mu) (W, []) → Q (.ref d) H'
def nCounted : List Str := ["machine", "state", "modulus", "follow"]
def nFollow : List Str := ["pair", "machine", "modulus", "here", "number", "table"]
theorem scCounted : FnScope nCounted ["machine", "state", "modulus"] (defScope sCountedRows) := ⟨rfl, rfl, rfl, by decide +kernel, rfl, by decide +kernel, by decide +kernel⟩
theorem scFollow : MScope nFollow ["pair"] ["machine", "modulus"] (C8.fnScope sFollow) := mscope_by (by decide +kernel)
def spPair (K : PySem.W.Frag) (CM : Addr) (ws : List (Option V)) : Sp := fun vs H Q _ => ∃ m, ∃ mu s r : Nat, ∃ T b, ws = [some (.ref m), some (.int mu)] ∧ vs = [.ref b] ∧ MachAt K CM H m T ∧ T.length ≤ 4 ∧ (∀ row ∈ T, s < row.length) ∧ 1 ≤ mu ∧ mu ≤ 9 ∧ H b = some (.tup [.int s, .int r]) ∧
  ∀ H' l os, Same H H' → H l = none → H' l = some (.lst os) → Paired (fun o t => MayBe repT H' o t) os (cNext T mu [.inl s, .inl r]) → Q (.ref l) H'
theorem ok_pair {f : Addr} {F : NF} (M : MachC K CM) (hF : ∃ q cl c, F = NF.of sFollow "follow" q cl c) : NOk P w K mg base L2.CX0 1 f F ["pair"] ["machine", "modulus"] (spPair K CM) := by
  obtain ⟨q, cl, c, rfl⟩ := hF
  refine nok_ofM scFollow (fun doc pm ctv us hl => match us, hl with | [_], _ => rfl) (fun ws vs H Q E h => ?_) (fun A outer s H vs ws Q E hr hl h => ?_)
  · obtain ⟨m, mu, s, r, T, b, _, rfl, _⟩ := h
    rfl
  · obtain ⟨m, mu, st, r, T, b, rfl, rfl, hm, h4, hT, hmu, hmu9, hb, q⟩ := h
    have nd : nFollow.Nodup := scFollow.nd
    refine ⟨_, pss_cons (ps_asg (pv 0) (pg_tup (by rfl) (pgs_cons (pg_name (i := 3) nd rfl (Or.inr rfl)) (pgs_cons (pg_name (i := 4) nd rfl (Or.inr rfl)) pgs_nil))))
      (pss_one (ps_ret (pe_lc (own := [("table", 5)]) (g := gName 5) (tt := tYes) rfl nd (pi_tup (pe_fld (pv 1) rfl)) (blkOk_by (N := nFollow) (sc := C8.fnScope sFollow) (by decide +kernel)) (fun _ _ _ _ _ => pg_name (i := 5) nd rfl (Or.inl rfl)) (fun _ _ _ _ _ => pts_nil)
        (fun _ _ _ _ _ => pe_tup (pa_cons (pe_ix (r := rIxT K) ix_tup (pv 5) (pv 3) (fun _ _ => rfl)) (pa_cons (pe_op op_mod (pe_op op_add (pv 4) pe_int) (pv 2)) pa_nil)))))), ?_⟩
    obtain ⟨dx, fs, t, as, g1, g2, g3, g4, g5, g6⟩ := hm.ex
    have lT := paired_len g6
    refine ⟨.ref b, rfl, b, _, rfl, .inl (.inl hb), rfl, _, _, rfl, _, _, rfl, rfl, ?_⟩
    refine ⟨.ref m, rfl, m, CM, dx, fs, .ref t, rfl, g1, M.cl, M.nT, g4, t, rfl, ⟨_, g5⟩, fun D nD => ?_⟩
    refine lc_it (walk_tup (K := K) (a := t) (xs := as.map V.ref)) (fun i H3 => Same H H3 ∧ ∃ os, H3 D = some (.lst os) ∧ os.length = i ∧ Paired (fun o t => MayBe repT H3 o t) os ((cNext T mu [.inl (st : Int), .inl (r : Int)]).take i)) ⟨same_new nD, [], upd_same, rfl, .nil⟩ (fun i H3 _ hp => sameT hp.1 g5) ?_ ?_
    · rintro i x H0 H3 hi ⟨s3, os, hD, lo, mb⟩ ⟨rfl, ex⟩
      refine ⟨rfl, yes_in ?_⟩
      rw [List.getElem?_map] at ex
      cases ea : as[i]? with
      | none =>
        rw [ea] at ex
        cases ex
      | some a =>
        rw [ea] at ex
        cases ex
        obtain ⟨row, h1, h2⟩ := Pg.paired_get g6 ea
        have lt := hT row (List.mem_of_getElem? h1)
        have z : (row.map V.int)[st]? = some (.int (row.getD st 0)) := by
          rw [List.getElem?_map, List.getElem?_eq_getElem lt, List.getD_eq_getElem?_getD, List.getElem?_eq_getElem lt]
          rfl
        have iT : i < T.length := (List.getElem?_eq_some_iff.mp h1).1
        refine ⟨.ref a, rfl, .int (st : Int), rfl, a, _, (st : Int), _, rfl, rfl, sameT s3 h2, atI_nat z, _, rfl, _, _, rfl, rfl, _, rfl, _, _, rfl, rfl, (show (0 : Int) < (mu : Int) by omega), by show 2 ≤ sizeLine; decide, fun p np => ?_⟩
        have s4 : Same H3 (upd H3 p (.tup [.int (row.getD st 0), .int (((r : Int) + 1) % (mu : Int))])) := same_new np
        refine ⟨os, s4 _ _ hD, by rw [sizeLine_eq]; omega, ?_, os ++ [.ref p], upd_same, by rw [List.length_append, lo]; rfl, ?_⟩
        · intro b' o' z'
          rw [upd_ne (ne_of_none z' nD)]
          exact s4 _ _ (s3 _ _ z')
        · have e : (cNext T mu [.inl (st : Int), .inl (r : Int)]).take (i + 1) = (cNext T mu [.inl (st : Int), .inl (r : Int)]).take i ++ [some [.inl (row.getD st 0), .inl (((r : Int) + 1) % (mu : Int))]] := by
            rw [List.take_add_one]
            congr 1
            show (T.map _)[i]?.toList = _
            rw [List.getElem?_map, h1]
            rfl
          rw [e]
          have up : ∀ v k, repT.is H3 v k → repT.is (upd (upd H3 p (.tup [.int (row.getD st 0), .int (((r : Int) + 1) % (mu : Int))])) D (.lst (os ++ [.ref p]))) v k := fun v k q => repT.stayL (s4 _ _ hD) (repT.same s4 q)
          refine Pg.paired_snoc (mays_imp (R := repT) up mb) (show repT.is _ _ _ from ⟨p, rfl, ?_⟩)
          rw [upd_ne (ne_of (show (upd H3 p (.tup [.int (row.getD st 0), .int (((r : Int) + 1) % (mu : Int))])) p = some (.tup _) from upd_same) (s4 _ _ hD) (fun z => by cases z))]
          exact upd_same
    · rintro H3 ⟨s3, os, hD, lo, mb⟩
      have e : (cNext T mu [.inl (st : Int), .inl (r : Int)]).take (as.map V.ref).length = cNext T mu [.inl (st : Int), .inl (r : Int)] := List.take_of_length_le (by
        show (T.map _).length ≤ _
        rw [List.length_map, List.length_map]
        omega)
      rw [e] at mb
      exact q H3 D os s3 nD hD mb
end
end Pg

set_option Elab.async false
set_option linter.all false
set_option maxRecDepth 100000
set_option maxHeartbeats 4000000
namespace Pg
open PySem PySem.Spec PyProof.Rows L2 Lx Wk NdefX
section
variable {P : Program} {w : World} {K : PySem.W.Frag} {mg : Str → Option Value} {base : Heap} {CM CS CR : Addr}
abbrev qFollow : Str := (("counted_rows" : Str) ++ ".<locals>.") ++ "follow"
theorem cNext_len {T : List (List Int)} {mu : Nat} (h4 : T.length ≤ 4) (k : List Key) : (cNext T mu k).length ≤ 1000 := by
  unfold cNext
  split
  · rw [List.length_map]
    omega
  · exact Nat.zero_le _
theorem headD_mem {T : List (List Int)} (h : 1 ≤ T.length) : T.headD [] ∈ T := by
  cases T with
  | nil => exact absurd h (by decide)
  | cons a b => exact List.mem_cons_self
theorem Tabs.rect {T : List (List Int)} (hT : Tabs T) : (T.headD []).length ≤ 8 ∧ 1 ≤ (T.headD []).length ∧ ∀ row ∈ T, row.length = (T.headD []).length ∧ ∀ z ∈ row, 0 ≤ z ∧ z < (T.headD []).length := by
  obtain ⟨n, n1, n8, h⟩ := hT.rows
  have e := (h _ (headD_mem hT.some1)).1
  rw [e]
  exact ⟨n8, n1, h⟩
theorem ok_counted {f c Pt : Addr} {fd : FuncData} {Tb : List (Addr × Str)} (F : Fun K "counted_rows" "counted_rows" sCountedRows f fd) (hcode : fd.code = .ref c) (TB : LamX.TabB base mg c Pt) (hmT : (Pt, qFollow) ∈ Tb) (hu : ∀ p ∈ Tb, p.1 = Pt → p.2 = qFollow) (M : MachC K CM)
    (Gw : HasS P w K mg base L2.CX0 2 "first_walks" ["start", "follow", "most"] [.non] (spWalks P w K mg base repT 1)) : FnOk P w K mg base L2.CX0 3 f fd ["machine", "state", "modulus"] (spCounted K CM Tb) := by
  refine okC F hcode scCounted (fun vs H Q E h => ?_) (fun A outer s H vs Q E hr h => ?_)
  · obtain ⟨m, a, mu, T, rfl, _⟩ := h
    rfl
  · obtain ⟨m, a, mu, T, rfl, hm, hT, ha, hmu, hmu9, tabs, q⟩ := h
    have nd : nCounted.Nodup := scCounted.nd
    have fr : ndefB (defScope sCountedRows) (C8.fnScope sFollow) ["machine", "modulus"] = true := by decide +kernel
    have u2 : ∀ p ∈ Tb.map (fun p => ((p.1, fun _ _ => p.2) : NTab)), p.1 = Pt → p.2 = fun _ _ => qFollow := fun p hp e => by
      obtain ⟨p', hp', rfl⟩ := List.mem_map.mp hp
      exact funext fun _ => funext fun _ => hu p' hp' e
    refine ⟨_, pss_cons (ps_ndefMS (st := sFollow) (T := Tb.map (fun p => ((p.1, fun _ _ => p.2) : NTab))) (nm := fun _ _ => qFollow) (i := 3) rfl TB rfl (List.mem_map.mpr ⟨_, hmT, rfl⟩) rfl u2 (ndef_free fr) rfl rfl rfl nd rfl (Or.inl rfl) (Or.inr rfl))
      (pss_one (ps_ret (pe_hasS (E := L2.E0) Gw hr pass0 (by rfl) (pa_cons (pe_tup (pa_cons (pv 1) (pa_cons pe_int pa_nil))) (pa_cons (pv 3) pa_nil))))), ?_⟩
    refine ⟨tabsN_of tabs, fun g c' H1 ext back T1 ng hg hc => ?_⟩
    refine ⟨.int a, rfl, by show 2 ≤ sizeLine; decide, fun p np => ⟨.ref g, rfl, fun pins s1 I => ?_⟩⟩
    obtain ⟨n8, n1, rect⟩ := hT.rect
    have s2 : Same H1 (upd H1 p (.tup [.int a, .int 0])) := same_new np
    have cl := clo_nested (P := P) (w := w) (K := K) (mg := mg) (base := base) (ok_pair (P := P) (w := w) (mg := mg) (base := base) M ⟨_, _, c', rfl⟩) (s2 _ _ hg) (s2 _ _ hc) (cells_of (js := [0, 2]) I (Caps.made I.ok (ndef_free fr) (ndef_fr fr) rfl))
    have m2 := (MachAt.extN hm ext).same s2
    refine ⟨.ref p, [.inl (a : Int), .inl 0], g, cNext T mu, cAll (T.headD []).length mu, rfl, ⟨p, rfl, upd_same⟩, mem_cAll.mpr ⟨a, 0, ha, by omega, rfl⟩, ?_, cNext_shut rect hmu, cNext_len hT.most4, cl.imp fun vs H3 Q3 E3 s3 h3 => ?_, fun H' d W n sm nd0 gt tn wk => ?_⟩
    · rw [len_cAll]
      have : (T.headD []).length * mu ≤ 8 * 9 := Nat.mul_le_mul n8 hmu9
      omega
    · obtain ⟨v, k, rfl, ⟨b, rfl, hb⟩, hk, q3⟩ := h3
      obtain ⟨st, r, hst, hr', rfl⟩ := mem_cAll.mp hk
      exact ⟨m, mu, st, r, T, b, rfl, rfl, m2.same s3, hT.most4, fun row hrow => by rw [(rect row hrow).1]; exact hst, hmu, hmu9, hb, fun H' l os s4 nl hl mb => q3 H' l os s4 (.inl nl) (.lst (.inl (.inl hl))) mb⟩
    · have e2 : ExtB H H' := ExtB.trans ⟨ext, back⟩ (.of (s2.trans sm))
      exact q H' d W n e2 ((tabs_ofN T1).ext fun b o z => sm _ _ (s2 _ _ z)) (back d (s2.free nd0)) gt tn wk
end
end Pg

set_option Elab.async false
set_option linter.all false
set_option maxRecDepth 100000
set_option maxHeartbeats 4000000
namespace Pg
open PySem PySem.Spec PyProof.Rows L2 Lx Wk
/-- rows lead from the state a to this one -/
inductive Rch (T : List (List Int)) (a : Nat) : Nat → Prop
  | here : Rch T a a
  | step {s : Nat} {row : List Int} : Rch T a s → row ∈ T → Rch T a (row.getD s 0).toNat
theorem Rch.lt {T : List (List Int)} (hT : Tabs T) {a s : Nat} (ha : a < (T.headD []).length) (h : Rch T a s) : s < (T.headD []).length := by
  obtain ⟨_, _, rect⟩ := hT.rect
  induction h with
  | here => exact ha
  | @step s row _ hr ih =>
    obtain ⟨l, z⟩ := rect row hr
    have g : row.getD s 0 = row[s]'(by omega) := by simp [List.getD_eq_getElem?_getD, List.getElem?_eq_getElem (show s < row.length by omega)]
    have b := z _ (List.getElem_mem (show s < row.length by omega))
    rw [g]
    omega
theorem comes_rch {T : List (List Int)} (hT : Tabs T) {a : Nat} (ha : a < (T.headD []).length) (k : List Key) : Comes (cNext T 1) [.inl (a : Int), .inl 0] k ↔ ∃ s : Nat, Rch T a s ∧ k = [.inl (s : Int), .inl 0] := by
  obtain ⟨_, _, rect⟩ := hT.rect
  constructor
  · intro h
    induction h with
    | here => exact ⟨a, .here, rfl⟩
    | @step k t _ ht ih =>
      obtain ⟨s, hs, rfl⟩ := ih
      obtain ⟨row, hr, e⟩ := List.mem_map.mp (show some t ∈ T.map _ from ht)
      cases e
      have lt := hs.lt hT ha
      obtain ⟨l, z⟩ := rect row hr
      have g : row.getD s 0 = row[s]'(by omega) := by simp [List.getD_eq_getElem?_getD, List.getElem?_eq_getElem (show s < row.length by omega)]
      have b := z _ (List.getElem_mem (show s < row.length by omega))
      refine ⟨(row.getD s 0).toNat, .step hs hr, ?_⟩
      show [Sum.inl (row.getD (s : Int).toNat 0), Sum.inl (((0 : Int) + 1) % ((1 : Nat) : Int))] = _
      rw [show (s : Int).toNat = s from rfl, Int.toNat_of_nonneg (by rw [g]; exact b.1)]
      rfl
  · rintro ⟨s, hs, rfl⟩
    induction hs with
    | here => exact .here
    | @step s row hs hr ih =>
      have lt := hs.lt hT ha
      obtain ⟨l, z⟩ := rect row hr
      have g : row.getD s 0 = row[s]'(by omega) := by simp [List.getD_eq_getElem?_getD, List.getElem?_eq_getElem (show s < row.length by omega)]
      have b := z _ (List.getElem_mem (show s < row.length by omega))
      refine .step ih (List.mem_map.mpr ⟨row, hr, ?_⟩)
      show some [Sum.inl (row.getD (s : Int).toNat 0), Sum.inl (((0 : Int) + 1) % ((1 : Nat) : Int))] = _
      rw [show (s : Int).toNat = s from rfl, Int.toNat_of_nonneg (by rw [g]; exact b.1)]
      rfl
/-- the states of the things, with their rows -/
def hd (k : List Key) : Key := k.headD (.inl 0)
def statesOf (W : Got (List Key)) : Got Key := W.map fun e => (hd e.1, rowOf W e.1)
section
variable {P : Program} {w : World} {K : PySem.W.Frag} {mg : Str → Option Value} {base : Heap} {CM CS CR : Addr}
def spFirstRows (K : PySem.W.Frag) (CM : Addr) (Tb : List (Addr × Str)) : Sp := fun vs H Q _ => ∃ m, ∃ a : Nat, ∃ T, vs = [.ref m, .int a] ∧ MachAt K CM H m T ∧ Tabs T ∧ a < (T.headD []).length ∧ LamX.Tabs Tb H ∧
  ∀ H' d W n, ExtB H H' → LamX.Tabs Tb H' → H d = none → GotAt repI K H' d (statesOf W) → turns (cNext T 1) n ([([.inl (a : Int), .inl 0], [])], [[.inl (a : Int), .inl 0]]) = (W, []) → Walked (cNext T 1) [.inl (a : Int), .inl 0] (cAll (T.headD []).length 1) (W, []) → Q (.ref d) H'
def nFirstRows : List Str := ["machine", "state", "rows", "there", "number"]
theorem scFirstRows : FnScope nFirstRows ["machine", "state"] (defScope sFirstRows) := ⟨rfl, rfl, rfl, by decide +kernel, rfl, by decide +kernel, by decide +kernel⟩
theorem ok_first_rows {f : Addr} {fd : FuncData} {Tb : List (Addr × Str)} (F : Fun K "first_rows" "first_rows" sFirstRows f fd) (Gc : Has P w K mg base L2.CX0 3 "counted_rows" ["machine", "state", "modulus"] (spCounted K CM Tb)) :
    FnOk P w K mg base L2.CX0 4 f fd ["machine", "state"] (spFirstRows K CM Tb) := by
  refine F.ok scFirstRows (fun vs H Q E h => ?_) (fun cdv A outer s H vs Q E hr h => ?_)
  · obtain ⟨m, a, T, rfl, _⟩ := h
    rfl
  · obtain ⟨m, a, T, rfl, hm, hT, ha, tabs, q⟩ := h
    have nd : nFirstRows.Nodup := scFirstRows.nd
    have hu : (A.deeper (envOfC "first_rows" (defScope sFirstRows) s.heap.objs.size f cdv)).units + 1 < cLine := by have := hr.units; omega
    refine ⟨_, pss_cons (ps_set (i := 2) nd rfl (Or.inr rfl) (pe_has Gc hr (by rfl) (pa_cons (pv 0) (pa_cons (pv 1) (pa_cons pe_int pa_nil)))))
      (pss_one (ps_ret (pe_lock (pe_dc (own := [("there", 3), ("number", 4)]) (g := gTup K 2 (gCons (gName 3) (gCons (gName 4) gNil))) (tt := tYes) rfl nd (pi_keys (pv 2)) (blkOk_by (N := nFirstRows) (sc := defScope sFirstRows) (by decide +kernel))
        (fun _ _ _ _ _ => pg_tup (by rfl) (pgs_cons (pg_name (i := 3) nd rfl (Or.inl rfl)) (pgs_cons (pg_name (i := 4) nd rfl (Or.inl rfl)) pgs_nil))) (fun _ _ _ _ _ => pts_nil)
        (fun _ _ _ _ _ => pv 3) (fun _ _ _ _ _ => pe_dget hu (pv 2) (pe_tup (pa_cons (pv 3) (pa_cons (pv 4) pa_nil))) (fun _ _ => rfl)))))), ?_⟩
    refine ⟨.ref m, rfl, .int a, rfl, m, a, 1, T, rfl, hm, hT, ha, by decide, by decide, tabs, fun H1 d W n e1 t1 nd0 gt tn wk => ?_⟩
    obtain ⟨kvs, hd1, rep⟩ := gt
    have hd1 : H1 d = some (.dT kvs) := hd1
    refine ⟨d, _, hd1, True.intro, fun od => ?_⟩
    have hd2 : upd H1 d (.frz od (.dT kvs)) d = some (.frz od (.dT kvs)) := upd_same
    have rep2 : RepW K (upd H1 d (.frz od (.dT kvs))) kvs W := repW_imp rep fun r xs z => upd_tup hd1 (fun _ z => by cases z) (fun _ _ z => by cases z) z
    have n2 : ∀ b, upd H1 d (.frz od (.dT kvs)) b = none → H1 b = none := fun b z => by
      by_cases c : b = d
      · subst c
        rw [upd_same] at z
        cases z
      · rwa [upd_ne c] at z
    have s12 : ∀ b o, b ≠ d → H1 b = some o → upd H1 d (.frz od (.dT kvs)) b = some o := fun b o c z => by rw [upd_ne c]; exact z
    refine ⟨.ref d, rfl, d, od, rfl, .inr ⟨kvs, hd2, fun D nD => ?_⟩⟩
    have nD1 := n2 D nD
    generalize upd H1 d (.frz od (.dT kvs)) = H2 at hd2 rep2 n2 s12 nD ⊢
    have lenW := repW_len rep2
    have shape : ∀ e ∈ W, ∃ s : Nat, s < (T.headD []).length ∧ e.1 = [.inl (s : Int), .inl 0] := fun e he => by
      obtain ⟨s, r, hs, hr, z⟩ := mem_cAll.mp (wk.sub e.1 (List.mem_map.mpr ⟨e, he, rfl⟩))
      obtain rfl : r = 0 := by omega
      exact ⟨s, hs, z⟩
    have wl := wk.len
    have wl : W.length ≤ 8 := by
      obtain ⟨n8, _, _⟩ := hT.rect
      have wl : W.length ≤ (cAll (T.headD []).length 1).length := wl
      rw [len_cAll] at wl
      omega
    refine dc_it walk_keysT (fun i H' => Same H2 H' ∧ GotAt repI K H' D ((statesOf W).take i)) ⟨same_new nD, [], upd_same, .nil⟩ (fun i H' _ hp => hp.1 _ _ hd2) ?_ ?_
    · rintro i x H0 H3 hi ⟨s3, kvD, hD, repD⟩ ⟨rfl, k, v, b, ek, rfl, hb⟩
      obtain ⟨e, eW, he1, r, hv, hr1⟩ : ∃ e, W[i]? = some e ∧ k = e.1 ∧ ∃ r, v = .ref r ∧ SqT K H2 r (e.2.map V.int) := by
        obtain ⟨e, h1, h2⟩ := Pg.paired_get rep2 ek
        exact ⟨e, h1, h2⟩
      have mW := List.mem_of_getElem? eW
      obtain ⟨s0, hs0, es⟩ := shape e mW
      rw [he1, es] at hb
      have hasW : has W [.inl (s0 : Int), .inl 0] = true := has_iff.mpr (List.mem_map.mpr ⟨e, mW, es⟩)
      obtain ⟨r', g1, g2⟩ := repW_get rep2 hasW
      refine ⟨b, _, rfl, .inl (.inl hb), rfl, _, _, rfl, _, _, rfl, rfl, ?_⟩
      refine ⟨rfl, yes_in ?_⟩
      refine ⟨_, rfl, .ref d, rfl, _, rfl, _, rfl, by show 2 ≤ sizeLine; decide, fun p np => ?_⟩
      have s4 : Same H3 (upd H3 p (.tup [kV (.inl (s0 : Int)), kV (.inl 0)])) := same_new np
      refine ⟨d, .ref r', rfl, .inr ⟨kvs, [.inl (s0 : Int), .inl 0], p, .inr ⟨od, s4 _ _ (s3 _ _ hd2)⟩, rfl, upd_same, g1.symm⟩, kvD, .inl (s0 : Int), rfl, s4 _ _ hD, ?_, ?_, ?_⟩
      · have := repW_len repD
        rw [List.length_take] at this
        have l2 : (statesOf W).length = W.length := by simp [statesOf]
        rw [sizeLine_eq]
        omega
      · intro b' o' z
        rw [upd_ne (ne_of_none z nD)]
        exact s4 _ _ (s3 _ _ z)
      · have new : has ((statesOf W).take i) (.inl (s0 : Int)) = false := by
          rw [← Bool.not_eq_true]
          intro c
          have c := has_iff.mp c
          unfold keys statesOf at c
          rw [← List.map_take, List.map_map, List.mem_map] at c
          obtain ⟨e', he', ee⟩ := c
          obtain ⟨s1, _, es1⟩ := shape e' (List.mem_of_mem_take he')
          have ee : hd e'.1 = .inl (s0 : Int) := ee
          rw [es1] at ee
          have ee : (Sum.inl (s1 : Int) : Key) = .inl (s0 : Int) := ee
          have eq1 : e'.1 = e.1 := by rw [es1, es, ee]
          have ndk : (keys W).Nodup := wk.nd
          have sp : W = W.take i ++ e :: W.drop (i + 1) := by
            have lt := (List.getElem?_eq_some_iff.mp eW).1
            have g := (List.getElem?_eq_some_iff.mp eW).2
            rw [← g, List.getElem_cons_drop, List.take_append_drop]
          rw [sp] at ndk
          unfold keys at ndk
          rw [List.map_append, List.map_cons, List.nodup_append] at ndk
          exact ndk.2.2 e'.1 (List.mem_map.mpr ⟨e', he', rfl⟩) e.1 List.mem_cons_self eq1
        rw [putK_new _ (repW_no repD new)]
        have et : (statesOf W).take (i + 1) = (statesOf W).take i ++ [(.inl (s0 : Int), rowOf W [.inl (s0 : Int), .inl 0])] := by
          rw [List.take_add_one]
          congr 1
          unfold statesOf
          rw [List.getElem?_map, eW]
          show [(hd e.1, rowOf W e.1)] = _
          rw [es]
          rfl
        rw [et]
        have hD4 := s4 _ _ hD
        have up : ∀ r xs, SqT K H2 r xs → SqT K (upd (upd H3 p (.tup [kV (.inl (s0 : Int)), kV (.inl 0)])) D (.dK (kvD ++ [(.inl (s0 : Int), .ref r')]))) r xs := fun r xs z => upd_tup hD4 (fun _ z => by cases z) (fun _ _ z => by cases z) (sameT s4 (sameT s3 z))
        refine ⟨kvD ++ [(.inl (s0 : Int), .ref r')], upd_same, repW_snoc (up _ _ g2) (repW_imp repD fun r xs z => upd_tup hD4 (fun _ z => by cases z) (fun _ _ z => by cases z) (sameT s4 z))⟩
    · rintro H3 ⟨s3, kvD, hD, repD⟩
      have l2 : (statesOf W).length = W.length := by simp [statesOf]
      rw [List.take_of_length_le (by omega)] at repD
      have hd3 := s3 _ _ hd2
      have nDd : D ≠ d := fun z => by rw [z, hd1] at nD1; cases nD1
      have sF : Same H1 (upd H3 d (.dT kvs)) := fun b o z => by
        by_cases c : b = d
        · subst c
          rw [hd1] at z
          cases z
          exact upd_same
        · rw [upd_ne c]
          exact s3 _ _ (s12 b o c z)
      refine ⟨hd3, q _ D W n (e1.trans (.of sF)) (t1.ext sF) (e1.back D nD1) ⟨kvD, ?_, repW_imp repD fun r xs z => upd_tup hd3 (fun _ z => by cases z) (fun _ _ z => by cases z) z⟩ tn wk⟩
      rw [upd_ne nDd]
      exact hD
end
end Pg

set_option Elab.async false
set_option linter.all false
set_option maxRecDepth 100000
set_option maxHeartbeats 4000000
namespace Pg
open PySem PySem.Spec PyProof.Rows L2 Lx Wk
/-! ### rows, good and bad -/
/-- v is a row of the deeds ds, below n -/
structure GoodRow (K : PySem.W.Frag) (H : Hp) (n : Nat) (v : V) (ds : List Int) : Prop where
  seq : Lx.Seq K H v (ds.map V.int)
  len : ds.length ≤ 400
  rng : ∀ d ∈ ds, 0 ≤ d ∧ d < n
/-- v is none: the error of the class at C that tells where is wished for -/
def BadRowV (K : PySem.W.Frag) (CR : Addr) (n : Nat) (v : V) (H : Hp) (E : XK) : Prop :=
  ((Sca v ∨ ∃ xs, Lx.Seq K H v xs ∧ 400 < xs.length) ∧ ErrK E CR (.int (-1)) H) ∨
  (∃ xs, Lx.Seq K H v xs ∧ xs.length ≤ 400 ∧ (∀ x ∈ xs, Vk K H x) ∧ ∃ i x, xs[i]? = some x ∧ isD n x = false ∧ (∀ j y, j < i → xs[j]? = some y → isD n y = true) ∧ ErrK E CR (.int (i : Nat)) H)
theorem BadRowV.check {K : PySem.W.Frag} {CR : Addr} {n : Nat} {v : V} {H : Hp} {Q : VK} {E : XK} (h : BadRowV K CR n v H E) : CheckRow K CR n v H Q E := by
  rcases h with h | ⟨xs, h1, h2, h3, h4⟩
  · exact .inl h
  · exact .inr ⟨xs, h1, h2, h3, .inl h4⟩
theorem isD_int {n : Nat} {d : Int} : isD n (.int d) = true ↔ 0 ≤ d ∧ d < n := by
  simp only [isD, numV, Bool.and_eq_true, decide_eq_true_eq]
  omega
theorem GoodRow.check {K : PySem.W.Frag} {CR : Addr} {n : Nat} {v : V} {ds : List Int} {H : Hp} {Q : VK} {E : XK} (h : GoodRow K H n v ds) (q : ∀ H' r, Same H H' → SqT K H' r (ds.map V.int) → Q (.ref r) H') : CheckRow K CR n v H Q E := by
  refine .inr ⟨_, h.seq, by rw [List.length_map]; exact h.len, fun x hx => ?_, .inr ⟨fun x hx => ?_, q⟩⟩
  · obtain ⟨d, hd, rfl⟩ := List.mem_map.mp hx
    exact .int d
  · obtain ⟨d, hd, rfl⟩ := List.mem_map.mp hx
    exact isD_int.mpr (h.rng d hd)
theorem GoodRow.same {K : PySem.W.Frag} {n : Nat} {v : V} {ds : List Int} {H H' : Hp} (h : GoodRow K H n v ds) (e : Same H H') : GoodRow K H' n v ds := ⟨h.seq.same e, h.len, h.rng⟩

/-! ### where deeds lead -/
def stepTo (T : List (List Int)) (s : Nat) (d : Int) : Nat := ((T.getD d.toNat []).getD s 0).toNat
def ledTo (T : List (List Int)) (a : Nat) (ds : List Int) : Nat := ds.foldl (stepTo T) a
theorem stepTo_lt {T : List (List Int)} (hT : Tabs T) {s : Nat} {d : Int} (hs : s < (T.headD []).length) (h0 : 0 ≤ d) (h1 : d < T.length) : stepTo T s d < (T.headD []).length ∧ ∃ row, T[d.toNat]? = some row ∧ (row.map V.int)[s]? = some (.int (stepTo T s d : Nat)) := by
  obtain ⟨_, _, rect⟩ := hT.rect
  have lt : d.toNat < T.length := by omega
  have er : T[d.toNat]? = some T[d.toNat] := List.getElem?_eq_getElem lt
  obtain ⟨l, z⟩ := rect _ (List.getElem_mem lt)
  have ls : s < (T[d.toNat]).length := by omega
  have e1 : T.getD d.toNat [] = T[d.toNat] := by simp [List.getD_eq_getElem?_getD, er]
  have e2 : (T[d.toNat]).getD s 0 = (T[d.toNat])[s] := by simp [List.getD_eq_getElem?_getD, List.getElem?_eq_getElem ls]
  have b := z _ (List.getElem_mem ls)
  unfold stepTo
  rw [e1, e2]
  refine ⟨by omega, _, er, ?_⟩
  rw [List.getElem?_map, List.getElem?_eq_getElem ls]
  show some (V.int _) = some (V.int _)
  rw [Int.toNat_of_nonneg b.1]
theorem ledTo_lt {T : List (List Int)} (hT : Tabs T) : ∀ {ds : List Int} {a : Nat}, a < (T.headD []).length → (∀ d ∈ ds, 0 ≤ d ∧ d < T.length) → ledTo T a ds < (T.headD []).length
  | [], _, h, _ => h
  | d :: ds, a, h, hd => by
    have b := hd d List.mem_cons_self
    exact ledTo_lt hT (ds := ds) (stepTo_lt hT h b.1 b.2).1 fun x hx => hd x (List.mem_cons_of_mem _ hx)
theorem asc_ext : ∀ {xs ys : List Int}, xs.Pairwise (· < ·) → ys.Pairwise (· < ·) → (∀ z, z ∈ xs ↔ z ∈ ys) → xs = ys
  | [], [], _, _, _ => rfl
  | [], y :: ys, _, _, h => absurd ((h y).mpr List.mem_cons_self) (by simp)
  | x :: xs, [], _, _, h => absurd ((h x).mp List.mem_cons_self) (by simp)
  | x :: xs, y :: ys, hx, hy, h => by
    obtain ⟨x1, x2⟩ := List.pairwise_cons.mp hx
    obtain ⟨y1, y2⟩ := List.pairwise_cons.mp hy
    have e : x = y := by
      rcases List.mem_cons.mp ((h x).mp List.mem_cons_self) with e | m
      · exact e
      · rcases List.mem_cons.mp ((h y).mpr List.mem_cons_self) with e | m'
        · exact e.symm
        · have := y1 x m
          have := x1 y m'
          omega
    subst e
    rw [asc_ext x2 y2 fun z => ?_]
    constructor
    · intro hz
      rcases List.mem_cons.mp ((h z).mp (List.mem_cons_of_mem _ hz)) with e | m
      · have := x1 z hz
        omega
      · exact m
    · intro hz
      rcases List.mem_cons.mp ((h z).mpr (List.mem_cons_of_mem _ hz)) with e | m
      · have := y1 z hz
        omega
      · exact m
section
variable {P : Program} {w : World} {K : PySem.W.Frag} {mg : Str → Option Value} {base : Heap} {CM CS CR : Addr}
/-! ### lead, led -/
def spLead (K : PySem.W.Frag) (CM : Addr) : Sp := fun vs H Q _ => ∃ m, ∃ a : Nat, ∃ v T, ∃ ds : List Int, vs = [.ref m, .int a, v] ∧ MachAt K CM H m T ∧ Tabs T ∧ a < (T.headD []).length ∧ Lx.Seq K H v (ds.map V.int) ∧ (∀ d ∈ ds, 0 ≤ d ∧ d < T.length) ∧ Q (.int (ledTo T a ds : Nat)) H
theorem scLead : FnScope ["machine", "state", "deeds", "deed"] ["machine", "state", "deeds"] (defScope sLead) := ⟨rfl, rfl, rfl, by decide +kernel, rfl, by decide +kernel, by decide +kernel⟩
theorem ok_lead {f : Addr} {fd : FuncData} (F : Fun K "lead" "lead" sLead f fd) (M : MachC K CM) : FnOk P w K mg base L2.CX0 1 f fd ["machine", "state", "deeds"] (spLead K CM) := by
  refine F.ok scLead (fun vs H Q E h => ?_) (fun cdv A outer s H vs Q E hr h => ?_)
  · obtain ⟨m, a, v, T, ds, rfl, _⟩ := h
    rfl
  · obtain ⟨m, a, v, T, ds, rfl, hm, hT, ha, hv, hd, q⟩ := h
    refine ⟨_, pss_cons (ps_for PassesOwn.never rfl (pi_seq (pv 2)) (pg_name (i := 3) scLead.nd rfl (Or.inl rfl)) (pss_one (ps_set (i := 1) scLead.nd rfl (Or.inl rfl) (pe_ix ix_tup (pe_ix ix_tup (pe_fld (pv 0) rfl) (pv 3) (fun _ _ => rfl)) (pv 1) (fun _ _ => rfl)))))
      (pss_one (ps_ret (pv 1))), ?_⟩
    obtain ⟨dx, fs, t, as, g1, g2, g3, g4, g5, g6⟩ := hm.ex
    obtain ⟨b, rfl, hq⟩ := Seq.cases hv
    refine ⟨.ref b, rfl, b, rfl, ?_⟩
    rcases hq with hq | hq
    case' inl => refine .inl ⟨_, hq, for_it walk_list (fun i σ H2 => H2 = H ∧ ∃ y, σ = [some (.ref m), some (.int (ledTo T a (ds.take i) : Nat)), some (.ref b), y]) ⟨rfl, none, rfl⟩ (fun i σ H2 _ hp => by rw [hp.1]; exact hq) ?t1 ?f1⟩
    case' inr => refine .inr ⟨_, hq, for_it walk_tup (fun i σ H2 => H2 = H ∧ ∃ y, σ = [some (.ref m), some (.int (ledTo T a (ds.take i) : Nat)), some (.ref b), y]) ⟨rfl, none, rfl⟩ (fun i σ H2 _ hp => by rw [hp.1]; exact hq) ?t2 ?f2⟩
    case t1 | t2 =>
      rintro i x σ H2 H3 hi ⟨rfl, y, rfl⟩ ⟨rfl, ex⟩
      rw [List.getElem?_map] at ex
      cases ei : ds[i]? with
      | none =>
        rw [ei] at ex
        cases ex
      | some d =>
        rw [ei] at ex
        cases ex
        have bd := hd d (List.mem_of_getElem? ei)
        have lt := ledTo_lt hT ha (ds := ds.take i) fun x hx => hd x (List.mem_of_mem_take hx)
        obtain ⟨lt', row, er, ez⟩ := stepTo_lt hT lt bd.1 bd.2
        obtain ⟨c, ec, hc⟩ : ∃ c, (as.map V.ref)[d.toNat]? = some (.ref c) ∧ SqT K H3 c (row.map V.int) := by
          have l := paired_len g6
          have lt2 := (List.getElem?_eq_some_iff.mp er).1
          have ea : as[d.toNat]? = some (as[d.toNat]'(by omega)) := List.getElem?_eq_getElem _
          obtain ⟨row', h1, h2⟩ := Pg.paired_get g6 ea
          rw [er] at h1
          cases h1
          exact ⟨_, by rw [List.getElem?_map, ea]; rfl, h2⟩
        have ed : d = ((d.toNat : Nat) : Int) := by omega
        refine ⟨.ref m, rfl, m, CM, dx, fs, .ref t, rfl, g1, M.cl, M.nT, g4, .int d, rfl, t, _, d, .ref c, rfl, rfl, g5, by rw [ed]; exact atI_nat ec, _, rfl, c, _, _, _, rfl, rfl, hc, atI_nat ez, ?_⟩
        refine ⟨rfl, some (.int d), ?_⟩
        rw [List.take_add_one, ei]
        unfold ledTo
        rw [List.foldl_append]
        rfl
    case f1 | f2 =>
      rintro σ H2 ⟨rfl, y, rfl⟩
      refine ⟨_, rfl, ?_⟩
      rw [List.length_map, List.take_of_length_le (Nat.le_refl _)]
      exact q
def spLed (K : PySem.W.Frag) (CM CS CR : Addr) : Sp := fun vs H Q E => ∃ m v rv T, vs = [.ref m, v, rv] ∧ MachAt K CM H m T ∧ Tabs T ∧ Vk K H v ∧
  ((numV v 0 (((T.headD []).length : Int) - 1) = false ∧ ErrF E CS "state" v H) ∨ (∃ a : Nat, v = .int a ∧ a < (T.headD []).length ∧ (BadRowV K CR T.length rv H E ∨ ∃ ds, GoodRow K H T.length rv ds ∧ ∀ H', Same H H' → Q (.int (ledTo T a ds : Nat)) H')))
theorem scLed : FnScope ["machine", "state", "row"] ["machine", "state", "row"] (defScope sLed) := ⟨rfl, rfl, rfl, by decide +kernel, rfl, by decide +kernel, by decide +kernel⟩
theorem num_ok {a n : Nat} (h : a < n) : numV (.int (a : Int)) 0 ((n : Int) - 1) = true := by
  simp only [numV, Bool.and_eq_true, decide_eq_true_eq]
  omega
theorem ok_led {f : Addr} {fd : FuncData} (F : Fun K "led" "led" sLed f fd) (Gs : Has P w K mg base (L2.CX P w) 3 "need_state" ["machine", "state"] (spNeedState K CM CS)) (Gl : Has P w K mg base L2.CX0 1 "lead" ["machine", "state", "deeds"] (spLead K CM))
    (Gc : Has P w K mg base (L2.CX P w) 4 "check_row" ["machine", "value"] (spCheckRow K CM CR)) : FnOk P w K mg base (L2.CX P w) 5 f fd ["machine", "state", "row"] (spLed K CM CS CR) := by
  refine F.okX scLed (fun vs H Q E h => ?_) (fun cdv A outer s H vs Q E hr h => ?_)
  · obtain ⟨m, v, rv, T, rfl, _⟩ := h
    rfl
  · obtain ⟨m, v, rv, T, rfl, hm, hT, hv, h⟩ := h
    have tk : Takes (cxOf (L2.CX P w) P w K mg base ["machine", "state", "row"] "led" (defScope sLed) f cdv A outer s H E) (fun cls d _ H => E cls d H) := takes_of rfl rfl rfl rfl
    refine ⟨_, pss_cons (ps_expr (pe_hasX (E := E) Gs (hr.mono (by decide)) tk (fun _ _ _ _ z => z) (by rfl) (pa_cons (pv 0) (pa_cons (pv 1) pa_nil))))
      (pss_one (ps_ret (pe_has Gl (hr.mono (by decide)) (by rfl) (pa_cons (pv 0) (pa_cons (pv 1) (pa_cons (pe_hasX (E := E) Gc hr tk (fun _ _ _ _ z => z) (by rfl) (pa_cons (pv 0) (pa_cons (pv 2) pa_nil))) pa_nil)))))), ?_⟩
    refine ⟨.ref m, rfl, v, rfl, m, v, T, rfl, hm, hv, ?_⟩
    rcases h with ⟨e, er⟩ | ⟨a, rfl, ha, h⟩
    · exact .inr ⟨e, er⟩
    · refine .inl ⟨num_ok ha, ?_⟩
      refine ⟨.ref m, rfl, _, rfl, .ref m, rfl, rv, rfl, m, rv, T, rfl, hm, ?_⟩
      rcases h with h | ⟨ds, hd, q⟩
      · exact h.check
      · exact hd.check fun H1 r s1 hr1 => ⟨m, a, .ref r, T, ds, rfl, hm.same s1, hT, ha, .tup hr1, hd.rng, q H1 s1⟩
/-! ### reached -/
def spReached (K : PySem.W.Frag) (CM CS : Addr) (Tb : List (Addr × Str)) : Sp := fun vs H Q E => ∃ m v T, vs = [.ref m, v] ∧ MachAt K CM H m T ∧ Tabs T ∧ Vk K H v ∧
  ((numV v 0 (((T.headD []).length : Int) - 1) = false ∧ ErrF E CS "state" v H) ∨ (∃ a : Nat, v = .int a ∧ a < (T.headD []).length ∧ LamX.Tabs Tb H ∧
    ∀ H' r, ∀ ys : List Int, ExtB H H' → LamX.Tabs Tb H' → SqT K H' r (ys.map V.int) → ys.Pairwise (· < ·) → (∀ z, z ∈ ys ↔ ∃ s : Nat, Rch T a s ∧ z = (s : Int)) → Q (.ref r) H'))
theorem scReached : FnScope ["machine", "state"] ["machine", "state"] (defScope sReached) := ⟨rfl, rfl, rfl, by decide +kernel, rfl, by decide +kernel, by decide +kernel⟩
theorem ok_reached {f : Addr} {fd : FuncData} {Tb : List (Addr × Str)} (F : Fun K "reached" "reached" sReached f fd) (B : Bare mg) (Gs : Has P w K mg base (L2.CX P w) 3 "need_state" ["machine", "state"] (spNeedState K CM CS))
    (Gr : Has P w K mg base L2.CX0 4 "first_rows" ["machine", "state"] (spFirstRows K CM Tb)) : FnOk P w K mg base (L2.CX P w) 5 f fd ["machine", "state"] (spReached K CM CS Tb) := by
  refine F.okX scReached (fun vs H Q E h => ?_) (fun cdv A outer s H vs Q E hr h => ?_)
  · obtain ⟨m, v, T, rfl, _⟩ := h
    rfl
  · obtain ⟨m, v, T, rfl, hm, hT, hv, h⟩ := h
    have tk : Takes (cxOf (L2.CX P w) P w K mg base ["machine", "state"] "reached" (defScope sReached) f cdv A outer s H E) (fun cls d _ H => E cls d H) := takes_of rfl rfl rfl rfl
    refine ⟨_, pss_cons (ps_expr (pe_hasX (E := E) Gs (hr.mono (by decide)) tk (fun _ _ _ _ z => z) (by rfl) (pa_cons (pv 0) (pa_cons (pv 1) pa_nil))))
      (pss_one (ps_ret (pe_callTy tupOf (by rfl) B.tuple boot_tuple (pa_cons (pe_callB (call_sortedDI rfl) (by rfl) B.sorted (by decide +kernel) (pa_cons (pe_has Gr hr (by rfl) (pa_cons (pv 0) (pa_cons (pv 1) pa_nil))) pa_nil)) pa_nil)))), ?_⟩
    refine ⟨.ref m, rfl, v, rfl, m, v, T, rfl, hm, hv, ?_⟩
    rcases h with ⟨e, er⟩ | ⟨a, rfl, ha, tabs, q⟩
    · exact .inr ⟨e, er⟩
    · refine .inl ⟨num_ok ha, ?_⟩
      refine ⟨.ref m, rfl, _, rfl, m, a, T, rfl, hm, hT, ha, tabs, fun H1 d W n e1 t1 nd0 gt tn wk => ?_⟩
      obtain ⟨kvs, hd, rep⟩ := gt
      have shape : ∀ e ∈ W, ∃ s : Nat, s < (T.headD []).length ∧ e.1 = [.inl (s : Int), .inl 0] := fun e he => by
        obtain ⟨s, r, hs, hr, z⟩ := mem_cAll.mp (wk.sub e.1 (List.mem_map.mpr ⟨e, he, rfl⟩))
        obtain rfl : r = 0 := by omega
        exact ⟨s, hs, z⟩
      have wl : W.length ≤ 8 := by
        obtain ⟨n8, _, _⟩ := hT.rect
        have wl : W.length ≤ (cAll (T.headD []).length 1).length := wk.len
        rw [len_cAll] at wl
        omega
      let num : List Key → Int := fun k => match k with | .inl s :: _ => s | _ => 0
      have hks : kvs.map (·.1) = (W.map fun e => num e.1).map Sum.inl := by
        have e1 : kvs.map (·.1) = (statesOf W).map (·.1) := by
          have z : ∀ {l : List (Key × V)} {r : Got Key}, RepW K H1 l r → l.map (·.1) = r.map (·.1) := by
            intro l r h
            induction h with
            | nil => rfl
            | cons h _ ih => rw [List.map_cons, List.map_cons, ih, h.1]
          exact z rep
        rw [e1]
        unfold statesOf
        rw [List.map_map, List.map_map]
        apply List.map_congr_left
        intro e he
        obtain ⟨s, _, es⟩ := shape e he
        show Pg.hd e.1 = Sum.inl (num e.1)
        rw [es]
        rfl
      have nodup : (W.map fun e => num e.1).Nodup := by
        have nk : (W.map (·.1)).Nodup := wk.nd
        have e : (W.map fun e => num e.1) = (W.map (·.1)).map num := by rw [List.map_map]; rfl
        rw [e]
        refine List.Pairwise.map _ (fun x y h => ?_) (List.Pairwise.and_mem.mp nk)
        obtain ⟨hx, hy, ne⟩ := h
        obtain ⟨e1, m1, rfl⟩ := List.mem_map.mp hx
        obtain ⟨e2, m2, rfl⟩ := List.mem_map.mp hy
        obtain ⟨s1, _, z1⟩ := shape e1 m1
        obtain ⟨s2, _, z2⟩ := shape e2 m2
        intro c
        apply ne
        rw [z1, z2] at c ⊢
        have c : (s1 : Int) = s2 := c
        rw [c]
      refine ⟨d, kvs, _, rfl, .inl hd, hks, by rw [List.length_map]; omega, fun ys p perm asc np => ?_⟩
      have s2 : Same H1 (upd H1 p (.lst (ys.map V.int))) := same_new np
      refine ⟨p, _, rfl, .inl ⟨.inl (.inl upd_same), fun t nt => ?_⟩⟩
      have s3 := s2.trans (same_new (o := .tup (ys.map V.int)) nt)
      refine q _ t ys (e1.trans (.of s3)) (t1.ext s3) (.inl (.inl upd_same)) ?_ fun z => ?_
      · have nd2 : ys.Nodup := perm.nodup_iff.mpr nodup
        exact (asc.and nd2).imp fun h => Int.lt_iff_le_and_ne.mpr h
      · rw [perm.mem_iff, List.mem_map]
        have all := fun k => wk.all rfl k
        constructor
        · rintro ⟨e, he, rfl⟩
          obtain ⟨s, hs, z⟩ := (comes_rch hT ha e.1).mp ((all e.1).mp (List.mem_map.mpr ⟨e, he, rfl⟩))
          exact ⟨s, hs, by rw [z]⟩
        · rintro ⟨s, hs, rfl⟩
          obtain ⟨e, he, z⟩ := List.mem_map.mp ((all [.inl (s : Int), .inl 0]).mpr ((comes_rch hT ha _).mpr ⟨s, hs, rfl⟩))
          exact ⟨e, he, by rw [z]⟩
end
end Pg

set_option Elab.async false
set_option linter.all false
set_option maxRecDepth 100000
set_option maxHeartbeats 4000000
namespace Pg
open PySem PySem.Spec PyProof.Rows L2 Lx
/-- what == and isinstance ask of the class Machine at C -/
structure MachE (K : PySem.W.Frag) (mg : Str → Option Value) (C g : Addr) : Prop where
  gM : mg "Machine" = some (.ref C)
  ha : PySem.W.findIn K (.ref C) "__class__" = some (some (.builtin "object.__class__"))
  hn : PySem.W.specialIn K (.builtin "object.__class__") "__get__" = some (some (.builtin "getset_descriptor.__get__"))
  ht : PySem.W.takesIn K (.builtin "object.__class__") = some true
  hm : PySem.W.mroIn K C (.type "object") = some true
  eq : PySem.W.findIn K (.ref C) "__eq__" = some (some (.ref g))
  fn : PySem.W.isFn K (.ref g) = true
  nf : PySem.W.notFirst K C (.ref C) = true
  nt : PySem.W.notFirst K C (.type "tuple") = true
  kt : PySem.W.kitOne K (.type "tuple") (.ref C) = some false
  kC : PySem.W.kitOne K (.ref C) (.ref C) = some true
theorem MachAt.ty {K : PySem.W.Frag} {mg : Str → Option Value} {C g m : Addr} {H : Hp} {T : List (List Int)} (h : MachAt K C H m T) (M : MachC K C) (e : MachE K mg C g) : TyX K H (.ref m) (.ref C) := by
  obtain ⟨dx, fs, t, as, h1, h2, h3, h4, h5, h6⟩ := h.ex
  exact .base (.ins h1 M.cl e.ha e.hn e.ht e.hm)
section
variable {P : Program} {w : World} {K : PySem.W.Frag} {mg : Str → Option Value} {base : Heap} {CM g : Addr}
def spMachEq (K : PySem.W.Frag) (CM : Addr) : Sp := fun vs H Q _ => ∃ m o T, vs = [.ref m, o] ∧ MachAt K CM H m T ∧ ((∃ m2, o = .ref m2 ∧ MachAt K CM H m2 T ∧ Q (.bl true) H) ∨ (∃ t xs, o = .ref t ∧ SqT K H t xs ∧ Q (.bl false) H))
abbrev sMachineEq : Stmt := inClass cMachine 1
theorem scMachineEq : FnScope ["self", "other"] ["self", "other"] (defScope sMachineEq) := ⟨rfl, rfl, rfl, by decide +kernel, rfl, by decide +kernel, by decide +kernel⟩
theorem ok_machine_eq {f : Addr} {fd : FuncData} (F : Fun K "__eq__" "Machine.__eq__" sMachineEq f fd) (B : Bare mg) (M : MachC K CM) (e : MachE K mg CM g) : FnOk P w K mg base L2.CX0 1 f fd ["self", "other"] (spMachEq K CM) := by
  refine F.ok scMachineEq (fun vs H Q E h => ?_) (fun cdv A outer s H vs Q E hr h => ?_)
  · obtain ⟨m, o, T, rfl, _⟩ := h
    rfl
  · obtain ⟨m, o, T, rfl, hm, h⟩ := h
    refine ⟨_, pss_one (ps_ret (pe_and (pe_callB call_isi (by rfl) B.isinstance boot_isinstance (pa_cons (pv 1) (pa_cons (pe_glob (v := .ref CM) rfl e.gM rfl) pa_nil))) (pe_one (pe_cmpR (r := rEqD K) (op_eqD hr.units) (pe_fld (pv 0) rfl) (pe_fld (pv 1) rfl) (nomark _))))), ?_⟩
    rcases h with ⟨m2, rfl, hm2, q⟩ | ⟨t, xs, rfl, ht, q⟩
    · refine ⟨.ref m2, rfl, .ref m2, .ref CM, .ref CM, .ref CM, true, rfl, .own CM, hm2.ty M e, e.kC, ?_⟩
      obtain ⟨dx, fs, t, as, g1, g2, g3, g4, g5, g6⟩ := hm.ex
      obtain ⟨dx', fs', t', as', k1, k2, k3, k4, k5, k6⟩ := hm2.ex
      refine ⟨true, rfl, iteT ?_⟩
      refine ⟨.ref m, rfl, m, CM, dx, fs, .ref t, rfl, g1, M.cl, M.nT, g4, .ref m2, rfl, m2, CM, dx', fs', .ref t', rfl, k1, M.cl, M.nT, k4, rowsT T, rowsT T, .tup g5 (dp_rows g6), .tup k5 (dp_rows k6), shaped_rowsT T, shaped_rowsT T, ?_⟩
      rw [eqv_rowsT]
      exact q
    · refine ⟨.ref t, rfl, .ref t, .ref CM, .type "tuple", .ref CM, false, rfl, .own CM, ty_sqt ht, e.kt, ?_⟩
      exact ⟨false, rfl, iteF q⟩
end
end Pg

set_option Elab.async false
set_option linter.all false
set_option maxRecDepth 100000
set_option maxHeartbeats 4000000
namespace Lw
open PySem PySem.Spec PyProof.Rows L2 Lx Pg
/-- the box of draws at b -/
def BoxAt (H : Hp) (b : Addr) : Prop := ∃ c0 c1 c2 : Int, H b = some (.lst [.int c0, .int c1, .int c2]) ∧ 0 ≤ c0
section
variable {P : Program} {w : World} {K : PySem.W.Frag} {mg : Str → Option Value} {base : Heap}
/-! ### _law_box -/
def spLawBox (K : PySem.W.Frag) : Sp := fun vs H Q _ => ∃ a, ∃ k : Nat, ∃ ns : List Int, vs = [.ref a, .int k] ∧ SqL K H a (ns.map V.int) ∧ ∀ H' p, Same H H' → H p = none → BoxAt H' p → Q (.ref p) H'
theorem scLawBox : FnScope ["script", "k", "cell"] ["script", "k"] (defScope sLawBox) := ⟨rfl, rfl, rfl, by decide +kernel, rfl, by decide +kernel, by decide +kernel⟩
theorem ok_law_box {f : Addr} {fd : FuncData} (F : Fun K "_law_box" "_law_box" sLawBox f fd) (B : Bare mg) : FnOk P w K mg base L2.CX0 1 f fd ["script", "k"] (spLawBox K) := by
  refine F.ok scLawBox (fun vs H Q E h => ?_) (fun cdv A outer s H vs Q E hr h => ?_)
  · obtain ⟨a, k, ns, rfl, _⟩ := h
    rfl
  · obtain ⟨a, k, ns, rfl, ha, q⟩ := h
    refine ⟨_, pss_cons (ps_set (i := 2) scLawBox.nd rfl (Or.inl rfl) (pe_op op_add (pe_op op_mul pe_int (pv 1)) pe_int))
      (pss_cons (ps_if (pt_cmpR op_lt (pv 1) (pe_callB lenS (by rfl) B.len PySem.boot_len (pa_cons (pv 0) pa_nil)) (nomark _))
        (pss_one (ps_set (i := 2) scLawBox.nd rfl (Or.inl rfl) (pe_callB call_abs (by rfl) B.abs (by decide +kernel) (pa_cons (pe_ix ix_list (pv 0) (pv 1) (fun _ _ => rfl)) pa_nil))))
        (pss_one (ps_if (pt_cmpR op_gt (pe_callB lenS (by rfl) B.len PySem.boot_len (pa_cons (pv 0) pa_nil)) pe_int (nomark _))
          (pss_one (ps_set (i := 2) scLawBox.nd rfl (Or.inl rfl) (pe_op op_add (pv 2) (pe_op op_mul (pe_op op_modN (pe_callTy call_int1 (by rfl) B.int boot_int (pa_cons (pe_callB call_abs (by rfl) B.abs (by decide +kernel)
            (pa_cons (pe_ix ix_list (pv 0) (pe_op op_modN (pe_callTy call_int1 (by rfl) B.int boot_int (pa_cons (pv 1) pa_nil)) (pe_callB lenS (by rfl) B.len PySem.boot_len (pa_cons (pv 0) pa_nil))) (fun _ _ => rfl)) pa_nil)) pa_nil)) pe_int) pe_int))))
          pss_nil)))
      (pss_one (ps_ret (pe_lst (pa_cons (pe_ix ix_list (pe_lst (pa_cons pe_int (pa_cons (pv 2) pa_nil))) (pe_callTy call_int1 (by rfl) B.int boot_int (pa_cons (pe_cmpR op_ge (pv 2) (pe_op op_pow pe_int pe_int) (nomark _)) pa_nil)) (fun _ _ => rfl))
        (pa_cons (pe_op op_add (pe_op op_modN (pe_callTy call_int1 (by rfl) B.int boot_int (pa_cons (pe_op op_add (pe_op op_mul (pe_op op_modN (pe_callTy call_int1 (by rfl) B.int boot_int (pa_cons (pv 2) pa_nil)) pe_int) pe_int) (pe_op op_mul pe_int (pv 1))) pa_nil)) pe_int) pe_int)
          (pa_cons pe_int pa_nil))))))), ?_⟩
    have lenk : (ns.map V.int).length = ns.length := List.length_map _
    have item : ∀ i : Nat, i < ns.length → (ns.map V.int)[i]? = some (.int (ns.getD i 0)) := fun i hi => by
      rw [List.getElem?_map, List.getElem?_eq_getElem hi, List.getD_eq_getElem?_getD, List.getElem?_eq_getElem hi]
      rfl
    refine ⟨_, rfl, _, _, rfl, rfl, .inl ⟨by decide, by decide⟩, _, _, rfl, rfl, ?_⟩
    have pick : ∀ (x : Int) (k : Bool), atI [V.int 0, V.int x] (if k = true then 1 else 0) = some (V.int (if k = true then x else 0)) := fun x k => by cases k <;> rfl
    have pos : ∀ (x : Int) (k : Bool), 0 ≤ x → 0 ≤ (if k = true then x else 0) := fun x k h => by
      cases k
      · exact Int.le_refl 0
      · exact h
    have h0 : (0 : Int) ≤ 9437 * (k : Int) + 449 := by omega
    have abs0 : ∀ z : Int, 0 ≤ (if z < 0 then -z else z) := fun z => by split <;> omega
    refine ⟨_, rfl, .ref a, rfl, a, _, rfl, .inl ha, _, _, rfl, rfl, _, rfl, ite2 (fun c => ?b1) (fun c => ?b2)⟩
    case' b1 =>
      have lt : k < ns.length := by
        rw [decide_eq_true_eq, lenk] at c
        omega
      refine ⟨.ref a, rfl, _, rfl, a, _, _, _, rfl, rfl, ha, atI_nat (item k lt), _, rfl, ?_⟩
      have hc : 0 ≤ (if ns.getD k 0 < 0 then -ns.getD k 0 else ns.getD k 0) := abs0 _
    case' b2 =>
      refine ⟨.ref a, rfl, a, _, rfl, .inl ha, _, _, rfl, rfl, _, rfl, ite2 (fun c2 => ?b3) (fun c2 => ?b4)⟩
    case' b3 =>
      have gt : 0 < ns.length := by
        rw [decide_eq_true_eq, lenk] at c2
        omega
      have ge : ¬ (k < ns.length) := by
        rw [decide_eq_true_eq, lenk] at c
        omega
      have em : (k : Int).fmod ((ns.map V.int).length : Nat) = ((k % ns.length : Nat) : Int) := by
        rw [lenk, Int.fmod_eq_emod_of_nonneg _ (by omega)]
        rfl
      have lt : k % ns.length < ns.length := Nat.mod_lt _ gt
      refine ⟨_, rfl, .ref a, rfl, _, rfl, .inl ⟨_, rfl, .ref a, rfl, a, _, rfl, .inl ha, _, _, rfl, rfl, by rw [lenk]; omega, a, _, _, .int (ns.getD (k % ns.length) 0), rfl, rfl, ha, by rw [em]; exact atI_nat (item _ lt), _, rfl, .inl ⟨_, rfl, _, _, rfl, rfl, (show (2147483477 : Int) ≠ 0 by decide), _, _, rfl, rfl, .inr ⟨by decide, by decide⟩, _, _, rfl, rfl, ?_⟩⟩⟩
      have hc : 0 ≤ 9437 * (k : Int) + 449 + (if ns.getD (k % ns.length) 0 < 0 then -ns.getD (k % ns.length) 0 else ns.getD (k % ns.length) 0).fmod 2147483477 * 46307 := by
        have z := Int.fmod_nonneg_of_pos (if ns.getD (k % ns.length) 0 < 0 then -ns.getD (k % ns.length) 0 else ns.getD (k % ns.length) 0) (show (0 : Int) < 2147483477 by decide)
        omega
    case' b4 =>
      have hc := h0
    all_goals
      refine ⟨_, rfl, by show 2 ≤ sizeLine; decide, fun p1 n1 => ?_⟩
      refine ⟨_, rfl, _, _, rfl, rfl, ⟨by decide, by decide, by decide⟩, _, _, rfl, rfl, .inr ⟨_, rfl, p1, _, _, _, rfl, rfl, .inl (.inl upd_same), pick _ _, ?_⟩⟩
      refine ⟨_, rfl, .inl ⟨_, rfl, _, _, rfl, rfl, (show (2147483477 : Int) ≠ 0 by decide), _, _, rfl, rfl, .inr ⟨by decide, by decide⟩, _, rfl, _, _, rfl, rfl, .inl ⟨by decide, by decide⟩, _, _, rfl, rfl, .inl ⟨_, rfl, _, _, rfl, rfl, (show (2147483477 : Int) ≠ 0 by decide), _, _, rfl, rfl, by show 3 ≤ sizeLine; decide, fun p2 n2 => ?_⟩⟩⟩
      refine q _ p2 ((same_new n1).trans (same_new n2)) ?_ ⟨_, _, _, upd_same, pos _ _ hc⟩
      exact (same_new n1).free n2

/-! ### _law_take -/
theorem sbFree {x p : Addr} {H H' : Hp} (e : SameBut x H H') (hx : ∃ o, H' x = some o) (h : H' p = none) : H p = none := by
  cases q : H p with
  | none => rfl
  | some o =>
    by_cases z : p = x
    · subst z
      obtain ⟨o', hx⟩ := hx
      rw [hx] at h
      cases h
    · rw [e p o q z] at h
      cases h
theorem boxSome {H : Hp} {b : Addr} (h : BoxAt H b) : ∃ o, H b = some o := by
  obtain ⟨c0, c1, c2, h, _⟩ := h
  exact ⟨_, h⟩
def spLawTake : Sp := fun vs H Q _ => ∃ b, ∃ n : Nat, vs = [.ref b, .int n] ∧ BoxAt H b ∧ 1 ≤ n ∧ n < 1073741824 ∧ ∀ H' (r : Nat), r < n → SameBut b H H' → BoxAt H' b → Q (.int r) H'
theorem scLawTake : FnScope ["box", "many", "digit", "raw"] ["box", "many"] (defScope sLawTake) := ⟨rfl, rfl, rfl, by decide +kernel, rfl, by decide +kernel, by decide +kernel⟩
theorem ok_law_take {f : Addr} {fd : FuncData} (F : Fun K "_law_take" "_law_take" sLawTake f fd) (B : Bare mg) : FnOk P w K mg base L2.CX0 1 f fd ["box", "many"] spLawTake := by
  refine F.ok scLawTake (fun vs H Q E h => ?_) (fun cdv A outer s H vs Q E hr h => ?_)
  · obtain ⟨b, n, rfl, _⟩ := h
    rfl
  · obtain ⟨b, n, rfl, ⟨c0, c1, c2, hb, h0⟩, h1, h2, q⟩ := h
    refine ⟨_, pss_cons (ps_if (pt_cmpR op_gt (pe_ix ix_list (pv 0) pe_int (fun _ _ => rfl)) pe_int (nomark _))
        (pss_cons (ps_set (i := 2) scLawTake.nd rfl (Or.inl rfl) (pe_op op_mod (pe_callTy call_int1 (by rfl) B.int boot_int (pa_cons (pe_ix ix_list (pv 0) pe_int (fun _ _ => rfl)) pa_nil)) (pv 1)))
        (pss_cons (ps_asg (pe_op op_fdiv (pe_ix ix_list (pv 0) pe_int (fun _ _ => rfl)) (pv 1)) (pg_sub (pv 0) pe_int set_list (fun _ => rfl)))
        (pss_one (ps_ret (pv 2))))) pss_nil)
      (pss_cons (ps_asg (pe_op op_add (pe_ix ix_list (pv 0) pe_int (fun _ _ => rfl)) pe_int) (pg_sub (pv 0) pe_int set_list (fun _ => rfl)))
      (pss_cons (ps_set (i := 3) scLawTake.nd rfl (Or.inl rfl) (pe_op op_mod (pe_callTy call_int1 (by rfl) B.int boot_int (pa_cons (pe_op op_add (pe_op op_mul (pe_op op_add (pe_ix ix_list (pv 0) pe_int (fun _ _ => rfl)) (pe_op op_mul pe_int (pe_ix ix_list (pv 0) pe_int (fun _ _ => rfl)))) pe_int) pe_int) pa_nil)) pe_int))
      (pss_cons (ps_asg (pe_op op_add (pe_op op_mod (pe_callTy call_int1 (by rfl) B.int boot_int (pa_cons (pe_op op_add (pe_op op_mul (pv 3) pe_int) pe_int) pa_nil)) pe_int) pe_int) (pg_sub (pv 0) pe_int set_list (fun _ => rfl)))
      (pss_one (ps_ret (pe_op op_mod (pe_callTy call_int1 (by rfl) B.int boot_int (pa_cons (pe_op op_fdiv (pe_op op_add (pe_op op_mul (pv 3) pe_int) (pe_ix ix_list (pv 0) pe_int (fun _ _ => rfl))) pe_int) pa_nil)) (pv 1))))))), ?_⟩
    have np : (0 : Int) < (n : Int) := by omega
    have sl : SqL K H b [.int c0, .int c1, .int c2] := .inl (.inl hb)
    have md : ∀ z : Int, ∃ r : Nat, z % (n : Int) = r ∧ r < n := fun z => by
      have z1 := Int.emod_nonneg z (show (n : Int) ≠ 0 by omega)
      have z2 := Int.emod_lt_of_pos z np
      exact ⟨(z % (n : Int)).toNat, by omega, by omega⟩
    refine ⟨.ref b, rfl, b, _, 0, .int c0, rfl, rfl, sl, rfl, _, _, rfl, rfl, _, rfl, ite2 (fun c => ?_) (fun c => ?_)⟩
    · refine ⟨.ref b, rfl, b, _, 0, .int c0, rfl, rfl, sl, rfl, .inl ⟨_, rfl, _, rfl, _, _, rfl, rfl, np, ?_⟩⟩
      obtain ⟨r, er, hr'⟩ := md c0
      refine ⟨.ref b, rfl, b, _, 0, .int c0, rfl, rfl, sl, rfl, _, rfl, _, _, rfl, rfl, ⟨np, by omega⟩, .ref b, rfl, b, _, 0, 0, rfl, rfl, hb, rfl, _, rfl, ?_⟩
      have z := q (upd H b (.lst ([V.int c0, .int c1, .int c2].set 0 (.int (c0 / n))))) r hr' SameBut.put ⟨_, _, _, upd_same, Int.ediv_nonneg h0 (by omega)⟩
      rw [← er] at z
      exact z
    · refine ⟨.ref b, rfl, b, _, 2, .int c2, rfl, rfl, sl, rfl, _, _, rfl, rfl, .ref b, rfl, b, _, 2, 2, rfl, rfl, hb, rfl, ?_⟩
      have k1 : (upd H b (.lst ([V.int c0, .int c1, .int c2].set 2 (.int (c2 + 1))))) b = some (.lst [.int c0, .int c1, .int (c2 + 1)]) := upd_same
      refine ⟨.ref b, rfl, b, _, 1, .int c1, rfl, rfl, .inl (.inl k1), rfl, .ref b, rfl, b, _, 2, .int (c2 + 1), rfl, rfl, .inl (.inl k1), rfl, _, _, rfl, rfl, .inl ⟨by decide, by decide⟩, _, _, rfl, rfl, _, _, rfl, rfl, .inr ⟨by decide, by decide⟩, _, _, rfl, rfl,
        .inl ⟨_, rfl, _, _, rfl, rfl, (show (0 : Int) < 2147483423 by decide), ?_⟩⟩
      refine ⟨_, rfl, _, _, rfl, rfl, .inr ⟨by decide, by decide⟩, _, _, rfl, rfl, .inl ⟨_, rfl, _, _, rfl, rfl, (show (0 : Int) < 2147483477 by decide), _, _, rfl, rfl, .ref b, rfl, b, _, 1, 1, rfl, rfl, k1, rfl, ?_⟩⟩
      refine ⟨_, rfl, _, _, rfl, rfl, .inr ⟨by decide, by decide⟩, .ref b, rfl, b, _, 1, _, rfl, rfl, .inl (.inl upd_same), rfl, _, _, rfl, rfl, _, _, rfl, rfl, ⟨by decide, by decide⟩, .inl ⟨_, rfl, _, rfl, _, _, rfl, rfl, np, ?_⟩⟩
      obtain ⟨r, er, hr'⟩ := md ((((c1 + 65027 * (c2 + 1)) * 56267 + 61) % 2147483423 * 2147483629 + ((((c1 + 65027 * (c2 + 1)) * 56267 + 61) % 2147483423 * 46133 + 15013) % 2147483477 + 1)) / 8191)
      have z := fun H' s h => q H' r hr' s h
      rw [← er] at z
      exact z _ (SameBut.trans (x := b) SameBut.put SameBut.put) ⟨_, _, _, upd_same, h0⟩

/-! ### _law_pick -/
def spLawPick (K : PySem.W.Frag) : Sp := fun vs H Q _ => ∃ b l xs, vs = [.ref b, .ref l] ∧ BoxAt H b ∧ b ≠ l ∧ SqL K H l xs ∧ 1 ≤ xs.length ∧ xs.length < 1000 ∧ ∀ H' v, v ∈ xs → SameBut b H H' → BoxAt H' b → Q v H'
theorem scLawPick : FnScope ["box", "some"] ["box", "some"] (defScope sLawPick) := ⟨rfl, rfl, rfl, by decide +kernel, rfl, by decide +kernel, by decide +kernel⟩
theorem sbList {K : PySem.W.Frag} {x a : Addr} {H H' : Hp} {xs : List V} (e : SameBut x H H') (n : a ≠ x) (h : SqL K H a xs) : SqL K H' a xs := by
  rcases h with (h | ⟨o, h⟩) | h
  · exact .inl (.inl (e _ _ h n))
  · exact .inl (.inr ⟨o, e _ _ h n⟩)
  · exact .inr h
theorem ok_law_pick {f : Addr} {fd : FuncData} (F : Fun K "_law_pick" "_law_pick" sLawPick f fd) (B : Bare mg) (Gt : Has P w K mg base L2.CX0 1 "_law_take" ["box", "many"] spLawTake) : FnOk P w K mg base L2.CX0 2 f fd ["box", "some"] (spLawPick K) := by
  refine F.ok scLawPick (fun vs H Q E h => ?_) (fun cdv A outer s H vs Q E hr h => ?_)
  · obtain ⟨b, l, xs, rfl, _⟩ := h
    rfl
  · obtain ⟨b, l, xs, rfl, hb, nbl, hl, h1, h2, q⟩ := h
    refine ⟨_, pss_one (ps_ret (pe_ix ix_list (pv 1) (pe_has Gt hr (by rfl) (pa_cons (pv 0) (pa_cons (pe_callB lenS (by rfl) B.len PySem.boot_len (pa_cons (pv 1) pa_nil)) pa_nil))) (fun _ _ => rfl))), ?_⟩
    refine ⟨.ref l, rfl, .ref b, rfl, .ref l, rfl, l, xs, rfl, .inl hl, b, xs.length, rfl, hb, h1, by omega, fun H' r hr' sb hb' => ?_⟩
    have e : xs[r]? = some xs[r] := List.getElem?_eq_getElem hr'
    exact ⟨l, xs, r, xs[r], rfl, rfl, sbList sb (fun z => nbl z.symm) hl, atI_nat e, q H' _ (List.getElem_mem hr') sb hb'⟩
end
end Lw

set_option Elab.async false
set_option linter.all false
set_option maxRecDepth 100000
set_option maxHeartbeats 4000000
namespace Lw
open PySem PySem.Spec PyProof.Rows L2 Lx Pg
/-! what stays -/
theorem BoxAt.same {H H' : Hp} {b : Addr} (h : BoxAt H b) (e : Same H H') : BoxAt H' b := by
  obtain ⟨c0, c1, c2, z, h0⟩ := h
  exact ⟨c0, c1, c2, e _ _ z, h0⟩
theorem BoxAt.ext {H H' : Hp} {b : Addr} (h : BoxAt H b) (e : LamX.ExtN H H') : BoxAt H' b := by
  obtain ⟨c0, c1, c2, z, h0⟩ := h
  exact ⟨c0, c1, c2, e _ _ z (fun _ q => by cases q), h0⟩
theorem BoxAt.ne {H : Hp} {b p : Addr} (h : BoxAt H b) (n : H p = none) : p ≠ b := by
  rintro rfl
  obtain ⟨c0, c1, c2, z, h0⟩ := h
  rw [n] at z
  cases z
theorem sb_ext {b : Addr} {H H' : Hp} (e : SameBut b H H') : Ext b H H' := fun a o h n _ => e a o h n
theorem _root_.Pg.MachAt.ext {K : PySem.W.Frag} {C b : Addr} {H H' : Hp} {m : Addr} {T : List (List Int)} (h : MachAt K C H m T) (e : Ext b H H') (hb : BoxAt H b) : MachAt K C H' m T := by
  obtain ⟨c0, c1, c2, z, _⟩ := hb
  obtain ⟨dx, fs, t, as, h1, h2, h3, h4, h5, h6⟩ := h.ex
  have nb : m ≠ b := by
    rintro rfl
    rw [z] at h1
    cases h1
  exact ⟨dx, fs, t, as, e _ _ h1 nb (fun _ q => by cases q), h2, h3, h4, e.tup z h5, paired_imp h6 fun a r q => e.tup z q⟩
theorem tabs_sb {T : List (Addr × Str)} {b : Addr} {H H' : Hp} (h : LamX.Tabs T H) (e : SameBut b H H') (hb : BoxAt H b) : LamX.Tabs T H' := by
  obtain ⟨c0, c1, c2, z, _⟩ := hb
  exact tabs_but z e h
/-- at l a list of tuples of these numbers -/
def RowsAt (K : PySem.W.Frag) (H : Hp) (l : Addr) (rs : List (List Int)) : Prop := ∃ bs : List Addr, H l = some (.lst (bs.map V.ref)) ∧ Paired (fun (a : Addr) (r : List Int) => SqT K H a (r.map V.int)) bs rs
theorem RowsAt.ext {K : PySem.W.Frag} {b l : Addr} {H H' : Hp} {rs : List (List Int)} (h : RowsAt K H l rs) (e : Ext b H H') (hb : BoxAt H b) (n : l ≠ b) : RowsAt K H' l rs := by
  obtain ⟨c0, c1, c2, z, _⟩ := hb
  obtain ⟨bs, h1, h2⟩ := h
  exact ⟨bs, e _ _ h1 n (fun _ q => by cases q), paired_imp h2 fun a r q => e.tup z q⟩
theorem RowsAt.same {K : PySem.W.Frag} {l : Addr} {H H' : Hp} {rs : List (List Int)} (h : RowsAt K H l rs) (e : Same H H') : RowsAt K H' l rs := by
  obtain ⟨bs, h1, h2⟩ := h
  exact ⟨bs, e _ _ h1, paired_imp h2 fun a r q => sameT e q⟩
theorem RowsAt.get {K : PySem.W.Frag} {l : Addr} {H : Hp} {rs : List (List Int)} {i : Nat} (h : RowsAt K H l rs) (hi : i < rs.length) : ∃ (bs : List Addr) (a : Addr), H l = some (.lst (bs.map V.ref)) ∧ bs.length = rs.length ∧ (bs.map V.ref)[i]? = some (V.ref a) ∧ SqT K H a ((rs[i]'hi).map V.int) := by
  obtain ⟨bs, h1, h2⟩ := h
  have hl := paired_len h2
  have hb : bs[i]? = some (bs[i]'(by omega)) := List.getElem?_eq_getElem _
  obtain ⟨r, e1, e2⟩ := Pg.paired_get h2 hb
  rw [List.getElem?_eq_getElem hi] at e1
  cases e1
  exact ⟨bs, _, h1, hl, by rw [List.getElem?_map, hb]; rfl, e2⟩
def rowsD (rs : List (List Int)) : PyData := .list (rs.map fun r => .tuple (r.map PyData.int))
theorem dps_rows {K : PySem.W.Frag} {H : Hp} : ∀ {bs : List Addr} {rs : List (List Int)}, Paired (fun (a : Addr) (r : List Int) => SqT K H a (r.map V.int)) bs rs → DpAll K H (bs.map V.ref) (rs.map fun r => PyData.tuple (r.map PyData.int))
  | _, _, .nil => .nil
  | _, _, .cons h t => .cons (dp_tuple_ints h) (dps_rows t)
theorem RowsAt.dp {K : PySem.W.Frag} {l : Addr} {H : Hp} {rs : List (List Int)} (h : RowsAt K H l rs) : Dp K H (.ref l) (rowsD rs) := by
  obtain ⟨bs, h1, h2⟩ := h
  exact .lst (.inl (.inl h1)) (dps_rows h2)
/-- where a def stands: what stays since H, the box, the tables -/
structure Lv (b : Addr) (Tb : List (Addr × Str)) (H H' : Hp) : Prop where
  ext : Ext b H H'
  box : BoxAt H' b
  tabs : LamX.Tabs Tb H'
theorem Lv.same {b : Addr} {Tb : List (Addr × Str)} {H H1 H2 : Hp} (l : Lv b Tb H H1) (e : Same H1 H2) : Lv b Tb H H2 := ⟨l.ext.trans (Ext.of e), l.box.same e, l.tabs.ext e⟩
theorem Lv.new {b p : Addr} {Tb : List (Addr × Str)} {H H1 : Hp} {o : HO} (l : Lv b Tb H H1) (n : H1 p = none) : Lv b Tb H (upd H1 p o) := l.same (same_new n)
theorem Lv.draw {b : Addr} {Tb : List (Addr × Str)} {H H1 H2 : Hp} (l : Lv b Tb H H1) (e : SameBut b H1 H2) (hb : BoxAt H2 b) : Lv b Tb H H2 := ⟨l.ext.trans (sb_ext e), hb, tabs_sb l.tabs e l.box⟩
theorem Lv.lam {b : Addr} {Tb : List (Addr × Str)} {H H1 H2 : Hp} (l : Lv b Tb H H1) (e : LamX.ExtN H1 H2) (t : LamX.Tabs Tb H2) : Lv b Tb H H2 := ⟨l.ext.trans (Ext.ofN e), l.box.ext e, t⟩
theorem ext_put {D : Addr} {H : Hp} {o : HO} : Ext D H (upd H D o) := fun a u h n _ => by rw [upd_ne n]; exact h
theorem rows_nil {K : PySem.W.Frag} {H : Hp} {l : Addr} : RowsAt K (upd H l (.lst [])) l [] := ⟨[], upd_same, .nil⟩
theorem rows_put {K : PySem.W.Frag} {H2 H3 H5 : Hp} {D c : Addr} {rs : List (List Int)} {r : List Int} (nD : H2 D = none) (s0 : Same H2 H3) (h : RowsAt K H3 D rs) (s : Same H3 H5) (hc : SqT K H5 c (r.map V.int)) (hl : rs.length < 1000000) :
    ∃ acc, H5 D = some (.lst acc) ∧ acc.length < sizeLine ∧ Same H2 (upd H5 D (.lst (acc ++ [.ref c]))) ∧ RowsAt K (upd H5 D (.lst (acc ++ [.ref c]))) D (rs ++ [r]) := by
  obtain ⟨bs, h1, h2⟩ := h
  have lb := paired_len h2
  have h5 := s _ _ h1
  refine ⟨_, h5, by rw [List.length_map, lb, sizeLine_eq]; omega, fun a o z => ?_, bs ++ [c], by rw [upd_same, List.map_append]; rfl, ?_⟩
  · rw [upd_ne (ne_of_none z nD)]
    exact s _ _ (s0 _ _ z)
  · exact Pg.paired_snoc (paired_imp h2 fun a q z => ext_put.tup h5 (sameT s z)) (ext_put.tup h5 hc)
theorem paired_app {α β : Type} {F : α → β → Prop} : ∀ {l l2 : List α} {r r2 : List β}, Paired F l r → Paired F l2 r2 → Paired F (l ++ l2) (r ++ r2)
  | _, _, _, _, .nil, h => h
  | _, _, _, _, .cons h t, k => .cons h (paired_app t k)
/-- its characters are characters -/
def Chars (x : Str) : Prop := (PyData.str x).canLay0 = true
instance (x : Str) : Decidable (Chars x) := inferInstanceAs (Decidable (_ = true))
theorem rep0 : RepOk (.str "0") := ⟨0, 1, ⟨by decide +kernel, Nat.le_refl _, by decide +kernel, by decide +kernel, rfl, by decide +kernel⟩, by decide, by decide⟩
theorem rep1 : RepOk (.str "1") := ⟨0, 1, ⟨by decide +kernel, Nat.le_refl _, by decide +kernel, by decide +kernel, rfl, by decide +kernel⟩, by decide, by decide⟩
theorem chars_int : ∀ M : Fin 402, Chars (PyData.int ((M.val : Nat) : Int)).shown := by decide +kernel
/-- what is picked as a wrong number -/
theorem bad_pick {K : PySem.W.Frag} {v : V} {M : Nat} {hi : Int} {x : Str} (hx : RepOk (.str x)) (hc : Chars (PyData.str x).shown) (hM : M ≤ 401) (h : hi < M) (hv : v ∈ [V.int (M : Nat), V.int (0 - 1), V.non, V.bl true, V.str x]) :
    Sca v ∧ numV v 0 hi = false ∧ ∃ d, RepOk d ∧ Chars d.shown ∧ ∀ H, Dp K H v d := by
  simp only [List.mem_cons, List.not_mem_nil, or_false] at hv
  rcases hv with rfl | rfl | rfl | rfl | rfl
  · refine ⟨.int _, ?_, _, (neat_int (i := ((M : Nat) : Int)) (by omega)).rep, chars_int ⟨M, by omega⟩, fun H => .int _⟩
    simp only [numV, Bool.and_eq_false_iff, decide_eq_false_iff_not]
    omega
  · refine ⟨.int _, ?_, _, (neat_int (i := 0 - 1) (by decide)).rep, by decide +kernel, fun H => .int _⟩
    simp [numV]
  · exact ⟨.non, rfl, _, neat_none.rep, by decide +kernel, fun H => .non⟩
  · exact ⟨.bl _, rfl, _, (neat_bool true).rep, by decide +kernel, fun H => .bl _⟩
  · exact ⟨.str _, rfl, _, hx, hc, fun H => .str _⟩
theorem shaped_told {a b : Str} (ha : Chars a) (hb : Chars b) : SeqAt.shaped (.tuple [.str a, .str b, .bool true]) = true := by
  show ((PyData.str a).canLay0 && ((PyData.str b).canLay0 && (true && true)) && true) = true
  rw [ha, hb]
  rfl
theorem eqv_told (a b : Str) : PyData.eqv (.tuple [.str a, .str b, .bool true]) (.tuple [.str a, .str b, .bool true]) = true := by
  simp [PyData.eqv, PyData.eqvAll]
theorem dp_told {K : PySem.W.Frag} {H : Hp} {p : Addr} {a b : Str} (h : H p = some (.tup [.str a, .str b, .bl true])) : Dp K H (.ref p) (.tuple [.str a, .str b, .bool true]) :=
  .tup (.inl (.inl h)) (.cons (.str _) (.cons (.str _) (.cons (.bl _) .nil)))

/-- deeds below n -/
def Deeds (n : Nat) (ds : List Int) : Prop := ∀ d ∈ ds, 0 ≤ d ∧ d < n
/-- behind i turns the new list at D holds i draws below n; only the box at b has changed -/
def PvT (b : Addr) (n : Nat) (H1 : Hp) (D : Addr) (i : Nat) (H : Hp) : Prop := SameBut b H1 H ∧ BoxAt H b ∧ ∃ ds : List Int, H D = some (.lst (ds.map V.int)) ∧ ds.length = i ∧ Deeds n ds
theorem pvt0 {b : Addr} {n : Nat} {H1 : Hp} {D : Addr} (hb : BoxAt H1 b) (nD : H1 D = none) : PvT b n H1 D 0 (upd H1 D (.lst [])) := by
  obtain ⟨c0, c1, c2, h, h0⟩ := hb
  exact ⟨SameBut.of (same_new nD), ⟨c0, c1, c2, same_new nD _ _ h, h0⟩, [], upd_same, rfl, fun _ h => nomatch h⟩
theorem pvt_put {b : Addr} {n : Nat} {H1 H H4 : Hp} {D : Addr} {i r : Nat} (hb : BoxAt H1 b) (nD : H1 D = none) (h : PvT b n H1 D i H) (s : SameBut b H H4) (hb4 : BoxAt H4 b) (hr : r < n) (hi : i < 1000000) :
    ∃ acc, H4 D = some (.lst acc) ∧ acc.length < sizeLine ∧ PvT b n H1 D (i + 1) (upd H4 D (.lst (acc ++ [.int (r : Nat)]))) := by
  obtain ⟨s1, _, ds, hD, hl, hd⟩ := h
  have nb : D ≠ b := by
    rintro rfl
    obtain ⟨o, z⟩ := boxSome hb
    rw [nD] at z
    cases z
  refine ⟨_, s _ _ hD nb, by rw [List.length_map, hl, sizeLine_eq]; omega, fun x o z nx => ?_, ?_, ds ++ [(r : Int)], by rw [upd_same, List.map_append]; rfl, by simp [hl], ?_⟩
  · rw [upd_ne (ne_of_none z nD)]
    exact s _ _ (s1 _ _ z nx) nx
  · obtain ⟨c0, c1, c2, z, h0⟩ := hb4
    exact ⟨c0, c1, c2, by rw [upd_ne nb.symm]; exact z, h0⟩
  · intro d hd'
    rcases List.mem_append.mp hd' with z | z
    · exact hd d z
    · have e : d = (r : Int) := by simpa using z
      subst e
      omega
theorem box_new {H : Hp} {b p : Addr} {o : HO} (h : BoxAt H b) (n : H p = none) : BoxAt (upd H p o) b := by
  obtain ⟨c0, c1, c2, z, h0⟩ := h
  exact ⟨c0, c1, c2, same_new n _ _ z, h0⟩
end Lw

set_option Elab.async false
set_option linter.all false
set_option maxRecDepth 100000
set_option maxHeartbeats 4000000
namespace Lw
open PySem PySem.Spec PyProof.Rows L2 Lx Pg
section
variable {P : Program} {w : World} {K : PySem.W.Frag} {mg : Str → Option Value} {base : Heap}
/-! ### _law_log -/
def spLog (K : PySem.W.Frag) : Sp := fun vs H Q _ => ∃ b ta xs, ∃ most : Nat, vs = [.ref b, .ref ta, .int most] ∧ BoxAt H b ∧ ta ≠ b ∧ SqL K H ta xs ∧ 1 ≤ xs.length ∧ xs.length ≤ 4 ∧ most ≤ 100 ∧
  ∀ H' p ds, Deeds xs.length ds → ds.length ≤ most → SameBut b H H' → BoxAt H' b → H p = none → H' p = some (.tup (ds.map V.int)) → Q (.ref p) H'
def nLog : List Str := ["box", "tables", "most", "deed"]
theorem scLog : FnScope nLog ["box", "tables", "most"] (defScope sLawLog) := ⟨rfl, rfl, rfl, by decide +kernel, rfl, by decide +kernel, by decide +kernel⟩
theorem ok_log {f : Addr} {fd : FuncData} (F : Fun K "_law_log" "_law_log" sLawLog f fd) (B : Bare mg) (Gt : Has P w K mg base L2.CX0 1 "_law_take" ["box", "many"] spLawTake) : FnOk P w K mg base L2.CX0 2 f fd ["box", "tables", "most"] (spLog K) := by
  refine F.ok scLog (fun vs H Q E h => ?_) (fun cdv A outer s H vs Q E hr h => ?_)
  · obtain ⟨b, ta, xs, most, rfl, _⟩ := h
    rfl
  · obtain ⟨b, ta, xs, most, rfl, hb, nb, ht, h1, h4, hm, q⟩ := h
    have nd : nLog.Nodup := scLog.nd
    refine ⟨_, pss_one (ps_ret (pe_callTy call_tuple_of (by rfl) B.tuple boot_tuple (pa_cons (pe_lc (own := [("deed", 3)]) (g := gName 3) (tt := tYes) rfl nd (pi_range1 (by rfl) B.range (pa_cons (pe_has Gt hr (by rfl) (pa_cons (pv 0) (pa_cons (pe_op op_add (pv 2) pe_int) pa_nil))) pa_nil))
          (blkOk_by (N := nLog) (sc := defScope sLawLog) (by decide +kernel)) (fun _ _ _ _ _ => pg_name (i := 3) nd rfl (Or.inl rfl)) (fun _ _ _ _ _ => pts_nil)
          (fun _ _ _ _ _ => pe_has Gt hr (by rfl) (pa_cons (pv 0) (pa_cons (pe_callB (r := rLenS K) lenS (by rfl) B.len PySem.boot_len (pa_cons (pv 1) pa_nil)) pa_nil)))) pa_nil))), ?_⟩
    refine ⟨.ref b, rfl, .int most, rfl, _, _, rfl, rfl, b, most + 1, rfl, hb, by omega, by omega, fun H1 r hr1 s1 b1 => ?_⟩
    refine ⟨(r : Int), rfl, by omega, by omega, fun D nD => ?_⟩
    rw [show ((r : Int)).toNat = r by omega]
    refine lc_it walk_range (PvT b xs.length H1 D) (pvt0 b1 nD) (fun _ _ _ _ => trivial) (fun i x H2 H3 hi hp hy => ?_) (fun H2 hp => ?_)
    · obtain ⟨rfl, rfl⟩ := hy
      exact ⟨rfl, yes_in ⟨.ref b, rfl, .ref ta, rfl, ta, xs, rfl, .inl (sbList hp.1 nb (sbList s1 nb ht)), b, xs.length, rfl, hp.2.1, h1, by omega, fun H4 r hr s4 hb4 => pvt_put b1 nD hp s4 hb4 hr (by omega)⟩⟩
    · obtain ⟨s2, b2, ds, hD, hl, hd⟩ := hp
      refine ⟨D, _, rfl, .inl ⟨.inl (.inl hD), fun l nl => ?_⟩⟩
      refine q _ l ds hd (by omega) ((s1.trans s2).trans (SameBut.of (same_new nl))) (box_new b2 nl) (sbFree (s1.trans s2) (boxSome b2) nl) upd_same
/-! ### _law_run -/
def spRun (K : PySem.W.Frag) : Sp := fun vs H Q _ => ∃ ta T la, ∃ a : Nat, ∃ ds : List Int, vs = [.ref ta, .int a, .ref la] ∧ Tabs T ∧ RowsAt K H ta T ∧ a < (T.headD []).length ∧ SqT K H la (ds.map V.int) ∧ Deeds T.length ds ∧ ds.length ≤ 1000 ∧
  ∀ H' p, ∀ zs : List V, Same H H' → H' p = some (.lst (zs ++ [V.int (ledTo T a ds : Nat)])) → Q (.ref p) H'
theorem scRun : FnScope ["tables", "start", "log", "found", "deed"] ["tables", "start", "log"] (defScope sLawRun) := ⟨rfl, rfl, rfl, by decide +kernel, rfl, by decide +kernel, by decide +kernel⟩
theorem ok_run {f : Addr} {fd : FuncData} (F : Fun K "_law_run" "_law_run" sLawRun f fd) (B : Bare mg) : FnOk P w K mg base L2.CX0 1 f fd ["tables", "start", "log"] (spRun K) := by
  refine F.ok scRun (fun vs H Q E h => ?_) (fun cdv A outer s H vs Q E hr h => ?_)
  · obtain ⟨ta, T, la, a, ds, rfl, _⟩ := h
    rfl
  · obtain ⟨ta, T, la, a, ds, rfl, hT, ht, ha, hl, hd, h1000, q⟩ := h
    refine ⟨_, pss_cons (ps_set (i := 3) scRun.nd rfl (Or.inl rfl) (pe_lst (pa_cons (pv 1) pa_nil)))
      (pss_cons (ps_for PassesOwn.never rfl (pi_seq (pv 2)) (pg_name (i := 4) scRun.nd rfl (Or.inl rfl))
        (pss_one (ps_expr (pe_bm PySem.F.plainAttrs_list PySem.F.slot_list_append PySem.F.type_list_append mt_append (pv 3) (pa_cons (pe_ix ix_tup (pe_ix ix_list (pv 0) (pv 4) (fun _ _ => rfl)) (pe_ix ix_list (pv 3) (pe_un un_neg pe_int) (fun _ _ => rfl)) (fun _ _ => rfl)) pa_nil)))))
      (pss_one (ps_ret (pv 3)))), ?_⟩
    refine ⟨_, rfl, by show 1 ≤ sizeLine; decide, fun p np => ?_⟩
    refine ⟨.ref la, rfl, la, rfl, .inr ⟨_, sameT (same_new np) hl, for_it walk_tup (fun i σ H2 => Same H H2 ∧ ∃ zs y, zs.length = i ∧ H2 p = some (.lst (zs ++ [V.int (ledTo T a (ds.take i) : Nat)])) ∧ σ = [some (.ref ta), some (.int a), some (.ref la), some (.ref p), y]) ⟨same_new np, [], none, rfl, upd_same, rfl⟩ (fun i σ H2 _ hp => sameT hp.1 hl) ?_ ?_⟩⟩
    · rintro i x σ H2 H3 hi ⟨s2, zs, y, hz, hp, rfl⟩ ⟨rfl, ex⟩
      rw [List.getElem?_map] at ex
      rw [List.length_map] at hi
      cases ei : ds[i]? with
      | none =>
        rw [ei] at ex
        cases ex
      | some d =>
        rw [ei] at ex
        cases ex
        have bd := hd d (List.mem_of_getElem? ei)
        have lt := ledTo_lt hT ha (ds := ds.take i) fun x hx => hd x (List.mem_of_mem_take hx)
        obtain ⟨lt', row, er, ez⟩ := stepTo_lt hT lt bd.1 bd.2
        have lt2 := (List.getElem?_eq_some_iff.mp er).1
        obtain ⟨bs, c, g1, g2, g3, g4⟩ := (ht.same s2).get lt2
        have e3 : T[d.toNat] = row := by
          rw [List.getElem?_eq_getElem lt2] at er
          exact Option.some.inj er
        rw [e3] at g4
        have ed : d = ((d.toNat : Nat) : Int) := by omega
        refine ⟨.ref p, rfl, .inl ⟨rfl, _, .inl (.inl hp)⟩, .ref ta, rfl, .int d, rfl, ta, _, d, .ref c, rfl, rfl, .inl (.inl g1), by rw [ed]; exact atI_nat g3, ?_⟩
        refine ⟨.ref p, rfl, _, rfl, p, _, _, _, rfl, rfl, .inl (.inl hp), atI_last _ _, ?_⟩
        refine ⟨c, _, _, _, rfl, rfl, g4, atI_nat ez, ?_⟩
        refine ⟨p, _, _, rfl, rfl, hp, by rw [List.length_append, hz, sizeLine_eq]; show i + 1 < _; omega, ?_⟩
        refine ⟨fun b o z => ?_, zs ++ [V.int (ledTo T a (ds.take i) : Nat)], some (.int d), by rw [List.length_append, hz]; rfl, ?_, rfl⟩
        · rw [upd_ne (ne_of_none z np)]
          exact s2 _ _ z
        · rw [upd_same, List.take_add_one, ei]
          unfold ledTo
          rw [List.foldl_append]
          rfl
    · rintro σ H2 ⟨s2, zs, y, hz, hp, rfl⟩
      rw [List.length_map, List.take_of_length_le (Nat.le_refl _)] at hp
      exact ⟨_, rfl, q _ p zs s2 hp⟩
end
end Lw

set_option Elab.async false
set_option linter.all false
set_option maxRecDepth 100000
set_option maxHeartbeats 4000000
namespace Lw
open PySem PySem.Spec PyProof.Rows L2 Lx Pg
/-- a table under way: the box at b, the tables so far at fnd, the row ds at ra -/
structure TabSt (K : PySem.W.Frag) (b fnd ra : Addr) (n : Nat) (H0 H : Hp) (T : List (List Int)) (ds : List Int) : Prop where
  sb : SameBut b H0 H
  box : BoxAt H b
  rows : RowsAt K H fnd T
  row : H ra = some (.lst (ds.map V.int))
  len : ds.length = n
  ok : Deeds n ds
theorem TabSt.next {K : PySem.W.Frag} {b fnd ra D : Addr} {n : Nat} {H0 H H' : Hp} {T : List (List Int)} {ds es : List Int} (t : TabSt K b fnd ra n H0 H T ds) (s : Same H H') (h : H' D = some (.lst (es.map V.int))) (hl : es.length = n) (hd : Deeds n es) : TabSt K b fnd D n H0 H' T es :=
  ⟨t.sb.trans (.of s), t.box.same s, t.rows.same s, h, hl, hd⟩
theorem TabSt.fn {K : PySem.W.Frag} {b fnd ra D : Addr} {n : Nat} {H0 H H' : Hp} {T : List (List Int)} {ds : List Int} {f : Nat → Int} (t : TabSt K b fnd ra n H0 H T ds) (h : PvF (fun _ => true) (fun k => .int (f k)) H D n H') (hf : ∀ k, k < n → 0 ≤ f k ∧ f k < n) : TabSt K b fnd D n H0 H' T ((List.range n).map f) := by
  refine t.next h.1 ?_ (by rw [List.length_map, List.length_range]) fun d hd => ?_
  · rw [h.2, List.filter_eq_self.mpr fun _ _ => rfl, List.map_map]
    rfl
  · obtain ⟨k, hk, rfl⟩ := List.mem_map.mp hd
    exact hf k (List.mem_range.mp hk)
theorem flat1 (n : Nat) (v : V) : (List.replicate n [v]).flatten = List.replicate n v := by
  induction n with
  | zero => rfl
  | succ n ih => rw [List.replicate_succ, List.flatten_cons, ih, List.replicate_succ]; rfl
section
variable {P : Program} {w : World} {K : PySem.W.Frag} {mg : Str → Option Value} {base : Heap}
def spTables (K : PySem.W.Frag) : Sp := fun vs H Q _ => ∃ b sz kd, vs = [.ref b, .ref sz, .ref kd] ∧ BoxAt H b ∧ sz ≠ b ∧ kd ≠ b ∧ SqL K H sz [.int 1, .int 2, .int 3, .int 4, .int 5] ∧ SqL K H kd [.int 1, .int 2, .int 2, .int 3, .int 4] ∧
  ∀ H' p T, Tabs T → (T.headD []).length ≤ 5 → SameBut b H H' → BoxAt H' b → H p = none → RowsAt K H' p T → Q (.ref p) H'
def nTables : List Str := ["box", "sizes", "kinds", "many", "found", "deed", "style", "by", "table", "state"]
theorem scTables : FnScope nTables ["box", "sizes", "kinds"] (defScope sLawTables) := ⟨rfl, rfl, rfl, by decide +kernel, rfl, by decide +kernel, by decide +kernel⟩
theorem ok_tables {f : Addr} {fd : FuncData} (F : Fun K "_law_tables" "_law_tables" sLawTables f fd) (B : Bare mg) (Gt : Has P w K mg base L2.CX0 1 "_law_take" ["box", "many"] spLawTake) (Gk : Has P w K mg base L2.CX0 2 "_law_pick" ["box", "some"] (spLawPick K)) :
    FnOk P w K mg base L2.CX0 3 f fd ["box", "sizes", "kinds"] (spTables K) := by
  refine F.ok scTables (fun vs H Q E h => ?_) (fun cdv A outer s H vs Q E hr h => ?_)
  · obtain ⟨b, sz, kd, rfl, _⟩ := h
    rfl
  · obtain ⟨b, sz, kd, rfl, hb, nsz, nkd, hsz, hkd, q⟩ := h
    have nd : nTables.Nodup := scTables.nd
    refine ⟨_, pss_cons (ps_asg (pe_tup (pa_cons (pe_has Gk hr (by rfl) (pa_cons (pv 0) (pa_cons (pv 1) pa_nil))) (pa_cons (pe_lst pa_nil) pa_nil))) (pg_tup (by rfl) (pgs_cons (pg_name (i := 3) nd rfl (Or.inr rfl)) (pgs_cons (pg_name (i := 4) nd rfl (Or.inl rfl)) pgs_nil))))
      (pss_cons (ps_for PassesOwn.never rfl (pi_range1 (by rfl) B.range (pa_cons (pe_has Gk hr (by rfl) (pa_cons (pv 0) (pa_cons (pv 2) pa_nil))) pa_nil)) (pg_name (i := 5) nd rfl (Or.inl rfl))
        (pss_cons (ps_asg (pe_tup (pa_cons (pe_has Gt (hr.mono (by decide)) (by rfl) (pa_cons (pv 0) (pa_cons pe_int pa_nil))) (pa_cons (pe_has Gt (hr.mono (by decide)) (by rfl) (pa_cons (pv 0) (pa_cons (pv 3) pa_nil))) pa_nil))) (pg_tup (by rfl) (pgs_cons (pg_name (i := 6) nd rfl (Or.inl rfl)) (pgs_cons (pg_name (i := 7) nd rfl (Or.inr rfl)) pgs_nil))))
        (C8.pss_cut (ps_setLc (i := 8) (own := [("state", 9)]) (g := gName 9) (tt := tYes) rfl nd rfl rfl (sw_true rfl rfl rfl (by decide +kernel)) (pi_range1 (by rfl) B.range (pa_cons (pv 3) pa_nil))
          (blkOk_by (N := nTables) (sc := defScope sLawTables) (by decide +kernel)) (fun _ _ _ _ _ => pg_name (i := 9) nd rfl (Or.inl rfl)) (fun _ _ _ _ _ => pts_nil)
          (fun _ _ _ _ _ => pe_has Gt (hr.mono (by decide)) (by rfl) (pa_cons (pv 0) (pa_cons (pv 3) pa_nil))))
        (C8.pss_cut (ps_if (pt_cmpR op_eq (pv 6) pe_int (nomark _)) (pss_one (ps_setLc (i := 8) (own := [("state", 9)]) (g := gName 9) (tt := tYes) rfl nd rfl rfl (sw_true rfl rfl rfl (by decide +kernel)) (pi_range1 (by rfl) B.range (pa_cons (pv 3) pa_nil))
          (blkOk_by (N := nTables) (sc := defScope sLawTables) (by decide +kernel)) (fun _ _ _ _ _ => pg_name (i := 9) nd rfl (Or.inl rfl)) (fun _ _ _ _ _ => pts_nil)
          (fun _ _ _ _ _ => pe_op op_mod (pe_callTy call_int1 (by rfl) B.int boot_int (pa_cons (pe_op op_add (pv 9) (pv 7)) pa_nil)) (pv 3)))) pss_nil)
        (C8.pss_cut (ps_if (pt_cmpR op_eq (pv 6) pe_int (nomark _)) (pss_one (ps_setLc (i := 8) (own := [("state", 9)]) (g := gName 9) (tt := tYes) rfl nd rfl rfl (sw_true rfl rfl rfl (by decide +kernel)) (pi_range1 (by rfl) B.range (pa_cons (pv 3) pa_nil))
          (blkOk_by (N := nTables) (sc := defScope sLawTables) (by decide +kernel)) (fun _ _ _ _ _ => pg_name (i := 9) nd rfl (Or.inl rfl)) (fun _ _ _ _ _ => pts_nil)
          (fun _ _ _ _ _ => pe_callB (call_min2 rfl) (by rfl) B.min (by decide +kernel) (pa_cons (pe_op op_sub (pv 3) pe_int) (pa_cons (pe_op op_add (pv 9) pe_int) pa_nil))))) pss_nil)
        (C8.pss_cut (ps_if (pt_cmpR op_eq (pv 6) pe_int (nomark _)) (pss_one (ps_set (i := 8) nd rfl (Or.inl rfl) (pe_op op_rep (pe_lst (pa_cons (pv 7) pa_nil)) (pv 3)))) pss_nil)
        (C8.pss_cut (ps_if (pt_cmpR op_eq (pv 6) pe_int (nomark _)) (pss_one (ps_setLc (i := 8) (own := [("state", 9)]) (g := gName 9) (tt := tYes) rfl nd rfl rfl (sw_true rfl rfl rfl (by decide +kernel)) (pi_range1 (by rfl) B.range (pa_cons (pv 3) pa_nil))
          (blkOk_by (N := nTables) (sc := defScope sLawTables) (by decide +kernel)) (fun _ _ _ _ _ => pg_name (i := 9) nd rfl (Or.inl rfl)) (fun _ _ _ _ _ => pts_nil)
          (fun _ _ _ _ _ => pe_callB (call_max2 rfl) (by rfl) B.max (by decide +kernel) (pa_cons (pv 9) (pa_cons (pv 7) pa_nil))))) pss_nil)
        (pss_one (ps_expr (pe_bm PySem.F.plainAttrs_list PySem.F.slot_list_append PySem.F.type_list_append mt_append (pv 4) (pa_cons (pe_callTy call_tuple_of (by rfl) B.tuple boot_tuple (pa_cons (pv 8) pa_nil)) pa_nil)))))))))))
      (pss_one (ps_ret (pv 4)))), ?_⟩
    refine ⟨.ref b, rfl, .ref sz, rfl, b, sz, _, rfl, hb, nsz.symm, hsz, by show 1 ≤ 5; decide, by show 5 < 1000; decide, fun H1 v hv s1 b1 => ?_⟩
    obtain ⟨n, rfl, n1, n5⟩ : ∃ n : Nat, v = .int n ∧ 1 ≤ n ∧ n ≤ 5 := by
      simp only [List.mem_cons, List.not_mem_nil, or_false] at hv
      rcases hv with rfl | rfl | rfl | rfl | rfl
      · exact ⟨1, rfl, by decide, by decide⟩
      · exact ⟨2, rfl, by decide, by decide⟩
      · exact ⟨3, rfl, by decide, by decide⟩
      · exact ⟨4, rfl, by decide, by decide⟩
      · exact ⟨5, rfl, by decide, by decide⟩
    refine ⟨Nat.zero_le _, fun fnd nf => ⟨by show 2 ≤ sizeLine; decide, fun tp ntp => ?_⟩⟩
    have s2 : Same H1 (upd (upd H1 fnd (.lst [])) tp (.tup [V.int n, V.ref fnd])) := (same_new nf).trans (same_new ntp)
    have b2 := b1.same s2
    have nfb : fnd ≠ b := b1.ne nf
    have rw2 : RowsAt K (upd (upd H1 fnd (.lst [])) tp (.tup [V.int n, V.ref fnd])) fnd [] := (rows_nil (K := K)).same (same_new ntp)
    have n0 : H fnd = none := sbFree s1 (boxSome b1) nf
    refine ⟨tp, _, rfl, .inl (.inl upd_same), rfl, _, [V.ref fnd], rfl, V.ref fnd, [], rfl, rfl, ?_⟩
    have s02 := s1.trans (SameBut.of (x := b) s2)
    generalize upd (upd H1 fnd (.lst [])) tp (.tup [V.int n, V.ref fnd]) = H2 at s02 b2 rw2 ⊢
    refine ⟨.ref b, rfl, .ref kd, rfl, b, kd, _, rfl, b2, nkd.symm, sbList s02 nkd hkd, by show 1 ≤ 5; decide, by show 5 < 1000; decide, fun H3 v hv s3 b3 => ?_⟩
    obtain ⟨m, rfl, m1, m4⟩ : ∃ n : Nat, v = .int n ∧ 1 ≤ n ∧ n ≤ 4 := by
      simp only [List.mem_cons, List.not_mem_nil, or_false] at hv
      rcases hv with rfl | rfl | rfl | rfl | rfl
      · exact ⟨1, rfl, by decide, by decide⟩
      · exact ⟨2, rfl, by decide, by decide⟩
      · exact ⟨2, rfl, by decide, by decide⟩
      · exact ⟨3, rfl, by decide, by decide⟩
      · exact ⟨4, rfl, by decide, by decide⟩
    have rw3 := rw2.ext (sb_ext s3) b2 nfb
    have s03 := s02.trans s3
    refine ⟨(m : Int), rfl, by omega, by omega, ?_⟩
    rw [show ((m : Int)).toNat = m by omega]
    refine for_it walk_range (fun i σ H' => ∃ T y5 y6 y7 y8, σ = [some (.ref b), some (.ref sz), some (.ref kd), some (.int n), some (.ref fnd), y5, y6, y7, y8, none] ∧ SameBut b H H' ∧ BoxAt H' b ∧ RowsAt K H' fnd T ∧ T.length = i ∧ ∀ row ∈ T, row.length = n ∧ Deeds n row)
      ⟨[], none, none, none, none, rfl, s03, b3, rw3, rfl, fun _ h => nomatch h⟩ (fun _ _ _ _ _ => trivial) ?_ ?_
    · rintro i x σ H4 H4' hi ⟨T, y5, y6, y7, y8, rfl, s4, b4, rw4, lT, good⟩ ⟨rfl, rfl⟩
      refine ⟨.ref b, rfl, b, 6, rfl, b4, by decide, by decide, fun H5 st hst s5 b5 => ?_⟩
      refine ⟨.ref b, rfl, .int n, rfl, b, n, rfl, b5, n1, by omega, fun H6 by_ hby s6 b6 => ?_⟩
      refine ⟨by show 2 ≤ sizeLine; decide, fun tp2 ntp2 => ?_⟩
      refine ⟨tp2, _, rfl, .inl (.inl upd_same), rfl, _, [V.int (by_ : Nat)], rfl, V.int (by_ : Nat), [], rfl, rfl, ?_⟩
      have s7 := ((s4.trans s5).trans s6).trans (SameBut.of (same_new (o := .tup [V.int (st : Nat), V.int (by_ : Nat)]) ntp2))
      have b7 := box_new (o := .tup [V.int (st : Nat), V.int (by_ : Nat)]) b6 ntp2
      have rw7 : RowsAt K (upd H6 tp2 (.tup [V.int (st : Nat), V.int (by_ : Nat)])) fnd T := ((rw4.ext (sb_ext s5) b4 nfb).ext (sb_ext s6) b5 nfb).same (same_new ntp2)
      generalize upd H6 tp2 (.tup [V.int (st : Nat), V.int (by_ : Nat)]) = H7 at s7 b7 rw7 ⊢
      let Mid : L2.St → Hp → Prop := fun σ' H' => ∃ ra ds, σ' = [some (.ref b), some (.ref sz), some (.ref kd), some (.int n), some (.ref fnd), some (.int (0 + (i : Int))), some (.int (st : Nat)), some (.int (by_ : Nat)), some (.ref ra), none] ∧ TabSt K b fnd ra n H H' T ds
      refine ⟨Mid, ⟨.int n, rfl, (n : Int), rfl, by omega, by omega, fun D nD => ?_⟩, ?_⟩
      · rw [show ((n : Int)).toNat = n by omega]
        refine lc_it walk_range (PvT b n H7 D) (pvt0 b7 nD) (fun _ _ _ _ => trivial) (fun i x H2 H3 hi hp hy => ?_) (fun H8 hp => ?_)
        · obtain ⟨rfl, rfl⟩ := hy
          exact ⟨rfl, yes_in ⟨.ref b, rfl, .int n, rfl, b, n, rfl, hp.2.1, n1, by omega, fun H4 r hr s4 hb4 => pvt_put b7 nD hp s4 hb4 hr (by omega)⟩⟩
        · obtain ⟨s8, b8, ds, hD, hl, hd⟩ := hp
          exact ⟨D, ds, rfl, s7.trans s8, b8, rw7.ext (sb_ext s8) b7 nfb, hD, hl, hd⟩
      rintro σ' H8 ⟨ra, ds, rfl, t⟩
      refine ⟨Mid, ⟨_, rfl, rfl, _, rfl, ite2 (fun c => ?_) (fun c => ⟨ra, ds, rfl, t⟩)⟩, ?_⟩
      · refine ⟨.int n, rfl, (n : Int), rfl, by omega, by omega, fun D nD => ?_⟩
        rw [show ((n : Int)).toNat = n by omega]
        refine lc_it walk_range (PvF (fun _ => true) (fun k => .int (((k : Int) + by_) % n)) H8 D) (pvf0 nD) (fun _ _ _ _ => trivial) (fun i x H2 H3 hi hp hy => ?_) (fun H9 hp => ?_)
        · obtain ⟨rfl, rfl⟩ := hy
          refine ⟨rfl, yes_in ⟨_, rfl, _, rfl, _, _, rfl, rfl, .inl ⟨_, rfl, _, rfl, _, _, rfl, rfl, by omega, ?_⟩⟩⟩
          exact pvf_put nD hp (Same.refl _) rfl (by rw [Int.zero_add]) (by omega)
        · exact ⟨D, _, rfl, t.fn hp fun k hk => ⟨Int.emod_nonneg _ (by omega), Int.emod_lt_of_pos _ (by omega)⟩⟩
      clear t ds ra H8
      rintro σ' H8 ⟨ra, ds, rfl, t⟩
      refine ⟨Mid, ⟨_, rfl, rfl, _, rfl, ite2 (fun c => ?_) (fun c => ⟨ra, ds, rfl, t⟩)⟩, ?_⟩
      · refine ⟨.int n, rfl, (n : Int), rfl, by omega, by omega, fun D nD => ?_⟩
        rw [show ((n : Int)).toNat = n by omega]
        refine lc_it walk_range (PvF (fun _ => true) (fun k => .int (if (k : Int) + 1 < n - 1 then (k : Int) + 1 else n - 1)) H8 D) (pvf0 nD) (fun _ _ _ _ => trivial) (fun i x H2 H3 hi hp hy => ?_) (fun H9 hp => ?_)
        · obtain ⟨rfl, rfl⟩ := hy
          refine ⟨rfl, yes_in ⟨_, rfl, _, _, rfl, rfl, _, rfl, _, _, rfl, rfl, _, _, rfl, ?_⟩⟩
          exact pvf_put nD hp (Same.refl _) rfl (by rw [Int.zero_add]) (by omega)
        · refine ⟨D, _, rfl, t.fn hp fun k hk => ?_⟩
          show (0 : Int) ≤ (if (k : Int) + 1 < n - 1 then (k : Int) + 1 else n - 1) ∧ (if (k : Int) + 1 < n - 1 then (k : Int) + 1 else (n : Int) - 1) < n
          split <;> omega
      clear t ds ra H8
      rintro σ' H8 ⟨ra, ds, rfl, t⟩
      refine ⟨Mid, ⟨_, rfl, rfl, _, rfl, ite2 (fun c => ?_) (fun c => ⟨ra, ds, rfl, t⟩)⟩, ?_⟩
      · refine ⟨_, rfl, by show 1 ≤ sizeLine; decide, fun p1 np1 => ?_⟩
        refine ⟨_, rfl, p1, (n : Int), _, rfl, rfl, upd_same, by omega, by omega, ?_, fun p2 np2 => ?_⟩
        · rw [sizeLine_eq]
          show 1 * ((n : Int)).toNat ≤ _
          omega
        · refine ⟨p2, List.replicate n (by_ : Int), rfl, t.next ((same_new np1).trans (same_new np2)) ?_ List.length_replicate fun d hd => ?_⟩
          · rw [upd_same, show ((n : Int)).toNat = n by omega, List.map_replicate]
            rw [flat1]
          · rw [(List.mem_replicate.mp hd).2]
            omega
      clear t ds ra H8
      rintro σ' H8 ⟨ra, ds, rfl, t⟩
      refine ⟨Mid, ⟨_, rfl, rfl, _, rfl, ite2 (fun c => ?_) (fun c => ⟨ra, ds, rfl, t⟩)⟩, ?_⟩
      · refine ⟨.int n, rfl, (n : Int), rfl, by omega, by omega, fun D nD => ?_⟩
        rw [show ((n : Int)).toNat = n by omega]
        refine lc_it walk_range (PvF (fun _ => true) (fun k => .int (if (by_ : Int) > (k : Int) then (by_ : Int) else (k : Int))) H8 D) (pvf0 nD) (fun _ _ _ _ => trivial) (fun i x H2 H3 hi hp hy => ?_) (fun H9 hp => ?_)
        · obtain ⟨rfl, rfl⟩ := hy
          refine ⟨rfl, yes_in ⟨_, rfl, _, rfl, _, _, rfl, ?_⟩⟩
          exact pvf_put nD hp (Same.refl _) rfl (by rw [Int.zero_add]) (by omega)
        · refine ⟨D, _, rfl, t.fn hp fun k hk => ?_⟩
          show (0 : Int) ≤ (if (by_ : Int) > (k : Int) then (by_ : Int) else (k : Int)) ∧ (if (by_ : Int) > (k : Int) then (by_ : Int) else (k : Int)) < n
          split <;> omega
      clear t ds ra H8
      rintro σ' H8 ⟨ra, ds, rfl, t⟩
      obtain ⟨bs, h1, h2⟩ := t.rows
      refine ⟨.ref fnd, rfl, .inl ⟨rfl, _, .inl (.inl h1)⟩, .ref ra, rfl, ra, _, rfl, .inl ⟨.inl (.inl t.row), fun l nl => ?_⟩⟩
      have s9 := same_new (o := .tup (ds.map V.int)) nl
      obtain ⟨acc, g1, g2, g3, g4⟩ := rows_put (K := K) (D := fnd) (H2 := fun a => if a = fnd then none else H8 a) (c := l) (r := ds) (by simp) (fun a o z => by
        by_cases e : a = fnd
        · simp [e] at z
        · simpa [e] using z) t.rows s9 (.inl (.inl upd_same)) (by omega)
      refine ⟨fnd, acc, _, rfl, rfl, g1, g2, T ++ [ds], _, _, _, _, rfl, ?_, ?_, g4, by rw [List.length_append, lT]; rfl, fun row hrow => ?_⟩
      · intro a o z na
        rw [upd_ne (ne_of_none z n0)]
        exact s9 _ _ (t.sb _ _ z na)
      · obtain ⟨c0, c1, c2, z, h0⟩ := t.box.same s9
        exact ⟨c0, c1, c2, by rw [upd_ne nfb.symm]; exact z, h0⟩
      · rcases List.mem_append.mp hrow with z | z
        · exact good row z
        · obtain rfl : row = ds := by simpa using z
          exact ⟨t.len, t.ok⟩
    · rintro σ H4 ⟨T, y5, y6, y7, y8, rfl, s4, b4, rw4, lT, good⟩
      refine ⟨_, rfl, q H4 fnd T ⟨by omega, by omega, n, n1, by omega, fun row hr => ⟨(good row hr).1, (good row hr).2⟩⟩ ?_ s4 b4 n0 rw4⟩
      cases T with
      | nil =>
        simp at lT
        omega
      | cons r T => 
        have := (good r List.mem_cons_self).1
        show r.length ≤ 5
        omega
end
end Lw

set_option Elab.async false
set_option linter.all false
set_option maxRecDepth 100000
set_option maxHeartbeats 1000000
namespace Lx
open PySem PySem.Spec PyProof.Rows L2
/-- isinstance(e, c) of the error that the suite holds: cls its class, d its dict -/
def rIsG (K : PySem.W.Frag) (a : Addr) (cls : Value) (d : Option Addr) : List V → Hp → VK → Prop := fun xs H Q => ∃ (D dd : Addr), cls = .ref D ∧ d = some dd ∧ ExcC K D ∧ rIsF K D a dd xs H Q
theorem call_isG {X : Cx} {a : Addr} {cls : Value} {d : Option Addr} {oe : Obj} {pn : List (Addr × Obj)} (hz : Zc cls d oe) (hf : ∃ vs, oe.data = .fields vs) : CallR (X.suite a ((a, oe) :: pn)) (.builtin "isinstance") (rIsG X.K a cls d) := by
  rintro pins s σ H xs us Q I r ⟨D, dd, rfl, rfl, C, h⟩
  exact call_isF C hz hf pins s σ H xs us Q I r h
end Lx
namespace Lw
open PySem PySem.Spec PyProof.Rows L2 Lx Pg
/-- one error class of the law's ear: its name, its field -/
structure Ear1 (K : PySem.W.Frag) (mg : Str → Option Value) (x fld : Str) (C : Addr) : Prop where
  g : mg x = some (.ref C)
  s : PySem.W.exmOne K (.ref C) (.ref C) = some true
  f : XfC K C
  e : ExcC K C
  n : PySem.W.findIn K (.ref C) fld = some none
structure Ears (K : PySem.W.Frag) (mg : Str → Option Value) (CB CR CS CD CP : Addr) : Prop where
  b : Ear1 K mg "BadMachine" "at" CB
  r : Ear1 K mg "BadRow" "at" CR
  s : Ear1 K mg "NoState" "state" CS
  d : Ear1 K mg "NoDeed" "deed" CD
  gP : mg "PageError" = some (.ref CP)
  rb : PySem.W.exmOne K (.ref CR) (.ref CB) = some false
  sb : PySem.W.exmOne K (.ref CS) (.ref CB) = some false
  sr : PySem.W.exmOne K (.ref CS) (.ref CR) = some false
  db : PySem.W.exmOne K (.ref CD) (.ref CB) = some false
  dr : PySem.W.exmOne K (.ref CD) (.ref CR) = some false
  ds : PySem.W.exmOne K (.ref CD) (.ref CS) = some false
  pb : PySem.W.kitOne K (.ref CB) (.ref CP) = some true
  pr : PySem.W.kitOne K (.ref CR) (.ref CP) = some true
/-- what _law_heard makes of what its lambda does -/
def heardE (K : PySem.W.Frag) (CB CR CS CD : Addr) (Q : VK) : XK := fun cls d H' =>
  (cls = .ref CB ∧ ∃ dd v, d = some dd ∧ H' dd = some (.xd [("at", v)]) ∧ ∀ p H'', Same H' H'' → H' p = none → H'' p = some (.tup [.str "machine", v, .bl true]) → Q (.ref p) H'') ∨
  (cls = .ref CR ∧ ∃ dd v, d = some dd ∧ H' dd = some (.xd [("at", v)]) ∧ ∀ p H'', Same H' H'' → H' p = none → H'' p = some (.tup [.str "row", v, .bl true]) → Q (.ref p) H'') ∨
  (cls = .ref CS ∧ ∃ dd v dv, d = some dd ∧ H' dd = some (.xd [("state", v)]) ∧ Dp K H' v dv ∧ RepOk dv ∧ ∀ p H'', Same H' H'' → H' p = none → H'' p = some (.tup [.str "state", .str dv.shown]) → Q (.ref p) H'') ∨
  (cls = .ref CD ∧ ∃ dd v dv, d = some dd ∧ H' dd = some (.xd [("deed", v)]) ∧ Dp K H' v dv ∧ RepOk dv ∧ ∀ p H'', Same H' H'' → H' p = none → H'' p = some (.tup [.str "deed", .str dv.shown]) → Q (.ref p) H'')
def heardT (K : PySem.W.Frag) (CB CR CS CD : Addr) : (XK → Hp → VK → Prop) → Hp → VK → Prop := fun tl H Q => tl (heardE K CB CR CS CD Q) H fun _ H' => Q .non H'
theorem scHeard : FnScope ["ask", "e"] ["ask"] (defScope sLawHeard) := ⟨rfl, rfl, rfl, by decide +kernel, rfl, by decide +kernel, by decide +kernel⟩
theorem heard_gives {X : Cx} {g CB CR CS CD CP : Addr} {cdg : Value} (B : Bare X.mg) (ea : Ears X.K X.mg CB CR CS CD CP) (hu : X.A.units + 300 < cLine) (hgd : X.A.guards = some []) :
    GivesH X ["ask", "e"] "_law_heard" (defScope sLawHeard) g cdg (defBody sLawHeard) "ask" (heardT X.K CB CR CS CD) := by
  intro f s H Q tl act h
  have hu2 : (X.A.deeper (envOfC "_law_heard" (defScope sLawHeard) s.heap.objs.size g cdg)).units + 200 < cLine := by
    show X.A.units + 3 + 200 < cLine
    omega
  refine ⟨_, pss_cons (ps_try_clauses (Wout := fun _ _ _ _ => False)
      (tb := fun W D σ H' => ∃ Ech : XK, (∀ cls d σ' H'', Ech cls d H'' → σ'.length = 2 → W cls d σ' H'') ∧ σ[0]? = some (some (.ref f)) ∧ H' = H ∧ tl Ech H' fun _ H'' => D.nx σ H'')
      rfl rfl scHeard.nd L2.takes0 (fun W pn xe tk _ => ?_)
      (.cons (i := 1) ⟨rfl, by decide, .inl ea.b.g⟩ rfl rfl (fun a oe cls d pn hz hf => pss_one (ps_ret (pe_tup (pa_cons pe_str (pa_cons (pe_xf ea.b.f ea.b.n hz hf (pv 1)) (pa_cons (pe_callB (r := rIsG X.K a cls d) (call_isG hz hf) (by rfl) B.isinstance boot_isinstance (pa_cons (pv 1) (pa_cons (pe_glob (v := .ref CP) rfl ea.gP rfl) pa_nil))) pa_nil))))))
      (.cons (i := 1) ⟨rfl, by decide, .inl ea.r.g⟩ rfl rfl (fun a oe cls d pn hz hf => pss_one (ps_ret (pe_tup (pa_cons pe_str (pa_cons (pe_xf ea.r.f ea.r.n hz hf (pv 1)) (pa_cons (pe_callB (r := rIsG X.K a cls d) (call_isG hz hf) (by rfl) B.isinstance boot_isinstance (pa_cons (pv 1) (pa_cons (pe_glob (v := .ref CP) rfl ea.gP rfl) pa_nil))) pa_nil))))))
      (.cons (i := 1) ⟨rfl, by decide, .inl ea.s.g⟩ rfl rfl (fun a oe cls d pn hz hf => pss_one (ps_ret (pe_tup (pa_cons pe_str (pa_cons (pe_callB (r := rRepr X.K) (call_reprS hu2 hgd) (by rfl) B.repr (by decide +kernel) (pa_cons (pe_xf ea.s.f ea.s.n hz hf (pv 1)) pa_nil)) pa_nil)))))
      (.cons (i := 1) ⟨rfl, by decide, .inl ea.d.g⟩ rfl rfl (fun a oe cls d pn hz hf => pss_one (ps_ret (pe_tup (pa_cons pe_str (pa_cons (pe_callB (r := rRepr X.K) (call_reprS hu2 hgd) (by rfl) B.repr (by decide +kernel) (pa_cons (pe_xf ea.d.f ea.d.n hz hf (pv 1)) pa_nil)) pa_nil))))) .nil)))))
    (pss_one (ps_ret pe_non)), ?_⟩
  · constructor
    rintro pins s' σ H' D I ⟨Ech, hW, h1, rfl, h2⟩
    have tk2 : Takes ((gCx X ["ask", "e"] "_law_heard" (defScope sLawHeard) g cdg s H').tr pn xe) (fun cls d σ H => σ.length = 2 → W cls d σ H) := fun u s' ⟨a, B, sI, pins, σ, H, cls, d, e, I, nb, up, sky, na, os, ag, w⟩ => tk u s' ⟨a, B, sI, pins, σ, H, cls, d, e, I, nb, up, sky, na, os, ag, w I.len⟩
    exact (pss_one (ps_expr (act _ pn xe Ech _ _ tk2 hW))).run pins s' σ H' D I ⟨h1, rfl, h2⟩
  · refine ⟨heardE X.K CB CR CS CD Q, ?_, rfl, rfl, h⟩
    rintro cls d σ' H' (⟨rfl, dd, v, rfl, hd, q⟩ | ⟨rfl, dd, v, rfl, hd, q⟩ | ⟨rfl, dd, v, dv, rfl, hd, hv, rep, q⟩ | ⟨rfl, dd, v, dv, rfl, hd, hv, rep, q⟩) hl
    all_goals
      obtain ⟨y0, y1, rfl⟩ : ∃ y0 y1, σ' = [y0, y1] := by
        match σ', hl with
        | [y0, y1], _ => exact ⟨y0, y1, rfl⟩
    · refine ⟨true, ea.b.s, fun _ a na => ?_, fun z => Bool.noConfusion z⟩
      exact ⟨.ref a, rfl, rfl, rfl, dd, [("at", v)], v, rfl, hd, rfl, .ref a, rfl, CB, dd, rfl, rfl, ea.b.e, .ref CP, .ref CP, true, [("at", v)], rfl, fun u h => h, ea.pb, hd, by show 3 ≤ sizeLine; decide, fun p np => q p _ (same_new np) np upd_same⟩
    · refine ⟨false, ea.rb, fun z => Bool.noConfusion z, fun _ => ⟨true, ea.r.s, fun _ a na => ?_, fun z => Bool.noConfusion z⟩⟩
      exact ⟨.ref a, rfl, rfl, rfl, dd, [("at", v)], v, rfl, hd, rfl, .ref a, rfl, CR, dd, rfl, rfl, ea.r.e, .ref CP, .ref CP, true, [("at", v)], rfl, fun u h => h, ea.pr, hd, by show 3 ≤ sizeLine; decide, fun p np => q p _ (same_new np) np upd_same⟩
    · refine ⟨false, ea.sb, fun z => Bool.noConfusion z, fun _ => ⟨false, ea.sr, fun z => Bool.noConfusion z, fun _ => ⟨true, ea.s.s, fun _ a na => ?_, fun z => Bool.noConfusion z⟩⟩⟩
      exact ⟨.ref a, rfl, rfl, rfl, dd, [("state", v)], v, rfl, hd, rfl, v, dv, rfl, hv, rep, by show 2 ≤ sizeLine; decide, fun p np => q p _ (same_new np) np upd_same⟩
    · refine ⟨false, ea.db, fun z => Bool.noConfusion z, fun _ => ⟨false, ea.dr, fun z => Bool.noConfusion z, fun _ => ⟨false, ea.ds, fun z => Bool.noConfusion z, fun _ => ⟨true, ea.d.s, fun _ a na => ?_, fun z => Bool.noConfusion z⟩⟩⟩⟩
      exact ⟨.ref a, rfl, rfl, rfl, dd, [("deed", v)], v, rfl, hd, rfl, v, dv, rfl, hv, rep, by show 2 ≤ sizeLine; decide, fun p np => q p _ (same_new np) np upd_same⟩
end Lw

set_option Elab.async false
set_option linter.all false
set_option maxRecDepth 100000
set_option maxHeartbeats 4000000
/-! the states that rows lead to, found by going over all tables as often as there are states -/
namespace Lw
open PySem PySem.Spec PyProof.Rows L2 Lx Pg
theorem neSelf {x : V} {A B : Prop} (h : B) : if (!decide (x = x)) = true then A else B := by
  rw [decide_eq_true rfl]
  exact iteF h
abbrev Asc (fs : List Int) : Prop := fs.Pairwise (· < ·)
theorem Asc.nodup {fs : List Int} (h : Asc fs) : fs.Nodup := h.imp fun z => Int.ne_of_lt z
theorem asc_len {fs gs : List Int} (h : Asc fs) (s : ∀ z ∈ fs, z ∈ gs) : fs.length ≤ gs.length := List.Nodup.length_le_of_subset h.nodup fun z => s z
theorem asc_more {fs gs : List Int} {x : Int} (h : Asc fs) (s : ∀ z ∈ fs, z ∈ gs) (hx : x ∈ gs) (nx : x ∉ fs) : fs.length + 1 ≤ gs.length := by
  have nd : (x :: fs).Nodup := List.nodup_cons.mpr ⟨nx, h.nodup⟩
  exact List.Nodup.length_le_of_subset nd fun z hz => by
    rcases List.mem_cons.mp hz with e | m
    · rw [e]; exact hx
    · exact s z m
/-- where a row of a table leads a state -/
def goTo (row : List Int) (z : Int) : Int := row.getD z.toNat 0
def Shut (rows : List (List Int)) (fs : List Int) : Prop := ∀ row ∈ rows, ∀ z ∈ fs, goTo row z ∈ fs
structure Good (T : List (List Int)) (a : Nat) (fs : List Int) : Prop where
  asc : Asc fs
  here : (a : Int) ∈ fs
  rch : ∀ z ∈ fs, ∃ s : Nat, Rch T a s ∧ z = s
/-- i turns over all tables are done -/
def Outer (T : List (List Int)) (a i : Nat) (fs : List Int) : Prop := Good T a fs ∧ (i + 1 ≤ fs.length ∨ Shut T fs)
/-- .. and j tables of the next one -/
def Inner (T : List (List Int)) (a i j : Nat) (fs : List Int) : Prop := Good T a fs ∧ (i + 2 ≤ fs.length ∨ (i + 1 ≤ fs.length ∧ Shut (T.take j) fs) ∨ Shut T fs)
theorem outer0 (T : List (List Int)) (a : Nat) : Outer T a 0 [(a : Int)] :=
  ⟨⟨List.pairwise_singleton _ _, List.mem_cons_self, fun z hz => ⟨a, .here, by simpa using hz⟩⟩, .inl (Nat.le_refl _)⟩
theorem Outer.inner {T : List (List Int)} {a i : Nat} {fs : List Int} (h : Outer T a i fs) : Inner T a i 0 fs :=
  ⟨h.1, h.2.elim (fun l => .inr (.inl ⟨l, fun r hr => by simp at hr⟩)) fun c => .inr (.inr c)⟩
theorem Inner.outer {T : List (List Int)} {a i : Nat} {fs : List Int} (h : Inner T a i T.length fs) : Outer T a (i + 1) fs :=
  ⟨h.1, h.2.elim .inl fun c => c.elim (fun c => .inr (by have := c.2; rwa [List.take_length] at this)) .inr⟩
theorem Inner.step {T : List (List Int)} {hT : Tabs T} {a i j : Nat} {fs gs : List Int} {row : List Int} (h : Inner T a i j fs) (hj : T[j]? = some row) (ha : a < (T.headD []).length) (asc : Asc gs) (mem : ∀ z, z ∈ gs ↔ z ∈ fs ∨ ∃ y ∈ fs, z = goTo row y) : Inner T a i (j + 1) gs := by
  obtain ⟨g, c⟩ := h
  have hrow : row ∈ T := List.mem_of_getElem? hj
  obtain ⟨_, _, rect⟩ := hT.rect
  have sub : ∀ z ∈ fs, z ∈ gs := fun z hz => (mem z).mpr (.inl hz)
  have g' : Good T a gs := ⟨asc, sub _ g.here, fun z hz => by
    rcases (mem z).mp hz with hz | ⟨y, hy, rfl⟩
    · exact g.rch z hz
    · obtain ⟨s, hs, rfl⟩ := g.rch y hy
      refine ⟨_, .step hs hrow, ?_⟩
      obtain ⟨l, b⟩ := rect row hrow
      have ls : s < row.length := by rw [l]; exact hs.lt hT ha
      have e : row.getD s 0 = row[s] := by simp [List.getD_eq_getElem?_getD, List.getElem?_eq_getElem ls]
      have := b _ (List.getElem_mem ls)
      show row.getD ((s : Int)).toNat 0 = (((row.getD s 0).toNat : Nat) : Int)
      rw [Int.toNat_natCast, e]
      omega⟩
  have len := asc_len g.asc sub
  refine ⟨g', ?_⟩
  rcases Classical.em (∀ y ∈ fs, goTo row y ∈ fs) with all | no
  · have e : gs = fs := asc_ext asc g.asc fun z => ⟨fun hz => by
      rcases (mem z).mp hz with hz | ⟨y, hy, rfl⟩
      · exact hz
      · exact all y hy, sub z⟩
    subst e
    rcases c with c | c | c
    · exact .inl c
    · refine .inr (.inl ⟨c.1, fun r hr => ?_⟩)
      rw [List.take_add_one, hj] at hr
      rcases List.mem_append.mp hr with hr | hr
      · exact c.2 r hr
      · obtain rfl : r = row := by simpa using hr
        exact all
    · exact .inr (.inr c)
  · obtain ⟨y, hy, ny⟩ : ∃ y ∈ fs, goTo row y ∉ fs := Classical.byContradiction fun z => no fun y hy => Classical.byContradiction fun n => z ⟨y, hy, n⟩
    have more := asc_more g.asc sub ((mem _).mpr (.inr ⟨y, hy, rfl⟩)) ny
    rcases c with c | c | c
    · exact .inl (by omega)
    · exact .inl (by omega)
    · exact absurd (c row hrow y hy) ny
/-- what is found is all -/
theorem Outer.all {T : List (List Int)} (hT : Tabs T) {a : Nat} {fs ys : List Int} (h : Outer T a (T.headD []).length fs) (ha : a < (T.headD []).length) (asc : Asc ys) (mem : ∀ z, z ∈ ys ↔ ∃ s : Nat, Rch T a s ∧ z = (s : Int)) : fs = ys := by
  obtain ⟨g, c⟩ := h
  have up : fs.length ≤ (T.headD []).length := by
    have z := asc_len (gs := (List.range (T.headD []).length).map fun (i : Nat) => (i : Int)) g.asc fun z hz => by
      obtain ⟨s, hs, rfl⟩ := g.rch z hz
      exact List.mem_map.mpr ⟨s, List.mem_range.mpr (hs.lt hT ha), rfl⟩
    rwa [List.length_map, List.length_range] at z
  have shut : Shut T fs := c.elim (fun c => absurd c (by omega)) id
  refine asc_ext g.asc asc fun z => ?_
  rw [mem]
  refine ⟨g.rch z, ?_⟩
  rintro ⟨s, hs, rfl⟩
  induction hs with
  | here => exact g.here
  | @step s row hs hrow ih =>
    have z := shut row hrow _ ih
    obtain ⟨_, _, rect⟩ := hT.rect
    obtain ⟨l, b⟩ := rect row hrow
    have ls : s < row.length := by rw [l]; exact hs.lt hT ha
    have e : row.getD s 0 = row[s] := by simp [List.getD_eq_getElem?_getD, List.getElem?_eq_getElem ls]
    have := b _ (List.getElem_mem ls)
    unfold goTo at z
    rw [Int.toNat_natCast] at z
    rw [e] at z ⊢
    rw [Int.toNat_of_nonneg this.1]
    exact z
theorem Good.lt {T : List (List Int)} (hT : Tabs T) {a : Nat} {fs : List Int} (g : Good T a fs) (ha : a < (T.headD []).length) : ∀ z ∈ fs, 0 ≤ z ∧ z < (T.headD []).length := fun z hz => by
  obtain ⟨s, hs, rfl⟩ := g.rch z hz
  have := hs.lt hT ha
  omega
theorem Good.len {T : List (List Int)} (hT : Tabs T) {a : Nat} {fs : List Int} (g : Good T a fs) (ha : a < (T.headD []).length) : fs.length ≤ (T.headD []).length := by
  have z := asc_len (gs := (List.range (T.headD []).length).map fun (i : Nat) => (i : Int)) g.asc fun z hz => by
    obtain ⟨s, hs, rfl⟩ := g.rch z hz
    exact List.mem_map.mpr ⟨s, List.mem_range.mpr (hs.lt hT ha), rfl⟩
  rwa [List.length_map, List.length_range] at z
end Lw

set_option Elab.async false
set_option linter.all false
set_option maxRecDepth 100000
set_option maxHeartbeats 4000000
namespace Lw
open PySem PySem.Spec PyProof.Rows L2 Lx Pg
def rListOf (K : PySem.W.Frag) : List V → Hp → VK → Prop := fun xs H Q => ∃ p ys, xs = [V.ref p] ∧ (SqL K H p ys ∨ SqT K H p ys) ∧ ∀ l, H l = none → Q (.ref l) (upd H l (.lst ys))
theorem listOf {X : Cx} : CallR X (.type "list") (rListOf X.K) := call_list_of
/-- Machine(..), Machine(tables = ..), == of machines -/
structure MkM (P : Program) (w : World) (K : PySem.W.Frag) (mg : Str → Option Value) (base : Heap) (CM CB : Addr) : Prop where
  ex : ∃ f fd g fdg, Mk K CM f ∧ FnOk P w K mg base (L2.CX P w) 3 f fd ["self", "tables"] (spMachine K CM CB) ∧ mg "Machine" = some (.ref CM) ∧ L2.Binds K fd ["self", "tables"] [] ∧
    L2.KBn K fd ["self", "tables"] 1 ["tables"] (fun us ws => us ++ ws) (fun vs zs => vs ++ zs) ∧
    MachE K mg CM g ∧ FnOk P w K mg base L2.CX0 1 g fdg ["self", "other"] (spMachEq K CM) ∧ L2.Binds K fdg ["self", "other"] []
/-- a list of lists, new since H0, and what they hold -/
def Lists (H0 H : Hp) (D : Addr) (T : List (List Int)) : Prop := ∃ as : List Addr, H D = some (.lst (as.map V.ref)) ∧ (∀ a ∈ as, a ≠ D ∧ H0 a = none) ∧ Paired (fun (a : Addr) (r : List Int) => H a = some (.lst (r.map V.int))) as T
theorem lists_put {H2 H3 : Hp} {D l : Addr} {rs : List (List Int)} {r : List Int} (nD : H2 D = none) (s0 : Same H2 H3) (h : Lists H2 H3 D rs) (nl : H3 l = none) (hl : rs.length < 1000000) :
    ∃ acc, (upd H3 l (.lst (r.map V.int))) D = some (.lst acc) ∧ acc.length < sizeLine ∧ Same H2 (upd (upd H3 l (.lst (r.map V.int))) D (.lst (acc ++ [.ref l]))) ∧ Lists H2 (upd (upd H3 l (.lst (r.map V.int))) D (.lst (acc ++ [.ref l]))) D (rs ++ [r]) := by
  obtain ⟨as, h1, h2, h3⟩ := h
  have s1 := same_new (o := .lst (r.map V.int)) nl
  have nDl : l ≠ D := fun e => by rw [e, h1] at nl; cases nl
  have lb := paired_len h3
  refine ⟨as.map V.ref, s1 _ _ h1, by rw [List.length_map, lb, sizeLine_eq]; omega, fun a o z => ?_, as ++ [l], by rw [upd_same, List.map_append]; rfl, fun a ha => ?_, ?_⟩
  · rw [upd_ne (ne_of_none z nD)]
    exact s1 _ _ (s0 _ _ z)
  · rcases List.mem_append.mp ha with ha | ha
    · exact h2 a ha
    · rw [List.mem_singleton.mp ha]
      exact ⟨nDl, s0.free nl⟩
  · generalize hX : (upd (upd H3 l (.lst (r.map V.int))) D (.lst (as.map V.ref ++ [.ref l]))) = X
    have at_ : ∀ a q, a ≠ D → H3 a = some (.lst q) → X a = some (.lst q) := fun a q na z => by
      rw [← hX, upd_ne na]
      exact s1 _ _ z
    have atl : X l = some (.lst (r.map V.int)) := by rw [← hX, upd_ne nDl]; exact upd_same
    clear hX h1 lb hl
    refine Pg.paired_snoc ?_ atl
    induction h3 with
    | nil => exact .nil
    | cons h t ih => exact .cons (at_ _ _ (h2 _ List.mem_cons_self).1 h) (ih fun a ha => h2 a (List.mem_cons_of_mem _ ha))
theorem lists_nil {H : Hp} {D : Addr} : Lists H (upd H D (.lst [])) D [] := ⟨[], upd_same, (fun a h => by simp at h), .nil⟩
theorem Lists.same {H0 H H' : Hp} {D : Addr} {T : List (List Int)} (h : Lists H0 H D T) (e : Same H H') : Lists H0 H' D T := by
  obtain ⟨as, h1, h2, h3⟩ := h
  exact ⟨as, e _ _ h1, h2, paired_imp h3 fun a r z => e _ _ z⟩
theorem Lists.draw {b : Addr} {H0 H H' : Hp} {D : Addr} {T : List (List Int)} (h : Lists H0 H D T) (e : SameBut b H H') (hb : BoxAt H0 b) (n1 : D ≠ b) : Lists H0 H' D T := by
  obtain ⟨as, h1, h2, h3⟩ := h
  refine ⟨as, e _ _ h1 n1, h2, ?_⟩
  clear h1
  induction h3 with
  | nil => exact .nil
  | cons h t ih => exact .cons (e _ _ h (hb.ne (h2 _ List.mem_cons_self).2)) (ih fun a ha => h2 a (List.mem_cons_of_mem _ ha))
theorem Lists.tabV {K : PySem.W.Frag} {H0 H : Hp} {D : Addr} {T : List (List Int)} (h : Lists H0 H D T) : TabV K H (.ref D) T := by
  obtain ⟨as, h1, _, h3⟩ := h
  exact ⟨as, .lst (.inl (.inl h1)), paired_imp h3 fun a r z => .lst (.inl (.inl z))⟩
theorem tabV_tup {K : PySem.W.Frag} {H0 H : Hp} {D l : Addr} {T : List (List Int)} (h : Lists H0 H D T) (nl : H l = none) : ∃ vs, H D = some (.lst vs) ∧ TabV K (upd H l (.tup vs)) (.ref l) T := by
  obtain ⟨as, h1, _, h3⟩ := h
  exact ⟨_, h1, as, .tup (.inl (.inl upd_same)), paired_imp h3 fun a r z => .lst (.inl (.inl (same_new nl _ _ z)))⟩
theorem RowsAt.tabV {K : PySem.W.Frag} {H : Hp} {l : Addr} {T : List (List Int)} (h : RowsAt K H l T) : TabV K H (.ref l) T := by
  obtain ⟨bs, h1, h2⟩ := h
  exact ⟨bs, .lst (.inl (.inl h1)), paired_imp h2 fun a r z => .tup z⟩
theorem _root_.Pg.MachAt.extL {K : PySem.W.Frag} {C b : Addr} {H H' : Hp} {m : Addr} {T : List (List Int)} {ys : List V} (h : MachAt K C H m T) (e : Ext b H H') (hb : H b = some (.lst ys)) : MachAt K C H' m T := by
  obtain ⟨dx, fs, t, as, h1, h2, h3, h4, h5, h6⟩ := h.ex
  have nb : m ≠ b := by
    rintro rfl
    rw [hb] at h1
    cases h1
  exact ⟨dx, fs, t, as, e _ _ h1 nb (fun _ q => by cases q), h2, h3, h4, e.tup hb h5, paired_imp h6 fun a r q => e.tup hb q⟩
theorem Lv.trans {b : Addr} {Tb : List (Addr × Str)} {H H1 H2 : Hp} (l : Lv b Tb H H1) (k : Lv b Tb H1 H2) : Lv b Tb H H2 := ⟨l.ext.trans k.ext, k.box, k.tabs⟩
theorem neat_rows {T : List (List Int)} (hT : Tabs T) : Neat (rowsT T) 2 (4 * 331) := by
  obtain ⟨n, n1, n8, rect⟩ := hT.rows
  have z := neat_tuple (ds := T.map fun r => PyData.tuple (r.map PyData.int)) (a := 1) (b := 330) fun d hd => by
    obtain ⟨r, hr, rfl⟩ := List.mem_map.mp hd
    obtain ⟨l, b⟩ := rect r hr
    have t := neat_tuple (ds := r.map PyData.int) (a := 0) (b := 40) (neat_ints fun d hd => by
      have := b d hd
      omega)
    refine t.mono (Nat.le_refl _) ?_
    rw [List.length_map]
    omega
  refine z.mono (Nat.le_refl _) ?_
  rw [List.length_map]
  have := hT.most4
  omega
/-- where the def stands: the machine at m, the tables at tb -/
structure Sta (K : PySem.W.Frag) (CM b tb m : Addr) (Tb : List (Addr × Str)) (T : List (List Int)) (H H' : Hp) : Prop where
  lv : Lv b Tb H H'
  rw : RowsAt K H' tb T
  hm : MachAt K CM H' m T
theorem Sta.same {K : PySem.W.Frag} {CM b tb m : Addr} {Tb : List (Addr × Str)} {T : List (List Int)} {H H1 H2 : Hp} (s : Sta K CM b tb m Tb T H H1) (e : Same H1 H2) : Sta K CM b tb m Tb T H H2 := ⟨s.lv.same e, s.rw.same e, s.hm.same e⟩
theorem Sta.draw {K : PySem.W.Frag} {CM b tb m : Addr} {Tb : List (Addr × Str)} {T : List (List Int)} {H H1 H2 : Hp} (s : Sta K CM b tb m Tb T H H1) (n : tb ≠ b) (e : SameBut b H1 H2) (hb : BoxAt H2 b) : Sta K CM b tb m Tb T H H2 :=
  ⟨s.lv.draw e hb, s.rw.ext (sb_ext e) s.lv.box n, s.hm.ext (sb_ext e) s.lv.box⟩
theorem Sta.lam {K : PySem.W.Frag} {CM b tb m : Addr} {Tb : List (Addr × Str)} {T : List (List Int)} {H H1 H2 : Hp} (s : Sta K CM b tb m Tb T H H1) (n : tb ≠ b) (e : LamX.ExtN H1 H2) (t : LamX.Tabs Tb H2) : Sta K CM b tb m Tb T H H2 :=
  ⟨s.lv.lam e t, s.rw.ext (Ext.ofN e) s.lv.box n, s.hm.ext (Ext.ofN e) s.lv.box⟩
theorem rep_small {ds : List Int} {n : Nat} (h : ∀ d ∈ ds, 0 ≤ d ∧ d < n) (hn : n ≤ 1000) (hl : ds.length ≤ 1000) : RepOk (.tuple (ds.map PyData.int)) := by
  have t := neat_tuple (ds := ds.map PyData.int) (a := 0) (b := 40) (neat_ints fun d hd => by
    have := h d hd
    omega)
  refine ⟨_, _, t, by decide, ?_⟩
  rw [List.length_map]
  omega
section
variable {P : Program} {w : World} {K : PySem.W.Frag} {mg : Str → Option Value} {base : Heap} {CM CB CR CS CD : Addr}
def spTold (K : PySem.W.Frag) (Tb : List (Addr × Str)) : Sp := fun vs H Q _ => ∃ b tb T, vs = [.ref b, .ref tb] ∧ BoxAt H b ∧ tb ≠ b ∧ Tabs T ∧ (T.headD []).length ≤ 5 ∧ RowsAt K H tb T ∧ LamX.Tabs Tb H ∧ ∀ H', Lv b Tb H H' → Q (.bl true) H'
def nTold : List Str := ["box", "tables", "handed", "many", "machine", "first", "turn", "row", "state", "due", "found", "more", "table", "here", "told"]
theorem scTold : FnScope nTold ["box", "tables"] (defScope sLawToldRight) := ⟨rfl, rfl, rfl, by decide +kernel, rfl, by decide +kernel, by decide +kernel⟩
theorem ok_told {f : Addr} {fd : FuncData} {Tb : List (Addr × Str)} (F : Fun K "_law_told_right" "_law_told_right" sLawToldRight f fd) (B : Bare mg) (M : MachC K CM) (MM : MkM P w K mg base CM CB)
    (GT : Has P w K mg base L2.CX0 1 "_law_take" ["box", "many"] spLawTake) (GL : Has P w K mg base L2.CX0 2 "_law_log" ["box", "tables", "most"] (spLog K)) (GR : Has P w K mg base L2.CX0 1 "_law_run" ["tables", "start", "log"] (spRun K))
    (Gl : Has P w K mg base (L2.CX P w) 5 "led" ["machine", "state", "row"] (spLed K CM CS CR)) (Rl : HasR P w K mg base (L2.CX P w) 5 "led" ["machine", "state", "row"] ["row", "state", "machine"] (spLed K CM CS CR))
    (Gc : Has P w K mg base (L2.CX P w) 4 "check_row" ["machine", "value"] (spCheckRow K CM CR)) (Rc : HasR P w K mg base (L2.CX P w) 4 "check_row" ["machine", "value"] ["value", "machine"] (spCheckRow K CM CR))
    (Gr : Has P w K mg base (L2.CX P w) 5 "reached" ["machine", "state"] (spReached K CM CS Tb)) (Rr : HasR P w K mg base (L2.CX P w) 5 "reached" ["machine", "state"] ["state", "machine"] (spReached K CM CS Tb))
    (Gs : Has P w K mg base (L2.CX P w) 3 "need_state" ["machine", "state"] (spNeedState K CM CS)) (Rs : HasR P w K mg base (L2.CX P w) 3 "need_state" ["machine", "state"] ["state", "machine"] (spNeedState K CM CS))
    (Gd : Has P w K mg base (L2.CX P w) 3 "need_deed" ["machine", "deed"] (spNeedDeed K CM CD)) (Rd : HasR P w K mg base (L2.CX P w) 3 "need_deed" ["machine", "deed"] ["deed", "machine"] (spNeedDeed K CM CD)) :
    FnOkG P w K mg base L2.CX0 8 f fd ["box", "tables"] (spTold K Tb) := by
  obtain ⟨fm, fdm, fe, fde, mk, okM, mgM, bM, kM, me, okE, bE⟩ := MM.ex
  refine okG F scTold (fun vs H Q E h => ?_) (fun cdv A outer s H vs Q E hr hgd h => ?_)
  · obtain ⟨b, tb, T, rfl, _⟩ := h
    rfl
  · obtain ⟨b, tb, T, rfl, hb, ntb, hT, n5, hrw, tabs, q⟩ := h
    have nd : nTold.Nodup := scTold.nd
    have hu2 : (A.deeper (envOfC "_law_told_right" (defScope sLawToldRight) s.heap.objs.size f cdv)).units + 200 < cLine := by have := hr.un; omega
    refine ⟨_, pss_cons (ps_par (i := 2) (j := 3) rfl nd rfl rfl (by decide) rfl rfl (pa_cons (pe_lc (own := [("table", 12)]) (g := gName 12) (tt := tYes) rfl nd (pi_list (pv 1)) (blkOk_by (N := nTold) (sc := defScope sLawToldRight) (by decide +kernel))
            (fun _ _ _ _ _ => pg_name (i := 12) nd rfl (Or.inl rfl)) (fun _ _ _ _ _ => pts_nil) (fun _ _ _ _ _ => pe_callTy (r := rListOf K) listOf (by rfl) B.list boot_list (pa_cons (pv 12) pa_nil)))
          (pa_cons (pe_callB lenS (by rfl) B.len PySem.boot_len (pa_cons (pe_ix ix_list (pv 1) pe_int (fun _ _ => rfl)) pa_nil)) pa_nil)) (by rfl))
      (C8.pss_cut (ps_set (i := 4) nd rfl (Or.inl rfl) (pe_ifExp (pt_cmpR op_eq (pe_has GT (hr.mono (by decide)) (by rfl) (pa_cons (pv 0) (pa_cons pe_int pa_nil))) pe_int (nomark _))
          (pe_make (E := L2.E0) (dvs := []) (ds := []) mk okM (hr.mono (by decide)) (by rfl) mgM bM .nil passL (pa_cons (pv 2) pa_nil))
          (pe_makeK0 (E := L2.E0) mk okM (hr.mono (by decide)) (by rfl) mgM kM passL (pk_cons (pe_callTy call_tuple_of (by rfl) B.tuple boot_tuple (pa_cons (pv 2) pa_nil)) pk_nil))))
      (pss_cons (ps_set (i := 5) nd rfl (Or.inl rfl) (pe_ix ix_list (pv 2) pe_int (fun _ _ => rfl)))
      (pss_cons (ps_asg pe_int (pg_sub (pv 5) pe_int set_list (fun _ => rfl)))
      (pss_cons (ps_if (pt_cmpR op_ne (pe_callB (call_reprS hu2 hgd) (by rfl) B.repr (by decide +kernel) (pa_cons (pe_lst (pa_cons (pe_fld (pv 4) rfl) (pa_cons (pe_fld (pv 4) rfl) (pa_cons (pe_fld (pv 4) rfl) pa_nil)))) pa_nil))
          (pe_callB (call_reprS hu2 hgd) (by rfl) B.repr (by decide +kernel) (pa_cons (pe_lst (pa_cons (pe_callB lenS (by rfl) B.len PySem.boot_len (pa_cons (pv 1) pa_nil)) (pa_cons (pv 3) (pa_cons (pe_callTy call_tuple_of (by rfl) B.tuple boot_tuple (pa_cons (pv 1) pa_nil)) pa_nil)))) pa_nil)) (nomark _)) (pss_one (ps_ret pe_bl)) pss_nil)
      (pss_cons (ps_if (pt_cmpR op_ne (pe_callB (call_reprS hu2 hgd) (by rfl) B.repr (by decide +kernel) (pa_cons (pe_lst (pa_cons (pe_cmpR (r := rEqI K CM (spMachEq K CM) L2.E0) (op_eqI okE me.eq me.fn bE (hr.mono (by decide)) pass0) (pv 4) (pe_make (E := L2.E0) (dvs := []) (ds := []) mk okM (hr.mono (by decide)) (by rfl) mgM bM .nil passL (pa_cons (pv 1) pa_nil)) (nomark _))
            (pa_cons (pe_cmpR (r := rEqI K CM (spMachEq K CM) L2.E0) (op_eqI okE me.eq me.fn bE (hr.mono (by decide)) pass0) (pv 4) (pe_callTy call_tuple_of (by rfl) B.tuple boot_tuple (pa_cons (pv 1) pa_nil)) (nomark _)) pa_nil))) pa_nil))
          (pe_callB (call_reprS hu2 hgd) (by rfl) B.repr (by decide +kernel) (pa_cons (pe_lst (pa_cons pe_bl (pa_cons pe_bl pa_nil))) pa_nil)) (nomark _)) (pss_one (ps_ret pe_bl)) pss_nil)
      (pss_cons (ps_for PassesOwn.never rfl (pi_range1 (by rfl) B.range (pa_cons pe_int pa_nil)) (pg_name (i := 6) nd rfl (Or.inl rfl))
        (pss_cons (ps_par (i := 7) (j := 8) rfl nd rfl rfl (by decide) rfl rfl (pa_cons (pe_has GL (hr.mono (by decide)) (by rfl) (pa_cons (pv 0) (pa_cons (pv 1) (pa_cons pe_int pa_nil)))) (pa_cons (pe_has GT (hr.mono (by decide)) (by rfl) (pa_cons (pv 0) (pa_cons (pv 3) pa_nil))) pa_nil)) (by rfl))
        (pss_cons (ps_set (i := 9) nd rfl (Or.inl rfl) (pe_ix ix_list (pe_has GR (hr.mono (by decide)) (by rfl) (pa_cons (pv 1) (pa_cons (pv 8) (pa_cons (pv 7) pa_nil)))) (pe_un un_neg pe_int) (fun _ _ => rfl)))
        (pss_cons (ps_if (PW.pt (pw_or (pt_cmpR op_ne (pe_callB (call_reprS hu2 hgd) (by rfl) B.repr (by decide +kernel) (pa_cons (pe_hasN Gl (hr.mono (by decide)) (by rfl) (pa_cons (pv 4) (pa_cons (pv 8) (pa_cons (pv 7) pa_nil)))) pa_nil)) (pe_callB (call_reprS hu2 hgd) (by rfl) B.repr (by decide +kernel) (pa_cons (pv 9) pa_nil)) (nomark _))
            (pw_or1 (pt_cmpR op_ne (pe_hasR Rl (hr.mono (by decide)) (by rfl) (pk_cons (pe_callTy call_list_of (by rfl) B.list boot_list (pa_cons (pv 7) pa_nil)) (pk_cons (pv 8) (pk_cons (pv 4) pk_nil)))) (pv 9) (nomark _))))) (pss_one (ps_ret pe_bl)) pss_nil)
        (pss_cons (ps_if (PW.pt (pw_or (pt_cmpR op_ne (pe_callB (call_reprS hu2 hgd) (by rfl) B.repr (by decide +kernel) (pa_cons (pe_hasN Gc (hr.mono (by decide)) (by rfl) (pa_cons (pv 4) (pa_cons (pe_callTy call_list_of (by rfl) B.list boot_list (pa_cons (pv 7) pa_nil)) pa_nil))) pa_nil)) (pe_callB (call_reprS hu2 hgd) (by rfl) B.repr (by decide +kernel) (pa_cons (pv 7) pa_nil)) (nomark _))
            (pw_or1 (pt_cmpR (op_neD hr.units) (pe_hasR Rc (hr.mono (by decide)) (by rfl) (pk_cons (pv 7) (pk_cons (pv 4) pk_nil))) (pv 7) (nomark _))))) (pss_one (ps_ret pe_bl)) pss_nil)
        (pss_cons (ps_set (i := 10) nd rfl (Or.inl rfl) (pe_lst (pa_cons (pv 8) pa_nil)))
        (pss_cons (ps_for PassesOwn.never rfl (pi_range1 (by rfl) B.range (pa_cons (pv 3) pa_nil)) (pg_name (i := 11) nd rfl (Or.inl rfl))
          (pss_one (ps_for PassesOwn.never rfl (pi_list (pv 1)) (pg_name (i := 12) nd rfl (Or.inr rfl))
            (pss_one (ps_set (i := 10) nd rfl (Or.inl rfl) (pe_callB (cr_sortedSet rfl) (by rfl) B.sorted (by decide +kernel) (pa_cons (pe_callTy (r := rSetOfI K w) (call_setOfI rfl) (by rfl) B.set (by decide +kernel) (pa_cons (pe_op op_cat (pv 10) (pe_lc (own := [("here", 13)]) (g := gName 13) (tt := tYes) rfl nd (pi_list (pv 10)) (blkOk_by (N := nTold) (sc := defScope sLawToldRight) (by decide +kernel))
              (fun _ _ _ _ _ => pg_name (i := 13) nd rfl (Or.inl rfl)) (fun _ _ _ _ _ => pts_nil) (fun _ _ _ _ _ => pe_ix (r := rIxT K) ix_tup (pv 12) (pv 13) (fun _ _ => rfl)))) pa_nil)) pa_nil)))))))
        (pss_one (ps_if (PW.pt (pw_or (pt_cmpR op_ne (pe_callB (call_reprS hu2 hgd) (by rfl) B.repr (by decide +kernel) (pa_cons (pe_hasN Gr (hr.mono (by decide)) (by rfl) (pa_cons (pv 4) (pa_cons (pv 8) pa_nil))) pa_nil)) (pe_callB (call_reprS hu2 hgd) (by rfl) B.repr (by decide +kernel) (pa_cons (pe_callTy call_tuple_of (by rfl) B.tuple boot_tuple (pa_cons (pv 10) pa_nil)) pa_nil)) (nomark _))
            (pw_or1 (pt_cmpR (op_neD hr.units) (pe_hasR Rr (hr.mono (by decide)) (by rfl) (pk_cons (pv 8) (pk_cons (pv 4) pk_nil))) (pe_callTy call_tuple_of (by rfl) B.tuple boot_tuple (pa_cons (pv 10) pa_nil)) (nomark _))))) (pss_one (ps_ret pe_bl)) pss_nil)))))))))
      (pss_cons (ps_set (i := 14) nd rfl (Or.inl rfl) (pe_lst (pa_cons (pe_hasN Gs (hr.mono (by decide)) (by rfl) (pa_cons (pv 4) (pa_cons (pe_op op_sub (pv 3) pe_int) pa_nil)))
          (pa_cons (pe_hasR Rs (hr.mono (by decide)) (by rfl) (pk_cons pe_int (pk_cons (pv 4) pk_nil)))
          (pa_cons (pe_hasN Gd (hr.mono (by decide)) (by rfl) (pa_cons (pv 4) (pa_cons (pe_op op_sub (pe_callB lenS (by rfl) B.len PySem.boot_len (pa_cons (pv 1) pa_nil)) pe_int) pa_nil)))
          (pa_cons (pe_hasR Rd (hr.mono (by decide)) (by rfl) (pk_cons pe_int (pk_cons (pv 4) pk_nil))) pa_nil))))))
      (pss_one (ps_ret (pe_cmpR op_eq (pe_callB (call_reprS hu2 hgd) (by rfl) B.repr (by decide +kernel) (pa_cons (pv 14) pa_nil))
          (pe_callB (call_reprS hu2 hgd) (by rfl) B.repr (by decide +kernel) (pa_cons (pe_lst (pa_cons (pe_op op_sub (pv 3) pe_int) (pa_cons pe_int (pa_cons (pe_op op_sub (pe_callB lenS (by rfl) B.len PySem.boot_len (pa_cons (pv 1) pa_nil)) pe_int) (pa_cons pe_int pa_nil))))) pa_nil)) (nomark _))))))))))), ?_⟩
    obtain ⟨n, n1, n8, rect⟩ := hT.rows
    obtain ⟨row0, T', eT⟩ : ∃ row0 T', T = row0 :: T' := by
      cases T with
      | nil => exact absurd hT.some1 (by decide)
      | cons a b => exact ⟨a, b, rfl⟩
    have e0 : (T.headD []).length = row0.length := by rw [eT]; rfl
    have er0 : row0.length = n := (rect row0 (by rw [eT]; exact List.mem_cons_self)).1
    have en : (T.headD []).length = n := e0.trans er0
    rw [en] at n5
    have t1 := hT.some1
    have t4 := hT.most4
    obtain ⟨bs, hl, hbs⟩ := hrw
    have lbs : bs.length = T.length := paired_len hbs
    -- the lists that are handed
    refine ⟨.ref tb, rfl, tb, rfl, ⟨_, .inl (.inl hl)⟩, fun D nD => ?_⟩
    refine lc_it walk_list (fun i H' => Same H H' ∧ Lists H H' D (T.take i)) ⟨same_new nD, by rw [List.take_zero]; exact lists_nil⟩ (fun i H3 _ hp => .inl (.inl (hp.1 _ _ hl))) ?_ ?_
    · rintro i x H2 H3 hi ⟨s2, li⟩ ⟨rfl, ex⟩
      rw [List.length_map] at hi
      obtain ⟨r, g1, g2⟩ := Pg.paired_get hbs (List.getElem?_eq_getElem hi)
      rw [List.getElem?_map, List.getElem?_eq_getElem hi] at ex
      cases ex
      refine ⟨rfl, yes_in ⟨_, rfl, _, _, rfl, .inr (sameT s2 g2), fun l nl => ?_⟩⟩
      rw [List.take_add_one, g1]
      exact lists_put nD s2 li nl (by rw [List.length_take]; omega)
    rintro H1 ⟨s1, li⟩
    rw [List.length_map, lbs, List.take_of_length_le (Nat.le_refl _)] at li
    have hl1 := s1 _ _ hl
    have hbs1 : Paired (fun (a : Addr) (r : List Int) => SqT K H1 a (r.map V.int)) bs T := paired_imp hbs fun a r z => sameT s1 z
    obtain ⟨b0, bs', eB⟩ : ∃ b0 bs', bs = b0 :: bs' := by
      cases bs with
      | nil => rw [eT] at lbs; simp at lbs
      | cons a b => exact ⟨a, b, rfl⟩
    have hb0 : SqT K H1 b0 (row0.map V.int) := by
      rw [eB, eT] at hbs1
      cases hbs1 with
      | cons h _ => exact h
    have at0 : (bs.map V.ref)[0]? = some (.ref b0) := by rw [eB]; rfl
    refine ⟨.ref tb, rfl, tb, _, 0, .ref b0, rfl, rfl, .inl (.inl hl1), atI_nat (j := 0) at0, b0, _, rfl, .inr hb0, _, _, rfl, ?_⟩
    rw [List.length_map, er0]
    have l1 : Lv b Tb H H1 := ⟨Ext.of s1, hb.same s1, tabs.ext s1⟩
    have rw1 : RowsAt K H1 tb T := ⟨bs, hl1, hbs1⟩
    have Db : D ≠ b := hb.ne nD
    -- the machine
    let Mid : L2.St → Hp → Prop := fun σ' H' => ∃ m, σ' = [some (.ref b), some (.ref tb), some (.ref D), some (.int (n : Nat)), some (.ref m), none, none, none, none, none, none, none, none, none, none] ∧ Lv b Tb H H' ∧ Lists H H' D T ∧ RowsAt K H' tb T ∧ MachAt K CM H' m T
    refine ⟨Mid, ⟨.ref b, rfl, b, 2, rfl, l1.box, by decide, by decide, fun H2 r hr2 sb2 box2 => ?_⟩, ?_⟩
    · have l2 := l1.draw sb2 box2
      have Li2 := li.draw sb2 hb Db
      have rw2 := rw1.ext (sb_ext sb2) l1.box ntb
      refine ⟨rfl, _, rfl, ite2 (fun c => ?_) (fun c => ?_)⟩
      · refine ⟨.ref D, rfl, fun m dm nm ndm nem => ?_⟩
        have s5 : Same H2 (upd (upd H2 dm (.own m)) m (.ins CM dm [])) := (same_new ndm).trans (same_new (by rw [upd_ne nem.symm]; exact nm))
        refine ⟨m, dm, .ref D, rfl, upd_same, .inr ⟨T, hT, (Li2.same s5).tabV, fun H6 sb6 hm6 => ⟨rfl, ?_⟩⟩⟩
        have s26 : Same H2 H6 := fun x o hx => sb6 x o (s5 x o hx) fun z => by rw [z, nm] at hx; cases hx
        exact ⟨m, rfl, l2.same s26, Li2.same s26, rw2.same s26, hm6⟩
      · obtain ⟨as, hD2, _⟩ := id Li2
        refine ⟨.ref D, rfl, D, _, rfl, .inl ⟨.inl (.inl hD2), fun l nl => ?_⟩⟩
        obtain ⟨vs, hD3, tv⟩ := tabV_tup (K := K) Li2 nl
        rw [hD2] at hD3
        cases hD3
        have s3 := same_new (o := .tup (as.map V.ref)) nl
        refine ⟨rfl, rfl, fun m dm nm ndm nem => ?_⟩
        have s5 : Same H2 (upd (upd (upd H2 l (.tup (as.map V.ref))) dm (.own m)) m (.ins CM dm [])) := s3.trans ((same_new ndm).trans (same_new (by rw [upd_ne nem.symm]; exact nm)))
        have s45 : Same (upd H2 l (.tup (as.map V.ref))) (upd (upd (upd H2 l (.tup (as.map V.ref))) dm (.own m)) m (.ins CM dm [])) := (same_new ndm).trans (same_new (by rw [upd_ne nem.symm]; exact nm))
        refine ⟨m, dm, .ref l, rfl, upd_same, .inr ⟨T, hT, tv.same s45, fun H6 sb6 hm6 => ⟨rfl, ?_⟩⟩⟩
        have nm2 : H2 m = none := s3.free nm
        have s26 : Same H2 H6 := fun x o hx => sb6 x o (s5 x o hx) fun z => by rw [z, nm2] at hx; cases hx
        exact ⟨m, rfl, l2.same s26, Li2.same s26, rw2.same s26, hm6⟩
    clear li rw1 l1 hb0 hbs1 hl1 at0
    rintro σ' H2 ⟨m, rfl, l2, ⟨as, hD2, nas, has⟩, rw2, hm2⟩
    -- the first list is changed
    obtain ⟨a0, as', eA⟩ : ∃ a0 as', as = a0 :: as' := by
      cases as with
      | nil => have := paired_len has; rw [eT] at this; simp at this
      | cons a b => exact ⟨a, b, rfl⟩
    have at0 : (as.map V.ref)[0]? = some (.ref a0) := by rw [eA]; rfl
    have ha0 : H2 a0 = some (.lst (row0.map V.int)) := by
      rw [eA, eT] at has
      cases has with
      | cons h _ => exact h
    have na0 : H a0 = none := (nas a0 (by rw [eA]; exact List.mem_cons_self)).2
    refine ⟨.ref D, rfl, D, _, 0, .ref a0, rfl, rfl, .inl (.inl hD2), atI_nat (j := 0) at0, ?_⟩
    refine ⟨.ref a0, rfl, a0, _, 0, 0, rfl, rfl, ha0, ?_, ?_⟩
    · rw [List.length_map, er0]
      unfold ixN
      rw [if_pos (Int.le_refl 0), if_pos (by omega)]
      rfl
    have e4 : Ext a0 H2 (upd H2 a0 (.lst ((row0.map V.int).set 0 (.int 99)))) := ext_put
    have l4 : Lv b Tb H (upd H2 a0 (.lst ((row0.map V.int).set 0 (.int 99)))) := by
      refine ⟨fun x o z nx nt => ?_, ?_, ?_⟩
      · rw [upd_ne (ne_of_none z na0)]
        exact l2.ext x o z nx nt
      · obtain ⟨c0, c1, c2, z, h0⟩ := l2.box
        exact ⟨c0, c1, c2, by rw [upd_ne (hb.ne na0).symm]; exact z, h0⟩
      · exact tabs_but ha0 SameBut.put l2.tabs
    have ntb0 : tb ≠ a0 := fun e => by rw [e, na0] at hl; cases hl
    have rw4 : RowsAt K (upd H2 a0 (.lst ((row0.map V.int).set 0 (.int 99)))) tb T := by
      obtain ⟨bs, h1, h2⟩ := rw2
      exact ⟨bs, by rw [upd_ne ntb0]; exact h1, paired_imp h2 fun a r q => e4.tup ha0 q⟩
    have hm4 := hm2.extL e4 ha0
    generalize upd H2 a0 (.lst ((row0.map V.int).set 0 (.int 99))) = H4 at l4 rw4 hm4 ⊢
    clear e4 ha0 has hD2 nas l2 rw2 hm2 at0 eA as' as H2 hl hbs lbs eB bs' bs
    have b4 := l4.box
    have rpT := neat_rows hT
    -- what the machine tells
    obtain ⟨bs4, hl4, hbs4⟩ := id rw4
    have lbs4 : ((bs4.map V.ref).length : Nat) = T.length := by rw [List.length_map, paired_len hbs4]
    obtain ⟨dx, fs, tt, as, g1, g2, g3, g4, g5, g6⟩ := id hm4.ex
    rw [en] at g3
    have rp5 : RepOk (.list [.int (T.length : Nat), .int (n : Nat), rowsT T]) := by
      have z := neat_list (ds := [.int (T.length : Nat), .int (n : Nat), rowsT T]) (a := 2) (b := 4 * 331) fun d hd => by
        simp only [List.mem_cons, List.not_mem_nil, or_false] at hd
        rcases hd with rfl | rfl | rfl
        · exact (neat_int (by omega)).mono (by decide) (by decide)
        · exact (neat_int (by omega)).mono (by decide) (by decide)
        · exact rpT
      exact ⟨_, _, z, by decide, by show 3 * (4 * 331 + 1) ≤ _; decide⟩
    refine ⟨.ref m, rfl, m, CM, dx, fs, _, rfl, g1, M.cl, M.nD, g2, .ref m, rfl, m, CM, dx, fs, _, rfl, g1, M.cl, M.nS, g3, .ref m, rfl, m, CM, dx, fs, _, rfl, g1, M.cl, M.nT, g4, by show 3 ≤ sizeLine; decide, fun p1 np1 => ?_⟩
    have s5 := same_new (o := .lst [V.int (T.length : Nat), V.int (n : Nat), V.ref tt]) np1
    refine ⟨_, _, rfl, .lst (.inl (.inl upd_same)) (.cons (.int _) (.cons (.int _) (.cons (.tup (sameT s5 g5) (dp_rows (paired_imp g6 fun a r z => sameT s5 z))) .nil))), rp5, ?_⟩
    generalize upd H4 p1 (.lst [V.int (T.length : Nat), V.int (n : Nat), V.ref tt]) = H5 at s5 ⊢
    refine ⟨.ref tb, rfl, tb, _, rfl, .inl (.inl (.inl (s5 _ _ hl4))), .int n, rfl, .ref tb, rfl, tb, _, rfl, .inl ⟨.inl (.inl (s5 _ _ hl4)), fun p2 np2 => ?_⟩⟩
    refine ⟨by show 3 ≤ sizeLine; decide, fun p3 np3 => ?_⟩
    have hp3 : upd (upd H5 p2 (.tup (bs4.map V.ref))) p3 (.lst [V.int ((bs4.map V.ref).length : Nat), V.int (n : Nat), V.ref p2]) p3 = some (.lst [V.int ((bs4.map V.ref).length : Nat), V.int (n : Nat), V.ref p2]) := upd_same
    have s6 := s5.trans ((same_new (o := .tup (bs4.map V.ref)) np2).trans (same_new (o := .lst [V.int ((bs4.map V.ref).length : Nat), V.int (n : Nat), V.ref p2]) np3))
    have hp2 := same_new (o := .lst [V.int ((bs4.map V.ref).length : Nat), V.int (n : Nat), V.ref p2]) np3 _ _ (upd_same (H := H5) (a := p2) (o := .tup (bs4.map V.ref)))
    generalize upd (upd H5 p2 (.tup (bs4.map V.ref))) p3 (.lst [V.int ((bs4.map V.ref).length : Nat), V.int (n : Nat), V.ref p2]) = H6 at hp3 s6 hp2 ⊢
    rw [lbs4] at hp3
    refine ⟨_, (.list [.int (T.length : Nat), .int (n : Nat), rowsT T]), rfl, .lst (.inl (.inl hp3)) (.cons (.int _) (.cons (.int _) (.cons (.tup (.inl (.inl hp2)) (dp_rows (paired_imp hbs4 fun a r z => sameT s6 z))) .nil))), rp5, rfl, _, rfl, neSelf ?_⟩
    clear hp3 hp2 np3 np2 np1 s5 H5
    -- machines that are one, that are not
    have rp7 : RepOk (.list [.bool true, .bool false]) := by
      have z := neat_list (ds := [.bool true, .bool false]) (a := 0) (b := 0) fun d hd => by
        simp only [List.mem_cons, List.not_mem_nil, or_false] at hd
        rcases hd with rfl | rfl
        · exact neat_bool true
        · exact neat_bool false
      exact ⟨_, _, z, by decide, by decide⟩
    refine ⟨.ref m, rfl, .ref tb, rfl, fun m2 dm nm ndm nem => ?_⟩
    have s7 : Same H6 (upd (upd H6 dm (.own m2)) m2 (.ins CM dm [])) := (same_new ndm).trans (same_new (by rw [upd_ne nem.symm]; exact nm))
    refine ⟨m2, dm, .ref tb, rfl, upd_same, .inr ⟨T, hT, ((rw4.same s6).same s7).tabV, fun H7 sb7 hm7 => ⟨rfl, ?_⟩⟩⟩
    have s67 : Same H6 H7 := fun x o hx => sb7 x o (s7 x o hx) fun z => by rw [z, nm] at hx; cases hx
    have s47 := s6.trans s67
    have hm7' := hm4.same s47
    refine ⟨m, dx, fs, .ref CM, rfl, s47 _ _ g1, hm7.ty M me, me.nf, m, .ref m2, T, rfl, hm7', .inl ⟨m2, rfl, hm7, ?_⟩⟩
    refine ⟨.ref m, rfl, .ref tb, rfl, tb, _, rfl, .inl ⟨.inl (.inl (s47 _ _ hl4)), fun p2 np2 => ?_⟩⟩
    have s48 := s47.trans (same_new (o := .tup (bs4.map V.ref)) np2)
    refine ⟨m, dx, fs, .type "tuple", rfl, s48 _ _ g1, ty_sqt (.inl (.inl upd_same)), me.nt, m, .ref p2, T, rfl, hm4.same s48, .inr ⟨p2, _, rfl, .inl (.inl upd_same), ?_⟩⟩
    refine ⟨by show 2 ≤ sizeLine; decide, fun p3 np3 => ⟨_, _, rfl, .lst (.inl (.inl upd_same)) (.cons (.bl _) (.cons (.bl _) .nil)), rp7, ?_⟩⟩
    refine ⟨by show 2 ≤ sizeLine; decide, fun p4 np4 => ⟨_, _, rfl, .lst (.inl (.inl upd_same)) (.cons (.bl _) (.cons (.bl _) .nil)), rp7, rfl, _, rfl, neSelf ?_⟩⟩
    have s49 := (s48.trans (same_new (o := .lst [V.bl true, V.bl false]) np3)).trans (same_new (o := .lst [V.bl true, V.bl false]) np4)
    generalize upd (upd (upd H7 p2 (.tup (bs4.map V.ref))) p3 (.lst [V.bl true, V.bl false])) p4 (.lst [V.bl true, V.bl false]) = H9 at s49 ⊢
    have l9 := l4.same s49
    have rw9 := rw4.same s49
    have hm9 := hm4.same s49
    clear s49 np4 np3 s48 np2 hm7' s47 s67 hm7 sb7 s7 nem ndm nm hm4 rw4 l4 rp5 g1 g2 g3 g4 g5 g6 s6 lbs4 hbs4 hl4 b4
    have st9 : Sta K CM b tb m Tb T H H9 := ⟨l9, rw9, hm9⟩
    clear l9 rw9 hm9
    refine ⟨(3 : Int), rfl, by omega, by omega, ?_⟩
    refine for_range (lo := 0) (n := 3) (fun i σ H' => Sta K CM b tb m Tb T H H' ∧ ∃ y6 y7 y8 y9 y10 y11 y12, σ = [some (.ref b), some (.ref tb), some (.ref D), some (.int (n : Nat)), some (.ref m), some (.ref a0), y6, y7, y8, y9, y10, y11, y12, none, none]) ⟨st9, none, none, none, none, none, none, none, rfl⟩ ?_ ?_
    · clear st9 H9
      rintro i σ H1 hi ⟨st1, y6, y7, y8, y9, y10, y11, y12, rfl⟩
      obtain ⟨bs1, hl1, hbs1⟩ := id st1.rw
      have lbs1 : (bs1.map V.ref).length = T.length := by rw [List.length_map, paired_len hbs1]
      refine ⟨.ref b, rfl, .ref tb, rfl, b, tb, _, 8, rfl, st1.lv.box, ntb, .inl (.inl hl1), by omega, by omega, by decide, fun H2 pr ds dok dl sb2 box2 npr hpr => ?_⟩
      rw [lbs1] at dok
      have st2 := st1.draw ntb sb2 box2
      have prb : pr ≠ b := st1.lv.box.ne npr
      refine ⟨.ref b, rfl, .int n, rfl, b, n, rfl, box2, n1, by omega, fun H3 a ha sb3 box3 => ⟨_, _, rfl, ?_⟩⟩
      have st3 := st2.draw ntb sb3 box3
      have hpr3 : H3 pr = some (.tup (ds.map V.int)) := sb3 _ _ hpr prb
      have ha' : a < (T.headD []).length := by rw [en]; exact ha
      have rpd : RepOk (.tuple (ds.map PyData.int)) := rep_small dok (by omega) (by omega)
      have rpl : RepOk (.int (ledTo T a ds : Nat)) := (neat_int (by
        have := ledTo_lt hT ha' dok
        rw [en] at this
        omega)).rep
      -- where the row leads
      refine ⟨.ref tb, rfl, .int a, rfl, .ref pr, rfl, tb, T, pr, a, ds, rfl, hT, st3.rw, ha', .inl (.inl hpr3), dok, by omega, fun H4 pl zs s4 hpl => ?_⟩
      refine ⟨_, rfl, pl, _, _, _, rfl, rfl, .inl (.inl hpl), atI_last _ _, ?_⟩
      have st4 := st3.same s4
      have hpr4 := s4 _ _ hpr3
      refine ⟨.ref m, rfl, .int a, rfl, .ref pr, rfl, m, .int a, .ref pr, T, rfl, st4.hm, hT, .int _, .inr ⟨a, rfl, ha', .inr ⟨ds, ⟨.tup (.inl (.inl hpr4)), by omega, dok⟩, fun H5 s5 => ?_⟩⟩⟩
      have st5 := st4.same s5
      have hpr5 := s5 _ _ hpr4
      refine ⟨_, _, rfl, .int _, rpl, _, rfl, _, _, rfl, .int _, rpl, rfl, _, rfl, neSelf ?_⟩
      refine ⟨.ref pr, rfl, pr, _, rfl, .inr (.inl (.inl hpr5)), fun l6 nl6 => ?_⟩
      have s6 := same_new (o := .lst (ds.map V.int)) nl6
      have st6 := st5.same s6
      refine ⟨.int a, rfl, .ref m, rfl, m, .int a, .ref l6, T, rfl, st6.hm, hT, .int _, .inr ⟨a, rfl, ha', .inr ⟨ds, ⟨.lst (.inl (.inl upd_same)), by omega, dok⟩, fun H7 s7 => ?_⟩⟩⟩
      have st7 := st6.same s7
      have hpr7 := s7 _ _ (s6 _ _ hpr5)
      refine ⟨_, rfl, rfl, _, rfl, neSelf ?_⟩
      -- the row looked at
      refine ⟨.ref m, rfl, .ref pr, rfl, pr, _, rfl, .inr (.inl (.inl hpr7)), fun l8 nl8 => ?_⟩
      have s8 := same_new (o := .lst (ds.map V.int)) nl8
      have st8 := st7.same s8
      refine ⟨m, .ref l8, T, rfl, st8.hm, GoodRow.check (ds := ds) ⟨.lst (.inl (.inl upd_same)), by omega, dok⟩ fun H9 r9 s9 hr9 => ?_⟩
      have st9 := st8.same s9
      have hpr9 := s9 _ _ (s8 _ _ hpr7)
      refine ⟨_, _, rfl, dp_tuple_ints hr9, rpd, .ref pr, rfl, _, _, rfl, dp_tuple_ints (.inl (.inl hpr9)), rpd, rfl, _, rfl, neSelf ?_⟩
      refine ⟨.ref pr, rfl, .ref m, rfl, m, .ref pr, T, rfl, st9.hm, GoodRow.check (ds := ds) ⟨.tup (.inl (.inl hpr9)), by omega, dok⟩ fun H10 r10 s10 hr10 => ?_⟩
      have st10 := st9.same s10
      refine ⟨.ref pr, rfl, _, _, dp_tuple_ints hr10, dp_tuple_ints (.inl (.inl (s10 _ _ hpr9))), shaped_tuple_ints _, shaped_tuple_ints _, _, rfl, ?_⟩
      rw [eqv_tuple_ints, decide_eq_true rfl]
      refine iteF ?_
      clear hr9 hr10 s10 hpr9 st9 s9 st8 s8 nl8 hpr7 st7 s7 st6 s6 nl6 hpr5 st5 s5 hpr4 st4 hpl s4 hpr3 st3 sb3 st2 hpr npr sb2 box2 box3
      -- the states that rows lead to
      have asc_rep : ∀ fs : List Int, Good T a fs → RepOk (.tuple (fs.map PyData.int)) := fun fs g => rep_small (n := n) (by rw [← en]; exact g.lt hT ha') (by omega) (by have := g.len hT ha'; omega)
      refine ⟨_, rfl, by show 1 ≤ sizeLine; decide, fun pf npf => ?_⟩
      have sf := same_new (o := .lst [V.int (a : Nat)]) npf
      have stf := st10.same sf
      have hpf0 : upd H10 pf (.lst [V.int (a : Nat)]) pf = some (.lst (([(a : Int)] : List Int).map V.int)) := upd_same
      generalize upd H10 pf (.lst [V.int (a : Nat)]) = Hb at sf stf hpf0 ⊢
      clear sf npf st10 H10
      refine ⟨_, rfl, (n : Int), rfl, by omega, by omega, ?_⟩
      rw [show ((n : Int)).toNat = n by omega]
      let Pt : Nat → L2.St → Hp → Prop := fun k σ H' => Same Hb H' ∧ ∃ pf fs y11 y12, H' pf = some (.lst (fs.map V.int)) ∧ Outer T a k fs ∧
        σ = [some (.ref b), some (.ref tb), some (.ref D), some (.int (n : Nat)), some (.ref m), some (.ref a0), some (.int (0 + (i : Int))), some (.ref pr), some (.int (a : Nat)), some (.int (ledTo T a ds : Nat)), some (.ref pf), y11, y12, none, none]
      refine for_it walk_range Pt ⟨Same.refl _, pf, [(a : Int)], y11, y12, hpf0, outer0 T a, rfl⟩ (fun _ _ _ _ _ => trivial) ?_ ?_
      · rintro k x σ H1 H1' hk ⟨s1, pf, fs, y11, y12, hpf, ou, rfl⟩ ⟨rfl, rfl⟩
        obtain ⟨bs2, hl2, hbs2⟩ := (stf.same s1).rw
        have lbs2 : (bs2.map V.ref).length = T.length := by rw [List.length_map, paired_len hbs2]
        refine ⟨.ref tb, rfl, tb, rfl, ⟨_, .inl (.inl hl2)⟩, for_it walk_list (fun j σ H' => Same H1' H' ∧ ∃ pf fs y12, H' pf = some (.lst (fs.map V.int)) ∧ Inner T a k j fs ∧
          σ = [some (.ref b), some (.ref tb), some (.ref D), some (.int (n : Nat)), some (.ref m), some (.ref a0), some (.int (0 + (i : Int))), some (.ref pr), some (.int (a : Nat)), some (.int (ledTo T a ds : Nat)), some (.ref pf), some (.int (0 + (k : Int))), y12, none, none]) ⟨Same.refl _, pf, fs, y12, hpf, ou.inner, rfl⟩ (fun j σ H' _ hp => .inl (.inl (hp.1 _ _ hl2))) ?_ ?_⟩
        · clear ou hpf fs pf
          rintro j x σ H2 H2' hj ⟨s2, pf, fs, y12, hpf, inn, rfl⟩ ⟨rfl, ex⟩
          rw [List.length_map] at hj
          obtain ⟨row, g1, g2⟩ := Pg.paired_get hbs2 (List.getElem?_eq_getElem hj)
          rw [List.getElem?_map, List.getElem?_eq_getElem hj] at ex
          cases ex
          have hrow := rect row (List.mem_of_getElem? g1)
          have zlt := inn.1.lt hT ha'
          have flen := inn.1.len hT ha'
          rw [en] at zlt flen
          refine ⟨.ref pf, rfl, .ref pf, rfl, pf, rfl, ⟨_, .inl (.inl hpf)⟩, fun D2 nD2 => ?_⟩
          refine lc_it walk_list (PvF (fun _ => true) (fun e => .int (goTo row (fs.getD e 0))) H2' D2) (pvf0 nD2) (fun e H3 _ hp => .inl (.inl (hp.1 _ _ hpf))) ?_ ?_
          · rintro e y H3 H3' he hp ⟨rfl, ey⟩
            rw [List.length_map] at he
            rw [List.getElem?_map, List.getElem?_eq_getElem he] at ey
            cases ey
            have zr := zlt _ (List.getElem_mem he)
            have lz : fs[e].toNat < row.length := by omega
            have ez : (row.map V.int)[fs[e].toNat]? = some (.int (goTo row fs[e])) := by
              unfold goTo
              rw [List.getElem?_map, List.getElem?_eq_getElem lz, List.getD_eq_getElem?_getD, List.getElem?_eq_getElem lz]
              rfl
            have ea : atI (row.map V.int) fs[e] = some (.int (goTo row fs[e])) := by
              have z := atI_nat ez
              rwa [show ((fs[e].toNat : Nat) : Int) = fs[e] by omega] at z
            refine ⟨rfl, yes_in ⟨_, rfl, _, rfl, _, _, _, .int (goTo row fs[e]), rfl, rfl, sameT (s2.trans hp.1) g2, ea, ?_⟩⟩
            · refine pvf_put nD2 hp (Same.refl _) rfl ?_ (by omega)
              show V.int (goTo row fs[e]) = V.int (goTo row (fs.getD e 0))
              rw [List.getD_eq_getElem?_getD, List.getElem?_eq_getElem he]
              rfl
          · intro H3 hp
            have hD3 : H3 D2 = some (.lst ((fs.map (goTo row)).map V.int)) := by
              rw [hp.2, List.length_map, List.filter_eq_self.mpr fun _ _ => rfl, List.map_map]
              congr 2
              apply List.ext_getElem?
              intro e
              rw [List.getElem?_map, List.getElem?_map]
              rcases Nat.lt_or_ge e fs.length with lt | ge
              · rw [List.getElem?_range lt, List.getElem?_eq_getElem lt]
                show some (V.int (goTo row (fs.getD e 0))) = some (V.int (goTo row fs[e]))
                rw [List.getD_eq_getElem?_getD, List.getElem?_eq_getElem lt]
                rfl
              · rw [List.getElem?_eq_none (by rw [List.length_range]; exact ge), List.getElem?_eq_none ge]
                rfl
            refine ⟨pf, D2, _, _, rfl, rfl, hp.1 _ _ hpf, hD3, by rw [List.length_map, List.length_map, List.length_map, sizeLine_eq]; omega, fun p1 np1 => ?_⟩
            have s3 := hp.1.trans (same_new (o := .lst (fs.map V.int ++ (fs.map (goTo row)).map V.int)) np1)
            refine ⟨p1, fs ++ fs.map (goTo row), rfl, .inl (.inl (by rw [upd_same, List.map_append])), by rw [List.length_append, List.length_map]; omega, fun ps c hc nps => ?_⟩
            rw [List.length_append, List.length_map] at hc
            refine ⟨ps, _, c, rfl, upd_same, by omega, fun gs pg asc mem lg npg => ?_⟩
            refine ⟨s2.trans ((s3.trans (same_new nps)).trans (same_new npg)), pg, gs, _, upd_same, inn.step (hT := hT) g1 ha' asc fun z => ?_, rfl⟩
            rw [mem z, decide_eq_true_eq, List.mem_append, List.mem_map]
            constructor
            · rintro (h | ⟨y, h, rfl⟩)
              · exact .inl h
              · exact .inr ⟨y, h, rfl⟩
            · rintro (h | ⟨y, h, rfl⟩)
              · exact .inl h
              · exact .inr ⟨y, h, rfl⟩
        · rintro σ H2 ⟨s2, pf, fs, y12, hpf, inn, rfl⟩
          rw [lbs2] at inn
          exact ⟨s1.trans s2, pf, fs, _, _, hpf, inn.outer, rfl⟩
      · rintro σ H1 ⟨s1, pf, fs, y11, y12, hpf, ou, rfl⟩
        have st1 := stf.same s1
        rw [← en] at ou
        refine ⟨.ref m, rfl, .int a, rfl, m, .int a, T, rfl, st1.hm, hT, .int _, .inr ⟨a, rfl, ha', st1.lv.tabs, fun H2 r2 ys e2 t2 hr2 asc mem => ?_⟩⟩
        obtain rfl := ou.all hT ha' asc mem
        have rpf := asc_rep _ ou.1
        have st2 := st1.lam ntb e2.ext t2
        have hpf2 := e2.ext _ _ hpf (fun _ q => by cases q)
        refine ⟨_, _, rfl, dp_tuple_ints hr2, rpf, .ref pf, rfl, pf, _, rfl, .inl ⟨.inl (.inl hpf2), fun l3 nl3 => ?_⟩⟩
        have s3 := same_new (o := .tup (fs.map V.int)) nl3
        refine ⟨_, _, rfl, dp_tuple_ints (.inl (.inl upd_same)), rpf, rfl, _, rfl, neSelf ?_⟩
        have st3 := st2.same s3
        have hpf3 := s3 _ _ hpf2
        refine ⟨.int a, rfl, .ref m, rfl, m, .int a, T, rfl, st3.hm, hT, .int _, .inr ⟨a, rfl, ha', st3.lv.tabs, fun H4 r4 ys e4 t4 hr4 asc4 mem4 => ?_⟩⟩
        obtain rfl := ou.all hT ha' asc4 mem4
        have st4 := st3.lam ntb e4.ext t4
        have hpf4 := e4.ext _ _ hpf3 (fun _ q => by cases q)
        refine ⟨.ref pf, rfl, pf, _, rfl, .inl ⟨.inl (.inl hpf4), fun l5 nl5 => ?_⟩⟩
        have s5 := same_new (o := .tup (fs.map V.int)) nl5
        refine ⟨_, _, dp_tuple_ints (sameT s5 hr4), dp_tuple_ints (.inl (.inl upd_same)), shaped_tuple_ints _, shaped_tuple_ints _, _, rfl, ?_⟩
        rw [eqv_tuple_ints, decide_eq_true rfl]
        refine iteF ?_
        exact ⟨st4.same s5, _, _, _, _, _, _, _, rfl⟩
    · rintro σ H1 ⟨st1, y6, y7, y8, y9, y10, y11, y12, rfl⟩
      obtain ⟨bs1, hl1, hbs1⟩ := id st1.rw
      have lbs1 : (bs1.map V.ref).length = T.length := by rw [List.length_map, paired_len hbs1]
      have okS : ∀ z : Int, 0 ≤ z → z < n → numV (.int z) 0 (((T.headD []).length : Int) - 1) = true := fun z h0 h1 => by
        simp only [numV, Bool.and_eq_true, decide_eq_true_eq]
        omega
      have okD : ∀ z : Int, 0 ≤ z → z < T.length → numV (.int z) 0 ((T.length : Int) - 1) = true := fun z h0 h1 => by
        simp only [numV, Bool.and_eq_true, decide_eq_true_eq]
        omega
      have dp : ∀ {H' : Hp} {p : Addr} {k : Nat}, H' p = some (.lst [V.int ((n : Int) - 1), V.int 0, V.int ((k : Int) - 1), V.int 0]) → Dp K H' (.ref p) (.list [.int ((n : Int) - 1), .int 0, .int ((k : Int) - 1), .int 0]) := fun h =>
        .lst (.inl (.inl h)) (.cons (.int _) (.cons (.int _) (.cons (.int _) (.cons (.int _) .nil))))
      have rp : RepOk (.list [.int ((n : Int) - 1), .int 0, .int (((bs1.map V.ref).length : Int) - 1), .int 0]) := by
        have z := neat_list (ds := [.int ((n : Int) - 1), .int 0, .int (((bs1.map V.ref).length : Int) - 1), .int 0]) (a := 0) (b := 40) fun d hd => by
          rw [lbs1] at hd
          simp only [List.mem_cons, List.not_mem_nil, or_false] at hd
          rcases hd with rfl | rfl | rfl | rfl
          · exact neat_int (by omega)
          · exact neat_int (by omega)
          · exact neat_int (by omega)
          · exact neat_int (by omega)
        exact ⟨_, _, z, by decide, by show 4 * (40 + 1) ≤ _; decide⟩
      refine ⟨.ref m, rfl, .int n, rfl, _, _, rfl, rfl, m, _, T, rfl, st1.hm, .int _, .inl ⟨okS _ (by omega) (by omega), ?_⟩⟩
      refine ⟨.ref m, rfl, m, .int 0, T, rfl, st1.hm, .int _, .inl ⟨okS _ (by omega) (by omega), ?_⟩⟩
      refine ⟨.ref m, rfl, .ref tb, rfl, tb, _, rfl, .inl (.inl (.inl hl1)), _, _, rfl, rfl, m, _, T, rfl, st1.hm, .int _, .inl ⟨okD _ (by omega) (by omega), ?_⟩⟩
      refine ⟨.ref m, rfl, m, .int 0, T, rfl, st1.hm, .int _, .inl ⟨okD _ (by omega) (by omega), ?_⟩⟩
      refine ⟨by show 4 ≤ sizeLine; decide, fun p1 np1 => ?_⟩
      have s2 := same_new (o := .lst [V.int ((n : Int) - 1), V.int 0, V.int (((bs1.map V.ref).length : Int) - 1), V.int 0]) np1
      refine ⟨.ref p1, rfl, _, _, rfl, dp upd_same, rp, ?_⟩
      refine ⟨.int n, rfl, _, _, rfl, rfl, .ref tb, rfl, tb, _, rfl, .inl (.inl (.inl (s2 _ _ hl1))), _, _, rfl, rfl, by show 4 ≤ sizeLine; decide, fun p2 np2 => ?_⟩
      have s3 := s2.trans (same_new (o := .lst [V.int ((n : Int) - 1), V.int 0, V.int (((bs1.map V.ref).length : Int) - 1), V.int 0]) np2)
      refine ⟨_, _, rfl, dp upd_same, rp, rfl, ?_⟩
      rw [decide_eq_true rfl]
      exact q _ (st1.lv.same s3)
end
end Lw

set_option Elab.async false
set_option linter.all false
set_option maxRecDepth 100000
set_option maxHeartbeats 4000000
namespace Lw
open PySem PySem.Spec PyProof.Rows L2 Lx Pg
/-! what the ear tells -/
theorem dp_at {K : PySem.W.Frag} {H : Hp} {p : Addr} {x : Str} {k : Int} (h : H p = some (.tup [.str x, .int k, .bl true])) : Dp K H (.ref p) (.tuple [.str x, .int k, .bool true]) := .tup (.inl (.inl h)) (.cons (.str _) (.cons (.int _) (.cons (.bl _) .nil)))
theorem shaped_at {x : Str} {k : Int} (h : Chars x) : SeqAt.shaped (.tuple [.str x, .int k, .bool true]) = true := by
  show ((PyData.str x).canLay0 && (true && (true && true)) && true) = true
  rw [h]
  rfl
theorem eqv_at (x : Str) (k : Int) : PyData.eqv (.tuple [.str x, .int k, .bool true]) (.tuple [.str x, .int k, .bool true]) = true := by
  simp [PyData.eqv, PyData.eqvAll]
theorem dp_by {K : PySem.W.Frag} {H : Hp} {p : Addr} {x y : Str} (h : H p = some (.tup [.str x, .str y])) : Dp K H (.ref p) (.tuple [.str x, .str y]) := .tup (.inl (.inl h)) (.cons (.str _) (.cons (.str _) .nil))
theorem shaped_by {x y : Str} (h : Chars x) (h2 : Chars y) : SeqAt.shaped (.tuple [.str x, .str y]) = true := by
  show ((PyData.str x).canLay0 && ((PyData.str y).canLay0 && true) && true) = true
  rw [h, h2]
  rfl
theorem eqv_by (x y : Str) : PyData.eqv (.tuple [.str x, .str y]) (.tuple [.str x, .str y]) = true := by
  simp [PyData.eqv, PyData.eqvAll]
theorem neOne {A B : Prop} {c : Bool} (e : c = true) (h : B) : if (!c) = true then A else B := by
  subst e
  exact iteF h
/-- what a wrong item of a row may be -/
def Odd (K : PySem.W.Frag) (H : Hp) (n : Nat) (v : V) : Prop := Vk K H v ∧ isD n v = false ∧ (Sca v ∨ ∃ t, v = .ref t ∧ SqT K H t [.int 0])
theorem Odd.mk {K : PySem.W.Frag} {H : Hp} {n : Nat} {t : Addr} (ht : SqT K H t [.int 0]) {v : V} (hv : v ∈ [V.int (n : Nat), V.int (0 - 1), V.bl true, V.non, V.str "0", V.ref t]) : Odd K H n v := by
  simp only [List.mem_cons, List.not_mem_nil, or_false] at hv
  rcases hv with rfl | rfl | rfl | rfl | rfl | rfl
  · refine ⟨.int _, ?_, .inl (.int _)⟩
    simp only [isD, numV, Bool.and_eq_false_iff, decide_eq_false_iff_not]
    omega
  · exact ⟨.int _, by simp [isD, numV], .inl (.int _)⟩
  · exact ⟨.bl _, rfl, .inl (.bl _)⟩
  · exact ⟨.non, rfl, .inl .non⟩
  · exact ⟨.str _, rfl, .inl (.str _)⟩
  · exact ⟨.tup ht, rfl, .inr ⟨t, rfl, ht⟩⟩
theorem sca_vk {K : PySem.W.Frag} {H : Hp} {v : V} (h : Sca v) : Vk K H v := by
  cases h
  · exact .non
  · exact .bl _
  · exact .int _
  · exact .str _
theorem Odd.ext {K : PySem.W.Frag} {b : Addr} {H H' : Hp} {n : Nat} {v : V} (h : Odd K H n v) (e : Ext b H H') (hb : BoxAt H b) : Odd K H' n v := by
  obtain ⟨_, h2, h3⟩ := h
  obtain ⟨c0, c1, c2, z, _⟩ := hb
  rcases h3 with h3 | ⟨t, rfl, ht⟩
  · exact ⟨sca_vk h3, h2, .inl h3⟩
  · exact ⟨.tup (e.tup z ht), h2, .inr ⟨t, rfl, e.tup z ht⟩⟩
/-- at pb a row of deeds with a wrong item at k -/
def BadAt (K : PySem.W.Frag) (H : Hp) (pb : Addr) (k n : Nat) : Prop := ∃ (ds es : List Int) (v : V), SqT K H pb (ds.map V.int ++ [v] ++ es.map V.int ++ [V.non]) ∧ ds.length = k ∧ ds.length + es.length ≤ 100 ∧ Deeds n ds ∧ Odd K H n v
theorem BadAt.ext {K : PySem.W.Frag} {b pb : Addr} {H H' : Hp} {k n : Nat} (h : BadAt K H pb k n) (e : Ext b H H') (hb : BoxAt H b) : BadAt K H' pb k n := by
  obtain ⟨ds, es, v, h1, h2, h3, h4, h5⟩ := h
  obtain ⟨c0, c1, c2, z, _⟩ := id hb
  exact ⟨ds, es, v, e.tup z h1, h2, h3, h4, h5.ext e hb⟩
theorem BadAt.bad {K : PySem.W.Frag} {CR pb : Addr} {H : Hp} {k n : Nat} {E : XK} (h : BadAt K H pb k n) (er : ErrK E CR (.int (k : Nat)) H) : BadRowV K CR n (.ref pb) H E := by
  obtain ⟨ds, es, v, h1, h2, h3, h4, h5, h6, h7⟩ := h
  subst h2
  refine .inr ⟨_, .tup h1, ?_, fun x hx => ?_, ds.length, v, ?_, h6, fun j y hj hy => ?_, er⟩
  · simp only [List.length_append, List.length_map, List.length_singleton]
    omega
  · simp only [List.mem_append, List.mem_map, List.mem_singleton] at hx
    rcases hx with ((⟨d, _, rfl⟩ | rfl) | ⟨d, _, rfl⟩) | rfl
    · exact .int _
    · exact h5
    · exact .int _
    · exact .non
  · rw [List.append_assoc, List.append_assoc, List.getElem?_append_right (by rw [List.length_map]; omega), List.length_map, Nat.sub_self]
    rfl
  · rw [List.append_assoc, List.append_assoc, List.getElem?_append_left (by rw [List.length_map]; omega), List.getElem?_map] at hy
    cases ej : ds[j]? with
    | none =>
      rw [ej] at hy
      cases hy
    | some d =>
      rw [ej] at hy
      cases hy
      exact isD_int.mpr (h4 d (List.mem_of_getElem? ej))
/-- all that the def has at hand behind the row -/
structure Now (K : PySem.W.Frag) (CM b tb m pb : Addr) (k : Nat) (Tb : List (Addr × Str)) (T : List (List Int)) (H H' : Hp) : Prop where
  st : Sta K CM b tb m Tb T H H'
  bad : BadAt K H' pb k T.length
theorem Now.same {K : PySem.W.Frag} {CM b tb m pb : Addr} {k : Nat} {Tb : List (Addr × Str)} {T : List (List Int)} {H H1 H2 : Hp} (s : Now K CM b tb m pb k Tb T H H1) (e : Same H1 H2) : Now K CM b tb m pb k Tb T H H2 := ⟨s.st.same e, s.bad.ext (Ext.of e) s.st.lv.box⟩
theorem Now.draw {K : PySem.W.Frag} {CM b tb m pb : Addr} {k : Nat} {Tb : List (Addr × Str)} {T : List (List Int)} {H H1 H2 : Hp} (s : Now K CM b tb m pb k Tb T H H1) (n : tb ≠ b) (e : SameBut b H1 H2) (hb : BoxAt H2 b) : Now K CM b tb m pb k Tb T H H2 := ⟨s.st.draw n e hb, s.bad.ext (sb_ext e) s.st.lv.box⟩
theorem Now.lam {K : PySem.W.Frag} {CM b tb m pb : Addr} {k : Nat} {Tb : List (Addr × Str)} {T : List (List Int)} {H H1 H2 : Hp} (s : Now K CM b tb m pb k Tb T H H1) (n : tb ≠ b) (e : LamX.ExtN H1 H2) (t : LamX.Tabs Tb H2) : Now K CM b tb m pb k Tb T H H2 := ⟨s.st.lam n e t, s.bad.ext (Ext.ofN e) s.st.lv.box⟩
theorem slA_to {K : PySem.W.Frag} {a : Addr} {xs : List V} {k : Nat} {H : Hp} {Q : VK} (h : SqT K H a xs) (q : ∀ r H', Same H H' → SqT K H' r (xs.take k) → Q (.ref r) H') : rSlA K (.ref a) none (some (k : Int)) H Q := by
  refine ⟨a, xs, rfl, h, fun e => q a H (Same.refl _) ?_, fun _ p np => q p _ (same_new np) (.inl (.inl (by rw [upd_same, cut_to])))⟩
  rw [HT.sIx_nat] at e
  rw [List.take_of_length_le (by omega)]
  exact h
theorem slA_from {K : PySem.W.Frag} {a : Addr} {xs : List V} {k : Nat} {H : Hp} {Q : VK} (h : SqT K H a xs) (hk : k ≤ xs.length) (q : ∀ r H', Same H H' → SqT K H' r (xs.drop k) → Q (.ref r) H') : rSlA K (.ref a) (some (k : Int)) none H Q := by
  refine ⟨a, xs, rfl, h, fun e => q a H (Same.refl _) ?_, fun _ p np => q p _ (same_new np) (.inl (.inl (by rw [upd_same, cut_from])))⟩
  rw [HT.sIx_nat] at e
  have e1 : k = 0 := by omega
  subst e1
  exact h
theorem slA_from' {K : PySem.W.Frag} {σ : L2.St} {a : Addr} {xs : List V} {k : Nat} {H : Hp} {Q : VK} (h : SqT K H a xs) (hk : k ≤ xs.length) (q : ∀ r H', Same H H' → SqT K H' r (xs.drop k) → Q (.ref r) H') : tNoPart σ H fun u H3 => rSlA K (.ref a) (some (k : Int)) u H3 Q := slA_from h hk q
theorem catA {K : PySem.W.Frag} {a b : Addr} {xs ys : List V} {H : Hp} {Q : VK} (hx : SqT K H a xs) (hy : SqT K H b ys) (hl : xs.length + ys.length ≤ 10000) (q : ∀ r H', Same H H' → SqT K H' r (xs ++ ys) → Q (.ref r) H') : rCatA K (.ref a) (.ref b) H Q := by
  refine ⟨a, b, xs, ys, rfl, rfl, hx, hy, by rw [sizeLine_eq]; omega, fun e => q b H (Same.refl _) (by rw [e]; exact hy), fun _ e => q a H (Same.refl _) (by rw [e, List.append_nil]; exact hx), fun _ _ p np => q p _ (same_new np) (.inl (.inl upd_same))⟩
theorem odd_pick {K : PySem.W.Frag} {v : V} {M : Nat} (hM : M ≤ 401) (hv : v ∈ [V.int (M : Nat), V.int (0 - 1), V.bl true, V.non, V.str "0"]) : Sca v ∧ numV v 0 ((M : Int) - 1) = false ∧ ∃ d, RepOk d ∧ Chars d.shown ∧ ∀ H, Dp K H v d := by
  refine bad_pick (hi := ((M : Int) - 1)) (M := M) (x := "0") rep0 (by decide +kernel) hM (by omega) ?_
  simp only [List.mem_cons, List.not_mem_nil, or_false] at hv ⊢
  rcases hv with h | h | h | h | h
  · exact .inl h
  · exact .inr (.inl h)
  · exact .inr (.inr (.inr (.inl h)))
  · exact .inr (.inr (.inl h))
  · exact .inr (.inr (.inr (.inr h)))
/-- what is no table, and stays so: a scalar, or a list of another length or with a wrong item -/
def BadD (K : PySem.W.Frag) (b : Addr) (H : Hp) (n k : Nat) (v : V) : Prop := Sca v ∨ ∃ a zs, v = .ref a ∧ a ≠ b ∧ SqL K H a zs ∧ (∀ z ∈ zs, Sca z ∨ ∃ t, z = .ref t ∧ SqT K H t [.int 0]) ∧
  (zs.length = 0 ∨ 8 < zs.length ∨ (zs.length = n ∧ ∃ z ∈ zs, isD n z = false) ∨ (zs.length ≠ n ∧ 0 < k))
theorem BadD.ext {K : PySem.W.Frag} {b : Addr} {H H' : Hp} {n k : Nat} {v : V} (h : BadD K b H n k v) (e : Ext b H H') (hb : BoxAt H b) : BadD K b H' n k v := by
  obtain ⟨c0, c1, c2, z, _⟩ := hb
  rcases h with h | ⟨a, zs, rfl, na, hq, hz, h⟩
  · exact .inl h
  · refine .inr ⟨a, zs, rfl, na, e.seq na hq, fun x hx => ?_, h⟩
    rcases hz x hx with h | ⟨t, rfl, ht⟩
    · exact .inl h
    · exact .inr ⟨t, rfl, e.tup z ht⟩
theorem BadD.tab {K : PySem.W.Frag} {b : Addr} {H : Hp} {n k : Nat} {v u : V} (h : BadD K b H n k v) (hu : (k = 0 ∧ u = v) ∨ ∃ ys, Lx.Seq K H u ys ∧ ys.length = n) : TabBad K H v u := by
  rcases h with h | ⟨a, zs, rfl, na, hq, hz, h⟩
  · exact .inl h
  · have vk : ∀ z ∈ zs, Vk K H z := fun z hz' => by
      rcases hz z hz' with h | ⟨t, rfl, ht⟩
      · exact sca_vk h
      · exact .tup ht
    by_cases c : 1 ≤ zs.length ∧ zs.length ≤ 8
    · refine .inr (.inr ?_)
      obtain ⟨ys, hy, hl⟩ : ∃ ys, Lx.Seq K H u ys ∧ ((ys.length = n) ∨ (k = 0 ∧ ys = zs)) := by
        rcases hu with ⟨e, rfl⟩ | ⟨ys, h1, h2⟩
        · exact ⟨zs, .lst hq, .inr ⟨e, rfl⟩⟩
        · exact ⟨ys, h1, .inl h2⟩
      refine ⟨zs, ys, .lst hq, hy, c.1, c.2, vk, ?_⟩
      rcases h with h | h | ⟨h, z, hz', e⟩ | ⟨h, k0⟩
      · omega
      · omega
      · rw [Bool.and_eq_false_iff]
        right
        rw [List.all_eq_false]
        exact ⟨z, hz', by rw [h, e]; exact Bool.false_ne_true⟩
      · rw [Bool.and_eq_false_iff]
        left
        rw [decide_eq_false_iff_not]
        rcases hl with hl | ⟨e, _⟩
        · omega
        · omega
    · exact .inr (.inl ⟨zs, .lst hq, c⟩)
theorem sca_ints {K : PySem.W.Frag} {H : Hp} {ds : List Int} : ∀ z ∈ ds.map V.int, Sca z ∨ ∃ t, z = .ref t ∧ SqT K H t [.int 0] := fun z hz => by
  obtain ⟨d, _, rfl⟩ := List.mem_map.mp hz
  exact .inl (.int _)
/-- the widest machine of the law -/
def T7 : List (List Int) := List.replicate 4 (List.replicate 8 (7 : Int))
theorem tabs7 : Tabs T7 := ⟨by decide, by decide, 8, by decide, by decide, fun row h => by
  have e := (List.mem_replicate.mp h).2
  subst e
  refine ⟨by decide, fun z hz => ?_⟩
  rw [(List.mem_replicate.mp hz).2]
  decide⟩
theorem tabV7 {K : PySem.W.Frag} {H : Hp} {a l : Addr} (ha : H a = some (.lst (List.replicate (8 : Int).toNat [V.int 7]).flatten)) (hl : H l = some (.lst (List.replicate (4 : Int).toNat [V.ref a]).flatten)) : TabV K H (.ref l) T7 := by
  have h : Lx.Seq K H (.ref a) ((List.replicate 8 (7 : Int)).map V.int) := .lst (.inl (.inl ha))
  exact ⟨[a, a, a, a], .lst (.inl (.inl hl)), .cons h (.cons h (.cons h (.cons h .nil)))⟩
theorem zeros_flat (n : Nat) : (List.replicate n [V.int 0]).flatten = (List.replicate n (0 : Int)).map V.int := by
  rw [flat1, List.map_replicate]
end Lw

set_option Elab.async false
set_option linter.all false
set_option maxRecDepth 100000
set_option maxHeartbeats 8000000
namespace Lw
open PySem PySem.Spec PyProof.Rows L2 Lx Pg
/-- the def of the ear -/
structure EarDef (K : PySem.W.Frag) (mg : Str → Option Value) : Prop where
  ex : ∃ g fd, mg "_law_heard" = some (.ref g) ∧ Fun K "_law_heard" "_law_heard" sLawHeard g fd ∧ L2.Binds K fd ["ask"] []
section
variable {P : Program} {w : World} {K : PySem.W.Frag} {mg : Str → Option Value} {base : Heap} {CM CB CR CS CD : Addr}
/-- the scope of the walk that the i-th statement asks about -/
def lcScope (i : Nat) : Scope := match (defBody sLawNoneRight)[i]? with
  | some (.If (.Compare (.ListComp _ _ sc _) _ _ _) _ _ _) => sc
  | _ => defScope sLawNoneRight
theorem blk_nofree {N : List Str} {sc sc0 scope : Scope} {own : List (Str × Nat)} (h : blkC N sc0 scope own = true) (nf : ∀ y ∈ scope.names, y.2 ≠ .free) : BlkOk N sc scope own :=
  have b := blkOk_by h
  ⟨b.kind, b.uniq, b.ix, fun y hy e => absurd e (nf y hy), b.own⟩
def env0 : Env := envOfC "_law_none_right" (defScope sLawNoneRight) 0 0 .none
def nNone : List Str := ["box", "tables", "machine", "many", "deeds", "row", "at", "bad", "odd", "none", "table", "spot", "some", "wide", "value", "one"]
theorem scNone : FnScope nNone ["box", "tables"] (defScope sLawNoneRight) := ⟨rfl, rfl, rfl, by decide +kernel, rfl, by decide +kernel, by decide +kernel⟩
theorem ok_none {f c Pt : Addr} {fd : FuncData} {Tb : List (Addr × Str)} (F : Fun K "_law_none_right" "_law_none_right" sLawNoneRight f fd) (hcode : fd.code = .ref c) (TB : LamX.TabB base mg c Pt) (hmT : ∀ X : Cx, X.env.qual = ("_law_none_right" : Str) ++ ".<locals>." → (Pt, lamQ X) ∈ Tb) (hu : ∀ X : Cx, X.env.qual = ("_law_none_right" : Str) ++ ".<locals>." → ∀ p ∈ Tb, p.1 = Pt → p.2 = lamQ X)
    (B : Bare mg) (M : MachC K CM) (MM : MkM P w K mg base CM CB) (ear : EarDef K mg) (ea : ∃ CP, Ears K mg CB CR CS CD CP)
    (GT : Has P w K mg base L2.CX0 1 "_law_take" ["box", "many"] spLawTake) (GK : Has P w K mg base L2.CX0 2 "_law_pick" ["box", "some"] (spLawPick K)) (GL : Has P w K mg base L2.CX0 2 "_law_log" ["box", "tables", "most"] (spLog K))
    (Gl : Has P w K mg base (L2.CX P w) 5 "led" ["machine", "state", "row"] (spLed K CM CS CR)) (Gc5 : Has P w K mg base (L2.CX P w) 5 "check_row" ["machine", "value"] (spCheckRow K CM CR)) (Gr : Has P w K mg base (L2.CX P w) 5 "reached" ["machine", "state"] (spReached K CM CS Tb))
    (Gs5 : Has P w K mg base (L2.CX P w) 5 "need_state" ["machine", "state"] (spNeedState K CM CS)) (Gd5 : Has P w K mg base (L2.CX P w) 5 "need_deed" ["machine", "deed"] (spNeedDeed K CM CD)) :
    FnOkG P w K mg base L2.CX0 9 f fd ["box", "tables"] (spTold K Tb) := by
  obtain ⟨fm, fdm, fe, fde, mk, okM, mgM, bM, kM, me, okE, bE⟩ := MM.ex
  obtain ⟨CP, ea⟩ := ea
  obtain ⟨ge, fdg, mge, Fe, be⟩ := ear.ex
  refine okT F hcode scNone (fun vs H Q E h => ?_) (fun A outer s H vs Q E hr hgd h => ?_)
  · obtain ⟨b, tb, T, rfl, _⟩ := h
    rfl
  · obtain ⟨b, tb, T, rfl, hb, ntb, hT, n5, hrw, tabs, q⟩ := h
    have hu3 : (A.deeper (envOfC "_law_none_right" (defScope sLawNoneRight) s.heap.objs.size f (.ref c))).units + 300 < cLine := by have := hr.un; omega
    have hu2 : (A.deeper (envOfC "_law_none_right" (defScope sLawNoneRight) s.heap.objs.size f (.ref c))).units + 200 < cLine := by omega
    have nd : nNone.Nodup := scNone.nd
    refine ⟨_, (pss_cons (ps_asg (pe_tup (pa_cons (pe_make (E := L2.E0) (dvs := []) (ds := []) mk okM (hr.mono (by decide)) (by rfl) mgM bM .nil passL (pa_cons (pv 1) pa_nil)) (pa_cons (pe_callB lenS (by rfl) B.len PySem.boot_len (pa_cons (pe_ix ix_list (pv 1) pe_int (fun _ _ => rfl)) pa_nil)) (pa_cons (pe_callB lenS (by rfl) B.len PySem.boot_len (pa_cons (pv 1) pa_nil)) pa_nil)))) (pg_tup (by rfl) (pgs_cons (pg_name (i := 2) nd rfl (Or.inr rfl)) (pgs_cons (pg_name (i := 3) nd rfl (Or.inl rfl)) (pgs_cons (pg_name (i := 4) nd rfl (Or.inl rfl)) pgs_nil)))))
      (pss_cons (ps_set (i := 5) nd rfl (Or.inl rfl) (pe_has GL (hr.mono (by decide)) (by rfl) (pa_cons (pv 0) (pa_cons (pv 1) (pa_cons pe_int pa_nil)))))
      (pss_cons (ps_set (i := 6) nd rfl (Or.inr rfl) (pe_has GT (hr.mono (by decide)) (by rfl) (pa_cons (pv 0) (pa_cons (pe_op op_add (pe_callB lenS (by rfl) B.len PySem.boot_len (pa_cons (pv 5) pa_nil)) pe_int) pa_nil))))
      (C8.pss_cut (ps_set (i := 7) nd rfl (Or.inr rfl) (pe_op (r := rCatA K) op_catA (pe_op (r := rCatA K) op_catA (pe_op (r := rCatA K) op_catA (pe_slice (r := rSlA K) sl_tupA (pv 5) po_none (po_some (pv 6))) (pe_tup (pa_cons (pe_has GK (hr.mono (by decide)) (by rfl) (pa_cons (pv 0) (pa_cons (pe_lst (pa_cons (pv 4) (pa_cons (pe_op op_sub pe_int pe_int) (pa_cons pe_bl (pa_cons pe_non (pa_cons pe_str (pa_cons (pe_tup (pa_cons pe_int pa_nil)) pa_nil))))))) pa_nil))) pa_nil))) (pe_slice (r := rSlA K) sl_tupA (pv 5) (po_some (pv 6)) po_none)) (pe_tup (pa_cons pe_non pa_nil))))
      (pss_cons (ps_asg (pe_tup (pa_cons (pe_has GK (hr.mono (by decide)) (by rfl) (pa_cons (pv 0) (pa_cons (pe_lst (pa_cons (pv 3) (pa_cons (pe_op op_sub pe_int pe_int) (pa_cons pe_bl (pa_cons pe_non (pa_cons pe_str pa_nil)))))) pa_nil))) (pa_cons (pe_has GK (hr.mono (by decide)) (by rfl) (pa_cons (pv 0) (pa_cons (pe_lst (pa_cons (pv 4) (pa_cons (pe_op op_sub pe_int pe_int) (pa_cons pe_bl (pa_cons pe_non (pa_cons pe_str pa_nil)))))) pa_nil))) pa_nil))) (pg_tup (by rfl) (pgs_cons (pg_name (i := 8) nd rfl (Or.inr rfl)) (pgs_cons (pg_name (i := 9) nd rfl (Or.inr rfl)) pgs_nil))))
      (pss_cons (ps_if (pt_cmpR (op_neD hr.units) (pe_lamG (TT := heardT K CB CR CS CD) (k := 5) (t := fun E => tCall (spCheckRow K CM CR) [] E (tCons (tVar 2) (tCons (tVar 7) tNil))) (by rfl) mge Fe be scHeard rfl (Or.inl rfl) (fun _ => heard_gives B ea hu3 hgd) TB rfl (hmT _ (by rfl)) (hu _ (by rfl)) (hr.mono (by decide)) (lamN_by (sc := (defScope sLawNoneRight)) (by decide +kernel)) (by rfl) (fun _ _ _ _ _ => rfl)
            (BodyOk.of fun A2 outer2 s2 H2 E2 f2 c2 hr2 => pe_hasX (E := E2) Gc5 hr2 (takes_of rfl rfl rfl rfl) (fun _ _ _ _ z => z) (by rfl) (pa_cons (pv 2) (pa_cons (pv 7) pa_nil)))) (pe_tup (pa_cons pe_str (pa_cons (pv 6) (pa_cons pe_bl pa_nil)))) (nomark _)) (pss_one (ps_ret pe_bl)) pss_nil)
      (pss_cons (ps_if (pt_cmpR (op_neD hr.units) (pe_lamG (TT := heardT K CB CR CS CD) (k := 5) (t := fun E => tCall (spLed K CM CS CR) [] E (tCons (tVar 2) (tCons (tC (.int 0)) (tCons (tVar 7) tNil)))) (by rfl) mge Fe be scHeard rfl (Or.inl rfl) (fun _ => heard_gives B ea hu3 hgd) TB rfl (hmT _ (by rfl)) (hu _ (by rfl)) (hr.mono (by decide)) (lamN_by (sc := (defScope sLawNoneRight)) (by decide +kernel)) (by rfl) (fun _ _ _ _ _ => rfl)
            (BodyOk.of fun A2 outer2 s2 H2 E2 f2 c2 hr2 => pe_hasX (E := E2) Gl hr2 (takes_of rfl rfl rfl rfl) (fun _ _ _ _ z => z) (by rfl) (pa_cons (pv 2) (pa_cons pe_int (pa_cons (pv 7) pa_nil))))) (pe_tup (pa_cons pe_str (pa_cons (pv 6) (pa_cons pe_bl pa_nil)))) (nomark _)) (pss_one (ps_ret pe_bl)) pss_nil)
      (pss_cons (ps_if (pt_cmpR (op_neD hr.units) (pe_lc (own := [("value", 14)]) (g := gName 14) (tt := _) rfl nd (pi_seq (pe_tup (pa_cons pe_non (pa_cons pe_int (pa_cons pe_str pa_nil))))) (blkOk_by (N := nNone) (sc := defScope sLawNoneRight) (by decide +kernel))
            (fun _ _ _ _ _ => (pg_name (i := 14) nd rfl (Or.inr rfl))) (fun _ _ _ _ _ => pts_one (pt_cmpR (r := rNeD K) (op_neD hr.units) (pe_lamG (TT := heardT K CB CR CS CD) (k := 5) (t := fun E => tCall (spCheckRow K CM CR) [] E (tCons (tVar 2) (tCons (tVar 14) tNil))) (by rfl) mge Fe be scHeard rfl (Or.inl rfl) (fun _ => heard_gives B ea hu3 hgd) TB rfl (hmT _ (by rfl)) (hu _ (by rfl)) (hr.mono (by decide)) (lamN_by (sc := (relabel (lcScope 7) env0)) (by decide +kernel)) (by rfl) (fun _ _ _ _ _ => rfl)
            (BodyOk.of fun A2 outer2 s2 H2 E2 f2 c2 hr2 => pe_hasX (E := E2) Gc5 hr2 (takes_of rfl rfl rfl rfl) (fun _ _ _ _ z => z) (by rfl) (pa_cons (pv 2) (pa_cons (pv 14) pa_nil)))) (pe_tup (pa_cons pe_str (pa_cons (pe_op op_sub pe_int pe_int) (pa_cons pe_bl pa_nil)))) (nomark _))) (fun _ _ _ _ _ => (pv 14))) (pe_lst pa_nil) (nomark _)) (pss_one (ps_ret pe_bl)) pss_nil)
      (pss_cons (ps_if (pt_cmpR (op_neD hr.units) (pe_lamG (TT := heardT K CB CR CS CD) (k := 5) (t := fun E => tCall (spLed K CM CS CR) [] E (tCons (tVar 2) (tCons (tVar 8) (tCons (tC .non) tNil)))) (by rfl) mge Fe be scHeard rfl (Or.inl rfl) (fun _ => heard_gives B ea hu3 hgd) TB rfl (hmT _ (by rfl)) (hu _ (by rfl)) (hr.mono (by decide)) (lamN_by (sc := (defScope sLawNoneRight)) (by decide +kernel)) (by rfl) (fun _ _ _ _ _ => rfl)
            (BodyOk.of fun A2 outer2 s2 H2 E2 f2 c2 hr2 => pe_hasX (E := E2) Gl hr2 (takes_of rfl rfl rfl rfl) (fun _ _ _ _ z => z) (by rfl) (pa_cons (pv 2) (pa_cons (pv 8) (pa_cons pe_non pa_nil))))) (pe_tup (pa_cons pe_str (pa_cons (pe_callB (call_reprS hu2 hgd) (by rfl) B.repr (by decide +kernel) (pa_cons (pv 8) pa_nil)) pa_nil))) (nomark _)) (pss_one (ps_ret pe_bl)) pss_nil)
      (pss_cons (ps_if (pt_cmpR (op_neD hr.units) (pe_lamG (TT := heardT K CB CR CS CD) (k := 5) (t := fun E => tCall (spReached K CM CS Tb) [] E (tCons (tVar 2) (tCons (tVar 8) tNil))) (by rfl) mge Fe be scHeard rfl (Or.inl rfl) (fun _ => heard_gives B ea hu3 hgd) TB rfl (hmT _ (by rfl)) (hu _ (by rfl)) (hr.mono (by decide)) (lamN_by (sc := (defScope sLawNoneRight)) (by decide +kernel)) (by rfl) (fun _ _ _ _ _ => rfl)
            (BodyOk.of fun A2 outer2 s2 H2 E2 f2 c2 hr2 => pe_hasX (E := E2) Gr hr2 (takes_of rfl rfl rfl rfl) (fun _ _ _ _ z => z) (by rfl) (pa_cons (pv 2) (pa_cons (pv 8) pa_nil)))) (pe_tup (pa_cons pe_str (pa_cons (pe_callB (call_reprS hu2 hgd) (by rfl) B.repr (by decide +kernel) (pa_cons (pv 8) pa_nil)) pa_nil))) (nomark _)) (pss_one (ps_ret pe_bl)) pss_nil)
      (pss_cons (ps_if (pt_cmpR (op_neD hr.units) (pe_lamG (TT := heardT K CB CR CS CD) (k := 5) (t := fun E => tCall (spNeedState K CM CS) [] E (tCons (tVar 2) (tCons (tVar 8) tNil))) (by rfl) mge Fe be scHeard rfl (Or.inl rfl) (fun _ => heard_gives B ea hu3 hgd) TB rfl (hmT _ (by rfl)) (hu _ (by rfl)) (hr.mono (by decide)) (lamN_by (sc := (defScope sLawNoneRight)) (by decide +kernel)) (by rfl) (fun _ _ _ _ _ => rfl)
            (BodyOk.of fun A2 outer2 s2 H2 E2 f2 c2 hr2 => pe_hasX (E := E2) Gs5 hr2 (takes_of rfl rfl rfl rfl) (fun _ _ _ _ z => z) (by rfl) (pa_cons (pv 2) (pa_cons (pv 8) pa_nil)))) (pe_tup (pa_cons pe_str (pa_cons (pe_callB (call_reprS hu2 hgd) (by rfl) B.repr (by decide +kernel) (pa_cons (pv 8) pa_nil)) pa_nil))) (nomark _)) (pss_one (ps_ret pe_bl)) pss_nil)
      (C8.pss_cut (ps_if (pt_cmpR (op_neD hr.units) (pe_lamG (TT := heardT K CB CR CS CD) (k := 5) (t := fun E => tCall (spNeedDeed K CM CD) [] E (tCons (tVar 2) (tCons (tVar 9) tNil))) (by rfl) mge Fe be scHeard rfl (Or.inl rfl) (fun _ => heard_gives B ea hu3 hgd) TB rfl (hmT _ (by rfl)) (hu _ (by rfl)) (hr.mono (by decide)) (lamN_by (sc := (defScope sLawNoneRight)) (by decide +kernel)) (by rfl) (fun _ _ _ _ _ => rfl)
            (BodyOk.of fun A2 outer2 s2 H2 E2 f2 c2 hr2 => pe_hasX (E := E2) Gd5 hr2 (takes_of rfl rfl rfl rfl) (fun _ _ _ _ z => z) (by rfl) (pa_cons (pv 2) (pa_cons (pv 9) pa_nil)))) (pe_tup (pa_cons pe_str (pa_cons (pe_callB (call_reprS hu2 hgd) (by rfl) B.repr (by decide +kernel) (pa_cons (pv 9) pa_nil)) pa_nil))) (nomark _)) (pss_one (ps_ret pe_bl)) pss_nil)
      (pss_cons (ps_set (i := 6) nd rfl (Or.inr rfl) (pe_has GT (hr.mono (by decide)) (by rfl) (pa_cons (pv 0) (pa_cons (pv 4) pa_nil))))
      (pss_cons (ps_par (i := 10) (j := 11) rfl nd rfl rfl (by decide) rfl rfl (pa_cons (pe_callTy call_list_of (by rfl) B.list boot_list (pa_cons (pe_ix ix_list (pv 1) (pv 6) (fun _ _ => rfl)) pa_nil)) (pa_cons (pe_has GT (hr.mono (by decide)) (by rfl) (pa_cons (pv 0) (pa_cons (pv 3) pa_nil))) pa_nil)) (by rfl))
      (pss_cons (ps_set (i := 12) nd rfl (Or.inr rfl) (pe_lst (pa_cons (pe_op op_cat (pe_op op_cat (pe_slice (r := rSlL K) sl_list (pv 10) po_none (po_some (pv 11))) (pe_lst (pa_cons (pe_has GK (hr.mono (by decide)) (by rfl) (pa_cons (pv 0) (pa_cons (pe_lst (pa_cons (pv 3) (pa_cons (pe_op op_sub pe_int pe_int) (pa_cons pe_bl (pa_cons pe_non (pa_cons pe_str (pa_cons (pe_tup (pa_cons pe_int pa_nil)) pa_nil))))))) pa_nil))) pa_nil))) (pe_slice (r := rSlL K) sl_list (pv 10) (po_some (pe_op op_add (pv 11) pe_int)) po_none)) (pa_cons pe_non (pa_cons pe_int (pa_cons (pe_op op_mulS pe_str (pv 3)) pa_nil))))))
      (C8.pss_cut (ps_set (i := 12) nd rfl (Or.inr rfl) (pe_op op_cat (pv 12) (pe_ifExp (pt_cmpR op_gt (pv 6) pe_int (nomark _)) (pe_lst (pa_cons (pe_op op_cat (pv 10) (pe_lst (pa_cons pe_int pa_nil))) (pa_cons (pe_slice (r := rSlL K) sl_list (pv 10) (po_some pe_int) po_none) pa_nil))) (pe_lst (pa_cons (pe_lst pa_nil) (pa_cons (pe_op op_rep (pe_lst (pa_cons pe_int pa_nil)) pe_int) pa_nil))))))
      (pss_cons (ps_if (pt_cmpR (op_neD hr.units) (pe_lamG (TT := heardT K CB CR CS CD) (k := 5) (t := fun E => tMake CM (spMachine K CM CB) [] E (tCons (tOp rCat (tOp rCat (tCB (rListOf K) (tCons (tSl (rSlL K) (tVar 1) tNoPart (tPart (tVar 6))) tNil)) (tLst (tCons (tCall (spLawPick K) [] L2.E0 (tCons (tVar 0) (tCons (tVar 12) tNil))) tNil))) (tLc (iList K (tSl (rSlL K) (tVar 1) (tPart (tOp (rI0 fun i j => V.int (i + j)) (tVar 6) (tC (V.int 1)))) tNoPart)) (gName 15) tYes (tC .non) [15])) tNil)) (by rfl) mge Fe be scHeard rfl (Or.inl rfl) (fun _ => heard_gives B ea hu3 hgd) TB rfl (hmT _ (by rfl)) (hu _ (by rfl)) (hr.mono (by decide)) (lamN_by (sc := (defScope sLawNoneRight)) (by decide +kernel)) (by rfl) (fun _ _ _ _ _ => rfl)
            (BodyOk.of fun A2 outer2 s2 H2 E2 f2 c2 hr2 => pe_make (E := E2) (dvs := []) (ds := []) mk okM (hr2.mono (by decide)) (by rfl) mgM bM .nil (passes_call (takes_of rfl rfl rfl rfl) (fun _ _ _ _ z => z)) (pa_cons (pe_op op_cat (pe_op op_cat (pe_callTy (r := rListOf K) listOf (by rfl) B.list boot_list (pa_cons (pe_slice (r := rSlL K) sl_list (pv 1) po_none (po_some (pv 6))) pa_nil)) (pe_lst (pa_cons (pe_has GK (hr2.mono (by decide)) (by rfl) (pa_cons (pv 0) (pa_cons (pv 12) pa_nil))) pa_nil))) (pe_lc (own := [("one", 15)]) (g := gName 15) (tt := tYes) rfl nd (pi_list (pe_slice (r := rSlL K) sl_list (pv 1) (po_some (pe_op op_add (pv 6) pe_int)) po_none)) (blk_nofree (N := nNone) (sc0 := defScope sLawNoneRight) (by decide +kernel) (by decide +kernel))
            (fun _ _ _ _ _ => (pg_name (i := 15) nd rfl (Or.inl rfl))) (fun _ _ _ _ _ => pts_nil) (fun _ _ _ _ _ => pe_non))) pa_nil))) (pe_tup (pa_cons pe_str (pa_cons (pv 6) (pa_cons pe_bl pa_nil)))) (nomark _)) (pss_one (ps_ret pe_bl)) pss_nil)
      (pss_cons (ps_if (pt_cmpR (op_neD hr.units) (pe_lc (own := [("value", 14)]) (g := gName 14) (tt := _) rfl nd (pi_seq (pe_tup (pa_cons pe_non (pa_cons pe_int (pa_cons pe_str (pa_cons (pe_lst pa_nil) (pa_cons (pe_tup pa_nil) (pa_cons (pe_op op_rep (pe_lst (pa_cons (pe_tup (pa_cons pe_int pa_nil)) pa_nil)) pe_int) pa_nil)))))))) (blkOk_by (N := nNone) (sc := defScope sLawNoneRight) (by decide +kernel))
            (fun _ _ _ _ _ => (pg_name (i := 14) nd rfl (Or.inr rfl))) (fun _ _ _ _ _ => pts_one (pt_cmpR (r := rNeD K) (op_neD hr.units) (pe_lamG (TT := heardT K CB CR CS CD) (k := 5) (t := fun E => tMake CM (spMachine K CM CB) [] E (tCons (tVar 14) tNil)) (by rfl) mge Fe be scHeard rfl (Or.inl rfl) (fun _ => heard_gives B ea hu3 hgd) TB rfl (hmT _ (by rfl)) (hu _ (by rfl)) (hr.mono (by decide)) (lamN_by (sc := (relabel (lcScope 17) env0)) (by decide +kernel)) (by rfl) (fun _ _ _ _ _ => rfl)
            (BodyOk.of fun A2 outer2 s2 H2 E2 f2 c2 hr2 => pe_make (E := E2) (dvs := []) (ds := []) mk okM (hr2.mono (by decide)) (by rfl) mgM bM .nil (passes_call (takes_of rfl rfl rfl rfl) (fun _ _ _ _ z => z)) (pa_cons (pv 14) pa_nil))) (pe_tup (pa_cons pe_str (pa_cons (pe_op op_sub pe_int pe_int) (pa_cons pe_bl pa_nil)))) (nomark _))) (fun _ _ _ _ _ => (pv 14))) (pe_lst pa_nil) (nomark _)) (pss_one (ps_ret pe_bl)) pss_nil)
      (pss_cons (ps_set (i := 13) nd rfl (Or.inr rfl) (pe_make (E := L2.E0) (dvs := []) (ds := []) mk okM (hr.mono (by decide)) (by rfl) mgM bM .nil passL (pa_cons (pe_op op_rep (pe_lst (pa_cons (pe_op op_rep (pe_lst (pa_cons pe_int pa_nil)) pe_int) pa_nil)) pe_int) pa_nil)))
      (pss_cons (ps_if (pt_cmpR (op_neD hr.units) (pe_tup (pa_cons (pe_fld (pv 13) rfl) (pa_cons (pe_fld (pv 13) rfl) pa_nil))) (pe_tup (pa_cons pe_int (pa_cons pe_int pa_nil))) (nomark _)) (pss_one (ps_ret pe_bl)) pss_nil)
      (pss_cons (ps_if (pt_cmpR op_gt (pe_has GT (hr.mono (by decide)) (by rfl) (pa_cons (pv 0) (pa_cons pe_int pa_nil))) pe_int (nomark _)) (pss_one (ps_ret pe_bl)) pss_nil)
      (pss_one (ps_ret (pe_and (pe_cmpR op_eq (pe_callB lenS (by rfl) B.len PySem.boot_len (pa_cons (pe_hasN Gc5 (hr.mono (by decide)) (by rfl) (pa_cons (pv 13) (pa_cons (pe_op op_rep (pe_lst (pa_cons pe_int pa_nil)) pe_int) pa_nil))) pa_nil)) pe_int (nomark _)) (pe_one (pe_cmpR (r := rEqD K) (op_eqD hr.units) (pe_lamG (TT := heardT K CB CR CS CD) (k := 5) (t := fun E => tCall (spCheckRow K CM CR) [] E (tCons (tVar 13) (tCons (tOp rRep (tLst (tCons (tC (V.int 0)) tNil)) (tC (V.int 401))) tNil))) (by rfl) mge Fe be scHeard rfl (Or.inl rfl) (fun _ => heard_gives B ea hu3 hgd) TB rfl (hmT _ (by rfl)) (hu _ (by rfl)) (hr.mono (by decide)) (lamN_by (sc := (defScope sLawNoneRight)) (by decide +kernel)) (by rfl) (fun _ _ _ _ _ => rfl)
            (BodyOk.of fun A2 outer2 s2 H2 E2 f2 c2 hr2 => pe_hasX (E := E2) Gc5 hr2 (takes_of rfl rfl rfl rfl) (fun _ _ _ _ z => z) (by rfl) (pa_cons (pv 13) (pa_cons (pe_op op_rep (pe_lst (pa_cons pe_int pa_nil)) pe_int) pa_nil)))) (pe_tup (pa_cons pe_str (pa_cons (pe_op op_sub pe_int pe_int) (pa_cons pe_bl pa_nil)))) (nomark _)))))))))))))))))))))))))))
, ?_⟩
    have t1 := hT.some1
    have t4 := hT.most4
    obtain ⟨n, n1, n8, rect⟩ := hT.rows
    obtain ⟨row0, T', eT⟩ : ∃ row0 T', T = row0 :: T' := by
      cases T with
      | nil => exact absurd hT.some1 (by decide)
      | cons a b => exact ⟨a, b, rfl⟩
    have er0 : row0.length = n := (rect row0 (by rw [eT]; exact List.mem_cons_self)).1
    have en : (T.headD []).length = n := by rw [eT]; exact er0
    rw [en] at n5
    obtain ⟨bs, hl, hbs⟩ := id hrw
    have lbs : (bs.map V.ref).length = T.length := by rw [List.length_map, paired_len hbs]
    obtain ⟨b0, bs', eB⟩ : ∃ b0 bs', bs = b0 :: bs' := by
      cases bs with
      | nil => rw [eT] at lbs; simp at lbs
      | cons a b => exact ⟨a, b, rfl⟩
    have at0 : (bs.map V.ref)[0]? = some (.ref b0) := by rw [eB]; rfl
    -- the machine
    refine ⟨.ref tb, rfl, fun m dm nm ndm nem => ?_⟩
    have s0 : Same H (upd (upd H dm (.own m)) m (.ins CM dm [])) := (same_new ndm).trans (same_new (by rw [upd_ne nem.symm]; exact nm))
    refine ⟨m, dm, .ref tb, rfl, upd_same, .inr ⟨T, hT, (hrw.same s0).tabV, fun H1 sb1 hm1 => ⟨rfl, ?_⟩⟩⟩
    have s1 : Same H H1 := fun x o hx => sb1 x o (s0 x o hx) fun z => by rw [z, nm] at hx; cases hx
    have st1 : Sta K CM b tb m Tb T H H1 := ⟨⟨Ext.of s1, hb.same s1, tabs.ext s1⟩, hrw.same s1, hm1⟩
    have hb0 : SqT K H1 b0 (row0.map V.int) := by
      rw [eB, eT] at hbs
      cases hbs with
      | cons h _ => exact sameT s1 h
    refine ⟨.ref tb, rfl, tb, _, 0, .ref b0, rfl, rfl, .inl (.inl (s1 _ _ hl)), atI_nat (j := 0) at0, b0, _, rfl, .inr hb0, .ref tb, rfl, tb, _, rfl, .inl (.inl (.inl (s1 _ _ hl))), ?_⟩
    rw [lbs, List.length_map, er0]
    refine ⟨by show 3 ≤ sizeLine; decide, fun tp ntp => ⟨tp, _, rfl, .inl (.inl upd_same), rfl, _, _, rfl, _, _, rfl, _, _, rfl, rfl, ?_⟩⟩
    have st2 := st1.same (same_new (o := .tup [V.ref m, V.int (n : Nat), V.int (T.length : Nat)]) ntp)
    generalize upd H1 tp (.tup [V.ref m, V.int (n : Nat), V.int (T.length : Nat)]) = H2 at st2 ⊢
    clear hb0 ntp st1 s1 hm1 sb1 s0 nem ndm nm at0 eB bs' lbs hl hbs bs
    -- the row
    obtain ⟨bs, hl, hbs⟩ := id st2.rw
    have lbs : (bs.map V.ref).length = T.length := by rw [List.length_map, paired_len hbs]
    refine ⟨.ref b, rfl, .ref tb, rfl, b, tb, _, 6, rfl, st2.lv.box, ntb, .inl (.inl hl), by omega, by omega, by decide, fun H3 pr ds dok dl sb3 box3 npr hpr => ?_⟩
    rw [lbs] at dok
    have st3 := st2.draw ntb sb3 box3
    have prb : pr ≠ b := st2.lv.box.ne npr
    refine ⟨.ref b, rfl, .ref pr, rfl, pr, _, rfl, .inr (.inl (.inl hpr)), _, _, rfl, rfl, b, ds.length + 1, ?_, box3, by omega, by omega, fun H4 k hk sb4 box4 => ?_⟩
    · rw [List.length_map]
      rfl
    have st4 := st3.draw ntb sb4 box4
    have hpr4 : H4 pr = some (.tup (ds.map V.int)) := sb4 _ _ hpr prb
    -- the row with a wrong item
    let Mid : L2.St → Hp → Prop := fun σ' H' => ∃ pb, σ' = [some (.ref b), some (.ref tb), some (.ref m), some (.int (n : Nat)), some (.int (T.length : Nat)), some (.ref pr), some (.int (k : Nat)), some (.ref pb), none, none, none, none, none, none, none, none] ∧ Now K CM b tb m pb k Tb T H H'
    refine ⟨Mid, ?_, ?_⟩
    · refine ⟨.ref pr, rfl, .int (k : Nat), rfl, (k : Int), rfl, slA_to (.inl (.inl hpr4)) fun r5 H5 s5 hr5 => ?_⟩
      have st5 := st4.same s5
      refine ⟨.ref b, rfl, .int (T.length : Nat), rfl, _, _, rfl, rfl, by show 1 ≤ sizeLine; decide, fun pt npt => ⟨by show 6 ≤ sizeLine; decide, fun pl npl => ?_⟩⟩
      have s6 := (same_new (o := .tup [V.int 0]) npt).trans (same_new (o := .lst [V.int (T.length : Nat), V.int (0 - 1), V.bl true, V.non, V.str "0", V.ref pt]) npl)
      have st6 := st5.same s6
      have hpt : SqT K (upd (upd H5 pt (.tup [V.int 0])) pl (.lst [V.int (T.length : Nat), V.int (0 - 1), V.bl true, V.non, V.str "0", V.ref pt])) pt [.int 0] := .inl (.inl (same_new npl _ _ upd_same))
      refine ⟨b, pl, _, rfl, st6.lv.box, fun e => (st5.same (same_new (o := .tup [V.int 0]) npt)).lv.box.ne npl e.symm, .inl (.inl upd_same), by show 1 ≤ 6; decide, by show 6 < 1000; decide, fun H7 v hv sb7 box7 => ⟨by show 1 ≤ sizeLine; decide, fun pq npq => ?_⟩⟩
      have odd := (Odd.mk (n := T.length) hpt hv).ext (sb_ext sb7) st6.lv.box
      have st7 := st6.draw ntb sb7 box7
      have ext57 : Ext b H5 H7 := (Ext.of s6).trans (sb_ext sb7)
      obtain ⟨c0, c1, c2, zb, _⟩ := id st5.lv.box
      have hr7 := ext57.tup zb hr5
      have hpr7 : SqT K H7 pr (ds.map V.int) := ext57.tup zb (sameT s5 (.inl (.inl hpr4)))
      have s8 := same_new (o := .tup [v]) npq
      have st8 := st7.same s8
      refine catA (sameT s8 hr7) (.inl (.inl upd_same)) (by rw [List.length_take, List.length_map, List.length_singleton]; omega) fun r9 H9 s9 hr9 => ?_
      have st9 := st8.same s9
      refine ⟨.ref pr, rfl, .int (k : Nat), rfl, (k : Int), rfl, ?_⟩
      refine slA_from' (k := k) (sameT s9 (sameT s8 hpr7)) (by rw [List.length_map]; omega) fun r10 H10 s10 hr10 => ?_
      refine catA (sameT s10 hr9) hr10 (by rw [List.length_append, List.length_take, List.length_drop, List.length_map, List.length_singleton]; omega) fun r11 H11 s11 hr11 => ?_
      refine ⟨by show 1 ≤ sizeLine; decide, fun pn npn => ?_⟩
      have s12 := same_new (o := .tup [V.non]) npn
      refine catA (sameT s12 hr11) (.inl (.inl upd_same)) (by rw [List.length_append, List.length_append, List.length_take, List.length_drop, List.length_map, List.length_singleton, List.length_singleton]; omega) fun r13 H13 s13 hr13 => ?_
      have st13 := (((st9.same s10).same s11).same s12).same s13
      refine ⟨r13, rfl, st13, ds.take k, ds.drop k, v, ?_, by rw [List.length_take]; omega, by rw [List.length_take, List.length_drop]; omega, fun d hd => dok d (List.mem_of_mem_take hd), ?_⟩
      · rw [List.map_take, List.map_drop]
        exact hr13
      · exact odd.ext (Ext.of (s8.trans (s9.trans (s10.trans (s11.trans (s12.trans s13)))))) st7.lv.box
    clear hpr4 st4 box4 sb4 prb hpr npr box3 sb3 st3 dok lbs hbs hl bs st2 H4 H3 H2 H1
    rintro σ' H5 ⟨pb, rfl, nw⟩
    -- two odd numbers
    refine ⟨.ref b, rfl, .int n, rfl, _, _, rfl, rfl, by show 5 ≤ sizeLine; decide, fun pl npl => ?_⟩
    have nw6 := nw.same (same_new (o := .lst [V.int (n : Nat), V.int (0 - 1), V.bl true, V.non, V.str "0"]) npl)
    refine ⟨b, pl, _, rfl, nw6.st.lv.box, fun e => nw.st.lv.box.ne npl e.symm, .inl (.inl upd_same), by show 1 ≤ 5; decide, by show 5 < 1000; decide, fun H7 v hv sb7 box7 => ?_⟩
    have nw7 := nw6.draw ntb sb7 box7
    refine ⟨.ref b, rfl, .int (T.length : Nat), rfl, _, _, rfl, rfl, by show 5 ≤ sizeLine; decide, fun pl2 npl2 => ?_⟩
    have nw8 := nw7.same (same_new (o := .lst [V.int (T.length : Nat), V.int (0 - 1), V.bl true, V.non, V.str "0"]) npl2)
    refine ⟨b, pl2, _, rfl, nw8.st.lv.box, fun e => nw7.st.lv.box.ne npl2 e.symm, .inl (.inl upd_same), by show 1 ≤ 5; decide, by show 5 < 1000; decide, fun H9 v2 hv2 sb9 box9 => ?_⟩
    have nw9 := nw8.draw ntb sb9 box9
    refine ⟨by show 2 ≤ sizeLine; decide, fun tp ntp => ⟨tp, _, rfl, .inl (.inl upd_same), rfl, _, _, rfl, _, _, rfl, rfl, ?_⟩⟩
    have nw10 := nw9.same (same_new (o := .tup [v, v2]) ntp)
    generalize upd H9 tp (.tup [v, v2]) = H10 at nw10 ⊢
    obtain ⟨sv, nv, dv, rv, cv, pv⟩ := odd_pick (K := K) (M := n) (by omega) hv
    obtain ⟨sv2, nv2, dv2, rv2, cv2, pv2⟩ := odd_pick (K := K) (M := T.length) (by omega) hv2
    clear ntp nw9 box9 sb9 hv2 nw8 npl2 nw7 box7 sb7 hv nw6 npl nw
    have nvn : numV v 0 (((T.headD []).length : Int) - 1) = false := by rw [en]; exact nv
    -- rows that are none
    refine ⟨nw10.st.lv.tabs, fun H11 e11 t11 => ?_⟩
    have nw11 := nw10.lam ntb e11 t11
    refine ⟨.ref m, rfl, .ref pb, rfl, m, .ref pb, T, rfl, nw11.st.hm, (nw11.bad.bad (CR := CR) fun d H12 s12 nd12 hd12 => .inr (.inl ⟨rfl, d, .int (k : Nat), rfl, hd12, fun p13 H13 s13 np13 hp13 => ?_⟩)).check⟩
    have nw13 := (nw11.same s12).same s13
    refine ⟨.int (k : Nat), rfl, by show 3 ≤ sizeLine; decide, fun p14 np14 => ?_⟩
    have nw14 := nw13.same (same_new (o := .tup [V.str "row", V.int (k : Nat), V.bl true]) np14)
    refine ⟨_, _, dp_at (same_new np14 _ _ hp13), dp_at upd_same, shaped_at (by decide +kernel), shaped_at (by decide +kernel), _, rfl, ?_⟩
    rw [eqv_at]
    refine iteF ?_
    refine ⟨nw14.st.lv.tabs, fun H15 e15 t15 => ?_⟩
    have nw15 := nw14.lam ntb e15 t15
    refine ⟨.ref m, rfl, .ref pb, rfl, m, .int 0, .ref pb, T, rfl, nw15.st.hm, hT, .int _, .inr ⟨0, rfl, by omega, .inl (nw15.bad.bad (CR := CR) fun d H16 s16 nd16 hd16 => .inr (.inl ⟨rfl, d, .int (k : Nat), rfl, hd16, fun p17 H17 s17 np17 hp17 => ?_⟩))⟩⟩
    have nw17 := (nw15.same s16).same s17
    refine ⟨.int (k : Nat), rfl, by show 3 ≤ sizeLine; decide, fun p18 np18 => ?_⟩
    have nw18 := nw17.same (same_new (o := .tup [V.str "row", V.int (k : Nat), V.bl true]) np18)
    refine ⟨_, _, dp_at (same_new np18 _ _ hp17), dp_at upd_same, shaped_at (by decide +kernel), shaped_at (by decide +kernel), _, rfl, ?_⟩
    rw [eqv_at]
    refine iteF ?_
    generalize upd H17 p18 (.tup [V.str "row", V.int (k : Nat), V.bl true]) = H18 at nw18 ⊢
    clear np18 nw17 hp17 np17 s17 hd16 nd16 s16 nw15 t15 e15 nw14 np14 nw13 hp13 np13 s13 hd12 nd12 s12 nw11 t11 e11 nw10
    -- values that are no rows
    refine ⟨by show 3 ≤ sizeLine; decide, fun pt npt => ⟨pt, rfl, .inr ⟨_, .inl (.inl upd_same), fun D nD => ?_⟩⟩⟩
    have nw19 := nw18.same (same_new (o := .tup [V.non, V.int 0, V.str "0"]) npt)
    refine lc_it walk_tup (fun i H' => Now K CM b tb m pb k Tb T H H' ∧ H' D = some (.lst []) ∧ H' pt = some (.tup [V.non, V.int 0, V.str "0"])) ⟨nw19.same (same_new nD), upd_same, same_new nD _ _ upd_same⟩ (fun i H' _ hp => .inl (.inl hp.2.2)) ?_ ?_
    · rintro i x H2 H3 hi ⟨nw2, hD, hpt⟩ ⟨rfl, ex⟩
      have sx : Sca x := by
        have mx := List.mem_of_getElem? ex
        simp only [List.mem_cons, List.not_mem_nil, or_false] at mx
        rcases mx with rfl | rfl | rfl
        · exact .non
        · exact .int _
        · exact .str _
      refine ⟨rfl, ?_⟩
      refine ⟨nw2.st.lv.tabs, fun H4 e4 t4 => ?_⟩
      have nw4 := nw2.lam ntb e4 t4
      refine ⟨.ref m, rfl, x, rfl, m, x, T, rfl, nw4.st.hm, .inl ⟨.inl sx, fun d H5 s5 nd5 hd5 => .inr (.inl ⟨rfl, d, .int (-1), rfl, hd5, fun p6 H6 s6 np6 hp6 => ?_⟩)⟩⟩
      have nw6 := (nw4.same s5).same s6
      refine ⟨_, _, rfl, rfl, by show 3 ≤ sizeLine; decide, fun p7 np7 => ?_⟩
      have s7 := same_new (o := .tup [V.str "row", V.int (0 - 1), V.bl true]) np7
      refine ⟨.tuple [.str "row", .int (-1), .bool true], .tuple [.str "row", .int (-1), .bool true], dp_at (s7 _ _ hp6), dp_at upd_same, shaped_at (by decide +kernel), shaped_at (by decide +kernel), _, rfl, ?_⟩
      rw [eqv_at]
      refine iteF ?_
      exact ⟨nw6.same s7, s7 _ _ (s6 _ _ (s5 _ _ (e4 _ _ hD fun _ q => by cases q))), s7 _ _ (s6 _ _ (s5 _ _ (e4 _ _ hpt fun _ q => by cases q)))⟩
    rintro H20 ⟨nw20, hD20, _⟩
    refine ⟨Nat.zero_le _, fun p21 np21 => ?_⟩
    have nw21 := nw20.same (same_new (o := .lst []) np21)
    refine ⟨_, _, dp_list_ints (xs := []) (.inl (.inl (same_new np21 _ _ hD20))), dp_list_ints (xs := []) (.inl (.inl upd_same)), shaped_list_ints [], shaped_list_ints [], _, rfl, ?_⟩
    rw [eqv_list_ints, decide_eq_true rfl]
    refine iteF ?_
    generalize upd H20 p21 (.lst []) = H21 at nw21 ⊢
    -- states and deeds that are none
    refine ⟨nw21.st.lv.tabs, fun H30 e30 t30 => ?_⟩
    have nw30 := nw21.lam ntb e30 t30
    refine ⟨.ref m, rfl, v, rfl, m, v, .non, T, rfl, nw30.st.hm, hT, sca_vk sv, .inl ⟨nvn, fun d H31 s31 nd31 hd31 => .inr (.inr (.inl ⟨rfl, d, v, dv, rfl, hd31, pv _, rv, fun p32 H32 s32 np32 hp32 => ?_⟩))⟩⟩
    have nw32 := (nw30.same s31).same s32
    refine ⟨v, rfl, v, dv, rfl, pv _, rv, by show 2 ≤ sizeLine; decide, fun p33 np33 => ?_⟩
    have nw33 := nw32.same (same_new (o := .tup [V.str "state", V.str dv.shown]) np33)
    refine ⟨_, _, dp_by (same_new np33 _ _ hp32), dp_by upd_same, shaped_by (by decide +kernel) cv, shaped_by (by decide +kernel) cv, _, rfl, ?_⟩
    rw [eqv_by]
    refine iteF ?_
    refine ⟨nw33.st.lv.tabs, fun H40 e40 t40 => ?_⟩
    have nw40 := nw33.lam ntb e40 t40
    refine ⟨.ref m, rfl, v, rfl, m, v, T, rfl, nw40.st.hm, hT, sca_vk sv, .inl ⟨nvn, fun d H41 s41 nd41 hd41 => .inr (.inr (.inl ⟨rfl, d, v, dv, rfl, hd41, pv _, rv, fun p42 H42 s42 np42 hp42 => ?_⟩))⟩⟩
    have nw42 := (nw40.same s41).same s42
    refine ⟨v, rfl, v, dv, rfl, pv _, rv, by show 2 ≤ sizeLine; decide, fun p43 np43 => ?_⟩
    have nw43 := nw42.same (same_new (o := .tup [V.str "state", V.str dv.shown]) np43)
    refine ⟨_, _, dp_by (same_new np43 _ _ hp42), dp_by upd_same, shaped_by (by decide +kernel) cv, shaped_by (by decide +kernel) cv, _, rfl, ?_⟩
    rw [eqv_by]
    refine iteF ?_
    refine ⟨nw43.st.lv.tabs, fun H50 e50 t50 => ?_⟩
    have nw50 := nw43.lam ntb e50 t50
    refine ⟨.ref m, rfl, v, rfl, m, v, T, rfl, nw50.st.hm, sca_vk sv, .inr ⟨nvn, fun d H51 s51 nd51 hd51 => .inr (.inr (.inl ⟨rfl, d, v, dv, rfl, hd51, pv _, rv, fun p52 H52 s52 np52 hp52 => ?_⟩))⟩⟩
    have nw52 := (nw50.same s51).same s52
    refine ⟨v, rfl, v, dv, rfl, pv _, rv, by show 2 ≤ sizeLine; decide, fun p53 np53 => ?_⟩
    have nw53 := nw52.same (same_new (o := .tup [V.str "state", V.str dv.shown]) np53)
    refine ⟨_, _, dp_by (same_new np53 _ _ hp52), dp_by upd_same, shaped_by (by decide +kernel) cv, shaped_by (by decide +kernel) cv, _, rfl, ?_⟩
    rw [eqv_by]
    refine iteF ?_
    refine ⟨fun σ' H' => σ' = [some (.ref b), some (.ref tb), some (.ref m), some (.int (n : Nat)), some (.int (T.length : Nat)), some (.ref pr), some (.int (k : Nat)), some (.ref pb), some v, some v2, none, none, none, none, none, none] ∧ Sta K CM b tb m Tb T H H', ?_, ?_⟩
    · refine ⟨nw53.st.lv.tabs, fun H60 e60 t60 => ?_⟩
      have nw60 := nw53.lam ntb e60 t60
      refine ⟨.ref m, rfl, v2, rfl, m, v2, T, rfl, nw60.st.hm, sca_vk sv2, .inr ⟨nv2, fun d H61 s61 nd61 hd61 => .inr (.inr (.inr ⟨rfl, d, v2, dv2, rfl, hd61, pv2 _, rv2, fun p62 H62 s62 np62 hp62 => ?_⟩))⟩⟩
      have nw62 := (nw60.same s61).same s62
      refine ⟨v2, rfl, v2, dv2, rfl, pv2 _, rv2, by show 2 ≤ sizeLine; decide, fun p63 np63 => ?_⟩
      have nw63 := nw62.same (same_new (o := .tup [V.str "deed", V.str dv2.shown]) np63)
      refine ⟨_, _, dp_by (same_new np63 _ _ hp62), dp_by upd_same, shaped_by (by decide +kernel) cv2, shaped_by (by decide +kernel) cv2, _, rfl, ?_⟩
      rw [eqv_by]
      refine iteF ?_
      exact ⟨rfl, nw63.st⟩
    rintro σ' H1 ⟨rfl, st1⟩
    obtain ⟨bs, hl, hbs⟩ := id st1.rw
    have lbs : bs.length = T.length := paired_len hbs
    -- a table with a wrong item
    refine ⟨.ref b, rfl, .int (T.length : Nat), rfl, b, T.length, rfl, st1.lv.box, t1, by omega, fun H2 k2 hk2 sb2 box2 => ?_⟩
    have st2 := st1.draw ntb sb2 box2
    have tbk : H2 tb = some (.lst (bs.map V.ref)) := sb2 _ _ hl ntb
    have hbs2 : Paired (fun (a : Addr) (r : List Int) => SqT K H2 a (r.map V.int)) bs T := by
      obtain ⟨c0, c1, c2, zb, _⟩ := id st1.lv.box
      exact paired_imp hbs fun a r z => (sb_ext sb2).tup zb z
    have lk2 : k2 < bs.length := by omega
    obtain ⟨r2, g1, g2⟩ := Pg.paired_get hbs2 (List.getElem?_eq_getElem lk2)
    obtain ⟨lr2, zr2⟩ := rect r2 (List.mem_of_getElem? g1)
    have atk : (bs.map V.ref)[k2]? = some (.ref bs[k2]) := by rw [List.getElem?_map, List.getElem?_eq_getElem lk2]; rfl
    refine ⟨.ref tb, rfl, .int (k2 : Nat), rfl, tb, _, (k2 : Int), .ref bs[k2], rfl, rfl, .inl (.inl tbk), atI_nat atk, bs[k2], _, rfl, .inr g2, fun lt nlt => ?_⟩
    have st3 := st2.same (same_new (o := .lst (r2.map V.int)) nlt)
    have ltb : lt ≠ b := st2.lv.box.ne nlt
    have hlt3 : upd H2 lt (.lst (r2.map V.int)) lt = some (.lst (r2.map V.int)) := upd_same
    generalize upd H2 lt (.lst (r2.map V.int)) = H3 at st3 hlt3 ⊢
    refine ⟨.ref b, rfl, .int (n : Nat), rfl, b, n, rfl, st3.lv.box, n1, by omega, fun H4 sp hsp sb4 box4 => ⟨_, _, rfl, ?_⟩⟩
    have st4 := st3.draw ntb sb4 box4
    have hlt4 := sb4 _ _ hlt3 ltb
    clear hlt3 g2 nlt tbk hbs2 sb4 sb2
    refine ⟨.ref lt, rfl, .int (sp : Nat), rfl, (sp : Int), rfl, lt, _, rfl, .inl (.inl hlt4), fun p5 np5 => ?_⟩
    rw [cut_to]
    have s5 := same_new (o := .lst ((r2.map V.int).take sp)) np5
    have st5 := st4.same s5
    have hp5 : upd H4 p5 (.lst ((r2.map V.int).take sp)) p5 = some (.lst ((r2.map V.int).take sp)) := upd_same
    have hlt5 := s5 _ _ hlt4
    generalize upd H4 p5 (.lst ((r2.map V.int).take sp)) = H5 at st5 hp5 hlt5 ⊢
    have p5b : p5 ≠ b := st4.lv.box.ne np5
    refine ⟨.ref b, rfl, .int (n : Nat), rfl, _, _, rfl, rfl, by show 1 ≤ sizeLine; decide, fun pt npt => ⟨by show 6 ≤ sizeLine; decide, fun pl npl => ?_⟩⟩
    have s6 := (same_new (o := .tup [V.int 0]) npt).trans (same_new (o := .lst [V.int (n : Nat), V.int (0 - 1), V.bl true, V.non, V.str "0", V.ref pt]) npl)
    have st6 := st5.same s6
    have hpt : SqT K (upd (upd H5 pt (.tup [V.int 0])) pl (.lst [V.int (n : Nat), V.int (0 - 1), V.bl true, V.non, V.str "0", V.ref pt])) pt [.int 0] := .inl (.inl (same_new npl _ _ upd_same))
    refine ⟨b, pl, _, rfl, st6.lv.box, fun e => (st5.same (same_new (o := .tup [V.int 0]) npt)).lv.box.ne npl e.symm, .inl (.inl upd_same), by show 1 ≤ 6; decide, by show 6 < 1000; decide, fun H7 ow hv sb7 box7 => ⟨by show 1 ≤ sizeLine; decide, fun pq npq => ?_⟩⟩
    have odd := (Odd.mk (n := n) hpt hv).ext (sb_ext sb7) st6.lv.box
    have st7 := st6.draw ntb sb7 box7
    have hp7 := sb7 _ _ (s6 _ _ hp5) p5b
    have hlt7 := sb7 _ _ (s6 _ _ hlt5) ltb
    have s8 := same_new (o := .lst [ow]) npq
    have st8 := st7.same s8
    refine ⟨p5, pq, _, _, rfl, rfl, s8 _ _ hp7, upd_same, by rw [List.length_take, List.length_map, List.length_singleton, sizeLine_eq]; omega, fun p9 np9 => ?_⟩
    have s9 := same_new (o := .lst ((r2.map V.int).take sp ++ [ow])) np9
    have st9 := st8.same s9
    refine ⟨.ref lt, rfl, .int (sp : Nat), rfl, _, _, rfl, rfl, ((sp + 1 : Nat) : Int), rfl, lt, _, rfl, .inl (.inl (s9 _ _ (s8 _ _ hlt7))), fun p10 np10 => ?_⟩
    rw [cut_from]
    have s10 := same_new (o := .lst ((r2.map V.int).drop (sp + 1))) np10
    have st10 := st9.same s10
    refine ⟨p9, p10, _, _, rfl, rfl, s10 _ _ upd_same, upd_same, by rw [List.length_append, List.length_take, List.length_drop, List.length_map, List.length_singleton, sizeLine_eq]; omega, fun p11 np11 => ?_⟩
    have s11 := same_new (o := .lst ((r2.map V.int).take sp ++ [ow] ++ (r2.map V.int).drop (sp + 1))) np11
    have st11 := st10.same s11
    have p11b : p11 ≠ b := st10.lv.box.ne np11
    have odd11 := odd.ext (Ext.of (s8.trans (s9.trans (s10.trans s11)))) st7.lv.box
    have bad1 : BadD K b (upd (upd (upd (upd H7 pq (.lst [ow])) p9 (.lst ((r2.map V.int).take sp ++ [ow]))) p10 (.lst ((r2.map V.int).drop (sp + 1)))) p11 (.lst ((r2.map V.int).take sp ++ [ow] ++ (r2.map V.int).drop (sp + 1)))) n k2 (.ref p11) := by
      refine .inr ⟨p11, _, rfl, p11b, .inl (.inl upd_same), fun z hz => ?_, .inr (.inr (.inl ⟨?_, ow, ?_, odd.2.1⟩))⟩
      · rw [List.mem_append, List.mem_append, List.mem_singleton, ← List.map_take, ← List.map_drop] at hz
        rcases hz with (hz | rfl) | hz
        · exact sca_ints z hz
        · exact odd11.2.2
        · exact sca_ints z hz
      · rw [List.length_append, List.length_append, List.length_take, List.length_drop, List.length_map, List.length_singleton]
        omega
      · exact List.mem_append_left _ (List.mem_append_right _ List.mem_cons_self)
    have hlt11 := s11 _ _ (s10 _ _ (s9 _ _ (s8 _ _ hlt7)))
    generalize upd (upd (upd (upd H7 pq (.lst [ow])) p9 (.lst ((r2.map V.int).take sp ++ [ow]))) p10 (.lst ((r2.map V.int).drop (sp + 1)))) p11 (.lst ((r2.map V.int).take sp ++ [ow] ++ (r2.map V.int).drop (sp + 1))) = H11 at st11 bad1 hlt11 ⊢
    refine ⟨.int (n : Nat), rfl, n, rfl, rfl, n1, by omega, fun zt => ?_⟩
    refine ⟨by show 4 ≤ sizeLine; decide, fun ps nps => ?_⟩
    have s12 := same_new (o := .lst [V.ref p11, V.non, V.int 0, V.str zt]) nps
    have st12 := st11.same s12
    have hps : upd H11 ps (.lst [V.ref p11, V.non, V.int 0, V.str zt]) ps = some (.lst [V.ref p11, V.non, V.int 0, V.str zt]) := upd_same
    have bad12 := bad1.ext (Ext.of s12) st11.lv.box
    have hlt12 := s12 _ _ hlt11
    generalize upd H11 ps (.lst [V.ref p11, V.non, V.int 0, V.str zt]) = H12 at st12 hps bad12 hlt12 ⊢
    have psb : ps ≠ b := st11.lv.box.ne nps
    refine ⟨fun σ' H' => ∃ ls vs, σ' = [some (.ref b), some (.ref tb), some (.ref m), some (.int (n : Nat)), some (.int (T.length : Nat)), some (.ref pr), some (.int (k2 : Nat)), some (.ref pb), some v, some v2, some (.ref lt), some (.int (sp : Nat)), some (.ref ls), none, none, none] ∧
      Sta K CM b tb m Tb T H H' ∧ ls ≠ b ∧ H' ls = some (.lst vs) ∧ 1 ≤ vs.length ∧ vs.length < 1000 ∧ ∀ x ∈ vs, BadD K b H' n k2 x, ?_, ?_⟩
    · have base : ∀ {H' : Hp}, Same H12 H' → ∀ x ∈ [V.ref p11, V.non, V.int 0, V.str zt], BadD K b H' n k2 x := fun {H'} e x hx => by
        simp only [List.mem_cons, List.not_mem_nil, or_false] at hx
        rcases hx with rfl | rfl | rfl | rfl
        · exact bad12.ext (Ext.of e) st12.lv.box
        · exact .inl .non
        · exact .inl (.int _)
        · exact .inl (.str _)
      refine ⟨.ref ps, rfl, .int (k2 : Nat), rfl, _, _, rfl, rfl, _, rfl, ite2 (fun c => ?_) (fun c => ?_)⟩
      · have k0 : 0 < k2 := by
          rw [decide_eq_true_eq] at c
          omega
        refine ⟨.ref lt, rfl, by show 1 ≤ sizeLine; decide, fun q1 nq1 => ?_⟩
        have z1 := same_new (o := .lst [V.int 0]) nq1
        refine ⟨lt, q1, _, _, rfl, rfl, z1 _ _ hlt12, upd_same, by rw [List.length_map, List.length_singleton, sizeLine_eq]; omega, fun q2 nq2 => ?_⟩
        have z2 := z1.trans (same_new (o := .lst (r2.map V.int ++ [V.int 0])) nq2)
        have q2b : q2 ≠ b := (st12.same z1).lv.box.ne nq2
        have hq2 : (upd (upd H12 q1 (.lst [V.int 0])) q2 (.lst (r2.map V.int ++ [V.int 0]))) q2 = some (.lst (r2.map V.int ++ [V.int 0])) := upd_same
        generalize upd (upd H12 q1 (.lst [V.int 0])) q2 (.lst (r2.map V.int ++ [V.int 0])) = G2 at z2 hq2 ⊢
        refine ⟨.ref lt, rfl, ((1 : Nat) : Int), rfl, lt, _, rfl, .inl (.inl (z2 _ _ hlt12)), fun q3 nq3 => ?_⟩
        rw [cut_from]
        have z3 := same_new (o := .lst ((r2.map V.int).drop 1)) nq3
        have q3b : q3 ≠ b := (st12.same z2).lv.box.ne nq3
        refine ⟨by show 2 ≤ sizeLine; decide, fun q4 nq4 => ?_⟩
        have z4 := same_new (o := .lst [V.ref q2, V.ref q3]) nq4
        have hq3 := z4 _ _ (upd_same (H := G2) (a := q3) (o := .lst ((r2.map V.int).drop 1)))
        have hq2' := z4 _ _ (z3 _ _ hq2)
        have z14 := z2.trans (z3.trans z4)
        refine ⟨ps, q4, _, _, rfl, rfl, z14 _ _ hps, upd_same, by show 4 + 2 ≤ sizeLine; decide, fun q5 nq5 => ?_⟩
        have z5 := same_new (o := .lst ([V.ref p11, V.non, V.int 0, V.str zt] ++ [V.ref q2, V.ref q3])) nq5
        have z15 := z14.trans z5
        refine ⟨q5, _, rfl, st12.same z15, (st12.same z14).lv.box.ne nq5, upd_same, by show 1 ≤ 6; decide, by show 6 < 1000; decide, fun x hx => ?_⟩
        rcases List.mem_append.mp hx with hx | hx
        · exact base z15 x hx
        · simp only [List.mem_cons, List.not_mem_nil, or_false] at hx
          rcases hx with rfl | rfl
          · refine .inr ⟨q2, _, rfl, q2b, .inl (.inl (z5 _ _ hq2')), fun z hz => ?_, .inr (.inr (.inr ⟨by rw [List.length_append, List.length_map, List.length_singleton]; omega, k0⟩))⟩
            rcases List.mem_append.mp hz with hz | hz
            · exact sca_ints z hz
            · rw [List.mem_singleton.mp hz]
              exact .inl (.int _)
          · refine .inr ⟨q3, _, rfl, q3b, .inl (.inl (z5 _ _ hq3)), fun z hz => ?_, .inr (.inr (.inr ⟨by rw [List.length_drop, List.length_map]; omega, k0⟩))⟩
            rw [← List.map_drop] at hz
            exact sca_ints z hz
      · refine ⟨Nat.zero_le _, fun q1 nq1 => ⟨by show 1 ≤ sizeLine; decide, fun q2 nq2 => ?_⟩⟩
        have z1 := same_new (o := .lst []) nq1
        have z2 := same_new (o := .lst [V.int 0]) nq2
        refine ⟨q2, 9, _, rfl, rfl, upd_same, by decide, by decide, by show 1 * 9 ≤ sizeLine; decide, fun q3 nq3 => ?_⟩
        have z3 := same_new (o := .lst (List.replicate (9 : Int).toNat [V.int 0]).flatten) nq3
        have z13 := z1.trans (z2.trans z3)
        have q1b : q1 ≠ b := st12.lv.box.ne nq1
        have q3b : q3 ≠ b := (st12.same (z1.trans z2)).lv.box.ne nq3
        have hq1 := z3 _ _ (z2 _ _ (upd_same (H := H12) (a := q1) (o := .lst [])))
        have hq3 := upd_same (H := upd (upd H12 q1 (.lst [])) q2 (.lst [V.int 0])) (a := q3) (o := .lst (List.replicate (9 : Int).toNat [V.int 0]).flatten)
        generalize upd (upd (upd H12 q1 (.lst [])) q2 (.lst [V.int 0])) q3 (.lst (List.replicate (9 : Int).toNat [V.int 0]).flatten) = G3 at z13 hq1 hq3 ⊢
        refine ⟨by show 2 ≤ sizeLine; decide, fun q4 nq4 => ?_⟩
        have z4 := same_new (o := .lst [V.ref q1, V.ref q3]) nq4
        have z14 := z13.trans z4
        refine ⟨ps, q4, _, _, rfl, rfl, z14 _ _ hps, upd_same, by show 4 + 2 ≤ sizeLine; decide, fun q5 nq5 => ?_⟩
        have z5 := same_new (o := .lst ([V.ref p11, V.non, V.int 0, V.str zt] ++ [V.ref q1, V.ref q3])) nq5
        have z15 := z14.trans z5
        refine ⟨q5, _, rfl, st12.same z15, (st12.same z14).lv.box.ne nq5, upd_same, by show 1 ≤ 6; decide, by show 6 < 1000; decide, fun x hx => ?_⟩
        rcases List.mem_append.mp hx with hx | hx
        · exact base z15 x hx
        · simp only [List.mem_cons, List.not_mem_nil, or_false] at hx
          rcases hx with rfl | rfl
          · exact .inr ⟨q1, [], rfl, q1b, .inl (.inl (z5 _ _ (z4 _ _ hq1))), fun z hz => by simp at hz, .inl rfl⟩
          · refine .inr ⟨q3, _, rfl, q3b, .inl (.inl (z5 _ _ (z4 _ _ hq3))), fun z hz => ?_, .inr (.inl (by show 8 < 9; decide))⟩
            have e9 : (List.replicate (9 : Int).toNat [V.int 0]).flatten = (List.replicate 9 (0 : Int)).map V.int := rfl
            rw [e9] at hz
            exact sca_ints z hz
    clear bad12 hps hlt12 st12
    rintro σ' G1 ⟨ls, vs, rfl, st1g, lsb, hls, v1, v1000, hbad⟩
    -- a machine with a wrong table
    refine ⟨st1g.lv.tabs, fun G2 e2 u2 => ?_⟩
    have st2g := st1g.lam ntb e2 u2
    have hls2 := e2 _ _ hls (fun _ q => by cases q)
    have bad2 : ∀ x ∈ vs, BadD K b G2 n k2 x := fun x hx => (hbad x hx).ext (Ext.ofN e2) st1g.lv.box
    clear hbad hls u2 e2 st1g
    obtain ⟨bs, hl, hbs⟩ := id st2g.rw
    have lbs : bs.length = T.length := paired_len hbs
    have lbm : (bs.map V.ref).length = T.length := by rw [List.length_map, lbs]
    refine ⟨.ref tb, rfl, .int (k2 : Nat), rfl, (k2 : Int), rfl, tb, _, rfl, .inl (.inl hl), fun p1 np1 => ?_⟩
    rw [cut_to]
    have z1 := same_new (o := .lst ((bs.map V.ref).take k2)) np1
    refine ⟨p1, _, rfl, .inl (.inl (.inl upd_same)), fun p2 np2 => ?_⟩
    have z2 := z1.trans (same_new (o := .lst ((bs.map V.ref).take k2)) np2)
    have st3g := st2g.same z2
    have p2b : p2 ≠ b := (st2g.same z1).lv.box.ne np2
    have hp2 : upd (upd G2 p1 (.lst ((bs.map V.ref).take k2))) p2 (.lst ((bs.map V.ref).take k2)) p2 = some (.lst ((bs.map V.ref).take k2)) := upd_same
    have hls3 := z2 _ _ hls2
    have bad3 : ∀ x ∈ vs, BadD K b (upd (upd G2 p1 (.lst ((bs.map V.ref).take k2))) p2 (.lst ((bs.map V.ref).take k2))) n k2 x := fun x hx => (bad2 x hx).ext (Ext.of z2) st2g.lv.box
    generalize upd (upd G2 p1 (.lst ((bs.map V.ref).take k2))) p2 (.lst ((bs.map V.ref).take k2)) = G3 at z2 st3g hp2 hls3 bad3 ⊢
    refine ⟨.ref b, rfl, .ref ls, rfl, b, ls, vs, rfl, st3g.lv.box, lsb.symm, .inl (.inl hls3), v1, v1000, fun G4 x hx sb4 box4 => ⟨by show 1 ≤ sizeLine; decide, fun p3 np3 => ?_⟩⟩
    have st4g := st3g.draw ntb sb4 box4
    have hp4 := sb4 _ _ hp2 p2b
    have bad4 := (bad3 x hx).ext (sb_ext sb4) st3g.lv.box
    have z5 := same_new (o := .lst [x]) np3
    refine ⟨p2, p3, _, _, rfl, rfl, z5 _ _ hp4, upd_same, by rw [List.length_take, List.length_singleton, sizeLine_eq]; omega, fun p4 np4 => ?_⟩
    have z6 := z5.trans (same_new (o := .lst ((bs.map V.ref).take k2 ++ [x])) np4)
    have hp6 : (upd (upd G4 p3 (.lst [x])) p4 (.lst ((bs.map V.ref).take k2 ++ [x]))) p4 = some (.lst ((bs.map V.ref).take k2 ++ [x])) := upd_same
    have st6g := st4g.same z6
    have bad6 := bad4.ext (Ext.of z6) st4g.lv.box
    have htb6 : (upd (upd G4 p3 (.lst [x])) p4 (.lst ((bs.map V.ref).take k2 ++ [x]))) tb = some (.lst (bs.map V.ref)) := z6 _ _ (sb4 _ _ (z2 _ _ hl) ntb)
    have hbs6 : Paired (fun (a : Addr) (r : List Int) => SqT K (upd (upd G4 p3 (.lst [x])) p4 (.lst ((bs.map V.ref).take k2 ++ [x]))) a (r.map V.int)) bs T := by
      obtain ⟨c0, c1, c2, zb, _⟩ := id st3g.lv.box
      exact paired_imp hbs fun a r z => sameT z6 ((sb_ext sb4).tup zb (sameT z2 z))
    generalize upd (upd G4 p3 (.lst [x])) p4 (.lst ((bs.map V.ref).take k2 ++ [x])) = G6 at hp6 st6g bad6 htb6 hbs6 z6 ⊢
    refine ⟨.ref tb, rfl, .int (k2 : Nat), rfl, _, _, rfl, rfl, ((k2 + 1 : Nat) : Int), rfl, tb, _, rfl, .inl (.inl htb6), fun p5 np5 => ?_⟩
    rw [cut_from]
    have z7 := same_new (o := .lst ((bs.map V.ref).drop (k2 + 1))) np5
    have hp5 : (upd G6 p5 (.lst ((bs.map V.ref).drop (k2 + 1)))) p5 = some (.lst ((bs.map V.ref).drop (k2 + 1))) := upd_same
    generalize upd G6 p5 (.lst ((bs.map V.ref).drop (k2 + 1))) = G7 at z7 hp5 ⊢
    refine ⟨p5, rfl, ⟨_, .inl (.inl hp5)⟩, fun D8 nD8 => ?_⟩
    refine lc_it walk_list (PvF (fun _ => true) (fun _ => .non) G7 D8) (pvf0 nD8) (fun i H3 _ hp => .inl (.inl (hp.1 _ _ hp5))) ?_ ?_
    · rintro i y H3 H3' hi hp ⟨rfl, ey⟩
      rw [List.length_drop, List.length_map] at hi
      exact ⟨rfl, yes_in (pvf_put nD8 hp (Same.refl _) rfl rfl (by omega))⟩
    · intro G8 hp8
      have z8 := z7.trans hp8.1
      refine ⟨p4, D8, _, _, rfl, rfl, z8 _ _ hp6, hp8.2, ?_, fun p9 np9 => ?_⟩
      · rw [List.length_append, List.length_take, List.length_singleton, List.filter_eq_self.mpr fun _ _ => rfl, sizeLine_eq]
        simp only [List.length_map, List.length_range, List.length_drop]
        omega
      have lnon : (((List.range ((bs.map V.ref).drop (k2 + 1)).length).filter fun _ => true).map fun _ => V.non).length = T.length - (k2 + 1) := by
        rw [List.filter_eq_self.mpr fun _ _ => rfl, List.length_map, List.length_range, List.length_drop, lbm]
      generalize hnons : (((List.range ((bs.map V.ref).drop (k2 + 1)).length).filter fun _ => true).map fun _ => V.non) = nons at lnon ⊢
      have z9 := z8.trans (same_new (o := .lst ((bs.map V.ref).take k2 ++ [x] ++ nons)) np9)
      have hp9 : (upd G8 p9 (.lst ((bs.map V.ref).take k2 ++ [x] ++ nons))) p9 = some (.lst ((bs.map V.ref).take k2 ++ [x] ++ nons)) := upd_same
      generalize upd G8 p9 (.lst ((bs.map V.ref).take k2 ++ [x] ++ nons)) = G9 at z9 hp9 ⊢
      have st9g := st6g.same z9
      intro m2 dm nm ndm nem
      have z10 : Same G9 (upd (upd G9 dm (.own m2)) m2 (.ins CM dm [])) := (same_new ndm).trans (same_new (by rw [upd_ne nem.symm]; exact nm))
      have z11 := z9.trans z10
      have st10g := st9g.same z10
      have lk : ((bs.map V.ref).take k2).length = k2 := by rw [List.length_take, lbm]; omega
      have get_lt : ∀ j, j < k2 → ((bs.map V.ref).take k2 ++ [x] ++ nons)[j]? = (bs.map V.ref)[j]? := fun j hj => by
        rw [List.append_assoc, List.getElem?_append_left (by omega), List.getElem?_take, if_pos hj]
      have get_k : ((bs.map V.ref).take k2 ++ [x] ++ nons)[k2]? = some x := by
        rw [List.append_assoc, List.getElem?_append_right (by omega), lk, Nat.sub_self]
        rfl
      have tabOf : ∀ j y, (bs.map V.ref)[j]? = some y → ∃ r : List Int, T[j]? = some r ∧ Lx.Seq K (upd (upd G9 dm (.own m2)) m2 (.ins CM dm [])) y (r.map V.int) := fun j y hy => by
        rw [List.getElem?_map] at hy
        cases ej : bs[j]? with
        | none => rw [ej] at hy; cases hy
        | some c =>
          rw [ej] at hy
          cases hy
          obtain ⟨r, h1, h2⟩ := Pg.paired_get hbs6 ej
          exact ⟨r, h1, .tup (sameT z11 h2)⟩
      obtain ⟨u, hu0, huv⟩ : ∃ u, ((bs.map V.ref).take k2 ++ [x] ++ nons)[0]? = some u ∧ ((k2 = 0 ∧ u = x) ∨ (0 < k2 ∧ (bs.map V.ref)[0]? = some u)) := by
        rcases Nat.eq_zero_or_pos k2 with e | e
        · refine ⟨x, ?_, .inl ⟨e, rfl⟩⟩
          have := get_k
          rwa [e] at this ⊢
        · have l0 : 0 < (bs.map V.ref).length := by omega
          exact ⟨_, by rw [get_lt 0 e]; exact List.getElem?_eq_getElem l0, .inr ⟨e, List.getElem?_eq_getElem l0⟩⟩
      have useq : 0 < k2 → ∃ r : List Int, Lx.Seq K (upd (upd G9 dm (.own m2)) m2 (.ins CM dm [])) u (r.map V.int) ∧ r.length = n := fun k0 => by
        rcases huv with ⟨e, _⟩ | ⟨_, e⟩
        · omega
        · obtain ⟨r, h1, h2⟩ := tabOf 0 u e
          exact ⟨r, h2, (rect r (List.mem_of_getElem? h1)).1⟩
      refine ⟨m2, dm, .ref p9, rfl, upd_same, .inl (.inr ⟨_, u, .lst (.inl (.inl (z10 _ _ hp9))), ?_, ?_, hu0, k2, x, get_k, ?_, fun j y hj hy => ?_, fun d H5 s5 nd5 hd5 => .inl ⟨rfl, d, .int (k2 : Nat), rfl, hd5, fun p13 H13 s13 np13 hp13 => ?_⟩⟩)⟩
      · rw [List.length_append, List.length_append, List.length_singleton]
        omega
      · rw [List.length_append, List.length_append, List.length_singleton]
        omega
      · refine (bad6.ext (Ext.of z11) st6g.lv.box).tab ?_
        rcases Nat.eq_zero_or_pos k2 with e | e
        · rcases huv with ⟨_, h⟩ | ⟨h, _⟩
          · exact .inl ⟨e, h⟩
          · omega
        · obtain ⟨r, h1, h2⟩ := useq e
          exact .inr ⟨_, h1, by rw [List.length_map]; exact h2⟩
      · rw [get_lt j hj] at hy
        obtain ⟨r, h1, h2⟩ := tabOf j y hy
        obtain ⟨r0, h3, h4⟩ := useq (by omega)
        obtain ⟨l1, b1⟩ := rect r (List.mem_of_getElem? h1)
        refine ⟨_, _, h2, h3, by rw [List.length_map]; omega, by rw [List.length_map]; omega, fun z hz => ?_, ?_⟩
        · obtain ⟨d, _, rfl⟩ := List.mem_map.mp hz
          exact .int d
        · rw [List.length_map, List.length_map, l1, h4, decide_eq_true rfl, Bool.true_and, List.all_eq_true]
          intro z hz
          obtain ⟨d, hd, rfl⟩ := List.mem_map.mp hz
          exact isD_int.mpr (b1 d hd)
      have st13g := (st10g.same s5).same s13
      refine ⟨.int (k2 : Nat), rfl, by show 3 ≤ sizeLine; decide, fun p14 np14 => ?_⟩
      have st14g := st13g.same (same_new (o := .tup [V.str "machine", V.int (k2 : Nat), V.bl true]) np14)
      refine ⟨_, _, dp_at (same_new np14 _ _ hp13), dp_at upd_same, shaped_at (by decide +kernel), shaped_at (by decide +kernel), _, rfl, ?_⟩
      rw [eqv_at]
      refine iteF ?_
      generalize upd H13 p14 (.tup [V.str "machine", V.int (k2 : Nat), V.bl true]) = W0 at st14g ⊢
      clear np14 st13g hp13 np13 s13 hd5 nd5 s5
      -- values that are no tables
      refine ⟨Nat.zero_le _, fun pe npe => ⟨Nat.zero_le _, fun pu npu => ⟨by show 1 ≤ sizeLine; decide, fun pt npt => ⟨by show 1 ≤ sizeLine; decide, fun pl npl => ⟨pl, 5, _, rfl, rfl, upd_same, by decide, by decide, by show 1 * 5 ≤ sizeLine; decide, fun pf npf => ?_⟩⟩⟩⟩⟩
      have y1 := same_new (o := .lst []) npe
      have y2 := same_new (o := .tup []) npu
      have y3 := same_new (o := .tup [V.int 0]) npt
      have y4 := same_new (o := .lst [V.ref pt]) npl
      have y5 := same_new (o := .lst (List.replicate (5 : Int).toNat [V.ref pt]).flatten) npf
      have stw := st14g.same (y1.trans (y2.trans (y3.trans (y4.trans y5))))
      have hpe := y5 _ _ (y4 _ _ (y3 _ _ (y2 _ _ (upd_same (H := W0) (a := pe) (o := .lst [])))))
      have hpu := y5 _ _ (y4 _ _ (y3 _ _ (upd_same (H := upd W0 pe (.lst [])) (a := pu) (o := .tup []))))
      have hpf := upd_same (H := upd (upd (upd (upd W0 pe (.lst [])) pu (.tup [])) pt (.tup [V.int 0])) pl (.lst [V.ref pt])) (a := pf) (o := .lst (List.replicate (5 : Int).toNat [V.ref pt]).flatten)
      generalize upd (upd (upd (upd (upd W0 pe (.lst [])) pu (.tup [])) pt (.tup [V.int 0])) pl (.lst [V.ref pt])) pf (.lst (List.replicate (5 : Int).toNat [V.ref pt]).flatten) = W1 at stw hpe hpu hpf ⊢
      clear y1 y2 y3 y4 y5 npf npl npt npu npe
      refine ⟨by show 6 ≤ sizeLine; decide, fun pT npT => ⟨pT, rfl, .inr ⟨_, .inl (.inl upd_same), fun D2 nD2 => ?_⟩⟩⟩
      have y6 := same_new (o := .tup [V.non, V.int 0, V.str "0", V.ref pe, V.ref pu, V.ref pf]) npT
      have y7 := same_new (o := .lst []) nD2
      let Keep : Hp → Prop := fun H' => H' D2 = some (.lst []) ∧ H' pT = some (.tup [V.non, V.int 0, V.str "0", V.ref pe, V.ref pu, V.ref pf]) ∧ H' pe = some (.lst []) ∧ H' pu = some (.tup []) ∧ H' pf = some (.lst (List.replicate (5 : Int).toNat [V.ref pt]).flatten)
      have keep : ∀ {X X' : Hp}, LamX.ExtN X X' → Keep X → Keep X' := fun {X X'} e h => ⟨e _ _ h.1 (fun _ q => by cases q), e _ _ h.2.1 (fun _ q => by cases q), e _ _ h.2.2.1 (fun _ q => by cases q), e _ _ h.2.2.2.1 (fun _ q => by cases q), e _ _ h.2.2.2.2 (fun _ q => by cases q)⟩
      refine lc_it walk_tup (fun i H' => Sta K CM b tb m Tb T H H' ∧ Keep H') ⟨(stw.same y6).same y7, upd_same, y7 _ _ upd_same, y7 _ _ (y6 _ _ hpe), y7 _ _ (y6 _ _ hpu), y7 _ _ (y6 _ _ hpf)⟩ (fun i H' _ hp => .inl (.inl hp.2.2.1)) ?_ ?_
      · rintro i x H2 H3 hi ⟨nw2, hk2'⟩ ⟨rfl, ex⟩
        have bx : ∀ {H' : Hp}, Keep H' → (Sca x ∨ ∃ xs, Lx.Seq K H' x xs ∧ ¬ (1 ≤ xs.length ∧ xs.length ≤ 4)) := fun {H'} hk => by
          have mx := List.mem_of_getElem? ex
          simp only [List.mem_cons, List.not_mem_nil, or_false] at mx
          rcases mx with rfl | rfl | rfl | rfl | rfl | rfl
          · exact .inl .non
          · exact .inl (.int _)
          · exact .inl (.str _)
          · exact .inr ⟨_, .lst (.inl (.inl hk.2.2.1)), by decide⟩
          · exact .inr ⟨_, .tup (.inl (.inl hk.2.2.2.1)), by decide⟩
          · exact .inr ⟨_, .lst (.inl (.inl hk.2.2.2.2)), fun h => absurd h.2 (by show ¬ (5 ≤ 4); decide)⟩
        refine ⟨rfl, ?_⟩
        refine ⟨nw2.lv.tabs, fun H4 e4 t4 => ?_⟩
        have nw4 := nw2.lam ntb e4 t4
        have hk4 := keep e4 hk2'
        refine ⟨x, rfl, fun m3 dm3 nm3 ndm3 nem3 => ?_⟩
        have y8 : Same H4 (upd (upd H4 dm3 (.own m3)) m3 (.ins CM dm3 [])) := (same_new ndm3).trans (same_new (by rw [upd_ne nem3.symm]; exact nm3))
        refine ⟨m3, dm3, x, rfl, upd_same, .inl (.inl ⟨bx (keep (LamX.ExtN.of y8) hk4), fun d H5 s5 nd5 hd5 => .inl ⟨rfl, d, .int (-1), rfl, hd5, fun p6 H6 s6 np6 hp6 => ?_⟩⟩)⟩
        have y9 := y8.trans (s5.trans s6)
        have nw6 := nw4.same y9
        refine ⟨_, _, rfl, rfl, by show 3 ≤ sizeLine; decide, fun p7 np7 => ?_⟩
        have s7 := same_new (o := .tup [V.str "machine", V.int (0 - 1), V.bl true]) np7
        refine ⟨.tuple [.str "machine", .int (-1), .bool true], .tuple [.str "machine", .int (-1), .bool true], dp_at (s7 _ _ hp6), dp_at upd_same, shaped_at (by decide +kernel), shaped_at (by decide +kernel), _, rfl, ?_⟩
        rw [eqv_at]
        refine iteF ?_
        exact ⟨nw6.same s7, keep (LamX.ExtN.of (y9.trans s7)) hk4⟩
      rintro W2 ⟨stw2, hkw⟩
      refine ⟨Nat.zero_le _, fun p21 np21 => ?_⟩
      have stw3 := stw2.same (same_new (o := .lst []) np21)
      refine ⟨_, _, dp_list_ints (xs := []) (.inl (.inl (same_new np21 _ _ hkw.1))), dp_list_ints (xs := []) (.inl (.inl upd_same)), shaped_list_ints [], shaped_list_ints [], _, rfl, ?_⟩
      rw [eqv_list_ints, decide_eq_true rfl]
      refine iteF ?_
      generalize upd W2 p21 (.lst []) = W3 at stw3 ⊢
      -- the widest machine
      refine ⟨by show 1 ≤ sizeLine; decide, fun a1 na1 => ⟨a1, 8, _, rfl, rfl, upd_same, by decide, by decide, by show 1 * 8 ≤ sizeLine; decide, fun a2 na2 => ⟨by show 1 ≤ sizeLine; decide, fun a3 na3 => ⟨a3, 4, _, rfl, rfl, upd_same, by decide, by decide, by show 1 * 4 ≤ sizeLine; decide, fun a4 na4 => ?_⟩⟩⟩⟩
      have x1 := same_new (o := .lst [V.int 7]) na1
      have x2 := same_new (o := .lst (List.replicate (8 : Int).toNat [V.int 7]).flatten) na2
      have x3 := same_new (o := .lst [V.ref a2]) na3
      have x4 := same_new (o := .lst (List.replicate (4 : Int).toNat [V.ref a2]).flatten) na4
      have ha2 := x4 _ _ (x3 _ _ (upd_same (H := upd W3 a1 (.lst [V.int 7])) (a := a2) (o := .lst (List.replicate (8 : Int).toNat [V.int 7]).flatten)))
      have ha4 := upd_same (H := upd (upd (upd W3 a1 (.lst [V.int 7])) a2 (.lst (List.replicate (8 : Int).toNat [V.int 7]).flatten)) a3 (.lst [V.ref a2])) (a := a4) (o := .lst (List.replicate (4 : Int).toNat [V.ref a2]).flatten)
      have stx := stw3.same (x1.trans (x2.trans (x3.trans x4)))
      generalize upd (upd (upd (upd W3 a1 (.lst [V.int 7])) a2 (.lst (List.replicate (8 : Int).toNat [V.int 7]).flatten)) a3 (.lst [V.ref a2])) a4 (.lst (List.replicate (4 : Int).toNat [V.ref a2]).flatten) = W4 at stx ha2 ha4 ⊢
      clear x1 x2 x3 x4 na4 na3 na2 na1
      intro m7 dm7 nm7 ndm7 nem7
      have y8 : Same W4 (upd (upd W4 dm7 (.own m7)) m7 (.ins CM dm7 [])) := (same_new ndm7).trans (same_new (by rw [upd_ne nem7.symm]; exact nm7))
      refine ⟨m7, dm7, .ref a4, rfl, upd_same, .inr ⟨T7, tabs7, tabV7 (y8 _ _ ha2) (y8 _ _ ha4), fun W5 sb5 hm5 => ⟨rfl, ?_⟩⟩⟩
      have s45 : Same W4 W5 := fun x o hx => sb5 x o (y8 x o hx) fun z => by rw [z, nm7] at hx; cases hx
      have st5 := stx.same s45
      obtain ⟨dx, fs, tt, as, g1, g2, g3, g4, g5, g6⟩ := id hm5.ex
      refine ⟨.ref m7, rfl, m7, CM, dx, fs, _, rfl, g1, M.cl, M.nD, g2, .ref m7, rfl, m7, CM, dx, fs, _, rfl, g1, M.cl, M.nS, g3, by show 2 ≤ sizeLine; decide, fun p1 np1 => ⟨by show 2 ≤ sizeLine; decide, fun p2 np2 => ?_⟩⟩
      have s6 := same_new (o := .tup [V.int (T7.length : Nat), V.int ((T7.headD []).length : Nat)]) np1
      have s7 := same_new (o := .tup [V.int 4, V.int 8]) np2
      have dp1 : Dp K (upd (upd W5 p1 (.tup [V.int (T7.length : Nat), V.int ((T7.headD []).length : Nat)])) p2 (.tup [V.int 4, V.int 8])) (.ref p1) (.tuple (([4, 8] : List Int).map PyData.int)) := dp_tuple_ints (.inl (.inl (s7 _ _ upd_same)))
      have dp2 : Dp K (upd (upd W5 p1 (.tup [V.int (T7.length : Nat), V.int ((T7.headD []).length : Nat)])) p2 (.tup [V.int 4, V.int 8])) (.ref p2) (.tuple (([4, 8] : List Int).map PyData.int)) := dp_tuple_ints (.inl (.inl upd_same))
      refine ⟨_, _, dp1, dp2, shaped_tuple_ints _, shaped_tuple_ints _, _, rfl, ?_⟩
      rw [eqv_tuple_ints, decide_eq_true rfl]
      refine iteF ?_
      have st7 := (st5.same s6).same s7
      have hm7 := (hm5.same s6).same s7
      generalize upd (upd W5 p1 (.tup [V.int (T7.length : Nat), V.int ((T7.headD []).length : Nat)])) p2 (.tup [V.int 4, V.int 8]) = W7 at st7 hm7 ⊢
      clear dp2 dp1 s7 s6 np2 np1 g1 g2 g3 g4 g5 g6 st5 s45 hm5 sb5 y8
      refine ⟨.ref b, rfl, b, 8, rfl, st7.lv.box, by decide, by decide, fun W8 r8 hr8 sb8 box8 => ⟨_, _, rfl, rfl, _, rfl, ite2 (fun c => q _ (st7.draw ntb sb8 box8).lv) (fun c => ?_)⟩⟩
      have st8 := st7.draw ntb sb8 box8
      have hm8 := hm7.ext (sb_ext sb8) st7.lv.box
      -- the longest row, and one more
      refine ⟨.ref m7, rfl, by show 1 ≤ sizeLine; decide, fun c1 nc1 => ⟨c1, 400, _, rfl, rfl, upd_same, by decide, by decide, by show 1 * 400 ≤ sizeLine; decide, fun c2 nc2 => ?_⟩⟩
      have z1 := (same_new (o := .lst [V.int 0]) nc1).trans (same_new (o := .lst (List.replicate (400 : Int).toNat [V.int 0]).flatten) nc2)
      have hc2 : (upd (upd W8 c1 (.lst [V.int 0])) c2 (.lst (List.replicate (400 : Int).toNat [V.int 0]).flatten)) c2 = some (.lst ((List.replicate 400 (0 : Int)).map V.int)) := by rw [← zeros_flat]; exact upd_same
      generalize upd (upd W8 c1 (.lst [V.int 0])) c2 (.lst (List.replicate (400 : Int).toNat [V.int 0]).flatten) = W9 at z1 hc2 ⊢
      have st9 := st8.same z1
      have hm9 := hm8.same z1
      refine ⟨m7, .ref c2, T7, rfl, hm9, GoodRow.check (ds := List.replicate 400 (0 : Int)) ⟨.lst (.inl (.inl hc2)), by rw [List.length_replicate]; decide, fun d hd => by rw [(List.mem_replicate.mp hd).2]; decide⟩ fun W10 r10 s10 hr10 => ?_⟩
      have st10 := st9.same s10
      have hm10 := hm9.same s10
      refine ⟨r10, _, rfl, .inr hr10, rfl, _, rfl, ?_⟩
      rw [List.length_map, List.length_replicate, decide_eq_true (show V.int ((400 : Nat) : Int) = V.int 400 from rfl)]
      refine iteT ?_
      refine ⟨st10.lv.tabs, fun W11 e11 t11 => ?_⟩
      have st11 := st10.lam ntb e11 t11
      have hm11 := hm10.ext (Ext.ofN e11) st10.lv.box
      refine ⟨.ref m7, rfl, by show 1 ≤ sizeLine; decide, fun c1 nc1 => ⟨c1, 401, _, rfl, rfl, upd_same, by decide, by decide, by show 1 * 401 ≤ sizeLine; decide, fun c2 nc2 => ?_⟩⟩
      have z2 := (same_new (o := .lst [V.int 0]) nc1).trans (same_new (o := .lst (List.replicate (401 : Int).toNat [V.int 0]).flatten) nc2)
      have hc3 : (upd (upd W11 c1 (.lst [V.int 0])) c2 (.lst (List.replicate (401 : Int).toNat [V.int 0]).flatten)) c2 = some (.lst ((List.replicate 401 (0 : Int)).map V.int)) := by rw [← zeros_flat]; exact upd_same
      generalize upd (upd W11 c1 (.lst [V.int 0])) c2 (.lst (List.replicate (401 : Int).toNat [V.int 0]).flatten) = W12 at z2 hc3 ⊢
      have st12 := st11.same z2
      have hm12 := hm11.same z2
      refine ⟨m7, .ref c2, T7, rfl, hm12, .inl ⟨.inr ⟨_, .lst (.inl (.inl hc3)), by rw [List.length_map, List.length_replicate]; decide⟩, fun d W13 s13 nd13 hd13 => .inr (.inl ⟨rfl, d, .int (-1), rfl, hd13, fun p14 W14 s14 np14 hp14 => ?_⟩)⟩⟩
      have st14 := (st12.same s13).same s14
      refine ⟨_, _, rfl, rfl, by show 3 ≤ sizeLine; decide, fun p15 np15 => ?_⟩
      have s15 := same_new (o := .tup [V.str "row", V.int (0 - 1), V.bl true]) np15
      refine ⟨.tuple [.str "row", .int (-1), .bool true], .tuple [.str "row", .int (-1), .bool true], dp_at (s15 _ _ hp14), dp_at upd_same, shaped_at (by decide +kernel), shaped_at (by decide +kernel), ?_⟩
      rw [eqv_at]
      exact q _ (st14.same s15).lv
end
end Lw

set_option Elab.async false
set_option linter.all false
set_option maxRecDepth 100000
set_option maxHeartbeats 4000000
namespace Lw
open PySem PySem.Spec PyProof.Rows L2 Lx Pg
section
variable {P : Program} {w : World} {K : PySem.W.Frag} {mg : Str → Option Value} {base : Heap}
def spLaw (K : PySem.W.Frag) (Tb : List (Addr × Str)) : Sp := fun vs H Q _ => ∃ a, ∃ ns : List Int, vs = [.ref a] ∧ SqL K H a (ns.map V.int) ∧ LamX.Tabs Tb H ∧ ∀ H', Q (.bl true) H'
def nLaw : List Str := ["script", "k", "box", "tables"]
theorem scLaw : FnScope nLaw ["script"] (defScope sLaw) := ⟨rfl, rfl, rfl, by decide +kernel, rfl, by decide +kernel, by decide +kernel⟩
theorem ok_law {f : Addr} {fd : FuncData} {Tb : List (Addr × Str)} (F : Fun K "law" "law" sLaw f fd) (B : Bare mg)
    (GB : Has P w K mg base L2.CX0 1 "_law_box" ["script", "k"] (spLawBox K)) (GT : Has P w K mg base L2.CX0 3 "_law_tables" ["box", "sizes", "kinds"] (spTables K))
    (GR : HasG P w K mg base 8 "_law_told_right" ["box", "tables"] (spTold K Tb)) (GN : HasG P w K mg base 9 "_law_none_right" ["box", "tables"] (spTold K Tb)) :
    FnOkG P w K mg base L2.CX0 10 f fd ["script"] (spLaw K Tb) := by
  refine okG F scLaw (fun vs H Q E h => ?_) (fun cdv A outer s H vs Q E hr hgd h => ?_)
  · obtain ⟨a, ns, rfl, _⟩ := h
    rfl
  · obtain ⟨a, ns, rfl, ha, hT, q⟩ := h
    have nd : nLaw.Nodup := scLaw.nd
    refine ⟨_, pss_cons (ps_for PassesOwn.never rfl (pi_range1 (by rfl) B.range (pa_cons pe_int pa_nil)) (pg_name (i := 1) nd rfl (Or.inl rfl))
        (pss_cons (ps_set (i := 2) nd rfl (Or.inl rfl) (pe_has GB (hr.mono (by decide)) (by rfl) (pa_cons (pv 0) (pa_cons (pv 1) pa_nil))))
        (pss_cons (ps_set (i := 3) nd rfl (Or.inl rfl) (pe_has GT (hr.mono (by decide)) (by rfl) (pa_cons (pv 2) (pa_cons (pe_lst (pa_cons pe_int (pa_cons pe_int (pa_cons pe_int (pa_cons pe_int (pa_cons pe_int pa_nil)))))) (pa_cons (pe_lst (pa_cons pe_int (pa_cons pe_int (pa_cons pe_int (pa_cons pe_int (pa_cons pe_int pa_nil)))))) pa_nil)))))
        (pss_one (ps_if (PW.pt (pw_or (pt_not (pt_val (pe_hasG GR (hr.mono (by decide)) hgd (by rfl) (pa_cons (pv 2) (pa_cons (pv 3) pa_nil))))) (pw_or1 (pt_not (pt_val (pe_hasG GN hr hgd (by rfl) (pa_cons (pv 2) (pa_cons (pv 3) pa_nil)))))))) (pss_one (ps_ret pe_bl)) pss_nil)))))
      (pss_one (ps_ret pe_bl)), ?_⟩
    refine ⟨(3 : Int), rfl, by omega, by omega, ?_⟩
    refine for_range (lo := 0) (n := 3) (fun i σ H' => LamX.ExtN H H' ∧ LamX.Tabs Tb H' ∧ ∃ y1 y2 y3, σ = [some (.ref a), y1, y2, y3]) ⟨LamX.ExtN.refl H, hT, none, none, none, rfl⟩ ?_ ?_
    · rintro i σ H1 hi ⟨e1, t1, y1, y2, y3, rfl⟩
      have sc1 : SqL K H1 a (ns.map V.int) := by
        rcases ha with (h | ⟨o, h⟩) | h
        · exact .inl (.inl (e1 _ _ h fun _ z => by cases z))
        · exact .inl (.inr ⟨o, e1 _ _ h fun _ z => by cases z⟩)
        · exact .inr h
      refine ⟨.ref a, rfl, _, rfl, a, i, ns, by rw [Int.zero_add]; rfl, sc1, fun Hs b ss nb box => ?_⟩
      have l0 : Lv b Tb Hs Hs := ⟨Ext.refl Hs, box, t1.ext ss⟩
      have back : ∀ {H' : Hp}, Lv b Tb Hs H' → LamX.ExtN H H' := fun {H'} l x o hx no => by
        have h1 := e1 x o hx no
        refine l.ext x o (ss x o h1) (fun z => ?_) no
        rw [z, nb] at h1
        cases h1
      refine ⟨.ref b, rfl, by show 5 ≤ sizeLine; decide, fun p1 np1 => ⟨by show 5 ≤ sizeLine; decide, fun p2 np2 => ?_⟩⟩
      have l1 := l0.new (o := .lst [V.int 1, V.int 2, V.int 3, V.int 4, V.int 5]) np1
      have l2 := l1.new (o := .lst [V.int 1, V.int 2, V.int 2, V.int 3, V.int 4]) np2
      have h1 := same_new (o := .lst [V.int 1, V.int 2, V.int 2, V.int 3, V.int 4]) np2 _ _ (upd_same (H := Hs) (a := p1) (o := .lst [V.int 1, V.int 2, V.int 3, V.int 4, V.int 5]))
      refine ⟨b, p1, p2, rfl, l2.box, l0.box.ne np1, l1.box.ne np2, .inl (.inl h1), .inl (.inl upd_same), fun H3 tb T hT' n5 sb3 box3 ntb hrw => ?_⟩
      have l3 := l2.draw sb3 box3
      have tbb : tb ≠ b := l2.box.ne ntb
      refine ⟨.ref b, rfl, .ref tb, rfl, b, tb, T, rfl, box3, tbb, hT', n5, hrw, l3.tabs, fun H4 l34 => ⟨_, rfl, ?_⟩⟩
      have l4 := l3.trans l34
      refine iteF ?_
      refine ⟨.ref b, rfl, .ref tb, rfl, b, tb, T, rfl, l4.box, tbb, hT', n5, hrw.ext l34.ext box3 tbb, l4.tabs, fun H5 l45 => ⟨_, rfl, iteF ?_⟩⟩
      have l5 := l4.trans l45
      exact ⟨back l5, l5.tabs, _, _, _, rfl⟩
    · rintro σ H1 ⟨e1, t1, y1, y2, y3, rfl⟩
      exact q _
end
end Lw

set_option Elab.async false
set_option linter.all false
set_option maxRecDepth 100000
set_option maxHeartbeats 4000000
/-! what the top has left, and the law's promise from it -/
namespace Lw
open PySem PySem.Spec PyProof.Rows L2 Lx Pg
/-- a reading that may be weakened -/
theorem pe_star {X : Cx} {e : Expr} {t : TE} (h : PE X e t) : PE X e (fun σ H Q => ∃ Q0, t σ H Q0 ∧ ∀ v H', Q0 v H' → Q v H') :=
  ⟨fun pins s σ H Q I ⟨Q0, h0, m⟩ => wpAny_mono (h.run pins s σ H Q0 I h0) (fun w s' ⟨v, H', I', r, q⟩ => ⟨v, H', I', r, m v H' q⟩) fun _ _ x => x⟩
theorem disp_repT {X : Cx} {k v : Expr} {pos : Pos} {tk tv : TE} (hu : X.A.units + 1 < cLine) (hk : PE X k tk) (hv : PE X v tv) : PE X (.Dict [some k] [v] pos) (fun σ H Q => ∀ p, H p = none → tk σ (upd H p (repT.dict [])) fun x H1 => tv σ H1 fun y H2 => ∃ kk, repT.is H2 x kk ∧ H2 p = some (repT.dict []) ∧ Q (.ref p) (upd H2 p (repT.dict [(kk, y)]))) := by
  refine ⟨fun pins s σ H Q I h => (pe_disp1T hu (pe_star hk) (pe_star hv)).run pins s σ H Q I fun p np => ⟨_, h p np, fun x H1 h1 => ⟨_, h1, fun y H2 h2 => ?_⟩⟩⟩
  obtain ⟨kk, ⟨b, e1, e2⟩, e3, q⟩ := h2
  exact ⟨kk, b, e1, e2, e3, q⟩
/-- the def x of the text st stands in the module -/
structure DefK (K : PySem.W.Frag) (mg : Str → Option Value) (x : Str) (st : Stmt) : Prop where
  ex : ∃ f fd, mg x = some (.ref f) ∧ Fun K x x st f fd
theorem defK {K : PySem.W.Frag} {h : Heap} {mg : Str → Option Value} (X : K.In h) (G : h.Ns mainGlobals mg) {x : Str} {st : Stmt} {f : Addr} {od an : Option Addr} {sl : Array (Option Value)} {oc kV doc pm cd ct : Value}
    (a : PySem.W.nsIn K mainGlobals x = some (some (.ref f))) (l : K.lookup f = some ⟨oc, od, .func (PySem.W.fnOf x x (defArgs st) (defBody st) (defScope st) .none kV doc pm an cd ct), sl⟩) (c : PySem.W.codeIn K cd x = true) (k : PySem.W.keepIn K (.ref f) = true) : DefK K mg x st :=
  ⟨f, _, PySem.W.mg_of X G a, fun_mk l c k⟩
/-- .. that makes lambdas or defs: its code object and its table -/
structure DefT (K : PySem.W.Frag) (h : Heap) (mg : Str → Option Value) (x : Str) (st : Stmt) (c T : Addr) : Prop where
  ex : ∃ f fd, mg x = some (.ref f) ∧ Fun K x x st f fd ∧ fd.code = .ref c
  hd : PySem.W.CodeHd h c T
  no : K.lookup T = none
  at_ : h.get? T = some { cls := .none, data := .fields #[] }
theorem defT {K : PySem.W.Frag} {h : Heap} {mg : Str → Option Value} (X : K.In h) (G : h.Ns mainGlobals mg) {x : Str} {st : Stmt} {f c0 T : Addr} {od an : Option Addr} {sl : Array (Option Value)} {oc kV doc pm ct : Value}
    (a : PySem.W.nsIn K mainGlobals x = some (some (.ref f))) (l : K.lookup f = some ⟨oc, od, .func (PySem.W.fnOf x x (defArgs st) (defBody st) (defScope st) .none kV doc pm an (.ref c0) ct), sl⟩) (c : PySem.W.codeIn K (.ref c0) x = true) (k : PySem.W.keepIn K (.ref f) = true)
    (e : PySem.W.codeHdIn K c0 T = true) (n : K.lookup T = none) (t : h.get? T = some { cls := .none, data := .fields #[] }) : DefT K h mg x st c0 T :=
  ⟨⟨f, _, PySem.W.mg_of X G a, fun_mk l c k, rfl⟩, PySem.W.codeHd_of_K X e, n, t⟩
/-- .. with None as its last one's default -/
structure DefD (K : PySem.W.Frag) (mg : Str → Option Value) (x : Str) (st : Stmt) : Prop where
  ex : ∃ f fd, mg x = some (.ref f) ∧ FunD K x x (defArgs st) (defBody st) (defScope st) [.non] [] f fd
theorem defD {K : PySem.W.Frag} {h : Heap} {mg : Str → Option Value} (X : K.In h) (G : h.Ns mainGlobals mg) {x : Str} {st : Stmt} {f T : Addr} {od an dT : Option Addr} {sl sT : Array (Option Value)} {oc oT kV doc pm cd ct : Value} {nT : Nat}
    (a : PySem.W.nsIn K mainGlobals x = some (some (.ref f))) (l : K.lookup f = some ⟨oc, od, .func (PySem.W.fnOf x x (defArgs st) (defBody st) (defScope st) (.ref T) kV doc pm an cd ct), sl⟩) (c : PySem.W.codeIn K cd x = true) (k : PySem.W.keepIn K (.ref f) = true)
    (lT : K.lookup T = some ⟨oT, dT, .seq #[.none] nT, sT⟩) : DefD K mg x st :=
  ⟨f, _, PySem.W.mg_of X G a, ⟨oc, od, .ref T, kV, doc, pm, an, cd, ct, sl, rfl, l, c, .inr ⟨by simp, T, _, [.none], nT, rfl, lT, rfl, .cons rfl .nil⟩, .inl rfl⟩, k⟩
theorem DefK.has {P : Program} {w : World} {K : PySem.W.Frag} {mg : Str → Option Value} {base : Heap} {CX : CXT} {k : Nat} {x : Str} {st : Stmt} {ps : List Str} {sp : Sp} (D : DefK K mg x st) (hb : ∀ f fd, Fun K x x st f fd → L2.Binds K fd ps []) (ok : ∀ f fd, Fun K x x st f fd → FnOk P w K mg base CX k f fd ps sp) : Has P w K mg base CX k x ps sp := by
  obtain ⟨f, fd, hm, F⟩ := D.ex
  exact ⟨f, fd, hm, F.kp, hb f fd F, ok f fd F⟩
/-- an error class of one field, over PageError -/
structure ErrK1 (K : PySem.W.Frag) (mg : Str → Option Value) (x qual : Str) (st : Stmt) (C : Addr) : Prop where
  T : OexC K C
  xf : XfC K C
  ec : ExcC K C
  no : PySem.W.findIn K (.ref C) "at" = some none
  gC : mg x = some (.ref C)
  ini : ∃ fI fd, PySem.W.findIn K (.ref C) "__init__" = some (some (.ref fI)) ∧ PySem.W.typeIn K (.ref fI) = some (.type "function") ∧ Fun K "__init__" qual st fI fd
/-- .. over KeyError -/
structure ErrK2 (K : PySem.W.Frag) (mg : Str → Option Value) (x fld qual : Str) (st : Stmt) (C : Addr) : Prop where
  T : KexC K C
  xf : XfC K C
  ec : ExcC K C
  no : PySem.W.findIn K (.ref C) fld = some none
  gC : mg x = some (.ref C)
  ini : ∃ fI fd, PySem.W.findIn K (.ref C) "__init__" = some (some (.ref fI)) ∧ PySem.W.typeIn K (.ref fI) = some (.type "function") ∧ Fun K "__init__" qual st fI fd
abbrev sBadMachineInit : Stmt := inClass cBadMachine 0
abbrev sBadRowInit : Stmt := inClass cBadRow 0
abbrev sNoStateInit : Stmt := inClass cNoState 0
abbrev sNoDeedInit : Stmt := inClass cNoDeed 0
theorem scBadMachineInit : FnScope ["self", "at"] ["self", "at"] (defScope sBadMachineInit) := ⟨rfl, rfl, rfl, by decide +kernel, rfl, by decide +kernel, by decide +kernel⟩
theorem scBadRowInit : FnScope ["self", "at"] ["self", "at"] (defScope sBadRowInit) := ⟨rfl, rfl, rfl, by decide +kernel, rfl, by decide +kernel, by decide +kernel⟩
theorem scNoStateInit : FnScope ["self", "state"] ["self", "state"] (defScope sNoStateInit) := ⟨rfl, rfl, rfl, by decide +kernel, rfl, by decide +kernel, by decide +kernel⟩
theorem scNoDeedInit : FnScope ["self", "deed"] ["self", "deed"] (defScope sNoDeedInit) := ⟨rfl, rfl, rfl, by decide +kernel, rfl, by decide +kernel, by decide +kernel⟩
section
variable {P : Program} {w : World} {K : PySem.W.Frag} {mg : Str → Option Value} {base : Heap} {C : Addr}
theorem ErrK1.badMachine (D : ErrK1 K mg "BadMachine" "BadMachine.__init__" sBadMachineInit C) : Err P w K mg base "BadMachine" "at" C := by
  obtain ⟨fI, fd, h1, h2, F⟩ := D.ini
  refine ⟨D.T, D.xf, D.ec, D.no, D.gC, fI, fd, 1, ["self", "at"], h1, h2, Nat.le_refl _, ok_errInit (k0 := 0) D.T D.no F scBadMachineInit rfl (by decide) (by decide) (Or.inl rfl) (Or.inl rfl) (fun _ => rfl), F.binds (ps := ["self", "at"]) fun _ _ _ _ _ _ us hl => match us, hl with | [_, _], _ => rfl⟩
theorem ErrK1.badRow (D : ErrK1 K mg "BadRow" "BadRow.__init__" sBadRowInit C) : Err P w K mg base "BadRow" "at" C := by
  obtain ⟨fI, fd, h1, h2, F⟩ := D.ini
  refine ⟨D.T, D.xf, D.ec, D.no, D.gC, fI, fd, 1, ["self", "at"], h1, h2, Nat.le_refl _, ok_errInit (k0 := 0) D.T D.no F scBadRowInit rfl (by decide) (by decide) (Or.inl rfl) (Or.inl rfl) (fun _ => rfl), F.binds (ps := ["self", "at"]) fun _ _ _ _ _ _ us hl => match us, hl with | [_, _], _ => rfl⟩
theorem ErrK2.noState (D : ErrK2 K mg "NoState" "state" "NoState.__init__" sNoStateInit C) : ErrQ P w K mg base "NoState" "state" C := by
  obtain ⟨fI, fd, h1, h2, F⟩ := D.ini
  refine ⟨D.T, D.xf, D.ec, D.no, D.gC, fI, fd, 1, ["self", "state"], h1, h2, Nat.le_refl _, ok_keInit D.T D.no F scNoStateInit rfl (by decide) (by decide) (Or.inl rfl) (Or.inl rfl) (fun _ => rfl), F.binds (ps := ["self", "state"]) fun _ _ _ _ _ _ us hl => match us, hl with | [_, _], _ => rfl⟩
theorem ErrK2.noDeed (D : ErrK2 K mg "NoDeed" "deed" "NoDeed.__init__" sNoDeedInit C) : ErrQ P w K mg base "NoDeed" "deed" C := by
  obtain ⟨fI, fd, h1, h2, F⟩ := D.ini
  refine ⟨D.T, D.xf, D.ec, D.no, D.gC, fI, fd, 1, ["self", "deed"], h1, h2, Nat.le_refl _, ok_keInit D.T D.no F scNoDeedInit rfl (by decide) (by decide) (Or.inl rfl) (Or.inl rfl) (fun _ => rfl), F.binds (ps := ["self", "deed"]) fun _ _ _ _ _ _ us hl => match us, hl with | [_, _], _ => rfl⟩
end
/-- what the module's top has left -/
structure Top1 (K : PySem.W.Frag) (h : Heap) (mg : Str → Option Value) (CM CB CR CS CD CP c1 c2 T1 T2 fm fe : Addr) : Prop where
  B : Bare mg
  M : MachC K CM
  mkm : Mk K CM fm
  mi : ∃ fd, Fun K "__init__" "Machine.__init__" sMachineInit fm fd
  me : MachE K mg CM fe
  mq : ∃ fd, Fun K "__eq__" "Machine.__eq__" sMachineEq fe fd
  gR : ∃ tk, mg "LONGEST_ROW" = some (.int 400 tk)
  gD : ∃ tk, mg "MOST_DEEDS" = some (.int 4 tk)
  gS : ∃ tk, mg "MOST_STATES" = some (.int 8 tk)
  eB : ErrK1 K mg "BadMachine" "BadMachine.__init__" sBadMachineInit CB
  eR : ErrK1 K mg "BadRow" "BadRow.__init__" sBadRowInit CR
  eS : ErrK2 K mg "NoState" "state" "NoState.__init__" sNoStateInit CS
  eD : ErrK2 K mg "NoDeed" "deed" "NoDeed.__init__" sNoDeedInit CD
  mP : mg "PageError" = some (.ref CP)
  xbb : PySem.W.exmOne K (.ref CB) (.ref CB) = some true
  xrr : PySem.W.exmOne K (.ref CR) (.ref CR) = some true
  xss : PySem.W.exmOne K (.ref CS) (.ref CS) = some true
  xdd : PySem.W.exmOne K (.ref CD) (.ref CD) = some true
  xrb : PySem.W.exmOne K (.ref CR) (.ref CB) = some false
  xsb : PySem.W.exmOne K (.ref CS) (.ref CB) = some false
  xsr : PySem.W.exmOne K (.ref CS) (.ref CR) = some false
  xdb : PySem.W.exmOne K (.ref CD) (.ref CB) = some false
  xdr : PySem.W.exmOne K (.ref CD) (.ref CR) = some false
  xds : PySem.W.exmOne K (.ref CD) (.ref CS) = some false
  pb : PySem.W.kitOne K (.ref CB) (.ref CP) = some true
  pr : PySem.W.kitOne K (.ref CR) (.ref CP) = some true
  d1 : DefD K mg "is_number" sIsNumber
  d2 : DefK K mg "is_sequence" sIsSequence
  d3 : DefK K mg "_is_table" sIsTable
  d4 : DefK K mg "is_deed" sIsDeed
  d5 : DefK K mg "is_state" sIsState
  d6 : DefK K mg "need_state" sNeedState
  d7 : DefK K mg "need_deed" sNeedDeed
  d8 : DefK K mg "check_row" sCheckRow
  d9 : DefD K mg "first_walks" sFirstWalks
  d10 : DefT K h mg "counted_rows" sCountedRows c2 T2
  d11 : DefK K mg "first_rows" sFirstRows
  d12 : DefK K mg "lead" sLead
  d13 : DefK K mg "led" sLed
  d14 : DefK K mg "reached" sReached
  l1 : DefK K mg "_law_box" sLawBox
  l2 : DefK K mg "_law_take" sLawTake
  l3 : DefK K mg "_law_pick" sLawPick
  l4 : DefK K mg "_law_tables" sLawTables
  l5 : DefK K mg "_law_run" sLawRun
  l6 : DefK K mg "_law_log" sLawLog
  l7 : DefK K mg "_law_heard" sLawHeard
  l8 : DefK K mg "_law_told_right" sLawToldRight
  l9 : DefT K h mg "_law_none_right" sLawNoneRight c1 T1
  l10 : DefK K mg "law" sLaw
  ne : T1 ≠ T2
theorem law_top {l : PySem.W.OpenLaw} {w : World} {K : PySem.W.Frag} {mg : Str → Option Value} {fa : Addr} {h : Heap} {CM CB CR CS CD CP c1 c2 T1 T2 fm fe : Addr} (T : Top1 K h mg CM CB CR CS CD CP c1 c2 T1 T2 fm fe) (hfa : mg "law" = some (.ref fa)) : LawG l w K 10 63 "script" mg fa h := by
  obtain ⟨f, fd, hm, F⟩ := T.l10.ex
  rw [hfa] at hm
  cases hm
  refine ⟨fd, [(c1, T1), (c2, T2)], spLaw K [(T1, (("_law_none_right" : Str) ++ ".<locals>.") ++ "<lambda>"), (T2, qFollow)], ?_, ?_, ?_, ?_⟩
  · intro p hp
    simp only [List.mem_cons, List.not_mem_nil, or_false] at hp
    rcases hp with rfl | rfl
    · exact ⟨T.l9.at_, T.l9.no, T.l9.hd⟩
    · exact ⟨T.d10.at_, T.d10.no, T.d10.hd⟩
  · intro s u
    obtain ⟨oc, od, kV, doc, pm, an, cdv, ct, osl, rfl, _, _⟩ := F.ex
    exact .of_eq rfl
  · intro H a ns hl hH hS
    refine ⟨a, ns, rfl, hS, fun p hp => ?_, fun _ => rfl⟩
    simp only [List.mem_cons, List.not_mem_nil, or_false] at hp
    rcases hp with rfl | rfl
    · exact LamX.TabS.nil (hH (c1, T1) List.mem_cons_self)
    · exact LamX.TabS.nil (hH (c2, T2) (List.mem_cons_of_mem _ List.mem_cons_self))
  · intro base KB TB
    have tb1 := TB (c1, T1) List.mem_cons_self
    have tb2 := TB (c2, T2) (List.mem_cons_of_mem _ List.mem_cons_self)
    have ErB : Err l.prog w K mg base "BadMachine" "at" CB := T.eB.badMachine
    have ErR : Err l.prog w K mg base "BadRow" "at" CR := T.eR.badRow
    have ErS : ErrQ l.prog w K mg base "NoState" "state" CS := T.eS.noState
    have ErD : ErrQ l.prog w K mg base "NoDeed" "deed" CD := T.eD.noDeed
    obtain ⟨tkR, gR⟩ := T.gR
    obtain ⟨tkD, gD⟩ := T.gD
    obtain ⟨tkS, gS⟩ := T.gS
    have G1 : Has l.prog w K mg base L2.CX0 1 "is_number" ["value", "least", "greatest"] (spIsNumber K) := by
      obtain ⟨f, fd, hm, F⟩ := T.d1.ex
      obtain ⟨ds, r, b⟩ := F.binds1 (ps := ["value", "least", "greatest"]) 3 1 (by simp) rfl fun T kV doc pm an cdv ct us its hl hi => by
        match us, hl, its, hi with
        | [_, _, _], _, [_], _ => exact ⟨_, rfl, rfl⟩
      cases r
      exact ⟨f, fd, hm, F.kp, b, ok_is_number F T.B⟩
    have G2 : Has l.prog w K mg base L2.CX0 1 "is_sequence" ["value", "fewest", "most"] (spIsSequence K) := T.d2.has (fun f fd F => F.binds fun _ _ _ _ _ _ us hl => match us, hl with | [_, _, _], _ => rfl) fun f fd F => ok_is_sequence F T.B
    have G3 : Has l.prog w K mg base L2.CX0 2 "_is_table" ["value", "first"] (spIsTable K) := T.d3.has (fun f fd F => F.binds fun _ _ _ _ _ _ us hl => match us, hl with | [_, _], _ => rfl) fun f fd F => ok_is_table F T.B gS G2 G1
    have G4 : Has l.prog w K mg base L2.CX0 2 "is_deed" ["machine", "value"] (spIsDeed K CM) := T.d4.has (fun f fd F => F.binds fun _ _ _ _ _ _ us hl => match us, hl with | [_, _], _ => rfl) fun f fd F => ok_is_deed F T.M G1
    have G5 : Has l.prog w K mg base L2.CX0 2 "is_state" ["machine", "value"] (spIsState K CM) := T.d5.has (fun f fd F => F.binds fun _ _ _ _ _ _ us hl => match us, hl with | [_, _], _ => rfl) fun f fd F => ok_is_state F T.M G1
    have okS : ∀ f fd, Fun K "need_state" "need_state" sNeedState f fd → FnOk l.prog w K mg base (L2.CX l.prog w) 3 f fd ["machine", "state"] (spNeedState K CM CS) := fun f fd F => ok_need_state F ErS G5
    have okD : ∀ f fd, Fun K "need_deed" "need_deed" sNeedDeed f fd → FnOk l.prog w K mg base (L2.CX l.prog w) 3 f fd ["machine", "deed"] (spNeedDeed K CM CD) := fun f fd F => ok_need_deed F ErD G4
    have okC : ∀ f fd, Fun K "check_row" "check_row" sCheckRow f fd → FnOk l.prog w K mg base (L2.CX l.prog w) 4 f fd ["machine", "value"] (spCheckRow K CM CR) := fun f fd F => ok_check_row F T.B gR ErR G2 G4
    have G6 : Has l.prog w K mg base (L2.CX l.prog w) 3 "need_state" ["machine", "state"] (spNeedState K CM CS) := T.d6.has (fun f fd F => F.binds fun _ _ _ _ _ _ us hl => match us, hl with | [_, _], _ => rfl) okS
    have G7 : Has l.prog w K mg base (L2.CX l.prog w) 3 "need_deed" ["machine", "deed"] (spNeedDeed K CM CD) := T.d7.has (fun f fd F => F.binds fun _ _ _ _ _ _ us hl => match us, hl with | [_, _], _ => rfl) okD
    have G8 : Has l.prog w K mg base (L2.CX l.prog w) 4 "check_row" ["machine", "value"] (spCheckRow K CM CR) := T.d8.has (fun f fd F => F.binds fun _ _ _ _ _ _ us hl => match us, hl with | [_, _], _ => rfl) okC
    have two : ∀ {p : Addr × Str} {q1 q2 : Str}, p ∈ [(T1, q1), (T2, q2)] → (p.1 = T1 → p.2 = q1) ∧ (p.1 = T2 → p.2 = q2) := fun {p q1 q2} hp => by
      simp only [List.mem_cons, List.not_mem_nil, or_false] at hp
      rcases hp with rfl | rfl
      · exact ⟨fun _ => rfl, fun e => absurd e T.ne⟩
      · exact ⟨fun e => absurd e.symm T.ne, fun _ => rfl⟩
    have GW : HasS l.prog w K mg base L2.CX0 2 "first_walks" ["start", "follow", "most"] [.non] (spWalks l.prog w K mg base repT 1) := by
      obtain ⟨f, fd, hm, F⟩ := T.d9.ex
      obtain ⟨ds, r, b⟩ := F.binds1 (ps := ["start", "follow", "most"]) 2 0 (by simp) rfl fun T kV doc pm an cdv ct us its hl hi => by
        match us, hl, its, hi with
        | [_, _], _, [_], _ => exact ⟨_, rfl, rfl⟩
      exact ⟨f, fd, ds, hm, F.kp, r, b, ok_first_walks repT 1 F T.B fun hu hk hv => disp_repT hu hk hv⟩
    have GC : Has l.prog w K mg base L2.CX0 3 "counted_rows" ["machine", "state", "modulus"] (spCounted K CM [(T1, (("_law_none_right" : Str) ++ ".<locals>.") ++ "<lambda>"), (T2, qFollow)]) := by
      obtain ⟨f, fd, hm, F, hc⟩ := T.d10.ex
      exact ⟨f, fd, hm, F.kp, F.binds fun _ _ _ _ _ _ us hl => match us, hl with | [_, _, _], _ => rfl, ok_counted F hc tb2 (List.mem_cons_of_mem _ List.mem_cons_self) (fun p hp e => (two hp).2 e) T.M GW⟩
    have GF : Has l.prog w K mg base L2.CX0 4 "first_rows" ["machine", "state"] (spFirstRows K CM [(T1, (("_law_none_right" : Str) ++ ".<locals>.") ++ "<lambda>"), (T2, qFollow)]) := T.d11.has (fun f fd F => F.binds fun _ _ _ _ _ _ us hl => match us, hl with | [_, _], _ => rfl) fun f fd F => ok_first_rows F GC
    have GL : Has l.prog w K mg base L2.CX0 1 "lead" ["machine", "state", "deeds"] (spLead K CM) := T.d12.has (fun f fd F => F.binds fun _ _ _ _ _ _ us hl => match us, hl with | [_, _, _], _ => rfl) fun f fd F => ok_lead F T.M
    have okL : ∀ f fd, Fun K "led" "led" sLed f fd → FnOk l.prog w K mg base (L2.CX l.prog w) 5 f fd ["machine", "state", "row"] (spLed K CM CS CR) := fun f fd F => ok_led F G6 GL G8
    have okR : ∀ f fd, Fun K "reached" "reached" sReached f fd → FnOk l.prog w K mg base (L2.CX l.prog w) 5 f fd ["machine", "state"] (spReached K CM CS [(T1, (("_law_none_right" : Str) ++ ".<locals>.") ++ "<lambda>"), (T2, qFollow)]) := fun f fd F => ok_reached F T.B G6 GF
    have G9 : Has l.prog w K mg base (L2.CX l.prog w) 5 "led" ["machine", "state", "row"] (spLed K CM CS CR) := T.d13.has (fun f fd F => F.binds fun _ _ _ _ _ _ us hl => match us, hl with | [_, _, _], _ => rfl) okL
    have G10 : Has l.prog w K mg base (L2.CX l.prog w) 5 "reached" ["machine", "state"] (spReached K CM CS [(T1, (("_law_none_right" : Str) ++ ".<locals>.") ++ "<lambda>"), (T2, qFollow)]) := T.d14.has (fun f fd F => F.binds fun _ _ _ _ _ _ us hl => match us, hl with | [_, _], _ => rfl) okR
    have R1 : HasR l.prog w K mg base (L2.CX l.prog w) 5 "led" ["machine", "state", "row"] ["row", "state", "machine"] (spLed K CM CS CR) := by
      obtain ⟨f, fd, hm, F⟩ := T.d13.ex
      refine ⟨f, fd, hm, F.kp, kb3 fun s u v x _ => ?_, okL f fd F⟩
      obtain ⟨oc, od, kV, doc, pm, an, cdv, ct, osl, rfl, _, _⟩ := F.ex
      exact .of_eq rfl
    have R2 : HasR l.prog w K mg base (L2.CX l.prog w) 4 "check_row" ["machine", "value"] ["value", "machine"] (spCheckRow K CM CR) := by
      obtain ⟨f, fd, hm, F⟩ := T.d8.ex
      refine ⟨f, fd, hm, F.kp, kb2 fun s u v _ => ?_, okC f fd F⟩
      obtain ⟨oc, od, kV, doc, pm, an, cdv, ct, osl, rfl, _, _⟩ := F.ex
      exact .of_eq rfl
    have R3 : HasR l.prog w K mg base (L2.CX l.prog w) 5 "reached" ["machine", "state"] ["state", "machine"] (spReached K CM CS [(T1, (("_law_none_right" : Str) ++ ".<locals>.") ++ "<lambda>"), (T2, qFollow)]) := by
      obtain ⟨f, fd, hm, F⟩ := T.d14.ex
      refine ⟨f, fd, hm, F.kp, kb2 fun s u v _ => ?_, okR f fd F⟩
      obtain ⟨oc, od, kV, doc, pm, an, cdv, ct, osl, rfl, _, _⟩ := F.ex
      exact .of_eq rfl
    have R4 : HasR l.prog w K mg base (L2.CX l.prog w) 3 "need_state" ["machine", "state"] ["state", "machine"] (spNeedState K CM CS) := by
      obtain ⟨f, fd, hm, F⟩ := T.d6.ex
      refine ⟨f, fd, hm, F.kp, kb2 fun s u v _ => ?_, okS f fd F⟩
      obtain ⟨oc, od, kV, doc, pm, an, cdv, ct, osl, rfl, _, _⟩ := F.ex
      exact .of_eq rfl
    have R5 : HasR l.prog w K mg base (L2.CX l.prog w) 3 "need_deed" ["machine", "deed"] ["deed", "machine"] (spNeedDeed K CM CD) := by
      obtain ⟨f, fd, hm, F⟩ := T.d7.ex
      refine ⟨f, fd, hm, F.kp, kb2 fun s u v _ => ?_, okD f fd F⟩
      obtain ⟨oc, od, kV, doc, pm, an, cdv, ct, osl, rfl, _, _⟩ := F.ex
      exact .of_eq rfl
    have G6' : Has l.prog w K mg base (L2.CX l.prog w) 5 "need_state" ["machine", "state"] (spNeedState K CM CS) := T.d6.has (fun f fd F => F.binds fun _ _ _ _ _ _ us hl => match us, hl with | [_, _], _ => rfl) fun f fd F => (okS f fd F).mono (by decide)
    have G7' : Has l.prog w K mg base (L2.CX l.prog w) 5 "need_deed" ["machine", "deed"] (spNeedDeed K CM CD) := T.d7.has (fun f fd F => F.binds fun _ _ _ _ _ _ us hl => match us, hl with | [_, _], _ => rfl) fun f fd F => (okD f fd F).mono (by decide)
    have G8' : Has l.prog w K mg base (L2.CX l.prog w) 5 "check_row" ["machine", "value"] (spCheckRow K CM CR) := T.d8.has (fun f fd F => F.binds fun _ _ _ _ _ _ us hl => match us, hl with | [_, _], _ => rfl) fun f fd F => (okC f fd F).mono (by decide)
    have MM : MkM l.prog w K mg base CM CB := by
      obtain ⟨fd, F⟩ := T.mi
      obtain ⟨fdg, Fg⟩ := T.mq
      refine ⟨fm, fd, fe, fdg, T.mkm, ok_machine F T.B T.M gD ErB G2 G3, T.me.gM, F.binds fun _ _ _ _ _ _ us hl => match us, hl with | [_, _], _ => rfl, ⟨fun s us ws X l1 l2 => ?_, fun r1 r2 => r1.append r2⟩, T.me, ok_machine_eq Fg T.B T.M T.me, Fg.binds fun _ _ _ _ _ _ us hl => match us, hl with | [_, _], _ => rfl⟩
      obtain ⟨oc, od, kV, doc, pm, an, cdv, ct, osl, rfl, _, _⟩ := F.ex
      match us, l1, ws, l2 with
      | [_], _, [_], _ => exact .of_eq rfl
    have ea : ∃ CP, Ears K mg CB CR CS CD CP := ⟨CP, ⟨T.eB.gC, T.xbb, T.eB.xf, T.eB.ec, T.eB.no⟩, ⟨T.eR.gC, T.xrr, T.eR.xf, T.eR.ec, T.eR.no⟩, ⟨T.eS.gC, T.xss, T.eS.xf, T.eS.ec, T.eS.no⟩, ⟨T.eD.gC, T.xdd, T.eD.xf, T.eD.ec, T.eD.no⟩, T.mP, T.xrb, T.xsb, T.xsr, T.xdb, T.xdr, T.xds, T.pb, T.pr⟩
    have ear : EarDef K mg := by
      obtain ⟨f, fd, hm, F⟩ := T.l7.ex
      exact ⟨f, fd, hm, F, F.binds fun _ _ _ _ _ _ us hl => match us, hl with | [_], _ => rfl⟩
    have L1 : Has l.prog w K mg base L2.CX0 1 "_law_box" ["script", "k"] (spLawBox K) := T.l1.has (fun f fd F => F.binds fun _ _ _ _ _ _ us hl => match us, hl with | [_, _], _ => rfl) fun f fd F => ok_law_box F T.B
    have L2' : Has l.prog w K mg base L2.CX0 1 "_law_take" ["box", "many"] spLawTake := T.l2.has (fun f fd F => F.binds fun _ _ _ _ _ _ us hl => match us, hl with | [_, _], _ => rfl) fun f fd F => ok_law_take F T.B
    have L3 : Has l.prog w K mg base L2.CX0 2 "_law_pick" ["box", "some"] (spLawPick K) := T.l3.has (fun f fd F => F.binds fun _ _ _ _ _ _ us hl => match us, hl with | [_, _], _ => rfl) fun f fd F => ok_law_pick F T.B L2'
    have L4 : Has l.prog w K mg base L2.CX0 3 "_law_tables" ["box", "sizes", "kinds"] (spTables K) := T.l4.has (fun f fd F => F.binds fun _ _ _ _ _ _ us hl => match us, hl with | [_, _, _], _ => rfl) fun f fd F => ok_tables F T.B L2' L3
    have L5 : Has l.prog w K mg base L2.CX0 1 "_law_run" ["tables", "start", "log"] (spRun K) := T.l5.has (fun f fd F => F.binds fun _ _ _ _ _ _ us hl => match us, hl with | [_, _, _], _ => rfl) fun f fd F => ok_run F T.B
    have L6 : Has l.prog w K mg base L2.CX0 2 "_law_log" ["box", "tables", "most"] (spLog K) := T.l6.has (fun f fd F => F.binds fun _ _ _ _ _ _ us hl => match us, hl with | [_, _, _], _ => rfl) fun f fd F => ok_log F T.B L2'
    have L8 : HasG l.prog w K mg base 8 "_law_told_right" ["box", "tables"] (spTold K [(T1, (("_law_none_right" : Str) ++ ".<locals>.") ++ "<lambda>"), (T2, qFollow)]) := by
      obtain ⟨f, fd, hm, F⟩ := T.l8.ex
      exact ⟨f, fd, hm, F.kp, F.binds fun _ _ _ _ _ _ us hl => match us, hl with | [_, _], _ => rfl, ok_told (CB := CB) (CR := CR) (CS := CS) (CD := CD) F T.B T.M MM L2' L6 L5 G9 R1 G8 R2 G10 R3 G6 R4 G7 R5⟩
    have L9 : HasG l.prog w K mg base 9 "_law_none_right" ["box", "tables"] (spTold K [(T1, (("_law_none_right" : Str) ++ ".<locals>.") ++ "<lambda>"), (T2, qFollow)]) := by
      obtain ⟨f, fd, hm, F, hc⟩ := T.l9.ex
      refine ⟨f, fd, hm, F.kp, F.binds fun _ _ _ _ _ _ us hl => match us, hl with | [_, _], _ => rfl, ok_none F hc tb1 (fun X e => ?_) (fun X e p hp e1 => ?_) T.B T.M MM ear ea L2' L3 L6 G9 G8' G10 G6' G7'⟩
      · show (T1, X.env.qual ++ "<lambda>") ∈ _
        rw [e]
        exact List.mem_cons_self
      · show p.2 = X.env.qual ++ "<lambda>"
        rw [e]
        exact (two hp).1 e1
    exact ok_law F T.B L1 L4 L8 L9
end Lw

set_option Elab.async false
set_option linter.all false
set_option maxRecDepth 100000
set_option maxHeartbeats 4000000
namespace Lw
open PySem PySem.Spec PyProof.Rows L2 Lx Pg
theorem err_mk {K : PySem.W.Frag} {h : Heap} {mg : Str → Option Value} (X : K.In h) (G : h.Ns mainGlobals mg) {x qual : Str} {st : Stmt} {C f : Addr} {od an : Option Addr} {sl : Array (Option Value)} {oc kV doc pm cd ct : Value}
    {nm q : Str} {N : Addr} {bs bm : List Value} {sn : List Str} {sub : List Value} {ab : Bool} {col : Option Bool} {dd : Option Addr} {m0 m1 m2 m3 m5 : Option Value}
    (a : PySem.W.nsIn K mainGlobals x = some (some (.ref C))) (xl : K.lookup C = some (excClassObj nm q C N bs bm true sn sub ab col dd m0 m1 m2 m3 m5 "ValueError.__new__")) (rv : PySem.HandSPX.refsVE bm = true) (sa : PySem.W.findIn K (.ref C) "__setattr__" = some (some (.builtin "object.__setattr__")))
    (ga : PySem.W.findIn K (.ref C) "__getattribute__" = some (some (.builtin "BaseException.__getattribute__"))) (gg : PySem.W.findIn K (.ref C) "__getattr__" = some none) (no : PySem.W.findIn K (.ref C) "at" = some none)
    (kC : PySem.W.keepIn K (.ref C) = true) (eC : PySem.W.subIn K (.ref C) (.type "BaseException") = some true) (tC : PySem.W.typeIn K (.ref C) = some (.type "type")) (hC : PySem.W.hasDictIn K C = true)
    (ha : PySem.W.findIn K (.ref C) "__class__" = some (some (.builtin "object.__class__"))) (hn : PySem.W.specialIn K (.builtin "object.__class__") "__get__" = some (some (.builtin "getset_descriptor.__get__"))) (ht : PySem.W.takesIn K (.builtin "object.__class__") = some true) (hm : PySem.W.mroIn K C (.type "object") = some true)
    (i : PySem.W.findIn K (.ref C) "__init__" = some (some (.ref f))) (t : PySem.W.typeIn K (.ref f) = some (.type "function"))
    (l : K.lookup f = some ⟨oc, od, .func (PySem.W.fnOf "__init__" qual (defArgs st) (defBody st) (defScope st) .none kV doc pm an cd ct), sl⟩) (c : PySem.W.codeIn K cd qual = true) (k : PySem.W.keepIn K (.ref f) = true) : ErrK1 K mg x qual st C :=
  ⟨⟨⟨nm, q, N, bs, bm, sn, sub, ab, col, dd, m0, m1, m2, m3, m5, xl, rv⟩, sa, eC, tC, kC⟩, ⟨ga, gg, eC, hC⟩, ⟨ga, gg, eC, hC, ha, hn, ht, hm⟩, no, PySem.W.mg_of X G a, f, _, i, t, fun_mk l c k⟩
theorem err2_mk {K : PySem.W.Frag} {h : Heap} {mg : Str → Option Value} (X : K.In h) (G : h.Ns mainGlobals mg) {x fld qual : Str} {st : Stmt} {C f : Addr} {od an : Option Addr} {sl : Array (Option Value)} {oc kV doc pm cd ct : Value}
    (a : PySem.W.nsIn K mainGlobals x = some (some (.ref C))) (cls : ∃ nm q N bs sn sub ab col dd k0 k1 k2 k3 k5, K.lookup C = some (keObj nm q C N bs sn sub ab col dd k0 k1 k2 k3 k5)) (sa : PySem.W.findIn K (.ref C) "__setattr__" = some (some (.builtin "object.__setattr__")))
    (ga : PySem.W.findIn K (.ref C) "__getattribute__" = some (some (.builtin "BaseException.__getattribute__"))) (gg : PySem.W.findIn K (.ref C) "__getattr__" = some none) (no : PySem.W.findIn K (.ref C) fld = some none)
    (kC : PySem.W.keepIn K (.ref C) = true) (eC : PySem.W.subIn K (.ref C) (.type "BaseException") = some true) (tC : PySem.W.typeIn K (.ref C) = some (.type "type")) (hC : PySem.W.hasDictIn K C = true)
    (ha : PySem.W.findIn K (.ref C) "__class__" = some (some (.builtin "object.__class__"))) (hn : PySem.W.specialIn K (.builtin "object.__class__") "__get__" = some (some (.builtin "getset_descriptor.__get__"))) (ht : PySem.W.takesIn K (.builtin "object.__class__") = some true) (hm : PySem.W.mroIn K C (.type "object") = some true)
    (i : PySem.W.findIn K (.ref C) "__init__" = some (some (.ref f))) (t : PySem.W.typeIn K (.ref f) = some (.type "function"))
    (l : K.lookup f = some ⟨oc, od, .func (PySem.W.fnOf "__init__" qual (defArgs st) (defBody st) (defScope st) .none kV doc pm an cd ct), sl⟩) (c : PySem.W.codeIn K cd qual = true) (k : PySem.W.keepIn K (.ref f) = true) : ErrK2 K mg x fld qual st C :=
  ⟨⟨cls, sa, eC, tC, kC⟩, ⟨ga, gg, eC, hC⟩, ⟨ga, gg, eC, hC, ha, hn, ht, hm⟩, no, PySem.W.mg_of X G a, f, _, i, t, fun_mk l c k⟩
theorem bare_mk {K : PySem.W.Frag} {h : Heap} {mg : Str → Option Value} (X : K.In h) (G : h.Ns mainGlobals mg) (z : ∀ x ∈ (["isinstance", "int", "bool", "list", "tuple", "len", "range", "enumerate", "reversed", "divmod", "min", "max", "all", "repr", "abs", "sorted", "set"] : List Str), PySem.W.nsIn K mainGlobals x = some none) : Bare mg := by
  have m : ∀ x ∈ (["isinstance", "int", "bool", "list", "tuple", "len", "range", "enumerate", "reversed", "divmod", "min", "max", "all", "repr", "abs", "sorted", "set"] : List Str), mg x = none := fun x hx => PySem.W.mg_none_of X G (z x hx)
  exact ⟨m _ (by simp), m _ (by simp), m _ (by simp), m _ (by simp), m _ (by simp), m _ (by simp), m _ (by simp), m _ (by simp), m _ (by simp), m _ (by simp), m _ (by simp), m _ (by simp), m _ (by simp), m _ (by simp), m _ (by simp), m _ (by simp), m _ (by simp)⟩
theorem mgInt {K : PySem.W.Frag} {h : Heap} {mg : Str → Option Value} (X : K.In h) (G : h.Ns mainGlobals mg) {x : Str} {n : Int} {t : Tok} (a : PySem.W.nsIn K mainGlobals x = some (some (.int n t))) : ∃ tk, mg x = some (.int n tk) := ⟨t, PySem.W.mg_of X G a⟩
theorem kit_ref {K : PySem.W.Frag} {C D : Addr} (hd : PySem.W.hasDictIn K C = true) (ht : PySem.W.typeIn K (.ref C) = some (.type "type")) (h : PySem.W.subIn K (.ref D) (.ref C) = some true) : PySem.W.kitOne K (.ref D) (.ref C) = some true := by
  obtain ⟨cd, hc, _⟩ := PySem.W.any_some hd
  have e : ((PySem.W.clsIn K C).isSome && PySem.W.typeIn K (.ref C) == some (.type "type")) = true := by rw [hc, ht] <;> rfl
  show (if ((Value.ref D) == (Value.ref C)) = true then some true else (if ((PySem.W.clsIn K C).isSome && PySem.W.typeIn K (.ref C) == some (.type "type")) = true then PySem.W.subIn K (.ref D) (.ref C) else none)) = some true
  rw [if_pos e, h]
  split <;> rfl
theorem kit_tup {K : PySem.W.Frag} {C : Addr} (hd : PySem.W.hasDictIn K C = true) (ht : PySem.W.typeIn K (.ref C) = some (.type "type")) (h : PySem.W.subIn K (.type "tuple") (.ref C) = some false) : PySem.W.kitOne K (.type "tuple") (.ref C) = some false := by
  obtain ⟨cd, hc, _⟩ := PySem.W.any_some hd
  have e : ((PySem.W.clsIn K C).isSome && PySem.W.typeIn K (.ref C) == some (.type "type")) = true := by rw [hc, ht] <;> rfl
  show (if ((Value.type "tuple") == (Value.ref C)) = true then some true else (if ((PySem.W.clsIn K C).isSome && PySem.W.typeIn K (.ref C) == some (.type "type")) = true then PySem.W.subIn K (.type "tuple") (.ref C) else none)) = some false
  rw [if_pos e, h, if_neg (by show ¬ (false = true); decide)]
theorem kit_self {K : PySem.W.Frag} {C : Addr} : PySem.W.kitOne K (.ref C) (.ref C) = some true := by
  show (if ((Value.ref C) == (Value.ref C)) = true then some true else _) = some true
  rw [if_pos (by simp)]
theorem mach_mk {K : PySem.W.Frag} {C : Addr} (a : PySem.W.plainGet K C Str.empty = true) (b : PySem.W.hasDictIn K C = true) (c : PySem.W.plainOver K C = true) (d : PySem.W.findIn K (.ref C) "__setattr__" = some (some (.builtin "object.__setattr__")))
    (e : PySem.W.findIn K (.ref C) "deeds" = some none) (f : PySem.W.findIn K (.ref C) "states" = some none) (g : PySem.W.findIn K (.ref C) "tables" = some none) : MachC K C := ⟨⟨a, b, c, d⟩, e, f, g⟩
theorem mache_mk {K : PySem.W.Frag} {h : Heap} {mg : Str → Option Value} (X : K.In h) (G : h.Ns mainGlobals mg) {C g : Addr} (a : PySem.W.nsIn K mainGlobals "Machine" = some (some (.ref C)))
    (ha : PySem.W.findIn K (.ref C) "__class__" = some (some (.builtin "object.__class__"))) (hn : PySem.W.specialIn K (.builtin "object.__class__") "__get__" = some (some (.builtin "getset_descriptor.__get__"))) (ht : PySem.W.takesIn K (.builtin "object.__class__") = some true) (hm : PySem.W.mroIn K C (.type "object") = some true)
    (eq : PySem.W.findIn K (.ref C) "__eq__" = some (some (.ref g))) (fn : PySem.W.isFn K (.ref g) = true) (s : PySem.W.subIn K (.type "tuple") (.ref C) = some false) (hd : PySem.W.hasDictIn K C = true) (tc : PySem.W.typeIn K (.ref C) = some (.type "type")) : MachE K mg C g :=
  ⟨PySem.W.mg_of X G a, ha, hn, ht, hm, eq, fn, by simp [PySem.W.notFirst], by simp [PySem.W.notFirst, s], kit_tup hd tc s, kit_self⟩
end Lw

open PySem PySem.W PyProof.Rows
set_option Elab.async false
set_option maxRecDepth 100000
set_option maxHeartbeats 0
theorem PySem.Challenge.cw_pagesagain_k01_machines_and_what_is_none_holds : PySem.Challenge.rw_pagesagain_k01_machines_and_what_is_none.Holds := by
  w_on; o_law; k_head; (case hw => w_witness2)
  k_fill
  refine Lx.end_walk (l := PySem.Challenge.rw_pagesagain_k01_machines_and_what_is_none) (n := 63) (k := 10) (x := "script") rfl (by decide) rfl ⟨rfl, by decide, by decide⟩ (fun w h Y => PySem.W.km_in_of Y) ?F
  case F =>
    intro w mg fa h Y KX G hmg
    refine' Lw.law_top (T1 := 279) (T2 := 222) ⟨?qB, ?qM, ?qmkm, ?qmi, ?qme, ?qmq, ?qgR, ?qgD, ?qgS, ?qeB, ?qeR, ?qeS, ?qeD, ?qmP, ?qxbb, ?qxrr, ?qxss, ?qxdd, ?qxrb, ?qxsb, ?qxsr, ?qxdb, ?qxdr, ?qxds, ?qpb, ?qpr, ?qd1, ?qd2, ?qd3, ?qd4, ?qd5, ?qd6, ?qd7, ?qd8, ?qd9, ?qd10, ?qd11, ?qd12, ?qd13, ?qd14, ?ql1, ?ql2, ?ql3, ?ql4, ?ql5, ?ql6, ?ql7, ?ql8, ?ql9, ?ql10, ?qne⟩ hmg
    (case qme =>
      refine' Lw.mache_mk KX G ?qza ?qzha ?qzhn ?qzht ?qzhm ?qzeq ?qzfn ?qzs ?qzhd ?qztc
      (case qza => k_is); (case qzha => k_is); (case qzhn => k_is); (case qzht => k_is); (case qzhm => k_is); (case qzeq => k_is); (case qzfn => k_is); (case qzs => k_is); (case qzhd => k_is); (case qztc => k_is))
    (case qM =>
      refine' Lw.mach_mk ?qza ?qzb ?qzc ?qzd ?qze ?qzf ?qzg
      (case qza => k_is); (case qzb => k_is); (case qzc => k_is); (case qzd => k_is); (case qze => k_is); (case qzf => k_is); (case qzg => k_is))
    (case qmkm =>
      refine' ⟨?qza, ?qzb, ?qzc, ?qzd⟩
      (case qza => k_is); (case qzb => k_is); (case qzc => k_is); (case qzd => k_is))
    (case qmi =>
      refine' ⟨_, L2.fun_mk ?ql ?qc ?qk⟩
      (case ql => k_is); (case qc => k_is); (case qk => k_is))
    (case qmq =>
      refine' ⟨_, L2.fun_mk ?ql ?qc ?qk⟩
      (case ql => k_is); (case qc => k_is); (case qk => k_is))
    (case qgR =>
      refine' Lw.mgInt KX G ?qz
      (case qz => k_is))
    (case qgD =>
      refine' Lw.mgInt KX G ?qz
      (case qz => k_is))
    (case qgS =>
      refine' Lw.mgInt KX G ?qz
      (case qz => k_is))
    (case qeB =>
      refine' Lw.err_mk KX G ?qza ?qzxl ?qzrv ?qzsa ?qzga ?qzgg ?qzno ?qzkC ?qzeC ?qztC ?qzhC ?qzha ?qzhn ?qzht ?qzhm ?qzi ?qzt ?qzl ?qzc ?qzk
      (case qza => k_is); (case qzxl => k_is); (case qzrv => decide +kernel); (case qzsa => k_is); (case qzga => k_is); (case qzgg => k_is); (case qzno => k_is); (case qzkC => k_is); (case qzeC => k_is); (case qztC => k_is); (case qzhC => k_is); (case qzha => k_is); (case qzhn => k_is); (case qzht => k_is); (case qzhm => k_is); (case qzi => k_is); (case qzt => k_is); (case qzl => k_is); (case qzc => k_is); (case qzk => k_is))
    (case qeR =>
      refine' Lw.err_mk KX G ?qza ?qzxl ?qzrv ?qzsa ?qzga ?qzgg ?qzno ?qzkC ?qzeC ?qztC ?qzhC ?qzha ?qzhn ?qzht ?qzhm ?qzi ?qzt ?qzl ?qzc ?qzk
      (case qza => k_is); (case qzxl => k_is); (case qzrv => decide +kernel); (case qzsa => k_is); (case qzga => k_is); (case qzgg => k_is); (case qzno => k_is); (case qzkC => k_is); (case qzeC => k_is); (case qztC => k_is); (case qzhC => k_is); (case qzha => k_is); (case qzhn => k_is); (case qzht => k_is); (case qzhm => k_is); (case qzi => k_is); (case qzt => k_is); (case qzl => k_is); (case qzc => k_is); (case qzk => k_is))
    (case qeS =>
      refine' Lw.err2_mk KX G ?qza ?qzcls ?qzsa ?qzga ?qzgg ?qzno ?qzkC ?qzeC ?qztC ?qzhC ?qzha ?qzhn ?qzht ?qzhm ?qzi ?qzt ?qzl ?qzc ?qzk
      (case qza => k_is); (case qzcls => exact ⟨_, _, _, _, _, _, _, _, _, _, _, _, _, _, by k_is⟩); (case qzsa => k_is); (case qzga => k_is); (case qzgg => k_is); (case qzno => k_is); (case qzkC => k_is); (case qzeC => k_is); (case qztC => k_is); (case qzhC => k_is); (case qzha => k_is); (case qzhn => k_is); (case qzht => k_is); (case qzhm => k_is); (case qzi => k_is); (case qzt => k_is); (case qzl => k_is); (case qzc => k_is); (case qzk => k_is))
    (case qeD =>
      refine' Lw.err2_mk KX G ?qza ?qzcls ?qzsa ?qzga ?qzgg ?qzno ?qzkC ?qzeC ?qztC ?qzhC ?qzha ?qzhn ?qzht ?qzhm ?qzi ?qzt ?qzl ?qzc ?qzk
      (case qza => k_is); (case qzcls => exact ⟨_, _, _, _, _, _, _, _, _, _, _, _, _, _, by k_is⟩); (case qzsa => k_is); (case qzga => k_is); (case qzgg => k_is); (case qzno => k_is); (case qzkC => k_is); (case qzeC => k_is); (case qztC => k_is); (case qzhC => k_is); (case qzha => k_is); (case qzhn => k_is); (case qzht => k_is); (case qzhm => k_is); (case qzi => k_is); (case qzt => k_is); (case qzl => k_is); (case qzc => k_is); (case qzk => k_is))
    (case qmP =>
      refine' PySem.W.mg_of KX G ?qz
      (case qz => k_is))
    (case qxbb =>
      refine' PySem.W.exm_ref ?qza ?qzb ?qzc ?qzd
      (case qza => k_is); (case qzb => k_is); (case qzc => k_is); (case qzd => first | rfl | k_is))
    (case qxrr =>
      refine' PySem.W.exm_ref ?qza ?qzb ?qzc ?qzd
      (case qza => k_is); (case qzb => k_is); (case qzc => k_is); (case qzd => first | rfl | k_is))
    (case qxss =>
      refine' PySem.W.exm_ref ?qza ?qzb ?qzc ?qzd
      (case qza => k_is); (case qzb => k_is); (case qzc => k_is); (case qzd => first | rfl | k_is))
    (case qxdd =>
      refine' PySem.W.exm_ref ?qza ?qzb ?qzc ?qzd
      (case qza => k_is); (case qzb => k_is); (case qzc => k_is); (case qzd => first | rfl | k_is))
    (case qxrb =>
      refine' PySem.W.exm_ref ?qza ?qzb ?qzc ?qzd
      (case qza => k_is); (case qzb => k_is); (case qzc => k_is); (case qzd => k_is))
    (case qxsb =>
      refine' PySem.W.exm_ref ?qza ?qzb ?qzc ?qzd
      (case qza => k_is); (case qzb => k_is); (case qzc => k_is); (case qzd => k_is))
    (case qxsr =>
      refine' PySem.W.exm_ref ?qza ?qzb ?qzc ?qzd
      (case qza => k_is); (case qzb => k_is); (case qzc => k_is); (case qzd => k_is))
    (case qxdb =>
      refine' PySem.W.exm_ref ?qza ?qzb ?qzc ?qzd
      (case qza => k_is); (case qzb => k_is); (case qzc => k_is); (case qzd => k_is))
    (case qxdr =>
      refine' PySem.W.exm_ref ?qza ?qzb ?qzc ?qzd
      (case qza => k_is); (case qzb => k_is); (case qzc => k_is); (case qzd => k_is))
    (case qxds =>
      refine' PySem.W.exm_ref ?qza ?qzb ?qzc ?qzd
      (case qza => k_is); (case qzb => k_is); (case qzc => k_is); (case qzd => k_is))
    (case qpb =>
      refine' Lw.kit_ref ?qza ?qzb ?qzc
      (case qza => k_is); (case qzb => k_is); (case qzc => k_is))
    (case qpr =>
      refine' Lw.kit_ref ?qza ?qzb ?qzc
      (case qza => k_is); (case qzb => k_is); (case qzc => k_is))
    (case qd2 =>
      refine' Lw.defK KX G ?qza ?qzl ?qzc ?qzk
      (case qza => k_is); (case qzl => k_is); (case qzc => k_is); (case qzk => k_is))
    (case qd3 =>
      refine' Lw.defK KX G ?qza ?qzl ?qzc ?qzk
      (case qza => k_is); (case qzl => k_is); (case qzc => k_is); (case qzk => k_is))
    (case qd4 =>
      refine' Lw.defK KX G ?qza ?qzl ?qzc ?qzk
      (case qza => k_is); (case qzl => k_is); (case qzc => k_is); (case qzk => k_is))
    (case qd5 =>
      refine' Lw.defK KX G ?qza ?qzl ?qzc ?qzk
      (case qza => k_is); (case qzl => k_is); (case qzc => k_is); (case qzk => k_is))
    (case qd6 =>
      refine' Lw.defK KX G ?qza ?qzl ?qzc ?qzk
      (case qza => k_is); (case qzl => k_is); (case qzc => k_is); (case qzk => k_is))
    (case qd7 =>
      refine' Lw.defK KX G ?qza ?qzl ?qzc ?qzk
      (case qza => k_is); (case qzl => k_is); (case qzc => k_is); (case qzk => k_is))
    (case qd8 =>
      refine' Lw.defK KX G ?qza ?qzl ?qzc ?qzk
      (case qza => k_is); (case qzl => k_is); (case qzc => k_is); (case qzk => k_is))
    (case qd11 =>
      refine' Lw.defK KX G ?qza ?qzl ?qzc ?qzk
      (case qza => k_is); (case qzl => k_is); (case qzc => k_is); (case qzk => k_is))
    (case qd12 =>
      refine' Lw.defK KX G ?qza ?qzl ?qzc ?qzk
      (case qza => k_is); (case qzl => k_is); (case qzc => k_is); (case qzk => k_is))
    (case qd13 =>
      refine' Lw.defK KX G ?qza ?qzl ?qzc ?qzk
      (case qza => k_is); (case qzl => k_is); (case qzc => k_is); (case qzk => k_is))
    (case qd14 =>
      refine' Lw.defK KX G ?qza ?qzl ?qzc ?qzk
      (case qza => k_is); (case qzl => k_is); (case qzc => k_is); (case qzk => k_is))
    (case ql1 =>
      refine' Lw.defK KX G ?qza ?qzl ?qzc ?qzk
      (case qza => k_is); (case qzl => k_is); (case qzc => k_is); (case qzk => k_is))
    (case ql2 =>
      refine' Lw.defK KX G ?qza ?qzl ?qzc ?qzk
      (case qza => k_is); (case qzl => k_is); (case qzc => k_is); (case qzk => k_is))
    (case ql3 =>
      refine' Lw.defK KX G ?qza ?qzl ?qzc ?qzk
      (case qza => k_is); (case qzl => k_is); (case qzc => k_is); (case qzk => k_is))
    (case ql4 =>
      refine' Lw.defK KX G ?qza ?qzl ?qzc ?qzk
      (case qza => k_is); (case qzl => k_is); (case qzc => k_is); (case qzk => k_is))
    (case ql5 =>
      refine' Lw.defK KX G ?qza ?qzl ?qzc ?qzk
      (case qza => k_is); (case qzl => k_is); (case qzc => k_is); (case qzk => k_is))
    (case ql6 =>
      refine' Lw.defK KX G ?qza ?qzl ?qzc ?qzk
      (case qza => k_is); (case qzl => k_is); (case qzc => k_is); (case qzk => k_is))
    (case ql7 =>
      refine' Lw.defK KX G ?qza ?qzl ?qzc ?qzk
      (case qza => k_is); (case qzl => k_is); (case qzc => k_is); (case qzk => k_is))
    (case ql8 =>
      refine' Lw.defK KX G ?qza ?qzl ?qzc ?qzk
      (case qza => k_is); (case qzl => k_is); (case qzc => k_is); (case qzk => k_is))
    (case ql10 =>
      refine' Lw.defK KX G ?qza ?qzl ?qzc ?qzk
      (case qza => k_is); (case qzl => k_is); (case qzc => k_is); (case qzk => k_is))
    (case qd1 =>
      refine' Lw.defD KX G ?qza ?qzl ?qzc ?qzk ?qzT
      (case qza => k_is); (case qzl => k_is); (case qzc => k_is); (case qzk => k_is); (case qzT => k_is))
    (case qd9 =>
      refine' Lw.defD KX G ?qza ?qzl ?qzc ?qzk ?qzT
      (case qza => k_is); (case qzl => k_is); (case qzc => k_is); (case qzk => k_is); (case qzT => k_is))
    (case qd10 =>
      refine' Lw.defT KX G ?qa ?ql ?qc ?qk ?qe ?qn ?qt
      (case qa => k_is); (case ql => k_is); (case qc => k_is); (case qk => k_is); (case qe => kernel_rfl); (case qn => kernel_rfl)
      (case qt => exact PySem.W.km_tabs_of Y _ (by decide)))
    (case ql9 =>
      refine' Lw.defT KX G ?qa ?ql ?qc ?qk ?qe ?qn ?qt
      (case qa => k_is); (case ql => k_is); (case qc => k_is); (case qk => k_is); (case qe => kernel_rfl); (case qn => kernel_rfl)
      (case qt => exact PySem.W.km_tabs_of Y _ (by decide)))
    (case qne => decide)
    (case qB =>
      refine' Lw.bare_mk KX G ?qz
      (case qz =>
        intro x hx
        simp only [List.mem_cons, List.not_mem_nil, or_false] at hx
        rcases hx with rfl | rfl | rfl | rfl | rfl | rfl | rfl | rfl | rfl | rfl | rfl | rfl | rfl | rfl | rfl | rfl | rfl <;> k_is))
