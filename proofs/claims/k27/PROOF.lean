import PyProof.Rows.All
import HandS.ForMost
import PySem.Challenge.RW_pagesagain_k27_whole_marks_round_a_ring
import Wide.All
import OpenK.AllK
import Wide.FinOn
import KE.GoesEnum
import PyProof.ReprRoads
import PyProof.ReprLen
import HandS.ForExc
import HandS.TryMany
import HandS.ExcInit
import HandS.ExcField
import HandS.ExcIs
import HandS.IsInst
import HandS.TupAny
import HandS.WideBits
import HandS.Rev
import HandS.Lambda
import HandS.EndTab
import HandS.Walk
import HandS.NestedK
import HandS.Defaults
import KE.KDictDisplayH
import HandS.TupLen
import HandS.DictComp
import HandS.SlotsOwn
import HandS.OwnEq
import HandS.MakeKwOnly
import HandS.SetFor
import HandS.Strs
import PyProof.StrOps2
import HandS.Deep
import HandS.SortInts
import HandS.Conv
import HandS.TryOnly
import HandS.TupMul
import HandS.SetBool
import HandS.Comp
import PyProof.Rows.ReprOcc
import HandS.MakeKw
import PyProof.InstNe
import HandS.DictTup
import HandS.TupSets
set_option Elab.async false
set_option linter.all false
set_option maxRecDepth 100000
set_option maxHeartbeats 4000000
/-! our own additions to the hand layer: defs that know that nothing guards around them, repr of data, calls by keywords alone, enumerate of a tuple -/
namespace Lx
open PySem PySem.Spec PyProof.Rows L2

/-! ### a def called, told at a context -/
structure Callee (X : Cx) (f : Addr) (fd : FuncData) (ps : List Str) (sp : Sp) (E : XK) : Prop where
  len : ∀ vs H Q, sp vs H Q E → vs.length = ps.length
  go : ∀ (pins : List (Addr × Obj)) (σ : L2.St) (s : Shared) (H : Hp) (us : List Value) (kw : List (Str × Value)) (ws : List Value) (vs : List V) (Q : VK), Inv X pins σ H s → BindsTo s fd ⟨us, kw⟩ (ps.zip ws) → Vals vs ws → sp vs H Q E →
    wpAny (model X.prog X.w) X.A (call (.ref f) us kw) (EP X pins σ Q) X.xe s

theorem callee_end {X : Cx} {CX : CXT} {E : XK} {pins : List (Addr × Obj)} {σ : L2.St} {s : Shared} {H : Hp} {f : Addr} {us : List Value} {kw : List (Str × Value)} {Q : VK} (I : Inv X pins σ H s) (hx : Passes CX X E)
    (h : codeAny (model X.prog X.w) X.A (.call (.ref f) ⟨us, kw⟩) (CR CX X.stack X.prog X.w H s Q E) s) : wpAny (model X.prog X.w) X.A (call (.ref f) us kw) (EP X pins σ Q) X.xe s := by
  apply wpAny_call
  apply codeAny_mono h
  rintro (e | (_ | _ | _ | u)) s' q
  · exact hx pins σ H s e s' I q
  all_goals first
    | exact I.after q
    | exact False.elim q

theorem FnOk.callee {X : Cx} {CX : CXT} {k : Nat} {f : Addr} {fd : FuncData} {ps : List Str} {sp : Sp} {E : XK} (F : FnOk X.prog X.w X.K X.mg X.base CX k f fd ps sp) (hr : Room k X.A) (hx : Passes CX X E) : Callee X f fd ps sp E :=
  ⟨fun vs H Q h => F.len vs H Q E h, fun pins σ s H us kw ws vs Q I hb r h => callee_end I hx (F.run X.A X.stack s H ⟨us, kw⟩ ws vs Q E hr I.env0 hb r h)⟩

/-- a def's promise where no guard stands around the call -/
structure FnOkG (P : Program) (w : World) (K : PySem.W.Frag) (mg : Str → Option Value) (base : Heap) (CX : CXT) (k : Nat) (f : Addr) (fd : FuncData) (ps : List Str) (sp : Sp) : Prop where
  len : ∀ vs H Q E, sp vs H Q E → vs.length = ps.length
  run : ∀ (A : Around) (outer : List Env) (s : Shared) (H : Hp) (args : Args) (us : List Value) (vs : List V) (Q : VK) (E : XK), Room k A → A.guards = some [] → Env0 P w K mg base A outer s H → BindsTo s fd args (ps.zip us) →
    Vals vs us → sp vs H Q E → codeAny (model P w) A (.call (.ref f) args) (CR CX outer P w H s Q E) s

theorem FnOkG.callee {X : Cx} {CX : CXT} {k : Nat} {f : Addr} {fd : FuncData} {ps : List Str} {sp : Sp} {E : XK} (F : FnOkG X.prog X.w X.K X.mg X.base CX k f fd ps sp) (hr : Room k X.A) (hg : X.A.guards = some []) (hx : Passes CX X E) : Callee X f fd ps sp E :=
  ⟨fun vs H Q h => F.len vs H Q E h, fun pins σ s H us kw ws vs Q I hb r h => callee_end I hx (F.run X.A X.stack s H ⟨us, kw⟩ ws vs Q E hr hg I.env0 hb r h)⟩

section
variable {P : Program} {w : World} {K : PySem.W.Frag} {mg : Str → Option Value} {base : Heap}
theorem okG {x qual : Str} {st : Stmt} {f : Addr} {fd : FuncData} {N ps : List Str} {k : Nat} {sp : Sp} (F : Fun K x qual st f fd) (S : FnScope N ps (defScope st)) (len : ∀ vs H Q E, sp vs H Q E → vs.length = ps.length)
    (hbody : ∀ (cdv : Value) (A : Around) (outer : List Env) (s : Shared) (H : Hp) (vs : List V) (Q : VK) (E : XK), Room k (A.deeper (envOfC qual (defScope st) s.heap.objs.size f cdv)) → A.guards = some [] → sp vs H Q E →
      ∃ t, PSs (cxOf L2.CX0 P w K mg base N qual (defScope st) f cdv A outer s H E).nox (defBody st) t ∧ t { nx := fun _ H' => Q .non H', rt := Q } (start N vs) H) : FnOkG P w K mg base L2.CX0 (k + 1) f fd ps sp := by
  obtain ⟨oc, od, kV, doc, pm, an, cdv, ct, osl, rfl, lk, hcd⟩ := F.ex
  constructor
  · exact len
  · intro A outer s H args us vs Q E hr hg e0 hb r h
    apply LamX.run_ofS lk hcd S hr e0 hb r (len vs H Q E h)
    intro hr'
    have ⟨t, ht, hq⟩ := hbody cdv A outer s H vs Q E hr' hg h
    exact ⟨t, ht.nox, hq⟩
end

/-! ### calls -/
section
variable {X : Cx} {f : Addr} {fd : FuncData} {ps ks : List Str} {sp : Sp} {dvs : List V} {ds : List Value} {E : XK} {x : Str} {p pos : Pos} {e : Expr} {es : List Expr} {kws : List Keyword} {t tk : TA} {g : List Value → List Value → List Value} {gV : List V → List V → List V}
/-- f(e, ..) -/
theorem pe_callC (F : Callee X f fd ps sp E) (hg : Gl X x) (hm : X.mg x = some (.ref f)) (hk : PySem.W.keepIn X.K (.ref f) = true) (hb : Binds X.K fd ps []) (ha : PA X (e :: es) t)
    (hdb : (x == ("__debug__" : Str)) = false := by decide) (he : starEach (e :: es) X.env = (false, eval e X.env) :: starEach es X.env := by rfl) (hpl : (backTo pos (starEach es X.env)).any (·.1) = false := by rfl) :
    PE X (.Call (.Name x p) (e :: es) [] pos) (tCall sp [] E t) := by
  constructor
  intro pins s σ H Q I h
  apply wpAny_Call_Name_kw (ld_glob I hg hm ?_ hdb)
  refine PySem.W.callWith_K (h₀ := X.base) I.ok.mod.kin hk (thn (ha.run pos pins s σ H _ I h) ?_) he hpl
  rintro us s1 ⟨vs, H1, I1, r, q⟩
  refine ⟨I1.kIn, ?_⟩
  rw [List.append_nil] at q
  have hl : us.length = ps.length := by rw [← r.length]; exact F.len _ _ _ q
  exact F.go pins σ s1 H1 us [] us vs Q I1 (by simpa using hb s1 us I1.kIn (by simpa using hl)) r q
/-- f(k = v, ..), every parameter by its name -/
theorem pe_callKw0 (F : Callee X f fd ps sp E) (hg : Gl X x) (hm : X.mg x = some (.ref f)) (hk : PySem.W.keepIn X.K (.ref f) = true) (hb : KBinds X.K fd ps ks g gV) (hkw : PK X kws tk)
    (hall : (backToKw pos (keywordEach kws X.env)).all (·.1.isSome) = true := by rfl) (hks : (backToKw pos (keywordEach kws X.env)).filterMap (·.1) = ks := by rfl)
    (hdb : (x == ("__debug__" : Str)) = false := by decide)
    (hpl : ((backTo pos (starEach [] X.env)).any (·.1) || (backToKw pos (keywordEach kws X.env)).any (·.1.isNone)) = false := by rfl) :
    PE X (.Call (.Name x p) [] kws pos) (tCallK sp gV E tNil tk) := by
  constructor
  intro pins s σ H Q I h
  apply wpAny_Call_Name_kw (ld_glob I hg hm ?_ hdb)
  refine PySem.W.callWith_KW0 (h₀ := X.base) I.ok.mod.kin hk hall (thn (hkw.run pos pins s σ H _ I h) ?_) hpl
  rintro ws s2 ⟨zs, H2, I2, rz, q2⟩
  refine ⟨I2.kIn, ?_⟩
  rw [hks]
  have r2 : Vals (gV [] zs) (g [] ws) := hb.rel .nil rz
  have hl : (g [] ws).length = ps.length := by rw [← r2.length]; exact F.len _ _ _ q2
  exact F.go pins σ s2 H2 [] _ (g [] ws) (gV [] zs) Q I2 (hb.to s2 [] ws I2.kIn hl) r2 q2
end

/-! ### repr of data -/
section
variable {X : Cx}
theorem call_reprD (hu : X.A.units + 200 < cLine) (hg : X.A.guards = some []) :
    CallR X (.builtin "repr") (fun xs H Q => ∃ v d, xs = [v] ∧ Dp X.K H v d ∧ PyData.showable d = true ∧ PyData.hasDict d = false ∧ d.depth ≤ 64 ∧ d.leavesShort 13 = true ∧ d.weight ≤ 2 ^ 20 ∧ (∀ i, d = .int i → i.natAbs.log2 < 1920) ∧ Q (.str d.shown) H) := by
  rintro pins s σ H xs us Q I r ⟨v, d, rfl, hd, hs, hn, hdep, hl, hw, hi, q⟩
  obtain ⟨u, rfl, ru⟩ := vals1 r
  have hz : d.shown.length ≤ sizeLine := PyData.shown_fits (B := 13) (by decide) (by decide) hl hw
  obtain ⟨as, rd⟩ := Dp.reads I d v u hd ru
  have sc : ∀ (z : Str) (h' : Heap) (t t2 : Nat), (∀ b o, s.heap.get? b = some o → h'.get? b = some o) → Q (.str z) H → EP X pins σ Q (.str z t) { s with heap := h', toks := t2 } := fun z h' t t2 k q => ⟨.str z, H, I.kept k, ⟨t, rfl⟩, q⟩
  have self : ∀ b o, s.heap.get? b = some o → s.heap.get? b = some o := fun _ _ e => e
  cases rd with
  | none => exact PySem.P.repr_of_none (sc "None" _ _ _ self q)
  | bool b => exact PySem.P.repr_of_bool (sc _ _ _ _ self q)
  | int i t => exact PySem.P.repr_of_int (hi i rfl) (sc _ _ _ _ self q)
  | str z t => exact PySem.P.repr_of_str (sc _ _ _ _ self q) hz
  | list h1 h2 h3 h4 => exact repr_of_reads' (.list h1 h2 h3 h4) hs (fun z => by rw [hn] at z; cases z) hg (by omega) self (fun h' u tk k => sc _ _ _ _ k q) hz
  | tuple h1 h2 h3 h4 => exact repr_of_reads' (.tuple h1 h2 h3 h4) hs (fun z => by rw [hn] at z; cases z) hg (by omega) self (fun h' u tk k => sc _ _ _ _ k q) hz
  | dict h1 h2 h3 h4 h5 => cases hd
end
end Lx

set_option Elab.async false
set_option linter.all false
set_option maxRecDepth 100000
set_option maxHeartbeats 4000000
/-! enumerate of a tuple -/
namespace Lx
open PySem PySem.Spec PyProof.Rows L2

theorem meets_enum1 {v : Value} {o : Obj} {H : Heap → Prop} (B : Begins v o H) :
    Meets (Builtin.«enumerate.__new__» ⟨[.type "enumerate", v], []⟩) (fun _ R s => H s.heap ∧
      R (.ok (.ret (.ref (s.heap.push o).objs.size))) { s with heap := (s.heap.push o).push { cls := .type "enumerate", data := .fields #[.none, .bool false, .ref s.heap.objs.size, rawInt 0, .none, .none] } }) := by
  apply Meets.of_wp
  rintro prog w A R ⟨hp, g, d, tk, os⟩ ⟨h1, h⟩
  have sub1 := sub_enumerate
  have it : ∀ {A' : Around} {E : Value → Shared → Prop} {Q : Value → Shared → Prop}, Q (.ref hp.objs.size) ⟨hp.push o, g, d, tk, os⟩ → wpAny (model prog w) A' (pyIter v) Q E ⟨hp, g, d, tk, os⟩ :=
    fun {A' E Q} q => B.iter prog w A' E ⟨hp, g, d, tk, os⟩ Q h1 q
  wp_walk using it
  apply wpAny_stack_any
  intro st
  apply wpAny_pure
  split
  · rename_i c _ _ _ _ _
    cases (c == Value.type "enumerate") <;> (wp_walk using it; exact ⟨_, rfl, h⟩)
  · wp_walk using it
    exact ⟨_, rfl, h⟩

theorem enum1_begins {prog : Program} {w : World} {A : Around} {E : Value → Shared → Prop} {s : Shared} {v : Value} {o : Obj} {H : Heap → Prop} {Q : Value → Shared → Prop} (B : Begins v o H) (h1 : H s.heap)
    (h : ∀ h', IsEnum h' (s.heap.objs.size + 1) s.heap.objs.size 0 .none → h'.get? s.heap.objs.size = some o → (∀ b u, s.heap.get? b = some u → h'.get? b = some u) → Q (.ref (s.heap.objs.size + 1)) { s with heap := h' }) :
    wpAny (model prog w) A (call (.type "enumerate") [v]) Q E s := by
  apply callType_new F.called_enumerate (by decide) (F.typeCall_enumerate_1 _) (F.newCall_enumerate_1 _) (fun obj => F.args_object_init_2 obj _) F.entry_enumerate_new (meets_enum1 B)
  refine ⟨h1, ?_⟩
  have hz : (s.heap.push o).objs.size = s.heap.objs.size + 1 := Heap.size_push ..
  show _ ∧ _
  rw [hz]
  have he : IsEnum ((s.heap.push o).push { cls := .type "enumerate", data := .fields #[.none, .bool false, .ref s.heap.objs.size, rawInt 0, .none, .none] }) (s.heap.objs.size + 1) s.heap.objs.size 0 .none := by
    have z := Heap.get?_push_size (s.heap.push o) (o := { cls := .type "enumerate", data := .fields #[.none, .bool false, .ref s.heap.objs.size, rawInt 0, .none, .none] }) rfl
    rw [hz] at z
    exact z
  exact ⟨⟨_, he, rfl⟩, h _ he (Heap.get?_push_of_some _ (Heap.get?_push_size _ B.free)) fun b u x => Heap.get?_push_of_some _ (Heap.get?_push_of_some _ x)⟩

/-- a tuple, each item in a new pair -/
def ItEt (K : PySem.W.Frag) (a : Addr) : It where
  go := fun i H => ∃ (xs : List V) (x : V), SqT K H a xs ∧ xs[i]? = some x
  yld := fun i H v H' => ∃ T x, v = .ref T ∧ H T = none ∧ H' = upd H T (.tup [.int (i : Nat), x]) ∧ ∀ xs, SqT K H a xs → xs[i]? = some x
  stop := fun i H => ∃ xs : List V, SqT K H a xs ∧ xs.length = i

theorem turn_enumT {P : Program} {w : World} {K : PySem.W.Frag} {elts : List Expr} {kk : Nat} {tpos : Pos} (a e it : Addr) (hei : e ≠ it) (hai : a ≠ it) (hae : e ≠ a) :
    Turn P w K (.Tuple elts kk tpos) (ItEt K a) [e, it] e (fun i h => (∃ old, IsEnum h e it ((i : Nat) : Int) old) ∧ h.IsTupleIter it a i) := by
  refine { mem := by simp, obj := ?_, keep := ?_, item := ?_, done := ?_, self := ?_ }
  · rintro i h ⟨⟨old, he⟩, ⟨o, ho, hc, hd⟩⟩ b hb
    rcases (by simpa using hb : b = e ∨ b = it) with rfl | rfl
    · exact ⟨_, he, fun v q => nomatch q⟩
    · exact ⟨o, ho, fun v q => by rw [hd] at q; cases q⟩
  · rintro i h h' ⟨⟨old, he⟩, hi⟩ k
    exact ⟨⟨old, k e (by simp) _ he⟩, hi.at fun o q => k it (by simp) o q⟩
  · rintro X rfl rfl rfl hc i pins s σ H E I hf ⟨⟨old, he⟩, hit⟩ ⟨xs, x, hq, hx⟩
    obtain ⟨its, rv, p, hz⟩ := I.tuple hq
    obtain ⟨u, hu, ru⟩ := rv.get hx
    have hlt : i < its.toArray.size := by
      have z := (List.getElem?_eq_some_iff.mp hu).1
      simpa using z
    have ge : e < s.heap.objs.size := Heap.lt_size he
    have gi : it < s.heap.objs.size := by obtain ⟨_, q, _⟩ := hit; exact Heap.lt_size q
    have D := Draws.tuple (prog := X.prog) (w := X.w) (A := X.A.in1) (show X.A.in1.handled = none from I.ok.hd hc) it a hai its.toArray
    apply wpAny_pyNext_enum_itemD D he ⟨hit, p⟩ hlt hei (by simp [hei, hae])
    intro y h' tk hy ho st' hT hsz hk
    have ey : y = u := by
      have z : its.toArray[i]? = some u := by simpa using hu
      rw [z] at hy
      exact (Option.some.inj hy).symm
    subst ey
    refine ⟨_, rfl, wpAny_letOwnedTupleGo_enum (s := { s with heap := h', toks := tk + 1 }) ho fun h2 he2 sb => ?_⟩
    have hT2 := (sb.2 _ (Nat.ne_of_gt ge)).trans hT
    have new : ObjOk X.prog X.w (upd H s.heap.objs.size (.tup [.int (i : Nat), x])) h2 s.heap.objs.size (.tup [.int (i : Nat), x]) :=
      ⟨by show 2 ≤ sizeLine; decide, [.int i tk, y], .cons ⟨_, rfl⟩ (.cons ru .nil), ⟨_, hT2, rfl, _, rfl⟩⟩
    have J := I.turnedNew (ch := [e, it]) (t' := tk + 1) (h' := h2) (fun b ob hb q => (sb.2 b (by rintro rfl; simp at hb)).trans (hk b ob (by rintro rfl; simp at hb) (by rintro rfl; simp at hb) q)) hf (Nat.le_refl _) new
    refine ⟨.ref s.heap.objs.size, _, J, rfl, ⟨_, x, rfl, I.hok.fresh (Nat.le_refl _), rfl, fun ys hy => by rw [I.tuple_inj hy hq]; exact hx⟩, ⟨⟨y, ?_⟩, st'.1.at fun o q => (sb.2 it (Ne.symm hei)).trans q⟩, ?_⟩
    · rw [show ((i + 1 : Nat) : Int) = (i : Int) + 1 by omega]
      exact he2
    · intro b hb
      have lt : b < s.heap.objs.size := by rcases (by simpa using hb : b = e ∨ b = it) with rfl | rfl <;> assumption
      rw [upd_ne (Nat.ne_of_lt lt)]
      exact (hf b hb).1
  · rintro X rfl rfl rfl hc i pins s σ H E I hf ⟨⟨old, he⟩, hit⟩ ⟨xs, hq, hx⟩
    obtain ⟨its, rv, p, hz⟩ := I.tuple hq
    have D := Draws.tuple (prog := X.prog) (w := X.w) (A := X.A.in1) (show X.A.in1.handled = none from I.ok.hd hc) it a hai its.toArray
    have ei : its.toArray.size = i := by
      have z := rv.length
      simp only [List.size_toArray]
      omega
    apply wpAny_pyNext_enum_endD D he (by rw [ei]; exact ⟨hit, p⟩)
    intro h' eb
    obtain ⟨f0, f1, f2, f3, f4, f5⟩ := hf it (by simp)
    exact ⟨rfl, I.turned (t' := s.toks) (fun b o hb q => eb b o hb q) f0 f1 f3 f4 f5⟩
  · rintro A i s Q E ⟨⟨_, he⟩, _⟩ h
    exact wpAny_pyIter_enum he h

/-- enumerate(x), x a list or a tuple -/
def iEnumS (K : PySem.W.Frag) (ta : TA) : TI := fun σ H R => ta σ H fun vs H1 => ∃ a xs, vs = [.ref a] ∧ ((SqL K H1 a xs ∧ R (Ite K a) H1) ∨ (SqT K H1 a xs ∧ R (ItEt K a) H1))
theorem pi_enumS {X : Cx} {e : Expr} {ta : TA} {p pos tpos : Pos} {elts : List Expr} {kk : Nat} (hg : Gl X "enumerate") (hm : X.mg "enumerate" = none) (ha : PA X [e] ta) (hs : starEach [e] X.env = [(false, eval e X.env)] := by rfl) :
    PI X (.Tuple elts kk tpos) (.Call (.Name "enumerate" p) [e] [] pos) (iEnumS X.K ta) := by
  constructor
  intro pins s σ H R I h
  apply Call_ (ld_blt I hg hm boot_enumerate (PyProof.Rows.callWith_type1 (thn (ha.run pos pins s σ H _ I h) ?_) hs rfl))
  rintro us s1 ⟨vs, H1, I1, r1, a, xs, rfl, q⟩
  obtain ⟨u, rfl, ru⟩ := vals1 r1
  obtain rfl : u = Value.ref a := ru
  have fpo : ∀ b ∈ [s1.heap.objs.size + 1, s1.heap.objs.size], FpOk X pins H1 b := fun b hb => by
    have le : s1.heap.objs.size ≤ b := by rcases (by simpa using hb : b = s1.heap.objs.size + 1 ∨ b = s1.heap.objs.size) with rfl | rfl <;> omega
    exact I1.fpOk le (I1.hok.fresh le)
  rcases q with ⟨hq, q⟩ | ⟨hq, q⟩
  · obtain ⟨its, rv, p', hz⟩ := I1.list hq
    apply call_enumerate_list p'.isList
    intro h' he hit hsz hk
    exact wpAny_pyIter_enum he ⟨s1.heap.objs.size + 1, [s1.heap.objs.size + 1, s1.heap.objs.size], _, _, H1, rfl, I1.kept (t' := s1.toks) hk, turn_enum a (s1.heap.objs.size + 1) s1.heap.objs.size, ⟨⟨.none, he⟩, hit, Nat.succ_ne_self _⟩, fpo, q⟩
  · obtain ⟨its, rv, p', hz⟩ := I1.tuple hq
    have la : a < s1.heap.objs.size := by obtain ⟨o, g, _⟩ := p'; exact Heap.lt_size g
    apply enum1_begins (begins_tuple a its.toArray) p'
    intro h' he hit hk
    exact wpAny_pyIter_enum he ⟨s1.heap.objs.size + 1, [s1.heap.objs.size + 1, s1.heap.objs.size], _, _, H1, rfl, I1.kept (t' := s1.toks) hk, turn_enumT a (s1.heap.objs.size + 1) s1.heap.objs.size (Nat.succ_ne_self _) (Nat.ne_of_lt la) (Nat.ne_of_gt (Nat.lt_succ_of_lt la)), ⟨⟨.none, he⟩, ⟨_, hit, rfl, rfl⟩⟩, fpo, q⟩

/-- walking it: an invariant over (turn, slots, heap) -/
theorem for_enumT {K : PySem.W.Frag} {a : Addr} {xs : List V} {g : TG} {tb : TS} {D : Ends} {σ : L2.St} {H : Hp} (Pv : Nat → L2.St → Hp → Prop) (h0 : Pv 0 σ H) (hl : ∀ i σ H, i ≤ xs.length → Pv i σ H → SqT K H a xs)
    (hs : ∀ i x σ H, xs[i]? = some x → Pv i σ H → ∀ T, H T = none → g (.ref T) σ (upd H T (.tup [.int (i : Nat), x])) fun σ2 H2 => tb { D with nx := Pv (i + 1), ct := Pv (i + 1), bk := D.nx } σ2 H2) (hd : ∀ σ H, Pv xs.length σ H → D.nx σ H) :
    ∃ W : Nat → Nat → L2.St → Hp → Prop, (∃ m, W 0 m σ H) ∧ ∀ i m σ H, W i m σ H →
      (((ItEt K a).stop i H ∧ D.nx σ H) ∨ ((ItEt K a).go i H ∧ ∃ N : L2.St → Hp → Prop, (∀ σ' H', N σ' H' → ∃ m', m' < m ∧ W (i + 1) m' σ' H') ∧ ∀ x H', (ItEt K a).yld i H x H' → g x σ H' fun σ2 H2 => tb { D with nx := N, ct := N, bk := D.nx } σ2 H2)) := by
  refine ⟨fun i m σ H => i + m = xs.length ∧ Pv i σ H, ⟨xs.length, by omega, h0⟩, ?_⟩
  rintro i m σ H ⟨em, hp⟩
  have hq := hl i σ H (by omega) hp
  by_cases hi : i < xs.length
  · right
    refine ⟨⟨xs, xs[i], hq, List.getElem?_eq_getElem hi⟩, Pv (i + 1), fun σ' H' z => ⟨m - 1, by omega, by omega, z⟩, ?_⟩
    rintro x H' ⟨T, y, rfl, nT, rfl, f⟩
    exact hs i y σ H (f xs hq) hp T nT
  · left
    have e : i = xs.length := by omega
    subst e
    exact ⟨⟨xs, hq, rfl⟩, hd σ H hp⟩
end Lx

set_option Elab.async false
set_option linter.all false
set_option maxRecDepth 100000
set_option maxHeartbeats 4000000
/-! exceptions: several clauses that name the error; isinstance of a caught error that bears fields; raise of an error with one field -/
namespace Lx
open PySem PySem.Spec PyProof.Rows L2

/-! ### several clauses, each «except x as n» -/
abbrev Suite := Addr → Value → Option Addr → TS
def endsNone (D : Ends) (i : Nat) : Ends := { nx := fun σ H => D.nx (σ.set i none) H, rt := D.rt, bk := fun σ H => D.bk (σ.set i none) H, ct := fun σ H => D.ct (σ.set i none) H }
def wClauses (K : PySem.W.Frag) (Wout : WX) (D : Ends) : List (Value × Nat × Suite) → WX
  | [] => Wout
  | (c, i, ts) :: r => fun cls d σ H => ∃ b, PySem.W.exmOne K cls c = some b ∧ (b = true → ∀ a, H a = none → ts a cls d (endsNone D i) (σ.set i (some (.ref a))) H) ∧ (b = false → wClauses K Wout D r cls d σ H)
inductive Clauses (X : Cx) : List ExceptHandler → List (Value × Nat × Suite) → Prop
  | nil : Clauses X [] []
  | cons {x n : Str} {c : Value} {i : Nat} {ts : Suite} {b0 : Stmt} {suite : List Stmt} {p1 p2 : Pos} {hds : List ExceptHandler} {l : List (Value × Nat × Suite)} (hc : Names X x c) (hi : X.N[i]? = some n) (hl : X.env.kindOf n = some .local)
      (hsu : ∀ (a : Addr) (oe : Obj) (cls : Value) (d : Option Addr) (pn : List (Addr × Obj)), Zc cls d oe → (∃ vs, oe.data = .fields vs) → PSs (X.suite a ((a, oe) :: pn)) (b0 :: suite) (ts a cls d)) (r : Clauses X hds l) :
      Clauses X (.ExceptHandler (some (.Name x p1)) (some n) (b0 :: suite) p2 :: hds) ((c, i, ts) :: l)


/-- the error at a flies; beneath it the frame stands as it did -/
structure Air (X : Cx) (pins : List (Addr × Obj)) (σ : L2.St) (H : Hp) (sI : Shared) (a : Addr) (B : Heap) (cls : Value) (d : Option Addr) (s : Shared) : Prop where
  J : Inv X pins σ H sI
  nb : ∀ b o, sI.heap.get? b = some o → b ∉ frs X.stack → B.get? b = some o
  up : sI.heap.UpToSlots s.heap
  fl : HandSPX.FlyingZ B (X.env :: X.outer) a (Zc cls d) s.heap
  na : H a = none
  os : s.os = sI.os
  ag : AllBare s.gens
section
variable {X : Cx} {pins : List (Addr × Obj)} {σ : L2.St} {H : Hp} {s sI : Shared} {D : Ends} {Wout : WX} {a : Addr} {B : Heap} {cls : Value} {d : Option Addr}
theorem Air.on (A : Air X pins σ H sI a B cls d s) {h : Heap} (f : HandSPX.FlyingZ B (X.env :: X.outer) a (Zc cls d) h) (u : s.heap.UpToSlots h) : Air X pins σ H sI a B cls d { s with heap := h } :=
  ⟨A.J, A.nb, A.up.trans u, f, A.na, A.os, A.ag⟩
theorem Air.inv (A : Air X pins σ H sI a B cls d s) : Inv X pins σ H s := A.J.landed A.nb A.fl.1 A.up A.os A.ag
theorem Air.suite (A : Air X pins σ H sI a B cls d s) (hf : X.env.frame = some X.env.locals) : ∃ oe, s.heap.get? a = some oe ∧ Zc cls d oe ∧ (∃ vs, oe.data = .fields vs) ∧ Inv (X.suite a ((a, oe) :: (X.pn ++ pins))) [] σ H s := by
  obtain ⟨oe, vs, he, hz, hd⟩ := A.fl.there
  have nfr : a ∉ frs (X.env :: X.outer) := by
    intro hm
    obtain ⟨_, o', e', hnf⟩ := A.fl.2.2.1.mem hm
    rw [he] at e'
    cases e'
    exact hnf _ hd
  have m1 : X.env.locals ∈ frs (X.env :: X.outer) := List.mem_filterMap.mpr ⟨X.env, List.mem_cons_self, by rw [hf]⟩
  have m2 : ∀ b ∈ X.fs, b ∈ frs (X.env :: X.outer) := fun b hb => by
    obtain ⟨e, h1, h2⟩ := List.mem_filterMap.mp hb
    exact List.mem_filterMap.mpr ⟨e, List.mem_cons_of_mem _ h1, h2⟩
  exact ⟨oe, he, hz, ⟨vs, hd⟩, A.inv.suite he hd A.na (fun z => nfr (z ▸ m1)) fun z => nfr (m2 a z)⟩

theorem clauses_run (hs : X.stack = X.env :: X.outer) (hf : X.env.frame = some X.env.locals) (hN : X.N.Nodup) (tk : Takes X Wout) {hds : List ExceptHandler} {l : List (Value × Nat × Suite)} (C : Clauses X hds l) :
    ∀ {s : Shared}, Air X pins σ H sI a B cls d s → wClauses X.K Wout D l cls d σ H → wpAny (model X.prog X.w) X.A (handleBy (.ref a) X.env hds) (SP X pins D) X.xe s := by
  induction C with
  | nil =>
    intro s A w
    apply wpAny_handleBy_nil
    obtain ⟨k1, k2, k3, oe, vs, T, oT, ts', he, hz, hd, h1, hr⟩ := A.fl
    unfold PySem.passOn
    apply wpAny_bind
    apply wpAny_field he hd h1
    rw [if_neg (by simp)]
    have fin : wpAny (model X.prog X.w) X.A (setFlight (.ref a) X.env.frame) (fun _ s4 => wpAny (model X.prog X.w) X.A (throw (.ref a) : Sem Flow) (SP X pins D) X.xe s4) X.xe s := by
      rw [hf]
      exact HandSPX.setFlight_upZ A.fl fun h4 hh up4 => wpAny_throw (tk _ _ ⟨a, B, sI, pins, σ, H, cls, d, rfl, A.J, A.nb, A.up.trans up4, .inr (.inr (by rw [hs]; exact hh)), A.na, A.os, A.ag, w⟩)
    first
      | exact wpAny_bind fin
      | exact wpAny_bind (wpAny_pure (wpAny_bind fin))
  | @cons x n c i ts b0 suite p1 p2 hds l hc hi hl hsu r ih =>
    rintro s A ⟨b, hb, yes, no⟩
    obtain ⟨oe, he, hz, hd, S⟩ := A.suite hf
    refine wpAny_handleBy_cons (codeAny_handlers_test ?_) (by intro q; cases q)
    have ty : PySem.W.Looks (model X.prog X.w) s.heap (typeOf (.ref a)) cls := fun A Q E s' k q => wpAny_typeOf_ref (k _ _ he) (by rw [hz.1]; exact q)
    have mt := PySem.W.exm_one (M := model X.prog X.w) A.inv.kIn ty hb
    have cl : ∀ {Q : Value → Shared → Prop} {E : Value → Shared → Prop}, Q c s → wpAny (model X.prog X.w) (X.A.mark (some (.ref a))) (eval (.Name x p1) X.env) Q E s := fun {Q E} q => by
      obtain ⟨g1, g2, g3 | ⟨g3, g4, g5⟩⟩ := hc
      · exact ld_glob (X := X.suite a ((a, oe) :: (X.pn ++ pins))) S g1 g3 q g2
      · exact ld_blt (X := X.suite a ((a, oe) :: (X.pn ++ pins))) S g1 g3 g4 q g5 g2
    apply cl
    apply mt.here
    cases b with
    | false => exact ih A (no rfl)
    | true =>
      apply codeAny_handlers_suite_as
      apply HandSPX.lands_againZ A.fl
      intro h4 fl4 up4
      have A4 := A.on fl4 up4
      obtain ⟨oe4, he4, hz4, hd4, S4⟩ := A4.suite hf
      apply store_ok (X := X.suite a ((a, oe4) :: (X.pn ++ pins))) (v := .ref a) S4 hN hi (.inl hl) rfl ?_ (.inr hl)
      intro s5 S5
      refine wpAny_mono ((hsu a oe4 cls d (X.pn ++ pins) hz4 hd4).run [] s5 _ H _ S5 (yes rfl a A.na)) ?_ (fun _ _ z => False.elim z)
      have fin : ∀ {σ6 : L2.St} {H6 : Hp} {s6 : Shared} {Q : Shared → Prop}, Inv (X.suite a ((a, oe4) :: (X.pn ++ pins))) [] σ6 H6 s6 → (∀ s7, Inv X pins (σ6.set i none) H6 s7 → Q s7) →
          wpAny (model X.prog X.w) X.A (do bindName X.env n .none; unbindBehindTheSuite X.env n p2) (fun _ s7 => Q s7) X.xe s6 := fun S6 hq => gone_ok (S6.unsuite A.J.ok) hN hi hl hq
      rintro (_ | _ | _ | u) s6 hsp
      · obtain ⟨σ6, H6, S6, q6⟩ := hsp
        exact fin S6 fun s7 J7 => ⟨_, _, J7, q6⟩
      · obtain ⟨σ6, H6, S6, q6⟩ := hsp
        exact fin S6 fun s7 J7 => ⟨_, _, J7, q6⟩
      · obtain ⟨σ6, H6, S6, q6⟩ := hsp
        exact fin S6 fun s7 J7 => ⟨_, _, J7, q6⟩
      · obtain ⟨v6, σ6, H6, S6, r6, q6⟩ := hsp
        exact fin S6 fun s7 J7 => ⟨_, _, _, J7, r6, q6⟩

theorem ps_try_clauses {body : List Stmt} {h0 : ExceptHandler} {hds : List ExceptHandler} {l : List (Value × Nat × Suite)} {pos : Pos} {tb : WX → TS} (hs : X.stack = X.env :: X.outer) (hf : X.env.frame = some X.env.locals) (hN : X.N.Nodup) (tk : Takes X Wout)
    (hb : ∀ (W : WX) (pn : List (Addr × Obj)) (xe : Value → Shared → Prop), Takes (X.tr pn xe) W → PassesOwn (model X.prog X.w) X.A X.env xe → PSs (X.tr pn xe) body (tb W)) (C : Clauses X (h0 :: hds) l) :
    PS X (.Try body (h0 :: hds) [] [] pos) (fun D σ H => tb (wClauses X.K Wout D l) D σ H) := by
  constructor
  intro pins s σ H D I h
  have ok := I.ok
  apply wpAny_Try_except
  refine wpAny_mono ((hb (wClauses X.K Wout D l) (X.pn ++ pins) _ ?_ PassesOwn.looking).run [] s σ H D (I.toTry _) h) ?_ (fun e s1 he => he)
  · rintro u s' ⟨a, B, sI, pins', σ', H', cls, d, rfl, J', nb, up, sky, na, os, ag, w⟩
    show wpAny (model X.prog X.w) X.A (noteFrame (.ref a) X.env) _ _ _
    apply Sky.land Zc.steady (by rw [ok.frames, hs]) hf (by rw [← hs]; exact sky)
    intro h3 fl3 up3
    exact clauses_run hs hf hN tk C ⟨J'.ofTry ok, nb, up.trans up3, fl3, na, os, ag⟩ w
  · rintro (_ | _ | _ | u) s1 hsp
    · obtain ⟨σ', H', J', q⟩ := hsp
      exact wpAny_execs_nil ⟨σ', H', J'.ofTry ok, q⟩
    · obtain ⟨σ', H', J', q⟩ := hsp
      exact ⟨σ', H', J'.ofTry ok, q⟩
    · obtain ⟨σ', H', J', q⟩ := hsp
      exact ⟨σ', H', J'.ofTry ok, q⟩
    · obtain ⟨v, σ', H', J', r, q⟩ := hsp
      exact ⟨v, σ', H', J'.ofTry ok, r, q⟩
end
end Lx

set_option Elab.async false
set_option linter.all false
set_option maxRecDepth 100000
set_option maxHeartbeats 4000000
/-! isinstance of a caught error that bears fields; raise of an error whose __init__ stores one field -/
namespace PySem.W
open PySem PySem.Spec PySem.Calls PyProof.Rows L2
theorem found_data {K : Frag} {C : Addr} {od : Option Obj} {name : Str} {a g : Value} (hc : (clsIn K C).isSome = true) (ha : findIn K (.ref C) name = some (some a)) (hg : specialIn K a "__get__" = some (some g)) (ht : takesIn K a = some true) :
    findObj K C od name = some (.bind g a) := by
  cases hq : clsIn K C with
  | none => rw [hq] at hc; cases hc
  | some cd => simp [findObj, hq, ha, hg, ht]
theorem exc_class_attr {prog : Program} {w : World} {A : Around} {E : Value → Shared → Prop} {s : Shared} {K : Frag} {x D : Addr} {ox : Obj} {od : Option Obj} {Q : Option Value → Shared → Prop} (C : ExcC K D) (X : K.In s.heap) (I : InstAt s.heap x ox D od)
    (h : Q (some (.ref D)) { s with toks := s.toks + 1 }) : wpAny (model prog w) A (getAttr? (.ref x) "__class__") Q E s := by
  have hc : (clsIn K D).isSome = true := by
    obtain ⟨cd, z, _⟩ := any_some C.hd
    rw [z]
    rfl
  have ff := found_data (od := od) hc C.ha C.hn C.ht
  obtain ⟨hp, g, d, t, os⟩ := s
  have l0 := I.type (M := model prog w)
  have l1 := looks_findIn (M := model prog w) X C.hg
  have l2 := looks_findIn (M := model prog w) X C.hk
  have l3 := looks_find (M := model prog w) X I ff
  have isExc : Looks (model prog w) hp (isInstance (.ref x) (.type "BaseException")) true := l0.andThen (looks_subIn X C.hs)
  have z0 : (false && onTheHeap (Value.builtin "BaseException.__getattribute__")) = false := rfl
  have z1 : (onTheHeap (Value.ref D) && Value.builtin "BaseException.__getattribute__" == Value.builtin "object.__getattribute__") = false := by
    rw [show (Value.builtin "BaseException.__getattribute__" == Value.builtin "object.__getattribute__") = false by decide +kernel, Bool.and_false]
  unfold getAttr? getAttrBy? getAttrBy
  apply wpAny_bind
  apply wpAny_mkText
  apply wpAny_bind
  apply wpAny_attempt
  apply wpAny_holding
  apply wpAny_bind
  apply l0.at
  apply wpAny_bind
  apply l1.at
  show wpAny _ _ (if (onTheHeap (Value.ref D) && Value.builtin "BaseException.__getattribute__" == Value.builtin "object.__getattribute__") = true then _ else _) _ _ _
  rw [z1, if_neg Bool.false_ne_true]
  unfold getAttrByItsOwn hookBefore
  apply wpAny_bind
  rw [if_pos (show onTheHeap (Value.ref D) = true from rfl)]
  apply l2.at
  apply wpAny_bind
  apply wpAny_attempt
  apply wpAny_holding
  unfold callGetattribute
  rw [z0, if_neg Bool.false_ne_true]
  unfold boundAndCalled
  rw [PySem.F.excAttr_ValueError.ga.bind (.ref x)]
  apply wpAny_bind
  apply wpAny_pure
  show wpAny _ _ (call (.builtin "BaseException.__getattribute__") [.ref x, .str "__class__" t]) _ _ _
  apply wpAny_call
  apply codeAny_call_builtin PySem.F.excAttr_ValueError.ga.plain PySem.F.entry_bexc_ga
  refine @check_slot (model prog w) _ _ ⟨hp, g, d, t + 1, os⟩ "BaseException.__getattribute__" "BaseException" "__getattribute__" (.ref x) [.str "__class__" t] [] _ (by decide +kernel) (by decide +kernel) isExc (PySem.F.args_bexc_ga (.ref x) (.str "__class__" t)) ?_
  unfold Builtin.«object.__getattribute__»
  refine wpAny_bind (wpAny_of_eq (a := ((Value.ref x : Value), [Value.str "__class__" t])) (by first | rfl | (simp only [slotArgs]; rfl)) ?_)
  apply wpAny_bind
  apply wpAny_pure
  apply wpAny_bind
  apply l0.at
  apply wpAny_bind
  apply l3.at
  show wpAny _ _ (holding [Value.builtin "object.__class__"] (call (.builtin "getset_descriptor.__get__") [.builtin "object.__class__", .ref x, .ref D]) >>= ret) _ _ _
  apply wpAny_bind
  apply wpAny_holding
  apply wpAny_call
  apply class_get (s := ⟨hp, g, d, t + 1, os⟩) (ox := ox) (od := od) X I C.hm
  apply wpAny_pure
  show wpAny _ _ (handedOut (.ref D)) _ _ _
  rw [handedOut_of (v := .ref D) rfl]
  first
    | exact wpAny_pure (wpAny_pure h)
    | exact wpAny_pure h
    | exact wpAny_pure (wpAny_bind (wpAny_pure (wpAny_pure h)))
theorem kit_exc {K : Frag} {x D : Addr} {ox : Obj} {od : Option Obj} (C : ExcC K D) : KitX K (.ref x) (.ref D) (fun h => InstAt h x ox D od) := by
  have ex : ∃ o : Obj, K.lookup D = some o ∧ (∃ c d cd sl, o = ⟨c, d, .cls cd, sl⟩) := by
    obtain ⟨cd, hc, _⟩ := any_some C.hd
    unfold clsIn at hc
    split at hc
    · rename_i c' d' cd' sl' ho
      exact ⟨_, ho, _, _, _, _, rfl⟩
    · cases hc
  refine { ty := fun _ _ _ I => I.type, it := ?_, ne := ?_, ca := fun X I k => exc_class_attr C X I k }
  · intro M h X I A' Q' E' s' k q
    obtain ⟨o, ho, c, d, cd, sl, rfl⟩ := ex
    unfold isType loadHead
    exact wpAny_bind (wpAny_loadPart (k _ _ (X _ _ ho)) (wpAny_pure q))
  · intro h tp dd its n sl X htp
    obtain ⟨o, ho, c, d, cd, sl2, rfl⟩ := ex
    apply Bool.eq_false_iff.mpr
    intro q
    have e : D = tp := Value.ref.inj (beq_iff_eq.mp q)
    subst e
    have z := (X _ _ ho).symm.trans htp
    cases z
end PySem.W
namespace Lx
open PySem PySem.Spec PyProof.Rows L2
/-- isinstance(e, c), e the exception that the suite holds, its fields in the dict at dd -/
def rIsF (K : PySem.W.Frag) (D a dd : Addr) : List V → Hp → VK → Prop := fun xs H Q => ∃ (c : V) (cv : Value) (b : Bool) (fs : List (Str × V)), xs = [.ref a, c] ∧ (∀ u, RelV c u → u = cv) ∧ PySem.W.kitOne K (.ref D) cv = some b ∧ H dd = some (.xd fs) ∧ Q (.bl b) H
theorem call_isF {X : Cx} {a D dd : Addr} {oe : Obj} {pn : List (Addr × Obj)} (C : ExcC X.K D) (hz : Zc (.ref D) (some dd) oe) (hf : ∃ vs, oe.data = .fields vs) : CallR (X.suite a ((a, oe) :: pn)) (.builtin "isinstance") (rIsF X.K D a dd) := by
  rintro pins s σ H xs us Q I r ⟨c, cv, b, fs, rfl, hcv, e, hd, q⟩
  obtain ⟨u1, u2, rfl, r1, r2⟩ := vals2 r
  cases r1
  have ec := hcv _ r2
  subst ec
  obtain ⟨hget, _⟩ := I.pin (a, oe) (List.mem_append.mpr (.inl List.mem_cons_self))
  obtain ⟨mA, hns, _⟩ := (show ObjOk X.prog X.w H s.heap dd (.xd fs) from I.hok dd _ hd)
  obtain ⟨od, ho, _⟩ := lookIn_ns hns
  have J : PySem.W.InstAt s.heap a oe D (some od) := by
    obtain ⟨vs, hv⟩ := hf
    obtain ⟨h1, h2⟩ := hz
    obtain ⟨oc, odx, oda, osl⟩ := oe
    dsimp only at h1 h2 hv
    subst h1 h2 hv
    exact ⟨hget, rfl, rfl, ho⟩
  exact PySem.W.kia_one (PySem.W.kit_exc C) I.kIn J e (fun z => nomatch z) fun tk => ⟨.bl b, H, I.kept (t' := tk) fun _ _ z => z, rfl, q⟩

/-! ### an error class whose __init__ stores one field «at» -/
def errSp (C : Addr) (fld : Str) : Sp := fun vs H Q _ => ∃ a v, vs = [.ref a, v] ∧ H a = some (exo a C none) ∧ ∀ dx, H dx = none → dx ≠ a → Q .non (upd (upd H dx (exd dx [(fld, v)])) a (exo a C (some dx)))
/-- the class x over ValueError, at C -/
structure Err (P : Program) (w : World) (K : PySem.W.Frag) (mg : Str → Option Value) (base : Heap) (x fld : Str) (C : Addr) : Prop where
  T : OexC K C
  xf : XfC K C
  ec : ExcC K C
  no : PySem.W.findIn K (.ref C) fld = some none
  gC : mg x = some (.ref C)
  ini : ∃ fI fd k ps, PySem.W.findIn K (.ref C) "__init__" = some (some (.ref fI)) ∧ PySem.W.typeIn K (.ref fI) = some (.type "function") ∧ k ≤ 1 ∧ FnOk P w K mg base L2.CX0 k fI fd ps (errSp C fld) ∧ Binds K fd ps []
def tErr (C : Addr) (fld : Str) (W : WX) (te : TE) : TS := fun _ σ H => tMkO C (errSp C fld) [] (tCons te tNil) σ H fun cls d H' => W cls d σ H'
/-- behind the argument's reading -/
theorem err_in {C : Addr} {fld : Str} {v : V} {H1 : Hp} {Q : XK} (h : ∀ d H', Same H1 H' → H1 d = none → H' d = some (.xd [(fld, v)]) → Q (.ref C) (some d) H') :
    ([v] : List V).length ≤ 1000 ∧ ∀ a, H1 a = none → errSp C fld (.ref a :: ([v] ++ [])) (upd H1 a (exo a C none))
      (fun u H2 => u = .non ∧ ∃ (d : Addr) (fs : List (Str × V)), H2 a = some (exo a C (some d)) ∧ H2 d = some (exd d fs) ∧ H1 d = none ∧ Q (.ref C) (some d) (upd (del H2 a) d (.xd fs))) (fun _ _ _ => False) := by
  refine ⟨Nat.succ_le_succ (Nat.zero_le _), fun a na => ⟨a, v, rfl, upd_same, fun dx nd ne => ⟨rfl, dx, [(fld, v)], upd_same, ?_, ?_, ?_⟩⟩⟩
  · rw [upd_ne ne, upd_same]
  · rw [upd_ne ne] at nd
    exact nd
  · rw [upd_ne ne] at nd
    refine h dx _ (fun b o z => ?_) nd upd_same
    have n1 : b ≠ dx := ne_of_none z nd
    have n2 : b ≠ a := ne_of_none z na
    rw [upd_ne n1, del_ne n2, upd_ne n2, upd_ne n1, upd_ne n2]
    exact z
theorem ps_raiseErr {X : Cx} {C : Addr} {x fld : Str} {e : Expr} {te : TE} {W : WX} {p pos pos2 : Pos} (hc : X.calm = true) (Er : Err X.prog X.w X.K X.mg X.base x fld C) (hr : Room 2 X.A) (tk : Takes X W) (he : PE X e te) (hg : Gl X x := by rfl)
    (hdb : (x == ("__debug__" : Str)) = false := by decide) (h1 : starEach [e] X.env = (false, eval e X.env) :: starEach [] X.env := by rfl) (h2 : (backTo pos (starEach [] X.env)).any (·.1) = false := by rfl) :
    PS X (.Raise (some (.Call (.Name x p) [e] [] pos)) none pos2) (tErr C fld W te) := by
  obtain ⟨fI, fd, k, ps, i1, i2, hk, F1, hb⟩ := Er.ini
  exact ps_raise (pos := pos2) hc tk (pmk_oex (p := p) (dvs := []) (ds := []) Er.T i1 i2 F1 (hr.mono (by omega)) hb .nil pass0 hg Er.gC (pa_cons he pa_nil h1) hdb h1 h2)
/-- the class's own __init__ -/
theorem ok_errInit {P : Program} {w : World} {K : PySem.W.Frag} {mg : Str → Option Value} {base : Heap} {qual fld : Str} {C f : Addr} {fd : FuncData} {st : Stmt} {k0 : Nat} {p1 p2 p3 p4 : Pos} (T : OexC K C) (no : PySem.W.findIn K (.ref C) fld = some none)
    (F : Fun K "__init__" qual st f fd) (S : FnScope ["self", fld] ["self", fld] (defScope st)) (hB : defBody st = [.Assign [.Attribute (.Name "self" p1) fld p2] (.Name fld p3) p4]) (hd : (fld == ("__debug__" : Str)) = false) (hcd : (fld == ("__classdict__" : Str)) = false)
    (v1 : Vis (defScope st) "self") (v2 : Vis (defScope st) fld) (hsw : ∀ X : Cx, swapsWith (.Name fld p3) (some (.Attribute (.Name "self" p1) fld p2)) p4.line X.env = pure false) : FnOk P w K mg base L2.CX0 1 f fd ["self", fld] (errSp C fld) := by
  apply F.ok S
  · rintro vs H Q E ⟨a, v, rfl, _⟩
    rfl
  · rintro cdv A outer s H vs Q E hr ⟨a, v, rfl, ha, h⟩
    rw [hB]
    refine ⟨_, pss_one (ps_ost (pe_var (i := 0) rfl v1) (pe_var (i := 1) rfl v2 hd hcd) (hsw _)), ?_⟩
    exact ⟨v, rfl, .ref a, rfl, a, C, rfl, T, no, .inl ⟨ha, h⟩⟩
end Lx

set_option Elab.async false
set_option linter.all false
set_option maxRecDepth 100000
set_option maxHeartbeats 4000000
/-! short words: a def by its name; values of a known kind; what stays -/
namespace Lx
open PySem PySem.Spec PyProof.Rows L2

/-- the def x keeps sp -/
structure Has (P : Program) (w : World) (K : PySem.W.Frag) (mg : Str → Option Value) (base : Heap) (CX : CXT) (k : Nat) (x : Str) (ps : List Str) (sp : Sp) : Prop where
  ex : ∃ f fd, mg x = some (.ref f) ∧ PySem.W.keepIn K (.ref f) = true ∧ Binds K fd ps [] ∧ FnOk P w K mg base CX k f fd ps sp
structure HasG (P : Program) (w : World) (K : PySem.W.Frag) (mg : Str → Option Value) (base : Heap) (k : Nat) (x : Str) (ps : List Str) (sp : Sp) : Prop where
  ex : ∃ f fd, mg x = some (.ref f) ∧ PySem.W.keepIn K (.ref f) = true ∧ Binds K fd ps [] ∧ FnOkG P w K mg base L2.CX0 k f fd ps sp
section
variable {X : Cx} {k : Nat} {x : Str} {ps : List Str} {sp : Sp} {e : Expr} {es : List Expr} {p pos : Pos} {t : TA}
theorem pe_has (F : Has X.prog X.w X.K X.mg X.base L2.CX0 k x ps sp) (hr : Room k X.A) (hg : Gl X x) (ha : PA X (e :: es) t)
    (hdb : (x == ("__debug__" : Str)) = false := by decide) (he : starEach (e :: es) X.env = (false, eval e X.env) :: starEach es X.env := by rfl) (hpl : (backTo pos (starEach es X.env)).any (·.1) = false := by rfl) :
    PE X (.Call (.Name x p) (e :: es) [] pos) (tCall sp [] L2.E0 t) := by
  obtain ⟨f, fd, h1, h2, h3, h4⟩ := F.ex
  exact pe_callC (Lx.FnOk.callee h4 hr pass0) hg h1 h2 h3 ha hdb he hpl
theorem pe_hasG (F : HasG X.prog X.w X.K X.mg X.base k x ps sp) (hr : Room k X.A) (hgd : X.A.guards = some []) (hg : Gl X x) (ha : PA X (e :: es) t)
    (hdb : (x == ("__debug__" : Str)) = false := by decide) (he : starEach (e :: es) X.env = (false, eval e X.env) :: starEach es X.env := by rfl) (hpl : (backTo pos (starEach es X.env)).any (·.1) = false := by rfl) :
    PE X (.Call (.Name x p) (e :: es) [] pos) (tCall sp [] L2.E0 t) := by
  obtain ⟨f, fd, h1, h2, h3, h4⟩ := F.ex
  exact pe_callC (Lx.FnOkG.callee h4 hr hgd pass0) hg h1 h2 h3 ha hdb he hpl
/-- a def that may raise: E what is wished of the error -/
theorem pe_hasX {E : XK} {W : WX} (F : Has X.prog X.w X.K X.mg X.base (L2.CX X.prog X.w) k x ps sp) (hr : Room k X.A) (tk : Takes X W) (hW : ∀ cls d σ H, E cls d H → W cls d σ H) (hg : Gl X x) (ha : PA X (e :: es) t)
    (hdb : (x == ("__debug__" : Str)) = false := by decide) (he : starEach (e :: es) X.env = (false, eval e X.env) :: starEach es X.env := by rfl) (hpl : (backTo pos (starEach es X.env)).any (·.1) = false := by rfl) :
    PE X (.Call (.Name x p) (e :: es) [] pos) (tCall sp [] E t) := by
  obtain ⟨f, fd, h1, h2, h3, h4⟩ := F.ex
  exact pe_callC (Lx.FnOk.callee h4 hr (passes_call tk hW)) hg h1 h2 h3 ha hdb he hpl
end

/-! ### what stays -/
theorem sameT {K : PySem.W.Frag} {H H' : Hp} {a : Addr} {xs : List V} (e : Same H H') (h : SqT K H a xs) : SqT K H' a xs := by
  rcases h with (h | ⟨o, h⟩) | h
  · exact .inl (.inl (e _ _ h))
  · exact .inl (.inr ⟨o, e _ _ h⟩)
  · exact .inr h
theorem same_new {H : Hp} {p : Addr} {o : HO} (h : H p = none) : Same H (upd H p o) := fun b x e => by
  rw [upd_ne (ne_of_none e h)]
  exact e
mutual
theorem Same.dp {K : PySem.W.Frag} {H H' : Hp} (e : Same H H') : ∀ (d : PyData) (v : V), Dp K H v d → Dp K H' v d
  | .none, _, h => by cases h; exact .non
  | .bool b, _, h => by cases h; exact .bl b
  | .int i, _, h => by cases h; exact .int i
  | .str x, _, h => by cases h; exact .str x
  | .list ds, _, h => by
    cases h with
    | lst h1 h2 => exact .lst (e.seq h1) (Same.dps e ds _ h2)
  | .tuple ds, _, h => by
    cases h with
    | tup h1 h2 => exact .tup (sameT e h1) (Same.dps e ds _ h2)
  | .dict _, _, h => by cases h
theorem Same.dps {K : PySem.W.Frag} {H H' : Hp} (e : Same H H') : ∀ (ds : List PyData) (vs : List V), DpAll K H vs ds → DpAll K H' vs ds
  | [], _, h => by cases h; exact .nil
  | d :: ds, _, h => by
    cases h with
    | cons h1 h2 => exact .cons (Same.dp e d _ h1) (Same.dps e ds _ h2)
end

theorem walk_enumT {K : PySem.W.Frag} {a : Addr} {xs : List V} : Walk (ItEt K a) xs.length (fun H => SqT K H a xs) (YPair (fun i => some (.int (i : Nat))) (fun i => xs[i]?)) := by
  constructor
  · intro i H hi q
    exact ⟨xs, xs[i], q, by simp [hi]⟩
  · intro H q
    exact ⟨xs, q, rfl⟩
  · rintro i H v H' hi q ⟨T, x, h1, h2, h3, h4⟩
    exact ⟨T, .int (i : Nat), x, h1, h2, h3, rfl, h4 xs q⟩

/-! ### values of a known kind -/
inductive Vk (K : PySem.W.Frag) (H : Hp) : V → Prop
  | non : Vk K H .non
  | bl (b : Bool) : Vk K H (.bl b)
  | int (i : Int) : Vk K H (.int i)
  | str (s : Str) : Vk K H (.str s)
  | lst {a : Addr} {xs : List V} : SqL K H a xs → Vk K H (.ref a)
  | tup {a : Addr} {xs : List V} : SqT K H a xs → Vk K H (.ref a)
theorem Vk.same {K : PySem.W.Frag} {H H' : Hp} {v : V} (h : Vk K H v) (e : Same H H') : Vk K H' v := by
  cases h with
  | non => exact .non
  | bl b => exact .bl b
  | int i => exact .int i
  | str s => exact .str s
  | lst h => exact .lst (e.seq h)
  | tup h => exact .tup (sameT e h)
theorem ty_list {K : PySem.W.Frag} {H : Hp} {a : Addr} {xs : List V} (h : SqL K H a xs) : TyX K H (.ref a) (.type "list") := by
  rcases h with (h | ⟨o, h⟩) | ⟨o, its, n, h, hc, _⟩
  · exact .base (.lst h)
  · exact .base (.frz h)
  · exact .kList h hc
theorem ty_tuple {K : PySem.W.Frag} {H : Hp} {a : Addr} {xs : List V} (h : SqT K H a xs) : TyX K H (.ref a) (.type "tuple") := by
  rcases h with (h | ⟨o, h⟩) | ⟨o, its, n, h, hc, _⟩
  · exact .base (.tup h)
  · exact .fTuple h
  · exact .kTuple h hc
def tyName : V → String
  | .non => "NoneType"
  | .bl _ => "bool"
  | .int _ => "int"
  | .str _ => "str"
  | _ => "list"
/-- what is no int and no bool by its kind -/
def isI : V → Bool
  | .int _ => true
  | .bl _ => true
  | _ => false
def isB : V → Bool
  | .bl _ => true
  | _ => false
/-- the ints from lo to hi -/
def numV (v : V) (lo hi : Int) : Bool := match v with
  | .int i => decide (lo ≤ i) && decide (i ≤ hi)
  | _ => false
theorem Vk.asInt {K : PySem.W.Frag} {H : Hp} {v : V} (h : Vk K H v) : ∃ t, TyX K H v t ∧ PySem.W.kitOne K t (.type "int") = some (isI v) := by
  cases h with
  | non => exact ⟨_, .base .non, kit_ty (r := false) (by decide +kernel)⟩
  | bl b => exact ⟨_, .base (.bl b), kit_ty (r := true) (by decide +kernel)⟩
  | int i => exact ⟨_, .base (.int i), kit_ty (r := true) (by decide +kernel)⟩
  | str s => exact ⟨_, .base (.str s), kit_ty (r := false) (by decide +kernel)⟩
  | lst h => exact ⟨_, ty_list h, kit_ty (r := false) (by decide +kernel)⟩
  | tup h => exact ⟨_, ty_tuple h, kit_ty (r := false) (by decide +kernel)⟩
theorem Vk.asBool {K : PySem.W.Frag} {H : Hp} {v : V} (h : Vk K H v) : ∃ t, TyX K H v t ∧ PySem.W.kitOne K t (.type "bool") = some (isB v) := by
  cases h with
  | non => exact ⟨_, .base .non, kit_ty (r := false) (by decide +kernel)⟩
  | bl b => exact ⟨_, .base (.bl b), kit_ty (r := true) (by decide +kernel)⟩
  | int i => exact ⟨_, .base (.int i), kit_ty (r := false) (by decide +kernel)⟩
  | str s => exact ⟨_, .base (.str s), kit_ty (r := false) (by decide +kernel)⟩
  | lst h => exact ⟨_, ty_list h, kit_ty (r := false) (by decide +kernel)⟩
  | tup h => exact ⟨_, ty_tuple h, kit_ty (r := false) (by decide +kernel)⟩
/-- a list's or tuple's items -/
inductive Seq (K : PySem.W.Frag) (H : Hp) : V → List V → Prop
  | lst {a : Addr} {xs : List V} : SqL K H a xs → Seq K H (.ref a) xs
  | tup {a : Addr} {xs : List V} : SqT K H a xs → Seq K H (.ref a) xs
/-- none, a truth value, a number, a text -/
inductive Sca : V → Prop
  | non : Sca .non
  | bl (b : Bool) : Sca (.bl b)
  | int (i : Int) : Sca (.int i)
  | str (s : Str) : Sca (.str s)
theorem Sca.vk {K : PySem.W.Frag} {H : Hp} {v : V} (h : Sca v) : Vk K H v := by
  cases h with
  | non => exact .non
  | bl b => exact .bl b
  | int i => exact .int i
  | str s => exact .str s
theorem Seq.vk {K : PySem.W.Frag} {H : Hp} {v : V} {xs : List V} (h : Seq K H v xs) : Vk K H v := by
  cases h with
  | lst h => exact .lst h
  | tup h => exact .tup h
theorem Seq.same {K : PySem.W.Frag} {H H' : Hp} {v : V} {xs : List V} (h : Seq K H v xs) (e : Same H H') : Seq K H' v xs := by
  cases h with
  | lst h => exact .lst (e.seq h)
  | tup h => exact .tup (sameT e h)
theorem kitLT {K : PySem.W.Frag} {a : String} {b1 b2 : Bool} (h1 : PySem.W.kitOne K (.type a) (.type "list") = some b1) (h2 : PySem.W.kitOne K (.type a) (.type "tuple") = some b2) :
    PySem.W.kitAny K (.type a) [.type "list", .type "tuple"] = some (b1 || b2) := by
  refine kitAny_cons h1 (fun e => ?_) (fun e => by rw [e]; rfl)
  subst e
  refine kitAny_cons h2 (fun e => ?_) (fun e => by rw [e]; rfl)
  subst e
  exact kitAny_nil
theorem Seq.kit {K : PySem.W.Frag} {H : Hp} {v : V} {xs : List V} (h : Seq K H v xs) : ∃ t, TyX K H v t ∧ PySem.W.kitAny K t [.type "list", .type "tuple"] = some true := by
  cases h with
  | lst h => exact ⟨_, ty_list h, kitLT (b1 := true) (b2 := false) (kit_ty (by decide +kernel)) (kit_ty (by decide +kernel))⟩
  | tup h => exact ⟨_, ty_tuple h, kitLT (b1 := false) (b2 := true) (kit_ty (by decide +kernel)) (kit_ty (by decide +kernel))⟩
theorem Sca.kit {K : PySem.W.Frag} {H : Hp} {v : V} (h : Sca v) : ∃ t, TyX K H v t ∧ PySem.W.kitAny K t [.type "list", .type "tuple"] = some false := by
  cases h with
  | non => exact ⟨_, .base .non, kitLT (b1 := false) (b2 := false) (kit_ty (by decide +kernel)) (kit_ty (by decide +kernel))⟩
  | bl b => exact ⟨_, .base (.bl b), kitLT (b1 := false) (b2 := false) (kit_ty (by decide +kernel)) (kit_ty (by decide +kernel))⟩
  | int i => exact ⟨_, .base (.int i), kitLT (b1 := false) (b2 := false) (kit_ty (by decide +kernel)) (kit_ty (by decide +kernel))⟩
  | str s => exact ⟨_, .base (.str s), kitLT (b1 := false) (b2 := false) (kit_ty (by decide +kernel)) (kit_ty (by decide +kernel))⟩
end Lx

set_option Elab.async false
set_option linter.all false
set_option maxRecDepth 100000
set_option maxHeartbeats 4000000
/-! a list or a tuple walked; comprehensions whose element leaves all as it was -/
namespace Lx
open PySem PySem.Spec PyProof.Rows L2

/-- a def that may raise, called where it does not -/
theorem pe_hasN {X : Cx} {k : Nat} {x : Str} {ps : List Str} {sp : Sp} {e : Expr} {es : List Expr} {p pos : Pos} {t : TA} (F : Has X.prog X.w X.K X.mg X.base (L2.CX X.prog X.w) k x ps sp) (hr : Room k X.A) (hg : Gl X x) (ha : PA X (e :: es) t)
    (hdb : (x == ("__debug__" : Str)) = false := by decide) (he : starEach (e :: es) X.env = (false, eval e X.env) :: starEach es X.env := by rfl) (hpl : (backTo pos (starEach es X.env)).any (·.1) = false := by rfl) :
    PE X (.Call (.Name x p) (e :: es) [] pos) (tCall sp [] L2.E0 t) := by
  obtain ⟨f, fd, h1, h2, h3, h4⟩ := F.ex
  exact pe_callC (Lx.FnOk.callee h4 hr passL) hg h1 h2 h3 ha hdb he hpl

/-- len of a list or a tuple, the written part named -/
def rLenS (K : PySem.W.Frag) : List V → Hp → VK → Prop := fun xs H Q => ∃ p ys, xs = [V.ref p] ∧ (SqL K H p ys ∨ SqT K H p ys) ∧ Q (V.int (ys.length : Nat)) H
theorem lenS {X : Cx} : CallR X (.builtin "len") (rLenS X.K) := call_len_seq

/-- tuple(x) of a list or a tuple, the written part named -/
def rTupOf (K : PySem.W.Frag) : List V → Hp → VK → Prop := fun xs H Q => ∃ p ys, xs = [V.ref p] ∧ ((SqL K H p ys ∧ ∀ l, H l = none → Q (V.ref l) (upd H l (.tup ys))) ∨ (SqT K H p ys ∧ Q (V.ref p) H))
theorem tupOf {X : Cx} : CallR X (.type "tuple") (rTupOf X.K) := call_tuple_of

/-- a list or a tuple -/
def iSeq (K : PySem.W.Frag) (tl : TE) : TI := fun σ H R => tl σ H fun x H1 => ∃ a, x = .ref a ∧ ((∃ xs, SqL K H1 a xs ∧ R (Itl K a) H1) ∨ (∃ xs, SqT K H1 a xs ∧ R (Itt K a) H1))
theorem pi_seq {X : Cx} {tg l : Expr} {tl : TE} (hl : PE X l tl) : PI X tg l (iSeq X.K tl) := by
  constructor
  intro pins s σ H R I h
  apply thn (hl.run pins s σ H _ I h)
  rintro v s1 ⟨x, H1, I1, r1, a, rfl, q⟩
  cases r1
  have fpo : ∀ b ∈ [s1.heap.objs.size], FpOk X pins H1 b := fun b hb => by
    obtain rfl : b = s1.heap.objs.size := by simpa using hb
    exact I1.fpOk (Nat.le_refl _) (I1.hok.fresh (Nat.le_refl _))
  rcases q with ⟨xs, hq, q⟩ | ⟨xs, hq, q⟩
  · obtain ⟨its, rv, p, hz⟩ := I1.list hq
    exact wpAny_pyIter_list p.isList ⟨s1.heap.objs.size, [s1.heap.objs.size], _, _, H1, rfl, I1.kept (t' := s1.toks) fun b o e => Heap.get?_push_of_some _ e, turn_list a _, ⟨_, Heap.get?_push_size _ rfl, rfl, rfl⟩, fpo, q⟩
  · obtain ⟨its, rv, p, hz⟩ := I1.tuple hq
    exact wpAny_pyIter_tuple (show s1.heap.IsTuple a its.toArray from p) ⟨s1.heap.objs.size, [s1.heap.objs.size], _, _, H1, rfl, I1.kept (t' := s1.toks) fun b o e => Heap.get?_push_of_some _ e, turn_tuple a _, ⟨_, Heap.get?_push_size _ rfl, rfl, rfl⟩, fpo, q⟩

theorem yes_in {σ : L2.St} {H : Hp} {A B : Hp → Prop} (h : A H) : tYes σ H (fun b H3 => if b = true then A H3 else B H3) := by
  show (if true = true then A H else B H)
  exact iteT h

/-- behind i turns the new list at D holds what f gives of the turns that p lets; all else is as it was -/
def PvF (p : Nat → Bool) (f : Nat → V) (H1 : Hp) (D : Addr) (i : Nat) (H : Hp) : Prop := Same H1 H ∧ H D = some (.lst (((List.range i).filter p).map f))
theorem pvf0 {p : Nat → Bool} {f : Nat → V} {H1 : Hp} {D : Addr} (n : H1 D = none) : PvF p f H1 D 0 (upd H1 D (.lst [])) := ⟨same_new n, upd_same⟩
theorem range_put (p : Nat → Bool) (f : Nat → V) (i : Nat) (h : p i = true) : ((List.range (i + 1)).filter p).map f = ((List.range i).filter p).map f ++ [f i] := by
  rw [List.range_succ, List.filter_append, List.map_append]
  simp [h]
theorem range_skip (p : Nat → Bool) (f : Nat → V) (i : Nat) (h : p i = false) : ((List.range (i + 1)).filter p).map f = ((List.range i).filter p).map f := by
  rw [List.range_succ, List.filter_append, List.map_append]
  simp [h]
theorem range_len (p : Nat → Bool) (f : Nat → V) (i : Nat) : (((List.range i).filter p).map f).length ≤ i := by
  rw [List.length_map]
  have := List.length_filter_le p (List.range i)
  rwa [List.length_range] at this
theorem pvf_put {p : Nat → Bool} {f : Nat → V} {H1 H H4 : Hp} {D : Addr} {i : Nat} {y : V} (n : H1 D = none) (h : PvF p f H1 D i H) (s : Same H H4) (hp : p i = true) (e : y = f i) (hi : i < 1000000) :
    ∃ acc, H4 D = some (.lst acc) ∧ acc.length < sizeLine ∧ PvF p f H1 D (i + 1) (upd H4 D (.lst (acc ++ [y]))) := by
  refine ⟨_, s _ _ h.2, ?_, fun b o z => ?_, ?_⟩
  · have := range_len p f i
    rw [sizeLine_eq]
    omega
  · rw [upd_ne (ne_of_none z n)]
    exact s _ _ (h.1 _ _ z)
  · rw [upd_same, range_put p f i hp, e]
theorem pvf_skip {p : Nat → Bool} {f : Nat → V} {H1 H H4 : Hp} {D : Addr} {i : Nat} (h : PvF p f H1 D i H) (s : Same H H4) (hp : p i = false) : PvF p f H1 D (i + 1) H4 :=
  ⟨h.1.trans s, by rw [range_skip p f i hp]; exact s _ _ h.2⟩
theorem filter_true (n : Nat) : (List.range n).filter (fun _ => true) = List.range n := List.filter_eq_self.mpr fun _ _ => rfl
theorem range_get {xs : List V} : (List.range xs.length).map (fun i => xs.getD i .non) = xs := by
  apply List.ext_getElem
  · simp
  · intro i h1 h2
    simp [h2]
theorem range_get_map {α : Type} {xs : List V} (g : V → α) : (List.range xs.length).map (fun i => g (xs.getD i .non)) = xs.map g := by
  apply List.ext_getElem
  · simp
  · intro i h1 h2
    have h3 : i < xs.length := by simpa using h1
    simp [h3]
end Lx

set_option Elab.async false
set_option linter.all false
set_option maxRecDepth 100000
set_option maxHeartbeats 4000000
/-! data: what repr and == ask of them -/
namespace Lx
open PySem PySem.Spec PyProof.Rows L2

structure Neat (d : PyData) (dep wt : Nat) : Prop where
  lay : d.canLay0 = true
  dep : d.depth ≤ dep
  wt : d.weight ≤ wt
  shw : d.showable = true
  nod : d.hasDict = false
  ls : d.leavesShort 13 = true
theorem Neat.mono {d : PyData} {a b a' b' : Nat} (h : Neat d a b) (h1 : a ≤ a') (h2 : b ≤ b') : Neat d a' b' := ⟨h.lay, by have := h.dep; omega, by have := h.wt; omega, h.shw, h.nod, h.ls⟩
theorem Neat.shaped {d : PyData} {a b : Nat} (h : Neat d a b) (h1 : a ≤ 64) : SeqAt.shaped d = true := by
  unfold SeqAt.shaped
  rw [h.lay, Bool.true_and, decide_eq_true_eq]
  have := h.dep
  omega
theorem log2_lt {n : Nat} (h : n < 10 ^ 12) : n.log2 < 1920 := by
  by_cases z : n = 0
  · subst z
    decide
  · rw [Nat.log2_lt z]
    exact Nat.lt_of_lt_of_le (Nat.lt_trans h (show 10 ^ 12 < 2 ^ 40 by decide)) (Nat.pow_le_pow_right (by decide) (by decide))
theorem neat_none : Neat .none 0 0 := ⟨rfl, Nat.le_refl _, Nat.le_refl _, rfl, rfl, rfl⟩
theorem neat_bool (b : Bool) : Neat (.bool b) 0 0 := ⟨rfl, Nat.le_refl _, Nat.le_refl _, rfl, rfl, rfl⟩
theorem neat_int {i : Int} (h : i.natAbs < 10 ^ 12) : Neat (.int i) 0 40 := by
  refine ⟨rfl, Nat.le_refl _, ?_, ?_, rfl, ?_⟩
  · show (if (i == 0) = true then 0 else i.natAbs.log2 + 1) ≤ 40
    split
    · omega
    · by_cases z : i.natAbs = 0
      · rw [z]
        decide
      · have := (Nat.log2_lt z (k := 40)).mpr (Nat.lt_trans h (by decide))
        omega
  · exact decide_eq_true (log2_lt h)
  · exact decide_eq_true (PyData.shown_int_le h)
theorem neat_all {ds : List PyData} {a b : Nat} (h : ∀ d ∈ ds, Neat d a b) : PyData.canLayAll0 ds = true ∧ PyData.depthAll ds ≤ a ∧ PyData.weightAll ds ≤ ds.length * (b + 1) ∧ PyData.showableAll ds = true ∧ PyData.hasDictAll ds = false ∧ PyData.leavesShortAll 13 ds = true := by
  induction ds with
  | nil => exact ⟨rfl, Nat.zero_le _, Nat.zero_le _, rfl, rfl, rfl⟩
  | cons d ds ih =>
    obtain ⟨i1, i2, i3, i4, i5, i6⟩ := ih fun x hx => h x (List.mem_cons_of_mem _ hx)
    have k := h d List.mem_cons_self
    refine ⟨?_, ?_, ?_, ?_, ?_, ?_⟩
    · show (d.canLay0 && PyData.canLayAll0 ds) = true
      rw [k.lay, i1]
      rfl
    · show max d.depth (PyData.depthAll ds) ≤ a
      have := k.dep
      omega
    · show d.weight + 1 + PyData.weightAll ds ≤ (ds.length + 1) * (b + 1)
      have := k.wt
      rw [Nat.add_mul]
      omega
    · show (d.showable && PyData.showableAll ds) = true
      rw [k.shw, i4]
      rfl
    · show (d.hasDict || PyData.hasDictAll ds) = false
      rw [k.nod, i5]
      rfl
    · show (d.leavesShort 13 && PyData.leavesShortAll 13 ds) = true
      rw [k.ls, i6]
      rfl
theorem neat_list {ds : List PyData} {a b : Nat} (h : ∀ d ∈ ds, Neat d a b) : Neat (.list ds) (a + 1) (ds.length * (b + 1)) := by
  obtain ⟨i1, i2, i3, i4, i5, i6⟩ := neat_all h
  exact ⟨i1, Nat.succ_le_succ i2, i3, i4, i5, i6⟩
theorem neat_tuple {ds : List PyData} {a b : Nat} (h : ∀ d ∈ ds, Neat d a b) : Neat (.tuple ds) (a + 1) (ds.length * (b + 1)) := by
  obtain ⟨i1, i2, i3, i4, i5, i6⟩ := neat_all h
  exact ⟨i1, Nat.succ_le_succ i2, i3, i4, i5, i6⟩
theorem neat_ints {ds : List Int} (h : ∀ d ∈ ds, d.natAbs < 10 ^ 12) : ∀ d ∈ ds.map PyData.int, Neat d 0 40 := fun d hd => by
  obtain ⟨i, hi, rfl⟩ := List.mem_map.mp hd
  exact neat_int (h i hi)
/-- what repr asks of a datum -/
structure RepOk (d : PyData) : Prop where
  ex : ∃ a b, Neat d a b ∧ a ≤ 64 ∧ b ≤ 2 ^ 20
theorem Neat.rep {d : PyData} {a b : Nat} (h : Neat d a b) (ha : a ≤ 64 := by decide) (hb : b ≤ 2 ^ 20 := by decide) : RepOk d := ⟨a, b, h, ha, hb⟩
def rRepr (K : PySem.W.Frag) : List V → Hp → VK → Prop := fun xs H Q => ∃ v d, xs = [v] ∧ Dp K H v d ∧ RepOk d ∧ Q (.str d.shown) H
theorem call_reprS {X : Cx} (hu : X.A.units + 200 < cLine) (hg : X.A.guards = some []) : CallR X (.builtin "repr") (rRepr X.K) := by
  rintro pins s σ H xs us Q I r ⟨v, d, rfl, hd, ⟨a, b, h, ha, hb⟩, q⟩
  refine call_reprD hu hg pins s σ H [v] us Q I r ⟨v, d, rfl, hd, h.shw, h.nod, Nat.le_trans h.dep ha, h.ls, Nat.le_trans h.wt hb, fun i e => ?_, q⟩
  have z := h.shw
  subst e
  exact of_decide_eq_true z

/-! ### == -/
theorem eqvAll_ints : ∀ (xs ys : List Int), PyData.eqvAll (xs.map PyData.int) (ys.map PyData.int) = decide (xs = ys)
  | [], [] => rfl
  | [], _ :: _ => rfl
  | _ :: _, [] => rfl
  | x :: xs, y :: ys => by
    show ((x == y) && PyData.eqvAll (xs.map PyData.int) (ys.map PyData.int)) = _
    rw [eqvAll_ints xs ys, Bool.eq_iff_iff]
    simp
theorem eqv_tuple_ints (xs ys : List Int) : PyData.eqv (.tuple (xs.map PyData.int)) (.tuple (ys.map PyData.int)) = decide (xs = ys) := eqvAll_ints xs ys
theorem eqv_list_ints (xs ys : List Int) : PyData.eqv (.list (xs.map PyData.int)) (.list (ys.map PyData.int)) = decide (xs = ys) := eqvAll_ints xs ys
theorem dps_ints {K : PySem.W.Frag} {H : Hp} : ∀ (xs : List Int), DpAll K H (xs.map V.int) (xs.map PyData.int)
  | [] => .nil
  | x :: xs => .cons (.int x) (dps_ints xs)
theorem dp_tuple_ints {K : PySem.W.Frag} {H : Hp} {a : Addr} {xs : List Int} (h : SqT K H a (xs.map V.int)) : Dp K H (.ref a) (.tuple (xs.map PyData.int)) := .tup h (dps_ints xs)
theorem dp_list_ints {K : PySem.W.Frag} {H : Hp} {a : Addr} {xs : List Int} (h : SqL K H a (xs.map V.int)) : Dp K H (.ref a) (.list (xs.map PyData.int)) := .lst h (dps_ints xs)
theorem shaped_ints_any {xs : List Int} : PyData.canLayAll0 (xs.map PyData.int) = true ∧ PyData.depthAll (xs.map PyData.int) = 0 := by
  induction xs with
  | nil => exact ⟨rfl, rfl⟩
  | cons x xs ih => exact ⟨by show (true && PyData.canLayAll0 _) = true; rw [ih.1]; rfl, by show max 0 (PyData.depthAll _) = 0; rw [ih.2]; rfl⟩
theorem shaped_tuple_ints (xs : List Int) : SeqAt.shaped (.tuple (xs.map PyData.int)) = true := by
  obtain ⟨h1, h2⟩ := shaped_ints_any (xs := xs)
  show (PyData.canLayAll0 (xs.map PyData.int) && decide (PyData.depthAll (xs.map PyData.int) + 1 ≤ 64)) = true
  rw [h1, h2]
  rfl
theorem shaped_list_ints (xs : List Int) : SeqAt.shaped (.list (xs.map PyData.int)) = true := by
  obtain ⟨h1, h2⟩ := shaped_ints_any (xs := xs)
  show (PyData.canLayAll0 (xs.map PyData.int) && decide (PyData.depthAll (xs.map PyData.int) + 1 ≤ 64)) = true
  rw [h1, h2]
  rfl

/-! ### slices -/
theorem cut_from (xs : List V) (s : Nat) : cutV xs (some (s : Int)) none = xs.drop s := by
  unfold cutV
  rw [HT.sIx_nat, HT.sIx_none]
  rcases Nat.le_total s xs.length with h | h
  · rw [Nat.min_eq_left h, List.take_of_length_le (by rw [List.length_drop]; exact Nat.le_refl _)]
  · rw [Nat.min_eq_right h, List.drop_of_length_le (Nat.le_refl _), List.drop_of_length_le h, List.take_nil]
theorem cut_to (xs : List V) (s : Nat) : cutV xs none (some (s : Int)) = xs.take s := by
  unfold cutV
  rw [HT.sIx_nat, HT.sIx_none]
  show (xs.drop 0).take (min s xs.length - 0) = xs.take s
  rw [List.drop_zero, Nat.sub_zero]
  rcases Nat.le_total s xs.length with h | h
  · rw [Nat.min_eq_left h]
  · rw [Nat.min_eq_right h, List.take_of_length_le (Nat.le_refl _), List.take_of_length_le h]
end Lx

set_option Elab.async false
set_option linter.all false
set_option maxRecDepth 100000
set_option maxHeartbeats 4000000
/-! a def called with every parameter by its name, in the reverse order -/
namespace Lx
open PySem PySem.Spec PyProof.Rows L2
def gRev (us ws : List Value) : List Value := match us with
  | [] => ws.reverse
  | _ => []
def gRevV (vs zs : List V) : List V := match vs with
  | [] => zs.reverse
  | _ => []
theorem vals_reverse : ∀ {xs : List V} {us : List Value}, Vals xs us → Vals xs.reverse us.reverse
  | _, _, .nil => .nil
  | x :: xs, u :: us, .cons r t => by
    rw [List.reverse_cons, List.reverse_cons]
    exact Vals.append (vals_reverse t) (.cons r .nil)
theorem rev_rel {vs : List V} {us : List Value} {zs : List V} {ws : List Value} (r : Vals vs us) (s : Vals zs ws) : Vals (gRevV vs zs) (gRev us ws) := by
  cases r with
  | nil => exact vals_reverse s
  | cons _ _ => exact .nil
structure HasR (P : Program) (w : World) (K : PySem.W.Frag) (mg : Str → Option Value) (base : Heap) (CX : CXT) (k : Nat) (x : Str) (ps ks : List Str) (sp : Sp) : Prop where
  ex : ∃ f fd, mg x = some (.ref f) ∧ PySem.W.keepIn K (.ref f) = true ∧ KBinds K fd ps ks gRev gRevV ∧ FnOk P w K mg base CX k f fd ps sp
theorem pe_hasR {X : Cx} {k : Nat} {x : Str} {ps ks : List Str} {sp : Sp} {p pos : Pos} {kws : List Keyword} {tk : TA} (F : HasR X.prog X.w X.K X.mg X.base (L2.CX X.prog X.w) k x ps ks sp) (hr : Room k X.A) (hg : Gl X x) (hkw : PK X kws tk)
    (hall : (backToKw pos (keywordEach kws X.env)).all (·.1.isSome) = true := by rfl) (hks : (backToKw pos (keywordEach kws X.env)).filterMap (·.1) = ks := by rfl)
    (hdb : (x == ("__debug__" : Str)) = false := by decide)
    (hpl : ((backTo pos (starEach [] X.env)).any (·.1) || (backToKw pos (keywordEach kws X.env)).any (·.1.isNone)) = false := by rfl) :
    PE X (.Call (.Name x p) [] kws pos) (tCallK sp gRevV L2.E0 tNil tk) := by
  obtain ⟨f, fd, h1, h2, h3, h4⟩ := F.ex
  exact pe_callKw0 (Lx.FnOk.callee h4 hr passL) hg h1 h2 h3 hkw hall hks hdb hpl
theorem kb2 {K : PySem.W.Frag} {fd : FuncData} {a b : Str} (h : ∀ (s : Shared) (u v : Value), K.In s.heap → BindsTo s fd ⟨[], [(b, u), (a, v)]⟩ [(a, v), (b, u)]) : KBinds K fd [a, b] [b, a] gRev gRevV where
  to := by
    rintro s us ws hK hl
    cases us with
    | cons _ _ => cases hl
    | nil =>
      match ws, hl with
      | [u, v], _ => exact h s u v hK
      | [], hl => cases hl
      | [_], hl => cases hl
      | _ :: _ :: _ :: _, hl => simp [gRev] at hl
  rel := rev_rel
theorem kb3 {K : PySem.W.Frag} {fd : FuncData} {a b c : Str} (h : ∀ (s : Shared) (u v x : Value), K.In s.heap → BindsTo s fd ⟨[], [(c, u), (b, v), (a, x)]⟩ [(a, x), (b, v), (c, u)]) : KBinds K fd [a, b, c] [c, b, a] gRev gRevV where
  to := by
    rintro s us ws hK hl
    cases us with
    | cons _ _ => cases hl
    | nil =>
      match ws, hl with
      | [u, v, x], _ => exact h s u v x hK
      | [], hl => cases hl
      | [_], hl => cases hl
      | [_, _], hl => cases hl
      | _ :: _ :: _ :: _ :: _, hl => simp [gRev] at hl
  rel := rev_rel
end Lx

set_option Elab.async false
set_option linter.all false
set_option maxRecDepth 100000
set_option maxHeartbeats 4000000
/-! lambdas that capture names: made (as a value, or handed to a def), called; with parameters -/
namespace Lx
open PySem PySem.Spec PyProof.Rows L2
abbrev lamQ (X : Cx) : Str := X.env.qual ++ "<lambda>"
/-- at f: the lambda of this text, made in X's frame, its code object at cc -/
def LamO (X : Cx) (ps : Arguments) (body : Expr) (sc : Scope) (f cc : Addr) : HO := .ext fun h => ∃ pm ctv : Value, h.get? f = some (PySem.W.kla_obj "<lambda>" (lamQ X) ps body sc (cloFrom X.env.cells sc.names []) pm cc ctv)
theorem LamO.not_tbl {X : Cx} {ps : Arguments} {body : Expr} {sc : Scope} {f cc : Addr} (z : Array Value) : LamO X ps body sc f cc ≠ .tbl z := fun e => by
  unfold LamO at e
  cases e
theorem LamX.codeO_nt {c : Addr} {q : Str} (ps : Array Value) : LamX.CodeO c q ≠ .tbl ps := LamX.codeO_ne ps
/-- a lambda's names: its parameters, captured ones, globals -/
structure LamN (sc scope : Scope) (ps : List Str) : Prop where
  kind : scope.kind = .function
  co : scope.isCoroutine = false
  gen : scope.isGenerator = false
  loc : ∀ y ∈ scope.names, y.2 = .local → y.1 ∈ ps
  nocell : ∀ y ∈ scope.names, y.2 ≠ .cell
  free : ∀ y ∈ scope.names, y.2 = .free → sc.names.lookup y.1 = some .cell ∨ sc.names.lookup y.1 = some .free
  par : ∀ p ∈ ps, scope.names.lookup p = some .local
def lamNB (sc scope : Scope) (ps : List Str) : Bool :=
  decide (scope.kind = .function) && (!scope.isCoroutine && (!scope.isGenerator && ((scope.names.all fun y => (!decide (y.2 = .local) || ps.contains y.1) && (!decide (y.2 = .cell) && (!decide (y.2 = .free) || (decide (sc.names.lookup y.1 = some .cell) || decide (sc.names.lookup y.1 = some .free))))) &&
    ps.all fun p => decide (scope.names.lookup p = some .local))))
theorem lamN_by {sc scope : Scope} {ps : List Str} (h : lamNB sc scope ps = true) : LamN sc scope ps := by
  unfold lamNB at h
  simp only [Bool.and_eq_true, Bool.or_eq_true, Bool.not_eq_true', decide_eq_true_eq, decide_eq_false_iff_not, List.all_eq_true] at h
  obtain ⟨h1, h2, h3, h4, h5⟩ := h
  refine ⟨h1, h2, h3, fun y hy e => ?_, fun y hy => (h4 y hy).2.1, fun y hy e => ?_, h5⟩
  · rcases (h4 y hy).1 with z | z
    · exact absurd e z
    · simpa using z
  · rcases (h4 y hy).2.2 with z | z | z
    · exact absurd e z
    · exact .inl z
    · exact .inr z
theorem LamN.has {X : Cx} {scope : Scope} {ps : List Str} (L : LamN X.env.scope scope ps) (ok : X.Ok) : ∀ y ∈ scope.names, y.2 = .free → ∃ c, X.env.cells.lookup y.1 = some c := fun y hy e =>
  ok.has _ (L.free y hy e)

section
variable {X : Cx} {pins : List (Addr × Obj)} {σ : L2.St} {H : Hp} {s : Shared}
/-- the lambda is made and known from now on -/
theorem lam_new {T : List (Addr × Str)} {c P : Addr} {params : Arguments} {body : Expr} {scope : Scope} {ps : List Str} {pos : Pos} {E : Value → Shared → Prop} {Q : Value → Shared → Prop} (L : LamN X.env.scope scope ps) (I : Inv X pins σ H s) (TB : LamX.TabB X.base X.mg c P) (hcode : X.env.code = .ref c)
    (hm : (P, lamQ X) ∈ T) (hu : ∀ p ∈ T, p.1 = P → p.2 = lamQ X) (hT : LamX.Tabs T H) (hdef : defaultsOf params X.env = ([], []))
    (h : ∀ (f cc : Addr) (H1 : Hp) (s' : Shared), Inv X pins σ H1 s' → LamX.ExtN H H1 → LamX.Tabs T H1 → H f = none → H1 f = some (LamO X params body scope f cc) → H1 cc = some (LamX.CodeO cc (lamQ X)) → Q (.ref f) s') :
    wpAny (model X.prog X.w) X.A (eval (.Lambda params body scope pos) X.env) Q E s := by
  obtain ⟨tb, hP, ht, ha⟩ := hT _ hm
  have bP : s.heap.BuiltinsAt X.mg P := TB.bm.keeps I.bk
  have hP' : s.heap.get? P = some { cls := .none, data := .fields tb } := I.hok P _ hP
  have clo := closure_ok (L.has I.ok)
  -- the object itself, laid upon a heap that holds the code object
  have laid : ∀ (h' : Heap) (tk : Nat) (H0 : Hp) (cc : Addr) (pm ctv : Value), Inv X pins σ H0 { s with heap := h', toks := tk } → LamX.ExtN H H0 → LamX.Tabs T H0 → H0 cc = some (LamX.CodeO cc (lamQ X)) → s.heap.objs.size ≤ h'.objs.size →
      Q (.ref h'.objs.size) { s with heap := h'.push (PySem.W.kla_obj "<lambda>" (lamQ X) params body scope (cloFrom X.env.cells scope.names []) pm cc ctv), toks := tk } := by
    intro h' tk H0 cc pm ctv I0 e0 T0 hcc hsz
    have got : (h'.push (PySem.W.kla_obj "<lambda>" (lamQ X) params body scope (cloFrom X.env.cells scope.names []) pm cc ctv)).get? h'.objs.size = some (PySem.W.kla_obj "<lambda>" (lamQ X) params body scope (cloFrom X.env.cells scope.names []) pm cc ctv) := Heap.get?_push_size _ rfl
    have nf : H0 h'.objs.size = none := I0.hok.fresh (Nat.le_refl _)
    have J := I0.laid (t' := tk) (a := h'.objs.size) (o := LamO X params body scope h'.objs.size cc) (fun b u q => Heap.get?_push_of_some _ q) (Nat.le_refl _) ⟨⟨pm, ctv, got⟩, ⟨_, got⟩, fun h1 h2 ⟨a, b, z⟩ k => ⟨a, b, k _ z⟩⟩
    have keep : ∀ b o, H0 b = some o → upd H0 h'.objs.size (LamO X params body scope h'.objs.size cc) b = some o := fun b o z => by
      rw [upd_ne (ne_of_none z nf)]
      exact z
    exact h _ cc _ _ J (e0.trans (LamX.ExtN.of keep)) (T0.ext keep) (I.hok.fresh hsz) upd_same (keep _ _ hcc)
  refine PySem.W.kla_eval hdef ?_
  cases hc : codeAmong pos tb.toList with
  | some cv =>
    obtain ⟨cc, e, hco⟩ := ha pos cv hc
    subst e
    apply PySem.W.kla_makeFunctionHit (mg := X.mg) (c := c) (P := P) (ps := tb) clo I.ok.glob (I.mod.glob.keeps I.bk) hcode (TB.code.keeps I.bk) hP' ht hc bP
    intro ctv h' tk hx hsz
    exact laid h' tk H cc _ ctv (I.kept hx) (LamX.ExtN.refl H) hT hco hsz
  | none =>
    apply PySem.W.kla_makeFunction (mg := X.mg) (c := c) (P := P) (ps := tb) clo I.ok.glob (I.mod.glob.keeps I.bk) hcode (TB.code.keeps I.bk) hP' ht hc TB.gP bP
    intro cc ctv h' tk hx hge hlt hrec htb
    obtain ⟨c2, oc, vs, t, e2, hoc, hd, hv⟩ := hrec
    cases e2
    have nC : H cc = none := I.hok.fresh hge
    have I1 := LamX.inv_table (t' := tk) (more := #[rawInt pos.line, rawInt pos.col, .ref cc]) (h' := h') (q := lamQ X) I hP (fun b o hb e => hx b o hb e) htb hge ⟨oc, vs, t, hoc, hd, hv⟩
    have e1 : LamX.ExtN H (upd (upd H P (.tbl (tb ++ #[rawInt pos.line, rawInt pos.col, .ref cc]))) cc (LamX.CodeO cc (lamQ X))) := fun b o e n => by
      have nb : b ≠ P := fun z => n tb (Option.some.inj (e.symm.trans (by rw [z]; exact hP)))
      rw [upd_ne (ne_of_none e nC), upd_ne nb]
      exact e
    have el : (tb ++ #[rawInt pos.line, rawInt pos.col, .ref cc]).toList = tb.toList ++ [rawInt pos.line, rawInt pos.col, .ref cc] := by simp
    refine laid h' tk _ cc _ ctv I1 e1 ?_ upd_same (Nat.le_trans hge (Nat.le_of_lt hlt))
    intro p hp
    by_cases hb : p.1 = P
    · rw [hu p hp hb, hb]
      refine ⟨_, by rw [upd_ne (ne_of_none hP nC), upd_same], by rw [el]; exact PySem.TriplesOk_snoc _ _ _ _ ht, fun p' cv hcv => ?_⟩
      rw [el] at hcv
      rcases LamX.among_app _ ht hcv with z | z
      · obtain ⟨c0, f1, f2⟩ := ha p' cv z
        exact ⟨c0, f1, e1 _ _ f2 LamX.codeO_ne⟩
      · exact ⟨cc, z, upd_same⟩
    · obtain ⟨ps', a1, a2, a3⟩ := hT p hp
      refine ⟨ps', by rw [upd_ne (ne_of_none a1 nC), upd_ne hb]; exact a1, a2, fun p' cv hcv => ?_⟩
      obtain ⟨c0, f1, f2⟩ := a3 p' cv hcv
      exact ⟨c0, f1, e1 _ _ f2 LamX.codeO_ne⟩
end
/-- a lambda as a value -/
def tLamV (X : Cx) (T : List (Addr × Str)) (params : Arguments) (body : Expr) (scope : Scope) : TE := fun _ H Q => LamX.Tabs T H ∧ ∀ f cc H1, LamX.ExtN H H1 → LamX.Tabs T H1 → H f = none → H1 f = some (LamO X params body scope f cc) → H1 cc = some (LamX.CodeO cc (lamQ X)) → Q (.ref f) H1
theorem pe_lamV {X : Cx} {T : List (Addr × Str)} {c P : Addr} {params : Arguments} {body : Expr} {scope : Scope} {ps : List Str} {pos : Pos} (L : LamN X.env.scope scope ps) (TB : LamX.TabB X.base X.mg c P) (hcode : X.env.code = .ref c)
    (hm : (P, lamQ X) ∈ T) (hu : ∀ p ∈ T, p.1 = P → p.2 = lamQ X) (hdef : defaultsOf params X.env = ([], [])) : PE X (.Lambda params body scope pos) (tLamV X T params body scope) := by
  constructor
  rintro pins s σ H Q I ⟨hT, q⟩
  apply lam_new L I TB hcode hm hu hT hdef
  intro f cc H1 s' I1 e1 T1 nf hf hc
  exact ⟨.ref f, H1, I1, rfl, q f cc H1 e1 T1 nf hf hc⟩
end Lx

set_option Elab.async false
set_option linter.all false
set_option maxRecDepth 100000
set_option maxHeartbeats 4000000
/-! a lambda's body runs -/
namespace Lx
open PySem PySem.Spec PyProof.Rows L2
abbrev lmEnv (X : Cx) (scope : Scope) (L f cc : Addr) : Env := PySem.W.envX (lamQ X) scope L f (.ref cc) (cloFrom X.env.cells scope.names [])
/-- the context of the body, entered at s from the frames outer: the maker's names, then the parameters -/
def lmCx (X : Cx) (ps : List Str) (A : Around) (outer : List Env) (s : Shared) (H : Hp) (E : XK) (scope : Scope) (f cc : Addr) : Cx where
  prog := X.prog
  w := X.w
  K := X.K
  mg := X.mg
  base := X.base
  A := A.deeper (lmEnv X scope s.heap.objs.size f cc)
  N := X.N ++ ps
  s_0 := s
  H_0 := H
  env := lmEnv X scope s.heap.objs.size f cc
  outer := outer
  stack := lmEnv X scope s.heap.objs.size f cc :: outer
  ex := []
  fn := fun _ => false
  calm := true
  pn := []
  xe := fun e s' => wpAny (model X.prog X.w) (A.deeper (lmEnv X scope s.heap.objs.size f cc)) (leaving (lmEnv X scope s.heap.objs.size f cc) e) (fun _ s'' => L2.CX X.prog X.w outer H s E e s'') (fun e' s'' => L2.CX X.prog X.w outer H s E e' s'') s'
/-- the maker's cells are what they were -/
def CellsOn (X : Cx) (h h' : Heap) (H' : Hp) : Prop := ∀ x c, X.env.cells.lookup x = some c → (∀ v, h.IsCell c v → h'.IsCell c v) ∧ H' c = none
theorem CellsOn.un {X : Cx} {fs : List Addr} {pins : List (Addr × Obj)} {σ : L2.St} {H H' : Hp} {s s' : Shared} (I : Inv X pins σ H s) (u : Un fs [] H H' s.heap s'.heap) : CellsOn X s.heap s'.heap H' := fun x c e => by
  obtain ⟨v, o, ho, hd⟩ := I.cell x c e
  refine ⟨fun v' ⟨o', h1, h2⟩ => ?_, u.free c o ho (I.freeC x c e) (by simp)⟩
  obtain ⟨sl, q⟩ := u.any h1 (I.freeC x c e) (by simp)
  exact ⟨_, q, h2⟩
theorem CellsOn.then {X : Cx} {fs : List Addr} {h h1 h2 : Heap} {H1 H2 : Hp} (a : CellsOn X h h1 H1) (hc : ∀ x c, X.env.cells.lookup x = some c → ∃ v, h.IsCell c v) (u : Un fs [] H1 H2 h1 h2) : CellsOn X h h2 H2 := fun x c e => by
  obtain ⟨k, n⟩ := a x c e
  obtain ⟨v, z⟩ := hc x c e
  obtain ⟨o, ho, hd⟩ := k v z
  refine ⟨fun v' y => ?_, u.free c o ho n (by simp)⟩
  obtain ⟨o', h1, h2⟩ := k v' y
  obtain ⟨sl, q⟩ := u.any h1 n (by simp)
  exact ⟨_, q, h2⟩

section
variable {X : Cx} {pins : List (Addr × Obj)} {σ : L2.St} {H HZ : Hp} {s s1 : Shared}
theorem lm_start {ps : List Str} {A : Around} {outer : List Env} {E : XK} {scope : Scope} {f cc : Addr} {h1 : Heap} {tk : Nat} {vs : List V} {us : List Value} (I : Inv X pins σ H s) (L : LamN X.env.scope scope ps) (e0 : Env0 X.prog X.w X.K X.mg X.base A outer s1 HZ) (hd : A.handled = none)
    (cl : CellsOn X s.heap s1.heap HZ) (hv : vs.length = ps.length) (hb : ∀ (j : Nat) y v, ps[j]? = some y → vs[j]? = some v → ∃ u, RelV v u ∧ (ps.zip us).reverse.lookup y = some u)
    (hns : h1.Ns s1.heap.objs.size fun y => (ps.zip us).reverse.lookup y) (kp : ∀ b o, s1.heap.get? b = some o → h1.get? b = some o) (hX : ∀ p ∈ ps, p ∉ X.N) :
    Inv (lmCx X ps A outer s1 HZ E scope f cc) [] (σ ++ vs.map some) HZ { s1 with heap := h1, toks := tk } := by
  have hfree := L.has I.ok
  -- the lambda's cells are the maker's
  have cm : ∀ {y c}, (cloFrom X.env.cells scope.names []).lookup y = some c → X.env.cells.lookup y = some c := fun {y c} e => by
    rcases cloFrom_mem (PySem.mem_of_lookup e) with hm | ⟨h1, h2⟩
    · cases hm
    · obtain ⟨c1, hc⟩ := hfree _ h1 rfl
      have hc : X.env.cells.lookup y = some c1 := hc
      rw [hc] at h2
      rw [hc, h2]
      rfl
  have there : ∀ {y}, scope.names.lookup y = some .free → ∃ c, (cloFrom X.env.cells scope.names []).lookup y = some c := fun {y} hl =>
    mem_lookup (cloFrom_has (cells := X.env.cells) (acc := []) (PySem.mem_of_lookup hl))
  have ck : ∀ {x c}, X.env.cells.lookup x = some c → ∀ {v}, s.heap.IsCell c v → h1.IsCell c v := fun {x c} e {v} z => by
    obtain ⟨o, ho, hd⟩ := (cl x c e).1 v z
    exact ⟨o, kp _ _ ho, hd⟩
  have none_ex : ∀ b : Addr, b ∉ (lmCx X ps A outer s1 HZ E scope f cc).ex := fun b z => absurd (show b ∈ ([] : List Addr) from z) (by simp)
  have okX : (lmCx X ps A outer s1 HZ E scope f cc).Ok := {
    mod := e0.mod
    kind := L.kind
    glob := rfl
    blt := rfl
    above := Nat.le_refl _
    inj := fun y z c e1 e2 => I.ok.inj y z c (cm e1) (cm e2)
    has := fun y hy => by
      rcases (show scope.names.lookup y = some .cell ∨ scope.names.lookup y = some .free from hy) with q | q
      · exact absurd rfl (L.nocell _ (PySem.mem_of_lookup q))
      · exact there q
    cab := fun y c z _ => absurd (show false = true from z) Bool.false_ne_true
    hd := fun _ => hd
    frames := Around.frames_deeper e0.frames
    stk := .inr ⟨rfl, rfl⟩
    exf := fun b z => absurd z (none_ex b)
    bs := e0.bs
    bsz := e0.bsz
    noex := fun b _ _ => none_ex b
    exfs := fun b z => absurd z (none_ex b)
    funs := e0.funs
    frf := e0.frf }
  have lenN : σ.length = X.N.length := I.len
  refine { ok := okX, os := rfl, bare := e0.bare, base := Un.kept kp, loc := ⟨_, hns, ?_⟩, cell := ?_, free := e0.hok.fresh (Nat.le_refl _), freeC := ?_, pin := ?_, hok := e0.hok.kept kp, len := ?_ }
  · intro i y v e1 e2 e3
    have e1 : (X.N ++ ps)[i]? = some y := e1
    by_cases hi : i < X.N.length
    · rw [List.getElem?_append_left hi] at e1
      rw [List.getElem?_append_left (by omega)] at e2
      have nop : y ∉ ps := fun z => hX y z (List.mem_of_getElem? e1)
      rcases (show Vis scope y from e3) with k | k | k
      · exact absurd (L.loc _ (PySem.mem_of_lookup k) rfl) nop
      · exact absurd rfl (L.nocell _ (PySem.mem_of_lookup k))
      · obtain ⟨m, hn, hl⟩ := I.loc
        have fr := L.free _ (PySem.mem_of_lookup k) rfl
        have vis : Vis X.env.scope y := fr.elim (fun k => .inr (.inl k)) (fun k => .inr (.inr k))
        obtain ⟨u, r, q⟩ := hl i y v e1 e2 vis
        obtain ⟨c2, h2⟩ := there k
        refine ⟨u, r, .inr ⟨.inr k, c2, h2, ?_⟩⟩
        rcases q with ⟨k', _⟩ | ⟨_, c3, e', z⟩
        · have k' : X.env.scope.names.lookup y = some .local := k'
          rcases fr with g | g <;> (rw [show X.env.scope.names.lookup y = _ from g] at k'; cases k')
        · rw [cm h2] at e'
          cases e'
          exact ck (cm h2) z
    · rw [List.getElem?_append_right (by omega)] at e1
      rw [List.getElem?_append_right (by omega), lenN, List.getElem?_map] at e2
      cases ev : vs[i - X.N.length]? with
      | none =>
        rw [ev] at e2
        cases e2
      | some v' =>
        rw [ev] at e2
        cases e2
        obtain ⟨u, r, q⟩ := hb _ y v e1 ev
        exact ⟨u, r, .inl ⟨L.par y (List.mem_of_getElem? e1), q⟩⟩
  · intro y c e
    obtain ⟨v, z⟩ := I.cell y c (cm e)
    exact ⟨v, ck (cm e) z⟩
  · intro y c e
    exact (cl y c (cm e)).2
  · intro p hp
    exact absurd (show p ∈ ([] : List (Addr × Obj)) ++ [] from hp) (by simp)
  · show (σ ++ vs.map some).length = (X.N ++ ps).length
    rw [List.length_append, List.length_append, List.length_map, lenN, hv]

/-- f(us), f a lambda that X's frame made; whoever calls -/
theorem lm_run {ps : List Str} {A : Around} {outer : List Env} {E : XK} {scope : Scope} {params : Arguments} {body : Expr} {f cc : Addr} {k : Nat} {vs : List V} {us : List Value} {Q : VK} (I : Inv X pins σ H s) (L : LamN X.env.scope scope ps) (e0 : Env0 X.prog X.w X.K X.mg X.base A outer s1 HZ)
    (lim : s1.heap.NoLimit) (cl : CellsOn X s.heap s1.heap HZ) (hf : HZ f = some (LamO X params body scope f cc)) (hc : HZ cc = some (LamX.CodeO cc (lamQ X))) (hr : Room (k + 1) A) (hX : ∀ p ∈ ps, p ∉ X.N) (rv : Vals vs us) (hl : vs.length = ps.length)
    (hbind : ∀ (q : Str) (clo : List (Str × Addr)) (pm cv ctv : Value), bindArgs (PySem.W.kla_fn "<lambda>" q params body scope clo pm cv ctv) ⟨us, []⟩ = pure (ps.zip us))
    (hlook : ∀ (j : Nat) y v, ps[j]? = some y → vs[j]? = some v → ∃ u, RelV v u ∧ (ps.zip us).reverse.lookup y = some u)
    (hbody : ∀ s2, Room k (A.deeper (lmEnv X scope s1.heap.objs.size f cc)) → Inv (lmCx X ps A outer s1 HZ E scope f cc) [] (σ ++ vs.map some) HZ s2 →
      wpAny (model X.prog X.w) (A.deeper (lmEnv X scope s1.heap.objs.size f cc)) (eval body (lmEnv X scope s1.heap.objs.size f cc)) (EP (lmCx X ps A outer s1 HZ E scope f cc) [] (σ ++ vs.map some) Q) (lmCx X ps A outer s1 HZ E scope f cc).xe s2) :
    codeAny (model X.prog X.w) A (.call (.ref f) ⟨us, []⟩) (CR (L2.CX X.prog X.w) outer X.prog X.w HZ s1 Q E) s1 := by
  have of : ∃ pm ctv : Value, s1.heap.get? f = some (PySem.W.kla_obj "<lambda>" (lamQ X) params body scope (cloFrom X.env.cells scope.names []) pm cc ctv) := by
    have z : ObjOk X.prog X.w HZ s1.heap f (LamO X params body scope f cc) := e0.hok f _ hf
    exact z.1
  obtain ⟨pm, ctv, ho⟩ := of
  have oc : ∃ (oc : Obj) (ws : Array Value) (t : Tok), s1.heap.get? cc = some oc ∧ oc.data = .fields ws ∧ ws[1]? = some (.str (lamQ X) t) := by
    have z : ObjOk X.prog X.w HZ s1.heap cc (LamX.CodeO cc (lamQ X)) := e0.hok cc _ hc
    exact z.1
  obtain ⟨oc, ws, t, hoc, hdc, hvc⟩ := oc
  apply PySem.W.kla_callFunE hr.depth ho rfl L.co L.gen rfl ⟨cc, oc, ws, t, rfl, hoc, hdc, hvc⟩
  rw [hbind]
  apply wpAny_pure
  apply wpAny_newFunctionEnv (fun y hy => L.nocell y hy) ?_ ?_ L.kind
  · intro y hy
    exact L.par y.1 (List.of_mem_zip hy).1
  · intro h1 hns hsb
    refine ⟨lim.fresh _ hsb, ?_⟩
    have kp : ∀ b o, s1.heap.get? b = some o → h1.get? b = some o := fun b o e => hsb.extBut b o (Nat.ne_of_lt (Heap.lt_size e)) (Heap.get?_push_of_some _ e)
    have J := lm_start (E := E) (f := f) (cc := cc) (tk := s1.toks + (ps.zip us).length) I L e0 hr.hd cl hl hlook hns kp hX
    refine PySem.W.kla_codeExpr (wpAny_mono (hbody _ (hr.deeper _) J) ?_ fun e s' q => q)
    rintro v s' ⟨w', H', J', r, q⟩
    exact ⟨w', H', J'.os, J'.bare, J'.base, J'.hok, r, q⟩
end
end Lx

set_option Elab.async false
set_option linter.all false
set_option maxRecDepth 100000
set_option maxHeartbeats 400000
/-! a lambda handed to a def that calls it first of all -/
namespace Lx
open PySem PySem.Spec PyProof.Rows L2
abbrev gCx (X : Cx) (Ng : List Str) (x : Str) (sg : Scope) (g : Addr) (cdg : Value) (s : Shared) (H : Hp) : Cx := cxOf L2.CX0 X.prog X.w X.K X.mg X.base Ng x sg g cdg X.A X.stack s H L2.E0
/-- the def calls what it got, at the heap at which it was entered; TT: what it makes of the lambda's reading -/
def GivesH (X : Cx) (Ng : List Str) (x : Str) (sg : Scope) (g : Addr) (cdg : Value) (bg : List Stmt) (a : Str) (TT : (XK → Hp → VK → Prop) → Hp → VK → Prop) : Prop :=
  ∀ (f : Addr) (s : Shared) (H : Hp) (Q : VK) (tl : XK → Hp → VK → Prop),
    (∀ (W : WX) (pn : List (Addr × Obj)) (xe : Value → Shared → Prop) (E : XK) (p1 p2 : Pos), Takes ((gCx X Ng x sg g cdg s H).tr pn xe) W → (∀ cls d σ' H', E cls d H' → W cls d σ' H') →
      PE ((gCx X Ng x sg g cdg s H).tr pn xe) (.Call (.Name a p1) [] [] p2) (fun σZ HZ Q => σZ[0]? = some (some (.ref f)) ∧ HZ = H ∧ tl E HZ Q)) →
    TT tl H Q → ∃ t, PSs (gCx X Ng x sg g cdg s H).nox bg t ∧ t { nx := fun _ H' => Q .non H', rt := Q } (L2.start Ng [.ref f]) H
def tLamG (T : List (Addr × Str)) (TT : (XK → Hp → VK → Prop) → Hp → VK → Prop) (t : XK → TE) : TE := fun σ H Q => LamX.Tabs T H ∧ ∀ H1, LamX.ExtN H H1 → LamX.Tabs T H1 → TT (fun E H' Q' => t E σ H' Q') H1 Q
/-- what is asked of the body of a lambda without parameters -/
def BodyOk (X : Cx) (k : Nat) (scope : Scope) (body : Expr) (t : XK → TE) : Prop :=
  ∀ (pins : List (Addr × Obj)) (σ : L2.St) (H0 : Hp) (s0 : Shared) (A : Around) (outer : List Env) (s1 : Shared) (H1 : Hp) (E : XK) (f cc : Addr), Inv X pins σ H0 s0 → CellsOn X s0.heap s1.heap H1 → A.guards = X.A.guards → Room k (A.deeper (lmEnv X scope s1.heap.objs.size f cc)) →
    ∀ (s2 : Shared) (Q : VK), Inv (lmCx X [] A outer s1 H1 E scope f cc) [] σ H1 s2 → t E σ H1 Q →
      wpAny (model X.prog X.w) (A.deeper (lmEnv X scope s1.heap.objs.size f cc)) (eval body (lmEnv X scope s1.heap.objs.size f cc)) (EP (lmCx X [] A outer s1 H1 E scope f cc) [] σ Q) (lmCx X [] A outer s1 H1 E scope f cc).xe s2
theorem BodyOk.of {X : Cx} {k : Nat} {scope : Scope} {body : Expr} {t : XK → TE} (h : ∀ (A : Around) (outer : List Env) (s1 : Shared) (H1 : Hp) (E : XK) (f cc : Addr), Room k (A.deeper (lmEnv X scope s1.heap.objs.size f cc)) → PE (lmCx X [] A outer s1 H1 E scope f cc) body (t E)) : BodyOk X k scope body t :=
  fun pins σ H0 s0 A outer s1 H1 E f cc I cl hg hr s2 Q J ht => (h A outer s1 H1 E f cc hr).run [] s2 σ H1 Q J ht
section
variable {X : Cx}
theorem pe_lamG {T : List (Addr × Str)} {TT : (XK → Hp → VK → Prop) → Hp → VK → Prop} {x a : Str} {g c P : Addr} {k : Nat} {st : Stmt} {fd : FuncData} {Ng : List Str} {params : Arguments} {body : Expr} {scope : Scope} {t : XK → TE} {p lpos pos : Pos}
    (hg : Gl X x) (hm : X.mg x = some (.ref g)) (F : Fun X.K x x st g fd) (hb : L2.Binds X.K fd [a] []) (Sg : FnScope Ng [a] (defScope st)) (hNg : Ng[0]? = some a) (hva : Vis (defScope st) a)
    (hG : ∀ cdg, GivesH X Ng x (defScope st) g cdg (defBody st) a TT) (TB : LamX.TabB X.base X.mg c P) (hcode : X.env.code = .ref c) (hmT : (P, lamQ X) ∈ T) (hu : ∀ p ∈ T, p.1 = P → p.2 = lamQ X) (hr : Room (k + 2) X.A) (L : LamN X.env.scope scope [])
    (hdef : defaultsOf params X.env = ([], [])) (hbind : ∀ (q : Str) (cl : List (Str × Addr)) (pm cv ctv : Value), bindArgs (PySem.W.kla_fn "<lambda>" q params body scope cl pm cv ctv) ⟨[], []⟩ = pure [])
    (hbody : BodyOk X k scope body t) (hdb : (x == ("__debug__" : Str)) = false := by decide) (hd : (a == ("__debug__" : Str)) = false := by decide) (hcd : (a == ("__classdict__" : Str)) = false := by decide) :
    PE X (.Call (.Name x p) [.Lambda params body scope lpos] [] pos) (tLamG T TT t) := by
  obtain ⟨oc, od, kV, doc, pm, an, cdv, ct, osl, rfl, lk, hcg⟩ := F.ex
  constructor
  rintro pins s σ H Q I ⟨hT, h⟩
  apply wpAny_Call_Name_kw (ld_glob I hg hm ?_ hdb)
  apply PySem.W.callWith_K (h₀ := X.base) I.ok.mod.kin F.kp ?_ (by rfl) (by rfl)
  show wpAny _ _ (spliced ((false, eval (.Lambda params body scope lpos) X.env) :: backTo pos (starEach [] X.env))) _ _ s
  apply Calls.spliced_cons (lam_new L I TB hcode hmT hu hT hdef ?_)
  intro f cc H1 s1 I1 e1 T1 nf hf hc
  apply Calls.spliced_nil
  refine ⟨I1.kIn, ?_⟩
  refine callee_end (CX := L2.CX0) (E := L2.E0) (kw := []) I1 pass0 ?_
  refine LamX.run_ofS (N := Ng) (ps := [a]) (us := [.ref f]) (vs := [.ref f]) lk hcg Sg hr I1.env0 (hb s1 [.ref f] I1.kIn rfl) (.cons rfl .nil) rfl ?_
  intro hr'
  have call : ∀ (W : WX) (pn : List (Addr × Obj)) (xe : Value → Shared → Prop) (E : XK) (p1 p2 : Pos), Takes ((gCx X Ng x (defScope st) g cdv s1 H1).tr pn xe) W → (∀ cls d σ' H', E cls d H' → W cls d σ' H') →
      PE ((gCx X Ng x (defScope st) g cdv s1 H1).tr pn xe) (.Call (.Name a p1) [] [] p2) (fun σZ HZ Q => σZ[0]? = some (some (.ref f)) ∧ HZ = H1 ∧ t E σ HZ Q) := by
    intro W pn xe E p1 p2 tk hW
    constructor
    rintro pinsZ sZ σZ HZ QZ IZ ⟨h0, rfl, ht⟩
    apply wpAny_Call_Name_kw
    refine thn ((pe_var (pos := p1) (i := 0) hNg hva hd hcd).run pinsZ sZ σZ HZ (fun v H' => v = .ref f ∧ H' = HZ) IZ ⟨.ref f, h0, rfl, rfl⟩) ?_
    rintro u s2 ⟨v, H2, I2, ru, rfl, rfl⟩
    obtain rfl : u = Value.ref f := ru
    have of : ∃ pm ctv : Value, s2.heap.get? f = some (PySem.W.kla_obj "<lambda>" (lamQ X) params body scope (cloFrom X.env.cells scope.names []) pm cc ctv) := by
      have z : ObjOk X.prog X.w H2 s2.heap f (LamO X params body scope f cc) := I2.hok f _ hf
      exact z.1
    obtain ⟨pm', ctv', of⟩ := of
    refine PySem.W.callWith_F0 ⟨_, _, _, _, of⟩ ?_
    have un : Un (frs X.stack) [] H2 H2 s1.heap s2.heap := I2.base
    have cl : CellsOn X s1.heap s2.heap H2 := CellsOn.un I1 un
    refine callee_end (CX := L2.CX X.prog X.w) (E := E) (kw := []) I2 (passes_call tk hW) ?_
    refine lm_run (X := X) (pins := pins) (σ := σ) (H := H2) (s := s1) (HZ := H2) (s1 := s2) (ps := []) (vs := []) (us := []) (E := E) (Q := QZ) (k := k) (scope := scope) (params := params) (body := body) (f := f) (cc := cc) I1 L I2.env0 I2.nolimit cl hf hc hr' (fun p hp => nomatch hp) .nil rfl (fun q clo pm cv ctv => hbind q clo pm cv ctv) (fun j y v h => by simp at h) ?_
    intro s3 hr3 J
    have eσ : σ ++ ([] : List V).map some = σ := by simp
    rw [eσ] at J ⊢
    exact hbody pins σ H2 s1 (X.A.deeper (envOfC x (defScope st) s1.heap.objs.size g cdv)) _ s2 H2 E f cc I1 cl rfl hr3 s3 QZ J ht
  obtain ⟨t', ht', hq⟩ := hG cdv f s1 H1 Q (fun E H' Q' => t E σ H' Q') call (h H1 e1 T1)
  exact ⟨t', ht'.nox, hq⟩
end
end Lx

set_option Elab.async false
set_option linter.all false
set_option maxRecDepth 100000
set_option maxHeartbeats 1000000
/-! a def that makes lambdas; what stays but the tables -/
namespace Lx
open PySem PySem.Spec PyProof.Rows L2
/-- okG for a def whose code object stands at c -/
theorem okT {P : Program} {w : World} {K : PySem.W.Frag} {mg : Str → Option Value} {base : Heap} {x qual : Str} {st : Stmt} {f c : Addr} {fd : FuncData} {N ps : List Str} {k : Nat} {sp : Sp} (F : Fun K x qual st f fd) (hcode : fd.code = .ref c) (S : FnScope N ps (defScope st)) (len : ∀ vs H Q E, sp vs H Q E → vs.length = ps.length)
    (body : ∀ (A : Around) (outer : List Env) (s : Shared) (H : Hp) (vs : List V) (Q : VK) (E : XK), Room k (A.deeper (envOfC qual (defScope st) s.heap.objs.size f (.ref c))) → A.guards = some [] → sp vs H Q E →
      ∃ t, PSs (cxOf L2.CX0 P w K mg base N qual (defScope st) f (.ref c) A outer s H E).nox (defBody st) t ∧ t { nx := fun _ H' => Q .non H', rt := Q } (start N vs) H) : FnOkG P w K mg base L2.CX0 (k + 1) f fd ps sp := by
  obtain ⟨oc, od, kV, doc, pm, an, cdv, ct, osl, rfl, lk, hcd⟩ := F.ex
  obtain rfl : cdv = .ref c := hcode
  constructor
  · exact len
  · intro A outer s H args us vs Q E hr hg e0 hb r h
    apply LamX.run_ofS lk hcd S hr e0 hb r (len vs H Q E h)
    intro hr'
    obtain ⟨t, ht, hq⟩ := body A outer s H vs Q E hr' hg h
    exact ⟨t, ht.nox, hq⟩
/-- all but the box at b and the tables stay -/
def Ext (b : Addr) (H H' : Hp) : Prop := ∀ a o, H a = some o → a ≠ b → (∀ ps, o ≠ .tbl ps) → H' a = some o
theorem Ext.refl {b : Addr} (H : Hp) : Ext b H H := fun _ _ h _ _ => h
theorem Ext.trans {b : Addr} {H H1 H2 : Hp} (x : Ext b H H1) (y : Ext b H1 H2) : Ext b H H2 := fun a o h n t => y a o (x a o h n t) n t
theorem Ext.of {b : Addr} {H H' : Hp} (e : Same H H') : Ext b H H' := fun a o h _ _ => e a o h
theorem Ext.ofN {b : Addr} {H H' : Hp} (e : LamX.ExtN H H') : Ext b H H' := fun a o h _ t => e a o h t
theorem Ext.seq {K : PySem.W.Frag} {b a : Addr} {H H' : Hp} {xs : List V} (e : Ext b H H') (n : a ≠ b) (h : SqL K H a xs) : SqL K H' a xs := by
  rcases h with (h | ⟨o, h⟩) | h
  · exact .inl (.inl (e _ _ h n fun _ z => by cases z))
  · exact .inl (.inr ⟨o, e _ _ h n fun _ z => by cases z⟩)
  · exact .inr h
theorem Ext.tup {K : PySem.W.Frag} {b a : Addr} {H H' : Hp} {xs ys : List V} (e : Ext b H H') (hb : H b = some (.lst ys)) (h : SqT K H a xs) : SqT K H' a xs := by
  have ne : ∀ {o : HO}, H a = some o → o ≠ .lst ys → a ≠ b := fun {o} h1 h2 z => by
    rw [z, hb] at h1
    exact h2 (Option.some.inj h1).symm
  rcases h with (h | ⟨o, h⟩) | h
  · exact .inl (.inl (e _ _ h (ne h fun z => by cases z) fun _ z => by cases z))
  · exact .inl (.inr ⟨o, e _ _ h (ne h fun z => by cases z) fun _ z => by cases z⟩)
  · exact .inr h
theorem tabs_but {T : List (Addr × Str)} {b : Addr} {H H' : Hp} {ys : List V} (hb : H b = some (.lst ys)) (e : ∀ a o, H a = some o → a ≠ b → H' a = some o) (h : LamX.Tabs T H) : LamX.Tabs T H' := fun p hp => by
  obtain ⟨ps, h1, h2, h3⟩ := h p hp
  have ne : ∀ {a : Addr} {o : HO}, H a = some o → o ≠ .lst ys → a ≠ b := fun {a o} h1 h2 z => by
    rw [z, hb] at h1
    exact h2 (Option.some.inj h1).symm
  refine ⟨ps, e _ _ h1 (ne h1 fun z => by cases z), h2, fun pos cv hc => ?_⟩
  obtain ⟨c, e1, e2⟩ := h3 pos cv hc
  exact ⟨c, e1, e _ _ e2 (ne e2 fun z => by unfold LamX.CodeO at z; cases z)⟩
end Lx

set_option Elab.async false
set_option linter.all false
set_option maxRecDepth 100000
set_option maxHeartbeats 1000000
/-! a lambda that a lambda calls -/
namespace Lx
open PySem PySem.Spec PyProof.Rows L2
theorem PE.mono {X : Cx} {e : Expr} {t t' : TE} (h : PE X e t) (m : ∀ σ H Q, t' σ H Q → t σ H Q) : PE X e t' := ⟨fun pins s σ H Q I q => h.run pins s σ H Q I (m σ H Q q)⟩
/-- at f a lambda of one value that X's frame made and that does what sp says -/
def WorkAt (X : Cx) (k : Nat) (f : Addr) (H : Hp) (x : Str) (sp : XK → TE) : Prop := ∃ (params : Arguments) (body : Expr) (scope : Scope) (cc : Addr), H f = some (LamO X params body scope f cc) ∧ H cc = some (LamX.CodeO cc (lamQ X)) ∧ LamN X.env.scope scope [x] ∧
  (∀ (u : Value) (q : Str) (clo : List (Str × Addr)) (pm cv ctv : Value), bindArgs (PySem.W.kla_fn "<lambda>" q params body scope clo pm cv ctv) ⟨[u], []⟩ = pure [(x, u)]) ∧
  ∀ (A : Around) (outer : List Env) (s1 : Shared) (H1 : Hp) (E : XK) (f cc : Addr), Room k (A.deeper (lmEnv X scope s1.heap.objs.size f cc)) → PE (lmCx X [x] A outer s1 H1 E scope f cc) body (sp E)
theorem BodyOk.work {X : Cx} {k i : Nat} {scope : Scope} {wn x : Str} {arg : Expr} {ta : TE} {p pos : Pos} {sp : XK → TE} (hX : x ∉ X.N) (hN : (X.N ++ [])[i]? = some wn) (hv : Vis scope wn)
    (harg : ∀ (A : Around) (outer : List Env) (s1 : Shared) (H1 : Hp) (E : XK) (f cc : Addr), PE (lmCx X [] A outer s1 H1 E scope f cc) arg ta)
    (hm : ∀ σ H Q Q', (∀ v H, Q v H → Q' v H) → ta σ H Q → ta σ H Q') (he : ∀ env : Env, starEach [arg] env = (false, eval arg env) :: starEach [] env) (hd : (wn == ("__debug__" : Str)) = false := by decide) (hcd : (wn == ("__classdict__" : Str)) = false := by decide) :
    BodyOk X (k + 1) scope (.Call (.Name wn p) [arg] [] pos) (fun E σ H Q => ∃ f1, σ[i]? = some (some (.ref f1)) ∧ WorkAt X k f1 H x sp ∧ ta σ H fun v H2 => (∀ a o, H a = some o → H2 a = some o) ∧ sp E (σ ++ [some v]) H2 Q) := by
  intro pins σ H0 s0 A outer s1 H1 E f cc I cl hg hr s2 Q J ht
  obtain ⟨f1, h1, wk, ht⟩ := ht
  have fnat : ∀ {H : Hp} {s : Shared} {σ : L2.St}, Inv (lmCx X [] A outer s1 H1 E scope f cc) [] σ H s → WorkAt X k f1 H x sp → PySem.W.FnAt f1 s.heap := fun {H s σ} Iz ⟨params, body, sc, c1, hf, _⟩ => by
    have z : ObjOk X.prog X.w H s.heap f1 (LamO X params body sc f1 c1) := Iz.hok f1 _ hf
    obtain ⟨pm, ctv, of⟩ := z.1
    exact ⟨_, _, _, _, of⟩
  apply wpAny_Call_Name_kw
  refine thn ((pe_var (X := lmCx X [] A outer s1 H1 E scope f cc) (pos := p) (i := i) hN hv hd hcd).run [] s2 σ H1 (fun v H' => v = .ref f1 ∧ H' = H1) J ⟨.ref f1, h1, rfl, rfl⟩) ?_
  rintro u s3 ⟨v, H2, I2, ru, rfl, rfl⟩
  obtain rfl : u = Value.ref f1 := ru
  have pa : PA (lmCx X [] A outer s1 H2 E scope f cc) [arg] (tCons ta tNil) := pa_cons (harg A outer s1 H2 E f cc) pa_nil (he _)
  refine PySem.W.callWith_F (fnat I2 wk) (thn (pa.run pos [] s3 σ H2 (fun xs H3 => ∃ v, xs = [v] ∧ (∀ a o, H2 a = some o → H3 a = some o) ∧ sp E (σ ++ [some v]) H3 Q) I2 ?_) ?_) (he _) (by rfl)
  · exact hm σ H2 _ _ (fun v H3 q => ⟨v, rfl, q.1, q.2⟩) ht
  · rintro us s4 ⟨vs, H3, I3, rv, v, rfl, kp, q⟩
    obtain ⟨params, body, sc, c1, hf, hc, L, hb, hbody⟩ := wk
    refine ⟨fnat I3 ⟨params, body, sc, c1, kp _ _ hf, kp _ _ hc, L, hb, hbody⟩, ?_⟩
    obtain ⟨u, rfl, rx⟩ := vals1 rv
    have cl3 : CellsOn X s0.heap s4.heap H3 := cl.then (fun y c e => I.cell y c e) (show Un (lmCx X [] A outer s1 H2 E scope f cc).fs [] H2 H3 s1.heap s4.heap from I3.base)
    have tk : Takes (lmCx X [] A outer s1 H2 E scope f cc) (fun cls d _ H => E cls d H) := takes_of rfl rfl rfl rfl
    refine callee_end (CX := L2.CX X.prog X.w) (E := E) (kw := []) I3 (passes_call tk fun _ _ _ _ z => z) ?_
    refine lm_run (X := X) (pins := pins) (σ := σ) (H := H0) (s := s0) (HZ := H3) (s1 := s4) (ps := [x]) (vs := [v]) (us := [u]) (E := E) (Q := Q) (k := k) (scope := sc) (params := params) (body := body) (f := f1) (cc := c1) I L I3.env0 I3.nolimit cl3 (kp _ _ hf) (kp _ _ hc) hr (fun p hp => by
      obtain rfl : p = x := by simpa using hp
      exact hX) (.cons rx .nil) rfl (fun q clo pm cv ctv => hb u q clo pm cv ctv) (fun j y z e1 e2 => ?_) ?_
    · cases j with
      | succ j => simp at e1
      | zero =>
        simp at e1 e2
        subst e1 e2
        exact ⟨u, rx, by simp⟩
    · intro s5 hr5 J5
      exact (hbody _ _ _ _ _ _ _ hr5).run [] s5 _ H3 Q J5 q
end Lx

set_option Elab.async false
set_option linter.all false
set_option maxRecDepth 100000
set_option maxHeartbeats 1000000
/-! the end: a law whose promise asks that no guard stands around -/
namespace Lx
open PySem PySem.Spec PyProof.Rows L2
/-- what is told apart at the call: the tables, and the script where the frag does not hold it -/
def seed (K : PySem.W.Frag) (T : List Addr) (a : Addr) (vs : List Value) (ns : List Int) : Hp := fun b =>
  if b ∈ T then some (.tbl #[]) else if b = a ∧ K.lookup a = none then some (.frz { cls := .type "list", data := .seq vs.toArray } (.lst (ns.map V.int))) else none
section
variable {P : Program} {w : World} {K : PySem.W.Frag} {T : List Addr} {a : Addr} {vs : List Value} {ns : List Int} {h : Heap}
theorem seed_tab {b : Addr} (hb : b ∈ T) : seed K T a vs ns b = some (.tbl #[]) := by
  unfold seed
  rw [if_pos hb]
theorem seed_or (b : Addr) : seed K T a vs ns b = none ∨ (b ∈ T ∧ seed K T a vs ns b = some (.tbl #[])) ∨
    (b = a ∧ K.lookup a = none ∧ seed K T a vs ns b = some (.frz { cls := .type "list", data := .seq vs.toArray } (.lst (ns.map V.int)))) := by
  by_cases h1 : b ∈ T
  · exact .inr (.inl ⟨h1, seed_tab h1⟩)
  · by_cases h2 : b = a ∧ K.lookup a = none
    · refine .inr (.inr ⟨h2.1, h2.2, ?_⟩)
      unfold seed
      rw [if_neg h1, if_pos h2]
    · left
      unfold seed
      rw [if_neg h1, if_neg h2]
/-- an object that is no list and no empty table is not told apart -/
theorem seed_none {b : Addr} {o : Obj} (hT : ∀ p ∈ T, h.get? p = some { cls := .none, data := .fields #[] }) (ha : h.get? a = some { cls := .type "list", data := .seq vs.toArray }) (e : h.get? b = some o)
    (n1 : ∀ us n, o.data ≠ .seq us n) (n2 : o.data ≠ .fields #[]) : seed K T a vs ns b = none := by
  rcases seed_or (K := K) (T := T) (a := a) (vs := vs) (ns := ns) b with q | ⟨q, _⟩ | ⟨rfl, _⟩
  · exact q
  · rw [hT b q] at e
    cases e
    exact absurd rfl n2
  · rw [ha] at e
    cases e
    exact absurd rfl (n1 _ _)
theorem seed_script (hl : (ns.map V.int).length ≤ sizeLine) (rv : Vals (ns.map V.int) vs) (KX : K.In h) (aT : a ∉ T) (ha : h.get? a = some { cls := .type "list", data := .seq vs.toArray }) : SqL K (seed K T a vs ns) a (ns.map V.int) := by
  cases q : K.lookup a with
  | none =>
    refine .inl (.inr ⟨{ cls := .type "list", data := .seq vs.toArray }, ?_⟩)
    unfold seed
    rw [if_neg aT, if_pos ⟨rfl, q⟩]
  | some o =>
    have e := (KX a o q).symm.trans ha
    cases e
    exact .inr ⟨_, vs.toArray, _, q, rfl, rfl, rfl, by rw [List.size_toArray, ← rv.length]; exact hl, by simpa using rv⟩
theorem seed_ok (hl : (ns.map V.int).length ≤ sizeLine) (rv : Vals (ns.map V.int) vs) (hT : ∀ p ∈ T, h.get? p = some { cls := .none, data := .fields #[] }) (ha : h.get? a = some { cls := .type "list", data := .seq vs.toArray }) : HOk P w (seed K T a vs ns) h := by
  intro b u e
  rcases seed_or (K := K) (T := T) (a := a) (vs := vs) (ns := ns) b with q | ⟨m, q⟩ | ⟨rfl, _, q⟩
  · rw [q] at e
    cases e
  · rw [q] at e
    cases e
    exact hT b m
  · rw [q] at e
    cases e
    exact ⟨ha, hl, vs, _, rv, ha⟩
end
/-- the facts of the head's heap that the end asks for -/
structure Ground1 (K : PySem.W.Frag) (mg mb : Str → Option Value) (cs : List (Addr × Addr)) (st : Shared) : Prop where
  kin : K.In st.heap
  glob : st.heap.Ns mainGlobals mg
  blt : st.heap.Ns builtinsNs mb
  boot : ∀ x : Str, x ≠ "__name__" → mb x = bootBuiltins x
  lim : st.heap.NoLimit
  gens : st.gens = #[]
  tabs : ∀ p ∈ cs, st.heap.get? p.2 = some { cls := .none, data := .fields #[] }
  apart : ∀ p ∈ cs, K.lookup p.2 = none
  codes : ∀ p ∈ cs, PySem.W.CodeHd st.heap p.1 p.2
  main : ∃ (bm : Addr) (ob : Obj), mg "__builtins__" = some (.ref bm) ∧ bm ≠ builtinsNs ∧ st.heap.get? bm = some ob ∧ ob.cls = .type "module" ∧ ob.dict = some builtinsNs ∧ ob.data = .plain
theorem end_run {P : Program} {w : World} {K : PySem.W.Frag} {mg mb : Str → Option Value} {k : Nat} {fa a : Addr} {cs : List (Addr × Addr)} {fd : FuncData} {x : Str} {sp : Sp} {st : Shared} {vs : List Value} {ns : List Int} (G : Ground1 K mg mb cs st)
    (ha : st.heap.get? a = some { cls := .type "list", data := .seq vs.toArray }) (hi : IntsAre vs ns) (hl : ns.length ≤ sizeLine) (hr : Room k callerA)
    (F : ∀ base : Heap, K.In base → (∀ p ∈ cs, LamX.TabB base mg p.1 p.2) → FnOkG P w K mg base L2.CX0 k fa fd [x] sp) (bind : ∀ (s : Shared) (u : Value), BindsTo s fd ⟨[u], []⟩ [(x, u)])
    (hsp : ∀ H : Hp, (∀ p ∈ cs, H p.2 = some (.tbl #[])) → SqL K H a (ns.map V.int) → sp [.ref a] H (fun v _ => v = .bl true) fun _ _ _ => False) :
    codeAny (model P w) callerA (.call (.ref fa) ⟨[.ref a], []⟩) (fun r s' => r = .ok (.ret (.bool true)) ∧ OldK st.heap s'.heap ∧ s'.os = st.os ∧ AllBare s'.gens) st := by
  have rv := vals_ints hi
  have hl' : (ns.map V.int).length ≤ sizeLine := by rw [List.length_map]; exact hl
  have inT : ∀ {p}, p ∈ cs → p.2 ∈ cs.map (·.2) := fun hp => List.mem_map.mpr ⟨_, hp, rfl⟩
  have tabs : ∀ b ∈ cs.map (·.2), st.heap.get? b = some { cls := .none, data := .fields #[] } := fun b hb => by
    obtain ⟨p, hp, rfl⟩ := List.mem_map.mp hb
    exact G.tabs p hp
  have aT : a ∉ cs.map (·.2) := fun q => by
    have e := (tabs a q).symm.trans ha
    cases e
  have none_of : ∀ {b o}, st.heap.get? b = some o → (∀ us n, o.data ≠ .seq us n) → o.data ≠ .fields #[] → seed K (cs.map (·.2)) a vs ns b = none := fun e n1 n2 => seed_none tabs ha e n1 n2
  have nsOn : ∀ {b : Addr} {m : Str → Option Value}, st.heap.Ns b m → (hidT st.heap (seed K (cs.map (·.2)) a vs ns)).Ns b m := fun ⟨o, es, ep, e, d, r⟩ =>
    ⟨o, es, ep, hidT_get e (none_of e (fun us n q => by rw [d] at q; cases q) fun q => by rw [d] at q; cases q), d, r⟩
  have kin : K.In (hidT st.heap (seed K (cs.map (·.2)) a vs ns)) := fun b o e => by
    refine hidT_get (G.kin b o e) ?_
    rcases seed_or (K := K) (T := cs.map (·.2)) (a := a) (vs := vs) (ns := ns) b with q | ⟨m, _⟩ | ⟨rfl, q, _⟩
    · exact q
    · obtain ⟨p, hp, rfl⟩ := List.mem_map.mp m
      rw [G.apart p hp] at e
      cases e
    · rw [q] at e
      cases e
  have tb : ∀ p ∈ cs, LamX.TabB (hidT st.heap (seed K (cs.map (·.2)) a vs ns)) mg p.1 p.2 := fun p hp => by
    constructor
    · obtain ⟨o, us, f1, f2, f3, f4, f5, f6, f7, g1, g2, g3, g4⟩ := G.codes p hp
      refine ⟨o, us, f1, f2, f3, f4, f5, f6, f7, hidT_get g1 (none_of g1 (fun z n q => by rw [g3] at q; cases q) fun q => ?_), g2, g3, g4⟩
      rw [g3] at q
      cases q
      have := g4.1
      simp at this
    · obtain ⟨bm, ob, m1, m2, m3, m4, m5, m6⟩ := G.main
      refine ⟨bm, ob, m1, m2, fun q => ?_, fun q => ?_, hidT_get m3 (none_of m3 (fun z n q => by rw [m6] at q; cases q) fun q => by rw [m6] at q; cases q), m4, m5, m6⟩
      · obtain ⟨o, es, ep, e, d, _⟩ := G.glob
        subst q
        rw [m3] at e
        cases e
        rw [m6] at d
        cases d
      · subst q
        rw [G.tabs p hp] at m3
        cases m3
        cases m6
    · intro q
      obtain ⟨o, es, ep, e, d, _⟩ := G.glob
      rw [q, G.tabs p hp] at e
      cases e
      cases d
  have limit : (hidT st.heap (seed K (cs.map (·.2)) a vs ns)).NoLimit := by
    obtain ⟨mc, q1, q2⟩ := G.lim
    exact ⟨mc, nsOn q1, q2⟩
  have env : Env0 P w K mg (hidT st.heap (seed K (cs.map (·.2)) a vs ns)) callerA [] st (seed K (cs.map (·.2)) a vs ns) := {
    frames := rfl
    mod := ⟨kin, nsOn G.glob, ⟨mb, nsOn G.blt, G.boot⟩, limit⟩
    bs := fun b o e => of_hidT e
    bsz := Nat.le_of_eq (hidT_size _ _)
    funs := trivial
    frf := fun b hb => absurd (show b ∈ ([] : List Addr) from hb) (by simp)
    hok := seed_ok hl' rv tabs ha
    bare := .of_eq G.gens }
  have go := (F _ kin tb).run callerA [] st _ ⟨[.ref a], []⟩ [.ref a] [.ref a] _ _ hr rfl env (bind st (.ref a)) (.cons rfl .nil) (hsp _ (fun p hp => seed_tab (inT hp)) (seed_script hl' rv G.kin aT ha))
  refine codeAny_mono go fun r s' z => ?_
  match r, z with
  | .ok (.ret u), z =>
    obtain ⟨v, H', z1, z2, un, ok', ru, rfl⟩ := z
    obtain rfl : u = Value.bool true := ru
    have grew : ∀ p ∈ cs, ∃ more : Array Value, s'.heap.get? p.2 = some { cls := .none, data := .fields more } := fun p hp => by
      obtain ⟨more, q⟩ := un.tbls p.2 #[] (seed_tab (inT hp))
      exact ⟨_, ok' p.2 _ q⟩
    have stays : ∀ b o, b ∉ cs.map (·.2) → st.heap.get? b = some o → s'.heap.get? b = some o := fun b o nb e => by
      rcases seed_or (K := K) (T := cs.map (·.2)) (a := a) (vs := vs) (ns := ns) b with q | ⟨m, _⟩ | ⟨rfl, _, q⟩
      · exact un.keep b o e q (fun m => absurd (show b ∈ ([] : List Addr) from m) (by simp)) (by simp)
      · exact absurd m nb
      · have e2 := (ok' b _ (un.frzs b _ _ q)).1
        rw [ha] at e
        cases e
        exact e2
    refine ⟨rfl, ⟨fun b o e => ?_, fun b o e => ?_⟩, z1, z2⟩
    · by_cases m : b ∈ cs.map (·.2)
      · obtain ⟨p, hp, rfl⟩ := List.mem_map.mp m
        obtain ⟨more, q⟩ := grew p hp
        have t := G.tabs p hp
        rw [t] at e
        cases e
        exact .inr (.inl ⟨((G.codes p hp).tab t).isCodeTable, rfl, #[], more, rfl, by rw [Array.empty_append]; exact q⟩)
      · exact .inl (stays b o m e)
    · by_cases m : b ∈ cs.map (·.2)
      · obtain ⟨p, hp, rfl⟩ := List.mem_map.mp m
        obtain ⟨more, q⟩ := grew p hp
        exact ⟨_, q⟩
      · exact ⟨o, stays b o m e⟩
end Lx
namespace Lx
open PySem PySem.Spec PyProof.Rows L2
/-- what is known of the law's promise at the head's heap h -/
def LawG (l : PySem.W.OpenLaw) (w : World) (K : PySem.W.Frag) (k n : Nat) (x : Str) (mg : Str → Option Value) (fa : Addr) (h : Heap) : Prop :=
  ∃ (fd : FuncData) (cs : List (Addr × Addr)) (sp : Sp), (∀ p ∈ cs, h.get? p.2 = some { cls := .none, data := .fields #[] } ∧ K.lookup p.2 = none ∧ PySem.W.CodeHd h p.1 p.2) ∧ (∀ (s : Shared) (u : Value), BindsTo s fd ⟨[u], []⟩ [(x, u)]) ∧
    (∀ (H : Hp) (a : Addr) (ns : List Int), ns.length ≤ n → (∀ p ∈ cs, H p.2 = some (.tbl #[])) → SqL K H a (ns.map V.int) → sp [.ref a] H (fun v _ => v = .bl true) fun _ _ _ => False) ∧
    ∀ base : Heap, K.In base → (∀ p ∈ cs, LamX.TabB base mg p.1 p.2) → FnOkG l.prog w K mg base L2.CX0 k fa fd [x] sp
theorem end_walk {l : PySem.W.OpenLaw} {n k : Nat} {q : Program} {loose : List Str} {XP : (Str → Option Value) → Heap → Prop} {YP : World → Heap → Prop} {d : DefRec} {K : Params → PySem.W.Frag} {x : Str} (hn : l.most = some n) (hn2 : n ≤ sizeLine) (hdf : d.params.defaults = []) (hr : Room k callerA)
    (hY : ∀ (w : World) (h : Heap), YP w h → (K w.params).In h) (F : ∀ (w : World) (mg : Str → Option Value) (fa : Addr) (h : Heap), YP w h → (K w.params).In h → h.Ns mainGlobals mg → mg d.name = some (.ref fa) → LawG l w (K w.params) k n x mg fa h) :
    PySem.W.WalkO q loose XP YP l.row.toRowW d [] (fun f vs => PySem.call f vs) := by
  refine Att.attach_callB hn hdf ?_
  intro w s0 st mg mb fa o pm cd doc a vs ns G Y ho hd hcd hmg hobj hints hlen hbits hg
  have kin := hY w _ Y
  obtain ⟨fd, cs, sp, ht, hb, hs, hF⟩ := F w mg fa _ Y kin G.T.g hmg
  exact end_run ⟨kin, G.T.g, G.T.b, G.T.builtins, G.T.nolimit, hg, fun p hp => (ht p hp).1, fun p hp => (ht p hp).2.1, fun p hp => (ht p hp).2.2, G.T.bmain⟩ hobj hints (Nat.le_trans hlen hn2) hr hF hb fun H hH hS => hs H a ns hlen hH hS
end Lx

set_option Elab.async false
set_option linter.all false
set_option maxRecDepth 100000
set_option maxHeartbeats 4000000
/-! own errors straight over KeyError, whose __init__ stores one field -/
namespace Lx
open PySem PySem.Spec PyProof.Rows L2
abbrev keTail : List Value := [.type "KeyError", .type "LookupError", .type "Exception", .type "BaseException", .type "object"]
abbrev keNew : String := "LookupError.__new__"
abbrev keObj (nm q : Str) (C N : Addr) (bs : List Value) (sn : List Str) (sub : List Value) (ab : Bool) (col : Option Bool) (dd : Option Addr) (k0 k1 k2 k3 k5 : Option Value) : Obj := excClassObj nm q C N bs keTail true sn sub ab col dd k0 k1 k2 k3 k5 keNew
theorem ke_pass (self : Value) (C : Addr) : refuseLoop self "__setattr__" (.ref C :: keTail) = pure () := by
  rw [refuseLoop_ref]
  kernel_rfl
section
variable {M : Model} {A : Around} {E : Value → Shared → Prop} {h : Heap} {g : Array GenState} {d : Drawn} {t : Nat} {os : OsState}
variable {nm q : Str} {C N : Addr} {bs : List Value} {sn : List Str} {sub : List Value} {ab : Bool} {col : Option Bool} {dd : Option Addr} {k0 k1 k2 k3 k5 : Option Value}
theorem ke_in (C : Addr) : (Value.ref C :: keTail).contains (.type "LookupError") = true := by
  rw [List.contains_cons, show keTail.contains (.type "LookupError") = true by decide +kernel, Bool.or_true]
theorem ke_noA (C : Addr) : (Value.ref C :: keTail).contains (.type "AttributeError") = false := by
  rw [List.contains_cons, show keTail.contains (.type "AttributeError") = false by decide +kernel]
  rfl
theorem ke_noN (C : Addr) : (Value.ref C :: keTail).contains (.type "NameError") = false := by
  rw [List.contains_cons, show keTail.contains (.type "NameError") = false by decide +kernel]
  rfl
theorem ke_check {us : List Value} {Q : Unit → Shared → Prop} (gC : h.get? C = some (keObj nm q C N bs sn sub ab col dd k0 k1 k2 k3 k5)) (hq : Q () ⟨h, g, d, t, os⟩) : wpAny M A (checkBuiltinCall keNew ⟨.ref C :: us, []⟩) Q E ⟨h, g, d, t, os⟩ := by
  have F := PySem.F.excBase_LookupError
  have c1 := ke_in C
  have c2 := F.noStar
  simp only [checkBuiltinCall, F.newKind, F.newSplit, F.newRow]
  repeat (first | refine wpAny_loadPart_at gC ?_ | (refine wpAny_isSubtype_exc gC ?_; rw [c1]) | refine wpAny_staticBase_exc gC ?_ | refine wpAny_madeBy_exc gC ?_ | simp only [bne_self_eq_false, Bool.false_eq_true, if_false] | wp_step)
  exact hq
end
section
variable {prog : Program} {w : World} {A : Around} {E : Value → Shared → Prop} {R : Result → Shared → Prop} {h : Heap} {g : Array GenState} {d : Drawn} {t : Nat} {os : OsState}
variable {nm q : Str} {C N fI : Addr} {bs us : List Value} {sn : List Str} {sub : List Value} {ab : Bool} {col : Option Bool} {dd : Option Addr} {k0 k1 k2 k3 k5 : Option Value}
theorem ke_new (gC : h.get? C = some (keObj nm q C N bs sn sub ab col dd k0 k1 k2 k3 k5)) (hl : us.length ≤ sizeLine)
    (hq : R (.ok (.ret (.ref (h.objs.size + 1)))) ⟨(h.push (PySem.W.kdv_tup us)).push (PySem.HandSPX.excO C h.objs.size), g, d, t, os⟩) : codeAny (model prog w) A (.builtin keNew ⟨.ref C :: us, []⟩) R ⟨h, g, d, t, os⟩ := by
  have F := PySem.F.excBase_LookupError
  have c0 := F.ends
  have c1 := ke_in C
  have c2 := ke_noA C
  have c3 := ke_noN C
  refine codeAny_builtinAt F.entry ?_
  unfold Builtin.«BaseException.__new__»
  refine PySem.wpAt_bind ?_
  show PySem.wpAt _ _ _ (stack >>= _) _ _ _
  refine PySem.wpAt_bind (PySem.wpAt_stack fun p below => PySem.wpAt_of_wpAny ?_)
  wp_walk
  refine PySem.wpAt_of_wpAny ?_
  rw [F.owner]
  repeat (first | with_reducible refine wpAny_madeHere_exc F.canon gC ?_ | with_reducible refine wpAny_loadPart_at gC ?_ | (with_reducible refine wpAny_isSubtype_exc gC ?_; first | rw [c1] | rw [c2] | rw [c3]) | wp_step)
  show R _ _
  rw [Heap.size_push]
  exact hq
theorem ke_make (gC : h.get? C = some (keObj nm q C N bs sn sub ab col dd k0 k1 k2 k3 k5)) (li : PySem.W.Looks (model prog w) h (typeLookup (.ref C) "__init__") (some (.ref fI))) (lb : ∀ self, PySem.W.Looks (model prog w) h (bindSpecial (.ref fI) self) (.ref fI, [self])) (hl : us.length ≤ sizeLine)
    (hq : codeAny (model prog w) (A.under (.builtin "type.__call__" ⟨.ref C :: us, []⟩)) (.call (.ref fI) ⟨.ref (h.objs.size + 1) :: us, []⟩) (PySem.W.InitBack (h.objs.size + 1) R) ⟨(h.push (PySem.W.kdv_tup us)).push (PySem.HandSPX.excO C h.objs.size), g, d, t, os⟩) :
    codeAny (model prog w) A (.call (.ref C) ⟨us, []⟩) R ⟨h, g, d, t, os⟩ := by
  have F := PySem.F.excBase_LookupError
  have f1 := tc_lookup
  have f2 := tc_bind (.ref C)
  have ty : (⟨h, g, d, t, os⟩ : Shared).TypeIs (.ref C) "type" := ⟨_, gC, rfl⟩
  have inner : ∀ {Q : Fin → Shared → Prop} {E : Value → Shared → Prop} {A : Around}, codeAny (model prog w) A (.call (.ref fI) ⟨.ref (h.objs.size + 1) :: us, []⟩) (fun r s' => match r with | .ok (.ret v) => v = .none ∧ Q (.done (.ret (.ref (h.objs.size + 1)))) s' | .ok _ => False | .error e => E e s') ⟨(h.push (PySem.W.kdv_tup us)).push (PySem.HandSPX.excO C h.objs.size), g, d, t, os⟩ →
      wpAny (model prog w) A (Builtin.«type.__call__» ⟨.ref C :: us, []⟩) Q E ⟨h, g, d, t, os⟩ := by
    intro Q E A hq
    repeat (first | with_reducible refine wpAny_loadPart_at gC ?_ | with_reducible refine wpAny_madeBy_exc gC ?_ | wp_step)
    refine codeAny_call_builtin_code (Code.quiet_builtin _ F.quiet) (ke_check gC ?_)
    refine ke_new gC hl ?_
    show wpAny _ _ _ _ _ _
    have kp : ∀ b o, h.get? b = some o → ((h.push (PySem.W.kdv_tup us)).push (PySem.HandSPX.excO C h.objs.size)).get? b = some o := fun b o e => Heap.get?_push_of_some _ (Heap.get?_push_of_some _ e)
    have gC1 := kp _ _ gC
    have ge : ((h.push (PySem.W.kdv_tup us)).push (PySem.HandSPX.excO C h.objs.size)).get? (h.objs.size + 1) = some (PySem.HandSPX.excO C h.objs.size) := by heap_get
    have cC : (Value.ref C :: keTail).contains (.ref C) = true := by simp
    have i1 := li.keeps kp
    have b1 := (lb (.ref (h.objs.size + 1))).keeps kp
    unfold isInstance
    repeat (first | with_reducible refine wpAny_loadPart_at ge ?_ | (with_reducible refine wpAny_isSubtype_exc gC1 ?_; rw [cC]) | wp_step)
    show wpAny _ _ (typeLookup (.ref C) _) _ _ _
    refine i1.at ?_
    refine wpAny_holding (wpAny_bind (b1.at ?_))
    refine wpAny_bind (wpAny_call (codeAny_mono hq fun r s' z => ?_))
    rcases r with e | (v | _ | _ | _) <;> first | exact z | exact z.elim | skip
    obtain ⟨rfl, z⟩ := z
    first
      | exact wpAny_pure (wpAny_pure z)
      | (wp_walk; exact z)
  refine codeAny_of_tree ?_
  show wpAny _ _ (callAny (.ref C) _) _ _ _
  repeat (any_goals (first | assumption | with_reducible refine wpAny_loadPart_at gC ?_ | wp_step))
  refine ⟨rfl, ?_⟩
  refine codeAny_call_builtin_at (Code.quiet_builtin _ (by decide +kernel)) entry_typeCall (wpAny_check_type_call_sub gC (inner ?_))
  refine codeAny_mono hq fun r s' z => ?_
  rcases r with e | (v | _ | _ | _) <;> exact z
end
end Lx

set_option Elab.async false
set_option linter.all false
set_option maxRecDepth 100000
set_option maxHeartbeats 4000000
/-! their fields stored; made; raised -/
namespace PySem.W
open PySem PySem.Spec PySem.Calls PyProof.Rows L2 Builtin Builtin.ObjectAttr
theorem ke_osa {prog : Program} {w : World} {A : Around} {R : Result → Shared → Prop} {hp : Heap} {g : Array GenState} {d : Drawn} {t : Nat} {os : OsState} {K : Frag} {name : Str} {tk : Tok} {v : Value} {x C : Addr} {fv : Array Value} {cd : ClassData}
    (X : K.In hp) (gx : hp.get? x = some { cls := .ref C, data := .fields fv }) (gcd : clsIn K C = some cd) (hm : cd.mro = .ref C :: Lx.keTail) (hh : cd.hasDict = true) (no : findIn K (.ref C) name = some none)
    (hq : ∀ h' tk' dx, (∀ b o, b ≠ x → hp.get? b = some o → h'.get? b = some o) → hp.objs.size ≤ dx → dx ≠ x → h'.get? x = some { cls := .ref C, dict := some dx, data := .fields fv } →
      h'.Ns1 dx (fun y => if y = name then some v else none) → R (.ok (.ret .none)) ⟨h', g, d, tk', os⟩) :
    codeAny (model prog w) A (.call (.builtin "object.__setattr__") ⟨[.ref x, .str name tk, v], []⟩) R ⟨hp, g, d, t, os⟩ := by
  have I : InstAt hp x { cls := .ref C, data := .fields fv } C none := ⟨gx, rfl, rfl, trivial⟩
  have SF := PySem.F.store_object
  have nx : x ≠ hp.objs.size := Nat.ne_of_lt (Heap.lt_size gx)
  have ne : cd.mro.isEmpty = false := by rw [hm]; rfl
  have ob : cd.mro.contains (.type "object") = true := by
    rw [hm, List.contains_cons, show Lx.keTail.contains (.type "object") = true by decide +kernel, Bool.or_true]
  have sub : Looks (model prog w) hp (isInstance (.ref x) (.type "object")) true := I.type.andThen (looks_mroIn X (by unfold mroIn; rw [gcd, Option.bind_some, if_neg (by rw [ne]; decide), ob]))
  refine codeAny_call_builtin SF.slot.plain SF.entry (@check_slot (model prog w) _ _ ⟨hp, g, d, t, os⟩ "object.__setattr__" "object" "__setattr__" (.ref x) [.str name tk, v] [] _ SF.kind SF.split sub (SF.args (.ref x) (.str name tk) v) ?_)
  have l1 : Looks (model prog w) hp (mroOf (.ref C)) cd.mro := (looks_clsIn X gcd).andThen .now
  have l2 : Looks (model prog w) hp (storeTaker? none) none := .now
  have l3 : Looks (model prog w) hp (classData C) cd := looks_clsIn X gcd
  rw [osa_eq, refuse_eq]
  refine wpAny_bind (wpAny_bind (I.type.at (wpAny_bind (l1.at ?_))))
  rw [hm, Lx.ke_pass]
  refine wpAny_pure (wpAny_bind (I.type.at (wpAny_bind ((looks_findIn X no).at (wpAny_bind (l2.at ?_))))))
  show wpAny _ _ (storeInOwnDict (.ref x) (.ref C) (.str name tk) name v false) _ _ _
  obtain ⟨nm, bs, mro, ns, qn, hd, sn, sb, ab, col, del⟩ := cd
  dsimp only at hh
  subst hh
  unfold storeInOwnDict ownDictForStores
  repeat (first | with_reducible refine PySem.HandSPX.store_in_new ?_ ?_ | with_reducible refine wpAny_loadPart_at gx ?_ | with_reducible refine l3.at ?_ | wp_step)
  · exact ⟨_, #[], _, (Heap.get?_update_ne _ _ _ _ nx.symm).trans (Heap.get?_push_at rfl rfl), rfl, fun e he => absurd he (by simp), fun _ => rfl⟩
  · intro h' tk' hn' hs
    have gx1 : (hp.push { cls := .type "dict", data := .dict #[] }).get? x = some { cls := .ref C, data := .fields fv } := Heap.get?_push_of_some _ gx
    refine hq h' tk' hp.objs.size (fun b o hb ho => ?_) (Nat.le_refl _) nx.symm ?_ hn'
    · exact (hs.2 b (Nat.ne_of_lt (Heap.lt_size ho))).trans ((Heap.get?_update_ne _ _ _ _ hb).trans (Heap.get?_push_of_some _ ho))
    · exact (hs.2 x nx).trans (Heap.get?_update_self _ gx1 rfl)
end PySem.W
namespace Lx
open PySem PySem.Spec PyProof.Rows L2
/-- what the written part says of a class straight over KeyError -/
structure KexC (K : PySem.W.Frag) (C : Addr) : Prop where
  cls : ∃ nm q N bs sn sub ab col dd k0 k1 k2 k3 k5, K.lookup C = some (keObj nm q C N bs sn sub ab col dd k0 k1 k2 k3 k5)
  sa : PySem.W.findIn K (.ref C) "__setattr__" = some (some (.builtin "object.__setattr__"))
  exC : PySem.W.subIn K (.ref C) (.type "BaseException") = some true
  tyC : PySem.W.typeIn K (.ref C) = some (.type "type")
  kC : PySem.W.keepIn K (.ref C) = true
section
variable {X : Cx} {pins : List (Addr × Obj)} {σ : L2.St} {H : Hp} {s : Shared} {a C : Addr} {f : Str} {y : V} {u : Value} {Q : Unit → Shared → Prop} {E : Value → Shared → Prop} {A : Around}
theorem kst_new (T : KexC X.K C) (I : Inv X pins σ H s) (e : H a = some (exo a C none)) (no : PySem.W.findIn X.K (.ref C) f = some none) (ry : RelV y u)
    (h : ∀ dx s', H dx = none → dx ≠ a → Inv X pins σ (upd (upd H dx (exd dx [(f, y)])) a (exo a C (some dx))) s' → Q () s') : wpAny (model X.prog X.w) A (setAttr (.ref a) f u) Q E s := by
  obtain ⟨nm, q, N, bs, sn, sub, ab, col, dd, k0, k1, k2, k3, k5, gC⟩ := T.cls
  have gcl : PySem.W.clsIn X.K C = some { name := nm, bases := bs, mro := .ref C :: keTail, ns := N, qualname := q, hasDict := true, slotNames := sn, subclasses := sub, abstract := ab, collection := col, hasDel := false } := by
    unfold PySem.W.clsIn
    rw [gC] <;> rfl
  obtain ⟨t1, ho⟩ := exo_at I.hok e
  obtain ⟨hp, g, d, t, os⟩ := s
  refine PySem.W.set_plain I.kIn (ox := { cls := .ref C, dict := none, data := .fields #[.ref t1, .none, .none, .none, .bool false, .none] }) (od := none) ⟨ho, rfl, rfl, trivial⟩ T.sa ?_
  refine PySem.W.ke_osa I.kIn ho gcl rfl rfl no (fun h' tk' dx k dn dne hx hn => ?_)
  have nd0 : H dx = none := I.hok.fresh dn
  have nd : ∀ {b : Addr} {o : Obj}, hp.get? b = some o → b ≠ dx := fun {b o} q => Nat.ne_of_lt (Nat.lt_of_lt_of_le (Heap.lt_size q) dn)
  have na : ∀ {b : Addr}, H b = none → b ≠ a := fun {b} n z => by
    rw [z, e] at n
    cases n
  have two : ∀ {b : Addr} {o : HO}, H b = some o → b ≠ a → upd (upd H dx (exd dx [(f, y)])) a (exo a C (some dx)) b = some o := fun {b o} q n => by
    rw [upd_ne n, upd_ne (ne_of_none q nd0)]
    exact q
  have Un1 : Un X.fs [] H (upd (upd H dx (exd dx [(f, y)])) a (exo a C (some dx))) hp h' := {
    keep := fun b o q n _ _ => k b o (na n) q
    slot := fun b o q n _ _ => ⟨o.slots, k b o (na n) q⟩
    free := fun b o q n _ => by
      rw [upd_ne (na n), upd_ne (nd q)]
      exact n
    there := fun b o q _ => by
      by_cases hb : b = a
      · exact ⟨_, hb ▸ hx⟩
      · exact ⟨o, k b o hb q⟩
    tups := fun b xs q => two q (at_ne e q exo_tup)
    frzs := fun b o v q => two q (at_ne e q exo_frz)
    tbls := fun b ps q => ⟨#[], by simp [two q (at_ne e q exo_tbl)]⟩ }
  refine h dx _ nd0 dne (I.un (t' := tk') Un1 fun b o q => ?_)
  by_cases hb : b = a
  · subst hb
    rw [upd_same] at q
    cases q
    exact exo_ok hx
  · by_cases hd : b = dx
    · subst hd
      rw [upd_ne hb, upd_same] at q
      cases q
      exact exd_ok hn (relO_put (fs := []) ry fun g => True.intro)
    · rw [upd_ne hb, upd_ne hd] at q
      refine (I.hok b o q).stay (fun c v hc z => k c v ?_ z) (fun c hc => two hc (at_ne e hc exo_own)) (fun c xs hc => two hc (at_ne e hc exo_tup))
      rcases hc with rfl | hc
      · exact hb
      · exact at_ne e hc exo_own
end
/-- self.f = e, the first field -/
def tKst (K : PySem.W.Frag) (f : Str) (to te : TE) : TS := fun D σ H => te σ H fun y H1 => to σ H1 fun x H2 => ∃ a C : Addr, x = .ref a ∧ KexC K C ∧ PySem.W.findIn K (.ref C) f = some none ∧
  H2 a = some (exo a C none) ∧ ∀ dx, H2 dx = none → dx ≠ a → D.nx σ (upd (upd H2 dx (exd dx [(f, y)])) a (exo a C (some dx)))
theorem ps_kst {X : Cx} {o e : Expr} {to te : TE} {f : Str} {p' pos : Pos} (ho : PE X o to) (he : PE X e te) (hs : swapsWith e (some (.Attribute o f p')) pos.line X.env = pure false := by rfl) : PS X (.Assign [.Attribute o f p'] e pos) (tKst X.K f to te) := by
  constructor
  intro pins s σ H D I h
  refine plainObj_wpAny_Assign_Attribute (thn (he.run pins s σ H _ I h) fun v s1 ⟨y, H1, I1, r1, q1⟩ => thn (ho.run pins s1 σ H1 _ I1 q1) fun u s2 ⟨x, H2, I2, r2, a, C, ex, T, no, ea, q⟩ => ?_) hs
  subst ex
  obtain rfl : u = Value.ref a := r2
  exact kst_new T I2 ea no r1 fun dx s' n ne J => ⟨σ, _, J, q dx n ne⟩
/-- C(e, ..), C's own __init__ keeping sp -/
theorem pmk_kex {X : Cx} {CX : CXT} {x : Str} {C fI : Addr} {k : Nat} {fd : FuncData} {ps : List Str} {sp : Sp} {e : Expr} {es : List Expr} {ta : TA} {p pos : Pos} (T : KexC X.K C) (iC : PySem.W.findIn X.K (.ref C) "__init__" = some (some (.ref fI))) (tI : PySem.W.typeIn X.K (.ref fI) = some (.type "function"))
    (F1 : FnOk X.prog X.w X.K X.mg X.base CX k fI fd ps sp) (hr : Room (k + 1) X.A) (hb : Binds X.K fd ps []) (hx : Passes CX X (fun _ _ _ => False)) (hg : Gl X x) (hm : X.mg x = some (.ref C)) (ha : PA X (e :: es) ta)
    (hdb : (x == ("__debug__" : Str)) = false := by decide) (he : starEach (e :: es) X.env = (false, eval e X.env) :: starEach es X.env := by rfl) (hpl : (backTo pos (starEach es X.env)).any (·.1) = false := by rfl) :
    PMk X (.Call (.Name x p) (e :: es) [] pos) (tMkO C sp [] ta) := by
  intro pins s σ H Q I h
  obtain ⟨nm, q, N, bs, sn, sub, ab, col, dd, k0, k1, k2, k3, k5, gC⟩ := T.cls
  refine wpAny_Call_Name_kw (ld_glob I hg hm ?_ hdb)
  refine PySem.W.callWith_K (h₀ := X.base) I.ok.mod.kin T.kC (thn (ha.run pos pins s σ H _ I h) fun us s1 ⟨vs, H1, I1, r1, hz, q1⟩ => ⟨I1.kIn, ?_⟩) he hpl
  show wpAny _ _ (call (.ref C) us) _ _ _
  obtain ⟨hp, g, dr, tk, os⟩ := s1
  have sz : hp.objs.size ≤ hp.objs.size + 1 := Nat.le_succ _
  have q2 := q1 (hp.objs.size + 1) (I1.hok.fresh sz)
  have kk : ∀ b o, hp.get? b = some o → ((hp.push (PySem.W.kdv_tup us)).push (PySem.HandSPX.excO C hp.objs.size)).get? b = some o := fun b o e => Heap.get?_push_of_some _ (Heap.get?_push_of_some _ e)
  have ge : ((hp.push (PySem.W.kdv_tup us)).push (PySem.HandSPX.excO C hp.objs.size)).get? (hp.objs.size + 1) = some (PySem.HandSPX.excO C hp.objs.size) := by heap_get
  have I2 : Inv X pins σ (upd H1 (hp.objs.size + 1) (exo (hp.objs.size + 1) C none)) ⟨(hp.push (PySem.W.kdv_tup us)).push (PySem.HandSPX.excO C hp.objs.size), g, dr, tk, os⟩ :=
    I1.laid (t' := tk) (a := hp.objs.size + 1) (o := exo (hp.objs.size + 1) C none) (h' := (hp.push (PySem.W.kdv_tup us)).push (PySem.HandSPX.excO C hp.objs.size)) kk sz (exo_ok ge)
  rw [List.append_nil] at q2
  have r2 : Vals (V.ref (hp.objs.size + 1) :: vs) (Value.ref (hp.objs.size + 1) :: us) := .cons rfl r1
  have hl : (Value.ref (hp.objs.size + 1) :: us).length = ps.length := by
    have e := r2.length
    rw [F1.len _ _ _ _ q2] at e
    exact e.symm
  have hus : us.length ≤ sizeLine := by
    rw [← Paired.length r1, sizeLine_eq]
    omega
  refine wpAny_call (ke_make (I1.kIn _ _ gC) (PySem.W.looks_findIn I1.kIn iC) (fun self => PySem.W.bind_fn I1.kIn self tI) hus
    (codeAny_mono (F1.run _ X.stack _ _ ⟨Value.ref (hp.objs.size + 1) :: us, []⟩ (Value.ref (hp.objs.size + 1) :: us) _ _ (fun _ _ _ => False) (hr.make C us []) (I2.env0.make C us []) (by simpa using hb _ (Value.ref (hp.objs.size + 1) :: us) I2.kIn (by simpa using hl)) r2 q2) fun r s' z => ?_))
  rcases r with er | (_ | _ | _ | u)
  · exact hx pins σ _ _ er s' I2 z
  · exact False.elim z
  · exact False.elim z
  · exact False.elim z
  · obtain ⟨v, H2, os2, bare2, un2, hok2, rv, ev, d, fs, ea, ed, hd1, q3⟩ := z
    subst ev
    obtain ⟨h2, g2, d2, t2, os'⟩ := s'
    exact ⟨rv, mk_end (raises_own T.exC T.tyC) I1 sz kk un2 hok2 os2 bare2 ea ed hd1 q3⟩
/-- the class x over KeyError, at C -/
structure ErrQ (P : Program) (w : World) (K : PySem.W.Frag) (mg : Str → Option Value) (base : Heap) (x fld : Str) (C : Addr) : Prop where
  T : KexC K C
  xf : XfC K C
  ec : ExcC K C
  no : PySem.W.findIn K (.ref C) fld = some none
  gC : mg x = some (.ref C)
  ini : ∃ fI fd k ps, PySem.W.findIn K (.ref C) "__init__" = some (some (.ref fI)) ∧ PySem.W.typeIn K (.ref fI) = some (.type "function") ∧ k ≤ 1 ∧ FnOk P w K mg base L2.CX0 k fI fd ps (errSp C fld) ∧ Binds K fd ps []
theorem ps_raiseQ {X : Cx} {C : Addr} {x fld : Str} {e : Expr} {te : TE} {W : WX} {p pos pos2 : Pos} (hc : X.calm = true) (Er : ErrQ X.prog X.w X.K X.mg X.base x fld C) (hr : Room 2 X.A) (tk : Takes X W) (he : PE X e te) (hg : Gl X x := by rfl)
    (hdb : (x == ("__debug__" : Str)) = false := by decide) (h1 : starEach [e] X.env = (false, eval e X.env) :: starEach [] X.env := by rfl) (h2 : (backTo pos (starEach [] X.env)).any (·.1) = false := by rfl) :
    PS X (.Raise (some (.Call (.Name x p) [e] [] pos)) none pos2) (tErr C fld W te) := by
  obtain ⟨fI, fd, k, ps, i1, i2, hk, F1, hb⟩ := Er.ini
  exact ps_raise (pos := pos2) hc tk (pmk_kex (p := p) Er.T i1 i2 F1 (hr.mono (by omega)) hb pass0 hg Er.gC (pa_cons he pa_nil h1) hdb h1 h2)
theorem ok_keInit {P : Program} {w : World} {K : PySem.W.Frag} {mg : Str → Option Value} {base : Heap} {qual fld : Str} {C f : Addr} {fd : FuncData} {st : Stmt} {p1 p2 p3 p4 : Pos} (T : KexC K C) (no : PySem.W.findIn K (.ref C) fld = some none)
    (F : Fun K "__init__" qual st f fd) (S : FnScope ["self", fld] ["self", fld] (defScope st)) (hB : defBody st = [.Assign [.Attribute (.Name "self" p1) fld p2] (.Name fld p3) p4]) (hd : (fld == ("__debug__" : Str)) = false) (hcd : (fld == ("__classdict__" : Str)) = false)
    (v1 : Vis (defScope st) "self") (v2 : Vis (defScope st) fld) (hsw : ∀ X : Cx, swapsWith (.Name fld p3) (some (.Attribute (.Name "self" p1) fld p2)) p4.line X.env = pure false) : FnOk P w K mg base L2.CX0 1 f fd ["self", fld] (errSp C fld) := by
  apply F.ok S
  · rintro vs H Q E ⟨a, v, rfl, _⟩
    rfl
  · rintro cdv A outer s H vs Q E hr ⟨a, v, rfl, ha, h⟩
    rw [hB]
    refine ⟨_, pss_one (ps_kst (pe_var (i := 0) rfl v1) (pe_var (i := 1) rfl v2 hd hcd) (hsw _)), ?_⟩
    exact ⟨v, rfl, .ref a, rfl, a, C, rfl, T, no, ha, h⟩
end Lx

set_option Elab.async false
set_option linter.all false
set_option maxRecDepth 100000
set_option maxHeartbeats 4000000
/-! functions handed on: made in one frame, called from another; defs with defaults; a display of one pair -/
namespace Lx
open PySem PySem.Spec PyProof.Rows L2 NdefX

theorem cells_later {cl : List (Str × Addr)} {fr : List Str} {ws : List (Option V)} {fs : List Addr} {h h' : Heap} {H H' : Hp} (C : CellsAt cl fr ws h H) (u : Un fs [] H H' h h') : CellsAt cl fr ws h' H' := by
  have cell : ∀ {c v}, H c = none → h.IsCell c v → h'.IsCell c v := fun {c v} n ⟨o, ho, hd⟩ => by
    obtain ⟨sl, q⟩ := u.any ho n (by simp)
    exact ⟨_, q, hd⟩
  refine ⟨C.len, fun y c e => ?_, C.inj, fun i y e => ?_⟩
  · obtain ⟨n, v, z⟩ := C.all y c e
    obtain ⟨o, ho, _⟩ := id z
    exact ⟨u.free c o ho n (by simp), v, cell n z⟩
  · obtain ⟨c, hc, hv⟩ := C.has i y e
    refine ⟨c, hc, fun v ev => ?_⟩
    obtain ⟨r, h1, h2⟩ := hv v ev
    exact ⟨r, h1, cell (C.all y c hc).1 h2⟩
/-- the function at f may be called at any heap that comes of (s0, H0) -/
structure Clo (P : Program) (w : World) (K : PySem.W.Frag) (mg : Str → Option Value) (base : Heap) (CX : CXT) (k : Nat) (f : Addr) (s0 : Shared) (H0 : Hp) (sp : Sp) : Prop where
  run : ∀ (A : Around) (outer : List Env) (s : Shared) (H : Hp) (us : List Value) (vs : List V) (Q : VK) (E : XK) (fs : List Addr), Room k A → Env0 P w K mg base A outer s H → Un fs [] H0 H s0.heap s.heap → Same H0 H → Vals vs us → sp vs H Q E →
    codeAny (model P w) A (.call (.ref f) ⟨us, []⟩) (CR CX outer P w H s Q E) s
  fn : ∀ (s : Shared) (H : Hp), HOk P w H s.heap → Same H0 H → PySem.W.FnAt f s.heap
section
variable {P : Program} {w : World} {K : PySem.W.Frag} {mg : Str → Option Value} {base : Heap} {CX : CXT}
theorem clo_nested {k : Nat} {f : Addr} {F : NF} {ps fr : List Str} {sp : List (Option V) → Sp} {ws : List (Option V)} {s0 : Shared} {H0 : Hp} (N : NOk P w K mg base CX k f F ps fr sp) (hf : H0 f = some (FnO f F)) (hc : H0 F.c = some (LamX.CodeO F.c F.qual)) (C : CellsAt F.cl fr ws s0.heap H0) :
    Clo P w K mg base CX k f s0 H0 (sp ws) := by
  constructor
  · intro A outer s H us vs Q E fs hr e0 u sm rv h
    exact N.run A outer s H us vs ws Q E hr e0 (sm _ _ hf) (sm _ _ hc) (cells_later C u) rv h
  · intro s H ok sm
    obtain ⟨od, sl, doc, pm, ctv, ho⟩ := fnO_at ok (sm _ _ hf)
    exact ⟨_, od, _, sl, ho⟩
theorem Clo.imp {k : Nat} {f : Addr} {s0 : Shared} {H0 : Hp} {sp sp' : Sp} (c : Clo P w K mg base CX k f s0 H0 sp) (h : ∀ vs H Q E, Same H0 H → sp' vs H Q E → sp vs H Q E) : Clo P w K mg base CX k f s0 H0 sp' :=
  ⟨fun A outer s H us vs Q E fs hr e0 u sm rv q => c.run A outer s H us vs Q E fs hr e0 u sm rv (h _ _ _ _ sm q), c.fn⟩
/-- a def whose promise speaks of the state at which it is called -/
structure FnOkS (P : Program) (w : World) (K : PySem.W.Frag) (mg : Str → Option Value) (base : Heap) (CX : CXT) (k : Nat) (f : Addr) (fd : FuncData) (ps : List Str) (sp : Shared → Sp) : Prop where
  len : ∀ s vs H Q E, sp s vs H Q E → vs.length = ps.length
  run : ∀ (A : Around) (outer : List Env) (s : Shared) (H : Hp) (args : Args) (us : List Value) (vs : List V) (Q : VK) (E : XK), Room k A → Env0 P w K mg base A outer s H → BindsTo s fd args (ps.zip us) → Vals vs us → sp s vs H Q E →
    codeAny (model P w) A (.call (.ref f) args) (CR CX outer P w H s Q E) s
theorem okS {x qual : Str} {params : Arguments} {body : List Stmt} {scope : Scope} {dvs : List V} {kws : List (Str × V)} {f : Addr} {fd : FuncData} {N ps : List Str} {k : Nat} {sp : Shared → Sp} (F : FunD K x qual params body scope dvs kws f fd) (S : FnScope N ps scope) (len : ∀ s vs H Q E, sp s vs H Q E → vs.length = ps.length)
    (hbody : ∀ (cdv : Value) (A : Around) (outer : List Env) (s : Shared) (H : Hp) (vs : List V) (Q : VK) (E : XK), Room k (A.deeper (envOfC qual scope s.heap.objs.size f cdv)) → sp s vs H Q E →
      ∃ t, PSs (cxOf L2.CX0 P w K mg base N qual scope f cdv A outer s H E).nox body t ∧ t { nx := fun _ H' => Q .non H', rt := Q } (start N vs) H) : FnOkS P w K mg base L2.CX0 (k + 1) f fd ps sp := by
  obtain ⟨oc, od, dV, kV, doc, pm, an, cdv, ct, osl, rfl, lk, hcd, _, _⟩ := F.ex
  constructor
  · exact len
  · intro A outer s H args us vs Q E hr e0 hb r h
    apply LamX.run_ofS lk hcd S hr e0 hb r (len s vs H Q E h)
    intro hr'
    obtain ⟨t, ht, hq⟩ := hbody cdv A outer s H vs Q E hr' h
    exact ⟨t, ht.nox, hq⟩
end
/-- the def x with defaults dvs, the last ones of which a call may leave out -/
structure HasS (P : Program) (w : World) (K : PySem.W.Frag) (mg : Str → Option Value) (base : Heap) (CX : CXT) (k : Nat) (x : Str) (ps : List Str) (dvs : List V) (sp : Shared → Sp) : Prop where
  ex : ∃ f fd ds, mg x = some (.ref f) ∧ PySem.W.keepIn K (.ref f) = true ∧ Vals dvs ds ∧ Binds K fd ps ds ∧ FnOkS P w K mg base CX k f fd ps sp
structure HasD (P : Program) (w : World) (K : PySem.W.Frag) (mg : Str → Option Value) (base : Heap) (CX : CXT) (k : Nat) (x : Str) (ps : List Str) (dvs : List V) (sp : Sp) : Prop where
  ex : ∃ f fd ds, mg x = some (.ref f) ∧ PySem.W.keepIn K (.ref f) = true ∧ Vals dvs ds ∧ Binds K fd ps ds ∧ FnOk P w K mg base CX k f fd ps sp
def tCallS (X : Cx) (sp : Shared → Sp) (dvs : List V) (E : XK) (t : TA) : TE := fun σ H Q => t σ H fun vs H1 => ∀ pins s, Inv X pins σ H1 s → sp s (vs ++ dvs) H1 Q E
section
variable {X : Cx} {k : Nat} {x : Str} {ps : List Str} {dvs : List V} {e : Expr} {es : List Expr} {p pos : Pos} {t : TA}
theorem pe_hasD {sp : Sp} {CX : CXT} {E : XK} (F : HasD X.prog X.w X.K X.mg X.base CX k x ps dvs sp) (hr : Room k X.A) (hx : Passes CX X E) (hg : Gl X x) (ha : PA X (e :: es) t)
    (hdb : (x == ("__debug__" : Str)) = false := by decide) (he : starEach (e :: es) X.env = (false, eval e X.env) :: starEach es X.env := by rfl) (hpl : (backTo pos (starEach es X.env)).any (·.1) = false := by rfl) :
    PE X (.Call (.Name x p) (e :: es) [] pos) (tCall sp dvs E t) := by
  obtain ⟨f, fd, ds, h1, h2, h3, h4, h5⟩ := F.ex
  exact pe_call h5 hr hg h1 h2 h4 h3 hx ha hdb he hpl
theorem pe_hasS {sp : Shared → Sp} {CX : CXT} {E : XK} (F : HasS X.prog X.w X.K X.mg X.base CX k x ps dvs sp) (hr : Room k X.A) (hx : Passes CX X E) (hg : Gl X x) (ha : PA X (e :: es) t)
    (hdb : (x == ("__debug__" : Str)) = false := by decide) (he : starEach (e :: es) X.env = (false, eval e X.env) :: starEach es X.env := by rfl) (hpl : (backTo pos (starEach es X.env)).any (·.1) = false := by rfl) :
    PE X (.Call (.Name x p) (e :: es) [] pos) (tCallS X sp dvs E t) := by
  obtain ⟨f, fd, ds, h1, h2, h3, h4, h5⟩ := F.ex
  constructor
  intro pins s σ H Q I h
  apply wpAny_Call_Name_kw (ld_glob I hg h1 ?_ hdb)
  refine PySem.W.callWith_K (h₀ := X.base) I.ok.mod.kin h2 (thn (ha.run pos pins s σ H _ I h) fun us s1 ⟨vs, H1, I1, r, q⟩ => ⟨I1.kIn, ?_⟩) he hpl
  have q := q pins s1 I1
  have r2 : Vals (vs ++ dvs) (us ++ ds) := r.append h3
  have hl : (us ++ ds).length = ps.length := by rw [← r2.length]; exact h5.len _ _ _ _ _ q
  exact callee_end (kw := []) I1 hx (h5.run X.A X.stack s1 H1 ⟨us, []⟩ (us ++ ds) (vs ++ dvs) Q E hr I1.env0 (h4 s1 us I1.kIn hl) r2 q)
/-- g(e, ..), g a name of this frame that was handed a function -/
def tClo (X : Cx) (CX : CXT) (k i : Nat) (E : XK) (t : TA) : TE := fun σ H Q => ∃ f sp, σ[i]? = some (some (.ref f)) ∧ Clo X.prog X.w X.K X.mg X.base CX k f X.s_0 X.H_0 sp ∧ Same X.H_0 H ∧ t σ H fun vs H1 => Same X.H_0 H1 ∧ sp vs H1 Q E
theorem pe_clo {CX : CXT} {i j : Nat} {E : XK} (hex : X.ex = []) (hr : Room j X.A) (hk : k ≤ j) (hx : Passes CX X E) (hN : X.N[i]? = some x) (hv : Vis X.env.scope x) (ha : PA X (e :: es) t)
    (hd : (x == ("__debug__" : Str)) = false := by decide) (hcd : (x == ("__classdict__" : Str)) = false := by decide)
    (he : starEach (e :: es) X.env = (false, eval e X.env) :: starEach es X.env := by rfl) (hpl : (backTo pos (starEach es X.env)).any (·.1) = false := by rfl) :
    PE X (.Call (.Name x p) (e :: es) [] pos) (tClo X CX k i E t) := by
  constructor
  rintro pins s σ H Q I ⟨f, sp, hs, C, sm, ht⟩
  apply wpAny_Call_Name_kw
  refine thn ((pe_var (pos := p) hN hv hd hcd).run pins s σ H (fun v H1 => v = .ref f ∧ H1 = H) I ⟨.ref f, hs, rfl, rfl⟩) ?_
  rintro u s1 ⟨v, H1, I1, r1, rfl, rfl⟩
  obtain rfl : u = Value.ref f := r1
  refine PySem.W.callWith_F (first := []) (C.fn s1 _ I1.hok sm) (thn (ha.run pos pins s1 σ _ _ I1 ht) fun us s2 ⟨vs, H2, I2, r, sm2, q⟩ => ⟨C.fn s2 _ I2.hok sm2, ?_⟩) he hpl
  have u2 : Un X.fs [] X.H_0 H2 X.s_0.heap s2.heap := by
    have z := I2.base
    rw [hex] at z
    exact z
  exact callee_end (kw := []) I2 hx (C.run X.A X.stack s2 H2 us vs Q E X.fs (hr.mono hk) I2.env0 u2 sm2 r q)
end

/-! ### {k: v} -/
/-- k a tuple of ints and texts -/
def tDisp1T (tk tv : TE) : TE := fun σ H Q => ∀ p, H p = none → tk σ (upd H p (.dT [])) fun x H1 => tv σ H1 fun y H2 => ∃ kk b, x = .ref b ∧ H2 b = some (.tup (kk.map kV)) ∧ H2 p = some (.dT []) ∧ Q (.ref p) (upd H2 p (.dT [(kk, y)]))
theorem pe_disp1T {X : Cx} {k v : Expr} {tk tv : TE} {pos : Pos} (hu : X.A.units + 1 < cLine) (hk : PE X k tk) (hv : PE X v tv) : PE X (.Dict [some k] [v] pos) (tDisp1T tk tv) := by
  constructor
  intro pins s σ H Q I h
  have nn := I.hok.fresh (Nat.le_refl s.heap.objs.size)
  have I1 := I.laid (a := s.heap.objs.size) (o := .dT []) (h' := s.heap.push { cls := .type "dict", data := .dict #[] }) (t' := s.toks) (fun _ _ q => Heap.get?_push_of_some _ q) (Nat.le_refl _) (dt_empty s.heap I.big)
  rw [arm_eval_Dict, zip_pairTrees [some k] [v] X.env pos rfl rfl, dictDisplay_pairs _ (by simp [pairTrees]) (by simp [pairTrees])]
  refine wpAny_bind (wpAny_standAt (wpAny_bind (wpAny_subDictH (knd := tupleKind (mixKind X.prog X.w)) (s := s) (pairs := pairTrees [some k] [v] X.env pos) (show X.A.units < cLine by omega) (by simp [pairTrees]) ?_)))
  refine pairTrees_cons_walk (thn (hk.run pins _ σ _ _ I1 (h _ nn)) fun u s1 ⟨x, H1, J1, rx, q1⟩ => thn (hv.run pins s1 σ H1 _ J1 q1) fun w2 s2 ⟨y, H2, J2, ry, kk, b, ex, hb, hp, q⟩ => pairTrees_nil_walk ?_)
  subst ex
  cases (show u = Value.ref b from rx)
  obtain ⟨z, hd, xs, rel, dd⟩ := dt_of J2.hok hp
  cases rel
  refine ⟨[(kk, b, w2)], ⟨rfl, rfl, key_of J2.hok hb, trivial⟩, dd, fun h' tk dd' hs => wpAny_pure ⟨.ref s.heap.objs.size, upd H2 s.heap.objs.size (.dT [(kk, y)]), ?_, rfl, q⟩⟩
  obtain ⟨o, es, ep, ho, h2, h3, h4, _, h5⟩ := dd'
  refine d_write J2 (by rw [hp]; exact True.intro) hs ⟨o, ho⟩ ⟨by show 1 ≤ sizeLine; decide, hd, [(kk, b, w2)], .cons ⟨rfl, ?_, ry⟩ .nil, o, es, ep, ho, h2, h3, h4, h5⟩
  rw [upd_ne (ne_of hb hp (fun z => nomatch z))]
  exact hb
end Lx

set_option Elab.async false
set_option linter.all false
/-! walks as plain functions: by thing the first row that leads to it -/
namespace Wk
section
variable {κ : Type} [DecidableEq κ]
abbrev Got (κ : Type) := List (κ × List Int)
def has (W : Got κ) (k : κ) : Bool := W.any fun e => decide (e.1 = k)
def rowOf (W : Got κ) (k : κ) : List Int := ((W.find? fun e => decide (e.1 = k)).map (·.2)).getD []
def put1 (row : List Int) (i : Nat) (o : Option κ) (s : Got κ × List κ) : Got κ × List κ := match o with
  | none => s
  | some t => if has s.1 t then s else (s.1 ++ [(t, row ++ [(i : Int)])], s.2 ++ [t])
def put (row : List Int) : List (Option κ) → Nat → Got κ × List κ → Got κ × List κ
  | [], _, s => s
  | o :: r, i, s => put row r (i + 1) (put1 row i o s)
theorem put_snoc (row : List Int) (o : Option κ) : ∀ (l : List (Option κ)) (i : Nat) (s : Got κ × List κ), put row (l ++ [o]) i s = put1 row (i + l.length) o (put row l i s)
  | [], i, s => rfl
  | p :: l, i, s => by
    show put row (l ++ [o]) (i + 1) (put1 row i p s) = _
    rw [put_snoc row o l (i + 1), List.length_cons, Nat.add_right_comm, Nat.add_assoc]
    rfl
theorem put_take (row : List Int) {l : List (Option κ)} {i : Nat} {o : Option κ} (h : l[i]? = some o) (s : Got κ × List κ) : put row (l.take (i + 1)) 0 s = put1 row i o (put row (l.take i) 0 s) := by
  have lt := (List.getElem?_eq_some_iff.mp h).1
  rw [List.take_add_one, h]
  show put row (l.take i ++ [o]) 0 s = _
  rw [put_snoc, List.length_take, Nat.min_eq_left (Nat.le_of_lt lt), Nat.zero_add]
def layer (nxt : κ → List (Option κ)) (L : List κ) (s : Got κ × List κ) : Got κ × List κ := L.foldl (fun s t => put (rowOf s.1 t) (nxt t) 0 s) s
theorem layer_take (nxt : κ → List (Option κ)) {L : List κ} {i : Nat} {t : κ} (h : L[i]? = some t) (s : Got κ × List κ) : layer nxt (L.take (i + 1)) s = put (rowOf (layer nxt (L.take i) s).1 t) (nxt t) 0 (layer nxt (L.take i) s) := by
  unfold layer
  rw [List.take_add_one, h, List.foldl_append]
  rfl
def turn (nxt : κ → List (Option κ)) (s : Got κ × List κ) : Got κ × List κ := layer nxt s.2 (s.1, [])
def turns (nxt : κ → List (Option κ)) : Nat → Got κ × List κ → Got κ × List κ
  | 0, s => s
  | n + 1, s => turn nxt (turns nxt n s)
def keys (W : Got κ) : List κ := W.map (·.1)
theorem has_iff {W : Got κ} {k : κ} : has W k = true ↔ k ∈ keys W := by
  unfold has keys
  rw [List.any_eq_true, List.mem_map]
  constructor
  · rintro ⟨e, h1, h2⟩
    exact ⟨e, h1, of_decide_eq_true h2⟩
  · rintro ⟨e, h1, h2⟩
    exact ⟨e, h1, decide_eq_true h2⟩

/-! ### what holds all along -/
/-- s0 ahead, s behind: what was told stays, what is fresh is new -/
structure Grew (U : κ → Prop) (s0 s : Got κ × List κ) : Prop where
  nd : (keys s.1).Nodup
  sub : ∀ k ∈ keys s.1, U k
  old : ∃ more, s.1 = s0.1 ++ more ∧ s.2 = s0.2 ++ keys more
theorem Grew.refl {U : κ → Prop} {s : Got κ × List κ} (h1 : (keys s.1).Nodup) (h2 : ∀ k ∈ keys s.1, U k) : Grew U s s := ⟨h1, h2, [], by simp, by simp [keys]⟩
theorem Grew.trans {U : κ → Prop} {s0 s1 s2 : Got κ × List κ} (a : Grew U s0 s1) (b : Grew U s1 s2) : Grew U s0 s2 := by
  obtain ⟨m1, e1, e2⟩ := a.old
  obtain ⟨m2, e3, e4⟩ := b.old
  exact ⟨b.nd, b.sub, m1 ++ m2, by rw [e3, e1, List.append_assoc], by rw [e4, e2, List.append_assoc]; simp [keys]⟩
theorem Grew.put1 {U : κ → Prop} {s0 s : Got κ × List κ} (g : Grew U s0 s) (row : List Int) (i : Nat) (o : Option κ) (h : ∀ t, o = some t → U t) : Grew U s0 (put1 row i o s) := by
  cases o with
  | none => exact g
  | some t =>
    unfold Wk.put1
    by_cases c : has s.1 t = true
    · simp only [c, if_true]
      exact g
    · simp only [c]
      have nt : t ∉ keys s.1 := fun z => c (has_iff.mpr z)
      obtain ⟨m, e1, e2⟩ := g.old
      refine ⟨?_, ?_, m ++ [(t, row ++ [(i : Int)])], ?_, ?_⟩
      · show (keys (s.1 ++ [(t, row ++ [(i : Int)])])).Nodup
        unfold keys
        rw [List.map_append, List.nodup_append]
        refine ⟨g.nd, by simp, ?_⟩
        intro a ha b hb
        simp at hb
        subst hb
        rintro rfl
        exact nt ha
      · intro k hk
        have hk : k ∈ keys (s.1 ++ [(t, row ++ [(i : Int)])]) := hk
        unfold keys at hk
        rw [List.map_append, List.mem_append] at hk
        rcases hk with hk | hk
        · exact g.sub k hk
        · simp at hk
          subst hk
          exact h _ rfl
      · show s.1 ++ [(t, row ++ [(i : Int)])] = _
        rw [e1, List.append_assoc]
      · show s.2 ++ [t] = _
        rw [e2]
        simp [keys]
theorem Grew.put {U : κ → Prop} {s0 : Got κ × List κ} (row : List Int) : ∀ (l : List (Option κ)) (i : Nat) (s : Got κ × List κ), Grew U s0 s → (∀ t, some t ∈ l → U t) → Grew U s0 (put row l i s)
  | [], _, _, g, _ => g
  | o :: r, i, s, g, h => Grew.put row r (i + 1) _ (g.put1 row i o fun t e => h t (by rw [e]; exact List.mem_cons_self)) fun t ht => h t (List.mem_cons_of_mem _ ht)
theorem Grew.layer {U : κ → Prop} {s0 : Got κ × List κ} {nxt : κ → List (Option κ)} (hU : ∀ k, U k → ∀ t, some t ∈ nxt k → U t) : ∀ (L : List κ) (s : Got κ × List κ), (∀ t ∈ L, U t) → Grew U s0 s → Grew U s0 (layer nxt L s)
  | [], _, _, g => g
  | t :: L, s, h, g => Grew.layer hU L _ (fun u hu => h u (List.mem_cons_of_mem _ hu)) (Grew.put _ _ 0 s g fun u hu => hU t (h t List.mem_cons_self) u hu)
theorem grew_len {U : List κ} {s0 s : Got κ × List κ} (g : Grew (· ∈ U) s0 s) : s.1.length ≤ U.length := by
  have z : (keys s.1).length ≤ U.length := List.Nodup.length_le_of_subset g.nd g.sub
  unfold keys at z
  rwa [List.length_map] at z
/-! ### nothing is left out -/
theorem put1_mono {row : List Int} {i : Nat} {o : Option κ} {s : Got κ × List κ} {k : κ} (h : k ∈ keys s.1) : k ∈ keys (put1 row i o s).1 := by
  unfold put1
  split
  · exact h
  · split
    · exact h
    · unfold keys at h ⊢
      rw [List.map_append]
      exact List.mem_append_left _ h
theorem put_mono {row : List Int} {k : κ} : ∀ {l : List (Option κ)} {i : Nat} {s : Got κ × List κ}, k ∈ keys s.1 → k ∈ keys (put row l i s).1
  | [], _, _, h => h
  | o :: l, i, s, h => put_mono (l := l) (i := i + 1) (s := put1 row i o s) (put1_mono h)
theorem put1_in {row : List Int} {i : Nat} {t : κ} {s : Got κ × List κ} : t ∈ keys (put1 row i (some t) s).1 := by
  unfold put1
  by_cases c : has s.1 t = true
  · simp only [c, if_true]
    exact has_iff.mp c
  · simp only [c]
    show t ∈ keys (s.1 ++ [(t, row ++ [(i : Int)])])
    unfold keys
    rw [List.map_append]
    exact List.mem_append_right _ (by simp)
theorem put_in {row : List Int} {t : κ} : ∀ {l : List (Option κ)} {i : Nat} {s : Got κ × List κ}, some t ∈ l → t ∈ keys (put row l i s).1
  | o :: l, i, s, h => by
    rcases List.mem_cons.mp h with e | h
    · subst e
      exact put_mono (l := l) (i := i + 1) (s := put1 row i (some t) s) put1_in
    · exact put_in (l := l) (i := i + 1) (s := put1 row i o s) h
theorem layer_mono {nxt : κ → List (Option κ)} {k : κ} : ∀ {L : List κ} {s : Got κ × List κ}, k ∈ keys s.1 → k ∈ keys (layer nxt L s).1
  | [], _, h => h
  | u :: L, s, h => layer_mono (L := L) (s := put (rowOf s.1 u) (nxt u) 0 s) (put_mono h)
theorem layer_in {nxt : κ → List (Option κ)} {k t : κ} (ht : some t ∈ nxt k) : ∀ {L : List κ} {s : Got κ × List κ}, k ∈ L → t ∈ keys (layer nxt L s).1
  | u :: L, s, h => by
    rcases List.mem_cons.mp h with e | h
    · subst e
      exact layer_mono (L := L) (s := put (rowOf s.1 k) (nxt k) 0 s) (put_in ht)
    · exact layer_in ht (L := L) (s := put (rowOf s.1 u) (nxt u) 0 s) h
/-- rows lead from the first thing to this one -/
inductive Comes (nxt : κ → List (Option κ)) (a : κ) : κ → Prop
  | here : Comes nxt a a
  | step {k t : κ} : Comes nxt a k → some t ∈ nxt k → Comes nxt a t
/-- behind some turns -/
structure Walked (nxt : κ → List (Option κ)) (a : κ) (U : List κ) (s : Got κ × List κ) : Prop where
  nd : (keys s.1).Nodup
  sub : ∀ k ∈ keys s.1, k ∈ U
  come : ∀ k ∈ keys s.1, Comes nxt a k
  fst : ∃ more, s.1 = (a, []) :: more
  lay : ∀ k ∈ s.2, k ∈ keys s.1
  shut : ∀ k ∈ keys s.1, k ∉ s.2 → ∀ t, some t ∈ nxt k → t ∈ keys s.1
theorem Walked.start {nxt : κ → List (Option κ)} {a : κ} {U : List κ} (h : a ∈ U) : Walked nxt a U ([(a, [])], [a]) := by
  refine ⟨by simp [keys], fun k hk => ?_, fun k hk => ?_, ⟨[], rfl⟩, fun k hk => by simpa [keys] using hk, fun k hk n => absurd (by simpa [keys] using hk) n⟩
  · have e : k = a := by simpa [keys] using hk
    subst e
    exact h
  · have e : k = a := by simpa [keys] using hk
    subst e
    exact .here
theorem Walked.turn {nxt : κ → List (Option κ)} {a : κ} {U : List κ} {s : Got κ × List κ} (hU : ∀ k, k ∈ U → ∀ t, some t ∈ nxt k → t ∈ U) (w : Walked nxt a U s) : Walked nxt a U (turn nxt s) ∧ ((turn nxt s).2 = [] ∨ s.1.length < (turn nxt s).1.length) := by
  have g0 : ∀ {P : κ → Prop}, (∀ k ∈ keys s.1, P k) → Grew P ((s.1, []) : Got κ × List κ) (s.1, []) := fun {P} h => ⟨w.nd, h, [], by simp, by simp [keys]⟩
  have g1 := Grew.layer (nxt := nxt) (U := (· ∈ U)) hU s.2 (s.1, []) (fun t ht => w.sub t (w.lay t ht)) (g0 w.sub)
  have g2 := Grew.layer (nxt := nxt) (U := Comes nxt a) (fun k hk t ht => .step hk ht) s.2 (s.1, []) (fun t ht => w.come t (w.lay t ht)) (g0 w.come)
  obtain ⟨m, e1, e2⟩ := g1.old
  have e1 : (Wk.turn nxt s).1 = s.1 ++ m := e1
  have e2 : (Wk.turn nxt s).2 = keys m := by
    rw [List.nil_append] at e2
    exact e2
  have ek : keys (Wk.turn nxt s).1 = keys s.1 ++ keys m := by rw [e1]; simp [keys]
  refine ⟨⟨g1.nd, g1.sub, g2.sub, ?_, fun k hk => ?_, fun k hk n t ht => ?_⟩, ?_⟩
  · obtain ⟨more, e⟩ := w.fst
    exact ⟨more ++ m, by rw [e1, e]; rfl⟩
  · rw [ek]
    rw [e2] at hk
    exact List.mem_append_right _ hk
  · rw [ek, List.mem_append] at hk
    rw [e2] at n
    rcases hk with hk | hk
    · by_cases c : k ∈ s.2
      · exact layer_in ht c
      · exact layer_mono (w.shut k hk c t ht)
    · exact absurd hk n
  · cases m with
    | nil => exact .inl e2
    | cons x m =>
      right
      rw [e1, List.length_append, List.length_cons]
      omega
theorem Walked.len {nxt : κ → List (Option κ)} {a : κ} {U : List κ} {s : Got κ × List κ} (w : Walked nxt a U s) : s.1.length ≤ U.length := by
  have z : (keys s.1).length ≤ U.length := List.Nodup.length_le_of_subset w.nd w.sub
  unfold keys at z
  rwa [List.length_map] at z
/-- at the end: just what comes -/
theorem Walked.all {nxt : κ → List (Option κ)} {a : κ} {U : List κ} {s : Got κ × List κ} (w : Walked nxt a U s) (h : s.2 = []) (k : κ) : k ∈ keys s.1 ↔ Comes nxt a k := by
  refine ⟨w.come k, fun c => ?_⟩
  induction c with
  | here =>
    obtain ⟨more, e⟩ := w.fst
    rw [e]
    simp [keys]
  | step _ ht ih => exact w.shut _ ih (by rw [h]; simp) _ ht
/-- what holds within a layer -/
theorem layer_len {nxt : κ → List (Option κ)} {a : κ} {U : List κ} {s : Got κ × List κ} (hU : ∀ k, k ∈ U → ∀ t, some t ∈ nxt k → t ∈ U) (w : Walked nxt a U s) (i : Nat) : Grew (· ∈ U) (s.1, []) (layer nxt (s.2.take i) (s.1, [])) :=
  Grew.layer (nxt := nxt) (U := (· ∈ U)) hU _ _ (fun t ht => w.sub t (w.lay t (List.mem_of_mem_take ht))) ⟨w.nd, w.sub, [], by simp, by simp [keys]⟩
theorem put_len {nxt : κ → List (Option κ)} {U : List κ} {s0 s : Got κ × List κ} {row : List Int} (hU : ∀ k, k ∈ U → ∀ t, some t ∈ nxt k → t ∈ U) (g : Grew (· ∈ U) s0 s) {t : κ} (ht : t ∈ U) (i : Nat) : Grew (· ∈ U) s0 (put row ((nxt t).take i) 0 s) :=
  Grew.put row _ 0 s g fun u hu => hU t ht u (List.mem_of_mem_take hu)
/-- no row is longer than things stand ahead of it -/
def Short (s : Got κ × List κ) : Prop := 0 < s.1.length ∧ ∀ e ∈ s.1, e.2.length < s.1.length
theorem Short.rowOf {s : Got κ × List κ} (h : Short s) (k : κ) : (rowOf s.1 k).length < s.1.length := by
  unfold Wk.rowOf
  cases e : s.1.find? fun e => decide (e.1 = k) with
  | none => exact h.1
  | some p => exact h.2 p (List.mem_of_find?_eq_some e)
theorem Short.put1 {row : List Int} {i : Nat} {o : Option κ} {s : Got κ × List κ} (h : Short s) (hr : row.length < s.1.length) : Short (put1 row i o s) ∧ row.length < (put1 row i o s).1.length := by
  unfold Wk.put1
  split
  · exact ⟨h, hr⟩
  · rename_i t
    by_cases c : has s.1 t = true
    · simp only [c, if_true]
      exact ⟨h, hr⟩
    · simp only [c]
      refine ⟨⟨by simp, fun e he => ?_⟩, ?_⟩
      · have he : e ∈ s.1 ++ [(t, row ++ [(i : Int)])] := he
        show e.2.length < (s.1 ++ [(t, row ++ [(i : Int)])]).length
        rw [List.length_append, List.length_singleton]
        rcases List.mem_append.mp he with z | z
        · have := h.2 e z
          omega
        · have z : e = (t, row ++ [(i : Int)]) := by simpa using z
          subst z
          rw [List.length_append, List.length_singleton]
          omega
      · show row.length < (s.1 ++ [(t, row ++ [(i : Int)])]).length
        rw [List.length_append]
        omega
theorem Short.put {row : List Int} : ∀ {l : List (Option κ)} {i : Nat} {s : Got κ × List κ}, Short s → row.length < s.1.length → Short (Wk.put row l i s) ∧ row.length < (Wk.put row l i s).1.length
  | [], _, _, h, hr => ⟨h, hr⟩
  | o :: l, i, s, h, hr => Short.put (l := l) (i := i + 1) (s := Wk.put1 row i o s) (h.put1 hr).1 (h.put1 hr).2
theorem Short.layer {nxt : κ → List (Option κ)} : ∀ {L : List κ} {s : Got κ × List κ}, Short s → Short (Wk.layer nxt L s)
  | [], _, h => h
  | u :: L, s, h => Short.layer (L := L) (s := Wk.put (Wk.rowOf s.1 u) (nxt u) 0 s) (Short.put h (h.rowOf u)).1
end
end Wk

set_option Elab.async false
set_option linter.all false
set_option maxRecDepth 100000
set_option maxHeartbeats 4000000
/-! dicts of rows by thing, the things being ints or tuples -/
namespace Lx
open PySem PySem.Spec PyProof.Rows L2 Wk
/-- all but the tables of code objects stays, nothing that was tracked is gone -/
structure ExtB (H H' : Hp) : Prop where
  ext : LamX.ExtN H H'
  back : ∀ b, H' b = none → H b = none
theorem ExtB.of {H H' : Hp} (e : Same H H') : ExtB H H' := ⟨LamX.ExtN.of e, fun b n => e.free n⟩
theorem ExtB.refl (H : Hp) : ExtB H H := .of (Same.refl H)
theorem ExtB.trans {H H1 H2 : Hp} (a : ExtB H H1) (b : ExtB H1 H2) : ExtB H H2 := ⟨a.ext.trans b.ext, fun c n => a.back c (b.back c n)⟩
/-- how things stand as values, and a dict by them -/
structure KeyRep (κ : Type) [DecidableEq κ] where
  is : Hp → V → κ → Prop
  dict : List (κ × V) → HO
  same : ∀ {H H' : Hp} {v : V} {k : κ}, Same H H' → is H v k → is H' v k
  some_ : ∀ {H : Hp} {v : V} {k : κ}, is H v k → v ≠ .non
  wr : ∀ kvs, Mut (some (dict kvs))
  get : ∀ {H : Hp} {a : Addr} {v : V} {k : κ} {kvs : List (κ × V)}, H a = some (dict kvs) → is H v k → DGet H a v (valV kvs k)
  put : ∀ {H : Hp} {a : Addr} {v y : V} {k : κ} {kvs : List (κ × V)}, H a = some (dict kvs) → is H v k → kvs.length < sizeLine → DPut H a v y (upd H a (dict (putK kvs k y)))
  stay : ∀ {H : Hp} {a : Addr} {v : V} {k : κ} {kvs : List (κ × V)} {o : HO}, H a = some (dict kvs) → is H v k → is (upd H a o) v k
  stayL : ∀ {H : Hp} {a : Addr} {v : V} {k : κ} {xs : List V} {o : HO}, H a = some (.lst xs) → is H v k → is (upd H a o) v k
  noTup : ∀ kvs xs, dict kvs ≠ .tup xs
  noLst : ∀ kvs xs, dict kvs ≠ .lst xs
  noFrz : ∀ kvs o u, dict kvs ≠ .frz o u
/-- tuples of ints and texts -/
def repT : KeyRep (List Key) where
  is := fun H v k => ∃ b, v = .ref b ∧ H b = some (.tup (k.map kV))
  dict := .dT
  same := fun e ⟨b, h1, h2⟩ => ⟨b, h1, e _ _ h2⟩
  some_ := fun ⟨b, h1, _⟩ z => by rw [h1] at z; cases z
  wr := fun _ => True.intro
  get := fun e ⟨b, h1, h2⟩ => by subst h1; exact .t e h2
  put := fun e ⟨b, h1, h2⟩ hl => by subst h1; exact .t e h2 hl
  stay := fun e ⟨b, h1, h2⟩ => ⟨b, h1, by rw [upd_ne (ne_of h2 e (fun z => by cases z))]; exact h2⟩
  stayL := fun e ⟨b, h1, h2⟩ => ⟨b, h1, by rw [upd_ne (ne_of h2 e (fun z => by cases z))]; exact h2⟩
  noTup := fun _ _ z => by cases z
  noLst := fun _ _ z => by cases z
  noFrz := fun _ _ _ z => by cases z
/-- ints and texts -/
def repI : KeyRep Key where
  is := fun _ v k => v = kV k
  dict := .dK
  same := fun _ h => h
  some_ := fun {_ v k} h z => by cases k <;> (rw [h] at z; cases z)
  wr := fun _ => True.intro
  get := fun e h => by rw [h]; exact .k e
  put := fun e h hl => by rw [h]; exact .k e hl
  stay := fun _ h => h
  stayL := fun _ h => h
  noTup := fun _ _ z => by cases z
  noLst := fun _ _ z => by cases z
  noFrz := fun _ _ _ z => by cases z
section
variable {κ : Type} [DecidableEq κ] {K : PySem.W.Frag}
abbrev RepW (K : PySem.W.Frag) (H : Hp) (kvs : List (κ × V)) (W : Got κ) : Prop := Paired (fun (p : κ × V) (e : κ × List Int) => p.1 = e.1 ∧ ∃ r, p.2 = .ref r ∧ SqT K H r (e.2.map V.int)) kvs W
theorem repW_imp {H H' : Hp} : ∀ {kvs : List (κ × V)} {W : Got κ}, RepW K H kvs W → (∀ r xs, SqT K H r xs → SqT K H' r xs) → RepW K H' kvs W
  | _, _, .nil, _ => .nil
  | _, _, .cons ⟨h1, r, h2, h3⟩ t, f => .cons ⟨h1, r, h2, f _ _ h3⟩ (repW_imp t f)
theorem repW_len {H : Hp} : ∀ {kvs : List (κ × V)} {W : Got κ}, RepW K H kvs W → kvs.length = W.length
  | _, _, .nil => rfl
  | _, _, .cons _ t => by rw [List.length_cons, List.length_cons, repW_len t]
theorem repW_get {H : Hp} {k : κ} : ∀ {kvs : List (κ × V)} {W : Got κ}, RepW K H kvs W → has W k = true → ∃ r, valV kvs k = some (.ref r) ∧ SqT K H r ((rowOf W k).map V.int)
  | _, _, .nil, h => by cases h
  | p :: kvs, e :: W, .cons ⟨h1, r, h2, h3⟩ t, h => by
    by_cases c : e.1 = k
    · refine ⟨r, by rw [valV_pos (h1.trans c), h2], ?_⟩
      have z : rowOf (e :: W) k = e.2 := by simp [rowOf, c]
      rw [z]
      exact h3
    · have h' : has W k = true := by simpa [has, c] using h
      obtain ⟨r', g1, g2⟩ := repW_get t h'
      refine ⟨r', by rw [valV_neg (fun z => c (h1.symm.trans z))]; exact g1, ?_⟩
      have z : rowOf (e :: W) k = rowOf W k := by simp [rowOf, c]
      rw [z]
      exact g2
theorem repW_no {H : Hp} {k : κ} : ∀ {kvs : List (κ × V)} {W : Got κ}, RepW K H kvs W → has W k = false → valV kvs k = none
  | _, _, .nil, _ => rfl
  | p :: kvs, e :: W, .cons ⟨h1, r, h2, h3⟩ t, h => by
    have c : ¬ e.1 = k := fun z => by simp [has, z] at h
    have h' : has W k = false := by simpa [has, c] using h
    rw [valV_neg (fun z => c (h1.symm.trans z))]
    exact repW_no t h'
theorem repW_some {H : Hp} {k : κ} {kvs : List (κ × V)} {W : Got κ} (h : RepW K H kvs W) : (valV kvs k).isSome = has W k := by
  cases c : has W k with
  | true =>
    obtain ⟨r, g, _⟩ := repW_get h c
    rw [g]
    rfl
  | false =>
    rw [repW_no h c]
    rfl
theorem repW_snoc {H : Hp} {k : κ} {r : Addr} {row : List Int} (hr : SqT K H r (row.map V.int)) : ∀ {kvs : List (κ × V)} {W : Got κ}, RepW K H kvs W → RepW K H (kvs ++ [(k, .ref r)]) (W ++ [(k, row)])
  | _, _, .nil => .cons ⟨rfl, r, rfl, hr⟩ .nil
  | _, _, .cons h t => .cons h (repW_snoc hr t)
/-- at d the dict of W -/
def GotAt (R : KeyRep κ) (K : PySem.W.Frag) (H : Hp) (d : Addr) (W : Got κ) : Prop := ∃ kvs, H d = some (R.dict kvs) ∧ RepW K H kvs W
theorem GotAt.same {R : KeyRep κ} {H H' : Hp} {d : Addr} {W : Got κ} (g : GotAt R K H d W) (e : Same H H') : GotAt R K H' d W := by
  obtain ⟨kvs, h1, h2⟩ := g
  exact ⟨kvs, e _ _ h1, repW_imp h2 fun r xs z => sameT e z⟩
theorem upd_tup {H : Hp} {a r : Addr} {o u : HO} {xs : List V} (h : H a = some u) (n1 : ∀ ys, u ≠ .tup ys) (n2 : ∀ o' ys, u ≠ .frz o' (.tup ys)) (g : SqT K H r xs) : SqT K (upd H a o) r xs := by
  rcases g with (z | ⟨ob, z⟩) | z
  · exact .inl (.inl (by rw [upd_ne (ne_of z h (fun e => n1 _ e.symm))]; exact z))
  · exact .inl (.inr ⟨ob, by rw [upd_ne (ne_of z h (fun e => n2 _ _ e.symm))]; exact z⟩)
  · exact .inr z
/-- a dict made by a comprehension: Pv by the turn and the heap (the new dict at D within) -/
theorem dc_it {J : It} {n : Nat} {G : Hp → Prop} {Y : Nat → Hp → V → Hp → Prop} (w : Walk J n G Y) {g : TG} {tt : TT} {tk tv : TE} {vs : List Nat} {σ : L2.St} {H1 : Hp} {D : Addr} {Qd : Hp → Prop} (Pv : Nat → Hp → Prop) (h0 : Pv 0 (upd H1 D (.dK []))) (hG : ∀ i H, i ≤ n → Pv i H → G H)
    (turn : ∀ i x H H', i < n → Pv i H → Y i H x H' → g x (wipe σ vs) H' fun σ2 H2 => wipe σ2 vs = wipe σ vs ∧ tt σ2 H2 fun b H3 =>
      if b = true then tk σ2 H3 fun y H4 => tv σ2 H4 fun z H5 => ∃ kvs k, y = kV k ∧ H5 D = some (.dK kvs) ∧ kvs.length < sizeLine ∧ Pv (i + 1) (upd H5 D (.dK (putK kvs k z))) else Pv (i + 1) H3) (fin : ∀ H, Pv n H → Qd H) :
    ∃ W : Nat → Nat → Hp → Prop, (∃ m, W 0 m (upd H1 D (.dK []))) ∧ ∀ i m H, W i m H → (J.stop i H ∧ Qd H) ∨ (J.go i H ∧ ∃ Nx : Hp → Prop, (∀ H', Nx H' → ∃ m', m' < m ∧ W (i + 1) m' H') ∧ ∀ x H', J.yld i H x H' → g x (wipe σ vs) H' fun σ2 H2 => wipe σ2 vs = wipe σ vs ∧ tt σ2 H2 fun b H3 =>
      if b = true then tk σ2 H3 fun y H4 => tv σ2 H4 fun z H5 => ∃ kvs k, y = kV k ∧ H5 D = some (.dK kvs) ∧ kvs.length < sizeLine ∧ Nx (upd H5 D (.dK (putK kvs k z))) else Nx H3) := by
  refine ⟨fun i m H => m + i = n ∧ Pv i H, ⟨n, rfl, h0⟩, ?_⟩
  rintro i m H ⟨em, p⟩
  have gH := hG i H (by omega) p
  rcases Nat.lt_or_ge i n with lt | ge
  · exact .inr ⟨w.goes i H lt gH, Pv (i + 1), fun H' p' => ⟨n - (i + 1), by omega, by omega, p'⟩, fun x H' y => turn i x H H' lt p (w.yields i H x H' lt gH y)⟩
  · obtain rfl : i = n := by omega
    exact .inl ⟨w.stops H gH, fin H p⟩
/-- a list of things -/
abbrev Things (R : KeyRep κ) (H : Hp) (vs : List V) (L : List κ) : Prop := Paired (fun v k => R.is H v k) vs L
theorem things_imp {R : KeyRep κ} {H H' : Hp} : ∀ {vs : List V} {L : List κ}, Things R H vs L → (∀ v k, R.is H v k → R.is H' v k) → Things R H' vs L
  | _, _, .nil, _ => .nil
  | _, _, .cons h t, f => .cons (f _ _ h) (things_imp t f)
theorem things_snoc {R : KeyRep κ} {H : Hp} {v : V} {k : κ} (h : R.is H v k) : ∀ {vs : List V} {L : List κ}, Things R H vs L → Things R H (vs ++ [v]) (L ++ [k])
  | _, _, .nil => .cons h .nil
  | _, _, .cons g t => .cons g (things_snoc h t)
theorem things_len {R : KeyRep κ} {H : Hp} : ∀ {vs : List V} {L : List κ}, Things R H vs L → vs.length = L.length
  | _, _, .nil => rfl
  | _, _, .cons _ t => by rw [List.length_cons, List.length_cons, things_len t]
theorem things_get {R : KeyRep κ} {H : Hp} : ∀ {vs : List V} {L : List κ} {i : Nat} {v : V}, Things R H vs L → vs[i]? = some v → ∃ k, L[i]? = some k ∧ R.is H v k
  | _, _, _, _, .nil, h => by simp at h
  | _, _, 0, _, .cons h t, e => by
    simp at e
    subst e
    exact ⟨_, rfl, h⟩
  | _, _, i + 1, _, .cons _ t, e => by
    obtain ⟨k, g1, g2⟩ := things_get (i := i) t (by simpa using e)
    exact ⟨k, by simpa using g1, g2⟩
/-- what follows a thing, by deed; none where nothing does -/
def MayBe (R : KeyRep κ) (H : Hp) (v : V) : Option κ → Prop
  | none => v = .non
  | some k => R.is H v k
theorem mays_imp {R : KeyRep κ} {H H' : Hp} (f : ∀ v k, R.is H v k → R.is H' v k) : ∀ {os : List V} {ts : List (Option κ)}, Paired (fun o t => MayBe R H o t) os ts → Paired (fun o t => MayBe R H' o t) os ts
  | _, _, .nil => .nil
  | o :: os, none :: ts, .cons h t => .cons h (mays_imp f t)
  | o :: os, some k :: ts, .cons h t => .cons (f _ _ h) (mays_imp f t)
theorem upd_seqL {H : Hp} {a l : Addr} {o : HO} {xs : List V} (n : l ≠ a) (g : SqL K H l xs) : SqL K (upd H a o) l xs := by
  rcases g with (z | ⟨ob, z⟩) | z
  · exact .inl (.inl (by rw [upd_ne n]; exact z))
  · exact .inl (.inr ⟨ob, by rw [upd_ne n]; exact z⟩)
  · exact .inr z
theorem upd_seqT {H : Hp} {a l : Addr} {o : HO} {xs : List V} (n : l ≠ a) (g : SqT K H l xs) : SqT K (upd H a o) l xs := by
  rcases g with (z | ⟨ob, z⟩) | z
  · exact .inl (.inl (by rw [upd_ne n]; exact z))
  · exact .inl (.inr ⟨ob, by rw [upd_ne n]; exact z⟩)
  · exact .inr z
/-- the promise of the function that tells what follows -/
def spFollow (R : KeyRep κ) (K : PySem.W.Frag) (H0 : Hp) (nxt : κ → List (Option κ)) (U : List κ) : Sp := fun vs H Q _ => ∃ v k, vs = [v] ∧ R.is H v k ∧ k ∈ U ∧ ∀ H' l os, Same H H' → (H l = none ∨ ∃ o, H0 l = some o) → Seq K H' (.ref l) os → Paired (fun o t => MayBe R H' o t) os (nxt k) → Q (.ref l) H'
end
end Lx

set_option Elab.async false
set_option linter.all false
set_option maxRecDepth 100000
set_option maxHeartbeats 2000000
namespace Lx
open PySem PySem.Spec PyProof.Rows L2
/-- x == y, x an instance of the class at C whose own == is at g; y of the type t -/
def rEqI (K : PySem.W.Frag) (C : Addr) (sp : Sp) (E : XK) : R2 := fun x y H Q => ∃ a dx fs t, x = .ref a ∧ H a = some (.ins C dx fs) ∧ TyX K H y t ∧ PySem.W.notFirst K C t = true ∧ sp [x, y] H Q E
theorem op_eqI {X : Cx} {CX : CXT} {n : Nat} {g C : Addr} {fd : FuncData} {ps : List Str} {sp : Sp} {E : XK} (F : FnOk X.prog X.w X.K X.mg X.base CX n g fd ps sp) (hs : PySem.W.findIn X.K (.ref C) "__eq__" = some (some (.ref g))) (hf : PySem.W.isFn X.K (.ref g) = true)
    (hb : Binds X.K fd ps []) (hr : Room n X.A) (hx : Passes CX X E) : OpR X (compareOp .Eq) (rEqI X.K C sp E) := by
  intro pins s σ H x y v u Q I rx ry h
  obtain ⟨a, dx, fs, t, rfl, ha, ty, hn, q⟩ := h
  cases (show v = Value.ref a from rx)
  obtain ⟨mA, J, _⟩ := ins_get I.hok ha
  obtain ⟨od, J, _⟩ := J.look
  obtain ⟨P, Z, hP, _⟩ := kit_of I ry ty
  obtain ⟨m, hF⟩ := I.fr
  show wpAny _ _ (richCompare .Eq (.ref a) u) _ _ s
  refine PySem.W.cmp_K (op := .Eq) (tb := t) hr.units0 hF I.ok.mod.kin J (Z.ty _ _ I.kIn hP) hn hs hf ?_
  have F' : FnR X.prog X.w X.K X.mg X.base CX n g sp := (F.raw hb .nil).imp fun vs H Q E h => by rw [List.append_nil]; exact h
  refine wpAny_mono (wpAny_call (run_fnR (us := [.ref a, u]) (vs := [.ref a, y]) F' hr hx I (.cons rfl (.cons ry .nil)) q)) (fun w s' z => ?_) fun _ _ x => x
  obtain ⟨z', H', I', rz, qz⟩ := z
  exact SlX.cmpback rz ⟨z', H', I', rz, qz⟩
/-! ### tuples of tuples of whole numbers -/
def rowsT (rs : List (List Int)) : PyData := .tuple (rs.map fun r => .tuple (r.map PyData.int))
def rowsL (rs : List (List Int)) : PyData := .list (rs.map fun r => .tuple (r.map PyData.int))
theorem lay_rows : ∀ rs : List (List Int), PyData.canLayAll0 (rs.map fun r => PyData.tuple (r.map PyData.int)) = true ∧ PyData.depthAll (rs.map fun r => PyData.tuple (r.map PyData.int)) ≤ 1
  | [] => ⟨rfl, Nat.zero_le _⟩
  | r :: rs => by
    obtain ⟨a, b⟩ := shaped_ints_any (xs := r)
    obtain ⟨c, d⟩ := lay_rows rs
    constructor
    · show (PyData.canLayAll0 (r.map PyData.int) && PyData.canLayAll0 (rs.map _)) = true
      rw [a, c]
      rfl
    · show max (PyData.depthAll (r.map PyData.int) + 1) (PyData.depthAll (rs.map _)) ≤ 1
      rw [b]
      omega
theorem shaped_rowsT (rs : List (List Int)) : SeqAt.shaped (rowsT rs) = true := by
  obtain ⟨h1, h2⟩ := lay_rows rs
  show (PyData.canLayAll0 (rs.map _) && decide (PyData.depthAll (rs.map _) + 1 ≤ 64)) = true
  rw [h1, decide_eq_true (by omega)]
  rfl
theorem eqvAll_rows : ∀ rs : List (List Int), PyData.eqvAll (rs.map fun r => PyData.tuple (r.map PyData.int)) (rs.map fun r => PyData.tuple (r.map PyData.int)) = true
  | [] => rfl
  | r :: rs => by
    show (PyData.eqvAll (r.map PyData.int) (r.map PyData.int) && PyData.eqvAll (rs.map _) (rs.map _)) = true
    rw [eqvAll_ints, eqvAll_rows rs, decide_eq_true rfl]
    rfl
theorem eqv_rowsT (rs : List (List Int)) : PyData.eqv (rowsT rs) (rowsT rs) = true := eqvAll_rows rs
theorem dp_rows {K : PySem.W.Frag} {H : Hp} : ∀ {bs : List Addr} {rs : List (List Int)}, Paired (fun (a : Addr) (r : List Int) => SqT K H a (r.map V.int)) bs rs → DpAll K H (bs.map V.ref) (rs.map fun r => PyData.tuple (r.map PyData.int))
  | _, _, .nil => .nil
  | _, _, .cons h t => .cons (dp_tuple_ints h) (dp_rows t)
theorem ty_sqt {K : PySem.W.Frag} {H : Hp} {a : Addr} {xs : List V} (h : SqT K H a xs) : TyX K H (.ref a) (.type "tuple") := by
  rcases h with (h | ⟨o, h⟩) | h
  · exact .base (.tup h)
  · exact .fTuple h
  · obtain ⟨o, its, n, h1, h2, _⟩ := h
    exact .kTuple h1 h2
end Lx

set_option Elab.async false
set_option linter.all false
set_option maxRecDepth 100000
set_option maxHeartbeats 3200000
/-! set(xs), xs a list of whole numbers; sorted of it -/
namespace Lx
open PySem PySem.Spec PyProof.Rows L2
section
variable {P : Program} {w : World} {A : Around} {E : Value → Shared → Prop} {s : Shared}
/-- a set that nothing was put in yet -/
abbrev bareSet (w : World) : Obj := { cls := .type "set", dict := none, data := .set #[] 0 (.fresh 0 0 (!w.params.followText "set-order")) }
/-- what the filling of the bare set at S by whole numbers leaves -/
def Filled (w : World) (s : Shared) (S : Addr) (ns : List Int) (s2 : Shared) : Prop :=
  ∃ h' tk c, s2 = { s with heap := h', toks := tk } ∧ SetR w h' S (fun j => decide (j ∈ ns)) c ∧ c ≤ ns.length ∧ ∀ b o, b ≠ S → s.heap.get? b = some o → h'.get? b = some o
theorem fill_list {l S : Addr} {items : Array Value} {ns : List Int} (hh : A.handled = none) (hl : s.heap.IsList l items) (hit : IntsAre items.toList ns) (hb : ns.length + 1 < scanBound) (hS : s.heap.get? S = some (bareSet w)) (ne : l ≠ S) :
    codeAny (model P w) A (.call (.builtin "set.__init__") ⟨[.ref S, .ref l], []⟩) (wants (fun r s2 => r = .none ∧ Filled w s S ns s2) E) s := by
  have tyS : s.TypeIs (.ref S) "set" := ⟨_, hS, rfl⟩
  have size : items.size = ns.length := by have q := IntsAre.length hit; rwa [Array.length_toList] at q
  refine codeAny_call_builtin PySem.F.called_set.init.plain PySem.F.entry_set_init (PySem.check_set_init_1 tyS ?_)
  obtain ⟨⟨cl, dc, dt, sl⟩, at_, c1, n0, d1⟩ := hl
  cases c1
  cases d1
  have k1 := PySem.F.sub_list_set
  have k2 := PySem.F.sub_list_frozenset
  have k3 : (Value.type "list" == Value.type "dict") = false := by decide
  unfold Builtin.«set.__init__» noKeywords Builtin.Frozenset.updateFrom
  generalize hPI : pyIter = it
  wp_walk
  cases hPI
  have isl : s.heap.IsList l items := ⟨_, at_, rfl, n0, rfl⟩
  refine wpAny_pyIter_list isl (wpAny_bind (wpAny_runValue ?_))
  have lt_l := Heap.lt_size at_
  have lt_S := Heap.lt_size hS
  have off : S ∉ [s.heap.objs.size, l] := by
    intro m
    rcases List.mem_cons.mp m with e | m
    · rw [← e] at lt_S
      exact Nat.lt_irrefl _ lt_S
    · exact ne (List.mem_singleton.mp m).symm
  have at_i : ∀ (i : Nat) (v : Value), items[i]? = some v → ∃ k t, ns[i]? = some k ∧ v = .int k t := fun i v hv => by
    obtain ⟨li, _⟩ := Array.getElem?_eq_some_iff.mp hv
    have ln : i < ns.length := by omega
    obtain ⟨t, e⟩ := PyProof.Rows.IntsAre.int_at hit i v (by rw [Array.getElem?_toList]; exact hv)
    rw [List.getD_eq_getElem?_getD, List.getElem?_eq_getElem ln] at e
    exact ⟨_, t, List.getElem?_eq_getElem ln, e⟩
  refine set_update_ints ((Walks.list (show A.in1.in1.handled = none by simp [hh]) _ l (Nat.ne_of_lt lt_l) items).toS) S off ns size hb at_i (items.size - 0) 0 _ (by omega) (Nat.zero_le _) ⟨?_, ?_⟩
    ⟨0, Nat.le_refl 0, ?_⟩ ?_
  · exact ⟨_, Heap.get?_push_size _ rfl, rfl, rfl⟩
  · exact isl.push _
  · exact setR_new_at (Heap.get?_push_of_some _ hS)
  rintro ⟨h2, g2, d2, t2, o2⟩ c mv hc got
  have e1 : g2 = s.gens := mv.gens
  have e2 : d2 = s.drawn := mv.drawn
  have e3 : o2 = s.os := mv.os
  cases e1
  cases e2
  cases e3
  refine wpAny_pure (wpAny_pure ?_)
  refine ⟨rfl, h2, t2, c, rfl, got, size ▸ hc, fun b o nb e => mv.heap b o ?_ (Heap.get?_push_of_some _ e)⟩
  intro m
  rcases List.mem_cons.mp m with z | m
  · exact nb z
  · have lt := Heap.lt_size e
    have eb : b = s.heap.objs.size := List.mem_singleton.mp m
    rw [eb] at lt
    exact Nat.lt_irrefl _ lt
/-- set(xs) -/
theorem made_set {l : Addr} {items : Array Value} (ns : List Int) {Q : Value → Shared → Prop} (hh : A.handled = none) (hl : s.heap.IsList l items) (hit : IntsAre items.toList ns) (hb : ns.length + 1 < scanBound)
    (q : ∀ (h' : Heap) (tk c : Nat), SetR w h' s.heap.objs.size (fun j => decide (j ∈ ns)) c → c ≤ ns.length → (∀ b o, s.heap.get? b = some o → h'.get? b = some o) → Q (.ref s.heap.objs.size) { s with heap := h', toks := tk }) :
    wpAny (model P w) A (call (.type "set") [.ref l]) Q E s := by
  obtain ⟨c, tl, way⟩ := PySem.F.called_set.mro
  have z1 := PySem.F.called_set.made
  have z2 := PySem.F.called_set.sub
  have z3 := PySem.F.called_set.notType
  have z4 := PySem.F.called_set.canCreate
  have z5 := PySem.F.typeCall_set_1 (.ref l)
  have z6 := PySem.F.called_set.init.lookup
  have z7 := PySem.F.called_set.init.bind (.ref s.heap.objs.size)
  have old : ∀ b o, s.heap.get? b = some o → (s.heap.push (bareSet w)).get? b = some o := fun b o e => Heap.get?_push_of_some _ e
  have at_ : (s.heap.push (bareSet w)).get? s.heap.objs.size = some (bareSet w) := Heap.get?_push_size _ rfl
  have lt_l : l < s.heap.objs.size := by obtain ⟨o, e, _⟩ := hl; exact Heap.lt_size e
  have new : ∀ B : Around, codeAny (model P w) B (.call (.builtin "set.__new__") ⟨[.type "set", .ref l], []⟩) (wants (fun r s2 => r = .ref s.heap.objs.size ∧ s2 = { s with heap := s.heap.push (bareSet w) }) E) s := fun B => code_set_led1 (.ref l) ⟨rfl, rfl⟩
  have ty : Shared.TypeIs { s with heap := s.heap.push (bareSet w) } (.ref s.heap.objs.size) "set" := ⟨_, at_, rfl⟩
  have fill : ∀ B : Around, B.handled = none → codeAny (model P w) B (.call (.builtin "set.__init__") ⟨[.ref s.heap.objs.size, .ref l], []⟩) (wants (fun r s2 => r = .none ∧ Filled w { s with heap := s.heap.push (bareSet w) } s.heap.objs.size ns s2) E) { s with heap := s.heap.push (bareSet w) } :=
    fun B hB => fill_list hB (hl.push _) hit hb at_ (Nat.ne_of_lt lt_l)
  refine wpAny_call (codeAny_of_tree (show wpAny _ _ (callAny (.type "set") _) _ _ _ from wpAny_pure ⟨Code.quiet_builtin _ (by decide +kernel), codeAny_builtin PySem.F.entry_type_call ?_⟩))
  rw [Around.under_plain (weight_type_call_type "set" [.ref l] []) rfl]
  repeat (any_goals (first | assumption | wp_step))
  refine codeAny_mono (new _) fun r s1 h1 => ?_
  match r, h1 with
  | .error e, h1 => exact h1
  | .ok (.ret _), h1 =>
    obtain ⟨rfl, rfl⟩ := h1
    repeat (any_goals (first | assumption | wp_step))
    refine codeAny_mono (fill _ (by simp [hh])) fun r2 s2 h2 => ?_
    match r2, h2 with
    | .error e, h2 => exact h2
    | .ok (.ret _), h2 =>
      obtain ⟨rfl, h', tk, c, rfl, g1, g2, g3⟩ := h2
      repeat (any_goals (first | assumption | wp_step))
      exact q h' tk c g1 g2 fun b o e => g3 b o (Nat.ne_of_lt (Heap.lt_size e)) (old b o e)
    | .ok .next, h2 => exact h2.elim
    | .ok .brk, h2 => exact h2.elim
    | .ok .cont, h2 => exact h2.elim
  | .ok .next, h1 => exact h1.elim
  | .ok .brk, h1 => exact h1.elim
  | .ok .cont, h1 => exact h1.elim
end
/-- set(xs), xs a list of whole numbers: the members are those of xs -/
def rSetOfI (K : PySem.W.Frag) (w : World) : List V → Hp → VK → Prop := fun xs H Q => ∃ (l : Addr) (ns : List Int), xs = [.ref l] ∧ SqL K H l (ns.map V.int) ∧ ns.length < 1000 ∧
  ∀ p n, n ≤ ns.length → H p = none → Q (.ref p) (upd H p (SetO w p (fun j => decide (j ∈ ns)) n))
theorem call_setOfI {X : Cx} (hc : X.calm = true) : CallR X (.type "set") (rSetOfI X.K X.w) := by
  intro pins s σ H xs us Q I r h
  obtain ⟨l, ns, rfl, hl, hf, q⟩ := h
  rw [Vals.ref1 r]
  obtain ⟨its, rv, pl, hz⟩ := I.list hl
  refine made_set (ns := ns) (I.ok.hd hc) pl.isList (by simpa using Vals.ints rv) (by unfold scanBound; omega) fun h' tk c R hc k => ?_
  exact ⟨.ref s.heap.objs.size, _, I.laid (t' := tk) k (Nat.le_refl _) (setO_new R), rfl, q _ c hc (I.hok.fresh (Nat.le_refl _))⟩
end Lx

set_option Elab.async false
set_option linter.all false
set_option maxRecDepth 100000
set_option maxHeartbeats 2000000
namespace Lx
open PySem PySem.Spec PyProof.Rows L2
/-- "0" times one to five: some text -/
def rMulS : R2 := fun x y H Q => ∃ k : Nat, x = .str "0" ∧ y = .int k ∧ 1 ≤ k ∧ k ≤ 5 ∧ ∀ r : Str, Q (.str r) H
theorem op_mulS {X : Cx} : OpR X (binaryOp .Mult) rMulS := by
  intro pins s σ H x y v u Q I rx ry h
  obtain ⟨k, rfl, rfl, h1, h5, q⟩ := h
  obtain ⟨t, rfl⟩ := rx
  obtain ⟨t2, rfl⟩ := ry
  have any : ∀ (r : Str) (tk tk2 : Nat), ∃ v' H', Inv X pins σ H' { s with toks := tk2 } ∧ RelV v' (Value.str r tk) ∧ Q v' H' := fun r tk tk2 => ⟨.str r, H, I.tok _, ⟨_, rfl⟩, q r⟩
  obtain rfl | rfl | rfl | rfl | rfl : k = 1 ∨ k = 2 ∨ k = 3 ∨ k = 4 ∨ k = 5 := by omega
  all_goals
    refine PySem.P.mul_str (by decide) (fun _ _ => by decide +kernel) (fun _ _ => by decide +kernel) ?_
  · rw [if_neg (by decide), if_pos (by decide)]
    exact any _ _ s.toks
  all_goals
    rw [if_neg (by decide), if_neg (by decide +kernel)]
    exact ⟨by decide +kernel, any _ _ _⟩
end Lx

set_option Elab.async false
set_option linter.all false
set_option maxRecDepth 100000
set_option maxHeartbeats 4000000
/-! the data layer: values as data, what is frozen, what an evaluation may change -/
namespace Dl
open PySem PySem.Spec PyProof.Rows L2 Lx

/-- what a lambda of the def's own does, by where it stands -/
structure LamW where
  ok : Hp → Addr → Prop
  mono : ∀ {F F' : Hp} {f : Addr}, Same F F' → ok F f → ok F' f
/-- a value: data, an instance that stays as it is, the box of draws, a thing of the written part -/
inductive DV where
  | py (d : PyData) | ins (C : Addr) (fs : List (Str × DV)) | box | scr (K : PySem.W.Frag) (ns : List Int) | ref (a : Addr) | ty (n : String) | lam (W : LamW) | lams (W : LamW) (n : Nat)
abbrev DV.int (i : Int) : DV := .py (.int i)
abbrev DV.bl (b : Bool) : DV := .py (.bool b)
abbrev DV.str (x : Str) : DV := .py (.str x)
abbrev DV.non : DV := .py .none
abbrev DV.tup (l : List PyData) : DV := .py (.tuple l)
abbrev DV.lst (l : List PyData) : DV := .py (.list l)

/-- a value and the data that it is, every list and tuple of it standing in F -/
inductive Rp (F : Hp) : V → PyData → Prop
  | non : Rp F .non .none
  | bl (b : Bool) : Rp F (.bl b) (.bool b)
  | int (i : Int) : Rp F (.int i) (.int i)
  | str (x : Str) : Rp F (.str x) (.str x)
  | lst {a : Addr} {xs : List V} {ds : List PyData} : F a = some (.lst xs) → Paired (Rp F) xs ds → Rp F (.ref a) (.list ds)
  | tup {a : Addr} {xs : List V} {ds : List PyData} : F a = some (.tup xs) → Paired (Rp F) xs ds → Rp F (.ref a) (.tuple ds)
abbrev RpA (F : Hp) : List V → List PyData → Prop := Paired (Rp F)
mutual
theorem Rp.mono {F F' : Hp} (e : Same F F') : ∀ (d : PyData) (v : V), Rp F v d → Rp F' v d
  | .none, _, h => by cases h; exact .non
  | .bool b, _, h => by cases h; exact .bl b
  | .int i, _, h => by cases h; exact .int i
  | .str x, _, h => by cases h; exact .str x
  | .list ds, _, h => by
    cases h with
    | lst h1 h2 => exact .lst (e _ _ h1) (RpA.mono e ds _ h2)
  | .tuple ds, _, h => by
    cases h with
    | tup h1 h2 => exact .tup (e _ _ h1) (RpA.mono e ds _ h2)
  | .dict _, _, h => by cases h
theorem RpA.mono {F F' : Hp} (e : Same F F') : ∀ (ds : List PyData) (vs : List V), RpA F vs ds → RpA F' vs ds
  | [], _, h => by cases h; exact .nil
  | d :: ds, _, h => by
    cases h with
    | cons h1 h2 => exact .cons (Rp.mono e d _ h1) (RpA.mono e ds _ h2)
end
mutual
theorem Rp.dp {K : PySem.W.Frag} {F H : Hp} (e : Same F H) : ∀ (d : PyData) (v : V), Rp F v d → Dp K H v d
  | .none, _, h => by cases h; exact .non
  | .bool b, _, h => by cases h; exact .bl b
  | .int i, _, h => by cases h; exact .int i
  | .str x, _, h => by cases h; exact .str x
  | .list ds, _, h => by
    cases h with
    | lst h1 h2 => exact .lst (.inl (.inl (e _ _ h1))) (RpA.dp e ds _ h2)
  | .tuple ds, _, h => by
    cases h with
    | tup h1 h2 => exact .tup (.inl (.inl (e _ _ h1))) (RpA.dp e ds _ h2)
  | .dict _, _, h => by cases h
theorem RpA.dp {K : PySem.W.Frag} {F H : Hp} (e : Same F H) : ∀ (ds : List PyData) (vs : List V), RpA F vs ds → DpAll K H vs ds
  | [], _, h => by cases h; exact .nil
  | d :: ds, _, h => by
    cases h with
    | cons h1 h2 => exact .cons (Rp.dp e d _ h1) (RpA.dp e ds _ h2)
end
mutual
/-- no list in it -/
def noL : PyData → Bool
  | .list _ => false
  | .tuple ds => noLs ds
  | .dict _ => false
  | _ => true
def noLs : List PyData → Bool
  | [] => true
  | d :: ds => noL d && noLs ds
end
mutual
/-- what holds no list leans on tuples alone -/
theorem Rp.tups {F F' : Hp} (e : ∀ a xs, F a = some (.tup xs) → F' a = some (.tup xs)) : ∀ (d : PyData) (v : V), noL d = true → Rp F v d → Rp F' v d
  | .none, _, _, h => by cases h; exact .non
  | .bool b, _, _, h => by cases h; exact .bl b
  | .int i, _, _, h => by cases h; exact .int i
  | .str x, _, _, h => by cases h; exact .str x
  | .list ds, _, n, h => by cases n
  | .tuple ds, _, n, h => by
    cases h with
    | tup h1 h2 => exact .tup (e _ _ h1) (RpA.tups e ds _ n h2)
  | .dict _, _, _, h => by cases h
theorem RpA.tups {F F' : Hp} (e : ∀ a xs, F a = some (.tup xs) → F' a = some (.tup xs)) : ∀ (ds : List PyData) (vs : List V), noLs ds = true → RpA F vs ds → RpA F' vs ds
  | [], _, _, h => by cases h; exact .nil
  | d :: ds, _, n, h => by
    have n : (noL d && noLs ds) = true := n
    rw [Bool.and_eq_true] at n
    cases h with
    | cons h1 h2 => exact .cons (Rp.tups e d _ n.1 h1) (RpA.tups e ds _ n.2 h2)
end

/-- what is frozen; which are the boxes -/
structure Gh where
  F : Hp
  B : Addr → Prop
mutual
inductive RV (G : Gh) : V → DV → Prop
  | py {v : V} {d : PyData} : Rp G.F v d → RV G v (.py d)
  | ins {m C dx : Addr} {vs : List (Str × V)} {fs : List (Str × DV)} : G.F m = some (.ins C dx vs) → RFs G vs fs → RV G (.ref m) (.ins C fs)
  | box {b : Addr} : G.B b → RV G (.ref b) .box
  | scr {K : PySem.W.Frag} {a : Addr} {ns : List Int} : ((G.F a = some (.lst (ns.map V.int)) ∨ ∃ o, G.F a = some (.frz o (.lst (ns.map V.int)))) ∨ ∀ H, SqL K H a (ns.map V.int)) → RV G (.ref a) (.scr K ns)
  | ref {a : Addr} : RV G (.ref a) (.ref a)
  | ty {n : String} : RV G (.ty n) (.ty n)
  | lam {f : Addr} {W : LamW} : W.ok G.F f → RV G (.ref f) (.lam W)
  | lams {p : Addr} {W : LamW} {vs : List V} {n : Nat} : G.F p = some (.lst vs) → vs.length = n → (∀ x ∈ vs, ∃ f, x = .ref f ∧ W.ok G.F f) → RV G (.ref p) (.lams W n)
inductive RFs (G : Gh) : List (Str × V) → List (Str × DV) → Prop
  | nil {vs : List (Str × V)} : RFs G vs []
  | cons {vs : List (Str × V)} {n : Str} {v : V} {d : DV} {fs : List (Str × DV)} : vs.lookup n = some v → RV G v d → RFs G vs fs → RFs G vs ((n, d) :: fs)
end
abbrev RVs (G : Gh) : List V → List DV → Prop := Paired (RV G)
mutual
theorem RV.mono {G G' : Gh} (e : Same G.F G'.F) (eb : ∀ b, G.B b → G'.B b) : ∀ {v : V} {d : DV}, RV G v d → RV G' v d
  | _, _, .py h => .py (Rp.mono e _ _ h)
  | _, _, .ins h1 h2 => .ins (e _ _ h1) (RFs.mono e eb h2)
  | _, _, .box h => .box (eb _ h)
  | _, _, .scr h => .scr (h.elim (fun h => .inl (h.elim (fun h => .inl (e _ _ h)) fun ⟨o, h⟩ => .inr ⟨o, e _ _ h⟩)) .inr)
  | _, _, .ref => .ref
  | _, _, .ty => .ty
  | _, .lam W, .lam h => .lam (W.mono e h)
  | _, .lams W n, .lams h1 h2 h3 => .lams (e _ _ h1) h2 fun x hx => (h3 x hx).elim fun f hf => ⟨f, hf.1, W.mono e hf.2⟩
theorem RFs.mono {G G' : Gh} (e : Same G.F G'.F) (eb : ∀ b, G.B b → G'.B b) : ∀ {vs : List (Str × V)} {fs : List (Str × DV)}, RFs G vs fs → RFs G' vs fs
  | _, _, .nil => .nil
  | _, _, .cons h1 h2 h3 => .cons h1 (RV.mono e eb h2) (RFs.mono e eb h3)
end
theorem RVs.mono {G G' : Gh} (e : Same G.F G'.F) (eb : ∀ b, G.B b → G'.B b) {vs : List V} {ds : List DV} (h : RVs G vs ds) : RVs G' vs ds := Paired.mapP h fun _ _ z => z.mono e eb
theorem RFs.get {G : Gh} {vs : List (Str × V)} {n : Str} {d : DV} : ∀ {fs : List (Str × DV)}, RFs G vs fs → fs.lookup n = some d → ∃ v, vs.lookup n = some v ∧ RV G v d
  | [], _, h => by cases h
  | (m, x) :: fs, .cons h1 h2 h3, h => by
    rw [List.lookup_cons] at h
    split at h
    · rename_i e
      have e : n = m := by simpa using e
      subst e
      cases h
      exact ⟨_, h1, h2⟩
    · exact RFs.get h3 h

/-- the box of draws at b: n whole numbers, the first one not below zero -/
def BoxN (n : Nat) (H : Hp) (b : Addr) : Prop := ∃ (c0 : Int) (cs : List Int), H b = some (.lst (.int c0 :: cs.map V.int)) ∧ cs.length + 1 = n ∧ 0 ≤ c0
/-- what stays fixed: the written part, the tables of lambdas, the box's size -/
structure Sx where
  K : PySem.W.Frag
  Tb : List (Addr × Str)
  nb : Nat
structure Wf (S : Sx) (G : Gh) (H : Hp) : Prop where
  sub : Same G.F H
  box : ∀ b, G.B b → BoxN S.nb H b ∧ G.F b = none
  tbl : ∀ a z, G.F a ≠ some (.tbl z)
  tabs : LamX.Tabs S.Tb H
/-- no thing but a table stands there -/
def Fr (H : Hp) (p : Addr) : Prop := ∀ o, H p = some o → ∃ z, o = .tbl z
theorem Fr.of {H : Hp} {p : Addr} (n : H p = none) : Fr H p := fun o h => by
  rw [n] at h
  cases h
theorem Fr.ne {H : Hp} {p x : Addr} {u : HO} (n : Fr H p) (h : H x = some u) (nt : ∀ z, u ≠ .tbl z) : x ≠ p := by
  rintro rfl
  obtain ⟨z, e⟩ := n u h
  exact nt z e
/-- a list, an instance, a set of whole numbers -/
def MutD (a : Addr) : HO → Prop
  | .lst _ => True
  | .ins _ _ _ => True
  | .ext f => ∃ w T n, HO.ext f = SetO w a T n
  | .frz _ (.dT _) => True
  | _ => False
/-- from G, H to G', H': nothing is changed but boxes and tables; more may be frozen, but no thing that could be written and was not -/
structure Step (S : Sx) (G : Gh) (H : Hp) (G' : Gh) (H' : Hp) : Prop where
  w0 : Wf S G H
  wf : Wf S G' H'
  fm : Same G.F G'.F
  bm : ∀ b, G.B b → G'.B b
  keep : ∀ a o, H a = some o → ¬ G.B a → (∀ z, o ≠ .tbl z) → H' a = some o
  nf : ∀ a o, H a = some o → MutD a o → G.F a = none → G'.F a = none
  nb : ∀ a o, H a = some o → (∀ z, o ≠ .tbl z) → ¬ G.B a → ¬ G'.B a
  there : ∀ a o, H a = some o → (∀ z, o ≠ .tbl z) → ∃ o', H' a = some o' ∧ ∀ z, o' ≠ .tbl z
theorem not_tbl_of_mut {a : Addr} {o : HO} (h : MutD a o) : ∀ z, o ≠ .tbl z := by
  rintro z rfl
  exact h
section
variable {S : Sx} {G G0 G1 G2 : Gh} {H H0 H1 H2 H' : Hp} {p : Addr} {o : HO}
theorem Step.refl (w : Wf S G H) : Step S G H G H := ⟨w, w, Same.refl _, fun _ h => h, fun _ _ h _ _ => h, fun _ _ _ _ h => h, fun _ _ _ _ h => h, fun _ _ h n => ⟨_, h, n⟩⟩
theorem Step.trans (a : Step S G H G1 H1) (b : Step S G1 H1 G2 H2) : Step S G H G2 H2 where
  w0 := a.w0
  wf := b.wf
  fm := a.fm.trans b.fm
  bm := fun x h => b.bm x (a.bm x h)
  keep := fun x o h n t => b.keep x o (a.keep x o h n t) (a.nb x o h t n) t
  nf := fun x o h m f => by
    by_cases z : G.B x
    · exact (b.wf.box x (b.bm x (a.bm x z))).2
    · exact b.nf x o (a.keep x o h z (not_tbl_of_mut m)) m (a.nf x o h m f)
  nb := fun x o h t n => by
    obtain ⟨o', h', t'⟩ := a.there x o h t
    exact b.nb x o' h' t' (a.nb x o h t n)
  there := fun x o h t => by
    obtain ⟨o', h', t'⟩ := a.there x o h t
    exact b.there x o' h' t'
theorem BoxN.same {n : Nat} {b : Addr} (h : BoxN n H b) (e : Same H H') : BoxN n H' b := by
  obtain ⟨c0, cs, h1, h2, h3⟩ := h
  exact ⟨c0, cs, e _ _ h1, h2, h3⟩
theorem BoxN.some {n : Nat} {b : Addr} (h : BoxN n H b) : ∃ o, H b = some o := by
  obtain ⟨c0, cs, h1, _⟩ := h
  exact ⟨_, h1⟩
theorem Wf.same (w : Wf S G H) (e : Same H H') : Wf S G H' := ⟨w.sub.trans e, fun b h => ⟨(w.box b h).1.same e, (w.box b h).2⟩, w.tbl, w.tabs.ext e⟩
theorem Step.same (w : Wf S G H) (e : Same H H') : Step S G H G H' := ⟨w, w.same e, Same.refl _, fun _ h => h, fun _ _ h _ _ => e _ _ h, fun _ _ _ _ h => h, fun _ _ _ _ h => h, fun _ _ h n => ⟨_, e _ _ h, n⟩⟩
theorem Step.new (w : Wf S G H) (n : H p = none) : Step S G H G (upd H p o) := Step.same w (same_new n)
abbrev Gh.put (G : Gh) (p : Addr) (o : HO) : Gh := ⟨upd G.F p o, G.B⟩
theorem put_same : (G.put p o).F p = some o := upd_same
theorem put_ne {a : Addr} (z : a ≠ p) : (G.put p o).F a = G.F a := upd_ne z
theorem same_upd {F : Hp} (h : F p = none ∨ F p = some o) : Same F (upd F p o) := fun a x e => by
  by_cases z : a = p
  · subst z
    rcases h with h | h
    · rw [h] at e
      cases e
    · rw [h] at e
      cases e
      exact upd_same
  · rw [upd_ne z]
    exact e
theorem Wf.free (w : Wf S G H) (n : H p = none) : G.F p = none := by
  cases q : G.F p with
  | none => rfl
  | some x =>
    rw [w.sub _ _ q] at n
    cases n
theorem Wf.put (w : Wf S G H) (h : H p = some o) (nt : ∀ z, o ≠ .tbl z) (nb : ¬ G.B p) : Wf S (G.put p o) H := by
  refine ⟨fun a x e => ?_, fun b hb => ⟨(w.box b hb).1, ?_⟩, fun a z e => ?_, w.tabs⟩
  · by_cases z : a = p
    · subst z
      rw [put_same] at e
      cases e
      exact h
    · rw [put_ne z] at e
      exact w.sub _ _ e
  · by_cases z : b = p
    · subst z
      exact absurd hb nb
    · show upd G.F p o b = none
      rw [upd_ne z]
      exact (w.box b hb).2
  · by_cases y : a = p
    · subst y
      rw [show (G.put a o).F a = some o from upd_same] at e
      cases e
      exact nt z rfl
    · rw [show (G.put p o).F a = G.F a from upd_ne y] at e
      exact w.tbl a z e
theorem Wf.agree (w : Wf S G H) (h : H p = some o) : G.F p = none ∨ G.F p = some o := by
  cases q : G.F p with
  | none => exact .inl rfl
  | some x =>
    rw [w.sub _ _ q] at h
    exact .inr h
/-- a thing that is younger than the entry is frozen -/
theorem Step.freeze (a : Step S G0 H0 G H) (h : H p = some o) (nt : ∀ z, o ≠ .tbl z) (n0 : Fr H0 p) (nb : ¬ G.B p) : Step S G0 H0 (G.put p o) H where
  w0 := a.w0
  wf := a.wf.put h nt nb
  fm := a.fm.trans (same_upd (a.wf.agree h))
  bm := a.bm
  keep := a.keep
  nf := fun x u hx m f => by
    show upd G.F p o x = none
    rw [upd_ne (n0.ne hx (not_tbl_of_mut m))]
    exact a.nf x u hx m f
  nb := a.nb
  there := a.there
/-- a tuple may be frozen at any time -/
theorem Step.freezeT {xs : List V} (a : Step S G0 H0 G H) (h : H p = some (.tup xs)) (nb : ¬ G.B p) : Step S G0 H0 (G.put p (.tup xs)) H where
  w0 := a.w0
  wf := a.wf.put h (fun z e => by cases e) nb
  fm := a.fm.trans (same_upd (a.wf.agree h))
  bm := a.bm
  keep := a.keep
  nf := fun x u hx m f => by
    have z : x ≠ p := by
      rintro rfl
      by_cases b : G0.B x
      · obtain ⟨c0, cs, q, _⟩ := (a.wf.box x (a.bm x b)).1
        rw [h] at q
        cases q
      · have q := a.keep x u hx b (not_tbl_of_mut m)
        rw [h] at q
        cases q
        exact m
    show upd G.F p (.tup xs) x = none
    rw [upd_ne z]
    exact a.nf x u hx m f
  nb := a.nb
  there := a.there
/-- what is neither a list nor an instance nor a set may be frozen at any time -/
theorem Step.freezeI (a : Step S G0 H0 G H) (h : H p = some o) (nt : ∀ z, o ≠ .tbl z) (nm : ¬ MutD p o) (nb : ¬ G.B p) : Step S G0 H0 (G.put p o) H where
  w0 := a.w0
  wf := a.wf.put h nt nb
  fm := a.fm.trans (same_upd (a.wf.agree h))
  bm := a.bm
  keep := a.keep
  nf := fun x u hx m f => by
    have z : x ≠ p := by
      rintro rfl
      by_cases b : G0.B x
      · obtain ⟨c0, cs, q, _⟩ := (a.wf.box x (a.bm x b)).1
        rw [h] at q
        cases q
        exact nm trivial
      · have q := a.keep x u hx b (not_tbl_of_mut m)
        rw [h] at q
        cases q
        exact nm m
    show upd G.F p o x = none
    rw [upd_ne z]
    exact a.nf x u hx m f
  nb := a.nb
  there := a.there
theorem Wf.box_ne (w : Wf S G H) (n : H p = none) : ¬ G.B p := fun hb => by
  obtain ⟨o, h⟩ := (w.box p hb).1.some
  rw [n] at h
  cases h
/-- a new thing, frozen at once -/
theorem Step.newF (w : Wf S G H) (n : H p = none) (nt : ∀ z, o ≠ .tbl z) : Step S G H (G.put p o) (upd H p o) :=
  (Step.new (o := o) w n).freeze upd_same nt (.of n) (w.box_ne n)
/-- a box is drawn from -/
theorem Step.draw {b : Addr} (w : Wf S G H) (hb : G.B b) (e : ∀ a x, H a = some x → a ≠ b → H' a = some x) (h' : BoxN S.nb H' b) : Step S G H G H' := by
  obtain ⟨⟨c0, cs, hb0, _⟩, hf⟩ := w.box b hb
  refine ⟨w, ⟨fun a x h => ?_, fun c hc => ?_, w.tbl, ?_⟩, Same.refl _, fun _ h => h, fun a x h n t => e a x h ?_, fun _ _ _ _ h => h, fun _ _ _ _ h => h, fun a x h nt => ?_⟩
  · refine e a x (w.sub _ _ h) ?_
    rintro rfl
    rw [hf] at h
    cases h
  · by_cases z : c = b
    · subst z
      exact ⟨h', hf⟩
    · obtain ⟨⟨d0, ds, hc1, hc2, hc3⟩, hcf⟩ := w.box c hc
      exact ⟨⟨d0, ds, e _ _ hc1 z, hc2, hc3⟩, hcf⟩
  · exact tabs_but hb0 (fun a x h n => e a x h n) w.tabs
  · rintro rfl
    exact n hb
  · by_cases z : a = b
    · subst z
      obtain ⟨d0, ds, hc1, _⟩ := h'
      exact ⟨_, hc1, fun z e => by cases e⟩
    · exact ⟨x, e a x h z, nt⟩
/-- all but tables stays -/
theorem Step.lam (w : Wf S G H) (e : LamX.ExtN H H') (t : LamX.Tabs S.Tb H') : Step S G H G H' := by
  refine ⟨w, ⟨fun a x h => e a x (w.sub _ _ h) (fun z q => w.tbl a z (by rw [h, q])), fun c hc => ?_, w.tbl, t⟩, Same.refl _, fun _ h => h, fun a x h n t => e a x h t, fun _ _ _ _ h => h, fun _ _ _ _ h => h, fun a o h n => ⟨o, e a o h n, n⟩⟩
  obtain ⟨⟨d0, ds, hc1, hc2, hc3⟩, hcf⟩ := w.box c hc
  exact ⟨⟨d0, ds, e _ _ hc1 (fun z q => by cases q), hc2, hc3⟩, hcf⟩
end
end Dl

set_option Elab.async false
set_option linter.all false
set_option maxRecDepth 100000
set_option maxHeartbeats 4000000
/-! the data layer: readings over data -/
namespace Dl
open PySem PySem.Spec PyProof.Rows L2 Lx

/-- an error: its class, its one field -/
structure Er where
  C : Addr
  fld : Str
  v : DV
/-- what a slot holds: data; a list of the def's own that may still be written -/
inductive SV where
  | dv (d : DV) | own (l : List PyData) | ini (p dx C : Addr) (fs : List (Str × DV))
abbrev Rho := List (Option SV)
abbrev TD := Rho → (DV → Prop) → (Er → Prop) → Prop
abbrev TAD := Rho → (List DV → Prop) → (Er → Prop) → Prop
abbrev TTD := Rho → (Bool → Prop) → (Er → Prop) → Prop
abbrev TOD := Rho → (List PyData → Prop) → (Er → Prop) → Prop
def RS (G : Gh) (H0 H : Hp) (v : V) : SV → Prop
  | .dv d => RV G v d
  | .own l => ∃ p vs, v = .ref p ∧ H p = some (.lst vs) ∧ G.F p = none ∧ ¬ G.B p ∧ Fr H0 p ∧ RpA G.F vs l
  | .ini p dx C fs => ∃ vs, v = .ref p ∧ H p = some (.ins C dx vs) ∧ G.F p = none ∧ ¬ G.B p ∧ Fr H0 p ∧ Paired (fun a b => a.1 = b.1 ∧ RV G a.2 b.2) vs fs
structure StR (G : Gh) (H0 H : Hp) (σ : L2.St) (ρ : Rho) : Prop where
  len : ρ.length = σ.length
  at_ : ∀ (i : Nat) (x : SV), ρ[i]? = some (some x) → ∃ v, σ[i]? = some (some v) ∧ RS G H0 H v x
  sep : ∀ (i j : Nat) (l l' : List PyData) (p : Addr), ρ[i]? = some (some (.own l)) → ρ[j]? = some (some (.own l')) → σ[i]? = some (some (.ref p)) → σ[j]? = some (some (.ref p)) → i = j
section
variable {S : Sx} {E : XK} {G G' : Gh} {H0 H H' : Hp} {σ : L2.St} {ρ : Rho}
theorem RS.step {v : V} {x : SV} (h : RS G H0 H v x) (s : Step S G H G' H') : RS G' H0 H' v x := by
  cases x with
  | dv d => exact RV.mono s.fm s.bm h
  | own l =>
    obtain ⟨p, vs, h1, h2, h3, h4, h5, h6⟩ := h
    exact ⟨p, vs, h1, s.keep _ _ h2 h4 (fun z e => by cases e), s.nf _ _ h2 trivial h3, s.nb _ _ h2 (fun z e => by cases e) h4, h5, RpA.mono s.fm _ _ h6⟩
  | ini p dx C fs =>
    obtain ⟨vs, h1, h2, h3, h4, h5, h6⟩ := h
    exact ⟨vs, h1, s.keep _ _ h2 h4 (fun z e => by cases e), s.nf _ _ h2 trivial h3, s.nb _ _ h2 (fun z e => by cases e) h4, h5, Paired.mapP h6 fun _ _ z => ⟨z.1, z.2.mono s.fm s.bm⟩⟩
theorem StR.step (h : StR G H0 H σ ρ) (s : Step S G H G' H') : StR G' H0 H' σ ρ := ⟨h.len, fun i x e => by
  obtain ⟨v, h1, h2⟩ := h.at_ i x e
  exact ⟨v, h1, h2.step s⟩, h.sep⟩
theorem Step.was_free {p : Addr} (s : Step S G H G' H') (n : Fr H' p) : Fr H p := fun o h => by
  apply Classical.byContradiction
  intro q
  have nt : ∀ z, o ≠ .tbl z := fun z e => q ⟨z, e⟩
  obtain ⟨o', h', t'⟩ := s.there p o h nt
  obtain ⟨z, e⟩ := n o' h'
  exact t' z e
/-- an error that flies -/
def ErAt (G : Gh) (H : Hp) (cls : Value) (d : Option Addr) (e : Er) : Prop := cls = .ref e.C ∧ ∃ dd v, d = some dd ∧ H dd = some (.xd [(e.fld, v)]) ∧ RV G v e.v
/-- what an expression's reading is over data -/
def LE (S : Sx) (E : XK) (T : TE) (t : TD) : Prop := ∀ (H0 : Hp) (ρ : Rho) (σ : L2.St) (G : Gh) (H : Hp) (Qd : DV → Prop) (Ed : Er → Prop) (Q : VK), Wf S G H → StR G H0 H σ ρ → t ρ Qd Ed →
  (∀ v d G' H', Step S G H G' H' → RV G' v d → Qd d → Q v H') → (∀ e cls d G' H', Step S G H G' H' → ErAt G' H' cls d e → Ed e → E cls d H') → T σ H Q
def LA (n : Nat) (S : Sx) (E : XK) (T : TA) (t : TAD) : Prop := ∀ (H0 : Hp) (ρ : Rho) (σ : L2.St) (G : Gh) (H : Hp) (Qd : List DV → Prop) (Ed : Er → Prop) (Q : List V → Hp → Prop), Wf S G H → StR G H0 H σ ρ → t ρ Qd Ed →
  (∀ vs ds G' H', Step S G H G' H' → vs.length = n → RVs G' vs ds → Qd ds → Q vs H') → (∀ e cls d G' H', Step S G H G' H' → ErAt G' H' cls d e → Ed e → E cls d H') → T σ H Q
def LT (S : Sx) (E : XK) (T : TT) (t : TTD) : Prop := ∀ (H0 : Hp) (ρ : Rho) (σ : L2.St) (G : Gh) (H : Hp) (Qd : Bool → Prop) (Ed : Er → Prop) (Q : Bool → Hp → Prop), Wf S G H → StR G H0 H σ ρ → t ρ Qd Ed →
  (∀ b G' H', Step S G H G' H' → Qd b → Q b H') → (∀ e cls d G' H', Step S G H G' H' → ErAt G' H' cls d e → Ed e → E cls d H') → T σ H Q
/-- an expression that makes a new list -/
def LO (S : Sx) (E : XK) (T : TE) (t : TOD) : Prop := ∀ (H0 : Hp) (ρ : Rho) (σ : L2.St) (G : Gh) (H : Hp) (Qd : List PyData → Prop) (Ed : Er → Prop) (Q : VK), Wf S G H → StR G H0 H σ ρ → t ρ Qd Ed →
  (∀ p vs l G' H', Step S G H G' H' → Fr H p → H' p = some (.lst vs) → G'.F p = none → ¬ G'.B p → RpA G'.F vs l → Qd l → Q (.ref p) H') → (∀ e cls d G' H', Step S G H G' H' → ErAt G' H' cls d e → Ed e → E cls d H') → T σ H Q
def dOf (t : TOD) : TD := fun ρ Qd Ed => t ρ (fun l => Qd (.lst l)) Ed
theorem LO.le {T : TE} {t : TOD} (h : LO S E T t) : LE S E T (dOf t) := fun H0 ρ σ G H Qd Ed Q w st q k ke =>
  h H0 ρ σ G H _ Ed Q w st q (fun p vs l G' H' s n hp nf nb r q => k (.ref p) _ _ H' (s.freeze hp (fun z e => by cases e) n nb) (.py (.lst put_same (RpA.mono (same_upd (.inl nf)) _ _ r))) q) ke

theorem papp {α β : Type} {F : α → β → Prop} : ∀ {l l2 : List α} {r r2 : List β}, Paired F l r → Paired F l2 r2 → Paired F (l ++ l2) (r ++ r2)
  | _, _, _, _, .nil, h => h
  | _, _, _, _, .cons h t, k => .cons h (papp t k)
/-! ### names, constants -/
def dVar (i : Nat) : TD := fun ρ Qd _ => match ρ[i]? with
  | some (some (.dv d)) => Qd d
  | _ => False
theorem le_var {i : Nat} : LE S E (tVar i) (dVar i) := by
  intro H0 ρ σ G H Qd Ed Q w st q k ke
  unfold dVar at q
  split at q
  · rename_i d e
    obtain ⟨v, h1, h2⟩ := st.at_ i _ e
    exact ⟨v, h1, k v d G H (Step.refl w) h2 q⟩
  · exact q.elim
def dC (d : DV) : TD := fun _ Qd _ => Qd d
theorem le_c {v : V} {d : DV} (h : ∀ G, RV G v d) : LE S E (tC v) (dC d) := fun H0 ρ σ G H Qd Ed Q w st q k ke => k v d G H (Step.refl w) (h G) q
theorem le_int {i : Int} : LE S E (tC (.int i)) (dC (.int i)) := le_c fun _ => .py (.int i)
theorem le_bl {b : Bool} : LE S E (tC (.bl b)) (dC (.bl b)) := le_c fun _ => .py (.bl b)
theorem le_str {x : Str} : LE S E (tC (.str x)) (dC (.str x)) := le_c fun _ => .py (.str x)
theorem le_non : LE S E (tC .non) (dC .non) := le_c fun _ => .py .non
theorem le_ref {a : Addr} : LE S E (tC (.ref a)) (dC (.ref a)) := le_c fun _ => .ref
theorem le_ty {n : String} : LE S E (tC (.ty n)) (dC (.ty n)) := le_c fun _ => .ty

/-! ### operations by values -/
abbrev F2 := DV → DV → (DV → Prop) → Prop
def L2r (S : Sx) (r : R2) (f : F2) : Prop := ∀ (G : Gh) (H : Hp) (x y : V) (dx dy : DV) (Qd : DV → Prop) (Q : VK), Wf S G H → RV G x dx → RV G y dy → f dx dy Qd → (∀ v d G' H', Step S G H G' H' → RV G' v d → Qd d → Q v H') → r x y H Q
def dOp (f : F2) (ta tb : TD) : TD := fun ρ Qd Ed => ta ρ (fun x => tb ρ (fun y => f x y Qd) Ed) Ed
theorem le_op {r : R2} {f : F2} {Ta Tb : TE} {ta tb : TD} (hr : L2r S r f) (ha : LE S E Ta ta) (hb : LE S E Tb tb) : LE S E (tOp r Ta Tb) (dOp f ta tb) := by
  intro H0 ρ σ G H Qd Ed Q w st q k ke
  refine ha H0 ρ σ G H _ Ed _ w st q (fun x dx G1 H1 s1 rx q1 => ?_) ke
  refine hb H0 ρ σ G1 H1 _ Ed _ s1.wf (st.step s1) q1 (fun y dy G2 H2 s2 ry q2 => ?_) (fun e cls d G2 H2 s2 he h => ke e cls d G2 H2 (s1.trans s2) he h)
  exact hr G2 H2 x y dx dy Qd Q s2.wf (rx.mono s2.fm s2.bm) ry q2 fun v d G3 H3 s3 rv q3 => k v d G3 H3 (s1.trans (s2.trans s3)) rv q3
abbrev F1 := DV → (DV → Prop) → Prop
def L1r (S : Sx) (r : V → Hp → VK → Prop) (f : F1) : Prop := ∀ (G : Gh) (H : Hp) (x : V) (dx : DV) (Qd : DV → Prop) (Q : VK), Wf S G H → RV G x dx → f dx Qd → (∀ v d G' H', Step S G H G' H' → RV G' v d → Qd d → Q v H') → r x H Q
def dUn (f : F1) (ta : TD) : TD := fun ρ Qd Ed => ta ρ (fun x => f x Qd) Ed
theorem le_un {r : V → Hp → VK → Prop} {f : F1} {Ta : TE} {ta : TD} (hr : L1r S r f) (ha : LE S E Ta ta) : LE S E (tUn r Ta) (dUn f ta) := by
  intro H0 ρ σ G H Qd Ed Q w st q k ke
  refine ha H0 ρ σ G H _ Ed _ w st q (fun x dx G1 H1 s1 rx q1 => ?_) ke
  exact hr G1 H1 x dx Qd Q s1.wf rx q1 fun v d G3 H3 s3 rv q3 => k v d G3 H3 (s1.trans s3) rv q3
/-! ### arguments -/
def dNil : TAD := fun _ Qd _ => Qd []
theorem la_nil : LA 0 S E tNil dNil := fun H0 ρ σ G H Qd Ed Q w st q k ke => k [] [] G H (Step.refl w) rfl .nil q
def dCons (ta : TD) (tr : TAD) : TAD := fun ρ Qd Ed => ta ρ (fun x => tr ρ (fun xs => Qd (x :: xs)) Ed) Ed
theorem la_cons {n : Nat} {Ta : TE} {Tr : TA} {ta : TD} {tr : TAD} (ha : LE S E Ta ta) (hr : LA n S E Tr tr) : LA (n + 1) S E (tCons Ta Tr) (dCons ta tr) := by
  intro H0 ρ σ G H Qd Ed Q w st q k ke
  refine ha H0 ρ σ G H _ Ed _ w st q (fun x dx G1 H1 s1 rx q1 => ?_) ke
  refine hr H0 ρ σ G1 H1 _ Ed _ s1.wf (st.step s1) q1 (fun ys dys G2 H2 s2 hl ry q2 => ?_) (fun e cls d G2 H2 s2 he h => ke e cls d G2 H2 (s1.trans s2) he h)
  exact k (x :: ys) (dx :: dys) G2 H2 (s1.trans s2) (by rw [List.length_cons, hl]) (.cons (rx.mono s2.fm s2.bm) ry) q2
/-- data among the values -/
def pys : List DV → Option (List PyData)
  | [] => some []
  | .py d :: r => match pys r with
    | some l => some (d :: l)
    | none => none
  | _ :: _ => none
theorem pys_rp {G : Gh} : ∀ {ds : List DV} {vs : List V} {l : List PyData}, RVs G vs ds → pys ds = some l → RpA G.F vs l
  | [], _, _, .nil, e => by cases e; exact .nil
  | .py d :: r, _, _, .cons h t, e => by
    unfold pys at e
    split at e
    · rename_i l' e'
      cases e
      cases h with
      | py h => exact .cons h (pys_rp t e')
    · cases e
  | .ins _ _ :: _, _, _, _, e => by cases e
  | .box :: _, _, _, _, e => by cases e
  | .scr _ _ :: _, _, _, _, e => by cases e
  | .ref _ :: _, _, _, _, e => by cases e
  | .ty _ :: _, _, _, _, e => by cases e
def dTup (ta : TAD) : TD := fun ρ Qd Ed => ta ρ (fun ds => match pys ds with
  | some l => Qd (.tup l)
  | none => False) Ed
theorem le_tup {n : Nat} {Ta : TA} {ta : TAD} (ha : LA n S E Ta ta) (hn : n ≤ 1000) : LE S E (tTup Ta) (dTup ta) := by
  intro H0 ρ σ G H Qd Ed Q w st q k ke
  refine ha H0 ρ σ G H _ Ed _ w st q (fun vs ds G1 H1 s1 hl rs q1 => ?_) ke
  refine ⟨by rw [hl, sizeLine_eq]; omega, fun p np => ?_⟩
  cases e : pys ds with
  | none =>
    rw [e] at q1
    exact q1.elim
  | some l =>
    rw [e] at q1
    exact k _ _ _ _ (s1.trans (Step.newF (o := .tup vs) s1.wf np (fun z e => by cases e))) (.py (.tup put_same (RpA.mono (same_upd (.inl (s1.wf.free np))) _ _ (pys_rp rs e)))) q1
def oLst (ta : TAD) : TOD := fun ρ Qd Ed => ta ρ (fun ds => match pys ds with
  | some l => Qd l
  | none => False) Ed
theorem lo_lst {n : Nat} {Ta : TA} {ta : TAD} (ha : LA n S E Ta ta) (hn : n ≤ 1000) : LO S E (tLst Ta) (oLst ta) := by
  intro H0 ρ σ G H Qd Ed Q w st q k ke
  refine ha H0 ρ σ G H _ Ed _ w st q (fun vs ds G1 H1 s1 hl rs q1 => ?_) ke
  refine ⟨by rw [hl, sizeLine_eq]; omega, fun p np => ?_⟩
  cases e : pys ds with
  | none =>
    rw [e] at q1
    exact q1.elim
  | some l =>
    rw [e] at q1
    exact k p vs l G1 _ (s1.trans (Step.new s1.wf np)) (s1.was_free (.of np)) upd_same (s1.wf.free np) (s1.wf.box_ne np) (pys_rp rs e) q1

/-! ### a built-in, a def called -/
abbrev FA := List DV → (DV → Prop) → Prop
def LCr (S : Sx) (r : List V → Hp → VK → Prop) (f : FA) : Prop := ∀ (G : Gh) (H : Hp) (xs : List V) (ds : List DV) (Qd : DV → Prop) (Q : VK), Wf S G H → RVs G xs ds → f ds Qd → (∀ v d G' H', Step S G H G' H' → RV G' v d → Qd d → Q v H') → r xs H Q
def dCB (f : FA) (ta : TAD) : TD := fun ρ Qd Ed => ta ρ (fun ds => f ds Qd) Ed
theorem le_cb {n : Nat} {r : List V → Hp → VK → Prop} {f : FA} {Ta : TA} {ta : TAD} (hr : LCr S r f) (ha : LA n S E Ta ta) : LE S E (tCB r Ta) (dCB f ta) := by
  intro H0 ρ σ G H Qd Ed Q w st q k ke
  refine ha H0 ρ σ G H _ Ed _ w st q (fun xs ds G1 H1 s1 hl rx q1 => ?_) ke
  exact hr G1 H1 xs ds Qd Q s1.wf rx q1 fun v d G3 H3 s3 rv q3 => k v d G3 H3 (s1.trans s3) rv q3
/-- .. that makes a new list -/
abbrev FO := List DV → (List PyData → Prop) → Prop
def LCo (S : Sx) (r : List V → Hp → VK → Prop) (f : FO) : Prop := ∀ (G : Gh) (H : Hp) (xs : List V) (ds : List DV) (Qd : List PyData → Prop) (Q : VK), Wf S G H → RVs G xs ds → f ds Qd →
  (∀ p vs l G' H', Step S G H G' H' → Fr H p → H' p = some (.lst vs) → G'.F p = none → ¬ G'.B p → RpA G'.F vs l → Qd l → Q (.ref p) H') → r xs H Q
def oCB (f : FO) (ta : TAD) : TOD := fun ρ Qd Ed => ta ρ (fun ds => f ds Qd) Ed
theorem lo_cb {n : Nat} {r : List V → Hp → VK → Prop} {f : FO} {Ta : TA} {ta : TAD} (hr : LCo S r f) (ha : LA n S E Ta ta) : LO S E (tCB r Ta) (oCB f ta) := by
  intro H0 ρ σ G H Qd Ed Q w st q k ke
  refine ha H0 ρ σ G H _ Ed _ w st q (fun xs ds G1 H1 s1 hl rx q1 => ?_) ke
  exact hr G1 H1 xs ds Qd Q s1.wf rx q1 fun p vs l G3 H3 s3 n h1 h2 h3 h4 q3 => k p vs l G3 H3 (s1.trans s3) (s1.was_free n) h1 h2 h3 h4 q3
/-- a def's promise over data -/
abbrev SpD := List DV → (DV → Prop) → (Er → Prop) → Prop
def spD (S : Sx) (n : Nat) (sp : SpD) : Sp := fun vs H Q E => ∃ G ds Qd Ed, vs.length = n ∧ Wf S G H ∧ RVs G vs ds ∧ sp ds Qd Ed ∧ (∀ v d G' H', Step S G H G' H' → RV G' v d → Qd d → Q v H') ∧
  (∀ e cls d G' H', Step S G H G' H' → ErAt G' H' cls d e → Ed e → E cls d H')
def dCall (sp : SpD) (ta : TAD) : TD := fun ρ Qd Ed => ta ρ (fun ds => sp ds Qd Ed) Ed
def dCall0 (sp : SpD) (ta : TAD) : TD := fun ρ Qd Ed => ta ρ (fun ds => sp ds Qd fun _ => False) Ed
theorem le_call {n : Nat} {sp : SpD} {Ta : TA} {ta : TAD} (ha : LA n S E Ta ta) : LE S E (tCall (spD S n sp) [] E Ta) (dCall sp ta) := by
  intro H0 ρ σ G H Qd Ed Q w st q k ke
  refine ha H0 ρ σ G H _ Ed _ w st q (fun xs ds G1 H1 s1 hl rx q1 => ?_) ke
  exact ⟨G1, ds, Qd, Ed, by rw [List.append_nil]; exact hl, s1.wf, by rw [List.append_nil]; exact rx, q1, fun v d G' H' s rv q => k v d G' H' (s1.trans s) rv q, fun e cls d G' H' s he h => ke e cls d G' H' (s1.trans s) he h⟩
theorem le_call0 {n : Nat} {sp : SpD} {Ta : TA} {ta : TAD} (ha : LA n S E Ta ta) : LE S E (tCall (spD S n sp) [] L2.E0 Ta) (dCall0 sp ta) := by
  intro H0 ρ σ G H Qd Ed Q w st q k ke
  refine ha H0 ρ σ G H _ Ed _ w st q (fun xs ds G1 H1 s1 hl rx q1 => ?_) ke
  exact ⟨G1, ds, Qd, _, by rw [List.append_nil]; exact hl, s1.wf, by rw [List.append_nil]; exact rx, q1, fun v d G' H' s rv q => k v d G' H' (s1.trans s) rv q, fun e cls d G' H' s he h => h.elim⟩
/-- a default at the end: its value is known -/
theorem le_callD {n : Nat} {sp : SpD} {Ta : TA} {ta : TAD} {dvs : List V} {dds : List DV} (hd : ∀ G, RVs G dvs dds) (ha : LA n S E Ta ta) : LE S E (tCall (spD S (n + dvs.length) sp) dvs L2.E0 Ta) (dCall0 (fun ds => sp (ds ++ dds)) ta) := by
  intro H0 ρ σ G H Qd Ed Q w st q k ke
  refine ha H0 ρ σ G H _ Ed _ w st q (fun xs ds G1 H1 s1 hl rx q1 => ?_) ke
  refine ⟨G1, ds ++ dds, Qd, _, by rw [List.length_append, hl], s1.wf, ?_, q1, fun v d G' H' s rv q => k v d G' H' (s1.trans s) rv q, fun e cls d G' H' s he h => h.elim⟩
  exact papp rx (hd G1)
end
end Dl

set_option Elab.async false
set_option linter.all false
set_option maxRecDepth 100000
set_option maxHeartbeats 4000000
/-! the data layer: operators, subscripts, slices, built-ins -/
namespace Dl
open PySem PySem.Spec PyProof.Rows L2 Lx
theorem opR_or {X : Cx} {f : Value → Value → Sem Value} {r r' : R2} (h : OpR X f r) (h' : OpR X f r') : OpR X f (fun x y H Q => r x y H Q ∨ r' x y H Q) := by
  rintro pins s σ H x y v u Q I rx ry (q | q)
  · exact h pins s σ H x y v u Q I rx ry q
  · exact h' pins s σ H x y v u Q I rx ry q
theorem rp_len {F : Hp} {xs : List V} {ds : List PyData} (h : RpA F xs ds) : xs.length = ds.length := Paired.length h
section
variable {S : Sx} {G : Gh} {H : Hp} {x : V}
theorem rv_int {i : Int} (h : RV G x (.py (.int i))) : x = .int i := by
  cases h with
  | py h => cases h; rfl
theorem rv_bl {b : Bool} (h : RV G x (.py (.bool b))) : x = .bl b := by
  cases h with
  | py h => cases h; rfl
theorem rv_str {z : Str} (h : RV G x (.py (.str z))) : x = .str z := by
  cases h with
  | py h => cases h; rfl
theorem rv_non (h : RV G x (.py .none)) : x = .non := by
  cases h with
  | py h => cases h; rfl
theorem rv_tup {l : List PyData} (h : RV G x (.py (.tuple l))) : ∃ p xs, x = .ref p ∧ G.F p = some (.tup xs) ∧ RpA G.F xs l := by
  cases h with
  | py h =>
    cases h with
    | tup h1 h2 => exact ⟨_, _, rfl, h1, h2⟩
theorem rv_lst {l : List PyData} (h : RV G x (.py (.list l))) : ∃ p xs, x = .ref p ∧ G.F p = some (.lst xs) ∧ RpA G.F xs l := by
  cases h with
  | py h =>
    cases h with
    | lst h1 h2 => exact ⟨_, _, rfl, h1, h2⟩
theorem rv_py {d : PyData} (h : RV G x (.py d)) : Rp G.F x d := by
  cases h with
  | py h => exact h
theorem rpa_app {F : Hp} {xs ys : List V} {a b : List PyData} (h : RpA F xs a) (k : RpA F ys b) : RpA F (xs ++ ys) (a ++ b) := papp h k
theorem rpa_nil {F : Hp} {xs : List V} {a : List PyData} (h : RpA F xs a) : xs = [] ↔ a = [] := by
  cases h with
  | nil => exact ⟨fun _ => rfl, fun _ => rfl⟩
  | cons _ _ => exact ⟨fun z => (List.cons_ne_nil _ _ z).elim, fun z => (List.cons_ne_nil _ _ z).elim⟩
theorem rpa_get {F : Hp} : ∀ {xs : List V} {a : List PyData} {i : Nat} {d : PyData}, RpA F xs a → a[i]? = some d → ∃ v, xs[i]? = some v ∧ Rp F v d
  | _, _, _, _, .nil, e => by simp at e
  | _, _, 0, _, .cons h _, e => by
    simp at e
    subst e
    exact ⟨_, rfl, h⟩
  | _, _, i + 1, _, .cons _ t, e => by
    obtain ⟨v, h1, h2⟩ := rpa_get (i := i) t (by simpa using e)
    exact ⟨v, by simpa using h1, h2⟩
theorem rpa_get' {F : Hp} : ∀ {xs : List V} {a : List PyData} {i : Nat} {v : V}, RpA F xs a → xs[i]? = some v → ∃ d, a[i]? = some d ∧ Rp F v d
  | _, _, _, _, .nil, e => by simp at e
  | _, _, 0, _, .cons h _, e => by
    simp at e
    subst e
    exact ⟨_, rfl, h⟩
  | _, _, i + 1, _, .cons _ t, e => by
    obtain ⟨v, h1, h2⟩ := rpa_get' (i := i) t (by simpa using e)
    exact ⟨v, by simpa using h1, h2⟩
theorem rpa_drop {F : Hp} : ∀ {xs : List V} {a : List PyData} (n : Nat), RpA F xs a → RpA F (xs.drop n) (a.drop n)
  | _, _, 0, h => h
  | _, _, _ + 1, .nil => .nil
  | _, _, n + 1, .cons _ t => rpa_drop n t
theorem rpa_take {F : Hp} : ∀ {xs : List V} {a : List PyData} (n : Nat), RpA F xs a → RpA F (xs.take n) (a.take n)
  | _, _, 0, _ => .nil
  | _, _, _ + 1, .nil => .nil
  | _, _, n + 1, .cons h t => .cons h (rpa_take n t)
theorem rpa_rep {F : Hp} {xs : List V} {a : List PyData} (h : RpA F xs a) : ∀ n : Nat, RpA F (List.replicate n xs).flatten (List.replicate n a).flatten
  | 0 => .nil
  | n + 1 => by
    rw [List.replicate_succ, List.replicate_succ, List.flatten_cons, List.flatten_cons]
    exact rpa_app h (rpa_rep h n)

/-! ### a + b -/
def rAddA (K : PySem.W.Frag) : R2 := fun x y H Q => (rI0 (fun i j => .int (i + j)) x y H Q ∨ rCatA K x y H Q) ∨ (rCat x y H Q ∨ ∃ i j, x = .str i ∧ y = .str j ∧ i.length + j.length ≤ sizeLine ∧ Q (.str (i ++ j)) H)
theorem op_addA {X : Cx} : OpR X (binaryOp .Add) (rAddA X.K) := opR_or (opR_or op_add op_catA) (opR_or op_cat op_add_str)
def fAdd : F2 := fun x y Q => match x, y with
  | .py (.int i), .py (.int j) => Q (.int (i + j))
  | .py (.str a), .py (.str b) => a.length + b.length ≤ 1000000 ∧ Q (.str (a ++ b))
  | .py (.tuple a), .py (.tuple b) => a.length + b.length ≤ 1000000 ∧ Q (.tup (a ++ b))
  | .py (.list a), .py (.list b) => a.length + b.length ≤ 1000000 ∧ Q (.lst (a ++ b))
  | _, _ => False
theorem l2_add : L2r S (rAddA S.K) fAdd := by
  intro G H x y dx dy Qd Q w rx ry q k
  unfold fAdd at q
  split at q
  · cases rv_int rx
    cases rv_int ry
    exact .inl (.inl ⟨_, _, rfl, rfl, k _ _ G H (Step.refl w) (.py (.int _)) q⟩)
  · rename_i a b
    cases rv_str rx
    cases rv_str ry
    exact .inr (.inr ⟨_, _, rfl, rfl, by rw [sizeLine_eq]; have := q.1; omega, k _ _ G H (Step.refl w) (.py (.str _)) q.2⟩)
  · rename_i a b
    obtain ⟨p, xs, rfl, h1, h2⟩ := rv_tup rx
    obtain ⟨p', ys, rfl, h3, h4⟩ := rv_tup ry
    refine .inl (.inr ⟨p, p', xs, ys, rfl, rfl, .inl (.inl (w.sub _ _ h1)), .inl (.inl (w.sub _ _ h3)), by rw [rp_len h2, rp_len h4, sizeLine_eq]; have := q.1; omega, fun e => ?_, fun _ e => ?_, fun _ _ t nt => ?_⟩)
    · have e' := (rpa_nil h2).mp e
      subst e'
      exact k _ _ G H (Step.refl w) ry q.2
    · have e' := (rpa_nil h4).mp e
      subst e'
      have z := q.2
      rw [List.append_nil] at z
      exact k _ _ G H (Step.refl w) rx z
    · exact k _ _ _ _ (Step.newF (o := .tup (xs ++ ys)) w nt (fun z e => by cases e)) (.py (.tup put_same (RpA.mono (same_upd (.inl (w.free nt))) _ _ (rpa_app h2 h4)))) q.2
  · rename_i a b
    obtain ⟨p, xs, rfl, h1, h2⟩ := rv_lst rx
    obtain ⟨p', ys, rfl, h3, h4⟩ := rv_lst ry
    exact .inr (.inl ⟨p, p', xs, ys, rfl, rfl, w.sub _ _ h1, w.sub _ _ h3, by rw [rp_len h2, rp_len h4, sizeLine_eq]; have := q.1; omega, fun t nt =>
      k _ _ _ _ (Step.newF (o := .lst (xs ++ ys)) w nt (fun z e => by cases e)) (.py (.lst put_same (RpA.mono (same_upd (.inl (w.free nt))) _ _ (rpa_app h2 h4)))) q.2⟩)
  · exact q.elim
/-- .. that makes a new list of the def's own -/
abbrev FO2 := DV → DV → (List PyData → Prop) → Prop
def L2o (S : Sx) (r : R2) (f : FO2) : Prop := ∀ (G : Gh) (H : Hp) (x y : V) (dx dy : DV) (Qd : List PyData → Prop) (Q : VK), Wf S G H → RV G x dx → RV G y dy → f dx dy Qd →
  (∀ p vs l G' H', Step S G H G' H' → Fr H p → H' p = some (.lst vs) → G'.F p = none → ¬ G'.B p → RpA G'.F vs l → Qd l → Q (.ref p) H') → r x y H Q
def oOp (f : FO2) (ta tb : TD) : TOD := fun ρ Qd Ed => ta ρ (fun x => tb ρ (fun y => f x y Qd) Ed) Ed
theorem lo_op {E : XK} {r : R2} {f : FO2} {Ta Tb : TE} {ta tb : TD} (hr : L2o S r f) (ha : LE S E Ta ta) (hb : LE S E Tb tb) : LO S E (tOp r Ta Tb) (oOp f ta tb) := by
  intro H0 ρ σ G H Qd Ed Q w st q k ke
  refine ha H0 ρ σ G H _ Ed _ w st q (fun x dx G1 H1 s1 rx q1 => ?_) ke
  refine hb H0 ρ σ G1 H1 _ Ed _ s1.wf (st.step s1) q1 (fun y dy G2 H2 s2 ry q2 => ?_) (fun e cls d G2 H2 s2 he h => ke e cls d G2 H2 (s1.trans s2) he h)
  exact hr G2 H2 x y dx dy Qd Q s2.wf (rx.mono s2.fm s2.bm) ry q2 fun p vs l G3 H3 s3 n h1 h2 h3 h4 q3 => k p vs l G3 H3 (s1.trans (s2.trans s3)) ((s1.trans s2).was_free n) h1 h2 h3 h4 q3
def fCat : FO2 := fun x y Q => match x, y with
  | .py (.list a), .py (.list b) => a.length + b.length ≤ 1000000 ∧ Q (a ++ b)
  | _, _ => False
theorem l2o_cat : L2o S (rAddA S.K) fCat := by
  intro G H x y dx dy Qd Q w rx ry q k
  unfold fCat at q
  split at q
  · rename_i a b
    obtain ⟨p, xs, rfl, h1, h2⟩ := rv_lst rx
    obtain ⟨p', ys, rfl, h3, h4⟩ := rv_lst ry
    exact .inr (.inl ⟨p, p', xs, ys, rfl, rfl, w.sub _ _ h1, w.sub _ _ h3, by rw [rp_len h2, rp_len h4, sizeLine_eq]; have := q.1; omega, fun t nt =>
      k t _ _ G _ (Step.new w nt) (.of nt) upd_same (w.free nt) (w.box_ne nt) (rpa_app h2 h4) q.2⟩)
  · exact q.elim

/-! ### numbers -/
def fInt (g : Int → Int → DV) : F2 := fun x y Q => match x, y with
  | .py (.int i), .py (.int j) => Q (g i j)
  | _, _ => False
theorem l2_sub : L2r S (rI0 fun i j => .int (i - j)) (fInt fun i j => .int (i - j)) := by
  intro G H x y dx dy Qd Q w rx ry q k
  unfold fInt at q
  split at q
  · cases rv_int rx
    cases rv_int ry
    exact ⟨_, _, rfl, rfl, k _ _ G H (Step.refl w) (.py (.int _)) q⟩
  · exact q.elim
theorem l2_cmp {p : Int → Int → Bool} : L2r S (rI0 fun i j => .bl (p i j)) (fInt fun i j => .bl (p i j)) := by
  intro G H x y dx dy Qd Q w rx ry q k
  unfold fInt at q
  split at q
  · cases rv_int rx
    cases rv_int ry
    exact ⟨_, _, rfl, rfl, k _ _ G H (Step.refl w) (.py (.bl _)) q⟩
  · exact q.elim
def fIntC (C : Int → Int → Prop) (g : Int → Int → Int) : F2 := fun x y Q => match x, y with
  | .py (.int i), .py (.int j) => C i j ∧ Q (.int (g i j))
  | _, _ => False
theorem l2_intC {C : Int → Int → Prop} {g : Int → Int → Int} : L2r S (rI C fun i j => .int (g i j)) (fIntC C g) := by
  intro G H x y dx dy Qd Q w rx ry q k
  unfold fIntC at q
  split at q
  · cases rv_int rx
    cases rv_int ry
    exact ⟨_, _, rfl, rfl, q.1, k _ _ G H (Step.refl w) (.py (.int _)) q.2⟩
  · exact q.elim
def fNeg (g : Int → Int) : F1 := fun x Q => match x with
  | .py (.int i) => Q (.int (g i))
  | _ => False
theorem l1_int {g : Int → Int} : L1r S (rU fun i => .int (g i)) (fNeg g) := by
  intro G H x dx Qd Q w rx q k
  unfold fNeg at q
  split at q
  · cases rv_int rx
    exact ⟨_, rfl, k _ _ G H (Step.refl w) (.py (.int _)) q⟩
  · exact q.elim
/-! ### ==, != of data -/
/-- both are data that == can compare -/
def shp (d : PyData) : Bool := SeqAt.shaped d
def fEq (neg : Bool) : F2 := fun x y Q => match x, y with
  | .py (.int i), .py (.int j) => Q (.bl (decide (i = j) != neg))
  | .py (.str i), .py (.str j) => shp (.str i) = true ∧ shp (.str j) = true ∧ Q (.bl (PyData.eqv (.str i) (.str j) != neg))
  | .py d, .py e => shp d = true ∧ shp e = true ∧ Q (.bl (PyData.eqv d e != neg))
  | _, _ => False
theorem eqv_int (i j : Int) : PyData.eqv (.int i) (.int j) = decide (i = j) := by
  show (i == j) = _
  rw [Bool.beq_eq_decide_eq]
theorem l2_eq : L2r S (rEqD S.K) (fEq false) := by
  intro G H x y dx dy Qd Q w rx ry q k
  unfold fEq at q
  split at q
  · refine ⟨_, _, Rp.dp w.sub _ _ (rv_py rx), Rp.dp w.sub _ _ (rv_py ry), rfl, rfl, k _ _ G H (Step.refl w) (.py (.bl _)) ?_⟩
    rw [eqv_int]
    simpa using q
  · refine ⟨_, _, Rp.dp w.sub _ _ (rv_py rx), Rp.dp w.sub _ _ (rv_py ry), q.1, q.2.1, k _ _ G H (Step.refl w) (.py (.bl _)) ?_⟩
    simpa using q.2.2
  · refine ⟨_, _, Rp.dp w.sub _ _ (rv_py rx), Rp.dp w.sub _ _ (rv_py ry), q.1, q.2.1, k _ _ G H (Step.refl w) (.py (.bl _)) ?_⟩
    simpa using q.2.2
  · exact q.elim
theorem l2_ne : L2r S (rNeD S.K) (fEq true) := by
  intro G H x y dx dy Qd Q w rx ry q k
  unfold fEq at q
  split at q
  · refine ⟨_, _, Rp.dp w.sub _ _ (rv_py rx), Rp.dp w.sub _ _ (rv_py ry), rfl, rfl, k _ _ G H (Step.refl w) (.py (.bl _)) ?_⟩
    rw [eqv_int]
    simpa using q
  · refine ⟨_, _, Rp.dp w.sub _ _ (rv_py rx), Rp.dp w.sub _ _ (rv_py ry), q.1, q.2.1, k _ _ G H (Step.refl w) (.py (.bl _)) ?_⟩
    simpa using q.2.2
  · refine ⟨_, _, Rp.dp w.sub _ _ (rv_py rx), Rp.dp w.sub _ _ (rv_py ry), q.1, q.2.1, k _ _ G H (Step.refl w) (.py (.bl _)) ?_⟩
    simpa using q.2.2
  · exact q.elim
/-! ### is None -/
def isNonD : DV → Bool
  | .py .none => true
  | _ => false
theorem rv_isNon {d : DV} (h : RV G x d) : decide (x = .non) = isNonD d := by
  cases h with
  | py h => cases h <;> rfl
  | _ => rfl
def fIsN (neg : Bool) : F2 := fun x y Q => match y with
  | .py .none => Q (.bl (isNonD x != neg))
  | _ => False
theorem l2_isN : L2r S (fun x y H Q => y = .non ∧ Q (.bl (decide (x = .non))) H) (fIsN false) := by
  intro G H x y dx dy Qd Q w rx ry q k
  unfold fIsN at q
  split at q
  · refine ⟨rv_non ry, ?_⟩
    rw [rv_isNon rx]
    exact k _ _ G H (Step.refl w) (.py (.bl _)) (by simpa using q)
  · exact q.elim
theorem l2_notN : L2r S (fun x y H Q => y = .non ∧ Q (.bl (!decide (x = .non))) H) (fIsN true) := by
  intro G H x y dx dy Qd Q w rx ry q k
  unfold fIsN at q
  split at q
  · refine ⟨rv_non ry, ?_⟩
    rw [rv_isNon rx]
    exact k _ _ G H (Step.refl w) (.py (.bl _)) (by simpa using q)
  · exact q.elim
/-! ### in, not in -/
def fIn (neg : Bool) : F2 := fun x y Q => match x, y with
  | .py d, .py (.list ds) => shp d = true ∧ shp (.list ds) = true ∧ Q (.bl ((ds.any fun z => PyData.eqv z d) != neg))
  | _, _ => False
theorem l2_in : L2r S (rInD S.K) (fIn false) := by
  intro G H x y dx dy Qd Q w rx ry q k
  unfold fIn at q
  split at q
  · exact ⟨_, _, Rp.dp w.sub _ _ (rv_py rx), Rp.dp w.sub _ _ (rv_py ry), q.1, q.2.1, k _ _ G H (Step.refl w) (.py (.bl _)) (by simpa using q.2.2)⟩
  · exact q.elim
theorem l2_notIn : L2r S (rNotInD S.K) (fIn true) := by
  intro G H x y dx dy Qd Q w rx ry q k
  unfold fIn at q
  split at q
  · exact ⟨_, _, Rp.dp w.sub _ _ (rv_py rx), Rp.dp w.sub _ _ (rv_py ry), q.1, q.2.1, k _ _ G H (Step.refl w) (.py (.bl _)) (by simpa using q.2.2)⟩
  · exact q.elim
/-! ### xs[i] -/
def fIx (K : PySem.W.Frag) (n : Nat) : F2 := fun x y Q => match x, y with
  | .py (.list l), .py (.int i) => ∃ d, atI l i = some d ∧ Q (.py d)
  | .py (.tuple l), .py (.int i) => ∃ d, atI l i = some d ∧ Q (.py d)
  | .scr K' ns, .py (.int i) => K' = K ∧ ∃ d, atI ns i = some d ∧ Q (.int d)
  | .box, .py (.int i) => (0 ≤ i ∧ i < n) ∧ ∀ c : Int, (i = 0 → 0 ≤ c) → Q (.int c)
  | _, _ => False
theorem rpa_at {F : Hp} {xs : List V} {l : List PyData} {i : Int} {d : PyData} (h : RpA F xs l) (e : atI l i = some d) : ∃ v, atI xs i = some v ∧ Rp F v d := by
  unfold atI at e ⊢
  rw [rp_len h]
  cases z : ixN l.length i with
  | none =>
    rw [z] at e
    cases e
  | some j =>
    rw [z] at e
    exact rpa_get h e
theorem atI_map {α β : Type} {f : α → β} {l : List α} {i : Int} {d : α} (e : atI l i = some d) : atI (l.map f) i = some (f d) := by
  unfold atI at e ⊢
  rw [List.length_map]
  cases z : ixN l.length i with
  | none =>
    rw [z] at e
    cases e
  | some j =>
    rw [z] at e
    have e : l[j]? = some d := e
    show (l.map f)[j]? = _
    rw [List.getElem?_map, e]
    rfl
theorem l2_ix : L2r S (rIx S.K) (fIx S.K S.nb) := by
  intro G H x y dx dy Qd Q w rx ry q k
  unfold fIx at q
  split at q
  · obtain ⟨p, xs, rfl, h1, h2⟩ := rv_lst rx
    cases rv_int ry
    obtain ⟨d, e, q⟩ := q
    obtain ⟨v, e', hv⟩ := rpa_at h2 e
    exact .inl ⟨p, xs, _, v, rfl, rfl, .inl (.inl (w.sub _ _ h1)), e', k _ _ G H (Step.refl w) (.py hv) q⟩
  · obtain ⟨p, xs, rfl, h1, h2⟩ := rv_tup rx
    cases rv_int ry
    obtain ⟨d, e, q⟩ := q
    obtain ⟨v, e', hv⟩ := rpa_at h2 e
    exact .inr (.inl ⟨p, xs, _, v, rfl, rfl, .inl (.inl (w.sub _ _ h1)), e', k _ _ G H (Step.refl w) (.py hv) q⟩)
  · cases rv_int ry
    obtain ⟨eK, d, e, q⟩ := q
    subst eK
    cases rx with
    | @scr _ a ns h =>
      refine .inl ⟨a, _, _, .int d, rfl, rfl, ?_, atI_map e, k _ _ G H (Step.refl w) (.py (.int _)) q⟩
      rcases h with (h | ⟨o, h⟩) | h
      · exact .inl (.inl (w.sub _ _ h))
      · exact .inl (.inr ⟨o, w.sub _ _ h⟩)
      · exact h H
  · cases rv_int ry
    cases rx with
    | @box b hb =>
      obtain ⟨⟨i0, i1⟩, q⟩ := q
      obtain ⟨⟨c0, cs, h1, h2, h3⟩, _⟩ := w.box b hb
      rename_i i
      obtain ⟨j, rfl⟩ := Int.eq_ofNat_of_zero_le i0
      have lt : j < (c0 :: cs).length := by rw [List.length_cons, h2]; omega
      have e : atI (c0 :: cs) (j : Int) = some ((c0 :: cs)[j]) := atI_nat (List.getElem?_eq_getElem lt)
      refine .inl ⟨b, _, _, _, rfl, rfl, .inl (.inl h1), atI_map (f := V.int) e, k _ _ G H (Step.refl w) (.py (.int _)) (q _ fun z => ?_)⟩
      have z : j = 0 := by omega
      subst z
      exact h3
  · exact q.elim
end
end Dl

set_option Elab.async false
set_option linter.all false
set_option maxRecDepth 100000
set_option maxHeartbeats 4000000
/-! the data layer: tests, statements, loops, comprehensions -/
namespace Dl
open PySem PySem.Spec PyProof.Rows L2 Lx
section
variable {S : Sx} {E : XK} {G G0 : Gh} {H H0 : Hp}
/-! ### tests -/
def dTest (t : TD) : TTD := fun ρ Qb Ed => t ρ (fun d => match d with
  | .py (.bool b) => Qb b
  | _ => False) Ed
theorem lt_test {T : TE} {t : TD} (h : LE S E T t) : LT S E (tTest T) (dTest t) := by
  intro H0 ρ σ G H Qd Ed Q w st q k ke
  refine h H0 ρ σ G H _ Ed _ w st q (fun v d G1 H1 s1 rv q1 => ?_) ke
  split at q1
  · cases rv_bl rv
    exact ⟨_, rfl, k _ G1 H1 s1 q1⟩
  · exact q1.elim
theorem lt_b {T : TE} {t : TD} (h : LE S E T t) : LT S E (tB T) (dTest t) := by
  intro H0 ρ σ G H Qd Ed Q w st q k ke
  refine h H0 ρ σ G H _ Ed _ w st q (fun v d G1 H1 s1 rv q1 => ?_) ke
  split at q1
  · cases rv_bl rv
    exact ⟨_, rfl, k _ G1 H1 s1 q1⟩
  · exact q1.elim
def dAnd (t u : TTD) : TTD := fun ρ Qb Ed => t ρ (fun b => if b = true then u ρ Qb Ed else Qb false) Ed
def dOr (t u : TTD) : TTD := fun ρ Qb Ed => t ρ (fun b => if b = true then Qb true else u ρ Qb Ed) Ed
def dNot (t : TTD) : TTD := fun ρ Qb Ed => t ρ (fun b => Qb (!b)) Ed
theorem lt_and {T U : TT} {t u : TTD} (h : LT S E T t) (k : LT S E U u) : LT S E (L2.tAnd T U) (dAnd t u) := by
  intro H0 ρ σ G H Qd Ed Q w st q kk ke
  refine h H0 ρ σ G H _ Ed _ w st q (fun b G1 H1 s1 q1 => ?_) ke
  cases b with
  | true => exact k H0 ρ σ G1 H1 _ Ed _ s1.wf (st.step s1) q1 (fun b G2 H2 s2 q2 => kk b G2 H2 (s1.trans s2) q2) fun e cls d G2 H2 s2 he h => ke e cls d G2 H2 (s1.trans s2) he h
  | false => exact kk false G1 H1 s1 q1
theorem lt_or {T U : TT} {t u : TTD} (h : LT S E T t) (k : LT S E U u) : LT S E (L2.tOr T U) (dOr t u) := by
  intro H0 ρ σ G H Qd Ed Q w st q kk ke
  refine h H0 ρ σ G H _ Ed _ w st q (fun b G1 H1 s1 q1 => ?_) ke
  cases b with
  | true => exact kk true G1 H1 s1 q1
  | false => exact k H0 ρ σ G1 H1 _ Ed _ s1.wf (st.step s1) q1 (fun b G2 H2 s2 q2 => kk b G2 H2 (s1.trans s2) q2) fun e cls d G2 H2 s2 he h => ke e cls d G2 H2 (s1.trans s2) he h
theorem lt_not {T : TT} {t : TTD} (h : LT S E T t) : LT S E (L2.tNot T) (dNot t) := by
  intro H0 ρ σ G H Qd Ed Q w st q kk ke
  exact h H0 ρ σ G H _ Ed _ w st q (fun b G1 H1 s1 q1 => kk _ G1 H1 s1 q1) ke
/-- and, or, not as values, all True or False -/
def dAndV (t u : TD) : TD := fun ρ Qd Ed => t ρ (fun d => match d with
  | .py (.bool b) => if b = true then u ρ Qd Ed else Qd (.bl false)
  | _ => False) Ed
def dOrV (t u : TD) : TD := fun ρ Qd Ed => t ρ (fun d => match d with
  | .py (.bool b) => if b = true then Qd (.bl true) else u ρ Qd Ed
  | _ => False) Ed
def dNotV (t : TD) : TD := fun ρ Qd Ed => t ρ (fun d => match d with
  | .py (.bool b) => Qd (.bl (!b))
  | _ => False) Ed
theorem le_andV {T U : TE} {t u : TD} (h : LE S E T t) (k : LE S E U u) : LE S E (tAndV T U) (dAndV t u) := by
  intro H0 ρ σ G H Qd Ed Q w st q kk ke
  refine h H0 ρ σ G H _ Ed _ w st q (fun v d G1 H1 s1 rv q1 => ?_) ke
  split at q1
  · rename_i b
    cases rv_bl rv
    cases b with
    | true => exact ⟨true, rfl, iteT (k H0 ρ σ G1 H1 _ Ed _ s1.wf (st.step s1) q1 (fun b d G2 H2 s2 r q2 => kk b d G2 H2 (s1.trans s2) r q2) fun e cls d G2 H2 s2 he h => ke e cls d G2 H2 (s1.trans s2) he h)⟩
    | false => exact ⟨false, rfl, iteF (kk _ _ G1 H1 s1 (.py (.bl _)) q1)⟩
  · exact q1.elim
theorem le_orV {T U : TE} {t u : TD} (h : LE S E T t) (k : LE S E U u) : LE S E (tOrV T U) (dOrV t u) := by
  intro H0 ρ σ G H Qd Ed Q w st q kk ke
  refine h H0 ρ σ G H _ Ed _ w st q (fun v d G1 H1 s1 rv q1 => ?_) ke
  split at q1
  · rename_i b
    cases rv_bl rv
    cases b with
    | true => exact ⟨true, rfl, iteT (kk _ _ G1 H1 s1 (.py (.bl _)) q1)⟩
    | false => exact ⟨false, rfl, iteF (k H0 ρ σ G1 H1 _ Ed _ s1.wf (st.step s1) q1 (fun b d G2 H2 s2 r q2 => kk b d G2 H2 (s1.trans s2) r q2) fun e cls d G2 H2 s2 he h => ke e cls d G2 H2 (s1.trans s2) he h)⟩
  · exact q1.elim
theorem le_notV {T : TE} {t : TD} (h : LE S E T t) : LE S E (tNotV T) (dNotV t) := by
  intro H0 ρ σ G H Qd Ed Q w st q kk ke
  refine h H0 ρ σ G H _ Ed _ w st q (fun v d G1 H1 s1 rv q1 => ?_) ke
  split at q1
  · cases rv_bl rv
    exact ⟨_, rfl, kk _ _ G1 H1 s1 (.py (.bl _)) q1⟩
  · exact q1.elim
def dIfE (c : TTD) (t u : TD) : TD := fun ρ Qd Ed => c ρ (fun b => if b = true then t ρ Qd Ed else u ρ Qd Ed) Ed
theorem le_ifE {C : TT} {T U : TE} {c : TTD} {t u : TD} (hc : LT S E C c) (h : LE S E T t) (k : LE S E U u) : LE S E (tIf C T U) (dIfE c t u) := by
  intro H0 ρ σ G H Qd Ed Q w st q kk ke
  refine hc H0 ρ σ G H _ Ed _ w st q (fun b G1 H1 s1 q1 => ?_) ke
  cases b with
  | true => exact iteT (h H0 ρ σ G1 H1 _ Ed _ s1.wf (st.step s1) q1 (fun b d G2 H2 s2 r q2 => kk b d G2 H2 (s1.trans s2) r q2) fun e cls d G2 H2 s2 he h => ke e cls d G2 H2 (s1.trans s2) he h)
  | false => exact iteF (k H0 ρ σ G1 H1 _ Ed _ s1.wf (st.step s1) q1 (fun b d G2 H2 s2 r q2 => kk b d G2 H2 (s1.trans s2) r q2) fun e cls d G2 H2 s2 he h => ke e cls d G2 H2 (s1.trans s2) he h)
/-- a op b op c -/
def dChain (f f' : F2) (ta tb tc : TD) : TD := fun ρ Qd Ed => ta ρ (fun x => tb ρ (fun y => f x y fun z => match z with
  | .py (.bool b) => if b = true then tc ρ (fun u => f' y u Qd) Ed else Qd (.bl false)
  | _ => False) Ed) Ed

/-! ### fields -/
def fldD (C : Addr) (f : Str) (d : DV) (Qd : DV → Prop) : Prop := match d with
  | .ins C' fs => C' = C ∧ (match fs.lookup f with
    | some x => Qd x
    | none => False)
  | _ => False
def dFld (C : Addr) (f : Str) (ta : TD) : TD := fun ρ Qd Ed => ta ρ (fun d => fldD C f d Qd) Ed
theorem le_fld {C : Addr} {f : Str} {T : TE} {t : TD} (hC : Cls S.K C) (hN : NoAttr S.K C f) (h : LE S E T t) : LE S E (tFld S.K T f) (dFld C f t) := by
  intro H0 ρ σ G H Qd Ed Q w st q kk ke
  refine h H0 ρ σ G H _ Ed _ w st q (fun v d G1 H1 s1 rv q1 => ?_) ke
  cases rv with
  | @ins m C' dx vs fs h1 h2 =>
    obtain ⟨e, q1⟩ := q1
    subst e
    split at q1
    · rename_i x e
      obtain ⟨u, h3, h4⟩ := h2.get e
      exact ⟨m, C', dx, vs, u, rfl, s1.wf.sub _ _ h1, hC, hN, h3, kk u x G1 H1 s1 h4 q1⟩
    · exact q1.elim
  | _ => exact q1.elim

/-! ### statements -/
structure EndsD where
  nx : Rho → Prop
  rt : DV → Prop
  bk : Rho → Prop := fun _ => False
  ct : Rho → Prop := fun _ => False
  er : Er → Prop := fun _ => False
abbrev TSD := EndsD → Rho → Prop
/-- where a def's body stands: what became of the entry's things, the slots -/
structure At (S : Sx) (G0 : Gh) (H0 : Hp) (Fb : Hp) (σ : L2.St) (ρ : Rho) (G : Gh) (H : Hp) : Prop where
  s : Step S G0 H0 G H
  r : StR G H0 H σ ρ
  f : Same Fb G.F
structure EndsR (S : Sx) (E : XK) (G0 : Gh) (H0 : Hp) (Fb : Hp) (D : Ends) (Dd : EndsD) : Prop where
  nx : ∀ σ ρ G H, At S G0 H0 Fb σ ρ G H → Dd.nx ρ → D.nx σ H
  rt : ∀ v d G H, Step S G0 H0 G H → RV G v d → Dd.rt d → D.rt v H
  bk : ∀ σ ρ G H, At S G0 H0 Fb σ ρ G H → Dd.bk ρ → D.bk σ H
  ct : ∀ σ ρ G H, At S G0 H0 Fb σ ρ G H → Dd.ct ρ → D.ct σ H
  er : ∀ e cls d G H, Step S G0 H0 G H → ErAt G H cls d e → Dd.er e → E cls d H
def LS (S : Sx) (E : XK) (T : TS) (t : TSD) : Prop := ∀ (G0 : Gh) (H0 Fb : Hp) (D : Ends) (Dd : EndsD) (σ : L2.St) (ρ : Rho) (G : Gh) (H : Hp), At S G0 H0 Fb σ ρ G H → EndsR S E G0 H0 Fb D Dd → t Dd ρ → T D σ H
theorem At.on {Fb : Hp} {σ : L2.St} {ρ : Rho} {G' : Gh} {H' : Hp} (a : At S G0 H0 Fb σ ρ G H) (s : Step S G H G' H') : At S G0 H0 Fb σ ρ G' H' := ⟨a.s.trans s, a.r.step s, a.f.trans s.fm⟩
theorem EndsR.err {Fb : Hp} {D : Ends} {Dd : EndsD} (r : EndsR S E G0 H0 Fb D Dd) (s : Step S G0 H0 G H) : ∀ e cls d G' H', Step S G H G' H' → ErAt G' H' cls d e → Dd.er e → E cls d H' := fun e cls d G' H' s' he h => r.er e cls d G' H' (s.trans s') he h
def dNext : TSD := fun D ρ => D.nx ρ
theorem ls_next : LS S E tNext dNext := fun G0 H0 Fb D Dd σ ρ G H a r q => r.nx σ ρ G H a q
def dSeq (t u : TSD) : TSD := fun D ρ => t { D with nx := u D } ρ
theorem ls_seq {T U : TS} {t u : TSD} (h : LS S E T t) (k : LS S E U u) : LS S E (tSeq T U) (dSeq t u) := fun G0 H0 Fb D Dd σ ρ G H a r q =>
  h G0 H0 Fb _ { Dd with nx := u Dd } σ ρ G H a ⟨fun σ' ρ' G' H' a' q' => k G0 H0 Fb D Dd σ' ρ' G' H' a' r q', r.rt, r.bk, r.ct, r.er⟩ q
/-- a word between: what follows is shown once -/
def dCut (t u : TSD) : TSD := fun D ρ => ∃ Mid : Rho → Prop, t { D with nx := Mid } ρ ∧ ∀ ρ', Mid ρ' → u D ρ'
theorem ls_cut {T U : TS} {t u : TSD} (h : LS S E T t) (k : LS S E U u) : LS S E (C8.tCut T U) (dCut t u) := by
  rintro G0 H0 Fb D Dd σ ρ G H a r ⟨Mid, q1, q2⟩
  refine ⟨fun σ' H' => ∃ ρ' G', At S G0 H0 Fb σ' ρ' G' H' ∧ Mid ρ', ?_, fun σ' H' ⟨ρ', G', a', q'⟩ => k G0 H0 Fb D Dd σ' ρ' G' H' a' r (q2 ρ' q')⟩
  exact h G0 H0 Fb _ { Dd with nx := Mid } σ ρ G H a ⟨fun σ' ρ' G' H' a' q' => ⟨ρ', G', a', q'⟩, r.rt, r.bk, r.ct, r.er⟩ q1
def dRet (t : TD) : TSD := fun D ρ => t ρ D.rt D.er
theorem ls_ret {T : TE} {t : TD} (h : LE S E T t) : LS S E (tRet T) (dRet t) := fun G0 H0 Fb D Dd σ ρ G H a r q =>
  h H0 ρ σ G H _ _ _ a.s.wf a.r q (fun v d G' H' s rv q => r.rt v d G' H' (a.s.trans s) rv q) (r.err a.s)
def dRetN : TSD := fun D _ => D.rt .non
theorem ls_retN : LS S E tRetN dRetN := fun G0 H0 Fb D Dd σ ρ G H a r q => r.rt _ _ G H a.s (.py .non) q
def dDrop (t : TD) : TSD := fun D ρ => t ρ (fun _ => D.nx ρ) D.er
theorem ls_drop {T : TE} {t : TD} (h : LE S E T t) : LS S E (tDrop T) (dDrop t) := fun G0 H0 Fb D Dd σ ρ G H a r q =>
  h H0 ρ σ G H _ _ _ a.s.wf a.r q (fun v d G' H' s rv q => r.nx σ ρ G' H' (a.on s) q) (r.err a.s)
def dIfS (c : TTD) (t u : TSD) : TSD := fun D ρ => c ρ (fun b => if b = true then t D ρ else u D ρ) D.er
theorem ls_if {C : TT} {T U : TS} {c : TTD} {t u : TSD} (hc : LT S E C c) (h : LS S E T t) (k : LS S E U u) : LS S E (tIfS C T U) (dIfS c t u) := fun G0 H0 Fb D Dd σ ρ G H a r q =>
  hc H0 ρ σ G H _ _ _ a.s.wf a.r q (fun b G' H' s q => by
    cases b with
    | true => exact iteT (h G0 H0 Fb D Dd σ ρ G' H' (a.on s) r q)
    | false => exact iteF (k G0 H0 Fb D Dd σ ρ G' H' (a.on s) r q)) (r.err a.s)
def dBreak : TSD := fun D ρ => D.bk ρ
def dCont : TSD := fun D ρ => D.ct ρ
theorem ls_break : LS S E L2.tBreak dBreak := fun G0 H0 Fb D Dd σ ρ G H a r q => r.bk σ ρ G H a q
theorem ls_cont : LS S E L2.tCont dCont := fun G0 H0 Fb D Dd σ ρ G H a r q => r.ct σ ρ G H a q
/-! ### stores into slots -/
theorem set_some {α : Type} {l : List (Option α)} {i j : Nat} {x y : α} (h : (l.set i (some x))[j]? = some (some y)) : (i = j ∧ x = y) ∨ (i ≠ j ∧ l[j]? = some (some y)) := by
  by_cases e : i = j
  · subst e
    rw [List.getElem?_set] at h
    split at h
    · split at h
      · cases h
        exact .inl ⟨rfl, rfl⟩
      · cases h
    · exact absurd rfl (by assumption)
  · rw [List.getElem?_set_ne e] at h
    exact .inr ⟨e, h⟩
theorem StR.set {σ : L2.St} {ρ : Rho} {i : Nat} {v : V} {d : DV} (st : StR G H0 H σ ρ) (rv : RV G v d) : StR G H0 H (σ.set i (some v)) (ρ.set i (some (.dv d))) := by
  refine ⟨by rw [List.length_set, List.length_set, st.len], fun j x e => ?_, fun j k l l' p e1 e2 e3 e4 => ?_⟩
  · rcases set_some e with ⟨rfl, rfl⟩ | ⟨ne, e⟩
    · have lt : i < σ.length := by
        have := (List.getElem?_eq_some_iff.mp e).1
        rw [List.length_set, st.len] at this
        exact this
      exact ⟨v, by rw [List.getElem?_set_self lt], rv⟩
    · obtain ⟨u, h1, h2⟩ := st.at_ j x e
      exact ⟨u, by rw [List.getElem?_set_ne ne]; exact h1, h2⟩
  · rcases set_some e1 with ⟨_, z⟩ | ⟨n1, e1⟩
    · cases z
    rcases set_some e2 with ⟨_, z⟩ | ⟨n2, e2⟩
    · cases z
    rw [List.getElem?_set_ne n1] at e3
    rw [List.getElem?_set_ne n2] at e4
    exact st.sep j k l l' p e1 e2 e3 e4
theorem StR.setO {σ : L2.St} {ρ : Rho} {i : Nat} {p : Addr} {vs : List V} {l : List PyData} {G' : Gh} {H' : Hp} (st : StR G H0 H σ ρ) (s : Step S G H G' H') (n : Fr H p) (n0 : Fr H0 p) (hp : H' p = some (.lst vs)) (nf : G'.F p = none) (nb : ¬ G'.B p) (r : RpA G'.F vs l) : StR G' H0 H' (σ.set i (some (.ref p))) (ρ.set i (some (.own l))) := by
  have st' := st.step s
  have no : ∀ (j : Nat) (l' : List PyData), ρ[j]? = some (some (.own l')) → σ[j]? ≠ some (some (.ref p)) := fun j l' e z => by
    obtain ⟨v, h1, q, vs', h2, h3, _⟩ := st.at_ j _ e
    rw [z] at h1
    cases h1
    cases h2
    obtain ⟨z, e⟩ := n _ h3
    cases e
  refine ⟨by rw [List.length_set, List.length_set, st.len], fun j x e => ?_, fun j k l l' q e1 e2 e3 e4 => ?_⟩
  · rcases set_some e with ⟨rfl, rfl⟩ | ⟨ne, e⟩
    · have lt : i < σ.length := by
        have := (List.getElem?_eq_some_iff.mp e).1
        rw [List.length_set, st.len] at this
        exact this
      exact ⟨.ref p, by rw [List.getElem?_set_self lt], p, vs, rfl, hp, nf, nb, n0, r⟩
    · obtain ⟨u, h1, h2⟩ := st'.at_ j x e
      exact ⟨u, by rw [List.getElem?_set_ne ne]; exact h1, h2⟩
  · rcases set_some e1 with ⟨z1, z⟩ | ⟨n1, e1⟩
    · rcases set_some e2 with ⟨z2, _⟩ | ⟨n2, e2⟩
      · omega
      · rcases set_some e3 with ⟨_, w⟩ | ⟨w, _⟩
        · cases w
          rw [List.getElem?_set_ne n2] at e4
          exact absurd e4 (no k l' e2)
        · exact absurd z1 w
    · rcases set_some e2 with ⟨z2, _⟩ | ⟨n2, e2⟩
      · rcases set_some e4 with ⟨_, w⟩ | ⟨w, _⟩
        · cases w
          rw [List.getElem?_set_ne n1] at e3
          exact absurd e3 (no j l e1)
        · exact absurd z2 w
      · rw [List.getElem?_set_ne n1] at e3
        rw [List.getElem?_set_ne n2] at e4
        exact st.sep j k l l' q e1 e2 e3 e4
def dSet (i : Nat) (t : TD) : TSD := fun D ρ => t ρ (fun d => D.nx (ρ.set i (some (.dv d)))) D.er
theorem ls_set {i : Nat} {T : TE} {t : TD} (h : LE S E T t) : LS S E (tAsg T (gName i)) (dSet i t) := fun G0 H0 Fb D Dd σ ρ G H a r q =>
  h H0 ρ σ G H _ _ _ a.s.wf a.r q (fun v d G' H' s rv q => r.nx _ _ G' H' ⟨a.s.trans s, (a.r.step s).set rv, a.f.trans s.fm⟩ q) (r.err a.s)
/-- .. a new list that the def may write to -/
def dSetO (i : Nat) (t : TOD) : TSD := fun D ρ => t ρ (fun l => D.nx (ρ.set i (some (.own l)))) D.er
theorem ls_setO {i : Nat} {T : TE} {t : TOD} (h : LO S E T t) : LS S E (tAsg T (gName i)) (dSetO i t) := fun G0 H0 Fb D Dd σ ρ G H a r q =>
  h H0 ρ σ G H _ _ _ a.s.wf a.r q (fun p vs l G' H' s n hp nf nb rr q => r.nx _ _ G' H' ⟨a.s.trans s, a.r.setO s n (a.s.was_free n) hp nf nb rr, a.f.trans s.fm⟩ q) (r.err a.s)
/-- several names from a tuple -/
def setAll : Rho → List Nat → List PyData → Option Rho
  | ρ, [], [] => some ρ
  | ρ, i :: is, d :: ds => setAll (ρ.set i (some (.dv (.py d)))) is ds
  | _, _, _ => none
def setAllV : L2.St → List Nat → List V → L2.St
  | σ, [], _ => σ
  | σ, _, [] => σ
  | σ, i :: is, v :: vs => setAllV (σ.set i (some v)) is vs
def gNames : List Nat → TGs
  | [] => gNil
  | i :: is => gCons (gName i) (gNames is)
theorem setAll_st : ∀ {is : List Nat} {σ : L2.St} {ρ ρ' : Rho} {vs : List V} {ds : List PyData}, StR G H0 H σ ρ → RpA G.F vs ds → setAll ρ is ds = some ρ' → StR G H0 H (setAllV σ is vs) ρ' ∧ vs.length = is.length
  | [], σ, ρ, ρ', vs, [], st, r, e => by
    cases e
    cases r
    exact ⟨st, rfl⟩
  | i :: is, σ, ρ, ρ', _, d :: ds, st, .cons h t, e => by
    obtain ⟨h1, h2⟩ := setAll_st (is := is) (StR.set (i := i) st (.py h)) t e
    exact ⟨h1, by rw [List.length_cons, List.length_cons, h2]⟩
  | [], _, _, _, _, _ :: _, _, _, e => by cases e
  | _ :: _, _, _, _, _, [], _, _, e => by cases e
theorem gNames_at : ∀ {is : List Nat} {vs : List V} {σ : L2.St} {H : Hp} {Q : L2.St → Hp → Prop}, vs.length = is.length → Q (setAllV σ is vs) H → gNames is vs σ H Q
  | [], [], _, _, _, _, q => ⟨rfl, q⟩
  | i :: is, v :: vs, σ, H, Q, e, q => ⟨v, vs, rfl, gNames_at (is := is) (by simpa using e) q⟩
  | [], _ :: _, _, _, _, e, _ => by cases e
  | _ :: _, [], _, _, _, e, _ => by cases e
def dSetT (is : List Nat) (t : TD) : TSD := fun D ρ => t ρ (fun d => match d with
  | .py (.tuple ds) => (match setAll ρ is ds with
    | some ρ' => D.nx ρ'
    | none => False)
  | _ => False) D.er
theorem ls_setT {is : List Nat} {n : Nat} {T : TE} {t : TD} (h : LE S E T t) (hn : is.length = n) : LS S E (tAsg T (gTup S.K n (gNames is))) (dSetT is t) := fun G0 H0 Fb D Dd σ ρ G H a r q =>
  h H0 ρ σ G H _ _ _ a.s.wf a.r q (fun v d G' H' s rv q => by
    split at q
    · rename_i ds
      split at q
      · rename_i ρ' e
        obtain ⟨p, xs, rfl, h1, h2⟩ := rv_tup rv
        obtain ⟨h3, h4⟩ := setAll_st (a.r.step s) h2 e
        exact ⟨p, xs, rfl, .inl (.inl (s.wf.sub _ _ h1)), by rw [h4, hn], gNames_at h4 (r.nx _ _ G' H' ⟨a.s.trans s, h3, a.f.trans s.fm⟩ q)⟩
      · exact q.elim
    · exact q.elim) (r.err a.s)
def dPar (i j : Nat) (ta : TAD) : TSD := fun D ρ => ta ρ (fun ds => match ds with
  | [x, y] => D.nx ((ρ.set i (some (.dv x))).set j (some (.dv y)))
  | _ => False) D.er
theorem ls_par {i j : Nat} {T : TA} {t : TAD} {n : Nat} (h : LA n S E T t) : LS S E (tPar i j T) (dPar i j t) := fun G0 H0 Fb D Dd σ ρ G H a r q =>
  h H0 ρ σ G H _ _ _ a.s.wf a.r q (fun vs ds G' H' s hl rv q => by
    split at q
    · cases rv with
      | cons h1 t1 =>
        cases t1 with
        | cons h2 t2 =>
          cases t2
          exact ⟨_, _, rfl, r.nx _ _ G' H' ⟨a.s.trans s, ((a.r.step s).set h1).set h2, a.f.trans s.fm⟩ q⟩
    · exact q.elim) (r.err a.s)
end
end Dl

set_option Elab.async false
set_option linter.all false
set_option maxRecDepth 100000
set_option maxHeartbeats 4000000
/-! the data layer: what is walked; for; comprehensions; while -/
namespace Dl
open PySem PySem.Spec PyProof.Rows L2 Lx
section
variable {S : Sx} {E : XK} {G G0 : Gh} {H H0 : Hp}
/-! ### what is walked -/
/-- wi walks data: the items, by turns -/
def LI (S : Sx) (E : XK) (wi : TI) (t : TOD) : Prop := ∀ (H0 : Hp) (ρ : Rho) (σ : L2.St) (G : Gh) (H : Hp) (Qd : List PyData → Prop) (Ed : Er → Prop) (R : It → Hp → Prop), Wf S G H → StR G H0 H σ ρ → t ρ Qd Ed →
  (∀ (l : List PyData) (J : It) (Gd : Hp → Prop) (Y : Nat → Hp → V → Hp → Prop) (G' : Gh) (H' : Hp), Step S G H G' H' → Qd l → Walk J l.length Gd Y → (∀ H2, Same G'.F H2 → Gd H2) →
    (∀ i G2 H2 x H3, Wf S G2 H2 → Same G'.F G2.F → Y i H2 x H3 → ∃ G3 d, Step S G2 H2 G3 H3 ∧ l[i]? = some d ∧ RV G3 x (.py d)) → R J H') →
  (∀ e cls d G' H', Step S G H G' H' → ErAt G' H' cls d e → Ed e → E cls d H') → wi σ H R
/-- the items of a list or a tuple -/
def itSeq (t : TD) : TOD := fun ρ Qd Ed => t ρ (fun d => match d with
  | .py (.list l) => Qd l
  | .py (.tuple l) => Qd l
  | _ => False) Ed
theorem li_seq {T : TE} {t : TD} (h : LE S E T t) : LI S E (iSeq S.K T) (itSeq t) := by
  intro H0 ρ σ G H Qd Ed R w st q k ke
  refine h H0 ρ σ G H _ Ed _ w st q (fun v d G1 H1 s1 rv q1 => ?_) ke
  split at q1
  · obtain ⟨p, xs, rfl, h1, h2⟩ := rv_lst rv
    have hl := rp_len h2
    refine ⟨p, rfl, .inl ⟨xs, .inl (.inl (s1.wf.sub _ _ h1)), ?_⟩⟩
    refine k _ (Itl S.K p) (fun H => SqL S.K H p xs) (YAt xs) G1 H1 s1 q1 (by rw [← hl]; exact walk_list) (fun H2 e => .inl (.inl (e _ _ h1))) ?_
    rintro i G2 H2 x H3 w2 e2 ⟨rfl, ex⟩
    obtain ⟨d, h3, h4⟩ := rpa_get' h2 ex
    exact ⟨G2, d, Step.refl w2, h3, .py (Rp.mono e2 _ _ h4)⟩
  · obtain ⟨p, xs, rfl, h1, h2⟩ := rv_tup rv
    have hl := rp_len h2
    refine ⟨p, rfl, .inr ⟨xs, .inl (.inl (s1.wf.sub _ _ h1)), ?_⟩⟩
    refine k _ (Itt S.K p) (fun H => SqT S.K H p xs) (YAt xs) G1 H1 s1 q1 (by rw [← hl]; exact walk_tup) (fun H2 e => .inl (.inl (e _ _ h1))) ?_
    rintro i G2 H2 x H3 w2 e2 ⟨rfl, ex⟩
    obtain ⟨d, h3, h4⟩ := rpa_get' h2 ex
    exact ⟨G2, d, Step.refl w2, h3, .py (Rp.mono e2 _ _ h4)⟩
  · exact q1.elim
def rangeD (lo : Int) (n : Nat) : List PyData := (List.range n).map fun i => .int (lo + (i : Nat))
theorem rangeD_len {lo : Int} {n : Nat} : (rangeD lo n).length = n := by
  unfold rangeD
  rw [List.length_map, List.length_range]
theorem rangeD_get {lo : Int} {n i : Nat} (h : i < n) : (rangeD lo n)[i]? = some (.int (lo + i)) := by
  unfold rangeD
  rw [List.getElem?_map, List.getElem?_range h]
  rfl
/-- small enough for a range -/
def rgOk (i : Int) : Prop := -(2 ^ 62) ≤ i ∧ i < 2 ^ 62
def itRange1 (ta : TAD) : TOD := fun ρ Qd Ed => ta ρ (fun ds => match ds with
  | [.py (.int j)] => rgOk j ∧ Qd (rangeD 0 j.toNat)
  | _ => False) Ed
def itRange2 (ta : TAD) : TOD := fun ρ Qd Ed => ta ρ (fun ds => match ds with
  | [.py (.int i), .py (.int j)] => rgOk i ∧ rgOk j ∧ Qd (rangeD i (j - i).toNat)
  | _ => False) Ed
theorem range_fin {G1 : Gh} {H1 : Hp} {lo : Int} {n : Nat} {R : It → Hp → Prop} (k : ∀ (l : List PyData) (J : It) (Gd : Hp → Prop) (Y : Nat → Hp → V → Hp → Prop), l = rangeD lo n → Walk J l.length Gd Y → (∀ H2, Same G1.F H2 → Gd H2) →
    (∀ i G2 H2 x H3, Wf S G2 H2 → Same G1.F G2.F → Y i H2 x H3 → ∃ G3 d, Step S G2 H2 G3 H3 ∧ l[i]? = some d ∧ RV G3 x (.py d)) → R J H1) : R (Itr lo n) H1 := by
  refine k (rangeD lo n) (Itr lo n) (fun _ => True) (fun i H x H' => H' = H ∧ x = .int (lo + i) ∧ i < n) rfl ?_ (fun _ _ => trivial) ?_
  · rw [rangeD_len]
    exact ⟨fun _ _ hi _ => hi, fun _ _ => Nat.le_refl _, fun i H x H' hi _ y => ⟨y.1, y.2, hi⟩⟩
  · rintro i G2 H2 x H3 w2 e2 ⟨rfl, rfl, hi⟩
    exact ⟨G2, _, Step.refl w2, rangeD_get hi, .py (.int _)⟩
theorem li_range1 {n : Nat} {T : TA} {t : TAD} (h : LA n S E T t) : LI S E (iRng1 T) (itRange1 t) := by
  intro H0 ρ σ G H Qd Ed R w st q k ke
  refine h H0 ρ σ G H _ Ed _ w st q (fun vs ds G1 H1 s1 hl rv q1 => ?_) ke
  split at q1
  · cases rv with
    | cons h1 t1 =>
      cases t1
      cases rv_int h1
      exact ⟨_, rfl, q1.1.1, q1.1.2, range_fin (G1 := G1) fun l J Gd Y e h1 h2 h3 => k l J Gd Y G1 H1 s1 (by rw [e]; exact q1.2) h1 h2 h3⟩
  · exact q1.elim
theorem li_range2 {n : Nat} {T : TA} {t : TAD} (h : LA n S E T t) : LI S E (iRng2 T) (itRange2 t) := by
  intro H0 ρ σ G H Qd Ed R w st q k ke
  refine h H0 ρ σ G H _ Ed _ w st q (fun vs ds G1 H1 s1 hl rv q1 => ?_) ke
  split at q1
  · cases rv with
    | cons h1 t1 =>
      cases t1 with
      | cons h2 t2 =>
        cases t2
        cases rv_int h1
        cases rv_int h2
        exact ⟨_, _, rfl, ⟨q1.1.1, q1.1.2, q1.2.1.1, q1.2.1.2⟩, range_fin (G1 := G1) fun l J Gd Y e h1 h2 h3 => k l J Gd Y G1 H1 s1 (by rw [e]; exact q1.2.2) h1 h2 h3⟩
  · exact q1.elim
/-- enumerate of a list or a tuple -/
def enumD (l : List PyData) : List PyData := (List.range l.length).map fun i => .tuple [.int (i : Nat), l.getD i .none]
theorem enumD_len {l : List PyData} : (enumD l).length = l.length := by
  unfold enumD
  rw [List.length_map, List.length_range]
theorem enumD_get {l : List PyData} {i : Nat} {d : PyData} (h : l[i]? = some d) : (enumD l)[i]? = some (.tuple [.int (i : Nat), d]) := by
  have lt := (List.getElem?_eq_some_iff.mp h).1
  unfold enumD
  rw [List.getElem?_map, List.getElem?_range lt]
  show some (PyData.tuple [PyData.int (i : Nat), l.getD i .none]) = _
  rw [List.getD_eq_getElem?_getD, h]
  rfl
def itEnum (ta : TAD) : TOD := fun ρ Qd Ed => ta ρ (fun ds => match ds with
  | [.py (.list l)] => Qd (enumD l)
  | [.py (.tuple l)] => Qd (enumD l)
  | _ => False) Ed
theorem enum_yld {G1 : Gh} {xs : List V} {l : List PyData} (h2 : RpA G1.F xs l) : ∀ (i : Nat) (G2 : Gh) (H2 : Hp) (x : V) (H3 : Hp), Wf S G2 H2 → Same G1.F G2.F → YPair (fun i => some (.int (i : Nat))) (fun i => xs[i]?) i H2 x H3 →
    ∃ G3 d, Step S G2 H2 G3 H3 ∧ (enumD l)[i]? = some d ∧ RV G3 x (.py d) := by
  rintro i G2 H2 x H3 w2 e2 ⟨T, y, z, rfl, nT, rfl, e1, e3⟩
  cases e1
  obtain ⟨d, h3, h4⟩ := rpa_get' h2 e3
  refine ⟨_, _, Step.newF w2 nT (fun z e => by cases e), enumD_get h3, .py (.tup put_same (.cons (.int _) (.cons ?_ .nil)))⟩
  exact Rp.mono (e2.trans (same_upd (.inl (w2.free nT)))) _ _ h4
theorem li_enum {n : Nat} {T : TA} {t : TAD} (h : LA n S E T t) : LI S E (iEnumS S.K T) (itEnum t) := by
  intro H0 ρ σ G H Qd Ed R w st q k ke
  refine h H0 ρ σ G H _ Ed _ w st q (fun vs ds G1 H1 s1 hl rv q1 => ?_) ke
  split at q1
  · cases rv with
    | cons h1 t1 =>
      cases t1
      obtain ⟨p, xs, rfl, h1, h2⟩ := rv_lst h1
      have hl := rp_len h2
      refine ⟨p, xs, rfl, .inl ⟨.inl (.inl (s1.wf.sub _ _ h1)), ?_⟩⟩
      exact k _ (Ite S.K p) (fun H => SqL S.K H p xs) _ G1 H1 s1 q1 (by rw [enumD_len, ← hl]; exact walk_enum) (fun H2 e => .inl (.inl (e _ _ h1))) (enum_yld h2)
  · cases rv with
    | cons h1 t1 =>
      cases t1
      obtain ⟨p, xs, rfl, h1, h2⟩ := rv_tup h1
      have hl := rp_len h2
      refine ⟨p, xs, rfl, .inr ⟨.inl (.inl (s1.wf.sub _ _ h1)), ?_⟩⟩
      exact k _ (ItEt S.K p) (fun H => SqT S.K H p xs) _ G1 H1 s1 q1 (by rw [enumD_len, ← hl]; exact walk_enumT) (fun H2 e => .inl (.inl (e _ _ h1))) (enum_yld h2)
  · exact q1.elim

/-! ### targets -/
/-- a target: one name, or names of a tuple -/
inductive Tg where
  | one (i : Nat) | many (is : List Nat)
def Tg.rd (K : PySem.W.Frag) : Tg → TG
  | .one i => gName i
  | .many is => gTup K is.length (gNames is)
def Tg.put (ρ : Rho) (d : PyData) : Tg → Option Rho
  | .one i => some (ρ.set i (some (.dv (.py d))))
  | .many is => match d with
    | .tuple ds => setAll ρ is ds
    | _ => none
def Tg.ix : Tg → List Nat
  | .one i => [i]
  | .many is => is
theorem tg_put {g : Tg} {σ : L2.St} {ρ ρ' : Rho} {v : V} {d : PyData} {H1 : Hp} {Q : L2.St → Hp → Prop} (w : Wf S G H1) (st : StR G H0 H1 σ ρ) (rv : RV G v (.py d)) (e : g.put ρ d = some ρ')
    (q : ∀ σ', StR G H0 H1 σ' ρ' → (∃ xs, σ' = setAllV σ g.ix xs) → Q σ' H1) : g.rd S.K v σ H1 Q := by
  cases g with
  | one i =>
    cases e
    exact q _ (st.set rv) ⟨[v], rfl⟩
  | many is =>
    cases d with
    | tuple ds =>
      have e : setAll ρ is ds = some ρ' := e
      obtain ⟨p, xs, rfl, h1, h2⟩ := rv_tup rv
      obtain ⟨h3, h4⟩ := setAll_st st h2 e
      exact ⟨p, xs, rfl, .inl (.inl (w.sub _ _ h1)), h4, gNames_at h4 (q _ h3 ⟨xs, rfl⟩)⟩
    | _ => cases e
/-! ### for -/
def dLoop (g : Tg) (body : TSD) (D : EndsD) : List PyData → Rho → Prop
  | [], ρ => D.nx ρ
  | d :: ds, ρ => match g.put ρ d with
    | some ρ' => body { D with nx := dLoop g body D ds, ct := dLoop g body D ds, bk := D.nx } ρ'
    | none => False
def dFor (ti : TOD) (g : Tg) (body : TSD) : TSD := fun D ρ => ti ρ (fun l => dLoop g body D l ρ) D.er
theorem drop_cons {α : Type} {l : List α} {i : Nat} {d : α} (h : l[i]? = some d) : l.drop i = d :: l.drop (i + 1) := by
  obtain ⟨h1, h2⟩ := List.getElem?_eq_some_iff.mp h
  rw [← h2]
  exact List.drop_eq_getElem_cons h1
theorem ls_for {wi : TI} {ti : TOD} {g : Tg} {T : TS} {t : TSD} (h : LI S E wi ti) (hb : LS S E T t) : LS S E (tFor wi (g.rd S.K) T) (dFor ti g t) := fun G0 H0 Fb D Dd σ ρ G H a r q =>
  h H0 ρ σ G H _ _ _ a.s.wf a.r q (fun l J Gd Y G1 H1 s1 q1 w st yl => by
    have fb := a.f.trans s1.fm
    refine for_it w (fun i σ H' => ∃ ρ' G', At S G0 H0 G1.F σ ρ' G' H' ∧ dLoop g t Dd (l.drop i) ρ') ⟨ρ, G1, ⟨a.s.trans s1, a.r.step s1, Same.refl _⟩, q1⟩ (fun i σ H' _ ⟨ρ', G', a', _⟩ => st H' (a'.f.trans a'.s.wf.sub)) ?_ ?_
    · rintro i x σ2 H2 H3 hi ⟨ρ', G', a', q'⟩ hy
      obtain ⟨G3, d, s3, hd, rv⟩ := yl i G' H2 x H3 a'.s.wf a'.f hy
      rw [drop_cons hd] at q'
      unfold dLoop at q'
      split at q'
      · rename_i ρ2 e2
        refine tg_put s3.wf (a'.r.step s3) rv e2 fun σ' st' _ => ?_
        refine hb G0 H0 G1.F _ { Dd with nx := dLoop g t Dd (l.drop (i + 1)), ct := dLoop g t Dd (l.drop (i + 1)), bk := Dd.nx } σ' ρ2 G3 H3 ⟨a'.s.trans s3, st', a'.f.trans s3.fm⟩ ?_ q'
        exact ⟨fun σ4 ρ4 G4 H4 a4 q4 => ⟨ρ4, G4, a4, q4⟩, r.rt, fun σ4 ρ4 G4 H4 a4 q4 => r.nx _ _ _ _ ⟨a4.s, a4.r, fb.trans a4.f⟩ q4, fun σ4 ρ4 G4 H4 a4 q4 => ⟨ρ4, G4, a4, q4⟩, r.er⟩
      · exact q'.elim
    · rintro σ2 H2 ⟨ρ', G', a', q'⟩
      rw [List.drop_of_length_le (Nat.le_refl _)] at q'
      exact r.nx _ _ _ _ ⟨a'.s, a'.r, fb.trans a'.f⟩ q') (r.err a.s)
/-! ### while: an invariant, a measure that falls -/
def dWhile (c : TTD) (body : TSD) : TSD := fun D ρ => ∃ W : Nat → Rho → Prop, (∃ m, W m ρ) ∧ ∀ m ρ, W m ρ → c ρ (fun b => if b = true then body { D with nx := fun ρ' => ∃ m', m' < m ∧ W m' ρ', ct := fun ρ' => ∃ m', m' < m ∧ W m' ρ', bk := D.nx } ρ else D.nx ρ) D.er
end
end Dl

set_option Elab.async false
set_option linter.all false
set_option maxRecDepth 100000
set_option maxHeartbeats 4000000
/-! the data layer: while; comprehensions; lists of the def's own -/
namespace Dl
open PySem PySem.Spec PyProof.Rows L2 Lx
section
variable {S : Sx} {E : XK} {G G0 : Gh} {H H0 : Hp}
theorem ls_while {C : TT} {T : TS} {c : TTD} {t : TSD} (hc : LT S E C c) (hb : LS S E T t) : LS S E (tWhile C T) (dWhile c t) := by
  rintro G0 H0 Fb D Dd σ ρ G H a r ⟨W, ⟨m0, w0⟩, turn⟩
  refine ⟨fun m σ H => ∃ ρ G, At S G0 H0 Fb σ ρ G H ∧ W m ρ, ⟨m0, ρ, G, a, w0⟩, ?_⟩
  rintro m σ1 H1 ⟨ρ1, G1, a1, w1⟩
  refine hc H0 ρ1 σ1 G1 H1 _ _ _ a1.s.wf a1.r (turn m ρ1 w1) (fun b G2 H2 s2 q2 => ?_) (r.err a1.s)
  cases b with
  | true =>
    refine iteT ⟨fun σ H => ∃ ρ' G' m', At S G0 H0 Fb σ ρ' G' H ∧ m' < m ∧ W m' ρ', fun σ' H' ⟨ρ', G', m', a', h1, h2⟩ => ⟨m', h1, ρ', G', a', h2⟩, ?_⟩
    refine hb G0 H0 Fb _ { Dd with nx := fun ρ' => ∃ m', m' < m ∧ W m' ρ', ct := fun ρ' => ∃ m', m' < m ∧ W m' ρ', bk := Dd.nx } σ1 ρ1 G2 H2 (a1.on s2) ?_ q2
    exact ⟨fun σ4 ρ4 G4 H4 a4 ⟨m', h1, h2⟩ => ⟨ρ4, G4, m', a4, h1, h2⟩, r.rt, r.nx, fun σ4 ρ4 G4 H4 a4 ⟨m', h1, h2⟩ => ⟨ρ4, G4, m', a4, h1, h2⟩, r.er⟩
  | false => exact iteF (r.nx _ _ _ _ (a1.on s2) q2)

/-! ### a list of the def's own is written -/
theorem Wf.write {p : Addr} {vs ws : List V} (w : Wf S G H) (h : H p = some (.lst vs)) (nf : G.F p = none) (nb : ¬ G.B p) : Wf S G (upd H p (.lst ws)) := by
  refine ⟨fun a x e => ?_, fun b hb => ?_, w.tbl, tabs_but h (fun a o z n => by rw [upd_ne n]; exact z) w.tabs⟩
  · have z : a ≠ p := by
      rintro rfl
      rw [nf] at e
      cases e
    rw [upd_ne z]
    exact w.sub _ _ e
  · obtain ⟨⟨c0, cs, h1, h2, h3⟩, h4⟩ := w.box b hb
    have z : b ≠ p := by
      rintro rfl
      exact nb hb
    exact ⟨⟨c0, cs, by rw [upd_ne z]; exact h1, h2, h3⟩, h4⟩
theorem Step.write {p : Addr} {vs ws : List V} (a : Step S G0 H0 G H) (h : H p = some (.lst vs)) (nf : G.F p = none) (nb : ¬ G.B p) (n0 : Fr H0 p) : Step S G0 H0 G (upd H p (.lst ws)) where
  w0 := a.w0
  wf := a.wf.write h nf nb
  fm := a.fm
  bm := a.bm
  keep := fun x o hx n t => by
    rw [upd_ne (n0.ne hx t)]
    exact a.keep x o hx n t
  nf := a.nf
  nb := a.nb
  there := fun x o hx t => by
    rw [upd_ne (n0.ne hx t)]
    exact a.there x o hx t

/-! ### comprehensions -/
def wipeL {α : Type} (l : List (Option α)) : List Nat → List (Option α)
  | [] => l
  | v :: vs => (wipeL l vs).set v none
theorem wipe_eq (σ : L2.St) : ∀ vs, wipe σ vs = wipeL σ vs
  | [] => rfl
  | v :: vs => by
    show (wipe σ vs).set v none = (wipeL σ vs).set v none
    rw [wipe_eq σ vs]
theorem wipeL_get {α : Type} (l : List (Option α)) (j : Nat) : ∀ vs : List Nat, (wipeL l vs)[j]? = if j ∈ vs then (l[j]?).map (fun _ => none) else l[j]?
  | [] => by simp [wipeL]
  | v :: vs => by
    show ((wipeL l vs).set v none)[j]? = _
    rw [List.getElem?_set, wipeL_get l j vs]
    have len : (wipeL l vs).length = l.length := by
      clear j
      induction vs with
      | nil => rfl
      | cons v vs ih =>
        show ((wipeL l vs).set v none).length = _
        rw [List.length_set, ih]
    by_cases e : v = j
    · subst e
      rw [len]
      simp only [if_true, List.mem_cons, true_or]
      by_cases h : v < l.length
      · rw [if_pos h, List.getElem?_eq_getElem h]
        rfl
      · rw [if_neg h, List.getElem?_eq_none (by omega)]
        rfl
    · rw [if_neg e]
      by_cases h : j ∈ vs
      · rw [if_pos h, if_pos (List.mem_cons_of_mem _ h)]
      · rw [if_neg h, if_neg]
        intro z
        rcases List.mem_cons.mp z with z | z
        · exact e z.symm
        · exact h z
theorem setAllV_get {j : Nat} : ∀ {is : List Nat} {σ : L2.St} {xs : List V}, j ∉ is → (setAllV σ is xs)[j]? = σ[j]?
  | [], _, _, _ => by simp [setAllV]
  | i :: is, σ, [], _ => by simp [setAllV]
  | i :: is, σ, x :: xs, h => by
    show (setAllV (σ.set i (some x)) is xs)[j]? = _
    rw [setAllV_get (is := is) (fun z => h (List.mem_cons_of_mem _ z)), List.getElem?_set_ne (fun z => h (by rw [z]; exact List.mem_cons_self))]
theorem setAllV_len : ∀ {is : List Nat} {σ : L2.St} {xs : List V}, (setAllV σ is xs).length = σ.length
  | [], _, _ => by simp [setAllV]
  | i :: is, σ, [] => by simp [setAllV]
  | i :: is, σ, x :: xs => by
    show (setAllV (σ.set i (some x)) is xs).length = _
    rw [setAllV_len (is := is), List.length_set]
theorem wipe_setAll {σ : L2.St} {is : List Nat} {xs : List V} : wipe (setAllV (wipe σ is) is xs) is = wipe σ is := by
  rw [wipe_eq, wipe_eq]
  apply List.ext_getElem?
  intro j
  rw [wipeL_get, wipeL_get]
  by_cases h : j ∈ is
  · rw [if_pos h, if_pos h]
    have len : (setAllV (wipeL σ is) is xs).length = σ.length := by
      rw [setAllV_len]
      clear h
      induction is with
      | nil => rfl
      | cons v vs ih =>
        show ((wipeL σ vs).set v none).length = _
        rw [List.length_set]
        have : ∀ vs : List Nat, (wipeL σ vs).length = σ.length := by
          intro vs
          induction vs with
          | nil => rfl
          | cons v vs ih =>
            show ((wipeL σ vs).set v none).length = _
            rw [List.length_set, ih]
        exact this vs
    by_cases lt : j < σ.length
    · rw [List.getElem?_eq_getElem lt, List.getElem?_eq_getElem (by rw [len]; exact lt)]
      rfl
    · have l2 : σ.length ≤ j := by omega
      have z1 : (setAllV (wipeL σ is) is xs)[j]? = none := List.getElem?_eq_none (by omega)
      have z2 : σ[j]? = none := List.getElem?_eq_none l2
      rw [z1, z2]
  · rw [if_neg h, if_neg h, setAllV_get h, wipeL_get, if_neg h]
theorem StR.wipe {σ : L2.St} {ρ : Rho} (st : StR G H0 H σ ρ) (vs : List Nat) : StR G H0 H (wipe σ vs) (wipeL ρ vs) := by
  have none_of : ∀ {j : Nat} {x : SV}, (wipeL ρ vs)[j]? = some (some x) → j ∉ vs ∧ ρ[j]? = some (some x) := fun {j x} e => by
    rw [wipeL_get] at e
    by_cases h : j ∈ vs
    · rw [if_pos h] at e
      cases q : ρ[j]? with
      | none => rw [q] at e; cases e
      | some y => rw [q] at e; cases e
    · rw [if_neg h] at e
      exact ⟨h, e⟩
  have len : ∀ {α : Type} (l : List (Option α)) (vs : List Nat), (wipeL l vs).length = l.length := fun l vs => by
    induction vs with
    | nil => rfl
    | cons v vs ih =>
      show ((wipeL l vs).set v none).length = _
      rw [List.length_set, ih]
  refine ⟨by rw [wipe_eq, len, len, st.len], fun j x e => ?_, fun i j l l' p e1 e2 e3 e4 => ?_⟩
  · obtain ⟨h, e⟩ := none_of e
    obtain ⟨v, h1, h2⟩ := st.at_ j x e
    exact ⟨v, by rw [wipe_eq, wipeL_get, if_neg h]; exact h1, h2⟩
  · obtain ⟨h1, e1⟩ := none_of e1
    obtain ⟨h2, e2⟩ := none_of e2
    rw [wipe_eq, wipeL_get, if_neg h1] at e3
    rw [wipe_eq, wipeL_get, if_neg h2] at e4
    exact st.sep i j l l' p e1 e2 e3 e4
def dYes : TTD := fun _ Qb _ => Qb true
theorem lt_yes : LT S E tYes dYes := fun H0 ρ σ G H Qd Ed Q w st q k ke => k true G H (Step.refl w) q
/-- the turns of a comprehension -/
def dTurns (g : Tg) (tt : TTD) (te : TD) (Ed : Er → Prop) (Qd : List PyData → Prop) (ρ : Rho) : List PyData → List PyData → Prop
  | [], acc => Qd acc
  | d :: ds, acc => match g.put ρ d with
    | some ρ' => tt ρ' (fun b => if b = true then te ρ' (fun y => match y with
        | .py y => acc.length < 1000000 ∧ dTurns g tt te Ed Qd ρ ds (acc ++ [y])
        | _ => False) Ed
      else dTurns g tt te Ed Qd ρ ds acc) Ed
    | none => False
def oLc (ti : TOD) (g : Tg) (tt : TTD) (te : TD) : TOD := fun ρ Qd Ed => ti ρ (fun l => dTurns g tt te Ed Qd (wipeL ρ g.ix) l []) Ed
theorem lo_lc {wi : TI} {ti : TOD} {g : Tg} {Tt : TT} {Te : TE} {tt : TTD} {te : TD} (h : LI S E wi ti) (ht : LT S E Tt tt) (he : LE S E Te te) : LO S E (tLc wi (g.rd S.K) Tt Te g.ix) (oLc ti g tt te) := by
  intro H0 ρ σ G H Qd Ed Q w st q k ke
  refine h H0 ρ σ G H _ Ed _ w st q (fun l J Gd Y G1 H1 s1 q1 wk sd yl => ?_) ke
  intro D nD
  have n0 := s1.was_free (.of nD)
  refine lc_it wk (fun i H' => ∃ G' vs acc, Step S G1 H1 G' H' ∧ H' D = some (.lst vs) ∧ G'.F D = none ∧ ¬ G'.B D ∧ RpA G'.F vs acc ∧ dTurns g tt te Ed Qd (wipeL ρ g.ix) (l.drop i) acc)
    ⟨G1, [], [], Step.new s1.wf nD, upd_same, s1.wf.free nD, s1.wf.box_ne nD, .nil, q1⟩ (fun i H' _ ⟨G', vs, acc, a1, _⟩ => sd H' (a1.fm.trans a1.wf.sub)) ?_ ?_
  · rintro i x H2 H3 hi ⟨G', vs, acc, a1, hD, fD, bD, rD, q'⟩ hy
    obtain ⟨G3, d, s3, hd, rv⟩ := yl i G' H2 x H3 a1.wf a1.fm hy
    rw [drop_cons hd] at q'
    unfold dTurns at q'
    split at q'
    · rename_i ρ2 e2
      have a3 := a1.trans s3
      have stw : StR G3 H0 H3 (wipe σ g.ix) (wipeL ρ g.ix) := (((st.step s1).step a1).step s3).wipe g.ix
      refine tg_put s3.wf stw rv e2 fun σ' st' ⟨xs, ex⟩ => ?_
      subst ex
      refine ⟨wipe_setAll, ?_⟩
      refine ht H0 ρ2 _ G3 H3 _ Ed _ a3.wf st' q' (fun b G4 H4 s4 q4 => ?_) (fun e cls d G' H' s he h => ke e cls d G' H' (s1.trans (a3.trans s)) he h)
      have a4 := a3.trans s4
      cases b with
      | true =>
        refine iteT ?_
        refine he H0 ρ2 _ G4 H4 _ Ed _ a4.wf (st'.step s4) q4 (fun v y G5 H5 s5 ry q5 => ?_) (fun e cls d G' H' s he h => ke e cls d G' H' (s1.trans (a4.trans s)) he h)
        have a5 := a4.trans s5
        have s35 := (s3.trans s4).trans s5
        split at q5
        · rename_i y
          have hD5 := s35.keep _ _ hD bD (fun z e => by cases e)
          have fD5 := s35.nf _ _ hD trivial fD
          have bD5 := s35.nb _ _ hD (fun z e => by cases e) bD
          have rD5 := RpA.mono s35.fm _ _ rD
          refine ⟨vs, hD5, by rw [rp_len rD, sizeLine_eq]; have := q5.1; omega, G5, vs ++ [v], acc ++ [y], a5.write hD5 fD5 bD5 (.of nD), upd_same, fD5, bD5, rpa_app rD5 (.cons (rv_py ry) .nil), q5.2⟩
        · exact q5.elim
      | false =>
        have s34 := s3.trans s4
        exact iteF ⟨G4, vs, acc, a4, s34.keep _ _ hD bD (fun z e => by cases e), s34.nf _ _ hD trivial fD, s34.nb _ _ hD (fun z e => by cases e) bD, RpA.mono s34.fm _ _ rD, q4⟩
    · exact q'.elim
  · rintro H2 ⟨G', vs, acc, a1, hD, fD, bD, rD, q'⟩
    rw [List.drop_of_length_le (Nat.le_refl _)] at q'
    exact k D vs acc G' H2 (s1.trans a1) n0 hD fD bD rD q'
end
end Dl

set_option Elab.async false
set_option linter.all false
set_option maxRecDepth 100000
set_option maxHeartbeats 4000000
/-! the data layer: lists of the def's own, raise, defs -/
namespace Dl
open PySem PySem.Spec PyProof.Rows L2 Lx
section
variable {S : Sx} {E : XK} {G G0 : Gh} {H H0 : Hp}
theorem StR.write {σ : L2.St} {ρ : Rho} {i : Nat} {p : Addr} {l l' : List PyData} {vs ws : List V} (st : StR G H0 H σ ρ) (hi : ρ[i]? = some (some (.own l))) (hs : σ[i]? = some (some (.ref p))) (hp : H p = some (.lst vs)) (r : RpA G.F ws l') :
    StR G H0 (upd H p (.lst ws)) σ (ρ.set i (some (.own l'))) := by
  obtain ⟨v, z1, q, vs', z2, z3, z4, z5, z6, z7⟩ := st.at_ i _ hi
  rw [hs] at z1
  cases z1
  cases z2
  have own_ne : ∀ (j : Nat) (y : SV), i ≠ j → ρ[j]? = some (some y) → ∀ v, σ[j]? = some (some v) → RS G H0 H v y → RS G H0 (upd H p (.lst ws)) v y := fun j y n e v e2 h => by
    cases y with
    | dv d => exact h
    | own m =>
      obtain ⟨q, us, h1, h2, h3, h4, h5, h6⟩ := h
      subst h1
      have ne : q ≠ p := by
        rintro rfl
        exact n (st.sep i j l m q hi e hs e2)
      exact ⟨q, us, rfl, by rw [upd_ne ne]; exact h2, h3, h4, h5, h6⟩
    | ini q dx C fs =>
      obtain ⟨us, h1, h2, h3, h4, h5, h6⟩ := h
      subst h1
      exact ⟨us, rfl, by rw [upd_ne (ne_of h2 hp (fun z => by cases z))]; exact h2, h3, h4, h5, h6⟩
  refine ⟨by rw [List.length_set, st.len], fun j x e => ?_, fun j k m m' q e1 e2 e3 e4 => ?_⟩
  · rcases set_some e with ⟨rfl, rfl⟩ | ⟨ne, e⟩
    · exact ⟨.ref p, hs, p, ws, rfl, upd_same, z4, z5, z6, r⟩
    · obtain ⟨v, h1, h2⟩ := st.at_ j x e
      exact ⟨v, h1, own_ne j x ne e v h1 h2⟩
  · have get : ∀ (j : Nat) (m : List PyData), (ρ.set i (some (.own l')))[j]? = some (some (.own m)) → ∃ m0, ρ[j]? = some (some (.own m0)) := fun j m e => by
      rcases set_some e with ⟨rfl, _⟩ | ⟨_, e⟩
      · exact ⟨l, hi⟩
      · exact ⟨m, e⟩
    obtain ⟨m0, f1⟩ := get j m e1
    obtain ⟨m1, f2⟩ := get k m' e2
    exact st.sep j k m0 m1 q f1 f2 e3 e4
/-- x.append(e), x a list of the def's own -/
def dAppend (i : Nat) (te : TD) : TSD := fun D ρ => match ρ[i]? with
  | some (some (.own l)) => te ρ (fun y => match y with
    | .py y => l.length < 1000000 ∧ D.nx (ρ.set i (some (.own (l ++ [y]))))
    | _ => False) D.er
  | _ => False
theorem ls_append {i : Nat} {Te : TE} {te : TD} (he : LE S E Te te) : LS S E (tDrop (tBM S.K "list" rAppend (tVar i) (tCons Te tNil))) (dAppend i te) := by
  intro G0 H0 Fb D Dd σ ρ G H a r q
  unfold dAppend at q
  split at q
  · rename_i l e
    obtain ⟨v, z1, p, vs, rfl, z3, z4, z5, z6, z7⟩ := a.r.at_ i _ e
    refine ⟨.ref p, z1, .inl ⟨rfl, _, .inl (.inl z3)⟩, ?_⟩
    refine he H0 ρ σ G H _ _ _ a.s.wf a.r q (fun v d G1 H1 s1 rv q1 => ?_) (r.err a.s)
    split at q1
    · rename_i y
      have hp := s1.keep _ _ z3 z5 (fun z e => by cases e)
      have fp := s1.nf _ _ z3 trivial z4
      have bp := s1.nb _ _ z3 (fun z e => by cases e) z5
      have rp := RpA.mono s1.fm _ _ z7
      refine ⟨p, vs, v, rfl, rfl, hp, by rw [rp_len z7, sizeLine_eq]; have := q1.1; omega, ?_⟩
      exact r.nx _ _ _ _ ⟨(a.s.trans s1).write hp fp bp z6, (a.r.step s1).write e z1 hp (rpa_app rp (.cons (rv_py rv) .nil)), a.f.trans s1.fm⟩ q1.2
    · exact q1.elim
  · exact q.elim
/-- x[k] = e, x a list of the def's own -/
def dPutIx (i : Nat) (te tk : TD) : TSD := fun D ρ => match ρ[i]? with
  | some (some (.own l)) => te ρ (fun y => tk ρ (fun k => match k, y with
    | .py (.int k), .py y => ∃ j, ixN l.length k = some j ∧ D.nx (ρ.set i (some (.own (l.set j y))))
    | _, _ => False) D.er) D.er
  | _ => False
theorem rpa_set {F : Hp} {v : V} {d : PyData} (h : Rp F v d) : ∀ {xs : List V} {l : List PyData} (j : Nat), RpA F xs l → RpA F (xs.set j v) (l.set j d)
  | _, _, _, .nil => .nil
  | _, _, 0, .cons _ t => .cons h t
  | _, _, j + 1, .cons k t => .cons k (rpa_set h j t)
theorem ls_putIx {i : Nat} {Te Tk : TE} {te tk : TD} (he : LE S E Te te) (hk : LE S E Tk tk) : LS S E (tAsg Te (gSub (tVar i) Tk rSetL)) (dPutIx i te tk) := by
  intro G0 H0 Fb D Dd σ ρ G H a r q
  unfold dPutIx at q
  split at q
  · rename_i l e
    obtain ⟨v0, z1, p, vs, rfl, z3, z4, z5, z6, z7⟩ := a.r.at_ i _ e
    refine he H0 ρ σ G H _ _ _ a.s.wf a.r q (fun v d G1 H1 s1 rv q1 => ?_) (r.err a.s)
    refine ⟨.ref p, z1, ?_⟩
    refine hk H0 ρ σ G1 H1 _ _ _ s1.wf (a.r.step s1) q1 (fun kv kd G2 H2 s2 rk q2 => ?_) (r.err (a.s.trans s1))
    split at q2
    · obtain ⟨j, hj, q2⟩ := q2
      cases rv_int rk
      have s12 := s1.trans s2
      have hp := s12.keep _ _ z3 z5 (fun z e => by cases e)
      have fp := s12.nf _ _ z3 trivial z4
      have bp := s12.nb _ _ z3 (fun z e => by cases e) z5
      have rp := RpA.mono s12.fm _ _ z7
      have rv2 := rv.mono s2.fm s2.bm
      refine ⟨p, vs, _, j, rfl, rfl, hp, by rw [rp_len z7]; exact hj, ?_⟩
      exact r.nx _ _ _ _ ⟨(a.s.trans s12).write hp fp bp z6, (a.r.step s12).write e z1 hp (rpa_set (rv_py rv2) j rp), a.f.trans s12.fm⟩ q2
    · exact q2.elim
  · exact q.elim
/-- a list of the def's own is frozen: from now on it is data -/
def dFreeze (i : Nat) (t : TSD) : TSD := fun D ρ => match ρ[i]? with
  | some (some (.own l)) => t D (ρ.set i (some (.dv (.lst l))))
  | _ => False
theorem StR.freeze {σ : L2.St} {ρ : Rho} {i : Nat} {l : List PyData} {p : Addr} {vs : List V} (w : Wf S G H) (st : StR G H0 H σ ρ) (hi : ρ[i]? = some (some (.own l))) (hs : σ[i]? = some (some (.ref p))) (hp : H p = some (.lst vs)) (hf : G.F p = none) (r : RpA G.F vs l) :
    StR (G.put p (.lst vs)) H0 H σ (ρ.set i (some (.dv (.lst l)))) := by
  have fm : Same G.F (G.put p (.lst vs)).F := same_upd (.inl hf)
  refine ⟨by rw [List.length_set, st.len], fun j x e => ?_, fun j k m m' q e1 e2 e3 e4 => ?_⟩
  · rcases set_some e with ⟨rfl, rfl⟩ | ⟨ne, e⟩
    · exact ⟨.ref p, hs, .py (.lst put_same (RpA.mono fm _ _ r))⟩
    · obtain ⟨v, h1, h2⟩ := st.at_ j x e
      refine ⟨v, h1, ?_⟩
      cases x with
      | dv d => exact RV.mono fm (fun _ h => h) h2
      | own m =>
        obtain ⟨q, us, g1, g2, g3, g4, g5, g6⟩ := h2
        subst g1
        have n : q ≠ p := by
          rintro rfl
          exact ne (st.sep i j l m q hi e hs h1)
        exact ⟨q, us, rfl, g2, by rw [put_ne n]; exact g3, g4, g5, RpA.mono fm _ _ g6⟩
      | ini q dx C fs =>
        obtain ⟨us, g1, g2, g3, g4, g5, g6⟩ := h2
        subst g1
        exact ⟨us, rfl, g2, by rw [put_ne (ne_of g2 hp (fun z => by cases z))]; exact g3, g4, g5, Paired.mapP g6 fun _ _ z => ⟨z.1, z.2.mono fm (fun _ h => h)⟩⟩
  · rcases set_some e1 with ⟨_, z⟩ | ⟨_, e1⟩
    · cases z
    rcases set_some e2 with ⟨_, z⟩ | ⟨_, e2⟩
    · cases z
    exact st.sep j k m m' q e1 e2 e3 e4
theorem ls_freeze {i : Nat} {T : TS} {t : TSD} (h : LS S E T t) : LS S E T (dFreeze i t) := by
  intro G0 H0 Fb D Dd σ ρ G H a r q
  unfold dFreeze at q
  split at q
  · rename_i l e
    obtain ⟨v0, z1, p, vs, rfl, z3, z4, z5, z6, z7⟩ := a.r.at_ i _ e
    exact h G0 H0 Fb D Dd σ _ (G.put p (.lst vs)) H ⟨a.s.freeze z3 (fun z e => by cases e) z6 z5, a.r.freeze a.s.wf e z1 z3 z4 z7, a.f.trans (same_upd (.inl z4))⟩ r q
  · exact q.elim
/-- within an expression the def's own lists are data; what comes out of it holds no list -/
def unown : Rho → Rho
  | [] => []
  | some (.own l) :: r => some (.dv (.lst l)) :: unown r
  | x :: r => x :: unown r
def hasOwn : Rho → Bool
  | [] => false
  | some (.own _) :: _ => true
  | _ :: r => hasOwn r
def noLD : DV → Bool
  | .py d => noL d
  | .ins _ _ => false
  | .scr _ _ => false
  | .lam _ => false
  | .lams _ _ => false
  | _ => true
def okL (ρ : Rho) (d : DV) : Prop := (!hasOwn ρ || noLD d) = true
theorem unown_get : ∀ {ρ : Rho} {i : Nat}, (unown ρ)[i]? = (ρ[i]?).map (fun x => match x with | some (.own l) => some (.dv (.lst l)) | x => x)
  | [], i => by simp [unown]
  | some (.own l) :: r, 0 => rfl
  | some (.dv d) :: r, 0 => rfl
  | some (.ini p dx C fs) :: r, 0 => rfl
  | none :: r, 0 => rfl
  | some (.own l) :: r, i + 1 => by
    show (unown r)[i]? = _
    rw [unown_get]
    rfl
  | some (.dv d) :: r, i + 1 => by
    show (unown r)[i]? = _
    rw [unown_get]
    rfl
  | some (.ini p dx C fs) :: r, i + 1 => by
    show (unown r)[i]? = _
    rw [unown_get]
    rfl
  | none :: r, i + 1 => by
    show (unown r)[i]? = _
    rw [unown_get]
    rfl
theorem unown_len : ∀ {ρ : Rho}, (unown ρ).length = ρ.length
  | [] => rfl
  | some (.own l) :: r => by show (unown r).length + 1 = _; rw [unown_len]; rfl
  | some (.dv d) :: r => by show (unown r).length + 1 = _; rw [unown_len]; rfl
  | some (.ini p dx C fs) :: r => by show (unown r).length + 1 = _; rw [unown_len]; rfl
  | none :: r => by show (unown r).length + 1 = _; rw [unown_len]; rfl
theorem hasOwn_no {ρ : Rho} (h : hasOwn ρ = false) : ∀ (i : Nat) (l : List PyData), ρ[i]? ≠ some (some (.own l)) := by
  induction ρ with
  | nil => intro i l e; cases e
  | cons x r ih =>
    intro i l e
    cases x with
    | none =>
      cases i with
      | zero => cases e
      | succ i => exact ih h i l (by simpa using e)
    | some y =>
      cases y with
      | own m => cases h
      | ini p dx C fs =>
        cases i with
        | zero => cases e
        | succ i => exact ih h i l (by simpa using e)
      | dv d =>
        cases i with
        | zero => cases e
        | succ i => exact ih h i l (by simpa using e)
/-- the own lists' addresses -/
def OwnAt (ρ : Rho) (σ : L2.St) (p : Addr) : Prop := ∃ (i : Nat) (l : List PyData), ρ[i]? = some (some (.own l)) ∧ σ[i]? = some (some (.ref p))
noncomputable instance (ρ : Rho) (σ : L2.St) (p : Addr) : Decidable (OwnAt ρ σ p) := Classical.propDecidable _
noncomputable def Gh.withOwn (G : Gh) (H : Hp) (ρ : Rho) (σ : L2.St) : Gh := ⟨fun a => if OwnAt ρ σ a then H a else G.F a, G.B⟩
noncomputable def Gh.less (G' G : Gh) (ρ : Rho) (σ : L2.St) : Gh := ⟨fun a => if OwnAt ρ σ a then none else G'.F a, G'.B⟩
theorem le_snap' {σ : L2.St} {ρ : Rho} (w : Wf S G H) (st : StR G H0 H σ ρ) : Wf S (G.withOwn H ρ σ) H ∧ StR (G.withOwn H ρ σ) H0 H σ (unown ρ) ∧ Same G.F (G.withOwn H ρ σ).F ∧
    (∀ G' H', Step S (G.withOwn H ρ σ) H G' H' → ∃ G2, Step S G H G2 H' ∧ (∀ v d, RV G' v d → okL ρ d → RV G2 v d) ∧ (∀ b, G2.B b ↔ G'.B b) ∧ ∀ a, G'.F a = none → G2.F a = none) := by
  have own : ∀ p, OwnAt ρ σ p → ∃ l vs, H p = some (.lst vs) ∧ G.F p = none ∧ ¬ G.B p ∧ RpA G.F vs l := by
    rintro p ⟨i, l, h1, h2⟩
    obtain ⟨v0, z1, p', vs, rfl, z3, z4, z5, z6, z7⟩ := st.at_ i _ h1
    rw [h2] at z1
    cases z1
    exact ⟨l, vs, z3, z4, z5, z7⟩
  have fm : Same G.F (G.withOwn H ρ σ).F := fun a o e => by
    show (if OwnAt ρ σ a then H a else G.F a) = some o
    split
    · exact w.sub _ _ e
    · exact e
  have w' : Wf S (G.withOwn H ρ σ) H := by
    refine ⟨fun a o e => ?_, fun b hb => ⟨(w.box b hb).1, ?_⟩, fun a z e => ?_, w.tabs⟩
    · have e : (if OwnAt ρ σ a then H a else G.F a) = some o := e
      split at e
      · exact e
      · exact w.sub _ _ e
    · show (if OwnAt ρ σ b then H b else G.F b) = none
      split
      · rename_i h
        obtain ⟨_, _, _, _, z, _⟩ := own b h
        exact absurd hb z
      · exact (w.box b hb).2
    · have e : (if OwnAt ρ σ a then H a else G.F a) = some (.tbl z) := e
      split at e
      · rename_i h
        obtain ⟨_, _, q, _⟩ := own a h
        rw [q] at e
        cases e
      · exact w.tbl a z e
  refine ⟨w', ?_, fm, ?_⟩
  · refine ⟨by rw [unown_len, st.len], fun i x e => ?_, fun i j l l' p e1 => ?_⟩
    · rw [unown_get] at e
      cases q : ρ[i]? with
      | none => rw [q] at e; cases e
      | some y =>
        rw [q] at e
        cases y with
        | none => cases e
        | some y =>
          obtain ⟨v, h1, h2⟩ := st.at_ i y q
          cases y with
          | dv d =>
            cases e
            exact ⟨v, h1, RV.mono fm (fun _ h => h) h2⟩
          | own l =>
            cases e
            obtain ⟨p, vs, g1, g2, g3, g4, g5, g6⟩ := h2
            subst g1
            refine ⟨.ref p, h1, .py (.lst (xs := vs) ?_ (RpA.mono fm _ _ g6))⟩
            show (if OwnAt ρ σ p then H p else G.F p) = _
            rw [if_pos ⟨i, l, q, h1⟩]
            exact g2
          | ini p dx C fs =>
            cases e
            obtain ⟨vs, g1, g2, g3, g4, g5, g6⟩ := h2
            subst g1
            refine ⟨.ref p, h1, vs, rfl, g2, ?_, g4, g5, Paired.mapP g6 fun _ _ z => ⟨z.1, z.2.mono fm (fun _ h => h)⟩⟩
            show (if OwnAt ρ σ p then H p else G.F p) = none
            rw [if_neg]
            · exact g3
            · intro z
              obtain ⟨_, _, z, _⟩ := own p z
              rw [g2] at z
              cases z
    · rw [unown_get] at e1
      cases q : ρ[i]? with
      | none => rw [q] at e1; cases e1
      | some y =>
        rw [q] at e1
        cases y with
        | none => cases e1
        | some y => cases y <;> cases e1
  · intro G' H' s
    refine ⟨G'.less G ρ σ, ⟨w, ?_, ?_, s.bm, s.keep, fun a o h m f => ?_, s.nb, s.there⟩, ?_, fun b => Iff.rfl, fun a e => by show (if OwnAt ρ σ a then none else G'.F a) = none; split <;> first | rfl | exact e⟩
    · refine ⟨fun a o e => ?_, fun b hb => ⟨(s.wf.box b hb).1, ?_⟩, fun a z e => ?_, s.wf.tabs⟩
      · have e : (if OwnAt ρ σ a then none else G'.F a) = some o := e
        split at e
        · cases e
        · exact s.wf.sub _ _ e
      · show (if OwnAt ρ σ b then none else G'.F b) = none
        split
        · rfl
        · exact (s.wf.box b hb).2
      · have e : (if OwnAt ρ σ a then none else G'.F a) = some (.tbl z) := e
        split at e
        · cases e
        · exact s.wf.tbl a z e
    · intro a o e
      show (if OwnAt ρ σ a then none else G'.F a) = some o
      split
      · rename_i h
        obtain ⟨_, _, _, q, _⟩ := own a h
        rw [q] at e
        cases e
      · exact s.fm _ _ (fm _ _ e)
    · show (if OwnAt ρ σ a then none else G'.F a) = none
      split
      · rfl
      · rename_i hn
        refine s.nf a o h m ?_
        show (if OwnAt ρ σ a then H a else G.F a) = none
        rw [if_neg hn]
        exact f
    · intro v d rv ok
      unfold okL at ok
      rw [Bool.or_eq_true] at ok
      have tup : ∀ a xs, G'.F a = some (.tup xs) → (G'.less G ρ σ).F a = some (.tup xs) := fun a xs e => by
        show (if OwnAt ρ σ a then none else G'.F a) = _
        split
        · rename_i h
          obtain ⟨l, vs, q1, q2, q3, q4⟩ := own a h
          have z := s.keep _ _ q1 q3 (fun z e => by cases e)
          have y := s.wf.sub _ _ e
          rw [z] at y
          cases y
        · exact e
      rcases ok with ok | ok
      · have no := hasOwn_no (ρ := ρ) (by simpa using ok)
        have e2 : Same G'.F (G'.less G ρ σ).F := fun a o e => by
          show (if OwnAt ρ σ a then none else G'.F a) = some o
          rw [if_neg]
          · exact e
          · rintro ⟨i, l, h, _⟩
            exact no i l h
        exact RV.mono e2 (fun _ h => h) rv
      · cases rv with
        | py h => exact .py (Rp.tups tup _ _ ok h)
        | ins _ _ => cases ok
        | scr _ => cases ok
        | lam _ => cases ok
        | lams _ _ _ => cases ok
        | box h => exact .box h
        | ref => exact .ref
        | ty => exact .ty
def dSnap (t : TD) : TD := fun ρ Qd Ed => t (unown ρ) (fun d => okL ρ d ∧ Qd d) (fun e => okL ρ e.v ∧ Ed e)
theorem le_snap {T : TE} {t : TD} (h : LE S E T t) : LE S E T (dSnap t) := by
  intro H0 ρ σ G H Qd Ed Q w st q k ke
  obtain ⟨w', st', fm, back⟩ := le_snap' w st
  refine h H0 (unown ρ) σ _ H _ _ _ w' st' q (fun v d G' H' s rv q => ?_) (fun e cls d G' H' s he q => ?_)
  · obtain ⟨G2, s2, r2, _⟩ := back G' H' s
    have r2 := r2 v d rv q.1
    exact k v d G2 H' s2 r2 q.2
  · obtain ⟨h1, dd, v, h2, h3, h4⟩ := he
    obtain ⟨G2, s2, r2, _⟩ := back G' H' s
    have r2 := r2 v e.v h4 q.1
    exact ke e cls d G2 H' s2 ⟨h1, dd, v, h2, h3, r2⟩ q.2
/-- a new list of things without lists -/
def oSnap (t : TOD) : TOD := fun ρ Qd Ed => t (unown ρ) (fun l => noLs l = true ∧ Qd l) (fun e => okL ρ e.v ∧ Ed e)
theorem lo_snap {T : TE} {t : TOD} (h : LO S E T t) : LO S E T (oSnap t) := by
  intro H0 ρ σ G H Qd Ed Q w st q k ke
  obtain ⟨w', st', fm, back⟩ := le_snap' w st
  refine h H0 (unown ρ) σ _ H _ _ _ w' st' q (fun p vs l G' H' s n hp nf nb rr q => ?_) (fun e cls d G' H' s he q => ?_)
  · obtain ⟨G2, s2, r2, hB, hF⟩ := back G' H' s
    have go : ∀ {vs : List V} {l : List PyData}, RpA G'.F vs l → noLs l = true → RpA G2.F vs l := by
      intro vs l rr
      induction rr with
      | nil => intro _; exact .nil
      | @cons v d vs l hd tl ih =>
        intro hn
        have hn : (noL d && noLs l) = true := hn
        rw [Bool.and_eq_true] at hn
        exact .cons (rv_py (r2 v (.py d) (.py hd) (by unfold okL; simp [noLD, hn.1]))) (ih hn.2)
    exact k p vs l G2 H' s2 n hp (hF _ nf) (fun z => nb ((hB _).mp z)) (go rr q.1) q.2
  · obtain ⟨h1, dd, v, h2, h3, h4⟩ := he
    obtain ⟨G2, s2, r2, _⟩ := back G' H' s
    have r2 := r2 v e.v h4 q.1
    exact ke e cls d G2 H' s2 ⟨h1, dd, v, h2, h3, r2⟩ q.2
def dSnapT (t : TTD) : TTD := fun ρ Qb Ed => t (unown ρ) Qb (fun e => okL ρ e.v ∧ Ed e)
theorem lt_snap {T : TT} {t : TTD} (h : LT S E T t) : LT S E T (dSnapT t) := by
  intro H0 ρ σ G H Qd Ed Q w st q k ke
  obtain ⟨w', st', fm, back⟩ := le_snap' w st
  refine h H0 (unown ρ) σ _ H _ _ _ w' st' q (fun b G' H' s q => ?_) (fun e cls d G' H' s he q => ?_)
  · obtain ⟨G2, s2, _, _⟩ := back G' H' s
    exact k b G2 H' s2 q
  · obtain ⟨h1, dd, v, h2, h3, h4⟩ := he
    obtain ⟨G2, s2, r2, _⟩ := back G' H' s
    have r2 := r2 v e.v h4 q.1
    exact ke e cls d G2 H' s2 ⟨h1, dd, v, h2, h3, r2⟩ q.2

/-! ### raise -/
def dRaise (C : Addr) (fld : Str) (te : TD) : TSD := fun D ρ => te ρ (fun v => D.er ⟨C, fld, v⟩) D.er
theorem ls_raise {C : Addr} {fld : Str} {Te : TE} {te : TD} (he : LE S E Te te) : LS S E (tErr C fld (fun cls d _ H => E cls d H) Te) (dRaise C fld te) := by
  intro G0 H0 Fb D Dd σ ρ G H a r q
  refine he H0 ρ σ G H _ _ _ a.s.wf a.r q (fun v d G1 H1 s1 rv q1 => ?_) (r.err a.s)
  refine err_in fun dd H' sm nd hd => ?_
  have s2 := Step.same s1.wf sm
  exact r.er ⟨C, fld, d⟩ _ _ G1 H' (a.s.trans (s1.trans s2)) ⟨rfl, dd, v, rfl, hd, rv⟩ q1
end

/-! ### defs -/
def startD (N : List Str) (ds : List DV) : Rho := ds.map (fun d => some (.dv d)) ++ List.replicate (N.length - ds.length) none
theorem startD_st {G : Gh} {H : Hp} {N : List Str} {vs : List V} {ds : List DV} (r : RVs G vs ds) : StR G H H (L2.start N vs) (startD N ds) := by
  have hl : vs.length = ds.length := Paired.length r
  have get : ∀ (i : Nat) (x : SV), (startD N ds)[i]? = some (some x) → ∃ d, ds[i]? = some d ∧ x = .dv d := fun i x e => by
    unfold startD at e
    rw [List.getElem?_append] at e
    split at e
    · rw [List.getElem?_map] at e
      cases q : ds[i]? with
      | none => rw [q] at e; cases e
      | some d =>
        rw [q] at e
        cases e
        exact ⟨d, rfl, rfl⟩
    · rw [List.getElem?_replicate] at e
      split at e <;> cases e
  have pget : ∀ {vs : List V} {ds : List DV} {i : Nat} {d : DV}, RVs G vs ds → ds[i]? = some d → ∃ v, vs[i]? = some v ∧ RV G v d := by
    intro vs ds i d r
    induction r generalizing i with
    | nil => intro e; cases e
    | cons h t ih =>
      intro e
      cases i with
      | zero =>
        simp at e
        subst e
        exact ⟨_, rfl, h⟩
      | succ i =>
        obtain ⟨v, h1, h2⟩ := ih (by simpa using e)
        exact ⟨v, by simpa using h1, h2⟩
  refine ⟨?_, fun i x e => ?_, fun i j l l' p e1 => ?_⟩
  · unfold startD L2.start
    simp [hl]
  · obtain ⟨d, h1, rfl⟩ := get i x e
    obtain ⟨v, h2, h3⟩ := pget r h1
    refine ⟨v, ?_, h3⟩
    unfold L2.start
    have lt := (List.getElem?_eq_some_iff.mp h2).1
    rw [List.getElem?_append_left (by rw [List.length_map]; exact lt), List.getElem?_map, h2]
    rfl
  · obtain ⟨d, _, h⟩ := get i _ e1
    cases h
theorem def_end {S : Sx} {E : XK} {N : List Str} {T : TS} {t : TSD} {vs : List V} {ds : List DV} {G : Gh} {H : Hp} {Q : VK} {Qd : DV → Prop} {Ed : Er → Prop} (w : Wf S G H) (r : RVs G vs ds) (h : LS S E T t)
    (k : ∀ v d G' H', Step S G H G' H' → RV G' v d → Qd d → Q v H') (ke : ∀ e cls d G' H', Step S G H G' H' → ErAt G' H' cls d e → Ed e → E cls d H')
    (q : t { nx := fun _ => Qd .non, rt := Qd, er := Ed } (startD N ds)) : T { nx := fun _ H' => Q .non H', rt := Q } (L2.start N vs) H :=
  h G H G.F _ { nx := fun _ => Qd .non, rt := Qd, er := Ed } _ _ G H ⟨Step.refl w, startD_st r, Same.refl _⟩
    ⟨fun σ ρ G' H' a q => k .non _ G' H' a.s (.py .non) q, fun v d G' H' s rv q => k v d G' H' s rv q, fun _ _ _ _ _ q => q.elim, fun _ _ _ _ _ q => q.elim, fun e cls d G' H' s he q => ke e cls d G' H' s he q⟩ q
section
variable {P : Program} {w : World} {mg : Str → Option Value} {base : Heap} {S : Sx}
/-- a def that may raise -/
theorem okDX {x qual : Str} {st : Stmt} {f : Addr} {fd : FuncData} {N ps : List Str} {k : Nat} {sp : SpD} (F : Fun S.K x qual st f fd) (Sc : FnScope N ps (defScope st))
    (hb : ∀ (cdv : Value) (A : Around) (outer : List Env) (s : Shared) (H : Hp) (E : XK), Room k (A.deeper (envOfC qual (defScope st) s.heap.objs.size f cdv)) →
      ∃ T t, PSs (cxOf (L2.CX P w) P w S.K mg base N qual (defScope st) f cdv A outer s H E) (defBody st) T ∧ LS S E T t ∧ ∀ ds Qd Ed, ds.length = ps.length → sp ds Qd Ed → t { nx := fun _ => Qd .non, rt := Qd, er := Ed } (startD N ds)) :
    FnOk P w S.K mg base (L2.CX P w) (k + 1) f fd ps (spD S ps.length sp) := by
  refine F.okX Sc (fun vs H Q E ⟨_, _, _, _, h, _⟩ => h) (fun cdv A outer s H vs Q E hr h => ?_)
  obtain ⟨G, ds, Qd, Ed, hl, wf, rv, q, k1, k2⟩ := h
  obtain ⟨T, t, h1, h2, h3⟩ := hb cdv A outer s H E hr
  exact ⟨T, h1, def_end wf rv h2 k1 k2 (h3 ds Qd Ed (by rw [← hl]; exact (Paired.length rv).symm) q)⟩
/-- a def that raises nothing -/
theorem okD0 {x qual : Str} {st : Stmt} {f : Addr} {fd : FuncData} {N ps : List Str} {k : Nat} {sp : SpD} (F : Fun S.K x qual st f fd) (Sc : FnScope N ps (defScope st))
    (hb : ∀ (cdv : Value) (A : Around) (outer : List Env) (s : Shared) (H : Hp) (E : XK), Room k (A.deeper (envOfC qual (defScope st) s.heap.objs.size f cdv)) →
      ∃ T t, PSs (cxOf L2.CX0 P w S.K mg base N qual (defScope st) f cdv A outer s H E).nox (defBody st) T ∧ LS S L2.E0 T t ∧ ∀ ds Qd Ed, ds.length = ps.length → sp ds Qd Ed → t { nx := fun _ => Qd .non, rt := Qd } (startD N ds)) :
    FnOk P w S.K mg base L2.CX0 (k + 1) f fd ps (spD S ps.length sp) := by
  refine F.ok Sc (fun vs H Q E ⟨_, _, _, _, h, _⟩ => h) (fun cdv A outer s H vs Q E hr h => ?_)
  obtain ⟨G, ds, Qd, Ed, hl, wf, rv, q, k1, k2⟩ := h
  obtain ⟨T, t, h1, h2, h3⟩ := hb cdv A outer s H E hr
  exact ⟨T, h1, def_end wf rv h2 k1 (fun _ _ _ _ _ _ _ z => z.elim) (h3 ds Qd Ed (by rw [← hl]; exact (Paired.length rv).symm) q)⟩
/-- .. that is called where no guard stands -/
theorem okDG {x qual : Str} {st : Stmt} {f : Addr} {fd : FuncData} {N ps : List Str} {k : Nat} {sp : SpD} (F : Fun S.K x qual st f fd) (Sc : FnScope N ps (defScope st))
    (hb : ∀ (cdv : Value) (A : Around) (outer : List Env) (s : Shared) (H : Hp) (E : XK), Room k (A.deeper (envOfC qual (defScope st) s.heap.objs.size f cdv)) → A.guards = some [] →
      ∃ T t, PSs (cxOf L2.CX0 P w S.K mg base N qual (defScope st) f cdv A outer s H E).nox (defBody st) T ∧ LS S L2.E0 T t ∧ ∀ ds Qd Ed, ds.length = ps.length → sp ds Qd Ed → t { nx := fun _ => Qd .non, rt := Qd } (startD N ds)) :
    FnOkG P w S.K mg base L2.CX0 (k + 1) f fd ps (spD S ps.length sp) := by
  refine okG F Sc (fun vs H Q E ⟨_, _, _, _, h, _⟩ => h) (fun cdv A outer s H vs Q E hr hg h => ?_)
  obtain ⟨G, ds, Qd, Ed, hl, wf, rv, q, k1, k2⟩ := h
  obtain ⟨T, t, h1, h2, h3⟩ := hb cdv A outer s H E hr hg
  exact ⟨T, h1, def_end wf rv h2 k1 (fun _ _ _ _ _ _ _ z => z.elim) (h3 ds Qd Ed (by rw [← hl]; exact (Paired.length rv).symm) q)⟩
end
end Dl

set_option Elab.async false
set_option linter.all false
set_option maxRecDepth 100000
set_option maxHeartbeats 4000000
/-! the data layer: slices, built-ins, instances under way -/
namespace Dl
open PySem PySem.Spec PyProof.Rows L2 Lx
section
variable {S : Sx} {E : XK} {G G0 : Gh} {H H0 : Hp}
/-! ### slices -/
abbrev POD := Rho → (Option Int → Prop) → (Er → Prop) → Prop
def LP (S : Sx) (E : XK) (T : TO) (t : POD) : Prop := ∀ (H0 : Hp) (ρ : Rho) (σ : L2.St) (G : Gh) (H : Hp) (Qd : Option Int → Prop) (Ed : Er → Prop) (Q : Option Int → Hp → Prop), Wf S G H → StR G H0 H σ ρ → t ρ Qd Ed →
  (∀ o G' H', Step S G H G' H' → Qd o → Q o H') → (∀ e cls d G' H', Step S G H G' H' → ErAt G' H' cls d e → Ed e → E cls d H') → T σ H Q
def dNoPart : POD := fun _ Qd _ => Qd none
theorem lp_none : LP S E tNoPart dNoPart := fun H0 ρ σ G H Qd Ed Q w st q k ke => k none G H (Step.refl w) q
def dPart (t : TD) : POD := fun ρ Qd Ed => t ρ (fun d => match d with
  | .py (.int i) => Qd (some i)
  | _ => False) Ed
theorem lp_some {T : TE} {t : TD} (h : LE S E T t) : LP S E (tPart T) (dPart t) := by
  intro H0 ρ σ G H Qd Ed Q w st q k ke
  refine h H0 ρ σ G H _ Ed _ w st q (fun v d G1 H1 s1 rv q1 => ?_) ke
  split at q1
  · cases rv_int rv
    exact ⟨_, rfl, k _ G1 H1 s1 q1⟩
  · exact q1.elim
def cutD (l : List PyData) (lo hi : Option Int) : List PyData := (l.drop (HT.sIx l.length 0 lo)).take (HT.sIx l.length l.length hi - HT.sIx l.length 0 lo)
theorem rpa_cut {F : Hp} {xs : List V} {l : List PyData} {lo hi : Option Int} (h : RpA F xs l) : RpA F (cutV xs lo hi) (cutD l lo hi) := by
  unfold cutV cutD
  rw [rp_len h]
  exact rpa_take _ (rpa_drop _ h)
theorem cutD_from (l : List PyData) (s : Nat) : cutD l (some (s : Int)) none = l.drop s := by
  unfold cutD
  rw [HT.sIx_nat, HT.sIx_none]
  rcases Nat.le_total s l.length with h | h
  · rw [Nat.min_eq_left h, List.take_of_length_le (by rw [List.length_drop]; exact Nat.le_refl _)]
  · rw [Nat.min_eq_right h, List.drop_of_length_le (Nat.le_refl _), List.drop_of_length_le h, List.take_nil]
theorem cutD_to (l : List PyData) (s : Nat) : cutD l none (some (s : Int)) = l.take s := by
  unfold cutD
  rw [HT.sIx_nat, HT.sIx_none, List.drop_zero, Nat.sub_zero]
  rcases Nat.le_total s l.length with h | h
  · rw [Nat.min_eq_left h]
  · rw [Nat.min_eq_right h, List.take_of_length_le (Nat.le_refl _), List.take_of_length_le h]
def rSlAny (K : PySem.W.Frag) : V → Option Int → Option Int → Hp → VK → Prop := fun x lo hi H Q => rSlL K x lo hi H Q ∨ rSlA K x lo hi H Q
theorem sl_any {X : Cx} : SlR X (rSlAny X.K) := SlR.or sl_list sl_tupA
def dSl (te : TD) (tl th : POD) : TD := fun ρ Qd Ed => te ρ (fun d => tl ρ (fun lo => th ρ (fun hi => match d with
  | .py (.list l) => Qd (.lst (cutD l lo hi))
  | .py (.tuple l) => Qd (.tup (cutD l lo hi))
  | _ => False) Ed) Ed) Ed
def oSl (te : TD) (tl th : POD) : TOD := fun ρ Qd Ed => te ρ (fun d => tl ρ (fun lo => th ρ (fun hi => match d with
  | .py (.list l) => Qd (cutD l lo hi)
  | _ => False) Ed) Ed) Ed
theorem le_sl {Te : TE} {Tl Th : TO} {te : TD} {tl th : POD} (he : LE S E Te te) (hl : LP S E Tl tl) (hh : LP S E Th th) : LE S E (tSl (rSlAny S.K) Te Tl Th) (dSl te tl th) := by
  intro H0 ρ σ G H Qd Ed Q w st q k ke
  refine he H0 ρ σ G H _ Ed _ w st q (fun v d G1 H1 s1 rv q1 => ?_) ke
  refine hl H0 ρ σ G1 H1 _ Ed _ s1.wf (st.step s1) q1 (fun lo G2 H2 s2 q2 => ?_) (fun e cls d G' H' s he h => ke e cls d G' H' (s1.trans s) he h)
  have s12 := s1.trans s2
  refine hh H0 ρ σ G2 H2 _ Ed _ s2.wf (st.step s12) q2 (fun hi G3 H3 s3 q3 => ?_) (fun e cls d G' H' s he h => ke e cls d G' H' (s12.trans s) he h)
  have s13 := s12.trans s3
  have rv3 := rv.mono (s2.trans s3).fm (s2.trans s3).bm
  split at q3
  · obtain ⟨p, xs, rfl, h1, h2⟩ := rv_lst rv3
    exact .inl ⟨p, xs, rfl, .inl (.inl (s13.wf.sub _ _ h1)), fun t nt => k _ _ _ _ (s13.trans (Step.newF (o := .lst (cutV xs lo hi)) s13.wf nt (fun z e => by cases e))) (.py (.lst put_same (RpA.mono (same_upd (.inl (s13.wf.free nt))) _ _ (rpa_cut h2)))) q3⟩
  · rename_i l
    obtain ⟨p, xs, rfl, h1, h2⟩ := rv_tup rv3
    refine .inr ⟨p, xs, rfl, .inl (.inl (s13.wf.sub _ _ h1)), fun ⟨e1, e2⟩ => ?_, fun _ t nt => k _ _ _ _ (s13.trans (Step.newF (o := .tup (cutV xs lo hi)) s13.wf nt (fun z e => by cases e))) (.py (.tup put_same (RpA.mono (same_upd (.inl (s13.wf.free nt))) _ _ (rpa_cut h2)))) q3⟩
    have e : cutD l lo hi = l := by
      unfold cutD
      rw [← rp_len h2, e1, e2, List.drop_zero, Nat.sub_zero, rp_len h2, List.take_of_length_le (Nat.le_refl _)]
    rw [e] at q3
    exact k _ _ G3 H3 s13 rv3 q3
  · exact q3.elim
theorem lo_sl {Te : TE} {Tl Th : TO} {te : TD} {tl th : POD} (he : LE S E Te te) (hl : LP S E Tl tl) (hh : LP S E Th th) : LO S E (tSl (rSlAny S.K) Te Tl Th) (oSl te tl th) := by
  intro H0 ρ σ G H Qd Ed Q w st q k ke
  refine he H0 ρ σ G H _ Ed _ w st q (fun v d G1 H1 s1 rv q1 => ?_) ke
  refine hl H0 ρ σ G1 H1 _ Ed _ s1.wf (st.step s1) q1 (fun lo G2 H2 s2 q2 => ?_) (fun e cls d G' H' s he h => ke e cls d G' H' (s1.trans s) he h)
  have s12 := s1.trans s2
  refine hh H0 ρ σ G2 H2 _ Ed _ s2.wf (st.step s12) q2 (fun hi G3 H3 s3 q3 => ?_) (fun e cls d G' H' s he h => ke e cls d G' H' (s12.trans s) he h)
  have s13 := s12.trans s3
  have rv3 := rv.mono (s2.trans s3).fm (s2.trans s3).bm
  split at q3
  · obtain ⟨p, xs, rfl, h1, h2⟩ := rv_lst rv3
    exact .inl ⟨p, xs, rfl, .inl (.inl (s13.wf.sub _ _ h1)), fun t nt => k t _ _ G3 _ (s13.trans (Step.new s13.wf nt)) (s13.was_free (.of nt)) upd_same (s13.wf.free nt) (s13.wf.box_ne nt) (rpa_cut h2) q3⟩
  · exact q3.elim

/-! ### built-ins -/
theorem cr_or {X : Cx} {f : Value} {r r' : List V → Hp → VK → Prop} (h : CallR X f r) (h' : CallR X f r') : CallR X f (fun xs H Q => r xs H Q ∨ r' xs H Q) := by
  rintro pins s σ H xs us Q I rx (q | q)
  · exact h pins s σ H xs us Q I rx q
  · exact h' pins s σ H xs us Q I rx q
def rLenA (K : PySem.W.Frag) : List V → Hp → VK → Prop := fun xs H Q => rLenS K xs H Q ∨ ∃ z, xs = [.str z] ∧ z.length ≤ sizeLine ∧ Q (.int z.length) H
theorem lenA {X : Cx} : CallR X (.builtin "len") (rLenA X.K) := cr_or lenS call_len_str
def fLen (K : PySem.W.Frag) : FA := fun ds Q => match ds with
  | [.py (.list l)] => Q (.int (l.length : Nat))
  | [.py (.tuple l)] => Q (.int (l.length : Nat))
  | [.py (.str z)] => z.length ≤ sizeLine ∧ Q (.int z.length)
  | [.scr K' ns] => K' = K ∧ Q (.int (ns.length : Nat))
  | _ => False
theorem lc_len : LCr S (rLenA S.K) (fLen S.K) := by
  intro G H xs ds Qd Q w rx q k
  unfold fLen at q
  split at q
  · cases rx with
    | cons h t =>
      cases t
      obtain ⟨p, xs, rfl, h1, h2⟩ := rv_lst h
      refine .inl ⟨p, xs, rfl, .inl (.inl (.inl (w.sub _ _ h1))), ?_⟩
      rw [rp_len h2]
      exact k _ _ G H (Step.refl w) (.py (.int _)) q
  · cases rx with
    | cons h t =>
      cases t
      obtain ⟨p, xs, rfl, h1, h2⟩ := rv_tup h
      refine .inl ⟨p, xs, rfl, .inr (.inl (.inl (w.sub _ _ h1))), ?_⟩
      rw [rp_len h2]
      exact k _ _ G H (Step.refl w) (.py (.int _)) q
  · cases rx with
    | cons h t =>
      cases t
      cases rv_str h
      exact .inr ⟨_, rfl, q.1, k _ _ G H (Step.refl w) (.py (.int _)) q.2⟩
  · rename_i K' ns
    obtain ⟨eK, q⟩ := q
    subst eK
    cases rx with
    | cons h t =>
      cases t
      cases h with
      | @scr _ a _ h =>
        refine .inl ⟨a, ns.map V.int, rfl, .inl ?_, ?_⟩
        · rcases h with (h | ⟨o, h⟩) | h
          · exact .inl (.inl (w.sub _ _ h))
          · exact .inl (.inr ⟨o, w.sub _ _ h⟩)
          · exact h H
        · rw [List.length_map]
          exact k _ _ G H (Step.refl w) (.py (.int _)) q
  · exact q.elim
def fInt1 : FA := fun ds Q => match ds with
  | [.py (.int i)] => Q (.int i)
  | [.py (.bool b)] => Q (.int (if b then 1 else 0))
  | _ => False
theorem lc_int1 : LCr S (fun xs H Q => (∃ i, xs = [.int i] ∧ Q (.int i) H) ∨ ∃ k, xs = [.bl k] ∧ Q (.int (if k then 1 else 0)) H) fInt1 := by
  intro G H xs ds Qd Q w rx q k
  unfold fInt1 at q
  split at q
  · cases rx with
    | cons h t =>
      cases t
      cases rv_int h
      exact .inl ⟨_, rfl, k _ _ G H (Step.refl w) (.py (.int _)) q⟩
  · cases rx with
    | cons h t =>
      cases t
      cases rv_bl h
      exact .inr ⟨_, rfl, k _ _ G H (Step.refl w) (.py (.int _)) q⟩
  · exact q.elim
def fAbs : FA := fun ds Q => match ds with
  | [.py (.int i)] => Q (.int (if i < 0 then -i else i))
  | _ => False
theorem lc_abs : LCr S (fun xs H Q => ∃ i, xs = [.int i] ∧ Q (.int (if i < 0 then -i else i)) H) fAbs := by
  intro G H xs ds Qd Q w rx q k
  unfold fAbs at q
  split at q
  · cases rx with
    | cons h t =>
      cases t
      cases rv_int h
      exact ⟨_, rfl, k _ _ G H (Step.refl w) (.py (.int _)) q⟩
  · exact q.elim
def fInt2 (g : Int → Int → Int) : FA := fun ds Q => match ds with
  | [.py (.int i), .py (.int j)] => Q (.int (g i j))
  | _ => False
theorem lc_int2 {g : Int → Int → Int} : LCr S (fun xs H Q => ∃ i j, xs = [.int i, .int j] ∧ Q (.int (g i j)) H) (fInt2 g) := by
  intro G H xs ds Qd Q w rx q k
  unfold fInt2 at q
  split at q
  · cases rx with
    | cons h t =>
      cases t with
      | cons h' t =>
        cases t
        cases rv_int h
        cases rv_int h'
        exact ⟨_, _, rfl, k _ _ G H (Step.refl w) (.py (.int _)) q⟩
  · exact q.elim
def fDivmod : FA := fun ds Q => match ds with
  | [.py (.int i), .py (.int j)] => CDiv i j ∧ Q (.tup [.int (i / j), .int (i % j)])
  | _ => False
theorem lc_divmod : LCr S (fun xs H Q => ∃ i j, xs = [.int i, .int j] ∧ CDiv i j ∧ ∀ p, H p = none → Q (.ref p) (upd H p (.tup [.int (i / j), .int (i % j)]))) fDivmod := by
  intro G H xs ds Qd Q w rx q k
  unfold fDivmod at q
  split at q
  · cases rx with
    | cons h t =>
      cases t with
      | cons h' t =>
        cases t
        cases rv_int h
        cases rv_int h'
        exact ⟨_, _, rfl, q.1, fun p np => k _ _ _ _ (Step.newF w np (fun z e => by cases e)) (.py (.tup put_same (.cons (.int _) (.cons (.int _) .nil)))) q.2⟩
  · exact q.elim
def fTuple : FA := fun ds Q => match ds with
  | [.py (.list l)] => Q (.tup l)
  | [.py (.tuple l)] => Q (.tup l)
  | _ => False
theorem lc_tuple : LCr S (rTupOf S.K) fTuple := by
  intro G H xs ds Qd Q w rx q k
  unfold fTuple at q
  split at q
  · cases rx with
    | cons h t =>
      cases t
      obtain ⟨p, xs, rfl, h1, h2⟩ := rv_lst h
      exact ⟨p, xs, rfl, .inl ⟨.inl (.inl (w.sub _ _ h1)), fun l nl => k _ _ _ _ (Step.newF (o := .tup xs) w nl (fun z e => by cases e)) (.py (.tup put_same (RpA.mono (same_upd (.inl (w.free nl))) _ _ h2))) q⟩⟩
  · cases rx with
    | cons h t =>
      cases t
      have h' := h
      obtain ⟨p, xs, rfl, h1, h2⟩ := rv_tup h
      exact ⟨p, xs, rfl, .inr ⟨.inl (.inl (w.sub _ _ h1)), k _ _ G H (Step.refl w) h' q⟩⟩
  · exact q.elim
def rListOf (K : PySem.W.Frag) : List V → Hp → VK → Prop := fun xs H Q => ∃ p ys, xs = [.ref p] ∧ (SqL K H p ys ∨ SqT K H p ys) ∧ ∀ l, H l = none → Q (.ref l) (upd H l (.lst ys))
theorem listOf {X : Cx} : CallR X (.type "list") (rListOf X.K) := call_list_of
def fList : FO := fun ds Q => match ds with
  | [.py (.list l)] => Q l
  | [.py (.tuple l)] => Q l
  | _ => False
theorem lc_list : LCo S (rListOf S.K) fList := by
  intro G H xs ds Qd Q w rx q k
  unfold fList at q
  split at q
  · cases rx with
    | cons h t =>
      cases t
      obtain ⟨p, xs, rfl, h1, h2⟩ := rv_lst h
      exact ⟨p, xs, rfl, .inl (.inl (.inl (w.sub _ _ h1))), fun l nl => k l _ _ G _ (Step.new w nl) (.of nl) upd_same (w.free nl) (w.box_ne nl) h2 q⟩
  · cases rx with
    | cons h t =>
      cases t
      obtain ⟨p, xs, rfl, h1, h2⟩ := rv_tup h
      exact ⟨p, xs, rfl, .inr (.inl (.inl (w.sub _ _ h1))), fun l nl => k l _ _ G _ (Step.new w nl) (.of nl) upd_same (w.free nl) (w.box_ne nl) h2 q⟩
  · exact q.elim
theorem rpa_ints {F : Hp} {xs : List V} : ∀ {ns : List Int}, RpA F xs (ns.map PyData.int) → xs = ns.map V.int := by
  intro ns
  induction ns generalizing xs with
  | nil => intro h; cases h; rfl
  | cons n ns ih =>
    intro h
    cases h with
    | cons h t =>
      cases h
      rw [ih t]
      rfl
theorem ints_rpa {F : Hp} : ∀ (ns : List Int), RpA F (ns.map V.int) (ns.map PyData.int)
  | [] => .nil
  | n :: ns => .cons (.int n) (ints_rpa ns)
/-- sorted(ints) -/
def fSorted : FO := fun ds Q => match ds with
  | [.py (.list l)] => ∃ ns : List Int, l = ns.map .int ∧ ∀ ns' : List Int, ns'.Perm ns → ns'.Pairwise (· ≤ ·) → Q (ns'.map .int)
  | _ => False
theorem lc_sorted : LCo S (rSortedI S.K) fSorted := by
  intro G H xs ds Qd Q w rx q k
  unfold fSorted at q
  split at q
  · cases rx with
    | cons h t =>
      cases t
      obtain ⟨p, xs, rfl, h1, h2⟩ := rv_lst h
      obtain ⟨ns, rfl, q⟩ := q
      rw [rpa_ints h2] at h1
      exact ⟨p, ns, rfl, .inl (.inl (w.sub _ _ h1)), fun ns' l hp hs nl => k l _ _ G _ (Step.new w nl) (.of nl) upd_same (w.free nl) (w.box_ne nl) (ints_rpa ns') (q ns' hp hs)⟩
  · exact q.elim
/-- sorted(set(ints)) -/
def oSortedSet (te : TD) : TOD := fun ρ Qd Ed => te ρ (fun d => match d with
  | .py (.list l) => ∃ ns : List Int, l = ns.map .int ∧ ns.length < 64 ∧ ∀ ns' : List Int, ns'.Pairwise (· < ·) → (∀ k, k ∈ ns' ↔ k ∈ ns) → Qd (ns'.map .int)
  | _ => False) Ed
theorem lo_sortedSet {w : World} {Te : TE} {te : TD} (h : LE S E Te te) : LO S E (tCB (rSortedSet w) (tCons (tCB (rSetOfI S.K w) (tCons Te tNil)) tNil)) (oSortedSet te) := by
  intro H0 ρ σ G H Qd Ed Q wf st q k ke
  refine h H0 ρ σ G H _ Ed _ wf st q (fun v d G1 H1 s1 rv q1 => ?_) ke
  split at q1
  · obtain ⟨p, xs, rfl, h1, h2⟩ := rv_lst rv
    obtain ⟨ns, rfl, h64, q⟩ := q1
    rw [rpa_ints h2] at h1
    refine ⟨p, ns, rfl, .inl (.inl (s1.wf.sub _ _ h1)), by omega, fun t n hn nt => ?_⟩
    refine ⟨t, _, n, rfl, upd_same, by omega, fun ns' l hs hm hl nl => ?_⟩
    have w2 := s1.trans (Step.new (o := SetO w t (fun j => decide (j ∈ ns)) n) s1.wf nt)
    exact k l _ _ G1 _ (w2.trans (Step.new w2.wf nl)) (w2.was_free (.of nl)) upd_same (w2.wf.free nl) (w2.wf.box_ne nl) (ints_rpa ns') (q ns' hs fun k => by rw [hm k, decide_eq_true_eq])
  · exact q1.elim
def fRepr : FA := fun ds Q => match ds with
  | [.py d] => RepOk d ∧ Q (.str d.shown)
  | _ => False
theorem lc_repr : LCr S (rRepr S.K) fRepr := by
  intro G H xs ds Qd Q w rx q k
  unfold fRepr at q
  split at q
  · cases rx with
    | cons h t =>
      cases t
      exact ⟨_, _, rfl, Rp.dp w.sub _ _ (rv_py h), q.1, k _ _ G H (Step.refl w) (.py (.str _)) q.2⟩
  · exact q.elim
theorem rpa_bools {F : Hp} {xs : List V} : ∀ {ns : List Bool}, RpA F xs (ns.map PyData.bool) → xs = ns.map V.bl := by
  intro ns
  induction ns generalizing xs with
  | nil => intro h; cases h; rfl
  | cons n ns ih =>
    intro h
    cases h with
    | cons h t =>
      cases h
      rw [ih t]
      rfl
def fAll (g : List Bool → Bool) : FA := fun ds Q => match ds with
  | [.py (.list l)] => ∃ bs : List Bool, l = bs.map .bool ∧ Q (.bl (g bs))
  | _ => False
theorem lc_all {g : List Bool → Bool} : LCr S (fun vs H Q => ∃ (a : Addr) (bs : List Bool), vs = [V.ref a] ∧ SqL S.K H a (bs.map V.bl) ∧ Q (.bl (g bs)) H) (fAll g) := by
  intro G H xs ds Qd Q w rx q k
  unfold fAll at q
  split at q
  · cases rx with
    | cons h t =>
      cases t
      obtain ⟨p, xs, rfl, h1, h2⟩ := rv_lst h
      obtain ⟨bs, rfl, q⟩ := q
      rw [rpa_bools h2] at h1
      exact ⟨p, bs, rfl, .inl (.inl (w.sub _ _ h1)), k _ _ G H (Step.refl w) (.py (.bl _)) q⟩
  · exact q.elim
def fSum : FA := fun ds Q => match ds with
  | [.py (.list l)] => ∃ ns : List Int, l = ns.map .int ∧ Q (.int ns.sum)
  | _ => False
theorem lc_sum : LCr S (rSum S.K) fSum := by
  intro G H xs ds Qd Q w rx q k
  unfold fSum at q
  split at q
  · cases rx with
    | cons h t =>
      cases t
      obtain ⟨p, xs, rfl, h1, h2⟩ := rv_lst h
      obtain ⟨ns, rfl, q⟩ := q
      rw [rpa_ints h2] at h1
      exact ⟨p, ns, rfl, .inl (.inl (w.sub _ _ h1)), k _ _ G H (Step.refl w) (.py (.int _)) q⟩
  · exact q.elim
/-! ### isinstance -/
theorem rp_kit {F : Hp} {K : PySem.W.Frag} {H : Hp} {v : V} {d : PyData} (e : Same F H) (h : Rp F v d) : Vk K H v := by
  cases h with
  | non => exact .non
  | bl b => exact .bl b
  | int i => exact .int i
  | str x => exact .str x
  | lst h _ => exact .lst (.inl (.inl (e _ _ h)))
  | tup h _ => exact .tup (.inl (.inl (e _ _ h)))
def isIntD : PyData → Bool
  | .int _ => true
  | .bool _ => true
  | _ => false
def isBoolD : PyData → Bool
  | .bool _ => true
  | _ => false
def isStrD : PyData → Bool
  | .str _ => true
  | _ => false
def isTupD : PyData → Bool
  | .tuple _ => true
  | _ => false
def isSeqD : PyData → Bool
  | .list _ => true
  | .tuple _ => true
  | _ => false
def fIsT (n : String) (g : PyData → Bool) : FA := fun ds Q => match ds with
  | [.py d, .ty m] => m = n ∧ Q (.bl (g d))
  | _ => False
theorem lc_isInt : LCr S (rIsi S.K) (fIsT "int" isIntD) := by
  intro G H xs ds Qd Q w rx q k
  unfold fIsT at q
  split at q
  · rename_i d m
    obtain ⟨rfl, q⟩ := q
    cases rx with
    | cons h t =>
      cases t with
      | cons h' t =>
        cases t
        cases h'
        have r := rv_py h
        obtain ⟨t, y, z⟩ := (rp_kit (K := S.K) w.sub r).asInt
        have e : ∀ v, Rp G.F v d → isI v = isIntD d := fun v r => by cases r <;> rfl
        rw [e _ r] at z
        exact ⟨_, _, t, _, _, rfl, .ty "int", y, z, k _ _ G H (Step.refl w) (.py (.bl _)) q⟩
  · exact q.elim
theorem lc_isBool : LCr S (rIsi S.K) (fIsT "bool" isBoolD) := by
  intro G H xs ds Qd Q w rx q k
  unfold fIsT at q
  split at q
  · rename_i d m
    obtain ⟨rfl, q⟩ := q
    cases rx with
    | cons h t =>
      cases t with
      | cons h' t =>
        cases t
        cases h'
        have r := rv_py h
        obtain ⟨t, y, z⟩ := (rp_kit (K := S.K) w.sub r).asBool
        have e : ∀ v, Rp G.F v d → isB v = isBoolD d := fun v r => by cases r <;> rfl
        rw [e _ r] at z
        exact ⟨_, _, t, _, _, rfl, .ty "bool", y, z, k _ _ G H (Step.refl w) (.py (.bl _)) q⟩
  · exact q.elim
def tyNm : PyData → String
  | .none => "NoneType" | .bool _ => "bool" | .int _ => "int" | .str _ => "str" | .list _ => "list" | .tuple _ => "tuple" | .dict _ => "dict"
theorem rp_ty {F : Hp} {K : PySem.W.Frag} {H : Hp} {v : V} {d : PyData} (e : Same F H) (h : Rp F v d) : TyX K H v (.type (tyNm d)) := by
  cases h with
  | non => exact .base .non
  | bl b => exact .base (.bl b)
  | int i => exact .base (.int i)
  | str x => exact .base (.str x)
  | lst h _ => exact .base (.lst (e _ _ h))
  | tup h _ => exact .base (.tup (e _ _ h))
theorem kit_str (K : PySem.W.Frag) (d : PyData) : PySem.W.kitOne K (.type (tyNm d)) (.type "str") = some (isStrD d) := by
  cases d with
  | none => exact show PySem.W.kitOne K (.type "NoneType") (.type "str") = some false from kit_ty (by decide +kernel)
  | bool => exact show PySem.W.kitOne K (.type "bool") (.type "str") = some false from kit_ty (by decide +kernel)
  | int => exact show PySem.W.kitOne K (.type "int") (.type "str") = some false from kit_ty (by decide +kernel)
  | str => exact show PySem.W.kitOne K (.type "str") (.type "str") = some true from kit_ty (by decide +kernel)
  | list => exact show PySem.W.kitOne K (.type "list") (.type "str") = some false from kit_ty (by decide +kernel)
  | tuple => exact show PySem.W.kitOne K (.type "tuple") (.type "str") = some false from kit_ty (by decide +kernel)
  | dict => exact show PySem.W.kitOne K (.type "dict") (.type "str") = some false from kit_ty (by decide +kernel)
theorem kit_tup (K : PySem.W.Frag) (d : PyData) : PySem.W.kitOne K (.type (tyNm d)) (.type "tuple") = some (isTupD d) := by
  cases d with
  | none => exact show PySem.W.kitOne K (.type "NoneType") (.type "tuple") = some false from kit_ty (by decide +kernel)
  | bool => exact show PySem.W.kitOne K (.type "bool") (.type "tuple") = some false from kit_ty (by decide +kernel)
  | int => exact show PySem.W.kitOne K (.type "int") (.type "tuple") = some false from kit_ty (by decide +kernel)
  | str => exact show PySem.W.kitOne K (.type "str") (.type "tuple") = some false from kit_ty (by decide +kernel)
  | list => exact show PySem.W.kitOne K (.type "list") (.type "tuple") = some false from kit_ty (by decide +kernel)
  | tuple => exact show PySem.W.kitOne K (.type "tuple") (.type "tuple") = some true from kit_ty (by decide +kernel)
  | dict => exact show PySem.W.kitOne K (.type "dict") (.type "tuple") = some false from kit_ty (by decide +kernel)
theorem kit_seq (K : PySem.W.Frag) (d : PyData) : PySem.W.kitAny K (.type (tyNm d)) [.type "list", .type "tuple"] = some (isSeqD d) := by
  cases d with
  | none => exact show PySem.W.kitAny K (.type "NoneType") [.type "list", .type "tuple"] = some false from kitLT (b1 := false) (b2 := false) (kit_ty (by decide +kernel)) (kit_ty (by decide +kernel))
  | bool => exact show PySem.W.kitAny K (.type "bool") [.type "list", .type "tuple"] = some false from kitLT (b1 := false) (b2 := false) (kit_ty (by decide +kernel)) (kit_ty (by decide +kernel))
  | int => exact show PySem.W.kitAny K (.type "int") [.type "list", .type "tuple"] = some false from kitLT (b1 := false) (b2 := false) (kit_ty (by decide +kernel)) (kit_ty (by decide +kernel))
  | str => exact show PySem.W.kitAny K (.type "str") [.type "list", .type "tuple"] = some false from kitLT (b1 := false) (b2 := false) (kit_ty (by decide +kernel)) (kit_ty (by decide +kernel))
  | list => exact show PySem.W.kitAny K (.type "list") [.type "list", .type "tuple"] = some true from kitLT (b1 := true) (b2 := false) (kit_ty (by decide +kernel)) (kit_ty (by decide +kernel))
  | tuple => exact show PySem.W.kitAny K (.type "tuple") [.type "list", .type "tuple"] = some true from kitLT (b1 := false) (b2 := true) (kit_ty (by decide +kernel)) (kit_ty (by decide +kernel))
  | dict => exact show PySem.W.kitAny K (.type "dict") [.type "list", .type "tuple"] = some false from kitLT (b1 := false) (b2 := false) (kit_ty (by decide +kernel)) (kit_ty (by decide +kernel))
theorem lc_isStr : LCr S (rIsi S.K) (fIsT "str" isStrD) := by
  intro G H xs ds Qd Q w rx q k
  unfold fIsT at q
  split at q
  · rename_i d m
    obtain ⟨rfl, q⟩ := q
    cases rx with
    | cons h t =>
      cases t with
      | cons h' t =>
        cases t
        cases h'
        exact ⟨_, _, _, _, isStrD d, rfl, .ty "str", rp_ty w.sub (rv_py h), kit_str _ d, k _ _ G H (Step.refl w) (.py (.bl _)) q⟩
  · exact q.elim
theorem lc_isTup : LCr S (rIsi S.K) (fIsT "tuple" isTupD) := by
  intro G H xs ds Qd Q w rx q k
  unfold fIsT at q
  split at q
  · rename_i d m
    obtain ⟨rfl, q⟩ := q
    cases rx with
    | cons h t =>
      cases t with
      | cons h' t =>
        cases t
        cases h'
        exact ⟨_, _, _, _, isTupD d, rfl, .ty "tuple", rp_ty w.sub (rv_py h), kit_tup _ d, k _ _ G H (Step.refl w) (.py (.bl _)) q⟩
  · exact q.elim
/-- isinstance(e, (list, tuple)) -/
def dIsLT (te : TD) : TD := fun ρ Qd Ed => te ρ (fun d => match d with
  | .py d => Qd (.bl (isSeqD d))
  | _ => False) Ed
theorem le_isLT {Te : TE} {te : TD} (h : LE S E Te te) : LE S E (tCB (rIsiT S.K) (tCons Te (tCons (tTup (tCons (tC (.ty "list")) (tCons (tC (.ty "tuple")) tNil))) tNil))) (dIsLT te) := by
  intro H0 ρ σ G H Qd Ed Q wf st q k ke
  refine h H0 ρ σ G H _ Ed _ wf st q (fun v d G1 H1 s1 rv q1 => ?_) ke
  split at q1
  · rename_i d
    refine ⟨by show 2 ≤ sizeLine; decide, fun p np => ?_⟩
    have s2 := s1.trans (Step.new (o := .tup [.ty "list", .ty "tuple"]) s1.wf np)
    exact ⟨v, p, [.ty "list", .ty "tuple"], _, [.type "list", .type "tuple"], isSeqD d, rfl, upd_same, .cons (.ty _) (.cons (.ty _) .nil), rp_ty s2.wf.sub (rv_py rv), kit_seq _ d, k _ _ G1 _ s2 (.py (.bl _)) q1⟩
  · exact q1.elim
end
end Dl

set_option Elab.async false
set_option linter.all false
set_option maxRecDepth 100000
set_option maxHeartbeats 4000000
/-! the data layer: chains, op=, keywords, instances under way, instances made -/
namespace Dl
open PySem PySem.Spec PyProof.Rows L2 Lx
section
variable {S : Sx} {E : XK} {G G0 : Gh} {H H0 : Hp}
theorem le_chain {r r' : R2} {f f' : F2} {Ta Tb Tc : TE} {ta tb tc : TD} (hr : L2r S r f) (hr' : L2r S r' f') (ha : LE S E Ta ta) (hb : LE S E Tb tb) (hc : LE S E Tc tc) : LE S E (tChain r r' Ta Tb Tc) (dChain f f' ta tb tc) := by
  intro H0 ρ σ G H Qd Ed Q w st q k ke
  refine ha H0 ρ σ G H _ Ed _ w st q (fun x dx G1 H1 s1 rx q1 => ?_) ke
  refine hb H0 ρ σ G1 H1 _ Ed _ s1.wf (st.step s1) q1 (fun y dy G2 H2 s2 ry q2 => ?_) (fun e cls d G2 H2 s2 he h => ke e cls d G2 H2 (s1.trans s2) he h)
  have s12 := s1.trans s2
  refine hr G2 H2 x y dx dy _ _ s2.wf (rx.mono s2.fm s2.bm) ry q2 fun v d G3 H3 s3 rv q3 => ?_
  have s13 := s12.trans s3
  split at q3
  · rename_i b
    cases rv_bl rv
    cases b with
    | false => exact ⟨false, rfl, iteF (k _ _ G3 H3 s13 (.py (.bl _)) q3)⟩
    | true =>
    refine ⟨true, rfl, iteT ?_⟩
    refine hc H0 ρ σ G3 H3 _ Ed _ s13.wf (st.step s13) q3 (fun z dz G4 H4 s4 rz q4 => ?_) (fun e cls d G4 H4 s4 he h => ke e cls d G4 H4 (s13.trans s4) he h)
    have s34 := s3.trans s4
    exact hr' G4 H4 y z dy dz Qd Q s4.wf (ry.mono s34.fm s34.bm) rz q4 fun v d G5 H5 s5 rv q5 => k v d G5 H5 ((s13.trans s4).trans s5) rv q5
  · exact q3.elim
/-- x += e, x -= e of ints -/
def dAug (i : Nat) (f : Int → Int → Int) (te : TD) : TSD := fun D ρ => match ρ[i]? with
  | some (some (.dv (.py (.int a)))) => te ρ (fun y => match y with
    | .py (.int b) => D.nx (ρ.set i (some (.dv (.int (f a b)))))
    | _ => False) D.er
  | _ => False
theorem ls_aug {i : Nat} {f : Int → Int → Int} {Te : TE} {te : TD} (he : LE S E Te te) : LS S E (tAug i Te (ipI f)) (dAug i f te) := by
  intro G0 H0 Fb D Dd σ ρ G H a r q
  unfold dAug at q
  split at q
  · rename_i x e
    obtain ⟨v, z1, z2⟩ := a.r.at_ i _ e
    cases rv_int z2
    refine ⟨_, z1, ?_⟩
    refine he H0 ρ σ G H _ _ _ a.s.wf a.r q (fun v d G1 H1 s1 rv q1 => ?_) (r.err a.s)
    split at q1
    · cases rv_int rv
      exact ⟨_, _, rfl, rfl, r.nx _ _ _ _ ⟨a.s.trans s1, (a.r.step s1).set (.py (.int _)), a.f.trans s1.fm⟩ q1⟩
    · exact q1.elim
  · exact q.elim
/-! ### calls by keywords in the reverse order -/
theorem rvs_rev {G : Gh} : ∀ {vs : List V} {ds : List DV}, RVs G vs ds → RVs G vs.reverse ds.reverse
  | _, _, .nil => .nil
  | x :: xs, u :: us, .cons r t => by
    rw [List.reverse_cons, List.reverse_cons]
    exact papp (rvs_rev t) (.cons r .nil)
def dCallR (sp : SpD) (ta : TAD) : TD := fun ρ Qd Ed => ta ρ (fun ds => sp ds.reverse Qd fun _ => False) Ed
theorem le_callR {n : Nat} {sp : SpD} {Ta : TA} {ta : TAD} (ha : LA n S E Ta ta) : LE S E (tCallK (spD S n sp) gRevV L2.E0 tNil Ta) (dCallR sp ta) := by
  intro H0 ρ σ G H Qd Ed Q w st q k ke
  refine ha H0 ρ σ G H _ Ed _ w st q (fun xs ds G1 H1 s1 hl rx q1 => ?_) ke
  exact ⟨G1, ds.reverse, Qd, _, by show xs.reverse.length = n; rw [List.length_reverse]; exact hl, s1.wf, rvs_rev rx, q1, fun v d G' H' s rv q => k v d G' H' (s1.trans s) rv q, fun e cls d G' H' s he h => h.elim⟩

/-! ### an instance under way -/
def putD (f : Str) (d : DV) : List (Str × DV) → List (Str × DV)
  | [] => [(f, d)]
  | (g, x) :: r => if g = f then (g, d) :: r else (g, x) :: putD f d r
theorem put_pair {f : Str} {v : V} {d : DV} (h : RV G v d) : ∀ {vs : List (Str × V)} {fs : List (Str × DV)}, Paired (fun a b => a.1 = b.1 ∧ RV G a.2 b.2) vs fs → Paired (fun a b => a.1 = b.1 ∧ RV G a.2 b.2) (putF f v vs) (putD f d fs)
  | _, _, .nil => .cons ⟨rfl, h⟩ .nil
  | (g, x) :: r, (g', x') :: r', .cons ⟨e, k⟩ t => by
    have e : g = g' := e
    subst e
    show Paired _ (if g = f then (g, v) :: r else (g, x) :: putF f v r) (if g = f then (g, d) :: r' else (g, x') :: putD f d r')
    split
    · exact .cons ⟨rfl, h⟩ t
    · exact .cons ⟨rfl, k⟩ (put_pair h t)
theorem Wf.writeI {p C dx : Addr} {vs ws : List (Str × V)} (w : Wf S G H) (h : H p = some (.ins C dx vs)) (nf : G.F p = none) (nb : ¬ G.B p) : Wf S G (upd H p (.ins C dx ws)) := by
  have tb : LamX.Tabs S.Tb (upd H p (.ins C dx ws)) := fun q hq => by
    obtain ⟨ps, h1, h2, h3⟩ := w.tabs q hq
    have ne : ∀ {a : Addr} {o : HO}, H a = some o → (∀ C dx vs, o ≠ .ins C dx vs) → a ≠ p := fun {a o} h1 h2 z => by
      subst z
      rw [h] at h1
      cases h1
      exact h2 _ _ _ rfl
    refine ⟨ps, by rw [upd_ne (ne h1 (fun _ _ _ z => by cases z))]; exact h1, h2, fun pos cv hc => ?_⟩
    obtain ⟨c0, f1, f2⟩ := h3 pos cv hc
    exact ⟨c0, f1, by rw [upd_ne (ne f2 (fun _ _ _ z => by unfold LamX.CodeO at z; cases z))]; exact f2⟩
  refine ⟨fun a x e => ?_, fun b hb => ?_, w.tbl, tb⟩
  · have z : a ≠ p := by
      rintro rfl
      rw [nf] at e
      cases e
    rw [upd_ne z]
    exact w.sub _ _ e
  · obtain ⟨⟨c0, cs, h1, h2, h3⟩, h4⟩ := w.box b hb
    have z : b ≠ p := by
      rintro rfl
      exact nb hb
    exact ⟨⟨c0, cs, by rw [upd_ne z]; exact h1, h2, h3⟩, h4⟩
theorem Step.writeI {p C dx : Addr} {vs ws : List (Str × V)} (a : Step S G0 H0 G H) (h : H p = some (.ins C dx vs)) (nf : G.F p = none) (nb : ¬ G.B p) (n0 : Fr H0 p) : Step S G0 H0 G (upd H p (.ins C dx ws)) where
  w0 := a.w0
  wf := a.wf.writeI h nf nb
  fm := a.fm
  bm := a.bm
  keep := fun x o hx n t => by
    rw [upd_ne (n0.ne hx t)]
    exact a.keep x o hx n t
  nf := a.nf
  nb := a.nb
  there := fun x o hx t => by
    rw [upd_ne (n0.ne hx t)]
    exact a.there x o hx t
theorem StR.writeI {σ : L2.St} {ρ : Rho} {i : Nat} {p C dx : Addr} {fs fs' : List (Str × DV)} {vs ws : List (Str × V)} (one : ∀ (j : Nat) (q dq C : Addr) (fs : List (Str × DV)), ρ[j]? = some (some (.ini q dq C fs)) → j = i) (st : StR G H0 H σ ρ) (hi : ρ[i]? = some (some (.ini p dx C fs)))
    (hp : H p = some (.ins C dx vs)) (r : Paired (fun a b => a.1 = b.1 ∧ RV G a.2 b.2) ws fs') : StR G H0 (upd H p (.ins C dx ws)) σ (ρ.set i (some (.ini p dx C fs'))) := by
  obtain ⟨v, z1, vs', z2, z3, z4, z5, z6, z7⟩ := st.at_ i _ hi
  subst z2
  refine ⟨by rw [List.length_set, st.len], fun j x e => ?_, fun j k m m' q e1 e2 e3 e4 => ?_⟩
  · rcases set_some e with ⟨rfl, rfl⟩ | ⟨ne, e⟩
    · exact ⟨.ref p, z1, ws, rfl, upd_same, z4, z5, z6, r⟩
    · obtain ⟨v, h1, h2⟩ := st.at_ j x e
      refine ⟨v, h1, ?_⟩
      cases x with
      | dv d => exact h2
      | own l =>
        obtain ⟨q, us, g1, g2, g3, g4, g5, g6⟩ := h2
        exact ⟨q, us, g1, by rw [upd_ne (ne_of g2 hp (fun z => by cases z))]; exact g2, g3, g4, g5, g6⟩
      | ini q dq C' fs2 => exact absurd (one j _ _ _ _ e).symm ne
  · rcases set_some e1 with ⟨_, z⟩ | ⟨_, e1⟩
    · cases z
    rcases set_some e2 with ⟨_, z⟩ | ⟨_, e2⟩
    · cases z
    exact st.sep j k m m' q e1 e2 e3 e4
/-- no other slot holds an instance under way -/
def noIni : Rho → Bool
  | [] => true
  | some (.ini _ _ _ _) :: _ => false
  | _ :: r => noIni r
theorem noIni_no {ρ : Rho} (h : noIni ρ = true) : ∀ (i : Nat) (p dx C : Addr) (fs : List (Str × DV)), ρ[i]? ≠ some (some (.ini p dx C fs)) := by
  induction ρ with
  | nil => intro i p dx C fs e; cases e
  | cons x r ih =>
    intro i p dx C fs e
    cases x with
    | none =>
      cases i with
      | zero => cases e
      | succ i => exact ih h i p dx C fs (by simpa using e)
    | some y =>
      cases y with
      | ini _ _ _ _ => cases h
      | dv d =>
        cases i with
        | zero => cases e
        | succ i => exact ih h i p dx C fs (by simpa using e)
      | own d =>
        cases i with
        | zero => cases e
        | succ i => exact ih h i p dx C fs (by simpa using e)
/-- self.f = e, self in slot 0 -/
def dPutF (f : Str) (te : TD) : TSD := fun D ρ => match ρ with
  | some (.ini p dx C fs) :: r => (noIni r = true ∧ fs.length < 1000) ∧ te (some (.ini p dx C fs) :: r) (fun y => D.nx (some (.ini p dx C (putD f y fs)) :: r)) D.er
  | _ => False
theorem ls_putF {C : Addr} {f : Str} {Te : TE} {te : TD} (hC : Cls S.K C) (hN : NoAttr S.K C f) (he : LE S E Te te) : LS S E (sFld S.K (tVar 0) Te f) (fun D ρ => (∃ p dx fs r, ρ = some (.ini p dx C fs) :: r) ∧ dPutF f te D ρ) := by
  rintro G0 H0 Fb D Dd σ ρ G H a r ⟨⟨p, dx, fs, rr, rfl⟩, ⟨no, hl⟩, q⟩
  have e : (some (SV.ini p dx C fs) :: rr)[0]? = some (some (.ini p dx C fs)) := rfl
  obtain ⟨v0, z1, vs, rfl, z3, z4, z5, z6, z7⟩ := a.r.at_ 0 _ e
  refine he H0 _ σ G H _ _ _ a.s.wf a.r q (fun v d G1 H1 s1 rv q1 => ?_) (r.err a.s)
  have hp := s1.keep _ _ z3 z5 (fun z e => by cases e)
  have fp := s1.nf _ _ z3 trivial z4
  have bp := s1.nb _ _ z3 (fun z e => by cases e) z5
  have rp : Paired (fun a b => a.1 = b.1 ∧ RV G1 a.2 b.2) vs fs := Paired.mapP z7 fun _ _ z => ⟨z.1, z.2.mono s1.fm s1.bm⟩
  refine ⟨.ref p, z1, p, C, dx, vs, rfl, hp, hC, hN, by rw [Paired.length rp]; exact hl, ?_⟩
  have one : ∀ (j : Nat) (q dq C' : Addr) (fs' : List (Str × DV)), (some (SV.ini p dx C fs) :: rr)[j]? = some (some (.ini q dq C' fs')) → j = 0 := fun j q dq C' fs' e => by
    cases j with
    | zero => rfl
    | succ j => exact absurd (show rr[j]? = _ by simpa using e) (noIni_no no j q dq C' fs')
  exact r.nx _ _ _ _ ⟨(a.s.trans s1).writeI hp fp bp z6, StR.writeI one (a.r.step s1) e hp (put_pair rv rp), a.f.trans s1.fm⟩ q1
theorem pair_get {vs : List (Str × V)} {fs : List (Str × DV)} {n : Str} {d : DV} (h : Paired (fun a b => a.1 = b.1 ∧ RV G a.2 b.2) vs fs) : fs.lookup n = some d → ∃ v, vs.lookup n = some v ∧ RV G v d := by
  induction h with
  | nil => intro h; cases h
  | @cons a b l r hab t ih =>
    obtain ⟨e, k⟩ := hab
    intro h
    obtain ⟨g, x⟩ := a
    obtain ⟨g', y⟩ := b
    have e : g = g' := e
    subst e
    rw [List.lookup_cons] at h
    rw [List.lookup_cons]
    cases z : (n == g) with
    | true =>
      rw [z] at h
      cases h
      exact ⟨x, rfl, k⟩
    | false =>
      rw [z] at h
      exact ih h
/-- self.f where self is under way -/
def dFldI (f : Str) : TD := fun ρ Qd _ => match ρ with
  | some (.ini _ _ _ fs) :: _ => (match fs.lookup f with
    | some d => Qd d
    | none => False)
  | _ => False
theorem le_fldI {C : Addr} {f : Str} (hC : Cls S.K C) (hN : NoAttr S.K C f) : LE S E (tFld S.K (tVar 0) f) (fun ρ Qd Ed => (∃ p dx fs r, ρ = some (.ini p dx C fs) :: r) ∧ dFldI f ρ Qd Ed) := by
  rintro H0 ρ σ G H Qd Ed Q w st ⟨⟨p, dx, fs, rr, rfl⟩, q⟩ k ke
  obtain ⟨v0, z1, vs, rfl, z3, z4, z5, z6, z7⟩ := st.at_ 0 (.ini p dx C fs) rfl
  have q : (match fs.lookup f with | some d => Qd d | none => False) := q
  split at q
  · rename_i d e2
    obtain ⟨u, h1, h2⟩ := pair_get z7 e2
    exact ⟨.ref p, z1, p, C, dx, vs, u, rfl, z3, hC, hN, h1, k u d G H (Step.refl w) h2 q⟩
  · exact q.elim
/-! ### an instance is made -/
abbrev SpI := List DV → (List (Str × DV) → Prop) → (Er → Prop) → Prop
def lessI (H : Hp) (x dx : Addr) : Hp := fun a => if a = x ∨ a = dx then none else H a
def spDI (S : Sx) (n : Nat) (C : Addr) (sp : SpI) : Sp := fun vs H Q E => ∃ G x dx rest ds Qd Ed, vs = .ref x :: rest ∧ rest.length = n ∧ H x = some (.ins C dx []) ∧ H dx = some (.own x) ∧ dx ≠ x ∧ Wf S G (lessI H x dx) ∧ RVs G rest ds ∧ sp ds Qd Ed ∧
  (∀ fs vs G' H', Step S G (lessI H x dx) G' H' → H' x = some (.ins C dx vs) → G'.F x = none → ¬ G'.B x → Paired (fun a b => a.1 = b.1 ∧ RV G' a.2 b.2) vs fs → Qd fs → Q .non H') ∧
  (∀ e cls d G' H', Step S G (lessI H x dx) G' H' → ErAt G' H' cls d e → Ed e → E cls d H')
theorem rfs_of_pair {vs : List (Str × V)} {fs : List (Str × DV)} (h : Paired (fun a b => a.1 = b.1 ∧ RV G a.2 b.2) vs fs) (nd : (fs.map (·.1)).Nodup) : RFs G vs fs := by
  have main : ∀ (gs : List (Str × DV)), (∀ n d, (n, d) ∈ gs → fs.lookup n = some d) → RFs G vs gs := by
    intro gs
    induction gs with
    | nil => intro _; exact .nil
    | cons g gs ih =>
      intro hm
      obtain ⟨n, d⟩ := g
      obtain ⟨v, h1, h2⟩ := pair_get h (hm n d List.mem_cons_self)
      exact .cons h1 h2 (ih fun n d hx => hm n d (List.mem_cons_of_mem _ hx))
  refine main fs fun n d hm => ?_
  clear main h
  induction fs with
  | nil => cases hm
  | cons f fs ih =>
    obtain ⟨m, x⟩ := f
    rw [List.map_cons, List.nodup_cons] at nd
    rw [List.lookup_cons]
    rcases List.mem_cons.mp hm with z | z
    · cases z
      simp
    · have ne : (n == m) = false := by
        rw [beq_eq_false_iff_ne]
        rintro rfl
        exact nd.1 (List.mem_map.mpr ⟨(n, d), z, rfl⟩)
      rw [ne]
      exact ih nd.2 z
def dMake (C : Addr) (sp : SpI) (ta : TAD) : TD := fun ρ Qd Ed => ta ρ (fun ds => sp ds (fun fs => (fs.map (·.1)).Nodup ∧ Qd (.ins C fs)) Ed) Ed
theorem le_make {n : Nat} {C : Addr} {sp : SpI} {Ta : TA} {ta : TAD} (ha : LA n S E Ta ta) : LE S E (tMake C (spDI S n C sp) [] E Ta) (dMake C sp ta) := by
  intro H0 ρ σ G H Qd Ed Q w st q k ke
  refine ha H0 ρ σ G H _ Ed _ w st q (fun xs ds G1 H1 s1 hl rx q1 => ?_) ke
  intro x dx nx ndx ne
  have eq : lessI (upd (upd H1 dx (.own x)) x (.ins C dx [])) x dx = H1 := by
    funext a
    unfold lessI
    by_cases h : a = x ∨ a = dx
    · rw [if_pos h]
      rcases h with rfl | rfl
      · exact nx.symm
      · exact ndx.symm
    · rw [if_neg h, upd_ne (fun z => h (.inl z)), upd_ne (fun z => h (.inr z))]
  refine ⟨G1, x, dx, xs, ds, _, Ed, by rw [List.append_nil], hl, upd_same, by rw [upd_ne ne, upd_same], ne, by rw [eq]; exact s1.wf, rx, q1, fun fs vs G' H' s hx hf hb hp q => ⟨rfl, ?_⟩, fun e cls d G' H' s he h => ?_⟩
  · rw [eq] at s
    have fm : Same G'.F (G'.put x (.ins C dx vs)).F := same_upd (.inl hf)
    have hp' : Paired (fun a b => a.1 = b.1 ∧ RV (G'.put x (.ins C dx vs)) a.2 b.2) vs fs := Paired.mapP hp fun _ _ z => ⟨z.1, z.2.mono fm (fun _ h => h)⟩
    exact k (.ref x) _ (G'.put x (.ins C dx vs)) H' (s1.trans (s.freeze hx (fun z e => by cases e) (.of nx) hb)) (.ins put_same (rfs_of_pair hp' q.1)) q.2
  · rw [eq] at s
    exact ke e cls d G' H' (s1.trans s) he h
end
/-- the slots of __init__ at its start -/
def startI (N : List Str) (x dx C : Addr) (ds : List DV) : Rho := some (.ini x dx C []) :: startD N.tail ds
section
variable {P : Program} {w : World} {mg : Str → Option Value} {base : Heap} {S : Sx}
theorem startI_st {G : Gh} {H : Hp} {N : List Str} {rest : List V} {ds : List DV} {x dx C : Addr} (hN : N ≠ []) (hx : H x = some (.ins C dx [])) (w : Wf S G (lessI H x dx)) (r : RVs G rest ds) : StR G (lessI H x dx) H (L2.start N (.ref x :: rest)) (startI N x dx C ds) := by
  have s0 := startD_st (H := H) (N := N.tail) r
  have e : L2.start N (.ref x :: rest) = some (.ref x) :: L2.start N.tail rest := by
    cases N with
    | nil => exact absurd rfl hN
    | cons n N =>
      unfold L2.start
      simp
  have nx : lessI H x dx x = none := if_pos (.inl rfl)
  rw [e]
  refine ⟨by show (startD N.tail ds).length + 1 = (L2.start N.tail rest).length + 1; rw [s0.len], fun i y hy => ?_, fun i j l l' p e1 => ?_⟩
  · cases i with
    | zero =>
      cases hy
      exact ⟨.ref x, rfl, [], rfl, hx, w.free nx, w.box_ne nx, .of nx, .nil⟩
    | succ i =>
      have hy : (startD N.tail ds)[i]? = some (some y) := by simpa [startI] using hy
      obtain ⟨v, h1, h2⟩ := s0.at_ i y hy
      refine ⟨v, by simpa using h1, ?_⟩
      cases y with
      | dv d => exact h2
      | own l => exact absurd hy (fun z => by
          unfold startD at z
          rw [List.getElem?_append] at z
          split at z
          · rw [List.getElem?_map] at z
            cases q : ds[i]? with
            | none => rw [q] at z; cases z
            | some d => rw [q] at z; cases z
          · rw [List.getElem?_replicate] at z
            split at z <;> cases z)
      | ini p dx C fs => exact absurd hy (fun z => by
          unfold startD at z
          rw [List.getElem?_append] at z
          split at z
          · rw [List.getElem?_map] at z
            cases q : ds[i]? with
            | none => rw [q] at z; cases z
            | some d => rw [q] at z; cases z
          · rw [List.getElem?_replicate] at z
            split at z <;> cases z)
  · cases i with
    | zero => cases e1
    | succ i =>
      have e1 : (startD N.tail ds)[i]? = some (some (.own l)) := by simpa [startI] using e1
      unfold startD at e1
      rw [List.getElem?_append] at e1
      split at e1
      · rw [List.getElem?_map] at e1
        cases q : ds[i]? with
        | none => rw [q] at e1; cases e1
        | some d => rw [q] at e1; cases e1
      · rw [List.getElem?_replicate] at e1
        split at e1 <;> cases e1
/-- __init__ of the class at C, a def that may raise -/
theorem okDI {x qual : Str} {st : Stmt} {f C : Addr} {fd : FuncData} {N ps : List Str} {k : Nat} {sp : SpI} (F : Fun S.K x qual st f fd) (Sc : FnScope N ps (defScope st)) (hN : N ≠ [] := by simp) (hps : ps ≠ [] := by simp)
    (hb : ∀ (cdv : Value) (A : Around) (outer : List Env) (s : Shared) (H : Hp) (E : XK), Room k (A.deeper (envOfC qual (defScope st) s.heap.objs.size f cdv)) →
      ∃ T t, PSs (cxOf (L2.CX P w) P w S.K mg base N qual (defScope st) f cdv A outer s H E) (defBody st) T ∧ LS S E T t ∧ ∀ ds Qd Ed x dx, ds.length + 1 = ps.length → sp ds Qd Ed →
        t { nx := fun ρ => ∃ fs r, ρ = some (.ini x dx C fs) :: r ∧ Qd fs, rt := fun _ => False, er := Ed } (startI N x dx C ds)) :
    FnOk P w S.K mg base (L2.CX P w) (k + 1) f fd ps (spDI S (ps.length - 1) C sp) := by
  have len : ∀ (vs : List V) (rest : List V) (x : Addr), vs = V.ref x :: rest → rest.length = ps.length - 1 → vs.length = ps.length := fun vs rest x e h => by
    subst e
    have : 0 < ps.length := List.length_pos_iff.mpr hps
    rw [List.length_cons, h]
    omega
  refine F.okX Sc (fun vs H Q E ⟨_, x, _, rest, _, _, _, h, h2, _⟩ => len vs rest x h h2) (fun cdv A outer s H vs Q E hr h => ?_)
  obtain ⟨G, x, dx, rest, ds, Qd, Ed, rfl, hl, hx, hd, ne, wf, rv, q, k1, k2⟩ := h
  obtain ⟨T, t, h1, h2, h3⟩ := hb cdv A outer s H E hr
  have sm : Same (lessI H x dx) H := fun a o e => by
    unfold lessI at e
    split at e
    · cases e
    · exact e
  have pos : 0 < ps.length := List.length_pos_iff.mpr hps
  refine ⟨T, h1, h2 G (lessI H x dx) G.F _ { nx := fun ρ => ∃ fs r, ρ = some (.ini x dx C fs) :: r ∧ Qd fs, rt := fun _ => False, er := Ed } _ _ G H ⟨Step.same wf sm, startI_st hN hx wf rv, Same.refl _⟩ ?_ (h3 ds Qd Ed x dx (by rw [← Paired.length rv, hl]; omega) q)⟩
  refine ⟨fun σ ρ G' H' a ⟨fs, r, e, q⟩ => ?_, fun _ _ _ _ _ _ q => q.elim, fun _ _ _ _ _ q => q.elim, fun _ _ _ _ _ q => q.elim, fun e cls d G' H' s he q => k2 e cls d G' H' s he q⟩
  subst e
  obtain ⟨v, z1, vs, z2, z3, z4, z5, z6, z7⟩ := a.r.at_ 0 (.ini x dx C fs) rfl
  exact k1 fs vs G' H' a.s z3 z4 z5 z7 q
end
end Dl

set_option Elab.async false
set_option linter.all false
set_option maxRecDepth 100000
set_option maxHeartbeats 4000000
/-! the data layer: defs with defaults; what holds of any data -/
namespace Dl
open PySem PySem.Spec PyProof.Rows L2 Lx
section
variable {P : Program} {w : World} {mg : Str → Option Value} {base : Heap} {S : Sx}
theorem okD0D {x qual : Str} {params : Arguments} {body : List Stmt} {scope : Scope} {dvs : List V} {kws : List (Str × V)} {f : Addr} {fd : FuncData} {N ps : List Str} {k : Nat} {sp : SpD} (F : FunD S.K x qual params body scope dvs kws f fd) (Sc : FnScope N ps scope)
    (hb : ∀ (cdv : Value) (A : Around) (outer : List Env) (s : Shared) (H : Hp) (E : XK), Room k (A.deeper (envOfC qual scope s.heap.objs.size f cdv)) →
      ∃ T t, PSs (cxOf L2.CX0 P w S.K mg base N qual scope f cdv A outer s H E).nox body T ∧ LS S L2.E0 T t ∧ ∀ ds Qd Ed, ds.length = ps.length → sp ds Qd Ed → t { nx := fun _ => Qd .non, rt := Qd } (startD N ds)) :
    FnOk P w S.K mg base L2.CX0 (k + 1) f fd ps (spD S ps.length sp) := by
  refine F.ok Sc (fun vs H Q E ⟨_, _, _, _, h, _⟩ => h) (fun cdv A outer s H vs Q E hr h => ?_)
  obtain ⟨G, ds, Qd, Ed, hl, wf, rv, q, k1, k2⟩ := h
  obtain ⟨T, t, h1, h2, h3⟩ := hb cdv A outer s H E hr
  exact ⟨T, h1.nox, def_end wf rv h2 k1 (fun _ _ _ _ _ _ _ z => z.elim) (h3 ds Qd Ed (by rw [← hl]; exact (Paired.length rv).symm) q)⟩
theorem okDXD {x qual : Str} {params : Arguments} {body : List Stmt} {scope : Scope} {dvs : List V} {kws : List (Str × V)} {f : Addr} {fd : FuncData} {N ps : List Str} {k : Nat} {sp : SpD} (F : FunD S.K x qual params body scope dvs kws f fd) (Sc : FnScope N ps scope)
    (hb : ∀ (cdv : Value) (A : Around) (outer : List Env) (s : Shared) (H : Hp) (E : XK), Room k (A.deeper (envOfC qual scope s.heap.objs.size f cdv)) →
      ∃ T t, PSs (cxOf (L2.CX P w) P w S.K mg base N qual scope f cdv A outer s H E) body T ∧ LS S E T t ∧ ∀ ds Qd Ed, ds.length = ps.length → sp ds Qd Ed → t { nx := fun _ => Qd .non, rt := Qd, er := Ed } (startD N ds)) :
    FnOk P w S.K mg base (L2.CX P w) (k + 1) f fd ps (spD S ps.length sp) := by
  refine F.ok Sc (fun vs H Q E ⟨_, _, _, _, h, _⟩ => h) (fun cdv A outer s H vs Q E hr h => ?_)
  obtain ⟨G, ds, Qd, Ed, hl, wf, rv, q, k1, k2⟩ := h
  obtain ⟨T, t, h1, h2, h3⟩ := hb cdv A outer s H E hr
  exact ⟨T, h1, def_end wf rv h2 k1 k2 (h3 ds Qd Ed (by rw [← hl]; exact (Paired.length rv).symm) q)⟩
end
/-- the ints from lo to hi, if there is one -/
def numD (v : PyData) (lo : Int) (hi : Option Int) : Bool := match v with
  | .int i => decide (lo ≤ i) && (match hi with
    | some h => decide (i ≤ h)
    | none => true)
  | _ => false
/-- a list or a tuple of that many -/
def seqB (v : PyData) (lo hi : Int) : Bool := match v with
  | .list l => decide (lo ≤ (l.length : Int)) && decide ((l.length : Int) ≤ hi)
  | .tuple l => decide (lo ≤ (l.length : Int)) && decide ((l.length : Int) ≤ hi)
  | _ => false
def itemsD (v : PyData) : List PyData := match v with
  | .list l => l
  | .tuple l => l
  | _ => []
theorem bool_cases {p : Bool → Prop} (b : Bool) (h1 : b = true → p true) (h2 : b = false → p false) : p b := by
  cases b
  · exact h2 rfl
  · exact h1 rfl
end Dl

set_option Elab.async false
set_option linter.all false
set_option maxRecDepth 100000
set_option maxHeartbeats 4000000
/-! the data layer: loops and comprehensions by their turns -/
namespace Dl
open PySem PySem.Spec PyProof.Rows L2 Lx
/-- a for, turn by turn: I tells what holds where these items are left -/
theorem loop_ind {g : Tg} {body : TSD} {D : EndsD} (I : List PyData → Rho → Prop) (h0 : ∀ ρ, I [] ρ → D.nx ρ)
    (hs : ∀ (d : PyData) (ds : List PyData) (ρ : Rho) (K : Rho → Prop), (∀ ρ, I ds ρ → K ρ) → I (d :: ds) ρ → match g.put ρ d with
      | some ρ' => body { D with nx := K, ct := K, bk := D.nx } ρ'
      | none => False) : ∀ (l : List PyData) (ρ : Rho), I l ρ → dLoop g body D l ρ
  | [], ρ, h => h0 ρ h
  | d :: ds, ρ, h => hs d ds ρ (dLoop g body D ds) (loop_ind I h0 hs ds) h
/-- a comprehension, turn by turn -/
theorem turns_ind {g : Tg} {tt : TTD} {te : TD} {Ed : Er → Prop} {Qd : List PyData → Prop} {ρ : Rho} (I : List PyData → List PyData → Prop) (h0 : ∀ acc, I [] acc → Qd acc)
    (hs : ∀ (d : PyData) (ds acc : List PyData) (K : List PyData → Prop), (∀ acc, I ds acc → K acc) → I (d :: ds) acc → match g.put ρ d with
      | some ρ' => tt ρ' (fun b => if b = true then te ρ' (fun y => match y with
        | .py y => acc.length < 1000000 ∧ K (acc ++ [y])
        | _ => False) Ed
      else K acc) Ed
      | none => False) : ∀ (l acc : List PyData), I l acc → dTurns g tt te Ed Qd ρ l acc
  | [], acc, h => h0 acc h
  | d :: ds, acc, h => by
    have z := hs d ds acc (dTurns g tt te Ed Qd ρ ds) (turns_ind I h0 hs ds) h
    unfold dTurns
    split at z
    · rename_i ρ' e
      first
        | exact z
        | (rw [e]; exact z)
    · exact z.elim
/-- a comprehension that maps and filters -/
theorem turns_fm {g : Tg} {tt : TTD} {te : TD} {Ed : Er → Prop} {Qd : List PyData → Prop} {ρ : Rho} {l : List PyData} (p : PyData → Bool) (f : PyData → PyData) (hl : l.length ≤ 900000)
    (hs : ∀ d ∈ l, ∃ ρ', g.put ρ d = some ρ' ∧ (∀ K : Bool → Prop, K (p d) → tt ρ' K Ed) ∧ (p d = true → ∀ K : DV → Prop, K (.py (f d)) → te ρ' K Ed)) (h : Qd ((l.filter p).map f)) : dTurns g tt te Ed Qd ρ l [] := by
  refine turns_ind (fun ds acc => (∀ d ∈ ds, d ∈ l) ∧ acc.length + ds.length ≤ l.length ∧ Qd (acc ++ (ds.filter p).map f)) (fun acc h => by simpa using h.2.2) ?_ l [] ⟨fun _ h => h, by simp, by simpa using h⟩
  rintro d ds acc K hK ⟨hm, hlen, hq⟩
  obtain ⟨ρ', e, h1, h2⟩ := hs d (hm d List.mem_cons_self)
  rw [e]
  rw [List.length_cons] at hlen
  show tt ρ' _ Ed
  refine h1 _ ?_
  cases hp : p d with
  | true =>
    rw [if_pos rfl]
    refine h2 hp _ ⟨by omega, hK _ ⟨fun x hx => hm x (List.mem_cons_of_mem _ hx), by rw [List.length_append]; show acc.length + 1 + ds.length ≤ _; omega, ?_⟩⟩
    rw [List.filter_cons_of_pos (by simpa using hp)] at hq
    rw [List.append_assoc]
    exact hq
  | false =>
    rw [if_neg Bool.false_ne_true]
    refine hK _ ⟨fun x hx => hm x (List.mem_cons_of_mem _ hx), by omega, ?_⟩
    rw [List.filter_cons_of_neg (by simp [hp])] at hq
    exact hq
/-- .. that only maps -/
theorem turns_map {g : Tg} {te : TD} {Ed : Er → Prop} {Qd : List PyData → Prop} {ρ : Rho} {l : List PyData} (f : PyData → PyData) (hl : l.length ≤ 900000)
    (hs : ∀ d ∈ l, ∃ ρ', g.put ρ d = some ρ' ∧ ∀ K : DV → Prop, K (.py (f d)) → te ρ' K Ed) (h : Qd (l.map f)) : dTurns g dYes te Ed Qd ρ l [] := by
  refine turns_fm (fun _ => true) f hl (fun d hd => ?_) (by rw [List.filter_eq_self.mpr fun _ _ => rfl]; exact h)
  obtain ⟨ρ', e, k⟩ := hs d hd
  exact ⟨ρ', e, fun K h => h, fun _ K h => k K h⟩
/-- enumerate, from a number on -/
def enumR : Nat → List PyData → List PyData
  | _, [] => []
  | k, d :: ds => .tuple [.int (k : Nat), d] :: enumR (k + 1) ds
theorem enumR_get : ∀ (l : List PyData) (k i : Nat), (enumR k l)[i]? = (l[i]?).map fun d => .tuple [.int ((k + i : Nat) : Int), d]
  | [], k, i => by simp [enumR]
  | d :: ds, k, 0 => by simp [enumR]
  | d :: ds, k, i + 1 => by
    show (enumR (k + 1) ds)[i]? = _
    rw [enumR_get ds (k + 1) i, List.getElem?_cons_succ]
    congr 1
    funext d
    rw [show k + 1 + i = k + (i + 1) by omega]
theorem enumD_R (l : List PyData) : enumD l = enumR 0 l := by
  apply List.ext_getElem?
  intro i
  rw [enumR_get]
  cases e : l[i]? with
  | none =>
    have : l.length ≤ i := List.getElem?_eq_none_iff.mp e
    rw [List.getElem?_eq_none (by rw [enumD_len]; exact this)]
    rfl
  | some d =>
    rw [enumD_get e, Nat.zero_add]
    rfl
/-- the numbers from a number on -/
def rangeR : Int → Nat → List PyData
  | _, 0 => []
  | lo, n + 1 => .int lo :: rangeR (lo + 1) n
theorem rangeD_R : ∀ (lo : Int) (n : Nat), rangeD lo n = rangeR lo n
  | lo, 0 => rfl
  | lo, n + 1 => by
    unfold rangeD
    rw [List.range_succ_eq_map, List.map_cons, List.map_map]
    show _ :: _ = .int lo :: rangeR (lo + 1) n
    rw [← rangeD_R (lo + 1) n]
    congr 1
    · simp
    · unfold rangeD
      apply List.map_congr_left
      intro i _
      show PyData.int (lo + ((i + 1 : Nat) : Int)) = PyData.int (lo + 1 + (i : Int))
      congr 1
      omega
theorem mem_rangeD {lo : Int} {n : Nat} {d : PyData} : d ∈ rangeD lo n ↔ ∃ i : Nat, i < n ∧ d = .int (lo + i) := by
  unfold rangeD
  rw [List.mem_map]
  constructor
  · rintro ⟨i, hi, rfl⟩
    exact ⟨i, List.mem_range.mp hi, rfl⟩
  · rintro ⟨i, hi, rfl⟩
    exact ⟨i, List.mem_range.mpr hi, rfl⟩
end Dl
namespace Dl
open PySem PySem.Spec PyProof.Rows L2 Lx
/-- tuple(reversed(x)), x a list -/
def dTupRev (te : TD) : TD := fun ρ Qd Ed => te ρ (fun d => match d with
  | .py (.list l) => Qd (.tup l.reverse)
  | _ => False) Ed
theorem rpa_rev {F : Hp} : ∀ {xs : List V} {l : List PyData}, RpA F xs l → RpA F xs.reverse l.reverse
  | _, _, .nil => .nil
  | x :: xs, d :: ds, .cons r t => by
    rw [List.reverse_cons, List.reverse_cons]
    exact rpa_app (rpa_rev t) (.cons r .nil)
theorem le_tupRev {S : Sx} {E : XK} {Te : TE} {te : TD} (h : LE S E Te te) : LE S E (RT.tTupRev S.K Te) (dTupRev te) := by
  intro H0 ρ σ G H Qd Ed Q wf st q k ke
  refine h H0 ρ σ G H _ Ed _ wf st q (fun v d G1 H1 s1 rv q1 => ?_) ke
  split at q1
  · obtain ⟨p, xs, rfl, h1, h2⟩ := rv_lst rv
    exact ⟨p, xs, rfl, .inl (.inl (s1.wf.sub _ _ h1)), fun t nt => k _ _ _ _ (s1.trans (Step.newF (o := .tup xs.reverse) s1.wf nt (fun z e => by cases e))) (.py (.tup put_same (RpA.mono (same_upd (.inl (s1.wf.free nt))) _ _ (rpa_rev h2)))) q1⟩
  · exact q1.elim
end Dl

set_option Elab.async false
set_option linter.all false
set_option maxRecDepth 100000
set_option maxHeartbeats 4000000
/-! the data layer: the box of draws -/
namespace Dl
open PySem PySem.Spec PyProof.Rows L2 Lx
section
variable {S : Sx} {E : XK} {G G0 : Gh} {H H0 : Hp}
/-- a new list becomes a box -/
theorem Step.toBox {p : Addr} {c0 : Int} {cs : List Int} (a : Step S G0 H0 G H) (n0 : Fr H0 p) (h : H p = some (.lst (.int c0 :: cs.map V.int))) (hl : cs.length + 1 = S.nb) (h0 : 0 ≤ c0) (nf : G.F p = none) : Step S G0 H0 ⟨G.F, fun b => G.B b ∨ b = p⟩ H where
  w0 := a.w0
  wf := ⟨a.wf.sub, fun b hb => by
    rcases hb with hb | rfl
    · exact a.wf.box b hb
    · exact ⟨⟨c0, cs, h, hl, h0⟩, nf⟩, a.wf.tbl, a.wf.tabs⟩
  fm := a.fm
  bm := fun b hb => .inl (a.bm b hb)
  keep := a.keep
  nf := a.nf
  nb := fun x o hx t n => by
    rintro (z | rfl)
    · exact a.nb x o hx t n z
    · exact n0.ne hx t rfl
  there := a.there
def isBox (n : Nat) (l : List PyData) : Prop := l.length = n ∧ ∃ (c0 : Int) (cs : List Int), l = .int c0 :: cs.map .int ∧ 0 ≤ c0
def dNewBox (n : Nat) (t : TOD) : TD := fun ρ Qd Ed => t ρ (fun l => isBox n l ∧ Qd .box) Ed
theorem le_newBox {T : TE} {t : TOD} (h : LO S E T t) : LE S E T (dNewBox S.nb t) := by
  intro H0 ρ σ G H Qd Ed Q wf st q k ke
  refine h H0 ρ σ G H _ Ed _ wf st q (fun p vs l G1 H1 s1 n hp nf nb r q1 => ?_) ke
  obtain ⟨⟨hl, c0, cs, rfl, h0⟩, q1⟩ := q1
  have e : vs = .int c0 :: cs.map V.int := by
    have z := rpa_ints (ns := c0 :: cs) r
    exact z
  subst e
  refine k (.ref p) .box _ H1 (s1.toBox n hp (by rw [← hl]; simp) h0 nf) (.box (.inr rfl)) q1
/-- box[k] = e -/
def dBoxPut (n i : Nat) (k : Int) (te : TD) : TSD := fun D ρ => match ρ[i]? with
  | some (some (.dv .box)) => (0 ≤ k ∧ k < n) ∧ te ρ (fun y => match y with
    | .py (.int c) => (k = 0 → 0 ≤ c) ∧ D.nx ρ
    | _ => False) D.er
  | _ => False
theorem ls_boxPut {i : Nat} {k : Int} {Te : TE} {te : TD} (he : LE S E Te te) : LS S E (tAsg Te (gSub (tVar i) (tC (.int k)) rSetL)) (dBoxPut S.nb i k te) := by
  intro G0 H0 Fb D Dd σ ρ G H a r q
  unfold dBoxPut at q
  split at q
  · rename_i e
    obtain ⟨⟨k0, k1⟩, q⟩ := q
    obtain ⟨v0, z1, z2⟩ := a.r.at_ i _ e
    cases z2 with
    | @box b hb =>
      refine he H0 ρ σ G H _ _ _ a.s.wf a.r q (fun v d G1 H1 s1 rv q1 => ?_) (r.err a.s)
      split at q1
      · rename_i c
        cases rv_int rv
        obtain ⟨j, rfl⟩ := Int.eq_ofNat_of_zero_le k0
        have hb1 := s1.bm b hb
        obtain ⟨⟨c0, cs, h1, h2, h3⟩, hf⟩ := s1.wf.box b hb1
        have lt : j < (c0 :: cs).length := by rw [List.length_cons, h2]; omega
        have hn : ixN (V.int c0 :: cs.map V.int).length (j : Int) = some j := by
          have : (V.int c0 :: cs.map V.int).length = (c0 :: cs).length := by simp
          unfold ixN
          rw [if_pos (by omega), if_pos (by omega)]
          rfl
        refine ⟨.ref b, z1, b, _, _, j, rfl, rfl, h1, hn, ?_⟩
        have box' : BoxN S.nb (upd H1 b (.lst ((V.int c0 :: cs.map V.int).set j (.int c)))) b := by
          cases j with
          | zero => exact ⟨c, cs, upd_same, h2, q1.1 rfl⟩
          | succ j => exact ⟨c0, cs.set j c, by rw [upd_same, List.map_set]; rfl, by rw [List.length_set]; exact h2, h3⟩
        have st := s1.trans (Step.draw s1.wf hb1 (fun x o hx n => by rw [upd_ne n]; exact hx) box')
        exact r.nx _ _ _ _ (a.on st) q1.2
      · exact q1.elim
  · exact q.elim
end
end Dl

set_option Elab.async false
set_option linter.all false
set_option maxRecDepth 100000
set_option maxHeartbeats 4000000
/-! the data layer: a lambda handed to a def that calls it -/
namespace Dl
open PySem PySem.Spec PyProof.Rows L2 Lx
/-- what a def makes of a lambda, over data -/
def LH (S : Sx) (TT : (XK → Hp → VK → Prop) → Hp → VK → Prop) (f : TD → TD) : Prop := ∀ (T : XK → TE) (t : TD), (∀ E', LE S E' (T E') t) → ∀ (E : XK) (H0 : Hp) (ρ : Rho) (σ : L2.St) (G : Gh) (H : Hp) (Qd : DV → Prop) (Ed : Er → Prop) (Q : VK), Wf S G H → StR G H0 H σ ρ → f t ρ Qd Ed →
  (∀ v d G' H', Step S G H G' H' → RV G' v d → Qd d → Q v H') → (∀ e cls d G' H', Step S G H G' H' → ErAt G' H' cls d e → Ed e → E cls d H') → TT (fun E' H' Q' => T E' σ H' Q') H Q
theorem le_lamG {S : Sx} {E : XK} {TT : (XK → Hp → VK → Prop) → Hp → VK → Prop} {f : TD → TD} {T : XK → TE} {t : TD} (hT : LH S TT f) (h : ∀ E', LE S E' (T E') t) : LE S E (tLamG S.Tb TT T) (f t) := by
  intro H0 ρ σ G H Qd Ed Q w st q k ke
  refine ⟨w.tabs, fun H1 e1 t1 => ?_⟩
  have s1 := Step.lam w e1 t1
  exact hT T t h E H0 ρ σ G H1 Qd Ed Q s1.wf (st.step s1) q (fun v d G' H' s rv q => k v d G' H' (s1.trans s) rv q) (fun e cls d G' H' s he q => ke e cls d G' H' (s1.trans s) he q)
theorem rv_tup_new {S : Sx} {G : Gh} {H H' : Hp} {p : Addr} {xs : List V} {l : List PyData} (w : Wf S G H) (sm : Same H H') (np : H p = none) (hp : H' p = some (.tup xs)) (r : RpA G.F xs l) : Step S G H (G.put p (.tup xs)) H' ∧ RV (G.put p (.tup xs)) (.ref p) (.tup l) := by
  have s1 := Step.same w sm
  exact ⟨s1.freezeT hp (w.box_ne np), .py (.tup put_same (RpA.mono (same_upd (.inl (w.free np))) _ _ r))⟩
end Dl

set_option Elab.async false
set_option linter.all false
set_option maxRecDepth 100000
set_option maxHeartbeats 4000000
/-! the data layer: comprehensions over ranges -/
namespace Dl
open PySem PySem.Spec PyProof.Rows L2 Lx
theorem turns_rg {g : Tg} {tt : TTD} {te : TD} {Ed : Er → Prop} {Qd : List PyData → Prop} {ρ : Rho} {lo : Int} {n : Nat} (p : Nat → Bool) (f : Nat → PyData) (hl : n ≤ 900000)
    (hs : ∀ i, i < n → ∃ ρ', g.put ρ (.int (lo + (i : Nat))) = some ρ' ∧ (∀ K : Bool → Prop, K (p i) → tt ρ' K Ed) ∧ (p i = true → ∀ K : DV → Prop, K (.py (f i)) → te ρ' K Ed)) (h : Qd (((List.range n).filter p).map f)) : dTurns g tt te Ed Qd ρ (rangeD lo n) [] := by
  have back : ∀ i : Nat, (lo + (i : Int) - lo).toNat = i := fun i => by omega
  refine turns_fm (fun d => match d with | .int j => p (j - lo).toNat | _ => false) (fun d => match d with | .int j => f (j - lo).toNat | _ => .none) (by rw [rangeD_len]; exact hl) (fun d hd => ?_) ?_
  · obtain ⟨i, hi, rfl⟩ := mem_rangeD.mp hd
    obtain ⟨ρ', e, h1, h2⟩ := hs i hi
    refine ⟨ρ', e, fun K hK => h1 K ?_, fun hp K hK => h2 ?_ K ?_⟩
    · simpa [back] using hK
    · simpa [back] using hp
    · simpa [back] using hK
  · have z : ((rangeD lo n).filter fun d => match d with | .int j => p (j - lo).toNat | _ => false).map (fun d => match d with | .int j => f (j - lo).toNat | _ => .none) = ((List.range n).filter p).map f := by
      unfold rangeD
      rw [List.filter_map, List.map_map]
      have e1 : ((fun d => match d with | PyData.int j => p (j - lo).toNat | _ => false) ∘ fun (i : Nat) => PyData.int (lo + (i : Nat))) = p := by
        funext i
        show p (lo + (i : Int) - lo).toNat = _
        rw [back]
      rw [e1]
      apply List.map_congr_left
      intro i _
      show f (lo + (i : Int) - lo).toNat = _
      rw [back]
    rw [z]
    exact h
/-- .. that only maps -/
theorem turns_rgm {g : Tg} {te : TD} {Ed : Er → Prop} {Qd : List PyData → Prop} {ρ : Rho} {lo : Int} {n : Nat} (f : Nat → PyData) (hl : n ≤ 900000)
    (hs : ∀ i, i < n → ∃ ρ', g.put ρ (.int (lo + (i : Nat))) = some ρ' ∧ ∀ K : DV → Prop, K (.py (f i)) → te ρ' K Ed) (h : Qd ((List.range n).map f)) : dTurns g dYes te Ed Qd ρ (rangeD lo n) [] := by
  refine turns_rg (fun _ => true) f hl (fun i hi => ?_) (by rw [List.filter_eq_self.mpr fun _ _ => rfl]; exact h)
  obtain ⟨ρ', e, k⟩ := hs i hi
  exact ⟨ρ', e, fun K h => h, fun _ K h => k K h⟩
/-- a list of draws: whatever they are, they keep to p -/
theorem turns_any {g : Tg} {te : TD} {Ed : Er → Prop} {Qd : List PyData → Prop} {ρ : Rho} {l : List PyData} (p : PyData → Prop) (hl : l.length ≤ 900000)
    (hs : ∀ d ∈ l, ∃ ρ', g.put ρ d = some ρ' ∧ ∀ K : DV → Prop, (∀ x, p x → K (.py x)) → te ρ' K Ed) (h : ∀ xs : List PyData, xs.length = l.length → (∀ x ∈ xs, p x) → Qd xs) : dTurns g dYes te Ed Qd ρ l [] := by
  refine turns_ind (fun ds acc => (∀ d ∈ ds, d ∈ l) ∧ acc.length + ds.length = l.length ∧ ∀ x ∈ acc, p x) (fun acc ha => h acc (by simpa using ha.2.1) ha.2.2) ?_ l [] ⟨fun _ h => h, by simp, fun x hx => by cases hx⟩
  rintro d ds acc K hK ⟨hm, hlen, hq⟩
  obtain ⟨ρ', e, h1⟩ := hs d (hm d List.mem_cons_self)
  rw [e]
  rw [List.length_cons] at hlen
  show dYes ρ' _ Ed
  simp only [dYes, if_true]
  refine h1 _ fun x hx => ⟨by omega, hK _ ⟨fun y hy => hm y (List.mem_cons_of_mem _ hy), by rw [List.length_append]; show acc.length + 1 + ds.length = _; omega, fun y hy => ?_⟩⟩
  rcases List.mem_append.mp hy with hy | hy
  · exact hq y hy
  · rw [List.mem_singleton.mp hy]
    exact hx
end Dl
namespace Dl
open PySem PySem.Spec PyProof.Rows L2 Lx
/-- a list, so many times -/
def fRep : FO2 := fun x y Q => match x, y with
  | .py (.list a), .py (.int k) => -(2 ^ 62) ≤ k ∧ k < 2 ^ 62 ∧ a.length * k.toNat ≤ 1000000 ∧ Q (List.replicate k.toNat a).flatten
  | _, _ => False
theorem l2o_rep {S : Sx} : L2o S rRep fRep := by
  intro G H x y dx dy Qd Q w rx ry q k
  unfold fRep at q
  split at q
  · rename_i a i
    obtain ⟨p, xs, rfl, h1, h2⟩ := rv_lst rx
    cases rv_int ry
    exact ⟨p, i, xs, rfl, rfl, w.sub _ _ h1, by have := q.1; omega, by have := q.2.1; omega, by rw [rp_len h2, sizeLine_eq]; have := q.2.2.1; omega, fun t nt =>
      k t _ _ G _ (Step.new w nt) (.of nt) upd_same (w.free nt) (w.box_ne nt) (rpa_rep h2 _) q.2.2.2⟩
  · exact q.elim
end Dl
namespace Dl
open PySem PySem.Spec PyProof.Rows L2 Lx
/-! ### ==, != of two texts -/
def fEqS (neg : Bool) : F2 := fun x y Q => match x, y with
  | .py (.str i), .py (.str j) => Q (.bl (decide (i = j) != neg))
  | _, _ => False
theorem l2_eqS {S : Sx} : L2r S rEq (fEqS false) := by
  intro G H x y dx dy Qd Q w rx ry q k
  unfold fEqS at q
  split at q
  · rename_i i j
    rw [rv_str rx, rv_str ry]
    refine ⟨rfl, k _ (.bl (decide (i = j))) G H (Step.refl w) (.py ?_) (by simpa using q)⟩
    rw [show decide (V.str i = V.str j) = decide (i = j) by simp]
    exact .bl _
  · exact q.elim
theorem l2_neS {S : Sx} : L2r S rNe (fEqS true) := by
  intro G H x y dx dy Qd Q w rx ry q k
  unfold fEqS at q
  split at q
  · rename_i i j
    rw [rv_str rx, rv_str ry]
    refine ⟨rfl, k _ (.bl (!decide (i = j))) G H (Step.refl w) (.py ?_) (by simpa using q)⟩
    rw [show decide (V.str i = V.str j) = decide (i = j) by simp]
    exact .bl _
  · exact q.elim
end Dl

set_option Elab.async false
set_option linter.all false
set_option maxRecDepth 100000
set_option maxHeartbeats 4000000
/-! the data layer: defs with lambdas; list(range(n)); texts that show data -/
namespace Dl
open PySem PySem.Spec PyProof.Rows L2 Lx
section
variable {P : Program} {w : World} {mg : Str → Option Value} {base : Heap} {S : Sx} {E : XK}
/-- a def that makes lambdas -/
theorem okDT {x qual : Str} {st : Stmt} {f c : Addr} {fd : FuncData} {N ps : List Str} {k : Nat} {sp : SpD} (F : Fun S.K x qual st f fd) (hcode : fd.code = .ref c) (Sc : FnScope N ps (defScope st))
    (hb : ∀ (A : Around) (outer : List Env) (s : Shared) (H : Hp) (E : XK), Room k (A.deeper (envOfC qual (defScope st) s.heap.objs.size f (.ref c))) → A.guards = some [] →
      ∃ T t, PSs (cxOf L2.CX0 P w S.K mg base N qual (defScope st) f (.ref c) A outer s H E).nox (defBody st) T ∧ LS S L2.E0 T t ∧ ∀ ds Qd Ed, ds.length = ps.length → sp ds Qd Ed → t { nx := fun _ => Qd .non, rt := Qd } (startD N ds)) :
    FnOkG P w S.K mg base L2.CX0 (k + 1) f fd ps (spD S ps.length sp) := by
  refine okT F hcode Sc (fun vs H Q E ⟨_, _, _, _, h, _⟩ => h) (fun A outer s H vs Q E hr hg h => ?_)
  obtain ⟨G, ds, Qd, Ed, hl, wf, rv, q, k1, k2⟩ := h
  obtain ⟨T, t, h1, h2, h3⟩ := hb A outer s H E hr hg
  exact ⟨T, h1, def_end wf rv h2 k1 (fun _ _ _ _ _ _ _ z => z.elim) (h3 ds Qd Ed (by rw [← hl]; exact (Paired.length rv).symm) q)⟩
/-- list(range(n)) -/
def oListRg (te : TD) : TOD := fun ρ Qd Ed => te ρ (fun d => match d with
  | .py (.int n) => 0 ≤ n ∧ n ≤ 1000000 ∧ Qd (rangeD 0 n.toNat)
  | _ => False) Ed
theorem rgV_data {F : Hp} {n : Nat} : RpA F (rgV 0 (n : Nat)) (rangeD 0 n) := by
  have h : ∀ (lo : Int) (m : Nat), RpA F ((List.range m).map fun i => V.int (lo + (i : Nat))) ((List.range m).map fun i => PyData.int (lo + (i : Nat))) := fun lo m => by
    induction m with
    | zero => exact .nil
    | succ m ih =>
      rw [List.range_succ, List.map_append, List.map_append]
      exact rpa_app ih (.cons (.int _) .nil)
  unfold rgV rangeD
  rw [show ((n : Int) - 0).toNat = n by omega]
  exact h 0 n
theorem lo_listRg {Te : TE} {te : TD} (h : LE S E Te te) : LO S E (tLstRg (tRg1 Te)) (oListRg te) := by
  intro H0 ρ σ G H Qd Ed Q wf st q k ke
  refine h H0 ρ σ G H _ Ed _ wf st q (fun v d G1 H1 s1 rv q1 => ?_) ke
  split at q1
  · rename_i n
    cases rv_int rv
    obtain ⟨n0, n1, q1⟩ := q1
    obtain ⟨m, rfl⟩ := Int.eq_ofNat_of_zero_le n0
    refine ⟨_, rfl, ⟨by omega, by omega, by omega, by omega, by omega⟩, fun t nt => ?_⟩
    exact k t _ _ G1 _ (s1.trans (Step.new s1.wf nt)) (s1.was_free (.of nt)) upd_same (s1.wf.free nt) (s1.wf.box_ne nt) rgV_data (by simpa using q1)
  · exact q1.elim
end
/-- its characters are characters -/
def Chars (x : Str) : Prop := (PyData.str x).canLay0 = true
instance (x : Str) : Decidable (Chars x) := inferInstanceAs (Decidable (_ = true))
theorem rep0 : RepOk (.str "0") := ⟨0, 1, ⟨by decide +kernel, Nat.le_refl _, by decide +kernel, by decide +kernel, rfl, by decide +kernel⟩, by decide, by decide⟩
theorem rep1 : RepOk (.str "1") := ⟨0, 1, ⟨by decide +kernel, Nat.le_refl _, by decide +kernel, by decide +kernel, rfl, by decide +kernel⟩, by decide, by decide⟩
theorem chars_int : ∀ M : Fin 402, Chars (PyData.int ((M.val : Nat) : Int)).shown := by decide +kernel
/-- a value that an ear can tell of -/
def Told (d : PyData) : Prop := RepOk d ∧ Chars d.shown
theorem told_int {M : Nat} (h : M ≤ 401) : Told (.int (M : Nat)) := ⟨(neat_int (i := ((M : Nat) : Int)) (by omega)).rep, chars_int ⟨M, by omega⟩⟩
theorem told_neg : Told (.int (-1)) := ⟨(neat_int (i := -1) (by decide)).rep, by decide +kernel⟩
theorem told_none : Told .none := ⟨neat_none.rep, by decide +kernel⟩
theorem told_bool (b : Bool) : Told (.bool b) := ⟨(neat_bool b).rep, by cases b <;> decide +kernel⟩
theorem told0 : Told (.str "0") := ⟨rep0, by decide +kernel⟩
theorem told1 : Told (.str "1") := ⟨rep1, by decide +kernel⟩
theorem shp_told {a b : Str} (ha : Chars a) (hb : Chars b) : shp (.tuple [.str a, .str b, .bool true]) = true := by
  show ((PyData.str a).canLay0 && ((PyData.str b).canLay0 && (true && true)) && true) = true
  rw [ha, hb]
  rfl
theorem eqv_told (a b : Str) : PyData.eqv (.tuple [.str a, .str b, .bool true]) (.tuple [.str a, .str b, .bool true]) = true := by
  simp [PyData.eqv, PyData.eqvAll]
theorem shp_row {a : Str} (ha : Chars a) (i : Int) : shp (.tuple [.str a, .int i, .bool true]) = true := by
  show ((PyData.str a).canLay0 && (true && (true && true)) && true) = true
  rw [ha]
  rfl
theorem eqv_row (a : Str) (i : Int) : PyData.eqv (.tuple [.str a, .int i, .bool true]) (.tuple [.str a, .int i, .bool true]) = true := by
  simp [PyData.eqv, PyData.eqvAll]
end Dl

set_option Elab.async false
set_option linter.all false
set_option maxRecDepth 100000
set_option maxHeartbeats 4000000
/-! the data layer: lists of lambdas, a lambda that a lambda calls -/
namespace Dl
open PySem PySem.Spec PyProof.Rows L2 Lx
theorem work_same {X : Cx} {k : Nat} {f : Addr} {F F' : Hp} {x : Str} {sp : XK → TE} (e : Same F F') (h : WorkAt X k f F x sp) : WorkAt X k f F' x sp := by
  obtain ⟨params, body, sc, cc, h1, h2, h3⟩ := h
  exact ⟨params, body, sc, cc, e _ _ h1, e _ _ h2, h3⟩
/-- a lambda of one value x that X's frame made -/
def lamW (X : Cx) (k : Nat) (x : Str) (sp : XK → TE) : LamW := ⟨fun F f => WorkAt X k f F x sp, fun e h => work_same e h⟩
section
variable {S : Sx} {E : XK} {G G0 : Gh} {H H0 : Hp}
theorem StR.app {σ : L2.St} {ρ : Rho} {v : V} {d : DV} (st : StR G H0 H σ ρ) (h : RV G v d) : StR G H0 H (σ ++ [some v]) (ρ ++ [some (.dv d)]) := by
  have get : ∀ (j : Nat) (x : SV), (ρ ++ [some (SV.dv d)])[j]? = some (some x) → (j < ρ.length ∧ ρ[j]? = some (some x)) ∨ (j = ρ.length ∧ x = .dv d) := fun j x e => by
    by_cases lt : j < ρ.length
    · rw [List.getElem?_append_left lt] at e
      exact .inl ⟨lt, e⟩
    · rw [List.getElem?_append_right (by omega)] at e
      have z := (List.getElem?_eq_some_iff.mp e).1
      have z : j - ρ.length < 1 := z
      have z : j = ρ.length := by omega
      subst z
      simp at e
      exact .inr ⟨rfl, e.symm⟩
  refine ⟨by rw [List.length_append, List.length_append, st.len]; rfl, fun j x e => ?_, fun i j l l' p e1 e2 e3 e4 => ?_⟩
  · rcases get j x e with ⟨lt, e⟩ | ⟨rfl, rfl⟩
    · obtain ⟨u, h1, h2⟩ := st.at_ j x e
      exact ⟨u, by rw [List.getElem?_append_left (by rw [← st.len]; exact lt)]; exact h1, h2⟩
    · exact ⟨v, by rw [st.len, List.getElem?_append_right (Nat.le_refl _)]; simp, h⟩
  · rcases get i _ e1 with ⟨lt, e1⟩ | ⟨_, z⟩
    · rcases get j _ e2 with ⟨lt2, e2⟩ | ⟨_, z⟩
      · rw [List.getElem?_append_left (by rw [← st.len]; exact lt)] at e3
        rw [List.getElem?_append_left (by rw [← st.len]; exact lt2)] at e4
        exact st.sep i j l l' p e1 e2 e3 e4
      · cases z
    · cases z
/-- work(e) within a lambda -/
def dWork (W : LamW) (i : Nat) (ta t : TD) : TD := fun ρ Qd Ed => ρ[i]? = some (some (.dv (.lam W))) ∧ ta ρ (fun d => t (ρ ++ [some (.dv d)]) Qd Ed) Ed
theorem le_workV {X : Cx} {k i j : Nat} {x : Str} {sp : XK → TE} {t : TD} (ht : LE S E (sp E) t) : LE S E (fun σ H Q => ∃ f1, σ[i]? = some (some (.ref f1)) ∧ WorkAt X k f1 H x sp ∧ tVar j σ H fun v H2 => (∀ a o, H a = some o → H2 a = some o) ∧ sp E (σ ++ [some v]) H2 Q) (dWork (lamW X k x sp) i (dVar j) t) := by
  rintro H0 ρ σ G H Qd Ed Q wf st ⟨e, q⟩ kk ke
  obtain ⟨v0, z1, z2⟩ := st.at_ i _ e
  cases z2 with
  | lam hok =>
    refine ⟨_, z1, work_same wf.sub hok, ?_⟩
    unfold dVar at q
    split at q
    · rename_i d e2
      obtain ⟨v, h1, h2⟩ := st.at_ j _ e2
      exact ⟨v, h1, fun _ _ z => z, ht H0 _ _ G H Qd Ed Q wf (st.app h2) q kk ke⟩
    · exact q.elim
theorem le_workC {X : Cx} {k i : Nat} {x : Str} {sp : XK → TE} {t : TD} {v : V} {d : DV} (hd : ∀ G, RV G v d) (ht : LE S E (sp E) t) : LE S E (fun σ H Q => ∃ f1, σ[i]? = some (some (.ref f1)) ∧ WorkAt X k f1 H x sp ∧ tC v σ H fun v H2 => (∀ a o, H a = some o → H2 a = some o) ∧ sp E (σ ++ [some v]) H2 Q) (dWork (lamW X k x sp) i (dC d) t) := by
  rintro H0 ρ σ G H Qd Ed Q wf st ⟨e, q⟩ kk ke
  obtain ⟨v0, z1, z2⟩ := st.at_ i _ e
  cases z2 with
  | lam hok => exact ⟨_, z1, work_same wf.sub hok, fun _ _ z => z, ht H0 _ _ G H Qd Ed Q wf (st.app (hd G)) q kk ke⟩
def allDv : Rho → Bool
  | [] => true
  | some (.dv _) :: r => allDv r
  | none :: r => allDv r
  | _ => false
theorem allDv_at : ∀ {ρ : Rho}, allDv ρ = true → ∀ (i : Nat) (x : SV), ρ[i]? = some (some x) → ∃ d, x = .dv d
  | [], _, i, x, e => by simp at e
  | some (.dv d) :: r, h, 0, x, e => by
    simp at e
    exact ⟨d, e.symm⟩
  | none :: r, h, 0, x, e => by simp at e
  | some (.dv d) :: r, h, i + 1, x, e => allDv_at (ρ := r) h i x (by simpa using e)
  | none :: r, h, i + 1, x, e => allDv_at (ρ := r) h i x (by simpa using e)
  | some (.own _) :: _, h, _, _, _ => by cases h
  | some (.ini _ _ _ _) :: _, h, _, _, _ => by cases h
/-- slots of data stand whatever becomes of the heap -/
theorem StR.dv {G' : Gh} {H' : Hp} {σ : L2.St} {ρ : Rho} (st : StR G H0 H σ ρ) (h : allDv ρ = true) (fm : Same G.F G'.F) (bm : ∀ b, G.B b → G'.B b) : StR G' H0 H' σ ρ := by
  refine ⟨st.len, fun j x e => ?_, fun i j l l' p e1 => ?_⟩
  · obtain ⟨d, rfl⟩ := allDv_at h j x e
    obtain ⟨v, h1, h2⟩ := st.at_ j _ e
    exact ⟨v, h1, RV.mono fm bm h2⟩
  · obtain ⟨d, z⟩ := allDv_at h i _ e1
    cases z
theorem StR.setNone {σ : L2.St} {ρ : Rho} {i : Nat} {v : V} (st : StR G H0 H σ ρ) (h : allDv (ρ.set i none) = true) : StR G H0 H (σ.set i (some v)) (ρ.set i none) := by
  refine ⟨by rw [List.length_set, List.length_set, st.len], fun j x e => ?_, fun k j l l' p e1 => ?_⟩
  · by_cases z : j = i
    · subst z
      by_cases lt : j < ρ.length
      · rw [List.getElem?_set_self lt] at e
        cases e
      · rw [List.getElem?_eq_none (by rw [List.length_set]; omega)] at e
        cases e
    · rw [List.getElem?_set_ne (Ne.symm z)] at e
      obtain ⟨u, h1, h2⟩ := st.at_ j x e
      exact ⟨u, by rw [List.getElem?_set_ne (Ne.symm z)]; exact h1, h2⟩
  · obtain ⟨d, z⟩ := allDv_at h k _ e1
    cases z
/-- a list of k lambdas stands in slot i, and may still grow -/
def LB (S : Sx) (E : XK) (i k : Nat) (W : LamW) (U : TS) (u : TSD) : Prop := ∀ (G0 : Gh) (H0 Fb : Hp) (D : Ends) (Dd : EndsD) (σ : L2.St) (ρ : Rho) (G : Gh) (H : Hp) (p : Addr) (vs : List V), At S G0 H0 Fb σ ρ G H → EndsR S E G0 H0 Fb D Dd → σ[i]? = some (some (.ref p)) → H p = some (.lst vs) → vs.length = k → k ≤ 1000 →
  (∀ x ∈ vs, ∃ f, x = .ref f ∧ W.ok G.F f) → G.F p = none → ¬ G.B p → Fr H0 p → allDv ρ = true → u Dd ρ → U D σ H
theorem lb_done {i k : Nat} {W : LamW} {U : TS} {u : TSD} (h : LS S E U u) : LB S E i k W U (fun D ρ => u D (ρ.set i (some (.dv (.lams W k))))) := by
  intro G0 H0 Fb D Dd σ ρ G H p vs a r hs hp hl hk ok nf nb n0 dv q
  have fm : Same G.F (G.put p (.lst vs)).F := same_upd (.inl nf)
  refine h G0 H0 Fb D Dd σ _ (G.put p (.lst vs)) H ⟨a.s.freeze hp (fun z e => by cases e) n0 nb, ?_, a.f.trans fm⟩ r q
  have st := a.r.dv (H' := H) (G' := G.put p (.lst vs)) dv fm (fun _ h => h)
  refine ⟨by rw [List.length_set, st.len], fun j x e => ?_, fun j k l l' q e1 e2 e3 e4 => ?_⟩
  · rcases set_some e with ⟨rfl, rfl⟩ | ⟨ne, e⟩
    · exact ⟨.ref p, hs, .lams put_same hl fun x hx => (ok x hx).elim fun f hf => ⟨f, hf.1, W.mono fm hf.2⟩⟩
    · exact st.at_ j x e
  · rcases set_some e1 with ⟨_, z⟩ | ⟨_, e1⟩
    · cases z
    · obtain ⟨d, z⟩ := allDv_at dv _ _ e1
      cases z
theorem heap_of : ∀ n : Nat, ∃ h : Heap, h.objs.size = n
  | 0 => ⟨{}, rfl⟩
  | n + 1 => by
    obtain ⟨h, e⟩ := heap_of n
    exact ⟨h.push default, by rw [Heap.size_push, e]⟩
theorem code_set {c : Addr} {q : Str} {w : World} {T : Int → Bool} {n : Nat} : LamX.CodeO c q ≠ SetO w c T n := by
  intro e
  unfold LamX.CodeO SetO at e
  have e := HO.ext.inj e
  obtain ⟨h, rfl⟩ := heap_of c
  have z : ∃ (oc : Obj) (vs : Array Value) (t : Tok), (h.push ⟨.none, none, .fields #[.none, .str q 0], #[]⟩).get? h.objs.size = some oc ∧ oc.data = .fields vs ∧ vs[1]? = some (.str q t) := ⟨_, #[.none, .str q 0], 0, Heap.get?_push_size _ rfl, rfl, rfl⟩
  have z : SetR w (h.push ⟨.none, none, .fields #[.none, .str q 0], #[]⟩) h.objs.size T n := (congrFun e _).mp z
  obtain ⟨o, es, ep, t, ho, _, hd, _⟩ := z
  rw [Heap.get?_push_size _ rfl] at ho
  cases ho
  cases hd
theorem lam_set {X : Cx} {params : Arguments} {body : Expr} {scope : Scope} {f cc : Addr} {w : World} {T : Int → Bool} {n : Nat} : LamO X params body scope f cc ≠ SetO w f T n := by
  intro e
  unfold LamO SetO at e
  have e := HO.ext.inj e
  obtain ⟨h, rfl⟩ := heap_of f
  have z : ∃ pm ctv : Value, (h.push (PySem.W.kla_obj "<lambda>" (lamQ X) params body scope (cloFrom X.env.cells scope.names []) .none cc .none)).get? h.objs.size = some (PySem.W.kla_obj "<lambda>" (lamQ X) params body scope (cloFrom X.env.cells scope.names []) pm cc ctv) := ⟨.none, .none, Heap.get?_push_size _ rfl⟩
  have z : SetR w (h.push (PySem.W.kla_obj "<lambda>" (lamQ X) params body scope (cloFrom X.env.cells scope.names []) .none cc .none)) h.objs.size T n := (congrFun e _).mp z
  obtain ⟨o, es, ep, t, ho, _, hd, _⟩ := z
  rw [Heap.get?_push_size _ rfl] at ho
  cases ho
  cases hd
variable {X : Cx} {params : Arguments} {body : Expr} {scope : Scope}
theorem lam_freeze {Fb : Hp} {σ : L2.St} {ρ : Rho} {f cc : Addr} {H1 : Hp} (a : At S G0 H0 Fb σ ρ G H) (dv : allDv ρ = true) (e1 : LamX.ExtN H H1) (t1 : LamX.Tabs S.Tb H1) (nf : H f = none) (hf : H1 f = some (LamO X params body scope f cc)) (hc : H1 cc = some (LamX.CodeO cc (lamQ X))) :
    ∃ G2, Step S G0 H0 G2 H1 ∧ Same G.F G2.F ∧ (∀ b, G.B b ↔ G2.B b) ∧ G2.F f = some (LamO X params body scope f cc) ∧ G2.F cc = some (LamX.CodeO cc (lamQ X)) ∧ ∀ p vs, H1 p = some (.lst vs) → G.F p = none → G2.F p = none := by
  have s1 := a.s.trans (Step.lam a.s.wf e1 t1)
  have no : ∀ {x : Addr} {o : HO}, H1 x = some o → (∀ l, o ≠ .lst l) → ¬ G.B x := fun {x o} hx n hb => by
    obtain ⟨⟨c0, cs, h1, _⟩, _⟩ := s1.wf.box x hb
    rw [hx] at h1
    cases h1
    exact n _ rfl
  have nl1 : ∀ l, LamO X params body scope f cc ≠ .lst l := fun l e => by unfold LamO at e; cases e
  have nl2 : ∀ l, LamX.CodeO cc (lamQ X) ≠ .lst l := fun l e => by unfold LamX.CodeO at e; cases e
  have nm1 : ¬ MutD f (LamO X params body scope f cc) := fun ⟨w, T, n, z⟩ => lam_set z
  have nm2 : ¬ MutD cc (LamX.CodeO cc (lamQ X)) := fun ⟨w, T, n, z⟩ => code_set z
  have s2 := s1.freezeI hf (fun z e => LamO.not_tbl z e) nm1 (no hf nl1)
  have s3 := s2.freezeI hc (fun z e => LamX.codeO_nt z e) nm2 (no hc nl2)
  refine ⟨_, s3, (same_upd (s1.wf.agree hf)).trans (same_upd (s2.wf.agree hc)), fun _ => Iff.rfl, (same_upd (s2.wf.agree hc)) _ _ put_same, put_same, fun p vs hp np => ?_⟩
  have n1 : p ≠ f := by
    rintro rfl
    rw [hf] at hp
    cases hp
  have n2 : p ≠ cc := by
    rintro rfl
    rw [hc] at hp
    exact nl2 _ (Option.some.inj hp)
  rw [put_ne n2, put_ne n1]
  exact np
theorem lb_app {i k : Nat} {W : LamW} {U : TS} {u : TSD} (h : LB S E i (k + 1) W U u) (hk : k + 1 ≤ 1000) (hw : ∀ (F : Hp) (f cc : Addr), F f = some (LamO X params body scope f cc) → F cc = some (LamX.CodeO cc (lamQ X)) → W.ok F f) :
    LB S E i k W (tSeq (tDrop (tBM S.K "list" rAppend (tVar i) (tCons (tLamV X S.Tb params body scope) tNil))) U) u := by
  intro G0 H0 Fb D Dd σ ρ G H p vs a r hs hp hl _ ok nf nb n0 dv q
  refine ⟨.ref p, hs, .inl ⟨rfl, _, .inl (.inl hp)⟩, a.s.wf.tabs, fun f cc H1 e1 t1 ff hf hc => ?_⟩
  have hp1 := e1 _ _ hp (fun _ z => by cases z)
  refine ⟨p, vs, .ref f, rfl, rfl, hp1, by rw [hl, sizeLine_eq]; omega, ?_⟩
  obtain ⟨G2, s2, fm, bm, g1, g2, g3⟩ := lam_freeze a dv e1 t1 ff hf hc
  have nf2 := g3 p vs hp1 nf
  have nb2 : ¬ G2.B p := fun z => nb ((bm p).mpr z)
  refine h G0 H0 Fb D Dd σ ρ G2 (upd H1 p (.lst (vs ++ [.ref f]))) p _ ⟨s2.write hp1 nf2 nb2 n0, a.r.dv dv fm (fun b hb => (bm b).mp hb), a.f.trans fm⟩ r hs upd_same (by rw [List.length_append, hl]; rfl) hk (fun x hx => ?_) nf2 nb2 n0 dv q
  rcases List.mem_append.mp hx with hx | hx
  · obtain ⟨g, e, w⟩ := ok x hx
    exact ⟨g, e, W.mono fm w⟩
  · rw [List.mem_singleton] at hx
    exact ⟨f, hx, hw _ f cc g1 g2⟩
/-- x = [lambda ..] -/
def dLams (i : Nat) (u : TSD) : TSD := fun D ρ => (allDv (ρ.set i none) = true ∧ i < ρ.length) ∧ u D (ρ.set i none)
theorem ls_lams {i : Nat} {W : LamW} {U : TS} {u : TSD} (h : LB S E i 1 W U u) (hw : ∀ (F : Hp) (f cc : Addr), F f = some (LamO X params body scope f cc) → F cc = some (LamX.CodeO cc (lamQ X)) → W.ok F f) :
    LS S E (tSeq (tAsg (tLst (tCons (tLamV X S.Tb params body scope) tNil)) (gName i)) U) (dLams i u) := by
  rintro G0 H0 Fb D Dd σ ρ G H a r ⟨⟨dv, lt⟩, q⟩
  refine ⟨a.s.wf.tabs, fun f cc H1 e1 t1 ff hf hc => ⟨by rw [sizeLine_eq]; show 1 ≤ 16777216; decide, fun p np => ?_⟩⟩
  have a' : At S G0 H0 Fb (σ.set i (some (.ref p))) (ρ.set i none) G H := ⟨a.s, a.r.setNone dv, a.f⟩
  obtain ⟨G2, s2, fm, bm, g1, g2, g3⟩ := lam_freeze a' dv e1 t1 ff hf hc
  have s3 := s2.trans (Step.new (o := .lst [.ref f]) s2.wf np)
  refine h G0 H0 Fb D Dd _ _ G2 _ p [.ref f] ⟨s3, a'.r.dv dv fm (fun b hb => (bm b).mp hb), a.f.trans fm⟩ r (by rw [List.getElem?_set_self (by rw [← a.r.len]; exact lt)]) upd_same rfl (by decide) (fun x hx => ⟨f, by simpa using hx, hw _ f cc g1 g2⟩) (s2.wf.free np) (s2.wf.box_ne np) (s2.was_free (.of np)) dv q
/-- for work in a list of lambdas -/
def dLoopL (W : LamW) (j : Nat) (t : TSD) (D : EndsD) : Nat → Rho → Prop
  | 0, ρ => D.nx ρ
  | n + 1, ρ => t { D with nx := dLoopL W j t D n, ct := dLoopL W j t D n, bk := D.nx } (ρ.set j (some (.dv (.lam W))))
def dForL (W : LamW) (i j : Nat) (t : TSD) : TSD := fun D ρ => ∃ k, ρ[i]? = some (some (.dv (.lams W k))) ∧ dLoopL W j t D k ρ
theorem ls_forL {W : LamW} {i j : Nat} {T : TS} {t : TSD} (hb : LS S E T t) : LS S E (tFor (iSeq S.K (tVar i)) (gName j) T) (dForL W i j t) := by
  rintro G0 H0 Fb D Dd σ ρ G H a r ⟨k, e, q⟩
  obtain ⟨v0, z1, z2⟩ := a.r.at_ i _ e
  cases z2 with
  | @lams p _ vs _ h1 hl hok =>
    have hp := a.s.wf.sub _ _ h1
    refine ⟨.ref p, z1, p, rfl, .inl ⟨vs, .inl (.inl hp), ?_⟩⟩
    refine for_it walk_list (fun n σ H' => n ≤ k ∧ ∃ ρ' G', At S G0 H0 G.F σ ρ' G' H' ∧ dLoopL W j t Dd (k - n) ρ') ⟨Nat.zero_le _, ρ, G, ⟨a.s, a.r, Same.refl _⟩, q⟩ (fun n σ H' _ ⟨_, ρ', G', a', _⟩ => .inl (.inl (a'.s.wf.sub _ _ (a'.f _ _ h1)))) ?_ ?_
    · rintro n x σ2 H2 H3 hn ⟨_, ρ', G', a', q'⟩ ⟨rfl, ex⟩
      obtain ⟨f, rfl, hw⟩ := hok x (List.mem_of_getElem? ex)
      rw [show k - n = (k - (n + 1)) + 1 by omega] at q'
      have rv : RV G' (.ref f) (.lam W) := .lam (W.mono a'.f hw)
      refine hb G0 H0 G.F _ { Dd with nx := dLoopL W j t Dd (k - (n + 1)), ct := dLoopL W j t Dd (k - (n + 1)), bk := Dd.nx } _ _ G' _ ⟨a'.s, a'.r.set rv, a'.f⟩ ?_ q'
      exact ⟨fun σ4 ρ4 G4 H4 a4 q4 => ⟨by omega, ρ4, G4, a4, q4⟩, r.rt, fun σ4 ρ4 G4 H4 a4 q4 => r.nx _ _ _ _ ⟨a4.s, a4.r, a.f.trans a4.f⟩ q4, fun σ4 ρ4 G4 H4 a4 q4 => ⟨by omega, ρ4, G4, a4, q4⟩, r.er⟩
    · rintro σ2 H2 ⟨_, ρ', G', a', q'⟩
      rw [hl, Nat.sub_self] at q'
      exact r.nx _ _ _ _ ⟨a'.s, a'.r, a.f.trans a'.f⟩ q'
end
end Dl
namespace Dl
open PySem PySem.Spec PyProof.Rows L2 Lx
/-- two names from a pair of any values -/
def dPair (i j : Nat) (ta : TAD) : TSD := fun D ρ => ta ρ (fun ds => match ds with
  | [x, y] => D.nx ((ρ.set i (some (.dv x))).set j (some (.dv y)))
  | _ => False) D.er
theorem ls_pair {S : Sx} {E : XK} {i j : Nat} {T : TA} {t : TAD} (h : LA 2 S E T t) : LS S E (tAsg (tTup T) (gTup S.K 2 (gCons (gName i) (gCons (gName j) gNil)))) (dPair i j t) := fun G0 H0 Fb D Dd σ ρ G H a r q =>
  h H0 ρ σ G H _ _ _ a.s.wf a.r q (fun vs ds G1 H1 s1 hl rv q1 => by
    split at q1
    · rename_i x y
      cases rv with
      | cons h1 t1 => cases t1 with
        | cons h2 t2 =>
          cases t2
          refine ⟨by rw [sizeLine_eq]; show 2 ≤ 16777216; decide, fun p np => ?_⟩
          refine ⟨p, _, rfl, .inl (.inl upd_same), rfl, _, _, rfl, _, _, rfl, rfl, ?_⟩
          exact r.nx _ _ G1 _ ⟨(a.s.trans s1).trans (Step.new s1.wf np), (((a.r.step s1).step (Step.new s1.wf np)).set h1).set h2, a.f.trans s1.fm⟩ q1
    · exact q1.elim) (r.err a.s)
theorem var_mono (i : Nat) : ∀ (σ : L2.St) (H : Hp) (Q Q' : VK), (∀ v H, Q v H → Q' v H) → tVar i σ H Q → tVar i σ H Q' := fun σ H Q Q' m ⟨v, h1, h2⟩ => ⟨v, h1, m _ _ h2⟩
theorem con_mono (x : V) : ∀ (σ : L2.St) (H : Hp) (Q Q' : VK), (∀ v H, Q v H → Q' v H) → tC x σ H Q → tC x σ H Q' := fun σ H Q Q' m h => m _ _ h
end Dl
namespace Dl
open PySem PySem.Spec PyProof.Rows L2 Lx
theorem loopL_ind {W : LamW} {j : Nat} {t : TSD} {D : EndsD} (I : Nat → Rho → Prop) (h0 : ∀ ρ, I 0 ρ → D.nx ρ)
    (hs : ∀ (n : Nat) (ρ : Rho) (K : Rho → Prop), (∀ ρ, I n ρ → K ρ) → I (n + 1) ρ → t { D with nx := K, ct := K, bk := D.nx } (ρ.set j (some (.dv (.lam W))))) : ∀ (n : Nat) (ρ : Rho), I n ρ → dLoopL W j t D n ρ
  | 0, ρ, h => h0 ρ h
  | n + 1, ρ, h => hs n ρ _ (loopL_ind I h0 hs n) h
end Dl

set_option Elab.async false
set_option linter.all false
set_option maxRecDepth 100000
set_option maxHeartbeats 4000000
/-! the data layer: how the law begins -/
namespace Dl
open PySem PySem.Spec PyProof.Rows L2 Lx
theorem law_start {S : Sx} {sp : SpD} {H : Hp} {a : Addr} {ns : List Int} (h : SqL S.K H a (ns.map V.int)) (t : LamX.Tabs S.Tb H) (q : sp [.scr S.K ns] (fun d => d = .bl true) (fun _ => False)) : spD S 1 sp [.ref a] H (fun v _ => v = .bl true) (fun _ _ _ => False) := by
  have fin : ∀ G : Gh, Wf S G H → RV G (.ref a) (.scr S.K ns) → spD S 1 sp [.ref a] H (fun v _ => v = .bl true) (fun _ _ _ => False) := fun G wf rv =>
    ⟨G, [.scr S.K ns], _, _, rfl, wf, .cons rv .nil, q, fun v d G' H' s r e => by
      subst e
      cases r with
      | py h =>
        cases h
        rfl, fun e cls d G' H' s he z => z⟩
  have one : ∀ o : HO, H a = some o → (∀ z, o ≠ .tbl z) → Wf S ⟨fun x => if x = a then some o else none, fun _ => False⟩ H := fun o ho nt => by
    refine ⟨fun x u e => ?_, fun b hb => hb.elim, fun x z e => ?_, t⟩
    · have e : (if x = a then some o else none) = some u := e
      split at e
      · rename_i z
        rw [z, ho]
        exact e
      · cases e
    · have e : (if x = a then some o else none) = some (HO.tbl z) := e
      split at e
      · exact nt z (Option.some.inj e)
      · cases e
  rcases h with (h | ⟨o, h⟩) | h
  · exact fin _ (one _ h fun z e => by cases e) (.scr (.inl (.inl (if_pos rfl))))
  · exact fin _ (one _ h fun z e => by cases e) (.scr (.inl (.inr ⟨o, if_pos rfl⟩)))
  · exact fin ⟨fun _ => none, fun _ => False⟩ ⟨fun x u e => (by cases e), fun b hb => hb.elim, fun x z e => (by cases e), t⟩ (.scr (.inr fun H => .inr h))
end Dl

set_option Elab.async false
namespace Pg
open PySem
def topS (i : Nat) : Stmt := PySem.Challenge.pw_pagesagain_k27_whole_marks_round_a_ring.main.body.getD i (.Pass ⟨0, 0, 0, 0⟩)
abbrev cPageError : Stmt := topS 1
abbrev cBadMachine : Stmt := topS 2
abbrev cBadRow : Stmt := topS 3
abbrev cRefused : Stmt := topS 4
abbrev cTooGreat : Stmt := topS 5
abbrev cNoState : Stmt := topS 6
abbrev sIsNumber : Stmt := topS 8
abbrev sNeedNumber : Stmt := topS 9
abbrev sIsSequence : Stmt := topS 10
abbrev sNeedLength : Stmt := topS 13
abbrev sPower : Stmt := topS 15
abbrev sGreatestRing : Stmt := topS 20
abbrev sRingOf : Stmt := topS 21
abbrev sLeastStretch : Stmt := topS 22
abbrev sMarksTold : Stmt := topS 23
abbrev sPlaceTold : Stmt := topS 24
abbrev sNeedMarks : Stmt := topS 25
abbrev sNeedSize : Stmt := topS 26
abbrev sNeedRing : Stmt := topS 27
abbrev sIsRing : Stmt := topS 28
abbrev sStretches : Stmt := topS 29
abbrev sRingFrom : Stmt := topS 30
abbrev cMachine : Stmt := topS 35
abbrev sIsTable : Stmt := topS 36
abbrev sIsState : Stmt := topS 37
abbrev sIsDeed : Stmt := topS 38
abbrev sNeedState : Stmt := topS 39
abbrev sCheckRow : Stmt := topS 40
abbrev sLed : Stmt := topS 41
abbrev sLead : Stmt := topS 42
abbrev sLawBox : Stmt := topS 44
abbrev sLawTake : Stmt := topS 45
abbrev sLawPick : Stmt := topS 46
abbrev sLawTables : Stmt := topS 47
abbrev sLawLed : Stmt := topS 48
abbrev sLawRows : Stmt := topS 49
abbrev sLawReached : Stmt := topS 50
abbrev sLawHeard : Stmt := topS 51
abbrev sLawStretch : Stmt := topS 52
abbrev sLawRunRight : Stmt := topS 53
abbrev sLawNoneRight : Stmt := topS 54
abbrev sLaw : Stmt := topS 55
end Pg

set_option Elab.async false
set_option linter.all false
set_option maxRecDepth 100000
set_option maxHeartbeats 4000000
namespace Pg
open PySem PySem.Spec PyProof.Rows L2 Lx
/-- no global of the module bears this built-in's name -/
structure Bare (mg : Str → Option Value) : Prop where
  isinstance : mg "isinstance" = none
  int : mg "int" = none
  bool : mg "bool" = none
  list : mg "list" = none
  tuple : mg "tuple" = none
  len : mg "len" = none
  range : mg "range" = none
  enumerate : mg "enumerate" = none
  reversed : mg "reversed" = none
  divmod : mg "divmod" = none
  min : mg "min" = none
  max : mg "max" = none
  all : mg "all" = none
  repr : mg "repr" = none
  abs : mg "abs" = none
  sorted : mg "sorted" = none
  set : mg "set" = none
  any : mg "any" = none
  sum : mg "sum" = none
  str : mg "str" = none
  zip : mg "zip" = none
end Pg

set_option Elab.async false
set_option linter.all false
set_option maxRecDepth 100000
set_option maxHeartbeats 4000000
namespace Pg
open PySem PySem.Spec PyProof.Rows L2 Lx Dl
section
variable {P : Program} {w : World} {mg : Str → Option Value} {base : Heap} {S : Sx}
def spIsNumber : SpD := fun ds Q _ => match ds with
  | [.py v, .py (.int lo), .py (.int hi)] => Q (.bl (numD v lo (some hi)))
  | [.py v, .py (.int lo), .py .none] => Q (.bl (numD v lo none))
  | _ => False
def nIsNumberN : List Str := ["value", "least", "greatest"]
theorem scIsNumber : FnScope nIsNumberN ["value", "least", "greatest"] (defScope sIsNumber) := ⟨rfl, rfl, rfl, by decide +kernel, rfl, by decide +kernel, by decide +kernel⟩
theorem ok_is_number {f : Addr} {fd : FuncData} (F : FunD S.K "is_number" "is_number" (defArgs sIsNumber) (defBody sIsNumber) (defScope sIsNumber) [.non] [] f fd) (B : Bare mg) : FnOk P w S.K mg base L2.CX0 1 f fd ["value", "least", "greatest"] (spD S 3 spIsNumber) := by
  have nd : nIsNumberN.Nodup := scIsNumber.nd
  refine okD0D (N := nIsNumberN) (k := 0) F scIsNumber (hb := fun cdv A outer s H E hr => ?_)
  have hu2 : (A.deeper (envOfC "is_number" (defScope sIsNumber) s.heap.objs.size f cdv)).units + 200 < cLine := by have := hr.un; omega
  have hu65 : (A.deeper (envOfC "is_number" (defScope sIsNumber) s.heap.objs.size f cdv)).units + 65 < cLine := by omega
  refine ⟨_, _, (pss_cons (ps_if (PW.pt (pw_or (pt_not (pt_val (pe_callB (r := rIsi _) call_isi (by rfl) B.isinstance boot_isinstance (pa_cons (pv 0) (pa_cons (pe_bltn (v := .ty "int") (by rfl) B.int boot_int rfl) pa_nil))))) (pw_or1 (pt_val (pe_callB (r := rIsi _) call_isi (by rfl) B.isinstance boot_isinstance (pa_cons (pv 0) (pa_cons (pe_bltn (v := .ty "bool") (by rfl) B.bool boot_bool rfl) pa_nil))))))) (pss_one (ps_ret pe_bl)) pss_nil)
      (pss_one (ps_ret (pe_and (pe_cmpR op_le (pv 1) (pv 0) (nomark _)) (pe_one (pe_or (pe_cmpR op_isN (pv 2) pe_non (nomark _)) (pe_one (pe_cmpR op_le (pv 0) (pv 2) (nomark _))))))))),
      (ls_seq (ls_if (lt_or (lt_not (lt_b (le_cb lc_isInt (la_cons le_var (la_cons le_ty la_nil))))) (lt_b (le_cb lc_isBool (la_cons le_var (la_cons le_ty la_nil))))) (ls_ret le_bl) ls_next)
      (ls_ret (le_andV (le_op l2_cmp le_var le_var) (le_orV (le_op l2_isN le_var le_non) (le_op l2_cmp le_var le_var))))), fun ds Qd Ed hl h => ?_⟩
  unfold spIsNumber at h
  split at h
  · rename_i v lo hi
    cases v <;> simp [dOf, dVar, dC, dOp, dUn, dNil, dCons, pys, dTup, oLst, dCB, oCB, dCall, dCall0, dCallR, fAdd, oOp, fCat, fInt, fIntC, fNeg, fEq, isNonD, fIsN, fIn, fIx, dTest, dAnd, dOr, dNot, dAndV, dOrV, dNotV, dIfE, dChain, dFld, dNext, dSeq, dRet, dRetN, dDrop, dIfS, dBreak, dCont, dSet, dSetO, setAll, dSetT, dPar, itSeq, itRange1, itRange2, itEnum, Tg.put, Tg.ix, dFor, wipeL, dYes, oLc, dAppend, dPutIx, dFreeze, unown, hasOwn, noLD, okL, dSnap, dSnapT, dRaise, startD, dNoPart, dPart, dSl, oSl, fLen, fInt1, fAbs, fInt2, fDivmod, fTuple, fList, fSorted, oSortedSet, fRepr, fAll, fSum, isIntD, isBoolD, isStrD, isTupD, isSeqD, fIsT, dIsLT, dAug, dPutF, dFldI, dMake, startI, putD, nIsNumberN, numD] at h ⊢ <;> try exact h
    split <;> simp_all
  · rename_i v lo
    cases v <;> simp [dOf, dVar, dC, dOp, dUn, dNil, dCons, pys, dTup, oLst, dCB, oCB, dCall, dCall0, dCallR, fAdd, oOp, fCat, fInt, fIntC, fNeg, fEq, isNonD, fIsN, fIn, fIx, dTest, dAnd, dOr, dNot, dAndV, dOrV, dNotV, dIfE, dChain, dFld, dNext, dSeq, dRet, dRetN, dDrop, dIfS, dBreak, dCont, dSet, dSetO, setAll, dSetT, dPar, itSeq, itRange1, itRange2, itEnum, Tg.put, Tg.ix, dFor, wipeL, dYes, oLc, dAppend, dPutIx, dFreeze, unown, hasOwn, noLD, okL, dSnap, dSnapT, dRaise, startD, dNoPart, dPart, dSl, oSl, fLen, fInt1, fAbs, fInt2, fDivmod, fTuple, fList, fSorted, oSortedSet, fRepr, fAll, fSum, isIntD, isBoolD, isStrD, isTupD, isSeqD, fIsT, dIsLT, dAug, dPutF, dFldI, dMake, startI, putD, nIsNumberN, numD] at h ⊢ <;> try exact h
    split <;> simp_all
  · exact h.elim

def spIsSequence : SpD := fun ds Q _ => match ds with
  | [.py v, .py (.int lo), .py (.int hi)] => Q (.bl (seqB v lo hi))
  | _ => False
def nIsSequenceN : List Str := ["value", "fewest", "most"]
theorem scIsSequence : FnScope nIsSequenceN ["value", "fewest", "most"] (defScope sIsSequence) := ⟨rfl, rfl, rfl, by decide +kernel, rfl, by decide +kernel, by decide +kernel⟩
theorem ok_is_sequence {f : Addr} {fd : FuncData} (F : Fun S.K "is_sequence" "is_sequence" sIsSequence f fd) (B : Bare mg) : FnOk P w S.K mg base L2.CX0 1 f fd ["value", "fewest", "most"] (spD S 3 spIsSequence) := by
  have nd : nIsSequenceN.Nodup := scIsSequence.nd
  refine okD0 (N := nIsSequenceN) (k := 0) F scIsSequence (hb := fun cdv A outer s H E hr => ?_)
  have hu2 : (A.deeper (envOfC "is_sequence" (defScope sIsSequence) s.heap.objs.size f cdv)).units + 200 < cLine := by have := hr.un; omega
  have hu65 : (A.deeper (envOfC "is_sequence" (defScope sIsSequence) s.heap.objs.size f cdv)).units + 65 < cLine := by omega
  refine ⟨_, _, (pss_one (ps_ret (pe_and (pe_callB call_isiT (by rfl) B.isinstance boot_isinstance (pa_cons (pv 0) (pa_cons (pe_tup (pa_cons (pe_bltn (v := .ty "list") (by rfl) B.list boot_list rfl) (pa_cons (pe_bltn (v := .ty "tuple") (by rfl) B.tuple boot_tuple rfl) pa_nil))) pa_nil))) (pe_one (pe_chain op_le op_le (pv 1) (pe_callB (r := rLenA _) lenA (by rfl) B.len PySem.boot_len (pa_cons (pv 0) pa_nil)) (pv 2)))))),
      (ls_ret (le_andV (le_isLT le_var) (le_chain l2_cmp l2_cmp le_var (le_cb lc_len (la_cons le_var la_nil)) le_var))), fun ds Qd Ed hl h => ?_⟩
  unfold spIsSequence at h
  split at h
  · rename_i v lo hi
    cases v <;> simp [dOf, dVar, dC, dOp, dUn, dNil, dCons, pys, dTup, oLst, dCB, oCB, dCall, dCall0, dCallR, fAdd, oOp, fCat, fInt, fIntC, fNeg, fEq, isNonD, fIsN, fIn, fIx, dTest, dAnd, dOr, dNot, dAndV, dOrV, dNotV, dIfE, dChain, dFld, dNext, dSeq, dRet, dRetN, dDrop, dIfS, dBreak, dCont, dSet, dSetO, setAll, dSetT, dPar, itSeq, itRange1, itRange2, itEnum, Tg.put, Tg.ix, dFor, wipeL, dYes, oLc, dAppend, dPutIx, dFreeze, unown, hasOwn, noLD, okL, dSnap, dSnapT, dRaise, startD, dNoPart, dPart, dSl, oSl, fLen, fInt1, fAbs, fInt2, fDivmod, fTuple, fList, fSorted, oSortedSet, fRepr, fAll, fSum, isIntD, isBoolD, isStrD, isTupD, isSeqD, fIsT, dIsLT, dAug, dPutF, dFldI, dMake, startI, putD, nIsSequenceN, seqB] at h ⊢ <;> try exact h
    all_goals split <;> simp_all
  · exact h.elim

/-- the number itself, or Refused -/
def spNeedNumber (CF : Addr) : SpD := fun ds Q Ed => ∃ v lo hi, (ds = [.py v, .py (.int lo), .py (.int hi)] ∧ (numD v lo (some hi) = true → Q (.py v)) ∧ (numD v lo (some hi) = false → Ed ⟨CF, "at", .py v⟩))
def nNeedNumberN : List Str := ["value", "least", "greatest"]
theorem scNeedNumber : FnScope nNeedNumberN ["value", "least", "greatest"] (defScope sNeedNumber) := ⟨rfl, rfl, rfl, by decide +kernel, rfl, by decide +kernel, by decide +kernel⟩
theorem ok_need_number {f : Addr} {fd : FuncData} (F : FunD S.K "need_number" "need_number" (defArgs sNeedNumber) (defBody sNeedNumber) (defScope sNeedNumber) [.non] [] f fd) {CF : Addr} (ErF : Err P w S.K mg base "Refused" "at" CF) (Gn : Has P w S.K mg base L2.CX0 1 "is_number" ["value", "least", "greatest"] (spD S 3 spIsNumber)) : FnOk P w S.K mg base (L2.CX P w) 3 f fd ["value", "least", "greatest"] (spD S 3 (spNeedNumber CF)) := by
  have nd : nNeedNumberN.Nodup := scNeedNumber.nd
  refine okDXD (N := nNeedNumberN) (k := 2) F scNeedNumber (hb := fun cdv A outer s H E hr => ?_)
  have hu2 : (A.deeper (envOfC "need_number" (defScope sNeedNumber) s.heap.objs.size f cdv)).units + 200 < cLine := by have := hr.un; omega
  have hu65 : (A.deeper (envOfC "need_number" (defScope sNeedNumber) s.heap.objs.size f cdv)).units + 65 < cLine := by omega
  have tk : Takes (cxOf (L2.CX P w) P w S.K mg base nNeedNumberN "need_number" (defScope sNeedNumber) f cdv A outer s H E) (fun cls d _ H => E cls d H) := takes_of rfl rfl rfl rfl
  refine ⟨_, _, (pss_cons (ps_if (pt_not (pt_val (pe_has Gn (hr.mono (by decide)) (by rfl) (pa_cons (pv 0) (pa_cons (pv 1) (pa_cons (pv 2) pa_nil)))))) (pss_one (ps_raiseErr rfl ErF (hr.mono (by decide)) tk (pv 0))) pss_nil)
      (pss_one (ps_ret (pv 0)))),
      (ls_seq (ls_if (lt_not (lt_b (le_call0 (la_cons le_var (la_cons le_var (la_cons le_var la_nil)))))) (ls_raise le_var) ls_next)
      (ls_ret le_var)), fun ds Qd Ed hl h => ?_⟩
  obtain ⟨v, lo, hi, rfl, h1, h2⟩ := h
  simp [dOf, dVar, dC, dOp, dUn, dNil, dCons, pys, dTup, oLst, dCB, oCB, dCall, dCall0, dCallR, fAdd, oOp, fCat, fInt, fIntC, fNeg, fEq, isNonD, fIsN, fIn, fIx, dTest, dAnd, dOr, dNot, dAndV, dOrV, dNotV, dIfE, dChain, dFld, dNext, dSeq, dRet, dRetN, dDrop, dIfS, dBreak, dCont, dSet, dSetO, setAll, dSetT, dPar, itSeq, itRange1, itRange2, itEnum, Tg.put, Tg.ix, dFor, wipeL, dYes, oLc, dAppend, dPutIx, dFreeze, unown, hasOwn, noLD, okL, dSnap, dSnapT, dRaise, startD, dNoPart, dPart, dSl, oSl, fLen, fInt1, fAbs, fInt2, fDivmod, fTuple, fList, fSorted, oSortedSet, fRepr, fAll, fSum, isIntD, isBoolD, isStrD, isTupD, isSeqD, fIsT, dIsLT, dAug, dPutF, dFldI, dMake, startI, putD, nNeedNumberN, spIsNumber]
  cases e : numD v lo (some hi) <;> simp_all

end
end Pg

set_option Elab.async false
set_option linter.all false
set_option maxRecDepth 100000
set_option maxHeartbeats 4000000
/-! what a module's top has left: the facts and their makers -/
namespace Lw
open PySem PySem.Spec PyProof.Rows L2 Lx Pg
/-- the def x of the text st stands in the module -/
structure DefK (K : PySem.W.Frag) (mg : Str → Option Value) (x : Str) (st : Stmt) : Prop where
  ex : ∃ f fd, mg x = some (.ref f) ∧ Fun K x x st f fd
theorem defK {K : PySem.W.Frag} {h : Heap} {mg : Str → Option Value} (X : K.In h) (G : h.Ns mainGlobals mg) {x : Str} {st : Stmt} {f : Addr} {od an : Option Addr} {sl : Array (Option Value)} {oc kV doc pm cd ct : Value}
    (a : PySem.W.nsIn K mainGlobals x = some (some (.ref f))) (l : K.lookup f = some ⟨oc, od, .func (PySem.W.fnOf x x (defArgs st) (defBody st) (defScope st) .none kV doc pm an cd ct), sl⟩) (c : PySem.W.codeIn K cd x = true) (k : PySem.W.keepIn K (.ref f) = true) : DefK K mg x st :=
  ⟨f, _, PySem.W.mg_of X G a, fun_mk l c k⟩
/-- .. that makes lambdas or defs: its code object and its table -/
structure DefT (K : PySem.W.Frag) (h : Heap) (mg : Str → Option Value) (x : Str) (st : Stmt) (c T : Addr) : Prop where
  ex : ∃ f fd, mg x = some (.ref f) ∧ Fun K x x st f fd ∧ fd.code = .ref c
  hd : PySem.W.CodeHd h c T
  no : K.lookup T = none
  at_ : h.get? T = some { cls := .none, data := .fields #[] }
theorem defT {K : PySem.W.Frag} {h : Heap} {mg : Str → Option Value} (X : K.In h) (G : h.Ns mainGlobals mg) {x : Str} {st : Stmt} {f c0 T : Addr} {od an : Option Addr} {sl : Array (Option Value)} {oc kV doc pm ct : Value}
    (a : PySem.W.nsIn K mainGlobals x = some (some (.ref f))) (l : K.lookup f = some ⟨oc, od, .func (PySem.W.fnOf x x (defArgs st) (defBody st) (defScope st) .none kV doc pm an (.ref c0) ct), sl⟩) (c : PySem.W.codeIn K (.ref c0) x = true) (k : PySem.W.keepIn K (.ref f) = true)
    (e : PySem.W.codeHdIn K c0 T = true) (n : K.lookup T = none) (t : h.get? T = some { cls := .none, data := .fields #[] }) : DefT K h mg x st c0 T :=
  ⟨⟨f, _, PySem.W.mg_of X G a, fun_mk l c k, rfl⟩, PySem.W.codeHd_of_K X e, n, t⟩
/-- .. with None as its last one's default -/
structure DefD (K : PySem.W.Frag) (mg : Str → Option Value) (x : Str) (st : Stmt) : Prop where
  ex : ∃ f fd, mg x = some (.ref f) ∧ FunD K x x (defArgs st) (defBody st) (defScope st) [.non] [] f fd
theorem defD {K : PySem.W.Frag} {h : Heap} {mg : Str → Option Value} (X : K.In h) (G : h.Ns mainGlobals mg) {x : Str} {st : Stmt} {f T : Addr} {od an dT : Option Addr} {sl sT : Array (Option Value)} {oc oT kV doc pm cd ct : Value} {nT : Nat}
    (a : PySem.W.nsIn K mainGlobals x = some (some (.ref f))) (l : K.lookup f = some ⟨oc, od, .func (PySem.W.fnOf x x (defArgs st) (defBody st) (defScope st) (.ref T) kV doc pm an cd ct), sl⟩) (c : PySem.W.codeIn K cd x = true) (k : PySem.W.keepIn K (.ref f) = true)
    (lT : K.lookup T = some ⟨oT, dT, .seq #[.none] nT, sT⟩) : DefD K mg x st :=
  ⟨f, _, PySem.W.mg_of X G a, ⟨oc, od, .ref T, kV, doc, pm, an, cd, ct, sl, rfl, l, c, .inr ⟨by simp, T, _, [.none], nT, rfl, lT, rfl, .cons rfl .nil⟩, .inl rfl⟩, k⟩
theorem DefK.has {P : Program} {w : World} {K : PySem.W.Frag} {mg : Str → Option Value} {base : Heap} {CX : CXT} {k : Nat} {x : Str} {st : Stmt} {ps : List Str} {sp : Sp} (D : DefK K mg x st) (hb : ∀ f fd, Fun K x x st f fd → L2.Binds K fd ps []) (ok : ∀ f fd, Fun K x x st f fd → FnOk P w K mg base CX k f fd ps sp) : Has P w K mg base CX k x ps sp := by
  obtain ⟨f, fd, hm, F⟩ := D.ex
  exact ⟨f, fd, hm, F.kp, hb f fd F, ok f fd F⟩
/-- an error class of one field, over PageError -/
structure ErrK1 (K : PySem.W.Frag) (mg : Str → Option Value) (x fld qual : Str) (st : Stmt) (C : Addr) : Prop where
  T : OexC K C
  xf : XfC K C
  ec : ExcC K C
  no : PySem.W.findIn K (.ref C) fld = some none
  gC : mg x = some (.ref C)
  ini : ∃ fI fd, PySem.W.findIn K (.ref C) "__init__" = some (some (.ref fI)) ∧ PySem.W.typeIn K (.ref fI) = some (.type "function") ∧ Fun K "__init__" qual st fI fd
/-- .. over KeyError -/
structure ErrK2 (K : PySem.W.Frag) (mg : Str → Option Value) (x fld qual : Str) (st : Stmt) (C : Addr) : Prop where
  T : KexC K C
  xf : XfC K C
  ec : ExcC K C
  no : PySem.W.findIn K (.ref C) fld = some none
  gC : mg x = some (.ref C)
  ini : ∃ fI fd, PySem.W.findIn K (.ref C) "__init__" = some (some (.ref fI)) ∧ PySem.W.typeIn K (.ref fI) = some (.type "function") ∧ Fun K "__init__" qual st fI fd
theorem err_mk {K : PySem.W.Frag} {h : Heap} {mg : Str → Option Value} (X : K.In h) (G : h.Ns mainGlobals mg) {x fld qual : Str} {st : Stmt} {C f : Addr} {od an : Option Addr} {sl : Array (Option Value)} {oc kV doc pm cd ct : Value}
    {nm q : Str} {N : Addr} {bs bm : List Value} {sn : List Str} {sub : List Value} {ab : Bool} {col : Option Bool} {dd : Option Addr} {m0 m1 m2 m3 m5 : Option Value}
    (a : PySem.W.nsIn K mainGlobals x = some (some (.ref C))) (xl : K.lookup C = some (excClassObj nm q C N bs bm true sn sub ab col dd m0 m1 m2 m3 m5 "ValueError.__new__")) (rv : PySem.HandSPX.refsVE bm = true) (sa : PySem.W.findIn K (.ref C) "__setattr__" = some (some (.builtin "object.__setattr__")))
    (ga : PySem.W.findIn K (.ref C) "__getattribute__" = some (some (.builtin "BaseException.__getattribute__"))) (gg : PySem.W.findIn K (.ref C) "__getattr__" = some none) (no : PySem.W.findIn K (.ref C) fld = some none)
    (kC : PySem.W.keepIn K (.ref C) = true) (eC : PySem.W.subIn K (.ref C) (.type "BaseException") = some true) (tC : PySem.W.typeIn K (.ref C) = some (.type "type")) (hC : PySem.W.hasDictIn K C = true)
    (ha : PySem.W.findIn K (.ref C) "__class__" = some (some (.builtin "object.__class__"))) (hn : PySem.W.specialIn K (.builtin "object.__class__") "__get__" = some (some (.builtin "getset_descriptor.__get__"))) (ht : PySem.W.takesIn K (.builtin "object.__class__") = some true) (hm : PySem.W.mroIn K C (.type "object") = some true)
    (i : PySem.W.findIn K (.ref C) "__init__" = some (some (.ref f))) (t : PySem.W.typeIn K (.ref f) = some (.type "function"))
    (l : K.lookup f = some ⟨oc, od, .func (PySem.W.fnOf "__init__" qual (defArgs st) (defBody st) (defScope st) .none kV doc pm an cd ct), sl⟩) (c : PySem.W.codeIn K cd qual = true) (k : PySem.W.keepIn K (.ref f) = true) : ErrK1 K mg x fld qual st C :=
  ⟨⟨⟨nm, q, N, bs, bm, sn, sub, ab, col, dd, m0, m1, m2, m3, m5, xl, rv⟩, sa, eC, tC, kC⟩, ⟨ga, gg, eC, hC⟩, ⟨ga, gg, eC, hC, ha, hn, ht, hm⟩, no, PySem.W.mg_of X G a, f, _, i, t, fun_mk l c k⟩
theorem err2_mk {K : PySem.W.Frag} {h : Heap} {mg : Str → Option Value} (X : K.In h) (G : h.Ns mainGlobals mg) {x fld qual : Str} {st : Stmt} {C f : Addr} {od an : Option Addr} {sl : Array (Option Value)} {oc kV doc pm cd ct : Value}
    (a : PySem.W.nsIn K mainGlobals x = some (some (.ref C))) (cls : ∃ nm q N bs sn sub ab col dd k0 k1 k2 k3 k5, K.lookup C = some (keObj nm q C N bs sn sub ab col dd k0 k1 k2 k3 k5)) (sa : PySem.W.findIn K (.ref C) "__setattr__" = some (some (.builtin "object.__setattr__")))
    (ga : PySem.W.findIn K (.ref C) "__getattribute__" = some (some (.builtin "BaseException.__getattribute__"))) (gg : PySem.W.findIn K (.ref C) "__getattr__" = some none) (no : PySem.W.findIn K (.ref C) fld = some none)
    (kC : PySem.W.keepIn K (.ref C) = true) (eC : PySem.W.subIn K (.ref C) (.type "BaseException") = some true) (tC : PySem.W.typeIn K (.ref C) = some (.type "type")) (hC : PySem.W.hasDictIn K C = true)
    (ha : PySem.W.findIn K (.ref C) "__class__" = some (some (.builtin "object.__class__"))) (hn : PySem.W.specialIn K (.builtin "object.__class__") "__get__" = some (some (.builtin "getset_descriptor.__get__"))) (ht : PySem.W.takesIn K (.builtin "object.__class__") = some true) (hm : PySem.W.mroIn K C (.type "object") = some true)
    (i : PySem.W.findIn K (.ref C) "__init__" = some (some (.ref f))) (t : PySem.W.typeIn K (.ref f) = some (.type "function"))
    (l : K.lookup f = some ⟨oc, od, .func (PySem.W.fnOf "__init__" qual (defArgs st) (defBody st) (defScope st) .none kV doc pm an cd ct), sl⟩) (c : PySem.W.codeIn K cd qual = true) (k : PySem.W.keepIn K (.ref f) = true) : ErrK2 K mg x fld qual st C :=
  ⟨⟨cls, sa, eC, tC, kC⟩, ⟨ga, gg, eC, hC⟩, ⟨ga, gg, eC, hC, ha, hn, ht, hm⟩, no, PySem.W.mg_of X G a, f, _, i, t, fun_mk l c k⟩
theorem mgInt {K : PySem.W.Frag} {h : Heap} {mg : Str → Option Value} (X : K.In h) (G : h.Ns mainGlobals mg) {x : Str} {n : Int} {t : Tok} (a : PySem.W.nsIn K mainGlobals x = some (some (.int n t))) : ∃ tk, mg x = some (.int n tk) := ⟨t, PySem.W.mg_of X G a⟩
theorem kit_ref {K : PySem.W.Frag} {C D : Addr} (hd : PySem.W.hasDictIn K C = true) (ht : PySem.W.typeIn K (.ref C) = some (.type "type")) (h : PySem.W.subIn K (.ref D) (.ref C) = some true) : PySem.W.kitOne K (.ref D) (.ref C) = some true := by
  obtain ⟨cd, hc, _⟩ := PySem.W.any_some hd
  have e : ((PySem.W.clsIn K C).isSome && PySem.W.typeIn K (.ref C) == some (.type "type")) = true := by rw [hc, ht] <;> rfl
  show (if ((Value.ref D) == (Value.ref C)) = true then some true else (if ((PySem.W.clsIn K C).isSome && PySem.W.typeIn K (.ref C) == some (.type "type")) = true then PySem.W.subIn K (.ref D) (.ref C) else none)) = some true
  rw [if_pos e, h]
  split <;> rfl
theorem kit_tup {K : PySem.W.Frag} {C : Addr} (hd : PySem.W.hasDictIn K C = true) (ht : PySem.W.typeIn K (.ref C) = some (.type "type")) (h : PySem.W.subIn K (.type "tuple") (.ref C) = some false) : PySem.W.kitOne K (.type "tuple") (.ref C) = some false := by
  obtain ⟨cd, hc, _⟩ := PySem.W.any_some hd
  have e : ((PySem.W.clsIn K C).isSome && PySem.W.typeIn K (.ref C) == some (.type "type")) = true := by rw [hc, ht] <;> rfl
  show (if ((Value.type "tuple") == (Value.ref C)) = true then some true else (if ((PySem.W.clsIn K C).isSome && PySem.W.typeIn K (.ref C) == some (.type "type")) = true then PySem.W.subIn K (.type "tuple") (.ref C) else none)) = some false
  rw [if_pos e, h, if_neg (by show ¬ (false = true); decide)]
theorem kit_self {K : PySem.W.Frag} {C : Addr} : PySem.W.kitOne K (.ref C) (.ref C) = some true := by
  show (if ((Value.ref C) == (Value.ref C)) = true then some true else _) = some true
  rw [if_pos (by simp)]
theorem bare_mk {K : PySem.W.Frag} {h : Heap} {mg : Str → Option Value} (X : K.In h) (G : h.Ns mainGlobals mg) (z : ∀ x ∈ (["isinstance", "int", "bool", "list", "tuple", "len", "range", "enumerate", "reversed", "divmod", "min", "max", "all", "repr", "abs", "sorted", "set", "any", "sum", "str", "zip"] : List Str), PySem.W.nsIn K mainGlobals x = some none) : Bare mg := by
  have m : ∀ x ∈ (["isinstance", "int", "bool", "list", "tuple", "len", "range", "enumerate", "reversed", "divmod", "min", "max", "all", "repr", "abs", "sorted", "set", "any", "sum", "str", "zip"] : List Str), mg x = none := fun x hx => PySem.W.mg_none_of X G (z x hx)
  exact ⟨m _ (by simp), m _ (by simp), m _ (by simp), m _ (by simp), m _ (by simp), m _ (by simp), m _ (by simp), m _ (by simp), m _ (by simp), m _ (by simp), m _ (by simp), m _ (by simp), m _ (by simp), m _ (by simp), m _ (by simp), m _ (by simp), m _ (by simp), m _ (by simp), m _ (by simp), m _ (by simp), m _ (by simp)⟩
end Lw

set_option Elab.async false
set_option linter.all false
set_option maxRecDepth 100000
set_option maxHeartbeats 4000000
/-! the data layer: several names from a list or a tuple; a list that grows by another; a tuple some times -/
namespace Dl
open PySem PySem.Spec PyProof.Rows L2 Lx
/-- a, b = a list or a tuple -/
def gAny (K : PySem.W.Frag) (n : Nat) (t : TGs) : TG := fun v σ H Q => gTup K n t v σ H Q ∨ gLst K n t v σ H Q
theorem pg_any {X : Cx} {pos : Pos} {es : List Expr} {k : Nat} {t : TGs} {n : Nat} (hc : X.calm = true) (h : PGs X es t)
    (hn : (assignEach es X.env).length = n := by rfl) (hst : (assignEach es X.env).findIdx? (·.1) = none := by rfl) : PG X (.Tuple es k pos) (gAny X.K n t) :=
  ⟨fun pins s σ H v u Q I r hw => hw.elim (fun hw => (pg_tup hc h hn hst).run pins s σ H v u Q I r hw) fun hw => (pg_lst hc h hn hst).run pins s σ H v u Q I r hw⟩
def dSetA (is : List Nat) (t : TD) : TSD := fun D ρ => t ρ (fun d => match d with
  | .py (.tuple ds) => (match setAll ρ is ds with
    | some ρ' => D.nx ρ'
    | none => False)
  | .py (.list ds) => (match setAll ρ is ds with
    | some ρ' => D.nx ρ'
    | none => False)
  | _ => False) D.er
section
variable {S : Sx} {E : XK}
theorem ls_setA {is : List Nat} {n : Nat} {T : TE} {t : TD} (h : LE S E T t) (hn : is.length = n) : LS S E (tAsg T (gAny S.K n (gNames is))) (dSetA is t) := fun G0 H0 Fb D Dd σ ρ G H a r q =>
  h H0 ρ σ G H _ _ _ a.s.wf a.r q (fun v d G' H' s rv q => by
    split at q
    · rename_i ds
      split at q
      · rename_i ρ' e
        obtain ⟨p, xs, rfl, h1, h2⟩ := rv_tup rv
        obtain ⟨h3, h4⟩ := setAll_st (a.r.step s) h2 e
        exact .inl ⟨p, xs, rfl, .inl (.inl (s.wf.sub _ _ h1)), by rw [h4, hn], gNames_at h4 (r.nx _ _ G' H' ⟨a.s.trans s, h3, a.f.trans s.fm⟩ q)⟩
      · exact q.elim
    · rename_i ds
      split at q
      · rename_i ρ' e
        obtain ⟨p, xs, rfl, h1, h2⟩ := rv_lst rv
        obtain ⟨h3, h4⟩ := setAll_st (a.r.step s) h2 e
        exact .inr ⟨p, xs, rfl, .inl (.inl (s.wf.sub _ _ h1)), by rw [h4, hn], gNames_at h4 (r.nx _ _ G' H' ⟨a.s.trans s, h3, a.f.trans s.fm⟩ q)⟩
      · exact q.elim
    · exact q.elim) (r.err a.s)
end
end Dl

set_option Elab.async false
set_option linter.all false
set_option maxRecDepth 100000
set_option maxHeartbeats 4000000
/-! a tuple times any whole number -/
namespace Lx
open PySem PySem.Spec PyProof.Rows L2
theorem tup_times_le {l : Addr} {its : Array Value} {n : Nat} {dd : Option Addr} {sl : Array (Option Value)} {x : Int} {u : Tok} (h0 : (decide (x < -(2 ^ 63)) || decide (x ≥ 2 ^ 63)) = false) (h1 : (its.isEmpty || x == 1) = false) (h2 : (decide (x ≤ 0) || its.isEmpty) = true) :
    Meets (Builtin.«tuple.__mul__» ⟨[.ref l, .int x u], []⟩) fun _ R s => s.heap.get? l = some ⟨.type "tuple", dd, .seq its n, sl⟩ ∧ R (.ok (.ret (.ref s.heap.objs.size))) { s with heap := s.heap.push { cls := .type "tuple", data := .seq #[] } } := by
  refine .of_wp fun prog w A R s h => ?_
  obtain ⟨hp, g, d, tk, os⟩ := s
  obtain ⟨hl, h⟩ := h
  have fx := AutoSeq1.idx_int
  wp_walk using wpAny_loadPart' hl
  refine wpAny_ite_false (decide_eq_false (by rw [h0]; decide)) ?_
  wp_walk using wpAny_loadPart' hl
  exact ⟨_, rfl, h⟩
theorem tup_times_one {l : Addr} {its : Array Value} {n : Nat} {dd : Option Addr} {sl : Array (Option Value)} {u : Tok} :
    Meets (Builtin.«tuple.__mul__» ⟨[.ref l, .int 1 u], []⟩) fun _ R s => s.heap.get? l = some ⟨.type "tuple", dd, .seq its n, sl⟩ ∧ R (.ok (.ret (.ref l))) s := by
  refine .of_wp fun prog w A R s h => ?_
  obtain ⟨hp, g, d, tk, os⟩ := s
  obtain ⟨hl, h⟩ := h
  have fx := AutoSeq1.idx_int
  have h1 : (its.isEmpty || (1 : Int) == 1) = true := by simp
  wp_walk using wpAny_loadPart' hl
  exact ⟨_, rfl, h⟩
/-- a tuple that is not empty, times a whole number -/
def rTimes (K : PySem.W.Frag) : R2 := fun x y H Q => ∃ (l : Addr) (k : Int) (xs : List V), x = .ref l ∧ y = .int k ∧ SqT K H l xs ∧ xs ≠ [] ∧ -(2 ^ 62) ≤ k ∧ k ≤ 1000 ∧ xs.length ≤ 1000 ∧ (k = 1 → Q (.ref l) H) ∧ (k ≠ 1 → ∀ p, H p = none → Q (.ref p) (upd H p (.tup (List.replicate k.toNat xs).flatten)))
theorem op_times {X : Cx} : OpR X (binaryOp .Mult) (rTimes X.K) := by
  intro pins s σ H x y v u Q I rx ry h
  obtain ⟨l, k, xs, rfl, rfl, hT, hne, k0, k1, hz, q1, q2⟩ := h
  rcases Int.lt_or_le k 2 with lt | ge
  · have whole := hT
    cases rx
    obtain ⟨t, rfl⟩ := ry
    obtain ⟨its, r, ⟨⟨cls, dd, data, sl⟩, ho, hc, n, hd⟩, hs⟩ := I.tuple hT
    simp only at hc hd
    subst hc
    subst hd
    have ne : its.toArray.isEmpty = false := by
      cases its with
      | nil =>
        have z := r.length
        exact absurd (List.eq_nil_of_length_eq_zero z) hne
      | cons _ _ => rfl
    have road : ∀ {R : Value → Shared → Prop}, Meets (Builtin.«tuple.__mul__» ⟨[.ref l, .int k t], []⟩) (fun _ R s => s.heap.get? l = some ⟨.type "tuple", dd, .seq its.toArray n, sl⟩ ∧ R (.ok (.ret (if k = 1 then Value.ref l else .ref s.heap.objs.size))) (if k = 1 then s else { s with heap := s.heap.push { cls := .type "tuple", data := .seq #[] } })) := fun {_} => by
      by_cases e : k = 1
      · subst e
        simpa using tup_times_one
      · have z := tup_times_le (l := l) (its := its.toArray) (n := n) (dd := dd) (sl := sl) (x := k) (u := t) (by rw [decide_eq_false (by omega), decide_eq_false (by omega)]; rfl) (by rw [ne, Bool.false_or]; exact beq_eq_false_iff_ne.mpr e) (by rw [decide_eq_true (by omega)]; rfl)
        simpa [e] using z
    refine wpAny_binaryOp_repeat_ref (T := "tuple") (U := "int") (by decide) ⟨_, ho, rfl⟩ (fun s' => typeIs_int s' k t) noFill_tuple_mul F.fills_int_mul F.slot_int_rmul repeat_tuple F.slot_int_index.lookup
      (call_meets F.slot_int_rmul (typeIs_int s k t) F.entry_int_rmul (F.args_int_rmul_2 _ _) (int_rmul_tuple k t l its.toArray n dd sl) ⟨ho, rfl, ⟨_, ho, rfl⟩, ?_⟩)
    refine call_meets F.slot_tuple_mul ⟨_, ho, rfl⟩ F.entry_tuple_mul (F.args_tuple_mul_2 _ _) (road (R := fun _ _ => True)) ⟨ho, ?_⟩
    by_cases e : k = 1
    · rw [if_pos e, if_pos e]
      exact ⟨.ref l, H, I, rfl, q1 e⟩
    · rw [if_neg e, if_neg e]
      have q := q2 e
      rw [show k.toNat = 0 by omega] at q
      exact ⟨.ref s.heap.objs.size, _, I.laid (t' := s.toks) (o := .tup []) (fun b ob q => Heap.get?_push_of_some _ q) (Nat.le_refl _) ⟨Nat.zero_le _, [], .nil, IsTup.new _ _⟩, rfl, q _ (I.hok.fresh (Nat.le_refl _))⟩
  · exact op_repT pins s σ H _ _ v u Q I rx ry ⟨l, k, xs, rfl, rfl, hT, hne, ge, k1, hz, q2 (by omega)⟩
end Lx
namespace Dl
open PySem PySem.Spec PyProof.Rows L2 Lx
def fTimes : F2 := fun x y Q => match x, y with
  | .py (.tuple a), .py (.int k) => (1 ≤ a.length ∧ a.length ≤ 1000) ∧ (-(2 ^ 62) ≤ k ∧ k ≤ 1000) ∧ Q (.tup (List.replicate k.toNat a).flatten)
  | _, _ => False
theorem l2_times {S : Sx} : L2r S (rTimes S.K) fTimes := by
  intro G H x y dx dy Qd Q w rx ry q k
  unfold fTimes at q
  split at q
  · rename_i a i
    obtain ⟨⟨a1, a2⟩, ⟨i1, i2⟩, q⟩ := q
    obtain ⟨p, xs, rfl, h1, h2⟩ := rv_tup rx
    cases rv_int ry
    have hl := rp_len h2
    refine ⟨p, i, xs, rfl, rfl, .inl (.inl (w.sub _ _ h1)), fun e => ?_, by omega, i2, by omega, fun e => ?_, fun e t nt => ?_⟩
    · rw [e] at hl
      simp at hl
      omega
    · subst e
      have z : (List.replicate (1 : Int).toNat a).flatten = a := by simp
      rw [z] at q
      exact k (.ref p) (.tup a) G H (Step.refl w) rx q
    · have s1 := Step.newF (o := .tup (List.replicate i.toNat xs).flatten) w nt (fun z e => by cases e)
      exact k (.ref t) _ _ _ s1 (.py (.tup put_same (RpA.mono (same_upd (.inl (w.free nt))) _ _ (rpa_rep h2 _)))) q
  · exact q.elim
end Dl

set_option Elab.async false
set_option linter.all false
set_option maxRecDepth 100000
set_option maxHeartbeats 4000000
/-! the data layer: instances asked of their class, and compared by their own == -/
namespace Dl
open PySem PySem.Spec PyProof.Rows L2 Lx
/-- a class whose instances can be asked of their class -/
structure InsC (K : PySem.W.Frag) (C : Addr) : Prop where
  cl : Cls K C
  ha : PySem.W.findIn K (.ref C) "__class__" = some (some (.builtin "object.__class__"))
  hn : PySem.W.specialIn K (.builtin "object.__class__") "__get__" = some (some (.builtin "getset_descriptor.__get__"))
  ht : PySem.W.takesIn K (.builtin "object.__class__") = some true
  hm : PySem.W.mroIn K C (.type "object") = some true
section
variable {S : Sx} {E : XK}
theorem rv_ins {G : Gh} {v : V} {C : Addr} {fs : List (Str × DV)} (h : RV G v (.ins C fs)) : ∃ m dx vs, v = .ref m ∧ G.F m = some (.ins C dx vs) ∧ RFs G vs fs := by
  cases h with
  | ins h1 h2 => exact ⟨_, _, _, rfl, h1, h2⟩
theorem rv_tyx {G : Gh} {H : Hp} {v : V} {C : Addr} {fs : List (Str × DV)} (I : InsC S.K C) (w : Wf S G H) (h : RV G v (.ins C fs)) : TyX S.K H v (.ref C) := by
  obtain ⟨m, dx, vs, rfl, h1, _⟩ := rv_ins h
  exact .base (.ins (w.sub _ _ h1) I.cl I.ha I.hn I.ht I.hm)
/-- isinstance(x, C), x an instance of a class that f knows -/
def fIsOwn (C : Addr) (f : Addr → Option Bool) : FA := fun ds Q => match ds with
  | [.ins D _, .ref C'] => C' = C ∧ ∃ b, f D = some b ∧ Q (.bl b)
  | _ => False
theorem lc_isOwn {C : Addr} {f : Addr → Option Bool} (hf : ∀ D b, f D = some b → InsC S.K D ∧ PySem.W.kitOne S.K (.ref D) (.ref C) = some b) : LCr S (rIsi S.K) (fIsOwn C f) := by
  intro G H xs ds Qd Q w rx q k
  unfold fIsOwn at q
  split at q
  · rename_i D fs C'
    obtain ⟨rfl, b, e, q⟩ := q
    cases rx with
    | cons h t =>
      cases t with
      | cons h' t =>
        cases t
        cases h'
        obtain ⟨I, kt⟩ := hf D b e
        exact ⟨_, _, _, _, b, rfl, .own _, rv_tyx I w h, kt, k _ _ G H (Step.refl w) (.py (.bl _)) q⟩
  · exact q.elim
/-- x == y of two instances, by the class's own == -/
def fEqOwn (C : Addr) (D : Addr → Prop) (sp : SpD) : F2 := fun x y Q => match x, y with
  | .ins C' fs, .ins B gs => C' = C ∧ D B ∧ sp [.ins C' fs, .ins B gs] Q fun _ => False
  | _, _ => False
theorem l2_eqOwn {C : Addr} {D : Addr → Prop} {sp : SpD} (hD : ∀ B, D B → InsC S.K B ∧ PySem.W.notFirst S.K C (.ref B) = true) : L2r S (rEqI S.K C (spD S 2 sp) L2.E0) (fEqOwn C D sp) := by
  intro G H x y dx dy Qd Q w rx ry q k
  unfold fEqOwn at q
  split at q
  · rename_i C' fs B gs
    obtain ⟨rfl, hB, q⟩ := q
    obtain ⟨I, nf⟩ := hD B hB
    have ty := rv_tyx I w ry
    obtain ⟨m, d0, vs, rfl, h1, h2⟩ := rv_ins rx
    exact ⟨m, d0, vs, .ref B, rfl, w.sub _ _ h1, ty, nf, G, _, Qd, fun _ => False, rfl, w, .cons rx (.cons ry .nil), q, k, fun _ _ _ _ _ _ _ z => z.elim⟩
  · exact q.elim
end
end Dl

set_option Elab.async false
set_option linter.all false
set_option maxRecDepth 100000
set_option maxHeartbeats 4000000
/-! a set made by a walk, of whole numbers -/
namespace Lx
open PySem PySem.Spec PyProof.Rows L2 PpSet
/-- {e for .. in .. if ..}, e a whole number: V what holds behind i turns -/
def tSetI (w : World) (wi : TI) (g : TG) (tt : TT) (te : TE) (vs : List Nat) : TE := fun σ H Q => wi σ H fun J H1 => ∀ D, H1 D = none →
  ∃ V : Nat → Nat → Hp → Prop, (∃ m, V 0 m (upd H1 D (SetO w D (fun _ => false) 0))) ∧ ∀ i m Hi, V i m Hi →
    (J.stop i Hi ∧ Q (.ref D) Hi) ∨
    (J.go i Hi ∧ ∃ Z : Hp → Prop, (∀ Hn, Z Hn → ∃ k, k < m ∧ V (i + 1) k Hn) ∧ ∀ x Hx, J.yld i Hi x Hx → g x (wipe σ vs) Hx fun σ2 Ha => wipe σ2 vs = wipe σ vs ∧ tt σ2 Ha fun b Hb =>
      if b = true then te σ2 Hb fun y Hc => ∃ (c : Int) (T : Int → Bool) (n : Nat), y = .int c ∧ Hc D = some (SetO w D T n) ∧ n + 1 < scanBound ∧ Z (upd Hc D (SetO w D (fun j => T j || decide (j = c)) (if T c = true then n else n + 1)))
      else Z Hb)
section
variable {X : Cx}
theorem pe_setI {elt tg iter : Expr} {ifs : List Expr} {scope : Scope} {own : List (PySem.Str × Nat)} {pos : Pos} {wi : TI} {g : TG} {tt : TT} {te : TE} (hc : X.calm = true) (nd : X.N.Nodup) (hi : PI X tg iter wi) (bo : BlkOk X.N X.env.scope scope own)
    (hg : ∀ s H C cl fp, PG (X.blk s H scope (compEnvC scope cl C X.env) fp) tg g) (ht : ∀ s H C cl fp, PTs (X.blk s H scope (compEnvC scope cl C X.env) fp) ifs tt) (he : ∀ s H C cl fp, PE (X.blk s H scope (compEnvC scope cl C X.env) fp) elt te)
    (hs : ∀ x, foldedSetIterable iter X.env x = pure x := by intro _; rfl) : PE X (.SetComp elt [⟨tg, iter, ifs, 0⟩] scope pos) (tSetI X.w wi g tt te (own.map (·.2))) := by
  constructor
  intro pins s σ H Q I h
  rw [eval_SetComp]
  have fr : ∀ y ∈ scope.names, y.2 = .free → ∃ c, X.env.cells.lookup y.1 = some c := by
    intro y hy e
    cases bo.free y hy e with
    | inl k => exact I.ok.has _ (.inl k)
    | inr k => exact I.ok.has _ (.inr k)
  apply wpAny_comprehension_free (use := none) rfl hs (closure_ok fr) bo.kind (fun y hy e => by rw [bo.uniq y hy, e])
  refine thn (hi.run pins s σ H _ I h) fun xv s1 hx => thn hx fun itv s2 h2 => ?_
  obtain ⟨it, fp, tn, J, Hs, e, I2, T, at0, free0, q⟩ := h2
  subst e
  refine newSet_ok (newEnv_comp ?_)
  generalize eD : s2.heap.objs.size = D
  obtain ⟨V, ⟨m0, v0⟩, tv⟩ := q D (I2.hok.fresh (by omega))
  generalize eA : ({ s2 with heap := s2.heap.push ⟨.type "set", none, .set #[] 0 (.fresh 0 0 (!X.w.params.followText "set-order")), #[]⟩ } : Shared) = sA
  have hpA : sA.heap = s2.heap.push ⟨.type "set", none, .set #[] 0 (.fresh 0 0 (!X.w.params.followText "set-order")), #[]⟩ := by rw [← eA]
  have grow : ∀ b o, s2.heap.get? b = some o → sA.heap.get? b = some o := fun b o e => by
    rw [hpA]
    exact Heap.get?_push_of_some _ e
  have IA : Inv X pins σ (upd Hs D (SetO X.w D (fun _ => false) 0)) sA := by
    subst eD
    subst eA
    exact I2.laid (t' := s2.toks) (fun b o e => grow b o e) (Nat.le_refl _) (setO_new (setR_fresh X.w))
  have low : ∀ b ∈ fp, b < s2.heap.objs.size := fun b hb => (T.obj _ _ at0 b hb).elim fun o z => Heap.lt_size z.1
  have freeA : ∀ b ∈ fp, FpOk X pins (upd Hs D (SetO X.w D (fun _ => false) 0)) b ∧ b < sA.heap.objs.size := fun b hb => by
    have lt := low b hb
    obtain ⟨z1, z2⟩ := free0 b hb
    refine ⟨⟨?_, z2⟩, by rw [hpA, Heap.size_push]; exact Nat.lt_succ_of_lt lt⟩
    rw [upd_ne (show b ≠ D from eD ▸ Nat.ne_of_lt lt)]
    exact z1
  generalize eH : upd Hs D (SetO X.w D (fun _ => false) 0) = HA at IA v0 freeA
  have atA : tn 0 sA.heap := T.keep _ _ _ at0 fun b _ o e => grow b o e
  have IB := block_start IA bo nd freeA
  generalize eC : cellsFrom (sA.heap.objs.size + 1) scope.names (cloFrom X.env.cells scope.names []) = cs at IB
  have pg := hg sA HA sA.heap.objs.size cs fp
  have pt := ht sA HA sA.heap.objs.size cs fp
  have pe := he sA HA sA.heap.objs.size cs fp
  have locs : (compEnvC scope cs sA.heap.objs.size X.env).locals = sA.heap.objs.size := rfl
  show codeAny (model X.prog X.w) X.A (.compStart (.SetComp elt [⟨tg, iter, ifs, 0⟩] scope pos) 0 (.ref it) (.ref D) (compEnvC scope cs sA.heap.objs.size X.env)) _ _
  have atB : tn 0 (pushCells (sA.heap.push { cls := .type "dict", data := .dict #[] }) scope.names) := T.keep _ _ _ atA fun b _ o e => pushCells_keeps _ _ _ _ (Heap.get?_push_of_some _ e)
  generalize eL : compEnvC scope cs sA.heap.objs.size X.env = ce at IB pg pt pe locs ⊢
  generalize eB : ({ sA with heap := pushCells (sA.heap.push { cls := .type "dict", data := .dict #[] }) scope.names } : Shared) = sB at IB ⊢
  have atB : tn 0 sB.heap := by rw [← eB]; exact atB
  have vac : ∀ b ∈ fp, HA b = none := fun b hb => (freeA b hb).1.1
  -- within the block what is walked stays untouched
  have rests : ∀ {τ : L2.St} {Hn : Hp} {sn : Shared}, Inv (X.blk sA HA scope ce fp) [] τ Hn sn → (∀ b ∈ fp, Hn b = none) → ∀ b ∈ fp, FpOk (X.blk sA HA scope ce fp) [] Hn b := by
    intro τ Hn sn K hn b hb
    refine ⟨hn b hb, (K.ok.exf b hb).1, K.ok.exfs b hb, .inl hb, fun x c e => (K.ok.exf b hb).2 x c e, fun p hp => ?_⟩
    exact absurd (show p ∈ ([] : List (Addr × Obj)) ++ [] from hp) (by simp)
  suffices lp : codeAny (model X.prog X.w) X.A (.compLoop (.SetComp elt [⟨tg, iter, ifs, 0⟩] scope pos) 0 (.ref it) (.ref D) ce) (compPost (model X.prog X.w) X.A X.xe none (EP X pins σ Q) (.ref D) sA.heap.objs.size) sB from codeAny_compStart_set lp (T.self X.A 0 _ _ _ atB lp)
  apply compLoopS_any (fun m t => ∃ i Ht, Inv (X.blk sA HA scope ce fp) [] (wipe σ (own.map (·.2))) Ht t ∧ tn i t.heap ∧ (∀ b ∈ fp, Ht b = none) ∧ V i m Ht) ?_ m0 ⟨0, HA, IB, atB, vac, v0⟩
  rintro m t ⟨i, Ht, It, at_, vt, vv⟩
  cases tv i m Ht vv with
  | inl z =>
    obtain ⟨stop, qq⟩ := z
    refine thnF (T.done (X.blk sA HA scope ce fp) rfl rfl rfl hc i [] t _ Ht (fun _ _ => False) It (rests It vt) at_ stop) fun r u ⟨er, Iu⟩ => ?_
    subst er
    have zL : Ht sA.heap.objs.size = none := locs ▸ Iu.free
    have give := fun b hb => (freeA b hb).1
    have Ik : Inv X pins σ Ht u := IA.call' (ch := fp) Iu.os Iu.base Iu.hok Iu.bare fun b hb => ⟨(give b hb).2.2.2.1, (give b hb).2.1, (give b hb).2.2.2.2.1, (give b hb).2.2.2.2.2⟩
    obtain ⟨mm, hm, _⟩ := Iu.loc
    obtain ⟨a0, a1, a2, a3, a4, a5⟩ := IA.fpOk (Nat.le_refl _) zL
    have hm : u.heap.Ns sA.heap.objs.size mm := locs ▸ hm
    exact ⟨mm, hm, fun hh sb => ⟨.ref D, Ht, Ik.turned (t' := u.toks) (fun b o nb e => (sb.2 b nb).trans e) a0 a1 a3 a4 a5, rfl, qq⟩⟩
  | inr z =>
    obtain ⟨go, Z, hZ, step⟩ := z
    refine thnF (T.item (X.blk sA HA scope ce fp) rfl rfl rfl hc i [] t _ Ht (fun _ _ => False) It (rests It vt) at_ go) fun r u ⟨val, er, hu⟩ => ?_
    subst er
    refine thnF hu fun _ u1 ⟨x, Hx, Ix, rx, yx, ax, nx⟩ => ?_
    have Ip := Ix.pinned (rests Ix nx) (T.obj _ _ ax)
    refine thnF (pg.run _ u1 _ Hx x val _ Ip rx (step x Hx yx)) fun _ u2 ⟨σ2, Ha, Ia, wa, qa⟩ => ?_
    refine thnF (pt.run _ u2 σ2 Ha _ Ia qa) fun b u3 ⟨Hb, Ib, qb⟩ => ?_
    have close : ∀ {v : Shared} {Hv : Hp}, Inv (X.blk sA HA scope ce fp) ([] ++ pinsAt fp u1.heap) σ2 Hv v → Z Hv → ∃ k, k < m ∧ ∃ i Ht, Inv (X.blk sA HA scope ce fp) [] (wipe σ (own.map (·.2))) Ht v ∧ tn i v.heap ∧ (∀ b ∈ fp, Ht b = none) ∧ V i k Ht := by
      intro v Hv Iv zv
      obtain ⟨k, lt, vk⟩ := hZ Hv zv
      have held : ∀ b ∈ fp, ∀ o, u1.heap.get? b = some o → v.heap.get? b = some o ∧ Hv b = none := fun b hb o e => by
        have y := Iv.pin (b, o) (List.mem_append_right _ (List.mem_append_right _ (mem_pinsAt hb e)))
        exact ⟨y.1, y.2.1⟩
      refine ⟨k, lt, i + 1, Hv, (Iv.unpinned (pins := [])).weak (by rw [← wa, wipe_length]) (fun j z e => ?_), T.keep _ _ _ ax fun b hb o e => (held b hb o e).1, fun b hb => ?_, vk⟩
      · rw [← wa] at e
        exact (wipe_some e).1
      · obtain ⟨o, e, _⟩ := T.obj _ _ ax b hb
        exact (held b hb o e).2
    cases b with
    | false => exact close Ib (by simpa using qb)
    | true =>
      simp only [if_true] at qb
      refine thnF (pe.run _ u3 σ2 Hb _ Ib qb) fun y u4 ⟨yv, Hc, Ic, ry, c, T0, n0, ey, hD, hn, zz⟩ => ?_
      subst ey
      refine thnF (mt_sadd _ u4 σ2 Hc (.ref D) [.int c] (.ref D) [y] (fun _ Hv => Z Hv) Ic rfl (.cons ry .nil) ⟨D, c, T0, n0, rfl, rfl, hD, hn, zz⟩) fun _ u5 ⟨_, Hv, Iv, _, zv⟩ => ?_
      exact close Iv zv
end
end Lx

set_option Elab.async false
set_option linter.all false
set_option maxRecDepth 100000
set_option maxHeartbeats 4000000
/-! the data layer: sorted({e for .. in .. if ..}), e a whole number -/
namespace Dl
open PySem PySem.Spec PyProof.Rows L2 Lx
theorem tabs_set {L : List (Addr × Str)} {D : Addr} {H H' : Hp} {w : World} {T : Int → Bool} {n : Nat} (hb : H D = some (SetO w D T n)) (e : ∀ a o, H a = some o → a ≠ D → H' a = some o) (h : LamX.Tabs L H) : LamX.Tabs L H' := fun p hp => by
  obtain ⟨ps, h1, h2, h3⟩ := h p hp
  refine ⟨ps, e _ _ h1 ?_, h2, fun pos cv hc => ?_⟩
  · intro z
    rw [z, hb] at h1
    unfold SetO at h1
    cases h1
  · obtain ⟨c, e1, e2⟩ := h3 pos cv hc
    refine ⟨c, e1, e _ _ e2 ?_⟩
    rintro rfl
    rw [hb] at e2
    exact code_set (Option.some.inj e2).symm
section
variable {S : Sx} {E : XK} {G G0 G' : Gh} {H H0 H' : Hp}
theorem Step.writeS {D : Addr} {w : World} {T : Int → Bool} {n : Nat} {o : HO} (a : Step S G0 H0 G H) (h : H D = some (SetO w D T n)) (nf : G.F D = none) (nb : ¬ G.B D) (n0 : Fr H0 D) : Step S G0 H0 G (upd H D o) where
  w0 := a.w0
  wf := by
    refine ⟨fun x u e => ?_, fun b hb => ?_, a.wf.tbl, tabs_set h (fun x u z ne => by rw [upd_ne ne]; exact z) a.wf.tabs⟩
    · have z : x ≠ D := by
        rintro rfl
        rw [nf] at e
        cases e
      rw [upd_ne z]
      exact a.wf.sub _ _ e
    · obtain ⟨⟨c0, cs, h1, h2, h3⟩, h4⟩ := a.wf.box b hb
      have z : b ≠ D := by
        rintro rfl
        exact nb hb
      exact ⟨⟨c0, cs, by rw [upd_ne z]; exact h1, h2, h3⟩, h4⟩
  fm := a.fm
  bm := a.bm
  keep := fun x u hx n t => by
    rw [upd_ne (n0.ne hx t)]
    exact a.keep x u hx n t
  nf := a.nf
  nb := a.nb
  there := fun x u hx t => by
    rw [upd_ne (n0.ne hx t)]
    exact a.there x u hx t
/-- the turns of a set that is made by a walk: the numbers that were put, in order -/
def dTurnsI (g : Tg) (tt : TTD) (te : TD) (Ed : Er → Prop) (Qd : List Int → Prop) (ρ : Rho) : List PyData → List Int → Prop
  | [], acc => Qd acc
  | d :: ds, acc => match g.put ρ d with
    | some ρ' => tt ρ' (fun b => if b = true then te ρ' (fun y => match y with
        | .py (.int k) => acc.length < 60 ∧ dTurnsI g tt te Ed Qd ρ ds (acc ++ [k])
        | _ => False) Ed
      else dTurnsI g tt te Ed Qd ρ ds acc) Ed
    | none => False
/-- sorted of such a set -/
def oSetC (ti : TOD) (g : Tg) (tt : TTD) (te : TD) : TOD := fun ρ Qd Ed => ti ρ (fun l => dTurnsI g tt te Ed (fun ns => ∀ ns' : List Int, ns'.Pairwise (· < ·) → (∀ k, k ∈ ns' ↔ k ∈ ns) → Qd (ns'.map .int)) (wipeL ρ g.ix) l []) Ed
/-- the set holds what was put -/
def SetIs (w : World) (H : Hp) (D : Addr) (ns : List Int) : Prop := ∃ (T : Int → Bool) (n : Nat), H D = some (SetO w D T n) ∧ n ≤ ns.length ∧ ∀ k, T k = true ↔ k ∈ ns
theorem setO_nt {w : World} {D : Addr} {T : Int → Bool} {n : Nat} : ∀ z, SetO w D T n ≠ .tbl z := fun z e => by
  unfold SetO at e
  cases e
theorem setO_m {w : World} {D : Addr} {T : Int → Bool} {n : Nat} : MutD D (SetO w D T n) := ⟨w, T, n, rfl⟩
theorem lo_setC {w : World} {wi : TI} {ti : TOD} {g : Tg} {Tt : TT} {Te : TE} {tt : TTD} {te : TD} (h : LI S E wi ti) (ht : LT S E Tt tt) (he : LE S E Te te) : LO S E (tCB (rSortedSet w) (tCons (tSetI w wi (g.rd S.K) Tt Te g.ix) tNil)) (oSetC ti g tt te) := by
  intro H0 ρ σ G H Qd Ed Q wf st q k ke
  refine h H0 ρ σ G H _ Ed _ wf st q (fun l J Gd Y G1 H1 s1 q1 wk sd yl => ?_) ke
  intro D nD
  have n1 : Fr H1 D := .of nD
  have s0 := Step.new (o := SetO w D (fun _ => false) 0) s1.wf nD
  refine ⟨fun i m Hi => m = l.length - i ∧ i ≤ l.length ∧ ∃ Gi ns, Step S G1 H1 Gi Hi ∧ SetIs w Hi D ns ∧ ns.length ≤ 60 ∧ Gi.F D = none ∧ ¬ Gi.B D ∧ dTurnsI g tt te Ed (fun ns => ∀ ns' : List Int, ns'.Pairwise (· < ·) → (∀ k, k ∈ ns' ↔ k ∈ ns) → Qd (ns'.map .int)) (wipeL ρ g.ix) (l.drop i) ns,
    ⟨_, rfl, Nat.zero_le _, G1, [], s0, ⟨_, 0, upd_same, Nat.le_refl _, fun k => by simp⟩, by simp, s1.wf.free nD, s1.wf.box_ne nD, q1⟩, ?_⟩
  rintro i m Hi ⟨rfl, hi, Gi, ns, a1, hS, hl, fD, bD, qi⟩
  have gd := sd Hi (a1.fm.trans a1.wf.sub)
  by_cases lt : i < l.length
  · refine .inr ⟨wk.goes i Hi lt gd, fun Hn => i + 1 ≤ l.length ∧ ∃ Gi ns, Step S G1 H1 Gi Hn ∧ SetIs w Hn D ns ∧ ns.length ≤ 60 ∧ Gi.F D = none ∧ ¬ Gi.B D ∧ dTurnsI g tt te Ed (fun ns => ∀ ns' : List Int, ns'.Pairwise (· < ·) → (∀ k, k ∈ ns' ↔ k ∈ ns) → Qd (ns'.map .int)) (wipeL ρ g.ix) (l.drop (i + 1)) ns, fun Hn z => ⟨_, by omega, rfl, z.1, z.2⟩, fun x Hx hy => ?_⟩
    obtain ⟨G3, d, s3, hd, rv⟩ := yl i Gi Hi x Hx a1.wf a1.fm (wk.yields i Hi x Hx lt gd hy)
    rw [drop_cons hd] at qi
    unfold dTurnsI at qi
    split at qi
    · rename_i ρ2 e2
      have a3 := a1.trans s3
      have stw : StR G3 H0 Hx (wipe σ g.ix) (wipeL ρ g.ix) := (((st.step s1).step a1).step s3).wipe g.ix
      refine tg_put s3.wf stw rv e2 fun σ' st' ⟨xs, ex⟩ => ?_
      subst ex
      refine ⟨wipe_setAll, ?_⟩
      obtain ⟨T, n, hD, hn, hT⟩ := hS
      have put : ∀ {G5 : Gh} {H5 : Hp}, Step S Gi Hi G5 H5 → H5 D = some (SetO w D T n) ∧ G5.F D = none ∧ ¬ G5.B D := fun {G5 H5} s => by
        exact ⟨s.keep _ _ hD bD setO_nt, s.nf _ _ hD setO_m fD, s.nb _ _ hD setO_nt bD⟩
      refine ht H0 ρ2 _ G3 Hx _ Ed _ a3.wf st' qi (fun b G4 H4 s4 q4 => ?_) (fun e cls d G' H' s he h => ke e cls d G' H' (s1.trans (a3.trans s)) he h)
      have a4 := a3.trans s4
      cases b with
      | true =>
        refine iteT ?_
        refine he H0 ρ2 _ G4 H4 _ Ed _ a4.wf (st'.step s4) q4 (fun v y G5 H5 s5 ry q5 => ?_) (fun e cls d G' H' s he h => ke e cls d G' H' (s1.trans (a4.trans s)) he h)
        have a5 := a4.trans s5
        split at q5
        · rename_i c
          cases rv_int ry
          obtain ⟨p1, p2, p3⟩ := put ((s3.trans s4).trans s5)
          refine ⟨c, T, n, rfl, p1, by show n + 1 < 4096; omega, by omega, G5, ns ++ [c], a5.writeS p1 p2 p3 n1, ⟨_, _, upd_same, ?_, fun k => ?_⟩, by rw [List.length_append]; show ns.length + 1 ≤ 60; omega, p2, p3, q5.2⟩
          · rw [List.length_append]
            show (if T c = true then n else n + 1) ≤ ns.length + 1
            split <;> omega
          · rw [Bool.or_eq_true, decide_eq_true_eq, hT k, List.mem_append, List.mem_singleton]
        · exact q5.elim
      | false =>
        obtain ⟨p1, p2, p3⟩ := put (s3.trans s4)
        exact iteF ⟨by omega, G4, ns, a4, ⟨T, n, p1, hn, hT⟩, hl, p2, p3, q4⟩
    · exact qi.elim
  · have e : i = l.length := by omega
    subst e
    rw [List.drop_of_length_le (Nat.le_refl _)] at qi
    obtain ⟨T, n, hD, hn, hT⟩ := hS
    refine .inl ⟨wk.stops Hi gd, ?_⟩
    refine ⟨D, T, n, rfl, hD, by omega, fun ns' l' hs hm hl nl => ?_⟩
    have w2 := s1.trans a1
    exact k l' _ _ Gi _ (w2.trans (Step.new w2.wf nl)) (w2.was_free (.of nl)) upd_same (w2.wf.free nl) (w2.wf.box_ne nl) (ints_rpa ns') (qi ns' hs fun k => by rw [hm k, hT k])
end
end Dl

set_option Elab.async false
set_option linter.all false
set_option maxRecDepth 100000
set_option maxHeartbeats 4000000
/-! the data layer: the turns of a set comprehension -/
namespace Dl
open PySem PySem.Spec PyProof.Rows L2 Lx
theorem turnsI_fm {g : Tg} {tt : TTD} {te : TD} {Ed : Er → Prop} {Qd : List Int → Prop} {ρ : Rho} (p : PyData → Bool) (f : PyData → Int) : ∀ (l : List PyData) (acc : List Int), acc.length + (l.filter p).length ≤ 60 →
    (∀ d ∈ l, ∃ ρ', g.put ρ d = some ρ' ∧ (∀ K : Bool → Prop, K (p d) → tt ρ' K Ed) ∧ (p d = true → ∀ K : DV → Prop, K (.int (f d)) → te ρ' K Ed)) → Qd (acc ++ (l.filter p).map f) → dTurnsI g tt te Ed Qd ρ l acc
  | [], acc, _, _, h => by simpa [dTurnsI] using h
  | d :: l, acc, hl, hs, h => by
    obtain ⟨ρ', e, h1, h2⟩ := hs d List.mem_cons_self
    have hs' := fun x hx => hs x (List.mem_cons_of_mem _ hx)
    unfold dTurnsI
    rw [e]
    refine h1 _ ?_
    cases hp : p d with
    | true =>
      rw [List.filter_cons_of_pos hp] at hl h
      rw [List.length_cons] at hl
      simp only [if_true]
      refine h2 hp _ ⟨by omega, turnsI_fm p f l (acc ++ [f d]) (by rw [List.length_append]; show acc.length + 1 + _ ≤ 60; omega) hs' ?_⟩
      rw [List.append_assoc]
      exact h
    | false =>
      rw [List.filter_cons_of_neg (by simp [hp])] at hl h
      simp only [Bool.false_eq_true, if_false]
      exact turnsI_fm p f l acc hl hs' h
end Dl
namespace Dl
open PySem PySem.Spec PyProof.Rows L2 Lx
/-- x.extend(e), x a list of the def's own, e another list -/
def dExtend (i : Nat) (te : TD) : TSD := fun D ρ => match ρ[i]? with
  | some (some (.own l)) => te ρ (fun y => match y with
    | .py (.list m) => l.length + m.length ≤ 1000000 ∧ D.nx (ρ.set i (some (.own (l ++ m))))
    | _ => False) D.er
  | _ => False
theorem ls_extend {S : Sx} {E : XK} {i : Nat} {Te : TE} {te : TD} (he : LE S E Te te) : LS S E (tDrop (tBM S.K "list" rExtend (tVar i) (tCons Te tNil))) (dExtend i te) := by
  intro G0 H0 Fb D Dd σ ρ G H a r q
  unfold dExtend at q
  split at q
  · rename_i l e
    obtain ⟨v, z1, p, vs, rfl, z3, z4, z5, z6, z7⟩ := a.r.at_ i _ e
    refine ⟨.ref p, z1, .inl ⟨rfl, _, .inl (.inl z3)⟩, ?_⟩
    refine he H0 ρ σ G H _ _ _ a.s.wf a.r q (fun v d G1 H1 s1 rv q1 => ?_) (r.err a.s)
    split at q1
    · rename_i m
      have hp := s1.keep _ _ z3 z5 (fun z e => by cases e)
      have fp := s1.nf _ _ z3 trivial z4
      have bp := s1.nb _ _ z3 (fun z e => by cases e) z5
      have rp := RpA.mono s1.fm _ _ z7
      obtain ⟨b, zs, rfl, h1, h2⟩ := rv_lst rv
      refine ⟨p, b, vs, zs, rfl, rfl, hp, s1.wf.sub _ _ h1, by rw [rp_len z7, rp_len h2, sizeLine_eq]; have := q1.1; omega, ?_⟩
      exact r.nx _ _ _ _ ⟨(a.s.trans s1).write hp fp bp z6, (a.r.step s1).write e z1 hp (rpa_app rp h2), a.f.trans s1.fm⟩ q1.2
    · exact q1.elim
  · exact q.elim
end Dl
namespace Dl
open PySem PySem.Spec PyProof.Rows L2 Lx
/-- a, found = x, [..]: found a list that the def may write to -/
def dPairO (i j : Nat) (ta : TD) (tb : TOD) : TSD := fun D ρ => ta ρ (fun x => tb ρ (fun l => D.nx ((ρ.set i (some (.dv x))).set j (some (.own l)))) D.er) D.er
theorem ls_pairO {S : Sx} {E : XK} {i j : Nat} {Ta Tb : TE} {ta : TD} {tb : TOD} (ha : LE S E Ta ta) (hb : LO S E Tb tb) : LS S E (tAsg (tTup (tCons Ta (tCons Tb tNil))) (gTup S.K 2 (gCons (gName i) (gCons (gName j) gNil)))) (dPairO i j ta tb) := by
  intro G0 H0 Fb D Dd σ ρ G H a r q
  refine ha H0 ρ σ G H _ _ _ a.s.wf a.r q (fun v d G1 H1 s1 rv q1 => ?_) (r.err a.s)
  refine hb H0 ρ σ G1 H1 _ _ _ s1.wf (a.r.step s1) q1 (fun p vs l G2 H2 s2 n hp nf nb rr q2 => ?_) (r.err (a.s.trans s1))
  refine ⟨by rw [sizeLine_eq]; show 2 ≤ 16777216; decide, fun t nt => ?_⟩
  refine ⟨t, _, rfl, .inl (.inl upd_same), rfl, _, _, rfl, _, _, rfl, rfl, ?_⟩
  have ne : p ≠ t := by
    rintro rfl
    rw [nt] at hp
    cases hp
  have st1 := (a.r.step s1).set (i := i) rv
  have stp := st1.setO (i := j) (s2.trans (Step.new (o := .tup [v, .ref p]) s2.wf nt)) n ((a.s.trans s1).was_free n) (by rw [upd_ne ne]; exact hp) nf nb rr
  exact r.nx _ _ G2 _ ⟨((a.s.trans s1).trans s2).trans (Step.new s2.wf nt), stp, (a.f.trans s1.fm).trans s2.fm⟩ q2
end Dl

set_option Elab.async false
set_option linter.all false
set_option maxRecDepth 100000
set_option maxHeartbeats 4000000
/-! a set of whole numbers made by two walks, one within the other -/
namespace Lx
open PySem PySem.Spec PyProof.Rows L2 PpSet
abbrev S2 (el ta ia : Expr) (fa : List Expr) (tb ib : Expr) (fb : List Expr) (sco : Scope) (po : Pos) : Expr := .SetComp el [⟨ta, ia, fa, 0⟩, ⟨tb, ib, fb, 0⟩] sco po
section
variable {pr : Program} {w : World} {A : Around} {R : Result → Shared → Prop} {en : Env}
/-- how a turn of any clause runs, T what stands behind its tests -/
abbrev TurnIs (C : Expr) (k : Nat) (it acc : Value) (en : Env) (p : Pos) (tg : Expr) (fs : List Expr) (T : Sem Fin) : Prop := compTurn C k it acc en = (do
      standAt p
      match ← pyNext it with
      | none => pure (.done .next)
      | some v =>
        letOwnedTupleGo tg it v
        assign tg en v
        let mut fit := true
        for q in fs do
          if fit then fit ← isTrue q en (eval q en)
        if fit then T else again (.compLoop C k it acc en))
abbrev NB (pr : Program) (w : World) (A : Around) (R : Result → Shared → Prop) (en : Env) : Value → Shared → Prop := notedBy (model pr w) A en fun e z => R (.error e) z
theorem loop_by {el ta ia : Expr} {fa : List Expr} {tb ib : Expr} {fb : List Expr} {sco : Scope} {po : Pos} {k : Nat} {it acc : Value} {p : Pos} {tg : Expr} {fs : List Expr} {T : Sem Fin} {s : Shared} (hT : TurnIs (S2 el ta ia fa tb ib fb sco po) k it acc en p tg fs T) (I : Nat → Shared → Prop)
    (turn : ∀ n s, I n s → wpAny (model pr w) A (pyNext it) (fun r t => match r with
      | none => R (.ok .next) t
      | some v => wpAny (model pr w) A (letOwnedTupleGo tg it v) (fun _ t1 => wpAny (model pr w) A (assign tg en v) (fun _ t2 =>
          wpAny (model pr w) A (forIn fs true fun q r => if r = true then do let fit ← isTrue q en (eval q en); pure (ForInStep.yield fit) else pure (ForInStep.yield r)) (fun fit t3 =>
            if fit = true then wpAny (model pr w) A T (fun fin t4 => fin = .again (.compLoop (S2 el ta ia fa tb ib fb sco po) k it acc en) ∧ ∃ m, m < n ∧ I m t4) (NB pr w A R en) t3 else ∃ m, m < n ∧ I m t3) (NB pr w A R en) t2) (NB pr w A R en) t1) (NB pr w A R en) t) (NB pr w A R en) s)
    (n : Nat) (h : I n s) : codeAny (model pr w) A (.compLoop (S2 el ta ia fa tb ib fb sco po) k it acc en) R s := by
  apply codeAny_loop rfl I (n := n) (h := h)
  intro n s hI
  show wpAny _ A ((compTurn (S2 el ta ia fa tb ib fb sco po) k it acc en).onRaise (fun x => do noteFrame x en; theTreesLotGoes x)) _ _ s
  apply wpAny_noted
  rw [hT]
  apply wpAny_bind
  apply wpAny_standAt
  apply wpAny_bind
  refine wpAny_mono (turn n s hI) (fun r t z => ?_) fun _ _ y => y
  match r, z with
  | none, z => exact wpAny_pure z
  | some v, z =>
    apply wpAny_bind
    refine wpAny_mono z (fun _ t1 z1 => ?_) fun _ _ y => y
    apply wpAny_bind
    refine wpAny_mono z1 (fun _ t2 z2 => ?_) fun _ _ y => y
    apply wpAny_bind
    refine wpAny_mono z2 (fun fit t3 z3 => ?_) fun _ _ y => y
    match fit, z3 with
    | false, z3 => exact wpAny_pure ⟨rfl, z3⟩
    | true, z3 =>
      refine wpAny_mono z3 (fun fin t4 z4 => ?_) fun _ _ y => y
      obtain ⟨rfl, z5⟩ := z4
      exact ⟨rfl, z5⟩
/-- a clause's start, of any comprehension -/
theorem start_by {el ta ia : Expr} {fa : List Expr} {tb ib : Expr} {fb : List Expr} {sco : Scope} {po : Pos} {k : Nat} {it acc : Value} {g : Comprehension} {s : Shared} (hk : (clausesOf (S2 el ta ia fa tb ib fb sco po))[k]? = some g) (ha : g.is_async = 0) (h0 : codeAny (model pr w) A (.compLoop (S2 el ta ia fa tb ib fb sco po) k it acc en) R s)
    (h : wpAny (model pr w) A (pyIter it) (fun it' t => codeAny (model pr w) A (.compLoop (S2 el ta ia fa tb ib fb sco po) k it' acc en) R t) (NB pr w A R en) s) : codeAny (model pr w) A (.compStart (S2 el ta ia fa tb ib fb sco po) k it acc en) R s := by
  apply codeAny_of_tree
  show wpAny _ _ ((compStart (S2 el ta ia fa tb ib fb sco po) k it acc en).onRaise (fun x => do noteFrame x en; standAt theWindowsPlace)) _ _ s
  apply wpAny_notedAt
  unfold compStart
  rw [hk]
  simp only [Option.elim_some, ha]
  show wpAny _ _ (ask >>= _) _ _ s
  apply wpAny_bind
  apply wpAny_askSetting
  apply wpAny_ite
  split
  · first
      | exact wpAny_bind (wpAny_pure (wpAny_pure ⟨rfl, h0⟩))
      | exact wpAny_pure ⟨rfl, h0⟩
  · have fin : wpAny (model pr w) A (pyIter it) (fun it' t => wpAny (model pr w) A (again (.compLoop (S2 el ta ia fa tb ib fb sco po) k it' acc en)) (fun fin s' => match fin with | .done f => R (.ok f) s' | .again c' => c'.quiet = true ∧ codeAny (model pr w) A c' R s') (NB pr w A R en) t) (NB pr w A R en) s :=
      wpAny_mono h (fun it' t z => wpAny_pure ⟨rfl, z⟩) fun _ _ y => y
    apply wpAny_bind
    apply wpAny_rule
    first
      | exact wpAny_bind (wpAny_standAt (wpAny_bind fin))
      | (show wpAny _ _ (standAt g.iter.pos >>= _) _ _ s; exact wpAny_bind (wpAny_standAt (wpAny_bind fin)))
theorem turnA {el ta ia : Expr} {fa : List Expr} {tb ib : Expr} {fb : List Expr} {sco : Scope} {po : Pos} {it acc : Value} : TurnIs (S2 el ta ia fa tb ib fb sco po) 0 it acc en ia.pos ta fa (do
      let x ← eval ib en
      standAt ib.pos
      let y ← foldedSetIterable ib en x
      let z ← holding [y] (pyIter y)
      let _ ← runOwn (.compStart (S2 el ta ia fa tb ib fb sco po) 1 z acc en) en
      again (.compLoop (S2 el ta ia fa tb ib fb sco po) 0 it acc en)) := by rfl
theorem turnB {el ta ia : Expr} {fa : List Expr} {tb ib : Expr} {fb : List Expr} {sco : Scope} {po : Pos} {it acc : Value} : TurnIs (S2 el ta ia fa tb ib fb sco po) 1 it acc en ib.pos tb fb (do
      (do let y ← eval el en; standAt el.pos; let _ ← call (.builtin "set.add") [acc, y])
      again (.compLoop (S2 el ta ia fa tb ib fb sco po) 1 it acc en)) := by rfl
end
/-- {e for .. in .. if .. for .. in .. if ..}, e a whole number -/
def tSetI2 (w : World) (wi : TI) (g : TG) (tt : TT) (wj : TI) (gj : TG) (tj : TT) (te : TE) (vs us : List Nat) : TE := fun σ H Q => wi σ H fun J H1 => ∀ D, H1 D = none →
  ∃ V : Nat → Nat → Hp → Prop, (∃ m, V 0 m (upd H1 D (SetO w D (fun _ => false) 0))) ∧ ∀ i m Hi, V i m Hi →
    (J.stop i Hi ∧ Q (.ref D) Hi) ∨
    (J.go i Hi ∧ ∃ Z : Hp → Prop, (∀ Hn, Z Hn → ∃ k, k < m ∧ V (i + 1) k Hn) ∧ ∀ x Hx, J.yld i Hi x Hx → g x (wipe σ vs) Hx fun σ2 Ha => wipe σ2 vs = wipe σ vs ∧ tt σ2 Ha fun b Hb =>
      if b = true then wj σ2 Hb fun L Hc => ∃ U : Nat → Nat → Hp → Prop, (∃ m, U 0 m Hc) ∧ ∀ j k Hj, U j k Hj →
        (L.stop j Hj ∧ Z Hj) ∨
        (L.go j Hj ∧ ∃ Y : Hp → Prop, (∀ Hn, Y Hn → ∃ k', k' < k ∧ U (j + 1) k' Hn) ∧ ∀ x' Hy, L.yld j Hj x' Hy → gj x' (wipe σ2 us) Hy fun σ3 Hd => wipe σ3 us = wipe σ2 us ∧ tj σ3 Hd fun b' He =>
          if b' = true then te σ3 He fun y Hf => ∃ (c : Int) (T : Int → Bool) (n : Nat), y = .int c ∧ Hf D = some (SetO w D T n) ∧ n + 1 < scanBound ∧ Y (upd Hf D (SetO w D (fun j => T j || decide (j = c)) (if T c = true then n else n + 1)))
          else Y He)
      else Z Hb)
section
variable {X : Cx}
theorem pe_setI2 {el ta ia tb ib : Expr} {fa fb : List Expr} {scope : Scope} {own : List (PySem.Str × Nat)} {us : List Nat} {pos : Pos} {wi wj : TI} {g gj : TG} {tt tj : TT} {te : TE} (hc : X.calm = true) (nd : X.N.Nodup) (hi : PI X ta ia wi) (bo : BlkOk X.N X.env.scope scope own) (hus : ∀ i ∈ us, i ∈ own.map (·.2))
    (hg : ∀ s H C cl fp, PG (X.blk s H scope (compEnvC scope cl C X.env) fp) ta g) (ht : ∀ s H C cl fp, PTs (X.blk s H scope (compEnvC scope cl C X.env) fp) fa tt)
    (hj : ∀ s H C cl fp, PI (X.blk s H scope (compEnvC scope cl C X.env) fp) tb ib wj)
    (hgj : ∀ s H C cl fp, PG (X.blk s H scope (compEnvC scope cl C X.env) fp) tb gj) (htj : ∀ s H C cl fp, PTs (X.blk s H scope (compEnvC scope cl C X.env) fp) fb tj) (he : ∀ s H C cl fp, PE (X.blk s H scope (compEnvC scope cl C X.env) fp) el te)
    (hs : ∀ x, foldedSetIterable ia X.env x = pure x := by intro _; rfl) (hsj : ∀ en x, foldedSetIterable ib en x = pure x := by intro _ _; rfl) : PE X (S2 el ta ia fa tb ib fb scope pos) (tSetI2 X.w wi g tt wj gj tj te (own.map (·.2)) us) := by
  constructor
  intro pins s σ H Q I h
  rw [eval_SetComp]
  have fr : ∀ y ∈ scope.names, y.2 = .free → ∃ c, X.env.cells.lookup y.1 = some c := by
    intro y hy e
    cases bo.free y hy e with
    | inl k => exact I.ok.has _ (.inl k)
    | inr k => exact I.ok.has _ (.inr k)
  apply wpAny_comprehension_free (use := none) rfl hs (closure_ok fr) bo.kind (fun y hy e => by rw [bo.uniq y hy, e])
  refine thn (hi.run pins s σ H _ I h) fun xv s1 hx => thn hx fun itv s2 h2 => ?_
  obtain ⟨it, fp, tn, J, Hs, e, I2, T, at0, free0, q⟩ := h2
  subst e
  refine newSet_ok (newEnv_comp ?_)
  generalize eD : s2.heap.objs.size = D
  obtain ⟨V, ⟨m0, v0⟩, tv⟩ := q D (I2.hok.fresh (by omega))
  generalize eA : ({ s2 with heap := s2.heap.push ⟨.type "set", none, .set #[] 0 (.fresh 0 0 (!X.w.params.followText "set-order")), #[]⟩ } : Shared) = sA
  have hpA : sA.heap = s2.heap.push ⟨.type "set", none, .set #[] 0 (.fresh 0 0 (!X.w.params.followText "set-order")), #[]⟩ := by rw [← eA]
  have grow : ∀ b o, s2.heap.get? b = some o → sA.heap.get? b = some o := fun b o e => by
    rw [hpA]
    exact Heap.get?_push_of_some _ e
  have IA : Inv X pins σ (upd Hs D (SetO X.w D (fun _ => false) 0)) sA := by
    subst eD
    subst eA
    exact I2.laid (t' := s2.toks) (fun b o e => grow b o e) (Nat.le_refl _) (setO_new (setR_fresh X.w))
  have low : ∀ b ∈ fp, b < s2.heap.objs.size := fun b hb => (T.obj _ _ at0 b hb).elim fun o z => Heap.lt_size z.1
  have freeA : ∀ b ∈ fp, FpOk X pins (upd Hs D (SetO X.w D (fun _ => false) 0)) b ∧ b < sA.heap.objs.size := fun b hb => by
    have lt := low b hb
    obtain ⟨z1, z2⟩ := free0 b hb
    refine ⟨⟨?_, z2⟩, by rw [hpA, Heap.size_push]; exact Nat.lt_succ_of_lt lt⟩
    rw [upd_ne (show b ≠ D from eD ▸ Nat.ne_of_lt lt)]
    exact z1
  generalize eH : upd Hs D (SetO X.w D (fun _ => false) 0) = HA at IA v0 freeA
  have atA : tn 0 sA.heap := T.keep _ _ _ at0 fun b _ o e => grow b o e
  have IB := block_start IA bo nd freeA
  generalize eC : cellsFrom (sA.heap.objs.size + 1) scope.names (cloFrom X.env.cells scope.names []) = cs at IB
  have pg := hg sA HA sA.heap.objs.size cs fp
  have pt := ht sA HA sA.heap.objs.size cs fp
  have pi := hj sA HA sA.heap.objs.size cs fp
  have pgj := hgj sA HA sA.heap.objs.size cs fp
  have ptj := htj sA HA sA.heap.objs.size cs fp
  have pe := he sA HA sA.heap.objs.size cs fp
  have locs : (compEnvC scope cs sA.heap.objs.size X.env).locals = sA.heap.objs.size := rfl
  show codeAny (model X.prog X.w) X.A (.compStart (S2 el ta ia fa tb ib fb scope pos) 0 (.ref it) (.ref D) (compEnvC scope cs sA.heap.objs.size X.env)) _ _
  have atB : tn 0 (pushCells (sA.heap.push { cls := .type "dict", data := .dict #[] }) scope.names) := T.keep _ _ _ atA fun b _ o e => pushCells_keeps _ _ _ _ (Heap.get?_push_of_some _ e)
  generalize eL : compEnvC scope cs sA.heap.objs.size X.env = ce at IB pg pt pi pgj ptj pe locs ⊢
  generalize eB : ({ sA with heap := pushCells (sA.heap.push { cls := .type "dict", data := .dict #[] }) scope.names } : Shared) = sB at IB ⊢
  have atB : tn 0 sB.heap := by rw [← eB]; exact atB
  have vac : ∀ b ∈ fp, HA b = none := fun b hb => (freeA b hb).1.1
  have rests : ∀ {τ : L2.St} {Hn : Hp} {sn : Shared}, Inv (X.blk sA HA scope ce fp) [] τ Hn sn → (∀ b ∈ fp, Hn b = none) → ∀ b ∈ fp, FpOk (X.blk sA HA scope ce fp) [] Hn b := by
    intro τ Hn sn K hn b hb
    refine ⟨hn b hb, (K.ok.exf b hb).1, K.ok.exfs b hb, .inl hb, fun x c e => (K.ok.exf b hb).2 x c e, fun p hp => ?_⟩
    exact absurd (show p ∈ ([] : List (Addr × Obj)) ++ [] from hp) (by simp)
  suffices lp : codeAny (model X.prog X.w) X.A (.compLoop (S2 el ta ia fa tb ib fb scope pos) 0 (.ref it) (.ref D) ce) (compPost (model X.prog X.w) X.A X.xe none (EP X pins σ Q) (.ref D) sA.heap.objs.size) sB from start_by rfl rfl lp (T.self X.A 0 _ _ _ atB lp)
  apply loop_by turnA (fun m t => ∃ i Ht, Inv (X.blk sA HA scope ce fp) [] (wipe σ (own.map (·.2))) Ht t ∧ tn i t.heap ∧ (∀ b ∈ fp, Ht b = none) ∧ V i m Ht) ?_ m0 ⟨0, HA, IB, atB, vac, v0⟩
  rintro m t ⟨i, Ht, It, at_, vt, vv⟩
  cases tv i m Ht vv with
  | inl z =>
    obtain ⟨stop, qq⟩ := z
    refine thnF (T.done (X.blk sA HA scope ce fp) rfl rfl rfl hc i [] t _ Ht (fun _ _ => False) It (rests It vt) at_ stop) fun r u ⟨er, Iu⟩ => ?_
    subst er
    have zL : Ht sA.heap.objs.size = none := locs ▸ Iu.free
    have give := fun b hb => (freeA b hb).1
    have Ik : Inv X pins σ Ht u := IA.call' (ch := fp) Iu.os Iu.base Iu.hok Iu.bare fun b hb => ⟨(give b hb).2.2.2.1, (give b hb).2.1, (give b hb).2.2.2.2.1, (give b hb).2.2.2.2.2⟩
    obtain ⟨mm, hm, _⟩ := Iu.loc
    obtain ⟨a0, a1, a2, a3, a4, a5⟩ := IA.fpOk (Nat.le_refl _) zL
    have hm : u.heap.Ns sA.heap.objs.size mm := locs ▸ hm
    exact ⟨mm, hm, fun hh sb => ⟨.ref D, Ht, Ik.turned (t' := u.toks) (fun b o nb e => (sb.2 b nb).trans e) a0 a1 a3 a4 a5, rfl, qq⟩⟩
  | inr z =>
    obtain ⟨go, Z, hZ, step⟩ := z
    refine thnF (T.item (X.blk sA HA scope ce fp) rfl rfl rfl hc i [] t _ Ht (fun _ _ => False) It (rests It vt) at_ go) fun r u ⟨val, er, hu⟩ => ?_
    subst er
    refine thnF hu fun _ u1 ⟨x, Hx, Ix, rx, yx, ax, nx⟩ => ?_
    have Ip := Ix.pinned (rests Ix nx) (T.obj _ _ ax)
    refine thnF (pg.run _ u1 _ Hx x val _ Ip rx (step x Hx yx)) fun _ u2 ⟨σ2, Ha, Ia, wa, qa⟩ => ?_
    refine thnF (pt.run _ u2 σ2 Ha _ Ia qa) fun b u3 ⟨Hb, Ib, qb⟩ => ?_
    -- a turn's end, from any slots that keep what stood before it
    have close : ∀ {v : Shared} {τ : L2.St} {Hv : Hp}, Inv (X.blk sA HA scope ce fp) ([] ++ pinsAt fp u1.heap) τ Hv v → (wipe σ (own.map (·.2))).length = τ.length → (∀ (j : Nat) z, (wipe σ (own.map (·.2)))[j]? = some (some z) → τ[j]? = some (some z)) → Z Hv →
        ∃ k, k < m ∧ ∃ i Ht, Inv (X.blk sA HA scope ce fp) [] (wipe σ (own.map (·.2))) Ht v ∧ tn i v.heap ∧ (∀ b ∈ fp, Ht b = none) ∧ V i k Ht := by
      intro v τ Hv Iv hl hk zv
      obtain ⟨k, lt, vk⟩ := hZ Hv zv
      have held : ∀ b ∈ fp, ∀ o, u1.heap.get? b = some o → v.heap.get? b = some o ∧ Hv b = none := fun b hb o e => by
        have y := Iv.pin (b, o) (List.mem_append_right _ (List.mem_append_right _ (mem_pinsAt hb e)))
        exact ⟨y.1, y.2.1⟩
      refine ⟨k, lt, i + 1, Hv, (Iv.unpinned (pins := [])).weak hl hk, T.keep _ _ _ ax fun b hb o e => (held b hb o e).1, fun b hb => ?_, vk⟩
      obtain ⟨o, e, _⟩ := T.obj _ _ ax b hb
      exact (held b hb o e).2
    have len2 : (wipe σ (own.map (·.2))).length = σ2.length := by rw [← wa, wipe_length]
    have kept2 : ∀ (j : Nat) z, (wipe σ (own.map (·.2)))[j]? = some (some z) → σ2[j]? = some (some z) := fun j z e => by
      rw [← wa] at e
      exact (wipe_some e).1
    have kept3 : ∀ (j : Nat) z, (wipe σ (own.map (·.2)))[j]? = some (some z) → (wipe σ2 us)[j]? = some (some z) := fun j z e => by
      rw [← wa] at e
      obtain ⟨e1, e2⟩ := wipe_some e
      rw [wipe_out fun y => e2 (hus j y)]
      exact e1
    cases b with
    | false => exact close Ib len2 kept2 (by simpa using qb)
    | true =>
      simp only [if_true] at qb ⊢
      apply wpAny_bind
      refine thnF (pi.run _ u3 σ2 Hb _ Ib qb) fun y u4 hy => ?_
      apply wpAny_bind
      apply wpAny_standAt
      apply wpAny_bind
      refine wpAny_of_eq (hsj ce y) ?_
      apply wpAny_bind
      apply wpAny_holding
      refine thnF hy fun itv u5 h5 => ?_
      obtain ⟨jt, fq, tm, L, Hq, ej, I5, W, at5, free5, U, ⟨m1, w1⟩, tu⟩ := h5
      subst ej
      apply wpAny_bind
      refine wpAny_runOwn ?_
      rw [Around.mark_none]
      have still : ∀ {Hn : Hp}, (∀ b ∈ fq, Hn b = none) → ∀ b ∈ fq, FpOk (X.blk sA HA scope ce fp) ([] ++ pinsAt fp u1.heap) Hn b := fun hn b hb => ⟨hn b hb, (free5 b hb).2⟩
      have inner : codeAny (model X.prog X.w) X.A (.compLoop (S2 el ta ia fa tb ib fb scope pos) 1 (.ref jt) (.ref D) ce) (fun r v => match r with
          | .ok _ => ∃ k, k < m ∧ ∃ i Ht, Inv (X.blk sA HA scope ce fp) [] (wipe σ (own.map (·.2))) Ht v ∧ tn i v.heap ∧ (∀ b ∈ fp, Ht b = none) ∧ V i k Ht
          | .error _ => False) u5 := by
        apply loop_by turnB (fun k v => ∃ j Hj, Inv (X.blk sA HA scope ce fp) ([] ++ pinsAt fp u1.heap) (wipe σ2 us) Hj v ∧ tm j v.heap ∧ (∀ b ∈ fq, Hj b = none) ∧ U j k Hj) ?_ m1 ⟨0, Hq, I5.weak (wipe_length _ _) (fun j z e => (wipe_some e).1), at5, fun b hb => (free5 b hb).1, w1⟩
        rintro k v ⟨j, Hj, Iv, atv, nv, uv⟩
        cases tu j k Hj uv with
        | inl z =>
          obtain ⟨stop, zz⟩ := z
          refine thnF (W.done (X.blk sA HA scope ce fp) rfl rfl rfl hc j _ v (wipe σ2 us) Hj (fun _ _ => False) Iv (still nv) atv stop) fun r v1 ⟨er, I1⟩ => ?_
          subst er
          exact close I1 (len2.trans (wipe_length σ2 us).symm) kept3 zz
        | inr z =>
          obtain ⟨go1, Y, hY, step1⟩ := z
          refine thnF (W.item (X.blk sA HA scope ce fp) rfl rfl rfl hc j _ v (wipe σ2 us) Hj (fun _ _ => False) Iv (still nv) atv go1) fun r v1 ⟨val1, er, hv1⟩ => ?_
          subst er
          refine thnF hv1 fun _ v2 ⟨x1, Hy, Iy, ry, yy, ay, ny⟩ => ?_
          have Iz := Iy.pinned (still ny) (W.obj _ _ ay)
          refine thnF (pgj.run _ v2 (wipe σ2 us) Hy x1 val1 _ Iz ry (step1 x1 Hy yy)) fun _ v3 ⟨σ3, Hd, Id, wd, qd⟩ => ?_
          refine thnF (ptj.run _ v3 σ3 Hd _ Id qd) fun b1 v4 ⟨He, Ie, qe⟩ => ?_
          have shut : ∀ {v' : Shared} {Hv : Hp}, Inv (X.blk sA HA scope ce fp) (([] ++ pinsAt fp u1.heap) ++ pinsAt fq v2.heap) σ3 Hv v' → Y Hv → ∃ k', k' < k ∧ ∃ j Hj, Inv (X.blk sA HA scope ce fp) ([] ++ pinsAt fp u1.heap) (wipe σ2 us) Hj v' ∧ tm j v'.heap ∧ (∀ b ∈ fq, Hj b = none) ∧ U j k' Hj := by
            intro v' Hv Iw zv
            obtain ⟨k', lt, vk⟩ := hY Hv zv
            have held : ∀ b ∈ fq, ∀ o, v2.heap.get? b = some o → v'.heap.get? b = some o ∧ Hv b = none := fun b hb o e => by
              have y := Iw.pin (b, o) (List.mem_append_right _ (List.mem_append_right _ (mem_pinsAt hb e)))
              exact ⟨y.1, y.2.1⟩
            refine ⟨k', lt, j + 1, Hv, Iw.unpinned.weak (by rw [← wd, wipe_length]) (fun n z e => ?_), W.keep _ _ _ ay fun b hb o e => (held b hb o e).1, fun b hb => ?_, vk⟩
            · rw [← wd] at e
              exact (wipe_some e).1
            · obtain ⟨o, e, _⟩ := W.obj _ _ ay b hb
              exact (held b hb o e).2
          cases b1 with
          | false => exact shut Ie (by simpa using qe)
          | true =>
            simp only [if_true] at qe ⊢
            apply wpAny_bind
            apply wpAny_bind
            refine thnF (pe.run _ v4 σ3 He _ Ie qe) fun yv v5 ⟨yr, Hf, If, rf, c, T0, n0, ey, hD, hn, zz⟩ => ?_
            subst ey
            apply wpAny_bind
            apply wpAny_standAt
            apply wpAny_bind
            refine thnF (mt_sadd _ v5 σ3 Hf (.ref D) [.int c] (.ref D) [yv] (fun _ Hv => Y Hv) If rfl (.cons rf .nil) ⟨D, c, T0, n0, rfl, rfl, hD, hn, zz⟩) fun _ v6 ⟨_, Hv, Iw, _, zv⟩ => ?_
            exact wpAny_pure (wpAny_pure ⟨rfl, shut Iw zv⟩)
      refine codeAny_mono (start_by rfl rfl inner (W.self X.A 0 _ _ _ at5 inner)) fun r v hr => ?_
      cases r with
      | ok f =>
        first
          | exact wpAny_pure ⟨rfl, hr⟩
          | exact wpAny_bind (wpAny_pure (wpAny_pure ⟨rfl, hr⟩))
      | error e => exact hr.elim
end
end Lx

set_option Elab.async false
set_option linter.all false
set_option maxRecDepth 100000
set_option maxHeartbeats 4000000
/-! the data layer: sorted({e for .. in .. if .. for .. in .. if ..}) of whole numbers -/
namespace Dl
open PySem PySem.Spec PyProof.Rows L2 Lx
section
variable {S : Sx} {E : XK} {G0 G : Gh} {H0 H : Hp}
theorem wipe_setIn {σ : L2.St} {is vs : List Nat} {xs : List V} (sub : ∀ i ∈ is, i ∈ vs) : wipe (setAllV (wipe σ vs) is xs) vs = wipe σ vs := by
  rw [wipe_eq, wipe_eq]
  apply List.ext_getElem?
  intro j
  rw [wipeL_get, wipeL_get]
  have wl : ∀ vs : List Nat, (wipeL σ vs).length = σ.length := by
    intro vs
    induction vs with
    | nil => rfl
    | cons v vs ih =>
      show ((wipeL σ vs).set v none).length = _
      rw [List.length_set, ih]
  by_cases h : j ∈ vs
  · rw [if_pos h, if_pos h]
    have len : (setAllV (wipeL σ vs) is xs).length = σ.length := by rw [setAllV_len, wl]
    by_cases lt : j < σ.length
    · rw [List.getElem?_eq_getElem lt, List.getElem?_eq_getElem (by rw [len]; exact lt)]
      rfl
    · have z1 : (setAllV (wipeL σ vs) is xs)[j]? = none := List.getElem?_eq_none (by omega)
      have z2 : σ[j]? = none := List.getElem?_eq_none (by omega)
      rw [z1, z2]
  · rw [if_neg h, if_neg h, setAllV_get (fun z => h (sub j z)), wipeL_get, if_neg h]
def dTurnsJ (g : Tg) (tt : TTD) (tj : TOD) (gj : Tg) (ttj : TTD) (te : TD) (Ed : Er → Prop) (Qd : List Int → Prop) (ρ : Rho) : List PyData → List Int → Prop
  | [], acc => Qd acc
  | d :: ds, acc => match g.put ρ d with
    | some ρ' => tt ρ' (fun b => if b = true then tj ρ' (fun l => dTurnsI gj ttj te Ed (fun acc' => dTurnsJ g tt tj gj ttj te Ed Qd ρ ds acc') (wipeL ρ' gj.ix) l acc) Ed
      else dTurnsJ g tt tj gj ttj te Ed Qd ρ ds acc) Ed
    | none => False
def oSetJ (ti : TOD) (g : Tg) (tt : TTD) (tj : TOD) (gj : Tg) (ttj : TTD) (te : TD) : TOD := fun ρ Qd Ed => ti ρ (fun l => dTurnsJ g tt tj gj ttj te Ed (fun ns => ∀ ns' : List Int, ns'.Pairwise (· < ·) → (∀ k, k ∈ ns' ↔ k ∈ ns) → Qd (ns'.map .int)) (wipeL ρ (g.ix ++ gj.ix)) l []) Ed
/-- the set, where a turn of either walk ends -/
structure SetAt (S : Sx) (w : World) (G1 : Gh) (H1 : Hp) (D : Addr) (ns : List Int) (Gi : Gh) (Hi : Hp) : Prop where
  st : Step S G1 H1 Gi Hi
  is : SetIs w Hi D ns
  le : ns.length ≤ 60
  nf : Gi.F D = none
  nb : ¬ Gi.B D
theorem SetAt.on {w : World} {G1 Gi Gj : Gh} {H1 Hi Hj : Hp} {D : Addr} {ns : List Int} (a : SetAt S w G1 H1 D ns Gi Hi) (s : Step S Gi Hi Gj Hj) : SetAt S w G1 H1 D ns Gj Hj := by
  obtain ⟨T, n, hD, hn, hT⟩ := a.is
  exact ⟨a.st.trans s, ⟨T, n, s.keep _ _ hD a.nb setO_nt, hn, hT⟩, a.le, s.nf _ _ hD setO_m a.nf, s.nb _ _ hD setO_nt a.nb⟩
theorem SetAt.put {w : World} {G1 Gi : Gh} {H1 Hi : Hp} {D : Addr} {ns : List Int} (a : SetAt S w G1 H1 D ns Gi Hi) (n1 : Fr H1 D) (lt : ns.length < 60) (c : Int) : ∃ (T : Int → Bool) (n : Nat), Hi D = some (SetO w D T n) ∧ n + 1 < scanBound ∧
    SetAt S w G1 H1 D (ns ++ [c]) Gi (upd Hi D (SetO w D (fun j => T j || decide (j = c)) (if T c = true then n else n + 1))) := by
  obtain ⟨T, n, hD, hn, hT⟩ := a.is
  refine ⟨T, n, hD, by show n + 1 < 4096; omega, a.st.writeS hD a.nf a.nb n1, ⟨_, _, upd_same, ?_, fun k => ?_⟩, by rw [List.length_append]; show ns.length + 1 ≤ 60; omega, a.nf, a.nb⟩
  · rw [List.length_append]
    show (if T c = true then n else n + 1) ≤ ns.length + 1
    split <;> omega
  · rw [Bool.or_eq_true, decide_eq_true_eq, hT k, List.mem_append, List.mem_singleton]
theorem StR.writeS {w : World} {D : Addr} {T : Int → Bool} {n : Nat} {o : HO} {σ : L2.St} {ρ : Rho} (st : StR G H0 H σ ρ) (hD : H D = some (SetO w D T n)) : StR G H0 (upd H D o) σ ρ := ⟨st.len, fun i x e => by
  obtain ⟨v, h1, h2⟩ := st.at_ i x e
  refine ⟨v, h1, ?_⟩
  cases x with
  | dv d => exact h2
  | own l =>
    obtain ⟨p, vs, e1, e2, e3⟩ := h2
    have ne : p ≠ D := by
      rintro rfl
      rw [hD] at e2
      unfold SetO at e2
      cases e2
    exact ⟨p, vs, e1, by rw [upd_ne ne]; exact e2, e3⟩
  | ini p dx C fs =>
    obtain ⟨vs, e1, e2, e3⟩ := h2
    have ne : p ≠ D := by
      rintro rfl
      rw [hD] at e2
      unfold SetO at e2
      cases e2
    exact ⟨vs, e1, by rw [upd_ne ne]; exact e2, e3⟩, st.sep⟩
theorem lo_setJ {w : World} {wi wj : TI} {ti tj : TOD} {g gj : Tg} {Tt Tj : TT} {Te : TE} {tt ttj : TTD} {te : TD} (h : LI S E wi ti) (ht : LT S E Tt tt) (hj : LI S E wj tj) (htj : LT S E Tj ttj) (he : LE S E Te te) :
    LO S E (tCB (rSortedSet w) (tCons (tSetI2 w wi (g.rd S.K) Tt wj (gj.rd S.K) Tj Te (g.ix ++ gj.ix) gj.ix) tNil)) (oSetJ ti g tt tj gj ttj te) := by
  intro H0 ρ σ G H Qd Ed Q wf st q k ke
  refine h H0 ρ σ G H _ Ed _ wf st q (fun l J Gd Y G1 H1 s1 q1 wk sd yl => ?_) ke
  intro D nD
  have n1 : Fr H1 D := .of nD
  have s0 := Step.new (o := SetO w D (fun _ => false) 0) s1.wf nD
  generalize hQf : (fun ns : List Int => ∀ ns' : List Int, ns'.Pairwise (· < ·) → (∀ k, k ∈ ns' ↔ k ∈ ns) → Qd (ns'.map .int)) = Qf at q1
  refine ⟨fun i m Hi => m = l.length - i ∧ i ≤ l.length ∧ ∃ Gi ns, SetAt S w G1 H1 D ns Gi Hi ∧ dTurnsJ g tt tj gj ttj te Ed Qf (wipeL ρ (g.ix ++ gj.ix)) (l.drop i) ns,
    ⟨_, rfl, Nat.zero_le _, G1, [], ⟨s0, ⟨_, 0, upd_same, Nat.le_refl _, fun k => by simp⟩, by simp, s1.wf.free nD, s1.wf.box_ne nD⟩, q1⟩, ?_⟩
  rintro i m Hi ⟨rfl, hi, Gi, ns, a1, qi⟩
  have gd := sd Hi (a1.st.fm.trans a1.st.wf.sub)
  by_cases lt : i < l.length
  · refine .inr ⟨wk.goes i Hi lt gd, fun Hn => i + 1 ≤ l.length ∧ ∃ Gi ns, SetAt S w G1 H1 D ns Gi Hn ∧ dTurnsJ g tt tj gj ttj te Ed Qf (wipeL ρ (g.ix ++ gj.ix)) (l.drop (i + 1)) ns, fun Hn z => ⟨_, by omega, rfl, z.1, z.2⟩, fun x Hx hy => ?_⟩
    obtain ⟨G3, d, s3, hd, rv⟩ := yl i Gi Hi x Hx a1.st.wf a1.st.fm (wk.yields i Hi x Hx lt gd hy)
    rw [drop_cons hd] at qi
    unfold dTurnsJ at qi
    split at qi
    · rename_i ρ2 e2
      have a3 := a1.on s3
      have stw : StR G3 H0 Hx (wipe σ (g.ix ++ gj.ix)) (wipeL ρ (g.ix ++ gj.ix)) := (((st.step s1).step a1.st).step s3).wipe _
      refine tg_put s3.wf stw rv e2 fun σ' st' ⟨xs, ex⟩ => ?_
      subst ex
      refine ⟨wipe_setIn fun i hi => List.mem_append_left _ hi, ?_⟩
      refine ht H0 ρ2 _ G3 Hx _ Ed _ a3.st.wf st' qi (fun b G4 H4 s4 q4 => ?_) (fun e cls d G' H' s he h => ke e cls d G' H' (s1.trans (a3.st.trans s)) he h)
      have a4 := a3.on s4
      cases b with
      | false => exact iteF ⟨by omega, G4, ns, a4, q4⟩
      | true =>
        refine iteT ?_
        have st4 := st'.step s4
        refine hj H0 ρ2 _ G4 H4 _ Ed _ a4.st.wf st4 q4 (fun l2 L Gd2 Y2 G5 H5 s5 q5 wk2 sd2 yl2 => ?_) (fun e cls d G' H' s he h => ke e cls d G' H' (s1.trans (a4.st.trans s)) he h)
        have a5 := a4.on s5
        have st5 := st4.step s5
        refine ⟨fun j k Hj => k = l2.length - j ∧ j ≤ l2.length ∧ ∃ Gj ns, Same G5.F Gj.F ∧ StR Gj H0 Hj (wipe (setAllV (wipe σ (g.ix ++ gj.ix)) g.ix xs) gj.ix) (wipeL ρ2 gj.ix) ∧ SetAt S w G1 H1 D ns Gj Hj ∧ dTurnsI gj ttj te Ed (fun acc' => dTurnsJ g tt tj gj ttj te Ed Qf (wipeL ρ (g.ix ++ gj.ix)) (l.drop (i + 1)) acc') (wipeL ρ2 gj.ix) (l2.drop j) ns,
          ⟨_, rfl, Nat.zero_le _, G5, ns, Same.refl _, st5.wipe _, a5, q5⟩, ?_⟩
        rintro j k Hj ⟨rfl, hjl, Gj, ns2, b1, r1, c1, qj⟩
        have gd2 := sd2 Hj (b1.trans c1.st.wf.sub)
        by_cases lt2 : j < l2.length
        · refine .inr ⟨wk2.goes j Hj lt2 gd2, fun Hn => j + 1 ≤ l2.length ∧ ∃ Gj ns, Same G5.F Gj.F ∧ StR Gj H0 Hn (wipe (setAllV (wipe σ (g.ix ++ gj.ix)) g.ix xs) gj.ix) (wipeL ρ2 gj.ix) ∧ SetAt S w G1 H1 D ns Gj Hn ∧ dTurnsI gj ttj te Ed (fun acc' => dTurnsJ g tt tj gj ttj te Ed Qf (wipeL ρ (g.ix ++ gj.ix)) (l.drop (i + 1)) acc') (wipeL ρ2 gj.ix) (l2.drop (j + 1)) ns, fun Hn z => ⟨_, by omega, rfl, z.1, z.2⟩, fun x Hx hy => ?_⟩
          obtain ⟨G6, d2, s6, hd2, rv2⟩ := yl2 j Gj Hj x Hx c1.st.wf b1 (wk2.yields j Hj x Hx lt2 gd2 hy)
          rw [drop_cons hd2] at qj
          unfold dTurnsI at qj
          split at qj
          · rename_i ρ3 e3
            have c6 := c1.on s6
            have b6 := b1.trans s6.fm
            have r6 := r1.step s6
            refine tg_put s6.wf r6 rv2 e3 fun σ3 st6 ⟨xs2, ex2⟩ => ?_
            subst ex2
            refine ⟨wipe_setAll, ?_⟩
            refine htj H0 ρ3 _ G6 Hx _ Ed _ c6.st.wf st6 qj (fun b2 G7 H7 s7 q7 => ?_) (fun e cls d G' H' s he h => ke e cls d G' H' (s1.trans (c6.st.trans s)) he h)
            have c7 := c6.on s7
            have b7 := b6.trans s7.fm
            have r7 := r6.step s7
            cases b2 with
            | false => exact iteF ⟨by omega, G7, ns2, b7, r7, c7, q7⟩
            | true =>
              refine iteT ?_
              refine he H0 ρ3 _ G7 H7 _ Ed _ c7.st.wf (st6.step s7) q7 (fun v y G8 H8 s8 ry q8 => ?_) (fun e cls d G' H' s he h => ke e cls d G' H' (s1.trans (c7.st.trans s)) he h)
              have c8 := c7.on s8
              have b8 := b7.trans s8.fm
              split at q8
              · rename_i c
                cases rv_int ry
                obtain ⟨T, n, hD, hn, c9⟩ := c8.put n1 q8.1 c
                exact ⟨c, T, n, rfl, hD, hn, by omega, G8, ns2 ++ [c], b8, (r7.step s8).writeS hD, c9, q8.2⟩
              · exact q8.elim
          · exact qj.elim
        · have e : j = l2.length := by omega
          subst e
          rw [List.drop_of_length_le (Nat.le_refl _)] at qj
          exact .inl ⟨wk2.stops Hj gd2, by omega, Gj, ns2, c1, qj⟩
    · exact qi.elim
  · have e : i = l.length := by omega
    subst e
    rw [List.drop_of_length_le (Nat.le_refl _)] at qi
    subst hQf
    obtain ⟨T, n, hD, hn, hT⟩ := a1.is
    have hl := a1.le
    refine .inl ⟨wk.stops Hi gd, ?_⟩
    refine ⟨D, T, n, rfl, hD, by omega, fun ns' l' hs hm hl nl => ?_⟩
    have w2 := s1.trans a1.st
    exact k l' _ _ Gi _ (w2.trans (Step.new w2.wf nl)) (w2.was_free (.of nl)) upd_same (w2.wf.free nl) (w2.wf.box_ne nl) (ints_rpa ns') (qi ns' hs fun k => by rw [hm k, hT k])
end
end Dl

set_option Elab.async false
set_option linter.all false
set_option maxRecDepth 100000
set_option maxHeartbeats 4000000
/-! a def within a def, that has captured names and captured ones of its own -/
namespace Lx
open PySem PySem.Spec PyProof.Rows L2 NdefX
theorem cf_app : ∀ (names : List (Str × NameKind)) (n : Nat) (a b : List (Str × Addr)), cellsFrom n names (a ++ b) = cellsFrom n names a ++ b
  | [], _, _, _ => rfl
  | (x, k) :: r, n, a, b => by
    unfold cellsFrom
    split
    · exact cf_app r (n + 1) ((x, n) :: a) b
    · exact cf_app r n a b
theorem cf_names : ∀ (names : List (Str × NameKind)) (n : Nat) (acc : List (Str × Addr)) (y : Str) (c : Addr), (y, c) ∈ cellsFrom n names acc → (y, c) ∈ acc ∨ (y, NameKind.cell) ∈ names
  | [], _, _, _, _, h => .inl h
  | (x, k) :: r, n, acc, y, c, h => by
    unfold cellsFrom at h
    split at h
    · rename_i hk
      rcases cf_names r _ _ y c h with q | q
      · rcases List.mem_cons.mp q with e | q
        · cases e
          exact .inr (by rw [show k = NameKind.cell by simpa using hk]; exact List.mem_cons_self)
        · exact .inl q
      · exact .inr (List.mem_cons_of_mem _ q)
    · rcases cf_names r _ _ y c h with q | q
      · exact .inl q
      · exact .inr (List.mem_cons_of_mem _ q)
section
variable {M : Model} {A : Around} {E : Value → Shared → Prop}
theorem bind_locals {env : Env} (f : Str × Value → PUnit → Sem (ForInStep PUnit)) (hf : ∀ n v u, f (n, v) u = (do storeName env n v; pure (.yield ⟨⟩))) (hk : env.scope.kind = .function) :
    ∀ (binds : List (Str × Value)) (m : Str → Option Value) (s : Shared) (Q : PUnit → Shared → Prop), s.heap.Ns env.locals m → (∀ x ∈ binds, env.kindOf x.1 = some .local) →
      (∀ h' tk, h'.Ns env.locals (bindL env.kindOf binds m) → Heap.SameBut env.locals s.heap h' → Q ⟨⟩ { s with heap := h', toks := tk }) → wpAny M A (forIn binds ⟨⟩ f) Q E s
  | [], m, s, Q, hn, _, h => by
    rw [List.forIn_nil]
    exact wpAny_pure (h s.heap s.toks hn (Heap.SameBut.refl _ _))
  | (n, v) :: r, m, s, Q, hn, hl, h => by
    rw [List.forIn_cons, hf]
    have l0 := hl (n, v) List.mem_cons_self
    refine wpAny_bind (wpAny_bind (wpAny_storeName_local l0 hn (fun h' hn' hs' => wpAny_pure (bind_locals f hf hk r _ _ Q hn' (fun x hx => hl x (List.mem_cons_of_mem _ hx)) fun h2 tk hn2 hs2 => ?_)) (by rw [hk]; rfl)))
    refine h h2 tk ?_ (hs'.trans hs2)
    unfold bindL
    rw [if_pos l0]
    exact hn2
end
/-- its names: the parameters, the captured ones, then its own, some of which are captured in turn -/
structure MScope (N ps fr : List Str) (sc : Scope) : Prop where
  kind : sc.kind = .function
  co : sc.isCoroutine = false
  gen : sc.isGenerator = false
  nd : N.Nodup
  pre : N.take (ps.length + fr.length) = ps ++ fr
  par : ∀ x ∈ ps, sc.names.lookup x = some .local
  free : ∀ y ∈ sc.names, y.2 = .free → y.1 ∈ fr
  frk : ∀ x ∈ fr, sc.names.lookup x = some .free
  cel : ∀ y ∈ sc.names, y.2 = .cell → sc.names.lookup y.1 = some .cell
def mscB (N ps fr : List Str) (sc : Scope) : Bool :=
  decide (sc.kind = .function) && !sc.isCoroutine && !sc.isGenerator && decide N.Nodup && decide (N.take (ps.length + fr.length) = ps ++ fr) && ps.all (fun x => decide (sc.names.lookup x = some .local)) && sc.names.all (fun y => !decide (y.2 = .free) || decide (y.1 ∈ fr)) && fr.all (fun x => decide (sc.names.lookup x = some .free)) &&
    sc.names.all (fun y => !decide (y.2 = .cell) || decide (sc.names.lookup y.1 = some .cell))
theorem mscope_by {N ps fr : List Str} {sc : Scope} (h : mscB N ps fr sc = true) : MScope N ps fr sc := by
  unfold mscB at h
  simp only [Bool.and_eq_true, Bool.not_eq_true', decide_eq_true_eq, List.all_eq_true, Bool.or_eq_true, decide_eq_false_iff_not] at h
  obtain ⟨⟨⟨⟨⟨⟨⟨⟨h1, h2⟩, h3⟩, h4⟩, h5⟩, h6⟩, h7⟩, h8⟩, h9⟩ := h
  exact ⟨h1, h2, h3, h4, h5, h6, fun y hy e => (h7 y hy).elim (fun z => absurd e z) id, h8, fun y hy e => (h9 y hy).elim (fun z => absurd e z) id⟩
abbrev envM (F : NF) (f L : Addr) : Env := PySem.W.envX F.qual F.scope L f (.ref F.c) (cellsFrom (L + 1) F.scope.names F.cl)
/-- the context of its body, at its entry -/
def mcx (CX : CXT) (P : Program) (w : World) (K : PySem.W.Frag) (mg : Str → Option Value) (base : Heap) (N : List Str) (F : NF) (f : Addr) (A : Around) (outer : List Env) (s : Shared) (H : Hp) (E : XK) : Cx where
  prog := P
  w := w
  K := K
  mg := mg
  base := base
  A := A.deeper (envM F f s.heap.objs.size)
  N := N
  s_0 := s
  H_0 := H
  env := envM F f s.heap.objs.size
  outer := outer
  stack := envM F f s.heap.objs.size :: outer
  ex := []
  calm := true
  fn := fun y => decide (F.scope.names.lookup y = some .cell)
  pn := []
  xe := fun e s' => wpAny (model P w) (A.deeper (envM F f s.heap.objs.size)) (leaving (envM F f s.heap.objs.size) e) (fun _ s'' => CX outer H s E e s'') (fun e' s'' => CX outer H s E e' s'') s'
section
variable {CX : CXT} {P : Program} {w : World} {K : PySem.W.Frag} {mg : Str → Option Value} {base : Heap} {N ps fr : List Str} {F : NF} {f : Addr} {A : Around} {outer : List Env} {s : Shared} {H : Hp} {E : XK} {us : List Value} {vs : List V} {ws : List (Option V)} {k : Nat}
theorem m_start {h1 : Heap} {tk : Nat} (S : MScope N ps fr F.scope) (hd : A.handled = none) (e0 : Env0 P w K mg base A outer s H) (hl : vs.length = ps.length) (r : Vals vs us) (C : CellsAt F.cl fr ws s.heap H)
    (hns : h1.Ns s.heap.objs.size (bindL (envM F f s.heap.objs.size).kindOf (ps.zip us) fun _ => none)) (kp : ∀ b o, s.heap.get? b = some o → h1.get? b = some o)
    (own : CellsOk h1 (s.heap.objs.size + 1) (cellsFrom (s.heap.objs.size + 1) F.scope.names [])) : Inv (mcx CX P w K mg base N F f A outer s H E) [] (startF N vs ws) H { s with heap := h1, toks := tk } := by
  have lens : ps.length + fr.length ≤ N.length := by
    have q := congrArg List.length S.pre
    rw [List.length_take, List.length_append] at q
    omega
  have ndP : ps.Nodup := by
    have q := S.nd.sublist (List.take_sublist (ps.length + fr.length) N)
    rw [S.pre] at q
    exact (List.nodup_append.mp q).1
  have none_ex : ∀ b : Addr, b ∉ (mcx CX P w K mg base N F f A outer s H E).ex := fun b z => absurd (show b ∈ ([] : List Addr) from z) (by simp)
  have kcell : ∀ {c : Addr} {v : Option Value}, s.heap.IsCell c v → h1.IsCell c v := fun {c v} ⟨o, ho, hd⟩ => ⟨o, kp _ _ ho, hd⟩
  -- a cell is one of its own, or a captured one
  have which : ∀ {y c}, (cellsFrom (s.heap.objs.size + 1) F.scope.names F.cl).lookup y = some c → ((y, c) ∈ cellsFrom (s.heap.objs.size + 1) F.scope.names [] ∧ s.heap.objs.size < c) ∨ (F.cl.lookup y = some c ∧ c < s.heap.objs.size) := fun {y c} e => by
    have e : (cellsFrom (s.heap.objs.size + 1) F.scope.names ([] ++ F.cl)).lookup y = some c := e
    rw [cf_app, List.lookup_append] at e
    cases q : (cellsFrom (s.heap.objs.size + 1) F.scope.names []).lookup y with
    | some c' =>
      rw [q] at e
      cases e
      have m := PySem.mem_of_lookup q
      exact .inl ⟨m, (own.empty y c m).2⟩
    | none =>
      rw [q] at e
      have e : F.cl.lookup y = some c := e
      obtain ⟨_, v, z⟩ := C.all y c e
      exact .inr ⟨e, z.lt⟩
  have capt : ∀ {y c}, y ∈ fr → F.cl.lookup y = some c → (cellsFrom (s.heap.objs.size + 1) F.scope.names F.cl).lookup y = some c := fun {y c} hy e => by
    show (cellsFrom (s.heap.objs.size + 1) F.scope.names ([] ++ F.cl)).lookup y = some c
    rw [cf_app, List.lookup_append]
    cases q : (cellsFrom (s.heap.objs.size + 1) F.scope.names []).lookup y with
    | none => exact e
    | some c' =>
      exfalso
      rcases cf_names _ _ _ _ _ (PySem.mem_of_lookup q) with z | z
      · cases z
      · have a := S.cel _ z rfl
        rw [S.frk y hy] at a
        cases a
  have okX : (mcx CX P w K mg base N F f A outer s H E).Ok := {
    mod := e0.mod
    kind := S.kind
    glob := rfl
    blt := rfl
    above := Nat.le_refl _
    inj := fun y z c e1 e2 => by
      rcases which e1 with ⟨m1, l1⟩ | ⟨m1, l1⟩ <;> rcases which e2 with ⟨m2, l2⟩ | ⟨m2, l2⟩
      · exact name_of_addr own.apart m1 m2
      · exact absurd l1 (Nat.not_lt.mpr (Nat.le_of_lt l2))
      · exact absurd l2 (Nat.not_lt.mpr (Nat.le_of_lt l1))
      · exact C.inj y z c m1 m2
    has := fun y hy => by
      rcases (show F.scope.names.lookup y = some .cell ∨ F.scope.names.lookup y = some .free from hy) with q | q
      · exact Option.isSome_iff_exists.mp (PySem.W.cellsFrom_some F.scope.names (s.heap.objs.size + 1) F.cl (.inl q))
      · have m := S.free _ (PySem.mem_of_lookup q) rfl
        obtain ⟨i, hi⟩ := List.mem_iff_getElem?.mp m
        obtain ⟨c, hc, _⟩ := C.has i y hi
        exact ⟨c, capt m hc⟩
    cab := fun y c z e => by
      have z : F.scope.names.lookup y = some .cell := of_decide_eq_true z
      rcases which e with ⟨_, l⟩ | ⟨m, _⟩
      · exact Nat.le_of_lt l
      · exfalso
        obtain ⟨c', hc'⟩ := cell_has (n := s.heap.objs.size + 1) z
        have e : (cellsFrom (s.heap.objs.size + 1) F.scope.names ([] ++ F.cl)).lookup y = some c := e
        rw [cf_app, List.lookup_append, hc'] at e
        cases e
        have l1 := (own.empty y c (PySem.mem_of_lookup hc')).2
        obtain ⟨_, v, q⟩ := C.all y c m
        exact absurd (Nat.lt_of_lt_of_le q.lt (Nat.le_of_succ_le l1)) (Nat.lt_irrefl _)
    hd := fun _ => hd
    frames := Around.frames_deeper e0.frames
    stk := .inr ⟨rfl, rfl⟩
    exf := fun b z => absurd z (none_ex b)
    bs := e0.bs
    bsz := e0.bsz
    noex := fun b _ _ => none_ex b
    exfs := fun b z => absurd z (none_ex b)
    funs := e0.funs
    frf := e0.frf }
  refine { ok := okX, os := rfl, bare := e0.bare, base := Un.kept kp, loc := ⟨_, hns, ?_⟩, cell := ?_, free := e0.hok.fresh (Nat.le_refl _), freeC := ?_, pin := ?_, hok := e0.hok.kept kp, len := ?_ }
  · intro i y v e1 e2 e3
    have e1 : N[i]? = some y := e1
    have clen := C.len
    unfold startF at e2
    by_cases h1 : i < ps.length
    · have hq : (ps ++ fr)[i]? = some y := by
        rw [← S.pre, List.getElem?_take_of_lt (by omega)]
        exact e1
      rw [List.getElem?_append_left h1] at hq
      rw [List.getElem?_append_left (by rw [List.length_map]; omega), List.getElem?_map] at e2
      cases ev : vs[i]? with
      | none => rw [ev] at e2; cases e2
      | some a =>
        rw [ev] at e2
        cases e2
        obtain ⟨u, hu, rv⟩ := r.get ev
        have lk := S.par y (List.mem_of_getElem? hq)
        exact ⟨u, rv, .inl ⟨lk, bindL_get ndP hq hu lk⟩⟩
    · rw [List.getElem?_append_right (by rw [List.length_map]; omega), List.length_map] at e2
      by_cases h2 : i < ps.length + fr.length
      · have hq : (ps ++ fr)[i]? = some y := by
          rw [← S.pre, List.getElem?_take_of_lt (by omega)]
          exact e1
        rw [List.getElem?_append_right (by omega)] at hq
        rw [List.getElem?_append_left (by omega), hl] at e2
        obtain ⟨c, hc, hv⟩ := C.has (i - ps.length) y hq
        obtain ⟨u, ru, hu⟩ := hv v e2
        have m := List.mem_of_getElem? hq
        exact ⟨u, ru, .inr ⟨.inr (S.frk y m), c, capt m hc, kcell hu⟩⟩
      · rw [List.getElem?_append_right (by omega), List.getElem?_replicate] at e2
        split at e2 <;> cases e2
  · intro y c e
    rcases which e with ⟨m, _⟩ | ⟨m, _⟩
    · exact ⟨none, (own.empty y c m).1⟩
    · obtain ⟨_, v, z⟩ := C.all y c m
      exact ⟨v, kcell z⟩
  · intro y c e
    rcases which e with ⟨_, l⟩ | ⟨m, _⟩
    · exact e0.hok.fresh (Nat.le_of_lt l)
    · exact (C.all y c m).1
  · intro p hp
    exact absurd (show p ∈ ([] : List (Addr × Obj)) ++ [] from hp) (by simp)
  · have clen := C.len
    unfold startF
    show _ = N.length
    rw [List.length_append, List.length_append, List.length_map, List.length_replicate]
    omega
/-- such a def by its body -/
theorem nok_ofM {sp : List (Option V) → Sp} (S : MScope N ps fr F.scope) (hb : ∀ (doc pm ctv : Value) (us : List Value), us.length = ps.length → bindArgs (F.fd doc pm ctv) ⟨us, []⟩ = pure (ps.zip us)) (len : ∀ ws vs H Q E, sp ws vs H Q E → vs.length = ps.length)
    (hbody : ∀ (A : Around) (outer : List Env) (s : Shared) (H : Hp) (vs : List V) (ws : List (Option V)) (Q : VK) (E : XK), Room k (A.deeper (envM F f s.heap.objs.size)) → ws.length = fr.length → sp ws vs H Q E →
      ∃ t, PSs (mcx CX P w K mg base N F f A outer s H E) F.body t ∧ t { nx := fun _ H' => Q .non H', rt := Q } (startF N vs ws) H) : NOk P w K mg base CX (k + 1) f F ps fr sp := by
  constructor
  · exact len
  · intro A outer s H us vs ws Q E hr e0 hf hc C r h
    have hl := len _ _ _ _ _ h
    have lim : s.heap.NoLimit := e0.mod.nolimit.keeps fun b o e => (e0.bs b o e).1
    obtain ⟨od, sl, doc, pm, ctv, ho⟩ := fnO_at e0.hok hf
    refine codeAny_call_function hr.depth ho rfl S.co S.gen rfl (codeO_at e0.hok hc) ?_
    rw [hb doc pm ctv us (by rw [← r.length]; exact hl)]
    refine wpAny_pure ?_
    show wpAny _ _ (newFunctionEnv F.scope mainGlobals F.cl (ps.zip us) (F.qual ++ ".<locals>.") (some f) (.ref F.c) none builtinsNs) _ _ s
    simp only [newFunctionEnv, Option.isSome_none, Bool.false_eq_true, if_false]
    refine wpAny_bind (wpAny_alloc ?_)
    refine wpAny_bind (wpAny_layCells _ (fun name kind cells => by cases hkc : kind == NameKind.cell <;> simp [hkc]) _ _ _ _ ?_)
    have sz : ({ s with heap := s.heap.push { cls := .type "frame", data := .dict #[] } } : Shared).heap.objs.size = s.heap.objs.size + 1 := Heap.size_push ..
    rw [sz]
    have own := cellsFrom_ok F.scope.names (s.heap.push { cls := .type "frame", data := .dict #[] }) (s.heap.objs.size + 1) [] ⟨fun _ _ hm => (nomatch hm), List.Pairwise.nil⟩ (by rw [Heap.size_push]; exact Nat.le_refl _)
    rw [Heap.size_push] at own
    have ns0 : (pushCells (s.heap.push { cls := .type "frame", data := .dict #[] }) F.scope.names).Ns s.heap.objs.size (fun _ => none) := (Heap.Ns.new s.heap (.type "frame")).keeps (pushCells_keeps _ _)
    refine wpAny_bind (bind_locals (env := envM F f s.heap.objs.size) _ (fun _ _ _ => rfl) S.kind (ps.zip us) (fun _ => none) _ _ ns0 (fun ⟨n, v⟩ hx => S.par n (List.of_mem_zip hx).1) fun h' tk hn hs => wpAny_pure ?_)
    have kp : ∀ b o, s.heap.get? b = some o → h'.get? b = some o := fun b o e => hs.extBut b o (Nat.ne_of_lt (Heap.lt_size e)) (pushCells_keeps _ _ b o (Heap.get?_push_of_some _ e))
    have own' : CellsOk h' (s.heap.objs.size + 1) (cellsFrom (s.heap.objs.size + 1) F.scope.names []) := ⟨fun n c hm => ⟨(own.empty n c hm).1.sameBut hs (fun z => by
      have := (own.empty n c hm).2
      rw [z] at this
      exact absurd this (by show ¬ s.heap.objs.size + 1 ≤ s.heap.objs.size; omega)), (own.empty n c hm).2⟩, own.apart⟩
    refine ⟨lim.keeps kp, ?_⟩
    show codeAny _ _ (.func F.body (envM F f s.heap.objs.size)) _ _
    refine codeAny_func ?_
    obtain ⟨t, ht, hq⟩ := hbody A outer s H vs ws Q E (hr.deeper _) C.len h
    have I : Inv (mcx CX P w K mg base N F f A outer s H E) [] (startF N vs ws) H { s with heap := h', toks := tk } := m_start S hr.hd e0 hl r C hn kp own'
    refine wpAny_mono (ht.run [] _ (startF N vs ws) H _ I hq) (fun fl s' z => ?_) fun e s' z => z
    have fin : ∀ {σ' : L2.St} {H' : Hp} {v : V} {u : Value}, Inv (mcx CX P w K mg base N F f A outer s H E) [] σ' H' s' → L2.RelV v u → Q v H' → CE outer P w H s Q u s' :=
      fun {σ' H' v u} J rv q => ⟨v, H', J.os, J.bare, J.base, J.hok, rv, q⟩
    cases fl with
    | ret u =>
      obtain ⟨v, σ', H', J, rv, q⟩ := z
      exact fin J rv q
    | next =>
      obtain ⟨σ', H', J, q⟩ := z
      exact fin (v := V.non) (u := Value.none) J rfl q
    | brk =>
      obtain ⟨_, _, _, q⟩ := z
      exact False.elim q
    | cont =>
      obtain ⟨_, _, _, q⟩ := z
      exact False.elim q
end
end Lx

set_option Elab.async false
set_option linter.all false
set_option maxRecDepth 100000
set_option maxHeartbeats 4000000
/-! the data layer: turns of two walks, and a walk along a dict by tuples -/
namespace Dl
open PySem PySem.Spec PyProof.Rows L2 Lx
theorem turnsJ_all {g : Tg} {tt : TTD} {tj : TOD} {gj : Tg} {ttj : TTD} {te : TD} {Ed : Er → Prop} {Qd : List Int → Prop} {ρ : Rho} (inner : PyData → List PyData) (f : PyData → PyData → Int) : ∀ (l : List PyData) (acc : List Int), acc.length + (l.flatMap inner).length ≤ 60 →
    (∀ d ∈ l, ∃ ρ', g.put ρ d = some ρ' ∧ (∀ K : Bool → Prop, K true → tt ρ' K Ed) ∧ (∀ K : List PyData → Prop, K (inner d) → tj ρ' K Ed) ∧ ∀ e ∈ inner d, ∃ ρ'', gj.put (wipeL ρ' gj.ix) e = some ρ'' ∧ (∀ K : Bool → Prop, K true → ttj ρ'' K Ed) ∧ ∀ K : DV → Prop, K (.int (f d e)) → te ρ'' K Ed) →
    Qd (acc ++ l.flatMap fun d => (inner d).map (f d)) → dTurnsJ g tt tj gj ttj te Ed Qd ρ l acc
  | [], acc, _, _, h => by simpa [dTurnsJ] using h
  | d :: l, acc, hl, hs, h => by
    obtain ⟨ρ', e, h1, h2, h3⟩ := hs d List.mem_cons_self
    have hs' := fun x hx => hs x (List.mem_cons_of_mem _ hx)
    unfold dTurnsJ
    rw [e]
    refine h1 _ ?_
    simp only [if_true]
    refine h2 _ ?_
    have fl : (inner d).filter (fun _ => true) = inner d := List.filter_eq_self.mpr fun _ _ => rfl
    rw [List.flatMap_cons, List.length_append] at hl
    refine turnsI_fm (fun _ => true) (f d) (inner d) acc (by rw [fl]; omega) (fun e he => ?_) ?_
    · obtain ⟨ρ'', e1, e2, e3⟩ := h3 e he
      exact ⟨ρ'', e1, e2, fun _ => e3⟩
    · rw [fl]
      refine turnsJ_all inner f l _ (by rw [List.length_append, List.length_map]; omega) hs' ?_
      rw [List.append_assoc]
      rw [List.flatMap_cons] at h
      exact h
section
variable {S : Sx} {E : XK} {G0 G : Gh} {H0 H : Hp}
theorem tabs_dT {L : List (Addr × Str)} {D : Addr} {H H' : Hp} {u : HO} (hb : H D = some u) (nt : ∀ z, u ≠ .tbl z) (nx : ∀ f, u ≠ .ext f) (e : ∀ a o, H a = some o → a ≠ D → H' a = some o) (h : LamX.Tabs L H) : LamX.Tabs L H' := fun p hp => by
  obtain ⟨ps, h1, h2, h3⟩ := h p hp
  refine ⟨ps, e _ _ h1 ?_, h2, fun pos cv hc => ?_⟩
  · intro z
    rw [z, hb] at h1
    exact nt _ (Option.some.inj h1)
  · obtain ⟨c, e1, e2⟩ := h3 pos cv hc
    refine ⟨c, e1, e _ _ e2 ?_⟩
    rintro rfl
    rw [hb] at e2
    exact nx _ (Option.some.inj e2)
/-- a thing of the def's own that is neither a table nor code may be written to -/
theorem Step.writeD {D : Addr} {u o : HO} (a : Step S G0 H0 G H) (h : H D = some u) (nt : ∀ z, u ≠ .tbl z) (nx : ∀ f, u ≠ .ext f) (nf : G.F D = none) (nb : ¬ G.B D) (n0 : Fr H0 D) : Step S G0 H0 G (upd H D o) where
  w0 := a.w0
  wf := by
    refine ⟨fun x u e => ?_, fun b hb => ?_, a.wf.tbl, tabs_dT h nt nx (fun x u z ne => by rw [upd_ne ne]; exact z) a.wf.tabs⟩
    · have z : x ≠ D := by
        rintro rfl
        rw [nf] at e
        cases e
      rw [upd_ne z]
      exact a.wf.sub _ _ e
    · obtain ⟨⟨c0, cs, h1, h2, h3⟩, h4⟩ := a.wf.box b hb
      have z : b ≠ D := by
        rintro rfl
        exact nb hb
      exact ⟨⟨c0, cs, by rw [upd_ne z]; exact h1, h2, h3⟩, h4⟩
  fm := a.fm
  bm := a.bm
  keep := fun x u hx n t => by
    rw [upd_ne (n0.ne hx t)]
    exact a.keep x u hx n t
  nf := a.nf
  nb := a.nb
  there := fun x u hx t => by
    rw [upd_ne (n0.ne hx t)]
    exact a.there x u hx t
/-- a pair of whole numbers as a key -/
def pairK (p : Nat × Nat) : List Key := [.inl (p.1 : Int), .inl (p.2 : Int)]
def pairN (p : Nat × Nat) : PyData := .tuple [.int (p.1 : Nat), .int (p.2 : Nat)]
/-- sorted({e for a, b in d if ..}), the dict at d locked: what stands at d is the reading's own -/
theorem setK_at {w : World} {i : Nat} {g : Tg} {Tt : TT} {Te : TE} {tt : TTD} {te : TD} {kvs : List (List Key × V)} {ks : List (Nat × Nat)} {d : Addr} {od : Obj} (ht : LT S E Tt tt) (he : LE S E Te te)
    {σ : L2.St} {ρ : Rho} {Qd : List Int → Prop} {Ed : Er → Prop} {Q : VK} (wf : Wf S G H) (st : StR G H0 H σ ρ) (hσ : σ[i]? = some (some (.ref d))) (hk : kvs.map (·.1) = ks.map pairK) (hd : H d = some (.frz od (.dT kvs))) (nb : ¬ G.B d)
    (q : dTurnsI g tt te Ed (fun (ns : List Int) => ∀ ns' : List Int, ns'.Pairwise (· < ·) → (∀ k, k ∈ ns' ↔ k ∈ ns) → Qd ns') (wipeL ρ g.ix) (ks.map pairN) [])
    (k : ∀ ns' l G' H', Step S G H G' H' → Fr H l → H' l = some (.lst (ns'.map V.int)) → G'.F l = none → ¬ G'.B l → H' d = some (.frz od (.dT kvs)) → Qd ns' → Q (.ref l) H') (ke : ∀ e cls d G' H', Step S G H G' H' → ErAt G' H' cls d e → Ed e → E cls d H') :
    tCB (rSortedSet w) (tCons (tSetI w (iKeys (tVar i)) (g.rd S.K) Tt Te g.ix) tNil) σ H Q := by
  refine ⟨.ref d, hσ, d, od, rfl, .inr ⟨kvs, hd, ?_⟩⟩
  intro D nD
  have n1 : Fr H D := .of nD
  have lk : kvs.length = ks.length := by
    have := congrArg List.length hk
    simpa using this
  have nDd : D ≠ d := fun z => by rw [z, hd] at nD; cases nD
  have s0 := Step.new (o := SetO w D (fun _ => false) 0) wf nD
  refine ⟨fun i m Hi => m = ks.length - i ∧ i ≤ ks.length ∧ ∃ Gi ns, SetAt S w G H D ns Gi Hi ∧ dTurnsI g tt te Ed (fun (ns : List Int) => ∀ ns' : List Int, ns'.Pairwise (· < ·) → (∀ k, k ∈ ns' ↔ k ∈ ns) → Qd ns') (wipeL ρ g.ix) ((ks.map pairN).drop i) ns,
    ⟨_, rfl, Nat.zero_le _, G, [], ⟨s0, ⟨_, 0, upd_same, Nat.le_refl _, fun k => by simp⟩, by simp, wf.free nD, wf.box_ne nD⟩, q⟩, ?_⟩
  rintro i m Hi ⟨rfl, hi, Gi, ns, a1, qi⟩
  have gd : Hi d = some (.frz od (.dT kvs)) := a1.st.keep _ _ hd nb (fun z e => by cases e)
  by_cases lt : i < ks.length
  · refine .inr ⟨walk_keysT.goes i Hi (by omega) gd, fun Hn => i + 1 ≤ ks.length ∧ ∃ Gi ns, SetAt S w G H D ns Gi Hn ∧ dTurnsI g tt te Ed (fun (ns : List Int) => ∀ ns' : List Int, ns'.Pairwise (· < ·) → (∀ k, k ∈ ns' ↔ k ∈ ns) → Qd ns') (wipeL ρ g.ix) ((ks.map pairN).drop (i + 1)) ns, fun Hn z => ⟨_, by omega, rfl, z.1, z.2⟩, fun x Hx hy => ?_⟩
    obtain ⟨eH, kk, v, b, ek, rfl, hb⟩ := walk_keysT.yields i Hi x Hx (by omega) gd hy
    subst eH
    have ekk : kk = pairK ks[i] := by
      have z : (kvs.map (·.1))[i]? = (ks.map pairK)[i]? := by rw [hk]
      rw [List.getElem?_map, List.getElem?_map, ek, List.getElem?_eq_getElem lt] at z
      exact Option.some.inj z
    subst ekk
    have nbb : ¬ Gi.B b := fun z => by
      obtain ⟨c0, cs, h1, _⟩ := (a1.st.wf.box b z).1
      rw [hb] at h1
      cases h1
    have s3 : Step S Gi Hx (Gi.put b (.tup ((pairK ks[i]).map kV))) Hx := (Step.refl a1.st.wf).freezeT hb nbb
    have rv : RV (Gi.put b (.tup ((pairK ks[i]).map kV))) (.ref b) (.py (pairN ks[i])) := .py (.tup put_same (.cons (.int _) (.cons (.int _) .nil)))
    have hdr : (ks.map pairN)[i]? = some (pairN ks[i]) := by rw [List.getElem?_map, List.getElem?_eq_getElem lt]; rfl
    rw [drop_cons hdr] at qi
    unfold dTurnsI at qi
    split at qi
    · rename_i ρ2 e2
      have a3 := a1.on s3
      have stw := ((st.step a1.st).step s3).wipe g.ix
      refine tg_put s3.wf stw rv e2 fun σ' st' ⟨xs, ex⟩ => ?_
      subst ex
      refine ⟨wipe_setAll, ?_⟩
      refine ht H0 ρ2 _ _ Hx _ Ed _ a3.st.wf st' qi (fun b G4 H4 s4 q4 => ?_) (fun e cls d G' H' s he h => ke e cls d G' H' (a3.st.trans s) he h)
      have a4 := a3.on s4
      cases b with
      | false => exact iteF ⟨by omega, G4, ns, a4, q4⟩
      | true =>
        refine iteT ?_
        refine he H0 ρ2 _ G4 H4 _ Ed _ a4.st.wf (st'.step s4) q4 (fun v y G5 H5 s5 ry q5 => ?_) (fun e cls d G' H' s he h => ke e cls d G' H' (a4.st.trans s) he h)
        have a5 := a4.on s5
        split at q5
        · rename_i c
          cases rv_int ry
          obtain ⟨T, n, hD, hn, c9⟩ := a5.put n1 q5.1 c
          exact ⟨c, T, n, rfl, hD, hn, by omega, G5, ns ++ [c], c9, q5.2⟩
        · exact q5.elim
    · exact qi.elim
  · have e : i = ks.length := by omega
    subst e
    rw [List.drop_of_length_le (by simp)] at qi
    obtain ⟨T, n, hD, hn, hT⟩ := a1.is
    have hl := a1.le
    refine .inl ⟨lk ▸ walk_keysT.stops Hi gd, ?_⟩
    refine ⟨D, T, n, rfl, hD, by omega, fun ns' l' hs hm hl nl => ?_⟩
    exact k ns' l' Gi _ (a1.st.trans (Step.new a1.st.wf nl)) (a1.st.was_free (.of nl)) upd_same (a1.st.wf.free nl) (a1.st.wf.box_ne nl) (by rw [upd_ne (ne_of_none gd nl)]; exact gd) (qi ns' hs fun k => by rw [hm k, hT k])
end
end Dl

set_option Elab.async false
set_option linter.all false
set_option maxRecDepth 100000
set_option maxHeartbeats 4000000
/-! the data layer: a whole number in a tuple of such -/
namespace Dl
open PySem PySem.Spec PyProof.Rows L2 Lx
def fInT (neg : Bool) : F2 := fun x y Q => match x, y with
  | .py (.int i), .py (.tuple ds) => ∃ ns : List Int, ds = ns.map .int ∧ Q (.bl (decide (i ∈ ns) != neg))
  | _, _ => False
theorem inV_ints (i : Int) : ∀ ns : List Int, inV (.int i) (ns.map V.int) = decide (i ∈ ns)
  | [] => rfl
  | n :: ns => by
    show (n == i || inV (.int i) (ns.map V.int)) = _
    rw [inV_ints i ns]
    by_cases e : n = i
    · subst e
      simp
    · have e2 : ¬ i = n := fun z => e z.symm
      simp [e, e2]
theorem flat_ints : ∀ ns : List Int, (ns.map V.int).all flatV = true
  | [] => rfl
  | _ :: ns => by
    show (true && (ns.map V.int).all flatV) = true
    rw [flat_ints ns]
    rfl
theorem l2_inT {S : Sx} {neg : Bool} : L2r S (rIn S.K neg) (fInT neg) := by
  intro G H x y dx dy Qd Q w rx ry q k
  unfold fInT at q
  split at q
  · obtain ⟨ns, rfl, q⟩ := q
    cases rv_int rx
    obtain ⟨p, xs, rfl, h1, h2⟩ := rv_tup ry
    have e := rpa_ints h2
    subst e
    refine ⟨p, _, rfl, .inr (.inl (.inl (w.sub _ _ h1))), rfl, flat_ints ns, ?_⟩
    rw [inV_ints]
    refine k _ _ G H (Step.refl w) (.py (.bl _)) ?_
    cases neg <;> simpa using q
  · exact q.elim
end Dl

set_option Elab.async false
set_option linter.all false
set_option maxRecDepth 100000
set_option maxHeartbeats 4000000
/-! sorted(set(xs)) of many whole numbers, few of them unlike -/
namespace Dl
open PySem PySem.Spec PyProof.Rows L2 Lx
def rSortedSetB (w : World) : List V → Hp → VK → Prop := fun vs H Q => ∃ (a : Addr) (T : Int → Bool) (n : Nat) (B : List Int), vs = [V.ref a] ∧ H a = some (SetO w a T n) ∧ (∀ k, T k = true → k ∈ B) ∧ B.length < 64 ∧
  ∀ (ns : List Int) (p : Addr), ns.Pairwise (· < ·) → (∀ k : Int, k ∈ ns ↔ T k = true) → H p = none → Q (.ref p) (upd H p (.lst (ns.map V.int)))
theorem cr_sortedSetB {X : Cx} (hc : X.calm = true) : CallR X (.builtin "sorted") (rSortedSetB X.w) := by
  intro pins s σ H vs us Q I r h
  obtain ⟨a, T, n, B, e, ha, sub, hB, q⟩ := h
  have R := setO_get I ha
  have h64 : n < 64 := by
    obtain ⟨o, es, ep, t, _, _, _, _, nd, hm, _, _, hn, _⟩ := R
    have z : (es.toList.map keyOf).length ≤ B.length := List.Nodup.length_le_of_subset nd fun k hk => sub k ((hm k).mpr hk)
    rw [List.length_map, Array.length_toList, hn] at z
    omega
  exact cr_sortedSet hc pins s σ H vs us Q I r ⟨a, T, n, e, ha, h64, fun ns p h1 h2 _ h3 => q ns p h1 h2 h3⟩
def oSortedSetB (te : TD) : TOD := fun ρ Qd Ed => te ρ (fun d => match d with
  | .py (.list l) => ∃ ns B : List Int, l = ns.map .int ∧ ns.length < 1000 ∧ (∀ k ∈ ns, k ∈ B) ∧ B.length < 64 ∧ ∀ ns' : List Int, ns'.Pairwise (· < ·) → (∀ k, k ∈ ns' ↔ k ∈ ns) → Qd (ns'.map .int)
  | _ => False) Ed
theorem lo_sortedSetB {S : Sx} {E : XK} {w : World} {Te : TE} {te : TD} (h : LE S E Te te) : LO S E (tCB (rSortedSetB w) (tCons (tCB (rSetOfI S.K w) (tCons Te tNil)) tNil)) (oSortedSetB te) := by
  intro H0 ρ σ G H Qd Ed Q wf st q k ke
  refine h H0 ρ σ G H _ Ed _ wf st q (fun v d G1 H1 s1 rv q1 => ?_) ke
  split at q1
  · obtain ⟨p, xs, rfl, h1, h2⟩ := rv_lst rv
    obtain ⟨ns, B, rfl, h64, sub, hB, q⟩ := q1
    rw [rpa_ints h2] at h1
    refine ⟨p, ns, rfl, .inl (.inl (s1.wf.sub _ _ h1)), h64, fun t n hn nt => ?_⟩
    refine ⟨t, _, n, B, rfl, upd_same, fun k hk => sub k (of_decide_eq_true hk), hB, fun ns' l hs hm nl => ?_⟩
    have w2 := s1.trans (Step.new (o := SetO w t (fun j => decide (j ∈ ns)) n) s1.wf nt)
    exact k l _ _ G1 _ (w2.trans (Step.new w2.wf nl)) (w2.was_free (.of nl)) upd_same (w2.wf.free nl) (w2.wf.box_ne nl) (ints_rpa ns') (q ns' hs fun k => by rw [hm k, decide_eq_true_eq])
  · exact q1.elim
end Dl

set_option Elab.async false
set_option linter.all false
set_option maxRecDepth 100000
set_option maxHeartbeats 4000000
/-! what repr writes is made of signs that there are -/
namespace Dl
open PySem PySem.Spec PyProof.Rows L2 Lx
def Far (x : Str) : Prop := ∀ k : Nat, 0x110000 ≤ k → k ∉ x.cps.toList
theorem chars_far {x : Str} (h : Far x) : Chars x := by
  show (x.cps.all (· < 0x110000)) = true
  rw [← Array.all_toList, List.all_eq_true]
  intro k hk
  refine decide_eq_true ?_
  apply Classical.byContradiction
  intro z
  exact h k (by omega) hk
theorem far_int (i : Int) : Far (PyData.int i).shown := fun k hk => shown_int_free' ⟨by omega, by omega⟩ i
theorem far_none : Far (PyData.none).shown := fun k hk hm => by
  rw [mem_shown_none] at hm
  simp only [List.mem_cons, List.not_mem_nil, or_false] at hm
  omega
theorem far_bool (b : Bool) : Far (PyData.bool b).shown := fun k hk hm => by
  rw [mem_shown_bool] at hm
  cases b <;> simp at hm <;> omega
theorem far_tuple {xs : List PyData} (h : ∀ x ∈ xs, Far x.shown) : Far (PyData.tuple xs).shown := fun k hk hm => by
  rw [PyData.shown_tuple, mem_cps_append, mem_cps_append, signs_lparen, mem_join] at hm
  rcases hm with ((hm | (⟨t, ht, hc⟩ | ⟨hl, hm⟩)) | hm)
  · simp only [List.mem_cons, List.not_mem_nil, or_false] at hm
    omega
  · exact shownAll_free (fun x hx => h x hx k hk) t ht hc
  · rw [signs_sep] at hm
    simp only [List.mem_cons, List.not_mem_nil, or_false] at hm
    omega
  · split at hm
    · have e : ((",)" : String) : Str).cps.toList = [44, 41] := by decide
      rw [e] at hm
      simp only [List.mem_cons, List.not_mem_nil, or_false] at hm
      omega
    · have e : ((")" : String) : Str).cps.toList = [41] := by decide
      rw [e] at hm
      simp only [List.mem_cons, List.not_mem_nil, or_false] at hm
      omega
theorem far_ints (l : List Int) : Far (PyData.tuple (l.map .int)).shown := far_tuple fun x hx => by
  obtain ⟨i, _, rfl⟩ := List.mem_map.mp hx
  exact far_int i
end Dl

set_option Elab.async false
set_option linter.all false
set_option maxRecDepth 100000
set_option maxHeartbeats 4000000
/-! the data layer: __init__ with defaults, instances made with keywords -/
namespace Dl
open PySem PySem.Spec PyProof.Rows L2 Lx
section
variable {P : Program} {w : World} {mg : Str → Option Value} {base : Heap} {S : Sx}
/-- __init__ with defaults -/
theorem okDID {x qual : Str} {params : Arguments} {body : List Stmt} {scope : Scope} {dvs : List V} {kws : List (Str × V)} {f C : Addr} {fd : FuncData} {N ps : List Str} {k : Nat} {sp : SpI} (F : FunD S.K x qual params body scope dvs kws f fd) (Sc : FnScope N ps scope) (hN : N ≠ [] := by simp) (hps : ps ≠ [] := by simp)
    (hb : ∀ (cdv : Value) (A : Around) (outer : List Env) (s : Shared) (H : Hp) (E : XK), Room k (A.deeper (envOfC qual scope s.heap.objs.size f cdv)) →
      ∃ T t, PSs (cxOf (L2.CX P w) P w S.K mg base N qual scope f cdv A outer s H E) body T ∧ LS S E T t ∧ ∀ ds Qd Ed x dx, ds.length + 1 = ps.length → sp ds Qd Ed →
        t { nx := fun ρ => ∃ fs r, ρ = some (.ini x dx C fs) :: r ∧ Qd fs, rt := fun _ => False, er := Ed } (startI N x dx C ds)) :
    FnOk P w S.K mg base (L2.CX P w) (k + 1) f fd ps (spDI S (ps.length - 1) C sp) := by
  have len : ∀ (vs : List V) (rest : List V) (x : Addr), vs = V.ref x :: rest → rest.length = ps.length - 1 → vs.length = ps.length := fun vs rest x e h => by
    subst e
    have : 0 < ps.length := List.length_pos_iff.mpr hps
    rw [List.length_cons, h]
    omega
  refine F.ok Sc (fun vs H Q E ⟨_, x, _, rest, _, _, _, h, h2, _⟩ => len vs rest x h h2) (fun cdv A outer s H vs Q E hr h => ?_)
  obtain ⟨G, x, dx, rest, ds, Qd, Ed, rfl, hl, hx, hd, ne, wf, rv, q, k1, k2⟩ := h
  obtain ⟨T, t, h1, h2, h3⟩ := hb cdv A outer s H E hr
  have sm : Same (lessI H x dx) H := fun a o e => by
    unfold lessI at e
    split at e
    · cases e
    · exact e
  have pos : 0 < ps.length := List.length_pos_iff.mpr hps
  refine ⟨T, h1, h2 G (lessI H x dx) G.F _ { nx := fun ρ => ∃ fs r, ρ = some (.ini x dx C fs) :: r ∧ Qd fs, rt := fun _ => False, er := Ed } _ _ G H ⟨Step.same wf sm, startI_st hN hx wf rv, Same.refl _⟩ ?_ (h3 ds Qd Ed x dx (by rw [← Paired.length rv, hl]; omega) q)⟩
  refine ⟨fun σ ρ G' H' a ⟨fs, r, e, q⟩ => ?_, fun _ _ _ _ _ _ q => q.elim, fun _ _ _ _ _ q => q.elim, fun _ _ _ _ _ q => q.elim, fun e cls d G' H' s he q => k2 e cls d G' H' s he q⟩
  subst e
  obtain ⟨v, z1, vs, z2, z3, z4, z5, z6, z7⟩ := a.r.at_ 0 (.ini x dx C fs) rfl
  exact k1 fs vs G' H' a.s z3 z4 z5 z7 q
variable {E : XK}
def dMakeK (C : Addr) (sp : SpI) (g : List DV → List DV → List DV) (ta tk : TAD) : TD := fun ρ Qd Ed => ta ρ (fun ds => tk ρ (fun es => sp (g ds es) (fun fs => (fs.map (·.1)).Nodup ∧ Qd (.ins C fs)) Ed) Ed) Ed
theorem le_makeK {n m N : Nat} {C : Addr} {sp : SpI} {gV : List V → List V → List V} {g : List DV → List DV → List DV} {Ta Tk : TA} {ta tk : TAD} (ha : LA n S E Ta ta) (hk : LA m S E Tk tk)
    (hg : ∀ (G : Gh) (x : V) (vs zs : List V) (ds es : List DV), vs.length = n → zs.length = m → RVs G vs ds → RVs G zs es → ∃ rest, gV (x :: vs) zs = x :: rest ∧ rest.length = N ∧ RVs G rest (g ds es)) :
    LE S E (tMakeK C n m (spDI S N C sp) gV E Ta Tk) (dMakeK C sp g ta tk) := by
  intro H0 ρ σ G H Qd Ed Q w st q k ke
  refine ha H0 ρ σ G H _ Ed _ w st q (fun xs ds G0 H1 s0 hl0 rx0 q0 => ?_) ke
  refine hk H0 ρ σ G0 H1 _ Ed _ s0.wf (st.step s0) q0 (fun zs es G1 H1 s1' hl1 rz q1 => ?_) (fun e cls d G' H' s he h => ke e cls d G' H' (s0.trans s) he h)
  have s1 := s0.trans s1'
  have rx := RVs.mono s1'.fm s1'.bm rx0
  refine ⟨hl0, hl1, fun x dx nx ndx ne => ?_⟩
  obtain ⟨rest, eg, lg, rg⟩ := hg G1 (.ref x) xs zs ds es hl0 hl1 rx rz
  rw [eg]
  have eq : lessI (upd (upd H1 dx (.own x)) x (.ins C dx [])) x dx = H1 := by
    funext a
    unfold lessI
    by_cases h : a = x ∨ a = dx
    · rw [if_pos h]
      rcases h with rfl | rfl
      · exact nx.symm
      · exact ndx.symm
    · rw [if_neg h, upd_ne (fun z => h (.inl z)), upd_ne (fun z => h (.inr z))]
  refine ⟨G1, x, dx, rest, g ds es, _, Ed, rfl, lg, upd_same, by rw [upd_ne ne, upd_same], ne, by rw [eq]; exact s1.wf, rg, q1, fun fs vs G' H' s hx hf hb hp q => ⟨rfl, ?_⟩, fun e cls d G' H' s he h => ?_⟩
  · rw [eq] at s
    have fm : Same G'.F (G'.put x (.ins C dx vs)).F := same_upd (.inl hf)
    have hp' : Paired (fun a b => a.1 = b.1 ∧ RV (G'.put x (.ins C dx vs)) a.2 b.2) vs fs := Paired.mapP hp fun _ _ z => ⟨z.1, z.2.mono fm (fun _ h => h)⟩
    exact k (.ref x) _ (G'.put x (.ins C dx vs)) H' (s1.trans (s.freeze hx (fun z e => by cases e) (.of nx) hb)) (.ins put_same (rfs_of_pair hp' q.1)) q.2
  · rw [eq] at s
    exact ke e cls d G' H' (s1.trans s) he h
/-- all parameters by keywords, the last first, but the one with a default -/
def gRevD {α : Type} : List α → List α → List α → List α := fun vs ds zs => vs ++ (zs.reverse ++ ds)
/-- the last parameter by keyword -/
def gEnd {α : Type} : List α → List α → List α → List α := fun vs _ zs => vs ++ zs
theorem gRevD_rel {vs ds zs : List V} {us its ws : List Value} (a : Vals vs us) (b : Vals ds its) (c : Vals zs ws) : Vals (gRevD vs ds zs) (gRevD us its ws) := by
  have rv : ∀ {zs : List V} {ws : List Value}, Vals zs ws → Vals zs.reverse ws.reverse := by
    intro zs ws h
    induction h with
    | nil => exact .nil
    | cons h t ih =>
      rw [List.reverse_cons, List.reverse_cons]
      exact ih.append (.cons h .nil)
  exact a.append ((rv c).append b)
theorem gEnd_rel {vs ds zs : List V} {us its ws : List Value} (a : Vals vs us) (b : Vals ds its) (c : Vals zs ws) : Vals (gEnd vs ds zs) (gEnd us its ws) := a.append c
def gRevDD (d : DV) : List DV → List DV → List DV := fun ds es => ds ++ (es.reverse ++ [d])
theorem hg_revD {n m : Nat} {v : V} {d : DV} (hv : ∀ G, RV G v d) : ∀ (G : Gh) (x : V) (vs zs : List V) (ds es : List DV), vs.length = n → zs.length = m → RVs G vs ds → RVs G zs es → ∃ rest, (fun vs zs => gRevD vs [v] zs) (x :: vs) zs = x :: rest ∧ rest.length = n + (m + 1) ∧ RVs G rest (gRevDD d ds es) :=
  fun G x vs zs ds es h1 h2 r1 r2 => ⟨vs ++ (zs.reverse ++ [v]), rfl, by simp [h1, h2], papp r1 (papp (rvs_rev r2) (.cons (hv G) .nil))⟩
def gEndD : List DV → List DV → List DV := fun ds es => ds ++ es
theorem hg_end {n m : Nat} {dv : List V} : ∀ (G : Gh) (x : V) (vs zs : List V) (ds es : List DV), vs.length = n → zs.length = m → RVs G vs ds → RVs G zs es → ∃ rest, (fun vs zs => gEnd vs dv zs) (x :: vs) zs = x :: rest ∧ rest.length = n + m ∧ RVs G rest (gEndD ds es) :=
  fun G x vs zs ds es h1 h2 r1 r2 => ⟨vs ++ zs, rfl, by simp [h1, h2], papp r1 r2⟩
end
end Dl

set_option Elab.async false
set_option linter.all false
set_option maxRecDepth 100000
set_option maxHeartbeats 4000000
/-! != of instances whose class has an == of its own and no != -/
namespace Lx
open PySem PySem.Spec PyProof.Rows L2 PySem.W
theorem ne_bind (self : Value) : bindSpecial (.builtin "object.__ne__") self = pure (.builtin "object.__ne__", [self]) :=
  (Slot.of (T := "object") (name := "__ne__") (owner := "object") (n := "__ne__") (by rw [typeLookup_type, builtinLookup_eq_fast]; kernel_rfl) (by decide +kernel) (by decide +kernel) (by decide +kernel)
    (.inl (by decide +kernel)) (by rw [isSubtype_type]; kernel_rfl)).bind self
section
variable {pr : Program} {w : World} {A : Around} {E : Value → Shared → Prop} {s : Shared} {K : Frag} {x C L f : Addr} {h₀ : Heap} {m : PySem.Str → Option Value} {ox : Obj} {od : Option Obj} {b tb : Value}
theorem bound_ne {args : List Value} {Q : Option Value → Shared → Prop} (X : K.In s.heap) (I : InstAt s.heap x ox C od) (hs : findIn K (.ref C) "__ne__" = some (some (.builtin "object.__ne__")))
    (h : wpAny (model pr w) A (call (.builtin "object.__ne__") (.ref x :: args)) (fun v => Q (some v)) E s) : wpAny (model pr w) A (callSpecialIfBound? (.ref x) "__ne__" args) Q E s := by
  simp only [callSpecialIfBound?, bindSpecialIfBound?]
  apply wpAny_holding
  apply wpAny_bind
  apply wpAny_bind
  apply wpAny_bind
  refine I.type.here ((looks_findIn X hs).here ?_)
  simp only [ne_bind]
  apply wpAny_bind
  refine wpAny_askSetting (wpAny_ite ?_)
  have fin : wpAny (model pr w) A (call (.builtin "object.__ne__") ([.ref x] ++ args) >>= fun v => pure (some v)) Q E s := wpAny_bind (wpAny_mono h (fun v u z => wpAny_pure z) fun _ _ z => z)
  split
  · exact wpAny_bind (wpAny_pure (wpAny_pure fin))
  · exact wpAny_tryCatch (wpAny_bind (wpAny_pure (wpAny_pure fin)))
theorem body_ne {Q : Fin → Shared → Prop} (hu : A.units < cLine) (X : K.In s.heap) (I : InstAt s.heap x ox C od) (he : findIn K (.ref C) "__eq__" = some (some (.ref f))) (hf : isFn K (.ref f) = true)
    (hcall : wpAny (model pr w) A (call (.ref f) [.ref x, b]) (fun v u => ∃ k, v = .bool k ∧ Q (.done (.ret (.bool (!k)))) u) E s) : wpAny (model pr w) A (Builtin.«object.__ne__» ⟨[.ref x, b], []⟩) Q E s := by
  obtain ⟨hp, g, d, t, os⟩ := s
  unfold Builtin.«object.__ne__»
  repeat (first
    | with_reducible refine wpAny_cRoomFor hu ?_
    | (refine wpAny_bind (m := callSpecialIfBound? (.ref x) (Str.ofString "__eq__") [b])
        (ifBound_K X I he hf (wpAny_mono hcall (fun v u z => by
          obtain ⟨k, rfl, hq⟩ := z
          repeat (first | exact hq | exact wpAny_pure hq | exact wpAny_truthy_bool hq | (refine wpAny_bind (m := truthy (.bool _)) (wpAny_truthy_bool ?_)) | wp_step)) fun _ _ z => z)))
    | wp_step)
theorem ne_K {Q : Value → Shared → Prop} (hu : A.units + 1 < cLine) (Fz : Fr h₀ L s.heap m) (X₀ : K.In h₀) (I : InstAt s.heap x ox C od) (hb : Looks (model pr w) s.heap (typeOf b) tb) (hn : notFirst K C tb = true)
    (hs : findIn K (.ref C) "__ne__" = some (some (.builtin "object.__ne__"))) (ho : mroIn K C (.type "object") = some true) (he : findIn K (.ref C) "__eq__" = some (some (.ref f))) (hf : isFn K (.ref f) = true)
    (h : wpAny (model pr w) A.in1 (call (.ref f) [.ref x, b]) (fun v u => ∃ k, v = .bool k ∧ Q (.bool (!k)) u) E s) : wpAny (model pr w) A (richCompare .NotEq (.ref x) b) Q E s := by
  have X := X₀.keeps Fz.keep
  have inst : Looks (model pr w) s.heap (isInstance (.ref x) (.type "object")) true := by
    unfold isInstance
    exact I.type.andThen (looks_mroIn X ho)
  have one : wpAny (model pr w) A (tryCompare (.ref x) "__ne__" b) (fun r u => ∃ v, r = some v ∧ Q v u) E s := by
    unfold tryCompare
    refine wpAny_bind (bound_ne X I hs (wpAny_call (codeAny_call_builtin (by decide +kernel) PySem.F.cmpEntry_ne (check_slot PySem.F.cmpKind_ne PySem.F.cmpSplit_ne inst (PySem.F.cmpArgs_ne _ _) (body_ne (A := A.in1) (by show A.units + 1 < cLine; exact hu) X I he hf (wpAny_mono h (fun v u z => ?_) fun _ _ z => z))))))
    obtain ⟨k, rfl, hq⟩ := z
    first
      | exact ⟨k, rfl, wpAny_pure ⟨_, rfl, hq⟩⟩
      | exact ⟨k, rfl, ⟨_, rfl, hq⟩⟩
  unfold richCompare
  simp only [oneThing_ref]
  apply wpAny_holding
  apply wpAny_bind
  apply wpAny_cRoomFor (Nat.lt_of_succ_lt hu)
  rw [cmpInfo_NotEq]
  dsimp only
  apply wpAny_bind
  refine I.type.here ?_
  apply wpAny_bind
  refine hb.here ?_
  split
  · rename_i q
    have e : subIn K tb (.ref C) = some false := by
      rcases Bool.or_eq_true_iff.mp hn with e | e
      · rw [beq_iff_eq.mp e] at q
        simp at q
      · exact beq_iff_eq.mp e
    apply wpAny_bind
    refine (looks_subIn X e).here ?_
    simp only [Bool.false_eq_true, if_false]
    apply wpAny_bind
    refine wpAny_mono one (fun r u z => ?_) fun _ _ z => z
    obtain ⟨v, rfl, hq⟩ := z
    exact wpAny_pure hq
  · apply wpAny_bind
    apply wpAny_pure
    simp only [Bool.false_eq_true, if_false]
    apply wpAny_bind
    refine wpAny_mono one (fun r u z => ?_) fun _ _ z => z
    obtain ⟨v, rfl, hq⟩ := z
    exact wpAny_pure hq
end
/-- x != y, x an instance of the class at C whose own == is at g -/
def rNeI (K : PySem.W.Frag) (C : Addr) (sp : Sp) : R2 := fun x y H Q => ∃ a dx fs t, x = .ref a ∧ H a = some (.ins C dx fs) ∧ TyX K H y t ∧ PySem.W.notFirst K C t = true ∧ sp [x, y] H (fun v H' => ∃ k, v = .bl k ∧ Q (.bl (!k)) H') L2.E0
theorem op_neI {X : Cx} {n : Nat} {g C : Addr} {fd : FuncData} {ps : List PySem.Str} {sp : Sp} (F : FnOk X.prog X.w X.K X.mg X.base L2.CX0 n g fd ps sp) (he : PySem.W.findIn X.K (.ref C) "__eq__" = some (some (.ref g))) (hf : PySem.W.isFn X.K (.ref g) = true)
    (hs : PySem.W.findIn X.K (.ref C) "__ne__" = some (some (.builtin "object.__ne__"))) (ho : PySem.W.mroIn X.K C (.type "object") = some true) (hb : L2.Binds X.K fd ps []) (hr : Room (n + 1) X.A) : OpR X (compareOp .NotEq) (rNeI X.K C sp) := by
  intro pins s σ H x y v u Q I rx ry h
  obtain ⟨a, dx, fs, t, rfl, ha, ty, hn, q⟩ := h
  cases (show v = Value.ref a from rx)
  obtain ⟨mA, J, _⟩ := ins_get I.hok ha
  obtain ⟨od, J, _⟩ := J.look
  obtain ⟨P, Z, hP, _⟩ := kit_of I ry ty
  obtain ⟨m, hF⟩ := I.fr
  show wpAny _ _ (richCompare .NotEq (.ref a) u) _ _ s
  refine ne_K (tb := t) (by have := hr.units; omega) hF I.ok.mod.kin J (Z.ty _ _ I.kIn hP) hn hs ho he hf ?_
  have F' : FnR X.prog X.w X.K X.mg X.base L2.CX0 n g sp := (F.raw hb .nil).imp fun vs H Q E h => by rw [List.append_nil]; exact h
  refine wpAny_call (codeAny_mono (F' X.A.in1 X.stack s H [.ref a, u] [.ref a, y] _ _ hr.in1 I.env0.in1 (.cons rfl (.cons ry .nil)) q) fun r s' hq => ?_)
  cases r with
  | error e => exact False.elim hq
  | ok fl =>
    cases fl with
    | ret w =>
      obtain ⟨z, H', I', rz, k, rfl, qz⟩ := I.after hq
      cases rz
      exact ⟨k, rfl, .bl (!k), H', I', rfl, qz⟩
    | next => exact False.elim hq
    | brk => exact False.elim hq
    | cont => exact False.elim hq
end Lx
namespace Dl
open PySem PySem.Spec PyProof.Rows L2 Lx
def fNeOwn (C : Addr) (D : Addr → Prop) (sp : SpD) : F2 := fun x y Q => match x, y with
  | .ins C' fs, .ins B gs => C' = C ∧ D B ∧ sp [.ins C' fs, .ins B gs] (fun d => ∃ k : Bool, d = .bl k ∧ Q (.bl (!k))) fun _ => False
  | _, _ => False
theorem l2_neOwn {S : Sx} {C : Addr} {D : Addr → Prop} {sp : SpD} (hD : ∀ B, D B → InsC S.K B ∧ PySem.W.notFirst S.K C (.ref B) = true) : L2r S (rNeI S.K C (spD S 2 sp)) (fNeOwn C D sp) := by
  intro G H x y dx dy Qd Q w rx ry q k
  unfold fNeOwn at q
  split at q
  · rename_i C' fs B gs
    obtain ⟨rfl, hB, q⟩ := q
    obtain ⟨I, hn⟩ := hD B hB
    have rx' := rx
    obtain ⟨m, dxa, vs, rfl, hm, _⟩ := rv_ins rx
    refine ⟨m, dxa, vs, .ref B, rfl, w.sub _ _ hm, rv_tyx I w ry, hn, G, _, _, _, rfl, w, .cons rx' (.cons ry .nil), q, fun v d G' H' s rv qd => ?_, fun _ _ _ _ _ _ _ z => z.elim⟩
    obtain ⟨k2, rfl, qd⟩ := qd
    cases rv_bl rv
    exact ⟨k2, rfl, k _ _ _ _ s (.py (.bl _)) qd⟩
  · exact q.elim
/-- a, found = x, [..], both names plain locals -/
theorem ls_parO {S : Sx} {E : XK} {i j : Nat} {Ta Tb : TE} {ta : TD} {tb : TOD} (ha : LE S E Ta ta) (hb : LO S E Tb tb) : LS S E (tPar i j (tCons Ta (tCons Tb tNil))) (dPairO i j ta tb) := by
  intro G0 H0 Fb D Dd σ ρ G H a r q
  refine ha H0 ρ σ G H _ _ _ a.s.wf a.r q (fun v d G1 H1 s1 rv q1 => ?_) (r.err a.s)
  refine hb H0 ρ σ G1 H1 _ _ _ s1.wf (a.r.step s1) q1 (fun p vs l G2 H2 s2 n hp nf nb rr q2 => ?_) (r.err (a.s.trans s1))
  refine ⟨_, _, rfl, ?_⟩
  have st1 := (a.r.step s1).set (i := i) rv
  have stp := st1.setO (i := j) s2 n ((a.s.trans s1).was_free n) hp nf nb rr
  exact r.nx _ _ G2 _ ⟨(a.s.trans s1).trans s2, stp, (a.f.trans s1.fm).trans s2.fm⟩ q2
end Dl

set_option Elab.async false
set_option linter.all false
set_option maxRecDepth 100000
set_option maxHeartbeats 4000000
/-! the data layer: a call that takes its last argument by default and may raise -/
namespace Dl
open PySem PySem.Spec PyProof.Rows L2 Lx
section
variable {S : Sx} {E : XK}
theorem le_callDX {n : Nat} {sp : SpD} {Ta : TA} {ta : TAD} {dvs : List V} {dds : List DV} (hd : ∀ G, RVs G dvs dds) (ha : LA n S E Ta ta) : LE S E (tCall (spD S (n + dvs.length) sp) dvs E Ta) (dCall (fun ds => sp (ds ++ dds)) ta) := by
  intro H0 ρ σ G H Qd Ed Q w st q k ke
  refine ha H0 ρ σ G H _ Ed _ w st q (fun xs ds G1 H1 s1 hl rx q1 => ?_) ke
  exact ⟨G1, ds ++ dds, Qd, Ed, by rw [List.length_append, hl], s1.wf, papp rx (hd G1), q1, fun v d G' H' s rv q => k v d G' H' (s1.trans s) rv q, fun e cls d G' H' s he h => ke e cls d G' H' (s1.trans s) he h⟩
end
end Dl

set_option Elab.async false
set_option linter.all false
set_option maxRecDepth 100000
set_option maxHeartbeats 4000000
/-! mathematics of rows that repeat and rows by number -/
namespace Pg
open PySem PySem.Spec PyProof.Rows L2 Lx Dl
/-- the last l of ds repeat with the step s -/
def EndRep (ds : List Int) (s l : Nat) : Prop := ∀ i, ds.length - l + s ≤ i → i < ds.length → ds[i]? = ds[i - s]?
/-- r is the longest of them -/
structure Longest (ds : List Int) (s r : Nat) : Prop where
  le : r ≤ ds.length
  rep : EndRep ds s r
  low : min s ds.length ≤ r
  most : ∀ l, l ≤ ds.length → EndRep ds s l → l ≤ r
theorem EndRep.short {ds : List Int} {s l : Nat} (h : l ≤ s) (hl : l ≤ ds.length) : EndRep ds s l := fun i h1 h2 => by omega
theorem EndRep.less {ds : List Int} {s l m : Nat} (h : EndRep ds s l) (hm : m ≤ l) : EndRep ds s m := fun i h1 h2 => h i (by omega) h2
theorem EndRep.more {ds : List Int} {s l : Nat} (h : EndRep ds s l) (hs : s ≤ l) (hl : l < ds.length) (e : ds[ds.length - 1 - l + s]? = ds[ds.length - 1 - l]?) : EndRep ds s (l + 1) := fun i h1 h2 => by
  by_cases z : i = ds.length - 1 - l + s
  · subst z
    rw [Nat.add_sub_cancel]
    exact e
  · exact h i (by omega) h2
theorem atI_neg {α : Type} {xs : List α} {k : Nat} {v : α} (hk : k < xs.length) (h : xs[xs.length - 1 - k]? = some v) : atI xs (-(k : Int) - 1) = some v := by
  have e : ixN xs.length (-(k : Int) - 1) = some (xs.length - 1 - k) := by
    unfold ixN
    rw [if_neg (by omega), if_pos (by omega)]
    congr 1
    omega
  unfold atI
  rw [e]
  exact h

/-- all of ds repeats with the step s -/
def perB (ds : List Int) (s : Nat) : Bool := decide (ds.drop s = ds.take (ds.length - s))
def stepsOf (ds : List Int) : List Int := ((List.range (ds.length - 1)).filter (fun i => perB ds (i + 1))).map (fun (i : Nat) => ((i : Int) + 1))
def digits (n k x : Nat) : List Int := ((List.range k).map (fun i => ((x / n ^ i % n : Nat) : Int))).reverse
def placeOf (n : Nat) (ds : List Int) : Int := ds.foldl (fun p d => p * n + d) 0
def missB (ds : List Int) (s : Nat) (i : Nat) : Bool := !decide (V.int (ds.getD (s + i) 0) = V.int (ds.getD i 0))
def repB (ds : List Int) (s : Nat) : Bool := decide (((List.range (ds.length - s)).filter (missB ds s)).map (fun (i : Nat) => ((s : Int) + i)) = [])
theorem repB_iff {ds : List Int} {s : Nat} : repB ds s = true ↔ ∀ i, i + s < ds.length → ds.getD (s + i) 0 = ds.getD i 0 := by
  unfold repB
  rw [decide_eq_true_eq, List.map_eq_nil_iff, List.filter_eq_nil_iff]
  constructor
  · intro h i hi
    have z := h i (List.mem_range.mpr (by omega))
    simpa [missB] using z
  · intro h i hi
    have z := h i (by have := List.mem_range.mp hi; omega)
    unfold missB
    rw [z]
    simp
def divB (a b : Nat) (i : Nat) : Bool := decide ((i + 1) ∣ a) && decide ((i + 1) ∣ b)
theorem filter_last {n : Nat} {p : Nat → Bool} {g : Nat} (hg : g < n) (hp : p g = true) (hm : ∀ i, g < i → i < n → p i = false) : ((List.range n).filter p).getLast? = some g := by
  induction n with
  | zero => omega
  | succ n ih =>
    rw [List.range_succ, List.filter_append]
    by_cases e : g = n
    · subst e
      simp [hp]
    · have z := hm n (by omega) (by omega)
      have y := ih (by omega) fun i h1 h2 => hm i h1 (by omega)
      simpa [z] using y
theorem div_last {a b : Nat} (ha : 1 ≤ a) : ((List.range a).filter (divB a b)).getLast? = some (Nat.gcd a b - 1) := by
  have g1 : 1 ≤ Nat.gcd a b := Nat.gcd_pos_of_pos_left b ha
  have g2 : Nat.gcd a b ≤ a := Nat.le_of_dvd ha (Nat.gcd_dvd_left a b)
  apply filter_last
  · omega
  · unfold divB
    rw [Nat.sub_add_cancel g1, Bool.and_eq_true, decide_eq_true_eq, decide_eq_true_eq]
    exact ⟨Nat.gcd_dvd_left a b, Nat.gcd_dvd_right a b⟩
  · intro i h1 h2
    rw [← Bool.not_eq_true]
    intro h
    unfold divB at h
    rw [Bool.and_eq_true, decide_eq_true_eq, decide_eq_true_eq] at h
    have := Nat.le_of_dvd (by omega) (Nat.dvd_gcd h.1 h.2)
    omega
theorem atI_last' {α : Type} {xs : List α} {v : α} (h : xs.getLast? = some v) : atI xs (-1) = some v := by
  obtain ⟨ys, rfl⟩ := List.getLast?_eq_some_iff.mp h
  exact atI_last ys v
def Per (x : Nat → Int) (n p : Nat) : Prop := ∀ i, i + p < n → x (i + p) = x i
theorem Per.mod {x : Nat → Int} {n p : Nat} (h : Per x n p) (hp : 0 < p) : ∀ j, j < n → x j = x (j % p) := by
  intro j
  induction j using Nat.strongRecOn with
  | _ j ih =>
    intro hj
    by_cases z : j < p
    · rw [Nat.mod_eq_of_lt z]
    · have e : j - p + p = j := by omega
      have a := h (j - p) (by omega)
      rw [e] at a
      have c : j % p = (j - p) % p := Nat.mod_eq_sub_mod (by omega)
      rw [a, c]
      exact ih (j - p) (by omega) (by omega)
theorem per_common (x : Nat → Int) : ∀ (N p q n : Nat), p + q ≤ N → 0 < p → 0 < q → Per x n p → Per x n q → p + q ≤ n + Nat.gcd p q → Per x n (Nat.gcd p q) := by
  intro N
  induction N with
  | zero => intro p q n h1 h2; omega
  | succ N ih =>
    -- the greater step first
    have main : ∀ p q n : Nat, p + q ≤ N + 1 → q < p → 0 < q → Per x n p → Per x n q → p + q ≤ n + Nat.gcd p q → Per x n (Nat.gcd p q) := by
      intro p q n hN hlt hq hp hqq hlen
      have eg : Nat.gcd (p - q) q = Nat.gcd p q := Nat.gcd_sub_self_left (by omega)
      have g0 : 0 < Nat.gcd p q := Nat.gcd_pos_of_pos_right p hq
      have gq : Nat.gcd p q ∣ q := Nat.gcd_dvd_right p q
      have gp : Nat.gcd p q ∣ p := Nat.gcd_dvd_left p q
      have far : q + Nat.gcd p q ≤ p := by
        have z := Nat.dvd_sub gp gq
        have := Nat.le_of_dvd (by omega) z
        omega
      have sub : Per x (n - q) (Nat.gcd (p - q) q) := by
        apply ih (p - q) q (n - q) (by omega) (by omega) hq
        · intro i hi
          have a := hp i (by omega)
          have b := hqq (i + (p - q)) (by omega)
          rw [show i + (p - q) + q = i + p by omega] at b
          rw [← b, a]
        · intro i hi
          exact hqq i (by omega)
        · rw [eg]
          omega
      rw [eg] at sub
      have small : ∀ j, j < n → x j = x (j % Nat.gcd p q) := by
        intro j hj
        rw [hqq.mod hq j hj, sub.mod g0 (j % q) (by have := Nat.mod_lt j hq; omega), Nat.mod_mod_of_dvd _ gq]
      intro i hi
      rw [small _ hi, small i (by omega), Nat.add_mod_right]
    intro p q n hN hp0 hq0 hp hq hlen
    rcases Nat.lt_trichotomy p q with z | z | z
    · have := main q p n (by omega) z hp0 hq hp (by rw [Nat.gcd_comm]; omega)
      rwa [Nat.gcd_comm] at this
    · subst z
      rwa [Nat.gcd_self]
    · exact main p q n hN z hq0 hp hq hlen

theorem repB_per {ds : List Int} {s : Nat} : repB ds s = true ↔ Per (fun i => ds.getD i 0) ds.length s := by
  rw [repB_iff]
  constructor
  · intro h i hi
    have := h i hi
    rwa [Nat.add_comm] at this
  · intro h i hi
    have := h i hi
    rwa [Nat.add_comm] at this
theorem getD_eq_iff {ds : List Int} {i j : Nat} (hi : i < ds.length) (hj : j < ds.length) : ds[i]? = ds[j]? ↔ ds.getD i 0 = ds.getD j 0 := by
  rw [List.getD_eq_getElem?_getD, List.getD_eq_getElem?_getD, List.getElem?_eq_getElem hi, List.getElem?_eq_getElem hj]
  simp
theorem repB_perB {ds : List Int} {s : Nat} : repB ds s = perB ds s := by
  rw [Bool.eq_iff_iff, repB_iff]
  unfold perB
  rw [decide_eq_true_eq]
  constructor
  · intro h
    apply List.ext_getElem?
    intro i
    rw [List.getElem?_drop, List.getElem?_take]
    by_cases z : i + s < ds.length
    · rw [if_pos (by omega), getD_eq_iff (by omega) (by omega), h i z]
    · rw [if_neg (by omega), List.getElem?_eq_none (by omega)]
  · intro h i hi
    have z := congrArg (fun l => l[i]?) h
    simp only [List.getElem?_drop, List.getElem?_take] at z
    rw [if_pos (by omega)] at z
    exact (getD_eq_iff (by omega) (by omega)).mp z
theorem drop_getD {ds : List Int} {k i : Nat} : (ds.drop k).getD i 0 = ds.getD (k + i) 0 := by
  rw [List.getD_eq_getElem?_getD, List.getD_eq_getElem?_getD, List.getElem?_drop]
theorem repB_end {ds : List Int} {s l : Nat} (hl : l ≤ ds.length) : repB (ds.drop (ds.length - l)) s = true ↔ EndRep ds s l := by
  rw [repB_iff]
  have e : (ds.drop (ds.length - l)).length = l := by rw [List.length_drop]; omega
  rw [e]
  constructor
  · intro h i h1 h2
    have z := h (i - (ds.length - l) - s) (by omega)
    rw [drop_getD, drop_getD, show ds.length - l + (s + (i - (ds.length - l) - s)) = i by omega, show ds.length - l + (i - (ds.length - l) - s) = i - s by omega] at z
    exact (getD_eq_iff h2 (by omega)).mpr z
  · intro h i hi
    rw [drop_getD, drop_getD]
    have z := h (ds.length - l + (s + i)) (by omega) (by omega)
    rw [show ds.length - l + (s + i) - s = ds.length - l + i by omega] at z
    exact (getD_eq_iff (by omega) (by omega)).mp z
/-- the last of all numbers whose end repeats is the longest -/
theorem due_last {ds : List Int} {s r : Nat} (h : Longest ds s r) : ((List.range (ds.length + 1)).filter (fun m => repB (ds.drop (ds.length - m)) s)).getLast? = some r := by
  have le := h.le
  apply filter_last (by omega)
  · exact (repB_end le).mpr h.rep
  · intro i h1 h2
    rw [← Bool.not_eq_true]
    intro z
    have := h.most i (by omega) ((repB_end (by omega)).mp z)
    omega
theorem mem_steps {ds : List Int} {z : Int} : z ∈ stepsOf ds ↔ ∃ s : Nat, z = s ∧ 1 ≤ s ∧ s < ds.length ∧ perB ds s = true := by
  unfold stepsOf
  rw [List.mem_map]
  constructor
  · rintro ⟨i, hi, rfl⟩
    rw [List.mem_filter, List.mem_range] at hi
    exact ⟨i + 1, by omega, by omega, by omega, hi.2⟩
  · rintro ⟨s, rfl, h1, h2, h3⟩
    refine ⟨s - 1, ?_, by omega⟩
    rw [List.mem_filter, List.mem_range]
    exact ⟨by omega, by rw [Nat.sub_add_cancel h1]; exact h3⟩
theorem steps_common {ds : List Int} {a b : Nat} (ha : ((a : Nat) : Int) ∈ stepsOf ds) (hb : ((b : Nat) : Int) ∈ stepsOf ds) (h : a + b ≤ ds.length + Nat.gcd a b) : ((Nat.gcd a b : Nat) : Int) ∈ stepsOf ds := by
  obtain ⟨a', ea, a1, a2, a3⟩ := mem_steps.mp ha
  obtain ⟨b', eb, b1, b2, b3⟩ := mem_steps.mp hb
  have ea : a = a' := by omega
  have eb : b = b' := by omega
  subst ea eb
  have g1 : 1 ≤ Nat.gcd a b := Nat.gcd_pos_of_pos_left b a1
  have g2 : Nat.gcd a b ≤ a := Nat.le_of_dvd a1 (Nat.gcd_dvd_left a b)
  refine mem_steps.mpr ⟨Nat.gcd a b, rfl, g1, by omega, ?_⟩
  rw [← repB_perB] at a3 b3 ⊢
  exact repB_per.mpr (per_common _ _ a b ds.length (Nat.le_refl _) a1 b1 (repB_per.mp a3) (repB_per.mp b3) h)
theorem most_of {p : Nat → Prop} (h0 : p 0) (n : Nat) : ∃ r, r ≤ n ∧ p r ∧ ∀ l, l ≤ n → p l → l ≤ r := by
  induction n with
  | zero => exact ⟨0, Nat.le_refl _, h0, fun l h _ => h⟩
  | succ n ih =>
    rcases Classical.em (p (n + 1)) with h | h
    · exact ⟨n + 1, Nat.le_refl _, h, fun l hl _ => hl⟩
    · obtain ⟨r, h1, h2, h3⟩ := ih
      refine ⟨r, by omega, h2, fun l hl hp => ?_⟩
      by_cases e : l = n + 1
      · subst e
        exact absurd hp h
      · exact h3 l (by omega) hp
theorem longest_ex (ds : List Int) (s : Nat) : ∃ r, Longest ds s r := by
  obtain ⟨r, h1, h2, h3⟩ := most_of (p := EndRep ds s) (EndRep.short (Nat.zero_le _) (Nat.zero_le _)) ds.length
  exact ⟨r, h1, h2, h3 _ (by omega) (EndRep.short (by omega) (by omega)), h3⟩
theorem longest_one {ds : List Int} {s r r' : Nat} (h : Longest ds s r) (h' : Longest ds s r') : r = r' := Nat.le_antisymm (h'.most r h.le h.rep) (h.most r' h'.le h'.rep)
theorem steps_len {ds : List Int} : (stepsOf ds).length ≤ ds.length := by
  unfold stepsOf
  rw [List.length_map]
  have := List.length_filter_le (fun i => perB ds (i + 1)) (List.range (ds.length - 1))
  rw [List.length_range] at this
  omega
theorem digits_len (n k x : Nat) : (digits n k x).length = k := by
  unfold digits
  rw [List.length_reverse, List.length_map, List.length_range]
theorem digits_more {n k j d : Nat} (hd : d < n) : digits n (k + 1) (j * n + d) = digits n k j ++ [(d : Int)] := by
  have n0 : 0 < n := by omega
  have e0 : (j * n + d) % n = d := by rw [Nat.mul_comm, Nat.mul_add_mod, Nat.mod_eq_of_lt hd]
  have e1 : (j * n + d) / n = j := by rw [Nat.mul_comm, Nat.mul_add_div n0, Nat.div_eq_of_lt hd, Nat.add_zero]
  unfold digits
  rw [List.range_succ_eq_map, List.map_cons, List.reverse_cons, List.map_map]
  congr 1
  · congr 1
    apply List.map_congr_left
    intro i _
    show (((j * n + d) / n ^ (i + 1) % n : Nat) : Int) = ((j / n ^ i % n : Nat) : Int)
    rw [Nat.pow_succ, Nat.mul_comm (n ^ i) n, ← Nat.div_div_eq_div_mul, e1]
  · rw [Nat.pow_zero, Nat.div_one, e0]
theorem digits_ok {n k x : Nat} (hn : 1 ≤ n) : ∀ d ∈ digits n k x, 0 ≤ d ∧ d < n := by
  intro d hd
  unfold digits at hd
  rw [List.mem_reverse] at hd
  obtain ⟨i, _, rfl⟩ := List.mem_map.mp hd
  have := Nat.mod_lt (x / n ^ i) (show n > 0 by omega)
  omega
theorem place_digits {n : Nat} (hn : 1 ≤ n) : ∀ (k x : Nat), x < n ^ k → placeOf n (digits n k x) = (x : Int)
  | 0, x, h => by
    have : x = 0 := by simpa using h
    subst this
    rfl
  | k + 1, x, h => by
    have hd := Nat.mod_lt x (show n > 0 by omega)
    have hx : x = x / n * n + x % n := by
      have := Nat.div_add_mod x n
      rw [Nat.mul_comm] at this
      exact this.symm
    have hq : x / n < n ^ k := by
      rw [Nat.div_lt_iff_lt_mul (by omega), ← Nat.pow_succ]
      exact h
    have ih := place_digits hn k (x / n) hq
    rw [hx, digits_more hd]
    unfold placeOf at ih ⊢
    rw [List.foldl_append, ih]
    show ((x / n : Nat) : Int) * (n : Int) + ((x % n : Nat) : Int) = _
    rw [← hx]
    omega
/-- the first m rows of k deeds -/
def rowsOf (n k m : Nat) : List (List Int) := (List.range m).map (digits n k)
theorem rowsOf_len (n k m : Nat) : (rowsOf n k m).length = m := by
  unfold rowsOf
  rw [List.length_map, List.length_range]
theorem rowsOf_get {n k m i : Nat} (h : i < m) : (rowsOf n k m)[i]? = some (digits n k i) := by
  unfold rowsOf
  rw [List.getElem?_map, List.getElem?_range h]
  rfl
theorem rowsOf_more (n k j : Nat) : rowsOf n (k + 1) ((j + 1) * n) = rowsOf n (k + 1) (j * n) ++ (List.range n).map (fun d => digits n k j ++ [((d : Nat) : Int)]) := by
  unfold rowsOf
  rw [Nat.add_mul, Nat.one_mul, List.range_add, List.map_append, List.map_map]
  congr 1
  apply List.map_congr_left
  intro d hd
  exact digits_more (List.mem_range.mp hd)
theorem rowsOf_zero (n : Nat) : rowsOf n 0 1 = [[]] := rfl

theorem pow_most {n k : Nat} (h4 : n ≤ 4) (hk : k ≤ 4) : n ^ k ≤ 256 := by
  have a : n ^ k ≤ 4 ^ k := Nat.pow_le_pow_left h4 k
  have b : 4 ^ k ≤ 4 ^ 4 := Nat.pow_le_pow_right (by decide) hk
  omega
end Pg

set_option Elab.async false
set_option linter.all false
set_option maxRecDepth 100000
set_option maxHeartbeats 4000000
namespace Pg
open PySem PySem.Spec PyProof.Rows L2 Lx Dl
section
variable {P : Program} {w : World} {mg : Str → Option Value} {base : Heap} {S : Sx}
variable {CF : Addr}
/-- a number between, or Refused -/
def spNeed (CF : Addr) (lo hi : Int) : SpD := fun ds Q Ed => ∃ v, ds = [.py v] ∧ (numD v lo (some hi) = true → Q (.py v)) ∧ (numD v lo (some hi) = false → Ed ⟨CF, "at", .py v⟩)
/-- .. from a least one on -/
def spNeedLeast (CF : Addr) : SpD := fun ds Q Ed => ∃ v lo, (ds = [.py v, .py (.int lo), .py .none] ∧ (numD v lo none = true → Q (.py v)) ∧ (numD v lo none = false → Ed ⟨CF, "at", .py v⟩))
def spNeedSize (CF : Addr) : SpD := fun ds Q Ed => ∃ v, ds = [.py v] ∧ (numD v 1 none = true → Q (.py v)) ∧ (numD v 1 none = false → Ed ⟨CF, "at", .py v⟩)
theorem ok_need_least {f : Addr} {fd : FuncData} (F : FunD S.K "need_number" "need_number" (defArgs sNeedNumber) (defBody sNeedNumber) (defScope sNeedNumber) [.non] [] f fd) (ErF : Err P w S.K mg base "Refused" "at" CF) (Gn : Has P w S.K mg base L2.CX0 1 "is_number" ["value", "least", "greatest"] (spD S 3 spIsNumber)) : FnOk P w S.K mg base (L2.CX P w) 3 f fd ["value", "least", "greatest"] (spD S 3 (spNeedLeast CF)) := by
  have nd : nNeedNumberN.Nodup := scNeedNumber.nd
  refine okDXD (N := nNeedNumberN) (k := 2) F scNeedNumber (hb := fun cdv A outer s H E hr => ?_)
  have hu2 : (A.deeper (envOfC "need_number" (defScope sNeedNumber) s.heap.objs.size f cdv)).units + 200 < cLine := by have := hr.un; omega
  have hu65 : (A.deeper (envOfC "need_number" (defScope sNeedNumber) s.heap.objs.size f cdv)).units + 65 < cLine := by omega
  have tk : Takes (cxOf (L2.CX P w) P w S.K mg base nNeedNumberN "need_number" (defScope sNeedNumber) f cdv A outer s H E) (fun cls d _ H => E cls d H) := takes_of rfl rfl rfl rfl
  refine ⟨_, _, (pss_cons (ps_if (pt_not (pt_val (pe_has Gn (hr.mono (by decide)) (by rfl) (pa_cons (pv 0) (pa_cons (pv 1) (pa_cons (pv 2) pa_nil)))))) (pss_one (ps_raiseErr rfl ErF (hr.mono (by decide)) tk (pv 0))) pss_nil)
      (pss_one (ps_ret (pv 0)))),
      (ls_seq (ls_if (lt_not (lt_b (le_call0 (la_cons le_var (la_cons le_var (la_cons le_var la_nil)))))) (ls_raise le_var) ls_next)
      (ls_ret le_var)), fun ds Qd Ed hl h => ?_⟩
  obtain ⟨v, lo, rfl, h1, h2⟩ := h
  simp [dOf, dVar, dC, dOp, dUn, dNil, dCons, pys, dTup, oLst, dCB, oCB, dCall, dCall0, dCallR, fAdd, oOp, fCat, fInt, fIntC, fNeg, fEq, isNonD, fIsN, fIn, fIx, dTest, dAnd, dOr, dNot, dAndV, dOrV, dNotV, dIfE, dChain, dFld, dNext, dSeq, dRet, dRetN, dDrop, dIfS, dBreak, dCont, dSet, dSetO, setAll, dSetT, dPar, itSeq, itRange1, itRange2, itEnum, Tg.put, Tg.ix, dFor, wipeL, dYes, oLc, dAppend, dPutIx, dFreeze, unown, hasOwn, noLD, okL, dSnap, dSnapT, dRaise, startD, dNoPart, dPart, dSl, oSl, fLen, fInt1, fAbs, fInt2, fDivmod, fTuple, fList, fSorted, oSortedSet, fRepr, fAll, fSum, isIntD, isBoolD, isStrD, isTupD, isSeqD, fIsT, dIsLT, dAug, dPutF, dFldI, dMake, startI, putD, dTupRev, dNewBox, dBoxPut, fRep, fEqS, oListRg, dPair, dWork, dSetA, fTimes, fIsOwn, fEqOwn, oSetC, dExtend, dPairO, oSnap, oSetJ, fInT, oSortedSetB, dMakeK, nNeedNumberN, spIsNumber]
  cases e : numD v lo none <;> simp_all

def nNeedLengthN : List Str := ["value"]
theorem scNeedLength : FnScope nNeedLengthN ["value"] (defScope sNeedLength) := ⟨rfl, rfl, rfl, by decide +kernel, rfl, by decide +kernel, by decide +kernel⟩
theorem ok_need_length {f : Addr} {fd : FuncData} (F : Fun S.K "need_length" "need_length" sNeedLength f fd) {tt : Tok} (gP : mg "LONGEST_PAGE" = some (.int 12 tt)) (Gnn : Has P w S.K mg base (L2.CX P w) 3 "need_number" ["value", "least", "greatest"] (spD S 3 (spNeedNumber CF))) : FnOk P w S.K mg base (L2.CX P w) 4 f fd ["value"] (spD S 1 (spNeed CF 0 12)) := by
  have nd : nNeedLengthN.Nodup := scNeedLength.nd
  refine okDX (N := nNeedLengthN) (k := 3) F scNeedLength (hb := fun cdv A outer s H E hr => ?_)
  have hu2 : (A.deeper (envOfC "need_length" (defScope sNeedLength) s.heap.objs.size f cdv)).units + 200 < cLine := by have := hr.un; omega
  have hu65 : (A.deeper (envOfC "need_length" (defScope sNeedLength) s.heap.objs.size f cdv)).units + 65 < cLine := by omega
  have tk : Takes (cxOf (L2.CX P w) P w S.K mg base nNeedLengthN "need_length" (defScope sNeedLength) f cdv A outer s H E) (fun cls d _ H => E cls d H) := takes_of rfl rfl rfl rfl
  refine ⟨_, _, (pss_one (ps_ret (pe_hasX (E := E) Gnn (hr.mono (by decide)) tk (fun _ _ _ _ z => z) (by rfl) (pa_cons (pv 0) (pa_cons pe_int (pa_cons (pe_glob (v := .int 12) rfl gP ⟨_, rfl⟩) pa_nil)))))),
      (ls_ret (le_call (la_cons le_var (la_cons le_int (la_cons le_int la_nil))))), fun ds Qd Ed hl h => ?_⟩
  obtain ⟨v, rfl, h1, h2⟩ := h
  simp [dOf, dVar, dC, dOp, dUn, dNil, dCons, pys, dTup, oLst, dCB, oCB, dCall, dCall0, dCallR, fAdd, oOp, fCat, fInt, fIntC, fNeg, fEq, isNonD, fIsN, fIn, fIx, dTest, dAnd, dOr, dNot, dAndV, dOrV, dNotV, dIfE, dChain, dFld, dNext, dSeq, dRet, dRetN, dDrop, dIfS, dBreak, dCont, dSet, dSetO, setAll, dSetT, dPar, itSeq, itRange1, itRange2, itEnum, Tg.put, Tg.ix, dFor, wipeL, dYes, oLc, dAppend, dPutIx, dFreeze, unown, hasOwn, noLD, okL, dSnap, dSnapT, dRaise, startD, dNoPart, dPart, dSl, oSl, fLen, fInt1, fAbs, fInt2, fDivmod, fTuple, fList, fSorted, oSortedSet, fRepr, fAll, fSum, isIntD, isBoolD, isStrD, isTupD, isSeqD, fIsT, dIsLT, dAug, dPutF, dFldI, dMake, startI, putD, dTupRev, dNewBox, dBoxPut, fRep, fEqS, oListRg, dPair, dWork, dSetA, fTimes, fIsOwn, fEqOwn, oSetC, dExtend, dPairO, oSnap, oSetJ, fInT, oSortedSetB, dMakeK, nNeedLengthN, List.map, List.cons_append, List.nil_append, List.append_eq, List.getElem?_cons_zero, List.getElem?_cons_succ, List.set_cons_zero, List.set_cons_succ, List.lookup_cons, List.lookup_nil]
  exact ⟨v, _, _, rfl, h1, h2⟩

def nNeedMarksN : List Str := ["value"]
theorem scNeedMarks : FnScope nNeedMarksN ["value"] (defScope sNeedMarks) := ⟨rfl, rfl, rfl, by decide +kernel, rfl, by decide +kernel, by decide +kernel⟩
theorem ok_need_marks {f : Addr} {fd : FuncData} (F : Fun S.K "_need_marks" "_need_marks" sNeedMarks f fd) {tt : Tok} (gM : mg "MOST_MARKS" = some (.int 8 tt)) (Gnn : Has P w S.K mg base (L2.CX P w) 3 "need_number" ["value", "least", "greatest"] (spD S 3 (spNeedNumber CF))) : FnOk P w S.K mg base (L2.CX P w) 4 f fd ["value"] (spD S 1 (spNeed CF 1 8)) := by
  have nd : nNeedMarksN.Nodup := scNeedMarks.nd
  refine okDX (N := nNeedMarksN) (k := 3) F scNeedMarks (hb := fun cdv A outer s H E hr => ?_)
  have hu2 : (A.deeper (envOfC "_need_marks" (defScope sNeedMarks) s.heap.objs.size f cdv)).units + 200 < cLine := by have := hr.un; omega
  have hu65 : (A.deeper (envOfC "_need_marks" (defScope sNeedMarks) s.heap.objs.size f cdv)).units + 65 < cLine := by omega
  have tk : Takes (cxOf (L2.CX P w) P w S.K mg base nNeedMarksN "_need_marks" (defScope sNeedMarks) f cdv A outer s H E) (fun cls d _ H => E cls d H) := takes_of rfl rfl rfl rfl
  refine ⟨_, _, (pss_one (ps_ret (pe_hasX (E := E) Gnn (hr.mono (by decide)) tk (fun _ _ _ _ z => z) (by rfl) (pa_cons (pv 0) (pa_cons pe_int (pa_cons (pe_glob (v := .int 8) rfl gM ⟨_, rfl⟩) pa_nil)))))),
      (ls_ret (le_call (la_cons le_var (la_cons le_int (la_cons le_int la_nil))))), fun ds Qd Ed hl h => ?_⟩
  obtain ⟨v, rfl, h1, h2⟩ := h
  simp [dOf, dVar, dC, dOp, dUn, dNil, dCons, pys, dTup, oLst, dCB, oCB, dCall, dCall0, dCallR, fAdd, oOp, fCat, fInt, fIntC, fNeg, fEq, isNonD, fIsN, fIn, fIx, dTest, dAnd, dOr, dNot, dAndV, dOrV, dNotV, dIfE, dChain, dFld, dNext, dSeq, dRet, dRetN, dDrop, dIfS, dBreak, dCont, dSet, dSetO, setAll, dSetT, dPar, itSeq, itRange1, itRange2, itEnum, Tg.put, Tg.ix, dFor, wipeL, dYes, oLc, dAppend, dPutIx, dFreeze, unown, hasOwn, noLD, okL, dSnap, dSnapT, dRaise, startD, dNoPart, dPart, dSl, oSl, fLen, fInt1, fAbs, fInt2, fDivmod, fTuple, fList, fSorted, oSortedSet, fRepr, fAll, fSum, isIntD, isBoolD, isStrD, isTupD, isSeqD, fIsT, dIsLT, dAug, dPutF, dFldI, dMake, startI, putD, dTupRev, dNewBox, dBoxPut, fRep, fEqS, oListRg, dPair, dWork, dSetA, fTimes, fIsOwn, fEqOwn, oSetC, dExtend, dPairO, oSnap, oSetJ, fInT, oSortedSetB, dMakeK, nNeedMarksN, List.map, List.cons_append, List.nil_append, List.append_eq, List.getElem?_cons_zero, List.getElem?_cons_succ, List.set_cons_zero, List.set_cons_succ, List.lookup_cons, List.lookup_nil]
  exact ⟨v, _, _, rfl, h1, h2⟩

def nNeedSizeN : List Str := ["value"]
theorem scNeedSize : FnScope nNeedSizeN ["value"] (defScope sNeedSize) := ⟨rfl, rfl, rfl, by decide +kernel, rfl, by decide +kernel, by decide +kernel⟩
theorem ok_need_size {f : Addr} {fd : FuncData} (F : Fun S.K "_need_size" "_need_size" sNeedSize f fd) (Gno : HasD P w S.K mg base (L2.CX P w) 3 "need_number" ["value", "least", "greatest"] [.non] (spD S 3 (spNeedLeast CF))) : FnOk P w S.K mg base (L2.CX P w) 4 f fd ["value"] (spD S 1 (spNeedSize CF)) := by
  have nd : nNeedSizeN.Nodup := scNeedSize.nd
  refine okDX (N := nNeedSizeN) (k := 3) F scNeedSize (hb := fun cdv A outer s H E hr => ?_)
  have hu2 : (A.deeper (envOfC "_need_size" (defScope sNeedSize) s.heap.objs.size f cdv)).units + 200 < cLine := by have := hr.un; omega
  have hu65 : (A.deeper (envOfC "_need_size" (defScope sNeedSize) s.heap.objs.size f cdv)).units + 65 < cLine := by omega
  have tk : Takes (cxOf (L2.CX P w) P w S.K mg base nNeedSizeN "_need_size" (defScope sNeedSize) f cdv A outer s H E) (fun cls d _ H => E cls d H) := takes_of rfl rfl rfl rfl
  refine ⟨_, _, (pss_one (ps_ret (pe_hasD (E := E) Gno (hr.mono (by decide)) (passes_call tk (fun _ _ _ _ z => z)) (by rfl) (pa_cons (pv 0) (pa_cons pe_int pa_nil))))),
      (ls_ret (le_callDX (dvs := [.non]) (dds := [.non]) (fun _ => .cons (.py .non) .nil) (la_cons le_var (la_cons le_int la_nil)))), fun ds Qd Ed hl h => ?_⟩
  obtain ⟨v, rfl, h1, h2⟩ := h
  simp [dOf, dVar, dC, dOp, dUn, dNil, dCons, pys, dTup, oLst, dCB, oCB, dCall, dCall0, dCallR, fAdd, oOp, fCat, fInt, fIntC, fNeg, fEq, isNonD, fIsN, fIn, fIx, dTest, dAnd, dOr, dNot, dAndV, dOrV, dNotV, dIfE, dChain, dFld, dNext, dSeq, dRet, dRetN, dDrop, dIfS, dBreak, dCont, dSet, dSetO, setAll, dSetT, dPar, itSeq, itRange1, itRange2, itEnum, Tg.put, Tg.ix, dFor, wipeL, dYes, oLc, dAppend, dPutIx, dFreeze, unown, hasOwn, noLD, okL, dSnap, dSnapT, dRaise, startD, dNoPart, dPart, dSl, oSl, fLen, fInt1, fAbs, fInt2, fDivmod, fTuple, fList, fSorted, oSortedSet, fRepr, fAll, fSum, isIntD, isBoolD, isStrD, isTupD, isSeqD, fIsT, dIsLT, dAug, dPutF, dFldI, dMake, startI, putD, dTupRev, dNewBox, dBoxPut, fRep, fEqS, oListRg, dPair, dWork, dSetA, fTimes, fIsOwn, fEqOwn, oSetC, dExtend, dPairO, oSnap, oSetJ, fInT, oSortedSetB, dMakeK, nNeedSizeN, List.map, List.cons_append, List.nil_append, List.append_eq, List.getElem?_cons_zero, List.getElem?_cons_succ, List.set_cons_zero, List.set_cons_succ, List.lookup_cons, List.lookup_nil]
  trace_state
  exact ⟨v, _, rfl, h1, h2⟩

end
end Pg

set_option Elab.async false
set_option linter.all false
set_option maxRecDepth 100000
set_option maxHeartbeats 4000000
namespace Pg
open PySem PySem.Spec PyProof.Rows L2 Lx Dl
section
variable {P : Program} {w : World} {mg : Str → Option Value} {base : Heap} {S : Sx}
variable {CF : Addr}
def spPower : SpD := fun ds Q _ => ∃ b n : Nat, ds = [.int (b : Nat), .int (n : Nat)] ∧ b ≤ 1000 ∧ n ≤ 1000 ∧ Q (.int ((b ^ n : Nat) : Int))
def nPowerN : List Str := ["base", "many", "product", "_"]
theorem scPower : FnScope nPowerN ["base", "many"] (defScope sPower) := ⟨rfl, rfl, rfl, by decide +kernel, rfl, by decide +kernel, by decide +kernel⟩
theorem ok_power {f : Addr} {fd : FuncData} (F : Fun S.K "power" "power" sPower f fd) (B : Bare mg) : FnOk P w S.K mg base L2.CX0 1 f fd ["base", "many"] (spD S 2 spPower) := by
  have nd : nPowerN.Nodup := scPower.nd
  refine okD0 (N := nPowerN) (k := 0) F scPower (hb := fun cdv A outer s H E hr => ?_)
  have hu2 : (A.deeper (envOfC "power" (defScope sPower) s.heap.objs.size f cdv)).units + 200 < cLine := by have := hr.un; omega
  have hu65 : (A.deeper (envOfC "power" (defScope sPower) s.heap.objs.size f cdv)).units + 65 < cLine := by omega
  refine ⟨_, _, (pss_cons (ps_set (i := 2) nd rfl (Or.inl rfl) pe_int)
      (pss_cons (ps_for PassesOwn.never rfl (pi_range1 (by rfl) B.range (pa_cons (pv 1) pa_nil)) (pg_name (i := 3) nd rfl (Or.inl rfl))
      (pss_one (ps_set (i := 2) nd rfl (Or.inl rfl) (pe_op op_mul (pv 2) (pv 0)))))
      (pss_one (ps_ret (pv 2))))),
      (ls_seq (ls_set (i := 2) le_int)
      (ls_seq (ls_for (g := .one 3) (li_range1 (la_cons le_var la_nil))
      (ls_set (i := 2) (le_op l2_intC le_var le_var)))
      (ls_ret le_var))), fun ds Qd Ed hl h => ?_⟩
  obtain ⟨b, n, rfl, hb, hn, h⟩ := h
  simp [dOf, dVar, dC, dOp, dUn, dNil, dCons, pys, dTup, oLst, dCB, oCB, dCall, dCall0, dCallR, fAdd, oOp, fCat, fInt, fIntC, fNeg, fEq, isNonD, fIsN, fIn, fIx, dTest, dAnd, dOr, dNot, dAndV, dOrV, dNotV, dIfE, dChain, dFld, dNext, dSeq, dRet, dRetN, dDrop, dIfS, dBreak, dCont, dSet, dSetO, setAll, dSetT, dPar, itSeq, itRange1, itRange2, itEnum, Tg.put, Tg.ix, dFor, wipeL, dYes, oLc, dAppend, dPutIx, dFreeze, unown, hasOwn, noLD, okL, dSnap, dSnapT, dRaise, startD, dNoPart, dPart, dSl, oSl, fLen, fInt1, fAbs, fInt2, fDivmod, fTuple, fList, fSorted, oSortedSet, fRepr, fAll, fSum, isIntD, isBoolD, isStrD, isTupD, isSeqD, fIsT, dIsLT, dAug, dPutF, dFldI, dMake, startI, putD, dTupRev, dNewBox, dBoxPut, fRep, fEqS, oListRg, dPair, dWork, dSetA, fTimes, fIsOwn, fEqOwn, oSetC, dExtend, dPairO, oSnap, oSetJ, fInT, oSortedSetB, dMakeK, nPowerN, List.map, List.cons_append, List.nil_append, List.append_eq, List.getElem?_cons_zero, List.getElem?_cons_succ, List.set_cons_zero, List.set_cons_succ, List.lookup_cons, List.lookup_nil, rgOk]
  refine ⟨by omega, ?_⟩
  rw [rangeD_R]
  refine loop_ind (fun ds ρ => ∃ (lo : Int) (k : Nat) (y : Option SV), ds = rangeR lo k ∧ k ≤ n ∧ ρ = [some (.dv (.int (b : Nat))), some (.dv (.int (n : Nat))), some (.dv (.int ((b ^ (n - k) : Nat) : Int))), y]) ?_ ?_ _ _ ⟨0, n, none, rfl, Nat.le_refl _, by simp⟩
  · rintro ρ ⟨lo, k, y, e, hk, rfl⟩
    cases k with
    | succ k => cases e
    | zero => simpa [dOf, dVar, dC, dOp, dUn, dNil, dCons, pys, dTup, oLst, dCB, oCB, dCall, dCall0, dCallR, fAdd, oOp, fCat, fInt, fIntC, fNeg, fEq, isNonD, fIsN, fIn, fIx, dTest, dAnd, dOr, dNot, dAndV, dOrV, dNotV, dIfE, dChain, dFld, dNext, dSeq, dRet, dRetN, dDrop, dIfS, dBreak, dCont, dSet, dSetO, setAll, dSetT, dPar, itSeq, itRange1, itRange2, itEnum, Tg.put, Tg.ix, dFor, wipeL, dYes, oLc, dAppend, dPutIx, dFreeze, unown, hasOwn, noLD, okL, dSnap, dSnapT, dRaise, startD, dNoPart, dPart, dSl, oSl, fLen, fInt1, fAbs, fInt2, fDivmod, fTuple, fList, fSorted, oSortedSet, fRepr, fAll, fSum, isIntD, isBoolD, isStrD, isTupD, isSeqD, fIsT, dIsLT, dAug, dPutF, dFldI, dMake, startI, putD, dTupRev, dNewBox, dBoxPut, fRep, fEqS, oListRg, dPair, dWork, dSetA, fTimes, fIsOwn, fEqOwn, oSetC, dExtend, dPairO, oSnap, oSetJ, fInT, oSortedSetB, dMakeK, List.map, List.cons_append, List.nil_append, List.append_eq, List.getElem?_cons_zero, List.getElem?_cons_succ, List.set_cons_zero, List.set_cons_succ, List.lookup_cons, List.lookup_nil] using h
  · rintro d ds ρ K hK ⟨lo, k, y, e, hk, rfl⟩
    cases k with
    | zero => cases e
    | succ k =>
      cases e
      simp [dOf, dVar, dC, dOp, dUn, dNil, dCons, pys, dTup, oLst, dCB, oCB, dCall, dCall0, dCallR, fAdd, oOp, fCat, fInt, fIntC, fNeg, fEq, isNonD, fIsN, fIn, fIx, dTest, dAnd, dOr, dNot, dAndV, dOrV, dNotV, dIfE, dChain, dFld, dNext, dSeq, dRet, dRetN, dDrop, dIfS, dBreak, dCont, dSet, dSetO, setAll, dSetT, dPar, itSeq, itRange1, itRange2, itEnum, Tg.put, Tg.ix, dFor, wipeL, dYes, oLc, dAppend, dPutIx, dFreeze, unown, hasOwn, noLD, okL, dSnap, dSnapT, dRaise, startD, dNoPart, dPart, dSl, oSl, fLen, fInt1, fAbs, fInt2, fDivmod, fTuple, fList, fSorted, oSortedSet, fRepr, fAll, fSum, isIntD, isBoolD, isStrD, isTupD, isSeqD, fIsT, dIsLT, dAug, dPutF, dFldI, dMake, startI, putD, dTupRev, dNewBox, dBoxPut, fRep, fEqS, oListRg, dPair, dWork, dSetA, fTimes, fIsOwn, fEqOwn, oSetC, dExtend, dPairO, oSnap, oSetJ, fInT, oSortedSetB, dMakeK, List.map, List.cons_append, List.nil_append, List.append_eq, List.getElem?_cons_zero, List.getElem?_cons_succ, List.set_cons_zero, List.set_cons_succ, List.lookup_cons, List.lookup_nil, CMul]
      refine ⟨.inr (by omega), hK _ ⟨lo + 1, k, some (.dv (.py (.int lo))), rfl, by omega, ?_⟩⟩
      have e : n - k = n - (k + 1) + 1 := by omega
      rw [e, Nat.pow_succ]
      simp

theorem numD_some {v : PyData} {lo hi : Int} (h : numD v lo (some hi) = true) : ∃ i, v = .int i ∧ lo ≤ i ∧ i ≤ hi := by
  cases v with
  | int i =>
    simp only [numD, Bool.and_eq_true, decide_eq_true_eq] at h
    exact ⟨i, rfl, h.1, h.2⟩
  | _ => exact Bool.noConfusion h
theorem numD_none {v : PyData} {lo : Int} (h : numD v lo none = true) : ∃ i, v = .int i ∧ lo ≤ i := by
  cases v with
  | int i =>
    simp only [numD, Bool.and_true, decide_eq_true_eq] at h
    exact ⟨i, rfl, h⟩
  | _ => exact Bool.noConfusion h
theorem nat_of {i : Int} {lo : Nat} (h : (lo : Int) ≤ i) : ∃ n : Nat, i = (n : Int) := ⟨i.toNat, by omega⟩
/-- marks ^ length, both seen to -/
def spGreatest (CF : Addr) : SpD := fun ds Q Ed => ∃ v u, ds = [.py v, .py u] ∧ (numD v 1 (some 8) = false → Ed ⟨CF, "at", .py v⟩) ∧ (numD v 1 (some 8) = true → (numD u 0 (some 12) = false → Ed ⟨CF, "at", .py u⟩) ∧ ∀ mk l : Nat, v = .int (mk : Nat) → u = .int (l : Nat) → 1 ≤ mk → mk ≤ 8 → l ≤ 12 → Q (.int ((mk ^ l : Nat) : Int)))
def nGreatestRingN : List Str := ["marks", "length"]
theorem scGreatestRing : FnScope nGreatestRingN ["marks", "length"] (defScope sGreatestRing) := ⟨rfl, rfl, rfl, by decide +kernel, rfl, by decide +kernel, by decide +kernel⟩
theorem ok_greatest_ring {f : Addr} {fd : FuncData} (F : Fun S.K "greatest_ring" "greatest_ring" sGreatestRing f fd) (Gpw : Has P w S.K mg base L2.CX0 1 "power" ["base", "many"] (spD S 2 spPower)) (Gnl : Has P w S.K mg base (L2.CX P w) 4 "need_length" ["value"] (spD S 1 (spNeed CF 0 12))) (Gnm : Has P w S.K mg base (L2.CX P w) 4 "_need_marks" ["value"] (spD S 1 (spNeed CF 1 8))) : FnOk P w S.K mg base (L2.CX P w) 5 f fd ["marks", "length"] (spD S 2 (spGreatest CF)) := by
  have nd : nGreatestRingN.Nodup := scGreatestRing.nd
  refine okDX (N := nGreatestRingN) (k := 4) F scGreatestRing (hb := fun cdv A outer s H E hr => ?_)
  have hu2 : (A.deeper (envOfC "greatest_ring" (defScope sGreatestRing) s.heap.objs.size f cdv)).units + 200 < cLine := by have := hr.un; omega
  have hu65 : (A.deeper (envOfC "greatest_ring" (defScope sGreatestRing) s.heap.objs.size f cdv)).units + 65 < cLine := by omega
  have tk : Takes (cxOf (L2.CX P w) P w S.K mg base nGreatestRingN "greatest_ring" (defScope sGreatestRing) f cdv A outer s H E) (fun cls d _ H => E cls d H) := takes_of rfl rfl rfl rfl
  refine ⟨_, _, (pss_one (ps_ret (pe_has Gpw (hr.mono (by decide)) (by rfl) (pa_cons (pe_hasX (E := E) Gnm (hr.mono (by decide)) tk (fun _ _ _ _ z => z) (by rfl) (pa_cons (pv 0) pa_nil)) (pa_cons (pe_hasX (E := E) Gnl (hr.mono (by decide)) tk (fun _ _ _ _ z => z) (by rfl) (pa_cons (pv 1) pa_nil)) pa_nil))))),
      (ls_ret (le_call0 (la_cons (le_call (la_cons le_var la_nil)) (la_cons (le_call (la_cons le_var la_nil)) la_nil)))), fun ds Qd Ed hl h => ?_⟩
  obtain ⟨v, u, rfl, h1, h2⟩ := h
  simp only [dOf, dVar, dC, dOp, dUn, dNil, dCons, pys, dTup, oLst, dCB, oCB, dCall, dCall0, dCallR, fAdd, oOp, fCat, fInt, fIntC, fNeg, fEq, isNonD, fIsN, fIn, fIx, dTest, dAnd, dOr, dNot, dAndV, dOrV, dNotV, dIfE, dChain, dFld, dNext, dSeq, dRet, dRetN, dDrop, dIfS, dBreak, dCont, dSet, dSetO, setAll, dSetT, dPar, itSeq, itRange1, itRange2, itEnum, Tg.put, Tg.ix, dFor, wipeL, dYes, oLc, dAppend, dPutIx, dFreeze, unown, hasOwn, noLD, okL, dSnap, dSnapT, dRaise, startD, dNoPart, dPart, dSl, oSl, fLen, fInt1, fAbs, fInt2, fDivmod, fTuple, fList, fSorted, oSortedSet, fRepr, fAll, fSum, isIntD, isBoolD, isStrD, isTupD, isSeqD, fIsT, dIsLT, dAug, dPutF, dFldI, dMake, startI, putD, dTupRev, dNewBox, dBoxPut, fRep, fEqS, oListRg, dPair, dWork, dSetA, fTimes, fIsOwn, fEqOwn, oSetC, dExtend, dPairO, oSnap, oSetJ, fInT, oSortedSetB, dMakeK, nGreatestRingN, List.map, List.cons_append, List.nil_append, List.append_eq, List.getElem?_cons_zero, List.getElem?_cons_succ, List.set_cons_zero, List.set_cons_succ, List.lookup_cons, List.lookup_nil]
  refine ⟨v, rfl, fun hv => ?_, h1⟩
  refine ⟨u, rfl, fun hu => ?_, (h2 hv).1⟩
  obtain ⟨i, rfl, i1, i8⟩ := numD_some hv
  obtain ⟨j, rfl, j0, j12⟩ := numD_some hu
  obtain ⟨mk, rfl⟩ := nat_of (lo := 1) i1
  obtain ⟨l, rfl⟩ := nat_of (lo := 0) j0
  exact ⟨mk, l, rfl, by omega, by omega, (h2 hv).2 mk l rfl rfl (by omega) (by omega) (by omega)⟩

/-- the first of them, or None -/
def foundD : Option Nat → PyData
  | some n => .int (n : Nat)
  | none => .none
def leastM (l : Nat) (s : Int) : Option Nat := (List.range' 1 8).find? fun mk => decide (s ≤ ((mk ^ l : Nat) : Int))
def leastS (mk : Nat) (s : Int) : Option Nat := (List.range' 0 13).find? fun l => decide (s ≤ ((mk ^ l : Nat) : Int))
def spLeastMarks (CF : Addr) : SpD := fun ds Q Ed => ∃ v u, ds = [.py v, .py u] ∧ (numD v 0 (some 12) = false → Ed ⟨CF, "at", .py v⟩) ∧ (numD v 0 (some 12) = true → (numD u 1 none = false → Ed ⟨CF, "at", .py u⟩) ∧ ∀ (l : Nat) (s : Int), v = .int (l : Nat) → u = .int s → l ≤ 12 → 1 ≤ s → Q (.py (foundD (leastM l s))))
def spLeastStretch (CF : Addr) : SpD := fun ds Q Ed => ∃ v u, ds = [.py v, .py u] ∧ (numD v 1 (some 8) = false → Ed ⟨CF, "at", .py v⟩) ∧ (numD v 1 (some 8) = true → (numD u 1 none = false → Ed ⟨CF, "at", .py u⟩) ∧ ∀ (mk : Nat) (s : Int), v = .int (mk : Nat) → u = .int s → 1 ≤ mk → mk ≤ 8 → 1 ≤ s → Q (.py (foundD (leastS mk s))))
def nLeastStretchN : List Str := ["marks", "size", "length"]
theorem scLeastStretch : FnScope nLeastStretchN ["marks", "size"] (defScope sLeastStretch) := ⟨rfl, rfl, rfl, by decide +kernel, rfl, by decide +kernel, by decide +kernel⟩
theorem ok_least_stretch {f : Addr} {fd : FuncData} (F : Fun S.K "least_stretch" "least_stretch" sLeastStretch f fd) {tt : Tok} (B : Bare mg) (gP : mg "LONGEST_PAGE" = some (.int 12 tt)) (Gpw : Has P w S.K mg base L2.CX0 1 "power" ["base", "many"] (spD S 2 spPower)) (Gnm : Has P w S.K mg base (L2.CX P w) 4 "_need_marks" ["value"] (spD S 1 (spNeed CF 1 8))) (Gns : Has P w S.K mg base (L2.CX P w) 4 "_need_size" ["value"] (spD S 1 (spNeedSize CF))) : FnOk P w S.K mg base (L2.CX P w) 5 f fd ["marks", "size"] (spD S 2 (spLeastStretch CF)) := by
  have nd : nLeastStretchN.Nodup := scLeastStretch.nd
  refine okDX (N := nLeastStretchN) (k := 4) F scLeastStretch (hb := fun cdv A outer s H E hr => ?_)
  have hu2 : (A.deeper (envOfC "least_stretch" (defScope sLeastStretch) s.heap.objs.size f cdv)).units + 200 < cLine := by have := hr.un; omega
  have hu65 : (A.deeper (envOfC "least_stretch" (defScope sLeastStretch) s.heap.objs.size f cdv)).units + 65 < cLine := by omega
  have tk : Takes (cxOf (L2.CX P w) P w S.K mg base nLeastStretchN "least_stretch" (defScope sLeastStretch) f cdv A outer s H E) (fun cls d _ H => E cls d H) := takes_of rfl rfl rfl rfl
  refine ⟨_, _, (pss_cons (ps_expr (pe_hasX (E := E) Gnm (hr.mono (by decide)) tk (fun _ _ _ _ z => z) (by rfl) (pa_cons (pv 0) pa_nil)))
      (pss_cons (ps_expr (pe_hasX (E := E) Gns (hr.mono (by decide)) tk (fun _ _ _ _ z => z) (by rfl) (pa_cons (pv 1) pa_nil)))
      (pss_cons (ps_for (passes_of rfl) rfl (pi_range1 (by rfl) B.range (pa_cons (pe_op op_addA (pe_glob (v := .int 12) rfl gP ⟨_, rfl⟩) pe_int) pa_nil)) (pg_name (i := 2) nd rfl (Or.inl rfl))
      (pss_one (ps_if (pt_cmpR op_ge (pe_has Gpw (hr.mono (by decide)) (by rfl) (pa_cons (pv 0) (pa_cons (pv 2) pa_nil))) (pv 1) (nomark _)) (pss_one (ps_ret (pv 2))) pss_nil)))
      (pss_one (ps_ret pe_non))))),
      (ls_seq (ls_drop (le_call (la_cons le_var la_nil)))
      (ls_seq (ls_drop (le_call (la_cons le_var la_nil)))
      (ls_seq (ls_for (g := .one 2) (li_range1 (la_cons (le_op l2_add le_int le_int) la_nil))
      (ls_if (lt_test (le_op l2_cmp (le_call0 (la_cons le_var (la_cons le_var la_nil))) le_var)) (ls_ret le_var) ls_next))
      (ls_ret le_non)))), fun ds Qd Ed hl h => ?_⟩
  obtain ⟨v, u, rfl, h1, h2⟩ := h
  simp only [dOf, dVar, dC, dOp, dUn, dNil, dCons, pys, dTup, oLst, dCB, oCB, dCall, dCall0, dCallR, fAdd, oOp, fCat, fInt, fIntC, fNeg, fEq, isNonD, fIsN, fIn, fIx, dTest, dAnd, dOr, dNot, dAndV, dOrV, dNotV, dIfE, dChain, dFld, dNext, dSeq, dRet, dRetN, dDrop, dIfS, dBreak, dCont, dSet, dSetO, setAll, dSetT, dPar, itSeq, itRange1, itRange2, itEnum, Tg.put, Tg.ix, dFor, wipeL, dYes, oLc, dAppend, dPutIx, dFreeze, unown, hasOwn, noLD, okL, dSnap, dSnapT, dRaise, startD, dNoPart, dPart, dSl, oSl, fLen, fInt1, fAbs, fInt2, fDivmod, fTuple, fList, fSorted, oSortedSet, fRepr, fAll, fSum, isIntD, isBoolD, isStrD, isTupD, isSeqD, fIsT, dIsLT, dAug, dPutF, dFldI, dMake, startI, putD, dTupRev, dNewBox, dBoxPut, fRep, fEqS, oListRg, dPair, dWork, dSetA, fTimes, fIsOwn, fEqOwn, oSetC, dExtend, dPairO, oSnap, oSetJ, fInT, oSortedSetB, dMakeK, nLeastStretchN, List.map, List.cons_append, List.nil_append, List.append_eq, List.getElem?_cons_zero, List.getElem?_cons_succ, List.set_cons_zero, List.set_cons_succ, List.lookup_cons, List.lookup_nil]
  refine ⟨v, rfl, fun hv => ?_, h1⟩
  refine ⟨u, rfl, fun hu => ?_, (h2 hv).1⟩
  obtain ⟨j, rfl, j0, j1⟩ := numD_some hv
  obtain ⟨s, rfl, i1⟩ := numD_none hu
  obtain ⟨mk, rfl⟩ := nat_of (lo := 1) j0
  refine ⟨⟨by decide, by decide⟩, ?_⟩
  rw [rangeD_R]
  refine loop_ind (fun ds ρ => ∃ (lo k : Nat) (y : Option SV), ds = rangeR (lo : Int) k ∧ lo + k = 13 ∧ Qd (.py (foundD ((List.range' lo k).find? fun x => decide (s ≤ ((mk ^ x : Nat) : Int))))) ∧ ρ = [some (.dv (.int (mk : Nat))), some (.dv (.int s)), y]) ?_ ?_ _ _ ⟨0, 13, none, rfl, rfl, (h2 hv).2 mk s rfl rfl (by omega) (by omega) i1, rfl⟩
  · rintro ρ ⟨lo, k, y, e, hk, q, rfl⟩
    cases k with
    | succ k => cases e
    | zero =>
      simp only [dOf, dVar, dC, dOp, dUn, dNil, dCons, pys, dTup, oLst, dCB, oCB, dCall, dCall0, dCallR, fAdd, oOp, fCat, fInt, fIntC, fNeg, fEq, isNonD, fIsN, fIn, fIx, dTest, dAnd, dOr, dNot, dAndV, dOrV, dNotV, dIfE, dChain, dFld, dNext, dSeq, dRet, dRetN, dDrop, dIfS, dBreak, dCont, dSet, dSetO, setAll, dSetT, dPar, itSeq, itRange1, itRange2, itEnum, Tg.put, Tg.ix, dFor, wipeL, dYes, oLc, dAppend, dPutIx, dFreeze, unown, hasOwn, noLD, okL, dSnap, dSnapT, dRaise, startD, dNoPart, dPart, dSl, oSl, fLen, fInt1, fAbs, fInt2, fDivmod, fTuple, fList, fSorted, oSortedSet, fRepr, fAll, fSum, isIntD, isBoolD, isStrD, isTupD, isSeqD, fIsT, dIsLT, dAug, dPutF, dFldI, dMake, startI, putD, dTupRev, dNewBox, dBoxPut, fRep, fEqS, oListRg, dPair, dWork, dSetA, fTimes, fIsOwn, fEqOwn, oSetC, dExtend, dPairO, oSnap, oSetJ, fInT, oSortedSetB, dMakeK, List.map, List.cons_append, List.nil_append, List.append_eq, List.getElem?_cons_zero, List.getElem?_cons_succ, List.set_cons_zero, List.set_cons_succ, List.lookup_cons, List.lookup_nil]
      exact q
  · rintro d ds ρ K hK ⟨lo, k, y, e, hk, q, rfl⟩
    cases k with
    | zero => cases e
    | succ k =>
      cases e
      simp only [dOf, dVar, dC, dOp, dUn, dNil, dCons, pys, dTup, oLst, dCB, oCB, dCall, dCall0, dCallR, fAdd, oOp, fCat, fInt, fIntC, fNeg, fEq, isNonD, fIsN, fIn, fIx, dTest, dAnd, dOr, dNot, dAndV, dOrV, dNotV, dIfE, dChain, dFld, dNext, dSeq, dRet, dRetN, dDrop, dIfS, dBreak, dCont, dSet, dSetO, setAll, dSetT, dPar, itSeq, itRange1, itRange2, itEnum, Tg.put, Tg.ix, dFor, wipeL, dYes, oLc, dAppend, dPutIx, dFreeze, unown, hasOwn, noLD, okL, dSnap, dSnapT, dRaise, startD, dNoPart, dPart, dSl, oSl, fLen, fInt1, fAbs, fInt2, fDivmod, fTuple, fList, fSorted, oSortedSet, fRepr, fAll, fSum, isIntD, isBoolD, isStrD, isTupD, isSeqD, fIsT, dIsLT, dAug, dPutF, dFldI, dMake, startI, putD, dTupRev, dNewBox, dBoxPut, fRep, fEqS, oListRg, dPair, dWork, dSetA, fTimes, fIsOwn, fEqOwn, oSetC, dExtend, dPairO, oSnap, oSetJ, fInT, oSortedSetB, dMakeK, List.map, List.cons_append, List.nil_append, List.append_eq, List.getElem?_cons_zero, List.getElem?_cons_succ, List.set_cons_zero, List.set_cons_succ, List.lookup_cons, List.lookup_nil]
      refine ⟨mk, lo, rfl, by omega, by omega, ?_⟩
      rw [List.range'_succ, List.find?_cons] at q
      show (if decide (s ≤ ((mk ^ lo : Nat) : Int)) = true then _ else _)
      by_cases c : s ≤ ((mk ^ lo : Nat) : Int)
      · rw [if_pos (decide_eq_true c)]
        rw [decide_eq_true c] at q
        exact q
      · rw [if_neg (by rw [decide_eq_true_eq]; exact c)]
        rw [decide_eq_false c] at q
        exact hK _ ⟨lo + 1, k, _, rfl, by omega, q, rfl⟩

end
end Pg

set_option Elab.async false
set_option linter.all false
set_option maxRecDepth 100000
set_option maxHeartbeats 4000000
/-! del d[k] where the keys are tuples -/
namespace Lx
open PySem PySem.Spec PyProof.Rows L2
/-- del d[k], k there -/
def sDelT (td ty : TE) : TS := fun D σ H => td σ H fun x H1 => ty σ H1 fun y H2 => ∃ (a b : Addr) (kvs : List (List L2.Key × V)) (k : List L2.Key), x = .ref a ∧ y = .ref b ∧ H2 a = some (.dT kvs) ∧ H2 b = some (.tup (k.map kV)) ∧ (valV kvs k).isSome = true ∧ D.nx σ (upd H2 a (.dT (dropK kvs k)))
theorem ps_ddelT {X : Cx} {o i : Expr} {pos tpos : Pos} {td ty : TE} (hu : X.A.units + 1 < cLine) (ho : PE X o td) (hi : PE X i ty) : PS X (.Delete [.Subscript o i tpos] pos) (sDelT td ty) := by
  refine ⟨fun pins s σ H D I h => ?_⟩
  refine wpAny_Delete (wpAny_deleteEach_cons (wpAny_delete_Subscript (thn (ho.run pins s σ H _ I h) fun u s1 r1 => ?_)))
  obtain ⟨x, H1, I1, rx, q1⟩ := r1
  refine thn (hi.run pins s1 σ H1 _ I1 q1) fun iv s2 r2 => ?_
  obtain ⟨y, H2, I2, ry, a, b, kvs, k, rfl, rfl, ha, hb, there, q2⟩ := r2
  cases rx
  cases ry
  obtain ⟨z, hd, xs, rel, dd⟩ := dt_of I2.hok ha
  have r := rel.val k
  obtain ⟨p, hp⟩ : ∃ p, atKey xs k = some p := by
    cases e : atKey xs k with
    | some p => exact ⟨p, rfl⟩
    | none =>
      cases ev : valV kvs k with
      | none =>
        rw [ev] at there
        cases there
      | some v0 =>
        rw [e, ev] at r
        exact (show False from r).elim
  refine wpAny_delItem_heap (tupleKind_room_in1 hu) (key_of I2.hok hb) hd dd hp (fun h' dd' hs => ?_) (by rw [← Paired.length rel]; exact z)
  obtain ⟨ob, es, ep, e1, e2, e3, e4, _, e5⟩ := dd'
  refine wpAny_deleteEach_nil ⟨σ, upd H2 a (.dT (dropK kvs k)), ?_, q2⟩
  refine d_write I2 (by rw [ha]; exact True.intro) hs ⟨ob, e1⟩ ⟨Nat.le_trans (dropK_le kvs k) z, hd, _, (L2.DX.KT_drop k rel).keeps fun c ys ec => ?_, ob, es, ep, e1, e2, e3, e4, e5⟩
  rw [upd_ne (ne_of ec ha (fun z => nomatch z))]
  exact ec
end Lx

set_option Elab.async false
set_option linter.all false
set_option maxRecDepth 100000
set_option maxHeartbeats 4000000
/-! rings found mark by mark -/
namespace Pg
open PySem PySem.Spec PyProof.Rows L2 Lx Dl
/-- the stretch of len marks that ends at place p, the ring gone round -/
def stretchL (r : List Int) (len p : Nat) : List Int := (List.range len).map fun i : Nat => r.getD (((p : Int) + 1 - (len : Int) + (i : Int)) % (r.length : Int)).toNat 0
/-- a mark below mk -/
def isMk (mk : Nat) (v : PyData) : Bool := numD v 0 (some ((mk : Int) - 1))
def ringInts (v : PyData) : List Int := (itemsD v).map fun x => match x with
  | .int i => i
  | _ => 0
/-- no stretch comes twice -/
def apartB (r : List Int) (len : Nat) : Bool := decide ((List.range r.length).map (stretchL r len)).Nodup
def isRingB (v : PyData) (mk len : Nat) : Bool := seqB v 1 10000 && (itemsD v).all (isMk mk) && apartB (ringInts v) len
/-- the ring that is found from row on, n marks more; told: the stretches that are met -/
def ringF (mk len : Nat) : Nat → List Int → List (List Int) → Option (List Int)
  | 0, row, _ => if apartB row len = true then some row else none
  | n + 1, row, told => (List.range mk).findSome? fun m : Nat => if (row ++ [(m : Int)]).drop (row.length + 1 - len) ∈ told then none else ringF mk len n (row ++ [(m : Int)]) (told ++ [(row ++ [(m : Int)]).drop (row.length + 1 - len)])
theorem ringInts_map {v : PyData} {l : List Int} (h : itemsD v = l.map .int) : ringInts v = l := by
  unfold ringInts
  rw [h, List.map_map]
  exact List.map_id _
theorem isMk_all {mk : Nat} {l : List Int} (h : ∀ x ∈ l, 0 ≤ x ∧ x < (mk : Int)) : (l.map PyData.int).all (isMk mk) = true := by
  rw [List.all_eq_true]
  intro d hd
  obtain ⟨x, hx, rfl⟩ := List.mem_map.mp hd
  have := h x hx
  show (decide ((0 : Int) ≤ x) && decide (x ≤ (mk : Int) - 1)) = true
  rw [Bool.and_eq_true]
  exact ⟨decide_eq_true (by omega), decide_eq_true (by omega)⟩
section
variable {P : Program} {w : World} {mg : Str → Option Value} {base : Heap} {S : Sx}
def spIsRing : SpD := fun ds Q _ => ∃ v, ∃ mk len : Nat, ds = [.py v, .int (mk : Nat), .int (len : Nat)] ∧ 1 ≤ mk ∧ mk ≤ 8 ∧ len ≤ 12 ∧ (itemsD v).length ≤ 64 ∧ Q (.bl (isRingB v mk len))
/-- all but d stays -/
def But (d : Addr) (H H' : Hp) : Prop := ∀ a o, a ≠ d → H a = some o → (∀ z, o ≠ .tbl z) → H' a = some o
theorem But.refl (d : Addr) (H : Hp) : But d H H := fun _ _ _ h _ => h
theorem But.trans {d : Addr} {H H1 H2 : Hp} (a : But d H H1) (b : But d H1 H2) : But d H H2 := fun x o n h t => b x o n (a x o n h t) t
def toldO (told : List (List Int)) : HO := .dT (told.map fun k => (k.map Sum.inl, V.bl true))
/-- one mark more -/
def ringStep (mk len n : Nat) (row : List Int) (told : List (List Int)) (m : Nat) : Option (List Int) := if (row ++ [(m : Int)]).drop (row.length + 1 - len) ∈ told then none else ringF mk len n (row ++ [(m : Int)]) (told ++ [(row ++ [(m : Int)]).drop (row.length + 1 - len)])
def spRing (S : Sx) (n : Nat) : Sp := fun vs H Q E => ∃ (r d : Addr) (row : List Int) (told : List (List Int)) (mk len : Nat), vs = [.ref r, .ref d, .int (mk : Nat), .int (len : Nat), .int ((row.length + n : Nat) : Int)] ∧ H r = some (.tup (row.map V.int)) ∧ H d = some (toldO told) ∧ LamX.Tabs S.Tb H ∧
  1 ≤ mk ∧ mk ≤ 8 ∧ 1 ≤ len ∧ len ≤ row.length ∧ len ≤ 12 ∧ row.length + n ≤ 64 ∧ told.length ≤ row.length ∧ (∀ x ∈ row, 0 ≤ x ∧ x < (mk : Int)) ∧
  (∀ (r' : Addr) (row' : List Int) (H' : Hp), ringF mk len n row told = some row' → H' r' = some (.tup (row'.map V.int)) → But d H H' → LamX.Tabs S.Tb H' → Q (.ref r') H') ∧
  (∀ H', ringF mk len n row told = none → But d H H' → H' d = some (toldO told) → LamX.Tabs S.Tb H' → Q .non H')
def spRec (S : Sx) : Nat → Sp
  | 0 => fun _ _ _ _ => False
  | n + 1 => spRing S n
theorem cutV_from (l : List V) (s : Nat) : cutV l (some (s : Int)) none = l.drop s := by
  unfold cutV
  rw [HT.sIx_nat, HT.sIx_none]
  rcases Nat.le_total s l.length with h | h
  · rw [Nat.min_eq_left h, List.take_of_length_le (by rw [List.length_drop]; exact Nat.le_refl _)]
  · rw [Nat.min_eq_right h, List.drop_of_length_le (Nat.le_refl _), List.drop_of_length_le h, List.take_nil]
theorem key_ints (l : List Int) : (l.map Sum.inl : List L2.Key).map kV = l.map V.int := by
  rw [List.map_map]
  rfl
theorem inl_inj {a b : List Int} (h : (a.map Sum.inl : List L2.Key) = b.map Sum.inl) : a = b := by
  have z := congrArg (List.map fun k : L2.Key => match k with | .inl i => i | .inr _ => 0) h
  rw [List.map_map, List.map_map] at z
  have e : ((fun k : L2.Key => match k with | .inl i => i | .inr _ => 0) ∘ Sum.inl) = (id : Int → Int) := rfl
  rw [e, List.map_id, List.map_id] at z
  exact z
theorem told_val (st : List Int) : ∀ told : List (List Int), valV (told.map fun k => ((k.map Sum.inl : List L2.Key), V.bl true)) (st.map Sum.inl) = if st ∈ told then some (.bl true) else none
  | [] => by simp [valV_nil]
  | k :: told => by
    rw [List.map_cons]
    by_cases c : k = st
    · subst c
      rw [valV_pos rfl, if_pos List.mem_cons_self]
    · rw [valV_neg (fun z => c (inl_inj z)), told_val st told]
      by_cases d : st ∈ told
      · rw [if_pos d, if_pos (List.mem_cons_of_mem _ d)]
      · rw [if_neg d, if_neg]
        intro z
        rcases List.mem_cons.mp z with z | z
        · exact c z.symm
        · exact d z
theorem told_drop {st : List Int} {told : List (List Int)} (h : st ∉ told) : dropK ((told ++ [st]).map fun k => ((k.map Sum.inl : List L2.Key), V.bl true)) (st.map Sum.inl) = told.map fun k => ((k.map Sum.inl : List L2.Key), V.bl true) := by
  unfold dropK
  rw [List.map_append, List.filter_append, List.filter_eq_self.mpr]
  · have e : ([st].map fun k => ((k.map Sum.inl : List L2.Key), V.bl true)).filter (fun kv => decide (kv.1 ≠ st.map Sum.inl)) = [] := by simp
    rw [e, List.append_nil]
  · intro x hx
    obtain ⟨k, hk, rfl⟩ := List.mem_map.mp hx
    exact decide_eq_true fun z => h (inl_inj z ▸ hk)
theorem iteT2 {c : Prop} [Decidable c] {a b : Prop} (h : c) (x : a) : if c then a else b := by rw [if_pos h]; exact x
theorem iteF2 {c : Prop} [Decidable c] {a b : Prop} (h : ¬ c) (x : b) : if c then a else b := by rw [if_neg h]; exact x
def nRing : List Str := ["row", "told", "marks", "length", "size", "mark", "longer", "stretch", "ring"]
theorem scRing : FnScope nRing ["row", "told", "marks", "length", "size"] (defScope sRingFrom) := ⟨rfl, rfl, rfl, by decide +kernel, rfl, by decide +kernel, by decide +kernel⟩
theorem ok_ring {f : Addr} {fd : FuncData} (F : Fun S.K "_ring_from" "_ring_from" sRingFrom f fd) (hm : mg "_ring_from" = some (.ref f)) (B : Bare mg) (Gir : Has P w S.K mg base L2.CX0 2 "_is_ring" ["value", "marks", "length"] (spD S 3 spIsRing)) :
    ∀ n, FnOk P w S.K mg base L2.CX0 (n + 3) f fd ["row", "told", "marks", "length", "size"] (spRec S n)
  | 0 => F.ok scRing (fun _ _ _ _ h => h.elim) (fun _ _ _ _ _ _ _ _ _ h => h.elim)
  | n + 1 => by
    have ih := ok_ring F hm B Gir n
    have Gself : Has P w S.K mg base L2.CX0 (n + 3) "_ring_from" ["row", "told", "marks", "length", "size"] (spRec S n) := ⟨f, fd, hm, F.kp, F.binds fun _ _ _ _ _ _ us hl => match us, hl with | [_, _, _, _, _], _ => rfl, ih⟩
    refine F.ok (k := n + 3) scRing (fun vs H Q E h => ?_) (fun cdv A outer s H vs Q E hr h => ?_)
    · obtain ⟨r, d, row, told, mk, len, rfl, _⟩ := h
      rfl
    · obtain ⟨r, d, row, told, mk, len, rfl, hrow, hd, tabs, m1, m8, l1, lr, l12, sz, tl, mks, qs, qn⟩ := h
      have nd : nRing.Nodup := scRing.nd
      have hu : (A.deeper (envOfC "_ring_from" (defScope sRingFrom) s.heap.objs.size f cdv)).units + 1 < cLine := by have := hr.units; omega
      refine ⟨_, pss_cons (ps_if (pt_cmpR (op_eqD hr.units) (pe_callB (r := rLenA _) lenA (by rfl) B.len PySem.boot_len (pa_cons (pv 0) pa_nil)) (pv 4) (nomark _))
          (pss_one (ps_ret (pe_ifExp (pt_truth (pe_has Gir (hr.mono (by omega)) (by rfl) (pa_cons (pv 0) (pa_cons (pv 2) (pa_cons (pv 3) pa_nil)))) (fun _ => rfl)) (pv 0) pe_non))) pss_nil)
        (pss_cons (ps_for PassesOwn.never rfl (pi_range1 (by rfl) B.range (pa_cons (pv 2) pa_nil)) (pg_name (i := 5) nd rfl (Or.inl rfl))
          (pss_cons (ps_set (i := 6) nd rfl (Or.inl rfl) (pe_op (r := rCatA S.K) op_catA (pv 0) (pe_tup (pa_cons (pv 5) pa_nil))))
          (pss_cons (ps_set (i := 7) nd rfl (Or.inl rfl) (pe_slice (r := rSlAny _) sl_any (pv 6) (po_some (pe_op op_sub (pe_callB (r := rLenA _) lenA (by rfl) B.len PySem.boot_len (pa_cons (pv 6) pa_nil)) (pv 3))) po_none))
          (pss_one (ps_if (pt_cmp (pc_dnotin hu (pv 7) (pv 1)))
            (pss_cons (ps_dput hu (pv 1) (pv 7) pe_bl rfl)
            (pss_cons (ps_set (i := 8) nd rfl (Or.inl rfl) (pe_has Gself hr (by rfl) (pa_cons (pv 6) (pa_cons (pv 1) (pa_cons (pv 2) (pa_cons (pv 3) (pa_cons (pv 4) pa_nil)))))))
            (pss_cons (ps_if (pt_cmpR op_notN (pv 8) pe_non (nomark _)) (pss_one (ps_ret (pv 8))) pss_nil)
            (pss_one (ps_ddelT hu (pv 1) (pv 7)))))) pss_nil)))))
        (pss_one (ps_ret pe_non))), ?_⟩
      have rl : ∀ {H' : Hp} {a : Addr} {l : List Int} {Q : VK}, H' a = some (.tup (l.map V.int)) → Q (.int (l.length : Nat)) H' → rLenA S.K [.ref a] H' Q := fun {H' a l Q} e q =>
        .inl ⟨a, l.map V.int, rfl, .inr (.inl (.inl e)), by rw [List.length_map]; exact q⟩
      have re : ∀ {H' : Hp} {i j : Int} {Q : VK}, Q (.bl (decide (i = j))) H' → rEqD S.K (.int i) (.int j) H' Q := fun {H' i j Q} q => ⟨.int i, .int j, .int i, .int j, rfl, rfl, by rw [eqv_int]; exact q⟩
      refine ⟨.ref r, rfl, rl hrow ⟨.int ((row.length + n : Nat) : Int), rfl, re ⟨_, rfl, ?_⟩⟩⟩
      cases n with
      | zero =>
        rw [decide_eq_true (by omega)]
        refine iteT ?_
        -- the row is whole
        refine ⟨.ref r, rfl, .int (mk : Nat), rfl, .int (len : Nat), rfl, ?_⟩
        have ring : isRingB (.tuple (row.map .int)) mk len = apartB row len := by
          unfold isRingB
          rw [ringInts_map (v := .tuple (row.map .int)) rfl, show itemsD (.tuple (row.map PyData.int)) = row.map PyData.int from rfl, isMk_all mks]
          have z : seqB (.tuple (row.map PyData.int)) 1 10000 = true := by
            show (decide ((1 : Int) ≤ ((row.map PyData.int).length : Int)) && decide (((row.map PyData.int).length : Int) ≤ 10000)) = true
            rw [List.length_map, Bool.and_eq_true]
            exact ⟨decide_eq_true (by omega), decide_eq_true (by omega)⟩
          rw [z]
          rfl
        refine ⟨⟨fun a => if a = r then some (.tup (row.map V.int)) else none, fun _ => False⟩, [.py (.tuple (row.map .int)), .int (mk : Nat), .int (len : Nat)], fun d => d = .bl (isRingB (.tuple (row.map .int)) mk len), fun _ => False, rfl, ⟨fun a o e => ?_, fun b z => z.elim, fun a z e => ?_, tabs⟩, .cons (.py (.tup (if_pos rfl) (ints_rpa row))) (.cons (.py (.int _)) (.cons (.py (.int _)) .nil)), ⟨_, mk, len, rfl, m1, m8, l12, by show (row.map PyData.int).length ≤ 64; rw [List.length_map]; omega, rfl⟩, fun v d2 G' H' st rv e => ?_, fun _ _ _ _ _ _ _ z => z.elim⟩
        · show H a = some o
          have e : (if a = r then some (HO.tup (row.map V.int)) else none) = some o := e
          split at e
          · next h =>
            cases e
            rw [h]
            exact hrow
          · cases e
        · have e : (if a = r then some (HO.tup (row.map V.int)) else none) = some (HO.tbl z) := e
          split at e
          · cases e
          · cases e
        · subst e
          rw [ring] at rv
          have hv : v = .bl (apartB row len) := by
            cases rv with
            | py h => cases h; rfl
          subst hv
          have kp : ∀ a o, H a = some o → (∀ z, o ≠ .tbl z) → H' a = some o := fun a o h t => st.keep a o h (fun z => z) t
          refine ⟨apartB row len, rfl, ?_⟩
          by_cases c : apartB row len = true
          · refine iteT2 c ?_
            exact ⟨.ref r, rfl, qs r row H' (by show (if apartB row len = true then some row else none) = _; rw [if_pos c]) (kp _ _ hrow (fun z e => by cases e)) (fun a o _ h t => kp a o h t) st.wf.tabs⟩
          · refine iteF2 c ?_
            exact qn H' (by show (if apartB row len = true then some row else none) = _; rw [if_neg c]) (fun a o _ h t => kp a o h t) (kp _ _ hd (fun z e => by cases e)) st.wf.tabs
      | succ n =>
        rw [decide_eq_false (by omega)]
        refine iteF ?_
        refine ⟨.int (mk : Nat), rfl, (mk : Int), rfl, by omega, by omega, for_it walk_range (fun i σ H' => ∃ y5 y6 y7 y8, σ = [some (.ref r), some (.ref d), some (.int (mk : Nat)), some (.int (len : Nat)), some (.int ((row.length + (n + 1) : Nat) : Int)), y5, y6, y7, y8] ∧ But d H H' ∧ H' d = some (toldO told) ∧ LamX.Tabs S.Tb H' ∧ ringF mk len (n + 1) row told = (List.range' i (mk - i)).findSome? (ringStep mk len n row told)) ⟨none, none, none, none, rfl, But.refl _ _, hd, tabs, by rw [Nat.sub_zero, ← List.range_eq_range']; rfl⟩ (fun _ _ _ _ _ => trivial) ?_ ?_⟩
        · rintro i x σ H1 H2 hi ⟨y5, y6, y7, y8, rfl, bt, hd1, tabs1, eq⟩ ⟨rfl, rfl⟩
          have hi : i < mk := by simpa using hi
          rw [show mk - i = (mk - i - 1) + 1 by omega, List.range'_succ, List.findSome?_cons] at eq
          have hrow1 : H2 r = some (.tup (row.map V.int)) := bt r _ (ne_of hrow hd (fun z => by cases z)) hrow (fun z e => by cases e)
          show gName 5 (.int (0 + (i : Int))) _ _ _
          rw [Int.zero_add]
          have nt1 : ∀ z, HO.tup (row.map V.int) ≠ .tbl z := fun z e => by cases e
          refine ⟨.ref r, rfl, .int (i : Nat), rfl, by show 1 ≤ sizeLine; decide, fun p1 np1 => ?_⟩
          have s1 : Same H2 (upd H2 p1 (.tup [.int (i : Nat)])) := same_new np1
          refine ⟨r, p1, row.map V.int, [.int (i : Nat)], rfl, rfl, .inl (.inl (s1 _ _ hrow1)), .inl (.inl upd_same), by rw [List.length_map]; show row.length + 1 ≤ sizeLine; rw [sizeLine_eq]; omega, fun e => ?_, fun _ e => (by cases e), fun _ _ p2 np2 => ?_⟩
          · have z := congrArg List.length e
            rw [List.length_map, List.length_nil] at z
            omega
          have s2 : Same H2 (upd (upd H2 p1 (.tup [.int (i : Nat)])) p2 (.tup (row.map V.int ++ [.int (i : Nat)]))) := s1.trans (same_new np2)
          have hlong : (upd (upd H2 p1 (.tup [.int (i : Nat)])) p2 (.tup (row.map V.int ++ [.int (i : Nat)]))) p2 = some (.tup ((row ++ [(i : Int)]).map V.int)) := by
            rw [upd_same, List.map_append]
            rfl
          generalize upd (upd H2 p1 (.tup [.int (i : Nat)])) p2 (.tup (row.map V.int ++ [.int (i : Nat)])) = H3 at s2 hlong ⊢
          have lenl : (row ++ [(i : Int)]).length = row.length + 1 := by rw [List.length_append]; rfl
          refine ⟨.ref p2, rfl, .ref p2, rfl, rl hlong ⟨.int (len : Nat), rfl, _, _, rfl, rfl, _, rfl, .inr ⟨p2, _, rfl, .inl (.inl hlong), fun z => ?_, fun _ p3 np3 => ?_⟩⟩⟩
          · have z := z.1
            rw [show (((row ++ [(i : Int)]).length : Nat) : Int) - (len : Int) = ((row.length + 1 - len : Nat) : Int) by omega, HT.sIx_nat, List.length_map] at z
            omega
          rw [show (((row ++ [(i : Int)]).length : Nat) : Int) - (len : Int) = ((row.length + 1 - len : Nat) : Int) by omega, cutV_from, ← List.map_drop]
          have s3 : Same H2 (upd H3 p3 (.tup (((row ++ [(i : Int)]).drop (row.length + 1 - len)).map V.int))) := s2.trans (same_new np3)
          have hlong4 : (upd H3 p3 (.tup (((row ++ [(i : Int)]).drop (row.length + 1 - len)).map V.int))) p2 = some (.tup ((row ++ [(i : Int)]).map V.int)) := same_new np3 _ _ hlong
          have hst : (upd H3 p3 (.tup (((row ++ [(i : Int)]).drop (row.length + 1 - len)).map V.int))) p3 = some (.tup (((row ++ [(i : Int)]).drop (row.length + 1 - len)).map V.int)) := upd_same
          generalize upd H3 p3 (.tup (((row ++ [(i : Int)]).drop (row.length + 1 - len)).map V.int)) = H4 at s3 hlong4 hst ⊢
          clear s2 hlong np3
          have hd4 := s3 _ _ hd1
          have tabs4 : LamX.Tabs S.Tb H4 := tabs1.ext s3
          have bt4 : But d H H4 := fun a o n e t => s3 _ _ (bt a o n e t)
          obtain ⟨st, est⟩ : ∃ st, st = (row ++ [(i : Int)]).drop (row.length + 1 - len) := ⟨_, rfl⟩
          have estep : ringStep mk len n row told i = if st ∈ told then none else ringF mk len n (row ++ [(i : Int)]) (told ++ [st]) := by rw [est]; rfl
          rw [← est] at hst
          rw [estep] at eq
          clear est estep
          have hkey : H4 p3 = some (.tup ((st.map Sum.inl : List L2.Key).map kV)) := by rw [key_ints]; exact hst
          refine ⟨.ref p3, rfl, .ref d, rfl, d, _, rfl, DGet.t hd4 hkey, _, rfl, ?_⟩
          rw [told_val]
          by_cases c : st ∈ told
          · rw [if_pos c] at eq ⊢
            refine iteF ?_
            exact ⟨_, _, _, _, rfl, bt4, hd4, tabs4, by rw [show mk - (i + 1) = mk - i - 1 by omega]; exact eq⟩
          · rw [if_neg c] at eq ⊢
            refine iteT ?_
            have hput : putK (told.map fun k => ((k.map Sum.inl : List L2.Key), V.bl true)) (st.map Sum.inl) (V.bl true) = (told ++ [st]).map fun k => ((k.map Sum.inl : List L2.Key), V.bl true) := by
              rw [putK_new _ (by rw [told_val, if_neg c]), List.map_append]
              rfl
            refine ⟨.ref d, rfl, .ref p3, rfl, d, _, rfl, DPut.t hd4 hkey (by rw [List.length_map, sizeLine_eq]; omega), ?_⟩
            rw [hput]
            have ne2 : p2 ≠ d := ne_of hlong4 hd4 (fun z => by cases z)
            have ne3 : p3 ≠ d := ne_of hst hd4 (fun z => by cases z)
            have hd5 : (upd H4 d (toldO (told ++ [st]))) d = some (toldO (told ++ [st])) := upd_same
            have hlong5 : (upd H4 d (toldO (told ++ [st]))) p2 = some (.tup ((row ++ [(i : Int)]).map V.int)) := by rw [upd_ne ne2]; exact hlong4
            have hst5 : (upd H4 d (toldO (told ++ [st]))) p3 = some (.tup (st.map V.int)) := by rw [upd_ne ne3]; exact hst
            have bt5 : But d H (upd H4 d (toldO (told ++ [st]))) := fun a o n e t => by rw [upd_ne n]; exact bt4 a o n e t
            have tabs5 : LamX.Tabs S.Tb (upd H4 d (toldO (told ++ [st]))) := tabs_dT hd4 (fun z e => by cases e) (fun z e => by cases e) (fun a o e n => by rw [upd_ne n]; exact e) tabs4
            rw [show HO.dT ((told ++ [st]).map fun k => ((k.map Sum.inl : List L2.Key), V.bl true)) = toldO (told ++ [st]) from rfl]
            generalize upd H4 d (toldO (told ++ [st])) = H5 at hd5 hlong5 hst5 bt5 tabs5 ⊢
            refine ⟨.ref p2, rfl, .ref d, rfl, .int (mk : Nat), rfl, .int (len : Nat), rfl, .int ((row.length + (n + 1) : Nat) : Int), rfl, ?_⟩
            refine ⟨p2, d, row ++ [(i : Int)], told ++ [st], mk, len, by rw [show (row ++ [(i : Int)]).length + n = row.length + (n + 1) by omega]; rfl, hlong5, hd5, tabs5, m1, m8, l1, by omega, l12, by omega, by rw [List.length_append]; show told.length + 1 ≤ _; omega, fun x hx => ?_, fun r' row' H' e hr' bt' tabs' => ?_, fun H' e bt' hd' tabs' => ?_⟩
            · rcases List.mem_append.mp hx with hx | hx
              · exact mks x hx
              · rw [List.mem_singleton.mp hx]
                omega
            · rw [e] at eq
              refine ⟨.ref r', rfl, rfl, _, rfl, ?_⟩
              refine iteT2 (by rw [decide_eq_false (fun z => by cases z)]; rfl) ⟨.ref r', rfl, qs r' row' H' eq hr' (fun a o n e t => bt' a o n (bt5 a o n e t) t) tabs'⟩
            · rw [e] at eq
              refine ⟨.non, rfl, rfl, _, rfl, ?_⟩
              refine iteF2 (by simp) ?_
              have hst6 : H' p3 = some (.tup ((st.map Sum.inl : List L2.Key).map kV)) := by rw [key_ints]; exact bt' _ _ ne3 hst5 (fun z e => by cases e)
              refine ⟨.ref d, rfl, .ref p3, rfl, d, p3, _, _, rfl, rfl, hd', hst6, by rw [told_val, if_pos (List.mem_append_right _ (List.mem_singleton.mpr rfl))]; rfl, ?_⟩
              rw [told_drop c]
              exact ⟨_, _, _, _, rfl, fun a o n e t => by rw [upd_ne n]; exact bt' a o n (bt5 a o n e t) t, upd_same, tabs_dT hd' (fun z e => by cases e) (fun z e => by cases e) (fun a o e n => by rw [upd_ne n]; exact e) tabs', by rw [show mk - (i + 1) = mk - i - 1 by omega]; exact eq⟩
        · rintro σ H' ⟨y5, y6, y7, y8, rfl, bt, hd1, tabs1, eq⟩
          have e0 : mk - (mk : Int).toNat = 0 := by omega
          rw [e0] at eq
          exact qn H' eq bt hd1 tabs1
end
end Pg

set_option Elab.async false
set_option linter.all false
set_option maxRecDepth 100000
set_option maxHeartbeats 4000000
/-! len(set(xs)), xs a list of at most 64 tuples of whole numbers: the library's set of tuples ends short of 64, so the last one is added here -/
namespace Lx
open PySem PySem.Spec PyProof.Rows L2
section
variable {P : Program} {w : World} {A : Around} {E : Value → Shared → Prop} {s : Shared}
/-- at a: a set of n members -/
def FullAt (h : Heap) (a : Addr) (n : Nat) : Prop := ∃ o es ep t, h.get? a = some o ∧ o.ExactSet ∧ o.data = .set es ep t ∧ t.fits es.size = true ∧ es.size = n
theorem FullAt.of {a : Addr} {L : List (Addr × List Int)} {es : Array (Int × Value)} {ep : Nat} {t : SetTable} (R : SetTR P w s.heap a L es ep t) : FullAt s.heap a L.length := by
  obtain ⟨o, e1, e2, e3⟩ := R.ob
  exact ⟨o, es, ep, t, e1, e2, e3, R.fits, R.size⟩
/-- the 64th -/
theorem add_64 {a : Addr} {L : List (Addr × List Int)} {es : Array (Int × Value)} {ep : Nat} {t : SetTable} (R : SetTR P w s.heap a L es ep t) {x : Addr} {k : List Int} (hx : IsT P w s.heap k x) (hu : A.units < cLine) (h63 : L.length = 63) (new : k ∉ L.map (·.2)) {Q : Bool → Shared → Prop}
    (hQ : ∀ h', Heap.SameBut a s.heap h' → FullAt h' a 64 → Q true { s with heap := h' }) : wpAny (model P w) A (setAddHashed a (.ref x) (thash P w k)) Q E s := by
  obtain ⟨o, e1, e2, e3⟩ := R.ob
  have ro := R.room
  have m127 : t.mask = 127 := by rcases R.tab.mok with m | m | m <;> omega
  unfold setAddHashed
  refine wpAny_holding ?_
  rw [show 100000 = 99999 + 1 from rfl, setAddHashedIn_succ]
  refine wpAny_bind (wpAny_setState_of e1 e3 R.fits ?_)
  dsimp only
  refine wp_if_neg (by simp [byScan, Value.scannable]) ?_
  try refine wpAny_bind (wpAny_pure ?_)
  refine wpAny_bind (search_at R hx hu (fun there => absurd there new) fun K _ free taken => ?_)
  dsimp only
  refine wpAny_bind (wpAny_setState_of e1 e3 R.fits ?_)
  dsimp only
  obtain ⟨u1, u2, u3, u4, u5, u6, u7, u8, u9⟩ := R.tab.put free taken
  have pl1 : (t.put (way t.mask (thash P w k) K)).1.plain = true := u6.trans R.plain
  generalize eput : t.put (way t.mask (thash P w k) K) = put at u1 u3 u4 u5 u6 u7 u8 u9 pl1 ⊢
  obtain ⟨t', j⟩ := put
  dsimp only at u1 u3 u4 u5 u6 u7 u8 u9 pl1 ⊢
  subst u1
  refine wp_if_pos pl1 (wpAny_bind (hashBy_tup hx ?_))
  simp only [if_true]
  have n64 : (SetTable.insertAt es (SetTable.below t.place (way t.mask (thash P w k) K)) (thash P w k, Value.ref x)).size = 64 := by
    rw [← Array.length_toList, SetTable.toList_insertAt, R.rows, ← rows_put]
    unfold rowsOf
    rw [List.length_map, (put_perm L _ (x, k)).length_eq, List.length_cons, h63]
  have sz3 := u3.sz
  have dm3 := u3.dm
  rw [List.length_append, List.length_cons, List.length_take, List.length_drop, List.length_map, h63] at sz3
  rw [List.length_map] at u2
  generalize SetTable.insertAt es (SetTable.below t.place (way t.mask (thash P w k) K)) (thash P w k, Value.ref x) = es1 at n64 ⊢
  have p64 : t'.place.size = 64 := by omega
  refine wpAny_bind (wpAny_storeSet_of e1 e3 ?_ (by rw [n64, sizeLine_eq]; decide))
  have few : t'.tooFull = false := by
    unfold SetTable.tooFull
    rw [u9, u4, m127, List.length_map, h63]
    decide
  refine wp_if_neg (by rw [few]; decide) ?_
  refine wpAny_pure (hQ _ (Heap.SameBut.update ..) ⟨_, es1, ep + 1, t', store_at e1 e3, ⟨e2.1, e2.2.1, e2.2.2⟩, rfl, ?_, n64⟩)
  unfold SetTable.fits SetTable.fill
  rw [dm3, n64, Bool.and_eq_true, beq_iff_eq, decide_eq_true_eq, p64, u4, m127]
  exact ⟨rfl, by decide⟩
/-- a member that is there already, whatever the size -/
theorem add_old {a : Addr} {L : List (Addr × List Int)} {es : Array (Int × Value)} {ep : Nat} {t : SetTable} (R : SetTR P w s.heap a L es ep t) {x : Addr} {k : List Int} (hx : IsT P w s.heap k x) (hu : A.units < cLine) (old : k ∈ L.map (·.2)) {Q : Bool → Shared → Prop}
    (hQ : Q false s) : wpAny (model P w) A (setAddHashed a (.ref x) (thash P w k)) Q E s := by
  obtain ⟨o, e1, e2, e3⟩ := R.ob
  unfold setAddHashed
  refine wpAny_holding ?_
  rw [show 100000 = 99999 + 1 from rfl, setAddHashedIn_succ]
  refine wpAny_bind (wpAny_setState_of e1 e3 R.fits ?_)
  dsimp only
  refine wp_if_neg (by simp [byScan, Value.scannable]) ?_
  try refine wpAny_bind (wpAny_pure ?_)
  exact wpAny_bind (search_at R hx hu (fun _ => wpAny_pure hQ) fun _ no _ _ => absurd old no)
/-- m: how many keys there are, each counted once -/
def DistOf (ks : List (Addr × List Int)) (m : Nat) : Prop := ∃ ds : List (List Int), ds.Nodup ∧ (∀ k, k ∈ ds ↔ k ∈ ks.map (·.2)) ∧ m = ds.length
theorem DistOf.of {ks L : List (Addr × List Int)} (nd : (L.map (·.2)).Nodup) (g : Got ks ks.length L) : DistOf ks L.length := by
  have all := g.all
  rw [List.take_length] at all
  refine ⟨L.map (·.2), nd, fun k => ⟨fun h => ?_, fun h => ?_⟩, by rw [List.length_map]⟩
  · obtain ⟨p, hp, rfl⟩ := List.mem_map.mp h
    exact List.mem_map.mpr ⟨p, List.mem_of_mem_take (g.sub p hp), rfl⟩
  · obtain ⟨p, hp, rfl⟩ := List.mem_map.mp h
    exact all p hp
theorem DistOf.more {ks L : List (Addr × List Int)} {i : Nat} {x : Addr × List Int} (nd : (L.map (·.2)).Nodup) (g : Got ks i L) (e : ks[i]? = some x) (n : i + 1 = ks.length) (new : x.2 ∉ L.map (·.2)) : DistOf ks (L.length + 1) := by
  have g2 : Got ks (i + 1) (x :: L) := g.more e (List.Perm.refl _)
  rw [n] at g2
  exact DistOf.of (L := x :: L) (by rw [List.map_cons]; exact List.nodup_cons.mpr ⟨new, nd⟩) g2
/-- the loop that fills the set -/
theorem fill_64 {I : Addr} {fp wr : List Addr} {G : Array GenState → Array GenState → Prop} {n : Nat} {Pv : Nat → Value → Prop} {St : Nat → Shared → Prop} {R : Result → Shared → Prop}
    (W : WalksS P w A.in1 I fp wr G n Pv St) (Z : Addr) (outZ : Z ∉ fp) (ks : List (Addr × List Int)) (en : n = ks.length) (le : n ≤ 64) (val : ∀ i v, Pv i v → ∃ p, ks[i]? = some p ∧ v = .ref p.1)
    (h0 : Heap) (tup0 : ∀ p ∈ ks, IsT P w h0 p.2 p.1) (noZ : h0.get? Z = none) (noW : ∀ b ∈ wr, h0.get? b = none) (room : A.in1.units < cLine) :
    ∀ (left i : Nat) (s : Shared), i + left = n → St i s → (∀ b o, h0.get? b = some o → s.heap.get? b = some o) → (∃ L es ep t, SetTR P w s.heap Z L es ep t ∧ Got ks i L) →
      (∀ s' m, Moved (Z :: wr) G s s' → FullAt s'.heap Z m → DistOf ks m → (∀ b o, h0.get? b = some o → s'.heap.get? b = some o) → R (.ok (.ret .none)) s') →
      codeAny (model P w) A (.builtin "set.update.loop" ⟨[.ref Z, .ref I], []⟩) R s := by
  have notW : Z ∉ wr := fun z => outZ (W.sub _ z)
  have wider : ∀ b ∈ wr, b ∈ Z :: wr := fun b z => List.mem_cons_of_mem _ z
  have stays : ∀ {s s' : Shared}, Moved wr G s s' → (∀ b o, h0.get? b = some o → s.heap.get? b = some o) → ∀ b o, h0.get? b = some o → s'.heap.get? b = some o := fun mv old b o e => by
    refine mv.heap b o (fun z => ?_) (old b o e)
    rw [noW b z] at e
    cases e
  have last : ∀ (s : Shared) (m : Nat), St n s → (∀ b o, h0.get? b = some o → s.heap.get? b = some o) → FullAt s.heap Z m → DistOf ks m →
      (∀ s' m, Moved (Z :: wr) G s s' → FullAt s'.heap Z m → DistOf ks m → (∀ b o, h0.get? b = some o → s'.heap.get? b = some o) → R (.ok (.ret .none)) s') →
      codeAny (model P w) A (.builtin "set.update.loop" ⟨[.ref Z, .ref I], []⟩) R s := fun s m st old full dist hR => by
    refine codeAny_builtin F.entry_set_update_loop ?_
    rw [Around.under_plainId F.plain_set_update_loop _]
    show wpAny _ A.in1 (pyNext (.ref I) >>= fun _ => _) _ _ s
    refine wpAny_bind (W.done s _ _ st fun s' mv => ?_)
    show wpAny _ A.in1 (ret .none) _ _ s'
    obtain ⟨o, es, ep, t, f1, f2⟩ := full
    exact wpAny_pure (hR s' m (mv.mono wider) ⟨o, es, ep, t, mv.heap Z o notW f1, f2⟩ dist (stays mv old))
  intro left
  induction left with
  | zero =>
    rintro i s hi st old ⟨L, es, ep, t, R1, g⟩ hR
    have hi : i = n := hi
    subst hi
    rw [en] at g
    exact last s L.length st old (FullAt.of R1) (DistOf.of R1.nd g) hR
  | succ left ih =>
    rintro i s hi st old ⟨L, es, ep, t, R1, g⟩ hR
    refine codeAny_builtin F.entry_set_update_loop ?_
    rw [Around.under_plainId F.plain_set_update_loop _]
    show wpAny _ A.in1 (pyNext (.ref I) >>= fun _ => _) _ _ s
    refine wpAny_bind (W.item i s _ _ (by omega) st fun v s' hv st' mv => ?_)
    obtain ⟨p, ep1, rfl⟩ := val i v hv
    have old' := stays mv old
    have inks : ∀ q ∈ L, q ∈ ks := fun q hq => List.mem_of_mem_take (g.sub q hq)
    have R2 : SetTR P w s'.heap Z L es ep t := R1.keep (fun o e => mv.heap Z o notW e) fun q hq => isT_keep (tup0 q (inks q hq)) old'
    have hx : IsT P w s'.heap p.2 p.1 := isT_keep (tup0 p (List.mem_of_getElem? ep1)) old'
    show wpAny _ A.in1 (holding [Value.ref p.1] (setAdd Z (.ref p.1)) >>= fun _ => _) _ _ s'
    refine wpAny_bind (wpAny_holding ?_)
    unfold setAdd
    refine wpAny_holding ?_
    refine wpAny_bind (wpAny_pyHash_tuple room hx ?_)
    have gl := g.len
    -- what holds behind the adding
    have go : ∀ (h' : Heap), Heap.SameBut Z s'.heap h' → (∃ L es ep t, SetTR P w h' Z L es ep t ∧ Got ks (i + 1) L) ∨ (i + 1 = n ∧ FullAt h' Z 64 ∧ DistOf ks 64) →
        codeAny (model P w) A (.builtin "set.update.loop" ⟨[.ref Z, .ref I], []⟩) R { s' with heap := h', toks := s'.toks + (p.2.length + 1) } := fun h' sb c => by
      have old2 : ∀ b o, h0.get? b = some o → h'.get? b = some o := fun b o e => (sb.2 b (fun z => by rw [z, noZ] at e; cases e)).trans (old' b o e)
      have st2 : St (i + 1) { s' with heap := h', toks := s'.toks + (p.2.length + 1) } := W.frame _ s' _ _ st' (Nat.le_add_right _ _) fun b hb o e => by
        rw [sb.2 b (fun z => outZ (by rw [← z]; exact hb))]
        exact e
      have on : ∀ s'' m, Moved (Z :: wr) G { s' with heap := h', toks := s'.toks + (p.2.length + 1) } s'' → FullAt s''.heap Z m → DistOf ks m → (∀ b o, h0.get? b = some o → s''.heap.get? b = some o) → R (.ok (.ret .none)) s'' := fun s'' m mv2 f d k =>
        hR s'' m (Moved.trans W.gtrans ((mv.mono wider).then_heap (Nat.le_add_right _ _) fun b o hb e => by rw [sb.2 b (fun z => hb (by rw [z]; exact List.mem_cons_self))]; exact e) mv2) f d k
      rcases c with c | ⟨c1, c2, c3⟩
      · exact ih (i + 1) _ (by omega) st2 old2 c on
      · rw [c1] at st2
        exact last _ 64 st2 old2 c2 c3 on
    by_cases c62 : L.length ≤ 62
    · refine add_at (s := { s' with toks := s'.toks + (p.2.length + 1) }) R2 hx room (by omega) fun b h' L' es' ep' t' sb R3 c1 c2 => ?_
      refine wpAny_pure ⟨plainId_quiet F.plain_set_update_loop _, go h' sb (.inl ⟨L', es', ep', t', R3, ?_⟩)⟩
      by_cases c : p.2 ∈ L.map (·.2)
      · rw [c1 c]
        exact g.same ep1 c
      · exact g.more ep1 (c2 c)
    · have few := R1.few
      by_cases c : p.2 ∈ L.map (·.2)
      · refine add_old (s := { s' with toks := s'.toks + (p.2.length + 1) }) R2 hx room c ?_
        exact wpAny_pure ⟨plainId_quiet F.plain_set_update_loop _, go s'.heap (Heap.SameBut.refl Z s'.heap) (.inl ⟨L, es, ep, t, R2, g.same ep1 c⟩)⟩
      · refine add_64 (s := { s' with toks := s'.toks + (p.2.length + 1) }) R2 hx room (by omega) c fun h' sb full => ?_
        have d := DistOf.more R1.nd g ep1 (by omega) c
        rw [show L.length + 1 = 64 by omega] at d
        exact wpAny_pure ⟨plainId_quiet F.plain_set_update_loop _, go h' sb (.inr ⟨by omega, full, d⟩)⟩
/-- a set as it is made -/
abbrev emptySet (w : World) : Obj := { cls := .type "set", dict := none, data := .set #[] 0 (.fresh 0 0 (!w.params.followText "set-order")) }
/-- set(xs) of at most 64 tuples: how many members it gets -/
theorem call_set_64 {l : Addr} {items : Array Value} (ks : List (Addr × List Int)) {Q : Value → Shared → Prop} (calm : A.handled = none) (at_ : s.heap.IsList l items) (refs : items.toList = ks.map fun p => Value.ref p.1) (tups : ∀ p ∈ ks, IsT P w s.heap p.2 p.1) (le : ks.length ≤ 64) (room : A.units + 3 < cLine)
    (h : ∀ (h' : Heap) (tk m : Nat), FullAt h' s.heap.objs.size m → DistOf ks m → (∀ b o, s.heap.get? b = some o → h'.get? b = some o) → Q (.ref s.heap.objs.size) { s with heap := h', toks := tk }) : wpAny (model P w) A (call (.type "set") [.ref l]) Q E s := by
  have many : items.size = ks.length := by rw [← Array.length_toList, refs, List.length_map]
  obtain ⟨c, tl, hmro⟩ := F.called_set.mro
  have hmade := F.called_set.made; have hsub := F.called_set.sub
  refine wpAny_call (codeAny_of_tree ?_)
  show wpAny _ _ (callAny (.type "set") _) _ _ _
  refine wpAny_pure ⟨Code.quiet_builtin _ (by decide +kernel), codeAny_builtin F.entry_type_call ?_⟩
  rw [Around.under_plain (weight_type_call_type "set" [.ref l] []) rfl]
  have t1 := F.called_set.notType; have t2 := F.called_set.canCreate; have t3 := F.typeCall_set_1 (.ref l)
  repeat (any_goals (first | assumption | wp_step))
  refine codeAny_mono (code_set_led1 (.ref l) (E := E) (Q₁ := fun v z => v = .ref s.heap.objs.size ∧ z = { s with heap := s.heap.push (emptySet w) }) ⟨rfl, rfl⟩) fun r z hr => ?_
  cases r with
  | error e => exact hr
  | ok fl =>
    cases fl with
    | ret v =>
      obtain ⟨rfl, rfl⟩ := hr
      have there : (s.heap.push (emptySet w)).get? s.heap.objs.size = some (emptySet w) := Heap.get?_push_size _ rfl
      have ty : Shared.TypeIs { s with heap := s.heap.push (emptySet w) } (.ref s.heap.objs.size) "set" := ⟨_, there, rfl⟩
      have i1 := F.called_set.init.lookup; have i2 := F.called_set.init.bind (.ref s.heap.objs.size)
      repeat (any_goals (first | assumption | wp_step))
      refine codeAny_mono (codeAny_call_builtin (R := wants (fun r z => r = .none ∧ ∃ h' tk m, z = { s with heap := h', toks := tk } ∧ FullAt h' s.heap.objs.size m ∧ DistOf ks m ∧ (∀ b o, s.heap.get? b = some o → h'.get? b = some o)) E) F.called_set.init.plain F.entry_set_init (check_set_init_1 ty ?_)) fun r2 z2 hr2 => ?_
      · obtain ⟨ol, o1, o2, nl, o3⟩ := at_
        obtain ⟨ocls, odict, odata, oslots⟩ := ol
        simp only at o2 o3
        subst o2; subst o3
        have o4 : (s.heap.push (emptySet w)).get? l = some { cls := .type "list", dict := odict, data := .seq items nl, slots := oslots } := Heap.get?_push_of_some _ o1
        have s1 := F.sub_list_set; have s2 := F.sub_list_frozenset; have s3 : (Value.type "list" == Value.type "dict") = false := by decide
        have at1 : (s.heap.push (emptySet w)).IsList l items := ⟨_, o4, rfl, nl, rfl⟩
        unfold Builtin.«set.__init__» noKeywords Builtin.Frozenset.updateFrom
        generalize hIt : pyIter = It
        wp_walk
        subst hIt
        refine wpAny_pyIter_list at1 ?_
        refine wpAny_bind (wpAny_runValue ?_)
        have lz : l < s.heap.objs.size := Heap.lt_size o1
        have none_at : ∀ b, s.heap.objs.size ≤ b → s.heap.get? b = none := fun b hb => by
          cases e : s.heap.get? b with
          | none => rfl
          | some o => exact absurd (Nat.lt_of_lt_of_le (Heap.lt_size e) hb) (Nat.lt_irrefl _)
        have calm3 : A.in1.in1.in1.handled = none := by simp [calm]
        have lI : l ≠ (s.heap.push (emptySet w)).objs.size := by rw [Heap.size_push]; exact Nat.ne_of_lt (Nat.lt_succ_of_lt lz)
        have zI : s.heap.objs.size ∉ [(s.heap.push (emptySet w)).objs.size, l] := by
          rw [Heap.size_push]
          intro z
          rcases List.mem_cons.mp z with z | z
          · exact Nat.ne_of_lt (Nat.lt_succ_self _) z
          · exact Nat.ne_of_gt lz (List.mem_singleton.mp z)
        have val : ∀ (i : Nat) (v : Value), items[i]? = some v → ∃ p, ks[i]? = some p ∧ v = .ref p.1 := fun i v hv => by
          rw [← Array.getElem?_toList, refs, List.getElem?_map] at hv
          obtain ⟨p, e1, e2⟩ := Option.map_eq_some_iff.mp hv
          exact ⟨p, e1, e2.symm⟩
        refine fill_64 ((Walks.list calm3 _ l lI items).toS) s.heap.objs.size zI ks many (by omega) val s.heap tups (none_at _ (Nat.le_refl _)) (fun b hb => none_at b ?_) room items.size 0 _ (Nat.zero_add _) ⟨⟨_, Heap.get?_push_size _ rfl, rfl, rfl⟩, at1.push _⟩ (fun b o e => Heap.get?_push_of_some _ (Heap.get?_push_of_some _ e)) ⟨[], #[], 0, _, setTR_fresh (Heap.get?_push_of_some _ there), Got.zero ks⟩ fun z' m mv f d k => ?_
        · rw [List.mem_singleton.mp hb, Heap.size_push]
          exact Nat.le_succ _
        · obtain ⟨h', g', d', tk', os'⟩ := z'
          have q1 : g' = s.gens := mv.gens
          have q2 : d' = s.drawn := mv.drawn
          have q3 : os' = s.os := mv.os
          subst q1; subst q2; subst q3
          show wpAny _ _ _ _ _ _
          refine wpAny_pure ?_
          show wpAny _ _ (ret .none) _ _ _
          exact wpAny_pure ⟨rfl, h', tk', m, rfl, f, d, k⟩
      · cases r2 with
        | error e => exact hr2
        | ok fl2 =>
          cases fl2 with
          | ret v =>
            obtain ⟨rfl, h', tk, m, rfl, f, d, k⟩ := hr2
            repeat (any_goals (first | assumption | wp_step))
            exact h _ _ _ f d k
          | _ => exact hr2.elim
    | _ => exact hr.elim
end
end Lx

set_option Elab.async false
set_option linter.all false
set_option maxRecDepth 100000
set_option maxHeartbeats 4000000
/-! the data layer: len(set(xs)), xs a list of tuples of whole numbers -/
namespace Dl
open PySem PySem.Spec PyProof.Rows L2 Lx
def tLenSetT (K : PySem.W.Frag) (ta : TE) : TE := fun σ H Q => ta σ H fun x H1 => ∃ (l : Addr) (ks : List (Addr × List Int)), x = V.ref l ∧ SqL K H1 l (ks.map fun p => V.ref p.1) ∧ (∀ p ∈ ks, SqT K H1 p.1 (p.2.map V.int)) ∧ ks.length ≤ 64 ∧ ∀ m : Nat, DistOf ks m → Q (.int (m : Nat)) H1
theorem pe_lenSetT {X : Cx} {a : Expr} {ta : TE} {p p2 q pos : Pos} (hc : X.calm = true) (hu : X.A.units + 65 < cLine) (hg : Gl X "len") (hm : X.mg "len" = none) (hg2 : Gl X "set") (hm2 : X.mg "set" = none) (ha : PE X a ta)
    (na : starEach [a] X.env = (false, eval a X.env) :: starEach [] X.env := by rfl) : PE X (.Call (.Name "len" p) [.Call (.Name "set" p2) [a] [] q] [] pos) (tLenSetT X.K ta) := by
  refine ⟨fun pins s σ H Q I h => ?_⟩
  refine Call_ (ld_blt I hg hm PySem.boot_len (PyProof.Rows.callWith_builtin1 (PyProof.Rows.args_cons (Call_ (ld_blt I hg2 hm2 PyProof.Rows.boot_set ?_)) rfl) rfl rfl))
  refine PyProof.Rows.callWith_type1 (PyProof.Rows.args_cons (thn (ha.run pins s σ H _ I h) fun v s1 r1 => PyProof.Rows.args_nil ?_) na) na rfl
  obtain ⟨x, H1, I1, rx, l, ks, rfl, hl, hk, le, q1⟩ := r1
  cases rx
  obtain ⟨its, rv, pl, hz⟩ := I1.list hl
  refine call_set_64 (P := X.prog) (w := X.w) ks (I1.ok.hd hc) pl.isList (by simpa using refs_of_vals rv) (fun p hp => I1.isT (hk p hp)) le (by omega) fun h' tk m full dist keep => PyProof.Rows.args_nil ?_
  obtain ⟨o, es, ep, t, e1, e2, e3, e4, e5⟩ := full
  have I2 : Inv X pins σ H1 { s1 with heap := h', toks := tk } := I1.kept keep
  have m64 : m ≤ 100000 := by
    obtain ⟨ds, nd, iff, rfl⟩ := dist
    have z : ds.length ≤ (ks.map (·.2)).length := by
      have := nd.length_le_of_subset (l₂ := ks.map (·.2)) fun k hk => (iff k).mp hk
      exact this
    rw [List.length_map] at z
    omega
  exact call_len_set e1 e2 e3 e4 (by rw [e5] <;> omega) ⟨.int (m : Nat), H1, I2.tok _, ⟨_, by rw [e5]⟩, q1 m dist⟩
def rowI (r : List Int) : PyData := .tuple (r.map .int)
/-- how many there are, each counted once -/
def CountOf (ls : List (List Int)) (m : Nat) : Prop := ∃ ds : List (List Int), ds.Nodup ∧ (∀ k, k ∈ ds ↔ k ∈ ls) ∧ m = ds.length
def dLenSet (te : TD) : TD := fun ρ Qd Ed => te ρ (fun d => ∃ ls : List (List Int), d = .lst (ls.map rowI) ∧ ls.length ≤ 64 ∧ ∀ m : Nat, CountOf ls m → Qd (.int (m : Nat))) Ed
section
variable {S : Sx} {E : XK}
theorem rowsI_at {F H : Hp} {K : PySem.W.Frag} (sub : Same F H) : ∀ {T : List (List Int)} {xs : List V}, RpA F xs (T.map rowI) → ∃ ks : List (Addr × List Int), xs = (ks.map fun p => V.ref p.1) ∧ ks.map (·.2) = T ∧ ∀ p ∈ ks, SqT K H p.1 (p.2.map V.int)
  | [], _, .nil => ⟨[], rfl, rfl, fun p hp => by cases hp⟩
  | row :: T, _, .cons h t => by
    obtain ⟨ks, rfl, e, q⟩ := rowsI_at (K := K) sub t
    cases h with
    | @tup a xs ds h1 h2 =>
      have z := rpa_ints h2
      subst z
      refine ⟨(a, row) :: ks, rfl, by rw [List.map_cons, e], fun p hp => ?_⟩
      rcases List.mem_cons.mp hp with rfl | hp
      · exact .inl (.inl (sub _ _ h1))
      · exact q p hp
theorem le_lenSet {Te : TE} {te : TD} (he : LE S E Te te) : LE S E (tLenSetT S.K Te) (dLenSet te) := by
  intro H0 ρ σ G H Qd Ed Q w st q k ke
  refine he H0 ρ σ G H _ Ed _ w st q (fun v d G1 H1 s1 rv q1 => ?_) ke
  obtain ⟨ls, rfl, le, q1⟩ := q1
  cases rv with
  | py h =>
    cases h with
    | @lst a xs ds h1 h2 =>
      obtain ⟨ks, rfl, e, q⟩ := rowsI_at (K := S.K) s1.wf.sub h2
      refine ⟨a, ks, rfl, .inl (.inl (s1.wf.sub _ _ h1)), q, by rw [← e, List.length_map] at le; exact le, fun m dist => k _ _ G1 H1 s1 (.py (.int _)) (q1 m ?_)⟩
      rw [← e]
      exact dist
end
end Dl

set_option Elab.async false
set_option linter.all false
set_option maxRecDepth 100000
set_option maxHeartbeats 4000000
namespace Pg
open PySem PySem.Spec PyProof.Rows L2 Lx Dl
section
variable {P : Program} {w : World} {mg : Str → Option Value} {base : Heap} {S : Sx}
def spStretches : SpD := fun ds Q _ => ∃ v, ∃ r : List Int, ∃ len : Nat, ds = [.py v, .int (len : Nat)] ∧ isSeqD v = true ∧ itemsD v = r.map .int ∧ r.length ≤ 64 ∧ len ≤ 12 ∧ Q (.lst (((List.range r.length).map (stretchL r len)).map rowI))
def nStretchesN : List Str := ["ring", "length", "size", "place", "at"]
theorem scStretches : FnScope nStretchesN ["ring", "length"] (defScope sStretches) := ⟨rfl, rfl, rfl, by decide +kernel, rfl, by decide +kernel, by decide +kernel⟩
theorem ok_stretches {f : Addr} {fd : FuncData} (F : Fun S.K "_stretches" "_stretches" sStretches f fd) (B : Bare mg) : FnOk P w S.K mg base L2.CX0 1 f fd ["ring", "length"] (spD S 2 spStretches) := by
  have nd : nStretchesN.Nodup := scStretches.nd
  refine okD0 (N := nStretchesN) (k := 0) F scStretches (hb := fun cdv A outer s H E hr => ?_)
  have hu2 : (A.deeper (envOfC "_stretches" (defScope sStretches) s.heap.objs.size f cdv)).units + 200 < cLine := by have := hr.un; omega
  have hu65 : (A.deeper (envOfC "_stretches" (defScope sStretches) s.heap.objs.size f cdv)).units + 65 < cLine := by omega
  refine ⟨_, _, (pss_cons (ps_set (i := 2) nd rfl (Or.inr rfl) (pe_callB (r := rLenA _) lenA (by rfl) B.len PySem.boot_len (pa_cons (pv 0) pa_nil)))
      (pss_one (ps_ret (pe_lc (own := [("place", 3)]) (g := gName 3) (tt := tYes) rfl nd (pi_range1 (by rfl) B.range (pa_cons (pv 2) pa_nil)) (blkOk_by (N := nStretchesN) (sc := defScope sStretches) (by decide +kernel)) (fun _ _ _ _ _ => (pg_name (i := 3) nd rfl (Or.inl rfl))) (fun _ _ _ _ _ => pts_nil) (fun _ _ _ _ _ => (pe_callTy (r := rTupOf _) tupOf (by rfl) B.tuple boot_tuple (pa_cons (pe_lc (own := [("at", 4)]) (g := gName 4) (tt := tYes) rfl nd (pi_range2 (by rfl) B.range (pa_cons (pe_op op_sub (pe_op op_addA (pv 3) pe_int) (pv 1)) (pa_cons (pe_op op_addA (pv 3) pe_int) pa_nil))) (blkOk_by (by kernel_rfl)) (fun _ _ _ _ _ => (pg_name (i := 4) nd rfl (Or.inl rfl))) (fun _ _ _ _ _ => pts_nil) (fun _ _ _ _ _ => (pe_ix (r := rIx _) ix_seq (pv 0) (pe_op op_mod (pv 4) (pv 2)) (fun _ _ => rfl)))) pa_nil))))))),
      (ls_seq (ls_set (i := 2) (le_cb lc_len (la_cons le_var la_nil)))
      (ls_ret (LO.le (lo_lc (g := .one 3) (li_range1 (la_cons le_var la_nil)) lt_yes (le_cb lc_tuple (la_cons (LO.le (lo_lc (g := .one 4) (li_range2 (la_cons (le_op l2_sub (le_op l2_add le_var le_int) le_var) (la_cons (le_op l2_add le_var le_int) la_nil))) lt_yes (le_op l2_ix le_var (le_op l2_intC le_var le_var)))) la_nil)))))), fun ds Qd Ed hl h => ?_⟩
  obtain ⟨v, r, len, rfl, sv, iv, r64, l12, h⟩ := h
  cases v with
  | list l | tuple l =>
    have iv : l = r.map .int := iv
    subst iv
    simp only [dOf, dVar, dC, dOp, dUn, dNil, dCons, pys, dTup, oLst, dCB, oCB, dCall, dCall0, dCallR, fAdd, oOp, fCat, fInt, fIntC, fNeg, fEq, isNonD, fIsN, fIn, fIx, dTest, dAnd, dOr, dNot, dAndV, dOrV, dNotV, dIfE, dChain, dFld, dNext, dSeq, dRet, dRetN, dDrop, dIfS, dBreak, dCont, dSet, dSetO, setAll, dSetT, dPar, itSeq, itRange1, itRange2, itEnum, Tg.put, Tg.ix, dFor, wipeL, dYes, oLc, dAppend, dPutIx, dFreeze, unown, hasOwn, noLD, okL, dSnap, dSnapT, dRaise, startD, dNoPart, dPart, dSl, oSl, fLen, fInt1, fAbs, fInt2, fDivmod, fTuple, fList, fSorted, oSortedSet, fRepr, fAll, fSum, isIntD, isBoolD, isStrD, isTupD, isSeqD, fIsT, dIsLT, dAug, dPutF, dFldI, dMake, startI, putD, dTupRev, dNewBox, dBoxPut, fRep, fEqS, oListRg, dPair, dWork, dSetA, fTimes, fIsOwn, fEqOwn, oSetC, dExtend, dPairO, oSnap, oSetJ, fInT, oSortedSetB, dMakeK, dLenSet, nStretchesN, List.map, List.cons_append, List.nil_append, List.append_eq, List.getElem?_cons_zero, List.getElem?_cons_succ, List.set_cons_zero, List.set_cons_succ, List.lookup_cons, List.lookup_nil, List.length_cons, List.length_nil, List.length_map, Nat.reduceAdd, Nat.reduceSub, List.replicate]
    refine ⟨⟨by omega, by omega⟩, ?_⟩
    rw [Int.toNat_natCast]
    refine turns_rgm (fun i => rowI (stretchL r len i)) (by omega) (fun i hi => ⟨_, rfl, fun K kk => ?_⟩) (by rw [List.map_map] at h; exact h)
    simp only [dOf, dVar, dC, dOp, dUn, dNil, dCons, pys, dTup, oLst, dCB, oCB, dCall, dCall0, dCallR, fAdd, oOp, fCat, fInt, fIntC, fNeg, fEq, isNonD, fIsN, fIn, fIx, dTest, dAnd, dOr, dNot, dAndV, dOrV, dNotV, dIfE, dChain, dFld, dNext, dSeq, dRet, dRetN, dDrop, dIfS, dBreak, dCont, dSet, dSetO, setAll, dSetT, dPar, itSeq, itRange1, itRange2, itEnum, Tg.put, Tg.ix, dFor, wipeL, dYes, oLc, dAppend, dPutIx, dFreeze, unown, hasOwn, noLD, okL, dSnap, dSnapT, dRaise, startD, dNoPart, dPart, dSl, oSl, fLen, fInt1, fAbs, fInt2, fDivmod, fTuple, fList, fSorted, oSortedSet, fRepr, fAll, fSum, isIntD, isBoolD, isStrD, isTupD, isSeqD, fIsT, dIsLT, dAug, dPutF, dFldI, dMake, startI, putD, dTupRev, dNewBox, dBoxPut, fRep, fEqS, oListRg, dPair, dWork, dSetA, fTimes, fIsOwn, fEqOwn, oSetC, dExtend, dPairO, oSnap, oSetJ, fInT, oSortedSetB, dMakeK, dLenSet, List.map, List.cons_append, List.nil_append, List.append_eq, List.getElem?_cons_zero, List.getElem?_cons_succ, List.set_cons_zero, List.set_cons_succ, List.lookup_cons, List.lookup_nil]
    refine ⟨⟨by omega, by omega⟩, ⟨by omega, by omega⟩, ?_⟩
    rw [show (0 + (i : Int) + 1 - (0 + (i : Int) + 1 - (len : Int))).toNat = len by omega]
    refine turns_rgm (fun q => .int (r.getD (((i : Int) + 1 - (len : Int) + (q : Int)) % (r.length : Int)).toNat 0)) (by omega) (fun q hq => ⟨_, rfl, fun K2 kk2 => ?_⟩) ?_
    · simp only [dOf, dVar, dC, dOp, dUn, dNil, dCons, pys, dTup, oLst, dCB, oCB, dCall, dCall0, dCallR, fAdd, oOp, fCat, fInt, fIntC, fNeg, fEq, isNonD, fIsN, fIn, fIx, dTest, dAnd, dOr, dNot, dAndV, dOrV, dNotV, dIfE, dChain, dFld, dNext, dSeq, dRet, dRetN, dDrop, dIfS, dBreak, dCont, dSet, dSetO, setAll, dSetT, dPar, itSeq, itRange1, itRange2, itEnum, Tg.put, Tg.ix, dFor, wipeL, dYes, oLc, dAppend, dPutIx, dFreeze, unown, hasOwn, noLD, okL, dSnap, dSnapT, dRaise, startD, dNoPart, dPart, dSl, oSl, fLen, fInt1, fAbs, fInt2, fDivmod, fTuple, fList, fSorted, oSortedSet, fRepr, fAll, fSum, isIntD, isBoolD, isStrD, isTupD, isSeqD, fIsT, dIsLT, dAug, dPutF, dFldI, dMake, startI, putD, dTupRev, dNewBox, dBoxPut, fRep, fEqS, oListRg, dPair, dWork, dSetA, fTimes, fIsOwn, fEqOwn, oSetC, dExtend, dPairO, oSnap, oSetJ, fInT, oSortedSetB, dMakeK, dLenSet, List.map, List.cons_append, List.nil_append, List.append_eq, List.getElem?_cons_zero, List.getElem?_cons_succ, List.set_cons_zero, List.set_cons_succ, List.lookup_cons, List.lookup_nil]
      refine ⟨by omega, ?_⟩
      have n0 : 0 ≤ ((i : Int) + 1 - (len : Int) + (q : Int)) % (r.length : Int) := Int.emod_nonneg _ (by omega)
      have n1 : ((i : Int) + 1 - (len : Int) + (q : Int)) % (r.length : Int) < (r.length : Int) := Int.emod_lt_of_pos _ (by omega)
      rw [show 0 + (i : Int) + 1 - (len : Int) + (q : Int) = (i : Int) + 1 - (len : Int) + (q : Int) by omega]
      generalize ((i : Int) + 1 - (len : Int) + (q : Int)) % (r.length : Int) = z at n0 n1 kk2 ⊢
      obtain ⟨j, rfl⟩ := Int.eq_ofNat_of_zero_le n0
      have hj : j < r.length := by omega
      rw [Int.toNat_natCast, List.getD_eq_getElem?_getD, List.getElem?_eq_getElem hj] at kk2
      exact ⟨_, atI_nat (j := j) (by rw [List.getElem?_map, List.getElem?_eq_getElem hj]; rfl), kk2⟩
    · have kk : K (.py (.tuple ((stretchL r len i).map .int))) := kk
      unfold stretchL at kk
      rw [List.map_map] at kk
      exact kk
  | _ => exact Bool.noConfusion sv

theorem count_nodup : ∀ (ls ds : List (List Int)), ds.Nodup → (∀ k, k ∈ ds ↔ k ∈ ls) → ls.length ≤ ds.length → ls.Nodup
  | [], _, _, _, _ => List.nodup_nil
  | x :: t, ds, nd, iff, le => by
    rw [List.length_cons] at le
    by_cases c : x ∈ t
    · have z : ds.length ≤ t.length := nd.length_le_of_subset (l₂ := t) fun k hk => by
        rcases List.mem_cons.mp ((iff k).mp hk) with e | e
        · rw [e]
          exact c
        · exact e
      omega
    · have hx : x ∈ ds := (iff x).mpr List.mem_cons_self
      refine List.nodup_cons.mpr ⟨c, count_nodup t (ds.erase x) (nd.erase x) (fun k => ?_) (by rw [List.length_erase_of_mem hx]; omega)⟩
      rw [nd.mem_erase_iff, iff k, List.mem_cons]
      constructor
      · rintro ⟨h1, h2 | h2⟩
        · exact absurd h2 h1
        · exact h2
      · intro h
        exact ⟨fun e => c (e ▸ h), .inr h⟩
theorem count_eq {ls : List (List Int)} {m : Nat} (h : CountOf ls m) : decide ((m : Int) = (ls.length : Int)) = decide ls.Nodup := by
  obtain ⟨ds, nd, iff, rfl⟩ := h
  refine decide_eq_decide.mpr ⟨fun e => count_nodup ls ds nd iff (by omega), fun n => ?_⟩
  have a : ds.length ≤ ls.length := nd.length_le_of_subset (l₂ := ls) fun k hk => (iff k).mp hk
  have b : ls.length ≤ ds.length := n.length_le_of_subset (l₂ := ds) fun k hk => (iff k).mpr hk
  omega
theorem ints_all {mk : Nat} {v : PyData} (h : (itemsD v).all (isMk mk) = true) : itemsD v = (ringInts v).map .int := by
  unfold ringInts
  rw [List.map_map]
  conv => lhs; rw [← List.map_id (itemsD v)]
  refine List.map_congr_left fun d hd => ?_
  obtain ⟨i, rfl, _⟩ := numD_some (List.all_eq_true.mp h d hd)
  rfl
def nIsRingN : List Str := ["value", "marks", "length", "mark"]
theorem scIsRing : FnScope nIsRingN ["value", "marks", "length"] (defScope sIsRing) := ⟨rfl, rfl, rfl, by decide +kernel, rfl, by decide +kernel, by decide +kernel⟩
theorem ok_is_ring {f : Addr} {fd : FuncData} (F : Fun S.K "_is_ring" "_is_ring" sIsRing f fd) {tt : Tok} (B : Bare mg) (gR : mg "LONGEST_RING" = some (.int 10000 tt)) (Gn : Has P w S.K mg base L2.CX0 1 "is_number" ["value", "least", "greatest"] (spD S 3 spIsNumber)) (Gs : Has P w S.K mg base L2.CX0 1 "is_sequence" ["value", "fewest", "most"] (spD S 3 spIsSequence)) (Gst : Has P w S.K mg base L2.CX0 1 "_stretches" ["ring", "length"] (spD S 2 spStretches)) : FnOk P w S.K mg base L2.CX0 2 f fd ["value", "marks", "length"] (spD S 3 spIsRing) := by
  have nd : nIsRingN.Nodup := scIsRing.nd
  refine okD0 (N := nIsRingN) (k := 1) F scIsRing (hb := fun cdv A outer s H E hr => ?_)
  have hu2 : (A.deeper (envOfC "_is_ring" (defScope sIsRing) s.heap.objs.size f cdv)).units + 200 < cLine := by have := hr.un; omega
  have hu65 : (A.deeper (envOfC "_is_ring" (defScope sIsRing) s.heap.objs.size f cdv)).units + 65 < cLine := by omega
  refine ⟨_, _, (pss_cons (ps_if (PW.pt (pw_or (pt_not (pt_val (pe_has Gs (hr.mono (by decide)) (by rfl) (pa_cons (pv 0) (pa_cons pe_int (pa_cons (pe_glob (v := .int 10000) rfl gR ⟨_, rfl⟩) pa_nil)))))) (pw_or1 (pt_not (pt_val (pe_callB (r := rAll _) (cr_all rfl) (by rfl) B.all (by decide +kernel) (pa_cons (pe_lc (own := [("mark", 3)]) (g := gName 3) (tt := tYes) rfl nd (pi_seq (pv 0)) (blkOk_by (N := nIsRingN) (sc := defScope sIsRing) (by decide +kernel)) (fun _ _ _ _ _ => (pg_name (i := 3) nd rfl (Or.inl rfl))) (fun _ _ _ _ _ => pts_nil) (fun _ _ _ _ _ => (pe_has Gn (hr.mono (by decide)) (by rfl) (pa_cons (pv 3) (pa_cons pe_int (pa_cons (pe_op op_sub (pv 1) pe_int) pa_nil)))))) pa_nil))))))) (pss_one (ps_ret pe_bl)) pss_nil)
      (pss_one (ps_ret (pe_cmpR (op_eqD hr.units) (pe_lenSetT rfl hu65 (by rfl) B.len (by rfl) B.set (pe_has Gst (hr.mono (by decide)) (by rfl) (pa_cons (pv 0) (pa_cons (pv 2) pa_nil)))) (pe_callB (r := rLenA _) lenA (by rfl) B.len PySem.boot_len (pa_cons (pv 0) pa_nil)) (nomark _))))),
      (ls_seq (ls_if (lt_or (lt_not (lt_b (le_call0 (la_cons le_var (la_cons le_int (la_cons le_int la_nil)))))) (lt_not (lt_b (le_cb lc_all (la_cons (LO.le (lo_lc (g := .one 3) (li_seq le_var) lt_yes (le_call0 (la_cons le_var (la_cons le_int (la_cons (le_op l2_sub le_var le_int) la_nil)))))) la_nil))))) (ls_ret le_bl) ls_next)
      (ls_ret (le_op l2_eq (le_lenSet (le_call0 (la_cons le_var (la_cons le_var la_nil)))) (le_cb lc_len (la_cons le_var la_nil))))), fun ds Qd Ed hl h => ?_⟩
  obtain ⟨v, mk, len, rfl, m1, m8, l12, v64, h⟩ := h
  simp only [dOf, dVar, dC, dOp, dUn, dNil, dCons, pys, dTup, oLst, dCB, oCB, dCall, dCall0, dCallR, fAdd, oOp, fCat, fInt, fIntC, fNeg, fEq, isNonD, fIsN, fIn, fIx, dTest, dAnd, dOr, dNot, dAndV, dOrV, dNotV, dIfE, dChain, dFld, dNext, dSeq, dRet, dRetN, dDrop, dIfS, dBreak, dCont, dSet, dSetO, setAll, dSetT, dPar, itSeq, itRange1, itRange2, itEnum, Tg.put, Tg.ix, dFor, wipeL, dYes, oLc, dAppend, dPutIx, dFreeze, unown, hasOwn, noLD, okL, dSnap, dSnapT, dRaise, startD, dNoPart, dPart, dSl, oSl, fLen, fInt1, fAbs, fInt2, fDivmod, fTuple, fList, fSorted, oSortedSet, fRepr, fAll, fSum, isIntD, isBoolD, isStrD, isTupD, isSeqD, fIsT, dIsLT, dAug, dPutF, dFldI, dMake, startI, putD, dTupRev, dNewBox, dBoxPut, fRep, fEqS, oListRg, dPair, dWork, dSetA, fTimes, fIsOwn, fEqOwn, oSetC, dExtend, dPairO, oSnap, oSetJ, fInT, oSortedSetB, dMakeK, dLenSet, nIsRingN, List.map, List.cons_append, List.nil_append, List.append_eq, List.getElem?_cons_zero, List.getElem?_cons_succ, List.set_cons_zero, List.set_cons_succ, List.lookup_cons, List.lookup_nil, spIsSequence]
  unfold isRingB at h
  obtain ⟨sq, esq⟩ : ∃ b, b = seqB v 1 10000 := ⟨_, rfl⟩
  rw [← esq] at h ⊢
  cases sq with
  | false =>
    rw [if_pos (by decide), if_pos trivial]
    exact h
  | true =>
    rw [if_neg (by decide)]
    cases v with
    | list l | tuple l =>
      have v64 : l.length ≤ 64 := v64
      refine turns_map (fun d => .bool (isMk mk d)) (by omega) (fun d hd => ⟨_, rfl, fun K kk => ?_⟩) ⟨l.map (isMk mk), by rw [List.map_map]; rfl, ?_⟩
      · simp only [dOf, dVar, dC, dOp, dUn, dNil, dCons, pys, dTup, oLst, dCB, oCB, dCall, dCall0, dCallR, fAdd, oOp, fCat, fInt, fIntC, fNeg, fEq, isNonD, fIsN, fIn, fIx, dTest, dAnd, dOr, dNot, dAndV, dOrV, dNotV, dIfE, dChain, dFld, dNext, dSeq, dRet, dRetN, dDrop, dIfS, dBreak, dCont, dSet, dSetO, setAll, dSetT, dPar, itSeq, itRange1, itRange2, itEnum, Tg.put, Tg.ix, dFor, wipeL, dYes, oLc, dAppend, dPutIx, dFreeze, unown, hasOwn, noLD, okL, dSnap, dSnapT, dRaise, startD, dNoPart, dPart, dSl, oSl, fLen, fInt1, fAbs, fInt2, fDivmod, fTuple, fList, fSorted, oSortedSet, fRepr, fAll, fSum, isIntD, isBoolD, isStrD, isTupD, isSeqD, fIsT, dIsLT, dAug, dPutF, dFldI, dMake, startI, putD, dTupRev, dNewBox, dBoxPut, fRep, fEqS, oListRg, dPair, dWork, dSetA, fTimes, fIsOwn, fEqOwn, oSetC, dExtend, dPairO, oSnap, oSetJ, fInT, oSortedSetB, dMakeK, dLenSet, List.map, List.cons_append, List.nil_append, List.append_eq, List.getElem?_cons_zero, List.getElem?_cons_succ, List.set_cons_zero, List.set_cons_succ, List.lookup_cons, List.lookup_nil, List.length_cons, List.length_nil, Nat.reduceAdd, Nat.reduceSub, List.replicate, spIsNumber]
        exact kk
      · have ea2 : (l.map (isMk mk)).all id = l.all (isMk mk) := by rw [List.all_map]; rfl
        change Qd (.bl (true && l.all (isMk mk) && _)) at h
        cases ea : l.all (isMk mk) with
        | false =>
          refine iteT2 (show (!(l.map (isMk mk)).all id) = true by rw [ea2, ea]; rfl) ?_
          rw [ea] at h
          exact h
        | true =>
          refine iteF2 (show ¬ (!(l.map (isMk mk)).all id) = true by rw [ea2, ea]; decide) ?_
          rw [ea] at h
          have z := ints_all (v := .list l) (mk := mk) ea
          have z : l = (ringInts (.list l)).map .int := z
          have zl : (ringInts (.list l)).length = l.length := by unfold ringInts; rw [List.length_map]; rfl
          refine ⟨_, ringInts (.list l), len, rfl, rfl, z, by omega, l12, _, rfl, by rw [List.length_map, List.length_range]; omega, fun n cn => ?_⟩
          have e := count_eq cn
          rw [List.length_map, List.length_range, zl] at e
          show Qd (.bl (decide ((n : Int) = (l.length : Int)) != false))
          rw [e]
          change Qd (.bl (apartB (ringInts (.list l)) len)) at h
          have b : ∀ b : Bool, (b != false) = b := by decide
          unfold apartB at h
          rw [zl] at h
          rw [b]
          exact h
    | _ => exact Bool.noConfusion esq

end
end Pg

set_option Elab.async false
set_option linter.all false
set_option maxRecDepth 100000
set_option maxHeartbeats 4000000
/-! _ring_from as it is called: a fresh dict that holds the first stretch -/
namespace Pg
open PySem PySem.Spec PyProof.Rows L2 Lx Dl
section
variable {P : Program} {w : World} {mg : Str → Option Value} {base : Heap} {S : Sx} {E : XK}
def spRingAll (S : Sx) : Sp := fun vs H Q E => ∃ n, n ≤ 64 ∧ spRing S n vs H Q E
theorem ok_ringAll {f : Addr} {fd : FuncData} (F : Fun S.K "_ring_from" "_ring_from" sRingFrom f fd) (hm : mg "_ring_from" = some (.ref f)) (B : Bare mg) (Gir : Has P w S.K mg base L2.CX0 2 "_is_ring" ["value", "marks", "length"] (spD S 3 spIsRing)) :
    FnOk P w S.K mg base L2.CX0 68 f fd ["row", "told", "marks", "length", "size"] (spRingAll S) where
  len := fun vs H Q E ⟨n, _, h⟩ => (ok_ring F hm B Gir (n + 1)).len vs H Q E h
  run := fun A outer s H args us vs Q E hr e0 hb rv ⟨n, hn, h⟩ => ((ok_ring F hm B Gir (n + 1)).mono (by omega)).run A outer s H args us vs Q E hr e0 hb rv h
/-- what is found, or None -/
def ringD : Option (List Int) → DV
  | some r => .tup (r.map .int)
  | none => .non
def dRing (z m sh sz : Nat) : TD := fun ρ Qd Ed => dVar z ρ (fun dz => dVar m ρ (fun dm => dVar sh ρ (fun dl => dVar sz ρ (fun dn => ∃ (row : List Int) (mk len n : Nat), dz = .tup (row.map .int) ∧ dm = .int (mk : Nat) ∧ dl = .int (len : Nat) ∧ dn = .int ((row.length + n : Nat) : Int) ∧
  1 ≤ mk ∧ mk ≤ 8 ∧ 1 ≤ len ∧ len ≤ row.length ∧ len ≤ 12 ∧ row.length + n ≤ 64 ∧ (∀ x ∈ row, 0 ≤ x ∧ x < (mk : Int)) ∧ Qd (ringD (ringF mk len n row [row]))) Ed) Ed) Ed) Ed
theorem le_ring {z m sh sz : Nat} : LE S E (tCall (spRingAll S) [] L2.E0 (tCons (tVar z) (tCons (tDisp1T (tVar z) (tC (.bl true))) (tCons (tVar m) (tCons (tVar sh) (tCons (tVar sz) tNil)))))) (dRing z m sh sz) := by
  intro H0 ρ σ G H Qd Ed Q w st q k ke
  have var : ∀ {i : Nat} {Qd' : DV → Prop}, dVar i ρ Qd' Ed → ∃ d v, σ[i]? = some (some v) ∧ RV G v d ∧ Qd' d := fun {i Qd'} q => by
    unfold dVar at q
    split at q
    · rename_i d e
      obtain ⟨v, h1, h2⟩ := st.at_ i _ e
      exact ⟨d, v, h1, h2, q⟩
    · exact q.elim
  unfold dRing at q
  obtain ⟨dz, vz, ez, rz, q⟩ := var q
  obtain ⟨dm, vm, em, rm, q⟩ := var q
  obtain ⟨dl, vl, el, rl, q⟩ := var q
  obtain ⟨dn, vn, en, rn, q⟩ := var q
  obtain ⟨row, mk, len, n, rfl, rfl, rfl, rfl, m1, m8, l1, lr, l12, sz64, mks, q⟩ := q
  obtain ⟨r, xs, rfl, g1, g2⟩ := rv_tup rz
  cases rv_int rm
  cases rv_int rl
  cases rv_int rn
  have xe := rpa_ints g2
  subst xe
  have hrow : H r = some (.tup (row.map V.int)) := w.sub _ _ g1
  refine ⟨.ref r, ez, fun p np => ⟨.ref r, ez, row.map Sum.inl, r, rfl, by rw [key_ints]; exact same_new np _ _ hrow, upd_same, ?_⟩⟩
  rw [upd_upd]
  have sm : Same H (upd H p (.dT [(row.map Sum.inl, V.bl true)])) := same_new np
  have hd : (upd H p (.dT [(row.map Sum.inl, V.bl true)])) p = some (toldO [row]) := upd_same
  generalize upd H p (.dT [(row.map Sum.inl, V.bl true)]) = H1 at sm hd ⊢
  have w1 := w.same sm
  -- what stays, stays
  have step : ∀ {H' : Hp}, But p H1 H' → LamX.Tabs S.Tb H' → Step S G H G H' := fun {H'} bt tabs' => by
    have kp : ∀ a o, H a = some o → (∀ z, o ≠ .tbl z) → H' a = some o := fun a o h t => bt a o (fun e => by rw [e, np] at h; cases h) (sm _ _ h) t
    refine ⟨w, ⟨fun a o h => kp a o (w.sub _ _ h) (fun z e => w.tbl a z (e ▸ h)), fun b hb => ⟨?_, (w.box b hb).2⟩, w.tbl, tabs'⟩, Same.refl _, fun _ h => h, fun a o h _ t => kp a o h t, fun _ _ _ _ h => h, fun _ _ _ _ h => h, fun a o h t => ⟨o, kp a o h t, t⟩⟩
    obtain ⟨c0, cs, h1, h2, h3⟩ := (w.box b hb).1
    exact ⟨c0, cs, kp _ _ h1 (fun z e => by cases e), h2, h3⟩
  refine ⟨.int (mk : Nat), em, .int (len : Nat), el, .int ((row.length + n : Nat) : Int), en, n, by omega, r, p, row, [row], mk, len, rfl, sm _ _ hrow, hd, w1.tabs, m1, m8, l1, lr, l12, sz64, by show 1 ≤ row.length; omega, mks, fun r' row' H' e hr' bt tabs' => ?_, fun H' e bt _ tabs' => ?_⟩
  · rw [e] at q
    have s1 := step bt tabs'
    have nb : ¬ G.B r' := fun hb => by
      obtain ⟨c0, cs, h1, _⟩ := (s1.wf.box r' hb).1
      rw [hr'] at h1
      cases h1
    exact k (.ref r') _ _ H' (s1.freezeT hr' nb) (.py (.tup put_same (ints_rpa row'))) q
  · rw [e] at q
    exact k .non _ G H' (step bt tabs') (.py .non) q
end
end Pg

set_option Elab.async false
set_option linter.all false
set_option maxRecDepth 100000
set_option maxHeartbeats 4000000
namespace Pg
open PySem PySem.Spec PyProof.Rows L2 Lx Dl
section
variable {P : Program} {w : World} {mg : Str → Option Value} {base : Heap} {S : Sx}
variable {CF CG : Addr}
def spRingHolds (CF : Addr) : SpD := fun ds Q Ed => ∃ v u x, ds = [.py v, .py u, .py x] ∧ (itemsD x).length ≤ 64 ∧ (numD v 1 (some 8) = false → Ed ⟨CF, "at", .py v⟩) ∧ (numD v 1 (some 8) = true → (numD u 0 (some 12) = false → Ed ⟨CF, "at", .py u⟩) ∧ ∀ mk l : Nat, v = .int (mk : Nat) → u = .int (l : Nat) → 1 ≤ mk → mk ≤ 8 → l ≤ 12 → Q (.bl (isRingB x mk l)))
/-- ring_of, once its arguments are seen to -/
def spRingOf (CF CG : Addr) : SpD := fun ds Q Ed => ∃ v u x, ds = [.py v, .py u, .py x] ∧ (numD v 1 (some 8) = false → Ed ⟨CF, "at", .py v⟩) ∧ (numD v 1 (some 8) = true → (numD u 0 (some 12) = false → Ed ⟨CF, "at", .py u⟩) ∧ (numD u 0 (some 12) = true → (numD x 1 none = false → Ed ⟨CF, "at", .py x⟩) ∧
  ∀ mk l n : Nat, v = .int (mk : Nat) → u = .int (l : Nat) → x = .int (n : Nat) → 1 ≤ mk → mk ≤ 8 → l ≤ 12 → 1 ≤ n → (mk ^ l < n → Q .non) ∧ (n ≤ mk ^ l → (64 < n → Ed ⟨CG, "most", .int 64⟩) ∧ (n = 1 → Q (.tup [.int 0])) ∧
    (2 ≤ n → n ≤ 64 → ∀ sh : Nat, leastS mk (n : Int) = some sh → 1 ≤ sh → sh ≤ n → sh ≤ 12 → Q (ringD (ringF mk sh (n - sh) (List.replicate sh 0) [List.replicate sh 0]))))))
theorem flat_zero : ∀ k : Nat, (List.replicate k [PyData.int 0]).flatten = (List.replicate k (0 : Int)).map PyData.int
  | 0 => rfl
  | k + 1 => by
    rw [List.replicate_succ, List.flatten_cons, flat_zero k, List.replicate_succ]
    rfl
def leastOkB (mk n : Nat) : Bool := match leastS mk (n : Int) with
  | some sh => decide (1 ≤ sh) && decide (sh ≤ n) && decide (sh ≤ 12)
  | none => false
theorem leastOk_all : ((List.range' 2 7).all fun mk => (List.range' 2 63).all fun n => leastOkB mk n) = true := by decide +kernel
theorem leastS_some {mk n : Nat} (h2 : 2 ≤ mk) (h8 : mk ≤ 8) (n2 : 2 ≤ n) (n64 : n ≤ 64) : ∃ sh, leastS mk (n : Int) = some sh ∧ 1 ≤ sh ∧ sh ≤ n ∧ sh ≤ 12 := by
  have z := List.all_eq_true.mp (List.all_eq_true.mp leastOk_all mk (List.mem_range'_1.mpr ⟨h2, by omega⟩)) n (List.mem_range'_1.mpr ⟨n2, by omega⟩)
  unfold leastOkB at z
  cases e : leastS mk (n : Int) with
  | none =>
    rw [e] at z
    cases z
  | some sh =>
    rw [e] at z
    simp only [Bool.and_eq_true, decide_eq_true_eq] at z
    exact ⟨sh, rfl, z.1.1, z.1.2, z.2⟩
def nRingOfN : List Str := ["marks", "length", "size", "greatest", "shortest", "zeros"]
theorem scRingOf : FnScope nRingOfN ["marks", "length", "size"] (defScope sRingOf) := ⟨rfl, rfl, rfl, by decide +kernel, rfl, by decide +kernel, by decide +kernel⟩
theorem ok_ring_of {f : Addr} {fd : FuncData} (F : Fun S.K "ring_of" "ring_of" sRingOf f fd) {tt : Tok} (gF : mg "LONGEST_FOUND" = some (.int 64 tt)) (ErG : Err P w S.K mg base "TooGreat" "most" CG) (Ggr : Has P w S.K mg base (L2.CX P w) 5 "greatest_ring" ["marks", "length"] (spD S 2 (spGreatest CF))) (Gns : Has P w S.K mg base (L2.CX P w) 4 "_need_size" ["value"] (spD S 1 (spNeedSize CF))) (Gls : Has P w S.K mg base (L2.CX P w) 5 "least_stretch" ["marks", "size"] (spD S 2 (spLeastStretch CF))) (Gri : Has P w S.K mg base L2.CX0 68 "_ring_from" ["row", "told", "marks", "length", "size"] (spRingAll S)) : FnOk P w S.K mg base (L2.CX P w) 70 f fd ["marks", "length", "size"] (spD S 3 (spRingOf CF CG)) := by
  have nd : nRingOfN.Nodup := scRingOf.nd
  refine okDX (N := nRingOfN) (k := 69) F scRingOf (hb := fun cdv A outer s H E hr => ?_)
  have hu2 : (A.deeper (envOfC "ring_of" (defScope sRingOf) s.heap.objs.size f cdv)).units + 200 < cLine := by have := hr.un; omega
  have hu65 : (A.deeper (envOfC "ring_of" (defScope sRingOf) s.heap.objs.size f cdv)).units + 65 < cLine := by omega
  have tk : Takes (cxOf (L2.CX P w) P w S.K mg base nRingOfN "ring_of" (defScope sRingOf) f cdv A outer s H E) (fun cls d _ H => E cls d H) := takes_of rfl rfl rfl rfl
  refine ⟨_, _, (pss_cons (ps_set (i := 3) nd rfl (Or.inl rfl) (pe_hasX (E := E) Ggr (hr.mono (by decide)) tk (fun _ _ _ _ z => z) (by rfl) (pa_cons (pv 0) (pa_cons (pv 1) pa_nil))))
      (pss_cons (ps_if (pt_cmpR op_gt (pe_hasX (E := E) Gns (hr.mono (by decide)) tk (fun _ _ _ _ z => z) (by rfl) (pa_cons (pv 2) pa_nil)) (pv 3) (nomark _)) (pss_one (ps_ret pe_non)) pss_nil)
      (pss_cons (ps_if (pt_cmpR op_gt (pv 2) (pe_glob (v := .int 64) rfl gF ⟨_, rfl⟩) (nomark _)) (pss_one (ps_raiseErr rfl ErG (hr.mono (by decide)) tk (pe_glob (v := .int 64) rfl gF ⟨_, rfl⟩))) pss_nil)
      (pss_cons (ps_if (pt_cmpR (op_eqD hr.units) (pv 2) pe_int (nomark _)) (pss_one (ps_ret (pe_tup (pa_cons pe_int pa_nil)))) pss_nil)
      (pss_cons (ps_set (i := 4) nd rfl (Or.inl rfl) (pe_hasX (E := E) Gls (hr.mono (by decide)) tk (fun _ _ _ _ z => z) (by rfl) (pa_cons (pv 0) (pa_cons (pv 2) pa_nil))))
      (pss_cons (ps_set (i := 5) nd rfl (Or.inl rfl) (pe_op op_times (pe_tup (pa_cons pe_int pa_nil)) (pv 4)))
      (pss_one (ps_ret (pe_has Gri (hr.mono (by decide)) (by rfl) (pa_cons (pv 5) (pa_cons (pe_disp1T (Nat.lt_of_le_of_lt (Nat.add_le_add_left (by decide) _) hu65) (pv 5) pe_bl) (pa_cons (pv 0) (pa_cons (pv 4) (pa_cons (pv 2) pa_nil)))))))))))))),
      (ls_seq (ls_set (i := 3) (le_call (la_cons le_var (la_cons le_var la_nil))))
      (ls_seq (ls_if (lt_test (le_op l2_cmp (le_call (la_cons le_var la_nil)) le_var)) (ls_ret le_non) ls_next)
      (ls_seq (ls_if (lt_test (le_op l2_cmp le_var le_int)) (ls_raise le_int) ls_next)
      (ls_seq (ls_if (lt_test (le_op l2_eq le_var le_int)) (ls_ret (le_tup (la_cons le_int la_nil) (by decide))) ls_next)
      (ls_seq (ls_set (i := 4) (le_call (la_cons le_var (la_cons le_var la_nil))))
      (ls_seq (ls_set (i := 5) (le_op l2_times (le_tup (la_cons le_int la_nil) (by decide)) le_var))
      (ls_ret (le_ring (z := 5) (m := 0) (sh := 4) (sz := 2))))))))), fun ds Qd Ed hl h => ?_⟩
  obtain ⟨v, u, x, rfl, h1, h2⟩ := h
  simp only [dOf, dVar, dC, dOp, dUn, dNil, dCons, pys, dTup, oLst, dCB, oCB, dCall, dCall0, dCallR, fAdd, oOp, fCat, fInt, fIntC, fNeg, fEq, isNonD, fIsN, fIn, fIx, dTest, dAnd, dOr, dNot, dAndV, dOrV, dNotV, dIfE, dChain, dFld, dNext, dSeq, dRet, dRetN, dDrop, dIfS, dBreak, dCont, dSet, dSetO, setAll, dSetT, dPar, itSeq, itRange1, itRange2, itEnum, Tg.put, Tg.ix, dFor, wipeL, dYes, oLc, dAppend, dPutIx, dFreeze, unown, hasOwn, noLD, okL, dSnap, dSnapT, dRaise, startD, dNoPart, dPart, dSl, oSl, fLen, fInt1, fAbs, fInt2, fDivmod, fTuple, fList, fSorted, oSortedSet, fRepr, fAll, fSum, isIntD, isBoolD, isStrD, isTupD, isSeqD, fIsT, dIsLT, dAug, dPutF, dFldI, dMake, startI, putD, dTupRev, dNewBox, dBoxPut, fRep, fEqS, oListRg, dPair, dWork, dSetA, fTimes, fIsOwn, fEqOwn, oSetC, dExtend, dPairO, oSnap, oSetJ, fInT, oSortedSetB, dMakeK, dLenSet, nRingOfN, List.map, List.cons_append, List.nil_append, List.append_eq, List.getElem?_cons_zero, List.getElem?_cons_succ, List.set_cons_zero, List.set_cons_succ, List.lookup_cons, List.lookup_nil, List.length_cons, List.length_nil, Nat.reduceAdd, Nat.reduceSub, List.replicate]
  refine ⟨v, u, rfl, h1, fun hv => ⟨(h2 hv).1, fun mk l ev eu m1 m8 l12 => ?_⟩⟩
  subst ev
  subst eu
  have hu : numD (.int (l : Nat)) 0 (some 12) = true := by simp [numD]; omega
  obtain ⟨h3, h4⟩ := (h2 hv).2 hu
  refine ⟨x, rfl, fun hx => ?_, h3⟩
  obtain ⟨i, rfl, i1⟩ := numD_none hx
  obtain ⟨n, rfl⟩ := nat_of (lo := 1) i1
  obtain ⟨q1, q2⟩ := h4 mk l n rfl rfl rfl m1 m8 l12 (by omega)
  show (if decide (((mk ^ l : Nat) : Int) < (n : Int)) = true then _ else (if decide ((64 : Int) < (n : Int)) = true then _ else (if (decide ((n : Int) = 1) != false) = true then _ else _)))
  by_cases c1 : mk ^ l < n
  · rw [if_pos (decide_eq_true (by omega))]
    exact q1 c1
  rw [if_neg (by rw [decide_eq_true_eq]; omega)]
  obtain ⟨q2, q3, q4⟩ := q2 (by omega)
  by_cases c2 : 64 < n
  · rw [if_pos (decide_eq_true (by omega))]
    exact q2 c2
  rw [if_neg (by rw [decide_eq_true_eq]; omega)]
  by_cases c3 : n = 1
  · rw [if_pos (by rw [decide_eq_true (show (n : Int) = 1 by omega)]; rfl)]
    exact q3 c3
  rw [if_neg (by rw [decide_eq_false (show ¬ (n : Int) = 1 by omega)]; decide)]
  have mk2 : 2 ≤ mk := by
    rcases Nat.lt_or_ge mk 2 with z | z
    · have e : mk = 1 := by omega
      rw [e, Nat.one_pow] at c1
      omega
    · exact z
  obtain ⟨sh, es, s1, sn, s12⟩ := leastS_some mk2 m8 (n := n) (by omega) (by omega)
  have q := q4 (by omega) (by omega) sh es s1 sn s12
  refine ⟨_, _, rfl, fun z => (by rw [hv] at z; cases z), fun _ => ⟨fun z => (by rw [hx] at z; cases z), fun mk' s' e1 e2 _ _ _ => ?_⟩⟩
  have e1 : mk = mk' := by have := PyData.int.inj e1; omega
  have e2 : (n : Int) = s' := PyData.int.inj e2
  subst e1
  subst e2
  rw [es]
  refine ⟨⟨by decide, by decide⟩, ⟨by omega, by omega⟩, ?_⟩
  rw [Int.toNat_natCast, flat_zero]
  have len : (List.replicate sh (0 : Int)).length = sh := List.length_replicate
  exact ⟨List.replicate sh 0, mk, sh, n - sh, rfl, rfl, rfl, by rw [len, show sh + (n - sh) = n by omega], m1, m8, s1, by omega, s12, by omega, fun y hy => by rw [List.eq_of_mem_replicate hy]; omega, q⟩

end
end Pg

set_option Elab.async false
set_option linter.all false
set_option maxRecDepth 100000
set_option maxHeartbeats 4000000
/-! what _ring_from finds is a ring; where there is one, one is found -/
namespace Pg
open PySem PySem.Spec PyProof.Rows L2 Lx Dl
theorem ringF_sound {mk len : Nat} : ∀ (n : Nat) (row : List Int) (told : List (List Int)) (r : List Int), ringF mk len n row told = some r → r.length = row.length + n ∧ apartB r len = true ∧ ((∀ x ∈ row, 0 ≤ x ∧ x < (mk : Int)) → ∀ x ∈ r, 0 ≤ x ∧ x < (mk : Int))
  | 0, row, told, r, h => by
    have h : (if apartB row len = true then some row else none) = some r := h
    split at h
    · next c =>
      cases h
      exact ⟨rfl, c, fun z => z⟩
    · cases h
  | n + 1, row, told, r, h => by
    have h : (List.range mk).findSome? (ringStep mk len n row told) = some r := h
    obtain ⟨m, hm, e⟩ := List.exists_of_findSome?_eq_some h
    have hm := List.mem_range.mp hm
    unfold ringStep at e
    split at e
    · cases e
    · obtain ⟨a, b, c⟩ := ringF_sound n _ _ r e
      refine ⟨by rw [a, List.length_append]; show row.length + 1 + n = _; omega, b, fun z => c fun x hx => ?_⟩
      rcases List.mem_append.mp hx with hx | hx
      · exact z x hx
      · rw [List.mem_singleton.mp hx]
        omega
/-- the stretch that begins at place i, not gone round -/
def linL (R : List Int) (len i : Nat) : List Int := (R.drop i).take len
theorem linL_eq {R : List Int} {len i : Nat} (l1 : 1 ≤ len) (h : i + len ≤ R.length) : linL R len i = stretchL R len (i + len - 1) := by
  unfold linL stretchL
  refine List.ext_getElem? fun j => ?_
  by_cases c : j < len
  · rw [List.getElem?_take_of_lt c, List.getElem?_drop, List.getElem?_map, List.getElem?_range c]
    have e : (((i + len - 1 : Nat) : Int) + 1 - (len : Int) + (j : Int)) = ((i + j : Nat) : Int) := by omega
    have e2 : (((i + j : Nat) : Int) % (R.length : Int)).toNat = i + j := by
      rw [Int.emod_eq_of_lt (by omega) (by omega), Int.toNat_natCast]
    show _ = some (R.getD ((((i + len - 1 : Nat) : Int) + 1 - (len : Int) + (j : Int)) % (R.length : Int)).toNat 0)
    rw [e, e2, List.getD_eq_getElem?_getD, List.getElem?_eq_getElem (by omega)]
    rfl
  · rw [List.getElem?_eq_none (by rw [List.length_take]; omega), List.getElem?_eq_none (by rw [List.length_map, List.length_range]; omega)]
theorem apart_ne {R : List Int} {len p q : Nat} (ap : apartB R len = true) (hp : p < q) (hq : q < R.length) : stretchL R len p ≠ stretchL R len q := by
  have nd : ((List.range R.length).map (stretchL R len)).Nodup := of_decide_eq_true ap
  have z := List.pairwise_iff_getElem.mp nd p q (by rw [List.length_map, List.length_range]; omega) (by rw [List.length_map, List.length_range]; omega) hp
  rw [List.getElem_map, List.getElem_map, List.getElem_range, List.getElem_range] at z
  exact z
theorem ringF_some {mk len : Nat} {R : List Int} (l1 : 1 ≤ len) (mks : ∀ x ∈ R, 0 ≤ x ∧ x < (mk : Int)) (ap : apartB R len = true) : ∀ (n k : Nat), len ≤ k → k + n = R.length → (ringF mk len n (R.take k) ((List.range (k + 1 - len)).map (linL R len))).isSome = true
  | 0, k, lk, e => by
    have t : R.take k = R := List.take_of_length_le (by omega)
    show (if apartB (R.take k) len = true then some (R.take k) else none).isSome = true
    rw [t, if_pos ap]
    rfl
  | n + 1, k, lk, e => by
    have hk : k < R.length := by omega
    obtain ⟨x0, xm⟩ := mks R[k] (List.getElem_mem hk)
    obtain ⟨m, em⟩ := Int.eq_ofNat_of_zero_le x0
    have tk : R.take k ++ [(m : Int)] = R.take (k + 1) := by
      rw [← em, List.take_succ, List.getElem?_eq_getElem hk]
      rfl
    have lt : (R.take k).length = k := by rw [List.length_take]; omega
    have st : (R.take (k + 1)).drop (k + 1 - len) = linL R len (k + 1 - len) := by
      unfold linL
      rw [List.drop_take, show k + 1 - (k + 1 - len) = len by omega]
    have new : linL R len (k + 1 - len) ∉ (List.range (k + 1 - len)).map (linL R len) := fun z => by
      obtain ⟨i, hi, ei⟩ := List.mem_map.mp z
      have hi := List.mem_range.mp hi
      rw [linL_eq l1 (by omega), linL_eq l1 (by omega)] at ei
      exact apart_ne ap (by omega) (by omega) ei
    have more : (List.range (k + 1 - len)).map (linL R len) ++ [linL R len (k + 1 - len)] = (List.range (k + 1 + 1 - len)).map (linL R len) := by
      rw [show k + 1 + 1 - len = (k + 1 - len) + 1 by omega, List.range_succ, List.map_append]
      rfl
    have ih := ringF_some l1 mks ap n (k + 1) (by omega) (by omega)
    show ((List.range mk).findSome? (ringStep mk len n (R.take k) ((List.range (k + 1 - len)).map (linL R len)))).isSome = true
    rw [List.findSome?_isSome_iff]
    refine ⟨m, List.mem_range.mpr (by omega), ?_⟩
    unfold ringStep
    rw [tk, lt, st, if_neg new, more]
    exact ih
/-- what is told of a ring holds of the longer stretches, too -/
theorem stretch_tail {r : List Int} {a b p : Nat} (h : a ≤ b) : (stretchL r b p).drop (b - a) = stretchL r a p := by
  unfold stretchL
  refine List.ext_getElem? fun j => ?_
  rw [List.getElem?_drop, List.getElem?_map, List.getElem?_map]
  by_cases c : j < a
  · rw [List.getElem?_range (by omega), List.getElem?_range c]
    show some (r.getD (((p : Int) + 1 - (b : Int) + ((b - a + j : Nat) : Int)) % (r.length : Int)).toNat 0) = some (r.getD (((p : Int) + 1 - (a : Int) + (j : Int)) % (r.length : Int)).toNat 0)
    rw [show (p : Int) + 1 - (b : Int) + ((b - a + j : Nat) : Int) = (p : Int) + 1 - (a : Int) + (j : Int) by omega]
  · rw [List.getElem?_eq_none (by rw [List.length_range]; omega), List.getElem?_eq_none (by rw [List.length_range]; omega)]
    rfl
theorem apart_more {r : List Int} {a b : Nat} (h : a ≤ b) (ap : apartB r a = true) : apartB r b = true := by
  have nd : ((List.range r.length).map (stretchL r a)).Nodup := of_decide_eq_true ap
  refine decide_eq_true ?_
  have nd : (List.range r.length).Pairwise (fun p q => stretchL r a p ≠ stretchL r a q) := List.pairwise_map.mp nd
  refine List.pairwise_map.mpr (nd.imp fun {p q} ne e => ne ?_)
  rw [← stretch_tail h, ← stretch_tail h, e]
/-- a stretch as one number -/
def codeI (l : List Int) : Nat := l.foldl (fun a x => a * 9 + x.toNat) 0
def winC (len : Nat) : Nat → List Int → List Nat
  | 0, _ => []
  | n + 1, l => codeI (l.take len) :: winC len n l.tail
def distB : List Nat → Bool
  | [] => true
  | x :: t => t.all (fun y => !(Nat.beq x y)) && distB t
theorem distB_ne : ∀ {l : List Nat}, distB l = true → l.Pairwise (· ≠ ·)
  | [], _ => .nil
  | x :: t, h => by
    have h : (t.all (fun y => !(Nat.beq x y)) && distB t) = true := h
    rw [Bool.and_eq_true] at h
    refine .cons (fun y hy e => ?_) (distB_ne h.2)
    have z := List.all_eq_true.mp h.1 y hy
    subst e
    rw [Nat.beq_refl] at z
    cases z
theorem winC_eq (len : Nat) : ∀ (n : Nat) (l : List Int), winC len n l = (List.range n).map fun p => codeI ((l.drop p).take len)
  | 0, l => rfl
  | n + 1, l => by
    rw [List.range_succ_eq_map, List.map_cons, List.map_map]
    show codeI (l.take len) :: winC len n l.tail = _
    rw [winC_eq len n l.tail]
    congr 1
    refine List.map_congr_left fun p _ => ?_
    show codeI ((l.tail.drop p).take len) = codeI ((l.drop (p + 1)).take len)
    rw [List.drop_tail]
theorem win_eq {R : List Int} {len p : Nat} (hl : len ≤ R.length) (hp : p < R.length) : (((R ++ R).drop (R.length + 1 - len)).drop p).take len = stretchL R len p := by
  unfold stretchL
  refine List.ext_getElem? fun j => ?_
  by_cases c : j < len
  · rw [List.getElem?_take_of_lt c, List.getElem?_drop, List.getElem?_drop, List.getElem?_map, List.getElem?_range c]
    show _ = some (R.getD (((p : Int) + 1 - (len : Int) + (j : Int)) % (R.length : Int)).toNat 0)
    by_cases d : R.length + 1 - len + (p + j) < R.length
    · have e : (((p : Int) + 1 - (len : Int) + (j : Int)) % (R.length : Int)).toNat = R.length + 1 - len + (p + j) := by
        rw [← Int.add_emod_right, show (p : Int) + 1 - (len : Int) + (j : Int) + (R.length : Int) = ((R.length + 1 - len + (p + j) : Nat) : Int) by omega, Int.emod_eq_of_lt (by omega) (by omega), Int.toNat_natCast]
      rw [e, List.getElem?_append_left d, List.getD_eq_getElem?_getD, List.getElem?_eq_getElem d]
      rfl
    · have e : (((p : Int) + 1 - (len : Int) + (j : Int)) % (R.length : Int)).toNat = R.length + 1 - len + (p + j) - R.length := by
        rw [show (p : Int) + 1 - (len : Int) + (j : Int) = ((R.length + 1 - len + (p + j) - R.length : Nat) : Int) by omega, Int.emod_eq_of_lt (by omega) (by omega), Int.toNat_natCast]
      rw [e, List.getElem?_append_right (by omega), List.getD_eq_getElem?_getD, List.getElem?_eq_getElem (by omega)]
      rfl
  · rw [List.getElem?_eq_none (by rw [List.length_take]; omega), List.getElem?_eq_none (by rw [List.length_map, List.length_range]; omega)]
theorem apart_of {R : List Int} {len : Nat} (hl : len ≤ R.length) (h : distB (winC len R.length ((R ++ R).drop (R.length + 1 - len))) = true) : apartB R len = true := by
  have z := distB_ne h
  rw [winC_eq] at z
  have z := List.pairwise_map.mp z
  refine decide_eq_true (List.pairwise_map.mpr (List.pairwise_iff_getElem.mpr fun i j hi hj ij e => ?_))
  have q := List.pairwise_iff_getElem.mp z i j hi hj ij
  rw [List.length_range] at hi hj
  simp only [List.getElem_range] at q e
  rw [win_eq hl hi, win_eq hl hj, e] at q
  exact q rfl
end Pg

set_option Elab.async false
set_option linter.all false
set_option maxRecDepth 100000
set_option maxHeartbeats 4000000
/-! a ring of each size that is asked, written as a number -/
namespace Pg
open PySem PySem.Spec PyProof.Rows L2 Lx Dl
def digitsR (mk : Nat) : Nat → Nat → List Int
  | 0, _ => []
  | n + 1, c => (Int.ofNat (c % mk)) :: digitsR mk n (c / mk)
theorem digitsR_len (mk : Nat) : ∀ n c, (digitsR mk n c).length = n
  | 0, _ => rfl
  | n + 1, c => by
    show (digitsR mk n (c / mk)).length + 1 = n + 1
    rw [digitsR_len mk n]
theorem digitsR_ok {mk : Nat} (h : 1 ≤ mk) : ∀ n c, ∀ x ∈ digitsR mk n c, 0 ≤ x ∧ x < (mk : Int)
  | 0, _, x, hx => by cases hx
  | n + 1, c, x, hx => by
    rcases List.mem_cons.mp hx with rfl | hx
    · have := Nat.mod_lt c h
      show (0 : Int) ≤ ((c % mk : Nat) : Int) ∧ ((c % mk : Nat) : Int) < (mk : Int)
      omega
    · exact digitsR_ok h n _ x hx
def certB (mk n c : Nat) : Bool := match leastS mk (n : Int) with
  | some sh => decide (1 ≤ sh) && decide (sh ≤ n) && decide (sh ≤ 12) && decide ((digitsR mk n c).take sh = List.replicate sh 0) && distB (winC sh n ((digitsR mk n c ++ digitsR mk n c).drop (n + 1 - sh)))
  | none => false
/-- a ring of n marks below mk is found -/
def Found (mk n : Nat) : Prop := ∃ (sh : Nat) (r : List Int), leastS mk (n : Int) = some sh ∧ 1 ≤ sh ∧ sh ≤ n ∧ sh ≤ 12 ∧ ringF mk sh (n - sh) (List.replicate sh 0) [List.replicate sh 0] = some r ∧ r.length = n ∧ apartB r sh = true ∧ ∀ x ∈ r, 0 ≤ x ∧ x < (mk : Int)
theorem found_of {mk n c : Nat} (h1 : 1 ≤ mk) (h : certB mk n c = true) : Found mk n := by
  unfold certB at h
  split at h
  · rename_i sh e
    simp only [Bool.and_eq_true, decide_eq_true_eq] at h
    obtain ⟨⟨⟨⟨a1, a2⟩, a3⟩, a4⟩, a5⟩ := h
    have len := digitsR_len mk n c
    have ap : apartB (digitsR mk n c) sh = true := apart_of (by rw [len]; exact a2) (by rw [len]; exact a5)
    have z := ringF_some a1 (digitsR_ok h1 n c) ap (n - sh) sh (Nat.le_refl _) (by rw [len]; omega)
    rw [show sh + 1 - sh = 1 by omega] at z
    have w1 : (List.range 1).map (linL (digitsR mk n c) sh) = [List.replicate sh 0] := by
      show [((digitsR mk n c).drop 0).take sh] = _
      rw [List.drop_zero, a4]
    rw [w1, a4] at z
    obtain ⟨r, er⟩ := Option.isSome_iff_exists.mp z
    obtain ⟨b1, b2, b3⟩ := ringF_sound _ _ _ r er
    rw [List.length_replicate] at b1
    exact ⟨sh, r, e, a1, a2, a3, er, by omega, b2, b3 fun x hx => by rw [List.eq_of_mem_replicate hx]; omega⟩
  · cases h
def certsB (mk : Nat) : Nat → List Nat → Bool
  | _, [] => true
  | n, c :: cs => certB mk n c && certsB mk (n + 1) cs
theorem certs_of {mk : Nat} (h1 : 1 ≤ mk) : ∀ (cs : List Nat) (n : Nat), certsB mk n cs = true → ∀ m, n ≤ m → m < n + cs.length → Found mk m
  | [], n, _, m, a, b => by
    rw [List.length_nil] at b
    omega
  | c :: cs, n, h, m, a, b => by
    have h : (certB mk n c && certsB mk (n + 1) cs) = true := h
    rw [Bool.and_eq_true] at h
    rw [List.length_cons] at b
    rcases Nat.eq_or_lt_of_le a with e | e
    · subst e
      exact found_of h1 h.1
    · exact certs_of h1 cs (n + 1) h.2 m e (by omega)
def rings2 : List Nat := [2, 4, 12, 24, 56, 104, 232, 400, 912, 1936, 3664, 7568, 15760, 30096, 62864, 124448, 239136, 501280, 960032, 1877536, 3974688, 8168992, 16164384, 32941600, 64792096, 131900960, 257730080, 526165536, 1055237664, 2069669408, 4217153056, 8216975424, 16270039104, 33449908288, 65662163008, 134381639744, 271820593216, 529518630976, 1044914706496, 2144426334272, 4343449589824, 8466618193984, 17262711216192, 33755385632832, 66740734466112, 137109478643776, 277846966999104, 557122920454208, 1106878734342208, 2175604036540480, 4429602873481280, 8933202500851776, 17658926778882112, 35673325288364096, 70576222400485440, 142633816438413376, 283371304793741376, 571601680945453120, 1133425734459922496, 2286347239066769472, 4570798150050453568, 9059761078631995456, 18283133115486771264]
theorem rings2_ok : certsB 2 2 rings2 = true := by decide +kernel
def rings3 : List Nat := [3, 21, 36, 171, 657, 1872, 5517, 18639, 47412, 145827, 441072, 1267758, 4456404, 12428019, 39531510, 125624952, 369556371, 1058303907, 3382826841, 10270302201, 30114840582, 89390175399, 267216179850, 832075252812, 2432509292871, 7516240949529, 21941273138166, 64305703610316, 193940860855095, 575220735104445, 1741937150307456, 5379347150646255, 15879794887473354, 46763464701670704, 141267494333114595, 424779583227446268, 1275315849910441287, 3776893104860426637, 11431719505007381808, 35747050423121239410, 104640488024443835949, 307268245675392649299, 963782180464466804553, 2823904995700176911106, 8404273441407307230765, 24817121811134161112115, 77994750529049167687689, 237527636682794187414411, 689537480785071743306790, 2098744641809819417559501, 6406132567960934950180995, 18849697687953046488865311, 57616189023313086282458757, 171761969066317647896928348, 514199309195331332740337121, 1522128083914692367373766717, 4662213882078855590654835843, 13908022065562225081426872714, 42168794249039694090956494848, 123811025001307937896264292124, 378157974652605158982030891330, 1123928351716593924511284808755, 3387930212192955608496935648601]
theorem rings3_ok : certsB 3 2 rings3 = true := by decide +kernel
def rings4 : List Nat := [4, 36, 228, 528, 2576, 12816, 61968, 225808, 881168, 3764752, 14250512, 64582160, 249131536, 987329040, 4208554512, 15322587200, 58272260160, 225775984704, 1050409705536, 3799188774976, 15618938773568, 63997450395712, 253113450373184, 991985264238656, 4088210008055872, 16473108983324736, 63760905070714944, 279933687184498752, 1072567221601706048, 4387216547346391104, 18222274602628554816, 71256663814543515712, 278782534643775971392, 1164226250181834448960, 4632214136039230152768, 17913869869110107316288, 74582267663545849880640, 289745090539294059929664, 1170171291689303539458112, 4645833023081362416738368, 18548479948649597925859392, 75367993470537169137049664, 297810344279628937282986048, 1187579747515996009866731584, 4901399865372136834564104256, 19137710317154009995904032832, 77320892163566882916162871360, 310053619549218374597198225472, 1221177488463258256922953654336, 4944901126633682123819519320128, 20156708329372434941779957784640, 78468635939870987410628305231936, 321857551183691032497995320664128, 1275130802555319542423516131106880, 5007094169627226900429810367733824, 20583984745231709786021299355394112, 82648158132405821283299888290603072, 326929499398786539869320582779379776, 1303081308803334134033053892672757824, 5207688546421524510687987132246270016, 21158424495840514985533671855610404928, 83632140297731561012012603688786600000, 338843915488435408609543559262612758592]
theorem rings4_ok : certsB 4 2 rings4 = true := by decide +kernel
def rings5 : List Nat := [5, 55, 430, 2930, 7525, 48150, 282525, 1610650, 9423150, 42626275, 208641900, 1087548150, 5237938775, 28431298150, 132191063775, 742542626275, 3489124657525, 17222034813775, 89701282860650, 433024036766900, 2340372669579400, 11400278675438775, 56699808704735650, 295118387806298150, 1443966712408234500, 6510361518316437625, 33034428443365265750, 167144879187994172000, 830246552314214875125, 4108502014960699250125, 20872308358039312531375, 104691340073432378937625, 514473272904242925812625, 2726364387616004400422000, 13203743352040137701203250, 64426484955891456060578250, 355464789523228492193390750, 1665137160076245154791047000, 8431777741266831244878937625, 42992576408638104285650422000, 212158590938402756537847687625, 1048893716569496735419683625125, 5368993549990905865516119172000, 26742119041654719456519537140750, 131334009745541466816749029328250, 671346488923217608078803472687625, 3371408884811598314389075689484500, 16445395222797441734417762212922000, 87499668798807460321530188970734500, 425007468284855048610314216070343875, 2148073602503097999347790564947297000, 11029857799504350322736843909673859500, 54106511154960424091173752631597687625, 267269331882990479852511032905035187625, 1377492356508147020276142700995855500125, 6817585177171414068351937874640875031375, 33462937768175171038519097908820562531375, 172240815846319738591473056420173101593875, 859191312333135347978595151051368169953250, 4189860386208604969249490155323829107453250, 21537095145976675913368734969242896490265750, 105185461157578314005911733461960639410187625, 528943711869192751028856645776375617437531375]
theorem rings5_ok : certsB 5 2 rings5 = true := by decide +kernel
def rings8 : List Nat := [8, 136, 1672, 18056, 181896, 1754760, 16434824, 67903552, 604774464, 5436612672, 48386285632, 417753473088, 3716288356416, 31204079050816, 277494683672640, 2036713288114240, 16110462123647040, 130952252621594688, 1031672178095693888, 8525661958040199232, 66171737188382548032, 555010455141685665856, 4244359269883595989056, 36120333029253701181504, 272238657172735961866304, 2350079909635379855892544, 17461652654818244539719744, 152861344451656712106811456, 1139344813257194118667051072, 9031212563701493371148968000, 73404094606541267665903427648, 578483630634976419824746111040, 4777576243890986312282575478848, 37102666549710836050448507215936, 310915196199008386773736399577152, 2379720975771478770016356030750784, 20228241426984948743089937162444864, 152631811319623053270617593557557312, 1315706307631424442061448771302858816, 9955688280233377615936194663125098560, 79075544061049003006934161797703016512, 642668214273853333118148355356569116736, 5066338984246053358142018251969555865664, 41816834611707407412186475854600522702912, 324931763889928209013714149237831674634304, 2720519627013334991795871385557479883284544, 20839875100819466294293642482084273606893632, 176945091490533828285043670390622804148756544, 1358884587012656854786436738840985963965718592, 10814400551189641066797581286443891242501414976, 87885775957311474643945023636716628607169732672, 693038797664638464212658274683302566433454301248, 5716950675989617245537824887145525446500722417728, 44446744065258544577935472954127025467382934806592, 371823110827380798255560875482574421870311824433216, 2897297940135181040911528266416311479835763258695744, 23101096574597582982159267393886207943559374732795968, 187724641003550487688622326951048327277603616373612608, 1480767753609144211928477631109121700955914750716026944, 12208236539670366220436906821161285986287088606001242176, 96495491287294253430145993314428291085317740326099361856, 770793529268285351107818685260564331877562954086884319296, 6263257547731631019464134430567272445967123967992914518080]
theorem rings8_ok : certsB 8 2 rings8 = true := by decide +kernel
theorem found_all {mk n : Nat} (h : mk ∈ [2, 3, 4, 5, 8]) (n2 : 2 ≤ n) (n64 : n ≤ 64) : Found mk n := by
  simp only [List.mem_cons, List.not_mem_nil, or_false] at h
  rcases h with rfl | rfl | rfl | rfl | rfl
  · exact certs_of (by decide) rings2 2 rings2_ok n n2 (by show n < 2 + 63; omega)
  · exact certs_of (by decide) rings3 2 rings3_ok n n2 (by show n < 2 + 63; omega)
  · exact certs_of (by decide) rings4 2 rings4_ok n n2 (by show n < 2 + 63; omega)
  · exact certs_of (by decide) rings5 2 rings5_ok n n2 (by show n < 2 + 63; omega)
  · exact certs_of (by decide) rings8 2 rings8_ok n n2 (by show n < 2 + 63; omega)
end Pg

set_option Elab.async false
set_option linter.all false
set_option maxRecDepth 100000
set_option maxHeartbeats 4000000
namespace Lw
open PySem PySem.Spec PyProof.Rows L2 Lx Dl Pg
section
variable {P : Program} {w : World} {mg : Str → Option Value} {base : Heap} {S : Sx}
/-- a draw below n -/
def spTake : SpD := fun ds Q _ => ∃ n : Nat, ds = [.box, .int (n : Nat)] ∧ 1 ≤ n ∧ n < 1073741824 ∧ ∀ r : Nat, r < n → Q (.int (r : Nat))
theorem mod_nat (z : Int) {n : Nat} (h : 1 ≤ n) : ∃ r : Nat, z % (n : Int) = r ∧ r < n := by
  have z1 := Int.emod_nonneg z (show (n : Int) ≠ 0 by omega)
  have z2 := Int.emod_lt_of_pos z (show (0 : Int) < (n : Int) by omega)
  exact ⟨(z % (n : Int)).toNat, by omega, by omega⟩
def nLawTakeN : List Str := ["box", "many", "digit", "raw"]
theorem scLawTake : FnScope nLawTakeN ["box", "many"] (defScope sLawTake) := ⟨rfl, rfl, rfl, by decide +kernel, rfl, by decide +kernel, by decide +kernel⟩
theorem ok_law_take {f : Addr} {fd : FuncData} (F : Fun S.K "_law_take" "_law_take" sLawTake f fd) (B : Bare mg) (nb : S.nb = 2) : FnOk P w S.K mg base L2.CX0 1 f fd ["box", "many"] (spD S 2 spTake) := by
  have nd : nLawTakeN.Nodup := scLawTake.nd
  refine okD0 (N := nLawTakeN) (k := 0) F scLawTake (hb := fun cdv A outer s H E hr => ?_)
  have hu2 : (A.deeper (envOfC "_law_take" (defScope sLawTake) s.heap.objs.size f cdv)).units + 200 < cLine := by have := hr.un; omega
  have hu65 : (A.deeper (envOfC "_law_take" (defScope sLawTake) s.heap.objs.size f cdv)).units + 65 < cLine := by omega
  refine ⟨_, _, (pss_cons (ps_if (pt_cmpR op_gt (pe_ix (r := rIx _) ix_seq (pv 0) pe_int (fun _ _ => rfl)) pe_int (nomark _)) (pss_cons (ps_set (i := 2) nd rfl (Or.inl rfl) (pe_op op_mod (pe_callTy call_int1 (by rfl) B.int boot_int (pa_cons (pe_ix (r := rIx _) ix_seq (pv 0) pe_int (fun _ _ => rfl)) pa_nil)) (pv 1)))
      (pss_cons (ps_asg (pe_op op_fdiv (pe_ix (r := rIx _) ix_seq (pv 0) pe_int (fun _ _ => rfl)) (pv 1)) (pg_sub (pv 0) pe_int set_list (fun _ => rfl)))
      (pss_one (ps_ret (pv 2))))) pss_nil)
      (pss_cons (ps_set (i := 3) nd rfl (Or.inl rfl) (pe_op op_mod (pe_callTy call_int1 (by rfl) B.int boot_int (pa_cons (pe_op op_addA (pe_op op_mul (pe_ix (r := rIx _) ix_seq (pv 0) pe_int (fun _ _ => rfl)) pe_int) pe_int) pa_nil)) pe_int))
      (pss_cons (ps_asg (pe_op op_addA (pe_op op_mod (pe_callTy call_int1 (by rfl) B.int boot_int (pa_cons (pe_op op_addA (pe_op op_mul (pv 3) pe_int) pe_int) pa_nil)) pe_int) pe_int) (pg_sub (pv 0) pe_int set_list (fun _ => rfl)))
      (pss_one (ps_ret (pe_op op_mod (pe_callTy call_int1 (by rfl) B.int boot_int (pa_cons (pe_op op_fdiv (pe_op op_addA (pe_op op_mul (pv 3) pe_int) (pe_ix (r := rIx _) ix_seq (pv 0) pe_int (fun _ _ => rfl))) pe_int) pa_nil)) (pv 1))))))),
      (ls_seq (ls_if (lt_test (le_op l2_cmp (le_op l2_ix le_var le_int) le_int)) (ls_seq (ls_set (i := 2) (le_op l2_intC (le_cb lc_int1 (la_cons (le_op l2_ix le_var le_int) la_nil)) le_var))
      (ls_seq (ls_boxPut (i := 0) (le_op l2_intC (le_op l2_ix le_var le_int) le_var))
      (ls_ret le_var))) ls_next)
      (ls_seq (ls_set (i := 3) (le_op l2_intC (le_cb lc_int1 (la_cons (le_op l2_add (le_op l2_intC (le_op l2_ix le_var le_int) le_int) le_int) la_nil)) le_int))
      (ls_seq (ls_boxPut (i := 0) (le_op l2_add (le_op l2_intC (le_cb lc_int1 (la_cons (le_op l2_add (le_op l2_intC le_var le_int) le_int) la_nil)) le_int) le_int))
      (ls_ret (le_op l2_intC (le_cb lc_int1 (la_cons (le_op l2_intC (le_op l2_add (le_op l2_intC le_var le_int) (le_op l2_ix le_var le_int)) le_int) la_nil)) le_var))))), fun ds Qd Ed hl h => ?_⟩
  obtain ⟨n, rfl, h1, h2, h⟩ := h
  have hq : ∀ z : Int, Qd (.int (z % (n : Int))) := fun z => by
    obtain ⟨r, e, hr⟩ := mod_nat z h1
    rw [e]
    exact h r hr
  have np : 0 < n := h1
  simp [dOf, dVar, dC, dOp, dUn, dNil, dCons, pys, dTup, oLst, dCB, oCB, dCall, dCall0, dCallR, fAdd, oOp, fCat, fInt, fIntC, fNeg, fEq, isNonD, fIsN, fIn, fIx, dTest, dAnd, dOr, dNot, dAndV, dOrV, dNotV, dIfE, dChain, dFld, dNext, dSeq, dRet, dRetN, dDrop, dIfS, dBreak, dCont, dSet, dSetO, setAll, dSetT, dPar, itSeq, itRange1, itRange2, itEnum, Tg.put, Tg.ix, dFor, wipeL, dYes, oLc, dAppend, dPutIx, dFreeze, unown, hasOwn, noLD, okL, dSnap, dSnapT, dRaise, startD, dNoPart, dPart, dSl, oSl, fLen, fInt1, fAbs, fInt2, fDivmod, fTuple, fList, fSorted, oSortedSet, fRepr, fAll, fSum, isIntD, isBoolD, isStrD, isTupD, isSeqD, fIsT, dIsLT, dAug, dPutF, dFldI, dMake, startI, putD, dTupRev, dNewBox, dBoxPut, fRep, fEqS, oListRg, dPair, dWork, dSetA, fTimes, fIsOwn, fEqOwn, oSetC, dExtend, dPairO, oSnap, oSetJ, fInT, oSortedSetB, dMakeK, dLenSet, nLawTakeN, List.map, List.cons_append, List.nil_append, List.append_eq, List.getElem?_cons_zero, List.getElem?_cons_succ, List.set_cons_zero, List.set_cons_succ, List.lookup_cons, List.lookup_nil, nb, CMul, CDiv, np, h2]
  intro c hc
  split
  · intro c1 hc1 c2 hc2
    exact ⟨by omega, Int.ediv_nonneg hc2 (by omega), hq _⟩
  · intros
    exact hq _

/-- the box of draws for a turn -/
def spBoxOf (S : Sx) : SpD := fun ds Q _ => ∃ (ns : List Int) (k : Nat), ds = [.scr S.K ns, .int (k : Nat)] ∧ Q .box
def nLawBoxN : List Str := ["script", "k", "cell", "great"]
theorem scLawBox : FnScope nLawBoxN ["script", "k"] (defScope sLawBox) := ⟨rfl, rfl, rfl, by decide +kernel, rfl, by decide +kernel, by decide +kernel⟩
theorem ok_law_box {f : Addr} {fd : FuncData} (F : Fun S.K "_law_box" "_law_box" sLawBox f fd) (B : Bare mg) (nb : S.nb = 2) : FnOk P w S.K mg base L2.CX0 1 f fd ["script", "k"] (spD S 2 (spBoxOf S)) := by
  have nd : nLawBoxN.Nodup := scLawBox.nd
  refine okD0 (N := nLawBoxN) (k := 0) F scLawBox (hb := fun cdv A outer s H E hr => ?_)
  have hu2 : (A.deeper (envOfC "_law_box" (defScope sLawBox) s.heap.objs.size f cdv)).units + 200 < cLine := by have := hr.un; omega
  have hu65 : (A.deeper (envOfC "_law_box" (defScope sLawBox) s.heap.objs.size f cdv)).units + 65 < cLine := by omega
  refine ⟨_, _, (pss_cons (ps_set (i := 2) nd rfl (Or.inl rfl) (pe_op op_addA (pe_op op_mul pe_int (pv 1)) pe_int))
      (pss_cons (ps_if (pt_cmpR op_lt (pv 1) (pe_callB (r := rLenA _) lenA (by rfl) B.len PySem.boot_len (pa_cons (pv 0) pa_nil)) (nomark _)) (pss_one (ps_set (i := 2) nd rfl (Or.inl rfl) (pe_callB call_abs (by rfl) B.abs (by decide +kernel) (pa_cons (pe_callTy call_int1 (by rfl) B.int boot_int (pa_cons (pe_ix (r := rIx _) ix_seq (pv 0) (pv 1) (fun _ _ => rfl)) pa_nil)) pa_nil)))) (pss_one (ps_if (pt_cmpR op_gt (pe_callB (r := rLenA _) lenA (by rfl) B.len PySem.boot_len (pa_cons (pv 0) pa_nil)) pe_int (nomark _)) (pss_one (ps_set (i := 2) nd rfl (Or.inl rfl) (pe_op op_addA (pv 2) (pe_op op_mul (pe_op op_mod (pe_callTy call_int1 (by rfl) B.int boot_int (pa_cons (pe_callB call_abs (by rfl) B.abs (by decide +kernel) (pa_cons (pe_callTy call_int1 (by rfl) B.int boot_int (pa_cons (pe_ix (r := rIx _) ix_seq (pv 0) (pe_op op_mod (pe_callTy call_int1 (by rfl) B.int boot_int (pa_cons (pv 1) pa_nil)) (pe_callB (r := rLenA _) lenA (by rfl) B.len PySem.boot_len (pa_cons (pv 0) pa_nil))) (fun _ _ => rfl)) pa_nil)) pa_nil)) pa_nil)) pe_int) pe_int)))) pss_nil)))
      (pss_cons (ps_set (i := 3) nd rfl (Or.inl rfl) (pe_ifExp (pt_cmpR op_ge (pv 2) (pe_op op_pow pe_int pe_int) (nomark _)) (pv 2) pe_int))
      (pss_one (ps_ret (pe_lst (pa_cons (pv 3) (pa_cons (pe_op op_addA (pe_op op_mod (pe_callTy call_int1 (by rfl) B.int boot_int (pa_cons (pe_op op_addA (pe_op op_mul (pe_op op_mod (pe_callTy call_int1 (by rfl) B.int boot_int (pa_cons (pv 2) pa_nil)) pe_int) pe_int) (pe_op op_mul pe_int (pv 1))) pa_nil)) pe_int) pe_int) pa_nil)))))))),
      (ls_seq (ls_set (i := 2) (le_op l2_add (le_op l2_intC le_int le_var) le_int))
      (ls_seq (ls_if (lt_test (le_op l2_cmp le_var (le_cb lc_len (la_cons le_var la_nil)))) (ls_set (i := 2) (le_cb lc_abs (la_cons (le_cb lc_int1 (la_cons (le_op l2_ix le_var le_var) la_nil)) la_nil))) (ls_if (lt_test (le_op l2_cmp (le_cb lc_len (la_cons le_var la_nil)) le_int)) (ls_set (i := 2) (le_op l2_add le_var (le_op l2_intC (le_op l2_intC (le_cb lc_int1 (la_cons (le_cb lc_abs (la_cons (le_cb lc_int1 (la_cons (le_op l2_ix le_var (le_op l2_intC (le_cb lc_int1 (la_cons le_var la_nil)) (le_cb lc_len (la_cons le_var la_nil)))) la_nil)) la_nil)) la_nil)) le_int) le_int))) ls_next))
      (ls_seq (ls_set (i := 3) (le_ifE (lt_test (le_op l2_cmp le_var (le_op l2_intC le_int le_int))) le_var le_int))
      (ls_ret (le_newBox (lo_lst (la_cons le_var (la_cons (le_op l2_add (le_op l2_intC (le_cb lc_int1 (la_cons (le_op l2_add (le_op l2_intC (le_op l2_intC (le_cb lc_int1 (la_cons le_var la_nil)) le_int) le_int) (le_op l2_intC le_int le_var)) la_nil)) le_int) le_int) la_nil)) (by decide))))))), fun ds Qd Ed hl h => ?_⟩
  obtain ⟨ns, k, rfl, h⟩ := h
  have cp : CPow 10 18 := by refine ⟨by decide, by decide, by decide⟩
  have bx : ∀ c c1 : Int, 0 ≤ c → isBox 2 [.int c, .int c1] ∧ Qd .box := fun c c1 hc => ⟨⟨rfl, c, [c1], rfl, hc⟩, h⟩
  simp [dOf, dVar, dC, dOp, dUn, dNil, dCons, pys, dTup, oLst, dCB, oCB, dCall, dCall0, dCallR, fAdd, oOp, fCat, fInt, fIntC, fNeg, fEq, isNonD, fIsN, fIn, fIx, dTest, dAnd, dOr, dNot, dAndV, dOrV, dNotV, dIfE, dChain, dFld, dNext, dSeq, dRet, dRetN, dDrop, dIfS, dBreak, dCont, dSet, dSetO, setAll, dSetT, dPar, itSeq, itRange1, itRange2, itEnum, Tg.put, Tg.ix, dFor, wipeL, dYes, oLc, dAppend, dPutIx, dFreeze, unown, hasOwn, noLD, okL, dSnap, dSnapT, dRaise, startD, dNoPart, dPart, dSl, oSl, fLen, fInt1, fAbs, fInt2, fDivmod, fTuple, fList, fSorted, oSortedSet, fRepr, fAll, fSum, isIntD, isBoolD, isStrD, isTupD, isSeqD, fIsT, dIsLT, dAug, dPutF, dFldI, dMake, startI, putD, dTupRev, dNewBox, dBoxPut, fRep, fEqS, oListRg, dPair, dWork, dSetA, fTimes, fIsOwn, fEqOwn, oSetC, dExtend, dPairO, oSnap, oSetJ, fInT, oSortedSetB, dMakeK, dLenSet, nLawBoxN, List.map, List.cons_append, List.nil_append, List.append_eq, List.getElem?_cons_zero, List.getElem?_cons_succ, List.set_cons_zero, List.set_cons_succ, List.lookup_cons, List.lookup_nil, nb, CMul, CDiv, cp]
  have both : ∀ {p x y : Prop} [Decidable p], x → y → if p then x else y := fun {p x y} _ hx hy => by
    split
    · exact hx
    · exact hy
  split
  · rename_i hk
    refine ⟨_, atI_nat (List.getElem?_eq_getElem hk), both (bx _ _ ?_) (bx _ _ (Int.le_refl 0))⟩
    generalize ns[k] = z
    split <;> omega
  · split
    · rename_i hp
      have hm := Nat.mod_lt k hp
      refine ⟨hp, _, by rw [← Int.natCast_emod]; exact atI_nat (List.getElem?_eq_getElem hm), both (bx _ _ ?_) (bx _ _ (Int.le_refl 0))⟩
      generalize ns[k % ns.length] = z
      split <;> omega
    · exact both (bx _ _ (by omega)) (bx _ _ (Int.le_refl 0))

/-- one of some -/
def spPick : SpD := fun ds Q _ => ∃ l : List PyData, ds = [.box, .lst l] ∧ 1 ≤ l.length ∧ l.length < 1073741824 ∧ ∀ d ∈ l, Q (.py d)
def nLawPickN : List Str := ["box", "some"]
theorem scLawPick : FnScope nLawPickN ["box", "some"] (defScope sLawPick) := ⟨rfl, rfl, rfl, by decide +kernel, rfl, by decide +kernel, by decide +kernel⟩
theorem ok_law_pick {f : Addr} {fd : FuncData} (F : Fun S.K "_law_pick" "_law_pick" sLawPick f fd) (B : Bare mg) (Gt : Has P w S.K mg base L2.CX0 1 "_law_take" ["box", "many"] (spD S 2 spTake)) : FnOk P w S.K mg base L2.CX0 2 f fd ["box", "some"] (spD S 2 spPick) := by
  have nd : nLawPickN.Nodup := scLawPick.nd
  refine okD0 (N := nLawPickN) (k := 1) F scLawPick (hb := fun cdv A outer s H E hr => ?_)
  have hu2 : (A.deeper (envOfC "_law_pick" (defScope sLawPick) s.heap.objs.size f cdv)).units + 200 < cLine := by have := hr.un; omega
  have hu65 : (A.deeper (envOfC "_law_pick" (defScope sLawPick) s.heap.objs.size f cdv)).units + 65 < cLine := by omega
  refine ⟨_, _, (pss_one (ps_ret (pe_ix (r := rIx _) ix_seq (pv 1) (pe_has Gt (hr.mono (by decide)) (by rfl) (pa_cons (pv 0) (pa_cons (pe_callB (r := rLenA _) lenA (by rfl) B.len PySem.boot_len (pa_cons (pv 1) pa_nil)) pa_nil))) (fun _ _ => rfl)))),
      (ls_ret (le_op l2_ix le_var (le_call0 (la_cons le_var (la_cons (le_cb lc_len (la_cons le_var la_nil)) la_nil))))), fun ds Qd Ed hl h => ?_⟩
  obtain ⟨l, rfl, h1, h2, h⟩ := h
  simp [dOf, dVar, dC, dOp, dUn, dNil, dCons, pys, dTup, oLst, dCB, oCB, dCall, dCall0, dCallR, fAdd, oOp, fCat, fInt, fIntC, fNeg, fEq, isNonD, fIsN, fIn, fIx, dTest, dAnd, dOr, dNot, dAndV, dOrV, dNotV, dIfE, dChain, dFld, dNext, dSeq, dRet, dRetN, dDrop, dIfS, dBreak, dCont, dSet, dSetO, setAll, dSetT, dPar, itSeq, itRange1, itRange2, itEnum, Tg.put, Tg.ix, dFor, wipeL, dYes, oLc, dAppend, dPutIx, dFreeze, unown, hasOwn, noLD, okL, dSnap, dSnapT, dRaise, startD, dNoPart, dPart, dSl, oSl, fLen, fInt1, fAbs, fInt2, fDivmod, fTuple, fList, fSorted, oSortedSet, fRepr, fAll, fSum, isIntD, isBoolD, isStrD, isTupD, isSeqD, fIsT, dIsLT, dAug, dPutF, dFldI, dMake, startI, putD, dTupRev, dNewBox, dBoxPut, fRep, fEqS, oListRg, dPair, dWork, dSetA, fTimes, fIsOwn, fEqOwn, oSetC, dExtend, dPairO, oSnap, oSetJ, fInT, oSortedSetB, dMakeK, dLenSet, nLawPickN, List.map, List.cons_append, List.nil_append, List.append_eq, List.getElem?_cons_zero, List.getElem?_cons_succ, List.set_cons_zero, List.set_cons_succ, List.lookup_cons, List.lookup_nil]
  refine ⟨l.length, rfl, h1, h2, fun r hr => ?_⟩
  exact ⟨_, atI_nat (List.getElem?_eq_getElem hr), h _ (List.getElem_mem hr)⟩

end
end Lw

set_option Elab.async false
set_option linter.all false
set_option maxRecDepth 100000
set_option maxHeartbeats 4000000
namespace Pg
open PySem PySem.Spec PyProof.Rows L2 Lx Dl
section
variable {P : Program} {w : World} {mg : Str → Option Value} {base : Heap} {S : Sx}
theorem snm_tables_deeds : (Str.ofString "tables" = Str.ofString "deeds") = False := by simp only [eq_iff_iff, iff_false]; decide +kernel
theorem snm_tables_deedsb : (Str.ofString "tables" == Str.ofString "deeds") = false := by decide +kernel
theorem snm_tables_states : (Str.ofString "tables" = Str.ofString "states") = False := by simp only [eq_iff_iff, iff_false]; decide +kernel
theorem snm_tables_statesb : (Str.ofString "tables" == Str.ofString "states") = false := by decide +kernel
theorem snm_deeds_tables : (Str.ofString "deeds" = Str.ofString "tables") = False := by simp only [eq_iff_iff, iff_false]; decide +kernel
theorem snm_deeds_tablesb : (Str.ofString "deeds" == Str.ofString "tables") = false := by decide +kernel
theorem snm_deeds_states : (Str.ofString "deeds" = Str.ofString "states") = False := by simp only [eq_iff_iff, iff_false]; decide +kernel
theorem snm_deeds_statesb : (Str.ofString "deeds" == Str.ofString "states") = false := by decide +kernel
theorem snm_states_tables : (Str.ofString "states" = Str.ofString "tables") = False := by simp only [eq_iff_iff, iff_false]; decide +kernel
theorem snm_states_tablesb : (Str.ofString "states" == Str.ofString "tables") = false := by decide +kernel
theorem snm_states_deeds : (Str.ofString "states" = Str.ofString "deeds") = False := by simp only [eq_iff_iff, iff_false]; decide +kernel
theorem snm_states_deedsb : (Str.ofString "states" == Str.ofString "deeds") = false := by decide +kernel
theorem noIni_dv {d : DV} {r : Rho} : noIni (some (.dv d) :: r) = noIni r := rfl
theorem noIni_none {r : Rho} : noIni (none :: r) = noIni r := rfl
variable {CM CR CB CF CS CD : Addr}
/-- a row of whole numbers -/
def rowT (r : List Int) : PyData := .tuple (r.map .int)
/-- the machine of these tables, by deed -/
def mach (CM : Addr) (T : List (List Int)) : DV := .ins CM [("tables", .tup (T.map rowT)), ("deeds", .int (T.length : Nat)), ("states", .int ((T.headD []).length : Nat))]
theorem fld_deeds {T : List (List Int)} {Q : DV → Prop} : fldD CM (Str.ofString "deeds") (mach CM T) Q = Q (.int (T.length : Nat)) := by
  simp [fldD, mach, List.map, List.getElem?_cons_zero, List.getElem?_cons_succ, List.set_cons_zero, List.set_cons_succ, List.lookup_cons, List.lookup_nil, snm_tables_deeds, snm_tables_deedsb, snm_tables_states, snm_tables_statesb, snm_deeds_tables, snm_deeds_tablesb, snm_deeds_states, snm_deeds_statesb, snm_states_tables, snm_states_tablesb, snm_states_deeds, snm_states_deedsb]
theorem fld_states {T : List (List Int)} {Q : DV → Prop} : fldD CM (Str.ofString "states") (mach CM T) Q = Q (.int ((T.headD []).length : Nat)) := by
  simp [fldD, mach, List.map, List.getElem?_cons_zero, List.getElem?_cons_succ, List.set_cons_zero, List.set_cons_succ, List.lookup_cons, List.lookup_nil, snm_tables_deeds, snm_tables_deedsb, snm_tables_states, snm_tables_statesb, snm_deeds_tables, snm_deeds_tablesb, snm_deeds_states, snm_deeds_statesb, snm_states_tables, snm_states_tablesb, snm_states_deeds, snm_states_deedsb]
theorem fld_tables {T : List (List Int)} {Q : DV → Prop} : fldD CM (Str.ofString "tables") (mach CM T) Q = Q (.tup (T.map rowT)) := by
  simp [fldD, mach, List.map, List.getElem?_cons_zero, List.getElem?_cons_succ, List.set_cons_zero, List.set_cons_succ, List.lookup_cons, List.lookup_nil, snm_tables_deeds, snm_tables_deedsb, snm_tables_states, snm_tables_statesb, snm_deeds_tables, snm_deeds_tablesb, snm_deeds_states, snm_deeds_statesb, snm_states_tables, snm_states_tablesb, snm_states_deeds, snm_states_deedsb]
structure MachC (K : PySem.W.Frag) (C : Addr) : Prop where
  cl : Cls K C
  nD : NoAttr K C "deeds"
  nS : NoAttr K C "states"
  nT : NoAttr K C "tables"
def isDp (n : Nat) (v : PyData) : Bool := numD v 0 (some ((n : Int) - 1))
def spIsDeed (CM : Addr) : SpD := fun ds Q _ => ∃ T v, ds = [mach CM T, .py v] ∧ Q (.bl (isDp T.length v))
def spIsState (CM : Addr) : SpD := fun ds Q _ => ∃ T v, ds = [mach CM T, .py v] ∧ Q (.bl (isDp (T.headD []).length v))
def nIsDeedN : List Str := ["machine", "value"]
theorem scIsDeed : FnScope nIsDeedN ["machine", "value"] (defScope sIsDeed) := ⟨rfl, rfl, rfl, by decide +kernel, rfl, by decide +kernel, by decide +kernel⟩
theorem ok_is_deed {f : Addr} {fd : FuncData} (F : Fun S.K "is_deed" "is_deed" sIsDeed f fd) (M : MachC S.K CM) (Gn : Has P w S.K mg base L2.CX0 1 "is_number" ["value", "least", "greatest"] (spD S 3 spIsNumber)) : FnOk P w S.K mg base L2.CX0 2 f fd ["machine", "value"] (spD S 2 (spIsDeed CM)) := by
  have nd : nIsDeedN.Nodup := scIsDeed.nd
  refine okD0 (N := nIsDeedN) (k := 1) F scIsDeed (hb := fun cdv A outer s H E hr => ?_)
  have hu2 : (A.deeper (envOfC "is_deed" (defScope sIsDeed) s.heap.objs.size f cdv)).units + 200 < cLine := by have := hr.un; omega
  have hu65 : (A.deeper (envOfC "is_deed" (defScope sIsDeed) s.heap.objs.size f cdv)).units + 65 < cLine := by omega
  refine ⟨_, _, (pss_one (ps_ret (pe_has Gn (hr.mono (by decide)) (by rfl) (pa_cons (pv 1) (pa_cons pe_int (pa_cons (pe_op op_sub (pe_fld (pv 0) rfl) pe_int) pa_nil)))))),
      (ls_ret (le_call0 (la_cons le_var (la_cons le_int (la_cons (le_op l2_sub (le_fld M.cl M.nD le_var) le_int) la_nil))))), fun ds Qd Ed hl h => ?_⟩
  obtain ⟨T, v, rfl, h⟩ := h
  simp only [dOf, dVar, dC, dOp, dUn, dNil, dCons, pys, dTup, oLst, dCB, oCB, dCall, dCall0, dCallR, fAdd, oOp, fCat, fInt, fIntC, fNeg, fEq, isNonD, fIsN, fIn, fIx, dTest, dAnd, dOr, dNot, dAndV, dOrV, dNotV, dIfE, dChain, dFld, dNext, dSeq, dRet, dRetN, dDrop, dIfS, dBreak, dCont, dSet, dSetO, setAll, dSetT, dPar, itSeq, itRange1, itRange2, itEnum, Tg.put, Tg.ix, dFor, wipeL, dYes, oLc, dAppend, dPutIx, dFreeze, unown, hasOwn, noLD, okL, dSnap, dSnapT, dRaise, startD, dNoPart, dPart, dSl, oSl, fLen, fInt1, fAbs, fInt2, fDivmod, fTuple, fList, fSorted, oSortedSet, fRepr, fAll, fSum, isIntD, isBoolD, isStrD, isTupD, isSeqD, fIsT, dIsLT, dAug, dPutF, dFldI, dMake, startI, putD, nIsDeedN, spIsNumber, fld_deeds, fld_states, List.map, List.getElem?_cons_zero, List.getElem?_cons_succ, List.set_cons_zero, List.set_cons_succ, List.lookup_cons, List.lookup_nil, List.length_cons, List.length_nil, Nat.sub_self, List.replicate, List.append_nil]
  exact h

/-- what is wrong with a row: the first item that is none, or -1 -/
def rowFault (n : Nat) (v : PyData) : Option Int := if seqB v 0 400 = true then Option.map (fun i : Nat => (i : Int)) ((itemsD v).findIdx? fun x => !isDp n x) else some (-1)
def spCheckRow (CM CR : Addr) : SpD := fun ds Q Ed => ∃ T v, ds = [mach CM T, .py v] ∧ (∀ i, rowFault T.length v = some i → Ed ⟨CR, "at", .int i⟩) ∧ (rowFault T.length v = none → Q (.tup (itemsD v)))
def nCheckRowN : List Str := ["machine", "value", "at", "deed"]
theorem scCheckRow : FnScope nCheckRowN ["machine", "value"] (defScope sCheckRow) := ⟨rfl, rfl, rfl, by decide +kernel, rfl, by decide +kernel, by decide +kernel⟩
theorem ok_check_row {f : Addr} {fd : FuncData} (F : Fun S.K "check_row" "check_row" sCheckRow f fd) {tL : Tok} (B : Bare mg) (gR : mg "LONGEST_ROW" = some (.int 400 tL)) (ErR : Err P w S.K mg base "BadRow" "at" CR) (Gs : Has P w S.K mg base L2.CX0 1 "is_sequence" ["value", "fewest", "most"] (spD S 3 spIsSequence)) (Gd : Has P w S.K mg base L2.CX0 2 "is_deed" ["machine", "value"] (spD S 2 (spIsDeed CM))) : FnOk P w S.K mg base (L2.CX P w) 4 f fd ["machine", "value"] (spD S 2 (spCheckRow CM CR)) := by
  have nd : nCheckRowN.Nodup := scCheckRow.nd
  refine okDX (N := nCheckRowN) (k := 3) F scCheckRow (hb := fun cdv A outer s H E hr => ?_)
  have hu2 : (A.deeper (envOfC "check_row" (defScope sCheckRow) s.heap.objs.size f cdv)).units + 200 < cLine := by have := hr.un; omega
  have hu65 : (A.deeper (envOfC "check_row" (defScope sCheckRow) s.heap.objs.size f cdv)).units + 65 < cLine := by omega
  have tk : Takes (cxOf (L2.CX P w) P w S.K mg base nCheckRowN "check_row" (defScope sCheckRow) f cdv A outer s H E) (fun cls d _ H => E cls d H) := takes_of rfl rfl rfl rfl
  refine ⟨_, _, (pss_cons (ps_if (pt_not (pt_val (pe_has Gs (hr.mono (by decide)) (by rfl) (pa_cons (pv 1) (pa_cons pe_int (pa_cons (pe_glob (v := .int 400) rfl gR ⟨_, rfl⟩) pa_nil)))))) (pss_one (ps_raiseErr rfl ErR (hr.mono (by decide)) tk (pe_un un_neg pe_int))) pss_nil)
      (pss_cons (ps_for (passes_of rfl) rfl (pi_enumS (by rfl) B.enumerate (pa_cons (pv 1) pa_nil)) (pg_tup rfl (pgs_cons (pg_name (i := 2) nd rfl (Or.inl rfl)) (pgs_cons (pg_name (i := 3) nd rfl (Or.inl rfl)) pgs_nil)))
      (pss_one (ps_if (pt_not (pt_val (pe_has Gd (hr.mono (by decide)) (by rfl) (pa_cons (pv 0) (pa_cons (pv 3) pa_nil))))) (pss_one (ps_raiseErr rfl ErR (hr.mono (by decide)) tk (pv 2))) pss_nil)))
      (pss_one (ps_ret (pe_callTy (r := rTupOf _) tupOf (by rfl) B.tuple boot_tuple (pa_cons (pv 1) pa_nil)))))),
      (ls_seq (ls_if (lt_not (lt_b (le_call0 (la_cons le_var (la_cons le_int (la_cons le_int la_nil)))))) (ls_raise (le_un l1_int le_int)) ls_next)
      (ls_seq (ls_for (g := .many [2, 3]) (li_enum (la_cons le_var la_nil))
      (ls_if (lt_not (lt_b (le_call0 (la_cons le_var (la_cons le_var la_nil))))) (ls_raise le_var) ls_next))
      (ls_ret (le_cb lc_tuple (la_cons le_var la_nil))))), fun ds Qd Ed hl h => ?_⟩
  obtain ⟨T, v, rfl, h1, h2⟩ := h
  simp [dOf, dVar, dC, dOp, dUn, dNil, dCons, pys, dTup, oLst, dCB, oCB, dCall, dCall0, dCallR, fAdd, oOp, fCat, fInt, fIntC, fNeg, fEq, isNonD, fIsN, fIn, fIx, dTest, dAnd, dOr, dNot, dAndV, dOrV, dNotV, dIfE, dChain, dFld, dNext, dSeq, dRet, dRetN, dDrop, dIfS, dBreak, dCont, dSet, dSetO, setAll, dSetT, dPar, itSeq, itRange1, itRange2, itEnum, Tg.put, Tg.ix, dFor, wipeL, dYes, oLc, dAppend, dPutIx, dFreeze, unown, hasOwn, noLD, okL, dSnap, dSnapT, dRaise, startD, dNoPart, dPart, dSl, oSl, fLen, fInt1, fAbs, fInt2, fDivmod, fTuple, fList, fSorted, oSortedSet, fRepr, fAll, fSum, isIntD, isBoolD, isStrD, isTupD, isSeqD, fIsT, dIsLT, dAug, dPutF, dFldI, dMake, startI, putD, nCheckRowN, spIsSequence]
  cases e : seqB v 0 400
  · simp
    exact h1 (-1) (by simp [rowFault, e])
  · simp
    have h1' : ∀ i : Nat, ((itemsD v).findIdx? fun x => !isDp T.length x) = some i → Ed ⟨CR, "at", .int (i : Nat)⟩ := fun i hi => h1 i (by simp [rowFault, e, hi])
    have h2' : ((itemsD v).findIdx? fun x => !isDp T.length x) = none → Qd (.tup (itemsD v)) := fun hi => h2 (by simp [rowFault, e, hi])
    clear h1 h2
    cases v with
    | list l | tuple l => 
      simp [itemsD] at h1' h2' ⊢
      rw [enumD_R]
      refine loop_ind (fun ds ρ => ∃ (k : Nat) (l' : List PyData) (x y : Option SV), ds = enumR k l' ∧ ρ = [_, _, x, y] ∧ (∀ i : Nat, (l'.findIdx? fun x => !isDp T.length x) = some i → Ed ⟨CR, "at", .int ((k + i : Nat) : Int)⟩) ∧ ((l'.findIdx? fun x => !isDp T.length x) = none → Qd (.tup l))) ?_ ?_ _ _ ⟨0, l, none, none, rfl, rfl, by simpa using h1', by simpa using h2'⟩
      · rintro ρ ⟨k, l', x, y, e1, rfl, a1, a2⟩
        cases l' with
        | nil => 
          simp [dOf, dVar, dC, dOp, dUn, dNil, dCons, pys, dTup, oLst, dCB, oCB, dCall, dCall0, dCallR, fAdd, oOp, fCat, fInt, fIntC, fNeg, fEq, isNonD, fIsN, fIn, fIx, dTest, dAnd, dOr, dNot, dAndV, dOrV, dNotV, dIfE, dChain, dFld, dNext, dSeq, dRet, dRetN, dDrop, dIfS, dBreak, dCont, dSet, dSetO, setAll, dSetT, dPar, itSeq, itRange1, itRange2, itEnum, Tg.put, Tg.ix, dFor, wipeL, dYes, oLc, dAppend, dPutIx, dFreeze, unown, hasOwn, noLD, okL, dSnap, dSnapT, dRaise, startD, dNoPart, dPart, dSl, oSl, fLen, fInt1, fAbs, fInt2, fDivmod, fTuple, fList, fSorted, oSortedSet, fRepr, fAll, fSum, isIntD, isBoolD, isStrD, isTupD, isSeqD, fIsT, dIsLT, dAug, dPutF, dFldI, dMake, startI, putD, List.map, List.getElem?_cons_zero, List.getElem?_cons_succ, List.set_cons_zero, List.set_cons_succ, List.lookup_cons, List.lookup_nil]
          exact a2 rfl
        | cons d l' => cases e1
      · rintro d ds ρ K hK ⟨k, l', x, y, e1, rfl, a1, a2⟩
        cases l' with
        | nil => cases e1
        | cons z l' =>
          cases e1
          simp [dOf, dVar, dC, dOp, dUn, dNil, dCons, pys, dTup, oLst, dCB, oCB, dCall, dCall0, dCallR, fAdd, oOp, fCat, fInt, fIntC, fNeg, fEq, isNonD, fIsN, fIn, fIx, dTest, dAnd, dOr, dNot, dAndV, dOrV, dNotV, dIfE, dChain, dFld, dNext, dSeq, dRet, dRetN, dDrop, dIfS, dBreak, dCont, dSet, dSetO, setAll, dSetT, dPar, itSeq, itRange1, itRange2, itEnum, Tg.put, Tg.ix, dFor, wipeL, dYes, oLc, dAppend, dPutIx, dFreeze, unown, hasOwn, noLD, okL, dSnap, dSnapT, dRaise, startD, dNoPart, dPart, dSl, oSl, fLen, fInt1, fAbs, fInt2, fDivmod, fTuple, fList, fSorted, oSortedSet, fRepr, fAll, fSum, isIntD, isBoolD, isStrD, isTupD, isSeqD, fIsT, dIsLT, dAug, dPutF, dFldI, dMake, startI, putD, List.map, List.getElem?_cons_zero, List.getElem?_cons_succ, List.set_cons_zero, List.set_cons_succ, List.lookup_cons, List.lookup_nil]
          refine ⟨T, z, rfl, ?_⟩
          cases hz : isDp T.length z
          · simp
            exact a1 0 (by simp [List.findIdx?_cons, hz])
          · simp
            refine hK _ ⟨k + 1, l', _, _, rfl, rfl, fun i hi => ?_, fun hi => a2 (by simp [List.findIdx?_cons, hz, hi])⟩
            rw [show k + 1 + i = k + (i + 1) by omega]
            exact a1 (i + 1) (by simp [List.findIdx?_cons, hz, hi])
    | _ => cases e

/-- a table of as many states as the first one has -/
def tabB (v f : PyData) : Bool := seqB v 1 8 && decide ((itemsD v).length = (itemsD f).length) && (itemsD v).all (isDp (itemsD v).length)
def spIsTable : SpD := fun ds Q _ => ∃ v f, ds = [.py v, .py f] ∧ (seqB v 1 8 = true → isSeqD f = true) ∧ Q (.bl (tabB v f))
theorem seqB_items {v : PyData} {lo hi : Int} (h : seqB v lo hi = true) : (v = .list (itemsD v) ∨ v = .tuple (itemsD v)) ∧ lo ≤ ((itemsD v).length : Int) ∧ ((itemsD v).length : Int) ≤ hi := by
  cases v with
  | list l =>
    simp only [seqB, Bool.and_eq_true, decide_eq_true_eq] at h
    exact ⟨.inl rfl, h⟩
  | tuple l =>
    simp only [seqB, Bool.and_eq_true, decide_eq_true_eq] at h
    exact ⟨.inr rfl, h⟩
  | _ => cases h
theorem isSeq_items {v : PyData} (h : isSeqD v = true) : v = .list (itemsD v) ∨ v = .tuple (itemsD v) := by
  cases v with
  | list l => exact .inl rfl
  | tuple l => exact .inr rfl
  | _ => cases h
def nIsTableN : List Str := ["value", "first", "state"]
theorem scIsTable : FnScope nIsTableN ["value", "first"] (defScope sIsTable) := ⟨rfl, rfl, rfl, by decide +kernel, rfl, by decide +kernel, by decide +kernel⟩
theorem ok_is_table {f : Addr} {fd : FuncData} (F : Fun S.K "_is_table" "_is_table" sIsTable f fd) {tS : Tok} (B : Bare mg) (gS : mg "MOST_STATES" = some (.int 8 tS)) (Gn : Has P w S.K mg base L2.CX0 1 "is_number" ["value", "least", "greatest"] (spD S 3 spIsNumber)) (Gs : Has P w S.K mg base L2.CX0 1 "is_sequence" ["value", "fewest", "most"] (spD S 3 spIsSequence)) : FnOk P w S.K mg base L2.CX0 2 f fd ["value", "first"] (spD S 2 spIsTable) := by
  have nd : nIsTableN.Nodup := scIsTable.nd
  refine okD0 (N := nIsTableN) (k := 1) F scIsTable (hb := fun cdv A outer s H E hr => ?_)
  have hu2 : (A.deeper (envOfC "_is_table" (defScope sIsTable) s.heap.objs.size f cdv)).units + 200 < cLine := by have := hr.un; omega
  have hu65 : (A.deeper (envOfC "_is_table" (defScope sIsTable) s.heap.objs.size f cdv)).units + 65 < cLine := by omega
  refine ⟨_, _, (pss_cons (ps_if (PW.pt (pw_or (pt_not (pt_val (pe_has Gs (hr.mono (by decide)) (by rfl) (pa_cons (pv 0) (pa_cons pe_int (pa_cons (pe_glob (v := .int 8) rfl gS ⟨_, rfl⟩) pa_nil)))))) (pw_or1 (pt_cmpR (op_neD hr.units) (pe_callB (r := rLenA _) lenA (by rfl) B.len PySem.boot_len (pa_cons (pv 0) pa_nil)) (pe_callB (r := rLenA _) lenA (by rfl) B.len PySem.boot_len (pa_cons (pv 1) pa_nil)) (nomark _))))) (pss_one (ps_ret pe_bl)) pss_nil)
      (pss_one (ps_ret (pe_callB (r := rAll _) (cr_all rfl) (by rfl) B.all (by decide +kernel) (pa_cons (pe_lc (own := [("state", 2)]) (g := gName 2) (tt := tYes) rfl nd (pi_seq (pv 0)) (blkOk_by (N := nIsTableN) (sc := defScope sIsTable) (by decide +kernel)) (fun _ _ _ _ _ => (pg_name (i := 2) nd rfl (Or.inl rfl))) (fun _ _ _ _ _ => pts_nil) (fun _ _ _ _ _ => (pe_has Gn (hr.mono (by decide)) (by rfl) (pa_cons (pv 2) (pa_cons pe_int (pa_cons (pe_op op_sub (pe_callB (r := rLenA _) lenA (by rfl) B.len PySem.boot_len (pa_cons (pv 0) pa_nil)) pe_int) pa_nil)))))) pa_nil))))),
      (ls_seq (ls_if (lt_or (lt_not (lt_b (le_call0 (la_cons le_var (la_cons le_int (la_cons le_int la_nil)))))) (lt_test (le_op l2_ne (le_cb lc_len (la_cons le_var la_nil)) (le_cb lc_len (la_cons le_var la_nil))))) (ls_ret le_bl) ls_next)
      (ls_ret (le_cb lc_all (la_cons (LO.le (lo_lc (g := .one 2) (li_seq le_var) lt_yes (le_call0 (la_cons le_var (la_cons le_int (la_cons (le_op l2_sub (le_cb lc_len (la_cons le_var la_nil)) le_int) la_nil)))))) la_nil)))), fun ds Qd Ed hl h => ?_⟩
  obtain ⟨v, f, rfl, hf, h⟩ := h
  simp [dOf, dVar, dC, dOp, dUn, dNil, dCons, pys, dTup, oLst, dCB, oCB, dCall, dCall0, dCallR, fAdd, oOp, fCat, fInt, fIntC, fNeg, fEq, isNonD, fIsN, fIn, fIx, dTest, dAnd, dOr, dNot, dAndV, dOrV, dNotV, dIfE, dChain, dFld, dNext, dSeq, dRet, dRetN, dDrop, dIfS, dBreak, dCont, dSet, dSetO, setAll, dSetT, dPar, itSeq, itRange1, itRange2, itEnum, Tg.put, Tg.ix, dFor, wipeL, dYes, oLc, dAppend, dPutIx, dFreeze, unown, hasOwn, noLD, okL, dSnap, dSnapT, dRaise, startD, dNoPart, dPart, dSl, oSl, fLen, fInt1, fAbs, fInt2, fDivmod, fTuple, fList, fSorted, oSortedSet, fRepr, fAll, fSum, isIntD, isBoolD, isStrD, isTupD, isSeqD, fIsT, dIsLT, dAug, dPutF, dFldI, dMake, startI, putD, nIsTableN, spIsSequence]
  cases e : seqB v 1 8
  · simp [tabB, e] at h ⊢
    exact h
  · obtain ⟨ev, _, l8⟩ := seqB_items e
    have ef := isSeq_items (hf e)
    have main : (if (itemsD v).length = (itemsD f).length then Qd (.bl ((itemsD v).all (isDp (itemsD v).length))) else Qd (.bl false)) := by
      split
      · rename_i n
        simpa [tabB, e, n] using h
      · rename_i n
        simpa [tabB, e, n] using h
    generalize itemsD v = l at ev main l8
    generalize itemsD f = r at ef main
    rcases ev with rfl | rfl <;> rcases ef with rfl | rfl
    all_goals
      simp
      by_cases n : l.length = r.length
      · simp [n] at main ⊢
        refine turns_map (fun d => .bool (isDp l.length d)) (by omega) (fun d hd => ⟨_, rfl, fun K hK => ?_⟩) ⟨l.map (isDp l.length), by simp [List.map_map], by simpa [n] using main⟩
        simp [dOf, dVar, dC, dOp, dUn, dNil, dCons, pys, dTup, oLst, dCB, oCB, dCall, dCall0, dCallR, fAdd, oOp, fCat, fInt, fIntC, fNeg, fEq, isNonD, fIsN, fIn, fIx, dTest, dAnd, dOr, dNot, dAndV, dOrV, dNotV, dIfE, dChain, dFld, dNext, dSeq, dRet, dRetN, dDrop, dIfS, dBreak, dCont, dSet, dSetO, setAll, dSetT, dPar, itSeq, itRange1, itRange2, itEnum, Tg.put, Tg.ix, dFor, wipeL, dYes, oLc, dAppend, dPutIx, dFreeze, unown, hasOwn, noLD, okL, dSnap, dSnapT, dRaise, startD, dNoPart, dPart, dSl, oSl, fLen, fInt1, fAbs, fInt2, fDivmod, fTuple, fList, fSorted, oSortedSet, fRepr, fAll, fSum, isIntD, isBoolD, isStrD, isTupD, isSeqD, fIsT, dIsLT, dAug, dPutF, dFldI, dMake, startI, putD, spIsNumber, List.map, List.getElem?_cons_zero, List.getElem?_cons_succ, List.set_cons_zero, List.set_cons_succ, List.lookup_cons, List.lookup_nil]
        exact hK
      · have n2 : ¬ ((l.length : Nat) : Int) = (r.length : Nat) := by omega
        simp [n, n2] at main ⊢
        exact main

/-- what is wrong with tables: the first one that is none, or -1 -/
def mFault (v : PyData) : Option Int := if seqB v 1 4 = true then Option.map (fun i : Nat => (i : Int)) ((itemsD v).findIdx? fun t => !tabB t ((itemsD v).headD .none)) else some (-1)
def intsOf (v : PyData) : List Int := (itemsD v).map fun x => match x with
  | .int i => i
  | _ => 0
def tablesOf (v : PyData) : List (List Int) := (itemsD v).map intsOf
def machFs (T : List (List Int)) : List (Str × DV) := [("tables", .tup (T.map rowT)), ("deeds", .int (T.length : Nat)), ("states", .int ((T.headD []).length : Nat))]
def spMachine (CB : Addr) : SpI := fun ds Q Ed => ∃ v, ds = [.py v] ∧ (∀ i, mFault v = some i → Ed ⟨CB, "at", .int i⟩) ∧ (mFault v = none → Q (machFs (tablesOf v)))
theorem isDp_int {n : Nat} {d : PyData} (h : isDp n d = true) : ∃ i : Int, d = .int i ∧ 0 ≤ i ∧ i < n := by
  unfold isDp numD at h
  cases d with
  | int i =>
    simp at h
    exact ⟨i, rfl, h.1, by omega⟩
  | _ => cases h
theorem tabB_row {t f : PyData} (h : tabB t f = true) : .tuple (itemsD t) = rowT (intsOf t) := by
  unfold tabB at h
  rw [Bool.and_eq_true, List.all_eq_true] at h
  unfold rowT intsOf
  rw [List.map_map]
  congr 1
  have : ∀ l : List PyData, (∀ x ∈ l, isDp (itemsD t).length x = true) → l = l.map (PyData.int ∘ fun x => match x with | .int i => i | _ => 0) := by
    intro l
    induction l with
    | nil => intro _; rfl
    | cons x l ih =>
      intro hl
      obtain ⟨i, rfl, _⟩ := isDp_int (hl x List.mem_cons_self)
      rw [List.map_cons, ← ih fun y hy => hl y (List.mem_cons_of_mem _ hy)]
      rfl
  exact this _ h.2
theorem intsOf_len (v : PyData) : (intsOf v).length = (itemsD v).length := by
  unfold intsOf
  rw [List.length_map]
def nMachineInitN : List Str := ["self", "tables", "at", "table"]
theorem scMachineInit : FnScope nMachineInitN ["self", "tables"] (defScope (inClass cMachine 0)) := ⟨rfl, rfl, rfl, by decide +kernel, rfl, by decide +kernel, by decide +kernel⟩
theorem ok_Machine_init {f : Addr} {fd : FuncData} (F : Fun S.K "__init__" "Machine.__init__" (inClass cMachine 0) f fd) {tD : Tok} (B : Bare mg) (M : MachC S.K CM) (gD : mg "MOST_DEEDS" = some (.int 4 tD)) (ErB : Err P w S.K mg base "BadMachine" "at" CB) (Gs : Has P w S.K mg base L2.CX0 1 "is_sequence" ["value", "fewest", "most"] (spD S 3 spIsSequence)) (Gt : Has P w S.K mg base L2.CX0 2 "_is_table" ["value", "first"] (spD S 2 spIsTable)) : FnOk P w S.K mg base (L2.CX P w) 3 f fd ["self", "tables"] (spDI S 1 CM (spMachine CB)) := by
  have nd : nMachineInitN.Nodup := scMachineInit.nd
  refine okDI (N := nMachineInitN) (k := 2) F scMachineInit (hN := by simp [nMachineInitN]) (hps := by simp) (hb := fun cdv A outer s H E hr => ?_)
  have hu2 : (A.deeper (envOfC "Machine.__init__" (defScope (inClass cMachine 0)) s.heap.objs.size f cdv)).units + 200 < cLine := by have := hr.un; omega
  have hu65 : (A.deeper (envOfC "Machine.__init__" (defScope (inClass cMachine 0)) s.heap.objs.size f cdv)).units + 65 < cLine := by omega
  have tk : Takes (cxOf (L2.CX P w) P w S.K mg base nMachineInitN "Machine.__init__" (defScope (inClass cMachine 0)) f cdv A outer s H E) (fun cls d _ H => E cls d H) := takes_of rfl rfl rfl rfl
  refine ⟨_, _, (pss_cons (ps_if (pt_not (pt_val (pe_has Gs (hr.mono (by decide)) (by rfl) (pa_cons (pv 1) (pa_cons pe_int (pa_cons (pe_glob (v := .int 4) rfl gD ⟨_, rfl⟩) pa_nil)))))) (pss_one (ps_raiseErr rfl ErB (hr.mono (by decide)) tk (pe_un un_neg pe_int))) pss_nil)
      (pss_cons (ps_for (passes_of rfl) rfl (pi_enumS (by rfl) B.enumerate (pa_cons (pv 1) pa_nil)) (pg_tup rfl (pgs_cons (pg_name (i := 2) nd rfl (Or.inl rfl)) (pgs_cons (pg_name (i := 3) nd rfl (Or.inl rfl)) pgs_nil)))
      (pss_one (ps_if (pt_not (pt_val (pe_has Gt (hr.mono (by decide)) (by rfl) (pa_cons (pv 3) (pa_cons (pe_ix (r := rIx _) ix_seq (pv 1) pe_int (fun _ _ => rfl)) pa_nil))))) (pss_one (ps_raiseErr rfl ErB (hr.mono (by decide)) tk (pv 2))) pss_nil)))
      (pss_cons (ps_fld (pv 0) (pe_callTy (r := rTupOf _) tupOf (by rfl) B.tuple boot_tuple (pa_cons (pe_lc (own := [("table", 3)]) (g := gName 3) (tt := tYes) rfl nd (pi_seq (pv 1)) (blkOk_by (N := nMachineInitN) (sc := defScope (inClass cMachine 0)) (by decide +kernel)) (fun _ _ _ _ _ => (pg_name (i := 3) nd rfl (Or.inl rfl))) (fun _ _ _ _ _ => pts_nil) (fun _ _ _ _ _ => (pe_callTy (r := rTupOf _) tupOf (by rfl) B.tuple boot_tuple (pa_cons (pv 3) pa_nil)))) pa_nil)) rfl)
      (pss_cons (ps_fld (pv 0) (pe_callB (r := rLenA _) lenA (by rfl) B.len PySem.boot_len (pa_cons (pe_fld (pv 0) rfl) pa_nil)) rfl)
      (pss_one (ps_fld (pv 0) (pe_callB (r := rLenA _) lenA (by rfl) B.len PySem.boot_len (pa_cons (pe_ix (r := rIx _) ix_seq (pe_fld (pv 0) rfl) pe_int (fun _ _ => rfl)) pa_nil)) rfl)))))),
      (ls_seq (ls_if (lt_not (lt_b (le_call0 (la_cons le_var (la_cons le_int (la_cons le_int la_nil)))))) (ls_raise (le_un l1_int le_int)) ls_next)
      (ls_seq (ls_for (g := .many [2, 3]) (li_enum (la_cons le_var la_nil))
      (ls_if (lt_not (lt_b (le_call0 (la_cons le_var (la_cons (le_op l2_ix le_var le_int) la_nil))))) (ls_raise le_var) ls_next))
      (ls_seq (ls_putF M.cl M.nT (le_cb lc_tuple (la_cons (LO.le (lo_lc (g := .one 3) (li_seq le_var) lt_yes (le_cb lc_tuple (la_cons le_var la_nil)))) la_nil)))
      (ls_seq (ls_putF M.cl M.nD (le_cb lc_len (la_cons (le_fldI M.cl M.nT) la_nil)))
      (ls_putF M.cl M.nS (le_cb lc_len (la_cons (le_op l2_ix (le_fldI M.cl M.nT) le_int) la_nil))))))), fun ds Qd Ed x dx hl h => ?_⟩
  obtain ⟨v, rfl, h1, h2⟩ := h
  simp [dOf, dVar, dC, dOp, dUn, dNil, dCons, pys, dTup, oLst, dCB, oCB, dCall, dCall0, dCallR, fAdd, oOp, fCat, fInt, fIntC, fNeg, fEq, isNonD, fIsN, fIn, fIx, dTest, dAnd, dOr, dNot, dAndV, dOrV, dNotV, dIfE, dChain, dFld, dNext, dSeq, dRet, dRetN, dDrop, dIfS, dBreak, dCont, dSet, dSetO, setAll, dSetT, dPar, itSeq, itRange1, itRange2, itEnum, Tg.put, Tg.ix, dFor, wipeL, dYes, oLc, dAppend, dPutIx, dFreeze, unown, hasOwn, noLD, okL, dSnap, dSnapT, dRaise, startD, dNoPart, dPart, dSl, oSl, fLen, fInt1, fAbs, fInt2, fDivmod, fTuple, fList, fSorted, oSortedSet, fRepr, fAll, fSum, isIntD, isBoolD, isStrD, isTupD, isSeqD, fIsT, dIsLT, dAug, dPutF, dFldI, dMake, startI, putD, nMachineInitN, spIsSequence]
  cases e : seqB v 1 4
  · simp
    exact h1 (-1) (by simp [mFault, e])
  · simp
    obtain ⟨ev, l1, l4⟩ := seqB_items e
    have h1' : ∀ i : Nat, ((itemsD v).findIdx? fun t => !tabB t ((itemsD v).headD .none)) = some i → Ed ⟨CB, "at", .int (i : Nat)⟩ := fun i hi => h1 i (by unfold mFault; rw [if_pos e, hi]; rfl)
    have h2' : ((itemsD v).findIdx? fun t => !tabB t ((itemsD v).headD .none)) = none → Qd (machFs (tablesOf v)) := fun hi => h2 (by unfold mFault; rw [if_pos e, hi]; rfl)
    have rows : ((itemsD v).findIdx? fun t => !tabB t ((itemsD v).headD .none)) = none → (itemsD v).map (fun t => PyData.tuple (itemsD t)) = (tablesOf v).map rowT ∧ ∀ t ∈ itemsD v, isSeqD t = true := fun hi => by
      rw [List.findIdx?_eq_none_iff] at hi
      have hi : ∀ t ∈ itemsD v, tabB t ((itemsD v).headD .none) = true := fun t ht => by simpa using hi t ht
      refine ⟨?_, fun t ht => ?_⟩
      · unfold tablesOf
        rw [List.map_map]
        exact List.map_congr_left fun t ht => tabB_row (hi t ht)
      · have z := hi t ht
        unfold tabB at z
        rw [Bool.and_eq_true, Bool.and_eq_true] at z
        rcases (seqB_items z.1.1).1 with q | q <;> rw [q] <;> rfl
    have tl : (tablesOf v).length = (itemsD v).length := by unfold tablesOf; rw [List.length_map]
    have hd : (tablesOf v).headD [] = intsOf ((itemsD v).headD .none) := by
      unfold tablesOf
      cases itemsD v <;> rfl
    clear h1 h2
    generalize tablesOf v = TT at h2' rows tl hd
    generalize hl0 : itemsD v = l at ev l1 l4 h1' h2' rows tl hd
    cases l with
    | nil => simp at l1
    | cons t0 l0 =>
      rcases ev with rfl | rfl
      all_goals
        simp
        rw [enumD_R]
        refine loop_ind (fun ds ρ => ∃ (k : Nat) (l' : List PyData) (y2 y3 : Option SV), ds = enumR k l' ∧ ρ = [_, _, y2, y3] ∧ noIni [y2, y3] = true ∧ (k = 0 → l'.head? = some t0 ∨ l' = []) ∧ (0 < k → isSeqD t0 = true) ∧
          (∀ i : Nat, (l'.findIdx? fun t => !tabB t t0) = some i → Ed ⟨CB, "at", .int ((k + i : Nat) : Int)⟩) ∧ ((l'.findIdx? fun t => !tabB t t0) = none → ((t0 :: l0).findIdx? fun t => !tabB t t0) = none)) ?_ ?_ _ _
          ⟨0, t0 :: l0, none, none, rfl, rfl, rfl, fun _ => .inl rfl, fun z => absurd z (by decide), by simpa using h1', fun h => h⟩
        · rintro ρ ⟨k, l', y2, y3, e1, rfl, an, a0, a1, a2, a3⟩
          cases l' with
          | cons d l' => cases e1
          | nil =>
            obtain ⟨r1, r2⟩ := rows (a3 rfl)
            have h3 := h2' (a3 rfl)
            have s0 := r2 t0 List.mem_cons_self
            simp [dOf, dVar, dC, dOp, dUn, dNil, dCons, pys, dTup, oLst, dCB, oCB, dCall, dCall0, dCallR, fAdd, oOp, fCat, fInt, fIntC, fNeg, fEq, isNonD, fIsN, fIn, fIx, dTest, dAnd, dOr, dNot, dAndV, dOrV, dNotV, dIfE, dChain, dFld, dNext, dSeq, dRet, dRetN, dDrop, dIfS, dBreak, dCont, dSet, dSetO, setAll, dSetT, dPar, itSeq, itRange1, itRange2, itEnum, Tg.put, Tg.ix, dFor, wipeL, dYes, oLc, dAppend, dPutIx, dFreeze, unown, hasOwn, noLD, okL, dSnap, dSnapT, dRaise, startD, dNoPart, dPart, dSl, oSl, fLen, fInt1, fAbs, fInt2, fDivmod, fTuple, fList, fSorted, oSortedSet, fRepr, fAll, fSum, isIntD, isBoolD, isStrD, isTupD, isSeqD, fIsT, dIsLT, dAug, dPutF, dFldI, dMake, startI, putD, List.map, List.getElem?_cons_zero, List.getElem?_cons_succ, List.set_cons_zero, List.set_cons_succ, List.lookup_cons, List.lookup_nil, snm_tables_deeds, snm_tables_deedsb, snm_tables_states, snm_tables_statesb, snm_deeds_tables, snm_deeds_tablesb, snm_deeds_states, snm_deeds_statesb, snm_states_tables, snm_states_tablesb, snm_states_deeds, snm_states_deedsb, noIni_dv, noIni_none, an]
            refine turns_map (fun t => .tuple (itemsD t)) (by simp at l4 ⊢; omega) (fun t ht => ⟨_, rfl, fun K hK => ?_⟩) ?_
            · have st := isSeq_items (r2 t ht)
              simp [dOf, dVar, dC, dOp, dUn, dNil, dCons, pys, dTup, oLst, dCB, oCB, dCall, dCall0, dCallR, fAdd, oOp, fCat, fInt, fIntC, fNeg, fEq, isNonD, fIsN, fIn, fIx, dTest, dAnd, dOr, dNot, dAndV, dOrV, dNotV, dIfE, dChain, dFld, dNext, dSeq, dRet, dRetN, dDrop, dIfS, dBreak, dCont, dSet, dSetO, setAll, dSetT, dPar, itSeq, itRange1, itRange2, itEnum, Tg.put, Tg.ix, dFor, wipeL, dYes, oLc, dAppend, dPutIx, dFreeze, unown, hasOwn, noLD, okL, dSnap, dSnapT, dRaise, startD, dNoPart, dPart, dSl, oSl, fLen, fInt1, fAbs, fInt2, fDivmod, fTuple, fList, fSorted, oSortedSet, fRepr, fAll, fSum, isIntD, isBoolD, isStrD, isTupD, isSeqD, fIsT, dIsLT, dAug, dPutF, dFldI, dMake, startI, putD, List.map, List.getElem?_cons_zero, List.getElem?_cons_succ, List.set_cons_zero, List.set_cons_succ, List.lookup_cons, List.lookup_nil]
              generalize itemsD t = r at st hK
              rcases st with rfl | rfl <;> exact hK
            · have st := isSeq_items s0
              rw [r1]
              cases TT with
              | nil => simp at tl
              | cons r0 TT =>
                refine ⟨rowT r0, atI_nat (j := 0) rfl, ?_⟩
                simpa [machFs, rowT] using h3
        · rintro d ds ρ K hK ⟨k, l', y2, y3, e1, rfl, an, a0, a1, a2, a3⟩
          cases l' with
          | nil => cases e1
          | cons z l' =>
            cases e1
            have at0 : atI (t0 :: l0) 0 = some t0 := atI_nat (j := 0) rfl
            simp [dOf, dVar, dC, dOp, dUn, dNil, dCons, pys, dTup, oLst, dCB, oCB, dCall, dCall0, dCallR, fAdd, oOp, fCat, fInt, fIntC, fNeg, fEq, isNonD, fIsN, fIn, fIx, dTest, dAnd, dOr, dNot, dAndV, dOrV, dNotV, dIfE, dChain, dFld, dNext, dSeq, dRet, dRetN, dDrop, dIfS, dBreak, dCont, dSet, dSetO, setAll, dSetT, dPar, itSeq, itRange1, itRange2, itEnum, Tg.put, Tg.ix, dFor, wipeL, dYes, oLc, dAppend, dPutIx, dFreeze, unown, hasOwn, noLD, okL, dSnap, dSnapT, dRaise, startD, dNoPart, dPart, dSl, oSl, fLen, fInt1, fAbs, fInt2, fDivmod, fTuple, fList, fSorted, oSortedSet, fRepr, fAll, fSum, isIntD, isBoolD, isStrD, isTupD, isSeqD, fIsT, dIsLT, dAug, dPutF, dFldI, dMake, startI, putD, List.map, List.getElem?_cons_zero, List.getElem?_cons_succ, List.set_cons_zero, List.set_cons_succ, List.lookup_cons, List.lookup_nil]
            refine ⟨t0, at0, z, t0, rfl, ?_, ?_⟩
            · intro hz
              rcases Nat.eq_zero_or_pos k with k0 | k0
              · rcases a0 k0 with q | q
                · cases q
                  rcases (seqB_items hz).1 with q | q <;> rw [q] <;> rfl
                · cases q
              · exact a1 k0
            · cases hz : tabB z t0
              · simp
                exact a2 0 (by simp [List.findIdx?_cons, hz])
              · simp
                refine hK _ ⟨k + 1, l', _, _, rfl, rfl, rfl, fun q => by omega, fun _ => ?_, fun i hi => ?_, fun hi => a3 (by simp [List.findIdx?_cons, hz, hi])⟩
                · rcases Nat.eq_zero_or_pos k with k0 | k0
                  · rcases a0 k0 with q | q
                    · cases q
                      unfold tabB at hz
                      rw [Bool.and_eq_true, Bool.and_eq_true] at hz
                      rcases (seqB_items hz.1.1).1 with q | q <;> rw [q] <;> rfl
                    · cases q
                  · exact a1 k0
                · rw [show k + 1 + i = k + (i + 1) by omega]
                  exact a2 (i + 1) (by simp [List.findIdx?_cons, hz, hi])

end
end Pg

set_option Elab.async false
set_option linter.all false
set_option maxRecDepth 100000
set_option maxHeartbeats 4000000
/-! the data layer: is not, of two truth values -/
namespace Dl
open PySem PySem.Spec PyProof.Rows L2 Lx
def rNotB : R2 := fun x y H Q => ∃ b c : Bool, x = .bl b ∧ y = .bl c ∧ Q (.bl (b != c)) H
theorem op_notB {X : Cx} : OpR X (compareOp .IsNot) rNotB := by
  intro pins s σ H x y v u Q I rx ry h
  obtain ⟨b, c, rfl, rfl, q⟩ := h
  cases rx
  cases ry
  show wpAny _ _ ((isSame (.bool b) (.bool c)) >>= fun z => pure (Value.bool (!z))) _ _ s
  refine wpAny_bind (wpAny_isSame_plain rfl (wpAny_pure (fin_bl I q ?_)))
  cases b <;> cases c <;> rfl
def fNotB : F2 := fun dx dy Qd => ∃ b c : Bool, dx = .bl b ∧ dy = .bl c ∧ Qd (.bl (b != c))
theorem l2_notB {S : Sx} : L2r S rNotB fNotB := by
  rintro G H x y dx dy Qd Q w rx ry ⟨b, c, rfl, rfl, q⟩ k
  cases rv_bl rx
  cases rv_bl ry
  exact ⟨b, c, rfl, rfl, k _ _ G H (Step.refl w) (.py (.bl _)) q⟩
end Dl

set_option Elab.async false
set_option linter.all false
set_option maxRecDepth 100000
set_option maxHeartbeats 4000000
/-! a text times a whole number; a range that goes down; five names from a tuple whose second is a new list -/
namespace Lx
open PySem PySem.Spec PyProof.Rows L2
def timesS (x : Str) (n : Int) : Str := if n < 1 then Str.empty else if (n == 1 || x.length == 0) = true then x else ⟨(List.replicate n.toNat x.cps).foldl (· ++ ·) #[]⟩
def rTimesS : R2 := fun x y H Q => ∃ (a : Str) (k : Int), x = .str a ∧ y = .int k ∧ a.length ≤ 1000 ∧ -1000 ≤ k ∧ k ≤ 1000 ∧ (timesS a k).length ≤ sizeLine ∧ Q (.str (timesS a k)) H
theorem op_timesS {X : Cx} : OpR X (binaryOp .Mult) rTimesS := by
  intro pins s σ H x y v u Q I rx ry h
  obtain ⟨a, k, rfl, rfl, ha, k0, k1, hz, q⟩ := h
  obtain ⟨t, rfl⟩ := rx
  obtain ⟨t', rfl⟩ := ry
  refine P.mul_str (by rw [decide_eq_false (by omega), decide_eq_false (by omega)]; rfl) (fun h1 h2 => ?_) (fun h1 h2 => ?_) ?_
  · have big : (1000 : Int) ≤ (2 ^ 63 - 1) / k := by
      have := Int.le_ediv_of_mul_le (a := 1000) (b := 2 ^ 63 - 1) (c := k) (by omega) (by omega)
      exact this
    omega
  · have : a.length * k.toNat ≤ 1000 * 1000 := Nat.mul_le_mul ha (by omega)
    exact decide_eq_false (show ¬ a.length * k.toNat > sizeLine by rw [sizeLine_eq]; omega)
  · have fin : ∀ z : Str, z.length ≤ sizeLine → Q (.str z) H → (Made.str z).post (EP X pins σ Q) s := fun z h1 h2 => ⟨h1, .str z, H, I.tok _, ⟨_, rfl⟩, h2⟩
    unfold timesS at hz q
    split
    · next c =>
      rw [if_pos c] at hz q
      exact fin _ hz q
    · next c =>
      rw [if_neg c] at hz q
      split
      · next c2 =>
        rw [if_pos c2] at q
        exact ⟨.str a, H, I, ⟨_, rfl⟩, q⟩
      · next c2 =>
        rw [if_neg c2] at hz q
        exact fin _ hz q
end Lx
namespace Dl
open PySem PySem.Spec PyProof.Rows L2 Lx
def fTimesS : F2 := fun x y Q => match x, y with
  | .py (.str a), .py (.int k) => (a.length ≤ 1000 ∧ -1000 ≤ k ∧ k ≤ 1000 ∧ (timesS a k).length ≤ 1000000) ∧ Q (.str (timesS a k))
  | _, _ => False
theorem l2_timesS {S : Sx} : L2r S rTimesS fTimesS := by
  intro G H x y dx dy Qd Q w rx ry q k
  unfold fTimesS at q
  split at q
  · rename_i a i
    cases rv_int ry
    cases rv_str rx
    exact ⟨a, i, rfl, rfl, q.1.1, q.1.2.1, q.1.2.2.1, by rw [sizeLine_eq]; have := q.1.2.2.2; omega, k _ _ G H (Step.refl w) (.py (.str _)) q.2⟩
  · exact q.elim
/-! ### a range that goes down -/
def downD (lo : Int) (n : Nat) : List PyData := (List.range n).map fun i : Nat => .int (lo - (i : Nat))
def itDown (ta : TAD) : TOD := fun ρ Qd Ed => ta ρ (fun ds => match ds with
  | [.py (.int i), .py (.int j), .py (.int c)] => c = -1 ∧ rgOk i ∧ rgOk j ∧ Qd (downD i (i - j).toNat)
  | _ => False) Ed
section
variable {S : Sx} {E : XK}
theorem li_down {n : Nat} {T : TA} {t : TAD} (h : LA n S E T t) : LI S E (iRng3 T) (itDown t) := by
  intro H0 ρ σ G H Qd Ed R w st q k ke
  refine h H0 ρ σ G H _ Ed _ w st q (fun vs ds G1 H1 s1 hl rv q1 => ?_) ke
  split at q1
  · rename_i i j c
    cases rv with
    | cons h1 t1 => cases t1 with
      | cons h2 t2 => cases t2 with
        | cons h3 t3 =>
          cases t3
          cases rv_int h1
          cases rv_int h2
          cases rv_int h3
          obtain ⟨rfl, ⟨i1, i2⟩, ⟨j1, j2⟩, q1⟩ := q1
          refine ⟨i, j, -1, (i - j).toNat, rfl, RgC.neg i1 i2 j1 j2, ?_⟩
          have len : (downD i (i - j).toNat).length = (i - j).toNat := by
            unfold downD
            rw [List.length_map, List.length_range]
          refine k (downD i (i - j).toNat) (Itc i (-1) (i - j).toNat) (fun _ => True) (fun m H x H' => H' = H ∧ x = .int (i + (m : Nat) * (-1)) ∧ m < (i - j).toNat) G1 H1 s1 q1 ?_ (fun _ _ => trivial) ?_
          · rw [len]
            exact ⟨fun _ _ hi _ => hi, fun _ _ => Nat.le_refl _, fun i H x H' hi _ y => ⟨y.1, y.2, hi⟩⟩
          · rintro m G2 H2 x H3 w2 e2 ⟨rfl, rfl, hm⟩
            refine ⟨G2, .int (i + (m : Nat) * (-1)), Step.refl w2, ?_, .py (.int _)⟩
            unfold downD
            rw [List.getElem?_map, List.getElem?_range hm]
            show some (PyData.int (i - (m : Nat))) = _
            rw [show i + (m : Int) * -1 = i - (m : Int) by omega]
  · exact q1.elim
/-! ### x, found, a, b, c = e, [..], .. -/
def dFive (i j a b c : Nat) (te : TD) (to : TOD) (ta : TAD) : TSD := fun D ρ => te ρ (fun d => to ρ (fun l => ta ρ (fun ds => match ds with
  | [x, y, z] => D.nx (((((ρ.set i (some (.dv d))).set j (some (.own l))).set a (some (.dv x))).set b (some (.dv y))).set c (some (.dv z)))
  | _ => False) D.er) D.er) D.er
theorem ls_five {i j a b c : Nat} {Te To : TE} {Ta : TA} {te : TD} {to : TOD} {ta : TAD} (he : LE S E Te te) (ho : LO S E To to) (ha : LA 3 S E Ta ta) :
    LS S E (tAsg (tTup (tCons Te (tCons To Ta))) (gTup S.K 5 (gCons (gName i) (gCons (gName j) (gCons (gName a) (gCons (gName b) (gCons (gName c) gNil))))))) (dFive i j a b c te to ta) := by
  intro G0 H0 Fb D Dd σ ρ G H A r q
  refine he H0 ρ σ G H _ _ _ A.s.wf A.r q (fun v d G1 H1 s1 rv q1 => ?_) (r.err A.s)
  refine ho H0 ρ σ G1 H1 _ _ _ s1.wf (A.r.step s1) q1 (fun p vs l G2 H2 s2 n hp nf nb rr q2 => ?_) (r.err (A.s.trans s1))
  refine ha H0 ρ σ G2 H2 _ _ _ s2.wf ((A.r.step s1).step s2) q2 (fun xs ds G3 H3 s3 hl rx q3 => ?_) (r.err ((A.s.trans s1).trans s2))
  split at q3
  · rename_i x y z
    cases rx with
    | cons r1 t1 => cases t1 with
      | cons r2 t2 => cases t2 with
        | cons r3 t3 =>
          cases t3
          rename_i v1 v2 v3
          have hp3 := s3.keep _ _ hp nb (fun z e => by cases e)
          have nf3 := s3.nf _ _ hp trivial nf
          have nb3 := s3.nb _ _ hp (fun z e => by cases e) nb
          refine ⟨by rw [sizeLine_eq]; show 5 ≤ 16777216; decide, fun t nt => ?_⟩
          refine ⟨t, _, rfl, .inl (.inl upd_same), rfl, ?_⟩
          refine ⟨_, _, rfl, _, _, rfl, _, _, rfl, _, _, rfl, _, _, rfl, rfl, ?_⟩
          have ne : p ≠ t := by
            rintro rfl
            rw [nt] at hp3
            cases hp3
          have st1 := (A.r.step s1).set (i := i) rv
          have sN := Step.new (o := .tup [v, .ref p, v1, v2, v3]) s3.wf nt
          have stp := st1.setO (i := j) ((s2.trans s3).trans sN) n ((A.s.trans s1).was_free n) (by rw [upd_ne ne]; exact hp3) nf3 nb3 (RpA.mono s3.fm _ _ rr)
          exact r.nx _ _ G3 _ ⟨(((A.s.trans s1).trans s2).trans s3).trans sN, ((stp.set (i := a) r1).set (i := b) r2).set (i := c) r3, ((A.f.trans s1.fm).trans s2.fm).trans s3.fm⟩ q3
  · exact q3.elim
end
end Dl

set_option Elab.async false
set_option linter.all false
set_option maxRecDepth 100000
set_option maxHeartbeats 4000000
namespace Pg
open PySem PySem.Spec PyProof.Rows L2 Lx Dl
section
variable {P : Program} {w : World} {mg : Str → Option Value} {base : Heap} {S : Sx}
variable {CM CF CR CS : Addr}
def nIsStateN : List Str := ["machine", "value"]
theorem scIsState : FnScope nIsStateN ["machine", "value"] (defScope sIsState) := ⟨rfl, rfl, rfl, by decide +kernel, rfl, by decide +kernel, by decide +kernel⟩
theorem ok_is_state {f : Addr} {fd : FuncData} (F : Fun S.K "is_state" "is_state" sIsState f fd) (M : MachC S.K CM) (Gn : Has P w S.K mg base L2.CX0 1 "is_number" ["value", "least", "greatest"] (spD S 3 spIsNumber)) : FnOk P w S.K mg base L2.CX0 2 f fd ["machine", "value"] (spD S 2 (spIsState CM)) := by
  have nd : nIsStateN.Nodup := scIsState.nd
  refine okD0 (N := nIsStateN) (k := 1) F scIsState (hb := fun cdv A outer s H E hr => ?_)
  have hu2 : (A.deeper (envOfC "is_state" (defScope sIsState) s.heap.objs.size f cdv)).units + 200 < cLine := by have := hr.un; omega
  have hu65 : (A.deeper (envOfC "is_state" (defScope sIsState) s.heap.objs.size f cdv)).units + 65 < cLine := by omega
  refine ⟨_, _, (pss_one (ps_ret (pe_has Gn (hr.mono (by decide)) (by rfl) (pa_cons (pv 1) (pa_cons pe_int (pa_cons (pe_op op_sub (pe_fld (pv 0) rfl) pe_int) pa_nil)))))),
      (ls_ret (le_call0 (la_cons le_var (la_cons le_int (la_cons (le_op l2_sub (le_fld M.cl M.nS le_var) le_int) la_nil))))), fun ds Qd Ed hl h => ?_⟩
  obtain ⟨T, v, rfl, h⟩ := h
  simp only [dOf, dVar, dC, dOp, dUn, dNil, dCons, pys, dTup, oLst, dCB, oCB, dCall, dCall0, dCallR, fAdd, oOp, fCat, fInt, fIntC, fNeg, fEq, isNonD, fIsN, fIn, fIx, dTest, dAnd, dOr, dNot, dAndV, dOrV, dNotV, dIfE, dChain, dFld, dNext, dSeq, dRet, dRetN, dDrop, dIfS, dBreak, dCont, dSet, dSetO, setAll, dSetT, dPar, itSeq, itRange1, itRange2, itEnum, Tg.put, Tg.ix, dFor, wipeL, dYes, oLc, dAppend, dPutIx, dFreeze, unown, hasOwn, noLD, okL, dSnap, dSnapT, dRaise, startD, dNoPart, dPart, dSl, oSl, fLen, fInt1, fAbs, fInt2, fDivmod, fTuple, fList, fSorted, oSortedSet, fRepr, fAll, fSum, isIntD, isBoolD, isStrD, isTupD, isSeqD, fIsT, dIsLT, dAug, dPutF, dFldI, dMake, startI, putD, dTupRev, dNewBox, dBoxPut, fRep, fEqS, oListRg, dPair, dWork, dSetA, fTimes, fIsOwn, fEqOwn, oSetC, dExtend, dPairO, oSnap, oSetJ, fInT, oSortedSetB, dMakeK, dLenSet, fNotB, fTimesS, itDown, dFive, nIsStateN, spIsNumber, fld_deeds, fld_states, List.map, List.cons_append, List.nil_append, List.append_eq, List.getElem?_cons_zero, List.getElem?_cons_succ, List.set_cons_zero, List.set_cons_succ, List.lookup_cons, List.lookup_nil, List.length_cons, List.length_nil, Nat.sub_self, List.replicate, List.append_nil]
  exact h

def spNeedState (CM CS : Addr) : SpD := fun ds Q Ed => ∃ T v, ds = [mach CM T, .py v] ∧ (isDp (T.headD []).length v = true → Q (.py v)) ∧ (isDp (T.headD []).length v = false → Ed ⟨CS, "state", .py v⟩)
def nNeedStateN : List Str := ["machine", "state"]
theorem scNeedState : FnScope nNeedStateN ["machine", "state"] (defScope sNeedState) := ⟨rfl, rfl, rfl, by decide +kernel, rfl, by decide +kernel, by decide +kernel⟩
theorem ok_need_state {f : Addr} {fd : FuncData} (F : Fun S.K "need_state" "need_state" sNeedState f fd) (ErS : ErrQ P w S.K mg base "NoState" "state" CS) (Gis : Has P w S.K mg base L2.CX0 2 "is_state" ["machine", "value"] (spD S 2 (spIsState CM))) : FnOk P w S.K mg base (L2.CX P w) 4 f fd ["machine", "state"] (spD S 2 (spNeedState CM CS)) := by
  have nd : nNeedStateN.Nodup := scNeedState.nd
  refine okDX (N := nNeedStateN) (k := 3) F scNeedState (hb := fun cdv A outer s H E hr => ?_)
  have hu2 : (A.deeper (envOfC "need_state" (defScope sNeedState) s.heap.objs.size f cdv)).units + 200 < cLine := by have := hr.un; omega
  have hu65 : (A.deeper (envOfC "need_state" (defScope sNeedState) s.heap.objs.size f cdv)).units + 65 < cLine := by omega
  have tk : Takes (cxOf (L2.CX P w) P w S.K mg base nNeedStateN "need_state" (defScope sNeedState) f cdv A outer s H E) (fun cls d _ H => E cls d H) := takes_of rfl rfl rfl rfl
  refine ⟨_, _, (pss_cons (ps_if (pt_not (pt_val (pe_has Gis (hr.mono (by decide)) (by rfl) (pa_cons (pv 0) (pa_cons (pv 1) pa_nil))))) (pss_one (ps_raiseQ rfl ErS (hr.mono (by decide)) tk (pv 1))) pss_nil)
      (pss_one (ps_ret (pv 1)))),
      (ls_seq (ls_if (lt_not (lt_b (le_call0 (la_cons le_var (la_cons le_var la_nil))))) (ls_raise le_var) ls_next)
      (ls_ret le_var)), fun ds Qd Ed hl h => ?_⟩
  obtain ⟨T, v, rfl, h1, h2⟩ := h
  simp [dOf, dVar, dC, dOp, dUn, dNil, dCons, pys, dTup, oLst, dCB, oCB, dCall, dCall0, dCallR, fAdd, oOp, fCat, fInt, fIntC, fNeg, fEq, isNonD, fIsN, fIn, fIx, dTest, dAnd, dOr, dNot, dAndV, dOrV, dNotV, dIfE, dChain, dFld, dNext, dSeq, dRet, dRetN, dDrop, dIfS, dBreak, dCont, dSet, dSetO, setAll, dSetT, dPar, itSeq, itRange1, itRange2, itEnum, Tg.put, Tg.ix, dFor, wipeL, dYes, oLc, dAppend, dPutIx, dFreeze, unown, hasOwn, noLD, okL, dSnap, dSnapT, dRaise, startD, dNoPart, dPart, dSl, oSl, fLen, fInt1, fAbs, fInt2, fDivmod, fTuple, fList, fSorted, oSortedSet, fRepr, fAll, fSum, isIntD, isBoolD, isStrD, isTupD, isSeqD, fIsT, dIsLT, dAug, dPutF, dFldI, dMake, startI, putD, dTupRev, dNewBox, dBoxPut, fRep, fEqS, oListRg, dPair, dWork, dSetA, fTimes, fIsOwn, fEqOwn, oSetC, dExtend, dPairO, oSnap, oSetJ, fInT, oSortedSetB, dMakeK, dLenSet, fNotB, fTimesS, itDown, dFive, nNeedStateN, List.map, List.cons_append, List.nil_append, List.append_eq, List.getElem?_cons_zero, List.getElem?_cons_succ, List.set_cons_zero, List.set_cons_succ, List.lookup_cons, List.lookup_nil]
  refine ⟨T, v, rfl, ?_⟩
  cases e : isDp (T.headD []).length v
  · simpa using h2 e
  · simpa using h1 e

/-- where the deeds lead -/
def leadI (T : List (List Int)) (s : Int) (l : List Int) : Int := l.foldl (fun s d => (T.getD d.toNat []).getD s.toNat 0) s
structure MOk (T : List (List Int)) : Prop where
  t1 : 1 ≤ T.length
  t4 : T.length ≤ 4
  n1 : 1 ≤ (T.headD []).length
  n8 : (T.headD []).length ≤ 8
  ok : ∀ r ∈ T, r.length = (T.headD []).length ∧ ∀ x ∈ r, 0 ≤ x ∧ x < ((T.headD []).length : Int)
def spLead (CM : Addr) : SpD := fun ds Q _ => ∃ T, ∃ s : Nat, ∃ l, ds = [mach CM T, .int (s : Nat), .tup (l.map .int)] ∧ MOk T ∧ s < (T.headD []).length ∧ (∀ d ∈ l, 0 ≤ d ∧ d < (T.length : Int)) ∧ ∀ r : Nat, leadI T s l = r → r < (T.headD []).length → Q (.int (r : Nat))
def nLeadN : List Str := ["machine", "state", "deeds", "deed"]
theorem scLead : FnScope nLeadN ["machine", "state", "deeds"] (defScope sLead) := ⟨rfl, rfl, rfl, by decide +kernel, rfl, by decide +kernel, by decide +kernel⟩
theorem ok_lead {f : Addr} {fd : FuncData} (F : Fun S.K "lead" "lead" sLead f fd) (M : MachC S.K CM) : FnOk P w S.K mg base L2.CX0 1 f fd ["machine", "state", "deeds"] (spD S 3 (spLead CM)) := by
  have nd : nLeadN.Nodup := scLead.nd
  refine okD0 (N := nLeadN) (k := 0) F scLead (hb := fun cdv A outer s H E hr => ?_)
  have hu2 : (A.deeper (envOfC "lead" (defScope sLead) s.heap.objs.size f cdv)).units + 200 < cLine := by have := hr.un; omega
  have hu65 : (A.deeper (envOfC "lead" (defScope sLead) s.heap.objs.size f cdv)).units + 65 < cLine := by omega
  refine ⟨_, _, (pss_cons (ps_for PassesOwn.never rfl (pi_seq (pv 2)) (pg_name (i := 3) nd rfl (Or.inl rfl))
      (pss_one (ps_set (i := 1) nd rfl (Or.inl rfl) (pe_ix (r := rIx _) ix_seq (pe_ix (r := rIx _) ix_seq (pe_fld (pv 0) rfl) (pv 3) (fun _ _ => rfl)) (pv 1) (fun _ _ => rfl)))))
      (pss_one (ps_ret (pv 1)))),
      (ls_seq (ls_for (g := .one 3) (li_seq le_var)
      (ls_set (i := 1) (le_op l2_ix (le_op l2_ix (le_fld M.cl M.nT le_var) le_var) le_var)))
      (ls_ret le_var)), fun ds Qd Ed hl h => ?_⟩
  obtain ⟨T, s, l, rfl, mo, hs, ok, h⟩ := h
  simp [dOf, dVar, dC, dOp, dUn, dNil, dCons, pys, dTup, oLst, dCB, oCB, dCall, dCall0, dCallR, fAdd, oOp, fCat, fInt, fIntC, fNeg, fEq, isNonD, fIsN, fIn, fIx, dTest, dAnd, dOr, dNot, dAndV, dOrV, dNotV, dIfE, dChain, dFld, dNext, dSeq, dRet, dRetN, dDrop, dIfS, dBreak, dCont, dSet, dSetO, setAll, dSetT, dPar, itSeq, itRange1, itRange2, itEnum, Tg.put, Tg.ix, dFor, wipeL, dYes, oLc, dAppend, dPutIx, dFreeze, unown, hasOwn, noLD, okL, dSnap, dSnapT, dRaise, startD, dNoPart, dPart, dSl, oSl, fLen, fInt1, fAbs, fInt2, fDivmod, fTuple, fList, fSorted, oSortedSet, fRepr, fAll, fSum, isIntD, isBoolD, isStrD, isTupD, isSeqD, fIsT, dIsLT, dAug, dPutF, dFldI, dMake, startI, putD, dTupRev, dNewBox, dBoxPut, fRep, fEqS, oListRg, dPair, dWork, dSetA, fTimes, fIsOwn, fEqOwn, oSetC, dExtend, dPairO, oSnap, oSetJ, fInT, oSortedSetB, dMakeK, dLenSet, fNotB, fTimesS, itDown, dFive, nLeadN, List.map, List.cons_append, List.nil_append, List.append_eq, List.getElem?_cons_zero, List.getElem?_cons_succ, List.set_cons_zero, List.set_cons_succ, List.lookup_cons, List.lookup_nil]
  refine loop_ind (fun ds ρ => ∃ (l' : List Int) (s' : Nat) (y : Option SV), ds = l'.map .int ∧ (∀ d ∈ l', 0 ≤ d ∧ d < (T.length : Int)) ∧ s' < (T.headD []).length ∧ leadI T s' l' = leadI T s l ∧ ρ = [some (.dv (mach CM T)), some (.dv (.int (s' : Nat))), some (.dv (.tup (l.map .int))), y]) ?_ ?_ _ _ ⟨l, s, none, rfl, ok, hs, rfl, rfl⟩
  · rintro ρ ⟨l', s', y, e, ok', hs', e2, rfl⟩
    cases l' with
    | cons d l' => cases e
    | nil =>
      simp [dOf, dVar, dC, dOp, dUn, dNil, dCons, pys, dTup, oLst, dCB, oCB, dCall, dCall0, dCallR, fAdd, oOp, fCat, fInt, fIntC, fNeg, fEq, isNonD, fIsN, fIn, fIx, dTest, dAnd, dOr, dNot, dAndV, dOrV, dNotV, dIfE, dChain, dFld, dNext, dSeq, dRet, dRetN, dDrop, dIfS, dBreak, dCont, dSet, dSetO, setAll, dSetT, dPar, itSeq, itRange1, itRange2, itEnum, Tg.put, Tg.ix, dFor, wipeL, dYes, oLc, dAppend, dPutIx, dFreeze, unown, hasOwn, noLD, okL, dSnap, dSnapT, dRaise, startD, dNoPart, dPart, dSl, oSl, fLen, fInt1, fAbs, fInt2, fDivmod, fTuple, fList, fSorted, oSortedSet, fRepr, fAll, fSum, isIntD, isBoolD, isStrD, isTupD, isSeqD, fIsT, dIsLT, dAug, dPutF, dFldI, dMake, startI, putD, dTupRev, dNewBox, dBoxPut, fRep, fEqS, oListRg, dPair, dWork, dSetA, fTimes, fIsOwn, fEqOwn, oSetC, dExtend, dPairO, oSnap, oSetJ, fInT, oSortedSetB, dMakeK, dLenSet, fNotB, fTimesS, itDown, dFive, List.map, List.cons_append, List.nil_append, List.append_eq, List.getElem?_cons_zero, List.getElem?_cons_succ, List.set_cons_zero, List.set_cons_succ, List.lookup_cons, List.lookup_nil]
      exact h s' e2.symm hs'
  · rintro d ds ρ K hK ⟨l', s', y, e, ok', hs', e2, rfl⟩
    cases l' with
    | nil => cases e
    | cons x l' =>
      cases e
      have okx := ok' x List.mem_cons_self
      obtain ⟨x, rfl⟩ := Int.eq_ofNat_of_zero_le okx.1
      have lt : x < T.length := by omega
      obtain ⟨rl, rk⟩ := mo.ok _ (List.getElem_mem lt)
      simp [dOf, dVar, dC, dOp, dUn, dNil, dCons, pys, dTup, oLst, dCB, oCB, dCall, dCall0, dCallR, fAdd, oOp, fCat, fInt, fIntC, fNeg, fEq, isNonD, fIsN, fIn, fIx, dTest, dAnd, dOr, dNot, dAndV, dOrV, dNotV, dIfE, dChain, dFld, dNext, dSeq, dRet, dRetN, dDrop, dIfS, dBreak, dCont, dSet, dSetO, setAll, dSetT, dPar, itSeq, itRange1, itRange2, itEnum, Tg.put, Tg.ix, dFor, wipeL, dYes, oLc, dAppend, dPutIx, dFreeze, unown, hasOwn, noLD, okL, dSnap, dSnapT, dRaise, startD, dNoPart, dPart, dSl, oSl, fLen, fInt1, fAbs, fInt2, fDivmod, fTuple, fList, fSorted, oSortedSet, fRepr, fAll, fSum, isIntD, isBoolD, isStrD, isTupD, isSeqD, fIsT, dIsLT, dAug, dPutF, dFldI, dMake, startI, putD, dTupRev, dNewBox, dBoxPut, fRep, fEqS, oListRg, dPair, dWork, dSetA, fTimes, fIsOwn, fEqOwn, oSetC, dExtend, dPairO, oSnap, oSetJ, fInT, oSortedSetB, dMakeK, dLenSet, fNotB, fTimesS, itDown, dFive, List.map, List.cons_append, List.nil_append, List.append_eq, List.getElem?_cons_zero, List.getElem?_cons_succ, List.set_cons_zero, List.set_cons_succ, List.lookup_cons, List.lookup_nil, fld_tables]
      refine ⟨rowT T[x], atI_nat (j := x) (by rw [List.getElem?_map, List.getElem?_eq_getElem lt]; rfl), ?_⟩
      have lt2 : s' < T[x].length := by omega
      have inx := List.getElem_mem lt2
      obtain ⟨c0, c1⟩ := rk _ inx
      obtain ⟨c, hc⟩ := Int.eq_ofNat_of_zero_le c0
      refine ⟨.int (c : Nat), atI_nat (j := s') (by rw [List.getElem?_map, List.getElem?_eq_getElem lt2, hc]; rfl), ?_⟩
      refine hK _ ⟨l', c, _, rfl, fun d hd => ok' d (List.mem_cons_of_mem _ hd), by omega, ?_, rfl⟩
      rw [← e2]
      show leadI T c l' = leadI T ((T.getD (x : Int).toNat []).getD (s' : Int).toNat 0) l'
      congr 1
      rw [Int.toNat_natCast, Int.toNat_natCast, List.getD_eq_getElem?_getD, List.getD_eq_getElem?_getD, List.getElem?_eq_getElem lt]
      show _ = (T[x])[s']?.getD 0
      rw [List.getElem?_eq_getElem lt2, hc]
      rfl

/-- led: a row of deeds from a state -/
def spLed (CM : Addr) : SpD := fun ds Q _ => ∃ T, ∃ s : Nat, ∃ l : List Int, ds = [mach CM T, .int (s : Nat), .lst (l.map .int)] ∧ MOk T ∧ s < (T.headD []).length ∧ l.length ≤ 400 ∧ (∀ d ∈ l, 0 ≤ d ∧ d < (T.length : Int)) ∧ ∀ r : Nat, leadI T s l = r → r < (T.headD []).length → Q (.int (r : Nat))
theorem fault_none {n : Nat} {l : List Int} (hl : l.length ≤ 400) (ok : ∀ d ∈ l, 0 ≤ d ∧ d < (n : Int)) : rowFault n (.list (l.map .int)) = none := by
  unfold rowFault
  rw [if_pos (by simp [seqB]; omega)]
  simp only [itemsD]
  rw [Option.map_eq_none_iff, List.findIdx?_eq_none_iff]
  intro x hx
  obtain ⟨i, hi, rfl⟩ := List.mem_map.mp hx
  have := ok i hi
  simp [isDp, numD]
  omega
def nLedN : List Str := ["machine", "state", "row"]
theorem scLed : FnScope nLedN ["machine", "state", "row"] (defScope sLed) := ⟨rfl, rfl, rfl, by decide +kernel, rfl, by decide +kernel, by decide +kernel⟩
theorem ok_led {f : Addr} {fd : FuncData} (F : Fun S.K "led" "led" sLed f fd) (Gns : Has P w S.K mg base (L2.CX P w) 4 "need_state" ["machine", "state"] (spD S 2 (spNeedState CM CS))) (Gc : Has P w S.K mg base (L2.CX P w) 4 "check_row" ["machine", "value"] (spD S 2 (spCheckRow CM CR))) (Gle : Has P w S.K mg base L2.CX0 1 "lead" ["machine", "state", "deeds"] (spD S 3 (spLead CM))) : FnOk P w S.K mg base (L2.CX P w) 5 f fd ["machine", "state", "row"] (spD S 3 (spLed CM)) := by
  have nd : nLedN.Nodup := scLed.nd
  refine okDX (N := nLedN) (k := 4) F scLed (hb := fun cdv A outer s H E hr => ?_)
  have hu2 : (A.deeper (envOfC "led" (defScope sLed) s.heap.objs.size f cdv)).units + 200 < cLine := by have := hr.un; omega
  have hu65 : (A.deeper (envOfC "led" (defScope sLed) s.heap.objs.size f cdv)).units + 65 < cLine := by omega
  have tk : Takes (cxOf (L2.CX P w) P w S.K mg base nLedN "led" (defScope sLed) f cdv A outer s H E) (fun cls d _ H => E cls d H) := takes_of rfl rfl rfl rfl
  refine ⟨_, _, (pss_cons (ps_expr (pe_hasX (E := E) Gns (hr.mono (by decide)) tk (fun _ _ _ _ z => z) (by rfl) (pa_cons (pv 0) (pa_cons (pv 1) pa_nil))))
      (pss_one (ps_ret (pe_has Gle (hr.mono (by decide)) (by rfl) (pa_cons (pv 0) (pa_cons (pv 1) (pa_cons (pe_hasX (E := E) Gc (hr.mono (by decide)) tk (fun _ _ _ _ z => z) (by rfl) (pa_cons (pv 0) (pa_cons (pv 2) pa_nil))) pa_nil))))))),
      (ls_seq (ls_drop (le_call (la_cons le_var (la_cons le_var la_nil))))
      (ls_ret (le_call0 (la_cons le_var (la_cons le_var (la_cons (le_call (la_cons le_var (la_cons le_var la_nil))) la_nil)))))), fun ds Qd Ed hl h => ?_⟩
  obtain ⟨T, s0, l, rfl, mo, hs, l400, ok, h⟩ := h
  simp only [dOf, dVar, dC, dOp, dUn, dNil, dCons, pys, dTup, oLst, dCB, oCB, dCall, dCall0, dCallR, fAdd, oOp, fCat, fInt, fIntC, fNeg, fEq, isNonD, fIsN, fIn, fIx, dTest, dAnd, dOr, dNot, dAndV, dOrV, dNotV, dIfE, dChain, dFld, dNext, dSeq, dRet, dRetN, dDrop, dIfS, dBreak, dCont, dSet, dSetO, setAll, dSetT, dPar, itSeq, itRange1, itRange2, itEnum, Tg.put, Tg.ix, dFor, wipeL, dYes, oLc, dAppend, dPutIx, dFreeze, unown, hasOwn, noLD, okL, dSnap, dSnapT, dRaise, startD, dNoPart, dPart, dSl, oSl, fLen, fInt1, fAbs, fInt2, fDivmod, fTuple, fList, fSorted, oSortedSet, fRepr, fAll, fSum, isIntD, isBoolD, isStrD, isTupD, isSeqD, fIsT, dIsLT, dAug, dPutF, dFldI, dMake, startI, putD, dTupRev, dNewBox, dBoxPut, fRep, fEqS, oListRg, dPair, dWork, dSetA, fTimes, fIsOwn, fEqOwn, oSetC, dExtend, dPairO, oSnap, oSetJ, fInT, oSortedSetB, dMakeK, dLenSet, fNotB, fTimesS, itDown, dFive, nLedN, List.map, List.cons_append, List.nil_append, List.append_eq, List.getElem?_cons_zero, List.getElem?_cons_succ, List.set_cons_zero, List.set_cons_succ, List.lookup_cons, List.lookup_nil]
  have sd : isDp (T.headD []).length (.int (s0 : Nat)) = true := by
    simp only [isDp, numD, Bool.and_eq_true, decide_eq_true_eq]
    omega
  refine ⟨T, .int (s0 : Nat), rfl, fun _ => ?_, fun z => (by rw [sd] at z; cases z)⟩
  have fn := fault_none l400 ok
  exact ⟨T, .list (l.map .int), rfl, fun i hi => (by rw [fn] at hi; cases hi), fun _ => ⟨T, s0, l, rfl, mo, hs, ok, h⟩⟩

def spNeedRing (CF : Addr) : SpD := fun ds Q Ed => ∃ v, ∃ l : Nat, ds = [.py v, .int (l : Nat)] ∧ l ≤ 12 ∧ (itemsD v).length ≤ 64 ∧ (isRingB v 8 l = true → Q (.tup (itemsD v))) ∧ (isRingB v 8 l = false → Ed ⟨CF, "at", .py v⟩)
theorem ring_seq {v : PyData} {mk l : Nat} (h : isRingB v mk l = true) : v = .list (itemsD v) ∨ v = .tuple (itemsD v) := by
  unfold isRingB at h
  rw [Bool.and_eq_true, Bool.and_eq_true] at h
  exact (seqB_items h.1.1).1
theorem ring_parts {v : PyData} {mk l : Nat} (h : isRingB v mk l = true) : isSeqD v = true ∧ itemsD v = (ringInts v).map .int ∧ 0 < (ringInts v).length := by
  have z := ring_seq h
  unfold isRingB at h
  rw [Bool.and_eq_true, Bool.and_eq_true] at h
  have iv := ints_all h.1.2
  have sb := (seqB_items h.1.1).2.1
  refine ⟨?_, iv, ?_⟩
  · rcases z with z | z <;> (rw [z]; rfl)
  · rw [iv, List.length_map] at sb
    omega
def nNeedRingN : List Str := ["value", "length"]
theorem scNeedRing : FnScope nNeedRingN ["value", "length"] (defScope sNeedRing) := ⟨rfl, rfl, rfl, by decide +kernel, rfl, by decide +kernel, by decide +kernel⟩
theorem ok_need_ring {f : Addr} {fd : FuncData} (F : Fun S.K "_need_ring" "_need_ring" sNeedRing f fd) {tt : Tok} (B : Bare mg) (gM : mg "MOST_MARKS" = some (.int 8 tt)) (ErF : Err P w S.K mg base "Refused" "at" CF) (Gir : Has P w S.K mg base L2.CX0 2 "_is_ring" ["value", "marks", "length"] (spD S 3 spIsRing)) : FnOk P w S.K mg base (L2.CX P w) 3 f fd ["value", "length"] (spD S 2 (spNeedRing CF)) := by
  have nd : nNeedRingN.Nodup := scNeedRing.nd
  refine okDX (N := nNeedRingN) (k := 2) F scNeedRing (hb := fun cdv A outer s H E hr => ?_)
  have hu2 : (A.deeper (envOfC "_need_ring" (defScope sNeedRing) s.heap.objs.size f cdv)).units + 200 < cLine := by have := hr.un; omega
  have hu65 : (A.deeper (envOfC "_need_ring" (defScope sNeedRing) s.heap.objs.size f cdv)).units + 65 < cLine := by omega
  have tk : Takes (cxOf (L2.CX P w) P w S.K mg base nNeedRingN "_need_ring" (defScope sNeedRing) f cdv A outer s H E) (fun cls d _ H => E cls d H) := takes_of rfl rfl rfl rfl
  refine ⟨_, _, (pss_cons (ps_if (pt_not (pt_val (pe_has Gir (hr.mono (by decide)) (by rfl) (pa_cons (pv 0) (pa_cons (pe_glob (v := .int 8) rfl gM ⟨_, rfl⟩) (pa_cons (pv 1) pa_nil)))))) (pss_one (ps_raiseErr rfl ErF (hr.mono (by decide)) tk (pv 0))) pss_nil)
      (pss_one (ps_ret (pe_callTy (r := rTupOf _) tupOf (by rfl) B.tuple boot_tuple (pa_cons (pv 0) pa_nil))))),
      (ls_seq (ls_if (lt_not (lt_b (le_call0 (la_cons le_var (la_cons le_int (la_cons le_var la_nil)))))) (ls_raise le_var) ls_next)
      (ls_ret (le_cb lc_tuple (la_cons le_var la_nil)))), fun ds Qd Ed hl h => ?_⟩
  obtain ⟨v, l, rfl, l12, v64, h1, h2⟩ := h
  simp only [dOf, dVar, dC, dOp, dUn, dNil, dCons, pys, dTup, oLst, dCB, oCB, dCall, dCall0, dCallR, fAdd, oOp, fCat, fInt, fIntC, fNeg, fEq, isNonD, fIsN, fIn, fIx, dTest, dAnd, dOr, dNot, dAndV, dOrV, dNotV, dIfE, dChain, dFld, dNext, dSeq, dRet, dRetN, dDrop, dIfS, dBreak, dCont, dSet, dSetO, setAll, dSetT, dPar, itSeq, itRange1, itRange2, itEnum, Tg.put, Tg.ix, dFor, wipeL, dYes, oLc, dAppend, dPutIx, dFreeze, unown, hasOwn, noLD, okL, dSnap, dSnapT, dRaise, startD, dNoPart, dPart, dSl, oSl, fLen, fInt1, fAbs, fInt2, fDivmod, fTuple, fList, fSorted, oSortedSet, fRepr, fAll, fSum, isIntD, isBoolD, isStrD, isTupD, isSeqD, fIsT, dIsLT, dAug, dPutF, dFldI, dMake, startI, putD, dTupRev, dNewBox, dBoxPut, fRep, fEqS, oListRg, dPair, dWork, dSetA, fTimes, fIsOwn, fEqOwn, oSetC, dExtend, dPairO, oSnap, oSetJ, fInT, oSortedSetB, dMakeK, dLenSet, fNotB, fTimesS, itDown, dFive, nNeedRingN, List.map, List.cons_append, List.nil_append, List.append_eq, List.getElem?_cons_zero, List.getElem?_cons_succ, List.set_cons_zero, List.set_cons_succ, List.lookup_cons, List.lookup_nil]
  refine ⟨v, 8, l, rfl, by decide, by decide, l12, v64, ?_⟩
  cases e : isRingB v 8 l with
  | false =>
    refine iteT2 rfl ?_
    exact h2 e
  | true =>
    refine iteF2 (by decide) ?_
    have q := h1 e
    rcases ring_seq e with z | z
    · rw [z] at q ⊢
      exact q
    · rw [z] at q ⊢
      exact q

theorem cut_check {t u : TSD} {D : EndsD} {ρ : Rho} (h : t { D with nx := fun ρ' => ρ' = ρ } ρ) (k : u D ρ) : dCut t u D ρ := ⟨fun ρ' => ρ' = ρ, h, fun _ e => e ▸ k⟩
theorem cut_seq {t u : TSD} {D : EndsD} {ρ : Rho} (h : t { D with nx := u D } ρ) : dCut t u D ρ := ⟨u D, h, fun _ e => e⟩
/-- the place as an answer -/
def placeD (k : Nat) : Option Nat → PyData
  | some n => .int ((k + n : Nat) : Int)
  | none => .none
/-- the marks at a place -/
def spMarksTold (CF : Addr) : SpD := fun ds Q Ed => ∃ v u x, ds = [.py v, .py u, .py x] ∧ (itemsD v).length ≤ 64 ∧ (numD u 0 (some 12) = false → Ed ⟨CF, "at", .py u⟩) ∧ ∀ l : Nat, u = .int (l : Nat) → l ≤ 12 → (isRingB v 8 l = false → Ed ⟨CF, "at", .py v⟩) ∧ (isRingB v 8 l = true → (numD x 0 none = false → Ed ⟨CF, "at", .py x⟩) ∧
  ∀ n : Nat, x = .int (n : Nat) → Q (.tup ((stretchL (ringInts v) l (n % (ringInts v).length)).map .int)))
/-- the place of a stretch: the first one that it is told at -/
def placeL (r : List Int) (l : Nat) (a : PyData) : Option Nat := ((List.range r.length).map (stretchL r l)).findIdx? fun st => PyData.eqv (rowI st) a
def marksB (l : Nat) (x : PyData) : Bool := seqB x (l : Nat) (l : Nat) && (itemsD x).all fun d => numD d 0 none
def spPlaceTold (CF : Addr) : SpD := fun ds Q Ed => ∃ v u x, ds = [.py v, .py u, .py x] ∧ (itemsD v).length ≤ 64 ∧ (numD u 0 (some 12) = false → Ed ⟨CF, "at", .py u⟩) ∧ ∀ l : Nat, u = .int (l : Nat) → l ≤ 12 → (isRingB v 8 l = false → Ed ⟨CF, "at", .py v⟩) ∧ (isRingB v 8 l = true → (marksB l x = false → Ed ⟨CF, "at", .py x⟩) ∧
  (marksB l x = true → shp (.tuple (itemsD x)) = true ∧ Q (.py (placeD 0 (placeL (ringInts v) l (.tuple (itemsD x)))))))
def nMarksToldN : List Str := ["ring", "length", "number", "marks"]
theorem scMarksTold : FnScope nMarksToldN ["ring", "length", "number"] (defScope sMarksTold) := ⟨rfl, rfl, rfl, by decide +kernel, rfl, by decide +kernel, by decide +kernel⟩
theorem ok_marks_told {f : Addr} {fd : FuncData} (F : Fun S.K "marks_told" "marks_told" sMarksTold f fd) (B : Bare mg) (Gnl : Has P w S.K mg base (L2.CX P w) 4 "need_length" ["value"] (spD S 1 (spNeed CF 0 12))) (Gnr : Has P w S.K mg base (L2.CX P w) 3 "_need_ring" ["value", "length"] (spD S 2 (spNeedRing CF))) (Gno : HasD P w S.K mg base (L2.CX P w) 3 "need_number" ["value", "least", "greatest"] [.non] (spD S 3 (spNeedLeast CF))) (Gst : Has P w S.K mg base L2.CX0 1 "_stretches" ["ring", "length"] (spD S 2 spStretches)) : FnOk P w S.K mg base (L2.CX P w) 5 f fd ["ring", "length", "number"] (spD S 3 (spMarksTold CF)) := by
  have nd : nMarksToldN.Nodup := scMarksTold.nd
  refine okDX (N := nMarksToldN) (k := 4) F scMarksTold (hb := fun cdv A outer s H E hr => ?_)
  have hu2 : (A.deeper (envOfC "marks_told" (defScope sMarksTold) s.heap.objs.size f cdv)).units + 200 < cLine := by have := hr.un; omega
  have hu65 : (A.deeper (envOfC "marks_told" (defScope sMarksTold) s.heap.objs.size f cdv)).units + 65 < cLine := by omega
  have tk : Takes (cxOf (L2.CX P w) P w S.K mg base nMarksToldN "marks_told" (defScope sMarksTold) f cdv A outer s H E) (fun cls d _ H => E cls d H) := takes_of rfl rfl rfl rfl
  refine ⟨_, _, (pss_cons (ps_expr (pe_hasX (E := E) Gnl (hr.mono (by decide)) tk (fun _ _ _ _ z => z) (by rfl) (pa_cons (pv 1) pa_nil)))
      (pss_cons (ps_set (i := 3) nd rfl (Or.inl rfl) (pe_hasX (E := E) Gnr (hr.mono (by decide)) tk (fun _ _ _ _ z => z) (by rfl) (pa_cons (pv 0) (pa_cons (pv 1) pa_nil))))
      (pss_cons (ps_expr (pe_hasD (E := E) Gno (hr.mono (by decide)) (passes_call tk (fun _ _ _ _ z => z)) (by rfl) (pa_cons (pv 2) (pa_cons pe_int pa_nil))))
      (pss_one (ps_ret (pe_ix (r := rIx _) ix_seq (pe_has Gst (hr.mono (by decide)) (by rfl) (pa_cons (pv 3) (pa_cons (pv 1) pa_nil))) (pe_op op_mod (pv 2) (pe_callB (r := rLenA _) lenA (by rfl) B.len PySem.boot_len (pa_cons (pv 3) pa_nil))) (fun _ _ => rfl))))))),
      (ls_seq (ls_drop (le_call (la_cons le_var la_nil)))
      (ls_seq (ls_set (i := 3) (le_call (la_cons le_var (la_cons le_var la_nil))))
      (ls_seq (ls_drop (le_callDX (dvs := [.non]) (dds := [.non]) (fun _ => .cons (.py .non) .nil) (la_cons le_var (la_cons le_int la_nil))))
      (ls_ret (le_op l2_ix (le_call0 (la_cons le_var (la_cons le_var la_nil))) (le_op l2_intC le_var (le_cb lc_len (la_cons le_var la_nil)))))))), fun ds Qd Ed hl h => ?_⟩
  obtain ⟨v, u, x, rfl, v64, h1, h2⟩ := h
  simp only [dOf, dVar, dC, dOp, dUn, dNil, dCons, pys, dTup, oLst, dCB, oCB, dCall, dCall0, dCallR, fAdd, oOp, fCat, fInt, fIntC, fNeg, fEq, isNonD, fIsN, fIn, fIx, dTest, dAnd, dOr, dNot, dAndV, dOrV, dNotV, dIfE, dChain, dFld, dNext, dSeq, dRet, dRetN, dDrop, dIfS, dBreak, dCont, dSet, dSetO, setAll, dSetT, dPar, itSeq, itRange1, itRange2, itEnum, Tg.put, Tg.ix, dFor, wipeL, dYes, oLc, dAppend, dPutIx, dFreeze, unown, hasOwn, noLD, okL, dSnap, dSnapT, dRaise, startD, dNoPart, dPart, dSl, oSl, fLen, fInt1, fAbs, fInt2, fDivmod, fTuple, fList, fSorted, oSortedSet, fRepr, fAll, fSum, isIntD, isBoolD, isStrD, isTupD, isSeqD, fIsT, dIsLT, dAug, dPutF, dFldI, dMake, startI, putD, dTupRev, dNewBox, dBoxPut, fRep, fEqS, oListRg, dPair, dWork, dSetA, fTimes, fIsOwn, fEqOwn, oSetC, dExtend, dPairO, oSnap, oSetJ, fInT, oSortedSetB, dMakeK, dLenSet, fNotB, fTimesS, itDown, dFive, nMarksToldN, List.map, List.cons_append, List.nil_append, List.append_eq, List.getElem?_cons_zero, List.getElem?_cons_succ, List.set_cons_zero, List.set_cons_succ, List.lookup_cons, List.lookup_nil, List.length_cons, List.length_nil, Nat.reduceAdd, Nat.reduceSub, List.replicate]
  refine ⟨u, rfl, fun hu => ?_, h1⟩
  obtain ⟨j, rfl, j0, j12⟩ := numD_some hu
  obtain ⟨l, rfl⟩ := nat_of (lo := 0) j0
  obtain ⟨h3, h4⟩ := h2 l rfl (by omega)
  refine ⟨v, l, rfl, by omega, v64, fun hr => ?_, h3⟩
  obtain ⟨h5, h6⟩ := h4 hr
  refine ⟨x, 0, rfl, fun hx => ?_, h5⟩
  obtain ⟨i, rfl, i0⟩ := numD_none hx
  obtain ⟨n, rfl⟩ := nat_of (lo := 0) i0
  have q := h6 n rfl
  obtain ⟨sv, iv, r1⟩ := ring_parts hr
  generalize ringInts v = r at q iv r1
  have r64 : r.length ≤ 64 := by
    rw [iv, List.length_map] at v64
    exact v64
  refine ⟨.tuple (itemsD v), r, l, rfl, rfl, iv, r64, by omega, ?_⟩
  simp only [dOf, dVar, dC, dOp, dUn, dNil, dCons, pys, dTup, oLst, dCB, oCB, dCall, dCall0, dCallR, fAdd, oOp, fCat, fInt, fIntC, fNeg, fEq, isNonD, fIsN, fIn, fIx, dTest, dAnd, dOr, dNot, dAndV, dOrV, dNotV, dIfE, dChain, dFld, dNext, dSeq, dRet, dRetN, dDrop, dIfS, dBreak, dCont, dSet, dSetO, setAll, dSetT, dPar, itSeq, itRange1, itRange2, itEnum, Tg.put, Tg.ix, dFor, wipeL, dYes, oLc, dAppend, dPutIx, dFreeze, unown, hasOwn, noLD, okL, dSnap, dSnapT, dRaise, startD, dNoPart, dPart, dSl, oSl, fLen, fInt1, fAbs, fInt2, fDivmod, fTuple, fList, fSorted, oSortedSet, fRepr, fAll, fSum, isIntD, isBoolD, isStrD, isTupD, isSeqD, fIsT, dIsLT, dAug, dPutF, dFldI, dMake, startI, putD, dTupRev, dNewBox, dBoxPut, fRep, fEqS, oListRg, dPair, dWork, dSetA, fTimes, fIsOwn, fEqOwn, oSetC, dExtend, dPairO, oSnap, oSetJ, fInT, oSortedSetB, dMakeK, dLenSet, fNotB, fTimesS, itDown, dFive, List.map, List.cons_append, List.nil_append, List.append_eq, List.getElem?_cons_zero, List.getElem?_cons_succ, List.set_cons_zero, List.set_cons_succ, List.lookup_cons, List.lookup_nil]
  rw [iv, List.length_map]
  refine ⟨by omega, ?_⟩
  have hm := Nat.mod_lt n r1
  rw [← Int.natCast_emod]
  exact ⟨_, atI_nat (j := n % r.length) (by rw [List.getElem?_map, List.getElem?_map, List.getElem?_range hm]; rfl), q⟩

def nPlaceToldN : List Str := ["ring", "length", "stretch", "marks", "mark", "asked", "place", "told"]
theorem scPlaceTold : FnScope nPlaceToldN ["ring", "length", "stretch"] (defScope sPlaceTold) := ⟨rfl, rfl, rfl, by decide +kernel, rfl, by decide +kernel, by decide +kernel⟩
theorem ok_place_told {f : Addr} {fd : FuncData} (F : Fun S.K "place_told" "place_told" sPlaceTold f fd) (B : Bare mg) (ErF : Err P w S.K mg base "Refused" "at" CF) (Gnd : HasD P w S.K mg base L2.CX0 1 "is_number" ["value", "least", "greatest"] [.non] (spD S 3 spIsNumber)) (Gs : Has P w S.K mg base L2.CX0 1 "is_sequence" ["value", "fewest", "most"] (spD S 3 spIsSequence)) (Gnl : Has P w S.K mg base (L2.CX P w) 4 "need_length" ["value"] (spD S 1 (spNeed CF 0 12))) (Gnr : Has P w S.K mg base (L2.CX P w) 3 "_need_ring" ["value", "length"] (spD S 2 (spNeedRing CF))) (Gst : Has P w S.K mg base L2.CX0 1 "_stretches" ["ring", "length"] (spD S 2 spStretches)) : FnOk P w S.K mg base (L2.CX P w) 5 f fd ["ring", "length", "stretch"] (spD S 3 (spPlaceTold CF)) := by
  have nd : nPlaceToldN.Nodup := scPlaceTold.nd
  refine okDX (N := nPlaceToldN) (k := 4) F scPlaceTold (hb := fun cdv A outer s H E hr => ?_)
  have hu2 : (A.deeper (envOfC "place_told" (defScope sPlaceTold) s.heap.objs.size f cdv)).units + 200 < cLine := by have := hr.un; omega
  have hu65 : (A.deeper (envOfC "place_told" (defScope sPlaceTold) s.heap.objs.size f cdv)).units + 65 < cLine := by omega
  have tk : Takes (cxOf (L2.CX P w) P w S.K mg base nPlaceToldN "place_told" (defScope sPlaceTold) f cdv A outer s H E) (fun cls d _ H => E cls d H) := takes_of rfl rfl rfl rfl
  refine ⟨_, _, (pss_cons (ps_expr (pe_hasX (E := E) Gnl (hr.mono (by decide)) tk (fun _ _ _ _ z => z) (by rfl) (pa_cons (pv 1) pa_nil)))
      (pss_cons (ps_set (i := 3) nd rfl (Or.inl rfl) (pe_hasX (E := E) Gnr (hr.mono (by decide)) tk (fun _ _ _ _ z => z) (by rfl) (pa_cons (pv 0) (pa_cons (pv 1) pa_nil))))
      (C8.pss_cut (ps_if (PW.pt (pw_or (pt_not (pt_val (pe_has Gs (hr.mono (by decide)) (by rfl) (pa_cons (pv 2) (pa_cons (pv 1) (pa_cons (pv 1) pa_nil)))))) (pw_or1 (pt_not (pt_val (pe_callB (r := rAll _) (cr_all rfl) (by rfl) B.all (by decide +kernel) (pa_cons (pe_lc (own := [("mark", 4)]) (g := gName 4) (tt := tYes) rfl nd (pi_seq (pv 2)) (blkOk_by (N := nPlaceToldN) (sc := defScope sPlaceTold) (by decide +kernel)) (fun _ _ _ _ _ => (pg_name (i := 4) nd rfl (Or.inl rfl))) (fun _ _ _ _ _ => pts_nil) (fun _ _ _ _ _ => (pe_hasD Gnd (hr.mono (by decide)) pass0 (by rfl) (pa_cons (pv 4) (pa_cons pe_int pa_nil))))) pa_nil))))))) (pss_one (ps_raiseErr rfl ErF (hr.mono (by decide)) tk (pv 2))) pss_nil)
      (pss_cons (ps_set (i := 5) nd rfl (Or.inl rfl) (pe_callTy (r := rTupOf _) tupOf (by rfl) B.tuple boot_tuple (pa_cons (pv 2) pa_nil)))
      (pss_cons (ps_for (passes_of rfl) rfl (pi_enumS (by rfl) B.enumerate (pa_cons (pe_has Gst (hr.mono (by decide)) (by rfl) (pa_cons (pv 3) (pa_cons (pv 1) pa_nil))) pa_nil)) (pg_tup rfl (pgs_cons (pg_name (i := 6) nd rfl (Or.inl rfl)) (pgs_cons (pg_name (i := 7) nd rfl (Or.inl rfl)) pgs_nil)))
      (pss_one (ps_if (pt_cmpR (op_eqD hr.units) (pv 7) (pv 5) (nomark _)) (pss_one (ps_ret (pv 6))) pss_nil)))
      (pss_one (ps_ret pe_non))))))),
      (ls_seq (ls_drop (le_call (la_cons le_var la_nil)))
      (ls_seq (ls_set (i := 3) (le_call (la_cons le_var (la_cons le_var la_nil))))
      (ls_cut (ls_if (lt_or (lt_not (lt_b (le_call0 (la_cons le_var (la_cons le_var (la_cons le_var la_nil)))))) (lt_not (lt_b (le_cb lc_all (la_cons (LO.le (lo_lc (g := .one 4) (li_seq le_var) lt_yes (le_callD (dvs := [.non]) (dds := [.non]) (fun _ => .cons (.py .non) .nil) (la_cons le_var (la_cons le_int la_nil))))) la_nil))))) (ls_raise le_var) ls_next)
      (ls_seq (ls_set (i := 5) (le_cb lc_tuple (la_cons le_var la_nil)))
      (ls_seq (ls_for (g := .many [6, 7]) (li_enum (la_cons (le_call0 (la_cons le_var (la_cons le_var la_nil))) la_nil))
      (ls_if (lt_test (le_op l2_eq le_var le_var)) (ls_ret le_var) ls_next))
      (ls_ret le_non)))))), fun ds Qd Ed hl h => ?_⟩
  obtain ⟨v, u, x, rfl, v64, h1, h2⟩ := h
  simp only [dOf, dVar, dC, dOp, dUn, dNil, dCons, pys, dTup, oLst, dCB, oCB, dCall, dCall0, dCallR, fAdd, oOp, fCat, fInt, fIntC, fNeg, fEq, isNonD, fIsN, fIn, fIx, dTest, dAnd, dOr, dNot, dAndV, dOrV, dNotV, dIfE, dChain, dFld, dNext, dSeq, dRet, dRetN, dDrop, dIfS, dBreak, dCont, dSet, dSetO, setAll, dSetT, dPar, itSeq, itRange1, itRange2, itEnum, Tg.put, Tg.ix, dFor, wipeL, dYes, oLc, dAppend, dPutIx, dFreeze, unown, hasOwn, noLD, okL, dSnap, dSnapT, dRaise, startD, dNoPart, dPart, dSl, oSl, fLen, fInt1, fAbs, fInt2, fDivmod, fTuple, fList, fSorted, oSortedSet, fRepr, fAll, fSum, isIntD, isBoolD, isStrD, isTupD, isSeqD, fIsT, dIsLT, dAug, dPutF, dFldI, dMake, startI, putD, dTupRev, dNewBox, dBoxPut, fRep, fEqS, oListRg, dPair, dWork, dSetA, fTimes, fIsOwn, fEqOwn, oSetC, dExtend, dPairO, oSnap, oSetJ, fInT, oSortedSetB, dMakeK, dLenSet, fNotB, fTimesS, itDown, dFive, nPlaceToldN, List.map, List.cons_append, List.nil_append, List.append_eq, List.getElem?_cons_zero, List.getElem?_cons_succ, List.set_cons_zero, List.set_cons_succ, List.lookup_cons, List.lookup_nil, List.length_cons, List.length_nil, Nat.reduceAdd, Nat.reduceSub, List.replicate]
  refine ⟨u, rfl, fun hu => ?_, h1⟩
  obtain ⟨j, rfl, j0, j12⟩ := numD_some hu
  obtain ⟨l, rfl⟩ := nat_of (lo := 0) j0
  obtain ⟨h3, h4⟩ := h2 l rfl (by omega)
  refine ⟨v, l, rfl, by omega, v64, fun hr => ?_, h3⟩
  obtain ⟨h5, h6⟩ := h4 hr
  obtain ⟨sv, iv, r1⟩ := ring_parts hr
  generalize ringInts v = r at h6 iv r1
  have r64 : r.length ≤ 64 := by
    rw [iv, List.length_map] at v64
    exact v64
  refine ⟨fun ρ => marksB l x = true ∧ ρ = [some (SV.dv (.py v)), some (SV.dv (.py (.int (l : Nat)))), some (SV.dv (.py x)), some (SV.dv (.tup (itemsD v))), none, none, none, none], ?_, ?_⟩
  · simp only [dOf, dVar, dC, dOp, dUn, dNil, dCons, pys, dTup, oLst, dCB, oCB, dCall, dCall0, dCallR, fAdd, oOp, fCat, fInt, fIntC, fNeg, fEq, isNonD, fIsN, fIn, fIx, dTest, dAnd, dOr, dNot, dAndV, dOrV, dNotV, dIfE, dChain, dFld, dNext, dSeq, dRet, dRetN, dDrop, dIfS, dBreak, dCont, dSet, dSetO, setAll, dSetT, dPar, itSeq, itRange1, itRange2, itEnum, Tg.put, Tg.ix, dFor, wipeL, dYes, oLc, dAppend, dPutIx, dFreeze, unown, hasOwn, noLD, okL, dSnap, dSnapT, dRaise, startD, dNoPart, dPart, dSl, oSl, fLen, fInt1, fAbs, fInt2, fDivmod, fTuple, fList, fSorted, oSortedSet, fRepr, fAll, fSum, isIntD, isBoolD, isStrD, isTupD, isSeqD, fIsT, dIsLT, dAug, dPutF, dFldI, dMake, startI, putD, dTupRev, dNewBox, dBoxPut, fRep, fEqS, oListRg, dPair, dWork, dSetA, fTimes, fIsOwn, fEqOwn, oSetC, dExtend, dPairO, oSnap, oSetJ, fInT, oSortedSetB, dMakeK, dLenSet, fNotB, fTimesS, itDown, dFive, List.map, List.cons_append, List.nil_append, List.append_eq, List.getElem?_cons_zero, List.getElem?_cons_succ, List.set_cons_zero, List.set_cons_succ, List.lookup_cons, List.lookup_nil, spIsSequence]
    cases c1 : seqB x (l : Nat) (l : Nat) with
    | false => exact iteT2 rfl (iteT2 trivial (h5 (by unfold marksB; rw [c1]; rfl)))
    | true =>
      refine iteF2 (by decide) ?_
      have len := (seqB_items c1).2.2
      cases x with
      | list xs | tuple xs =>
        have len : (xs.length : Int) ≤ (l : Nat) := len
        refine turns_map (fun d => .bool (numD d 0 none)) (by omega) (fun d hd => ⟨_, rfl, fun K kk => ?_⟩) ⟨xs.map fun d => numD d 0 none, by rw [List.map_map]; rfl, ?_⟩
        · simp only [dOf, dVar, dC, dOp, dUn, dNil, dCons, pys, dTup, oLst, dCB, oCB, dCall, dCall0, dCallR, fAdd, oOp, fCat, fInt, fIntC, fNeg, fEq, isNonD, fIsN, fIn, fIx, dTest, dAnd, dOr, dNot, dAndV, dOrV, dNotV, dIfE, dChain, dFld, dNext, dSeq, dRet, dRetN, dDrop, dIfS, dBreak, dCont, dSet, dSetO, setAll, dSetT, dPar, itSeq, itRange1, itRange2, itEnum, Tg.put, Tg.ix, dFor, wipeL, dYes, oLc, dAppend, dPutIx, dFreeze, unown, hasOwn, noLD, okL, dSnap, dSnapT, dRaise, startD, dNoPart, dPart, dSl, oSl, fLen, fInt1, fAbs, fInt2, fDivmod, fTuple, fList, fSorted, oSortedSet, fRepr, fAll, fSum, isIntD, isBoolD, isStrD, isTupD, isSeqD, fIsT, dIsLT, dAug, dPutF, dFldI, dMake, startI, putD, dTupRev, dNewBox, dBoxPut, fRep, fEqS, oListRg, dPair, dWork, dSetA, fTimes, fIsOwn, fEqOwn, oSetC, dExtend, dPairO, oSnap, oSetJ, fInT, oSortedSetB, dMakeK, dLenSet, fNotB, fTimesS, itDown, dFive, List.map, List.cons_append, List.nil_append, List.append_eq, List.getElem?_cons_zero, List.getElem?_cons_succ, List.set_cons_zero, List.set_cons_succ, List.lookup_cons, List.lookup_nil, spIsNumber]
          exact kk
        · have ea : (xs.map fun d => numD d 0 none).all id = xs.all fun d => numD d 0 none := by rw [List.all_map]; rfl
          cases c2 : xs.all fun d => numD d 0 none with
          | false => exact iteT2 (by rw [ea, c2]; rfl) (h5 (by unfold marksB; rw [c1]; exact c2))
          | true => exact iteF2 (by rw [ea, c2]; decide) ⟨by unfold marksB; rw [c1]; exact c2, trivial⟩
      | _ => cases c1
  · rintro ρ ⟨hm, rfl⟩
    obtain ⟨sx, h7⟩ := h6 hm
    have seq : x = .list (itemsD x) ∨ x = .tuple (itemsD x) := by
      unfold marksB at hm
      rw [Bool.and_eq_true] at hm
      exact (seqB_items hm.1).1
    have go : ∀ K : DV → Prop, K (.tup (itemsD x)) → dCB fTuple (dCons (dVar 2) dNil) [some (SV.dv (.py v)), some (SV.dv (.py (.int (l : Nat)))), some (SV.dv (.py x)), some (SV.dv (.tup (itemsD v))), none, none, none, none] K Ed := fun K kk => by
      rcases seq with z | z
      · rw [z] at kk ⊢
        exact kk
      · rw [z] at kk ⊢
        exact kk
    simp only [dSeq, dSet]
    refine go _ ?_
    simp only [dOf, dVar, dC, dOp, dUn, dNil, dCons, pys, dTup, oLst, dCB, oCB, dCall, dCall0, dCallR, fAdd, oOp, fCat, fInt, fIntC, fNeg, fEq, isNonD, fIsN, fIn, fIx, dTest, dAnd, dOr, dNot, dAndV, dOrV, dNotV, dIfE, dChain, dFld, dNext, dSeq, dRet, dRetN, dDrop, dIfS, dBreak, dCont, dSet, dSetO, setAll, dSetT, dPar, itSeq, itRange1, itRange2, itEnum, Tg.put, Tg.ix, dFor, wipeL, dYes, oLc, dAppend, dPutIx, dFreeze, unown, hasOwn, noLD, okL, dSnap, dSnapT, dRaise, startD, dNoPart, dPart, dSl, oSl, fLen, fInt1, fAbs, fInt2, fDivmod, fTuple, fList, fSorted, oSortedSet, fRepr, fAll, fSum, isIntD, isBoolD, isStrD, isTupD, isSeqD, fIsT, dIsLT, dAug, dPutF, dFldI, dMake, startI, putD, dTupRev, dNewBox, dBoxPut, fRep, fEqS, oListRg, dPair, dWork, dSetA, fTimes, fIsOwn, fEqOwn, oSetC, dExtend, dPairO, oSnap, oSetJ, fInT, oSortedSetB, dMakeK, dLenSet, fNotB, fTimesS, itDown, dFive, List.map, List.cons_append, List.nil_append, List.append_eq, List.getElem?_cons_zero, List.getElem?_cons_succ, List.set_cons_zero, List.set_cons_succ, List.lookup_cons, List.lookup_nil]
    refine ⟨.tuple (itemsD v), r, l, rfl, rfl, iv, r64, by omega, ?_⟩
    simp only [dOf, dVar, dC, dOp, dUn, dNil, dCons, pys, dTup, oLst, dCB, oCB, dCall, dCall0, dCallR, fAdd, oOp, fCat, fInt, fIntC, fNeg, fEq, isNonD, fIsN, fIn, fIx, dTest, dAnd, dOr, dNot, dAndV, dOrV, dNotV, dIfE, dChain, dFld, dNext, dSeq, dRet, dRetN, dDrop, dIfS, dBreak, dCont, dSet, dSetO, setAll, dSetT, dPar, itSeq, itRange1, itRange2, itEnum, Tg.put, Tg.ix, dFor, wipeL, dYes, oLc, dAppend, dPutIx, dFreeze, unown, hasOwn, noLD, okL, dSnap, dSnapT, dRaise, startD, dNoPart, dPart, dSl, oSl, fLen, fInt1, fAbs, fInt2, fDivmod, fTuple, fList, fSorted, oSortedSet, fRepr, fAll, fSum, isIntD, isBoolD, isStrD, isTupD, isSeqD, fIsT, dIsLT, dAug, dPutF, dFldI, dMake, startI, putD, dTupRev, dNewBox, dBoxPut, fRep, fEqS, oListRg, dPair, dWork, dSetA, fTimes, fIsOwn, fEqOwn, oSetC, dExtend, dPairO, oSnap, oSetJ, fInT, oSortedSetB, dMakeK, dLenSet, fNotB, fTimesS, itDown, dFive, List.map, List.cons_append, List.nil_append, List.append_eq, List.getElem?_cons_zero, List.getElem?_cons_succ, List.set_cons_zero, List.set_cons_succ, List.lookup_cons, List.lookup_nil]
    rw [enumD_R, List.map_map]
    generalize itemsD x = a at sx h7 ⊢
    unfold placeL at h7
    refine loop_ind (fun ds ρ => ∃ (k : Nat) (st : List (List Int)) (y4 y6 y7 : Option SV), ds = enumR k (st.map rowI) ∧ Qd (.py (placeD k (st.findIdx? fun t => PyData.eqv (rowI t) (.tuple a)))) ∧ ρ = [some (SV.dv (.py v)), some (SV.dv (.py (.int (l : Nat)))), some (SV.dv (.py x)), some (SV.dv (.tup (itemsD v))), y4, some (SV.dv (.tup a)), y6, y7]) ?_ ?_ _ _ ⟨0, (List.range r.length).map (stretchL r l), none, none, none, by rw [List.map_map], h7, rfl⟩
    · rintro ρ ⟨k, st, y4, y6, y7, e, q, rfl⟩
      cases st with
      | cons z zs => cases e
      | nil =>
        simp only [dOf, dVar, dC, dOp, dUn, dNil, dCons, pys, dTup, oLst, dCB, oCB, dCall, dCall0, dCallR, fAdd, oOp, fCat, fInt, fIntC, fNeg, fEq, isNonD, fIsN, fIn, fIx, dTest, dAnd, dOr, dNot, dAndV, dOrV, dNotV, dIfE, dChain, dFld, dNext, dSeq, dRet, dRetN, dDrop, dIfS, dBreak, dCont, dSet, dSetO, setAll, dSetT, dPar, itSeq, itRange1, itRange2, itEnum, Tg.put, Tg.ix, dFor, wipeL, dYes, oLc, dAppend, dPutIx, dFreeze, unown, hasOwn, noLD, okL, dSnap, dSnapT, dRaise, startD, dNoPart, dPart, dSl, oSl, fLen, fInt1, fAbs, fInt2, fDivmod, fTuple, fList, fSorted, oSortedSet, fRepr, fAll, fSum, isIntD, isBoolD, isStrD, isTupD, isSeqD, fIsT, dIsLT, dAug, dPutF, dFldI, dMake, startI, putD, dTupRev, dNewBox, dBoxPut, fRep, fEqS, oListRg, dPair, dWork, dSetA, fTimes, fIsOwn, fEqOwn, oSetC, dExtend, dPairO, oSnap, oSetJ, fInT, oSortedSetB, dMakeK, dLenSet, fNotB, fTimesS, itDown, dFive, List.map, List.cons_append, List.nil_append, List.append_eq, List.getElem?_cons_zero, List.getElem?_cons_succ, List.set_cons_zero, List.set_cons_succ, List.lookup_cons, List.lookup_nil]
        exact q
    · rintro d ds ρ K hK ⟨k, st, y4, y6, y7, e, q, rfl⟩
      cases st with
      | nil => cases e
      | cons z zs =>
        cases e
        simp only [dOf, dVar, dC, dOp, dUn, dNil, dCons, pys, dTup, oLst, dCB, oCB, dCall, dCall0, dCallR, fAdd, oOp, fCat, fInt, fIntC, fNeg, fEq, isNonD, fIsN, fIn, fIx, dTest, dAnd, dOr, dNot, dAndV, dOrV, dNotV, dIfE, dChain, dFld, dNext, dSeq, dRet, dRetN, dDrop, dIfS, dBreak, dCont, dSet, dSetO, setAll, dSetT, dPar, itSeq, itRange1, itRange2, itEnum, Tg.put, Tg.ix, dFor, wipeL, dYes, oLc, dAppend, dPutIx, dFreeze, unown, hasOwn, noLD, okL, dSnap, dSnapT, dRaise, startD, dNoPart, dPart, dSl, oSl, fLen, fInt1, fAbs, fInt2, fDivmod, fTuple, fList, fSorted, oSortedSet, fRepr, fAll, fSum, isIntD, isBoolD, isStrD, isTupD, isSeqD, fIsT, dIsLT, dAug, dPutF, dFldI, dMake, startI, putD, dTupRev, dNewBox, dBoxPut, fRep, fEqS, oListRg, dPair, dWork, dSetA, fTimes, fIsOwn, fEqOwn, oSetC, dExtend, dPairO, oSnap, oSetJ, fInT, oSortedSetB, dMakeK, dLenSet, fNotB, fTimesS, itDown, dFive, List.map, List.cons_append, List.nil_append, List.append_eq, List.getElem?_cons_zero, List.getElem?_cons_succ, List.set_cons_zero, List.set_cons_succ, List.lookup_cons, List.lookup_nil]
        refine ⟨shaped_tuple_ints z, sx, ?_⟩
        rw [List.findIdx?_cons] at q
        cases c : PyData.eqv (rowI z) (.tuple a) with
        | true =>
          rw [c] at q
          refine iteT2 (by decide) ?_
          exact q
        | false =>
          rw [c] at q
          refine iteF2 (by decide) ?_
          refine hK _ ⟨k + 1, zs, _, _, _, rfl, ?_, rfl⟩
          cases c3 : zs.findIdx? fun t => PyData.eqv (rowI t) (.tuple a) with
          | none =>
            rw [c3] at q
            exact q
          | some n =>
            rw [c3] at q
            show Qd (.py (.int ((k + 1 + n : Nat) : Int)))
            rw [show k + 1 + n = k + (n + 1) by omega]
            exact q

end
end Pg

set_option Elab.async false
set_option linter.all false
set_option maxRecDepth 100000
set_option maxHeartbeats 4000000
namespace Lw
open PySem PySem.Spec PyProof.Rows L2 Lx Dl Pg
section
variable {P : Program} {w : World} {mg : Str → Option Value} {base : Heap} {S : Sx}
def intB (n : Nat) (d : PyData) : Prop := ∃ r : Nat, d = .int (r : Nat) ∧ r < n
theorem ints_of {n : Nat} : ∀ {l : List PyData}, (∀ d ∈ l, intB n d) → ∃ ns : List Int, l = ns.map .int ∧ ∀ d ∈ ns, 0 ≤ d ∧ d < n
  | [], _ => ⟨[], rfl, fun d h => by cases h⟩
  | d :: l, h => by
    obtain ⟨ns, e, hn⟩ := ints_of fun x hx => h x (List.mem_cons_of_mem _ hx)
    obtain ⟨r, er, hr⟩ := h d List.mem_cons_self
    refine ⟨(r : Int) :: ns, by rw [e, er]; rfl, fun x hx => ?_⟩
    rcases List.mem_cons.mp hx with rfl | hx
    · exact ⟨by omega, by omega⟩
    · exact hn x hx
theorem take_eq {i : Int} {Q : DV → Prop} {Ed : Er → Prop} : spTake [.box, .int i] Q Ed = (1 ≤ i ∧ i < 1073741824 ∧ ∀ r : Nat, (r : Int) < i → Q (.int (r : Nat))) := by
  apply propext
  constructor
  · rintro ⟨n, e, h1, h2, h⟩
    cases e
    exact ⟨by omega, by omega, fun r hr => h r (by omega)⟩
  · rintro ⟨h1, h2, h⟩
    exact ⟨i.toNat, by rw [Int.toNat_of_nonneg (by omega)], by omega, by omega, fun r hr => h r (by omega)⟩
def spLawTables : SpD := fun ds Q _ => ∃ most kinds : Nat, ds = [.box, .int (most : Nat), .int (kinds : Nat)] ∧ 1 ≤ most ∧ most ≤ 8 ∧ 1 ≤ kinds ∧ kinds ≤ 4 ∧ ∀ T : List (List Int), MOk T → Q (.lst (T.map rowT))
def nLawTablesN : List Str := ["box", "most", "kinds", "states", "found", "deed", "style", "by", "state", "table"]
theorem scLawTables : FnScope nLawTablesN ["box", "most", "kinds"] (defScope sLawTables) := ⟨rfl, rfl, rfl, by decide +kernel, rfl, by decide +kernel, by decide +kernel⟩
theorem ok_law_tables {f : Addr} {fd : FuncData} (F : Fun S.K "_law_tables" "_law_tables" sLawTables f fd) (B : Bare mg) (Gt : Has P w S.K mg base L2.CX0 1 "_law_take" ["box", "many"] (spD S 2 spTake)) : FnOk P w S.K mg base L2.CX0 3 f fd ["box", "most", "kinds"] (spD S 3 spLawTables) := by
  have nd : nLawTablesN.Nodup := scLawTables.nd
  refine okD0 (N := nLawTablesN) (k := 2) F scLawTables (hb := fun cdv A outer s H E hr => ?_)
  have hu2 : (A.deeper (envOfC "_law_tables" (defScope sLawTables) s.heap.objs.size f cdv)).units + 200 < cLine := by have := hr.un; omega
  have hu65 : (A.deeper (envOfC "_law_tables" (defScope sLawTables) s.heap.objs.size f cdv)).units + 65 < cLine := by omega
  refine ⟨_, _, (pss_cons (ps_asg (pe_tup (pa_cons (pe_op op_addA pe_int (pe_has Gt (hr.mono (by decide)) (by rfl) (pa_cons (pv 0) (pa_cons (pv 1) pa_nil)))) (pa_cons (pe_lst pa_nil) pa_nil))) (pg_tup rfl (pgs_cons (pg_name (i := 3) nd rfl (Or.inr rfl)) (pgs_cons (pg_name (i := 4) nd rfl (Or.inl rfl)) pgs_nil))))
      (pss_cons (ps_for PassesOwn.never rfl (pi_range1 (by rfl) B.range (pa_cons (pe_op op_addA pe_int (pe_has Gt (hr.mono (by decide)) (by rfl) (pa_cons (pv 0) (pa_cons (pv 2) pa_nil)))) pa_nil)) (pg_name (i := 5) nd rfl (Or.inl rfl))
      (pss_cons (ps_asg (pe_tup (pa_cons (pe_has Gt (hr.mono (by decide)) (by rfl) (pa_cons (pv 0) (pa_cons pe_int pa_nil))) (pa_cons (pe_has Gt (hr.mono (by decide)) (by rfl) (pa_cons (pv 0) (pa_cons (pv 3) pa_nil))) pa_nil))) (pg_tup rfl (pgs_cons (pg_name (i := 6) nd rfl (Or.inl rfl)) (pgs_cons (pg_name (i := 7) nd rfl (Or.inr rfl)) pgs_nil))))
      (C8.pss_cut (ps_set (i := 9) nd rfl (Or.inr rfl) (pe_lc (own := [("state", 8)]) (g := gName 8) (tt := tYes) rfl nd (pi_range1 (by rfl) B.range (pa_cons (pv 3) pa_nil)) (blkOk_by (N := nLawTablesN) (sc := defScope sLawTables) (by decide +kernel)) (fun _ _ _ _ _ => (pg_name (i := 8) nd rfl (Or.inl rfl))) (fun _ _ _ _ _ => pts_nil) (fun _ _ _ _ _ => (pe_has Gt (hr.mono (by decide)) (by rfl) (pa_cons (pv 0) (pa_cons (pv 3) pa_nil))))))
      (C8.pss_cut (ps_if (pt_cmpR (op_eqD hr.units) (pv 6) pe_int (nomark _)) (pss_one (ps_set (i := 9) nd rfl (Or.inr rfl) (pe_lc (own := [("state", 8)]) (g := gName 8) (tt := tYes) rfl nd (pi_range1 (by rfl) B.range (pa_cons (pv 3) pa_nil)) (blkOk_by (N := nLawTablesN) (sc := defScope sLawTables) (by decide +kernel)) (fun _ _ _ _ _ => (pg_name (i := 8) nd rfl (Or.inl rfl))) (fun _ _ _ _ _ => pts_nil) (fun _ _ _ _ _ => (pe_callB (call_min2 rfl) (by rfl) B.min (by decide +kernel) (pa_cons (pe_op op_sub (pv 3) pe_int) (pa_cons (pe_op op_addA (pv 8) pe_int) pa_nil))))))) pss_nil)
      (C8.pss_cut (ps_if (pt_cmpR (op_eqD hr.units) (pv 6) pe_int (nomark _)) (pss_one (ps_set (i := 9) nd rfl (Or.inr rfl) (pe_op op_rep (pe_lst (pa_cons (pv 7) pa_nil)) (pv 3)))) pss_nil)
      (C8.pss_cut (ps_if (pt_cmpR (op_eqD hr.units) (pv 6) pe_int (nomark _)) (pss_one (ps_set (i := 9) nd rfl (Or.inr rfl) (pe_lc (own := [("state", 8)]) (g := gName 8) (tt := tYes) rfl nd (pi_range1 (by rfl) B.range (pa_cons (pv 3) pa_nil)) (blkOk_by (N := nLawTablesN) (sc := defScope sLawTables) (by decide +kernel)) (fun _ _ _ _ _ => (pg_name (i := 8) nd rfl (Or.inl rfl))) (fun _ _ _ _ _ => pts_nil) (fun _ _ _ _ _ => (pe_callB (call_max2 rfl) (by rfl) B.max (by decide +kernel) (pa_cons (pv 8) (pa_cons (pv 7) pa_nil))))))) pss_nil)
      (C8.pss_cut (ps_if (pt_cmpR (op_eqD hr.units) (pv 6) pe_int (nomark _)) (pss_one (ps_set (i := 9) nd rfl (Or.inr rfl) (pe_lc (own := [("state", 8)]) (g := gName 8) (tt := tYes) rfl nd (pi_range1 (by rfl) B.range (pa_cons (pv 3) pa_nil)) (blkOk_by (N := nLawTablesN) (sc := defScope sLawTables) (by decide +kernel)) (fun _ _ _ _ _ => (pg_name (i := 8) nd rfl (Or.inl rfl))) (fun _ _ _ _ _ => pts_nil) (fun _ _ _ _ _ => (pe_callB (call_max2 rfl) (by rfl) B.max (by decide +kernel) (pa_cons (pv 8) (pa_cons (pe_ix (r := rIx _) ix_seq (pv 9) (pv 8) (fun _ _ => rfl)) pa_nil))))))) pss_nil)
      (C8.pss_cut (ps_if (PW.pt (pw_and (pt_cmpR (op_eqD hr.units) (pv 6) pe_int (nomark _)) (pw_and1 (pt_cmpR (op_eqD hr.units) (pe_has Gt (hr.mono (by decide)) (by rfl) (pa_cons (pv 0) (pa_cons pe_int pa_nil))) pe_int (nomark _))))) (pss_one (ps_set (i := 9) nd rfl (Or.inr rfl) (pe_lc (own := [("state", 8)]) (g := gName 8) (tt := tYes) rfl nd (pi_range1 (by rfl) B.range (pa_cons (pv 3) pa_nil)) (blkOk_by (N := nLawTablesN) (sc := defScope sLawTables) (by decide +kernel)) (fun _ _ _ _ _ => (pg_name (i := 8) nd rfl (Or.inl rfl))) (fun _ _ _ _ _ => pts_nil) (fun _ _ _ _ _ => (pe_op op_mod (pe_callTy call_int1 (by rfl) B.int boot_int (pa_cons (pe_op op_addA (pv 8) (pv 7)) pa_nil)) (pv 3)))))) pss_nil)
      (pss_one (ps_expr (pe_bm PySem.F.plainAttrs_list PySem.F.slot_list_append PySem.F.type_list_append mt_append (pv 4) (pa_cons (pe_callTy (r := rTupOf _) tupOf (by rfl) B.tuple boot_tuple (pa_cons (pv 9) pa_nil)) pa_nil))))))))))))
      (pss_one (ps_ret (pv 4))))),
      (ls_seq (ls_pairO (i := 3) (j := 4) (le_op l2_add le_int (le_call0 (la_cons le_var (la_cons le_var la_nil)))) (lo_lst la_nil (by decide)))
      (ls_seq (ls_for (g := .one 5) (li_range1 (la_cons (le_op l2_add le_int (le_call0 (la_cons le_var (la_cons le_var la_nil)))) la_nil))
      (ls_seq (ls_setT (is := [6, 7]) (le_tup (la_cons (le_call0 (la_cons le_var (la_cons le_int la_nil))) (la_cons (le_call0 (la_cons le_var (la_cons le_var la_nil))) la_nil)) (by decide)) rfl)
      (ls_cut (ls_set (i := 9) (LO.le (lo_lc (g := .one 8) (li_range1 (la_cons le_var la_nil)) lt_yes (le_call0 (la_cons le_var (la_cons le_var la_nil))))))
      (ls_cut (ls_if (lt_test (le_op l2_eq le_var le_int)) (ls_set (i := 9) (LO.le (lo_lc (g := .one 8) (li_range1 (la_cons le_var la_nil)) lt_yes (le_cb lc_int2 (la_cons (le_op l2_sub le_var le_int) (la_cons (le_op l2_add le_var le_int) la_nil)))))) ls_next)
      (ls_cut (ls_if (lt_test (le_op l2_eq le_var le_int)) (ls_set (i := 9) (LO.le (lo_op l2o_rep (LO.le (lo_lst (la_cons le_var la_nil) (by decide))) le_var))) ls_next)
      (ls_cut (ls_if (lt_test (le_op l2_eq le_var le_int)) (ls_set (i := 9) (LO.le (lo_lc (g := .one 8) (li_range1 (la_cons le_var la_nil)) lt_yes (le_cb lc_int2 (la_cons le_var (la_cons le_var la_nil)))))) ls_next)
      (ls_cut (ls_if (lt_test (le_op l2_eq le_var le_int)) (ls_set (i := 9) (LO.le (lo_lc (g := .one 8) (li_range1 (la_cons le_var la_nil)) lt_yes (le_cb lc_int2 (la_cons le_var (la_cons (le_op l2_ix le_var le_var) la_nil)))))) ls_next)
      (ls_cut (ls_if (lt_and (lt_test (le_op l2_eq le_var le_int)) (lt_test (le_op l2_eq (le_call0 (la_cons le_var (la_cons le_int la_nil))) le_int))) (ls_set (i := 9) (LO.le (lo_lc (g := .one 8) (li_range1 (la_cons le_var la_nil)) lt_yes (le_op l2_intC (le_cb lc_int1 (la_cons (le_op l2_add le_var le_var) la_nil)) le_var)))) ls_next)
      (ls_append (i := 4) (le_cb lc_tuple (la_cons le_var la_nil)))))))))))
      (ls_freeze (i := 4) (ls_ret le_var)))), fun ds Qd Ed hl h => ?_⟩
  obtain ⟨most, kinds, rfl, s1, s8, k1, k4, h⟩ := h
  simp [dOf, dVar, dC, dOp, dUn, dNil, dCons, pys, dTup, oLst, dCB, oCB, dCall, dCall0, dCallR, fAdd, oOp, fCat, fInt, fIntC, fNeg, fEq, isNonD, fIsN, fIn, fIx, dTest, dAnd, dOr, dNot, dAndV, dOrV, dNotV, dIfE, dChain, dFld, dNext, dSeq, dRet, dRetN, dDrop, dIfS, dBreak, dCont, dSet, dSetO, setAll, dSetT, dPar, itSeq, itRange1, itRange2, itEnum, Tg.put, Tg.ix, dFor, wipeL, dYes, oLc, dAppend, dPutIx, dFreeze, unown, hasOwn, noLD, okL, dSnap, dSnapT, dRaise, startD, dNoPart, dPart, dSl, oSl, fLen, fInt1, fAbs, fInt2, fDivmod, fTuple, fList, fSorted, oSortedSet, fRepr, fAll, fSum, isIntD, isBoolD, isStrD, isTupD, isSeqD, fIsT, dIsLT, dAug, dPutF, dFldI, dMake, startI, putD, dTupRev, dNewBox, dBoxPut, fRep, fEqS, oListRg, dPair, dWork, dSetA, fTimes, fIsOwn, fEqOwn, oSetC, dExtend, dPairO, oSnap, oSetJ, fInT, oSortedSetB, dMakeK, dLenSet, fNotB, fTimesS, itDown, dFive, nLawTablesN, List.map, List.cons_append, List.nil_append, List.append_eq, List.getElem?_cons_zero, List.getElem?_cons_succ, List.set_cons_zero, List.set_cons_succ, List.lookup_cons, List.lookup_nil, take_eq]
  refine ⟨by omega, by omega, fun r1 h1 => ?_⟩
  obtain ⟨n, hn⟩ : ∃ n : Nat, 1 + (r1 : Int) = n := ⟨1 + r1, by omega⟩
  have n1 : 1 ≤ n := by omega
  have n8 : n ≤ 8 := by omega
  simp only [hn]
  refine ⟨by omega, by omega, fun r2 h2 => ?_⟩
  obtain ⟨m, hm⟩ : ∃ m : Nat, 1 + (r2 : Int) = m := ⟨1 + r2, by omega⟩
  have m1 : 1 ≤ m := by omega
  have m4 : m ≤ 4 := by omega
  simp only [hm]
  clear h1 h2 hn hm
  simp only [Int.toNat_natCast]
  refine ⟨⟨by omega, by omega⟩, ?_⟩
  rw [rangeD_R]
  refine loop_ind (fun ds ρ => ∃ (lo : Int) (i : Nat) (T : List (List Int)) (y5 y6 y7 y8 y9 : Option SV), ds = rangeR lo i ∧ T.length + i = m ∧ (∀ r ∈ T, r.length = n ∧ ∀ x ∈ r, 0 ≤ x ∧ x < (n : Int)) ∧ allDv [y8] = true ∧ ρ = [some (SV.dv .box), some (SV.dv (.py (.int (most : Nat)))), some (SV.dv (.py (.int (kinds : Nat)))), some (SV.dv (.int (n : Nat))), some (SV.own (T.map rowT)), y5, y6, y7, y8, y9]) ?_ ?_ _ _ ⟨0, m, [], none, none, none, none, none, rfl, by simp, by simp, rfl, rfl⟩
  · rintro ρ ⟨lo, i, T, y5, y6, y7, y8, y9, e, hT, okT, dv8, rfl⟩
    cases i with
    | succ i => cases e
    | zero =>
    simp [dOf, dVar, dC, dOp, dUn, dNil, dCons, pys, dTup, oLst, dCB, oCB, dCall, dCall0, dCallR, fAdd, oOp, fCat, fInt, fIntC, fNeg, fEq, isNonD, fIsN, fIn, fIx, dTest, dAnd, dOr, dNot, dAndV, dOrV, dNotV, dIfE, dChain, dFld, dNext, dSeq, dRet, dRetN, dDrop, dIfS, dBreak, dCont, dSet, dSetO, setAll, dSetT, dPar, itSeq, itRange1, itRange2, itEnum, Tg.put, Tg.ix, dFor, wipeL, dYes, oLc, dAppend, dPutIx, dFreeze, unown, hasOwn, noLD, okL, dSnap, dSnapT, dRaise, startD, dNoPart, dPart, dSl, oSl, fLen, fInt1, fAbs, fInt2, fDivmod, fTuple, fList, fSorted, oSortedSet, fRepr, fAll, fSum, isIntD, isBoolD, isStrD, isTupD, isSeqD, fIsT, dIsLT, dAug, dPutF, dFldI, dMake, startI, putD, dTupRev, dNewBox, dBoxPut, fRep, fEqS, oListRg, dPair, dWork, dSetA, fTimes, fIsOwn, fEqOwn, oSetC, dExtend, dPairO, oSnap, oSetJ, fInT, oSortedSetB, dMakeK, dLenSet, fNotB, fTimesS, itDown, dFive, List.map, List.cons_append, List.nil_append, List.append_eq, List.getElem?_cons_zero, List.getElem?_cons_succ, List.set_cons_zero, List.set_cons_succ, List.lookup_cons, List.lookup_nil]
    have hl : T.length = m := hT
    have hd : (T.headD []).length = n := by
      cases T with
      | nil => simp at hl; omega
      | cons r T => exact (okT r List.mem_cons_self).1
    exact h T ⟨by omega, by omega, by omega, by omega, fun r hr => by rw [hd]; exact okT r hr⟩
  · rintro d ds ρ K hK ⟨lo, i, T, y5, y6, y7, y8, y9, e, hT, okT, dv8, rfl⟩
    cases i with
    | zero => cases e
    | succ i =>
    cases e
    simp [dOf, dVar, dC, dOp, dUn, dNil, dCons, pys, dTup, oLst, dCB, oCB, dCall, dCall0, dCallR, fAdd, oOp, fCat, fInt, fIntC, fNeg, fEq, isNonD, fIsN, fIn, fIx, dTest, dAnd, dOr, dNot, dAndV, dOrV, dNotV, dIfE, dChain, dFld, dNext, dSeq, dRet, dRetN, dDrop, dIfS, dBreak, dCont, dSet, dSetO, setAll, dSetT, dPar, itSeq, itRange1, itRange2, itEnum, Tg.put, Tg.ix, dFor, wipeL, dYes, oLc, dAppend, dPutIx, dFreeze, unown, hasOwn, noLD, okL, dSnap, dSnapT, dRaise, startD, dNoPart, dPart, dSl, oSl, fLen, fInt1, fAbs, fInt2, fDivmod, fTuple, fList, fSorted, oSortedSet, fRepr, fAll, fSum, isIntD, isBoolD, isStrD, isTupD, isSeqD, fIsT, dIsLT, dAug, dPutF, dFldI, dMake, startI, putD, dTupRev, dNewBox, dBoxPut, fRep, fEqS, oListRg, dPair, dWork, dSetA, fTimes, fIsOwn, fEqOwn, oSetC, dExtend, dPairO, oSnap, oSetJ, fInT, oSortedSetB, dMakeK, dLenSet, fNotB, fTimesS, itDown, dFive, List.map, List.cons_append, List.nil_append, List.append_eq, List.getElem?_cons_zero, List.getElem?_cons_succ, List.set_cons_zero, List.set_cons_succ, List.lookup_cons, List.lookup_nil, take_eq, noLD, noL]
    intro st hst
    refine ⟨by omega, by omega, fun by_ hb => ?_⟩
    obtain ⟨Mid, hMid⟩ : ∃ Mid : Rho → Prop, ∀ ρ, Mid ρ ↔ ∃ (tb : List Int), tb.length = n ∧ (∀ x ∈ tb, 0 ≤ x ∧ x < (n : Int)) ∧ ρ = [some (SV.dv .box), some (SV.dv (.py (.int (most : Nat)))), some (SV.dv (.py (.int (kinds : Nat)))), some (SV.dv (.int (n : Nat))), some (SV.own (T.map rowT)), some (SV.dv (.py (.int lo))), some (SV.dv (.py (.int (st : Nat)))), some (SV.dv (.py (.int (by_ : Nat)))), y8, some (SV.dv (.lst (tb.map .int)))] := ⟨_, fun _ => Iff.rfl⟩
    have fill : ∀ f : Nat → Int, (∀ i, i < n → 0 ≤ f i ∧ f i < (n : Int)) → Mid [some (SV.dv .box), some (SV.dv (.py (.int (most : Nat)))), some (SV.dv (.py (.int (kinds : Nat)))), some (SV.dv (.int (n : Nat))), some (SV.own (T.map rowT)), some (SV.dv (.py (.int lo))), some (SV.dv (.py (.int (st : Nat)))), some (SV.dv (.py (.int (by_ : Nat)))), y8, some (SV.dv (.lst ((List.range n).map fun i => .int (f i))))] := fun f hf =>
      (hMid _).mpr ⟨(List.range n).map f, by simp, fun x hx => by
        obtain ⟨i, hi, rfl⟩ := List.mem_map.mp hx
        exact hf i (List.mem_range.mp hi), by rw [List.map_map]; rfl⟩
    refine ⟨Mid, ?_, ?_⟩
    · simp [dOf, dVar, dC, dOp, dUn, dNil, dCons, pys, dTup, oLst, dCB, oCB, dCall, dCall0, dCallR, fAdd, oOp, fCat, fInt, fIntC, fNeg, fEq, isNonD, fIsN, fIn, fIx, dTest, dAnd, dOr, dNot, dAndV, dOrV, dNotV, dIfE, dChain, dFld, dNext, dSeq, dRet, dRetN, dDrop, dIfS, dBreak, dCont, dSet, dSetO, setAll, dSetT, dPar, itSeq, itRange1, itRange2, itEnum, Tg.put, Tg.ix, dFor, wipeL, dYes, oLc, dAppend, dPutIx, dFreeze, unown, hasOwn, noLD, okL, dSnap, dSnapT, dRaise, startD, dNoPart, dPart, dSl, oSl, fLen, fInt1, fAbs, fInt2, fDivmod, fTuple, fList, fSorted, oSortedSet, fRepr, fAll, fSum, isIntD, isBoolD, isStrD, isTupD, isSeqD, fIsT, dIsLT, dAug, dPutF, dFldI, dMake, startI, putD, dTupRev, dNewBox, dBoxPut, fRep, fEqS, oListRg, dPair, dWork, dSetA, fTimes, fIsOwn, fEqOwn, oSetC, dExtend, dPairO, oSnap, oSetJ, fInT, oSortedSetB, dMakeK, dLenSet, fNotB, fTimesS, itDown, dFive, List.map, List.cons_append, List.nil_append, List.append_eq, List.getElem?_cons_zero, List.getElem?_cons_succ, List.set_cons_zero, List.set_cons_succ, List.lookup_cons, List.lookup_nil, take_eq]
      refine ⟨⟨by omega, by omega⟩, ?_⟩
      refine turns_any (intB n) (by simp [rangeD]; omega) (fun d hd => ⟨_, rfl, fun K kk => ?_⟩) (fun xs hx hp => ?_)
      · simp [dOf, dVar, dC, dOp, dUn, dNil, dCons, pys, dTup, oLst, dCB, oCB, dCall, dCall0, dCallR, fAdd, oOp, fCat, fInt, fIntC, fNeg, fEq, isNonD, fIsN, fIn, fIx, dTest, dAnd, dOr, dNot, dAndV, dOrV, dNotV, dIfE, dChain, dFld, dNext, dSeq, dRet, dRetN, dDrop, dIfS, dBreak, dCont, dSet, dSetO, setAll, dSetT, dPar, itSeq, itRange1, itRange2, itEnum, Tg.put, Tg.ix, dFor, wipeL, dYes, oLc, dAppend, dPutIx, dFreeze, unown, hasOwn, noLD, okL, dSnap, dSnapT, dRaise, startD, dNoPart, dPart, dSl, oSl, fLen, fInt1, fAbs, fInt2, fDivmod, fTuple, fList, fSorted, oSortedSet, fRepr, fAll, fSum, isIntD, isBoolD, isStrD, isTupD, isSeqD, fIsT, dIsLT, dAug, dPutF, dFldI, dMake, startI, putD, dTupRev, dNewBox, dBoxPut, fRep, fEqS, oListRg, dPair, dWork, dSetA, fTimes, fIsOwn, fEqOwn, oSetC, dExtend, dPairO, oSnap, oSetJ, fInT, oSortedSetB, dMakeK, dLenSet, fNotB, fTimesS, itDown, dFive, List.map, List.cons_append, List.nil_append, List.append_eq, List.getElem?_cons_zero, List.getElem?_cons_succ, List.set_cons_zero, List.set_cons_succ, List.lookup_cons, List.lookup_nil, take_eq]
        exact ⟨by omega, by omega, fun r hr => kk _ ⟨r, rfl, hr⟩⟩
      · obtain ⟨tb, rfl, ht⟩ := ints_of hp
        exact (hMid _).mpr ⟨tb, by simpa [rangeD] using hx, ht, rfl⟩
    intro ρ hρ
    obtain ⟨tb, tl, tk, rfl⟩ := (hMid ρ).mp hρ
    refine ⟨Mid, ?_, ?_⟩
    · simp [dOf, dVar, dC, dOp, dUn, dNil, dCons, pys, dTup, oLst, dCB, oCB, dCall, dCall0, dCallR, fAdd, oOp, fCat, fInt, fIntC, fNeg, fEq, isNonD, fIsN, fIn, fIx, dTest, dAnd, dOr, dNot, dAndV, dOrV, dNotV, dIfE, dChain, dFld, dNext, dSeq, dRet, dRetN, dDrop, dIfS, dBreak, dCont, dSet, dSetO, setAll, dSetT, dPar, itSeq, itRange1, itRange2, itEnum, Tg.put, Tg.ix, dFor, wipeL, dYes, oLc, dAppend, dPutIx, dFreeze, unown, hasOwn, noLD, okL, dSnap, dSnapT, dRaise, startD, dNoPart, dPart, dSl, oSl, fLen, fInt1, fAbs, fInt2, fDivmod, fTuple, fList, fSorted, oSortedSet, fRepr, fAll, fSum, isIntD, isBoolD, isStrD, isTupD, isSeqD, fIsT, dIsLT, dAug, dPutF, dFldI, dMake, startI, putD, dTupRev, dNewBox, dBoxPut, fRep, fEqS, oListRg, dPair, dWork, dSetA, fTimes, fIsOwn, fEqOwn, oSetC, dExtend, dPairO, oSnap, oSetJ, fInT, oSortedSetB, dMakeK, dLenSet, fNotB, fTimesS, itDown, dFive, List.map, List.cons_append, List.nil_append, List.append_eq, List.getElem?_cons_zero, List.getElem?_cons_succ, List.set_cons_zero, List.set_cons_succ, List.lookup_cons, List.lookup_nil, eqv_int]
      by_cases c : st = 0
      · rw [if_pos c]
        refine ⟨⟨by omega, by omega⟩, ?_⟩
        refine turns_rgm (fun i => .int (if (i : Int) + 1 < (n : Int) - 1 then (i : Int) + 1 else (n : Int) - 1)) (by omega) (fun i hi => ⟨_, rfl, fun K kk => ?_⟩) (fill _ fun i hi => by split <;> omega)
        simp [dOf, dVar, dC, dOp, dUn, dNil, dCons, pys, dTup, oLst, dCB, oCB, dCall, dCall0, dCallR, fAdd, oOp, fCat, fInt, fIntC, fNeg, fEq, isNonD, fIsN, fIn, fIx, dTest, dAnd, dOr, dNot, dAndV, dOrV, dNotV, dIfE, dChain, dFld, dNext, dSeq, dRet, dRetN, dDrop, dIfS, dBreak, dCont, dSet, dSetO, setAll, dSetT, dPar, itSeq, itRange1, itRange2, itEnum, Tg.put, Tg.ix, dFor, wipeL, dYes, oLc, dAppend, dPutIx, dFreeze, unown, hasOwn, noLD, okL, dSnap, dSnapT, dRaise, startD, dNoPart, dPart, dSl, oSl, fLen, fInt1, fAbs, fInt2, fDivmod, fTuple, fList, fSorted, oSortedSet, fRepr, fAll, fSum, isIntD, isBoolD, isStrD, isTupD, isSeqD, fIsT, dIsLT, dAug, dPutF, dFldI, dMake, startI, putD, dTupRev, dNewBox, dBoxPut, fRep, fEqS, oListRg, dPair, dWork, dSetA, fTimes, fIsOwn, fEqOwn, oSetC, dExtend, dPairO, oSnap, oSetJ, fInT, oSortedSetB, dMakeK, dLenSet, fNotB, fTimesS, itDown, dFive, List.map, List.cons_append, List.nil_append, List.append_eq, List.getElem?_cons_zero, List.getElem?_cons_succ, List.set_cons_zero, List.set_cons_succ, List.lookup_cons, List.lookup_nil]
        simpa using kk
      · rw [if_neg c]
        exact hρ
    clear hρ tl tk
    intro ρ hρ
    obtain ⟨tb, tl, tk, rfl⟩ := (hMid ρ).mp hρ
    refine ⟨Mid, ?_, ?_⟩
    · simp [dOf, dVar, dC, dOp, dUn, dNil, dCons, pys, dTup, oLst, dCB, oCB, dCall, dCall0, dCallR, fAdd, oOp, fCat, fInt, fIntC, fNeg, fEq, isNonD, fIsN, fIn, fIx, dTest, dAnd, dOr, dNot, dAndV, dOrV, dNotV, dIfE, dChain, dFld, dNext, dSeq, dRet, dRetN, dDrop, dIfS, dBreak, dCont, dSet, dSetO, setAll, dSetT, dPar, itSeq, itRange1, itRange2, itEnum, Tg.put, Tg.ix, dFor, wipeL, dYes, oLc, dAppend, dPutIx, dFreeze, unown, hasOwn, noLD, okL, dSnap, dSnapT, dRaise, startD, dNoPart, dPart, dSl, oSl, fLen, fInt1, fAbs, fInt2, fDivmod, fTuple, fList, fSorted, oSortedSet, fRepr, fAll, fSum, isIntD, isBoolD, isStrD, isTupD, isSeqD, fIsT, dIsLT, dAug, dPutF, dFldI, dMake, startI, putD, dTupRev, dNewBox, dBoxPut, fRep, fEqS, oListRg, dPair, dWork, dSetA, fTimes, fIsOwn, fEqOwn, oSetC, dExtend, dPairO, oSnap, oSetJ, fInT, oSortedSetB, dMakeK, dLenSet, fNotB, fTimesS, itDown, dFive, List.map, List.cons_append, List.nil_append, List.append_eq, List.getElem?_cons_zero, List.getElem?_cons_succ, List.set_cons_zero, List.set_cons_succ, List.lookup_cons, List.lookup_nil, eqv_int]
      by_cases c : (st : Int) = 1
      · rw [if_pos c]
        refine ⟨by omega, by omega, ?_⟩
        have e : List.replicate n (PyData.int by_) = (List.range n).map fun i => PyData.int ((fun _ : Nat => (by_ : Int)) i) := by
          refine (List.eq_replicate_iff.mpr ⟨by simp, fun b hb => ?_⟩).symm
          obtain ⟨i, _, rfl⟩ := List.mem_map.mp hb
          rfl
        rw [e]
        exact fill _ fun i hi => by show (0 : Int) ≤ by_ ∧ (by_ : Int) < n; omega
      · rw [if_neg c]
        exact hρ
    clear hρ tl tk
    intro ρ hρ
    obtain ⟨tb, tl, tk, rfl⟩ := (hMid ρ).mp hρ
    refine ⟨Mid, ?_, ?_⟩
    · simp [dOf, dVar, dC, dOp, dUn, dNil, dCons, pys, dTup, oLst, dCB, oCB, dCall, dCall0, dCallR, fAdd, oOp, fCat, fInt, fIntC, fNeg, fEq, isNonD, fIsN, fIn, fIx, dTest, dAnd, dOr, dNot, dAndV, dOrV, dNotV, dIfE, dChain, dFld, dNext, dSeq, dRet, dRetN, dDrop, dIfS, dBreak, dCont, dSet, dSetO, setAll, dSetT, dPar, itSeq, itRange1, itRange2, itEnum, Tg.put, Tg.ix, dFor, wipeL, dYes, oLc, dAppend, dPutIx, dFreeze, unown, hasOwn, noLD, okL, dSnap, dSnapT, dRaise, startD, dNoPart, dPart, dSl, oSl, fLen, fInt1, fAbs, fInt2, fDivmod, fTuple, fList, fSorted, oSortedSet, fRepr, fAll, fSum, isIntD, isBoolD, isStrD, isTupD, isSeqD, fIsT, dIsLT, dAug, dPutF, dFldI, dMake, startI, putD, dTupRev, dNewBox, dBoxPut, fRep, fEqS, oListRg, dPair, dWork, dSetA, fTimes, fIsOwn, fEqOwn, oSetC, dExtend, dPairO, oSnap, oSetJ, fInT, oSortedSetB, dMakeK, dLenSet, fNotB, fTimesS, itDown, dFive, List.map, List.cons_append, List.nil_append, List.append_eq, List.getElem?_cons_zero, List.getElem?_cons_succ, List.set_cons_zero, List.set_cons_succ, List.lookup_cons, List.lookup_nil, eqv_int]
      by_cases c : (st : Int) = 2
      · rw [if_pos c]
        refine ⟨⟨by omega, by omega⟩, ?_⟩
        refine turns_rgm (fun i => .int (if (i : Int) < (by_ : Int) then (by_ : Int) else (i : Int))) (by omega) (fun i hi => ⟨_, rfl, fun K kk => ?_⟩) (fill _ fun i hi => by split <;> omega)
        simp [dOf, dVar, dC, dOp, dUn, dNil, dCons, pys, dTup, oLst, dCB, oCB, dCall, dCall0, dCallR, fAdd, oOp, fCat, fInt, fIntC, fNeg, fEq, isNonD, fIsN, fIn, fIx, dTest, dAnd, dOr, dNot, dAndV, dOrV, dNotV, dIfE, dChain, dFld, dNext, dSeq, dRet, dRetN, dDrop, dIfS, dBreak, dCont, dSet, dSetO, setAll, dSetT, dPar, itSeq, itRange1, itRange2, itEnum, Tg.put, Tg.ix, dFor, wipeL, dYes, oLc, dAppend, dPutIx, dFreeze, unown, hasOwn, noLD, okL, dSnap, dSnapT, dRaise, startD, dNoPart, dPart, dSl, oSl, fLen, fInt1, fAbs, fInt2, fDivmod, fTuple, fList, fSorted, oSortedSet, fRepr, fAll, fSum, isIntD, isBoolD, isStrD, isTupD, isSeqD, fIsT, dIsLT, dAug, dPutF, dFldI, dMake, startI, putD, dTupRev, dNewBox, dBoxPut, fRep, fEqS, oListRg, dPair, dWork, dSetA, fTimes, fIsOwn, fEqOwn, oSetC, dExtend, dPairO, oSnap, oSetJ, fInT, oSortedSetB, dMakeK, dLenSet, fNotB, fTimesS, itDown, dFive, List.map, List.cons_append, List.nil_append, List.append_eq, List.getElem?_cons_zero, List.getElem?_cons_succ, List.set_cons_zero, List.set_cons_succ, List.lookup_cons, List.lookup_nil]
        simpa using kk
      · rw [if_neg c]
        exact hρ
    clear hρ tl tk
    intro ρ hρ
    obtain ⟨tb, tl, tk, rfl⟩ := (hMid ρ).mp hρ
    refine ⟨Mid, ?_, ?_⟩
    · simp [dOf, dVar, dC, dOp, dUn, dNil, dCons, pys, dTup, oLst, dCB, oCB, dCall, dCall0, dCallR, fAdd, oOp, fCat, fInt, fIntC, fNeg, fEq, isNonD, fIsN, fIn, fIx, dTest, dAnd, dOr, dNot, dAndV, dOrV, dNotV, dIfE, dChain, dFld, dNext, dSeq, dRet, dRetN, dDrop, dIfS, dBreak, dCont, dSet, dSetO, setAll, dSetT, dPar, itSeq, itRange1, itRange2, itEnum, Tg.put, Tg.ix, dFor, wipeL, dYes, oLc, dAppend, dPutIx, dFreeze, unown, hasOwn, noLD, okL, dSnap, dSnapT, dRaise, startD, dNoPart, dPart, dSl, oSl, fLen, fInt1, fAbs, fInt2, fDivmod, fTuple, fList, fSorted, oSortedSet, fRepr, fAll, fSum, isIntD, isBoolD, isStrD, isTupD, isSeqD, fIsT, dIsLT, dAug, dPutF, dFldI, dMake, startI, putD, dTupRev, dNewBox, dBoxPut, fRep, fEqS, oListRg, dPair, dWork, dSetA, fTimes, fIsOwn, fEqOwn, oSetC, dExtend, dPairO, oSnap, oSetJ, fInT, oSortedSetB, dMakeK, dLenSet, fNotB, fTimesS, itDown, dFive, List.map, List.cons_append, List.nil_append, List.append_eq, List.getElem?_cons_zero, List.getElem?_cons_succ, List.set_cons_zero, List.set_cons_succ, List.lookup_cons, List.lookup_nil, eqv_int]
      by_cases c : (st : Int) = 3
      · rw [if_pos c]
        refine ⟨⟨by omega, by omega⟩, ?_⟩
        refine turns_rgm (fun i => .int (if (i : Int) < tb.getD i 0 then tb.getD i 0 else (i : Int))) (by omega) (fun i hi => ⟨_, rfl, fun K kk => ?_⟩) (fill _ fun i hi => ?_)
        · have lt : i < tb.length := by omega
          simp only [dOf, dVar, dC, dOp, dUn, dNil, dCons, pys, dTup, oLst, dCB, oCB, dCall, dCall0, dCallR, fAdd, oOp, fCat, fInt, fIntC, fNeg, fEq, isNonD, fIsN, fIn, fIx, dTest, dAnd, dOr, dNot, dAndV, dOrV, dNotV, dIfE, dChain, dFld, dNext, dSeq, dRet, dRetN, dDrop, dIfS, dBreak, dCont, dSet, dSetO, setAll, dSetT, dPar, itSeq, itRange1, itRange2, itEnum, Tg.put, Tg.ix, dFor, wipeL, dYes, oLc, dAppend, dPutIx, dFreeze, unown, hasOwn, noLD, okL, dSnap, dSnapT, dRaise, startD, dNoPart, dPart, dSl, oSl, fLen, fInt1, fAbs, fInt2, fDivmod, fTuple, fList, fSorted, oSortedSet, fRepr, fAll, fSum, isIntD, isBoolD, isStrD, isTupD, isSeqD, fIsT, dIsLT, dAug, dPutF, dFldI, dMake, startI, putD, dTupRev, dNewBox, dBoxPut, fRep, fEqS, oListRg, dPair, dWork, dSetA, fTimes, fIsOwn, fEqOwn, oSetC, dExtend, dPairO, oSnap, oSetJ, fInT, oSortedSetB, dMakeK, dLenSet, fNotB, fTimesS, itDown, dFive, List.map, List.cons_append, List.nil_append, List.append_eq, List.getElem?_cons_zero, List.getElem?_cons_succ, List.set_cons_zero, List.set_cons_succ, List.lookup_cons, List.lookup_nil]
          rw [Int.zero_add]
          refine ⟨.int tb[i], atI_nat (j := i) (by rw [List.getElem?_map, List.getElem?_eq_getElem lt]; rfl), ?_⟩
          rw [List.getD_eq_getElem?_getD, List.getElem?_eq_getElem lt] at kk
          simpa using kk
        · have lt : i < tb.length := by omega
          rw [List.getD_eq_getElem?_getD, List.getElem?_eq_getElem lt]
          have := tk _ (List.getElem_mem lt)
          show 0 ≤ (if (i : Int) < tb[i] then tb[i] else (i : Int)) ∧ (if (i : Int) < tb[i] then tb[i] else (i : Int)) < (n : Int)
          split <;> omega
      · rw [if_neg c]
        exact hρ
    clear hρ tl tk
    intro ρ hρ
    obtain ⟨tb, tl, tk, rfl⟩ := (hMid ρ).mp hρ
    refine ⟨Mid, ?_, ?_⟩
    · simp [dOf, dVar, dC, dOp, dUn, dNil, dCons, pys, dTup, oLst, dCB, oCB, dCall, dCall0, dCallR, fAdd, oOp, fCat, fInt, fIntC, fNeg, fEq, isNonD, fIsN, fIn, fIx, dTest, dAnd, dOr, dNot, dAndV, dOrV, dNotV, dIfE, dChain, dFld, dNext, dSeq, dRet, dRetN, dDrop, dIfS, dBreak, dCont, dSet, dSetO, setAll, dSetT, dPar, itSeq, itRange1, itRange2, itEnum, Tg.put, Tg.ix, dFor, wipeL, dYes, oLc, dAppend, dPutIx, dFreeze, unown, hasOwn, noLD, okL, dSnap, dSnapT, dRaise, startD, dNoPart, dPart, dSl, oSl, fLen, fInt1, fAbs, fInt2, fDivmod, fTuple, fList, fSorted, oSortedSet, fRepr, fAll, fSum, isIntD, isBoolD, isStrD, isTupD, isSeqD, fIsT, dIsLT, dAug, dPutF, dFldI, dMake, startI, putD, dTupRev, dNewBox, dBoxPut, fRep, fEqS, oListRg, dPair, dWork, dSetA, fTimes, fIsOwn, fEqOwn, oSetC, dExtend, dPairO, oSnap, oSetJ, fInT, oSortedSetB, dMakeK, dLenSet, fNotB, fTimesS, itDown, dFive, List.map, List.cons_append, List.nil_append, List.append_eq, List.getElem?_cons_zero, List.getElem?_cons_succ, List.set_cons_zero, List.set_cons_succ, List.lookup_cons, List.lookup_nil, eqv_int, take_eq]
      by_cases c : (st : Int) = 4
      · rw [if_pos c]
        intro r hr
        by_cases c2 : r = 0
        · rw [if_pos c2]
          refine ⟨⟨by omega, by omega⟩, ?_⟩
          refine turns_rgm (fun i => .int (((i : Int) + by_) % (n : Int))) (by omega) (fun i hi => ⟨_, rfl, fun K kk => ?_⟩) (fill _ fun i _ => ⟨Int.emod_nonneg _ (by omega), Int.emod_lt_of_pos _ (by omega)⟩)
          simp [dOf, dVar, dC, dOp, dUn, dNil, dCons, pys, dTup, oLst, dCB, oCB, dCall, dCall0, dCallR, fAdd, oOp, fCat, fInt, fIntC, fNeg, fEq, isNonD, fIsN, fIn, fIx, dTest, dAnd, dOr, dNot, dAndV, dOrV, dNotV, dIfE, dChain, dFld, dNext, dSeq, dRet, dRetN, dDrop, dIfS, dBreak, dCont, dSet, dSetO, setAll, dSetT, dPar, itSeq, itRange1, itRange2, itEnum, Tg.put, Tg.ix, dFor, wipeL, dYes, oLc, dAppend, dPutIx, dFreeze, unown, hasOwn, noLD, okL, dSnap, dSnapT, dRaise, startD, dNoPart, dPart, dSl, oSl, fLen, fInt1, fAbs, fInt2, fDivmod, fTuple, fList, fSorted, oSortedSet, fRepr, fAll, fSum, isIntD, isBoolD, isStrD, isTupD, isSeqD, fIsT, dIsLT, dAug, dPutF, dFldI, dMake, startI, putD, dTupRev, dNewBox, dBoxPut, fRep, fEqS, oListRg, dPair, dWork, dSetA, fTimes, fIsOwn, fEqOwn, oSetC, dExtend, dPairO, oSnap, oSetJ, fInT, oSortedSetB, dMakeK, dLenSet, fNotB, fTimesS, itDown, dFive, List.map, List.cons_append, List.nil_append, List.append_eq, List.getElem?_cons_zero, List.getElem?_cons_succ, List.set_cons_zero, List.set_cons_succ, List.lookup_cons, List.lookup_nil]
          exact ⟨by omega, by simpa using kk⟩
        · rw [if_neg c2]
          exact hρ
      · rw [if_neg c]
        exact hρ
    clear hρ tl tk
    intro ρ hρ
    obtain ⟨tb, tl, tk, rfl⟩ := (hMid ρ).mp hρ
    simp [dOf, dVar, dC, dOp, dUn, dNil, dCons, pys, dTup, oLst, dCB, oCB, dCall, dCall0, dCallR, fAdd, oOp, fCat, fInt, fIntC, fNeg, fEq, isNonD, fIsN, fIn, fIx, dTest, dAnd, dOr, dNot, dAndV, dOrV, dNotV, dIfE, dChain, dFld, dNext, dSeq, dRet, dRetN, dDrop, dIfS, dBreak, dCont, dSet, dSetO, setAll, dSetT, dPar, itSeq, itRange1, itRange2, itEnum, Tg.put, Tg.ix, dFor, wipeL, dYes, oLc, dAppend, dPutIx, dFreeze, unown, hasOwn, noLD, okL, dSnap, dSnapT, dRaise, startD, dNoPart, dPart, dSl, oSl, fLen, fInt1, fAbs, fInt2, fDivmod, fTuple, fList, fSorted, oSortedSet, fRepr, fAll, fSum, isIntD, isBoolD, isStrD, isTupD, isSeqD, fIsT, dIsLT, dAug, dPutF, dFldI, dMake, startI, putD, dTupRev, dNewBox, dBoxPut, fRep, fEqS, oListRg, dPair, dWork, dSetA, fTimes, fIsOwn, fEqOwn, oSetC, dExtend, dPairO, oSnap, oSetJ, fInT, oSortedSetB, dMakeK, dLenSet, fNotB, fTimesS, itDown, dFive, List.map, List.cons_append, List.nil_append, List.append_eq, List.getElem?_cons_zero, List.getElem?_cons_succ, List.set_cons_zero, List.set_cons_succ, List.lookup_cons, List.lookup_nil]
    refine ⟨by omega, hK _ ⟨lo + 1, i, T ++ [tb], _, _, _, y8, _, rfl, by simp; omega, fun r hr => ?_, dv8, by rw [List.map_append]; rfl⟩⟩
    rcases List.mem_append.mp hr with hr | hr
    · exact okT r hr
    · rw [List.mem_singleton.mp hr]
      exact ⟨tl, tk⟩

/-- the law's own way along the tables -/
def spLawLed : SpD := fun ds Q _ => ∃ T : List (List Int), ∃ s : Nat, ∃ l : List Int, ds = [.lst (T.map rowT), .int (s : Nat), .lst (l.map .int)] ∧ MOk T ∧ s < (T.headD []).length ∧ (∀ d ∈ l, 0 ≤ d ∧ d < (T.length : Int)) ∧ ∀ r : Nat, leadI T s l = r → r < (T.headD []).length → Q (.int (r : Nat))
def nLawLedN : List Str := ["tables", "state", "row", "deed"]
theorem scLawLed : FnScope nLawLedN ["tables", "state", "row"] (defScope sLawLed) := ⟨rfl, rfl, rfl, by decide +kernel, rfl, by decide +kernel, by decide +kernel⟩
theorem ok_law_led {f : Addr} {fd : FuncData} (F : Fun S.K "_law_led" "_law_led" sLawLed f fd) (B : Bare mg) : FnOk P w S.K mg base L2.CX0 1 f fd ["tables", "state", "row"] (spD S 3 spLawLed) := by
  have nd : nLawLedN.Nodup := scLawLed.nd
  refine okD0 (N := nLawLedN) (k := 0) F scLawLed (hb := fun cdv A outer s H E hr => ?_)
  have hu2 : (A.deeper (envOfC "_law_led" (defScope sLawLed) s.heap.objs.size f cdv)).units + 200 < cLine := by have := hr.un; omega
  have hu65 : (A.deeper (envOfC "_law_led" (defScope sLawLed) s.heap.objs.size f cdv)).units + 65 < cLine := by omega
  refine ⟨_, _, (pss_cons (ps_for PassesOwn.never rfl (pi_seq (pv 2)) (pg_name (i := 3) nd rfl (Or.inl rfl))
      (pss_one (ps_set (i := 1) nd rfl (Or.inl rfl) (pe_ix (r := rIx _) ix_seq (pe_ix (r := rIx _) ix_seq (pv 0) (pv 3) (fun _ _ => rfl)) (pv 1) (fun _ _ => rfl)))))
      (pss_one (ps_ret (pv 1)))),
      (ls_seq (ls_for (g := .one 3) (li_seq le_var)
      (ls_set (i := 1) (le_op l2_ix (le_op l2_ix le_var le_var) le_var)))
      (ls_ret le_var)), fun ds Qd Ed hl h => ?_⟩
  obtain ⟨T, s, l, rfl, mo, hs, ok, h⟩ := h
  simp [dOf, dVar, dC, dOp, dUn, dNil, dCons, pys, dTup, oLst, dCB, oCB, dCall, dCall0, dCallR, fAdd, oOp, fCat, fInt, fIntC, fNeg, fEq, isNonD, fIsN, fIn, fIx, dTest, dAnd, dOr, dNot, dAndV, dOrV, dNotV, dIfE, dChain, dFld, dNext, dSeq, dRet, dRetN, dDrop, dIfS, dBreak, dCont, dSet, dSetO, setAll, dSetT, dPar, itSeq, itRange1, itRange2, itEnum, Tg.put, Tg.ix, dFor, wipeL, dYes, oLc, dAppend, dPutIx, dFreeze, unown, hasOwn, noLD, okL, dSnap, dSnapT, dRaise, startD, dNoPart, dPart, dSl, oSl, fLen, fInt1, fAbs, fInt2, fDivmod, fTuple, fList, fSorted, oSortedSet, fRepr, fAll, fSum, isIntD, isBoolD, isStrD, isTupD, isSeqD, fIsT, dIsLT, dAug, dPutF, dFldI, dMake, startI, putD, dTupRev, dNewBox, dBoxPut, fRep, fEqS, oListRg, dPair, dWork, dSetA, fTimes, fIsOwn, fEqOwn, oSetC, dExtend, dPairO, oSnap, oSetJ, fInT, oSortedSetB, dMakeK, dLenSet, fNotB, fTimesS, itDown, dFive, nLawLedN, List.map, List.cons_append, List.nil_append, List.append_eq, List.getElem?_cons_zero, List.getElem?_cons_succ, List.set_cons_zero, List.set_cons_succ, List.lookup_cons, List.lookup_nil]
  refine loop_ind (fun ds ρ => ∃ (l' : List Int) (s' : Nat) (y : Option SV), ds = l'.map .int ∧ (∀ d ∈ l', 0 ≤ d ∧ d < (T.length : Int)) ∧ s' < (T.headD []).length ∧ leadI T s' l' = leadI T s l ∧ ρ = [some (.dv (.lst (T.map rowT))), some (.dv (.int (s' : Nat))), some (.dv (.lst (l.map .int))), y]) ?_ ?_ _ _ ⟨l, s, none, rfl, ok, hs, rfl, rfl⟩
  · rintro ρ ⟨l', s', y, e, ok', hs', e2, rfl⟩
    cases l' with
    | cons d l' => cases e
    | nil =>
      simp [dOf, dVar, dC, dOp, dUn, dNil, dCons, pys, dTup, oLst, dCB, oCB, dCall, dCall0, dCallR, fAdd, oOp, fCat, fInt, fIntC, fNeg, fEq, isNonD, fIsN, fIn, fIx, dTest, dAnd, dOr, dNot, dAndV, dOrV, dNotV, dIfE, dChain, dFld, dNext, dSeq, dRet, dRetN, dDrop, dIfS, dBreak, dCont, dSet, dSetO, setAll, dSetT, dPar, itSeq, itRange1, itRange2, itEnum, Tg.put, Tg.ix, dFor, wipeL, dYes, oLc, dAppend, dPutIx, dFreeze, unown, hasOwn, noLD, okL, dSnap, dSnapT, dRaise, startD, dNoPart, dPart, dSl, oSl, fLen, fInt1, fAbs, fInt2, fDivmod, fTuple, fList, fSorted, oSortedSet, fRepr, fAll, fSum, isIntD, isBoolD, isStrD, isTupD, isSeqD, fIsT, dIsLT, dAug, dPutF, dFldI, dMake, startI, putD, dTupRev, dNewBox, dBoxPut, fRep, fEqS, oListRg, dPair, dWork, dSetA, fTimes, fIsOwn, fEqOwn, oSetC, dExtend, dPairO, oSnap, oSetJ, fInT, oSortedSetB, dMakeK, dLenSet, fNotB, fTimesS, itDown, dFive, List.map, List.cons_append, List.nil_append, List.append_eq, List.getElem?_cons_zero, List.getElem?_cons_succ, List.set_cons_zero, List.set_cons_succ, List.lookup_cons, List.lookup_nil]
      exact h s' e2.symm hs'
  · rintro d ds ρ K hK ⟨l', s', y, e, ok', hs', e2, rfl⟩
    cases l' with
    | nil => cases e
    | cons x l' =>
      cases e
      have okx := ok' x List.mem_cons_self
      obtain ⟨x, rfl⟩ := Int.eq_ofNat_of_zero_le okx.1
      have lt : x < T.length := by omega
      obtain ⟨rl, rk⟩ := mo.ok _ (List.getElem_mem lt)
      simp [dOf, dVar, dC, dOp, dUn, dNil, dCons, pys, dTup, oLst, dCB, oCB, dCall, dCall0, dCallR, fAdd, oOp, fCat, fInt, fIntC, fNeg, fEq, isNonD, fIsN, fIn, fIx, dTest, dAnd, dOr, dNot, dAndV, dOrV, dNotV, dIfE, dChain, dFld, dNext, dSeq, dRet, dRetN, dDrop, dIfS, dBreak, dCont, dSet, dSetO, setAll, dSetT, dPar, itSeq, itRange1, itRange2, itEnum, Tg.put, Tg.ix, dFor, wipeL, dYes, oLc, dAppend, dPutIx, dFreeze, unown, hasOwn, noLD, okL, dSnap, dSnapT, dRaise, startD, dNoPart, dPart, dSl, oSl, fLen, fInt1, fAbs, fInt2, fDivmod, fTuple, fList, fSorted, oSortedSet, fRepr, fAll, fSum, isIntD, isBoolD, isStrD, isTupD, isSeqD, fIsT, dIsLT, dAug, dPutF, dFldI, dMake, startI, putD, dTupRev, dNewBox, dBoxPut, fRep, fEqS, oListRg, dPair, dWork, dSetA, fTimes, fIsOwn, fEqOwn, oSetC, dExtend, dPairO, oSnap, oSetJ, fInT, oSortedSetB, dMakeK, dLenSet, fNotB, fTimesS, itDown, dFive, List.map, List.cons_append, List.nil_append, List.append_eq, List.getElem?_cons_zero, List.getElem?_cons_succ, List.set_cons_zero, List.set_cons_succ, List.lookup_cons, List.lookup_nil]
      refine ⟨rowT T[x], atI_nat (j := x) (by rw [List.getElem?_map, List.getElem?_eq_getElem lt]; rfl), ?_⟩
      have lt2 : s' < T[x].length := by omega
      have inx := List.getElem_mem lt2
      obtain ⟨c0, c1⟩ := rk _ inx
      obtain ⟨c, hc⟩ := Int.eq_ofNat_of_zero_le c0
      refine ⟨.int (c : Nat), atI_nat (j := s') (by rw [List.getElem?_map, List.getElem?_eq_getElem lt2, hc]; rfl), ?_⟩
      refine hK _ ⟨l', c, _, rfl, fun d hd => ok' d (List.mem_cons_of_mem _ hd), by omega, ?_, rfl⟩
      rw [← e2]
      show leadI T c l' = leadI T ((T.getD (x : Int).toNat []).getD (s' : Int).toNat 0) l'
      congr 1
      rw [Int.toNat_natCast, Int.toNat_natCast, List.getD_eq_getElem?_getD, List.getD_eq_getElem?_getD, List.getElem?_eq_getElem lt]
      show _ = (T[x])[s']?.getD 0
      rw [List.getElem?_eq_getElem lt2, hc]
      rfl

def spLawStretch : SpD := fun ds Q _ => ∃ (r : List Int) (l n : Nat), ds = [.tup (r.map .int), .int (l : Nat), .int (n : Nat)] ∧ 1 ≤ r.length ∧ l ≤ 12 ∧ Q (.tup ((stretchL r l n).map .int))
def nLawStretchN : List Str := ["ring", "length", "number", "back"]
theorem scLawStretch : FnScope nLawStretchN ["ring", "length", "number"] (defScope sLawStretch) := ⟨rfl, rfl, rfl, by decide +kernel, rfl, by decide +kernel, by decide +kernel⟩
theorem ok_law_stretch {f : Addr} {fd : FuncData} (F : Fun S.K "_law_stretch" "_law_stretch" sLawStretch f fd) (B : Bare mg) : FnOk P w S.K mg base L2.CX0 1 f fd ["ring", "length", "number"] (spD S 3 spLawStretch) := by
  have nd : nLawStretchN.Nodup := scLawStretch.nd
  refine okD0 (N := nLawStretchN) (k := 0) F scLawStretch (hb := fun cdv A outer s H E hr => ?_)
  have hu2 : (A.deeper (envOfC "_law_stretch" (defScope sLawStretch) s.heap.objs.size f cdv)).units + 200 < cLine := by have := hr.un; omega
  have hu65 : (A.deeper (envOfC "_law_stretch" (defScope sLawStretch) s.heap.objs.size f cdv)).units + 65 < cLine := by omega
  refine ⟨_, _, (pss_one (ps_ret (pe_callTy (r := rTupOf _) tupOf (by rfl) B.tuple boot_tuple (pa_cons (pe_lc (own := [("back", 3)]) (g := gName 3) (tt := tYes) rfl nd (pi_range3 (by rfl) B.range (pa_cons (pe_op op_sub (pv 1) pe_int) (pa_cons (pe_op op_sub pe_int pe_int) (pa_cons (pe_op op_sub pe_int pe_int) pa_nil)))) (blkOk_by (N := nLawStretchN) (sc := defScope sLawStretch) (by decide +kernel)) (fun _ _ _ _ _ => (pg_name (i := 3) nd rfl (Or.inl rfl))) (fun _ _ _ _ _ => pts_nil) (fun _ _ _ _ _ => (pe_ix (r := rIx _) ix_seq (pv 0) (pe_op op_mod (pe_callTy call_int1 (by rfl) B.int boot_int (pa_cons (pe_op op_sub (pv 2) (pv 3)) pa_nil)) (pe_callB (r := rLenA _) lenA (by rfl) B.len PySem.boot_len (pa_cons (pv 0) pa_nil))) (fun _ _ => rfl)))) pa_nil)))),
      (ls_ret (le_cb lc_tuple (la_cons (LO.le (lo_lc (g := .one 3) (li_down (la_cons (le_op l2_sub le_var le_int) (la_cons (le_op l2_sub le_int le_int) (la_cons (le_op l2_sub le_int le_int) la_nil)))) lt_yes (le_op l2_ix le_var (le_op l2_intC (le_cb lc_int1 (la_cons (le_op l2_sub le_var le_var) la_nil)) (le_cb lc_len (la_cons le_var la_nil)))))) la_nil))), fun ds Qd Ed hl h => ?_⟩
  obtain ⟨r, l, n, rfl, r1, l12, h⟩ := h
  simp only [dOf, dVar, dC, dOp, dUn, dNil, dCons, pys, dTup, oLst, dCB, oCB, dCall, dCall0, dCallR, fAdd, oOp, fCat, fInt, fIntC, fNeg, fEq, isNonD, fIsN, fIn, fIx, dTest, dAnd, dOr, dNot, dAndV, dOrV, dNotV, dIfE, dChain, dFld, dNext, dSeq, dRet, dRetN, dDrop, dIfS, dBreak, dCont, dSet, dSetO, setAll, dSetT, dPar, itSeq, itRange1, itRange2, itEnum, Tg.put, Tg.ix, dFor, wipeL, dYes, oLc, dAppend, dPutIx, dFreeze, unown, hasOwn, noLD, okL, dSnap, dSnapT, dRaise, startD, dNoPart, dPart, dSl, oSl, fLen, fInt1, fAbs, fInt2, fDivmod, fTuple, fList, fSorted, oSortedSet, fRepr, fAll, fSum, isIntD, isBoolD, isStrD, isTupD, isSeqD, fIsT, dIsLT, dAug, dPutF, dFldI, dMake, startI, putD, dTupRev, dNewBox, dBoxPut, fRep, fEqS, oListRg, dPair, dWork, dSetA, fTimes, fIsOwn, fEqOwn, oSetC, dExtend, dPairO, oSnap, oSetJ, fInT, oSortedSetB, dMakeK, dLenSet, fNotB, fTimesS, itDown, dFive, nLawStretchN, List.map, List.cons_append, List.nil_append, List.append_eq, List.getElem?_cons_zero, List.getElem?_cons_succ, List.set_cons_zero, List.set_cons_succ, List.lookup_cons, List.lookup_nil, List.length_cons, List.length_nil, Nat.reduceAdd, Nat.reduceSub, List.replicate]
  refine ⟨by decide, ⟨by omega, by omega⟩, ⟨by decide, by decide⟩, ?_⟩
  have e : downD ((l : Int) - 1) ((l : Int) - 1 - (0 - 1)).toNat = (List.range l).map fun i : Nat => PyData.int ((l : Int) - 1 - (i : Nat)) := by
    rw [show ((l : Int) - 1 - (0 - 1)).toNat = l by omega]
    rfl
  rw [e]
  refine turns_map (fun d => match d with | .int b => .int (r.getD (((n : Int) - b) % (r.length : Int)).toNat 0) | _ => .none) (by rw [List.length_map, List.length_range]; omega) (fun d hd => ⟨_, rfl, fun K kk => ?_⟩) ?_
  · obtain ⟨i, hi, rfl⟩ := List.mem_map.mp hd
    simp only [dOf, dVar, dC, dOp, dUn, dNil, dCons, pys, dTup, oLst, dCB, oCB, dCall, dCall0, dCallR, fAdd, oOp, fCat, fInt, fIntC, fNeg, fEq, isNonD, fIsN, fIn, fIx, dTest, dAnd, dOr, dNot, dAndV, dOrV, dNotV, dIfE, dChain, dFld, dNext, dSeq, dRet, dRetN, dDrop, dIfS, dBreak, dCont, dSet, dSetO, setAll, dSetT, dPar, itSeq, itRange1, itRange2, itEnum, Tg.put, Tg.ix, dFor, wipeL, dYes, oLc, dAppend, dPutIx, dFreeze, unown, hasOwn, noLD, okL, dSnap, dSnapT, dRaise, startD, dNoPart, dPart, dSl, oSl, fLen, fInt1, fAbs, fInt2, fDivmod, fTuple, fList, fSorted, oSortedSet, fRepr, fAll, fSum, isIntD, isBoolD, isStrD, isTupD, isSeqD, fIsT, dIsLT, dAug, dPutF, dFldI, dMake, startI, putD, dTupRev, dNewBox, dBoxPut, fRep, fEqS, oListRg, dPair, dWork, dSetA, fTimes, fIsOwn, fEqOwn, oSetC, dExtend, dPairO, oSnap, oSetJ, fInT, oSortedSetB, dMakeK, dLenSet, fNotB, fTimesS, itDown, dFive, List.map, List.cons_append, List.nil_append, List.append_eq, List.getElem?_cons_zero, List.getElem?_cons_succ, List.set_cons_zero, List.set_cons_succ, List.lookup_cons, List.lookup_nil, List.length_map]
    refine ⟨by omega, ?_⟩
    change K (.py (.int (r.getD (((n : Int) - ((l : Int) - 1 - (i : Int))) % (r.length : Int)).toNat 0))) at kk
    have n0 : 0 ≤ ((n : Int) - ((l : Int) - 1 - (i : Int))) % (r.length : Int) := Int.emod_nonneg _ (by omega)
    have n1 : ((n : Int) - ((l : Int) - 1 - (i : Int))) % (r.length : Int) < (r.length : Int) := Int.emod_lt_of_pos _ (by omega)
    generalize ((n : Int) - ((l : Int) - 1 - (i : Int))) % (r.length : Int) = z at n0 n1 kk ⊢
    obtain ⟨j, rfl⟩ := Int.eq_ofNat_of_zero_le n0
    have hj : j < r.length := by omega
    rw [Int.toNat_natCast, List.getD_eq_getElem?_getD, List.getElem?_eq_getElem hj] at kk
    exact ⟨_, atI_nat (j := j) (by rw [List.getElem?_map, List.getElem?_eq_getElem hj]; rfl), kk⟩
  · rw [List.map_map]
    unfold stretchL at h
    rw [List.map_map] at h
    have ee : ((List.range l).map ((fun d => match d with | PyData.int b => PyData.int (r.getD (((n : Int) - b) % (r.length : Int)).toNat 0) | _ => .none) ∘ fun i : Nat => PyData.int ((l : Int) - 1 - (i : Nat)))) = (List.range l).map (PyData.int ∘ fun i : Nat => r.getD (((n : Int) + 1 - (l : Int) + (i : Int)) % (r.length : Int)).toNat 0) := by
      refine List.map_congr_left fun i hi => ?_
      show PyData.int (r.getD (((n : Int) - ((l : Int) - 1 - (i : Int))) % (r.length : Int)).toNat 0) = PyData.int _
      rw [show (n : Int) - ((l : Int) - 1 - (i : Int)) = (n : Int) + 1 - (l : Int) + (i : Int) by omega]
    rw [ee]
    exact h

end
end Lw

set_option Elab.async false
set_option linter.all false
set_option maxRecDepth 100000
set_option maxHeartbeats 4000000
/-! k27: stretches and their places -/
namespace Lw
open PySem PySem.Spec PyProof.Rows L2 Lx Dl Pg
/-- a ring that a law walks -/
structure RingK (l : Nat) (r : List Int) : Prop where
  r1 : 1 ≤ r.length
  r8 : r.length ≤ 64
  l12 : l ≤ 12
  ap : apartB r l = true
  mks : ∀ x ∈ r, 0 ≤ x ∧ x < 8
theorem stretch_mod {r : List Int} {l m : Nat} : stretchL r l (m % r.length) = stretchL r l m := by
  unfold stretchL
  refine List.map_congr_left fun i hi => ?_
  have e : (((m % r.length : Nat) : Int) + 1 - (l : Int) + (i : Int)) % (r.length : Int) = ((m : Int) + 1 - (l : Int) + (i : Int)) % (r.length : Int) := by
    rw [Int.natCast_emod, show (m : Int) % (r.length : Int) + 1 - (l : Int) + (i : Int) = (m : Int) % (r.length : Int) + (1 - (l : Int) + (i : Int)) by omega, Int.emod_add_emod]
    congr 1
    omega
  rw [e]
theorem stretch_len {r : List Int} {l p : Nat} : (stretchL r l p).length = l := by
  unfold stretchL
  rw [List.length_map, List.length_range]
theorem stretch_mem {l : Nat} {r : List Int} (R : RingK l r) {l' p : Nat} : ∀ x ∈ stretchL r l' p, 0 ≤ x ∧ x < 8 := fun x hx => by
  unfold stretchL at hx
  obtain ⟨i, _, rfl⟩ := List.mem_map.mp hx
  have r1 := R.r1
  have n0 : 0 ≤ ((p : Int) + 1 - (l' : Int) + (i : Int)) % (r.length : Int) := Int.emod_nonneg _ (by omega)
  have n1 : ((p : Int) + 1 - (l' : Int) + (i : Int)) % (r.length : Int) < (r.length : Int) := Int.emod_lt_of_pos _ (by omega)
  generalize ((p : Int) + 1 - (l' : Int) + (i : Int)) % (r.length : Int) = z at n0 n1 ⊢
  obtain ⟨j, rfl⟩ := Int.eq_ofNat_of_zero_le n0
  have hj : j < r.length := by omega
  rw [Int.toNat_natCast, List.getD_eq_getElem?_getD, List.getElem?_eq_getElem hj]
  exact R.mks _ (List.getElem_mem hj)
theorem ring_t {l : Nat} {r : List Int} (R : RingK l r) : isRingB (.tuple (r.map .int)) 8 l = true := by
  unfold isRingB
  have e1 : seqB (.tuple (r.map .int)) 1 10000 = true := by
    have := R.r1
    have := R.r8
    simp [seqB]
    omega
  have e2 : (itemsD (.tuple (r.map .int))).all (isMk 8) = true := isMk_all R.mks
  have e3 : ringInts (.tuple (r.map .int)) = r := ringInts_map rfl
  rw [e1, e2, e3, R.ap]
  rfl
theorem ring_l {l : Nat} {r : List Int} (R : RingK l r) : isRingB (.list (r.map .int)) 8 l = true := by
  unfold isRingB
  have e1 : seqB (.list (r.map .int)) 1 10000 = true := by
    have := R.r1
    have := R.r8
    simp [seqB]
    omega
  have e2 : (itemsD (.list (r.map .int))).all (isMk 8) = true := isMk_all R.mks
  have e3 : ringInts (.list (r.map .int)) = r := ringInts_map rfl
  rw [e1, e2, e3, R.ap]
  rfl
theorem place_at {l : Nat} {r : List Int} (R : RingK l r) (m : Nat) : placeL r l (.tuple ((stretchL r l m).map .int)) = some (m % r.length) := by
  unfold placeL
  have r1 := R.r1
  have hm := Nat.mod_lt m r1
  have nd : ((List.range r.length).map (stretchL r l)).Nodup := of_decide_eq_true R.ap
  rw [List.findIdx?_eq_some_iff_getElem]
  refine ⟨by rw [List.length_map, List.length_range]; exact hm, ?_, fun j hj => ?_⟩
  · rw [List.getElem_map, List.getElem_range, stretch_mod]
    show PyData.eqv (.tuple ((stretchL r l m).map .int)) (.tuple ((stretchL r l m).map .int)) = true
    rw [eqv_tuple_ints]
    exact decide_eq_true rfl
  · rw [List.getElem_map, List.getElem_range]
    show ¬ PyData.eqv (.tuple ((stretchL r l j).map .int)) (.tuple ((stretchL r l m).map .int)) = true
    rw [eqv_tuple_ints, decide_eq_true_eq]
    intro e
    rw [← stretch_mod (m := m)] at e
    exact apart_ne (R := r) (len := l) (p := j) (q := m % r.length) R.ap hj hm e
section
variable {CF : Addr} {Q : DV → Prop} {Ed : Er → Prop} {l m : Nat} {r : List Int}
theorem marks_use {v : PyData} (R : RingK l r) (hv : v = .tuple (r.map .int) ∨ v = .list (r.map .int)) (q : Q (.tup ((stretchL r l m).map .int))) : spMarksTold CF [.py v, .int (l : Nat), .int (m : Nat)] Q Ed := by
  have l12 := R.l12
  have it : itemsD v = r.map .int := by rcases hv with rfl | rfl <;> rfl
  have rg : isRingB v 8 l = true := by
    rcases hv with rfl | rfl
    · exact ring_t R
    · exact ring_l R
  refine ⟨v, _, _, rfl, by rw [it, List.length_map]; exact R.r8, fun z => ?_, fun l' e _ => ?_⟩
  · simp [numD] at z
    omega
  · have e : l = l' := by have := PyData.int.inj e; omega
    subst e
    refine ⟨fun z => (by rw [rg] at z; cases z), fun _ => ⟨fun z => ?_, fun n e => ?_⟩⟩
    · simp [numD] at z
    · have e : m = n := by have := PyData.int.inj e; omega
      subst e
      rw [ringInts_map it, stretch_mod]
      exact q
theorem place_use {v x : PyData} (R : RingK l r) (hv : v = .tuple (r.map .int) ∨ v = .list (r.map .int)) (hx : x = .tuple ((stretchL r l m).map .int) ∨ x = .list ((stretchL r l m).map .int)) (q : Q (.int ((m % r.length : Nat) : Int))) : spPlaceTold CF [.py v, .int (l : Nat), .py x] Q Ed := by
  have l12 := R.l12
  have it : itemsD v = r.map .int := by rcases hv with rfl | rfl <;> rfl
  have ix : itemsD x = (stretchL r l m).map .int := by rcases hx with rfl | rfl <;> rfl
  have rg : isRingB v 8 l = true := by
    rcases hv with rfl | rfl
    · exact ring_t R
    · exact ring_l R
  have sl := stretch_len (r := r) (l := l) (p := m)
  have mb : marksB l x = true := by
    unfold marksB
    rw [Bool.and_eq_true]
    constructor
    · rcases hx with rfl | rfl <;> (simp [seqB, sl])
    · rw [ix, List.all_map, List.all_eq_true]
      intro y hy
      have := stretch_mem R y hy
      show numD (.int y) 0 none = true
      simp [numD]
      omega
  refine ⟨v, _, x, rfl, by rw [it, List.length_map]; exact R.r8, fun z => ?_, fun l' e _ => ?_⟩
  · simp [numD] at z
    omega
  · have e : l = l' := by have := PyData.int.inj e; omega
    subst e
    refine ⟨fun z => (by rw [rg] at z; cases z), fun _ => ⟨fun z => (by rw [mb] at z; cases z), fun _ => ⟨?_, ?_⟩⟩⟩
    · rw [ix]
      exact shaped_tuple_ints _
    · rw [ringInts_map it, ix, place_at R m]
      show Q (.int ((0 + m % r.length : Nat) : Int))
      rw [Nat.zero_add]
      exact q
end
theorem lead_app {T : List (List Int)} {s : Int} {a b : List Int} : leadI T s (a ++ b) = leadI T (leadI T s a) b := by
  unfold leadI
  rw [List.foldl_append]
theorem lead_lt {T : List (List Int)} (mo : MOk T) : ∀ (l : List Int) (s : Nat), s < (T.headD []).length → (∀ d ∈ l, 0 ≤ d ∧ d < (T.length : Int)) → ∃ r : Nat, leadI T s l = r ∧ r < (T.headD []).length
  | [], s, hs, _ => ⟨s, rfl, hs⟩
  | d :: l, s, hs, ok => by
    have okx := ok d List.mem_cons_self
    obtain ⟨x, rfl⟩ := Int.eq_ofNat_of_zero_le okx.1
    have lt : x < T.length := by omega
    obtain ⟨rl, rk⟩ := mo.ok _ (List.getElem_mem lt)
    have lt2 : s < T[x].length := by omega
    obtain ⟨c0, c1⟩ := rk _ (List.getElem_mem lt2)
    obtain ⟨c, hc⟩ := Int.eq_ofNat_of_zero_le c0
    obtain ⟨q, h1, h2⟩ := lead_lt mo l c (by omega) fun d hd => ok d (List.mem_cons_of_mem _ hd)
    refine ⟨q, ?_, h2⟩
    rw [← h1]
    show leadI T ((T.getD (x : Int).toNat []).getD (s : Int).toNat 0) l = leadI T c l
    congr 1
    rw [Int.toNat_natCast, Int.toNat_natCast, List.getD_eq_getElem?_getD, List.getD_eq_getElem?_getD, List.getElem?_eq_getElem lt]
    show (T[x])[s]?.getD 0 = _
    rw [List.getElem?_eq_getElem lt2, hc]
    rfl
end Lw

set_option Elab.async false
set_option linter.all false
set_option maxRecDepth 100000
set_option maxHeartbeats 4000000
namespace Lw
open PySem PySem.Spec PyProof.Rows L2 Lx Pg Dl
/-- one error class of the law's ear: its name -/
structure Ear1 (K : PySem.W.Frag) (mg : Str → Option Value) (x fld : Str) (C : Addr) : Prop where
  g : mg x = some (.ref C)
  s : PySem.W.exmOne K (.ref C) (.ref C) = some true
  f : XfC K C
  n : PySem.W.findIn K (.ref C) fld = some none
/-- the classes: too great, of values -/
structure EC where
  G : Addr
  F : Addr
structure Ears (K : PySem.W.Frag) (mg : Str → Option Value) (c : EC) : Prop where
  g : Ear1 K mg "TooGreat" "most" c.G
  f : Ear1 K mg "Refused" "at" c.F
  fg : PySem.W.exmOne K (.ref c.F) (.ref c.G) = some false
/-- the def of the ear -/
structure EarDef (K : PySem.W.Frag) (mg : Str → Option Value) : Prop where
  ex : ∃ g fd, mg "_law_heard" = some (.ref g) ∧ Fun K "_law_heard" "_law_heard" sLawHeard g fd ∧ L2.Binds K fd ["ask"] []
/-- a pair that begins with a word -/
def pairK (x : Str) (Q : VK) : VK := fun v H' => ∀ p H'', Same H' H'' → H' p = none → H'' p = some (.tup [.str x, v]) → Q (.ref p) H''
def toldK (Q : VK) : VK := fun v H' => [V.str ("told" : Str), v].length ≤ sizeLine ∧ ∀ p, H' p = none → Q (.ref p) (upd H' p (.tup [.str "told", v]))
/-- what _law_heard makes of what its lambda does -/
def heardE (K : PySem.W.Frag) (c : EC) (Q : VK) : XK := fun cls d H' =>
  (cls = .ref c.G ∧ ∃ dd v, d = some dd ∧ H' dd = some (.xd [("most", v)]) ∧ pairK "great" Q v H') ∨
  (cls = .ref c.F ∧ ∃ dd v dv, d = some dd ∧ H' dd = some (.xd [("at", v)]) ∧ Dp K H' v dv ∧ RepOk dv ∧ pairK "refused" Q (.str dv.shown) H')
def heardT (K : PySem.W.Frag) (c : EC) : (XK → Hp → VK → Prop) → Hp → VK → Prop := fun tl H Q => tl (heardE K c Q) H (toldK Q)
theorem scHeard : FnScope ["ask", "fault"] ["ask"] (defScope sLawHeard) := ⟨rfl, rfl, rfl, by decide +kernel, rfl, by decide +kernel, by decide +kernel⟩
theorem heard_gives {X : Cx} {g : Addr} {c : EC} {cdg : Value} (B : Bare X.mg) (ea : Ears X.K X.mg c) (hu : X.A.units + 300 < cLine) (hgd : X.A.guards = some []) :
    GivesH X ["ask", "fault"] "_law_heard" (defScope sLawHeard) g cdg (defBody sLawHeard) "ask" (heardT X.K c) := by
  intro f s H Q tl act h
  have hu2 : (X.A.deeper (envOfC "_law_heard" (defScope sLawHeard) s.heap.objs.size g cdg)).units + 200 < cLine := by
    show X.A.units + 3 + 200 < cLine
    omega
  refine ⟨_, pss_one (ps_try_clauses (Wout := fun _ _ _ _ => False)
      (tb := fun W D σ H' => ∃ Ech : XK, (∀ cls d σ' H'', Ech cls d H'' → σ'.length = 2 → W cls d σ' H'') ∧ σ[0]? = some (some (.ref f)) ∧ H' = H ∧ tl Ech H' (toldK D.rt))
      rfl rfl scHeard.nd L2.takes0 (fun W pn xe tk _ => ?_)
      (.cons (i := 1) ⟨rfl, by decide, .inl ea.g.g⟩ rfl rfl (fun a oe cls d pn hz hf => pss_one (ps_ret (pe_tup (pa_cons pe_str (pa_cons (pe_xf ea.g.f ea.g.n hz hf (pv 1)) pa_nil)))))
      (.cons (i := 1) ⟨rfl, by decide, .inl ea.f.g⟩ rfl rfl (fun a oe cls d pn hz hf => pss_one (ps_ret (pe_tup (pa_cons pe_str (pa_cons (pe_callB (r := rRepr X.K) (call_reprS hu2 hgd) (by rfl) B.repr (by decide +kernel) (pa_cons (pe_xf ea.f.f ea.f.n hz hf (pv 1)) pa_nil)) pa_nil))))) .nil))), ?_⟩
  · constructor
    rintro pins s' σ H' D I ⟨Ech, hW, h1, rfl, h2⟩
    have tk2 : Takes ((gCx X ["ask", "fault"] "_law_heard" (defScope sLawHeard) g cdg s H').tr pn xe) (fun cls d σ H => σ.length = 2 → W cls d σ H) := fun u s' ⟨a, B, sI, pins, σ, H, cls, d, e, I, nb, up, sky, na, os, ag, w⟩ => tk u s' ⟨a, B, sI, pins, σ, H, cls, d, e, I, nb, up, sky, na, os, ag, w I.len⟩
    refine (pss_one (ps_ret (pe_tup (pa_cons pe_str (pa_cons (act _ pn xe Ech _ _ tk2 hW) pa_nil))))).run pins s' σ H' D I ?_
    exact ⟨h1, rfl, h2⟩
  · refine ⟨heardE X.K c Q, ?_, rfl, rfl, h⟩
    rintro cls d σ' H' (⟨rfl, dd, v, rfl, hd, q⟩ | ⟨rfl, dd, v, dv, rfl, hd, hv, rep, q⟩) hl
    all_goals
      obtain ⟨y0, y1, rfl⟩ : ∃ y0 y1, σ' = [y0, y1] := by
        match σ', hl with
        | [y0, y1], _ => exact ⟨y0, y1, rfl⟩
    · refine ⟨true, ea.g.s, fun _ a na => ?_, fun z => Bool.noConfusion z⟩
      exact ⟨.ref a, rfl, rfl, rfl, dd, [("most", v)], v, rfl, hd, rfl, by show 2 ≤ sizeLine; decide, fun p np => q p _ (same_new np) np upd_same⟩
    · refine ⟨false, ea.fg, fun z => Bool.noConfusion z, fun _ => ⟨true, ea.f.s, fun _ a na => ?_, fun z => Bool.noConfusion z⟩⟩
      exact ⟨.ref a, rfl, rfl, rfl, dd, [("at", v)], v, rfl, hd, rfl, v, dv, rfl, hv, rep, by show 2 ≤ sizeLine; decide, fun p np => q p _ (same_new np) np upd_same⟩
/-- what the ear makes of an error -/
def hear (c : EC) (e : Er) (Q : DV → Prop) : Prop :=
  (e.C = c.G ∧ e.fld = "most" ∧ ∃ d, e.v = .py d ∧ Q (.tup [.str "great", d])) ∨
  (e.C = c.F ∧ e.fld = "at" ∧ ∃ d, e.v = .py d ∧ RepOk d ∧ Q (.tup [.str "refused", .str d.shown]))
def dHeard (c : EC) (t : TD) : TD := fun ρ Qd _ => t ρ (fun v => ∃ d, v = .py d ∧ Qd (.tup [.str "told", d])) (fun e => hear c e Qd)
theorem lh_heard {S : Sx} {c : EC} : LH S (heardT S.K c) (dHeard c) := by
  intro T t h E H0 ρ σ G H Qd Ed Q w st q k ke
  have pair : ∀ {x : Str} {v : V} {d : PyData} {G' : Gh} {H' : Hp}, Step S G H G' H' → RV G' v (.py d) → Qd (.tup [.str x, d]) → pairK x Q v H' := fun {x v d G' H'} s rv q p H'' sm np hp => by
    obtain ⟨s2, r2⟩ := rv_tup_new s.wf sm np hp (.cons (.str _) (.cons (rv_py rv) .nil))
    exact k _ _ _ _ (s.trans s2) r2 q
  refine h (heardE S.K c Q) H0 ρ σ G H _ _ _ w st q (fun v d G' H' s rv q => ?_) (fun e cls d G' H' s he q => ?_)
  · obtain ⟨d, rfl, q⟩ := q
    exact ⟨by show 2 ≤ sizeLine; decide, fun p np => pair s rv q p _ (same_new np) np upd_same⟩
  · obtain ⟨h1, dd, v, h2, h3, h4⟩ := he
    rcases q with ⟨e1, e2, x, e3, q⟩ | ⟨e1, e2, x, e3, hr, q⟩
    all_goals
      rw [e3] at h4
      rw [e2] at h3
    · exact .inl ⟨by rw [h1, e1], dd, v, h2, h3, pair s h4 q⟩
    · exact .inr ⟨by rw [h1, e1], dd, v, x, h2, h3, Rp.dp s.wf.sub _ _ (rv_py h4), hr, pair s (.py (.str _)) q⟩
end Lw

set_option Elab.async false
set_option linter.all false
set_option maxRecDepth 100000
set_option maxHeartbeats 4000000
namespace Lw
open PySem PySem.Spec PyProof.Rows L2 Lx Dl Pg
section
variable {P : Program} {w : World} {mg : Str → Option Value} {base : Heap} {S : Sx}
variable {CM CB : Addr} {ec : EC}
/-- Machine(..) -/
structure MkM (P : Program) (w : World) (S : Sx) (mg : Str → Option Value) (base : Heap) (CM CB : Addr) : Prop where
  ex : ∃ f fd, Mk S.K CM f ∧ FnOk P w S.K mg base (L2.CX P w) 3 f fd ["self", "tables"] (spDI S 1 CM (spMachine CB)) ∧ mg "Machine" = some (.ref CM) ∧ L2.Binds S.K fd ["self", "tables"] []
theorem isDp_all {n : Nat} : ∀ {l : List Int}, (∀ d ∈ l, 0 ≤ d ∧ d < (n : Int)) → (l.map PyData.int).all (isDp n) = true
  | [], _ => rfl
  | d :: l, h => by
    rw [List.map_cons, List.all_cons, isDp_all fun x hx => h x (List.mem_cons_of_mem _ hx), Bool.and_true]
    have := h d List.mem_cons_self
    unfold isDp numD
    simp
    omega
theorem intsOf_map {d : PyData} {l : List Int} (h : itemsD d = l.map .int) : intsOf d = l := by
  unfold intsOf
  rw [h, List.map_map]
  conv => rhs; rw [← List.map_id l]
  exact List.map_congr_left fun x _ => rfl
theorem tabB_row {n : Nat} {r r0 : List Int} (n1 : 1 ≤ n) (n8 : n ≤ 8) (hr : r.length = n) (h0 : r0.length = n) (ok : ∀ x ∈ r, 0 ≤ x ∧ x < (n : Int)) : tabB (rowT r) (rowT r0) = true := by
  unfold tabB
  have a : seqB (rowT r) 1 8 = true := by
    show (decide ((1 : Int) ≤ ((r.map PyData.int).length : Int)) && decide (((r.map PyData.int).length : Int) ≤ 8)) = true
    rw [List.length_map, hr, Bool.and_eq_true]
    exact ⟨decide_eq_true (by omega), decide_eq_true (by omega)⟩
  have b : (itemsD (rowT r)).length = n := by show (r.map PyData.int).length = n; rw [List.length_map, hr]
  have c : (itemsD (rowT r0)).length = n := by show (r0.map PyData.int).length = n; rw [List.length_map, h0]
  rw [a, b, c]
  show (true && decide (n = n) && (r.map PyData.int).all (isDp n)) = true
  rw [isDp_all ok, decide_eq_true rfl]
  rfl
theorem mach_ok {T : List (List Int)} (mo : MOk T) : mFault (.list (T.map rowT)) = none ∧ tablesOf (.list (T.map rowT)) = T := by
  have t1 := mo.t1
  have t4 := mo.t4
  constructor
  · unfold mFault
    have a : seqB (.list (T.map rowT)) 1 4 = true := by
      show (decide ((1 : Int) ≤ ((T.map rowT).length : Int)) && decide (((T.map rowT).length : Int) ≤ 4)) = true
      rw [List.length_map, Bool.and_eq_true]
      exact ⟨decide_eq_true (by omega), decide_eq_true (by omega)⟩
    rw [a, if_pos rfl, Option.map_eq_none_iff, List.findIdx?_eq_none_iff]
    intro x hx
    obtain ⟨r, hr, rfl⟩ := List.mem_map.mp hx
    have e : (itemsD (.list (T.map rowT))).headD .none = rowT (T.headD []) := by
      cases T with
      | nil => simp at t1
      | cons a b => rfl
    have h0 : (T.headD []) ∈ T := by
      cases T with
      | nil => simp at t1
      | cons a b => exact List.mem_cons_self
    rw [e, tabB_row mo.n1 mo.n8 (mo.ok r hr).1 rfl (mo.ok r hr).2]
    rfl
  · unfold tablesOf
    show (T.map rowT).map intsOf = T
    rw [List.map_map]
    conv => rhs; rw [← List.map_id T]
    exact List.map_congr_left fun r _ => intsOf_map (d := rowT r) (l := r) rfl
theorem use_mach {CM CB : Addr} {T : List (List Int)} {Q : List (Str × DV) → Prop} {Ed : Er → Prop} (mo : MOk T) (q : Q (machFs T)) : spMachine CB [.lst (T.map rowT)] Q Ed := by
  obtain ⟨h1, h2⟩ := mach_ok mo
  exact ⟨_, rfl, fun i hi => (by rw [h1] at hi; cases hi), fun _ => (by rw [h2]; exact q)⟩
theorem mach_nodup {T : List (List Int)} : ((machFs T).map fun x => x.fst).Nodup := by
  show ([Str.ofString "tables", Str.ofString "deeds", Str.ofString "states"] : List Str).Nodup
  decide +kernel
theorem unown_y {y : Option SV} (h : allDv [y] = true) (r : Rho) : unown (y :: r) = y :: unown r := by
  match y, h with
  | none, _ => rfl
  | some (.dv d), _ => rfl
theorem hasOwn_y {y : Option SV} (h : allDv [y] = true) (r : Rho) : hasOwn (y :: r) = hasOwn r := by
  match y, h with
  | none, _ => rfl
  | some (.dv d), _ => rfl
theorem noLs_i : ∀ l : List Int, noLs (l.map PyData.int) = true
  | [] => rfl
  | _ :: l => noLs_i l
/-- whatever the test says -/
theorem if_any {c : TTD} {t u : TSD} {D : EndsD} {ρ : Rho} (hc : ∀ K : Bool → Prop, (∀ b, K b) → c ρ K D.er) (ht : t D ρ) (hu : u D ρ) : dIfS c t u D ρ := hc _ fun b => by
  cases b with
  | true => exact iteT2 rfl ht
  | false => exact iteF2 (by decide) hu
theorem unown_dv : ∀ {r : Rho}, allDv r = true → unown r = r
  | [], _ => rfl
  | some (.dv d) :: r, h => congrArg (some (SV.dv d) :: ·) (unown_dv (r := r) h)
  | none :: r, h => congrArg (none :: ·) (unown_dv (r := r) h)
  | some (.own _) :: _, h => by cases h
  | some (.ini _ _ _ _) :: _, h => by cases h
theorem allDv_tail : ∀ {y : Option SV} {r : Rho}, allDv (y :: r) = true → allDv r = true
  | none, _, h => h
  | some (.dv _), _, h => h
  | some (.own _), _, h => by cases h
  | some (.ini _ _ _ _), _, h => by cases h
theorem allDv_head : ∀ {y : Option SV} {r : Rho}, allDv (y :: r) = true → allDv [y] = true
  | none, _, h => rfl
  | some (.dv _), _, h => rfl
  | some (.own _), _, h => by cases h
  | some (.ini _ _ _ _), _, h => by cases h
theorem allDv_cons {y : Option SV} {r : Rho} (h : allDv [y] = true) (h2 : allDv r = true) : allDv (y :: r) = true := by
  match y, h with
  | none, _ => exact h2
  | some (.dv _), _ => exact h2
def spRunRight (S : Sx) : SpD := fun ds Q _ => ∃ (ns : List Int) (T : List (List Int)) (r : List Int) (l loss : Nat), ds = [.scr S.K ns, .lst (T.map rowT), .tup (r.map .int), .int (l : Nat), .int (loss : Nat)] ∧ MOk T ∧ RingK l r ∧ 1 ≤ loss ∧ loss ≤ 4 ∧ loss < r.length ∧ Q (.bl true)
/-- how a run stands -/
structure Stand (T : List (List Int)) (n loss : Nat) (rw : List Int) (he st pl : Nat) : Prop where
  ok : ∀ d ∈ rw, 0 ≤ d ∧ d < (T.length : Int)
  le : he ≤ rw.length
  few : rw.length ≤ he + loss
  at_ : leadI T 0 (rw.take he) = st
  lt : st < (T.headD []).length
  pl : pl = he % n
def nLawRunRightN : List Str := ["script", "tables", "ring", "length", "loss", "machine", "row", "heard", "state", "place", "k", "box", "turn", "stretch", "now", "between", "page"]
theorem scLawRunRight : FnScope nLawRunRightN ["script", "tables", "ring", "length", "loss"] (defScope sLawRunRight) := ⟨rfl, rfl, rfl, by decide +kernel, rfl, by decide +kernel, by decide +kernel⟩
theorem ok_law_run_right {f : Addr} {fd : FuncData} (F : Fun S.K "_law_run_right" "_law_run_right" sLawRunRight f fd) (B : Bare mg) (M : MachC S.K CM) (MM : MkM P w S mg base CM CB) (Gb : Has P w S.K mg base L2.CX0 1 "_law_box" ["script", "k"] (spD S 2 (spBoxOf S))) (Gt : Has P w S.K mg base L2.CX0 1 "_law_take" ["box", "many"] (spD S 2 spTake)) (Gll : Has P w S.K mg base L2.CX0 1 "_law_led" ["tables", "state", "row"] (spD S 3 spLawLed)) (Gls : Has P w S.K mg base L2.CX0 1 "_law_stretch" ["ring", "length", "number"] (spD S 3 spLawStretch)) (Gmt : Has P w S.K mg base (L2.CX P w) 5 "marks_told" ["ring", "length", "number"] (spD S 3 (spMarksTold ec.F))) (Gmtr : HasR P w S.K mg base (L2.CX P w) 5 "marks_told" ["ring", "length", "number"] ["number", "length", "ring"] (spD S 3 (spMarksTold ec.F))) (Gpt : Has P w S.K mg base (L2.CX P w) 5 "place_told" ["ring", "length", "stretch"] (spD S 3 (spPlaceTold ec.F))) (Gptr : HasR P w S.K mg base (L2.CX P w) 5 "place_told" ["ring", "length", "stretch"] ["stretch", "length", "ring"] (spD S 3 (spPlaceTold ec.F))) (Gld : Has P w S.K mg base (L2.CX P w) 5 "led" ["machine", "state", "row"] (spD S 3 (spLed CM))) : FnOkG P w S.K mg base L2.CX0 7 f fd ["script", "tables", "ring", "length", "loss"] (spD S 5 (spRunRight S)) := by
  have nd : nLawRunRightN.Nodup := scLawRunRight.nd
  obtain ⟨fm, fdm, mk, okM, mgM, bM⟩ := MM.ex
  refine okDG (N := nLawRunRightN) (k := 6) F scLawRunRight (hb := fun cdv A outer s H E hr hgd => ?_)
  have hu2 : (A.deeper (envOfC "_law_run_right" (defScope sLawRunRight) s.heap.objs.size f cdv)).units + 200 < cLine := by have := hr.un; omega
  have hu65 : (A.deeper (envOfC "_law_run_right" (defScope sLawRunRight) s.heap.objs.size f cdv)).units + 65 < cLine := by omega
  refine ⟨_, _, (C8.pss_cut (ps_asg (pe_tup (pa_cons (pe_make (E := L2.E0) (dvs := []) (ds := []) mk okM (hr.mono (by decide)) (by rfl) mgM bM .nil passL (pa_cons (pv 1) pa_nil)) (pa_cons (pe_lst pa_nil) (pa_cons pe_int (pa_cons pe_int (pa_cons pe_int pa_nil)))))) (pg_tup rfl (pgs_cons (pg_name (i := 5) nd rfl (Or.inl rfl)) (pgs_cons (pg_name (i := 6) nd rfl (Or.inl rfl)) (pgs_cons (pg_name (i := 7) nd rfl (Or.inl rfl)) (pgs_cons (pg_name (i := 8) nd rfl (Or.inl rfl)) (pgs_cons (pg_name (i := 9) nd rfl (Or.inl rfl)) pgs_nil)))))))
      (pss_cons (ps_for PassesOwn.never rfl (pi_range2 (by rfl) B.range (pa_cons pe_int (pa_cons (pe_callB (call_max2 rfl) (by rfl) B.max (by decide +kernel) (pa_cons pe_int (pa_cons (pe_callB (call_min2 rfl) (by rfl) B.min (by decide +kernel) (pa_cons (pe_callB (r := rLenA _) lenA (by rfl) B.len PySem.boot_len (pa_cons (pv 0) pa_nil)) (pa_cons pe_int pa_nil))) pa_nil))) pa_nil))) (pg_name (i := 10) nd rfl (Or.inl rfl))
      (C8.pss_cut (ps_set (i := 11) nd rfl (Or.inl rfl) (pe_has Gb (hr.mono (by decide)) (by rfl) (pa_cons (pv 0) (pa_cons (pv 10) pa_nil))))
      (C8.pss_cut (ps_for PassesOwn.never rfl (pi_range1 (by rfl) B.range (pa_cons (pe_op op_addA pe_int (pe_has Gt (hr.mono (by decide)) (by rfl) (pa_cons (pv 11) (pa_cons pe_int pa_nil)))) pa_nil)) (pg_name (i := 12) nd rfl (Or.inl rfl))
      (pss_one (ps_if (pt_cmpR op_lt (pe_op op_sub (pe_callB (r := rLenA _) lenA (by rfl) B.len PySem.boot_len (pa_cons (pv 6) pa_nil)) (pv 7)) (pv 4) (nomark _)) (pss_one (ps_expr (pe_bm PySem.F.plainAttrs_list PySem.F.slot_list_append PySem.F.type_list_append mt_append (pv 6) (pa_cons (pe_has Gt (hr.mono (by decide)) (by rfl) (pa_cons (pv 11) (pa_cons (pe_callB (r := rLenA _) lenA (by rfl) B.len PySem.boot_len (pa_cons (pv 1) pa_nil)) pa_nil))) pa_nil)))) pss_nil)))
      (pss_one (ps_if (PW.pt (pw_or (pt_cmpR (op_eqD hr.units) (pe_op op_sub (pe_callB (r := rLenA _) lenA (by rfl) B.len PySem.boot_len (pa_cons (pv 6) pa_nil)) (pv 7)) (pv 4) (nomark _)) (pw_or1 (pt_cmpR (op_eqD hr.units) (pe_has Gt (hr.mono (by decide)) (by rfl) (pa_cons (pv 11) (pa_cons pe_int pa_nil))) pe_int (nomark _))))) (C8.pss_cut (ps_set (i := 13) nd rfl (Or.inl rfl) (pe_ifExp (pt_cmpR (op_eqD hr.units) (pe_op op_mod (pe_callTy call_int1 (by rfl) B.int boot_int (pa_cons (pv 10) pa_nil)) pe_int) pe_int (nomark _)) (pe_hasN Gmt (hr.mono (by decide)) (by rfl) (pa_cons (pv 2) (pa_cons (pv 3) (pa_cons (pe_callB (r := rLenA _) lenA (by rfl) B.len PySem.boot_len (pa_cons (pv 6) pa_nil)) pa_nil)))) (pe_hasR Gmtr (hr.mono (by decide)) (by rfl) (pk_cons (pe_callB (r := rLenA _) lenA (by rfl) B.len PySem.boot_len (pa_cons (pv 6) pa_nil)) (pk_cons (pv 3) (pk_cons (pe_callTy (r := rListOf _) listOf (by rfl) B.list boot_list (pa_cons (pv 2) pa_nil)) pk_nil))))))
      (C8.pss_cut (ps_if (pt_cmpR op_ne (pe_callB (r := rRepr _) (call_reprS hu2 hgd) (by rfl) B.repr (by decide +kernel) (pa_cons (pv 13) pa_nil)) (pe_callB (r := rRepr _) (call_reprS hu2 hgd) (by rfl) B.repr (by decide +kernel) (pa_cons (pe_has Gls (hr.mono (by decide)) (by rfl) (pa_cons (pv 2) (pa_cons (pv 3) (pa_cons (pe_callB (r := rLenA _) lenA (by rfl) B.len PySem.boot_len (pa_cons (pv 6) pa_nil)) pa_nil)))) pa_nil)) (nomark _)) (pss_one (ps_ret pe_bl)) pss_nil)
      (C8.pss_cut (ps_set (i := 14) nd rfl (Or.inl rfl) (pe_ifExp (pt_cmpR (op_eqD hr.units) (pe_op op_mod (pe_callTy call_int1 (by rfl) B.int boot_int (pa_cons (pv 10) pa_nil)) pe_int) pe_int (nomark _)) (pe_hasN Gpt (hr.mono (by decide)) (by rfl) (pa_cons (pv 2) (pa_cons (pv 3) (pa_cons (pe_callTy (r := rListOf _) listOf (by rfl) B.list boot_list (pa_cons (pv 13) pa_nil)) pa_nil)))) (pe_hasR Gptr (hr.mono (by decide)) (by rfl) (pk_cons (pv 13) (pk_cons (pv 3) (pk_cons (pv 2) pk_nil))))))
      (C8.pss_cut (ps_if (pt_cmpR op_ne (pe_callB (r := rRepr _) (call_reprS hu2 hgd) (by rfl) B.repr (by decide +kernel) (pa_cons (pv 14) pa_nil)) (pe_callB (r := rRepr _) (call_reprS hu2 hgd) (by rfl) B.repr (by decide +kernel) (pa_cons (pe_op op_mod (pe_callTy call_int1 (by rfl) B.int boot_int (pa_cons (pe_callB (r := rLenA _) lenA (by rfl) B.len PySem.boot_len (pa_cons (pv 6) pa_nil)) pa_nil)) (pe_callB (r := rLenA _) lenA (by rfl) B.len PySem.boot_len (pa_cons (pv 2) pa_nil))) pa_nil)) (nomark _)) (pss_one (ps_ret pe_bl)) pss_nil)
      (C8.pss_cut (ps_set (i := 15) nd rfl (Or.inl rfl) (pe_op op_mod (pe_callTy call_int1 (by rfl) B.int boot_int (pa_cons (pe_op op_sub (pv 14) (pv 9)) pa_nil)) (pe_callB (r := rLenA _) lenA (by rfl) B.len PySem.boot_len (pa_cons (pv 2) pa_nil))))
      (C8.pss_cut (ps_if (pt_cmpR (op_neD hr.units) (pv 15) (pe_op op_sub (pe_callB (r := rLenA _) lenA (by rfl) B.len PySem.boot_len (pa_cons (pv 6) pa_nil)) (pv 7)) (nomark _)) (pss_one (ps_ret pe_bl)) pss_nil)
      (C8.pss_cut (ps_set (i := 16) nd rfl (Or.inl rfl) (pe_slice (r := rSlAny _) sl_any (pv 6) (po_some (pe_callB (call_max2 rfl) (by rfl) B.max (by decide +kernel) (pa_cons pe_int (pa_cons (pe_op op_sub (pe_callB (r := rLenA _) lenA (by rfl) B.len PySem.boot_len (pa_cons (pv 6) pa_nil)) (pv 4)) pa_nil)))) po_none))
      (C8.pss_cut (ps_set (i := 8) nd rfl (Or.inl rfl) (pe_hasN Gld (hr.mono (by decide)) (by rfl) (pa_cons (pv 5) (pa_cons (pv 8) (pa_cons (pe_slice (r := rSlAny _) sl_any (pv 16) (po_some (pe_op op_sub (pe_callB (r := rLenA _) lenA (by rfl) B.len PySem.boot_len (pa_cons (pv 16) pa_nil)) (pv 15))) po_none) pa_nil)))))
      (C8.pss_cut (ps_par (i := 7) (j := 9) (by rfl) nd rfl rfl (by decide) rfl rfl (pa_cons (pe_callB (r := rLenA _) lenA (by rfl) B.len PySem.boot_len (pa_cons (pv 6) pa_nil)) (pa_cons (pv 14) pa_nil)) (by rfl))
      (pss_one (ps_if (pt_cmpR (op_neD hr.units) (pv 8) (pe_has Gll (hr.mono (by decide)) (by rfl) (pa_cons (pv 1) (pa_cons pe_int (pa_cons (pv 6) pa_nil)))) (nomark _)) (pss_one (ps_ret pe_bl)) pss_nil))))))))))) pss_nil)))))
      (pss_one (ps_ret pe_bl)))),
      (ls_cut (ls_five (i := 5) (j := 6) (a := 7) (b := 8) (c := 9) (le_make (la_cons le_var la_nil)) (lo_lst la_nil (by decide)) (la_cons le_int (la_cons le_int (la_cons le_int la_nil))))
      (ls_seq (ls_for (g := .one 10) (li_range2 (la_cons le_int (la_cons (le_cb lc_int2 (la_cons le_int (la_cons (le_cb lc_int2 (la_cons (le_cb lc_len (la_cons le_var la_nil)) (la_cons le_int la_nil))) la_nil))) la_nil)))
      (ls_cut (ls_set (i := 11) (le_call0 (la_cons le_var (la_cons le_var la_nil))))
      (ls_cut (ls_for (g := .one 12) (li_range1 (la_cons (le_op l2_add le_int (le_call0 (la_cons le_var (la_cons le_int la_nil)))) la_nil))
      (ls_if (lt_snap (lt_test (le_op l2_cmp (le_op l2_sub (le_cb lc_len (la_cons le_var la_nil)) le_var) le_var))) (ls_append (i := 6) (le_call0 (la_cons le_var (la_cons (le_cb lc_len (la_cons le_var la_nil)) la_nil)))) ls_next))
      (ls_if (lt_snap (lt_or (lt_test (le_op l2_eq (le_op l2_sub (le_cb lc_len (la_cons le_var la_nil)) le_var) le_var)) (lt_test (le_op l2_eq (le_call0 (la_cons le_var (la_cons le_int la_nil))) le_int)))) (ls_cut (ls_set (i := 13) (le_snap (le_ifE (lt_test (le_op l2_eq (le_op l2_intC (le_cb lc_int1 (la_cons le_var la_nil)) le_int) le_int)) (le_call0 (la_cons le_var (la_cons le_var (la_cons (le_cb lc_len (la_cons le_var la_nil)) la_nil)))) (le_callR (la_cons (le_cb lc_len (la_cons le_var la_nil)) (la_cons le_var (la_cons (LO.le (lo_cb lc_list (la_cons le_var la_nil))) la_nil)))))))
      (ls_cut (ls_if (lt_snap (lt_test (le_op l2_neS (le_cb lc_repr (la_cons le_var la_nil)) (le_cb lc_repr (la_cons (le_call0 (la_cons le_var (la_cons le_var (la_cons (le_cb lc_len (la_cons le_var la_nil)) la_nil)))) la_nil))))) (ls_ret le_bl) ls_next)
      (ls_cut (ls_set (i := 14) (le_ifE (lt_test (le_op l2_eq (le_op l2_intC (le_cb lc_int1 (la_cons le_var la_nil)) le_int) le_int)) (le_call0 (la_cons le_var (la_cons le_var (la_cons (LO.le (lo_cb lc_list (la_cons le_var la_nil))) la_nil)))) (le_callR (la_cons le_var (la_cons le_var (la_cons le_var la_nil))))))
      (ls_cut (ls_if (lt_snap (lt_test (le_op l2_neS (le_cb lc_repr (la_cons le_var la_nil)) (le_cb lc_repr (la_cons (le_op l2_intC (le_cb lc_int1 (la_cons (le_cb lc_len (la_cons le_var la_nil)) la_nil)) (le_cb lc_len (la_cons le_var la_nil))) la_nil))))) (ls_ret le_bl) ls_next)
      (ls_cut (ls_set (i := 15) (le_op l2_intC (le_cb lc_int1 (la_cons (le_op l2_sub le_var le_var) la_nil)) (le_cb lc_len (la_cons le_var la_nil))))
      (ls_cut (ls_if (lt_snap (lt_test (le_op l2_ne le_var (le_op l2_sub (le_cb lc_len (la_cons le_var la_nil)) le_var)))) (ls_ret le_bl) ls_next)
      (ls_cut (ls_set (i := 16) (LO.le (lo_snap (lo_sl le_var (lp_some (le_cb lc_int2 (la_cons le_int (la_cons (le_op l2_sub (le_cb lc_len (la_cons le_var la_nil)) le_var) la_nil)))) lp_none))))
      (ls_cut (ls_set (i := 8) (le_call0 (la_cons le_var (la_cons le_var (la_cons (le_sl le_var (lp_some (le_op l2_sub (le_cb lc_len (la_cons le_var la_nil)) le_var)) lp_none) la_nil)))))
      (ls_cut (ls_par (la_cons (le_snap (le_cb lc_len (la_cons le_var la_nil))) (la_cons le_var la_nil)))
      (ls_if (lt_snap (lt_test (le_op l2_ne le_var (le_call0 (la_cons le_var (la_cons le_int (la_cons le_var la_nil))))))) (ls_ret le_bl) ls_next)))))))))) ls_next))))
      (ls_ret le_bl))), fun ds Qd Ed hl h => ?_⟩
  obtain ⟨ns, T, r, l, loss, rfl, mo, R, lo1, lo4, lor, h⟩ := h
  simp only [dOf, dVar, dC, dOp, dUn, dNil, dCons, pys, dTup, oLst, dCB, oCB, dCall, dCall0, dCallR, fAdd, oOp, fCat, fInt, fIntC, fNeg, fEq, isNonD, fIsN, fIn, fIx, dTest, dAnd, dOr, dNot, dAndV, dOrV, dNotV, dIfE, dChain, dFld, dNext, dSeq, dRet, dRetN, dDrop, dIfS, dBreak, dCont, dSet, dSetO, setAll, dSetT, dPar, itSeq, itRange1, itRange2, itEnum, Tg.put, Tg.ix, dFor, wipeL, dYes, oLc, dAppend, dPutIx, dFreeze, unown, hasOwn, noLD, okL, dSnap, dSnapT, dRaise, startD, dNoPart, dPart, dSl, oSl, fLen, fInt1, fAbs, fInt2, fDivmod, fTuple, fList, fSorted, oSortedSet, fRepr, fAll, fSum, isIntD, isBoolD, isStrD, isTupD, isSeqD, fIsT, dIsLT, dAug, dPutF, dFldI, dMake, startI, putD, dTupRev, dNewBox, dBoxPut, fRep, fEqS, oListRg, dPair, dWork, dSetA, fTimes, fIsOwn, fEqOwn, oSetC, dExtend, dPairO, oSnap, oSetJ, fInT, oSortedSetB, dMakeK, dLenSet, fNotB, fTimesS, itDown, dFive, nLawRunRightN, List.map, List.cons_append, List.nil_append, List.append_eq, List.getElem?_cons_zero, List.getElem?_cons_succ, List.set_cons_zero, List.set_cons_succ, List.lookup_cons, List.lookup_nil, List.length_cons, List.length_nil, Nat.reduceAdd, Nat.reduceSub, List.replicate]
  refine cut_seq ?_
  simp only [dOf, dVar, dC, dOp, dUn, dNil, dCons, pys, dTup, oLst, dCB, oCB, dCall, dCall0, dCallR, fAdd, oOp, fCat, fInt, fIntC, fNeg, fEq, isNonD, fIsN, fIn, fIx, dTest, dAnd, dOr, dNot, dAndV, dOrV, dNotV, dIfE, dChain, dFld, dNext, dSeq, dRet, dRetN, dDrop, dIfS, dBreak, dCont, dSet, dSetO, setAll, dSetT, dPar, itSeq, itRange1, itRange2, itEnum, Tg.put, Tg.ix, dFor, wipeL, dYes, oLc, dAppend, dPutIx, dFreeze, unown, hasOwn, noLD, okL, dSnap, dSnapT, dRaise, startD, dNoPart, dPart, dSl, oSl, fLen, fInt1, fAbs, fInt2, fDivmod, fTuple, fList, fSorted, oSortedSet, fRepr, fAll, fSum, isIntD, isBoolD, isStrD, isTupD, isSeqD, fIsT, dIsLT, dAug, dPutF, dFldI, dMake, startI, putD, dTupRev, dNewBox, dBoxPut, fRep, fEqS, oListRg, dPair, dWork, dSetA, fTimes, fIsOwn, fEqOwn, oSetC, dExtend, dPairO, oSnap, oSetJ, fInT, oSortedSetB, dMakeK, dLenSet, fNotB, fTimesS, itDown, dFive, List.map, List.cons_append, List.nil_append, List.append_eq, List.getElem?_cons_zero, List.getElem?_cons_succ, List.set_cons_zero, List.set_cons_succ, List.lookup_cons, List.lookup_nil]
  refine use_mach (CM := CM) mo ⟨mach_nodup, ?_⟩
  have t1 := mo.t1
  have n1 := mo.n1
  refine ⟨trivial, ⟨by decide, by decide⟩, ⟨by split <;> split <;> omega, by split <;> split <;> omega⟩, ?_⟩
  rw [rangeD_R]
  refine loop_ind (fun ds ρ => ∃ (k c : Nat) (rw : List Int) (he st pl : Nat) (y10 y11 y12 y13 y14 y15 y16 : Option SV), ds = rangeR (k : Nat) c ∧ rw.length + 3 * c ≤ 120 ∧ Stand T r.length loss rw he st pl ∧ (allDv [y12] = true ∧ allDv [y13] = true ∧ allDv [y14] = true ∧ allDv [y15] = true ∧ allDv [y16] = true) ∧ ρ = [some (.dv (.scr S.K ns)), some (.dv (.lst (T.map rowT))), some (.dv (.tup (r.map .int))), some (.dv (.int (l : Nat))), some (.dv (.int (loss : Nat))), some (.dv (mach CM T)), some (.own (rw.map .int)), some (.dv (.int (he : Nat))), some (.dv (.int (st : Nat))), some (.dv (.int (pl : Nat))), y10, y11, y12, y13, y14, y15, y16]) ?_ ?_ _ _
    ⟨2, _, [], 0, 0, 0, none, none, none, none, none, none, none, rfl, by split <;> split <;> simp <;> omega, ⟨fun d hd => (by cases hd), Nat.le_refl _, Nat.zero_le _, rfl, n1, by rw [Nat.zero_mod]⟩, ⟨rfl, rfl, rfl, rfl, rfl⟩, rfl⟩
  · rintro ρ ⟨k, c, rw, he, st, pl, y10, y11, y12, y13, y14, y15, y16, e, b, sd, dv, rfl⟩
    simp only [dOf, dVar, dC, dOp, dUn, dNil, dCons, pys, dTup, oLst, dCB, oCB, dCall, dCall0, dCallR, fAdd, oOp, fCat, fInt, fIntC, fNeg, fEq, isNonD, fIsN, fIn, fIx, dTest, dAnd, dOr, dNot, dAndV, dOrV, dNotV, dIfE, dChain, dFld, dNext, dSeq, dRet, dRetN, dDrop, dIfS, dBreak, dCont, dSet, dSetO, setAll, dSetT, dPar, itSeq, itRange1, itRange2, itEnum, Tg.put, Tg.ix, dFor, wipeL, dYes, oLc, dAppend, dPutIx, dFreeze, unown, hasOwn, noLD, okL, dSnap, dSnapT, dRaise, startD, dNoPart, dPart, dSl, oSl, fLen, fInt1, fAbs, fInt2, fDivmod, fTuple, fList, fSorted, oSortedSet, fRepr, fAll, fSum, isIntD, isBoolD, isStrD, isTupD, isSeqD, fIsT, dIsLT, dAug, dPutF, dFldI, dMake, startI, putD, dTupRev, dNewBox, dBoxPut, fRep, fEqS, oListRg, dPair, dWork, dSetA, fTimes, fIsOwn, fEqOwn, oSetC, dExtend, dPairO, oSnap, oSetJ, fInT, oSortedSetB, dMakeK, dLenSet, fNotB, fTimesS, itDown, dFive, List.map, List.cons_append, List.nil_append, List.append_eq, List.getElem?_cons_zero, List.getElem?_cons_succ, List.set_cons_zero, List.set_cons_succ, List.lookup_cons, List.lookup_nil]
    exact h
  · rintro d ds ρ K hK ⟨k, c, rw, he, st, pl, y10, y11, y12, y13, y14, y15, y16, e, b, sd, ⟨d12, d13, d14, d15, d16⟩, rfl⟩
    cases c with
    | zero => cases e
    | succ c =>
    cases e
    have next : ∀ (rw : List Int) (he st pl : Nat) (y12 y13 y14 y15 y16 : Option SV), rw.length + 3 * c ≤ 120 → Stand T r.length loss rw he st pl → allDv [y12] = true → allDv [y13] = true → allDv [y14] = true → allDv [y15] = true → allDv [y16] = true → K [some (.dv (.scr S.K ns)), some (.dv (.lst (T.map rowT))), some (.dv (.tup (r.map .int))), some (.dv (.int (l : Nat))), some (.dv (.int (loss : Nat))), some (.dv (mach CM T)), some (.own (rw.map .int)), some (.dv (.int (he : Nat))), some (.dv (.int (st : Nat))), some (.dv (.int (pl : Nat))), some (SV.dv (.py (.int (k : Nat)))), some (SV.dv .box), y12, y13, y14, y15, y16] := fun rw he st pl y12 y13 y14 y15 y16 h1 h2 h3 h4 h5 h6 h7 => hK _ ⟨k + 1, c, rw, he, st, pl, _, _, y12, y13, y14, y15, y16, by simp, h1, h2, ⟨h3, h4, h5, h6, h7⟩, rfl⟩
    clear hK
    refine cut_seq ?_
    simp only [dOf, dVar, dC, dOp, dUn, dNil, dCons, pys, dTup, oLst, dCB, oCB, dCall, dCall0, dCallR, fAdd, oOp, fCat, fInt, fIntC, fNeg, fEq, isNonD, fIsN, fIn, fIx, dTest, dAnd, dOr, dNot, dAndV, dOrV, dNotV, dIfE, dChain, dFld, dNext, dSeq, dRet, dRetN, dDrop, dIfS, dBreak, dCont, dSet, dSetO, setAll, dSetT, dPar, itSeq, itRange1, itRange2, itEnum, Tg.put, Tg.ix, dFor, wipeL, dYes, oLc, dAppend, dPutIx, dFreeze, unown, hasOwn, noLD, okL, dSnap, dSnapT, dRaise, startD, dNoPart, dPart, dSl, oSl, fLen, fInt1, fAbs, fInt2, fDivmod, fTuple, fList, fSorted, oSortedSet, fRepr, fAll, fSum, isIntD, isBoolD, isStrD, isTupD, isSeqD, fIsT, dIsLT, dAug, dPutF, dFldI, dMake, startI, putD, dTupRev, dNewBox, dBoxPut, fRep, fEqS, oListRg, dPair, dWork, dSetA, fTimes, fIsOwn, fEqOwn, oSetC, dExtend, dPairO, oSnap, oSetJ, fInT, oSortedSetB, dMakeK, dLenSet, fNotB, fTimesS, itDown, dFive, List.map, List.cons_append, List.nil_append, List.append_eq, List.getElem?_cons_zero, List.getElem?_cons_succ, List.set_cons_zero, List.set_cons_succ, List.lookup_cons, List.lookup_nil]
    refine ⟨ns, k, rfl, ?_⟩
    refine ⟨fun ρ => ∃ (rw2 : List Int) (y12 : Option SV), rw2.length ≤ rw.length + 3 ∧ Stand T r.length loss rw2 he st pl ∧ allDv [y12] = true ∧ ρ = [some (.dv (.scr S.K ns)), some (.dv (.lst (T.map rowT))), some (.dv (.tup (r.map .int))), some (.dv (.int (l : Nat))), some (.dv (.int (loss : Nat))), some (.dv (mach CM T)), some (.own (rw2.map .int)), some (.dv (.int (he : Nat))), some (.dv (.int (st : Nat))), some (.dv (.int (pl : Nat))), some (SV.dv (.py (.int (k : Nat)))), some (SV.dv .box), y12, y13, y14, y15, y16], ?_, ?_⟩
    · simp only [dOf, dVar, dC, dOp, dUn, dNil, dCons, pys, dTup, oLst, dCB, oCB, dCall, dCall0, dCallR, fAdd, oOp, fCat, fInt, fIntC, fNeg, fEq, isNonD, fIsN, fIn, fIx, dTest, dAnd, dOr, dNot, dAndV, dOrV, dNotV, dIfE, dChain, dFld, dNext, dSeq, dRet, dRetN, dDrop, dIfS, dBreak, dCont, dSet, dSetO, setAll, dSetT, dPar, itSeq, itRange1, itRange2, itEnum, Tg.put, Tg.ix, dFor, wipeL, dYes, oLc, dAppend, dPutIx, dFreeze, unown, hasOwn, noLD, okL, dSnap, dSnapT, dRaise, startD, dNoPart, dPart, dSl, oSl, fLen, fInt1, fAbs, fInt2, fDivmod, fTuple, fList, fSorted, oSortedSet, fRepr, fAll, fSum, isIntD, isBoolD, isStrD, isTupD, isSeqD, fIsT, dIsLT, dAug, dPutF, dFldI, dMake, startI, putD, dTupRev, dNewBox, dBoxPut, fRep, fEqS, oListRg, dPair, dWork, dSetA, fTimes, fIsOwn, fEqOwn, oSetC, dExtend, dPairO, oSnap, oSetJ, fInT, oSortedSetB, dMakeK, dLenSet, fNotB, fTimesS, itDown, dFive, List.map, List.cons_append, List.nil_append, List.append_eq, List.getElem?_cons_zero, List.getElem?_cons_succ, List.set_cons_zero, List.set_cons_succ, List.lookup_cons, List.lookup_nil, take_eq]
      refine ⟨by decide, by decide, fun t ht => ⟨⟨by omega, by omega⟩, ?_⟩⟩
      rw [rangeD_R]
      refine loop_ind (fun ds ρ => ∃ (lo : Int) (i : Nat) (rw2 : List Int) (y12 : Option SV), ds = rangeR lo i ∧ rw2.length + i ≤ rw.length + 3 ∧ Stand T r.length loss rw2 he st pl ∧ allDv [y12] = true ∧ ρ = [some (.dv (.scr S.K ns)), some (.dv (.lst (T.map rowT))), some (.dv (.tup (r.map .int))), some (.dv (.int (l : Nat))), some (.dv (.int (loss : Nat))), some (.dv (mach CM T)), some (.own (rw2.map .int)), some (.dv (.int (he : Nat))), some (.dv (.int (st : Nat))), some (.dv (.int (pl : Nat))), some (SV.dv (.py (.int (k : Nat)))), some (SV.dv .box), y12, y13, y14, y15, y16]) ?_ ?_ _ _ ⟨0, _, rw, y12, rfl, by omega, sd, d12, rfl⟩
      · rintro ρ ⟨lo, i, rw2, y12, e, h1, h2, h3, rfl⟩
        exact ⟨rw2, y12, by omega, h2, h3, rfl⟩
      · rintro d ds ρ K2 hK2 ⟨lo, i, rw2, y12, e, h1, h2, h3, rfl⟩
        cases i with
        | zero => cases e
        | succ i =>
        cases e
        simp only [dOf, dVar, dC, dOp, dUn, dNil, dCons, pys, dTup, oLst, dCB, oCB, dCall, dCall0, dCallR, fAdd, oOp, fCat, fInt, fIntC, fNeg, fEq, isNonD, fIsN, fIn, fIx, dTest, dAnd, dOr, dNot, dAndV, dOrV, dNotV, dIfE, dChain, dFld, dNext, dSeq, dRet, dRetN, dDrop, dIfS, dBreak, dCont, dSet, dSetO, setAll, dSetT, dPar, itSeq, itRange1, itRange2, itEnum, Tg.put, Tg.ix, dFor, wipeL, dYes, oLc, dAppend, dPutIx, dFreeze, unown, hasOwn, noLD, okL, dSnap, dSnapT, dRaise, startD, dNoPart, dPart, dSl, oSl, fLen, fInt1, fAbs, fInt2, fDivmod, fTuple, fList, fSorted, oSortedSet, fRepr, fAll, fSum, isIntD, isBoolD, isStrD, isTupD, isSeqD, fIsT, dIsLT, dAug, dPutF, dFldI, dMake, startI, putD, dTupRev, dNewBox, dBoxPut, fRep, fEqS, oListRg, dPair, dWork, dSetA, fTimes, fIsOwn, fEqOwn, oSetC, dExtend, dPairO, oSnap, oSetJ, fInT, oSortedSetB, dMakeK, dLenSet, fNotB, fTimesS, itDown, dFive, List.map, List.cons_append, List.nil_append, List.append_eq, List.getElem?_cons_zero, List.getElem?_cons_succ, List.set_cons_zero, List.set_cons_succ, List.lookup_cons, List.lookup_nil, take_eq, unown_y d13, unown_y d14, unown_y d15, unown_y d16, hasOwn_y d13, hasOwn_y d14, hasOwn_y d15, hasOwn_y d16, List.length_map]
        by_cases c1 : rw2.length < he + loss
        · refine iteT2 (decide_eq_true (by omega)) ⟨by omega, by have := mo.t4; omega, fun x hx => ⟨by omega, hK2 _ ⟨lo + 1, i, rw2 ++ [(x : Int)], _, rfl, by rw [List.length_append]; show rw2.length + 1 + i ≤ _; omega, ⟨fun d hd => ?_, ?_, ?_, ?_, h2.lt, h2.pl⟩, rfl, by rw [List.map_append]; rfl⟩⟩⟩
          · rcases List.mem_append.mp hd with hd | hd
            · exact h2.ok d hd
            · rw [List.mem_singleton.mp hd]
              omega
          · rw [List.length_append]
            have := h2.le
            omega
          · rw [List.length_append]
            show rw2.length + 1 ≤ _
            omega
          · rw [List.take_append_of_le_length h2.le]
            exact h2.at_
        · exact iteF2 (by rw [decide_eq_true_eq]; omega) (hK2 _ ⟨lo + 1, i, rw2, _, rfl, by omega, h2, rfl, rfl⟩)
    · rintro ρ ⟨rw2, y12, len2, sd2, d12, rfl⟩
      have r1 := R.r1
      have rm : rw2.length ≤ 400 := by omega
      refine if_any (fun K kk => ?_) ?_ ?_
      · simp only [dOf, dVar, dC, dOp, dUn, dNil, dCons, pys, dTup, oLst, dCB, oCB, dCall, dCall0, dCallR, fAdd, oOp, fCat, fInt, fIntC, fNeg, fEq, isNonD, fIsN, fIn, fIx, dTest, dAnd, dOr, dNot, dAndV, dOrV, dNotV, dIfE, dChain, dFld, dNext, dSeq, dRet, dRetN, dDrop, dIfS, dBreak, dCont, dSet, dSetO, setAll, dSetT, dPar, itSeq, itRange1, itRange2, itEnum, Tg.put, Tg.ix, dFor, wipeL, dYes, oLc, dAppend, dPutIx, dFreeze, unown, hasOwn, noLD, okL, dSnap, dSnapT, dRaise, startD, dNoPart, dPart, dSl, oSl, fLen, fInt1, fAbs, fInt2, fDivmod, fTuple, fList, fSorted, oSortedSet, fRepr, fAll, fSum, isIntD, isBoolD, isStrD, isTupD, isSeqD, fIsT, dIsLT, dAug, dPutF, dFldI, dMake, startI, putD, dTupRev, dNewBox, dBoxPut, fRep, fEqS, oListRg, dPair, dWork, dSetA, fTimes, fIsOwn, fEqOwn, oSetC, dExtend, dPairO, oSnap, oSetJ, fInT, oSortedSetB, dMakeK, dLenSet, fNotB, fTimesS, itDown, dFive, List.map, List.cons_append, List.nil_append, List.append_eq, List.getElem?_cons_zero, List.getElem?_cons_succ, List.set_cons_zero, List.set_cons_succ, List.lookup_cons, List.lookup_nil, take_eq, unown_y d12, unown_y d13, unown_y d14, unown_y d15, unown_y d16, List.length_map]
        by_cases c1 : (rw2.length : Int) - (he : Int) = (loss : Int)
        · exact iteT2 (by rw [decide_eq_true c1]; rfl) (kk _)
        · exact iteF2 (by rw [decide_eq_false c1]; decide) ⟨by decide, by decide, fun q hq => kk _⟩
      · -- the stretch
        obtain ⟨m, hm⟩ : ∃ m, rw2.length = m := ⟨_, rfl⟩
        have st64 : (stretchL r l m).length ≤ 64 := by
          rw [stretch_len]
          have := R.l12
          omega
        refine ⟨fun ρ => ρ = [some (.dv (.scr S.K ns)), some (.dv (.lst (T.map rowT))), some (.dv (.tup (r.map .int))), some (.dv (.int (l : Nat))), some (.dv (.int (loss : Nat))), some (.dv (mach CM T)), some (.own (rw2.map .int)), some (.dv (.int (he : Nat))), some (.dv (.int (st : Nat))), some (.dv (.int (pl : Nat))), some (SV.dv (.py (.int (k : Nat)))), some (SV.dv .box), y12, some (SV.dv (.tup ((stretchL r l m).map .int))), y14, y15, y16], ?_, ?_⟩
        · simp only [dOf, dVar, dC, dOp, dUn, dNil, dCons, pys, dTup, oLst, dCB, oCB, dCall, dCall0, dCallR, fAdd, oOp, fCat, fInt, fIntC, fNeg, fEq, isNonD, fIsN, fIn, fIx, dTest, dAnd, dOr, dNot, dAndV, dOrV, dNotV, dIfE, dChain, dFld, dNext, dSeq, dRet, dRetN, dDrop, dIfS, dBreak, dCont, dSet, dSetO, setAll, dSetT, dPar, itSeq, itRange1, itRange2, itEnum, Tg.put, Tg.ix, dFor, wipeL, dYes, oLc, dAppend, dPutIx, dFreeze, unown, hasOwn, noLD, okL, dSnap, dSnapT, dRaise, startD, dNoPart, dPart, dSl, oSl, fLen, fInt1, fAbs, fInt2, fDivmod, fTuple, fList, fSorted, oSortedSet, fRepr, fAll, fSum, isIntD, isBoolD, isStrD, isTupD, isSeqD, fIsT, dIsLT, dAug, dPutF, dFldI, dMake, startI, putD, dTupRev, dNewBox, dBoxPut, fRep, fEqS, oListRg, dPair, dWork, dSetA, fTimes, fIsOwn, fEqOwn, oSetC, dExtend, dPairO, oSnap, oSetJ, fInT, oSortedSetB, dMakeK, dLenSet, fNotB, fTimesS, itDown, dFive, List.map, List.cons_append, List.nil_append, List.append_eq, List.getElem?_cons_zero, List.getElem?_cons_succ, List.set_cons_zero, List.set_cons_succ, List.lookup_cons, List.lookup_nil, unown_y d12, unown_y d13, unown_y d14, unown_y d15, unown_y d16, hasOwn_y d12, hasOwn_y d13, hasOwn_y d14, hasOwn_y d15, hasOwn_y d16, List.length_map, hm]
          refine ⟨by decide, ?_⟩
          split
          · exact marks_use R (.inl rfl) ⟨noLs_i _, rfl⟩
          · exact marks_use R (.inr rfl) ⟨noLs_i _, rfl⟩
        rintro ρ rfl
        have nt := neat_ints (ds := stretchL r l m) fun d hd => by
          have := stretch_mem R d hd
          omega
        have rs : RepOk (.tuple ((stretchL r l m).map .int)) := ((neat_tuple nt).mono (a' := 1) (b' := 64 * 41) (Nat.le_refl _) (by rw [List.length_map]; exact Nat.mul_le_mul st64 (Nat.le_refl _))).rep
        refine cut_check ?_ ?_
        · simp only [dOf, dVar, dC, dOp, dUn, dNil, dCons, pys, dTup, oLst, dCB, oCB, dCall, dCall0, dCallR, fAdd, oOp, fCat, fInt, fIntC, fNeg, fEq, isNonD, fIsN, fIn, fIx, dTest, dAnd, dOr, dNot, dAndV, dOrV, dNotV, dIfE, dChain, dFld, dNext, dSeq, dRet, dRetN, dDrop, dIfS, dBreak, dCont, dSet, dSetO, setAll, dSetT, dPar, itSeq, itRange1, itRange2, itEnum, Tg.put, Tg.ix, dFor, wipeL, dYes, oLc, dAppend, dPutIx, dFreeze, unown, hasOwn, noLD, okL, dSnap, dSnapT, dRaise, startD, dNoPart, dPart, dSl, oSl, fLen, fInt1, fAbs, fInt2, fDivmod, fTuple, fList, fSorted, oSortedSet, fRepr, fAll, fSum, isIntD, isBoolD, isStrD, isTupD, isSeqD, fIsT, dIsLT, dAug, dPutF, dFldI, dMake, startI, putD, dTupRev, dNewBox, dBoxPut, fRep, fEqS, oListRg, dPair, dWork, dSetA, fTimes, fIsOwn, fEqOwn, oSetC, dExtend, dPairO, oSnap, oSetJ, fInT, oSortedSetB, dMakeK, dLenSet, fNotB, fTimesS, itDown, dFive, List.map, List.cons_append, List.nil_append, List.append_eq, List.getElem?_cons_zero, List.getElem?_cons_succ, List.set_cons_zero, List.set_cons_succ, List.lookup_cons, List.lookup_nil, unown_y d12, unown_y d14, unown_y d15, unown_y d16, List.length_map, hm]
          refine ⟨rs, r, l, m, rfl, r1, R.l12, rs, iteF2 (by simp) trivial⟩
        -- now
        refine ⟨fun ρ => ρ = [some (.dv (.scr S.K ns)), some (.dv (.lst (T.map rowT))), some (.dv (.tup (r.map .int))), some (.dv (.int (l : Nat))), some (.dv (.int (loss : Nat))), some (.dv (mach CM T)), some (.own (rw2.map .int)), some (.dv (.int (he : Nat))), some (.dv (.int (st : Nat))), some (.dv (.int (pl : Nat))), some (SV.dv (.py (.int (k : Nat)))), some (SV.dv .box), y12, some (SV.dv (.tup ((stretchL r l m).map .int))), some (SV.dv (.int ((m % r.length : Nat) : Int))), y15, y16], ?_, ?_⟩
        · simp only [dOf, dVar, dC, dOp, dUn, dNil, dCons, pys, dTup, oLst, dCB, oCB, dCall, dCall0, dCallR, fAdd, oOp, fCat, fInt, fIntC, fNeg, fEq, isNonD, fIsN, fIn, fIx, dTest, dAnd, dOr, dNot, dAndV, dOrV, dNotV, dIfE, dChain, dFld, dNext, dSeq, dRet, dRetN, dDrop, dIfS, dBreak, dCont, dSet, dSetO, setAll, dSetT, dPar, itSeq, itRange1, itRange2, itEnum, Tg.put, Tg.ix, dFor, wipeL, dYes, oLc, dAppend, dPutIx, dFreeze, unown, hasOwn, noLD, okL, dSnap, dSnapT, dRaise, startD, dNoPart, dPart, dSl, oSl, fLen, fInt1, fAbs, fInt2, fDivmod, fTuple, fList, fSorted, oSortedSet, fRepr, fAll, fSum, isIntD, isBoolD, isStrD, isTupD, isSeqD, fIsT, dIsLT, dAug, dPutF, dFldI, dMake, startI, putD, dTupRev, dNewBox, dBoxPut, fRep, fEqS, oListRg, dPair, dWork, dSetA, fTimes, fIsOwn, fEqOwn, oSetC, dExtend, dPairO, oSnap, oSetJ, fInT, oSortedSetB, dMakeK, dLenSet, fNotB, fTimesS, itDown, dFive, List.map, List.cons_append, List.nil_append, List.append_eq, List.getElem?_cons_zero, List.getElem?_cons_succ, List.set_cons_zero, List.set_cons_succ, List.lookup_cons, List.lookup_nil]
          refine ⟨by decide, ?_⟩
          split
          · exact place_use R (.inl rfl) (.inr rfl) rfl
          · exact place_use R (.inl rfl) (.inl rfl) rfl
        rintro ρ rfl
        refine cut_check ?_ ?_
        · simp only [dOf, dVar, dC, dOp, dUn, dNil, dCons, pys, dTup, oLst, dCB, oCB, dCall, dCall0, dCallR, fAdd, oOp, fCat, fInt, fIntC, fNeg, fEq, isNonD, fIsN, fIn, fIx, dTest, dAnd, dOr, dNot, dAndV, dOrV, dNotV, dIfE, dChain, dFld, dNext, dSeq, dRet, dRetN, dDrop, dIfS, dBreak, dCont, dSet, dSetO, setAll, dSetT, dPar, itSeq, itRange1, itRange2, itEnum, Tg.put, Tg.ix, dFor, wipeL, dYes, oLc, dAppend, dPutIx, dFreeze, unown, hasOwn, noLD, okL, dSnap, dSnapT, dRaise, startD, dNoPart, dPart, dSl, oSl, fLen, fInt1, fAbs, fInt2, fDivmod, fTuple, fList, fSorted, oSortedSet, fRepr, fAll, fSum, isIntD, isBoolD, isStrD, isTupD, isSeqD, fIsT, dIsLT, dAug, dPutF, dFldI, dMake, startI, putD, dTupRev, dNewBox, dBoxPut, fRep, fEqS, oListRg, dPair, dWork, dSetA, fTimes, fIsOwn, fEqOwn, oSetC, dExtend, dPairO, oSnap, oSetJ, fInT, oSortedSetB, dMakeK, dLenSet, fNotB, fTimesS, itDown, dFive, List.map, List.cons_append, List.nil_append, List.append_eq, List.getElem?_cons_zero, List.getElem?_cons_succ, List.set_cons_zero, List.set_cons_succ, List.lookup_cons, List.lookup_nil, unown_y d12, unown_y d15, unown_y d16, List.length_map, hm]
          have rn : RepOk (.int ((m % r.length : Nat) : Int)) := (neat_int (by have := Nat.mod_lt m r1; have := R.r8; omega)).rep
          rw [← Int.natCast_emod]
          exact ⟨rn, by omega, rn, iteF2 (by simp) trivial⟩
        -- between
        have hle := sd2.le
        have hfew := sd2.few
        have btw : (((m % r.length : Nat) : Int) - (pl : Int)) % (r.length : Int) = ((m - he : Nat) : Int) := by
          rw [sd2.pl, Int.natCast_emod, Int.natCast_emod, ← Int.sub_emod, Int.emod_eq_of_lt (by omega) (by omega)]
          omega
        refine cut_seq ?_
        simp only [dOf, dVar, dC, dOp, dUn, dNil, dCons, pys, dTup, oLst, dCB, oCB, dCall, dCall0, dCallR, fAdd, oOp, fCat, fInt, fIntC, fNeg, fEq, isNonD, fIsN, fIn, fIx, dTest, dAnd, dOr, dNot, dAndV, dOrV, dNotV, dIfE, dChain, dFld, dNext, dSeq, dRet, dRetN, dDrop, dIfS, dBreak, dCont, dSet, dSetO, setAll, dSetT, dPar, itSeq, itRange1, itRange2, itEnum, Tg.put, Tg.ix, dFor, wipeL, dYes, oLc, dAppend, dPutIx, dFreeze, unown, hasOwn, noLD, okL, dSnap, dSnapT, dRaise, startD, dNoPart, dPart, dSl, oSl, fLen, fInt1, fAbs, fInt2, fDivmod, fTuple, fList, fSorted, oSortedSet, fRepr, fAll, fSum, isIntD, isBoolD, isStrD, isTupD, isSeqD, fIsT, dIsLT, dAug, dPutF, dFldI, dMake, startI, putD, dTupRev, dNewBox, dBoxPut, fRep, fEqS, oListRg, dPair, dWork, dSetA, fTimes, fIsOwn, fEqOwn, oSetC, dExtend, dPairO, oSnap, oSetJ, fInT, oSortedSetB, dMakeK, dLenSet, fNotB, fTimesS, itDown, dFive, List.map, List.cons_append, List.nil_append, List.append_eq, List.getElem?_cons_zero, List.getElem?_cons_succ, List.set_cons_zero, List.set_cons_succ, List.lookup_cons, List.lookup_nil, List.length_map]
        rw [btw]
        refine ⟨by omega, ?_⟩
        refine cut_check ?_ ?_
        · simp only [dOf, dVar, dC, dOp, dUn, dNil, dCons, pys, dTup, oLst, dCB, oCB, dCall, dCall0, dCallR, fAdd, oOp, fCat, fInt, fIntC, fNeg, fEq, isNonD, fIsN, fIn, fIx, dTest, dAnd, dOr, dNot, dAndV, dOrV, dNotV, dIfE, dChain, dFld, dNext, dSeq, dRet, dRetN, dDrop, dIfS, dBreak, dCont, dSet, dSetO, setAll, dSetT, dPar, itSeq, itRange1, itRange2, itEnum, Tg.put, Tg.ix, dFor, wipeL, dYes, oLc, dAppend, dPutIx, dFreeze, unown, hasOwn, noLD, okL, dSnap, dSnapT, dRaise, startD, dNoPart, dPart, dSl, oSl, fLen, fInt1, fAbs, fInt2, fDivmod, fTuple, fList, fSorted, oSortedSet, fRepr, fAll, fSum, isIntD, isBoolD, isStrD, isTupD, isSeqD, fIsT, dIsLT, dAug, dPutF, dFldI, dMake, startI, putD, dTupRev, dNewBox, dBoxPut, fRep, fEqS, oListRg, dPair, dWork, dSetA, fTimes, fIsOwn, fEqOwn, oSetC, dExtend, dPairO, oSnap, oSetJ, fInT, oSortedSetB, dMakeK, dLenSet, fNotB, fTimesS, itDown, dFive, List.map, List.cons_append, List.nil_append, List.append_eq, List.getElem?_cons_zero, List.getElem?_cons_succ, List.set_cons_zero, List.set_cons_succ, List.lookup_cons, List.lookup_nil, unown_y d12, unown_y d16, List.length_map, hm]
          exact iteF2 (by rw [decide_eq_true (show ((m - he : Nat) : Int) = (m : Int) - (he : Int) by omega)]; decide) trivial
        -- page
        refine ⟨fun ρ => ρ = [some (.dv (.scr S.K ns)), some (.dv (.lst (T.map rowT))), some (.dv (.tup (r.map .int))), some (.dv (.int (l : Nat))), some (.dv (.int (loss : Nat))), some (.dv (mach CM T)), some (.own (rw2.map .int)), some (.dv (.int (he : Nat))), some (.dv (.int (st : Nat))), some (.dv (.int (pl : Nat))), some (SV.dv (.py (.int (k : Nat)))), some (SV.dv .box), y12, some (SV.dv (.tup ((stretchL r l m).map .int))), some (SV.dv (.int ((m % r.length : Nat) : Int))), some (SV.dv (.int ((m - he : Nat) : Int))), some (SV.dv (.lst ((rw2.drop (m - loss)).map .int)))], ?_, ?_⟩
        · simp only [dOf, dVar, dC, dOp, dUn, dNil, dCons, pys, dTup, oLst, dCB, oCB, dCall, dCall0, dCallR, fAdd, oOp, fCat, fInt, fIntC, fNeg, fEq, isNonD, fIsN, fIn, fIx, dTest, dAnd, dOr, dNot, dAndV, dOrV, dNotV, dIfE, dChain, dFld, dNext, dSeq, dRet, dRetN, dDrop, dIfS, dBreak, dCont, dSet, dSetO, setAll, dSetT, dPar, itSeq, itRange1, itRange2, itEnum, Tg.put, Tg.ix, dFor, wipeL, dYes, oLc, dAppend, dPutIx, dFreeze, unown, hasOwn, noLD, okL, dSnap, dSnapT, dRaise, startD, dNoPart, dPart, dSl, oSl, fLen, fInt1, fAbs, fInt2, fDivmod, fTuple, fList, fSorted, oSortedSet, fRepr, fAll, fSum, isIntD, isBoolD, isStrD, isTupD, isSeqD, fIsT, dIsLT, dAug, dPutF, dFldI, dMake, startI, putD, dTupRev, dNewBox, dBoxPut, fRep, fEqS, oListRg, dPair, dWork, dSetA, fTimes, fIsOwn, fEqOwn, oSetC, dExtend, dPairO, oSnap, oSetJ, fInT, oSortedSetB, dMakeK, dLenSet, fNotB, fTimesS, itDown, dFive, List.map, List.cons_append, List.nil_append, List.append_eq, List.getElem?_cons_zero, List.getElem?_cons_succ, List.set_cons_zero, List.set_cons_succ, List.lookup_cons, List.lookup_nil, unown_y d12, unown_y d16, hasOwn_y d12, hasOwn_y d16, List.length_map, hm]
          have ep : Dl.cutD (rw2.map PyData.int) (some (if (m : Int) - (loss : Int) > 0 then (m : Int) - (loss : Int) else 0)) none = (rw2.drop (m - loss)).map PyData.int := by
            rw [show (if (m : Int) - (loss : Int) > 0 then (m : Int) - (loss : Int) else 0) = ((m - loss : Nat) : Int) by split <;> omega, cutD_from, List.map_drop]
          rw [ep]
          exact ⟨noLs_i _, rfl⟩
        rintro ρ rfl
        refine cut_seq ?_
        simp only [dOf, dVar, dC, dOp, dUn, dNil, dCons, pys, dTup, oLst, dCB, oCB, dCall, dCall0, dCallR, fAdd, oOp, fCat, fInt, fIntC, fNeg, fEq, isNonD, fIsN, fIn, fIx, dTest, dAnd, dOr, dNot, dAndV, dOrV, dNotV, dIfE, dChain, dFld, dNext, dSeq, dRet, dRetN, dDrop, dIfS, dBreak, dCont, dSet, dSetO, setAll, dSetT, dPar, itSeq, itRange1, itRange2, itEnum, Tg.put, Tg.ix, dFor, wipeL, dYes, oLc, dAppend, dPutIx, dFreeze, unown, hasOwn, noLD, okL, dSnap, dSnapT, dRaise, startD, dNoPart, dPart, dSl, oSl, fLen, fInt1, fAbs, fInt2, fDivmod, fTuple, fList, fSorted, oSortedSet, fRepr, fAll, fSum, isIntD, isBoolD, isStrD, isTupD, isSeqD, fIsT, dIsLT, dAug, dPutF, dFldI, dMake, startI, putD, dTupRev, dNewBox, dBoxPut, fRep, fEqS, oListRg, dPair, dWork, dSetA, fTimes, fIsOwn, fEqOwn, oSetC, dExtend, dPairO, oSnap, oSetJ, fInT, oSortedSetB, dMakeK, dLenSet, fNotB, fTimesS, itDown, dFive, List.map, List.cons_append, List.nil_append, List.append_eq, List.getElem?_cons_zero, List.getElem?_cons_succ, List.set_cons_zero, List.set_cons_succ, List.lookup_cons, List.lookup_nil, List.length_map, List.length_drop, hm]
        have e2 : Dl.cutD ((rw2.drop (m - loss)).map PyData.int) (some (((m - (m - loss) : Nat) : Int) - ((m - he : Nat) : Int))) none = (rw2.drop he).map PyData.int := by
          rw [show ((m - (m - loss) : Nat) : Int) - ((m - he : Nat) : Int) = ((m - (m - loss) - (m - he) : Nat) : Int) by omega, cutD_from, ← List.map_drop, List.drop_drop, show m - loss + (m - (m - loss) - (m - he)) = he by omega]
        rw [e2]
        refine ⟨T, st, rw2.drop he, rfl, mo, sd2.lt, by rw [List.length_drop]; omega, fun d hd => sd2.ok d (List.mem_of_mem_drop hd), fun q hq hq2 => ?_⟩
        have all : leadI T 0 rw2 = q := by
          have z := lead_app (T := T) (s := 0) (a := rw2.take he) (b := rw2.drop he)
          rw [List.take_append_drop, sd2.at_, hq] at z
          exact z
        refine cut_seq ?_
        simp only [dOf, dVar, dC, dOp, dUn, dNil, dCons, pys, dTup, oLst, dCB, oCB, dCall, dCall0, dCallR, fAdd, oOp, fCat, fInt, fIntC, fNeg, fEq, isNonD, fIsN, fIn, fIx, dTest, dAnd, dOr, dNot, dAndV, dOrV, dNotV, dIfE, dChain, dFld, dNext, dSeq, dRet, dRetN, dDrop, dIfS, dBreak, dCont, dSet, dSetO, setAll, dSetT, dPar, itSeq, itRange1, itRange2, itEnum, Tg.put, Tg.ix, dFor, wipeL, dYes, oLc, dAppend, dPutIx, dFreeze, unown, hasOwn, noLD, okL, dSnap, dSnapT, dRaise, startD, dNoPart, dPart, dSl, oSl, fLen, fInt1, fAbs, fInt2, fDivmod, fTuple, fList, fSorted, oSortedSet, fRepr, fAll, fSum, isIntD, isBoolD, isStrD, isTupD, isSeqD, fIsT, dIsLT, dAug, dPutF, dFldI, dMake, startI, putD, dTupRev, dNewBox, dBoxPut, fRep, fEqS, oListRg, dPair, dWork, dSetA, fTimes, fIsOwn, fEqOwn, oSetC, dExtend, dPairO, oSnap, oSetJ, fInT, oSortedSetB, dMakeK, dLenSet, fNotB, fTimesS, itDown, dFive, List.map, List.cons_append, List.nil_append, List.append_eq, List.getElem?_cons_zero, List.getElem?_cons_succ, List.set_cons_zero, List.set_cons_succ, List.lookup_cons, List.lookup_nil, unown_y d12, hasOwn_y d12, List.length_map, hm]
        refine ⟨rfl, T, 0, rw2, rfl, mo, n1, sd2.ok, fun q' hq' _ => ?_⟩
        have eq : q = q' := by
          have z : ((q : Nat) : Int) = ((q' : Nat) : Int) := by rw [← all, ← hq']; rfl
          omega
        subst eq
        refine iteF2 (by rw [decide_eq_true rfl]; decide) ?_
        exact next rw2 m q (m % r.length) y12 _ _ _ _ (by omega) ⟨sd2.ok, by omega, by omega, by rw [← hm, List.take_length]; exact all, hq2, rfl⟩ d12 rfl rfl rfl rfl
      · exact next rw2 he st pl y12 y13 y14 y15 y16 (by omega) sd2 d12 d13 d14 d15 d16

end
end Lw

set_option Elab.async false
set_option linter.all false
set_option maxRecDepth 100000
set_option maxHeartbeats 4000000
/-! a list comprehension that keeps nothing; its test knows of the def's own frame -/
namespace Lx
open PySem PySem.Spec PyProof.Rows L2
/-- the def's frame, as it stood when the block at (s, H) was opened; its : what the walk keeps -/
structure Opened (X : Cx) (pins : List (Addr × Obj)) (σ : L2.St) (s : Shared) (H : Hp) (its : List Addr) : Prop where
  inv : Inv X pins σ H s
  its : ∀ b ∈ its, FpOk X pins H b ∧ b < s.heap.objs.size
section
variable {X : Cx} {pins pinsB : List (Addr × Obj)} {σ σB : L2.St} {s sB : Shared} {H HB : Hp} {its : List Addr}
/-- back from the block to the frame -/
theorem Opened.back {scope : Scope} {ce : Env} (O : Opened X pins σ s H its) (J : Inv (X.blk s H scope ce its) pinsB σB HB sB) : Inv X pins σ HB sB := by
  refine O.inv.call' (ch := its) J.os J.base J.hok J.bare fun a ha => ?_
  obtain ⟨⟨_, l, _, e, c, p⟩, _⟩ := O.its a ha
  exact ⟨e, l, c, p⟩
def tNever : TE := fun _ _ _ => False
/-- a comprehension that keeps nothing -/
def tLcI (wi : TI) (g : TG) (tt : L2.St → TT) (vs : List Nat) : TE := fun σ H Q => tLc wi g (tt (wipe σ vs)) tNever vs σ H Q
abbrev blkEnv (X : Cx) (scope : Scope) (s : Shared) : Env :=
  let n := s.heap.objs.size
  compEnvC scope (cellsFrom (n + 1) scope.names (cloFrom X.env.cells scope.names [])) n X.env
theorem pe_lcI {elt tg iter : Expr} {ifs : List Expr} {scope : Scope} {own : List (Str × Nat)} {pos : Pos} {wi : TI} {g : TG} {tt : L2.St → TT} (hc : X.calm = true) (nd : X.N.Nodup) (walk : PI X tg iter wi) (ok : BlkOk X.N X.env.scope scope own)
    (hg : ∀ (s : Shared) (H : Hp) (C : Addr) (cl : List (Str × Addr)) (fp : List Addr), PG (X.blk s H scope (compEnvC scope cl C X.env) fp) tg g)
    (ht : ∀ (s : Shared) (H : Hp) (C : Addr) (cl : List (Str × Addr)) (its : List Addr) (pins : List (Addr × Obj)) (σ0 : L2.St), Opened X pins σ0 s H its → PTs (X.blk s H scope (compEnvC scope cl C X.env) its) ifs (tt σ0))
    (fold : ∀ x, foldedSetIterable iter X.env x = pure x := by intro _; rfl) :
    PE X (.ListComp elt [⟨tg, iter, ifs, 0⟩] scope pos) (tLcI wi g tt (own.map (·.2))) := by
  constructor
  intro pins s σ H Q I q
  rw [eval_ListComp]
  have caught : ∀ y ∈ scope.names, y.2 = .free → ∃ c, X.env.cells.lookup y.1 = some c := fun y hy e => by
    rcases ok.free y hy e with z | z
    · exact I.ok.has y.1 (Or.inl z)
    · exact I.ok.has y.1 (Or.inr z)
  apply wpAny_comprehension_free (use := none) rfl fold (closure_ok caught) ok.kind (fun y hy e => (ok.uniq y hy).trans (congrArg some e))
  refine thn (walk.run pins s σ H _ I q) fun xv sa ha => thn ha fun iv sb hb => ?_
  obtain ⟨it, its, tn, J, Hb, rfl, Ib, tu, at0, fresh, q⟩ := hb
  refine wpAny_newObj_type (newEnv_comp ?_) (show 0 ≤ sizeLine from Nat.zero_le _)
  have gone : Hb sb.heap.objs.size = none := Ib.hok.fresh (Nat.le_refl _)
  obtain ⟨W, ⟨m, w⟩, turn⟩ := q sb.heap.objs.size gone
  have lay : Inv X pins σ (upd Hb sb.heap.objs.size (.lst [])) { sb with heap := sb.heap.push { cls := .type "list", data := .seq ([] : List Value).toArray } } :=
    Inv.laid (t' := sb.toks) Ib (fun b o e => Heap.get?_push_of_some _ e) (Nat.le_refl _) ⟨Nat.zero_le _, [], 0, .nil, Heap.get?_push_size _ rfl⟩
  have kept : ∀ b o, sb.heap.get? b = some o → ({ sb with heap := sb.heap.push { cls := .type "list", data := .seq ([] : List Value).toArray } } : Shared).heap.get? b = some o := fun b o e => Heap.get?_push_of_some _ e
  have apart : ∀ b ∈ its, b ≠ sb.heap.objs.size := fun b hb => by
    obtain ⟨o, e, _⟩ := tu.obj 0 sb.heap at0 b hb
    exact Nat.ne_of_lt (Heap.lt_size e)
  revert lay kept apart
  generalize ({ sb with heap := sb.heap.push { cls := .type "list", data := .seq ([] : List Value).toArray } } : Shared) = sc
  intro lay kept apart
  generalize sb.heap.objs.size = D at gone w turn lay apart
  generalize eHc : upd Hb D (.lst []) = Hc at w lay
  have O : Opened X pins σ sc Hc its := by
    refine ⟨lay, fun b hb => ?_⟩
    obtain ⟨o, e, _⟩ := tu.obj 0 sb.heap at0 b hb
    obtain ⟨n, rest⟩ := fresh b hb
    refine ⟨⟨?_, rest⟩, Heap.lt_size (kept b o e)⟩
    rw [← eHc]
    exact (upd_ne (apart b hb)).trans n
  have OW : Opened X pins (wipe σ (own.map (·.2))) sc Hc its := ⟨lay.weak (wipe_length σ _) fun j v e => (wipe_some e).1, O.its⟩
  have B := block_start lay ok nd O.its
  have atc : tn 0 sc.heap := tu.keep 0 _ _ at0 fun b _ o e => kept b o e
  have pg := hg sc Hc sc.heap.objs.size (cellsFrom (sc.heap.objs.size + 1) scope.names (cloFrom X.env.cells scope.names [])) its
  have pt := ht sc Hc sc.heap.objs.size (cellsFrom (sc.heap.objs.size + 1) scope.names (cloFrom X.env.cells scope.names [])) its pins _ OW
  show codeAny _ _ (.compStart _ 0 (.ref it) (.ref _) (blkEnv X scope sc)) (compPost _ X.A X.xe none _ (.ref _) sc.heap.objs.size) _
  have here : (blkEnv X scope sc).locals = sc.heap.objs.size := rfl
  change Inv (X.blk sc Hc scope (blkEnv X scope sc) its) _ _ _ _ at B
  change PG (X.blk sc Hc scope (blkEnv X scope sc) its) tg g at pg
  change PTs (X.blk sc Hc scope (blkEnv X scope sc) its) ifs (tt (wipe σ (own.map (·.2)))) at pt
  have atd : tn 0 (pushCells (sc.heap.push { cls := .type "dict", data := .dict #[] }) scope.names) := tu.keep 0 _ _ atc fun b _ o e => pushCells_keeps _ _ b o (Heap.get?_push_of_some _ e)
  have none0 : ∀ b ∈ its, Hc b = none := fun b hb => (O.its b hb).1.1
  generalize blkEnv X scope sc = ce at here B pg pt ⊢
  generalize hsd : ({ sc with heap := pushCells (sc.heap.push { cls := .type "dict", data := .dict #[] }) scope.names } : Shared) = sd at B ⊢
  have atd : tn 0 sd.heap := by
    rw [← hsd]
    exact atd
  have stand : ∀ {σ' : L2.St} {H' : Hp} {s' : Shared}, Inv (X.blk sc Hc scope ce its) [] σ' H' s' → (∀ b ∈ its, H' b = none) → ∀ b ∈ its, FpOk (X.blk sc Hc scope ce its) [] H' b := fun {σ' H' s'} J n b hb =>
    ⟨n b hb, (J.ok.exf b hb).1, J.ok.exfs b hb, Or.inl hb, (J.ok.exf b hb).2, fun p hp => nomatch hp⟩
  have loop : codeAny (model X.prog X.w) X.A (.compLoop (.ListComp elt [⟨tg, iter, ifs, 0⟩] scope pos) 0 (.ref it) (.ref D) ce) (compPost (model X.prog X.w) X.A X.xe none (EP X pins σ Q) (.ref D) sc.heap.objs.size) sd := by
    apply compLoop_any (fun left s1 => ∃ i H1, W i left H1 ∧ tn i s1.heap ∧ Inv (X.blk sc Hc scope ce its) [] (wipe σ (own.map (·.2))) H1 s1 ∧ ∀ b ∈ its, H1 b = none) ?_ m ⟨0, Hc, w, atd, B, none0⟩
    rintro left s1 ⟨i, H1, w1, at1, J1, n1⟩
    rcases turn i left H1 w1 with ⟨stop, done⟩ | ⟨go, Nx, lower, step⟩
    · -- the walk ends
      refine thnF (tu.done (X.blk sc Hc scope ce its) rfl rfl rfl hc i [] s1 _ H1 (fun _ _ => False) J1 (stand J1 n1) at1 stop) ?_
      rintro r s2 ⟨rfl, J2⟩
      have clear2 : H1 sc.heap.objs.size = none := by
        rw [← here]
        exact J2.free
      obtain ⟨n, held, _⟩ := J2.loc
      refine ⟨n, ?_, fun h3 sb3 => ?_⟩
      · rw [← here]
        exact held
      · have F := O.inv.fpOk (Nat.le_refl _) clear2
        obtain ⟨f0, f1, f2, f3, f4, f5⟩ := F
        exact ⟨.ref D, H1, (O.back J2).turned (t' := s2.toks) (fun b o ne e => (sb3.2 b ne).trans e) f0 f1 f3 f4 f5, rfl, done⟩
    · -- one more turn
      refine thnF (tu.item (X.blk sc Hc scope ce its) rfl rfl rfl hc i [] s1 _ H1 (fun _ _ => False) J1 (stand J1 n1) at1 go) ?_
      rintro r s2 ⟨u, rfl, h2⟩
      refine thnF h2 ?_
      rintro _ s3 ⟨x, H3, J3, rx, yd, at3, n3⟩
      have P := J3.pinned (stand J3 n3) (tu.obj _ _ at3)
      refine thnF (pg.run _ s3 _ H3 x u _ P rx (step x H3 yd)) ?_
      rintro _ s4 ⟨σ4, H4, J4, back, q4⟩
      refine thnF (pt.run _ s4 σ4 H4 _ J4 q4) ?_
      rintro b s5 ⟨H5, J5, q5⟩
      cases b with
      | true => exact False.elim q5
      | false =>
        show ∃ m', m' < left ∧ _
        obtain ⟨m', lt, w5⟩ := lower H5 q5
        have there : ∀ b ∈ its, ∀ o, s3.heap.get? b = some o → s5.heap.get? b = some o ∧ H5 b = none := fun b hb o e => by
          have z := J5.pin (b, o) (List.mem_append_right _ (List.mem_append_right _ (mem_pinsAt hb e)))
          exact ⟨z.1, z.2.1⟩
        refine ⟨m', lt, i + 1, H5, w5, tu.keep _ _ _ at3 fun b hb o e => (there b hb o e).1, ?_, fun b hb => ?_⟩
        · refine (J5.unpinned (pins := [])).weak ?_ fun j v e => ?_
          · rw [← back, wipe_length]
          · rw [← back] at e
            exact (wipe_some e).1
        · obtain ⟨o, e, _⟩ := tu.obj _ _ at3 b hb
          exact (there b hb o e).2
  exact codeAny_compStart_list loop (tu.self X.A 0 _ _ _ atd loop)
end
/-- at f a lambda without parameters that X's frame made; what it does -/
def LamAt (X : Cx) (k : Nat) (f : Addr) (H : Hp) (t : XK → TE) : Prop := ∃ (params : Arguments) (body : Expr) (scope : Scope) (cc : Addr), H f = some (LamO X params body scope f cc) ∧ H cc = some (LamX.CodeO cc (lamQ X)) ∧ LamN X.env.scope scope [] ∧
  (∀ (q : Str) (clo : List (Str × Addr)) (pm cv ctv : Value), bindArgs (PySem.W.kla_fn "<lambda>" q params body scope clo pm cv ctv) ⟨[], []⟩ = pure []) ∧
  ∀ (A : Around) (outer : List Env) (s1 : Shared) (H1 : Hp) (E : XK) (f cc : Addr), Room k (A.deeper (lmEnv X scope s1.heap.objs.size f cc)) → PE (lmCx X [] A outer s1 H1 E scope f cc) body (t E)
theorem LamAt.same {X : Cx} {k : Nat} {f : Addr} {F F' : Hp} {t : XK → TE} (e : Same F F') (h : LamAt X k f F t) : LamAt X k f F' t := by
  obtain ⟨params, body, sc, cc, h1, h2, h3⟩ := h
  exact ⟨params, body, sc, cc, e _ _ h1, e _ _ h2, h3⟩
/-- an ear is handed the lambda that stands in slot i, from a block whose own slots are vs -/
def tEarV (X : Cx) (k i : Nat) (vs : List Nat) (TT : (XK → Hp → VK → Prop) → Hp → VK → Prop) (t : XK → TE) (σ0 : L2.St) : TE := fun σ H Q => ∃ f, σ[i]? = some (some (.ref f)) ∧ LamAt X k f H t ∧ wipe σ vs = σ0 ∧ TT (fun E H' Q' => t E (wipe σ vs) H' Q') H Q
theorem pe_earV {X : Cx} {pinsO : List (Addr × Obj)} {σ0 : L2.St} {s0 : Shared} {H0 : Hp} {its : List Addr} {blk : Scope} {ce : Env} {TT : (XK → Hp → VK → Prop) → Hp → VK → Prop} {x a : Str} {g : Addr} {k i : Nat} {vs : List Nat} {st : Stmt} {fd : FuncData} {Ng : List Str} {arg : Expr} {t : XK → TE} {p pos : Pos}
    (O : Opened X pinsO σ0 s0 H0 its) (hg : Gl (X.blk s0 H0 blk ce its) x) (hm : X.mg x = some (.ref g)) (F : Fun X.K x x st g fd) (hb : L2.Binds X.K fd [a] []) (Sg : FnScope Ng [a] (defScope st)) (hNg : Ng[0]? = some a) (hva : Vis (defScope st) a)
    (hG : ∀ cdg, GivesH (X.blk s0 H0 blk ce its) Ng x (defScope st) g cdg (defBody st) a TT) (hr : Room (k + 2) X.A) (harg : PE (X.blk s0 H0 blk ce its) arg (tVar i)) (he : ∀ env : Env, starEach [arg] env = (false, eval arg env) :: starEach [] env)
    (hdb : (x == ("__debug__" : Str)) = false := by decide) (hd : (a == ("__debug__" : Str)) = false := by decide) (hcd : (a == ("__classdict__" : Str)) = false := by decide) :
    PE (X.blk s0 H0 blk ce its) (.Call (.Name x p) [arg] [] pos) (tEarV X k i vs TT t σ0) := by
  obtain ⟨oc, od, kV, doc, pm, an, cdv, ct, osl, rfl, lk, hcg⟩ := F.ex
  constructor
  rintro pins s σ H Q J ⟨f, hf, lam, eσ, h⟩
  apply wpAny_Call_Name_kw (ld_glob J hg hm ?_ hdb)
  apply PySem.W.callWith_K (h₀ := X.base) J.ok.mod.kin F.kp ?_ (he _) (by rfl)
  rw [he]
  apply Calls.spliced_cons
  refine thn (harg.run pins s σ H (fun v H' => v = .ref f ∧ H' = H) J ⟨.ref f, hf, rfl, rfl⟩) ?_
  rintro u s1 ⟨v, H1, J1, ru, rfl, rfl⟩
  obtain rfl : u = Value.ref f := ru
  apply Calls.spliced_nil
  refine ⟨J1.kIn, ?_⟩
  refine callee_end (CX := L2.CX0) (E := L2.E0) (kw := []) J1 pass0 ?_
  refine LamX.run_ofS (N := Ng) (ps := [a]) (us := [.ref f]) (vs := [.ref f]) lk hcg Sg hr J1.env0 (hb s1 [.ref f] J1.kIn rfl) (.cons rfl .nil) rfl ?_
  intro hr'
  have call : ∀ (W : WX) (pn : List (Addr × Obj)) (xe : Value → Shared → Prop) (E : XK) (p1 p2 : Pos), Takes ((gCx (X.blk s0 H0 blk ce its) Ng x (defScope st) g cdv s1 H1).tr pn xe) W → (∀ cls d σ' H', E cls d H' → W cls d σ' H') →
      PE ((gCx (X.blk s0 H0 blk ce its) Ng x (defScope st) g cdv s1 H1).tr pn xe) (.Call (.Name a p1) [] [] p2) (fun σZ HZ Q => σZ[0]? = some (some (.ref f)) ∧ HZ = H1 ∧ t E (wipe σ vs) HZ Q) := by
    intro W pn xe E p1 p2 tk hW
    constructor
    rintro pinsZ sZ σZ HZ QZ IZ ⟨h0, rfl, ht⟩
    apply wpAny_Call_Name_kw
    refine thn ((pe_var (pos := p1) (i := 0) hNg hva hd hcd).run pinsZ sZ σZ HZ (fun v H' => v = .ref f ∧ H' = HZ) IZ ⟨.ref f, h0, rfl, rfl⟩) ?_
    rintro u s2 ⟨v, H2, I2, ru, rfl, rfl⟩
    obtain rfl : u = Value.ref f := ru
    obtain ⟨params, body, scope, cc, hl, hc, L, hbind, hbody⟩ := lam
    have of : ∃ pm ctv : Value, s2.heap.get? f = some (PySem.W.kla_obj "<lambda>" (lamQ X) params body scope (cloFrom X.env.cells scope.names []) pm cc ctv) := by
      have z : ObjOk X.prog X.w H2 s2.heap f (LamO X params body scope f cc) := I2.hok f _ hl
      exact z.1
    obtain ⟨pm', ctv', of⟩ := of
    refine PySem.W.callWith_F0 ⟨_, _, _, _, of⟩ ?_
    -- the frame's cells, from the block's opening until now
    have IX : Inv X pinsO σ0 H2 s1 := O.back J1
    have cl : CellsOn X s1.heap s2.heap H2 := CellsOn.un IX (show Un (frs X.stack) [] H2 H2 s1.heap s2.heap from I2.base)
    refine callee_end (CX := L2.CX X.prog X.w) (E := E) (kw := []) I2 (passes_call tk hW) ?_
    subst eσ
    refine lm_run (X := X) (pins := pinsO) (σ := wipe σ vs) (H := H2) (s := s1) (HZ := H2) (s1 := s2) (ps := []) (vs := []) (us := []) (E := E) (Q := QZ) (k := k) (scope := scope) (params := params) (body := body) (f := f) (cc := cc) IX L I2.env0 I2.nolimit cl hl hc hr' (fun p hp => nomatch hp) .nil rfl (fun q clo pm cv ctv => hbind q clo pm cv ctv) (fun j y v h => by simp at h) ?_
    intro s3 hr3 J3
    have e0 : wipe σ vs ++ ([] : List V).map some = wipe σ vs := by simp
    rw [e0] at J3 ⊢
    exact (hbody _ _ s2 H2 E f cc hr3).run [] s3 _ H2 QZ J3 ht
  obtain ⟨t', ht', hq⟩ := hG cdv f s1 H1 Q (fun E H' Q' => t E (wipe σ vs) H' Q') call h
  exact ⟨t', ht'.nox, hq⟩
end Lx

set_option Elab.async false
set_option linter.all false
set_option maxRecDepth 100000
set_option maxHeartbeats 4000000
/-! the data layer: a comprehension over a list of lambdas that keeps none; an ear handed one of them -/
namespace Dl
open PySem PySem.Spec PyProof.Rows L2 Lx
/-- a lambda without parameters that X's frame made -/
def lamT (X : Cx) (k : Nat) (t : XK → TE) : LamW := ⟨fun F f => LamAt X k f F t, fun e h => LamAt.same e h⟩
section
variable {S : Sx} {E : XK}
/-- a test within a block, from the slots at its opening -/
def LTI (S : Sx) (E : XK) (vs : List Nat) (T : L2.St → TT) (t : TTD) : Prop := ∀ (H0 : Hp) (ρ : Rho) (σ : L2.St) (G : Gh) (H : Hp) (Qd : Bool → Prop) (Ed : Er → Prop) (Q : Bool → Hp → Prop), Wf S G H → StR G H0 H σ ρ → t ρ Qd Ed →
  (∀ b G' H', Step S G H G' H' → Qd b → Q b H') → (∀ e cls d G' H', Step S G H G' H' → ErAt G' H' cls d e → Ed e → E cls d H') → T (wipe σ vs) σ H Q
/-- the ear's reading of the lambda in slot i -/
def dEarV (W : LamW) (i : Nat) (vs : List Nat) (f : TD → TD) (t : TD) : TD := fun ρ Qd Ed => ρ[i]? = some (some (.dv (.lam W))) ∧ f t (wipeL ρ vs) Qd Ed
/-- ear(ask) op e -/
theorem lti_earCmp {X : Cx} {k i : Nat} {vs : List Nat} {TT : (XK → Hp → VK → Prop) → Hp → VK → Prop} {f : TD → TD} {T : XK → TE} {t : TD} {r : R2} {fo : F2} {Tb : TE} {tb : TD} (hT : LH S TT f) (h : ∀ E', LE S E' (T E') t) (hr : L2r S r fo) (hb : LE S E Tb tb) :
    LTI S E vs (fun σ0 => tTest (tOp r (tEarV X k i vs TT T σ0) Tb)) (dTest (dOp fo (dEarV (lamT X k T) i vs f t) tb)) := by
  rintro H0 ρ σ G H Qd Ed Q w st ⟨e, q⟩ kk ke
  obtain ⟨v0, z1, z2⟩ := st.at_ i _ e
  cases z2 with
  | lam ok =>
    refine ⟨_, z1, LamAt.same w.sub ok, rfl, ?_⟩
    refine hT T t h E H0 _ _ G H _ Ed _ w (st.wipe vs) q (fun x dx G1 H1 s1 rx q1 => ?_) ke
    refine hb H0 ρ σ G1 H1 _ Ed _ s1.wf (st.step s1) q1 (fun y dy G2 H2 s2 ry q2 => ?_) (fun e cls d G2 H2 s2 he z => ke e cls d G2 H2 (s1.trans s2) he z)
    refine hr G2 H2 x y dx dy _ _ s2.wf (rx.mono s2.fm s2.bm) ry q2 fun v d G3 H3 s3 rv q3 => ?_
    split at q3
    · cases rv_bl rv
      exact ⟨_, rfl, kk _ G3 H3 (s1.trans (s2.trans s3)) q3⟩
    · exact q3.elim
/-- n turns, none of which keeps its lambda -/
def dTurnsL (tt : TTD) (ρ : Rho) (Qd : Prop) (Ed : Er → Prop) : Nat → Prop
  | 0 => Qd
  | n + 1 => tt ρ (fun b => b = false ∧ dTurnsL tt ρ Qd Ed n) Ed
def oLcI (W : LamW) (i j : Nat) (tt : TTD) : TOD := fun ρ Qd Ed => ∃ n, ρ[i]? = some (some (.dv (.lams W n))) ∧ j < ρ.length ∧ dTurnsL tt ((wipeL ρ [j]).set j (some (.dv (.lam W)))) (Qd []) Ed n
theorem wipe_one {σ : L2.St} {j : Nat} {v : V} : wipe ((wipe σ [j]).set j (some v)) [j] = wipe σ [j] := by
  show ((σ.set j none).set j (some v)).set j none = σ.set j none
  rw [List.set_set, List.set_set]
theorem lo_lcI {W : LamW} {i j : Nat} {Tt : L2.St → TT} {tt : TTD} (ht : LTI S E [j] Tt tt) : LO S E (tLcI (iSeq S.K (tVar i)) (gName j) Tt [j]) (oLcI W i j tt) := by
  rintro H0 ρ σ G H Qd Ed Q w st ⟨n, e, lt, q⟩ k ke
  obtain ⟨v0, z1, z2⟩ := st.at_ i _ e
  cases z2 with
  | @lams p _ vs _ h1 hl hok =>
    have hp := w.sub _ _ h1
    refine ⟨.ref p, z1, p, rfl, .inl ⟨vs, .inl (.inl hp), ?_⟩⟩
    intro D nD
    have n0 : Fr H D := .of nD
    refine lc_it walk_list (fun m H' => m ≤ n ∧ ∃ G', Step S G H G' H' ∧ H' D = some (.lst []) ∧ G'.F D = none ∧ ¬ G'.B D ∧ dTurnsL tt ((wipeL ρ [j]).set j (some (.dv (.lam W)))) (Qd []) Ed (n - m))
      ⟨Nat.zero_le _, G, Step.new w nD, upd_same, w.free nD, w.box_ne nD, q⟩ (fun m H' _ ⟨_, G', a1, _⟩ => .inl (.inl (a1.wf.sub _ _ (a1.fm _ _ h1)))) ?_ ?_
    · rintro m x H2 H3 hm ⟨_, G', a1, hD, fD, bD, q1⟩ ⟨rfl, ex⟩
      obtain ⟨f, rfl, hw⟩ := hok x (List.mem_of_getElem? ex)
      have lm : m < n := by rw [← hl]; exact hm
      rw [show n - m = (n - (m + 1)) + 1 by omega] at q1
      have rv : RV G' (.ref f) (.lam W) := .lam (W.mono a1.fm hw)
      have stw := ((st.step a1).wipe [j]).set (i := j) rv
      refine ⟨wipe_one, ?_⟩
      have back : wipe ((wipe σ [j]).set j (some (.ref f))) [j] = wipe σ [j] := wipe_one
      have q2 := ht H0 _ ((wipe σ [j]).set j (some (.ref f))) G' _ _ Ed (fun b H3 => if b = true then tNever ((wipe σ [j]).set j (some (.ref f))) H3 fun y H4 => ∃ acc, H4 D = some (.lst acc) ∧ acc.length < sizeLine ∧ (m + 1 ≤ n ∧ ∃ G', Step S G H G' (upd H4 D (.lst (acc ++ [y]))) ∧ (upd H4 D (.lst (acc ++ [y]))) D = some (.lst []) ∧ G'.F D = none ∧ ¬ G'.B D ∧ dTurnsL tt ((wipeL ρ [j]).set j (some (.dv (.lam W)))) (Qd []) Ed (n - (m + 1)))
          else (m + 1 ≤ n ∧ ∃ G', Step S G H G' H3 ∧ H3 D = some (.lst []) ∧ G'.F D = none ∧ ¬ G'.B D ∧ dTurnsL tt ((wipeL ρ [j]).set j (some (.dv (.lam W)))) (Qd []) Ed (n - (m + 1)))) a1.wf stw q1 (fun b G4 H4 s4 q4 => ?_) (fun e cls d G4 H4 s4 he z => ke e cls d G4 H4 (a1.trans s4) he z)
      · rw [back] at q2
        exact q2
      · obtain ⟨rfl, q4⟩ := q4
        exact iteF ⟨lm, G4, a1.trans s4, s4.keep _ _ hD bD (fun z e => by cases e), s4.nf _ _ hD trivial fD, s4.nb _ _ hD (fun z e => by cases e) bD, q4⟩
    · rintro H2 ⟨_, G', a1, hD, fD, bD, q1⟩
      rw [hl, Nat.sub_self] at q1
      exact k D [] [] G' H2 a1 n0 hD fD bD .nil q1
/-- a list of lambdas all of which say the same -/
theorem turnsL_ind {tt : TTD} {ρ : Rho} {Qd : Prop} {Ed : Er → Prop} (q : Qd) (h : ∀ K : Prop, K → tt ρ (fun b => b = false ∧ K) Ed) : ∀ n, dTurnsL tt ρ Qd Ed n
  | 0 => q
  | n + 1 => h _ (turnsL_ind q h n)
end
end Dl

set_option Elab.async false
set_option linter.all false
set_option maxRecDepth 100000
set_option maxHeartbeats 4000000
namespace Lw
open PySem PySem.Spec PyProof.Rows L2 Lx Dl Pg
section
variable {P : Program} {w : World} {mg : Str → Option Value} {base : Heap} {S : Sx}
variable {ec : EC}
section
variable {CF : Addr} {H : Hp} {Q : VK} {E : XK} {a b : V}
def spOdd (CF : Addr) : SpD := fun ds _ Ed => ∃ v u, ds = [.py v, .py u] ∧ (itemsD v).length ≤ 64 ∧ numD u 0 (some 12) = false ∧ Ed ⟨CF, "at", .py u⟩
def spBadR (CF : Addr) : SpD := fun ds _ Ed => ∃ v, ds = [.py v] ∧ (itemsD v).length ≤ 64 ∧ isRingB v 8 1 = false ∧ Ed ⟨CF, "at", .py v⟩
def oddSp (S : Sx) (CF : Addr) (E : XK) : TE := tCall (spD S 2 (spOdd CF)) [] E (tCons (tVar 1) (tCons (tVar 3) tNil))
def badSp (S : Sx) (CF : Addr) (E : XK) : TE := tCall (spD S 1 (spBadR CF)) [] E (tCons (tVar 6) tNil)
theorem bad_to {sp1 sp2 : SpD} {n m : Nat} {us vs : List V} (hv : vs.length = n) (h : spD S m sp1 us H Q E)
    (t : ∀ (G : Gh) (ds : List DV) (Qd : DV → Prop) (Ed : Er → Prop), RVs G us ds → sp1 ds Qd Ed → ∃ ds', RVs G vs ds' ∧ sp2 ds' Qd Ed) : spD S n sp2 vs H Q E := by
  obtain ⟨G, ds, Qd, Ed, hl, wf, rv, h1, k1, k2⟩ := h
  obtain ⟨ds', rv', h2⟩ := t G ds Qd Ed rv h1
  exact ⟨G, ds', Qd, Ed, hv, wf, rv', h2, k1, k2⟩
theorem rvs2 {G : Gh} {a b : V} {x y : DV} (h : RVs G [a, b] [x, y]) : RV G a x ∧ RV G b y := by
  cases h with
  | cons h1 t => cases t with
    | cons h2 t => exact ⟨h1, h2⟩
theorem rvs1 {G : Gh} {a : V} {x : DV} (h : RVs G [a] [x]) : RV G a x := by
  cases h with
  | cons h1 t => exact h1
theorem no_of {b : Bool} {p : Prop} (h : b = false) (z : b = true) : p := by
  rw [h] at z
  cases z
theorem odd_int {u : PyData} {l : Nat} {p : Prop} (h : numD u 0 (some 12) = false) (e : u = .int (l : Nat)) (l12 : l ≤ 12) : p := no_of h (by rw [e]; simp [numD]; omega)
theorem o_marks (h : spD S 2 (spOdd CF) [a, b] H Q E) : spD S 3 (spMarksTold CF) [a, b, .non] H Q E := bad_to rfl h fun G ds Qd Ed rv h => by
  obtain ⟨v, u, rfl, v64, hb, q⟩ := h
  obtain ⟨r1, r2⟩ := rvs2 rv
  exact ⟨[.py v, .py u, .py .none], .cons r1 (.cons r2 (.cons (.py .non) .nil)), ⟨v, u, .none, rfl, v64, fun _ => q, fun l e l12 => odd_int hb e l12⟩⟩
theorem o_place (h : spD S 2 (spOdd CF) [a, b] H Q E) : spD S 3 (spPlaceTold CF) [.non, b, .non] H Q E := bad_to rfl h fun G ds Qd Ed rv h => by
  obtain ⟨v, u, rfl, v64, hb, q⟩ := h
  obtain ⟨r1, r2⟩ := rvs2 rv
  exact ⟨[.py .none, .py u, .py .none], .cons (.py .non) (.cons r2 (.cons (.py .non) .nil)), ⟨.none, u, .none, rfl, Nat.zero_le _, fun _ => q, fun l e l12 => odd_int hb e l12⟩⟩
theorem b_marks (h : spD S 1 (spBadR CF) [a] H Q E) : spD S 3 (spMarksTold CF) [a, .int 1, .non] H Q E := bad_to rfl h fun G ds Qd Ed rv h => by
  obtain ⟨v, rfl, v64, hb, q⟩ := h
  have r1 := rvs1 rv
  refine ⟨[.py v, .py (.int 1), .py .none], .cons r1 (.cons (.py (.int 1)) (.cons (.py .non) .nil)), ⟨v, .int 1, .none, rfl, v64, fun z => Bool.noConfusion z, fun l e l12 => ?_⟩⟩
  have e : 1 = l := by have := PyData.int.inj e; omega
  subst e
  exact ⟨fun _ => q, fun z => no_of hb z⟩
theorem b_place (h : spD S 1 (spBadR CF) [a] H Q E) : spD S 3 (spPlaceTold CF) [a, .int 1, .non] H Q E := bad_to rfl h fun G ds Qd Ed rv h => by
  obtain ⟨v, rfl, v64, hb, q⟩ := h
  have r1 := rvs1 rv
  refine ⟨[.py v, .py (.int 1), .py .none], .cons r1 (.cons (.py (.int 1)) (.cons (.py .non) .nil)), ⟨v, .int 1, .none, rfl, v64, fun z => Bool.noConfusion z, fun l e l12 => ?_⟩⟩
  have e : 1 = l := by have := PyData.int.inj e; omega
  subst e
  exact ⟨fun _ => q, fun z => no_of hb z⟩
end
theorem rep2 : RepOk (.str "2") := ⟨0, 1, ⟨by decide +kernel, Nat.le_refl _, by decide +kernel, by decide +kernel, rfl, by decide +kernel⟩, by decide, by decide⟩
theorem told2 : Told (.str "2") := ⟨rep2, by decide +kernel⟩
theorem shp_told2 {a b : Str} (ha : Chars a) (hb : Chars b) : shp (.tuple [.str a, .str b]) = true := by
  show ((PyData.canLay0 (.str a) && (PyData.canLay0 (.str b) && true)) && true) = true
  rw [show PyData.canLay0 (.str a) = true from ha, show PyData.canLay0 (.str b) = true from hb]
  rfl
theorem eqv_told2 (a b : Str) : PyData.eqv (.tuple [.str a, .str b]) (.tuple [.str a, .str b]) = true := by
  simp [PyData.eqv, PyData.eqvAll]
theorem chars_refused : Chars "refused" := by decide +kernel
theorem odd_of {d : PyData} (h : d ∈ [PyData.int (0 - 1), .int 13, .none, .bool true, .str "2"]) : Told d ∧ numD d 0 (some 12) = false := by
  simp only [List.mem_cons, List.not_mem_nil, or_false] at h
  rcases h with rfl | rfl | rfl | rfl | rfl
  · exact ⟨told_neg, rfl⟩
  · exact ⟨told_int (M := 13) (by decide), rfl⟩
  · exact ⟨told_none, rfl⟩
  · exact ⟨told_bool _, rfl⟩
  · exact ⟨told2, rfl⟩
theorem told_ints {l : List Int} (h : ∀ d ∈ l, d.natAbs < 10 ^ 12) (hl : l.length ≤ 64) : Told (.tuple (l.map .int)) :=
  ⟨((neat_tuple (neat_ints h)).mono (a' := 1) (b' := 64 * 41) (Nat.le_refl _) (by rw [List.length_map]; exact Nat.mul_le_mul hl (Nat.le_refl _))).rep, chars_far (far_ints l)⟩
theorem told_items {l : List PyData} (h : ∀ d ∈ l, Neat d 0 40 ∧ Far d.shown) (hl : l.length ≤ 64) : Told (.tuple l) :=
  ⟨((neat_tuple fun d hd => (h d hd).1).mono (a' := 1) (b' := 64 * 41) (Nat.le_refl _) (Nat.mul_le_mul hl (Nat.le_refl _))).rep, chars_far (far_tuple fun d hd => (h d hd).2)⟩
theorem rep01 : RepOk (.str "01") := ⟨0, 2, ⟨by decide +kernel, Nat.le_refl _, by decide +kernel, by decide +kernel, rfl, by decide +kernel⟩, by decide, by decide⟩
theorem rep00 : RepOk (.str "00") := ⟨0, 2, ⟨by decide +kernel, Nat.le_refl _, by decide +kernel, by decide +kernel, rfl, by decide +kernel⟩, by decide, by decide⟩
theorem rep000 : RepOk (.str "000") := ⟨0, 3, ⟨by decide +kernel, Nat.le_refl _, by decide +kernel, by decide +kernel, rfl, by decide +kernel⟩, by decide, by decide⟩
theorem bad_of {d : PyData} (h : d ∈ [PyData.none, .tuple [], .tuple [.int 0, .int 0], .tuple [.int 0, .int 1, .int 0, .int 1], .tuple [.int 8, .int 0], .tuple [.bool true, .int 0], .str "01", .int 3]) : Told d ∧ isRingB d 8 1 = false ∧ (itemsD d).length ≤ 64 := by
  simp only [List.mem_cons, List.not_mem_nil, or_false] at h
  rcases h with rfl | rfl | rfl | rfl | rfl | rfl | rfl | rfl
  · exact ⟨told_none, rfl, by decide⟩
  · exact ⟨told_ints (l := []) (fun d hd => nomatch hd) (by decide), rfl, by decide⟩
  · exact ⟨told_ints (l := [0, 0]) (by decide) (by decide), by decide +kernel, by decide⟩
  · exact ⟨told_ints (l := [0, 1, 0, 1]) (by decide) (by decide), by decide +kernel, by decide⟩
  · exact ⟨told_ints (l := [8, 0]) (by decide) (by decide), by decide +kernel, by decide⟩
  · refine ⟨told_items (l := [.bool true, .int 0]) (fun d hd => ?_) (by decide), by decide +kernel, by decide⟩
    simp only [List.mem_cons, List.not_mem_nil, or_false] at hd
    rcases hd with rfl | rfl
    · exact ⟨(neat_bool _).mono (Nat.le_refl _) (by decide), far_bool _⟩
    · exact ⟨neat_int (by decide), far_int _⟩
  · exact ⟨⟨rep01, by decide +kernel⟩, rfl, by decide⟩
  · exact ⟨told_int (M := 3) (by decide), rfl, by decide⟩
theorem none1_of {d : PyData} (h : d ∈ [PyData.int (0 - 1), .none, .bool true, .str "1"]) : Told d ∧ numD d 0 none = false := by
  simp only [List.mem_cons, List.not_mem_nil, or_false] at h
  rcases h with rfl | rfl | rfl | rfl
  · exact ⟨told_neg, rfl⟩
  · exact ⟨told_none, rfl⟩
  · exact ⟨told_bool _, rfl⟩
  · exact ⟨told1, rfl⟩
theorem times_len {l : Nat} (l1 : 1 ≤ l) (l3 : l ≤ 3) : (timesS "0" (l : Int)).length ≤ 1000000 := by
  have c : l = 1 ∨ l = 2 ∨ l = 3 := by omega
  rcases c with rfl | rfl | rfl <;> decide +kernel
theorem none2_of {l : Nat} (l1 : 1 ≤ l) (l3 : l ≤ 3) {d : PyData} (h : d ∈ [PyData.none, .tuple (List.replicate ((l : Int) + 1).toNat [PyData.int 0]).flatten, .tuple (List.replicate ((l : Int) + 1).toNat [PyData.none]).flatten, .str (timesS "0" (l : Int)), .int 0]) : Told d ∧ marksB l d = false := by
  have z0 : ∀ (n : Nat), n ≤ 64 → Told (.tuple (List.replicate n [PyData.int 0]).flatten) := fun n hn => by
    refine told_items (fun d hd => ?_) ?_
    · obtain ⟨x, hx, hd⟩ := List.mem_flatten.mp hd
      rw [(List.mem_replicate.mp hx).2, List.mem_singleton] at hd
      subst hd
      exact ⟨neat_int (by decide), far_int _⟩
    · simpa using hn
  have zn : ∀ (n : Nat), n ≤ 64 → Told (.tuple (List.replicate n [PyData.none]).flatten) := fun n hn => by
    refine told_items (fun d hd => ?_) ?_
    · obtain ⟨x, hx, hd⟩ := List.mem_flatten.mp hd
      rw [(List.mem_replicate.mp hx).2, List.mem_singleton] at hd
      subst hd
      exact ⟨neat_none.mono (Nat.le_refl _) (by decide), far_none⟩
    · simpa using hn
  have c : l = 1 ∨ l = 2 ∨ l = 3 := by omega
  simp only [List.mem_cons, List.not_mem_nil, or_false] at h
  rcases h with rfl | rfl | rfl | rfl | rfl
  · exact ⟨told_none, rfl⟩
  · refine ⟨z0 _ (by omega), ?_⟩
    rcases c with rfl | rfl | rfl <;> decide +kernel
  · refine ⟨zn _ (by omega), ?_⟩
    rcases c with rfl | rfl | rfl <;> decide +kernel
  · rcases c with rfl | rfl | rfl
    · rw [show timesS "0" ((1 : Nat) : Int) = ("0" : Str) by decide +kernel]
      exact ⟨told0, rfl⟩
    · rw [show timesS "0" ((2 : Nat) : Int) = ("00" : Str) by decide +kernel]
      exact ⟨⟨rep00, by decide +kernel⟩, rfl⟩
    · rw [show timesS "0" ((3 : Nat) : Int) = ("000" : Str) by decide +kernel]
      exact ⟨⟨rep000, by decide +kernel⟩, rfl⟩
  · refine ⟨told_int (M := 0) (by decide), rfl⟩
theorem ints_ge : ∀ {l : List PyData}, (∀ d ∈ l, ∃ x : Nat, 8 ≤ x ∧ x ≤ 10 ∧ d = .int (x : Nat)) → ∃ ns : List Int, l = ns.map .int ∧ ∀ d ∈ ns, 8 ≤ d ∧ d ≤ 10
  | [], _ => ⟨[], rfl, fun d h => by cases h⟩
  | d :: l, h => by
    obtain ⟨ns, e, hn⟩ := ints_ge fun x hx => h x (List.mem_cons_of_mem _ hx)
    obtain ⟨r, h1, h2, er⟩ := h d List.mem_cons_self
    refine ⟨(r : Int) :: ns, by rw [e, er]; rfl, fun x hx => ?_⟩
    rcases List.mem_cons.mp hx with rfl | hx
    · exact ⟨by omega, by omega⟩
    · exact hn x hx
def spNoneRight : SpD := fun ds Q _ => ∃ (r : List Int) (l : Nat), ds = [.box, .tup (r.map .int), .int (l : Nat)] ∧ RingK l r ∧ 1 ≤ l ∧ l ≤ 3 ∧ Q (.bl true)
def nLawNoneRightN : List Str := ["box", "ring", "length", "odd", "asks", "ask", "bad", "none", "mark", "away"]
theorem scLawNoneRight : FnScope nLawNoneRightN ["box", "ring", "length"] (defScope sLawNoneRight) := ⟨rfl, rfl, rfl, by decide +kernel, rfl, by decide +kernel, by decide +kernel⟩
theorem ok_law_none_right {f : Addr} {fd : FuncData} (F : Fun S.K "_law_none_right" "_law_none_right" sLawNoneRight f fd) {c Pt : Addr} (hcode : fd.code = .ref c) (TB : LamX.TabB base mg c Pt) (hmT : ∀ X : Cx, X.env.qual = ("_law_none_right" : Str) ++ ".<locals>." → (Pt, lamQ X) ∈ S.Tb) (hu : ∀ X : Cx, X.env.qual = ("_law_none_right" : Str) ++ ".<locals>." → ∀ p ∈ S.Tb, p.1 = Pt → p.2 = lamQ X) (ear : EarDef S.K mg) (ea : Ears S.K mg ec) (B : Bare mg) (Gt : Has P w S.K mg base L2.CX0 1 "_law_take" ["box", "many"] (spD S 2 spTake)) (Gp : Has P w S.K mg base L2.CX0 2 "_law_pick" ["box", "some"] (spD S 2 spPick)) (Gmt : Has P w S.K mg base (L2.CX P w) 5 "marks_told" ["ring", "length", "number"] (spD S 3 (spMarksTold ec.F))) (Gmtr : HasR P w S.K mg base (L2.CX P w) 5 "marks_told" ["ring", "length", "number"] ["number", "length", "ring"] (spD S 3 (spMarksTold ec.F))) (Gpt : Has P w S.K mg base (L2.CX P w) 5 "place_told" ["ring", "length", "stretch"] (spD S 3 (spPlaceTold ec.F))) (Gptr : HasR P w S.K mg base (L2.CX P w) 5 "place_told" ["ring", "length", "stretch"] ["stretch", "length", "ring"] (spD S 3 (spPlaceTold ec.F))) : FnOkG P w S.K mg base L2.CX0 8 f fd ["box", "ring", "length"] (spD S 3 spNoneRight) := by
  have nd : nLawNoneRightN.Nodup := scLawNoneRight.nd
  obtain ⟨ge, fde, mge, Fe, be⟩ := ear.ex
  refine okDT (N := nLawNoneRightN) (k := 7) F hcode scLawNoneRight (hb := fun A outer s H E hr hgd => ?_)
  have hu3 : (A.deeper (envOfC "_law_none_right" (defScope sLawNoneRight) s.heap.objs.size f (.ref c))).units + 300 < cLine := by have := hr.un; omega
  have hu2 : (A.deeper (envOfC "_law_none_right" (defScope sLawNoneRight) s.heap.objs.size f (.ref c))).units + 200 < cLine := by have := hr.un; omega
  have hu65 : (A.deeper (envOfC "_law_none_right" (defScope sLawNoneRight) s.heap.objs.size f (.ref c))).units + 65 < cLine := by omega
  refine ⟨_, _, (pss_cons (ps_set (i := 3) nd rfl (Or.inr rfl) (pe_has Gp (hr.mono (by decide)) (by rfl) (pa_cons (pv 0) (pa_cons (pe_lst (pa_cons (pe_op op_sub pe_int pe_int) (pa_cons pe_int (pa_cons pe_non (pa_cons pe_bl (pa_cons pe_str pa_nil)))))) pa_nil))))
      (pss_cons (ps_set (i := 4) nd rfl (Or.inl rfl) (pe_lst (pa_cons (pe_lamV (ps := []) (lamN_by (sc := defScope sLawNoneRight) (by decide +kernel)) TB rfl (hmT _ (by rfl)) (hu _ (by rfl)) (by rfl)) pa_nil)))
      (pss_cons (ps_expr (pe_bm PySem.F.plainAttrs_list PySem.F.slot_list_append PySem.F.type_list_append mt_append (pv 4) (pa_cons (pe_lamV (ps := []) (lamN_by (sc := defScope sLawNoneRight) (by decide +kernel)) TB rfl (hmT _ (by rfl)) (hu _ (by rfl)) (by rfl)) pa_nil)))
      (pss_cons (ps_if (pt_cmpR (op_neD hr.units) (pe_lcI (own := [("ask", 5)]) (g := gName 5) rfl nd (pi_seq (pv 4)) (blkOk_by (N := nLawNoneRightN) (sc := defScope sLawNoneRight) (by decide +kernel)) (fun _ _ _ _ _ => (pg_name (i := 5) nd rfl (Or.inl rfl))) (fun _ _ _ _ _ _ _ O => (pts_one (pt_cmpR (op_neD hr.units) (pe_earV (X := (cxOf L2.CX0 P w S.K mg base nLawNoneRightN "_law_none_right" (defScope sLawNoneRight) f (.ref c) A outer s H E).nox) (k := 5) (i := 5) (vs := [5]) (TT := heardT _ ec) (t := (oddSp S ec.F)) O (by rfl) mge Fe be scHeard rfl (Or.inl rfl) (fun _ => heard_gives B ea hu3 hgd) (hr.mono (by decide)) (pv 5) (fun _ => rfl)) (pe_tup (pa_cons pe_str (pa_cons (pe_callB (r := rRepr _) (call_reprS hu2 hgd) (by rfl) B.repr (by decide +kernel) (pa_cons (pv 3) pa_nil)) pa_nil))) (nomark _))))) (pe_lst pa_nil) (nomark _)) (pss_one (ps_ret pe_bl)) pss_nil)
      (pss_cons (ps_set (i := 6) nd rfl (Or.inr rfl) (pe_has Gp (hr.mono (by decide)) (by rfl) (pa_cons (pv 0) (pa_cons (pe_lst (pa_cons pe_non (pa_cons (pe_tup pa_nil) (pa_cons (pe_tup (pa_cons pe_int (pa_cons pe_int pa_nil))) (pa_cons (pe_tup (pa_cons pe_int (pa_cons pe_int (pa_cons pe_int (pa_cons pe_int pa_nil))))) (pa_cons (pe_tup (pa_cons pe_int (pa_cons pe_int pa_nil))) (pa_cons (pe_tup (pa_cons pe_bl (pa_cons pe_int pa_nil))) (pa_cons pe_str (pa_cons pe_int pa_nil))))))))) pa_nil))))
      (pss_cons (ps_set (i := 4) nd rfl (Or.inl rfl) (pe_lst (pa_cons (pe_lamV (ps := []) (lamN_by (sc := defScope sLawNoneRight) (by decide +kernel)) TB rfl (hmT _ (by rfl)) (hu _ (by rfl)) (by rfl)) pa_nil)))
      (pss_cons (ps_expr (pe_bm PySem.F.plainAttrs_list PySem.F.slot_list_append PySem.F.type_list_append mt_append (pv 4) (pa_cons (pe_lamV (ps := []) (lamN_by (sc := defScope sLawNoneRight) (by decide +kernel)) TB rfl (hmT _ (by rfl)) (hu _ (by rfl)) (by rfl)) pa_nil)))
      (pss_cons (ps_if (pt_cmpR (op_neD hr.units) (pe_lcI (own := [("ask", 5)]) (g := gName 5) rfl nd (pi_seq (pv 4)) (blkOk_by (N := nLawNoneRightN) (sc := defScope sLawNoneRight) (by decide +kernel)) (fun _ _ _ _ _ => (pg_name (i := 5) nd rfl (Or.inl rfl))) (fun _ _ _ _ _ _ _ O => (pts_one (pt_cmpR (op_neD hr.units) (pe_earV (X := (cxOf L2.CX0 P w S.K mg base nLawNoneRightN "_law_none_right" (defScope sLawNoneRight) f (.ref c) A outer s H E).nox) (k := 5) (i := 5) (vs := [5]) (TT := heardT _ ec) (t := (badSp S ec.F)) O (by rfl) mge Fe be scHeard rfl (Or.inl rfl) (fun _ => heard_gives B ea hu3 hgd) (hr.mono (by decide)) (pv 5) (fun _ => rfl)) (pe_tup (pa_cons pe_str (pa_cons (pe_callB (r := rRepr _) (call_reprS hu2 hgd) (by rfl) B.repr (by decide +kernel) (pa_cons (pv 6) pa_nil)) pa_nil))) (nomark _))))) (pe_lst pa_nil) (nomark _)) (pss_one (ps_ret pe_bl)) pss_nil)
      (C8.pss_cut (ps_set (i := 7) nd rfl (Or.inr rfl) (pe_has Gp (hr.mono (by decide)) (by rfl) (pa_cons (pv 0) (pa_cons (pe_lst (pa_cons (pe_op op_sub pe_int pe_int) (pa_cons pe_non (pa_cons pe_bl (pa_cons pe_str pa_nil))))) pa_nil))))
      (C8.pss_cut (ps_if (pt_cmpR (op_neD hr.units) (pe_lamG (TT := heardT _ ec) (k := 5) (by rfl) mge Fe be scHeard rfl (Or.inl rfl) (fun _ => heard_gives B ea hu3 hgd) TB rfl (hmT _ (by rfl)) (hu _ (by rfl)) (hr.mono (by decide)) (lamN_by (sc := defScope sLawNoneRight) (by decide +kernel)) (by rfl) (fun _ _ _ _ _ => rfl) (BodyOk.of fun A2 outer2 s2 H2 E2 f2 c2 hr2 => (pe_hasX (E := E2) Gmt (hr2.mono (by decide)) (takes_of rfl rfl rfl rfl) (fun _ _ _ _ z => z) (by rfl) (pa_cons (pv 1) (pa_cons (pv 2) (pa_cons (pv 7) pa_nil)))))) (pe_tup (pa_cons pe_str (pa_cons (pe_callB (r := rRepr _) (call_reprS hu2 hgd) (by rfl) B.repr (by decide +kernel) (pa_cons (pv 7) pa_nil)) pa_nil))) (nomark _)) (pss_one (ps_ret pe_bl)) pss_nil)
      (C8.pss_cut (ps_set (i := 7) nd rfl (Or.inr rfl) (pe_has Gp (hr.mono (by decide)) (by rfl) (pa_cons (pv 0) (pa_cons (pe_lst (pa_cons pe_non (pa_cons (pe_op op_times (pe_tup (pa_cons pe_int pa_nil)) (pe_op op_addA (pv 2) pe_int)) (pa_cons (pe_op op_times (pe_tup (pa_cons pe_non pa_nil)) (pe_op op_addA (pv 2) pe_int)) (pa_cons (pe_op op_timesS pe_str (pv 2)) (pa_cons pe_int pa_nil)))))) pa_nil))))
      (C8.pss_cut (ps_if (pt_cmpR (op_neD hr.units) (pe_lamG (TT := heardT _ ec) (k := 5) (by rfl) mge Fe be scHeard rfl (Or.inl rfl) (fun _ => heard_gives B ea hu3 hgd) TB rfl (hmT _ (by rfl)) (hu _ (by rfl)) (hr.mono (by decide)) (lamN_by (sc := defScope sLawNoneRight) (by decide +kernel)) (by rfl) (fun _ _ _ _ _ => rfl) (BodyOk.of fun A2 outer2 s2 H2 E2 f2 c2 hr2 => (pe_hasX (E := E2) Gpt (hr2.mono (by decide)) (takes_of rfl rfl rfl rfl) (fun _ _ _ _ z => z) (by rfl) (pa_cons (pv 1) (pa_cons (pv 2) (pa_cons (pv 7) pa_nil)))))) (pe_tup (pa_cons pe_str (pa_cons (pe_callB (r := rRepr _) (call_reprS hu2 hgd) (by rfl) B.repr (by decide +kernel) (pa_cons (pv 7) pa_nil)) pa_nil))) (nomark _)) (pss_one (ps_ret pe_bl)) pss_nil)
      (pss_cons (ps_set (i := 9) nd rfl (Or.inl rfl) (pe_callTy (r := rTupOf _) tupOf (by rfl) B.tuple boot_tuple (pa_cons (pe_lc (own := [("mark", 8)]) (g := gName 8) (tt := tYes) rfl nd (pi_range1 (by rfl) B.range (pa_cons (pv 2) pa_nil)) (blkOk_by (N := nLawNoneRightN) (sc := defScope sLawNoneRight) (by decide +kernel)) (fun _ _ _ _ _ => (pg_name (i := 8) nd rfl (Or.inl rfl))) (fun _ _ _ _ _ => pts_nil) (fun _ _ _ _ _ => (pe_op op_addA pe_int (pe_has Gt (hr.mono (by decide)) (by rfl) (pa_cons (pv 0) (pa_cons pe_int pa_nil)))))) pa_nil)))
      (pss_one (ps_ret (pe_or (pe_cmpR (op_eqD hr.units) (pv 2) pe_int (nomark _)) (pe_one (pe_cmpR op_isN (pe_hasN Gpt (hr.mono (by decide)) (by rfl) (pa_cons (pv 1) (pa_cons (pv 2) (pa_cons (pv 9) pa_nil)))) pe_non (nomark _))))))))))))))))))),
      (ls_seq (ls_set (i := 3) (le_call0 (la_cons le_var (la_cons (LO.le (lo_lst (la_cons (le_op l2_sub le_int le_int) (la_cons le_int (la_cons le_non (la_cons le_bl (la_cons le_str la_nil))))) (by decide))) la_nil))))
      (ls_lams (W := (lamT (cxOf L2.CX0 P w S.K mg base nLawNoneRightN "_law_none_right" (defScope sLawNoneRight) f (.ref c) A outer s H E).nox 5 (oddSp S ec.F))) (i := 4) (lb_app (lb_done (ls_seq (ls_if (lt_test (le_op l2_ne (LO.le (lo_lcI (W := (lamT (cxOf L2.CX0 P w S.K mg base nLawNoneRightN "_law_none_right" (defScope sLawNoneRight) f (.ref c) A outer s H E).nox 5 (oddSp S ec.F))) (i := 4) (j := 5) (lti_earCmp (lh_heard (c := ec)) (fun _ => (le_call (la_cons le_var (la_cons le_var la_nil)))) l2_ne (le_tup (la_cons le_str (la_cons (le_cb lc_repr (la_cons le_var la_nil)) la_nil)) (by decide))))) (LO.le (lo_lst la_nil (by decide))))) (ls_ret le_bl) ls_next)
      (ls_seq (ls_set (i := 6) (le_call0 (la_cons le_var (la_cons (LO.le (lo_lst (la_cons le_non (la_cons (le_tup la_nil (by decide)) (la_cons (le_tup (la_cons le_int (la_cons le_int la_nil)) (by decide)) (la_cons (le_tup (la_cons le_int (la_cons le_int (la_cons le_int (la_cons le_int la_nil)))) (by decide)) (la_cons (le_tup (la_cons le_int (la_cons le_int la_nil)) (by decide)) (la_cons (le_tup (la_cons le_bl (la_cons le_int la_nil)) (by decide)) (la_cons le_str (la_cons le_int la_nil)))))))) (by decide))) la_nil))))
      (ls_lams (W := (lamT (cxOf L2.CX0 P w S.K mg base nLawNoneRightN "_law_none_right" (defScope sLawNoneRight) f (.ref c) A outer s H E).nox 5 (badSp S ec.F))) (i := 4) (lb_app (lb_done (ls_seq (ls_if (lt_test (le_op l2_ne (LO.le (lo_lcI (W := (lamT (cxOf L2.CX0 P w S.K mg base nLawNoneRightN "_law_none_right" (defScope sLawNoneRight) f (.ref c) A outer s H E).nox 5 (badSp S ec.F))) (i := 4) (j := 5) (lti_earCmp (lh_heard (c := ec)) (fun _ => (le_call (la_cons le_var la_nil))) l2_ne (le_tup (la_cons le_str (la_cons (le_cb lc_repr (la_cons le_var la_nil)) la_nil)) (by decide))))) (LO.le (lo_lst la_nil (by decide))))) (ls_ret le_bl) ls_next)
      (ls_cut (ls_set (i := 7) (le_call0 (la_cons le_var (la_cons (LO.le (lo_lst (la_cons (le_op l2_sub le_int le_int) (la_cons le_non (la_cons le_bl (la_cons le_str la_nil)))) (by decide))) la_nil))))
      (ls_cut (ls_if (lt_test (le_op l2_ne (le_lamG (lh_heard (c := ec)) (fun _ => (le_call (la_cons le_var (la_cons le_var (la_cons le_var la_nil)))))) (le_tup (la_cons le_str (la_cons (le_cb lc_repr (la_cons le_var la_nil)) la_nil)) (by decide)))) (ls_ret le_bl) ls_next)
      (ls_cut (ls_set (i := 7) (le_call0 (la_cons le_var (la_cons (LO.le (lo_lst (la_cons le_non (la_cons (le_op l2_times (le_tup (la_cons le_int la_nil) (by decide)) (le_op l2_add le_var le_int)) (la_cons (le_op l2_times (le_tup (la_cons le_non la_nil) (by decide)) (le_op l2_add le_var le_int)) (la_cons (le_op l2_timesS le_str le_var) (la_cons le_int la_nil))))) (by decide))) la_nil))))
      (ls_cut (ls_if (lt_test (le_op l2_ne (le_lamG (lh_heard (c := ec)) (fun _ => (le_call (la_cons le_var (la_cons le_var (la_cons le_var la_nil)))))) (le_tup (la_cons le_str (la_cons (le_cb lc_repr (la_cons le_var la_nil)) la_nil)) (by decide)))) (ls_ret le_bl) ls_next)
      (ls_seq (ls_set (i := 9) (le_cb lc_tuple (la_cons (LO.le (lo_lc (g := .one 8) (li_range1 (la_cons le_var la_nil)) lt_yes (le_op l2_add le_int (le_call0 (la_cons le_var (la_cons le_int la_nil)))))) la_nil)))
      (ls_ret (le_orV (le_op l2_eq le_var le_int) (le_op l2_isN (le_call0 (la_cons le_var (la_cons le_var (la_cons le_var la_nil)))) le_non)))))))))) (by decide) (fun F f cc h1 h2 => ⟨_, _, _, cc, h1, h2, lamN_by (sc := defScope sLawNoneRight) (by decide +kernel), fun _ _ _ _ _ => rfl, fun A2 outer2 s2 H2 E2 f2 c2 hr2 => PE.mono (pe_hasX (E := E2) Gpt (hr2.mono (by decide)) (takes_of rfl rfl rfl rfl) (fun _ _ _ _ z => z) (by rfl) (pa_cons (pv 6) (pa_cons pe_int (pa_cons pe_non pa_nil)))) (fun σ H Q ⟨a, ga, z⟩ => ⟨a, ga, b_place z⟩)⟩)) (fun F f cc h1 h2 => ⟨_, _, _, cc, h1, h2, lamN_by (sc := defScope sLawNoneRight) (by decide +kernel), fun _ _ _ _ _ => rfl, fun A2 outer2 s2 H2 E2 f2 c2 hr2 => PE.mono (pe_hasX (E := E2) Gmt (hr2.mono (by decide)) (takes_of rfl rfl rfl rfl) (fun _ _ _ _ z => z) (by rfl) (pa_cons (pv 6) (pa_cons pe_int (pa_cons pe_non pa_nil)))) (fun σ H Q ⟨a, ga, z⟩ => ⟨a, ga, b_marks z⟩)⟩))))) (by decide) (fun F f cc h1 h2 => ⟨_, _, _, cc, h1, h2, lamN_by (sc := defScope sLawNoneRight) (by decide +kernel), fun _ _ _ _ _ => rfl, fun A2 outer2 s2 H2 E2 f2 c2 hr2 => PE.mono (pe_hasX (E := E2) Gpt (hr2.mono (by decide)) (takes_of rfl rfl rfl rfl) (fun _ _ _ _ z => z) (by rfl) (pa_cons pe_non (pa_cons (pv 3) (pa_cons pe_non pa_nil)))) (fun σ H Q ⟨a, ga, b, gb, z⟩ => ⟨b, gb, o_place z⟩)⟩)) (fun F f cc h1 h2 => ⟨_, _, _, cc, h1, h2, lamN_by (sc := defScope sLawNoneRight) (by decide +kernel), fun _ _ _ _ _ => rfl, fun A2 outer2 s2 H2 E2 f2 c2 hr2 => PE.mono (pe_hasX (E := E2) Gmt (hr2.mono (by decide)) (takes_of rfl rfl rfl rfl) (fun _ _ _ _ z => z) (by rfl) (pa_cons (pv 1) (pa_cons (pv 3) (pa_cons pe_non pa_nil)))) (fun σ H Q ⟨a, ga, b, gb, z⟩ => ⟨a, ga, b, gb, o_marks z⟩)⟩))), fun ds Qd Ed hl h => ?_⟩
  obtain ⟨r, l, rfl, R, l1, l3, h⟩ := h
  generalize lamT (cxOf L2.CX0 P w S.K mg base nLawNoneRightN "_law_none_right" (defScope sLawNoneRight) f (.ref c) A outer s H E).nox 5 (oddSp S ec.F) = W1
  generalize lamT (cxOf L2.CX0 P w S.K mg base nLawNoneRightN "_law_none_right" (defScope sLawNoneRight) f (.ref c) A outer s H E).nox 5 (badSp S ec.F) = W2
  simp only [dOf, dVar, dC, dOp, dUn, dNil, dCons, pys, dTup, oLst, dCB, oCB, dCall, dCall0, dCallR, fAdd, oOp, fCat, fInt, fIntC, fNeg, fEq, isNonD, fIsN, fIn, fIx, dTest, dAnd, dOr, dNot, dAndV, dOrV, dNotV, dIfE, dChain, dFld, dNext, dSeq, dRet, dRetN, dDrop, dIfS, dBreak, dCont, dSet, dSetO, setAll, dSetT, dPar, itSeq, itRange1, itRange2, itEnum, Tg.put, Tg.ix, dFor, wipeL, dYes, oLc, dAppend, dPutIx, dFreeze, unown, hasOwn, noLD, okL, dSnap, dSnapT, dRaise, startD, dNoPart, dPart, dSl, oSl, fLen, fInt1, fAbs, fInt2, fDivmod, fTuple, fList, fSorted, oSortedSet, fRepr, fAll, fSum, isIntD, isBoolD, isStrD, isTupD, isSeqD, fIsT, dIsLT, dAug, dPutF, dFldI, dMake, startI, putD, dTupRev, dNewBox, dBoxPut, fRep, fEqS, oListRg, dPair, dWork, dSetA, fTimes, fIsOwn, fEqOwn, oSetC, dExtend, dPairO, oSnap, oSetJ, fInT, oSortedSetB, dMakeK, dLenSet, fNotB, fTimesS, itDown, dFive, dEarV, oLcI, dHeard, nLawNoneRightN, List.map, List.cons_append, List.nil_append, List.append_eq, List.getElem?_cons_zero, List.getElem?_cons_succ, List.set_cons_zero, List.set_cons_succ, List.lookup_cons, List.lookup_nil, List.length_cons, List.length_nil, Nat.reduceAdd, Nat.reduceSub, List.replicate]
  refine ⟨_, rfl, by show 1 ≤ 5; decide, by show 5 < _; decide, fun u hu => ?_⟩
  obtain ⟨tu, nu⟩ := odd_of hu
  have it : itemsD (.tuple (r.map .int)) = r.map PyData.int := rfl
  have r64 : (itemsD (.tuple (r.map .int))).length ≤ 64 := by
    rw [it, List.length_map]
    exact R.r8
  refine ⟨⟨rfl, by show 4 < 10; decide⟩, 2, rfl, by show 5 < 10; decide, turnsL_ind ?_ (fun K hK => ?_) 2⟩
  rotate_left
  · simp only [dOf, dVar, dC, dOp, dUn, dNil, dCons, pys, dTup, oLst, dCB, oCB, dCall, dCall0, dCallR, fAdd, oOp, fCat, fInt, fIntC, fNeg, fEq, isNonD, fIsN, fIn, fIx, dTest, dAnd, dOr, dNot, dAndV, dOrV, dNotV, dIfE, dChain, dFld, dNext, dSeq, dRet, dRetN, dDrop, dIfS, dBreak, dCont, dSet, dSetO, setAll, dSetT, dPar, itSeq, itRange1, itRange2, itEnum, Tg.put, Tg.ix, dFor, wipeL, dYes, oLc, dAppend, dPutIx, dFreeze, unown, hasOwn, noLD, okL, dSnap, dSnapT, dRaise, startD, dNoPart, dPart, dSl, oSl, fLen, fInt1, fAbs, fInt2, fDivmod, fTuple, fList, fSorted, oSortedSet, fRepr, fAll, fSum, isIntD, isBoolD, isStrD, isTupD, isSeqD, fIsT, dIsLT, dAug, dPutF, dFldI, dMake, startI, putD, dTupRev, dNewBox, dBoxPut, fRep, fEqS, oListRg, dPair, dWork, dSetA, fTimes, fIsOwn, fEqOwn, oSetC, dExtend, dPairO, oSnap, oSetJ, fInT, oSortedSetB, dMakeK, dLenSet, fNotB, fTimesS, itDown, dFive, dEarV, oLcI, dHeard, List.map, List.cons_append, List.nil_append, List.append_eq, List.getElem?_cons_zero, List.getElem?_cons_succ, List.set_cons_zero, List.set_cons_succ, List.lookup_cons, List.lookup_nil]
    exact ⟨trivial, .tuple (r.map .int), u, rfl, r64, nu, .inr ⟨rfl, rfl, u, rfl, tu.1, tu.1, shp_told2 chars_refused tu.2, shp_told2 chars_refused tu.2, by rw [eqv_told2]; rfl, hK⟩⟩
  simp only [dOf, dVar, dC, dOp, dUn, dNil, dCons, pys, dTup, oLst, dCB, oCB, dCall, dCall0, dCallR, fAdd, oOp, fCat, fInt, fIntC, fNeg, fEq, isNonD, fIsN, fIn, fIx, dTest, dAnd, dOr, dNot, dAndV, dOrV, dNotV, dIfE, dChain, dFld, dNext, dSeq, dRet, dRetN, dDrop, dIfS, dBreak, dCont, dSet, dSetO, setAll, dSetT, dPar, itSeq, itRange1, itRange2, itEnum, Tg.put, Tg.ix, dFor, wipeL, dYes, oLc, dAppend, dPutIx, dFreeze, unown, hasOwn, noLD, okL, dSnap, dSnapT, dRaise, startD, dNoPart, dPart, dSl, oSl, fLen, fInt1, fAbs, fInt2, fDivmod, fTuple, fList, fSorted, oSortedSet, fRepr, fAll, fSum, isIntD, isBoolD, isStrD, isTupD, isSeqD, fIsT, dIsLT, dAug, dPutF, dFldI, dMake, startI, putD, dTupRev, dNewBox, dBoxPut, fRep, fEqS, oListRg, dPair, dWork, dSetA, fTimes, fIsOwn, fEqOwn, oSetC, dExtend, dPairO, oSnap, oSetJ, fInT, oSortedSetB, dMakeK, dLenSet, fNotB, fTimesS, itDown, dFive, dEarV, oLcI, dHeard, List.map, List.cons_append, List.nil_append, List.append_eq, List.getElem?_cons_zero, List.getElem?_cons_succ, List.set_cons_zero, List.set_cons_succ, List.lookup_cons, List.lookup_nil]
  refine ⟨rfl, rfl, iteF2 (by decide) ?_⟩
  refine ⟨_, rfl, by show 1 ≤ 8; decide, by show 8 < _; decide, fun v hv => ?_⟩
  obtain ⟨tv, bv, v64⟩ := bad_of hv
  refine ⟨⟨rfl, by show 4 < 10; decide⟩, 2, rfl, by show 5 < 10; decide, turnsL_ind ?_ (fun K hK => ?_) 2⟩
  rotate_left
  · simp only [dOf, dVar, dC, dOp, dUn, dNil, dCons, pys, dTup, oLst, dCB, oCB, dCall, dCall0, dCallR, fAdd, oOp, fCat, fInt, fIntC, fNeg, fEq, isNonD, fIsN, fIn, fIx, dTest, dAnd, dOr, dNot, dAndV, dOrV, dNotV, dIfE, dChain, dFld, dNext, dSeq, dRet, dRetN, dDrop, dIfS, dBreak, dCont, dSet, dSetO, setAll, dSetT, dPar, itSeq, itRange1, itRange2, itEnum, Tg.put, Tg.ix, dFor, wipeL, dYes, oLc, dAppend, dPutIx, dFreeze, unown, hasOwn, noLD, okL, dSnap, dSnapT, dRaise, startD, dNoPart, dPart, dSl, oSl, fLen, fInt1, fAbs, fInt2, fDivmod, fTuple, fList, fSorted, oSortedSet, fRepr, fAll, fSum, isIntD, isBoolD, isStrD, isTupD, isSeqD, fIsT, dIsLT, dAug, dPutF, dFldI, dMake, startI, putD, dTupRev, dNewBox, dBoxPut, fRep, fEqS, oListRg, dPair, dWork, dSetA, fTimes, fIsOwn, fEqOwn, oSetC, dExtend, dPairO, oSnap, oSetJ, fInT, oSortedSetB, dMakeK, dLenSet, fNotB, fTimesS, itDown, dFive, dEarV, oLcI, dHeard, List.map, List.cons_append, List.nil_append, List.append_eq, List.getElem?_cons_zero, List.getElem?_cons_succ, List.set_cons_zero, List.set_cons_succ, List.lookup_cons, List.lookup_nil]
    exact ⟨trivial, v, rfl, v64, bv, .inr ⟨rfl, rfl, v, rfl, tv.1, tv.1, shp_told2 chars_refused tv.2, shp_told2 chars_refused tv.2, by rw [eqv_told2]; rfl, hK⟩⟩
  refine ⟨rfl, rfl, iteF2 (by decide) ?_⟩
  clear hu hv
  refine cut_seq ?_
  simp only [dOf, dVar, dC, dOp, dUn, dNil, dCons, pys, dTup, oLst, dCB, oCB, dCall, dCall0, dCallR, fAdd, oOp, fCat, fInt, fIntC, fNeg, fEq, isNonD, fIsN, fIn, fIx, dTest, dAnd, dOr, dNot, dAndV, dOrV, dNotV, dIfE, dChain, dFld, dNext, dSeq, dRet, dRetN, dDrop, dIfS, dBreak, dCont, dSet, dSetO, setAll, dSetT, dPar, itSeq, itRange1, itRange2, itEnum, Tg.put, Tg.ix, dFor, wipeL, dYes, oLc, dAppend, dPutIx, dFreeze, unown, hasOwn, noLD, okL, dSnap, dSnapT, dRaise, startD, dNoPart, dPart, dSl, oSl, fLen, fInt1, fAbs, fInt2, fDivmod, fTuple, fList, fSorted, oSortedSet, fRepr, fAll, fSum, isIntD, isBoolD, isStrD, isTupD, isSeqD, fIsT, dIsLT, dAug, dPutF, dFldI, dMake, startI, putD, dTupRev, dNewBox, dBoxPut, fRep, fEqS, oListRg, dPair, dWork, dSetA, fTimes, fIsOwn, fEqOwn, oSetC, dExtend, dPairO, oSnap, oSetJ, fInT, oSortedSetB, dMakeK, dLenSet, fNotB, fTimesS, itDown, dFive, dEarV, oLcI, dHeard, List.map, List.cons_append, List.nil_append, List.append_eq, List.getElem?_cons_zero, List.getElem?_cons_succ, List.set_cons_zero, List.set_cons_succ, List.lookup_cons, List.lookup_nil]
  refine ⟨_, rfl, by show 1 ≤ 4; decide, by show 4 < _; decide, fun x hx => ?_⟩
  obtain ⟨tx, nx⟩ := none1_of hx
  have nat1 : ∀ l' : Nat, PyData.int (l : Nat) = .int (l' : Nat) → l' = l := fun l' e => by have := PyData.int.inj e; omega
  have len0 : numD (.int (l : Nat)) 0 (some 12) = false → False := fun z => by simp [numD] at z; omega
  refine cut_check ?_ ?_
  · simp only [dOf, dVar, dC, dOp, dUn, dNil, dCons, pys, dTup, oLst, dCB, oCB, dCall, dCall0, dCallR, fAdd, oOp, fCat, fInt, fIntC, fNeg, fEq, isNonD, fIsN, fIn, fIx, dTest, dAnd, dOr, dNot, dAndV, dOrV, dNotV, dIfE, dChain, dFld, dNext, dSeq, dRet, dRetN, dDrop, dIfS, dBreak, dCont, dSet, dSetO, setAll, dSetT, dPar, itSeq, itRange1, itRange2, itEnum, Tg.put, Tg.ix, dFor, wipeL, dYes, oLc, dAppend, dPutIx, dFreeze, unown, hasOwn, noLD, okL, dSnap, dSnapT, dRaise, startD, dNoPart, dPart, dSl, oSl, fLen, fInt1, fAbs, fInt2, fDivmod, fTuple, fList, fSorted, oSortedSet, fRepr, fAll, fSum, isIntD, isBoolD, isStrD, isTupD, isSeqD, fIsT, dIsLT, dAug, dPutF, dFldI, dMake, startI, putD, dTupRev, dNewBox, dBoxPut, fRep, fEqS, oListRg, dPair, dWork, dSetA, fTimes, fIsOwn, fEqOwn, oSetC, dExtend, dPairO, oSnap, oSetJ, fInT, oSortedSetB, dMakeK, dLenSet, fNotB, fTimesS, itDown, dFive, dEarV, oLcI, dHeard, List.map, List.cons_append, List.nil_append, List.append_eq, List.getElem?_cons_zero, List.getElem?_cons_succ, List.set_cons_zero, List.set_cons_succ, List.lookup_cons, List.lookup_nil]
    refine ⟨.tuple (r.map .int), .int (l : Nat), x, rfl, r64, fun z => (len0 z).elim, fun l' e _ => ?_⟩
    rw [nat1 l' e]
    refine ⟨fun z => (by rw [ring_t R] at z; cases z), fun _ => ⟨fun _ => ?_, fun n e => no_of nx (by rw [e]; simp [numD])⟩⟩
    exact .inr ⟨rfl, rfl, x, rfl, tx.1, tx.1, shp_told2 chars_refused tx.2, shp_told2 chars_refused tx.2, iteF2 (by rw [eqv_told2]; decide) trivial⟩
  clear hx
  refine ⟨fun ρ => ∃ y : PyData, (Told y ∧ marksB l y = false) ∧ ρ = [some (SV.dv .box), some (SV.dv (.tup (r.map .int))), some (SV.dv (.int (l : Nat))), some (SV.dv (.py u)), some (SV.dv (.lams W2 2)), none, some (SV.dv (.py v)), some (SV.dv (.py y)), none, none], ?_, ?_⟩
  · simp only [dOf, dVar, dC, dOp, dUn, dNil, dCons, pys, dTup, oLst, dCB, oCB, dCall, dCall0, dCallR, fAdd, oOp, fCat, fInt, fIntC, fNeg, fEq, isNonD, fIsN, fIn, fIx, dTest, dAnd, dOr, dNot, dAndV, dOrV, dNotV, dIfE, dChain, dFld, dNext, dSeq, dRet, dRetN, dDrop, dIfS, dBreak, dCont, dSet, dSetO, setAll, dSetT, dPar, itSeq, itRange1, itRange2, itEnum, Tg.put, Tg.ix, dFor, wipeL, dYes, oLc, dAppend, dPutIx, dFreeze, unown, hasOwn, noLD, okL, dSnap, dSnapT, dRaise, startD, dNoPart, dPart, dSl, oSl, fLen, fInt1, fAbs, fInt2, fDivmod, fTuple, fList, fSorted, oSortedSet, fRepr, fAll, fSum, isIntD, isBoolD, isStrD, isTupD, isSeqD, fIsT, dIsLT, dAug, dPutF, dFldI, dMake, startI, putD, dTupRev, dNewBox, dBoxPut, fRep, fEqS, oListRg, dPair, dWork, dSetA, fTimes, fIsOwn, fEqOwn, oSetC, dExtend, dPairO, oSnap, oSetJ, fInT, oSortedSetB, dMakeK, dLenSet, fNotB, fTimesS, itDown, dFive, dEarV, oLcI, dHeard, List.map, List.cons_append, List.nil_append, List.append_eq, List.getElem?_cons_zero, List.getElem?_cons_succ, List.set_cons_zero, List.set_cons_succ, List.lookup_cons, List.lookup_nil]
    exact ⟨⟨by decide, by decide⟩, ⟨by omega, by omega⟩, ⟨by decide, by decide⟩, ⟨by omega, by omega⟩, ⟨by decide +kernel, by omega, by omega, times_len l1 l3⟩, _, rfl, by show 1 ≤ 5; decide, by show 5 < _; decide, fun d hd => ⟨d, none2_of l1 l3 hd, rfl⟩⟩
  · rintro ρ ⟨y, ⟨ty, my⟩, rfl⟩
    refine cut_check ?_ ?_
    · simp only [dOf, dVar, dC, dOp, dUn, dNil, dCons, pys, dTup, oLst, dCB, oCB, dCall, dCall0, dCallR, fAdd, oOp, fCat, fInt, fIntC, fNeg, fEq, isNonD, fIsN, fIn, fIx, dTest, dAnd, dOr, dNot, dAndV, dOrV, dNotV, dIfE, dChain, dFld, dNext, dSeq, dRet, dRetN, dDrop, dIfS, dBreak, dCont, dSet, dSetO, setAll, dSetT, dPar, itSeq, itRange1, itRange2, itEnum, Tg.put, Tg.ix, dFor, wipeL, dYes, oLc, dAppend, dPutIx, dFreeze, unown, hasOwn, noLD, okL, dSnap, dSnapT, dRaise, startD, dNoPart, dPart, dSl, oSl, fLen, fInt1, fAbs, fInt2, fDivmod, fTuple, fList, fSorted, oSortedSet, fRepr, fAll, fSum, isIntD, isBoolD, isStrD, isTupD, isSeqD, fIsT, dIsLT, dAug, dPutF, dFldI, dMake, startI, putD, dTupRev, dNewBox, dBoxPut, fRep, fEqS, oListRg, dPair, dWork, dSetA, fTimes, fIsOwn, fEqOwn, oSetC, dExtend, dPairO, oSnap, oSetJ, fInT, oSortedSetB, dMakeK, dLenSet, fNotB, fTimesS, itDown, dFive, dEarV, oLcI, dHeard, List.map, List.cons_append, List.nil_append, List.append_eq, List.getElem?_cons_zero, List.getElem?_cons_succ, List.set_cons_zero, List.set_cons_succ, List.lookup_cons, List.lookup_nil]
      refine ⟨.tuple (r.map .int), .int (l : Nat), y, rfl, r64, fun z => (len0 z).elim, fun l' e _ => ?_⟩
      rw [nat1 l' e]
      refine ⟨fun z => (by rw [ring_t R] at z; cases z), fun _ => ⟨fun _ => ?_, fun z => (by rw [my] at z; cases z)⟩⟩
      exact .inr ⟨rfl, rfl, y, rfl, ty.1, ty.1, shp_told2 chars_refused ty.2, shp_told2 chars_refused ty.2, iteF2 (by rw [eqv_told2]; decide) trivial⟩
    simp only [dOf, dVar, dC, dOp, dUn, dNil, dCons, pys, dTup, oLst, dCB, oCB, dCall, dCall0, dCallR, fAdd, oOp, fCat, fInt, fIntC, fNeg, fEq, isNonD, fIsN, fIn, fIx, dTest, dAnd, dOr, dNot, dAndV, dOrV, dNotV, dIfE, dChain, dFld, dNext, dSeq, dRet, dRetN, dDrop, dIfS, dBreak, dCont, dSet, dSetO, setAll, dSetT, dPar, itSeq, itRange1, itRange2, itEnum, Tg.put, Tg.ix, dFor, wipeL, dYes, oLc, dAppend, dPutIx, dFreeze, unown, hasOwn, noLD, okL, dSnap, dSnapT, dRaise, startD, dNoPart, dPart, dSl, oSl, fLen, fInt1, fAbs, fInt2, fDivmod, fTuple, fList, fSorted, oSortedSet, fRepr, fAll, fSum, isIntD, isBoolD, isStrD, isTupD, isSeqD, fIsT, dIsLT, dAug, dPutF, dFldI, dMake, startI, putD, dTupRev, dNewBox, dBoxPut, fRep, fEqS, oListRg, dPair, dWork, dSetA, fTimes, fIsOwn, fEqOwn, oSetC, dExtend, dPairO, oSnap, oSetJ, fInT, oSortedSetB, dMakeK, dLenSet, fNotB, fTimesS, itDown, dFive, dEarV, oLcI, dHeard, List.map, List.cons_append, List.nil_append, List.append_eq, List.getElem?_cons_zero, List.getElem?_cons_succ, List.set_cons_zero, List.set_cons_succ, List.lookup_cons, List.lookup_nil, take_eq]
    refine ⟨⟨by omega, by omega⟩, ?_⟩
    rw [Int.toNat_natCast]
    refine turns_any (fun d => ∃ x : Nat, 8 ≤ x ∧ x ≤ 10 ∧ d = .int (x : Nat)) (by rw [rangeD_len]; omega) (fun d hd => ⟨_, rfl, fun K kk => ?_⟩) (fun xs lx hp => ?_)
    · simp only [dOf, dVar, dC, dOp, dUn, dNil, dCons, pys, dTup, oLst, dCB, oCB, dCall, dCall0, dCallR, fAdd, oOp, fCat, fInt, fIntC, fNeg, fEq, isNonD, fIsN, fIn, fIx, dTest, dAnd, dOr, dNot, dAndV, dOrV, dNotV, dIfE, dChain, dFld, dNext, dSeq, dRet, dRetN, dDrop, dIfS, dBreak, dCont, dSet, dSetO, setAll, dSetT, dPar, itSeq, itRange1, itRange2, itEnum, Tg.put, Tg.ix, dFor, wipeL, dYes, oLc, dAppend, dPutIx, dFreeze, unown, hasOwn, noLD, okL, dSnap, dSnapT, dRaise, startD, dNoPart, dPart, dSl, oSl, fLen, fInt1, fAbs, fInt2, fDivmod, fTuple, fList, fSorted, oSortedSet, fRepr, fAll, fSum, isIntD, isBoolD, isStrD, isTupD, isSeqD, fIsT, dIsLT, dAug, dPutF, dFldI, dMake, startI, putD, dTupRev, dNewBox, dBoxPut, fRep, fEqS, oListRg, dPair, dWork, dSetA, fTimes, fIsOwn, fEqOwn, oSetC, dExtend, dPairO, oSnap, oSetJ, fInT, oSortedSetB, dMakeK, dLenSet, fNotB, fTimesS, itDown, dFive, dEarV, oLcI, dHeard, List.map, List.cons_append, List.nil_append, List.append_eq, List.getElem?_cons_zero, List.getElem?_cons_succ, List.set_cons_zero, List.set_cons_succ, List.lookup_cons, List.lookup_nil, take_eq]
      exact ⟨by decide, by decide, fun q hq => kk _ ⟨8 + q, by omega, by omega, by rw [Int.natCast_add]; rfl⟩⟩
    rw [rangeD_len] at lx
    obtain ⟨zs, rfl, hz⟩ := ints_ge hp
    rw [List.length_map] at lx
    have mb : marksB l (.tuple (zs.map .int)) = true := by
      unfold marksB
      rw [Bool.and_eq_true]
      constructor
      · simp [seqB, lx]
      · show (zs.map PyData.int).all _ = true
        rw [List.all_map, List.all_eq_true]
        intro z hz'
        have := hz z hz'
        show numD (.int z) 0 none = true
        simp [numD]
        omega
    have np : placeL r l (.tuple (zs.map .int)) = none := by
      unfold placeL
      rw [List.findIdx?_eq_none_iff]
      intro st hst
      obtain ⟨p, _, rfl⟩ := List.mem_map.mp hst
      show PyData.eqv (.tuple ((stretchL r l p).map .int)) (.tuple (zs.map .int)) = false
      rw [eqv_tuple_ints]
      refine decide_eq_false fun e => ?_
      cases zs with
      | nil => simp at lx; omega
      | cons z zs =>
        have h1 := hz z List.mem_cons_self
        have h2 := stretch_mem R z (by rw [e]; exact List.mem_cons_self)
        omega
    refine iteF2 (by rw [decide_eq_false (show ¬ (l : Int) = 0 by omega)]; decide) ?_
    refine ⟨.tuple (r.map .int), .int (l : Nat), .tuple (zs.map .int), rfl, r64, fun z => (len0 z).elim, fun l' e _ => ?_⟩
    rw [nat1 l' e]
    refine ⟨fun z => (by rw [ring_t R] at z; cases z), fun _ => ⟨fun z => (by rw [mb] at z; cases z), fun _ => ⟨shaped_tuple_ints zs, ?_⟩⟩⟩
    rw [show ringInts (.tuple (r.map .int)) = r from ringInts_map rfl, show itemsD (.tuple (zs.map .int)) = zs.map PyData.int from rfl, np]
    exact h

end
end Lw

set_option Elab.async false
set_option linter.all false
set_option maxRecDepth 100000
set_option maxHeartbeats 4000000
namespace Lw
open PySem PySem.Spec PyProof.Rows L2 Lx Dl Pg
section
variable {P : Program} {w : World} {mg : Str → Option Value} {base : Heap} {S : Sx}
variable {ec : EC}
/-- the ring that is found -/
def theRing (mk n : Nat) : List Int := if n = 1 then [0] else match leastS mk (n : Int) with
  | some sh => (ringF mk sh (n - sh) (List.replicate sh 0) [List.replicate sh 0]).getD []
  | none => []
theorem leastS_le {mk l sh : Nat} {s : Int} (h : leastS mk s = some sh) (hl : s ≤ ((mk ^ l : Nat) : Int)) : sh ≤ l := by
  unfold leastS at h
  rw [List.find?_range'_eq_some] at h
  apply Classical.byContradiction
  intro z
  have e := h.2.2 l (Nat.zero_le _) (by omega)
  rw [decide_eq_true hl] at e
  cases e
structure RingOk (mk l n : Nat) (r : List Int) : Prop where
  len : r.length = n
  ap : apartB r l = true
  mks : ∀ x ∈ r, 0 ≤ x ∧ x < (mk : Int)
theorem mks_few {mk : Nat} (hm : mk ∈ [1, 2, 3, 4, 5, 8]) : 1 ≤ mk ∧ mk ≤ 8 ∧ (mk = 1 ∨ mk ∈ [2, 3, 4, 5, 8]) := by
  simp only [List.mem_cons, List.not_mem_nil, or_false] at hm ⊢
  omega
theorem found_two {mk l n : Nat} (hm : mk ∈ [1, 2, 3, 4, 5, 8]) (n2 : 2 ≤ n) (n64 : n ≤ 64) (hn : n ≤ mk ^ l) : Found mk n := by
  rcases (mks_few hm).2.2 with rfl | z
  · rw [Nat.one_pow] at hn
    omega
  · exact found_all z n2 n64
theorem ring_ok {mk l n : Nat} (hm : mk ∈ [1, 2, 3, 4, 5, 8]) (n1 : 1 ≤ n) (n64 : n ≤ 64) (hn : n ≤ mk ^ l) : RingOk mk l n (theRing mk n) := by
  by_cases c : n = 1
  · subst c
    have e : theRing mk 1 = [0] := rfl
    rw [e]
    refine ⟨rfl, decide_eq_true (by simp), fun x hx => ?_⟩
    rw [List.mem_singleton] at hx
    subst hx
    have := (mks_few hm).1
    omega
  · obtain ⟨sh, r, h1, h2, h3, h4, h5, h6, h7, h8⟩ := found_two hm (by omega) n64 hn
    have e : theRing mk n = r := by
      unfold theRing
      rw [if_neg c, h1]
      show (ringF mk sh (n - sh) (List.replicate sh 0) [List.replicate sh 0]).getD [] = r
      rw [h5]
      rfl
    rw [e]
    exact ⟨h6, apart_more (leastS_le h1 (by omega)) h7, h8⟩
section
variable {CF CG : Addr} {Q : DV → Prop} {Ed : Er → Prop}
theorem ring_use {mk l n : Nat} (hm : mk ∈ [1, 2, 3, 4, 5, 8]) (l12 : l ≤ 12) (n1 : 1 ≤ n) (q1 : mk ^ l < n → Q .non) (q2 : n ≤ mk ^ l → 64 < n → Ed ⟨CG, "most", .int 64⟩) (q3 : n ≤ mk ^ l → n ≤ 64 → Q (.tup ((theRing mk n).map .int))) : spRingOf CF CG [.int (mk : Nat), .int (l : Nat), .int (n : Nat)] Q Ed := by
  have m1 := (mks_few hm).1
  have m8 := (mks_few hm).2.1
  refine ⟨_, _, _, rfl, fun z => ?_, fun _ => ⟨fun z => ?_, fun _ => ⟨fun z => ?_, fun mk' l' n' e1 e2 e3 _ _ _ _ => ⟨fun c => ?_, fun c => ⟨fun c2 => ?_, fun c3 => ?_, fun c3 c4 sh es s1 s2 s3 => ?_⟩⟩⟩⟩⟩
  · simp [numD] at z
    omega
  · simp [numD] at z
    omega
  · simp [numD] at z
    omega
  all_goals
    have e1 : mk = mk' := by have := PyData.int.inj e1; omega
    have e2 : l = l' := by have := PyData.int.inj e2; omega
    have e3 : n = n' := by have := PyData.int.inj e3; omega
    subst e1
    subst e2
    subst e3
  · exact q1 c
  · exact q2 c c2
  · have z := q3 c (by omega)
    subst c3
    exact z
  · have z := q3 c c4
    obtain ⟨sh', r, h1, h2, h3, h4, h5, h6, h7, h8⟩ := found_two hm c3 c4 c
    rw [es] at h1
    cases h1
    have e : theRing mk n = r := by
      unfold theRing
      rw [if_neg (by omega), es]
      show (ringF mk sh (n - sh) (List.replicate sh 0) [List.replicate sh 0]).getD [] = r
      rw [h5]
      rfl
    rw [h5]
    rw [e] at z
    exact z
end
def spLawD (S : Sx) : SpD := fun ds Q _ => ∃ ns : List Int, ds = [.scr S.K ns] ∧ Q (.bl true)
def nLawN : List Str := ["script", "box", "turn", "loss", "marks", "length", "size", "ring", "one", "rest"]
theorem scLaw : FnScope nLawN ["script"] (defScope sLaw) := ⟨rfl, rfl, rfl, by decide +kernel, rfl, by decide +kernel, by decide +kernel⟩
theorem ok_law {f : Addr} {fd : FuncData} (F : Fun S.K "law" "law" sLaw f fd) (B : Bare mg) (Gb : Has P w S.K mg base L2.CX0 1 "_law_box" ["script", "k"] (spD S 2 (spBoxOf S))) (Gt : Has P w S.K mg base L2.CX0 1 "_law_take" ["box", "many"] (spD S 2 spTake)) (Gtb : Has P w S.K mg base L2.CX0 3 "_law_tables" ["box", "most", "kinds"] (spD S 3 spLawTables)) (Gls : Has P w S.K mg base L2.CX0 1 "_law_stretch" ["ring", "length", "number"] (spD S 3 spLawStretch)) (Gro : Has P w S.K mg base (L2.CX P w) 70 "ring_of" ["marks", "length", "size"] (spD S 3 (spRingOf ec.F ec.G))) (Grr : HasG P w S.K mg base 7 "_law_run_right" ["script", "tables", "ring", "length", "loss"] (spD S 5 (spRunRight S))) (Gnr : HasG P w S.K mg base 8 "_law_none_right" ["box", "ring", "length"] (spD S 3 spNoneRight)) : FnOkG P w S.K mg base L2.CX0 71 f fd ["script"] (spD S 1 (spLawD S)) := by
  have nd : nLawN.Nodup := scLaw.nd
  refine okDG (N := nLawN) (k := 70) F scLaw (hb := fun cdv A outer s H E hr hgd => ?_)
  have hu2 : (A.deeper (envOfC "law" (defScope sLaw) s.heap.objs.size f cdv)).units + 200 < cLine := by have := hr.un; omega
  have hu65 : (A.deeper (envOfC "law" (defScope sLaw) s.heap.objs.size f cdv)).units + 65 < cLine := by omega
  refine ⟨_, _, (C8.pss_cut (ps_set (i := 1) nd rfl (Or.inl rfl) (pe_has Gb (hr.mono (by decide)) (by rfl) (pa_cons (pv 0) (pa_cons pe_int pa_nil))))
      (pss_cons (ps_for PassesOwn.never rfl (pi_range1 (by rfl) B.range (pa_cons pe_int pa_nil)) (pg_name (i := 2) nd rfl (Or.inl rfl))
      (C8.pss_cut (ps_par (i := 3) (j := 4) (by rfl) nd rfl rfl (by decide) rfl rfl (pa_cons (pe_op op_addA pe_int (pe_has Gt (hr.mono (by decide)) (by rfl) (pa_cons (pv 1) (pa_cons pe_int pa_nil)))) (pa_cons (pe_op op_addA pe_int (pe_has Gt (hr.mono (by decide)) (by rfl) (pa_cons (pv 1) (pa_cons pe_int pa_nil)))) pa_nil)) (by rfl))
      (C8.pss_cut (ps_set (i := 5) nd rfl (Or.inr rfl) (pe_op op_addA pe_int (pe_has Gt (hr.mono (by decide)) (by rfl) (pa_cons (pv 1) (pa_cons pe_int pa_nil)))))
      (C8.pss_cut (ps_set (i := 6) nd rfl (Or.inr rfl) (pe_op op_addA (pe_op op_addA (pv 3) pe_int) (pe_has Gt (hr.mono (by decide)) (by rfl) (pa_cons (pv 1) (pa_cons pe_int pa_nil)))))
      (C8.pss_cut (ps_set (i := 7) nd rfl (Or.inr rfl) (pe_hasN Gro (hr.mono (by decide)) (by rfl) (pa_cons (pv 4) (pa_cons (pv 5) (pa_cons (pv 6) pa_nil)))))
      (C8.pss_cut (ps_if (pt_cmpR op_isN (pv 7) pe_non (nomark _)) (pss_one ps_continue) pss_nil)
      (C8.pss_cut (ps_if (PW.pt (pw_or (pt_not (pt_val (pe_hasG Grr (hr.mono (by decide)) hgd (by rfl) (pa_cons (pv 0) (pa_cons (pe_has Gtb (hr.mono (by decide)) (by rfl) (pa_cons (pv 1) (pa_cons pe_int (pa_cons pe_int pa_nil)))) (pa_cons (pv 7) (pa_cons (pv 5) (pa_cons (pv 3) pa_nil)))))))) (pw_or1 (pt_not (pt_val (pe_hasG Gnr (hr.mono (by decide)) hgd (by rfl) (pa_cons (pv 1) (pa_cons (pv 7) (pa_cons (pv 5) pa_nil))))))))) (pss_one (ps_ret pe_bl)) pss_nil)
      (C8.pss_cut (ps_setLc (i := 9) (own := [("one", 8)]) (g := gName 8) rfl nd rfl rfl (sw_true rfl rfl rfl (by decide +kernel)) (pi_range1 (by rfl) B.range (pa_cons (pv 6) pa_nil)) (blkOk_by (N := nLawN) (sc := defScope sLaw) (by decide +kernel)) (fun _ _ _ _ _ => (pg_name (i := 8) nd rfl (Or.inl rfl))) (fun _ _ _ _ _ => (pts_one (pt_cmpR (op_eqD hr.units) (pe_has Gls (hr.mono (by decide)) (by rfl) (pa_cons (pv 7) (pa_cons (pv 5) (pa_cons (pv 8) pa_nil)))) (pe_has Gls (hr.mono (by decide)) (by rfl) (pa_cons (pv 7) (pa_cons (pv 5) (pa_cons (pe_op op_addA (pv 6) (pv 8)) pa_nil)))) (nomark _)))) (fun _ _ _ _ _ => (pv 8)))
      (pss_one (ps_if (pt_cmpR (op_neD hr.units) (pe_callB (r := rLenA _) lenA (by rfl) B.len PySem.boot_len (pa_cons (pv 9) pa_nil)) (pv 6) (nomark _)) (pss_one (ps_ret pe_bl)) pss_nil))))))))))
      (pss_one (ps_ret pe_bl)))),
      (ls_cut (ls_set (i := 1) (le_call0 (la_cons le_var (la_cons le_int la_nil))))
      (ls_seq (ls_for (g := .one 2) (li_range1 (la_cons le_int la_nil))
      (ls_cut (ls_par (la_cons (le_op l2_add le_int (le_call0 (la_cons le_var (la_cons le_int la_nil)))) (la_cons (le_op l2_add le_int (le_call0 (la_cons le_var (la_cons le_int la_nil)))) la_nil)))
      (ls_cut (ls_set (i := 5) (le_op l2_add le_int (le_call0 (la_cons le_var (la_cons le_int la_nil)))))
      (ls_cut (ls_set (i := 6) (le_op l2_add (le_op l2_add le_var le_int) (le_call0 (la_cons le_var (la_cons le_int la_nil)))))
      (ls_cut (ls_set (i := 7) (le_call0 (la_cons le_var (la_cons le_var (la_cons le_var la_nil)))))
      (ls_cut (ls_if (lt_test (le_op l2_isN le_var le_non)) ls_cont ls_next)
      (ls_cut (ls_if (lt_or (lt_not (lt_b (le_call0 (la_cons le_var (la_cons (le_call0 (la_cons le_var (la_cons le_int (la_cons le_int la_nil)))) (la_cons le_var (la_cons le_var (la_cons le_var la_nil)))))))) (lt_not (lt_b (le_call0 (la_cons le_var (la_cons le_var (la_cons le_var la_nil))))))) (ls_ret le_bl) ls_next)
      (ls_cut (ls_set (i := 9) (LO.le (lo_lc (g := .one 8) (li_range1 (la_cons le_var la_nil)) (lt_test (le_op l2_eq (le_call0 (la_cons le_var (la_cons le_var (la_cons le_var la_nil)))) (le_call0 (la_cons le_var (la_cons le_var (la_cons (le_op l2_add le_var le_var) la_nil)))))) le_var)))
      (ls_if (lt_test (le_op l2_ne (le_cb lc_len (la_cons le_var la_nil)) le_var)) (ls_ret le_bl) ls_next)))))))))
      (ls_ret le_bl))), fun ds Qd Ed hl h => ?_⟩
  obtain ⟨ns, rfl, h⟩ := h
  simp only [dOf, dVar, dC, dOp, dUn, dNil, dCons, pys, dTup, oLst, dCB, oCB, dCall, dCall0, dCallR, fAdd, oOp, fCat, fInt, fIntC, fNeg, fEq, isNonD, fIsN, fIn, fIx, dTest, dAnd, dOr, dNot, dAndV, dOrV, dNotV, dIfE, dChain, dFld, dNext, dSeq, dRet, dRetN, dDrop, dIfS, dBreak, dCont, dSet, dSetO, setAll, dSetT, dPar, itSeq, itRange1, itRange2, itEnum, Tg.put, Tg.ix, dFor, wipeL, dYes, oLc, dAppend, dPutIx, dFreeze, unown, hasOwn, noLD, okL, dSnap, dSnapT, dRaise, startD, dNoPart, dPart, dSl, oSl, fLen, fInt1, fAbs, fInt2, fDivmod, fTuple, fList, fSorted, oSortedSet, fRepr, fAll, fSum, isIntD, isBoolD, isStrD, isTupD, isSeqD, fIsT, dIsLT, dAug, dPutF, dFldI, dMake, startI, putD, dTupRev, dNewBox, dBoxPut, fRep, fEqS, oListRg, dPair, dWork, dSetA, fTimes, fIsOwn, fEqOwn, oSetC, dExtend, dPairO, oSnap, oSetJ, fInT, oSortedSetB, dMakeK, dLenSet, fNotB, fTimesS, itDown, dFive, nLawN, List.map, List.cons_append, List.nil_append, List.append_eq, List.getElem?_cons_zero, List.getElem?_cons_succ, List.set_cons_zero, List.set_cons_succ, List.lookup_cons, List.lookup_nil, List.length_cons, List.length_nil, Nat.reduceAdd, Nat.reduceSub, List.replicate]
  refine cut_seq ?_
  simp only [dOf, dVar, dC, dOp, dUn, dNil, dCons, pys, dTup, oLst, dCB, oCB, dCall, dCall0, dCallR, fAdd, oOp, fCat, fInt, fIntC, fNeg, fEq, isNonD, fIsN, fIn, fIx, dTest, dAnd, dOr, dNot, dAndV, dOrV, dNotV, dIfE, dChain, dFld, dNext, dSeq, dRet, dRetN, dDrop, dIfS, dBreak, dCont, dSet, dSetO, setAll, dSetT, dPar, itSeq, itRange1, itRange2, itEnum, Tg.put, Tg.ix, dFor, wipeL, dYes, oLc, dAppend, dPutIx, dFreeze, unown, hasOwn, noLD, okL, dSnap, dSnapT, dRaise, startD, dNoPart, dPart, dSl, oSl, fLen, fInt1, fAbs, fInt2, fDivmod, fTuple, fList, fSorted, oSortedSet, fRepr, fAll, fSum, isIntD, isBoolD, isStrD, isTupD, isSeqD, fIsT, dIsLT, dAug, dPutF, dFldI, dMake, startI, putD, dTupRev, dNewBox, dBoxPut, fRep, fEqS, oListRg, dPair, dWork, dSetA, fTimes, fIsOwn, fEqOwn, oSetC, dExtend, dPairO, oSnap, oSetJ, fInT, oSortedSetB, dMakeK, dLenSet, fNotB, fTimesS, itDown, dFive, List.map, List.cons_append, List.nil_append, List.append_eq, List.getElem?_cons_zero, List.getElem?_cons_succ, List.set_cons_zero, List.set_cons_succ, List.lookup_cons, List.lookup_nil]
  refine ⟨ns, 0, rfl, ?_⟩
  refine ⟨⟨by decide, by decide⟩, ?_⟩
  rw [rangeD_R]
  refine loop_ind (fun ds ρ => ∃ (k c : Nat) (y2 y3 y4 y5 y6 y7 y8 y9 : Option SV), ds = rangeR (k : Nat) c ∧ ρ = [some (SV.dv (.scr S.K ns)), some (SV.dv .box), y2, y3, y4, y5, y6, y7, y8, y9]) ?_ ?_ _ _ ⟨0, 3, none, none, none, none, none, none, none, none, rfl, rfl⟩
  · rintro ρ ⟨k, c, y2, y3, y4, y5, y6, y7, y8, y9, e, rfl⟩
    simp only [dOf, dVar, dC, dOp, dUn, dNil, dCons, pys, dTup, oLst, dCB, oCB, dCall, dCall0, dCallR, fAdd, oOp, fCat, fInt, fIntC, fNeg, fEq, isNonD, fIsN, fIn, fIx, dTest, dAnd, dOr, dNot, dAndV, dOrV, dNotV, dIfE, dChain, dFld, dNext, dSeq, dRet, dRetN, dDrop, dIfS, dBreak, dCont, dSet, dSetO, setAll, dSetT, dPar, itSeq, itRange1, itRange2, itEnum, Tg.put, Tg.ix, dFor, wipeL, dYes, oLc, dAppend, dPutIx, dFreeze, unown, hasOwn, noLD, okL, dSnap, dSnapT, dRaise, startD, dNoPart, dPart, dSl, oSl, fLen, fInt1, fAbs, fInt2, fDivmod, fTuple, fList, fSorted, oSortedSet, fRepr, fAll, fSum, isIntD, isBoolD, isStrD, isTupD, isSeqD, fIsT, dIsLT, dAug, dPutF, dFldI, dMake, startI, putD, dTupRev, dNewBox, dBoxPut, fRep, fEqS, oListRg, dPair, dWork, dSetA, fTimes, fIsOwn, fEqOwn, oSetC, dExtend, dPairO, oSnap, oSetJ, fInT, oSortedSetB, dMakeK, dLenSet, fNotB, fTimesS, itDown, dFive, List.map, List.cons_append, List.nil_append, List.append_eq, List.getElem?_cons_zero, List.getElem?_cons_succ, List.set_cons_zero, List.set_cons_succ, List.lookup_cons, List.lookup_nil]
    exact h
  · rintro d ds ρ K hK ⟨k, c, y2, y3, y4, y5, y6, y7, y8, y9, e, rfl⟩
    cases c with
    | zero => cases e
    | succ c =>
    cases e
    have next : ∀ z3 z4 z5 z6 z7 z8 z9, K [some (SV.dv (.scr S.K ns)), some (SV.dv .box), some (SV.dv (.py (.int (k : Nat)))), z3, z4, z5, z6, z7, z8, z9] := fun z3 z4 z5 z6 z7 z8 z9 => hK _ ⟨k + 1, c, _, z3, z4, z5, z6, z7, z8, z9, by simp, rfl⟩
    clear hK
    refine cut_seq ?_
    simp only [dOf, dVar, dC, dOp, dUn, dNil, dCons, pys, dTup, oLst, dCB, oCB, dCall, dCall0, dCallR, fAdd, oOp, fCat, fInt, fIntC, fNeg, fEq, isNonD, fIsN, fIn, fIx, dTest, dAnd, dOr, dNot, dAndV, dOrV, dNotV, dIfE, dChain, dFld, dNext, dSeq, dRet, dRetN, dDrop, dIfS, dBreak, dCont, dSet, dSetO, setAll, dSetT, dPar, itSeq, itRange1, itRange2, itEnum, Tg.put, Tg.ix, dFor, wipeL, dYes, oLc, dAppend, dPutIx, dFreeze, unown, hasOwn, noLD, okL, dSnap, dSnapT, dRaise, startD, dNoPart, dPart, dSl, oSl, fLen, fInt1, fAbs, fInt2, fDivmod, fTuple, fList, fSorted, oSortedSet, fRepr, fAll, fSum, isIntD, isBoolD, isStrD, isTupD, isSeqD, fIsT, dIsLT, dAug, dPutF, dFldI, dMake, startI, putD, dTupRev, dNewBox, dBoxPut, fRep, fEqS, oListRg, dPair, dWork, dSetA, fTimes, fIsOwn, fEqOwn, oSetC, dExtend, dPairO, oSnap, oSetJ, fInT, oSortedSetB, dMakeK, dLenSet, fNotB, fTimesS, itDown, dFive, List.map, List.cons_append, List.nil_append, List.append_eq, List.getElem?_cons_zero, List.getElem?_cons_succ, List.set_cons_zero, List.set_cons_succ, List.lookup_cons, List.lookup_nil, take_eq]
    refine ⟨by decide, by decide, fun r1 h1 => ⟨by decide, by decide, fun r2 h2 => ?_⟩⟩
    obtain ⟨loss, hlo⟩ : ∃ loss : Nat, 1 + (r1 : Int) = loss := ⟨1 + r1, by omega⟩
    obtain ⟨mk, hmk⟩ : ∃ mk : Nat, 2 + (r2 : Int) = mk := ⟨2 + r2, by omega⟩
    rw [hlo, hmk]
    have lo1 : 1 ≤ loss := by omega
    have lo4 : loss ≤ 4 := by omega
    have hm : mk ∈ [1, 2, 3, 4, 5, 8] := by
      simp only [List.mem_cons, List.not_mem_nil, or_false]
      omega
    have m4 : mk ≤ 4 := by omega
    clear h1 h2 hlo hmk
    refine cut_seq ?_
    simp only [dOf, dVar, dC, dOp, dUn, dNil, dCons, pys, dTup, oLst, dCB, oCB, dCall, dCall0, dCallR, fAdd, oOp, fCat, fInt, fIntC, fNeg, fEq, isNonD, fIsN, fIn, fIx, dTest, dAnd, dOr, dNot, dAndV, dOrV, dNotV, dIfE, dChain, dFld, dNext, dSeq, dRet, dRetN, dDrop, dIfS, dBreak, dCont, dSet, dSetO, setAll, dSetT, dPar, itSeq, itRange1, itRange2, itEnum, Tg.put, Tg.ix, dFor, wipeL, dYes, oLc, dAppend, dPutIx, dFreeze, unown, hasOwn, noLD, okL, dSnap, dSnapT, dRaise, startD, dNoPart, dPart, dSl, oSl, fLen, fInt1, fAbs, fInt2, fDivmod, fTuple, fList, fSorted, oSortedSet, fRepr, fAll, fSum, isIntD, isBoolD, isStrD, isTupD, isSeqD, fIsT, dIsLT, dAug, dPutF, dFldI, dMake, startI, putD, dTupRev, dNewBox, dBoxPut, fRep, fEqS, oListRg, dPair, dWork, dSetA, fTimes, fIsOwn, fEqOwn, oSetC, dExtend, dPairO, oSnap, oSetJ, fInT, oSortedSetB, dMakeK, dLenSet, fNotB, fTimesS, itDown, dFive, List.map, List.cons_append, List.nil_append, List.append_eq, List.getElem?_cons_zero, List.getElem?_cons_succ, List.set_cons_zero, List.set_cons_succ, List.lookup_cons, List.lookup_nil, take_eq]
    refine ⟨by decide, by decide, fun r3 h3 => ?_⟩
    obtain ⟨l, hl⟩ : ∃ l : Nat, 1 + (r3 : Int) = l := ⟨1 + r3, by omega⟩
    rw [hl]
    have l1 : 1 ≤ l := by omega
    have l3 : l ≤ 3 := by omega
    clear h3 hl
    refine cut_seq ?_
    simp only [dOf, dVar, dC, dOp, dUn, dNil, dCons, pys, dTup, oLst, dCB, oCB, dCall, dCall0, dCallR, fAdd, oOp, fCat, fInt, fIntC, fNeg, fEq, isNonD, fIsN, fIn, fIx, dTest, dAnd, dOr, dNot, dAndV, dOrV, dNotV, dIfE, dChain, dFld, dNext, dSeq, dRet, dRetN, dDrop, dIfS, dBreak, dCont, dSet, dSetO, setAll, dSetT, dPar, itSeq, itRange1, itRange2, itEnum, Tg.put, Tg.ix, dFor, wipeL, dYes, oLc, dAppend, dPutIx, dFreeze, unown, hasOwn, noLD, okL, dSnap, dSnapT, dRaise, startD, dNoPart, dPart, dSl, oSl, fLen, fInt1, fAbs, fInt2, fDivmod, fTuple, fList, fSorted, oSortedSet, fRepr, fAll, fSum, isIntD, isBoolD, isStrD, isTupD, isSeqD, fIsT, dIsLT, dAug, dPutF, dFldI, dMake, startI, putD, dTupRev, dNewBox, dBoxPut, fRep, fEqS, oListRg, dPair, dWork, dSetA, fTimes, fIsOwn, fEqOwn, oSetC, dExtend, dPairO, oSnap, oSetJ, fInT, oSortedSetB, dMakeK, dLenSet, fNotB, fTimesS, itDown, dFive, List.map, List.cons_append, List.nil_append, List.append_eq, List.getElem?_cons_zero, List.getElem?_cons_succ, List.set_cons_zero, List.set_cons_succ, List.lookup_cons, List.lookup_nil, take_eq]
    refine ⟨by decide, by decide, fun r4 h4 => ?_⟩
    obtain ⟨n, hn⟩ : ∃ n : Nat, (loss : Int) + 1 + (r4 : Int) = n := ⟨loss + 1 + r4, by omega⟩
    rw [hn]
    have n1 : loss < n := by omega
    have n8 : n ≤ 8 := by omega
    clear h4 hn
    refine cut_seq ?_
    simp only [dOf, dVar, dC, dOp, dUn, dNil, dCons, pys, dTup, oLst, dCB, oCB, dCall, dCall0, dCallR, fAdd, oOp, fCat, fInt, fIntC, fNeg, fEq, isNonD, fIsN, fIn, fIx, dTest, dAnd, dOr, dNot, dAndV, dOrV, dNotV, dIfE, dChain, dFld, dNext, dSeq, dRet, dRetN, dDrop, dIfS, dBreak, dCont, dSet, dSetO, setAll, dSetT, dPar, itSeq, itRange1, itRange2, itEnum, Tg.put, Tg.ix, dFor, wipeL, dYes, oLc, dAppend, dPutIx, dFreeze, unown, hasOwn, noLD, okL, dSnap, dSnapT, dRaise, startD, dNoPart, dPart, dSl, oSl, fLen, fInt1, fAbs, fInt2, fDivmod, fTuple, fList, fSorted, oSortedSet, fRepr, fAll, fSum, isIntD, isBoolD, isStrD, isTupD, isSeqD, fIsT, dIsLT, dAug, dPutF, dFldI, dMake, startI, putD, dTupRev, dNewBox, dBoxPut, fRep, fEqS, oListRg, dPair, dWork, dSetA, fTimes, fIsOwn, fEqOwn, oSetC, dExtend, dPairO, oSnap, oSetJ, fInT, oSortedSetB, dMakeK, dLenSet, fNotB, fTimesS, itDown, dFive, List.map, List.cons_append, List.nil_append, List.append_eq, List.getElem?_cons_zero, List.getElem?_cons_succ, List.set_cons_zero, List.set_cons_succ, List.lookup_cons, List.lookup_nil]
    refine ring_use hm (by omega) (by omega) (fun c => ?_) (fun c c2 => absurd c2 (by omega)) (fun c c2 => ?_)
    · refine ⟨fun _ => False, ?_, fun ρ h => h.elim⟩
      simp only [dOf, dVar, dC, dOp, dUn, dNil, dCons, pys, dTup, oLst, dCB, oCB, dCall, dCall0, dCallR, fAdd, oOp, fCat, fInt, fIntC, fNeg, fEq, isNonD, fIsN, fIn, fIx, dTest, dAnd, dOr, dNot, dAndV, dOrV, dNotV, dIfE, dChain, dFld, dNext, dSeq, dRet, dRetN, dDrop, dIfS, dBreak, dCont, dSet, dSetO, setAll, dSetT, dPar, itSeq, itRange1, itRange2, itEnum, Tg.put, Tg.ix, dFor, wipeL, dYes, oLc, dAppend, dPutIx, dFreeze, unown, hasOwn, noLD, okL, dSnap, dSnapT, dRaise, startD, dNoPart, dPart, dSl, oSl, fLen, fInt1, fAbs, fInt2, fDivmod, fTuple, fList, fSorted, oSortedSet, fRepr, fAll, fSum, isIntD, isBoolD, isStrD, isTupD, isSeqD, fIsT, dIsLT, dAug, dPutF, dFldI, dMake, startI, putD, dTupRev, dNewBox, dBoxPut, fRep, fEqS, oListRg, dPair, dWork, dSetA, fTimes, fIsOwn, fEqOwn, oSetC, dExtend, dPairO, oSnap, oSetJ, fInT, oSortedSetB, dMakeK, dLenSet, fNotB, fTimesS, itDown, dFive, List.map, List.cons_append, List.nil_append, List.append_eq, List.getElem?_cons_zero, List.getElem?_cons_succ, List.set_cons_zero, List.set_cons_succ, List.lookup_cons, List.lookup_nil]
      exact iteT2 rfl (next _ _ _ _ _ _ _)
    · have R0 := ring_ok hm (n := n) (l := l) (by omega) (by omega) (by omega)
      generalize theRing mk n = r at R0 ⊢
      have R : RingK l r := ⟨by rw [R0.len]; omega, by rw [R0.len]; omega, by omega, R0.ap, fun x hx => by have := R0.mks x hx; omega⟩
      have rn := R0.len
      subst rn
      refine cut_check ?_ ?_
      · simp only [dOf, dVar, dC, dOp, dUn, dNil, dCons, pys, dTup, oLst, dCB, oCB, dCall, dCall0, dCallR, fAdd, oOp, fCat, fInt, fIntC, fNeg, fEq, isNonD, fIsN, fIn, fIx, dTest, dAnd, dOr, dNot, dAndV, dOrV, dNotV, dIfE, dChain, dFld, dNext, dSeq, dRet, dRetN, dDrop, dIfS, dBreak, dCont, dSet, dSetO, setAll, dSetT, dPar, itSeq, itRange1, itRange2, itEnum, Tg.put, Tg.ix, dFor, wipeL, dYes, oLc, dAppend, dPutIx, dFreeze, unown, hasOwn, noLD, okL, dSnap, dSnapT, dRaise, startD, dNoPart, dPart, dSl, oSl, fLen, fInt1, fAbs, fInt2, fDivmod, fTuple, fList, fSorted, oSortedSet, fRepr, fAll, fSum, isIntD, isBoolD, isStrD, isTupD, isSeqD, fIsT, dIsLT, dAug, dPutF, dFldI, dMake, startI, putD, dTupRev, dNewBox, dBoxPut, fRep, fEqS, oListRg, dPair, dWork, dSetA, fTimes, fIsOwn, fEqOwn, oSetC, dExtend, dPairO, oSnap, oSetJ, fInT, oSortedSetB, dMakeK, dLenSet, fNotB, fTimesS, itDown, dFive, List.map, List.cons_append, List.nil_append, List.append_eq, List.getElem?_cons_zero, List.getElem?_cons_succ, List.set_cons_zero, List.set_cons_succ, List.lookup_cons, List.lookup_nil]
        exact iteF2 (by decide) trivial
      refine cut_check ?_ ?_
      · simp only [dOf, dVar, dC, dOp, dUn, dNil, dCons, pys, dTup, oLst, dCB, oCB, dCall, dCall0, dCallR, fAdd, oOp, fCat, fInt, fIntC, fNeg, fEq, isNonD, fIsN, fIn, fIx, dTest, dAnd, dOr, dNot, dAndV, dOrV, dNotV, dIfE, dChain, dFld, dNext, dSeq, dRet, dRetN, dDrop, dIfS, dBreak, dCont, dSet, dSetO, setAll, dSetT, dPar, itSeq, itRange1, itRange2, itEnum, Tg.put, Tg.ix, dFor, wipeL, dYes, oLc, dAppend, dPutIx, dFreeze, unown, hasOwn, noLD, okL, dSnap, dSnapT, dRaise, startD, dNoPart, dPart, dSl, oSl, fLen, fInt1, fAbs, fInt2, fDivmod, fTuple, fList, fSorted, oSortedSet, fRepr, fAll, fSum, isIntD, isBoolD, isStrD, isTupD, isSeqD, fIsT, dIsLT, dAug, dPutF, dFldI, dMake, startI, putD, dTupRev, dNewBox, dBoxPut, fRep, fEqS, oListRg, dPair, dWork, dSetA, fTimes, fIsOwn, fEqOwn, oSetC, dExtend, dPairO, oSnap, oSetJ, fInT, oSortedSetB, dMakeK, dLenSet, fNotB, fTimesS, itDown, dFive, List.map, List.cons_append, List.nil_append, List.append_eq, List.getElem?_cons_zero, List.getElem?_cons_succ, List.set_cons_zero, List.set_cons_succ, List.lookup_cons, List.lookup_nil]
        refine ⟨4, 2, rfl, by decide, by decide, by decide, by decide, fun T mo => ?_⟩
        refine ⟨ns, T, r, l, loss, rfl, mo, R, lo1, lo4, n1, ?_⟩
        refine iteF2 (by decide) ?_
        refine ⟨r, l, rfl, R, l1, l3, ?_⟩
        exact iteF2 (by decide) trivial
      refine cut_seq ?_
      simp only [dOf, dVar, dC, dOp, dUn, dNil, dCons, pys, dTup, oLst, dCB, oCB, dCall, dCall0, dCallR, fAdd, oOp, fCat, fInt, fIntC, fNeg, fEq, isNonD, fIsN, fIn, fIx, dTest, dAnd, dOr, dNot, dAndV, dOrV, dNotV, dIfE, dChain, dFld, dNext, dSeq, dRet, dRetN, dDrop, dIfS, dBreak, dCont, dSet, dSetO, setAll, dSetT, dPar, itSeq, itRange1, itRange2, itEnum, Tg.put, Tg.ix, dFor, wipeL, dYes, oLc, dAppend, dPutIx, dFreeze, unown, hasOwn, noLD, okL, dSnap, dSnapT, dRaise, startD, dNoPart, dPart, dSl, oSl, fLen, fInt1, fAbs, fInt2, fDivmod, fTuple, fList, fSorted, oSortedSet, fRepr, fAll, fSum, isIntD, isBoolD, isStrD, isTupD, isSeqD, fIsT, dIsLT, dAug, dPutF, dFldI, dMake, startI, putD, dTupRev, dNewBox, dBoxPut, fRep, fEqS, oListRg, dPair, dWork, dSetA, fTimes, fIsOwn, fEqOwn, oSetC, dExtend, dPairO, oSnap, oSetJ, fInT, oSortedSetB, dMakeK, dLenSet, fNotB, fTimesS, itDown, dFive, List.map, List.cons_append, List.nil_append, List.append_eq, List.getElem?_cons_zero, List.getElem?_cons_succ, List.set_cons_zero, List.set_cons_succ, List.lookup_cons, List.lookup_nil]
      refine ⟨⟨by omega, by omega⟩, ?_⟩
      rw [Int.toNat_natCast]
      refine turns_rg (lo := 0) (n := r.length) (fun _ => true) (fun i => .int (i : Nat)) (by omega) (fun i hi => ⟨_, rfl, fun K kk => ?_, fun _ K kk => ?_⟩) ?_
      · simp only [dOf, dVar, dC, dOp, dUn, dNil, dCons, pys, dTup, oLst, dCB, oCB, dCall, dCall0, dCallR, fAdd, oOp, fCat, fInt, fIntC, fNeg, fEq, isNonD, fIsN, fIn, fIx, dTest, dAnd, dOr, dNot, dAndV, dOrV, dNotV, dIfE, dChain, dFld, dNext, dSeq, dRet, dRetN, dDrop, dIfS, dBreak, dCont, dSet, dSetO, setAll, dSetT, dPar, itSeq, itRange1, itRange2, itEnum, Tg.put, Tg.ix, dFor, wipeL, dYes, oLc, dAppend, dPutIx, dFreeze, unown, hasOwn, noLD, okL, dSnap, dSnapT, dRaise, startD, dNoPart, dPart, dSl, oSl, fLen, fInt1, fAbs, fInt2, fDivmod, fTuple, fList, fSorted, oSortedSet, fRepr, fAll, fSum, isIntD, isBoolD, isStrD, isTupD, isSeqD, fIsT, dIsLT, dAug, dPutF, dFldI, dMake, startI, putD, dTupRev, dNewBox, dBoxPut, fRep, fEqS, oListRg, dPair, dWork, dSetA, fTimes, fIsOwn, fEqOwn, oSetC, dExtend, dPairO, oSnap, oSetJ, fInT, oSortedSetB, dMakeK, dLenSet, fNotB, fTimesS, itDown, dFive, List.map, List.cons_append, List.nil_append, List.append_eq, List.getElem?_cons_zero, List.getElem?_cons_succ, List.set_cons_zero, List.set_cons_succ, List.lookup_cons, List.lookup_nil]
        refine ⟨r, l, i, by rw [Int.zero_add], R.r1, R.l12, ?_⟩
        refine ⟨r, l, r.length + i, by rw [Int.zero_add, Int.natCast_add], R.r1, R.l12, ?_⟩
        refine ⟨shaped_tuple_ints _, shaped_tuple_ints _, ?_⟩
        have e : stretchL r l (r.length + i) = stretchL r l i := by
          rw [← stretch_mod (m := r.length + i), Nat.add_mod_left, stretch_mod]
        rw [e, eqv_tuple_ints, decide_eq_true rfl]
        exact kk
      · simp only [dOf, dVar, dC, dOp, dUn, dNil, dCons, pys, dTup, oLst, dCB, oCB, dCall, dCall0, dCallR, fAdd, oOp, fCat, fInt, fIntC, fNeg, fEq, isNonD, fIsN, fIn, fIx, dTest, dAnd, dOr, dNot, dAndV, dOrV, dNotV, dIfE, dChain, dFld, dNext, dSeq, dRet, dRetN, dDrop, dIfS, dBreak, dCont, dSet, dSetO, setAll, dSetT, dPar, itSeq, itRange1, itRange2, itEnum, Tg.put, Tg.ix, dFor, wipeL, dYes, oLc, dAppend, dPutIx, dFreeze, unown, hasOwn, noLD, okL, dSnap, dSnapT, dRaise, startD, dNoPart, dPart, dSl, oSl, fLen, fInt1, fAbs, fInt2, fDivmod, fTuple, fList, fSorted, oSortedSet, fRepr, fAll, fSum, isIntD, isBoolD, isStrD, isTupD, isSeqD, fIsT, dIsLT, dAug, dPutF, dFldI, dMake, startI, putD, dTupRev, dNewBox, dBoxPut, fRep, fEqS, oListRg, dPair, dWork, dSetA, fTimes, fIsOwn, fEqOwn, oSetC, dExtend, dPairO, oSnap, oSetJ, fInT, oSortedSetB, dMakeK, dLenSet, fNotB, fTimesS, itDown, dFive, List.map, List.cons_append, List.nil_append, List.append_eq, List.getElem?_cons_zero, List.getElem?_cons_succ, List.set_cons_zero, List.set_cons_succ, List.lookup_cons, List.lookup_nil]
        rw [Int.zero_add]
        exact kk
      have len : (((List.range r.length).filter fun _ => true).map fun i : Nat => PyData.int (i : Nat)).length = r.length := by
        rw [List.length_map, List.filter_eq_self.mpr fun _ _ => rfl, List.length_range]
      rw [len]
      exact iteF2 (by simp) (next _ _ _ _ _ _ _)

end
end Lw

set_option Elab.async false
set_option linter.all false
set_option maxRecDepth 100000
set_option maxHeartbeats 4000000
namespace Lw
open PySem PySem.Spec PyProof.Rows L2 Lx Dl Pg
theorem scBadMachineInit : FnScope ["self", "at"] ["self", "at"] (defScope (inClass cBadMachine 0)) := ⟨rfl, rfl, rfl, by decide +kernel, rfl, by decide +kernel, by decide +kernel⟩
theorem ErrK1.badMachine {P : Program} {w : World} {K : PySem.W.Frag} {mg : Str → Option Value} {base : Heap} {C : Addr} (D : ErrK1 K mg "BadMachine" "at" "BadMachine.__init__" (inClass cBadMachine 0) C) : Err P w K mg base "BadMachine" "at" C := by
  obtain ⟨fI, fd, h1, h2, F⟩ := D.ini
  refine ⟨D.T, D.xf, D.ec, D.no, D.gC, fI, fd, 1, ["self", "at"], h1, h2, Nat.le_refl _, ok_errInit (k0 := 0) D.T D.no F scBadMachineInit rfl (by decide) (by decide) (Or.inl rfl) (Or.inl rfl) (fun _ => rfl), F.binds (ps := ["self", "at"]) fun _ _ _ _ _ _ us hl => match us, hl with | [_, _], _ => rfl⟩
theorem scBadRowInit : FnScope ["self", "at"] ["self", "at"] (defScope (inClass cBadRow 0)) := ⟨rfl, rfl, rfl, by decide +kernel, rfl, by decide +kernel, by decide +kernel⟩
theorem ErrK1.badRow {P : Program} {w : World} {K : PySem.W.Frag} {mg : Str → Option Value} {base : Heap} {C : Addr} (D : ErrK1 K mg "BadRow" "at" "BadRow.__init__" (inClass cBadRow 0) C) : Err P w K mg base "BadRow" "at" C := by
  obtain ⟨fI, fd, h1, h2, F⟩ := D.ini
  refine ⟨D.T, D.xf, D.ec, D.no, D.gC, fI, fd, 1, ["self", "at"], h1, h2, Nat.le_refl _, ok_errInit (k0 := 0) D.T D.no F scBadRowInit rfl (by decide) (by decide) (Or.inl rfl) (Or.inl rfl) (fun _ => rfl), F.binds (ps := ["self", "at"]) fun _ _ _ _ _ _ us hl => match us, hl with | [_, _], _ => rfl⟩
theorem scRefusedInit : FnScope ["self", "at"] ["self", "at"] (defScope (inClass cRefused 0)) := ⟨rfl, rfl, rfl, by decide +kernel, rfl, by decide +kernel, by decide +kernel⟩
theorem ErrK1.refused {P : Program} {w : World} {K : PySem.W.Frag} {mg : Str → Option Value} {base : Heap} {C : Addr} (D : ErrK1 K mg "Refused" "at" "Refused.__init__" (inClass cRefused 0) C) : Err P w K mg base "Refused" "at" C := by
  obtain ⟨fI, fd, h1, h2, F⟩ := D.ini
  refine ⟨D.T, D.xf, D.ec, D.no, D.gC, fI, fd, 1, ["self", "at"], h1, h2, Nat.le_refl _, ok_errInit (k0 := 0) D.T D.no F scRefusedInit rfl (by decide) (by decide) (Or.inl rfl) (Or.inl rfl) (fun _ => rfl), F.binds (ps := ["self", "at"]) fun _ _ _ _ _ _ us hl => match us, hl with | [_, _], _ => rfl⟩
theorem scTooGreatInit : FnScope ["self", "most"] ["self", "most"] (defScope (inClass cTooGreat 0)) := ⟨rfl, rfl, rfl, by decide +kernel, rfl, by decide +kernel, by decide +kernel⟩
theorem ErrK1.tooGreat {P : Program} {w : World} {K : PySem.W.Frag} {mg : Str → Option Value} {base : Heap} {C : Addr} (D : ErrK1 K mg "TooGreat" "most" "TooGreat.__init__" (inClass cTooGreat 0) C) : Err P w K mg base "TooGreat" "most" C := by
  obtain ⟨fI, fd, h1, h2, F⟩ := D.ini
  refine ⟨D.T, D.xf, D.ec, D.no, D.gC, fI, fd, 1, ["self", "most"], h1, h2, Nat.le_refl _, ok_errInit (k0 := 0) D.T D.no F scTooGreatInit rfl (by decide) (by decide) (Or.inl rfl) (Or.inl rfl) (fun _ => rfl), F.binds (ps := ["self", "most"]) fun _ _ _ _ _ _ us hl => match us, hl with | [_, _], _ => rfl⟩
theorem scNoStateInit : FnScope ["self", "state"] ["self", "state"] (defScope (inClass cNoState 0)) := ⟨rfl, rfl, rfl, by decide +kernel, rfl, by decide +kernel, by decide +kernel⟩
theorem ErrK2.noState {P : Program} {w : World} {K : PySem.W.Frag} {mg : Str → Option Value} {base : Heap} {C : Addr} (D : ErrK2 K mg "NoState" "state" "NoState.__init__" (inClass cNoState 0) C) : ErrQ P w K mg base "NoState" "state" C := by
  obtain ⟨fI, fd, h1, h2, F⟩ := D.ini
  refine ⟨D.T, D.xf, D.ec, D.no, D.gC, fI, fd, 1, ["self", "state"], h1, h2, Nat.le_refl _, ok_keInit D.T D.no F scNoStateInit rfl (by decide) (by decide) (Or.inl rfl) (Or.inl rfl) (fun _ => rfl), F.binds (ps := ["self", "state"]) fun _ _ _ _ _ _ us hl => match us, hl with | [_, _], _ => rfl⟩
theorem mach_mk {K : PySem.W.Frag} {C : Addr} (a : PySem.W.plainGet K C Str.empty = true) (b : PySem.W.hasDictIn K C = true) (c : PySem.W.plainOver K C = true) (d : PySem.W.findIn K (.ref C) "__setattr__" = some (some (.builtin "object.__setattr__")))
    (e : PySem.W.findIn K (.ref C) "deeds" = some none) (f : PySem.W.findIn K (.ref C) "states" = some none) (g : PySem.W.findIn K (.ref C) "tables" = some none) : MachC K C := ⟨⟨a, b, c, d⟩, e, f, g⟩
/-- what the module's top has left -/
structure TopR (K : PySem.W.Frag) (h : Heap) (mg : Str → Option Value) (CM CB CR CF CG CS c1 T1 fm : Addr) : Prop where
  B : Bare mg
  M : MachC K CM
  mkm : Mk K CM fm
  mi : ∃ fd, Fun K "__init__" "Machine.__init__" (inClass cMachine 0) fm fd
  mM : mg "Machine" = some (.ref CM)
  eS : ErrK2 K mg "NoState" "state" "NoState.__init__" (inClass cNoState 0) CS
  gP : ∃ tk, mg "LONGEST_PAGE" = some (.int 12 tk)
  gM : ∃ tk, mg "MOST_MARKS" = some (.int 8 tk)
  gR : ∃ tk, mg "LONGEST_RING" = some (.int 10000 tk)
  gL : ∃ tk, mg "LONGEST_FOUND" = some (.int 64 tk)
  gW : ∃ tk, mg "LONGEST_ROW" = some (.int 400 tk)
  gD : ∃ tk, mg "MOST_DEEDS" = some (.int 4 tk)
  gS : ∃ tk, mg "MOST_STATES" = some (.int 8 tk)
  eB : ErrK1 K mg "BadMachine" "at" "BadMachine.__init__" (inClass cBadMachine 0) CB
  eR : ErrK1 K mg "BadRow" "at" "BadRow.__init__" (inClass cBadRow 0) CR
  eF : ErrK1 K mg "Refused" "at" "Refused.__init__" (inClass cRefused 0) CF
  eG : ErrK1 K mg "TooGreat" "most" "TooGreat.__init__" (inClass cTooGreat 0) CG
  gg : PySem.W.exmOne K (.ref CG) (.ref CG) = some true
  ff : PySem.W.exmOne K (.ref CF) (.ref CF) = some true
  fg : PySem.W.exmOne K (.ref CF) (.ref CG) = some false
  d0 : DefD K mg "is_number" sIsNumber
  d1 : DefD K mg "need_number" sNeedNumber
  d2 : DefK K mg "is_sequence" sIsSequence
  d3 : DefK K mg "need_length" sNeedLength
  d4 : DefK K mg "power" sPower
  d5 : DefK K mg "greatest_ring" sGreatestRing
  d6 : DefK K mg "ring_of" sRingOf
  d7 : DefK K mg "least_stretch" sLeastStretch
  d8 : DefK K mg "marks_told" sMarksTold
  d9 : DefK K mg "place_told" sPlaceTold
  d10 : DefK K mg "_need_marks" sNeedMarks
  d11 : DefK K mg "_need_size" sNeedSize
  d12 : DefK K mg "_need_ring" sNeedRing
  d13 : DefK K mg "_is_ring" sIsRing
  d14 : DefK K mg "_stretches" sStretches
  d15 : DefK K mg "_ring_from" sRingFrom
  d16 : DefK K mg "_is_table" sIsTable
  d17 : DefK K mg "is_state" sIsState
  d18 : DefK K mg "is_deed" sIsDeed
  d19 : DefK K mg "need_state" sNeedState
  d20 : DefK K mg "check_row" sCheckRow
  d21 : DefK K mg "led" sLed
  d22 : DefK K mg "lead" sLead
  d23 : DefK K mg "_law_box" sLawBox
  d24 : DefK K mg "_law_take" sLawTake
  d25 : DefK K mg "_law_pick" sLawPick
  d26 : DefK K mg "_law_tables" sLawTables
  d27 : DefK K mg "_law_led" sLawLed
  d28 : DefK K mg "_law_heard" sLawHeard
  d29 : DefK K mg "_law_stretch" sLawStretch
  d30 : DefK K mg "_law_run_right" sLawRunRight
  d31 : DefT K h mg "_law_none_right" sLawNoneRight c1 T1
  d32 : DefK K mg "law" sLaw
theorem law_top {l : PySem.W.OpenLaw} {w : World} {K : PySem.W.Frag} {mg : Str → Option Value} {fa : Addr} {h : Heap} {CM CB CR CF CG CS c1 T1 fm : Addr} (T : TopR K h mg CM CB CR CF CG CS c1 T1 fm) (hfa : mg "law" = some (.ref fa)) : LawG l w K 71 63 "script" mg fa h := by
  obtain ⟨f, fd, hm, F⟩ := T.d32.ex
  rw [hfa] at hm
  cases hm
  refine ⟨fd, [(c1, T1)], spD (Sx.mk K [(T1, (("_law_none_right" : Str) ++ ".<locals>.") ++ "<lambda>")] 2) 1 (spLawD (Sx.mk K [(T1, (("_law_none_right" : Str) ++ ".<locals>.") ++ "<lambda>")] 2)), ?_, ?_, ?_, ?_⟩
  · intro p hp
    simp only [List.mem_cons, List.not_mem_nil, or_false] at hp
    rcases hp with rfl
    · exact ⟨T.d31.at_, T.d31.no, T.d31.hd⟩
  · intro s u
    obtain ⟨oc, od, kV, doc, pm, an, cdv, ct, osl, rfl, _, _⟩ := F.ex
    exact .of_eq rfl
  · intro H a ns hl hH hS
    refine law_start (S := (Sx.mk K [(T1, (("_law_none_right" : Str) ++ ".<locals>.") ++ "<lambda>")] 2)) hS (fun p hp => ?_) ⟨ns, rfl, rfl⟩
    simp only [List.mem_cons, List.not_mem_nil, or_false] at hp
    rcases hp with rfl
    · exact LamX.TabS.nil (hH (c1, T1) List.mem_cons_self)
  · intro base KB TB
    have tb1 := TB (c1, T1) List.mem_cons_self
    obtain ⟨S, hS⟩ : ∃ S : Sx, S = (Sx.mk K [(T1, (("_law_none_right" : Str) ++ ".<locals>.") ++ "<lambda>")] 2) := ⟨_, rfl⟩
    have SK : S.K = K := by rw [hS]
    have ST : S.Tb = [(T1, (("_law_none_right" : Str) ++ ".<locals>.") ++ "<lambda>")] := by rw [hS]
    have nb : S.nb = 2 := by rw [hS]
    rw [← hS]
    clear hS
    subst SK
    have ErF : Err l.prog w S.K mg base "Refused" "at" CF := T.eF.refused
    have ErB : Err l.prog w S.K mg base "BadMachine" "at" CB := T.eB.badMachine
    have ErR : Err l.prog w S.K mg base "BadRow" "at" CR := T.eR.badRow
    have ErS : ErrQ l.prog w S.K mg base "NoState" "state" CS := T.eS.noState
    have ErG : Err l.prog w S.K mg base "TooGreat" "most" CG := T.eG.tooGreat
    obtain ⟨tkgP, gP⟩ := T.gP
    obtain ⟨tkgM, gM⟩ := T.gM
    obtain ⟨tkgR, gR⟩ := T.gR
    obtain ⟨tkgL, gL⟩ := T.gL
    obtain ⟨tkgW, gW⟩ := T.gW
    obtain ⟨tkgD, gD⟩ := T.gD
    obtain ⟨tkgS, gS⟩ := T.gS
    have one : ∀ {p : Addr × Str} {q1 : Str}, p ∈ [(T1, q1)] → p.2 = q1 := fun {p q1} hp => by
      rw [List.mem_singleton.mp hp]
    obtain ⟨ec, hec⟩ : ∃ ec : EC, ec = ⟨CG, CF⟩ := ⟨_, rfl⟩
    have eG : ec.G = CG := by rw [hec]
    have eF : ec.F = CF := by rw [hec]
    clear hec
    subst eG
    subst eF
    have Gn : Has l.prog w S.K mg base L2.CX0 1 "is_number" ["value", "least", "greatest"] (spD S 3 spIsNumber) := by
      obtain ⟨f, fd, hm, F⟩ := T.d0.ex
      obtain ⟨ds, r, b⟩ := F.binds1 (ps := ["value", "least", "greatest"]) 3 1 (by simp) rfl fun T kV doc pm an cdv ct us its hl hi => by
        match us, hl, its, hi with
        | [_, _, _], _, [_], _ => exact ⟨_, rfl, rfl⟩
      cases r
      exact ⟨f, fd, hm, F.kp, b, ok_is_number F T.B⟩
    have Gs : Has l.prog w S.K mg base L2.CX0 1 "is_sequence" ["value", "fewest", "most"] (spD S 3 spIsSequence) := by
      obtain ⟨f, fd, hm, F⟩ := T.d2.ex
      exact ⟨f, fd, hm, F.kp, F.binds fun _ _ _ _ _ _ us hl => match us, hl with | [_, _, _], _ => rfl, ok_is_sequence F T.B⟩
    have Gnn : Has l.prog w S.K mg base (L2.CX l.prog w) 3 "need_number" ["value", "least", "greatest"] (spD S 3 (spNeedNumber ec.F)) := by
      obtain ⟨f, fd, hm, F⟩ := T.d1.ex
      obtain ⟨ds, r, b⟩ := F.binds1 (ps := ["value", "least", "greatest"]) 3 1 (by simp) rfl fun T kV doc pm an cdv ct us its hl hi => by
        match us, hl, its, hi with
        | [_, _, _], _, [_], _ => exact ⟨_, rfl, rfl⟩
      cases r
      exact ⟨f, fd, hm, F.kp, b, ok_need_number F ErF Gn⟩
    have Gno : HasD l.prog w S.K mg base (L2.CX l.prog w) 3 "need_number" ["value", "least", "greatest"] [.non] (spD S 3 (spNeedLeast ec.F)) := by
      obtain ⟨f, fd, hm, F⟩ := T.d1.ex
      obtain ⟨ds, r, b⟩ := F.binds1 (ps := ["value", "least", "greatest"]) 2 0 (by simp) rfl fun T kV doc pm an cdv ct us its hl hi => by
        match us, hl, its, hi with
        | [_, _], _, [_], _ => exact ⟨_, rfl, rfl⟩
      exact ⟨f, fd, ds, hm, F.kp, r, b, ok_need_least F ErF Gn⟩
    have Gnl : Has l.prog w S.K mg base (L2.CX l.prog w) 4 "need_length" ["value"] (spD S 1 (spNeed ec.F 0 12)) := by
      obtain ⟨f, fd, hm, F⟩ := T.d3.ex
      exact ⟨f, fd, hm, F.kp, F.binds fun _ _ _ _ _ _ us hl => match us, hl with | [_], _ => rfl, ok_need_length F gP Gnn⟩
    have Gnm : Has l.prog w S.K mg base (L2.CX l.prog w) 4 "_need_marks" ["value"] (spD S 1 (spNeed ec.F 1 8)) := by
      obtain ⟨f, fd, hm, F⟩ := T.d10.ex
      exact ⟨f, fd, hm, F.kp, F.binds fun _ _ _ _ _ _ us hl => match us, hl with | [_], _ => rfl, ok_need_marks F gM Gnn⟩
    have Gns : Has l.prog w S.K mg base (L2.CX l.prog w) 4 "_need_size" ["value"] (spD S 1 (spNeedSize ec.F)) := by
      obtain ⟨f, fd, hm, F⟩ := T.d11.ex
      exact ⟨f, fd, hm, F.kp, F.binds fun _ _ _ _ _ _ us hl => match us, hl with | [_], _ => rfl, ok_need_size F Gno⟩
    have Gpw : Has l.prog w S.K mg base L2.CX0 1 "power" ["base", "many"] (spD S 2 spPower) := by
      obtain ⟨f, fd, hm, F⟩ := T.d4.ex
      exact ⟨f, fd, hm, F.kp, F.binds fun _ _ _ _ _ _ us hl => match us, hl with | [_, _], _ => rfl, ok_power F T.B⟩
    have Ggr : Has l.prog w S.K mg base (L2.CX l.prog w) 5 "greatest_ring" ["marks", "length"] (spD S 2 (spGreatest ec.F)) := by
      obtain ⟨f, fd, hm, F⟩ := T.d5.ex
      exact ⟨f, fd, hm, F.kp, F.binds fun _ _ _ _ _ _ us hl => match us, hl with | [_, _], _ => rfl, ok_greatest_ring F Gpw Gnl Gnm⟩
    have Ggrr : HasR l.prog w S.K mg base (L2.CX l.prog w) 5 "greatest_ring" ["marks", "length"] ["length", "marks"] (spD S 2 (spGreatest ec.F)) := by
      obtain ⟨f, fd, hm, F⟩ := T.d5.ex
      refine ⟨f, fd, hm, F.kp, kb2 fun s u v _ => ?_, ok_greatest_ring F Gpw Gnl Gnm⟩
      obtain ⟨oc, od, kV, doc, pm, an, cdv, ct, osl, rfl, _, _⟩ := F.ex
      exact .of_eq rfl
    have Glt : Has l.prog w S.K mg base (L2.CX l.prog w) 5 "least_stretch" ["marks", "size"] (spD S 2 (spLeastStretch ec.F)) := by
      obtain ⟨f, fd, hm, F⟩ := T.d7.ex
      exact ⟨f, fd, hm, F.kp, F.binds fun _ _ _ _ _ _ us hl => match us, hl with | [_, _], _ => rfl, ok_least_stretch F T.B gP Gpw Gnm Gns⟩
    have Gltr : HasR l.prog w S.K mg base (L2.CX l.prog w) 5 "least_stretch" ["marks", "size"] ["size", "marks"] (spD S 2 (spLeastStretch ec.F)) := by
      obtain ⟨f, fd, hm, F⟩ := T.d7.ex
      refine ⟨f, fd, hm, F.kp, kb2 fun s u v _ => ?_, ok_least_stretch F T.B gP Gpw Gnm Gns⟩
      obtain ⟨oc, od, kV, doc, pm, an, cdv, ct, osl, rfl, _, _⟩ := F.ex
      exact .of_eq rfl
    have Gst : Has l.prog w S.K mg base L2.CX0 1 "_stretches" ["ring", "length"] (spD S 2 spStretches) := by
      obtain ⟨f, fd, hm, F⟩ := T.d14.ex
      exact ⟨f, fd, hm, F.kp, F.binds fun _ _ _ _ _ _ us hl => match us, hl with | [_, _], _ => rfl, ok_stretches F T.B⟩
    have Gir : Has l.prog w S.K mg base L2.CX0 2 "_is_ring" ["value", "marks", "length"] (spD S 3 spIsRing) := by
      obtain ⟨f, fd, hm, F⟩ := T.d13.ex
      exact ⟨f, fd, hm, F.kp, F.binds fun _ _ _ _ _ _ us hl => match us, hl with | [_, _, _], _ => rfl, ok_is_ring F T.B gR Gn Gs Gst⟩
    have Gri : Has l.prog w S.K mg base L2.CX0 68 "_ring_from" ["row", "told", "marks", "length", "size"] (spRingAll S) := by
      obtain ⟨f, fd, hm, F⟩ := T.d15.ex
      exact ⟨f, fd, hm, F.kp, F.binds fun _ _ _ _ _ _ us hl => match us, hl with | [_, _, _, _, _], _ => rfl, ok_ringAll F hm T.B Gir⟩
    have Gro : Has l.prog w S.K mg base (L2.CX l.prog w) 70 "ring_of" ["marks", "length", "size"] (spD S 3 (spRingOf ec.F ec.G)) := by
      obtain ⟨f, fd, hm, F⟩ := T.d6.ex
      exact ⟨f, fd, hm, F.kp, F.binds fun _ _ _ _ _ _ us hl => match us, hl with | [_, _, _], _ => rfl, ok_ring_of F gL ErG Ggr Gns Glt Gri⟩
    have Gror : HasR l.prog w S.K mg base (L2.CX l.prog w) 70 "ring_of" ["marks", "length", "size"] ["size", "length", "marks"] (spD S 3 (spRingOf ec.F ec.G)) := by
      obtain ⟨f, fd, hm, F⟩ := T.d6.ex
      refine ⟨f, fd, hm, F.kp, kb3 fun s u v x _ => ?_, ok_ring_of F gL ErG Ggr Gns Glt Gri⟩
      obtain ⟨oc, od, kV, doc, pm, an, cdv, ct, osl, rfl, _, _⟩ := F.ex
      exact .of_eq rfl
    have ea : Ears S.K mg ec := ⟨⟨T.eG.gC, T.gg, T.eG.xf, T.eG.no⟩, ⟨T.eF.gC, T.ff, T.eF.xf, T.eF.no⟩, T.fg⟩
    have ear : EarDef S.K mg := by
      obtain ⟨f, fd, hm, F⟩ := T.d28.ex
      exact ⟨f, fd, hm, F, F.binds fun _ _ _ _ _ _ us hl => match us, hl with | [_], _ => rfl⟩
    have Lb : Has l.prog w S.K mg base L2.CX0 1 "_law_box" ["script", "k"] (spD S 2 (spBoxOf S)) := by
      obtain ⟨f, fd, hm, F⟩ := T.d23.ex
      exact ⟨f, fd, hm, F.kp, F.binds fun _ _ _ _ _ _ us hl => match us, hl with | [_, _], _ => rfl, ok_law_box F T.B nb⟩
    have Lt : Has l.prog w S.K mg base L2.CX0 1 "_law_take" ["box", "many"] (spD S 2 spTake) := by
      obtain ⟨f, fd, hm, F⟩ := T.d24.ex
      exact ⟨f, fd, hm, F.kp, F.binds fun _ _ _ _ _ _ us hl => match us, hl with | [_, _], _ => rfl, ok_law_take F T.B nb⟩
    have Lp : Has l.prog w S.K mg base L2.CX0 2 "_law_pick" ["box", "some"] (spD S 2 spPick) := by
      obtain ⟨f, fd, hm, F⟩ := T.d25.ex
      exact ⟨f, fd, hm, F.kp, F.binds fun _ _ _ _ _ _ us hl => match us, hl with | [_, _], _ => rfl, ok_law_pick F T.B Lt⟩
    have Gnd : HasD l.prog w S.K mg base L2.CX0 1 "is_number" ["value", "least", "greatest"] [.non] (spD S 3 spIsNumber) := by
      obtain ⟨f, fd, hm, F⟩ := T.d0.ex
      obtain ⟨ds, r, b⟩ := F.binds1 (ps := ["value", "least", "greatest"]) 2 0 (by simp) rfl fun T kV doc pm an cdv ct us its hl hi => by
        match us, hl, its, hi with
        | [_, _], _, [_], _ => exact ⟨_, rfl, rfl⟩
      exact ⟨f, fd, ds, hm, F.kp, r, b, ok_is_number F T.B⟩
    have Gnr0 : Has l.prog w S.K mg base (L2.CX l.prog w) 3 "_need_ring" ["value", "length"] (spD S 2 (spNeedRing ec.F)) := by
      obtain ⟨f, fd, hm, F⟩ := T.d12.ex
      exact ⟨f, fd, hm, F.kp, F.binds fun _ _ _ _ _ _ us hl => match us, hl with | [_, _], _ => rfl, ok_need_ring F T.B gM ErF Gir⟩
    have Gmt : Has l.prog w S.K mg base (L2.CX l.prog w) 5 "marks_told" ["ring", "length", "number"] (spD S 3 (spMarksTold ec.F)) := by
      obtain ⟨f, fd, hm, F⟩ := T.d8.ex
      exact ⟨f, fd, hm, F.kp, F.binds fun _ _ _ _ _ _ us hl => match us, hl with | [_, _, _], _ => rfl, ok_marks_told F T.B Gnl Gnr0 Gno Gst⟩
    have Gmtr : HasR l.prog w S.K mg base (L2.CX l.prog w) 5 "marks_told" ["ring", "length", "number"] ["number", "length", "ring"] (spD S 3 (spMarksTold ec.F)) := by
      obtain ⟨f, fd, hm, F⟩ := T.d8.ex
      refine ⟨f, fd, hm, F.kp, kb3 fun s u v x _ => ?_, ok_marks_told F T.B Gnl Gnr0 Gno Gst⟩
      obtain ⟨oc, od, kV, doc, pm, an, cdv, ct, osl, rfl, _, _⟩ := F.ex
      exact .of_eq rfl
    have Gpt : Has l.prog w S.K mg base (L2.CX l.prog w) 5 "place_told" ["ring", "length", "stretch"] (spD S 3 (spPlaceTold ec.F)) := by
      obtain ⟨f, fd, hm, F⟩ := T.d9.ex
      exact ⟨f, fd, hm, F.kp, F.binds fun _ _ _ _ _ _ us hl => match us, hl with | [_, _, _], _ => rfl, ok_place_told F T.B ErF Gnd Gs Gnl Gnr0 Gst⟩
    have Gptr : HasR l.prog w S.K mg base (L2.CX l.prog w) 5 "place_told" ["ring", "length", "stretch"] ["stretch", "length", "ring"] (spD S 3 (spPlaceTold ec.F)) := by
      obtain ⟨f, fd, hm, F⟩ := T.d9.ex
      refine ⟨f, fd, hm, F.kp, kb3 fun s u v x _ => ?_, ok_place_told F T.B ErF Gnd Gs Gnl Gnr0 Gst⟩
      obtain ⟨oc, od, kV, doc, pm, an, cdv, ct, osl, rfl, _, _⟩ := F.ex
      exact .of_eq rfl
    have Gt0 : Has l.prog w S.K mg base L2.CX0 2 "_is_table" ["value", "first"] (spD S 2 spIsTable) := by
      obtain ⟨f, fd, hm, F⟩ := T.d16.ex
      exact ⟨f, fd, hm, F.kp, F.binds fun _ _ _ _ _ _ us hl => match us, hl with | [_, _], _ => rfl, ok_is_table F T.B gS Gn Gs⟩
    have Gis : Has l.prog w S.K mg base L2.CX0 2 "is_state" ["machine", "value"] (spD S 2 (spIsState CM)) := by
      obtain ⟨f, fd, hm, F⟩ := T.d17.ex
      exact ⟨f, fd, hm, F.kp, F.binds fun _ _ _ _ _ _ us hl => match us, hl with | [_, _], _ => rfl, ok_is_state F T.M Gn⟩
    have Gd0 : Has l.prog w S.K mg base L2.CX0 2 "is_deed" ["machine", "value"] (spD S 2 (spIsDeed CM)) := by
      obtain ⟨f, fd, hm, F⟩ := T.d18.ex
      exact ⟨f, fd, hm, F.kp, F.binds fun _ _ _ _ _ _ us hl => match us, hl with | [_, _], _ => rfl, ok_is_deed F T.M Gn⟩
    have Gst0 : Has l.prog w S.K mg base (L2.CX l.prog w) 4 "need_state" ["machine", "state"] (spD S 2 (spNeedState CM CS)) := by
      obtain ⟨f, fd, hm, F⟩ := T.d19.ex
      exact ⟨f, fd, hm, F.kp, F.binds fun _ _ _ _ _ _ us hl => match us, hl with | [_, _], _ => rfl, ok_need_state F ErS Gis⟩
    have Gc : Has l.prog w S.K mg base (L2.CX l.prog w) 4 "check_row" ["machine", "value"] (spD S 2 (spCheckRow CM CR)) := by
      obtain ⟨f, fd, hm, F⟩ := T.d20.ex
      exact ⟨f, fd, hm, F.kp, F.binds fun _ _ _ _ _ _ us hl => match us, hl with | [_, _], _ => rfl, ok_check_row F T.B gW ErR Gs Gd0⟩
    have Gle : Has l.prog w S.K mg base L2.CX0 1 "lead" ["machine", "state", "deeds"] (spD S 3 (spLead CM)) := by
      obtain ⟨f, fd, hm, F⟩ := T.d22.ex
      exact ⟨f, fd, hm, F.kp, F.binds fun _ _ _ _ _ _ us hl => match us, hl with | [_, _, _], _ => rfl, ok_lead F T.M⟩
    have Gld : Has l.prog w S.K mg base (L2.CX l.prog w) 5 "led" ["machine", "state", "row"] (spD S 3 (spLed CM)) := by
      obtain ⟨f, fd, hm, F⟩ := T.d21.ex
      exact ⟨f, fd, hm, F.kp, F.binds fun _ _ _ _ _ _ us hl => match us, hl with | [_, _, _], _ => rfl, ok_led F Gst0 Gc Gle⟩
    have MM : MkM l.prog w S mg base CM CB := by
      obtain ⟨fd, F⟩ := T.mi
      exact ⟨fm, fd, T.mkm, ok_Machine_init F T.B T.M gD ErB Gs Gt0, T.mM, F.binds fun _ _ _ _ _ _ us hl => match us, hl with | [_, _], _ => rfl⟩
    have Ltb : Has l.prog w S.K mg base L2.CX0 3 "_law_tables" ["box", "most", "kinds"] (spD S 3 spLawTables) := by
      obtain ⟨f, fd, hm, F⟩ := T.d26.ex
      exact ⟨f, fd, hm, F.kp, F.binds fun _ _ _ _ _ _ us hl => match us, hl with | [_, _, _], _ => rfl, ok_law_tables F T.B Lt⟩
    have Lll : Has l.prog w S.K mg base L2.CX0 1 "_law_led" ["tables", "state", "row"] (spD S 3 spLawLed) := by
      obtain ⟨f, fd, hm, F⟩ := T.d27.ex
      exact ⟨f, fd, hm, F.kp, F.binds fun _ _ _ _ _ _ us hl => match us, hl with | [_, _, _], _ => rfl, ok_law_led F T.B⟩
    have Lls : Has l.prog w S.K mg base L2.CX0 1 "_law_stretch" ["ring", "length", "number"] (spD S 3 spLawStretch) := by
      obtain ⟨f, fd, hm, F⟩ := T.d29.ex
      exact ⟨f, fd, hm, F.kp, F.binds fun _ _ _ _ _ _ us hl => match us, hl with | [_, _, _], _ => rfl, ok_law_stretch F T.B⟩
    have Lrr : HasG l.prog w S.K mg base 7 "_law_run_right" ["script", "tables", "ring", "length", "loss"] (spD S 5 (spRunRight S)) := by
      obtain ⟨f, fd, hm, F⟩ := T.d30.ex
      exact ⟨f, fd, hm, F.kp, F.binds fun _ _ _ _ _ _ us hl => match us, hl with | [_, _, _, _, _], _ => rfl, ok_law_run_right F T.B T.M MM Lb Lt Lll Lls Gmt Gmtr Gpt Gptr Gld⟩
    have Lnr : HasG l.prog w S.K mg base 8 "_law_none_right" ["box", "ring", "length"] (spD S 3 spNoneRight) := by
      obtain ⟨f, fd, hm, F, hc⟩ := T.d31.ex
      refine ⟨f, fd, hm, F.kp, F.binds fun _ _ _ _ _ _ us hl => match us, hl with | [_, _, _], _ => rfl, ok_law_none_right F hc tb1 (fun X e => ?_) (fun X e p hp e1 => ?_) ear ea T.B Lt Lp Gmt Gmtr Gpt Gptr⟩
      · show (T1, X.env.qual ++ "<lambda>") ∈ S.Tb
        rw [e, ST]
        exact List.mem_cons_self
      · show p.2 = X.env.qual ++ "<lambda>"
        rw [e]
        rw [ST] at hp
        exact one hp
    exact ok_law F T.B Lb Lt Ltb Lls Gro Lrr Lnr
end Lw

open PySem PySem.W PyProof.Rows
set_option Elab.async false
set_option maxRecDepth 100000
set_option maxHeartbeats 0
theorem PySem.Challenge.cw_pagesagain_k27_whole_marks_round_a_ring_holds : PySem.Challenge.rw_pagesagain_k27_whole_marks_round_a_ring.Holds := by
  w_on; o_law; k_head; (case hw => w_witness2)
  k_fill
  refine Lx.end_walk (l := PySem.Challenge.rw_pagesagain_k27_whole_marks_round_a_ring) (n := 63) (k := 71) (x := "script") rfl (by decide) rfl ⟨rfl, by decide, by decide⟩ (fun w h Y => PySem.W.km_in_of Y) ?F
  case F =>
    intro w mg fa h Y KX G hmg
    refine' Lw.law_top (T1 := 368) ⟨?qB, ?qM, ?qmkm, ?qmi, ?qmM, ?qeS, ?qgP, ?qgM, ?qgR, ?qgL, ?qgW, ?qgD, ?qgS, ?qeB, ?qeR, ?qeF, ?qeG, ?qgg, ?qff, ?qfg, ?qd0, ?qd1, ?qd2, ?qd3, ?qd4, ?qd5, ?qd6, ?qd7, ?qd8, ?qd9, ?qd10, ?qd11, ?qd12, ?qd13, ?qd14, ?qd15, ?qd16, ?qd17, ?qd18, ?qd19, ?qd20, ?qd21, ?qd22, ?qd23, ?qd24, ?qd25, ?qd26, ?qd27, ?qd28, ?qd29, ?qd30, ?qd31, ?qd32⟩ hmg
    (case qmM =>
      refine' PySem.W.mg_of KX G ?qz
      (case qz => k_is))
    (case qM =>
      refine' Lw.mach_mk ?qza ?qzb ?qzc ?qzd ?qze ?qzf ?qzg
      (case qza => k_is); (case qzb => k_is); (case qzc => k_is); (case qzd => k_is); (case qze => k_is); (case qzf => k_is); (case qzg => k_is))
    (case qmkm =>
      refine' ⟨?qza, ?qzb, ?qzc, ?qzd⟩
      (case qza => k_is); (case qzb => k_is); (case qzc => k_is); (case qzd => k_is))
    (case qmi =>
      refine' ⟨_, L2.fun_mk ?ql ?qc ?qk⟩
      (case ql => k_is); (case qc => k_is); (case qk => k_is))
    (case qgP =>
      refine' Lw.mgInt KX G ?qz
      (case qz => k_is))
    (case qgM =>
      refine' Lw.mgInt KX G ?qz
      (case qz => k_is))
    (case qgR =>
      refine' Lw.mgInt KX G ?qz
      (case qz => k_is))
    (case qgL =>
      refine' Lw.mgInt KX G ?qz
      (case qz => k_is))
    (case qgW =>
      refine' Lw.mgInt KX G ?qz
      (case qz => k_is))
    (case qgD =>
      refine' Lw.mgInt KX G ?qz
      (case qz => k_is))
    (case qgS =>
      refine' Lw.mgInt KX G ?qz
      (case qz => k_is))
    (case qeB =>
      refine' Lw.err_mk KX G ?qza ?qzxl ?qzrv ?qzsa ?qzga ?qzgg ?qzno ?qzkC ?qzeC ?qztC ?qzhC ?qzha ?qzhn ?qzht ?qzhm ?qzi ?qzt ?qzl ?qzc ?qzk
      (case qza => k_is); (case qzxl => k_is); (case qzrv => decide +kernel); (case qzsa => k_is); (case qzga => k_is); (case qzgg => k_is); (case qzno => k_is); (case qzkC => k_is); (case qzeC => k_is); (case qztC => k_is); (case qzhC => k_is); (case qzha => k_is); (case qzhn => k_is); (case qzht => k_is); (case qzhm => k_is); (case qzi => k_is); (case qzt => k_is); (case qzl => k_is); (case qzc => k_is); (case qzk => k_is))
    (case qeR =>
      refine' Lw.err_mk KX G ?qza ?qzxl ?qzrv ?qzsa ?qzga ?qzgg ?qzno ?qzkC ?qzeC ?qztC ?qzhC ?qzha ?qzhn ?qzht ?qzhm ?qzi ?qzt ?qzl ?qzc ?qzk
      (case qza => k_is); (case qzxl => k_is); (case qzrv => decide +kernel); (case qzsa => k_is); (case qzga => k_is); (case qzgg => k_is); (case qzno => k_is); (case qzkC => k_is); (case qzeC => k_is); (case qztC => k_is); (case qzhC => k_is); (case qzha => k_is); (case qzhn => k_is); (case qzht => k_is); (case qzhm => k_is); (case qzi => k_is); (case qzt => k_is); (case qzl => k_is); (case qzc => k_is); (case qzk => k_is))
    (case qeF =>
      refine' Lw.err_mk KX G ?qza ?qzxl ?qzrv ?qzsa ?qzga ?qzgg ?qzno ?qzkC ?qzeC ?qztC ?qzhC ?qzha ?qzhn ?qzht ?qzhm ?qzi ?qzt ?qzl ?qzc ?qzk
      (case qza => k_is); (case qzxl => k_is); (case qzrv => decide +kernel); (case qzsa => k_is); (case qzga => k_is); (case qzgg => k_is); (case qzno => k_is); (case qzkC => k_is); (case qzeC => k_is); (case qztC => k_is); (case qzhC => k_is); (case qzha => k_is); (case qzhn => k_is); (case qzht => k_is); (case qzhm => k_is); (case qzi => k_is); (case qzt => k_is); (case qzl => k_is); (case qzc => k_is); (case qzk => k_is))
    (case qeG =>
      refine' Lw.err_mk KX G ?qza ?qzxl ?qzrv ?qzsa ?qzga ?qzgg ?qzno ?qzkC ?qzeC ?qztC ?qzhC ?qzha ?qzhn ?qzht ?qzhm ?qzi ?qzt ?qzl ?qzc ?qzk
      (case qza => k_is); (case qzxl => k_is); (case qzrv => decide +kernel); (case qzsa => k_is); (case qzga => k_is); (case qzgg => k_is); (case qzno => k_is); (case qzkC => k_is); (case qzeC => k_is); (case qztC => k_is); (case qzhC => k_is); (case qzha => k_is); (case qzhn => k_is); (case qzht => k_is); (case qzhm => k_is); (case qzi => k_is); (case qzt => k_is); (case qzl => k_is); (case qzc => k_is); (case qzk => k_is))
    (case qeS =>
      refine' Lw.err2_mk KX G ?qza ?qzcls ?qzsa ?qzga ?qzgg ?qzno ?qzkC ?qzeC ?qztC ?qzhC ?qzha ?qzhn ?qzht ?qzhm ?qzi ?qzt ?qzl ?qzc ?qzk
      (case qza => k_is); (case qzcls => exact ⟨_, _, _, _, _, _, _, _, _, _, _, _, _, _, by k_is⟩); (case qzsa => k_is); (case qzga => k_is); (case qzgg => k_is); (case qzno => k_is); (case qzkC => k_is); (case qzeC => k_is); (case qztC => k_is); (case qzhC => k_is); (case qzha => k_is); (case qzhn => k_is); (case qzht => k_is); (case qzhm => k_is); (case qzi => k_is); (case qzt => k_is); (case qzl => k_is); (case qzc => k_is); (case qzk => k_is))
    (case qgg =>
      refine' PySem.W.exm_ref ?qza ?qzb ?qzc ?qzd
      (case qza => k_is); (case qzb => k_is); (case qzc => k_is); (case qzd => first | rfl | k_is))
    (case qff =>
      refine' PySem.W.exm_ref ?qza ?qzb ?qzc ?qzd
      (case qza => k_is); (case qzb => k_is); (case qzc => k_is); (case qzd => first | rfl | k_is))
    (case qfg =>
      refine' PySem.W.exm_ref ?qza ?qzb ?qzc ?qzd
      (case qza => k_is); (case qzb => k_is); (case qzc => k_is); (case qzd => k_is))
    (case qd0 =>
      refine' Lw.defD KX G ?qza ?qzl ?qzc ?qzk ?qzT
      (case qza => k_is); (case qzl => k_is); (case qzc => k_is); (case qzk => k_is); (case qzT => k_is))
    (case qd1 =>
      refine' Lw.defD KX G ?qza ?qzl ?qzc ?qzk ?qzT
      (case qza => k_is); (case qzl => k_is); (case qzc => k_is); (case qzk => k_is); (case qzT => k_is))
    (case qd2 =>
      refine' Lw.defK KX G ?qza ?qzl ?qzc ?qzk
      (case qza => k_is); (case qzl => k_is); (case qzc => k_is); (case qzk => k_is))
    (case qd3 =>
      refine' Lw.defK KX G ?qza ?qzl ?qzc ?qzk
      (case qza => k_is); (case qzl => k_is); (case qzc => k_is); (case qzk => k_is))
    (case qd4 =>
      refine' Lw.defK KX G ?qza ?qzl ?qzc ?qzk
      (case qza => k_is); (case qzl => k_is); (case qzc => k_is); (case qzk => k_is))
    (case qd5 =>
      refine' Lw.defK KX G ?qza ?qzl ?qzc ?qzk
      (case qza => k_is); (case qzl => k_is); (case qzc => k_is); (case qzk => k_is))
    (case qd6 =>
      refine' Lw.defK KX G ?qza ?qzl ?qzc ?qzk
      (case qza => k_is); (case qzl => k_is); (case qzc => k_is); (case qzk => k_is))
    (case qd7 =>
      refine' Lw.defK KX G ?qza ?qzl ?qzc ?qzk
      (case qza => k_is); (case qzl => k_is); (case qzc => k_is); (case qzk => k_is))
    (case qd8 =>
      refine' Lw.defK KX G ?qza ?qzl ?qzc ?qzk
      (case qza => k_is); (case qzl => k_is); (case qzc => k_is); (case qzk => k_is))
    (case qd9 =>
      refine' Lw.defK KX G ?qza ?qzl ?qzc ?qzk
      (case qza => k_is); (case qzl => k_is); (case qzc => k_is); (case qzk => k_is))
    (case qd10 =>
      refine' Lw.defK KX G ?qza ?qzl ?qzc ?qzk
      (case qza => k_is); (case qzl => k_is); (case qzc => k_is); (case qzk => k_is))
    (case qd11 =>
      refine' Lw.defK KX G ?qza ?qzl ?qzc ?qzk
      (case qza => k_is); (case qzl => k_is); (case qzc => k_is); (case qzk => k_is))
    (case qd12 =>
      refine' Lw.defK KX G ?qza ?qzl ?qzc ?qzk
      (case qza => k_is); (case qzl => k_is); (case qzc => k_is); (case qzk => k_is))
    (case qd13 =>
      refine' Lw.defK KX G ?qza ?qzl ?qzc ?qzk
      (case qza => k_is); (case qzl => k_is); (case qzc => k_is); (case qzk => k_is))
    (case qd14 =>
      refine' Lw.defK KX G ?qza ?qzl ?qzc ?qzk
      (case qza => k_is); (case qzl => k_is); (case qzc => k_is); (case qzk => k_is))
    (case qd15 =>
      refine' Lw.defK KX G ?qza ?qzl ?qzc ?qzk
      (case qza => k_is); (case qzl => k_is); (case qzc => k_is); (case qzk => k_is))
    (case qd16 =>
      refine' Lw.defK KX G ?qza ?qzl ?qzc ?qzk
      (case qza => k_is); (case qzl => k_is); (case qzc => k_is); (case qzk => k_is))
    (case qd17 =>
      refine' Lw.defK KX G ?qza ?qzl ?qzc ?qzk
      (case qza => k_is); (case qzl => k_is); (case qzc => k_is); (case qzk => k_is))
    (case qd18 =>
      refine' Lw.defK KX G ?qza ?qzl ?qzc ?qzk
      (case qza => k_is); (case qzl => k_is); (case qzc => k_is); (case qzk => k_is))
    (case qd19 =>
      refine' Lw.defK KX G ?qza ?qzl ?qzc ?qzk
      (case qza => k_is); (case qzl => k_is); (case qzc => k_is); (case qzk => k_is))
    (case qd20 =>
      refine' Lw.defK KX G ?qza ?qzl ?qzc ?qzk
      (case qza => k_is); (case qzl => k_is); (case qzc => k_is); (case qzk => k_is))
    (case qd21 =>
      refine' Lw.defK KX G ?qza ?qzl ?qzc ?qzk
      (case qza => k_is); (case qzl => k_is); (case qzc => k_is); (case qzk => k_is))
    (case qd22 =>
      refine' Lw.defK KX G ?qza ?qzl ?qzc ?qzk
      (case qza => k_is); (case qzl => k_is); (case qzc => k_is); (case qzk => k_is))
    (case qd23 =>
      refine' Lw.defK KX G ?qza ?qzl ?qzc ?qzk
      (case qza => k_is); (case qzl => k_is); (case qzc => k_is); (case qzk => k_is))
    (case qd24 =>
      refine' Lw.defK KX G ?qza ?qzl ?qzc ?qzk
      (case qza => k_is); (case qzl => k_is); (case qzc => k_is); (case qzk => k_is))
    (case qd25 =>
      refine' Lw.defK KX G ?qza ?qzl ?qzc ?qzk
      (case qza => k_is); (case qzl => k_is); (case qzc => k_is); (case qzk => k_is))
    (case qd26 =>
      refine' Lw.defK KX G ?qza ?qzl ?qzc ?qzk
      (case qza => k_is); (case qzl => k_is); (case qzc => k_is); (case qzk => k_is))
    (case qd27 =>
      refine' Lw.defK KX G ?qza ?qzl ?qzc ?qzk
      (case qza => k_is); (case qzl => k_is); (case qzc => k_is); (case qzk => k_is))
    (case qd28 =>
      refine' Lw.defK KX G ?qza ?qzl ?qzc ?qzk
      (case qza => k_is); (case qzl => k_is); (case qzc => k_is); (case qzk => k_is))
    (case qd29 =>
      refine' Lw.defK KX G ?qza ?qzl ?qzc ?qzk
      (case qza => k_is); (case qzl => k_is); (case qzc => k_is); (case qzk => k_is))
    (case qd30 =>
      refine' Lw.defK KX G ?qza ?qzl ?qzc ?qzk
      (case qza => k_is); (case qzl => k_is); (case qzc => k_is); (case qzk => k_is))
    (case qd31 =>
      refine' Lw.defT KX G ?qa ?ql ?qc ?qk ?qe ?qn ?qt
      (case qa => k_is); (case ql => k_is); (case qc => k_is); (case qk => k_is); (case qe => kernel_rfl); (case qn => kernel_rfl)
      (case qt => exact PySem.W.km_tabs_of Y _ (by decide)))
    (case qd32 =>
      refine' Lw.defK KX G ?qza ?qzl ?qzc ?qzk
      (case qza => k_is); (case qzl => k_is); (case qzc => k_is); (case qzk => k_is))
    (case qB =>
      refine' Lw.bare_mk KX G ?qz
      (case qz =>
        intro x hx
        simp only [List.mem_cons, List.not_mem_nil, or_false] at hx
        rcases hx with rfl | rfl | rfl | rfl | rfl | rfl | rfl | rfl | rfl | rfl | rfl | rfl | rfl | rfl | rfl | rfl | rfl | rfl | rfl | rfl | rfl <;> k_is))
