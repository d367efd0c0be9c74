import PyProof.Rows.All
import Wide.All
import OpenK.AllK
import Wide.FinOn
import KE.KStateDown
import HandS.Base
import HandS.Call
import HandS.Exc
import HandS.Ends
import HandS.More
import HandS.Words
import HandS.WordsExc
import HandS.Defaults
import HandS.Head0
import HandS.Head1
import HandS.Head2
import HandS.HeadEnd
import HandS.HeadHook1
import HandS.HeadHook2
import HandS.HeadNt
import HandS.List
import HandS.Comp
import HandS.Iter
import HandS.Conv
import HandS.Text
import HandS.FStr
import HandS.Star
import HandS.MethStar
import HandS.Property
import HandS.ClsMeth
import HandS.OwnEq
import HandS.WideBits
import HandS.IsInst
import HandS.Flow
import HandS.WordsList
import KE.KOpsOwn
import KE.DataIsa
import OpenK.KMeth
import OpenK.KOps
import HandS.Deep
import HandS.TupAny
import HandS.SlotsOwn
import KE.GoesEnum
import KE.GoesEnumKw
import HandS.EndBits
import HandS.NoneIn
import HandS.Walk
import HandS.MakeKw
import HandS.Lambda
import HandS.SetFor
import HandS.Strs
import HandS.TupSets
import HandS.Sort
import HandS.SortInts
import PyProof.ReprLen
import PySem.Challenge.RW_onceseen_k11_whole_versions_by_looking_t
set_option Elab.async false
set_option linter.all false
set_option maxRecDepth 100000
/-! the head's facts: any Bool of the written part, each def by its place -/
namespace Lw
open PySem PySem.Spec PyProof.Rows L2 He
abbrev Frag := PySem.W.Frag
abbrev DefA := He5.DefA
def obsB (fs : List (Frag → Bool)) (fn : List DefA) (K : Frag) : He.AlD := ((fs.all fun f => f K) && fn.all fun d => d.ok K, fn.map fun d => He5.fnA K (d.at_ K))
def valB (fn : List DefA) : He.AlD := (true, fn.map He5.DefA.val)
def SaysB (fs : List (Frag → Bool)) (fn : List DefA) (K : Frag) : Prop := obsB fs fn K = valB fn
def obsBG (n : Nat) (fs : List (Frag → Bool)) (fn : List DefA) (g : Addr → Option Obj) : He.AlD := obsB fs fn (frG g (He5.asA g n))
def hookB (n : Nat) (fs : List (Frag → Bool)) (fn : List DefA) : PySem.W.Hook where
  α := He.AlD
  obs := fun s => obsBG n fs fn s.heap.get?
  val := fun _ => valB fn
  says := fun _ h => ∃ K : Frag, K.In h ∧ SaysB fs fn K
  of := fun _ _ e => ⟨_, frG_in, e⟩
  keeps := fun _ _ _ ⟨K, hK, c⟩ k => ⟨K, PySem.W.Frag.In.keeps hK k, c⟩
theorem obsBG_eq {n : Nat} {fs : List (Frag → Bool)} {fn : List DefA} {g : Addr → Option Obj} {s : Shared} (h : ∀ a, g a = s.heap.get? a) : obsBG n fs fn g = (hookB n fs fn).obs s := by
  have e : g = s.heap.get? := funext h
  rw [e] <;> rfl
section
variable {fs : List (Frag → Bool)} {fn : List DefA} {K : Frag}
theorem SaysB.fact (c : SaysB fs fn K) {f : Frag → Bool} (h : f ∈ fs) : f K = true := by
  have c1 := (ba (show ((fs.all fun f => f K) && fn.all fun d => d.ok K) = true from congrArg (fun z : He.AlD => z.1) c)).1
  exact List.all_eq_true.mp c1 f h
theorem SaysB.def_ (c : SaysB fs fn K) (i : Nat) {d : DefA} (h : fn[i]? = some d) : ∃ fd, L2.FunD K d.name d.qual d.params d.body d.scope (d.dvs K) (d.kws K) (d.at_ K) fd := by
  have c2 := (ba (show ((fs.all fun f => f K) && fn.all fun d => d.ok K) = true from congrArg (fun z : He.AlD => z.1) c)).2
  have e : fn.map (fun d => He5.fnA K (d.at_ K)) = fn.map He5.DefA.val := congrArg (fun z : He.AlD => z.2) c
  have e2 : (fn.map fun d => He5.fnA K (d.at_ K))[i]? = (fn.map He5.DefA.val)[i]? := by rw [e]
  rw [List.getElem?_map, List.getElem?_map, h] at e2
  exact He5.DefA.funD (Option.some.inj e2) (List.all_eq_true.mp c2 d (List.mem_of_getElem? h))
end
/-! facts as Bools -/
def bGlo (x : Str) (K : Frag) : Bool := eqO (PySem.W.nsIn K mainGlobals x) (some (some (.ref (ga K x))))
def bFree (x : Str) (K : Frag) : Bool := eqO (PySem.W.nsIn K mainGlobals x) (some none)
def bCls (x : Str) (K : Frag) : Bool := (Fa.cls x).ok K
def bNoat (x f : Str) (K : Frag) : Bool := eqO (PySem.W.findIn K (.ref (ga K x)) f) (some none)
def bMeth (x m : Str) (K : Frag) : Bool := (Fa.meth x m).ok K
def bMkr (x : Str) (K : Frag) : Bool := (Fa.mkr x).ok K
/-- a property: its record p, its getter g -/
def pg (K : Frag) (C m : Str) : Addr := He5.wf K (ga K C) "property" m
def bProp (C m : Str) (K : Frag) : Bool := eqO (PySem.W.findIn K (.ref (ga K C)) m) (some (some (.ref (ma K (ga K C) m)))) &&
  (eqO (PySem.W.specialIn K (.ref (ma K (ga K C) m)) "__get__") (some (some (.builtin "property.__get__"))) &&
  (decide (PySem.W.takesIn K (.ref (ma K (ga K C) m)) = some true) && (match PySem.W.recIn K (ma K (ga K C) m) "property" with
    | some (.ref _ :: _) => true
    | _ => false)))
end Lw

set_option Elab.async false
set_option linter.all false
set_option maxRecDepth 100000
set_option maxHeartbeats 4000000
/-! promises where no repr is under way; calls by values -/
namespace Lw
open PySem PySem.Spec PyProof.Rows L2 StX
structure RoomG (k : Nat) (A : Around) : Prop where
  room : Room k A
  gd : A.guards = some []
theorem RoomG.mono {j k : Nat} {A : Around} (r : RoomG k A) (h : j ≤ k) : RoomG j A := ⟨r.room.mono h, r.gd⟩
theorem RoomG.deeper {k : Nat} {A : Around} (r : RoomG (k + 1) A) (env : Env) : RoomG k (A.deeper env) := ⟨r.room.deeper env, r.gd⟩
theorem RoomG.in1 {k : Nat} {A : Around} (r : RoomG (k + 1) A) : RoomG k A.in1 := ⟨r.room.in1, r.gd⟩
theorem RoomG.make {k : Nat} {A : Around} (r : RoomG (k + 1) A) (C : Addr) (us : List Value) (kw : List (Str × Value)) : RoomG k (A.under (.builtin "type.__call__" ⟨.ref C :: us, kw⟩)) := by
  refine ⟨r.room.make C us kw, ?_⟩
  have e : Code.guards (.builtin "type.__call__" ⟨.ref C :: us, kw⟩) = [] := by
    first | rfl | simp [Code.guards, Code.isGuard, guardIds]
  show pushGuards (Code.guards (.builtin "type.__call__" ⟨.ref C :: us, kw⟩)) A.guards = some []
  rw [e]
  exact r.gd
theorem RoomG.units {k : Nat} {A : Around} (r : RoomG k A) : A.units + 64 < cLine := r.room.units
theorem RoomG.units0 {k : Nat} {A : Around} (r : RoomG k A) : A.units < cLine := r.room.units0
/-- a promise by positional values, no repr being under way -/
def FnG (P : Program) (w : World) (K : PySem.W.Frag) (mg : Str → Option Value) (base : Heap) (CX : CXT) (k : Nat) (f : Addr) (sp : Sp) : Prop :=
  ∀ (A : Around) (outer : List Env) (s : Shared) (H : Hp) (us : List Value) (vs : List V) (Q : VK) (E : XK), RoomG k A → Env0 P w K mg base A outer s H → Vals vs us → sp vs H Q E →
    codeAny (model P w) A (.call (.ref f) ⟨us, []⟩) (CR CX outer P w H s Q E) s
section
variable {P : Program} {w : World} {K : PySem.W.Frag} {mg : Str → Option Value} {base : Heap} {CX : CXT} {j k : Nat} {f : Addr} {sp sp' : Sp}
theorem FnG.mono (F : FnG P w K mg base CX j f sp) (h : j ≤ k) : FnG P w K mg base CX k f sp := fun A outer s H us vs Q E hr => F A outer s H us vs Q E (hr.mono h)
theorem FnG.imp (F : FnG P w K mg base CX k f sp) (h : ∀ vs H Q E, sp' vs H Q E → sp vs H Q E) : FnG P w K mg base CX k f sp' := fun A outer s H us vs Q E hr e0 r hs => F A outer s H us vs Q E hr e0 r (h _ _ _ _ hs)
end
section
variable {X : Cx} {CX : CXT} {k : Nat} {f C : Addr} {sp : Sp} {E : XK} {pins : List (Addr × Obj)} {σ : L2.St} {H : Hp} {s : Shared}
/-- how a callee's end reaches the caller -/
theorem run_gA {A : Around} {Q : VK} {us : List Value} {vs : List V} (F : FnG X.prog X.w X.K X.mg X.base CX k f sp) (hr : RoomG k A) (e0 : Env0 X.prog X.w X.K X.mg X.base A X.stack s H) (hx : Passes CX X E) (I : Inv X pins σ H s) (r : Vals vs us) (h : sp vs H Q E) :
    codeAny (model X.prog X.w) A (.call (.ref f) ⟨us, []⟩) (fun r s' => match r with | .ok (.ret v) => EP X pins σ Q v s' | .ok _ => False | .error e => X.xe e s') s := by
  refine codeAny_mono (F A X.stack s H us vs Q E hr e0 r h) fun r s' hq => ?_
  match r, hq with
  | .error e, hq => exact hx pins σ H s e s' I hq
  | .ok (.ret u), hq => exact I.after hq
  | .ok .next, hq => exact False.elim hq
  | .ok .brk, hq => exact False.elim hq
  | .ok .cont, hq => exact False.elim hq
theorem run_g {Q : VK} {us : List Value} {vs : List V} (F : FnG X.prog X.w X.K X.mg X.base CX k f sp) (hr : RoomG k X.A) (hx : Passes CX X E) (I : Inv X pins σ H s) (r : Vals vs us) (h : sp vs H Q E) :
    wpAny (model X.prog X.w) X.A (call (.ref f) us) (EP X pins σ Q) X.xe s := wpAny_call (run_gA F hr I.env0 hx I r h)
theorem run_g1 {Q : VK} {us : List Value} {vs : List V} (F : FnG X.prog X.w X.K X.mg X.base CX k f sp) (hr : RoomG (k + 1) X.A) (hx : Passes CX X E) (I : Inv X pins σ H s) (r : Vals vs us) (h : sp vs H Q E) :
    wpAny (model X.prog X.w) X.A.in1 (call (.ref f) us) (EP X pins σ Q) X.xe s := wpAny_call (run_gA F hr.in1 I.env0.in1 hx I r h)
/-- a def, called by values -/
theorem call_g (F : FnG X.prog X.w X.K X.mg X.base CX k f sp) (hr : RoomG k X.A) (hx : Passes CX X E) : CallR X (.ref f) fun vs H Q => sp vs H Q E :=
  fun pins s σ H xs us Q I r h => run_g F hr hx I r h
/-- a class, called by values: a new instance, its __init__ -/
def rMk (C : Addr) (sp : Sp) (E : XK) : List V → Hp → VK → Prop := fun vs H Q => ∀ x dx, H x = Option.none → H dx = Option.none → dx ≠ x →
  sp (V.ref x :: vs) (upd (upd H dx (.own x)) x (.ins C dx [])) (fun v H2 => v = .non ∧ Q (.ref x) H2) E
theorem call_mk (M : Mk X.K C f) (F : FnG X.prog X.w X.K X.mg X.base CX k f sp) (hr : RoomG (k + 1) X.A) (hx : Passes CX X E) : CallR X (.ref C) (rMk C sp E) := by
  intro pins s σ H xs us Q I r h
  have hq := h (s.heap.objs.size + 1) s.heap.objs.size (I.hok.fresh (Nat.le_succ _)) (I.hok.fresh (Nat.le_refl _)) (Nat.ne_of_lt (Nat.lt_succ_self _))
  have I2 := Inv.made (C := C) I
  have r2 : Vals (V.ref (s.heap.objs.size + 1) :: xs) (Value.ref (s.heap.objs.size + 1) :: us) := .cons rfl r
  refine wpAny_call (make_map (f := f) I.kIn M.makes M.init (beq_iff_eq.mp M.fn) (codeAny_mono (F _ X.stack _ _ (Value.ref (s.heap.objs.size + 1) :: us) _ _ E (hr.make C us []) (I2.env0.make C us []) r2 hq) fun r s' hq' => ?_))
  match r, hq' with
  | .error e, hq' => exact hx pins σ _ _ e s' I2 hq'
  | .ok (.ret u), hq' =>
    obtain ⟨v, H', I3, rv, ev, q3⟩ := I2.after hq'
    subst ev
    exact ⟨rv, ⟨V.ref (s.heap.objs.size + 1), H', I3, rfl, q3⟩⟩
  | .ok .next, hq' => exact False.elim hq'
  | .ok .brk, hq' => exact False.elim hq'
  | .ok .cont, hq' => exact False.elim hq'
end
/-! the forms of a call of a name of the module -/
section
variable {X : Cx} {u : Value} {x m : Str} {r : List V → Hp → VK → Prop} {e e2 o : Expr} {es : List Expr} {te ta : TE} {t : TA} {p sp_ pos apos : Pos} {C f : Addr}
theorem pe_c0 (hc : CallR X u r) (hk : PySem.W.keepIn X.K u = true) (hg : Gl X x) (hm : X.mg x = some u) (hd : (x == ("__debug__" : Str)) = false := by decide) : PE X (.Call (.Name x p) [] [] pos) (tCB r tNil) :=
  ⟨fun pins s σ H Q I h => wpAny_Call_Name_kw (ld_glob I hg hm (PySem.W.callWith_K0 I.kIn hk (hc pins s σ H [] [] Q I .nil h)) hd)⟩
theorem pe_c (hc : CallR X u r) (hk : PySem.W.keepIn X.K u = true) (hg : Gl X x) (hm : X.mg x = some u) (ha : PA X (e :: es) t) (hd : (x == ("__debug__" : Str)) = false := by decide)
    (he : starEach (e :: es) X.env = (false, eval e X.env) :: starEach es X.env := by rfl) (hpl : (backTo pos (starEach es X.env)).any (·.1) = false := by rfl) : PE X (.Call (.Name x p) (e :: es) [] pos) (tCB r t) :=
  ⟨fun pins s σ H Q I h => wpAny_Call_Name_kw (ld_glob I hg hm (PySem.W.callWith_K (h₀ := X.base) I.ok.mod.kin hk (thn (ha.run pos pins s σ H _ I h) fun us s1 ⟨vs, H1, I1, rv, q⟩ => ⟨I1.kIn, hc pins s1 σ H1 vs us Q I1 rv q⟩) he hpl) hd)⟩
/-- x( *e) -/
theorem pe_cS (hc : CallR X u r) (hk : PySem.W.keepIn X.K u = true) (hg : Gl X x) (hm : X.mg x = some u) (he : PE X e te) (hd : (x == ("__debug__" : Str)) = false := by decide)
    (hst : starEach [.Starred e sp_] X.env = [(true, eval e X.env)] := by rfl) : PE X (.Call (.Name x p) [.Starred e sp_] [] pos) (tCB r (tStar X.K te tNil)) := by
  refine ⟨fun pins s σ H Q I h => wpAny_Call_Name_kw (ld_glob I hg hm ?_ hd)⟩
  refine PySem.W.callWith_S (h₀ := X.base) I.ok.mod.kin hk (thn (he.run pins s σ H _ I h) fun v s1 ⟨y, H1, I1, ry, a, xs, ey, hxs, q⟩ => ?_) hst
  subst ey
  obtain rfl : v = Value.ref a := ry
  refine star_any I1 hxs fun us s2 I2 rv => ⟨I2.kIn, ?_⟩
  have q' : r (xs ++ []) H1 Q := q
  rw [List.append_nil] at q'
  exact hc pins s2 σ H1 xs us Q I2 rv q'
theorem evalArgs_star2 {M : Model} {A : Around} {Ex : Value → Shared → Prop} {s : Shared} {g : Value} {y : Sem Value} {b : Bool × Sem Value} {rest : List (Bool × Sem Value)} {Q : Args → Shared → Prop}
    (h : wpAny M A (spliced ((true, y) :: b :: rest)) (fun vs s' => Q ⟨vs, []⟩ s') Ex s) : wpAny M A (evalArgs g true ((true, y) :: b :: rest) []) Q Ex s := by
  unfold evalArgs
  show wpAny M A (spliced ((true, y) :: b :: rest) >>= _) Q Ex s
  refine wpAny_bind (wpAny_mono h (fun vs s' h' => ?_) fun _ _ x => x)
  refine wpAny_holding ?_
  exact wpAny_bind (wpAny_pure (wpAny_bind (wpAny_pure (wpAny_pure h'))))
/-- x( *e, e2, ..) -/
theorem pe_cS2 (hc : CallR X u r) (hk : PySem.W.keepIn X.K u = true) (hg : Gl X x) (hm : X.mg x = some u) (ha : PA X (.Starred e sp_ :: e2 :: es) t) (hd : (x == ("__debug__" : Str)) = false := by decide)
    (hst : ∃ y b rest, backTo pos (starEach (.Starred e sp_ :: e2 :: es) X.env) = (true, y) :: b :: rest := by exact ⟨_, _, _, rfl⟩) : PE X (.Call (.Name x p) (.Starred e sp_ :: e2 :: es) [] pos) (tCB r t) := by
  refine ⟨fun pins s σ H Q I h => wpAny_Call_Name_kw (ld_glob I hg hm ?_ hd)⟩
  have z := ha.run pos pins s σ H _ I h
  obtain ⟨y, b, rest, hb⟩ := hst
  rw [hb] at z
  show wpAny _ _ (callWith pos u [] (backTo pos (starEach (.Starred e sp_ :: e2 :: es) X.env)) []) _ _ _
  rw [hb]
  exact PySem.W.ks_call rfl (PySem.W.keeps_K hk) (evalArgs_star2 (thn z fun us s1 ⟨vs, H1, I1, rv, q⟩ => ⟨I1.kIn, hc pins s1 σ H1 vs us Q I1 rv q⟩))
/-- o.m(..), m a plain def of the class of o -/
def tMC (C : Addr) (m : Str) (r : List V → Hp → VK → Prop) (ta : TE) (t : TA) : TE := fun σ H Q => ta σ H fun x H1 => ∃ a dx fs, x = .ref a ∧ H1 a = some (.ins C dx fs) ∧ fs.lookup m = none ∧ t σ H1 fun vs H2 => r (x :: vs) H2 Q
theorem pe_m {pl : Sem Bool} (hc : CallR X (.ref f) r) (he : PE X o ta) (c : Cls X.K C) (hm : Meth X.K C m f) (ha : PA X (e :: es) t)
    (hst : starEach (e :: es) X.env = (false, eval e X.env) :: starEach es X.env := by rfl) (hpl : (backTo pos (starEach es X.env)).any (·.1) = false := by rfl)
    (ht : eval (.Call (.Attribute o m apos) (e :: es) [] pos) X.env = (do
      let ov ← eval o X.env
      standAt apos.atName
      let (f, first) ← holding [ov] (getMethod ov m pl)
      callWith pos f first (backTo pos (starEach (e :: es) X.env)) (backToKw pos (keywordEach [] X.env))) := by rfl) :
    PE X (.Call (.Attribute o m apos) (e :: es) [] pos) (tMC C m r ta t) := by
  refine ⟨fun pins s σ H Q I h => ?_⟩
  refine PySem.W.methodCall_KW (pl := pl) (thn (he.run pins s σ H _ I h) fun u s1 ⟨x, H1, I1, rx, a, dx, fs, ex, ea, l, q⟩ => ?_) ht
  subst ex
  obtain rfl : u = Value.ref a := rx
  refine getmeth_ok I1 ea c hm l (PySem.W.callWith_K (first := [.ref a]) (h₀ := X.base) I.ok.mod.kin hm.kp (thn (ha.run pos pins s1 σ H1 _ I1 q) fun us s2 ⟨vs, H2, I2, rv, q2⟩ => ⟨I2.kIn, ?_⟩) hst hpl)
  exact hc pins s2 σ H2 (.ref a :: vs) (.ref a :: us) Q I2 (.cons rfl rv) q2
theorem pe_m0 {pl : Sem Bool} (hc : CallR X (.ref f) r) (he : PE X o ta) (c : Cls X.K C) (hm : Meth X.K C m f)
    (ht : eval (.Call (.Attribute o m apos) [] [] pos) X.env = (do
      let ov ← eval o X.env
      standAt apos.atName
      let (f, first) ← holding [ov] (getMethod ov m pl)
      callWith pos f first (backTo pos (starEach [] X.env)) (backToKw pos (keywordEach [] X.env))) := by rfl) :
    PE X (.Call (.Attribute o m apos) [] [] pos) (tMC C m r ta tNil) := by
  refine ⟨fun pins s σ H Q I h => ?_⟩
  refine PySem.W.methodCall_KW (pl := pl) (thn (he.run pins s σ H _ I h) fun u s1 ⟨x, H1, I1, rx, a, dx, fs, ex, ea, l, q⟩ => ?_) ht
  subst ex
  obtain rfl : u = Value.ref a := rx
  exact getmeth_ok I1 ea c hm l (PySem.W.callWith_K0 (first := [.ref a]) I1.kIn hm.kp (hc pins s1 σ H1 [.ref a] [.ref a] Q I1 (.cons rfl .nil) q))
/-- e.f, a property -/
def tPr (C : Addr) (sp : Sp) (E : XK) (ta : TE) : TE := fun σ H Q => ta σ H fun x H1 => ∃ a dx fs, x = .ref a ∧ H1 a = some (.ins C dx fs) ∧ sp [.ref a] H1 Q E
theorem pe_pr {CX : CXT} {k : Nat} {sp : Sp} {E : XK} {g : Addr} {fn : Str} {q : Addr} (he : PE X e ta) (c : Cls X.K C) (hp : PropOf X.K C fn q g) (F : FnG X.prog X.w X.K X.mg X.base CX k g sp) (hr : RoomG (k + 1) X.A) (hx : Passes CX X.nox E)
    (hab : attributeBase e fn X.env (eval e X.env) = eval e X.env := by rfl) : PE X (.Attribute e fn pos) (tPr C sp E ta) := by
  refine ⟨fun pins s σ H Q I h => ?_⟩
  refine attr_of hab (thn (he.run pins s σ H _ I h) fun u s1 ⟨x, H1, I1, rx, a, dx, fs, ex, ea, q⟩ => ?_)
  subst ex
  obtain rfl : u = Value.ref a := rx
  obtain ⟨mA, O, _, _, _, _⟩ := ins_get I1.hok ea
  obtain ⟨od, J, _⟩ := O.look
  obtain ⟨rest, hrec⟩ := hp.rec_
  have I2 := I1.tok (s1.toks + 1)
  have hc : (PySem.W.clsIn X.K C).isSome = true := by
    obtain ⟨cd, hc, _⟩ := PySem.W.any_some c.hd
    rw [hc]
    rfl
  refine PySem.W.get_bind I1.kIn J (PySem.W.plainGet_of (c.get fn)).1 (PySem.W.findObj_data hc hp.at_ hp.get hp.tak) (PySem.W.plainGet_of (c.get fn)).2 (wpAny_call (PySem.W.prop_get (s := { s1 with toks := s1.toks + 1 }) I1.kIn hrec ?_))
  refine codeAny_mono (F X.A.in1 X.stack { s1 with toks := s1.toks + 1 } H1 [.ref a] [.ref a] Q E hr.in1 I2.env0.in1 (.cons rfl .nil) q) fun r s' hq => ?_
  match r, hq with
  | .error er, hq => exact False.elim (hx pins σ H1 { s1 with toks := s1.toks + 1 } er s' (I2.wish _) hq)
  | .ok (.ret u), hq =>
    obtain ⟨v, H', I3, rv, q3⟩ := I2.after hq
    show wpAny _ _ (handedOut u) _ _ _
    rw [PySem.W.handedOut_of (handed_of rv)]
    exact wpAny_pure ⟨v, H', I3, rv, q3⟩
  | .ok .next, hq => exact False.elim hq
  | .ok .brk, hq => exact False.elim hq
  | .ok .cont, hq => exact False.elim hq
end
end Lw

set_option Elab.async false
set_option linter.all false
set_option maxRecDepth 100000
set_option maxHeartbeats 4000000
/-! data that stands: Dx S H v d: v is the data d, read off H at addresses that are not among S (S: what may still change) -/
namespace Lw
open PySem PySem.Spec PyProof.Rows L2 StX
/-- all but what stands at S is kept -/
def Kp (S : List Addr) (H H' : Hp) : Prop := ∀ a o, a ∉ S → H a = some o → H' a = some o
theorem Kp.refl {S : List Addr} {H : Hp} : Kp S H H := fun _ _ _ h => h
theorem Kp.trans {S : List Addr} {H H1 H2 : Hp} (a : Kp S H H1) (b : Kp S H1 H2) : Kp S H H2 := fun x o n h => b x o n (a x o n h)
theorem Kp.mono {S S' : List Addr} {H H' : Hp} (k : Kp S H H') (h : ∀ a, a ∈ S → a ∈ S') : Kp S' H H' := fun a o n e => k a o (fun z => n (h a z)) e
theorem Kp.new {S : List Addr} {H : Hp} {p : Addr} {o : HO} (h : H p = none) : Kp S H (upd H p o) := fun a u _ e => by
  rw [upd_ne (ne_of_none e h)]
  exact e
theorem Kp.mut {S : List Addr} {H : Hp} {p : Addr} {o : HO} (h : p ∈ S) : Kp S H (upd H p o) := fun a u n e => by
  have ne : a ≠ p := fun z => n (z ▸ h)
  rw [upd_ne ne]
  exact e
/-- a new object, changed later on -/
theorem Kp.newS {S : List Addr} {H H' : Hp} {p : Addr} (k : Kp (p :: S) H H') (h : H p = none) : Kp S H H' := fun a u n e => k a u (fun z => by
  rcases List.mem_cons.mp z with z | z
  · rw [z, h] at e
    cases e
  · exact n z) e
theorem Kp.free {S : List Addr} {H H' : Hp} (k : Kp S H H') {p : Addr} (n : p ∉ S) (h : H' p = none) : H p = none := by
  cases q : H p with
  | none => rfl
  | some o =>
    rw [k p o n q] at h
    cases h
theorem Kp.freeS {S : List Addr} {H H' : Hp} (k : Kp S H H') {p : Addr} (hS : ∀ a ∈ S, ∃ o, H' a = some o) (h : H' p = none) : H p = none := k.free (fun z => by
  obtain ⟨o, e⟩ := hS p z
  rw [h] at e
  cases e) h

mutual
inductive Dx (S : List Addr) (H : Hp) : V → PyData → Prop
  | non : Dx S H .non .none
  | bl (b : Bool) : Dx S H (.bl b) (.bool b)
  | int (i : Int) : Dx S H (.int i) (.int i)
  | str (x : Str) : Dx S H (.str x) (.str x)
  | lst {a : Addr} {xs : List V} {ds : List PyData} (n : a ∉ S) (e : H a = some (.lst xs)) (h : DxA S H xs ds) : Dx S H (.ref a) (.list ds)
  | tup {a : Addr} {xs : List V} {ds : List PyData} (n : a ∉ S) (e : H a = some (.tup xs)) (h : DxA S H xs ds) : Dx S H (.ref a) (.tuple ds)
inductive DxA (S : List Addr) (H : Hp) : List V → List PyData → Prop
  | nil : DxA S H [] []
  | cons {v : V} {vs : List V} {d : PyData} {ds : List PyData} (h : Dx S H v d) (t : DxA S H vs ds) : DxA S H (v :: vs) (d :: ds)
end
mutual
theorem Dx.dp {K : PySem.W.Frag} {S : List Addr} {H : Hp} : ∀ {v : V} {d : PyData}, Dx S H v d → Dp K H v d
  | _, _, .non => .non
  | _, _, .bl b => .bl b
  | _, _, .int i => .int i
  | _, _, .str x => .str x
  | _, _, .lst _ e h => .lst (SqL.of e) (DxA.dp h)
  | _, _, .tup _ e h => .tup (SqT.of e) (DxA.dp h)
theorem DxA.dp {K : PySem.W.Frag} {S : List Addr} {H : Hp} : ∀ {vs : List V} {ds : List PyData}, DxA S H vs ds → DpAll K H vs ds
  | _, _, .nil => .nil
  | _, _, .cons h t => .cons (Dx.dp h) (DxA.dp t)
end
mutual
theorem Dx.keep {S : List Addr} {H H' : Hp} (k : Kp S H H') : ∀ {v : V} {d : PyData}, Dx S H v d → Dx S H' v d
  | _, _, .non => .non
  | _, _, .bl b => .bl b
  | _, _, .int i => .int i
  | _, _, .str x => .str x
  | _, _, .lst n e h => .lst n (k _ _ n e) (DxA.keep k h)
  | _, _, .tup n e h => .tup n (k _ _ n e) (DxA.keep k h)
theorem DxA.keep {S : List Addr} {H H' : Hp} (k : Kp S H H') : ∀ {vs : List V} {ds : List PyData}, DxA S H vs ds → DxA S H' vs ds
  | _, _, .nil => .nil
  | _, _, .cons h t => .cons (Dx.keep k h) (DxA.keep k t)
end
mutual
/-- nothing of it stands at an address that H does not know (or that S has already) -/
theorem Dx.wid {S S' : List Addr} {H : Hp} (w : ∀ a, a ∈ S' → a ∈ S ∨ H a = none) : ∀ {v : V} {d : PyData}, Dx S H v d → Dx S' H v d
  | _, _, .non => .non
  | _, _, .bl b => .bl b
  | _, _, .int i => .int i
  | _, _, .str x => .str x
  | _, _, .lst n e h => .lst (fun z => (w _ z).elim n fun q => by rw [q] at e; cases e) e (DxA.wid w h)
  | _, _, .tup n e h => .tup (fun z => (w _ z).elim n fun q => by rw [q] at e; cases e) e (DxA.wid w h)
theorem DxA.wid {S S' : List Addr} {H : Hp} (w : ∀ a, a ∈ S' → a ∈ S ∨ H a = none) : ∀ {vs : List V} {ds : List PyData}, DxA S H vs ds → DxA S' H vs ds
  | _, _, .nil => .nil
  | _, _, .cons h t => .cons (Dx.wid w h) (DxA.wid w t)
end
theorem Dx.sub {S S' : List Addr} {H : Hp} {v : V} {d : PyData} (h : Dx S H v d) (w : ∀ a, a ∈ S' → a ∈ S) : Dx S' H v d := h.wid fun a z => .inl (w a z)
theorem DxA.sub {S S' : List Addr} {H : Hp} {v : List V} {d : List PyData} (h : DxA S H v d) (w : ∀ a, a ∈ S' → a ∈ S) : DxA S' H v d := h.wid fun a z => .inl (w a z)
theorem DxA.length {S : List Addr} {H : Hp} : ∀ {vs : List V} {ds : List PyData}, DxA S H vs ds → vs.length = ds.length
  | _, _, .nil => rfl
  | _, _, .cons _ t => congrArg (· + 1) t.length
theorem DxA.get {S : List Addr} {H : Hp} : ∀ {vs : List V} {ds : List PyData} {i : Nat} {v : V}, DxA S H vs ds → vs[i]? = some v → ∃ d, ds[i]? = some d ∧ Dx S H v d
  | _, _, _, _, .nil, e => by simp at e
  | _, _, 0, _, .cons h _, e => by
    simp at e
    subst e
    exact ⟨_, rfl, h⟩
  | _, _, i + 1, v, .cons _ t, e => by
    obtain ⟨d, h1, h2⟩ := DxA.get (i := i) (v := v) t (by simpa using e)
    exact ⟨d, by simpa using h1, h2⟩
theorem DxA.getD {S : List Addr} {H : Hp} {vs : List V} {ds : List PyData} {i : Nat} {d : PyData} (h : DxA S H vs ds) (e : ds[i]? = some d) : ∃ v, vs[i]? = some v ∧ Dx S H v d := by
  have hl := h.length
  have hi : i < vs.length := by
    have := (List.getElem?_eq_some_iff.mp e).1
    omega
  obtain ⟨d', e1, e2⟩ := h.get (List.getElem?_eq_getElem hi)
  rw [e] at e1
  cases e1
  exact ⟨_, List.getElem?_eq_getElem hi, e2⟩
theorem DxA.append {S : List Addr} {H : Hp} {vs ws : List V} {ds es : List PyData} (h : DxA S H vs ds) (k : DxA S H ws es) : DxA S H (vs ++ ws) (ds ++ es) := by
  induction vs generalizing ds with
  | nil =>
    cases h
    exact k
  | cons v vs ih =>
    cases h with
    | cons h t => exact .cons h (ih t)
theorem DxA.snoc {S : List Addr} {H : Hp} {vs : List V} {ds : List PyData} {v : V} {d : PyData} (h : DxA S H vs ds) (k : Dx S H v d) : DxA S H (vs ++ [v]) (ds ++ [d]) := h.append (.cons k .nil)
theorem DxA.take {S : List Addr} {H : Hp} {vs : List V} {ds : List PyData} (n : Nat) (h : DxA S H vs ds) : DxA S H (vs.take n) (ds.take n) := by
  induction vs generalizing ds n with
  | nil =>
    cases h
    simp
    exact .nil
  | cons v vs ih =>
    cases h with
    | cons h t =>
      cases n with
      | zero => exact .nil
      | succ n => exact .cons h (ih n t)
theorem DxA.drop {S : List Addr} {H : Hp} {vs : List V} {ds : List PyData} (n : Nat) (h : DxA S H vs ds) : DxA S H (vs.drop n) (ds.drop n) := by
  induction vs generalizing ds n with
  | nil =>
    cases h
    simp
    exact .nil
  | cons v vs ih =>
    cases h with
    | cons h t =>
      cases n with
      | zero => exact .cons h t
      | succ n => exact ih n t
theorem DxA.ints {S : List Addr} {H : Hp} : ∀ ns : List Int, DxA S H (ns.map V.int) (ns.map PyData.int)
  | [] => .nil
  | n :: ns => .cons (.int n) (DxA.ints ns)
theorem DxA.ints_eq {S : List Addr} {H : Hp} : ∀ {ns : List Int} {vs : List V}, DxA S H vs (ns.map PyData.int) → vs = ns.map V.int
  | [], _, .nil => rfl
  | n :: ns, _, .cons h t => by
    cases h
    rw [DxA.ints_eq t]
    rfl
theorem DxA.new {S : List Addr} {H : Hp} {p : Addr} {o : HO} {vs : List V} {ds : List PyData} (h : DxA S H vs ds) (n : H p = none) : DxA S (upd H p o) vs ds := h.keep (.new n)
theorem Dx.new {S : List Addr} {H : Hp} {p : Addr} {o : HO} {v : V} {d : PyData} (h : Dx S H v d) (n : H p = none) : Dx S (upd H p o) v d := h.keep (.new n)
theorem Dx.tupN {S : List Addr} {H : Hp} {p : Addr} {vs : List V} {ds : List PyData} (h : DxA S H vs ds) (n : H p = none) (nS : p ∉ S) : Dx S (upd H p (.tup vs)) (.ref p) (.tuple ds) := .tup nS upd_same (h.new n)
theorem Dx.lstN {S : List Addr} {H : Hp} {p : Addr} {vs : List V} {ds : List PyData} (h : DxA S H vs ds) (n : H p = none) (nS : p ∉ S) : Dx S (upd H p (.lst vs)) (.ref p) (.list ds) := .lst nS upd_same (h.new n)

/-! ### typed data -/
class En (α : Type) where
  enc : α → PyData
class Py (α : Type) extends En α where
  dep : Nat
  eqv : ∀ a b, PyData.eqv (enc a) (enc b) = true ↔ a = b
  lay : ∀ a, (enc a).canLay0 = true
  dle : ∀ a, (enc a).depth ≤ dep
open En (enc)
instance : En Int where
  enc := .int
instance {α β : Type} [En α] [En β] : En (α × β) where
  enc := fun p => .tuple [enc p.1, enc p.2]
instance {α : Type} [En α] : En (List α) where
  enc := fun as => .list (as.map enc)
/-- a tuple of any length -/
structure Tu (α : Type) where
  l : List α
instance {α : Type} [DecidableEq α] : DecidableEq (Tu α) := fun a b => decidable_of_iff (a.l = b.l) ⟨fun h => by cases a; cases b; cases h; rfl, fun h => by rw [h]⟩
instance {α : Type} [En α] : En (Tu α) where
  enc := fun as => .tuple (as.l.map enc)
instance : Py Int where
  dep := 0
  eqv := fun a b => by simp [enc, PyData.eqv]
  lay := fun a => by simp [enc, PyData.canLay0]
  dle := fun a => by simp [enc, PyData.depth]
instance {α β : Type} [Py α] [Py β] : Py (α × β) where
  dep := max (Py.dep α) (Py.dep β) + 1
  eqv := fun a b => by
    show PyData.eqv (.tuple [enc a.1, enc a.2]) (.tuple [enc b.1, enc b.2]) = true ↔ a = b
    simp only [PyData.eqv, PyData.eqvAll, Bool.and_eq_true, Bool.and_true, Py.eqv]
    constructor
    · rintro ⟨h1, h2⟩
      exact Prod.ext h1 h2
    · rintro rfl
      exact ⟨rfl, rfl⟩
  lay := fun a => by
    show (PyData.tuple [enc a.1, enc a.2]).canLay0 = true
    simp [PyData.canLay0, PyData.canLayAll0, Py.lay]
  dle := fun a => by
    have h1 := Py.dle a.1
    have h2 := Py.dle a.2
    show (PyData.tuple [enc a.1, enc a.2]).depth ≤ _
    simp only [PyData.depth, PyData.depthAll]
    omega
theorem eqvAll_enc {α : Type} [Py α] : ∀ as bs : List α, PyData.eqvAll (as.map enc) (bs.map enc) = true ↔ as = bs
  | [], [] => by simp [PyData.eqvAll]
  | [], b :: bs => by simp [PyData.eqvAll]
  | a :: as, [] => by simp [PyData.eqvAll]
  | a :: as, b :: bs => by simp [PyData.eqvAll, Py.eqv, eqvAll_enc as bs]
theorem layAll_enc {α : Type} [Py α] : ∀ as : List α, PyData.canLayAll0 (as.map enc) = true
  | [] => by simp [PyData.canLayAll0]
  | a :: as => by simp [PyData.canLayAll0, Py.lay, layAll_enc as]
theorem depAll_enc {α : Type} [Py α] : ∀ as : List α, PyData.depthAll (as.map enc) ≤ Py.dep α
  | [] => by simp [PyData.depthAll]
  | a :: as => by
    have h1 := depAll_enc as
    have h2 := Py.dle a
    simp only [List.map_cons, PyData.depthAll]
    omega
instance {α : Type} [Py α] : Py (List α) where
  dep := Py.dep α + 1
  eqv := fun a b => by
    show PyData.eqv (.list (a.map enc)) (.list (b.map enc)) = true ↔ a = b
    simp only [PyData.eqv, eqvAll_enc]
  lay := fun a => by
    show (PyData.list (a.map enc)).canLay0 = true
    simp only [PyData.canLay0, layAll_enc]
  dle := fun a => by
    have h1 := depAll_enc a
    show (PyData.list (a.map enc)).depth ≤ _
    simp only [PyData.depth]
    omega
instance {α : Type} [Py α] : Py (Tu α) where
  dep := Py.dep α + 1
  eqv := fun a b => by
    obtain ⟨a⟩ := a
    obtain ⟨b⟩ := b
    show PyData.eqv (.tuple (a.map enc)) (.tuple (b.map enc)) = true ↔ Tu.mk a = Tu.mk b
    simp only [PyData.eqv, eqvAll_enc, Tu.mk.injEq]
  lay := fun a => by
    show (PyData.tuple (a.l.map enc)).canLay0 = true
    simp only [PyData.canLay0, layAll_enc]
  dle := fun a => by
    have h1 := depAll_enc a.l
    show (PyData.tuple (a.l.map enc)).depth ≤ _
    simp only [PyData.depth]
    omega
theorem shaped_enc {α : Type} [Py α] (h : Py.dep α ≤ 64) (a : α) : SeqAt.shaped (enc a) = true := by
  show ((enc a).canLay0 && decide ((enc a).depth ≤ 64)) = true
  rw [Py.lay, decide_eq_true (Nat.le_trans (Py.dle a) h)]
  rfl
theorem eqv_enc {α : Type} [Py α] [DecidableEq α] (a b : α) : PyData.eqv (enc a) (enc b) = decide (a = b) := by
  by_cases h : a = b
  · rw [decide_eq_true h]
    exact (Py.eqv a b).mpr h
  · rw [decide_eq_false h]
    cases q : PyData.eqv (enc a) (enc b) with
    | false => rfl
    | true => exact absurd ((Py.eqv a b).mp q) h
/-- v is the data a -/
abbrev De {α : Type} [En α] (S : List Addr) (H : Hp) (v : V) (a : α) : Prop := Dx S H v (enc a)
abbrev DeA {α : Type} [En α] (S : List Addr) (H : Hp) (vs : List V) (as : List α) : Prop := DxA S H vs (as.map enc)
end Lw

set_option Elab.async false
set_option linter.all false
set_option maxRecDepth 100000
set_option maxHeartbeats 4000000
/-! operators of own classes -/
namespace Lw
open PySem PySem.Spec PyProof.Rows L2 StX
section
open PySem.W (clsIn findIn isFn subIn typeIn notFirst selfFirst noSeq fnIn)
variable {X : Cx} {CX : CXT} {k : Nat} {f C : Addr} {sp : Sp} {E : XK} {pins : List (Addr × Obj)} {σ : L2.St} {H : Hp} {s : Shared}
theorem looks_is {M : Model} {h : Heap} {v : Value} {T : String} (ht : ∀ s : Shared, (∀ b o, h.get? b = some o → s.heap.get? b = some o) → s.TypeIs v T) : PySem.W.Looks M h (typeOf v) (.type T) :=
  fun A Q E s kp q => wpAny_typeOf (ht s kp) q
/-- what type an operand has -/
theorem looks_ty {M : Model} {y : V} {u : Value} {T : String} (I : Inv X pins σ H s) (ry : RelV y u) (ty : TyOf X.K H y (.type T)) : PySem.W.Looks M s.heap (typeOf u) (.type T) := by
  generalize hT : Value.type T = t at ty
  cases ty with
  | non =>
    cases hT
    cases ry
    exact .of_pure rfl
  | bl b =>
    cases hT
    cases ry
    exact .of_pure rfl
  | int i =>
    cases hT
    obtain ⟨t, rfl⟩ := ry
    exact .of_pure rfl
  | str x =>
    cases hT
    obtain ⟨t, rfl⟩ := ry
    exact .of_pure rfl
  | flt x =>
    cases hT
    obtain ⟨t, rfl⟩ := ry
    exact .of_pure rfl
  | @lst a xs e =>
    cases hT
    cases ry
    obtain ⟨_, _, n, _, h1⟩ := (show ObjOk X.prog X.w H s.heap a (.lst xs) from I.hok a _ e)
    exact looks_is fun s' kp => ⟨_, kp _ _ h1, rfl⟩
  | @frz a ob xs e =>
    cases hT
    cases ry
    obtain ⟨_, _, _, n, _, h1⟩ := (show ObjOk X.prog X.w H s.heap a (.frz ob (.lst xs)) from I.hok a _ e)
    exact looks_is fun s' kp => ⟨_, kp _ _ h1, rfl⟩
  | @tup a xs e =>
    cases hT
    cases ry
    obtain ⟨_, _, _, o, h1, h2, _⟩ := (show ObjOk X.prog X.w H s.heap a (.tup xs) from I.hok a _ e)
    exact looks_is fun s' kp => ⟨o, kp _ _ h1, h2⟩
  | @dK a kvs e =>
    cases hT
    cases ry
    obtain ⟨_, _, vs, _, o, es, ep, h1, h2, _⟩ := (show ObjOk X.prog X.w H s.heap a (.dK kvs) from I.hok a _ e)
    exact looks_is fun s' kp => ⟨o, kp _ _ h1, h2.1⟩
  | @dT a kvs e =>
    cases hT
    cases ry
    obtain ⟨_, _, xs, _, o, es, ep, h1, h2, _⟩ := (show ObjOk X.prog X.w H s.heap a (.dT kvs) from I.hok a _ e)
    exact looks_is fun s' kp => ⟨o, kp _ _ h1, h2.1⟩
  | ins e => cases hT
theorem ins_at {a dx : Addr} {fs : List (Str × V)} (I : Inv X pins σ H s) (e : H a = some (.ins C dx fs)) : ∃ od, PySem.W.InstAt s.heap a (PySem.W.instObj C dx) C (some od) := by
  obtain ⟨mA, O, _⟩ := ins_get I.hok e
  obtain ⟨od, J, _⟩ := O.look
  exact ⟨od, J⟩
/-- a op b: a an instance of C, b of a built-in type -/
structure BinOwn (K : PySem.W.Frag) (op : Operator) (C f : Addr) : Prop where
  first : selfFirst K C = true
  at_ : findIn K (.ref C) (PySem.dunder op.info.2) = some (some (.ref f))
  fn : isFn K (.ref f) = true
  refl : findIn K (.ref C) (dunderR op.info.2) = some none
theorem binT {prog : Program} {w : World} {A : Around} {E : Value → Shared → Prop} {s : Shared} {K : PySem.W.Frag} {x C L f : Addr} {h₀ : Heap} {m : Str → Option Value} {ox : Obj} {od : Option Obj} {T : String} {op : Operator} {b : Value} {fo ro : Option Value} {Q : Value → Shared → Prop} (F : Fr h₀ L s.heap m) (X₀ : K.In h₀) (I : PySem.W.InstAt s.heap x ox C od) (hb : PySem.W.Looks (model prog w) s.heap (typeOf b) (.type T)) (B : BinOwn K op C f)
    (h1 : findIn K (.type T) (PySem.dunder op.info.2) = some fo) (h2 : findIn K (.type T) (dunderR op.info.2) = some ro) (hsub : subIn K (.type T) (.ref C) = some false)
    (h : wpAny (model prog w) A (call (.ref f) [.ref x, b]) (PySem.W.CmpBack Q) E s) : wpAny (model prog w) A (binaryOp op (.ref x) b) Q E s := by
  have X := X₀.keeps F.keep
  obtain ⟨cd, rest, hcd, hm⟩ := PySem.W.ksp_first B.first
  obtain ⟨_, hs, hf, hr⟩ := B
  rcases hi : op.info with ⟨sym, nm'⟩
  rw [hi] at hs hr h1 h2
  dsimp only at hs hr h1 h2
  have one := PySem.W.ksp_try X I hs hf h
  obtain ⟨hh, g, d, tt, os⟩ := s
  have L1 : PySem.W.Looks (model prog w) hh (typeOf (.ref x)) (.ref C) := I.type
  have L2 : PySem.W.Looks (model prog w) hh (typeOf b) (.type T) := hb
  have L3 : PySem.W.Looks (model prog w) hh (fillsNumberSlot (.ref C) nm') true := PySem.W.fills_K X hcd hm hs
  have L4 : PySem.W.Looks (model prog w) hh (fillsNumberSlot (.type T) nm') ((fo.isSome && !isSeqSlot fo) || (ro.isSome && !isSeqSlot ro)) := PySem.W.ksp_fillsT X h1 h2
  have L5 : PySem.W.Looks (model prog w) hh (isSubtype (.type T) (.ref C)) false := PySem.W.looks_subIn X hsub
  have L6 : PySem.W.Looks (model prog w) hh (numberSlotInPython (.ref C) nm') true := PySem.W.ksp_inPy X hs hr (.inl rfl)
  have L7 : PySem.W.Looks (model prog w) hh (numberSlotInPython (.type T) nm') false := PySem.W.Looks.of_pure rfl
  have L8 : PySem.W.Looks (model prog w) hh (typeLookup (.type T) (dunderR nm')) ro := PySem.W.looks_findIn X h2
  generalize ((fo.isSome && !isSeqSlot fo) || (ro.isSome && !isSeqSlot ro)) = right at L4
  have hne : (Value.ref C == Value.type T) = false := Bool.eq_false_iff.mpr fun q => by cases beq_iff_eq.mp q
  simp only [binaryOp, hi]
  refine wpAny_holding (wpAny_bind ?_)
  unfold binaryOp1
  refine wpAny_bind (L1.at (wpAny_bind (L2.at (wpAny_bind (L3.at ?_)))))
  simp only [hne, Bool.false_eq_true, if_false]
  cases right with
  | false =>
    ksp_lk
    refine wpAny_mono one (fun r s' hr' => ?_) fun _ _ e => e
    obtain ⟨v, rfl, hq⟩ := hr'
    ksp_lk
    exact hq
  | true =>
    ksp_lk
    refine wpAny_mono one (fun r s' hr' => ?_) fun _ _ e => e
    obtain ⟨v, rfl, hq⟩ := hr'
    ksp_lk
    exact hq

/-! over the layer -/
def rOwnT (K : PySem.W.Frag) (C : Addr) (T : String) (sp : Sp) (E : XK) : R2 := fun x y H Q => ∃ a dx fs, x = .ref a ∧ H a = some (.ins C dx fs) ∧ TyOf K H y (.type T) ∧ sp [x, y] H Q E
def rOwnI (C : Addr) (sp : Sp) (E : XK) : R2 := fun x y H Q => ∃ a dx fs b dy gs, x = .ref a ∧ y = .ref b ∧ H a = some (.ins C dx fs) ∧ H b = some (.ins C dy gs) ∧ sp [x, y] H Q E
theorem op_ownT {op : Operator} {T : String} {fo ro : Option Value} (B : BinOwn X.K op C f) (h1 : findIn X.K (.type T) (PySem.dunder op.info.2) = some fo) (h2 : findIn X.K (.type T) (dunderR op.info.2) = some ro) (hsub : subIn X.K (.type T) (.ref C) = some false)
    (F : FnG X.prog X.w X.K X.mg X.base CX k f sp) (hr : RoomG k X.A) (hx : Passes CX X E) : OpR X (binaryOp op) (rOwnT X.K C T sp E) := by
  intro pins s σ H x y v u Q I rx ry h
  obtain ⟨a, dx, fs, rfl, ha, ty, q⟩ := h
  cases (show v = Value.ref a from rx)
  obtain ⟨od, J⟩ := ins_at I ha
  obtain ⟨m, hF⟩ := I.fr
  refine binT hF I.ok.mod.kin J (looks_ty I ry ty) B h1 h2 hsub ?_
  refine wpAny_mono (run_g (us := [.ref a, u]) (vs := [.ref a, y]) F hr hx I (.cons rfl (.cons ry .nil)) q) (fun w s' z => ?_) fun _ _ x => x
  obtain ⟨z', H', I', rz, qz⟩ := z
  exact SlX.cmpback rz ⟨z', H', I', rz, qz⟩
theorem op_ownI {op : Operator} (B : BinOwn X.K op C f) (F : FnG X.prog X.w X.K X.mg X.base CX k f sp) (hr : RoomG k X.A) (hx : Passes CX X E) : OpR X (binaryOp op) (rOwnI C sp E) := by
  intro pins s σ H x y v u Q I rx ry h
  obtain ⟨a, dx, fs, b, dy, gs, rfl, rfl, ha, hb, q⟩ := h
  cases (show v = Value.ref a from rx)
  cases (show u = Value.ref b from ry)
  obtain ⟨od, J⟩ := ins_at I ha
  obtain ⟨od', J'⟩ := ins_at I hb
  obtain ⟨m, hF⟩ := I.fr
  refine PySem.W.binop_K hF I.ok.mod.kin J J'.type B.first B.at_ B.fn ?_
  refine wpAny_mono (run_g (us := [.ref a, .ref b]) (vs := [.ref a, .ref b]) F hr hx I (.cons rfl (.cons rfl .nil)) q) (fun w s' z => ?_) fun _ _ x => x
  obtain ⟨z', H', I', rz, qz⟩ := z
  exact SlX.cmpback rz ⟨z', H', I', rz, qz⟩
/-- o[i], o an instance with __getitem__ -/
structure GetOwn (K : PySem.W.Frag) (C f : Addr) : Prop where
  at_ : findIn K (.ref C) "__getitem__" = some (some (.ref f))
  fi : fnIn K f = true
  fn : isFn K (.ref f) = true
def rGet (C : Addr) (sp : Sp) (E : XK) : R2 := fun x y H Q => ∃ a dx fs, x = .ref a ∧ H a = some (.ins C dx fs) ∧ sp [x, y] H Q E
theorem pe_getOwn {a b : Expr} {ta tb : TE} {pos : Pos} (G : GetOwn X.K C f) (F : FnG X.prog X.w X.K X.mg X.base CX k f sp) (hr : RoomG (k + 1) X.A) (hx : Passes CX X E) (ha : PE X a ta) (hb : PE X b tb)
    (hs : ∀ o i, subscripted b true o i = runValue (.builtin "lifetime.subscript" ⟨[o, i], []⟩) := by intro _ _; with_unfolding_all rfl) : PE X (.Subscript a b pos) (tOp (rGet C sp E) ta tb) := by
  refine ⟨fun pins s σ H Q I h => ?_⟩
  refine Subscript_ (L2.binT ha hb I h fun v u s2 x y H2 I2 rx ry q => ?_)
  obtain ⟨p, dx, fs, rfl, hp, q⟩ := q
  cases (show v = Value.ref p from rx)
  obtain ⟨od, J⟩ := ins_at I2 hp
  obtain ⟨m, hF⟩ := I2.fr
  exact PySem.W.sub_K hF I2.ok.mod.kin J G.at_ G.fi G.fn (run_g1 (us := [.ref p, u]) (vs := [.ref p, y]) F hr hx I2 (.cons rfl (.cons ry .nil)) q) (hs _ _)
/-- repr(o), len(o) -/
def rRepr (C : Addr) (sp : Sp) (E : XK) : List V → Hp → VK → Prop := fun xs H Q => ∃ a dx fs, xs = [.ref a] ∧ H a = some (.ins C dx fs) ∧ sp xs H (fun v H' => ∃ z, v = .str z ∧ Q (.str z) H') E
theorem call_reprOwn (hs : findIn X.K (.ref C) "__repr__" = some (some (.ref f))) (hf : isFn X.K (.ref f) = true) (F : FnG X.prog X.w X.K X.mg X.base CX k f sp) (hr : RoomG (k + 1) X.A) (hx : Passes CX X E) : CallR X (.builtin "repr") (rRepr C sp E) := by
  intro pins s σ H xs us Q I r h
  obtain ⟨a, dx, fs, rfl, ha, q⟩ := h
  obtain ⟨u, rfl, ru⟩ := vals1 r
  cases (show u = Value.ref a from ru)
  obtain ⟨od, J⟩ := ins_at I ha
  obtain ⟨m, hF⟩ := I.fr
  refine PySem.W.repr_K (by have := hr.units; have e : X.A.in1.units = X.A.units + 1 := rfl; omega) hF I.ok.mod.kin J hs hf (wpAny_mono (run_g1 (us := [.ref a]) (vs := [.ref a]) F hr hx I (.cons rfl .nil) q) (fun w s' z => ?_) fun _ _ x => x)
  obtain ⟨z', H', I', rz, y, rfl, qz⟩ := z
  obtain ⟨t, rfl⟩ := rz
  exact ⟨.str y, H', I', ⟨t, rfl⟩, qz⟩
def rLen (C : Addr) (sp : Sp) (E : XK) : List V → Hp → VK → Prop := fun xs H Q => ∃ a dx fs, xs = [.ref a] ∧ H a = some (.ins C dx fs) ∧ sp xs H (fun v H' => ∃ n : Int, v = .int n ∧ 0 ≤ n ∧ n < 2 ^ 63 ∧ Q (.int n) H') E
theorem call_lenOwn (hs : findIn X.K (.ref C) "__len__" = some (some (.ref f))) (hf : isFn X.K (.ref f) = true) (F : FnG X.prog X.w X.K X.mg X.base CX k f sp) (hr : RoomG (k + 1) X.A) (hx : Passes CX X E) : CallR X (.builtin "len") (rLen C sp E) := by
  intro pins s σ H xs us Q I r h
  obtain ⟨a, dx, fs, rfl, ha, q⟩ := h
  obtain ⟨u, rfl, ru⟩ := vals1 r
  cases (show u = Value.ref a from ru)
  obtain ⟨od, J⟩ := ins_at I ha
  obtain ⟨m, hF⟩ := I.fr
  refine PySem.W.len_K hF I.ok.mod.kin J hs hf (wpAny_mono (run_g1 (us := [.ref a]) (vs := [.ref a]) F hr hx I (.cons rfl .nil) q) (fun w s' z => ?_) fun _ _ x => x)
  obtain ⟨z', H', I', rz, y, rfl, h0, h1, qz⟩ := z
  obtain ⟨t, rfl⟩ := rz
  exact ⟨⟨h0, h1⟩, .int y, H', I'.tok _, ⟨_, rfl⟩, qz⟩
/-- o == y, o != y by an own __eq__ -/
structure EqOwn (K : PySem.W.Frag) (C f : Addr) : Prop where
  at_ : findIn K (.ref C) "__eq__" = some (some (.ref f))
  fn : isFn K (.ref f) = true
  ne : findIn K (.ref C) "__ne__" = some (some (.builtin "object.__ne__"))
  obj : PySem.W.mroIn K C (.type "object") = some true
def EqTo (K : PySem.W.Frag) (C : Addr) (H : Hp) (y : V) : Prop := (∃ T, TyOf K H y (.type T) ∧ subIn K (.type T) (.ref C) = some false) ∨ ∃ b dy gs, y = .ref b ∧ H b = some (.ins C dy gs)
def rEqO (K : PySem.W.Frag) (C : Addr) (sp : Sp) (E : XK) : R2 := fun x y H Q => ∃ a dx fs, x = .ref a ∧ H a = some (.ins C dx fs) ∧ EqTo K C H y ∧ sp [x, y] H (fun v H' => ∃ c, v = .bl c ∧ Q (.bl c) H') E
def rNeO (K : PySem.W.Frag) (C : Addr) (sp : Sp) (E : XK) : R2 := fun x y H Q => ∃ a dx fs, x = .ref a ∧ H a = some (.ins C dx fs) ∧ EqTo K C H y ∧ sp [x, y] H (fun v H' => ∃ c, v = .bl c ∧ Q (.bl (!c)) H') E
theorem eqTo_looks {M : Model} {y : V} {u : Value} (I : Inv X pins σ H s) (ry : RelV y u) (h : EqTo X.K C H y) : ∃ tb, PySem.W.Looks M s.heap (typeOf u) tb ∧ notFirst X.K C tb = true := by
  rcases h with ⟨T, ty, hs⟩ | ⟨b, dy, gs, rfl, hb⟩
  · refine ⟨_, looks_ty I ry ty, ?_⟩
    unfold PySem.W.notFirst
    rw [hs]
    simp
  · cases (show u = Value.ref b from ry)
    obtain ⟨od, J⟩ := ins_at I hb
    refine ⟨_, J.type, ?_⟩
    unfold PySem.W.notFirst
    simp
theorem op_eqO (O : EqOwn X.K C f) (F : FnG X.prog X.w X.K X.mg X.base CX k f sp) (hr : RoomG k X.A) (hx : Passes CX X E) : OpR X (compareOp .Eq) (rEqO X.K C sp E) := by
  intro pins s σ H x y v u Q I rx ry h
  obtain ⟨a, dx, fs, rfl, ha, hy, q⟩ := h
  cases (show v = Value.ref a from rx)
  obtain ⟨od, J⟩ := ins_at I ha
  obtain ⟨m, hF⟩ := I.fr
  obtain ⟨tb, hb, hn⟩ := eqTo_looks (M := model X.prog X.w) I ry hy
  show wpAny _ _ (richCompare .Eq (.ref a) u) _ _ _
  refine PySem.W.cmp_K (op := .Eq) (tb := tb) hr.units0 hF I.ok.mod.kin J hb hn O.at_ O.fn ?_
  refine wpAny_mono (run_g (us := [.ref a, u]) (vs := [.ref a, y]) F hr hx I (.cons rfl (.cons ry .nil)) q) (fun w s' z => ?_) fun _ _ x => x
  obtain ⟨z', H', I', rz, c, rfl, qz⟩ := z
  exact SlX.cmpback rz ⟨_, H', I', rz, qz⟩
theorem ifBound_ne {M : Model} {A : Around} {Ex : Value → Shared → Prop} {x : Addr} {ox : Obj} {od : Option Obj} {args : List Value} {Q : Option Value → Shared → Prop} {K : PySem.W.Frag} (X : K.In s.heap) (I : PySem.W.InstAt s.heap x ox C od) (hs : findIn K (.ref C) "__ne__" = some (some (.builtin "object.__ne__")))
    (h : wpAny M A (call (.builtin "object.__ne__") (.ref x :: args)) (fun v => Q (some v)) Ex s) : wpAny M A (callSpecialIfBound? (.ref x) "__ne__" args) Q Ex s := by
  simp only [callSpecialIfBound?, bindSpecialIfBound?]
  refine wpAny_holding (wpAny_bind (wpAny_bind (wpAny_bind (I.type.here ((PySem.W.looks_findIn X hs).here ?_)))))
  refine wpAny_bind (wpAny_askSetting (wpAny_ite ?_))
  have fin : wpAny M A (call (.builtin "object.__ne__") ([.ref x] ++ args) >>= fun v => pure (some v)) Q Ex s := wpAny_bind (wpAny_mono h (fun v s' h' => wpAny_pure h') fun _ _ h' => h')
  split
  · exact wpAny_bind (wpAny_of_eq (F.cmp_object.ne.bind _) (wpAny_pure (by exact fin)))
  · exact wpAny_tryCatch (wpAny_bind (wpAny_of_eq (F.cmp_object.ne.bind _) (wpAny_pure (by exact fin))))
theorem call_objNe {prog : Program} {w : World} {A : Around} {Ex : Value → Shared → Prop} {x : Addr} {b : Value} {ox : Obj} {od : Option Obj} {Q : Value → Shared → Prop} {K : PySem.W.Frag} (X : K.In s.heap) (I : PySem.W.InstAt s.heap x ox C od) (hm : PySem.W.mroIn K C (.type "object") = some true)
    (hs : findIn K (.ref C) "__eq__" = some (some (.ref f))) (hf : isFn K (.ref f) = true) (hu : A.in1.units < cLine)
    (h : wpAny (model prog w) A.in1 (call (.ref f) [.ref x, b]) (fun v s' => ∃ c, v = .bool c ∧ Q (.bool (!c)) s') Ex s) :
    wpAny (model prog w) A (call (.builtin "object.__ne__") [.ref x, b]) Q Ex s := by
  refine wpAny_call (codeAny_call_builtin F.cmp_object.ne.plain F.cmpEntry_ne (PySem.W.check_slot F.cmpKind_ne F.cmpSplit_ne (I.type.andThen (PySem.W.looks_mroIn X hm)) (F.cmpArgs_ne _ _) ?_))
  unfold Builtin.«object.__ne__»
  refine wpAny_bind (m := slotArgs "__ne__" 1 _) (wpAny_pure ?_)
  refine wpAny_bind (wpAny_cRoomFor hu ?_)
  refine wpAny_bind (m := callSpecialIfBound? (.ref x) "__eq__" [b]) (PySem.W.ifBound_K X I hs hf (wpAny_mono h (fun v s' z => ?_) fun _ _ e => e))
  obtain ⟨c, rfl, q⟩ := z
  exact wpAny_bind (wpAny_truthy_bool (wpAny_pure q))
theorem op_neO (O : EqOwn X.K C f) (F : FnG X.prog X.w X.K X.mg X.base CX k f sp) (hr : RoomG (k + 1) X.A) (hx : Passes CX X E) : OpR X (compareOp .NotEq) (rNeO X.K C sp E) := by
  intro pins s σ H x y v u Q I rx ry h
  obtain ⟨a, dx, fs, rfl, ha, hy, q⟩ := h
  cases (show v = Value.ref a from rx)
  obtain ⟨od, J⟩ := ins_at I ha
  obtain ⟨tb, hb, hn⟩ := eqTo_looks (M := model X.prog X.w) I ry hy
  have hu : X.A.in1.units < cLine := by have := hr.units; have e : X.A.in1.units = X.A.units + 1 := rfl; omega
  have one : wpAny (model X.prog X.w) X.A (tryCompare (.ref a) "__ne__" u) (fun r s' => ∃ v, r = some v ∧ EP X pins σ Q v s') X.xe s := by
    unfold tryCompare
    refine wpAny_bind (ifBound_ne I.kIn J O.ne (call_objNe I.kIn J O.obj O.at_ O.fn hu (wpAny_mono (run_g1 (us := [.ref a, u]) (vs := [.ref a, y]) F hr hx I (.cons rfl (.cons ry .nil)) q) (fun w s' z => ?_) fun _ _ x => x)))
    obtain ⟨z', H', I', rz, c, rfl, qz⟩ := z
    cases (show w = Value.bool c from rz)
    exact ⟨c, rfl, wpAny_pure ⟨_, rfl, .bl (!c), H', I', rfl, qz⟩⟩
  show wpAny _ _ (richCompare .NotEq (.ref a) u) _ _ _
  unfold richCompare
  simp only [PySem.oneThing_ref]
  refine wpAny_holding (wpAny_bind (wpAny_cRoomFor hr.units0 ?_))
  refine wpAny_bind (J.type.here (wpAny_bind (hb.here ?_)))
  have fin : wpAny (model X.prog X.w) X.A (do
      let __do_lift ← tryCompare (.ref a) (cmpInfo .NotEq).2.1 u
      match __do_lift with
      | some v => return v
      | none => unsupported "x") (EP X pins σ Q) X.xe s := wpAny_bind (wpAny_mono one (fun r s' z => by
        obtain ⟨v, rfl, hq⟩ := z
        exact wpAny_pure hq) fun _ _ e => e)
  split
  · rename_i q
    have e : subIn X.K tb (.ref C) = some false := by
      rcases Bool.or_eq_true_iff.mp hn with e | e
      · rw [beq_iff_eq.mp e] at q; simp at q
      · exact beq_iff_eq.mp e
    refine wpAny_bind ((PySem.W.looks_subIn I.kIn e).here ?_)
    simp only [Bool.false_eq_true, if_false]
    refine wpAny_bind (m := tryCompare (.ref a) _ u) (wpAny_mono one (fun r s' z => ?_) fun _ _ e => e)
    obtain ⟨v, rfl, hq⟩ := z
    exact wpAny_pure hq
  · refine wpAny_bind (wpAny_pure ?_)
    simp only [Bool.false_eq_true, if_false]
    refine wpAny_bind (m := tryCompare (.ref a) _ u) (wpAny_mono one (fun r s' z => ?_) fun _ _ e => e)
    obtain ⟨v, rfl, hq⟩ := z
    exact wpAny_pure hq
end
end Lw

set_option Elab.async false
set_option linter.all false
set_option maxRecDepth 100000
set_option maxHeartbeats 4000000
/-! enumerate over a tuple, from any start -/
namespace PySem
open Sem (wp)
set_option maxHeartbeats 1000000 in
theorem meets_enumerate_newB1 {v : Value} {o : Obj} {H : Heap → Prop} (B : Begins v o H) :
    Meets (Builtin.«enumerate.__new__» ⟨[.type "enumerate", v], []⟩) (fun _ R s => H s.heap ∧
      R (.ok (.ret (.ref (s.heap.push o).objs.size))) { s with heap := (s.heap.push o).push { cls := .type "enumerate", data := .fields #[.none, .bool false, .ref s.heap.objs.size, rawInt 0, .none, .none] } }) :=
  .of_wp fun prog w A R s h => by
    obtain ⟨hp, g, d, tk, os⟩ := s; obtain ⟨h1, h⟩ := h
    have hsub := sub_enumerate
    have q1 : ∀ {A' : Around} {E : Value → Shared → Prop} {Q : Value → Shared → Prop}, Q (.ref hp.objs.size) ⟨hp.push o, g, d, tk, os⟩ → wpAny (model prog w) A' (pyIter v) Q E ⟨hp, g, d, tk, os⟩ :=
      fun q => B.iter prog w _ _ ⟨hp, g, d, tk, os⟩ _ h1 q
    wp_walk using q1
    refine wpAny_stack_any fun st => wpAny_pure ?_
    split
    · rename_i c _ _ _ _ _
      cases (c == Value.type "enumerate")
      · wp_walk using q1
        exact ⟨_, rfl, h⟩
      · wp_walk using q1
        exact ⟨_, rfl, h⟩
    · wp_walk using q1
      exact ⟨_, rfl, h⟩
theorem enum_begins1 {prog : Program} {w : World} {A : Around} {E : Value → Shared → Prop} {s : Shared} {v : Value} {o : Obj} {H : Heap → Prop} {Q : Value → Shared → Prop} (B : Begins v o H) (h1 : H s.heap)
    (h : ∀ h', IsEnum h' (s.heap.objs.size + 1) s.heap.objs.size 0 .none → h'.get? s.heap.objs.size = some o → h'.objs.size = s.heap.objs.size + 2 →
      (∀ b o, s.heap.get? b = some o → h'.get? b = some o) → Q (.ref (s.heap.objs.size + 1)) { s with heap := h' }) :
    wpAny (model prog w) A (call (.type "enumerate") [v]) Q E s := by
  refine callType_new F.called_enumerate (by decide) (F.typeCall_enumerate_1 _) (F.newCall_enumerate_1 _) (fun obj => F.args_object_init_2 obj _) F.entry_enumerate_new
    (meets_enumerate_newB1 B) ⟨h1, ?_⟩
  have hz : (s.heap.push o).objs.size = s.heap.objs.size + 1 := Heap.size_push ..
  show _ ∧ _
  rw [hz]
  have he : IsEnum ((s.heap.push o).push { cls := .type "enumerate", data := .fields #[.none, .bool false, .ref s.heap.objs.size, rawInt 0, .none, .none] }) (s.heap.objs.size + 1) s.heap.objs.size 0 .none := by
    have := Heap.get?_push_size (s.heap.push o) (o := { cls := .type "enumerate", data := .fields #[.none, .bool false, .ref s.heap.objs.size, rawInt 0, .none, .none] }) rfl
    rw [hz] at this; exact this
  refine ⟨⟨_, he, rfl⟩, h _ he (Heap.get?_push_of_some _ (Heap.get?_push_size _ B.free)) (by rw [Heap.size_push, hz]) fun b o x => Heap.get?_push_of_some _ (Heap.get?_push_of_some _ x)⟩
end PySem
namespace Lw
open PySem PySem.Spec PyProof.Rows L2 StX
/-- the tuple at a, each item in a new pair behind its number -/
def IteT (K : PySem.W.Frag) (a : Addr) (k₀ : Int) : It :=
  ⟨fun i H => ∃ (xs : List V) (x : V), SqT K H a xs ∧ xs[i]? = some x, fun i H v H' => ∃ T x, v = .ref T ∧ H T = none ∧ H' = upd H T (.tup [.int (k₀ + (i : Nat)), x]) ∧ ∀ xs, SqT K H a xs → xs[i]? = some x, fun i H => ∃ xs : List V, SqT K H a xs ∧ xs.length ≤ i⟩
theorem turn_enumT {P : Program} {w : World} {K : PySem.W.Frag} {elts : List Expr} {kk : Nat} {tpos : Pos} (k₀ : Int) (a e it : Addr) :
    Turn P w K (.Tuple elts kk tpos) (IteT K a k₀) [e, it] e (fun i h => (∃ old, IsEnum h e it (k₀ + ((i : Nat) : Int)) old) ∧ h.IsTupleIter it a i ∧ e ≠ it) where
  mem := by simp
  obj := fun i h st b hb => by
    obtain ⟨⟨old, he⟩, ⟨o, ho, hc, hd⟩, _⟩ := st
    have e' : b = e ∨ b = it := by simpa using hb
    rcases e' with z | z
    · rw [z]; exact ⟨_, he, fun v q => nomatch q⟩
    · rw [z]; exact ⟨o, ho, fun v q => by rw [hd] at q; cases q⟩
  keep := fun i h h' st k => let ⟨⟨old, he⟩, hi, hne⟩ := st; ⟨⟨old, k e (by simp) _ he⟩, hi.at fun o q => k it (by simp) o q, hne⟩
  item := by
    intro X hP hw hK hc i pins s σ H E I hf st hg
    subst hP hw hK
    obtain ⟨⟨old, he⟩, hit, hne⟩ := st
    obtain ⟨xs, x, hq, hx⟩ := hg
    obtain ⟨its, rv, p, hz⟩ := I.tuple hq
    obtain ⟨u, hu, ru⟩ := rv.get hx
    have hel : e < s.heap.objs.size := Heap.lt_size he
    have hil : it < s.heap.objs.size := by obtain ⟨_, q, _⟩ := hit; exact Heap.lt_size q
    have nai : a ≠ it := fun z => by
      obtain ⟨o, ho, hcl, _⟩ := hit
      obtain ⟨o', ho', hcl', _⟩ := p
      rw [z, ho] at ho'
      cases ho'
      rw [hcl] at hcl'
      exact absurd hcl' (by decide)
    have nea : e ≠ a := fun z => by
      obtain ⟨o', ho', hcl', _⟩ := p
      rw [← z, he] at ho'
      cases ho'
      simp at hcl'
    have hlt : i < its.toArray.size := by
      have := (List.getElem?_eq_some_iff.mp hu).1
      simpa using this
    refine wpAny_pyNext_enum_itemC (Draws.tuple (prog := X.prog) (w := X.w) (A := X.A.in1) (I.ok.hd hc) it a nai its.toArray) he ⟨hit, p⟩ hlt hne (by simp [hne, nea]) fun y h' tk hP ho hst' hT hsz hk => ?_
    have ey : y = u := by
      have h1 : its.toArray[i]? = some y := hP
      have h2 : its.toArray[i]? = some u := by simpa using hu
      rw [h2] at h1
      exact (Option.some.inj h1).symm
    subst ey
    refine ⟨_, rfl, wpAny_letOwnedTupleGo_enum (s := { s with heap := h', toks := tk + 1 }) ho fun h'' he' sb => ?_⟩
    have hT2 : h''.get? s.heap.objs.size = some { cls := .type "tuple", data := .seq #[.int (k₀ + (i : Int)) tk, y] } := (sb.2 _ (Nat.ne_of_gt hel)).trans hT
    have new : ObjOk X.prog X.w (upd H s.heap.objs.size (.tup [.int (k₀ + (i : Nat)), x])) h'' s.heap.objs.size (.tup [.int (k₀ + (i : Nat)), x]) :=
      ⟨by show 2 ≤ sizeLine; decide, [.int (k₀ + (i : Int)) tk, y], .cons ⟨_, rfl⟩ (.cons ru .nil), ⟨_, hT2, rfl, _, rfl⟩⟩
    have I1 : Inv X pins σ (upd H s.heap.objs.size (.tup [.int (k₀ + (i : Nat)), x])) { s with heap := h'', toks := tk + 1 } :=
      I.turnedNew (ch := [e, it]) (fun b ob hb q => (sb.2 b (fun z => hb (by simp [z]))).trans (hk b ob (fun z => hb (by simp [z])) (fun z => hb (by simp [z])) q)) hf (Nat.le_refl _) new
    refine ⟨.ref s.heap.objs.size, _, I1, rfl, ⟨_, x, rfl, I.hok.fresh (Nat.le_refl _), rfl, fun ys hy => by rw [I.tuple_inj hy hq]; exact hx⟩, ⟨⟨y, ?_⟩, hst'.1.at fun o q => (sb.2 it (Ne.symm hne)).trans q, hne⟩, fun b hb => ?_⟩
    · have e1 : k₀ + ((i + 1 : Nat) : Int) = k₀ + (i : Int) + 1 := by omega
      rw [e1]; exact he'
    · have hb' : b < s.heap.objs.size := by
        have e' : b = e ∨ b = it := by simpa using hb
        rcases e' with z | z
        · rw [z]; exact hel
        · rw [z]; exact hil
      rw [upd_ne (Nat.ne_of_lt hb')]
      exact (hf b hb).1
  done := by
    intro X hP hw hK hc i pins s σ H E I hf st hg
    subst hP hw hK
    obtain ⟨⟨old, he⟩, hit, hne⟩ := st
    obtain ⟨xs, hq, hx⟩ := hg
    obtain ⟨its, rv, p, hz⟩ := I.tuple hq
    obtain ⟨f0, f1, f2, f3, f4, f5⟩ := hf it (by simp)
    have hl := rv.length
    have nai : a ≠ it := fun z => by
      obtain ⟨o, ho, hcl, _⟩ := hit
      obtain ⟨o', ho', hcl', _⟩ := p
      rw [z, ho] at ho'
      cases ho'
      rw [hcl] at hcl'
      exact absurd hcl' (by decide)
    have D : Draws X.prog X.w X.A.in1 it [it, a] i (fun _ _ => True) (fun j h => j = i ∧ h.IsTupleIter it a i ∧ h.IsTuple a its.toArray) := {
      live := fun _ _ st => let ⟨o, ho, _⟩ := st.2.1; ⟨o, ho⟩
      frame := fun _ _ _ st hk => ⟨st.1, st.2.1.at fun o e => hk it (by simp) o e, st.2.2.at fun o e => hk a (by simp) o e⟩
      item := fun j s Q E hi st hQ => absurd st.1 (Nat.ne_of_lt hi)
      done := fun s Q E st hE => wpAny_nextOf_tuple_end (I.ok.hd hc) st.2.1 st.2.2 (by simp; omega) hE }
    exact wpAny_pyNext_enum_endD D he ⟨rfl, hit, p⟩ fun h' eb => ⟨rfl, I.turned (t' := s.toks) (fun b o hb q => eb b o hb q) f0 f1 f3 f4 f5⟩
  self := fun A i s Q E st h => let ⟨⟨_, he⟩, _⟩ := st; wpAny_pyIter_enum he h
def iEnumT (K : PySem.W.Frag) (ta : TA) : TI := fun σ H R => ta σ H fun vs H1 => ∃ a xs, vs = [.ref a] ∧ SqT K H1 a xs ∧ R (IteT K a 0) H1
/-- enumerate(t) -/
theorem pi_enumT {X : Cx} {e : Expr} {ta : TA} {p pos tpos : Pos} {elts : List Expr} {kk : Nat} (hg : Gl X "enumerate") (hm : X.mg "enumerate" = none) (ha : PA X [e] ta) (hs : starEach [e] X.env = [(false, eval e X.env)] := by rfl) :
    PI X (.Tuple elts kk tpos) (.Call (.Name "enumerate" p) [e] [] pos) (iEnumT X.K ta) := by
  refine ⟨fun pins s σ H R I h => ?_⟩
  refine Call_ (ld_blt I hg hm boot_enumerate (PyProof.Rows.callWith_type1 (thn (ha.run pos pins s σ H _ I h) fun us s1 ⟨vs, H1, I1, r1, q1⟩ => ?_) hs rfl))
  obtain ⟨a, xs, ex, hq, q⟩ := q1
  subst ex
  obtain ⟨u, rfl, r⟩ := vals1 r1
  cases (show u = Value.ref a from r)
  obtain ⟨its, rv, p', hz⟩ := I1.tuple hq
  refine enum_begins1 (begins_tuple a its.toArray) p' fun h' he hit hsz hk => wpAny_pyIter_enum he ?_
  have I3 : Inv X pins σ H1 { s1 with heap := h' } := I1.kept (t' := s1.toks) hk
  refine ⟨s1.heap.objs.size + 1, [s1.heap.objs.size + 1, s1.heap.objs.size], _, _, H1, rfl, I3, turn_enumT 0 a (s1.heap.objs.size + 1) s1.heap.objs.size, ⟨⟨.none, he⟩, ⟨_, hit, rfl, rfl⟩, Nat.succ_ne_self _⟩, fun b hb => ?_, q⟩
  have e' : b = s1.heap.objs.size + 1 ∨ b = s1.heap.objs.size := by simpa using hb
  have hle : s1.heap.objs.size ≤ b := by
    rcases e' with z | z
    · rw [z]; exact Nat.le_add_right _ _
    · rw [z]; exact Nat.le_refl _
  exact I1.fpOk hle (I1.hok.fresh hle)
/-- enumerate(t, start=k) -/
def iEnumK (K : PySem.W.Frag) (ta tk : TA) : TI := fun σ H R => ta σ H fun vs H1 => tk σ H1 fun ks H2 => ∃ a xs k, vs = [.ref a] ∧ ks = [.int k] ∧ -(2 ^ 63) ≤ k ∧ k < 2 ^ 63 ∧ SqT K H2 a xs ∧ R (IteT K a k) H2
theorem evalArgs_kwT {M : Model} {A : Around} {Ex : Value → Shared → Prop} {s : Shared} {env : Env} {pos : Pos} {T : String} {first : List Value} {Q : Value → Shared → Prop} {e : Expr} {rest : List Expr} {kws : List Keyword} (hall : (backToKw pos (keywordEach kws env)).all (·.1.isSome) = true)
    (h : wpAny M A (spliced (backTo pos (starEach (e :: rest) env))) (fun vs s₁ => wpAny M A (evalAll ((backToKw pos (keywordEach kws env)).map (·.2)))
      (fun ks s₂ => wpAny M A (call (.type T) (first ++ vs) (((backToKw pos (keywordEach kws env)).filterMap (·.1)).zip ks)) Q Ex s₂) Ex s₁) Ex s)
    (hplain : ((backTo pos (starEach (e :: rest) env)).any (·.1) || (backToKw pos (keywordEach kws env)).any (·.1.isNone)) = false := by rfl) (he : starEach (e :: rest) env = (false, eval e env) :: starEach rest env := by rfl) :
    wpAny M A (callWith pos (.type T) first (backTo pos (starEach (e :: rest) env)) (backToKw pos (keywordEach kws env))) Q Ex s :=
  PySem.W.callWith_of (P := fun _ => True) hplain (fun h _ => ⟨.machine, .inr (.inl rfl), .of_pure rfl⟩) (evalArgs_kw2 hall (wpAny_mono h (fun _ _ z => wpAny_mono z (fun _ _ z => ⟨trivial, z⟩) fun _ _ e => e) fun _ _ e => e) he)
theorem pi_enumK {X : Cx} {e e2 : Expr} {ta tk : TA} {p pos tpos kpos : Pos} {elts : List Expr} {kk : Nat} (hg : Gl X "enumerate") (hm : X.mg "enumerate" = none) (ha : PA X [e] ta) (hk : PK X [⟨some "start", e2, kpos⟩] tk) (hs : starEach [e] X.env = [(false, eval e X.env)] := by rfl) :
    PI X (.Tuple elts kk tpos) (.Call (.Name "enumerate" p) [e] [⟨some "start", e2, kpos⟩] pos) (iEnumK X.K ta tk) := by
  refine ⟨fun pins s σ H R I h => ?_⟩
  refine wpAny_Call_Name_kw (ld_blt I hg hm boot_enumerate ?_)
  refine evalArgs_kwT rfl (thn (ha.run pos pins s σ H _ I h) fun us s1 ⟨vs, H1, I1, r1, q1⟩ => thn (hk.run pos pins s1 σ H1 _ I1 q1) fun ws s2 ⟨zs, H2, I2, r2, q2⟩ => ?_) (by rw [hs] <;> rfl) hs
  obtain ⟨a, xs, k, ex, ez, k0, k1, hq, q⟩ := q2
  subst ex ez
  obtain ⟨u, rfl, r⟩ := vals1 r1
  cases (show u = Value.ref a from r)
  obtain ⟨u2, rfl, r2'⟩ := vals1 r2
  obtain ⟨t, rfl⟩ := r2'
  obtain ⟨its, rv, p', hz⟩ := I2.tuple hq
  refine enum_begins_start (begins_tuple a its.toArray) p' k0 k1 fun h' he hit hsz hk => wpAny_pyIter_enum he ?_
  have I3 : Inv X pins σ H2 { s2 with heap := h' } := I2.kept (t' := s2.toks) hk
  refine ⟨s2.heap.objs.size + 1, [s2.heap.objs.size + 1, s2.heap.objs.size], _, _, H2, rfl, I3, turn_enumT k a (s2.heap.objs.size + 1) s2.heap.objs.size, ⟨⟨.none, ?_⟩, ⟨_, hit, rfl, rfl⟩, Nat.succ_ne_self _⟩, fun b hb => ?_, q⟩
  · have e0 : k + ((0 : Nat) : Int) = k := by omega
    rw [e0]
    exact he
  have e' : b = s2.heap.objs.size + 1 ∨ b = s2.heap.objs.size := by simpa using hb
  have hle : s2.heap.objs.size ≤ b := by
    rcases e' with z | z
    · rw [z]; exact Nat.le_add_right _ _
    · rw [z]; exact Nat.le_refl _
  exact I2.fpOk hle (I2.hok.fresh hle)
end Lw

set_option Elab.async false
set_option linter.all false
set_option maxRecDepth 100000
set_option maxHeartbeats 4000000
/-! a def's body keeps its promise; the law's end -/
namespace Lw
open PySem PySem.Spec PyProof.Rows L2 StX
section
variable {CX : CXT} {P : Program} {w : World} {K : PySem.W.Frag} {mg : Str → Option Value} {base : Heap} {k : Nat} {f : Addr} {x qual : Str} {params : Arguments} {body : List Stmt} {scope : Scope} {dvs : List V} {kws : List (Str × V)} {fd : FuncData} {N ps : List Str} {sp : Sp}
/-- the arguments bind by themselves: ds fill up -/
theorem fnG_of {ds : List Value} {dfl : List V} (F : FunD K x qual params body scope dvs kws f fd) (S : FnScope N ps scope) (hb : Binds K fd ps ds) (hd : Vals dfl ds) (len : ∀ vs H Q E, sp vs H Q E → vs.length = ps.length)
    (hbody : ∀ (cdv : Value) (A : Around) (outer : List Env) (s : Shared) (H : Hp) (vs : List V) (Q : VK) (E : XK), RoomG k (A.deeper (envOfC qual scope s.heap.objs.size f cdv)) → sp vs H Q E →
      ∃ t, PSs (cxOf CX P w K mg base N qual scope f cdv A outer s H E) body t ∧ t { nx := fun _ H' => Q .non H', rt := Q } (start N vs) H) : FnG P w K mg base CX (k + 1) f (fun vs H Q E => sp (vs ++ dfl) H Q E) := by
  obtain ⟨oc, od, dV, kV, doc, pm, an, cdv, ct, osl, rfl, lk, hcd, _, _⟩ := F.ex
  intro A outer s H us vs Q E hr e0 r hs
  have r2 : Vals (vs ++ dfl) (us ++ ds) := r.append hd
  have hl : (us ++ ds).length = ps.length := by rw [← r2.length]; exact len _ _ _ _ hs
  have KX : K.In s.heap := e0.mod.kin.keeps fun b o e => (e0.bs b o e).1
  refine run_bnd lk hcd S hr.room e0 (G := fun xs H2 => xs = vs ++ dfl ∧ H2 = H) (fun A' Ex Q' h => hb s us KX hl _ _ _ _ (h s H (vs ++ dfl) (us ++ ds) e0 Un.refl rfl (fun _ _ z => z) r2 (len _ _ _ _ hs) ⟨rfl, rfl⟩)) fun s2 H2 xs ⟨ex, eH⟩ hr' => ?_
  subst ex eH
  exact hbody cdv A outer s2 H2 _ Q E ⟨hr', hr.gd⟩ hs
/-- no defaults -/
theorem fnG_pl (F : FunD K x qual params body scope dvs kws f fd) (S : FnScope N ps scope) (hb : Binds K fd ps []) (len : ∀ vs H Q E, sp vs H Q E → vs.length = ps.length)
    (hbody : ∀ (cdv : Value) (A : Around) (outer : List Env) (s : Shared) (H : Hp) (vs : List V) (Q : VK) (E : XK), RoomG k (A.deeper (envOfC qual scope s.heap.objs.size f cdv)) → sp vs H Q E →
      ∃ t, PSs (cxOf CX P w K mg base N qual scope f cdv A outer s H E) body t ∧ t { nx := fun _ H' => Q .non H', rt := Q } (start N vs) H) : FnG P w K mg base CX (k + 1) f sp :=
  (fnG_of F S hb .nil len hbody).imp fun vs H Q E h => by rw [List.append_nil]; exact h
/-- def f(a, .., *v) -/
theorem fnG_star {pv : Str} (F : FunD K x qual params body scope [] kws f fd) (S : FnScope N (ps ++ [pv]) scope) (hCX : CXUp CX)
    (hb : ∀ (kV doc pm : Value) (an : Option Addr) (cdv ct : Value) (us rest : List Value), us.length = ps.length → bindArgs (PySem.W.fnOf x qual params body scope .none kV doc pm an cdv ct) ⟨us ++ rest, []⟩ = (newTuple rest >>= fun t => pure (ps.zip us ++ [(pv, t)])))
    (hbody : ∀ (cdv : Value) (A : Around) (outer : List Env) (s : Shared) (H : Hp) (vs : List V) (Q : VK) (E : XK), RoomG k (A.deeper (envOfC qual scope s.heap.objs.size f cdv)) → sp vs H Q E →
      ∃ t, PSs (cxOf CX P w K mg base N qual scope f cdv A outer s H E) body t ∧ t { nx := fun _ H' => Q .non H', rt := Q } (start N vs) H) :
    FnG P w K mg base CX (k + 1) f (fun vs H Q E => ∃ ws rest, vs = ws ++ rest ∧ ws.length = ps.length ∧ rest.length ≤ sizeLine ∧ ∀ p, H p = Option.none → sp (ws ++ [V.ref p]) (upd H p (.tup rest)) Q E) := by
  obtain ⟨oc, od, dV, kV, doc, pm, an, cdv, ct, osl, rfl, lk, hcd, hD, _⟩ := F.ex
  obtain rfl : dV = .none := by
    rcases hD with ⟨_, e⟩ | ⟨e, _⟩
    · exact e
    · exact absurd rfl e
  intro A outer s H us vs Q E hr e0 r hsp
  obtain ⟨ws, rest, rfl, hl, hz, hq⟩ := hsp
  obtain ⟨u1, u2, rfl, r1, r2⟩ := vals_split r
  have hn : H s.heap.objs.size = Option.none := e0.hok.fresh (Nat.le_refl _)
  have hl1 : u1.length = ps.length := by rw [← r1.length]; exact hl
  have hl2 : u2.length ≤ sizeLine := by rw [← r2.length]; exact hz
  refine run_bnd lk hcd S hr.room e0 (G := fun xs H2 => ∃ p, H p = Option.none ∧ xs = ws ++ [V.ref p] ∧ H2 = upd H p (.tup rest)) (fun A' Ex Q' h => ?_) fun s2 H2 xs ⟨p, hp, ex, eH⟩ hr' => ?_
  · rw [hb _ _ _ _ _ _ u1 u2 hl1]
    refine wpAny_bind (wpAny_newTuple (wpAny_pure ?_) hl2)
    have z := h _ _ (ws ++ [V.ref s.heap.objs.size]) (u1 ++ [Value.ref s.heap.objs.size]) (env0_laid (u := .tup rest) (o := { cls := .type "tuple", data := .seq u2.toArray }) e0 ⟨hz, u2, r2, ⟨_, Heap.get?_push_size _ rfl, rfl, _, rfl⟩⟩) (un_laid hn) rfl
      (fun e s' => hCX outer s H _ _ E e s' (un_laid (o := { cls := .type "tuple", data := .seq u2.toArray }) (u := .tup rest) hn) (fun b o q => Heap.get?_push_of_some _ q) rfl) (r1.append (.cons rfl .nil)) (by rw [List.length_append, List.length_append, hl] <;> rfl) ⟨_, hn, rfl, rfl⟩
    rw [List.zip_append hl1.symm] at z
    exact z
  · subst ex eH
    exact hbody cdv A outer s2 _ _ Q E ⟨hr', hr.gd⟩ (hq p hp)
end
/-! the law's call: the heap ahead of it tracks nothing but the script -/
section
variable {P : Program} {w : World} {K : PySem.W.Frag} {mg mb : Str → Option Value} {k : Nat} {fa a : Addr} {sp : Sp} {s₁ : Shared} {vs : List Value} {ns : List Int}
theorem end_core {H : Hp} (KX : K.In s₁.heap) (hns : s₁.heap.Ns mainGlobals mg) (hb : s₁.heap.Ns builtinsNs mb) (hbb : ∀ x : Str, x ≠ "__name__" → mb x = bootBuiltins x) (hlim : s₁.heap.NoLimit) (hg : s₁.gens = #[])
    (ha : s₁.heap.get? a = some { cls := .type "list", data := .seq vs.toArray }) (hr : Room k callerA) (F : ∀ base : Heap, K.In base → base.Ns mainGlobals mg → FnG P w K mg base CX0 k fa sp)
    (hsp : sp [.ref a] H (fun v _ => v = .bl true) fun _ _ _ => False) (hO : Only H) (hok : HOk P w H s₁.heap) (hA : ∀ b, H b ≠ none → b = a) (hK : H a ≠ none → K.lookup a = none) :
    codeAny (model P w) callerA (.call (.ref fa) ⟨[.ref a], []⟩) (fun r s' => r = .ok (.ret (.bool true)) ∧ OldK s₁.heap s'.heap ∧ s'.os = s₁.os ∧ AllBare s'.gens) s₁ := by
  have untr : ∀ {b : Addr} {o : Obj}, s₁.heap.get? b = some o → (b = a → False) → H b = none := fun {b o} e n => by
    cases q : H b with
    | none => rfl
    | some u => exact (n (hA b (by rw [q]; exact fun z => nomatch z))).elim
  have ns' : ∀ {b : Addr} {m : Str → Option Value}, s₁.heap.Ns b m → (hidT s₁.heap H).Ns b m := fun {b m} ⟨o, es, ep, e, d, r⟩ => ⟨o, es, ep, hidT_get e (untr e fun z => by
    rw [z, ha] at e
    cases e
    cases d), d, r⟩
  have kb : K.In (hidT s₁.heap H) := fun b o e => hidT_get (KX b o e) (by
    cases q : H b with
    | none => rfl
    | some u =>
      have eb := hA b (by rw [q]; exact fun z => nomatch z)
      rw [← eb] at hK
      have z := hK (by rw [q]; exact fun z => nomatch z)
      rw [z] at e
      cases e)
  have mod : Mod K mg (hidT s₁.heap H) := ⟨kb, ns' hns, ⟨mb, ns' hb, hbb⟩, let ⟨mc, h1, h2⟩ := hlim; ⟨mc, ns' h1, h2⟩⟩
  have e0 : Env0 P w K mg (hidT s₁.heap H) callerA [] s₁ H := ⟨rfl, mod, fun b o e => of_hidT e, Nat.le_of_eq (hidT_size _ _), trivial, fun b hb => absurd hb (by simp [frs]), hok, AllBare.of_eq hg⟩
  refine codeAny_mono (F _ kb (ns' hns) callerA [] s₁ H [.ref a] [.ref a] _ _ ⟨hr, rfl⟩ e0 (.cons rfl .nil) hsp) fun r s' h => ?_
  match r, h with
  | .error e, h => exact False.elim h
  | .ok .next, h => exact False.elim h
  | .ok .brk, h => exact False.elim h
  | .ok .cont, h => exact False.elim h
  | .ok (.ret u), h =>
    obtain ⟨v, H', os, bare, un, hok', r', q⟩ := h
    cases (show v = .bl true from q)
    cases (show u = Value.bool true from r')
    refine ⟨rfl, OldK.of_keep fun b o e => ?_, os, bare⟩
    rcases hO b with z | ⟨ob, xs, z⟩
    · exact un.keep b o e z (fun y => absurd y (by simp [frs])) (fun y => absurd y (by simp))
    · obtain ⟨e1, _⟩ := hok b _ z
      obtain ⟨e2, _⟩ := hok' b _ (un.frzs b ob _ z)
      rw [e] at e1
      cases e1
      exact e2
theorem end_call (KX : K.In s₁.heap) (hns : s₁.heap.Ns mainGlobals mg) (hb : s₁.heap.Ns builtinsNs mb) (hbb : ∀ x : Str, x ≠ "__name__" → mb x = bootBuiltins x) (hlim : s₁.heap.NoLimit) (hg : s₁.gens = #[])
    (ha : s₁.heap.get? a = some { cls := .type "list", data := .seq vs.toArray }) (hi : IntsAre vs ns) (hl : ns.length ≤ sizeLine) (hr : Room k callerA) (F : ∀ base : Heap, K.In base → base.Ns mainGlobals mg → FnG P w K mg base CX0 k fa sp)
    (hsp : ∀ H : Hp, SqL K H a (ns.map V.int) → sp [.ref a] H (fun v _ => v = .bl true) fun _ _ _ => False) :
    codeAny (model P w) callerA (.call (.ref fa) ⟨[.ref a], []⟩) (fun r s' => r = .ok (.ret (.bool true)) ∧ OldK s₁.heap s'.heap ∧ s'.os = s₁.os ∧ AllBare s'.gens) s₁ := by
  have rv := vals_ints hi
  have lenV := hi.length
  cases hk : K.lookup a with
  | some o =>
    have e := KX a o hk
    rw [ha] at e
    cases e
    exact end_core (H := fun _ => none) KX hns hb hbb hlim hg ha hr F (hsp _ (.inr ⟨_, vs.toArray, _, hk, rfl, rfl, rfl, by rw [List.size_toArray, lenV]; exact hl, by simpa using rv⟩)) (fun _ => .inl rfl) (fun b u z => nomatch z) (fun b z => absurd rfl z) fun z => absurd rfl z
  | none =>
    have e1 : ∀ b, b ≠ a → upd (fun _ => none) a (.frz { cls := .type "list", data := .seq vs.toArray } (.lst (ns.map V.int))) b = none := fun b h => upd_ne h
    refine end_core (H := upd (fun _ => none) a (.frz { cls := .type "list", data := .seq vs.toArray } (.lst (ns.map V.int)))) KX hns hb hbb hlim hg ha hr F (hsp _ (.inl (.inr ⟨_, upd_same⟩))) (fun b => ?_) (fun b u z => ?_) (fun b z => ?_) fun _ => hk
    · by_cases h : b = a
      · exact .inr ⟨_, _, by rw [h]; exact upd_same⟩
      · exact .inl (e1 b h)
    · by_cases h : b = a
      · subst h
        rw [upd_same] at z
        cases z
        exact ⟨ha, by rw [List.length_map]; exact hl, vs, _, rv, ha⟩
      · rw [e1 b h] at z
        cases z
    · by_cases h : b = a
      · exact h
      · exact absurd (e1 b h) z
end
theorem end_law {l : PySem.W.OpenLaw} {n k : Nat} {q : Program} {loose : List Str} {XP : (Str → Option Value) → Heap → Prop} {YP : World → Heap → Prop} {d : DefRec} (hn : l.most = some n) (hn2 : n ≤ sizeLine) (hdf : d.params.defaults = []) (hr : Room k callerA)
    (F : ∀ (w : World) (mg : Str → Option Value) (fa : Addr) (h : Heap), YP w h → h.Ns mainGlobals mg → mg d.name = some (.ref fa) →
      ∃ (K : PySem.W.Frag) (sp : Sp), K.In h ∧ (∀ (H : Hp) (a : Addr) (ns : List Int), ns.length ≤ n → SqL K H a (ns.map V.int) → sp [.ref a] H (fun v _ => v = .bl true) fun _ _ _ => False) ∧
        ∀ base : Heap, K.In base → base.Ns mainGlobals mg → FnG l.prog w K mg base CX0 k fa sp) :
    PySem.W.WalkO q loose XP YP l.row.toRowW d [] (fun f vs => PySem.call f vs) := by
  refine Att.attach_call hn hdf fun w s₀ s₁ mg mb fa o pm cd doc a vs ns G Y ho hd hcd hmg hobj hints hlen hg => ?_
  obtain ⟨K, sp, KX, hsp, hF⟩ := F w mg fa _ Y G.T.g hmg
  exact end_call KX G.T.g G.T.b G.T.builtins G.T.nolimit hg hobj hints (Nat.le_trans hlen hn2) hr hF fun H hS => hsp H a ns hlen hS
end Lw

set_option Elab.async false
set_option linter.all false
set_option maxRecDepth 100000
/-! facts of the head, told as what the rules ask -/
namespace Lw
open PySem PySem.Spec PyProof.Rows L2 He
variable {K : Frag}
def bEqOwn (C : Str) (K : Frag) : Bool := eqO (PySem.W.findIn K (.ref (ga K C)) "__eq__") (some (some (.ref (ma K (ga K C) "__eq__")))) && (PySem.W.isFn K (.ref (ma K (ga K C) "__eq__")) &&
  (eqO (PySem.W.findIn K (.ref (ga K C)) "__ne__") (some (some (.builtin "object.__ne__"))) && decide (PySem.W.mroIn K (ga K C) (.type "object") = some true)))
theorem bEqOwn_ok {C : Str} (h : bEqOwn C K = true) : EqOwn K (ga K C) (ma K (ga K C) "__eq__") := by
  obtain ⟨h1, h⟩ := ba h
  obtain ⟨h2, h⟩ := ba h
  obtain ⟨h3, h4⟩ := ba h
  exact ⟨eqO_ok h1, h2, eqO_ok h3, of_decide_eq_true h4⟩
def bBin (C : Str) (op : Operator) (K : Frag) : Bool := PySem.W.selfFirst K (ga K C) && (eqO (PySem.W.findIn K (.ref (ga K C)) (PySem.dunder op.info.2)) (some (some (.ref (ma K (ga K C) (PySem.dunder op.info.2))))) &&
  (PySem.W.isFn K (.ref (ma K (ga K C) (PySem.dunder op.info.2))) && eqO (PySem.W.findIn K (.ref (ga K C)) (dunderR op.info.2)) (some none)))
theorem bBin_ok {C : Str} {op : Operator} {n : Str} (e : PySem.dunder op.info.2 = n) (h : bBin C op K = true) : BinOwn K op (ga K C) (ma K (ga K C) n) := by
  subst e
  obtain ⟨h1, h⟩ := ba h
  obtain ⟨h2, h⟩ := ba h
  obtain ⟨h3, h4⟩ := ba h
  exact ⟨h1, eqO_ok h2, h3, eqO_ok h4⟩
structure BinTy (K : Frag) (op : Operator) (C : Addr) (T : String) : Prop where
  h1 : ∃ fo, PySem.W.findIn K (.type T) (PySem.dunder op.info.2) = some fo
  h2 : ∃ ro, PySem.W.findIn K (.type T) (dunderR op.info.2) = some ro
  sub : PySem.W.subIn K (.type T) (.ref C) = some false
def bBinT (C : Str) (op : Operator) (T : String) (K : Frag) : Bool := (PySem.W.findIn K (.type T) (PySem.dunder op.info.2)).isSome && ((PySem.W.findIn K (.type T) (dunderR op.info.2)).isSome && decide (PySem.W.subIn K (.type T) (.ref (ga K C)) = some false))
theorem bBinT_ok {C : Str} {op : Operator} {T : String} (h : bBinT C op T K = true) : BinTy K op (ga K C) T := by
  obtain ⟨h1, h⟩ := ba h
  obtain ⟨h2, h3⟩ := ba h
  exact ⟨Option.isSome_iff_exists.mp h1, Option.isSome_iff_exists.mp h2, of_decide_eq_true h3⟩
def bNoSub (T : String) (C : Str) (K : Frag) : Bool := decide (PySem.W.subIn K (.type T) (.ref (ga K C)) = some false)
/-- what isinstance(o, C) asks of the class of o -/
structure TypOwn (K : Frag) (C : Addr) : Prop where
  cl : Cls K C
  ha : PySem.W.findIn K (.ref C) "__class__" = some (some (.builtin "object.__class__"))
  hn : PySem.W.specialIn K (.builtin "object.__class__") "__get__" = some (some (.builtin "getset_descriptor.__get__"))
  htk : PySem.W.takesIn K (.builtin "object.__class__") = some true
  hm : PySem.W.mroIn K C (.type "object") = some true
  self : PySem.W.kitOne K (.ref C) (.ref C) = some true
theorem TypOwn.ty {C : Addr} {H : Hp} {a dx : Addr} {fs : List (Str × V)} (t : TypOwn K C) (e : H a = some (.ins C dx fs)) : TyX K H (.ref a) (.ref C) := .base (.ins e t.cl t.ha t.hn t.htk t.hm)
theorem bCls_ok {C : Str} (h : bCls C K = true) : Cls K (ga K C) := by
  obtain ⟨h1, h⟩ := ba (show (PySem.W.plainGet K (ga K C) Str.empty && (PySem.W.hasDictIn K (ga K C) && (PySem.W.plainOver K (ga K C) && eqO (PySem.W.findIn K (.ref (ga K C)) "__setattr__") (some (some (.builtin "object.__setattr__")))))) = true from h)
  obtain ⟨h2, h⟩ := ba h
  obtain ⟨h3, h4⟩ := ba h
  exact ⟨h1, h2, h3, eqO_ok h4⟩
def bTyp (C : Str) (K : Frag) : Bool := bCls C K && (eqO (PySem.W.findIn K (.ref (ga K C)) "__class__") (some (some (.builtin "object.__class__"))) && (eqO (PySem.W.specialIn K (.builtin "object.__class__") "__get__") (some (some (.builtin "getset_descriptor.__get__"))) &&
  (decide (PySem.W.takesIn K (.builtin "object.__class__") = some true) && (decide (PySem.W.mroIn K (ga K C) (.type "object") = some true) && decide (PySem.W.kitOne K (.ref (ga K C)) (.ref (ga K C)) = some true)))))
theorem bTyp_ok {C : Str} (h : bTyp C K = true) : TypOwn K (ga K C) := by
  obtain ⟨h1, h⟩ := ba h
  obtain ⟨h2, h⟩ := ba h
  obtain ⟨h3, h⟩ := ba h
  obtain ⟨h4, h⟩ := ba h
  obtain ⟨h5, h6⟩ := ba h
  exact ⟨bCls_ok h1, eqO_ok h2, eqO_ok h3, of_decide_eq_true h4, of_decide_eq_true h5, of_decide_eq_true h6⟩
theorem bMeth_ok {C m : Str} (h : bMeth C m K = true) : Meth K (ga K C) m (ma K (ga K C) m) := by
  obtain ⟨h1, h⟩ := ba (show (eqO (PySem.W.findIn K (.ref (ga K C)) m) (some (some (.ref (ma K (ga K C) m)))) && (PySem.W.isFn K (.ref (ma K (ga K C) m)) && PySem.W.keepIn K (.ref (ma K (ga K C) m)))) = true from h)
  obtain ⟨h2, h3⟩ := ba h
  exact ⟨eqO_ok h1, h2, h3⟩
theorem bMkr_ok {C : Str} (h : bMkr C K = true) : Mk K (ga K C) (ma K (ga K C) "__init__") := by
  obtain ⟨h1, h⟩ := ba (show (PySem.W.makesIn K (ga K C) && (eqO (PySem.W.findIn K (.ref (ga K C)) "__init__") (some (some (.ref (ma K (ga K C) "__init__")))) && (PySem.W.isFn K (.ref (ma K (ga K C) "__init__")) && PySem.W.keepIn K (.ref (ga K C))))) = true from h)
  obtain ⟨h2, h⟩ := ba h
  obtain ⟨h3, h4⟩ := ba h
  exact ⟨h1, eqO_ok h2, h3, h4⟩
theorem bProp_ok {C m : Str} (h : bProp C m K = true) : PropOf K (ga K C) m (ma K (ga K C) m) (pg K C m) := by
  obtain ⟨h1, h⟩ := ba h
  obtain ⟨h2, h⟩ := ba h
  obtain ⟨h3, h4⟩ := ba h
  refine ⟨eqO_ok h1, eqO_ok h2, of_decide_eq_true h3, ?_⟩
  unfold pg He5.wf
  split at h4
  · rename_i f r e
    exact ⟨r, by rw [e]⟩
  · cases h4
theorem fnIn_of {x qual : Str} {params : Arguments} {body : List Stmt} {scope : Scope} {dvs : List V} {kws : List (Str × V)} {f : Addr} {fd : FuncData} (F : FunD K x qual params body scope dvs kws f fd) : PySem.W.fnIn K f = true := by
  obtain ⟨oc, od, dV, kV, doc, pm, an, cdv, ct, osl, rfl, lk, _⟩ := F.ex
  unfold PySem.W.fnIn
  rw [lk]
/-- a default that is the empty tuple -/
def bTup0 (f : Str × Option Str) (i : Nat) (K : Frag) : Bool := match K.lookup (He.dflAt f i K) with
  | some o => decide (o.cls = .type "tuple") && (match o.data with | .seq its _ => its.size == 0 | _ => false)
  | none => false
theorem bTup0_ok {f : Str × Option Str} {i : Nat} {K : Frag} (h : bTup0 f i K = true) : ∀ H : L2.Hp, L2.SqT K H (He.dflAt f i K) [] := fun H => by
  unfold bTup0 at h
  split at h
  · rename_i o e
    obtain ⟨h1, h2⟩ := Bool.and_eq_true_iff.mp h
    split at h2
    · rename_i its n e2
      have hz : its.size = 0 := by simpa using h2
      have hi : its = #[] := Array.eq_empty_of_size_eq_zero hz
      subst hi
      exact .inr ⟨o, #[], n, e, of_decide_eq_true h1, e2, by simp, .nil⟩
    · cases h2
  · cases h
/-- class methods -/
def bRead (C : Str) (K : Frag) : Bool := PySem.W.readsIn K (ga K C) (.type "type") && eqO (PySem.W.specialIn K (.ref (ga K C)) "__getattribute__") (some (some (.builtin "type.__getattribute__")))
theorem bRead_ok {C : Str} (h : bRead C K = true) : ClX.CRead K (ga K C) (.type "type") := ⟨(ba h).1, eqO_ok (ba h).2⟩
def bCMet (C m : Str) (K : Frag) : Bool := He5.wrapB K (ga K C) "classmethod" "classmethod.__get__" m && PySem.W.fnIn K (He5.wf K (ga K C) "classmethod" m)
theorem bCMet_ok {C m : Str} (h : bCMet C m K = true) : ClX.CMet K (ga K C) (.type "type") m (ma K (ga K C) m) (He5.wf K (ga K C) "classmethod" m) := He5.cmet_of (ba h).1 (ba h).2
def bNoKit (T : String) (C : Str) (K : Frag) : Bool := decide (PySem.W.kitOne K (.type T) (.ref (ga K C)) = some false)
end Lw

set_option Elab.async false
set_option linter.all false
set_option maxRecDepth 100000
/-! promises of one to six values -/
namespace Lw
open PySem PySem.Spec PyProof.Rows L2 He
def sp1 (B : V → Hp → VK → XK → Prop) : Sp := fun vs H Q E => ∃ a, vs = [a] ∧ B a H Q E
def sp2 (B : V → V → Hp → VK → XK → Prop) : Sp := fun vs H Q E => ∃ a b, vs = [a, b] ∧ B a b H Q E
def sp3 (B : V → V → V → Hp → VK → XK → Prop) : Sp := fun vs H Q E => ∃ a b c, vs = [a, b, c] ∧ B a b c H Q E
def sp4 (B : V → V → V → V → Hp → VK → XK → Prop) : Sp := fun vs H Q E => ∃ a b c d, vs = [a, b, c, d] ∧ B a b c d H Q E
def sp5 (B : V → V → V → V → V → Hp → VK → XK → Prop) : Sp := fun vs H Q E => ∃ a b c d e, vs = [a, b, c, d, e] ∧ B a b c d e H Q E
variable {vs : List V} {H : Hp} {Q : VK} {E : XK}
theorem sp1_len {B} : ∀ (vs : List V) (H : Hp) (Q : VK) (E : XK), sp1 B vs H Q E → vs.length = 1 := fun _ _ _ _ ⟨_, e, _⟩ => by rw [e]; rfl
theorem sp2_len {B} : ∀ (vs : List V) (H : Hp) (Q : VK) (E : XK), sp2 B vs H Q E → vs.length = 2 := fun _ _ _ _ ⟨_, _, e, _⟩ => by rw [e]; rfl
theorem sp3_len {B} : ∀ (vs : List V) (H : Hp) (Q : VK) (E : XK), sp3 B vs H Q E → vs.length = 3 := fun _ _ _ _ ⟨_, _, _, e, _⟩ => by rw [e]; rfl
theorem sp4_len {B} : ∀ (vs : List V) (H : Hp) (Q : VK) (E : XK), sp4 B vs H Q E → vs.length = 4 := fun _ _ _ _ ⟨_, _, _, _, e, _⟩ => by rw [e]; rfl
theorem sp5_len {B} : ∀ (vs : List V) (H : Hp) (Q : VK) (E : XK), sp5 B vs H Q E → vs.length = 5 := fun _ _ _ _ ⟨_, _, _, _, _, e, _⟩ => by rw [e]; rfl
theorem RoomG.units1 {k : Nat} {A : Around} (r : RoomG k A) : A.units + 65 < cLine := by have := r.room.un; omega
end Lw

set_option Elab.async false
set_option linter.all false
set_option maxRecDepth 100000
set_option maxHeartbeats 4000000
/-! what readings ask, over data -/
namespace Lw
open PySem PySem.Spec PyProof.Rows L2 He StX
open En (enc)
section
variable {X : Cx} {CX : CXT} {k : Nat} {f C : Addr} {sp : Sp} {E : XK} {pins : List (Addr × Obj)} {σ : L2.St} {H : Hp} {s : Shared} {K : PySem.W.Frag}
/-- repr of data -/
def rReprD (K : PySem.W.Frag) : List V → Hp → VK → Prop := fun xs H Q => ∃ x d, xs = [x] ∧ Dp K H x d ∧ d.showable = true ∧ d.shown.length ≤ sizeLine ∧ d.depth ≤ 60 ∧ Q (.str d.shown) H
mutual
theorem Dp.noDict {H : Hp} : ∀ (d : PyData) (v : V), Dp K H v d → d.hasDict = false
  | .none, _, _ => by simp [PyData.hasDict]
  | .bool _, _, _ => by simp [PyData.hasDict]
  | .int _, _, _ => by simp [PyData.hasDict]
  | .str _, _, _ => by simp [PyData.hasDict]
  | .list ds, _, h => by
    cases h with
    | lst _ ha => simp only [PyData.hasDict]; exact DpAll.noDict ds _ ha
  | .tuple ds, _, h => by
    cases h with
    | tup _ ha => simp only [PyData.hasDict]; exact DpAll.noDict ds _ ha
theorem DpAll.noDict {H : Hp} : ∀ (ds : List PyData) (vs : List V), DpAll K H vs ds → PyData.hasDictAll ds = false
  | [], _, _ => by simp [PyData.hasDictAll]
  | d :: ds, _, h => by
    cases h with
    | cons h t => simp only [PyData.hasDictAll, Dp.noDict d _ h, DpAll.noDict ds _ t, Bool.or_self]
end
theorem call_reprD (hK : X.K = K) (hg : X.A.guards = some []) (hu : X.A.units + 64 < cLine) : CallR X (.builtin "repr") (rReprD K) := by
  subst hK
  intro pins s σ H xs us Q I r h
  obtain ⟨x, d, rfl, hd, hs, hz, hdp, q⟩ := h
  obtain ⟨u, rfl, ru⟩ := vals1 r
  obtain ⟨as, hr⟩ := Dp.reads I d x u hd ru
  have nd := Dp.noDict d x hd
  cases hd with
  | lst hsq ha =>
    cases (show u = Value.ref _ from ru)
    exact repr_of_reads' hr hs (fun z => by rw [nd] at z; cases z) hg (by omega) (fun _ _ e => e) (fun h' t tk kp => ⟨.str _, H, I.kept (t' := tk) kp, ⟨_, rfl⟩, q⟩) hz
  | tup hsq ha =>
    cases (show u = Value.ref _ from ru)
    exact repr_of_reads' hr hs (fun z => by rw [nd] at z; cases z) hg (by omega) (fun _ _ e => e) (fun h' t tk kp => ⟨.str _, H, I.kept (t' := tk) kp, ⟨_, rfl⟩, q⟩) hz
  | int i =>
    obtain ⟨t, rfl⟩ := ru
    exact PySem.P.repr_of_int (of_decide_eq_true (by simpa [PyData.showable] using hs)) ⟨.str _, H, I.tok _, ⟨_, rfl⟩, q⟩
  | non =>
    cases (show u = Value.none from ru)
    exact PySem.P.repr_of_none ⟨.str _, H, I.tok _, ⟨_, rfl⟩, q⟩
  | bl b =>
    cases (show u = Value.bool b from ru)
    have e : (if b = true then Str.ofString "True" else Str.ofString "False") = (PyData.bool b).shown := by cases b <;> rfl
    exact PySem.P.repr_of_bool ⟨.str _, H, I.tok _, ⟨_, by rw [e]⟩, q⟩
  | str z =>
    obtain ⟨t, rfl⟩ := ru
    exact PySem.P.repr_of_str ⟨.str _, H, I.tok _, ⟨_, rfl⟩, q⟩ hz
theorem pg_tupK {es : List Expr} {kk : Nat} {t : TGs} {n : Nat} {pos : Pos} (hK : X.K = K) (hc : X.calm = true) (h : PGs X es t) (hn : (assignEach es X.env).length = n := by rfl) (hst : (assignEach es X.env).findIdx? (·.1) = none := by rfl) :
    PG X (.Tuple es kk pos) (gTup K n t) := hK ▸ pg_tup hc h hn hst
theorem pg_unlK {es : List Expr} {kk : Nat} {t : TGs} {n : Nat} {pos : Pos} (hK : X.K = K) (hc : X.calm = true) (h : PGs X es t) (hn : (assignEach es X.env).length = n := by rfl) (hst : (assignEach es X.env).findIdx? (·.1) = none := by rfl) :
    PG X (.Tuple es kk pos) (gUnl K n t) := hK ▸ pg_unl hc h hn hst
theorem op_ownB {op : Operator} {T : String} (B : BinOwn X.K op C f) (t : BinTy X.K op C T) (F : FnG X.prog X.w X.K X.mg X.base CX k f sp) (hr : RoomG k X.A) (hx : Passes CX X E) : OpR X (binaryOp op) (rOwnT X.K C T sp E) := by
  obtain ⟨fo, h1⟩ := t.h1
  obtain ⟨ro, h2⟩ := t.h2
  exact op_ownT B h1 h2 t.sub F hr hx
/-- the name of the type of data -/
def tyN : PyData → String
  | .none => "NoneType"
  | .bool _ => "bool"
  | .int _ => "int"
  | .str _ => "str"
  | .list _ => "list"
  | .tuple _ => "tuple"
  | .dict _ => "dict"
theorem Dx.tyOf {S : List Addr} {v : V} {d : PyData} (h : Dx S H v d) : TyOf K H v (.type (tyN d)) := by
  cases h with
  | non => exact .non
  | bl b => exact .bl b
  | int i => exact .int i
  | str x => exact .str x
  | lst _ e _ => exact .lst e
  | tup _ e _ => exact .tup e
/-- isinstance(x, T), x data -/
theorem rIsi_of {S : List Addr} {v : V} {d : PyData} {T : String} {b : Bool} {Q : VK} (h : Dx S H v d) (e : kitB (tyN d) T = some b) (q : Q (.bl b) H) : rIsi K [v, .ty T] H Q :=
  ⟨v, .ty T, .type (tyN d), .type T, b, rfl, .ty T, .base h.tyOf, kit_ty e, q⟩
def isIntD : PyData → Bool
  | .int _ => true
  | _ => false
def isBoolD : PyData → Bool
  | .bool _ => true
  | _ => false
def isTupD : PyData → Bool
  | .tuple _ => true
  | _ => false
theorem kit_int (d : PyData) : kitB (tyN d) "int" = some (isIntD d || isBoolD d) := by
  cases d with
  | none => exact (by decide +kernel : kitB "NoneType" "int" = some false)
  | bool _ => exact (by decide +kernel : kitB "bool" "int" = some true)
  | int _ => exact (by decide +kernel : kitB "int" "int" = some true)
  | str _ => exact (by decide +kernel : kitB "str" "int" = some false)
  | list _ => exact (by decide +kernel : kitB "list" "int" = some false)
  | tuple _ => exact (by decide +kernel : kitB "tuple" "int" = some false)
  | dict _ => exact (by decide +kernel : kitB "dict" "int" = some false)
theorem kit_bool (d : PyData) : kitB (tyN d) "bool" = some (isBoolD d) := by
  cases d with
  | none => exact (by decide +kernel : kitB "NoneType" "bool" = some false)
  | bool _ => exact (by decide +kernel : kitB "bool" "bool" = some true)
  | int _ => exact (by decide +kernel : kitB "int" "bool" = some false)
  | str _ => exact (by decide +kernel : kitB "str" "bool" = some false)
  | list _ => exact (by decide +kernel : kitB "list" "bool" = some false)
  | tuple _ => exact (by decide +kernel : kitB "tuple" "bool" = some false)
  | dict _ => exact (by decide +kernel : kitB "dict" "bool" = some false)
theorem kit_tuple (d : PyData) : kitB (tyN d) "tuple" = some (isTupD d) := by
  cases d with
  | none => exact (by decide +kernel : kitB "NoneType" "tuple" = some false)
  | bool _ => exact (by decide +kernel : kitB "bool" "tuple" = some false)
  | int _ => exact (by decide +kernel : kitB "int" "tuple" = some false)
  | str _ => exact (by decide +kernel : kitB "str" "tuple" = some false)
  | list _ => exact (by decide +kernel : kitB "list" "tuple" = some false)
  | tuple _ => exact (by decide +kernel : kitB "tuple" "tuple" = some true)
  | dict _ => exact (by decide +kernel : kitB "dict" "tuple" = some false)
/-- a tuple of two -/
theorem De.pair {α β : Type} [En α] [En β] {S : List Addr} {v : V} {p : α × β} (h : De S H v p) : ∃ a x y, v = .ref a ∧ a ∉ S ∧ H a = some (.tup [x, y]) ∧ De S H x p.1 ∧ De S H y p.2 := by
  cases h with
  | tup n e h =>
    cases h with
    | cons h1 t =>
      cases t with
      | cons h2 t =>
        cases t
        exact ⟨_, _, _, rfl, n, e, h1, h2⟩
theorem De.int {S : List Addr} {v : V} {i : Int} (h : De S H v i) : v = .int i := by cases h; rfl
theorem De.ints {S : List Addr} {v : V} {p : Int × Int} (h : De S H v p) : ∃ a, v = .ref a ∧ a ∉ S ∧ H a = some (.tup [.int p.1, .int p.2]) := by
  obtain ⟨a, x, y, e, n, h, hx, hy⟩ := h.pair
  rw [hx.int, hy.int] at h
  exact ⟨a, e, n, h⟩
theorem De.mk2 {S : List Addr} {a : Addr} {x y : Int} (n : a ∉ S) (h : H a = some (.tup [.int x, .int y])) : De S H (.ref a) ((x, y) : Int × Int) := .tup n h (.cons (.int x) (.cons (.int y) .nil))
theorem De.tu {α : Type} [En α] {S : List Addr} {v : V} {l : List α} (h : De S H v (Tu.mk l)) : ∃ a xs, v = .ref a ∧ a ∉ S ∧ H a = some (.tup xs) ∧ DeA S H xs l := by
  cases h with
  | tup n e h => exact ⟨_, _, rfl, n, e, h⟩
theorem De.ls {α : Type} [En α] {S : List Addr} {v : V} {l : List α} (h : De S H v l) : ∃ a xs, v = .ref a ∧ a ∉ S ∧ H a = some (.lst xs) ∧ DeA S H xs l := by
  cases h with
  | lst n e h => exact ⟨_, _, rfl, n, e, h⟩
theorem De.mkTu {α : Type} [En α] {S : List Addr} {a : Addr} {xs : List V} {l : List α} (n : a ∉ S) (e : H a = some (.tup xs)) (h : DeA S H xs l) : De S H (.ref a) (Tu.mk l) := .tup n e h
theorem De.mkLs {α : Type} [En α] {S : List Addr} {a : Addr} {xs : List V} {l : List α} (n : a ∉ S) (e : H a = some (.lst xs)) (h : DeA S H xs l) : De S H (.ref a) l := .lst n e h
theorem DeA.len {α : Type} [En α] {S : List Addr} {xs : List V} {l : List α} (h : DeA S H xs l) : xs.length = l.length := by
  have := h.length
  rw [List.length_map] at this
  exact this
theorem DeA.at {α : Type} [En α] {S : List Addr} {xs : List V} {l : List α} {i : Nat} {a : α} (h : DeA S H xs l) (e : l[i]? = some a) : ∃ v, xs[i]? = some v ∧ De S H v a :=
  h.getD (d := enc a) (by rw [List.getElem?_map, e]; rfl)
theorem DeA.of {α : Type} [En α] {S : List Addr} {xs : List V} {l : List α} {i : Nat} {v : V} (h : DeA S H xs l) (e : xs[i]? = some v) : ∃ a, l[i]? = some a ∧ De S H v a := by
  have hi : i < l.length := by
    have := (List.getElem?_eq_some_iff.mp e).1
    rw [h.len] at this
    exact this
  obtain ⟨d, h1, h2⟩ := DxA.get h e
  rw [List.getElem?_map, List.getElem?_eq_getElem hi] at h1
  cases h1
  exact ⟨_, List.getElem?_eq_getElem hi, h2⟩
/-- == of data -/
theorem rEqD_of {α : Type} [Py α] [DecidableEq α] {S S' : List Addr} {x y : V} {a b : α} {Q : VK} (hx : De S H x a) (hy : De S' H y b) (hd : Py.dep α ≤ 64) (q : Q (.bl (decide (a = b))) H) : rEqD K x y H Q :=
  ⟨enc a, enc b, hx.dp, hy.dp, shaped_enc hd a, shaped_enc hd b, by rw [eqv_enc]; exact q⟩
theorem rNeD_of {α : Type} [Py α] [DecidableEq α] {S S' : List Addr} {x y : V} {a b : α} {Q : VK} (hx : De S H x a) (hy : De S' H y b) (hd : Py.dep α ≤ 64) (q : Q (.bl (!decide (a = b))) H) : rNeD K x y H Q :=
  ⟨enc a, enc b, hx.dp, hy.dp, shaped_enc hd a, shaped_enc hd b, by rw [eqv_enc]; exact q⟩
end
end Lw

set_option Elab.async false
set_option linter.all false
set_option maxRecDepth 100000
set_option maxHeartbeats 4000000
/-! promises of defs with a star; small things of the package -/
namespace Lw
open PySem PySem.Spec PyProof.Rows L2 He StX
open En (enc)
/-- a promise of n values and a tuple of the rest -/
def spS (n : Nat) (sp : Sp) : Sp := fun vs H Q E => ∃ ws rest, vs = ws ++ rest ∧ ws.length = n ∧ rest.length ≤ sizeLine ∧ ∀ p, H p = Option.none → sp (ws ++ [V.ref p]) (upd H p (.tup rest)) Q E
theorem spS0 {sp : Sp} {vs : List V} {H : Hp} {Q : VK} {E : XK} (hz : vs.length ≤ sizeLine) (h : ∀ p, H p = Option.none → sp [V.ref p] (upd H p (.tup vs)) Q E) : spS 0 sp vs H Q E := ⟨[], vs, rfl, rfl, hz, h⟩
theorem spS1 {sp : Sp} {a : V} {vs : List V} {H : Hp} {Q : VK} {E : XK} (hz : vs.length ≤ sizeLine) (h : ∀ p, H p = Option.none → sp [a, V.ref p] (upd H p (.tup vs)) Q E) : spS 1 sp (a :: vs) H Q E := ⟨[a], vs, rfl, rfl, hz, h⟩
/-- all of S stand in H -/
def Old (S : List Addr) (H : Hp) : Prop := ∀ a ∈ S, ∃ o, H a = some o
theorem Old.nil {H : Hp} : Old [] H := fun _ h => nomatch h
theorem Old.cons {S : List Addr} {H : Hp} {a : Addr} {o : HO} (e : H a = some o) (h : Old S H) : Old (a :: S) H := fun b hb => by
  rcases List.mem_cons.mp hb with z | z
  · exact ⟨o, z ▸ e⟩
  · exact h b z
theorem Old.keep {S T : List Addr} {H H' : Hp} (h : Old S H) (k : Kp T H H') (hT : ∀ a ∈ T, ∃ o, H' a = some o) : Old S H' := fun a ha => by
  obtain ⟨o, e⟩ := h a ha
  by_cases z : a ∈ T
  · exact hT a z
  · exact ⟨o, k a o z e⟩
theorem Old.keep0 {S : List Addr} {H H' : Hp} (h : Old S H) (k : Kp [] H H') : Old S H' := fun a ha => by
  obtain ⟨o, e⟩ := h a ha
  exact ⟨o, k a o (fun z => nomatch z) e⟩
theorem Old.no {S : List Addr} {H : Hp} {p : Addr} (h : Old S H) (e : H p = none) : p ∉ S := fun z => by
  obtain ⟨o, q⟩ := h p z
  rw [e] at q
  cases q
theorem Kp.of0 {S : List Addr} {H H' : Hp} (k : Kp [] H H') : Kp S H H' := k.mono fun _ z => nomatch z
def isCntD : PyData → Bool
  | .int i => decide (0 ≤ i)
  | _ => false
def isCplD : PyData → Bool
  | .tuple [_, _] => true
  | _ => false
def isStrD : PyData → Bool
  | .tuple [.int a, .int b] => decide (a ≤ b)
  | _ => false
/-- whether a stretch touches a cell -/
def tch (p : Int × Int) (c : Int) : Bool := decide (p.1 ≤ c) && decide (c ≤ p.2)
theorem rEq_int {i j : Int} {H : Hp} {Q : VK} : rEq (.int i) (.int j) H Q ↔ Q (.bl (decide (i = j))) H := by
  have e : decide (V.int i = V.int j) = decide (i = j) := decide_eq_decide.mpr (by rw [V.int.injEq])
  unfold rEq
  rw [e]
  exact ⟨fun h => h.2, fun h => ⟨rfl, h⟩⟩
theorem rNe_int {i j : Int} {H : Hp} {Q : VK} : rNe (.int i) (.int j) H Q ↔ Q (.bl (!decide (i = j))) H := by
  have e : decide (V.int i = V.int j) = decide (i = j) := decide_eq_decide.mpr (by rw [V.int.injEq])
  unfold rNe
  rw [e]
  exact ⟨fun h => h.2, fun h => ⟨rfl, h⟩⟩
theorem rEq_str {i j : Str} {H : Hp} {Q : VK} : rEq (.str i) (.str j) H Q ↔ Q (.bl (decide (i = j))) H := by
  have e : decide (V.str i = V.str j) = decide (i = j) := decide_eq_decide.mpr (by rw [V.str.injEq])
  unfold rEq
  rw [e]
  exact ⟨fun h => h.2, fun h => ⟨rfl, h⟩⟩
theorem rNe_str {i j : Str} {H : Hp} {Q : VK} : rNe (.str i) (.str j) H Q ↔ Q (.bl (!decide (i = j))) H := by
  have e : decide (V.str i = V.str j) = decide (i = j) := decide_eq_decide.mpr (by rw [V.str.injEq])
  unfold rNe
  rw [e]
  exact ⟨fun h => h.2, fun h => ⟨rfl, h⟩⟩
theorem not_cpl_str {d : PyData} (h : isCplD d = false) : isStrD d = false := by
  unfold isStrD
  split
  · simp [isCplD] at h
  · rfl

/-! ### walks -/
theorem walk_enumT {K : PySem.W.Frag} {a : Addr} {k : Int} {xs : List V} : Walk (IteT K a k) xs.length (fun H => SqT K H a xs) (YPair (fun i => some (.int (k + (i : Nat)))) (fun i => xs[i]?)) :=
  ⟨fun i _ hi q => ⟨xs, xs[i], q, by simp [hi]⟩, fun _ q => ⟨xs, q, Nat.le_refl _⟩, fun _ _ _ _ _ q ⟨T, x, e, n, u, h⟩ => ⟨T, _, x, e, n, u, rfl, h xs q⟩⟩
instance : En Bool where
  enc := .bool
instance : Py Bool where
  dep := 0
  eqv := fun a b => by simp [enc, PyData.eqv]
  lay := fun a => by simp [enc, PyData.canLay0]
  dle := fun a => by simp [enc, PyData.depth]
theorem De.bool {S : List Addr} {H : Hp} {v : V} {b : Bool} (h : De S H v b) : v = .bl b := by cases h; rfl
theorem De.upd {α : Type} [En α] {S : List Addr} {H : Hp} {v : V} {a : α} {p : Addr} {o : HO} (h : De S H v a) (hp : p ∈ S) : De S (upd H p o) v a := Dx.keep (.mut hp) h
/-! ### a comprehension's list, its items data: r i what stands there behind i turns; D the list, T what else may be changed -/
structure LcP {α : Type} [En α] (S T : List Addr) (H1 : Hp) (D : Addr) (r : Nat → List α) (i : Nat) (H : Hp) : Prop where
  acc : ∃ xs, H D = some (.lst xs) ∧ DeA (D :: S) H xs (r i)
  kp : Kp (D :: T) H1 H
  new : H1 D = none
theorem LcP.start {α : Type} [En α] {S T : List Addr} {H1 : Hp} {D : Addr} {r : Nat → List α} (n : H1 D = none) (h : r 0 = []) : LcP S T H1 D r 0 (upd H1 D (.lst [])) :=
  ⟨⟨[], upd_same, by rw [h]; exact .nil⟩, .new n, n⟩
theorem LcP.put {α : Type} [En α] {S T : List Addr} {H1 H H4 : Hp} {D : Addr} {r : Nat → List α} {i : Nat} {y : V} {v : α} (p : LcP S T H1 D r i H) (k : Kp T H H4) (oT : Old T H1) (hT : ∀ a ∈ T, a ∈ S) (hv : De (D :: S) H4 y v) (hr : r (i + 1) = r i ++ [v]) (hz : (r i).length < sizeLine) :
    ∃ acc, H4 D = some (.lst acc) ∧ acc.length < sizeLine ∧ LcP S T H1 D r (i + 1) (upd H4 D (.lst (acc ++ [y]))) := by
  obtain ⟨xs, e, d⟩ := p.acc
  have nT : D ∉ T := oT.no p.new
  have e4 := k D _ nT e
  have d4 : DeA (D :: S) H4 xs (r i) := DxA.keep (k.mono fun a z => List.mem_cons_of_mem _ (hT a z)) d
  refine ⟨xs, e4, by rw [d.len]; exact hz, ⟨_, upd_same, ?_⟩, ?_, p.new⟩
  · show DxA (D :: S) _ (xs ++ [y]) ((r (i + 1)).map enc)
    rw [hr, List.map_append]
    exact DxA.append (DxA.keep (.mut (List.mem_cons_self ..)) d4) (.cons (Dx.keep (.mut (List.mem_cons_self ..)) hv) .nil)
  · exact (p.kp.trans (k.mono fun a z => List.mem_cons_of_mem _ z)).trans (.mut (List.mem_cons_self ..))
theorem LcP.skip {α : Type} [En α] {S T : List Addr} {H1 H H3 : Hp} {D : Addr} {r : Nat → List α} {i : Nat} (p : LcP S T H1 D r i H) (k : Kp T H H3) (oT : Old T H1) (hT : ∀ a ∈ T, a ∈ S) (hr : r (i + 1) = r i) : LcP S T H1 D r (i + 1) H3 := by
  obtain ⟨xs, e, d⟩ := p.acc
  refine ⟨⟨xs, k D _ (oT.no p.new) e, ?_⟩, p.kp.trans (k.mono fun a z => List.mem_cons_of_mem _ z), p.new⟩
  rw [hr]
  exact DxA.keep (k.mono fun a z => List.mem_cons_of_mem _ (hT a z)) d
theorem LcP.done {α : Type} [En α] {S T : List Addr} {H1 H : Hp} {D : Addr} {r : Nat → List α} {n : Nat} (p : LcP S T H1 D r n H) (oS : Old S H1) : Kp T H1 H ∧ De S H (.ref D) (r n) := by
  obtain ⟨xs, e, d⟩ := p.acc
  exact ⟨p.kp.newS p.new, .lst (oS.no p.new) e (DxA.sub d fun a z => List.mem_cons_of_mem _ z)⟩
/-- what stood ahead of the comprehension -/
theorem LcP.keep {α β : Type} [En α] [En β] {S T : List Addr} {H1 H : Hp} {D : Addr} {r : Nat → List α} {n : Nat} {v : V} {b : β} (p : LcP S T H1 D r n H) (hT : ∀ a ∈ T, a ∈ S) (h : De S H1 v b) : De (D :: S) H v b :=
  Dx.keep (p.kp.mono fun a z => by
    rcases List.mem_cons.mp z with z | z
    · rw [z]; exact List.mem_cons_self ..
    · exact List.mem_cons_of_mem _ (hT a z)) (Dx.wid (fun a z => by
    rcases List.mem_cons.mp z with z | z
    · rw [z]; exact .inr p.new
    · exact .inl z) h)
theorem LcP.seqT {α : Type} [En α] {K : PySem.W.Frag} {S T : List Addr} {H1 H : Hp} {D : Addr} {r : Nat → List α} {n : Nat} {a : Addr} {xs : List V} (p : LcP S T H1 D r n H) (nT : a ∉ T) (e : H1 a = some (.tup xs)) : SqT K H a xs :=
  SqT.of (p.kp a _ (fun z => by
    rcases List.mem_cons.mp z with z | z
    · rw [z, p.new] at e; cases e
    · exact nT z) e)
theorem LcP.seqL {α : Type} [En α] {K : PySem.W.Frag} {S T : List Addr} {H1 H : Hp} {D : Addr} {r : Nat → List α} {n : Nat} {a : Addr} {xs : List V} (p : LcP S T H1 D r n H) (nT : a ∉ T) (e : H1 a = some (.lst xs)) : SqL K H a xs :=
  SqL.of (p.kp a _ (fun z => by
    rcases List.mem_cons.mp z with z | z
    · rw [z, p.new] at e; cases e
    · exact nT z) e)
theorem subNil' {a : Addr} : a ∉ ([] : List Addr) := fun h => nomatch h
theorem subNil {S : List Addr} : ∀ a ∈ ([] : List Addr), a ∈ S := fun _ h => nomatch h
theorem tFor_it {wi : TI} {g : TG} {tb : TS} {D : Ends} {σ : L2.St} {H : Hp} {J : It} {n : Nat} {G : Hp → Prop} {Y : Nat → Hp → V → Hp → Prop} (H1 : Hp) (w : Walk J n G Y) (Pv : Nat → L2.St → Hp → Prop) (hwi : ∀ R : It → Hp → Prop, R J H1 → wi σ H R) (h0 : Pv 0 σ H1)
    (hG : ∀ i σ H, i ≤ n → Pv i σ H → G H) (hs : ∀ i x σ H H', i < n → Pv i σ H → Y i H x H' → g x σ H' fun σ2 H2 => tb { D with nx := Pv (i + 1), ct := Pv (i + 1), bk := D.nx } σ2 H2) (hd : ∀ σ H, Pv n σ H → D.nx σ H) : tFor wi g tb D σ H :=
  hwi _ (for_it w Pv h0 hG hs hd)
theorem tLc_d {α : Type} [En α] {wi : TI} {g : TG} {tt : TT} {te : TE} {vs : List Nat} {σ : L2.St} {H : Hp} {Q : VK} {J : It} {n : Nat} {G : Hp → Prop} {Y : Nat → Hp → V → Hp → Prop} (H1 : Hp) (S T : List Addr) (r : Nat → List α) (w : Walk J n G Y)
    (hwi : ∀ R : It → Hp → Prop, R J H1 → wi σ H R) (hr : r 0 = []) (hG : ∀ D i H, LcP S T H1 D r i H → G H)
    (hs : ∀ D i x H H', i < n → LcP S T H1 D r i H → Y i H x H' → g x (wipe σ vs) H' fun σ2 H2 => wipe σ2 vs = wipe σ vs ∧ tt σ2 H2 fun b H3 =>
      if b = true then te σ2 H3 fun y H4 => ∃ acc, H4 D = some (.lst acc) ∧ acc.length < sizeLine ∧ LcP S T H1 D r (i + 1) (upd H4 D (.lst (acc ++ [y]))) else LcP S T H1 D r (i + 1) H3)
    (hd : ∀ D H, LcP S T H1 D r n H → Q (.ref D) H) : tLc wi g tt te vs σ H Q :=
  hwi _ fun D hD => lc_it w (LcP S T H1 D r) (.start hD hr) (fun i H _ p => hG D i H p) (hs D) (hd D)
theorem LcP.old0 {α : Type} [En α] {S : List Addr} {H1 H : Hp} {D : Addr} {r : Nat → List α} {i : Nat} (p : LcP S [] H1 D r i H) (oS : Old S H1) : Old (D :: S) H := fun a ha => by
  rcases List.mem_cons.mp ha with z | z
  · obtain ⟨xs, e, _⟩ := p.acc
    exact ⟨_, z ▸ e⟩
  · obtain ⟨o, e⟩ := oS a z
    exact ⟨o, p.kp a o (fun q => by rw [List.mem_singleton.mp q, p.new] at e; cases e) e⟩
theorem take_snoc {α : Type} {l : List α} {i : Nat} {a : α} (h : l[i]? = some a) : l.take (i + 1) = l.take i ++ [a] := by
  rw [List.take_add_one, h]
  rfl
end Lw

set_option Elab.async false
set_option linter.all false
set_option maxRecDepth 100000
set_option maxHeartbeats 4000000
/-! texts of data -/
namespace Lw
open PySem PySem.Spec PyProof.Rows L2 He StX
open En (enc)
instance : En Str where
  enc := .str
theorem De.str {S : List Addr} {H : Hp} {v : V} {x : Str} (h : De S H v x) : v = .str x := by cases h; rfl
theorem DeA.strs {S : List Addr} {H : Hp} : ∀ {ns : List Str} {vs : List V}, DeA S H vs ns → vs = ns.map V.str
  | [], _, .nil => rfl
  | n :: ns, _, .cons h t => by
    cases h
    rw [DeA.strs (ns := ns) t]
    rfl
theorem DeA.intsV {S : List Addr} {H : Hp} : ∀ {ns : List Int} {vs : List V}, DeA S H vs ns → vs = ns.map V.int
  | [], _, .nil => rfl
  | n :: ns, _, .cons h t => by
    cases h
    rw [DeA.intsV (ns := ns) t]
    rfl
theorem DeA.bools {S : List Addr} {H : Hp} : ∀ {ns : List Bool} {vs : List V}, DeA S H vs ns → vs = ns.map V.bl
  | [], _, .nil => rfl
  | n :: ns, _, .cons h t => by
    cases h
    rw [DeA.bools (ns := ns) t]
    rfl
/-- numbers of less than fifty-one digits -/
def Sm (a : Int) : Prop := a.natAbs < 10 ^ 50
theorem Sm.log {a : Int} (h : Sm a) : a.natAbs.log2 < 1920 := by
  unfold Sm at h
  by_cases z : a.natAbs = 0
  · rw [z]; decide
  · exact (Nat.log2_lt z).mpr (Nat.lt_of_lt_of_le h (by decide +kernel))
theorem Sm.len {a : Int} (h : Sm a) : (Str.ofString (toString a)).length ≤ 51 := by
  rw [PySem.ofString_length]
  exact int_text_length_le10 (k := 50) (by decide) h
/-- the text of a stretch -/
def pairT (p : Int × Int) : Str := (enc p).shown
theorem pair_show {p : Int × Int} (h1 : Sm p.1) (h2 : Sm p.2) : (enc p).showable = true := by
  show (PyData.tuple [.int p.1, .int p.2]).showable = true
  simp only [PyData.showable, PyData.showableAll, Bool.and_true, Bool.and_eq_true, decide_eq_true_eq]
  exact ⟨h1.log, h2.log⟩
theorem pair_len {p : Int × Int} (h1 : Sm p.1) (h2 : Sm p.2) : (pairT p).length ≤ 120 ∧ 1 ≤ (pairT p).length := by
  have e : pairT p = ("(" : Str) ++ (Str.ofString (toString p.1) ++ (", " : Str) ++ Str.ofString (toString p.2)) ++ (")" : Str) := by
    unfold pairT
    show (PyData.tuple [.int p.1, .int p.2]).shown = _
    simp only [PyData.shown, PyData.shownAll, tupleText, Str.join]
    rfl
  rw [e]
  simp only [strLen_append]
  have l1 := h1.len
  have l2 := h2.len
  have a1 : ("(" : Str).length = 1 := by decide +kernel
  have a2 : (", " : Str).length = 2 := by decide +kernel
  have a3 : (")" : Str).length = 1 := by decide +kernel
  omega
theorem slA_take {K : PySem.W.Frag} {S : List Addr} {a : Addr} {xs : List V} {n : Nat} {H : Hp} {Q : VK} (oS : Old S H) (nS : a ∉ S) (e : H a = some (.tup xs)) (hn : n ≤ xs.length)
    (q : ∀ p H', Kp [] H H' → p ∉ S → H' p = some (.tup (xs.take n)) → Q (.ref p) H') : rSlA K (.ref a) none (some ((n : Nat) : Int)) H Q := by
  refine ⟨a, xs, rfl, SqT.of e, ?_, ?_⟩
  · rintro ⟨_, h2⟩
    rw [HT.sIx_nat] at h2
    refine q a H .refl nS ?_
    rw [show n = xs.length by omega, List.take_length]
    exact e
  · intro _ p hp
    refine q p _ (.new hp) (oS.no hp) ?_
    rw [upd_same]
    unfold cutV
    rw [HT.sIx_nat, HT.sIx_none, List.drop_zero, Nat.sub_zero, Nat.min_eq_left hn]
theorem ixT {K : PySem.W.Frag} {a : Addr} {xs : List V} {v : V} {n : Nat} {i : Int} {H : Hp} {Q : VK} (e : H a = some (.tup xs)) (hi : i = n) (hv : xs[n]? = some v) (q : Q v H) : rIxT K (.ref a) (.int i) H Q :=
  ⟨a, xs, i, v, rfl, rfl, SqT.of e, by rw [hi]; exact atI_nat hv, q⟩
theorem ixL {K : PySem.W.Frag} {a : Addr} {xs : List V} {v : V} {n : Nat} {i : Int} {H : Hp} {Q : VK} (e : H a = some (.lst xs)) (hi : i = n) (hv : xs[n]? = some v) (q : Q v H) : rIxL K (.ref a) (.int i) H Q :=
  ⟨a, xs, i, v, rfl, rfl, SqL.of e, by rw [hi]; exact atI_nat hv, q⟩
theorem strD {S : List Addr} {H : Hp} {v : V} {p : Int × Int} (h : De S H v p) (o : p.1 ≤ p.2) : ∃ d, Dx S H v d ∧ isStrD d = true := ⟨_, h, by
  show isStrD (.tuple [.int p.1, .int p.2]) = true
  simp only [isStrD, decide_eq_true o]⟩
theorem sum_le {c : Nat} : ∀ {l : List Nat}, (∀ x ∈ l, x ≤ c) → l.sum ≤ c * l.length
  | [], _ => by simp
  | x :: l, h => by
    have h1 := h x (List.mem_cons_self ..)
    have h2 := sum_le (l := l) fun y hy => h y (List.mem_cons_of_mem _ hy)
    simp only [List.sum_cons, List.length_cons, Nat.mul_succ]
    omega
theorem tyI_int (i : Int) : isIntD (.int i) = true := rfl
theorem any_enc {α : Type} [Py α] [DecidableEq α] (a : α) : ∀ l : List α, ((l.map enc).any fun z => PyData.eqv z (enc a)) = decide (a ∈ l)
  | [] => by simp
  | b :: l => by
    rw [List.map_cons, List.any_cons, any_enc a l, eqv_enc]
    by_cases h : b = a
    · subst h
      simp
    · have h2 : a ≠ b := fun z => h z.symm
      simp [h, h2]
theorem rNotInD_of {K : PySem.W.Frag} {α : Type} [Py α] [DecidableEq α] {S S' : List Addr} {H : Hp} {x y : V} {a : α} {l : List α} {Q : VK} (hx : De S H x a) (hy : De S' H y l) (hd : Py.dep α + 1 ≤ 64) (q : Q (.bl (!decide (a ∈ l))) H) : rNotInD K x y H Q :=
  ⟨enc a, l.map enc, hx.dp, hy.dp, shaped_enc (by omega) a, shaped_enc (α := List α) hd l, by rw [any_enc]; exact q⟩
theorem rInD_of {K : PySem.W.Frag} {α : Type} [Py α] [DecidableEq α] {S S' : List Addr} {H : Hp} {x y : V} {a : α} {l : List α} {Q : VK} (hx : De S H x a) (hy : De S' H y l) (hd : Py.dep α + 1 ≤ 64) (q : Q (.bl (decide (a ∈ l))) H) : rInD K x y H Q :=
  ⟨enc a, l.map enc, hx.dp, hy.dp, shaped_enc (by omega) a, shaped_enc (α := List α) hd l, by rw [any_enc]; exact q⟩
theorem join_len (sep : Str) (l : List Str) : (Txt.join sep l).length = (l.map (·.length)).sum + (l.length - 1) * sep.length := size_glued sep l
/-- a list of two things -/
structure Li2 (α β : Type) where
  a : α
  b : β
instance {α β : Type} [DecidableEq α] [DecidableEq β] : DecidableEq (Li2 α β) := fun x y => decidable_of_iff (x.a = y.a ∧ x.b = y.b) ⟨fun h => by cases x; cases y; cases h; simp_all, fun h => by rw [h]; exact ⟨rfl, rfl⟩⟩
instance {α β : Type} [En α] [En β] : En (Li2 α β) where
  enc := fun p => .list [enc p.a, enc p.b]
instance {α β : Type} [Py α] [Py β] : Py (Li2 α β) where
  dep := max (Py.dep α) (Py.dep β) + 1
  eqv := fun a b => by
    show PyData.eqv (.list [enc a.a, enc a.b]) (.list [enc b.a, enc b.b]) = true ↔ a = b
    simp only [PyData.eqv, PyData.eqvAll, Bool.and_eq_true, Bool.and_true, Py.eqv]
    constructor
    · rintro ⟨h1, h2⟩
      cases a
      cases b
      simp_all
    · rintro rfl
      exact ⟨rfl, rfl⟩
  lay := fun a => by
    show (PyData.list [enc a.a, enc a.b]).canLay0 = true
    simp [PyData.canLay0, PyData.canLayAll0, Py.lay]
  dle := fun a => by
    have h1 := Py.dle a.a
    have h2 := Py.dle a.b
    show (PyData.list [enc a.a, enc a.b]).depth ≤ _
    simp only [PyData.depth, PyData.depthAll]
    omega
theorem De.li2 {α β : Type} [En α] [En β] {S : List Addr} {H : Hp} {v : V} {p : Li2 α β} (h : De S H v p) : ∃ a x y, v = .ref a ∧ a ∉ S ∧ H a = some (.lst [x, y]) ∧ De S H x p.a ∧ De S H y p.b := by
  cases h with
  | lst n e h =>
    cases h with
    | cons h1 t =>
      cases t with
      | cons h2 t =>
        cases t
        exact ⟨_, _, _, rfl, n, e, h1, h2⟩
theorem De.mkLi2 {α β : Type} [En α] [En β] {S : List Addr} {H : Hp} {a : Addr} {x y : V} {p : Li2 α β} (n : a ∉ S) (e : H a = some (.lst [x, y])) (hx : De S H x p.a) (hy : De S H y p.b) : De S H (.ref a) p := .lst n e (.cons hx (.cons hy .nil))
/-- a pot of draws -/
def PotAt (H : Hp) (p : Addr) : Prop := ∃ a b : Int, H p = some (.lst [.int a, .int b]) ∧ 0 ≤ a ∧ 0 ≤ b ∧ b < 2147483587
theorem PotAt.old {H : Hp} {p : Addr} (h : PotAt H p) : ∃ o, H p = some o := by
  obtain ⟨a, b, e, _⟩ := h
  exact ⟨_, e⟩
theorem PotAt.keep {S : List Addr} {H H' : Hp} {p : Addr} (h : PotAt H p) (k : Kp S H H') (n : p ∉ S) : PotAt H' p := by
  obtain ⟨a, b, e, h⟩ := h
  exact ⟨a, b, k p _ n e, h⟩
end Lw

set_option Elab.async false
set_option linter.all false
set_option maxRecDepth 100000
set_option maxHeartbeats 4000000
/-! what readings ask of lists and pairs that are data -/
namespace Lw
open PySem PySem.Spec PyProof.Rows L2 He StX
open En (enc)
section
variable {K : PySem.W.Frag} {α β : Type} [En α] [En β] {S : List Addr} {H : Hp} {x y : V} {Q : VK}
theorem De.keep0 {H' : Hp} {a : α} (h : De S H x a) (k : Kp [] H H') : De S H' x a := Dx.keep k.of0 h
theorem newL {vs : List V} {as : List α} (oS : Old S H) (h : DeA S H vs as) (q : ∀ v H', Kp [] H H' → De S H' v as → Q v H') : ∀ p, H p = none → Q (.ref p) (upd H p (.lst vs)) :=
  fun p hp => q _ _ (.new hp) (De.mkLs (oS.no hp) upd_same (DxA.keep (.new hp) h))
theorem newP {a : α} {b : β} (oS : Old S H) (hx : De S H x a) (hy : De S H y b) (q : ∀ v H', Kp [] H H' → De S H' v (a, b) → Q v H') : ∀ p, H p = none → Q (.ref p) (upd H p (.tup [x, y])) :=
  fun p hp => q _ _ (.new hp) (.tup (oS.no hp) upd_same (.cons (Dx.keep (.new hp) hx) (.cons (Dx.keep (.new hp) hy) .nil)))
theorem newLi2 {a : α} {b : β} (oS : Old S H) (hx : De S H x a) (hy : De S H y b) (q : ∀ v H', Kp [] H H' → De S H' v (Li2.mk a b) → Q v H') : ∀ p, H p = none → Q (.ref p) (upd H p (.lst [x, y])) :=
  fun p hp => q _ _ (.new hp) (De.mkLi2 (oS.no hp) upd_same (Dx.keep (.new hp) hx) (Dx.keep (.new hp) hy))
theorem catD {l m : List α} (oS : Old S H) (hx : De S H x l) (hy : De S H y m) (hz : l.length + m.length ≤ 1000000) (q : ∀ v H', Kp [] H H' → De S H' v (l ++ m) → Q v H') : rCat x y H Q := by
  obtain ⟨a, xs, rfl, na, ea, da⟩ := hx.ls
  obtain ⟨b, ys, rfl, nb, eb, db⟩ := hy.ls
  refine ⟨a, b, xs, ys, rfl, rfl, ea, eb, by rw [da.len, db.len]; have := sizeLine_eq; omega, newL oS ?_ q⟩
  show DxA S H (xs ++ ys) ((l ++ m).map enc)
  rw [List.map_append]
  exact DxA.append da db
theorem slD_init {l : List α} (oS : Old S H) (hx : De S H x l) (q : ∀ v H', Kp [] H H' → De S H' v l.dropLast → Q v H') : rSlL K x none (some (-1)) H Q := by
  obtain ⟨a, xs, rfl, na, ea, da⟩ := hx.ls
  refine ⟨a, xs, rfl, SqL.of ea, newL oS ?_ q⟩
  have e : cutV xs none (some (-1)) = xs.dropLast := by
    unfold cutV
    rw [HT.sIx_none, List.drop_zero, Nat.sub_zero]
    show xs.take ((-1 + (xs.length : Int)).toNat) = _
    rw [List.dropLast_eq_take, show (-1 + (xs.length : Int)).toNat = xs.length - 1 by omega]
  rw [e]
  show DxA S H _ (l.dropLast.map enc)
  rw [List.dropLast_eq_take, List.dropLast_eq_take, List.map_take, da.len]
  exact DxA.take _ da
theorem ixD {l : List α} {n : Nat} {i : Int} {a : α} (hx : De S H x l) (hi : i = n) (ha : l[n]? = some a) (q : ∀ v, De S H v a → Q v H) : rIxL K x (.int i) H Q := by
  obtain ⟨b, xs, rfl, nb, eb, db⟩ := hx.ls
  obtain ⟨v, hv, dv⟩ := db.at ha
  exact ixL eb hi hv (q v dv)
theorem ixD_last {l : List α} {a : α} (hx : De S H x l) (ha : l.getLast? = some a) (q : ∀ v, De S H v a → Q v H) : rIxL K x (.int (-1)) H Q := by
  obtain ⟨b, xs, rfl, nb, eb, db⟩ := hx.ls
  have hl : l[l.length - 1]? = some a := by rw [← List.getLast?_eq_getElem?]; exact ha
  have h0 : l.length ≠ 0 := fun z => by rw [List.length_eq_zero_iff.mp z] at ha; cases ha
  obtain ⟨v, hv, dv⟩ := db.at hl
  refine ⟨b, xs, _, v, rfl, rfl, SqL.of eb, ?_, q v dv⟩
  have e : xs = xs.dropLast ++ [v] := by
    have h1 : xs.getLast? = some v := by rw [List.getLast?_eq_getElem?, db.len]; exact hv
    obtain ⟨ys, hy⟩ := List.getLast?_eq_some_iff.mp h1
    rw [hy, List.dropLast_concat]
  rw [e]
  exact atI_last _ _
theorem ixP0 {p : α × β} (hx : De S H x p) (q : ∀ v, De S H v p.1 → Q v H) : rIxT K x (.int 0) H Q := by
  obtain ⟨a, u, v, rfl, na, ea, d1, d2⟩ := hx.pair
  exact ixT ea (n := 0) rfl rfl (q u d1)
theorem ixP1 {p : α × β} (hx : De S H x p) (q : ∀ v, De S H v p.2 → Q v H) : rIxT K x (.int 1) H Q := by
  obtain ⟨a, u, v, rfl, na, ea, d1, d2⟩ := hx.pair
  exact ixT ea (n := 1) rfl rfl (q v d2)
theorem ixLi0 {p : Li2 α β} (hx : De S H x p) (q : ∀ v, De S H v p.a → Q v H) : rIxL K x (.int 0) H Q := by
  obtain ⟨a, u, v, rfl, na, ea, d1, d2⟩ := hx.li2
  exact ixL ea (n := 0) rfl rfl (q u d1)
theorem ixLi1 {p : Li2 α β} (hx : De S H x p) (q : ∀ v, De S H v p.b → Q v H) : rIxL K x (.int 1) H Q := by
  obtain ⟨a, u, v, rfl, na, ea, d1, d2⟩ := hx.li2
  exact ixL ea (n := 1) rfl rfl (q v d2)
end
theorem ixI0 {K : PySem.W.Frag} {S : List Addr} {H : Hp} {x : V} {Q : VK} {p : Int × Int} (hx : De S H x p) (q : Q (.int p.1) H) : rIxT K x (.int 0) H Q := ixP0 hx fun v d => by rw [d.int]; exact q
theorem ixI1 {K : PySem.W.Frag} {S : List Addr} {H : Hp} {x : V} {Q : VK} {p : Int × Int} (hx : De S H x p) (q : Q (.int p.2) H) : rIxT K x (.int 1) H Q := ixP1 hx fun v d => by rw [d.int]; exact q
section
variable {K : PySem.W.Frag} {α β : Type} [En α] [En β] {S : List Addr} {H : Hp} {x y : V} {Q : VK} {p : Addr}
theorem factL {vs : List V} {as : List α} (oS : Old S H) (h : DeA S H vs as) (hp : H p = none) : De S (upd H p (.lst vs)) (.ref p) as := De.mkLs (oS.no hp) upd_same (DxA.keep (.new hp) h)
theorem factP {a : α} {b : β} (oS : Old S H) (hx : De S H x a) (hy : De S H y b) (hp : H p = none) : De S (upd H p (.tup [x, y])) (.ref p) (a, b) := .tup (oS.no hp) upd_same (.cons (Dx.keep (.new hp) hx) (.cons (Dx.keep (.new hp) hy) .nil))
theorem factLi2 {a : α} {b : β} (oS : Old S H) (hx : De S H x a) (hy : De S H y b) (hp : H p = none) : De S (upd H p (.lst [x, y])) (.ref p) (Li2.mk a b) := De.mkLi2 (oS.no hp) upd_same (Dx.keep (.new hp) hx) (Dx.keep (.new hp) hy)
end
theorem De.keepN {α : Type} [En α] {S T : List Addr} {H H' : Hp} {f : Addr} {v : V} {a : α} (h : De S H v a) (hf : H f = none) (k : Kp (f :: T) H H') (hT : ∀ a ∈ T, a ∈ S) : De (f :: S) H' v a :=
  Dx.keep (k.mono fun a z => by
    rcases List.mem_cons.mp z with z | z
    · rw [z]; exact List.mem_cons_self ..
    · exact List.mem_cons_of_mem _ (hT a z)) (Dx.wid (fun a z => by
    rcases List.mem_cons.mp z with z | z
    · rw [z]; exact .inr hf
    · exact .inl z) h)
theorem Old.keepN {S : List Addr} {H H' : Hp} {f : Addr} {o : HO} (h : Old S H) (k : Kp [f] H H') (e : H' f = some o) : Old (f :: S) H' := fun s hs => by
  rcases List.mem_cons.mp hs with z | z
  · exact ⟨_, z ▸ e⟩
  · by_cases zf : s = f
    · exact ⟨_, zf ▸ e⟩
    · obtain ⟨u, q⟩ := h s z
      exact ⟨u, k s u (fun w => zf (List.mem_singleton.mp w)) q⟩
section
variable {K : PySem.W.Frag} {α β : Type} [En α] [En β] {S : List Addr} {H : Hp} {x y : V} {Q : VK} {p : Addr}
theorem fL {vs : List V} (as : List α) (oS : Old S H) (h : DeA S H vs as) (hp : H p = none) : Kp [] H (upd H p (.lst vs)) ∧ De S (upd H p (.lst vs)) (.ref p) as := ⟨.new hp, factL oS h hp⟩
theorem fP (a : α) (b : β) (oS : Old S H) (hx : De S H x a) (hy : De S H y b) (hp : H p = none) : Kp [] H (upd H p (.tup [x, y])) ∧ De S (upd H p (.tup [x, y])) (.ref p) (a, b) := ⟨.new hp, factP oS hx hy hp⟩
end
theorem tFor_new {K : PySem.W.Frag} {wi : TI} {g : TG} {tb : TS} {D : Ends} {σ : L2.St} {H : Hp} (vs : List V) (Pv : Addr → Nat → L2.St → Hp → Prop) (hwi : ∀ R : It → Hp → Prop, (∀ L, H L = none → R (Itl K L) (upd H L (.lst vs))) → wi σ H R)
    (h0 : ∀ L, H L = none → Pv L 0 σ (upd H L (.lst vs))) (hG : ∀ L i σ H', Pv L i σ H' → H' L = some (.lst vs))
    (hs : ∀ L i x σ H', H L = none → vs[i]? = some x → Pv L i σ H' → g x σ H' fun σ2 H2 => tb { D with nx := Pv L (i + 1), ct := Pv L (i + 1), bk := D.nx } σ2 H2) (hd : ∀ L σ H', H L = none → Pv L vs.length σ H' → D.nx σ H') : tFor wi g tb D σ H :=
  hwi _ fun L hL => for_it (walk_list (K := K) (a := L) (xs := vs)) (Pv L) (h0 L hL) (fun i σ H' _ p => SqL.of (hG L i σ H' p)) (fun i x σ H1 H2 hi p ⟨e, hx⟩ => by subst e; exact hs L i x σ _ hL hx p) (fun σ H' p => hd L σ H' hL p)
end Lw

set_option Elab.async false
set_option linter.all false
set_option maxRecDepth 100000
set_option maxHeartbeats 4000000
/-! where one stands: B the heap at the def's begin, T0 what may change of it, S0 what results keep off; now S kept off, M what stands at addresses of S, L facts of values, H the heap -/
namespace Lw
open PySem PySem.Spec PyProof.Rows L2 He StX
open En (enc)
/-- what a value is -/
structure AV where
  R : List Addr → Hp → V → Prop
  keep : ∀ {S : List Addr} {H H' : Hp} {v : V}, R S H v → Kp S H H' → R S H' v
  wid : ∀ {S S' : List Addr} {H : Hp} {v : V}, R S H v → (∀ a, a ∈ S' → a ∈ S ∨ H a = none) → R S' H v
def dat {α : Type} [En α] (a : α) : AV := ⟨fun S H v => De S H v a, fun h k => Dx.keep k h, fun h w => Dx.wid w h⟩
/-- what stands at an address that may change -/
structure Mu where
  a : Addr
  loc : Bool
  P : List Addr → Hp → Prop
  keep : ∀ {S T : List Addr} {H H' : Hp}, P S H → Kp T H H' → (∀ x ∈ T, x ∈ S) → a ∉ T → P S H'
  wid : ∀ {S S' : List Addr} {H : Hp}, P S H → (∀ x, x ∈ S' → x ∈ S ∨ H x = none) → P S' H
def Mu.pot (p : Addr) : Mu := ⟨p, false, fun _ H => PotAt H p, fun h k _ n => h.keep k n, fun h _ => h⟩
def Mu.lst {α : Type} [En α] (f : Addr) (l : List α) : Mu := ⟨f, true, fun S H => ∃ xs, H f = some (.lst xs) ∧ DeA S H xs l,
  fun ⟨xs, e, d⟩ k s n => ⟨xs, k f _ n e, DxA.keep (k.mono s) d⟩, fun ⟨xs, e, d⟩ w => ⟨xs, e, DxA.wid w d⟩⟩
structure Ctx (B : Hp) (T0 S0 S : List Addr) (M : List Mu) (L : List (V × AV)) (H : Hp) : Prop where
  oB : Old S0 B
  tS : ∀ a ∈ T0, a ∈ S0
  sub : ∀ a ∈ S0, a ∈ S
  old : Old S H
  kp : Kp T0 B H
  mu : ∀ m ∈ M, m.a ∈ S ∧ m.P S H ∧ (m.a ∈ T0 ∨ B m.a = none) ∧ (m.loc = true → B m.a = none)
  dis : (M.map (·.a)).Nodup
  fa : ∀ f ∈ L, f.2.R S H f.1
section
variable {B H H' : Hp} {T0 S0 S : List Addr} {M : List Mu} {L : List (V × AV)} {v : V} {A : AV}
theorem Ctx.start {S T0 : List Addr} (o : Old S H) (t : ∀ a ∈ T0, a ∈ S) : Ctx H T0 S S [] [] H :=
  ⟨o, t, fun _ h => h, o, .refl, fun _ h => absurd h List.not_mem_nil, .nil, fun _ h => absurd h List.not_mem_nil⟩
theorem Ctx.addA (C : Ctx B T0 S0 S M L H) (h : A.R S H v) : Ctx B T0 S0 S M ((v, A) :: L) H :=
  ⟨C.oB, C.tS, C.sub, C.old, C.kp, C.mu, C.dis, fun f hf => (List.mem_cons.mp hf).elim (fun z => z ▸ h) (C.fa f)⟩
theorem Ctx.add {α : Type} [En α] {a : α} (C : Ctx B T0 S0 S M L H) (h : De S H v a) : Ctx B T0 S0 S M ((v, dat a) :: L) H := C.addA (A := dat a) h
theorem Ctx.less {L' : List (V × AV)} (C : Ctx B T0 S0 S M L H) (h : ∀ f ∈ L', f ∈ L) : Ctx B T0 S0 S M L' H := ⟨C.oB, C.tS, C.sub, C.old, C.kp, C.mu, C.dis, fun f hf => C.fa f (h f hf)⟩
theorem Ctx.get (C : Ctx B T0 S0 S M L H) (h : (v, A) ∈ L) : A.R S H v := C.fa _ h
theorem Ctx.d {α : Type} [En α] {a : α} (C : Ctx B T0 S0 S M L H) (h : (v, dat a) ∈ L) : De S H v a := C.fa _ h
/-- a step that changes what stands at T, all that is of M kept or said anew -/
theorem Ctx.step {M' : List Mu} {T : List Addr} (C : Ctx B T0 S0 S M L H) (k : Kp T H H') (o : Old S H') (hT : ∀ a ∈ T, a ∈ S) (hB : ∀ a ∈ T, a ∈ T0 ∨ B a = none)
    (hM : M'.map (·.a) = M.map (·.a)) (hm : ∀ m ∈ M', m.a ∈ S ∧ m.P S H' ∧ (m.a ∈ T0 ∨ B m.a = none) ∧ (m.loc = true → B m.a = none)) : Ctx B T0 S0 S M' L H' where
  oB := C.oB
  tS := C.tS
  sub := C.sub
  old := o
  kp := fun a u n e => k a u (fun z => by
    rcases hB a z with q | q
    · exact n q
    · rw [q] at e; cases e) (C.kp a u n e)
  mu := hm
  dis := by rw [hM]; exact C.dis
  fa := fun f hf => f.2.keep (C.fa f hf) (k.mono hT)
theorem Ctx.pure (C : Ctx B T0 S0 S M L H) (k : Kp [] H H') : Ctx B T0 S0 S M L H' :=
  C.step k (C.old.keep0 k) (fun _ h => absurd h List.not_mem_nil) (fun _ h => absurd h List.not_mem_nil) rfl fun m hm =>
    let ⟨h1, h2, h3, h4⟩ := C.mu m hm
    ⟨h1, m.keep h2 k (fun _ h => absurd h List.not_mem_nil) subNil', h3, h4⟩
theorem nodup_idx {l : List Addr} (h : l.Nodup) {i j : Nat} {a : Addr} (hi : l[i]? = some a) (hj : l[j]? = some a) : i = j := by
  obtain ⟨h1, e1⟩ := List.getElem?_eq_some_iff.mp hi
  obtain ⟨h2, e2⟩ := List.getElem?_eq_some_iff.mp hj
  exact (List.getElem_inj (h₀ := h1) (h₁ := h2) h).mp (e1.trans e2.symm)
theorem Ctx.eff {m m' : Mu} {i : Nat} (C : Ctx B T0 S0 S M L H) (hm : M[i]? = some m) (k : Kp [m.a] H H') (ho : ∃ o, H' m.a = some o) (ea : m'.a = m.a) (el : m'.loc = m.loc) (hP : m'.P S H') : Ctx B T0 S0 S (M.set i m') L H' := by
  have hi := (List.getElem?_eq_some_iff.mp hm).1
  obtain ⟨c1, c2, c3, c4⟩ := C.mu m (List.mem_of_getElem? hm)
  have one : ∀ a ∈ [m.a], a ∈ S := fun a h => by rw [List.mem_singleton.mp h]; exact c1
  refine C.step k (C.old.keep k fun a h => by rw [List.mem_singleton.mp h]; exact ho) one (fun a h => by rw [List.mem_singleton.mp h]; exact c3) ?_ ?_
  · rw [List.map_set, ea]
    refine List.ext_getElem? fun j => ?_
    rw [List.getElem?_set]
    split
    · rename_i e
      subst e
      rw [if_pos (by rw [List.length_map]; exact hi), List.getElem?_map, hm]
      rfl
    · rfl
  · intro n hn
    obtain ⟨j, hj, ej⟩ := List.mem_iff_getElem.mp hn
    rw [List.length_set] at hj
    rw [List.getElem_set] at ej
    split at ej
    · subst ej
      rw [ea, el]
      exact ⟨c1, hP, c3, c4⟩
    · rename_i ne
      have hjM : M[j]? = some n := by rw [List.getElem?_eq_getElem hj, ej]
      obtain ⟨d1, d2, d3, d4⟩ := C.mu n (List.mem_of_getElem? hjM)
      refine ⟨d1, n.keep d2 k one fun z => ?_, d3, d4⟩
      have e := List.mem_singleton.mp z
      exact ne (nodup_idx C.dis (i := i) (j := j) (a := m.a) (by rw [List.getElem?_map, hm]; rfl) (by rw [List.getElem?_map, hjM, ← e]; rfl))
theorem set_self {α : Type} {l : List α} {i : Nat} {a : α} (h : l[i]? = some a) : l.set i a = l := by
  refine List.ext_getElem? fun j => ?_
  rw [List.getElem?_set]
  split
  · rename_i e
    subst e
    rw [if_pos (List.getElem?_eq_some_iff.mp h).1, h]
  · rfl
theorem Ctx.pot {p : Addr} (C : Ctx B T0 S0 S M L H) (i : Nat) (hm : M[i]? = some (.pot p)) (k : Kp [p] H H') (h : PotAt H' p) : Ctx B T0 S0 S M L H' := by
  have z := C.eff (m' := .pot p) hm k h.old rfl rfl h
  rwa [set_self hm] at z
theorem Ctx.potAt {p : Addr} (C : Ctx B T0 S0 S M L H) (i : Nat) (hm : M[i]? = some (.pot p)) : PotAt H p ∧ p ∈ S := let ⟨a, b, _⟩ := C.mu _ (List.mem_of_getElem? hm); ⟨b, a⟩
theorem Ctx.addPot {p : Addr} (C : Ctx B T0 S0 S M L H) (h : PotAt H p) (hp : p ∈ T0) (n : p ∉ M.map (·.a) := by exact List.not_mem_nil) : Ctx B T0 S0 S (.pot p :: M) L H :=
  ⟨C.oB, C.tS, C.sub, C.old, C.kp, fun m hm => (List.mem_cons.mp hm).elim (fun z => by subst z; exact ⟨C.sub _ (C.tS _ hp), h, .inl hp, fun z => nomatch z⟩) (C.mu m), List.nodup_cons.mpr ⟨n, C.dis⟩, C.fa⟩
/-- a new thing that may change -/
theorem Ctx.push {m : Mu} {o : HO} (C : Ctx B T0 S0 S M L H) (hf : H m.a = none) (hP : m.P (m.a :: S) (upd H m.a o)) : Ctx B T0 S0 (m.a :: S) (m :: M) L (upd H m.a o) := by
  have nS := C.old.no hf
  have nB : B m.a = none := C.kp.free (fun z => nS (C.sub _ (C.tS _ z))) hf
  have w : ∀ x, x ∈ m.a :: S → x ∈ S ∨ H x = none := fun x hx => by
    rcases List.mem_cons.mp hx with z | z
    · rw [z]; exact .inr hf
    · exact .inl z
  refine ⟨C.oB, C.tS, fun a h => List.mem_cons_of_mem _ (C.sub a h), Old.cons upd_same (C.old.keep0 (.new hf)), C.kp.trans (.new hf), fun n hn => ?_, ?_, fun f hf' => f.2.keep (f.2.wid (C.fa f hf') w) (.new hf)⟩
  · rcases List.mem_cons.mp hn with z | z
    · subst z
      exact ⟨List.mem_cons_self .., hP, .inr nB, fun _ => nB⟩
    · obtain ⟨h1, h2, h3, h4⟩ := C.mu n z
      exact ⟨List.mem_cons_of_mem _ h1, n.keep (n.wid h2 w) (T := []) (.new hf) (fun _ h => absurd h List.not_mem_nil) subNil', h3, h4⟩
  · rw [List.map_cons]
    refine List.nodup_cons.mpr ⟨fun z => ?_, C.dis⟩
    obtain ⟨n, hn, e⟩ := List.mem_map.mp z
    exact nS (e ▸ (C.mu n hn).1)
theorem Ctx.pushL {α : Type} [En α] {f : Addr} {xs : List V} {l : List α} (C : Ctx B T0 S0 S M L H) (hf : H f = none) (d : DeA S H xs l) : Ctx B T0 S0 (f :: S) (.lst f l :: M) L (upd H f (.lst xs)) :=
  C.push (m := .lst f l) hf ⟨xs, upd_same, DxA.keep (.new hf) (DxA.wid (fun x hx => by
    rcases List.mem_cons.mp hx with z | z
    · rw [z]; exact .inr hf
    · exact .inl z) d)⟩
/-- a new list that a call returned -/
theorem Ctx.adopt {α : Type} [En α] {f : Addr} {xs : List V} {l : List α} (C : Ctx B T0 S0 S M L H) (k : Kp [] H H') (hf : H f = none) (e : H' f = some (.lst xs)) (d : DeA (f :: S) H' xs l) : Ctx B T0 S0 (f :: S) (.lst f l :: M) L H' := by
  have nS := C.old.no hf
  have nB : B f = none := C.kp.free (fun z => nS (C.sub _ (C.tS _ z))) hf
  have w : ∀ x, x ∈ f :: S → x ∈ S ∨ H x = none := fun x hx => by
    rcases List.mem_cons.mp hx with z | z
    · rw [z]; exact .inr hf
    · exact .inl z
  refine ⟨C.oB, C.tS, fun a h => List.mem_cons_of_mem _ (C.sub a h), Old.cons e (C.old.keep0 k), C.kp.trans k.of0, fun n hn => ?_, ?_, fun g hg => g.2.keep (g.2.wid (C.fa g hg) w) k.of0⟩
  · rcases List.mem_cons.mp hn with z | z
    · subst z
      exact ⟨List.mem_cons_self .., ⟨xs, e, d⟩, .inr nB, fun _ => nB⟩
    · obtain ⟨h1, h2, h3, h4⟩ := C.mu n z
      exact ⟨List.mem_cons_of_mem _ h1, n.keep (n.wid h2 w) (T := []) k (fun _ h => absurd h List.not_mem_nil) subNil', h3, h4⟩
  · rw [List.map_cons]
    refine List.nodup_cons.mpr ⟨fun z => ?_, C.dis⟩
    obtain ⟨n, hn, e⟩ := List.mem_map.mp z
    exact nS ((show n.a = f from e) ▸ (C.mu n hn).1)
theorem Ctx.no {f : Addr} (C : Ctx B T0 S0 S M L H) (hf : H f = none) : f ∉ S := C.old.no hf
theorem Ctx.addD {α : Type} [En α] {a : α} (C : Ctx B T0 S0 S M L H) (k : Kp [] H H') (h : De S H' v a) : Ctx B T0 S0 S M ((v, dat a) :: L) H' := (C.pure k).add h
/-- what is returned -/
theorem Ctx.out {α : Type} [En α] {a : α} (C : Ctx B T0 S0 S M L H) (h : De S H v a) : De S0 H v a := Dx.wid (fun x hx => .inl (C.sub x hx)) h
theorem Ctx.outA (C : Ctx B T0 S0 S M L H) (h : A.R S H v) : A.R S0 H v := A.wid h (fun x hx => .inl (C.sub x hx))
theorem Ctx.pushNil {f : Addr} (α : Type) [En α] (C : Ctx B T0 S0 S M L H) (hf : H f = none) : Ctx B T0 S0 (f :: S) (.lst f ([] : List α) :: M) L (upd H f (.lst [])) := C.pushL hf .nil
/-- the list at f as it stands -/
theorem Ctx.lstAt {α : Type} [En α] {f : Addr} {l : List α} (C : Ctx B T0 S0 S M L H) (i : Nat) (hm : M[i]? = some (.lst f l)) : ∃ xs, H f = some (.lst xs) ∧ DeA S H xs l := (C.mu _ (List.mem_of_getElem? hm)).2.1
theorem Ctx.putAt {α : Type} [En α] {f : Addr} {l l' : List α} {xs' : List V} (C : Ctx B T0 S0 S M L H) (i : Nat) (hm : M[i]? = some (.lst f l)) (d : DeA S H xs' l') : Ctx B T0 S0 S (M.set i (.lst f l')) L (upd H f (.lst xs')) := by
  have fS := (C.mu _ (List.mem_of_getElem? hm)).1
  exact C.eff (m' := .lst f l') hm (Kp.mut (List.mem_singleton_self f)) ⟨_, upd_same⟩ rfl rfl ⟨xs', upd_same, DxA.keep (.mut fS) d⟩
/-- what changes no more -/
theorem Ctx.freeze {α : Type} [En α] {f : Addr} {l : List α} (C : Ctx B T0 S0 (f :: S) (.lst f l :: M) L H) (nf : f ∉ S) : Ctx B T0 S0 S M ((.ref f, dat l) :: L) H := by
  obtain ⟨c1, ⟨xs, e, d⟩, c3, c4⟩ := C.mu _ (List.mem_cons_self ..)
  have nB : B f = none := c4 rfl
  have n0 : f ∉ S0 := C.oB.no nB
  obtain ⟨n1, n2⟩ := List.nodup_cons.mp C.dis
  have w : ∀ a, a ∈ S → a ∈ f :: S ∨ H a = none := fun a h => .inl (List.mem_cons_of_mem _ h)
  refine ⟨C.oB, C.tS, fun a h => ?_, fun a h => C.old a (List.mem_cons_of_mem _ h), C.kp, fun n hn => ?_, n2, fun g hg => ?_⟩
  · rcases List.mem_cons.mp (C.sub a h) with z | z
    · exact absurd h (z ▸ n0)
    · exact z
  · obtain ⟨h1, h2, h3, h4⟩ := C.mu n (List.mem_cons_of_mem _ hn)
    refine ⟨?_, n.wid h2 w, h3, h4⟩
    rcases List.mem_cons.mp h1 with z | z
    · exact absurd (List.mem_map.mpr ⟨n, hn, z⟩) n1
    · exact z
  · rcases List.mem_cons.mp hg with z | z
    · subst z
      show De S H (.ref f) l
      exact De.mkLs nf e (DxA.wid w d)
    · exact g.2.wid (C.fa g z) w
/-- a comprehension's turn -/
theorem Ctx.put {α : Type} [En α] {f : Addr} {l l' : List α} {y : V} {a : α} (C : Ctx B T0 S0 S M L H) (i : Nat) (hm : M[i]? = some (.lst f l)) (hy : De S H y a) (e : l' = l ++ [a]) (hz : l.length < sizeLine) :
    ∃ acc, H f = some (.lst acc) ∧ acc.length < sizeLine ∧ Ctx B T0 S0 S (M.set i (.lst f l')) L (upd H f (.lst (acc ++ [y]))) := by
  obtain ⟨xs, ex, d⟩ := C.lstAt i hm
  have d' : DeA S H (xs ++ [y]) l' := by
    subst e
    show DxA S H _ ((l ++ [a]).map enc)
    rw [List.map_append]
    exact DxA.append d (.cons hy .nil)
  exact ⟨xs, ex, by rw [d.len]; exact hz, C.putAt i hm d'⟩
/-- xs.append(y) -/
theorem Ctx.app {α : Type} [En α] {f : Addr} {l : List α} {y : V} {a : α} {Q : VK} (C : Ctx B T0 S0 S M L H) (i : Nat) (hm : M[i]? = some (.lst f l)) (hy : De S H y a) (hz : l.length < sizeLine) (q : ∀ H', Ctx B T0 S0 S (M.set i (.lst f (l ++ [a]))) L H' → Q .non H') : rAppend (.ref f) [y] H Q := by
  obtain ⟨xs, ex, hl, C'⟩ := C.put i hm hy rfl hz
  exact ⟨f, xs, y, rfl, rfl, ex, hl, q _ C'⟩
/-- a list comprehension: r i what stands there behind i turns -/
theorem lc_c {α : Type} [En α] {J : It} {n : Nat} {G : Hp → Prop} {Y : Nat → Hp → V → Hp → Prop} {g : TG} {tt : TT} {te : TE} {vs : List Nat} {σ : L2.St} {Q : VK} (C : Ctx B T0 S0 S M L H) (w : Walk J n G Y) (r : Nat → List α) (hr : r 0 = [])
    (hG : ∀ D i H', Ctx B T0 S0 (D :: S) (.lst D (r i) :: M) L H' → G H')
    (hs : ∀ D i x H H', i < n → Ctx B T0 S0 (D :: S) (.lst D (r i) :: M) L H → Y i H x H' → g x (wipe σ vs) H' fun σ2 H2 => wipe σ2 vs = wipe σ vs ∧ tt σ2 H2 fun b H3 =>
      if b = true then te σ2 H3 fun y H4 => ∃ acc, H4 D = some (.lst acc) ∧ acc.length < sizeLine ∧ Ctx B T0 S0 (D :: S) (.lst D (r (i + 1)) :: M) L (upd H4 D (.lst (acc ++ [y]))) else Ctx B T0 S0 (D :: S) (.lst D (r (i + 1)) :: M) L H3)
    (hd : ∀ D H', D ∉ S → Ctx B T0 S0 (D :: S) (.lst D (r n) :: M) L H' → Q (.ref D) H') :
    ∀ D, H D = none → ∃ W : Nat → Nat → Hp → Prop, (∃ m, W 0 m (upd H D (.lst []))) ∧ ∀ i m H, W i m H →
      (J.stop i H ∧ Q (.ref D) H) ∨ (J.go i H ∧ ∃ Nx : Hp → Prop, (∀ H', Nx H' → ∃ m', m' < m ∧ W (i + 1) m' H') ∧ ∀ x H', J.yld i H x H' → g x (wipe σ vs) H' fun σ2 H2 => wipe σ2 vs = wipe σ vs ∧ tt σ2 H2 fun b H3 =>
        if b = true then te σ2 H3 fun y H4 => ∃ acc, H4 D = some (.lst acc) ∧ acc.length < sizeLine ∧ Nx (upd H4 D (.lst (acc ++ [y]))) else Nx H3) := fun D hD =>
  lc_it w (fun i H' => Ctx B T0 S0 (D :: S) (.lst D (r i) :: M) L H') (by rw [hr]; exact C.pushNil α hD) (fun i H' _ p => hG D i H' p) (hs D) (fun H' p => hd D H' (C.old.no hD) p)
end
end Lw

set_option Elab.async false
set_option linter.all false
set_option maxRecDepth 100000
set_option maxHeartbeats 4000000
/-! calls with keywords; class methods -/
namespace Lw
open PySem PySem.Spec PyProof.Rows L2 He StX ClX
open En (enc)
/-- a def's body keeps its promise -/
def BodyG (CX : CXT) (P : Program) (w : World) (K : PySem.W.Frag) (mg : Str → Option Value) (base : Heap) (N : List Str) (qual : Str) (scope : Scope) (body : List Stmt) (k : Nat) (f : Addr) (sp : Sp) : Prop :=
  ∀ (cdv : Value) (A : Around) (outer : List Env) (s : Shared) (H : Hp) (vs : List V) (Q : VK) (E : XK), RoomG k (A.deeper (envOfC qual scope s.heap.objs.size f cdv)) → sp vs H Q E →
    ∃ t, PSs (cxOf CX P w K mg base N qual scope f cdv A outer s H E) body t ∧ t { nx := fun _ H' => Q .non H', rt := Q } (start N vs) H
/-- a promise by n positional values and the keywords ks -/
def FnW (P : Program) (w : World) (K : PySem.W.Frag) (mg : Str → Option Value) (base : Heap) (CX : CXT) (k : Nat) (f : Addr) (n : Nat) (ks : List Str) (gV : List V → List V → List V) (sp : Sp) : Prop :=
  ∀ (A : Around) (outer : List Env) (s : Shared) (H : Hp) (us ws : List Value) (vs zs : List V) (Q : VK) (E : XK), RoomG k A → Env0 P w K mg base A outer s H → Vals vs us → Vals zs ws → vs.length = n → zs.length = ks.length → sp (gV vs zs) H Q E →
    codeAny (model P w) A (.call (.ref f) ⟨us, ks.zip ws⟩) (CR CX outer P w H s Q E) s
section
variable {CX : CXT} {P : Program} {w : World} {K : PySem.W.Frag} {mg : Str → Option Value} {base : Heap} {k : Nat} {f : Addr} {x qual : Str} {params : Arguments} {body : List Stmt} {scope : Scope} {dvs : List V} {kws : List (Str × V)} {fd : FuncData} {N ps : List Str} {sp : Sp}
theorem fnW_of {n : Nat} {ks : List Str} {g : List Value → List Value → List Value} {gV : List V → List V → List V} (F : FunD K x qual params body scope dvs kws f fd) (S : FnScope N ps scope) (hb : KBn K fd ps n ks g gV) (len : ∀ vs H Q E, sp vs H Q E → vs.length = ps.length)
    (B : BodyG CX P w K mg base N qual scope body k f sp) : FnW P w K mg base CX (k + 1) f n ks gV sp := by
  obtain ⟨oc, od, dV, kV, doc, pm, an, cdv, ct, osl, rfl, lk, hcd, _, _⟩ := F.ex
  intro A outer s H us ws vs zs Q E hr e0 r1 r2 l1 l2 hs
  have r := hb.rel r1 r2
  have hl := (r.length).symm.trans (len _ _ _ _ hs)
  have KX : K.In s.heap := e0.mod.kin.keeps fun b o e => (e0.bs b o e).1
  refine run_bnd lk hcd S hr.room e0 (G := fun xs H2 => xs = gV vs zs ∧ H2 = H) (fun A' Ex Q' h => hb.to s us ws KX (r1.length.symm.trans l1) (r2.length.symm.trans l2) _ _ _ _ (h s H (gV vs zs) (g us ws) e0 Un.refl rfl (fun _ _ z => z) r (len _ _ _ _ hs) ⟨rfl, rfl⟩)) fun s2 H2 xs ⟨ex, eH⟩ hr' => ?_
  subst ex eH
  exact B cdv A outer s2 H2 _ Q E ⟨hr', hr.gd⟩ hs
/-- no defaults: how the keywords bind -/
theorem kbn_plain {n : Nat} {ks : List Str} (g : {α : Type} → List α → List α → List α) (F : FunD K x qual params body scope [] kws f fd) (hrel : ∀ {vs zs : List V} {us ws : List Value}, Vals vs us → Vals zs ws → Vals (g vs zs) (g us ws))
    (h : ∀ (kV doc pm : Value) (an : Option Addr) (cdv ct : Value) (us ws : List Value), us.length = n → ws.length = ks.length → bindArgs (PySem.W.fnOf x qual params body scope .none kV doc pm an cdv ct) ⟨us, ks.zip ws⟩ = pure (ps.zip (g us ws))) :
    KBn K fd ps n ks (fun us ws => g us ws) (fun vs zs => g vs zs) := by
  obtain ⟨oc, od, dV, kV, doc, pm, an, cdv, ct, osl, rfl, lk, hcd, hD, hK⟩ := F.ex
  obtain rfl : dV = .none := by
    rcases hD with ⟨_, e⟩ | ⟨e, _⟩
    · exact e
    · exact absurd rfl e
  exact ⟨fun s us ws _ l1 l2 => .of_eq (h _ _ _ _ _ _ us ws l1 l2), hrel⟩
end
section
variable {X : Cx} {CX : CXT} {k : Nat} {f C : Addr} {sp : Sp} {E : XK} {pins : List (Addr × Obj)} {σ : L2.St} {H : Hp} {s : Shared} {n : Nat} {ks : List Str} {gV : List V → List V → List V}
theorem run_w {Q : VK} {us ws : List Value} {vs zs : List V} (F : FnW X.prog X.w X.K X.mg X.base CX k f n ks gV sp) (hr : RoomG k X.A) (hx : Passes CX X E) (I : Inv X pins σ H s) (r : Vals vs us) (rz : Vals zs ws) (l1 : vs.length = n) (l2 : zs.length = ks.length) (h : sp (gV vs zs) H Q E) :
    wpAny (model X.prog X.w) X.A (call (.ref f) us (ks.zip ws)) (EP X pins σ Q) X.xe s := by
  refine wpAny_call (codeAny_mono (F X.A X.stack s H us ws vs zs Q E hr I.env0 r rz l1 l2 h) fun r s' hq => ?_)
  match r, hq with
  | .error e, hq => exact hx pins σ H s e s' I hq
  | .ok (.ret u), hq => exact I.after hq
  | .ok .next, hq => exact False.elim hq
  | .ok .brk, hq => exact False.elim hq
  | .ok .cont, hq => exact False.elim hq
/-- f(e, .., k=v), f(k=v) -/
def tCW (n m : Nat) (gV : List V → List V → List V) (sp : Sp) (E : XK) (t tk : TA) : TE := fun σ H Q => t σ H fun vs H1 => tk σ H1 fun zs H2 => vs.length = n ∧ zs.length = m ∧ sp (gV vs zs) H2 Q E
theorem pe_cW {x : Str} {e : Expr} {es : List Expr} {kws : List Keyword} {t tk : TA} {p pos : Pos} (F : FnW X.prog X.w X.K X.mg X.base CX k f n ks gV sp) (hr : RoomG k X.A) (hk : PySem.W.keepIn X.K (.ref f) = true) (hg : Gl X x) (hm : X.mg x = some (.ref f)) (hx : Passes CX X E) (ha : PA X (e :: es) t) (hkw : PK X kws tk)
    (hall : (backToKw pos (keywordEach kws X.env)).all (·.1.isSome) = true := by rfl) (hks : (backToKw pos (keywordEach kws X.env)).filterMap (·.1) = ks := by rfl)
    (hdb : (x == ("__debug__" : Str)) = false := by decide) (he : starEach (e :: es) X.env = (false, eval e X.env) :: starEach es X.env := by rfl)
    (hpl : ((backTo pos (starEach (e :: es) X.env)).any (·.1) || (backToKw pos (keywordEach kws X.env)).any (·.1.isNone)) = false := by rfl) : PE X (.Call (.Name x p) (e :: es) kws pos) (tCW n ks.length gV sp E t tk) :=
  ⟨fun pins s σ H Q I h => wpAny_Call_Name_kw (ld_glob I hg hm (PySem.W.callWith_KW (h₀ := X.base) I.ok.mod.kin hk hall (thn (ha.run pos pins s σ H _ I h) fun us s1 ⟨vs, H1, I1, r, q⟩ =>
    thn (hkw.run pos pins s1 σ H1 _ I1 q) fun ws s2 ⟨zs, H2, I2, rz, l1, l2, q2⟩ => ⟨I2.kIn, by rw [hks]; exact run_w F hr hx I2 r rz l1 l2 q2⟩) hpl he) hdb)⟩
theorem pe_cW0 {x : Str} {kws : List Keyword} {tk : TA} {p pos : Pos} (F : FnW X.prog X.w X.K X.mg X.base CX k f n ks gV sp) (hr : RoomG k X.A) (hk : PySem.W.keepIn X.K (.ref f) = true) (hg : Gl X x) (hm : X.mg x = some (.ref f)) (hx : Passes CX X E) (hkw : PK X kws tk)
    (hall : (backToKw pos (keywordEach kws X.env)).all (·.1.isSome) = true := by rfl) (hks : (backToKw pos (keywordEach kws X.env)).filterMap (·.1) = ks := by rfl)
    (hdb : (x == ("__debug__" : Str)) = false := by decide)
    (hpl : ((backTo pos (starEach [] X.env)).any (·.1) || (backToKw pos (keywordEach kws X.env)).any (·.1.isNone)) = false := by rfl) : PE X (.Call (.Name x p) [] kws pos) (tCW n ks.length gV sp E tNil tk) :=
  ⟨fun pins s σ H Q I h => wpAny_Call_Name_kw (ld_glob I hg hm (PySem.W.callWith_KW0 (first := []) (h₀ := X.base) I.ok.mod.kin hk hall
    (thn (hkw.run pos pins s σ H _ I h) fun ws s2 ⟨zs, H2, I2, rz, l1, l2, q2⟩ => ⟨I2.kIn, by rw [hks]; exact run_w (us := []) (vs := []) F hr hx I2 .nil rz l1 l2 q2⟩) hpl) hdb)⟩
/-- o.m(e, .., k=v), o.m(k=v) -/
def tMW (C : Addr) (mt : Str) (n m : Nat) (gV : List V → List V → List V) (sp : Sp) (E : XK) (ta : TE) (t tk : TA) : TE := fun σ H Q => ta σ H fun x H1 => ∃ a dx fs, x = .ref a ∧ H1 a = some (.ins C dx fs) ∧ fs.lookup mt = none ∧ t σ H1 fun vs H2 => tk σ H2 fun zs H3 => vs.length + 1 = n ∧ zs.length = m ∧ sp (gV (x :: vs) zs) H3 Q E
theorem pe_mW {o e : Expr} {es : List Expr} {m : Str} {kws : List Keyword} {ta : TE} {t tk : TA} {apos pos : Pos} {pl : Sem Bool} (F : FnW X.prog X.w X.K X.mg X.base CX k f n ks gV sp) (hr : RoomG k X.A) (hx : Passes CX X E) (he : PE X o ta) (c : Cls X.K C) (hm : Meth X.K C m f) (ha : PA X (e :: es) t) (hkw : PK X kws tk)
    (hall : (backToKw pos (keywordEach kws X.env)).all (·.1.isSome) = true := by rfl) (hks : (backToKw pos (keywordEach kws X.env)).filterMap (·.1) = ks := by rfl) (hst : starEach (e :: es) X.env = (false, eval e X.env) :: starEach es X.env := by rfl)
    (hpl : ((backTo pos (starEach (e :: es) X.env)).any (·.1) || (backToKw pos (keywordEach kws X.env)).any (·.1.isNone)) = false := by rfl)
    (ht : eval (.Call (.Attribute o m apos) (e :: es) kws pos) X.env = (do
      let ov ← eval o X.env
      standAt apos.atName
      let (f, first) ← holding [ov] (getMethod ov m pl)
      callWith pos f first (backTo pos (starEach (e :: es) X.env)) (backToKw pos (keywordEach kws X.env))) := by rfl) : PE X (.Call (.Attribute o m apos) (e :: es) kws pos) (tMW C m n ks.length gV sp E ta t tk) := by
  refine ⟨fun pins s σ H Q I h => ?_⟩
  refine PySem.W.methodCall_KW (pl := pl) (thn (he.run pins s σ H _ I h) fun u s1 ⟨x, H1, I1, rx, a, dx, fs, ex, ea, l, q⟩ => ?_) ht
  subst ex
  cases (show u = Value.ref a from rx)
  refine getmeth_ok I1 ea c hm l (PySem.W.callWith_KW (first := [.ref a]) (h₀ := X.base) I.ok.mod.kin hm.kp hall (thn (ha.run pos pins s1 σ H1 _ I1 q) fun us s2 ⟨vs, H2, I2, r, q2⟩ =>
    thn (hkw.run pos pins s2 σ H2 _ I2 q2) fun ws s3 ⟨zs, H3, I3, rz, l1, l2, q3⟩ => ⟨I3.kIn, ?_⟩) hpl hst)
  rw [hks]
  exact run_w (us := .ref a :: us) (vs := .ref a :: vs) F hr hx I3 (.cons rfl r) rz l1 l2 q3
theorem pe_mW0 {o : Expr} {m : Str} {kws : List Keyword} {ta : TE} {tk : TA} {apos pos : Pos} {pl : Sem Bool} (F : FnW X.prog X.w X.K X.mg X.base CX k f n ks gV sp) (hr : RoomG k X.A) (hx : Passes CX X E) (he : PE X o ta) (c : Cls X.K C) (hm : Meth X.K C m f) (hkw : PK X kws tk)
    (hall : (backToKw pos (keywordEach kws X.env)).all (·.1.isSome) = true := by rfl) (hks : (backToKw pos (keywordEach kws X.env)).filterMap (·.1) = ks := by rfl)
    (hpl : ((backTo pos (starEach [] X.env)).any (·.1) || (backToKw pos (keywordEach kws X.env)).any (·.1.isNone)) = false := by rfl)
    (ht : eval (.Call (.Attribute o m apos) [] kws pos) X.env = (do
      let ov ← eval o X.env
      standAt apos.atName
      let (f, first) ← holding [ov] (getMethod ov m pl)
      callWith pos f first (backTo pos (starEach [] X.env)) (backToKw pos (keywordEach kws X.env))) := by rfl) : PE X (.Call (.Attribute o m apos) [] kws pos) (tMW C m n ks.length gV sp E ta tNil tk) := by
  refine ⟨fun pins s σ H Q I h => ?_⟩
  refine PySem.W.methodCall_KW (pl := pl) (thn (he.run pins s σ H _ I h) fun u s1 ⟨x, H1, I1, rx, a, dx, fs, ex, ea, l, q⟩ => ?_) ht
  subst ex
  cases (show u = Value.ref a from rx)
  refine getmeth_ok I1 ea c hm l (PySem.W.callWith_KW0 (first := [.ref a]) (h₀ := X.base) I.ok.mod.kin hm.kp hall (thn (hkw.run pos pins s1 σ H1 _ I1 q) fun ws s3 ⟨zs, H3, I3, rz, l1, l2, q3⟩ => ⟨I3.kIn, ?_⟩) hpl)
  rw [hks]
  exact run_w (us := [.ref a]) (vs := [.ref a]) F hr hx I3 (.cons rfl .nil) rz l1 l2 q3
/-- C.m(e, ..), m a classmethod -/
def tCM (C : Addr) (r : List V → Hp → VK → Prop) (t : TA) : TE := fun σ H Q => t σ H fun vs H2 => r (.ref C :: vs) H2 Q
def tCMW (C : Addr) (n m : Nat) (gV : List V → List V → List V) (sp : Sp) (E : XK) (t tk : TA) : TE := fun σ H Q => t σ H fun vs H2 => tk σ H2 fun zs H3 => vs.length + 1 = n ∧ zs.length = m ∧ sp (gV (.ref C :: vs) zs) H3 Q E
theorem run_cmG {q g : Addr} {Q : VK} {us : List Value} {vs : List V} (F : FnG X.prog X.w X.K X.mg X.base CX k g sp) (hr : RoomG k X.A) (hx : Passes CX X E) (I : Inv X ((q, PySem.W.methodObj (.ref g) (.ref C)) :: pins) σ H s) (r : Vals vs us) (h : sp (.ref C :: vs) H Q E) :
    wpAny (model X.prog X.w) X.A (call (.ref q) us) (EP X pins σ Q) X.xe s := by
  have z : wpAny (model X.prog X.w) X.A (call (.ref q) us) (EP X ((q, PySem.W.methodObj (.ref g) (.ref C)) :: pins) σ Q) X.xe s :=
    wpAny_call (PySem.W.method_call (pin_at I) (run_gA (us := .ref C :: us) (vs := .ref C :: vs) F hr I.env0 hx I (.cons rfl r) h))
  exact thn z fun _ _ y => unpinE y
theorem pe_cm {g p0 : Addr} {mc : Value} {o e : Expr} {es : List Expr} {m : Str} {t : TA} {apos pos : Pos} {pl : Sem Bool} (he : PE X o (tC (.ref C))) (r : CRead X.K C mc) (c : CMet X.K C mc m p0 g) (F : FnG X.prog X.w X.K X.mg X.base CX k g sp) (hr : RoomG k X.A) (hx : Passes CX X E) (ha : PA X (e :: es) t)
    (hst : starEach (e :: es) X.env = (false, eval e X.env) :: starEach es X.env := by rfl) (hpl : (backTo pos (starEach es X.env)).any (·.1) = false := by rfl)
    (ht : eval (.Call (.Attribute o m apos) (e :: es) [] pos) X.env = (do
      let ov ← eval o X.env
      standAt apos.atName
      let (f, first) ← holding [ov] (getMethod ov m pl)
      callWith pos f first (backTo pos (starEach (e :: es) X.env)) (backToKw pos (keywordEach [] X.env))) := by rfl) : PE X (.Call (.Attribute o m apos) (e :: es) [] pos) (tCM C (fun vs H Q => sp vs H Q E) t) := by
  refine ⟨fun pins s σ H Q I h => ?_⟩
  refine PySem.W.methodCall_KW (pl := pl) (thn (he.run pins s σ H (fun x H1 => x = .ref C ∧ H1 = H) I ⟨rfl, rfl⟩) fun u s1 ⟨x, H1, I1, rx, ex, eH⟩ => ?_) ht
  subst ex eH
  cases (show u = Value.ref C from rx)
  refine getmethcm_ok I1 r c fun s2 I2 => ?_
  refine callwith_cm I2 (base_none I1 (Nat.le_refl _)) c.fi (thn (ha.run pos _ s2 σ H1 _ I2 h) fun us s3 ⟨vs, H2, I3, rv, q2⟩ => ⟨⟨pin_at I3, I3.kIn⟩, ?_⟩) hst hpl
  exact run_cmG F hr hx I3 rv q2
theorem pe_cm0 {g p0 : Addr} {mc : Value} {o : Expr} {m : Str} {apos pos : Pos} {pl : Sem Bool} (he : PE X o (tC (.ref C))) (r : CRead X.K C mc) (c : CMet X.K C mc m p0 g) (F : FnG X.prog X.w X.K X.mg X.base CX k g sp) (hr : RoomG k X.A) (hx : Passes CX X E)
    (ht : eval (.Call (.Attribute o m apos) [] [] pos) X.env = (do
      let ov ← eval o X.env
      standAt apos.atName
      let (f, first) ← holding [ov] (getMethod ov m pl)
      callWith pos f first (backTo pos (starEach [] X.env)) (backToKw pos (keywordEach [] X.env))) := by rfl) : PE X (.Call (.Attribute o m apos) [] [] pos) (tCM C (fun vs H Q => sp vs H Q E) tNil) := by
  refine ⟨fun pins s σ H Q I h => ?_⟩
  refine PySem.W.methodCall_KW (pl := pl) (thn (he.run pins s σ H (fun x H1 => x = .ref C ∧ H1 = H) I ⟨rfl, rfl⟩) fun u s1 ⟨x, H1, I1, rx, ex, eH⟩ => ?_) ht
  subst ex eH
  cases (show u = Value.ref C from rx)
  refine getmethcm_ok I1 r c fun s2 I2 => ?_
  exact PySem.W.callWith_M0 (first := []) ⟨pin_at I2, I2.kIn⟩ c.fi (run_cmG (vs := []) (us := []) F hr hx I2 .nil h)
theorem pe_cmW0 {g p0 : Addr} {mc : Value} {o : Expr} {m : Str} {kws : List Keyword} {tk : TA} {apos pos : Pos} {pl : Sem Bool} (he : PE X o (tC (.ref C))) (r : CRead X.K C mc) (c : CMet X.K C mc m p0 g) (F : FnW X.prog X.w X.K X.mg X.base CX k g n ks gV sp) (hr : RoomG k X.A) (hx : Passes CX X E) (hkw : PK X kws tk)
    (hall : (backToKw pos (keywordEach kws X.env)).all (·.1.isSome) = true := by rfl) (hks : (backToKw pos (keywordEach kws X.env)).filterMap (·.1) = ks := by rfl)
    (hpl : ((backTo pos (starEach [] X.env)).any (·.1) || (backToKw pos (keywordEach kws X.env)).any (·.1.isNone)) = false := by rfl)
    (ht : eval (.Call (.Attribute o m apos) [] kws pos) X.env = (do
      let ov ← eval o X.env
      standAt apos.atName
      let (f, first) ← holding [ov] (getMethod ov m pl)
      callWith pos f first (backTo pos (starEach [] X.env)) (backToKw pos (keywordEach kws X.env))) := by rfl) : PE X (.Call (.Attribute o m apos) [] kws pos) (tCMW C n ks.length gV sp E tNil tk) := by
  refine ⟨fun pins s σ H Q I h => ?_⟩
  refine PySem.W.methodCall_KW (pl := pl) (thn (he.run pins s σ H (fun x H1 => x = .ref C ∧ H1 = H) I ⟨rfl, rfl⟩) fun u s1 ⟨x, H1, I1, rx, ex, eH⟩ => ?_) ht
  subst ex eH
  cases (show u = Value.ref C from rx)
  refine getmethcm_ok I1 r c fun s2 I2 => ?_
  refine PySem.W.callWith_of hpl (PySem.W.keeps_M c.fi) (evalArgs_kw2_nil hall (thn (hkw.run pos _ s2 σ H1 _ I2 h) fun ws s3 ⟨zs, H3, I3, rz, l1, l2, q3⟩ => ⟨⟨pin_at I3, I3.kIn⟩, ?_⟩))
  rw [hks]
  have z : wpAny (model X.prog X.w) X.A (call (.ref s1.heap.objs.size) [] (ks.zip ws)) (EP X ((s1.heap.objs.size, PySem.W.methodObj (.ref g) (.ref C)) :: pins) σ Q) X.xe s3 :=
    wpAny_call (PySem.W.method_call (pin_at I3) (codeAny_mono (F X.A X.stack s3 H3 [.ref C] ws [.ref C] zs Q E hr I3.env0 (.cons rfl .nil) rz l1 l2 q3) fun r s' hq => match r, hq with
      | .error e, hq => hx _ σ H3 s3 e s' I3 hq
      | .ok (.ret u), hq => I3.after hq
      | .ok .next, hq => False.elim hq
      | .ok .brk, hq => False.elim hq
      | .ok .cont, hq => False.elim hq))
  exact thn z fun _ _ y => unpinE y
/-- x(e, ..), x a name of the def that holds u -/
def tLoc (i : Nat) (u : V) (r : List V → Hp → VK → Prop) (t : TA) : TE := fun σ H Q => σ[i]? = some (some u) ∧ t σ H fun vs H1 => r vs H1 Q
theorem pe_loc {i : Nat} {x : Str} {p pos : Pos} {a : Addr} {e : Expr} {es : List Expr} {t : TA} {r : List V → Hp → VK → Prop} (hc : CallR X (.ref a) r) (hk : PySem.W.keepIn X.K (.ref a) = true) (hN : X.N[i]? = some x) (hv : Vis X.env.scope x) (ha : PA X (e :: es) t)
    (hdb : (x == ("__debug__" : Str)) = false := by decide) (hcd : (x == ("__classdict__" : Str)) = false := by decide)
    (he : starEach (e :: es) X.env = (false, eval e X.env) :: starEach es X.env := by rfl) (hpl : (backTo pos (starEach es X.env)).any (·.1) = false := by rfl) : PE X (.Call (.Name x p) (e :: es) [] pos) (tLoc i (.ref a) r t) := by
  refine ⟨fun pins s σ H Q I ⟨hs, h⟩ => wpAny_Call_Name_kw (thn ((pe_var (pos := p) hN hv hdb hcd).run pins s σ H (fun v H1 => v = .ref a ∧ H1 = H) I ⟨.ref a, hs, rfl, rfl⟩) fun u s1 ⟨v, H1, I1, r1, e1, e2⟩ => ?_)⟩
  subst e1 e2
  cases r1
  exact PySem.W.callWith_K (h₀ := X.base) I.ok.mod.kin hk (thn (ha.run pos pins s1 σ _ _ I1 h) fun us s2 ⟨vs, H2, I2, rv, q⟩ => ⟨I2.kIn, hc pins s2 σ H2 vs us Q I2 rv q⟩) he hpl
/-- x( *e) -/
theorem pe_locS {i : Nat} {x : Str} {p pos sp_ : Pos} {a : Addr} {e : Expr} {te : TE} {r : List V → Hp → VK → Prop} (hc : CallR X (.ref a) r) (hk : PySem.W.keepIn X.K (.ref a) = true) (hN : X.N[i]? = some x) (hv : Vis X.env.scope x) (he : PE X e te)
    (hdb : (x == ("__debug__" : Str)) = false := by decide) (hcd : (x == ("__classdict__" : Str)) = false := by decide)
    (hst : starEach [.Starred e sp_] X.env = [(true, eval e X.env)] := by rfl) : PE X (.Call (.Name x p) [.Starred e sp_] [] pos) (tLoc i (.ref a) r (tStar X.K te tNil)) := by
  refine ⟨fun pins s σ H Q I ⟨hs, h⟩ => wpAny_Call_Name_kw (thn ((pe_var (pos := p) hN hv hdb hcd).run pins s σ H (fun v H1 => v = .ref a ∧ H1 = H) I ⟨.ref a, hs, rfl, rfl⟩) fun u s1 ⟨v, H1, I1, r1, e1, e2⟩ => ?_)⟩
  subst e1 e2
  cases r1
  refine PySem.W.callWith_S (h₀ := X.base) I.ok.mod.kin hk (thn (he.run pins s1 σ _ _ I1 h) fun v s2 ⟨y, H2, I2, ry, b, xs, ey, hxs, q⟩ => ?_) hst
  subst ey
  cases (show v = Value.ref b from ry)
  refine star_any I2 hxs fun us s3 I3 rv => ⟨I3.kIn, ?_⟩
  have q' : r (xs ++ []) H2 Q := q
  rw [List.append_nil] at q'
  exact hc pins s3 σ H2 xs us Q I3 rv q'
end
end Lw
namespace Lw
open PySem PySem.Spec PyProof.Rows L2
theorem vals_q {vs : List V} {us : List Value} (i : Nat) (r : Vals vs us) : Vals (vs[i]?).toList (us[i]?).toList := by
  induction r generalizing i with
  | nil => simp; exact .nil
  | cons h t ih =>
    cases i with
    | zero => exact .cons h .nil
    | succ i => simpa using ih i
end Lw

set_option Elab.async false
set_option linter.all false
set_option maxRecDepth 100000
set_option maxHeartbeats 4000000
/-! set(xs) of a list of ints, sorted(set(xs)) -/
namespace Lw
open PySem PySem.Spec PyProof.Rows L2
section
variable {P : Program} {w : World} {A : Around} {E : Value → Shared → Prop} {s : Shared}
/-- a set without items, as it is laid -/
abbrev set0 (w : World) : Obj := { cls := .type "set", dict := none, data := .set #[] 0 (.fresh 0 0 (!w.params.followText "set-order")) }
/-- what set(xs) leaves -/
def SetMade (w : World) (s : Shared) (ns : List Int) (h' : Heap) (c : Nat) : Prop := SetR w h' s.heap.objs.size (fun j => decide (j ∈ ns)) c ∧ c ≤ ns.length ∧ ∀ b o, s.heap.get? b = some o → h'.get? b = some o
theorem set_init_list {l : Addr} {its : Array Value} (ns : List Int) (hh : A.handled = none) (hl : s.heap.IsList l its) (hit : IntsAre its.toList ns) (hb : ns.length + 1 < scanBound) :
    codeAny (model P w) A (.call (.builtin "set.__init__") ⟨[.ref s.heap.objs.size, .ref l], []⟩) (wants (fun r s2 => r = .none ∧ ∃ h' tk c, s2 = { s with heap := h', toks := tk } ∧ SetMade w s ns h' c) E) { s with heap := s.heap.push (set0 w) } := by
  have n1 : its.size = ns.length := by rw [← Array.length_toList]; exact IntsAre.length hit
  have hS : (s.heap.push (set0 w)).get? s.heap.objs.size = some (set0 w) := Heap.get?_push_size _ rfl
  have hz : (s.heap.push (set0 w)).objs.size = s.heap.objs.size + 1 := Heap.size_push ..
  refine codeAny_call_builtin F.called_set.init.plain F.entry_set_init (check_set_init_1 ⟨_, hS, rfl⟩ ?_)
  obtain ⟨⟨cl, di, da, sl⟩, e0, e1, m, e2⟩ := id hl
  cases e1
  cases e2
  have hlS : l < s.heap.objs.size := Heap.lt_size e0
  have e3 : (s.heap.push (set0 w)).get? l = _ := Heap.get?_push_of_some _ e0
  have hl1 : (s.heap.push (set0 w)).IsList l its := ⟨_, e3, rfl, m, rfl⟩
  have f1 := F.sub_list_set
  have f2 := F.sub_list_frozenset
  have f3 : (Value.type "list" == Value.type "dict") = false := by decide
  unfold Builtin.«set.__init__» noKeywords Builtin.Frozenset.updateFrom
  generalize g0 : pyIter = it
  wp_walk
  subst g0
  refine wpAny_pyIter_list hl1 (wpAny_bind (wpAny_runValue ?_))
  have nI : l ≠ (s.heap.push (set0 w)).objs.size := hz ▸ Nat.ne_of_lt (Nat.lt_succ_of_lt hlS)
  have nS : s.heap.objs.size ∉ [(s.heap.push (set0 w)).objs.size, l] := by
    rw [hz]
    simp only [List.mem_cons, List.not_mem_nil, or_false, not_or]
    exact ⟨Nat.ne_of_lt (Nat.lt_succ_self _), Nat.ne_of_gt hlS⟩
  refine set_update_ints ((Walks.list (by simp [hh]) _ l nI its).toS) s.heap.objs.size nS ns n1 hb (fun i v hv => ?_) (its.size - 0) 0 _ (by omega) (Nat.zero_le _) ⟨⟨_, Heap.get?_push_size _ rfl, rfl, rfl⟩, hl1.push _⟩
    ⟨0, Nat.le_refl 0, setR_new_at (Heap.get?_push_of_some _ hS)⟩ fun s' c hm hc hR => ?_
  · have hi : i < ns.length := by
      have := (Array.getElem?_eq_some_iff.mp hv).1
      omega
    obtain ⟨t, e⟩ := IntsAre.int_at hit i v (by rw [Array.getElem?_toList]; exact hv)
    exact ⟨ns[i], t, List.getElem?_eq_getElem hi, by rw [e, List.getD_eq_getElem?_getD, List.getElem?_eq_getElem hi]; rfl⟩
  · obtain ⟨h', g, d, tk, os⟩ := s'
    obtain rfl : g = s.gens := hm.gens
    obtain rfl : d = s.drawn := hm.drawn
    obtain rfl : os = s.os := hm.os
    refine wpAny_pure (show wpAny _ _ (ret Value.none) _ _ _ from wpAny_pure ⟨rfl, h', tk, c, rfl, hR, by omega, fun b o e => ?_⟩)
    have b0 : b < s.heap.objs.size := Heap.lt_size e
    refine hm.heap b o ?_ (Heap.get?_push_of_some _ (Heap.get?_push_of_some _ e))
    rw [hz]
    simp only [List.mem_cons, List.not_mem_nil, or_false, not_or]
    exact ⟨Nat.ne_of_lt b0, Nat.ne_of_lt (Nat.lt_succ_of_lt b0)⟩
theorem call_setL {l : Addr} {its : Array Value} (ns : List Int) {Q : Value → Shared → Prop} (hh : A.handled = none) (hl : s.heap.IsList l its) (hit : IntsAre its.toList ns) (hb : ns.length + 1 < scanBound)
    (h : ∀ (h' : Heap) (tk c : Nat), SetMade w s ns h' c → Q (.ref s.heap.objs.size) { s with heap := h', toks := tk }) : wpAny (model P w) A (call (.type "set") [.ref l]) Q E s := by
  obtain ⟨_, _, hmro⟩ := F.called_set.mro
  have k1 := F.called_set.made
  have k2 := F.called_set.sub
  have k3 := F.called_set.notType
  have k4 := F.called_set.canCreate
  have k5 := F.typeCall_set_1 (.ref l)
  refine wpAny_call (codeAny_of_tree (show wpAny _ _ (callAny (.type "set") _) _ _ _ from wpAny_pure ⟨Code.quiet_builtin _ (by decide +kernel), codeAny_builtin F.entry_type_call ?_⟩))
  rw [Around.under_plain (weight_type_call_type "set" [.ref l] []) rfl]
  repeat (any_goals (first | assumption | wp_step))
  refine codeAny_mono (code_set_led1 (.ref l) (E := E) (Q₁ := fun o s1 => o = .ref s.heap.objs.size ∧ s1 = { s with heap := s.heap.push (set0 w) }) ⟨rfl, rfl⟩) fun r s1 hr => ?_
  match r, hr with
  | .error _, hr => exact hr
  | .ok .next, hr => exact hr.elim
  | .ok .brk, hr => exact hr.elim
  | .ok .cont, hr => exact hr.elim
  | .ok (.ret o), hr =>
    obtain ⟨rfl, rfl⟩ := hr
    have hS : (s.heap.push (set0 w)).get? s.heap.objs.size = some (set0 w) := Heap.get?_push_size _ rfl
    have hT : Shared.TypeIs { s with heap := s.heap.push (set0 w) } (.ref s.heap.objs.size) "set" := ⟨_, hS, rfl⟩
    have k6 := F.called_set.init.lookup
    have k7 := F.called_set.init.bind (.ref s.heap.objs.size)
    repeat (any_goals (first | assumption | wp_step))
    refine codeAny_mono (set_init_list (E := E) ns (by simp [hh]) hl hit hb) fun r s2 hr2 => ?_
    match r, hr2 with
    | .error _, hr => exact hr
    | .ok .next, hr => exact hr.elim
    | .ok .brk, hr => exact hr.elim
    | .ok .cont, hr => exact hr.elim
    | .ok (.ret o), hr =>
      obtain ⟨rfl, h', tk, c, rfl, hR⟩ := hr
      repeat (any_goals (first | assumption | wp_step))
      exact h _ _ _ hR
end
section
variable {X : Cx}
def rSetL (K : PySem.W.Frag) (w : World) : List V → Hp → VK → Prop := fun xs H Q => ∃ (l : Addr) (ns : List Int), xs = [V.ref l] ∧ SqL K H l (ns.map V.int) ∧ ns.length ≤ 1000 ∧ ∀ (a : Addr) (c : Nat), H a = none → c ≤ ns.length → Q (.ref a) (upd H a (SetO w a (fun j => decide (j ∈ ns)) c))
theorem cr_setL (hc : X.calm = true) : CallR X (.type "set") (rSetL X.K X.w) := by
  intro pins s σ H xs us Q I r h
  obtain ⟨l, ns, rfl, hl, hz, q⟩ := h
  rw [Vals.ref1 r]
  obtain ⟨its, rv, pl, _⟩ := I.list hl
  have hn : H s.heap.objs.size = none := I.hok.fresh (Nat.le_refl _)
  refine call_setL ns (I.ok.hd hc) pl.isList (by simpa using rv.ints) (by unfold scanBound; omega) fun h' tk c ⟨R, hcl, k⟩ => ?_
  exact ⟨.ref s.heap.objs.size, upd H s.heap.objs.size (SetO X.w s.heap.objs.size _ c), I.laid (t' := tk) k (Nat.le_refl _) (setO_new R), rfl, q _ c hn hcl⟩
end
end Lw

set_option Elab.async false
set_option linter.all false
set_option maxRecDepth 100000
set_option maxHeartbeats 4000000
/-! readings where one stands: comprehensions, walks, reprs, tests -/
namespace Lw
open PySem PySem.Spec PyProof.Rows L2 He StX
open En (enc)
/-- what may be shown: n bounds its weight -/
structure Shw (d : PyData) (n : Nat) : Prop where
  s : d.showable = true
  l : d.leavesShort 51 = true
  w : d.weight ≤ n
theorem Shw.mono {d : PyData} {n m : Nat} (h : Shw d n) (k : n ≤ m) : Shw d m := ⟨h.s, h.l, Nat.le_trans h.w k⟩
theorem Shw.int {a : Int} (h : Sm a) : Shw (.int a) 167 := by
  refine ⟨by simp only [PyData.showable, decide_eq_true_eq]; exact h.log, ?_, ?_⟩
  · simp only [PyData.leavesShort, decide_eq_true_eq]
    exact h.len
  · simp only [PyData.weight]
    split
    · omega
    · have h2 : a.natAbs.log2 < 167 := by
        unfold Sm at h
        by_cases z : a.natAbs = 0
        · rw [z]; decide
        · exact (Nat.log2_lt z).mpr (Nat.lt_of_lt_of_le h (by decide +kernel))
      omega
theorem Shw.bool (b : Bool) : Shw (.bool b) 0 := ⟨by simp [PyData.showable], by simp [PyData.leavesShort], by simp [PyData.weight]⟩
theorem Shw.non : Shw .none 0 := ⟨by simp [PyData.showable], by simp [PyData.leavesShort], by simp [PyData.weight]⟩
theorem Shw.all {n : Nat} : ∀ {ds : List PyData}, (∀ d ∈ ds, Shw d n) → PyData.showableAll ds = true ∧ PyData.leavesShortAll 51 ds = true ∧ PyData.weightAll ds ≤ (n + 1) * ds.length
  | [], _ => by simp [PyData.showableAll, PyData.leavesShortAll, PyData.weightAll]
  | d :: ds, h => by
    have h1 := h d (List.mem_cons_self ..)
    obtain ⟨a, b, c⟩ := Shw.all (ds := ds) fun x hx => h x (List.mem_cons_of_mem _ hx)
    have hw := h1.w
    refine ⟨by simp [PyData.showableAll, h1.s, a], by simp [PyData.leavesShortAll, h1.l, b], ?_⟩
    simp only [PyData.weightAll, List.length_cons, Nat.mul_succ]
    omega
theorem Shw.list {n : Nat} {ds : List PyData} (h : ∀ d ∈ ds, Shw d n) : Shw (.list ds) ((n + 1) * ds.length) := by
  obtain ⟨a, b, c⟩ := Shw.all h
  exact ⟨by simp [PyData.showable, a], by simp [PyData.leavesShort, b], by simp only [PyData.weight]; exact c⟩
theorem Shw.tuple {n : Nat} {ds : List PyData} (h : ∀ d ∈ ds, Shw d n) : Shw (.tuple ds) ((n + 1) * ds.length) := by
  obtain ⟨a, b, c⟩ := Shw.all h
  exact ⟨by simp [PyData.showable, a], by simp [PyData.leavesShort, b], by simp only [PyData.weight]; exact c⟩
theorem Shw.ints {ns : List Int} (h : ∀ n ∈ ns, Sm n) : Shw (enc ns) (168 * ns.length) := by
  have := Shw.list (n := 167) (ds := ns.map enc) fun d hd => by
    obtain ⟨n, hn, rfl⟩ := List.mem_map.mp hd
    exact Shw.int (h n hn)
  rwa [List.length_map] at this
theorem Shw.pair {p : Int × Int} (h1 : Sm p.1) (h2 : Sm p.2) : Shw (enc p) 336 := Shw.tuple (n := 167) (ds := [.int p.1, .int p.2]) fun d hd => by
  simp only [List.mem_cons, List.not_mem_nil, or_false] at hd
  rcases hd with rfl | rfl
  · exact Shw.int h1
  · exact Shw.int h2
theorem Sm.nat {n : Nat} (h : n ≤ 1000000) : Sm (n : Int) := by
  unfold Sm
  have : ((n : Int)).natAbs = n := by omega
  rw [this]
  exact Nat.lt_of_le_of_lt h (by decide +kernel)
section
variable {K : PySem.W.Frag} {S S' : List Addr} {H : Hp} {x y : V} {Q : VK}
theorem rRepr_of {d : PyData} {n : Nat} (h : Dx S H x d) (s : Shw d n) (hn : n ≤ 300000) (hd : d.depth ≤ 60) (q : Q (.str d.shown) H) : rReprD K [x] H Q := by
  refine ⟨x, d, rfl, h.dp, s.s, ?_, hd, q⟩
  have h1 := PyData.shown_le 51 (by decide) d s.l
  have h2 := s.w
  have := sizeLine_eq
  have h3 : (51 + 2) * d.weight ≤ 53 * 300000 := Nat.mul_le_mul (by decide) (by omega)
  omega
/-- tests of known outcome -/
theorem iteF {A B : Prop} {b : Bool} (h : b = false) (hB : B) : if b = true then A else B := by subst h; exact hB
theorem iteT' {A B : Prop} {b : Bool} (h : b = true) (hA : A) : if b = true then A else B := by subst h; exact hA
theorem neD_f {α : Type} [Py α] [DecidableEq α] {a b : α} {A B : Hp → Prop} (hx : De S H x a) (hy : De S' H y b) (hd : Py.dep α ≤ 64) (e : a = b) (q : B H) : rNeD K x y H fun z H' => ∃ k, z = .bl k ∧ if k = true then A H' else B H' :=
  rNeD_of hx hy hd ⟨_, rfl, iteF (by rw [decide_eq_true e]; rfl) q⟩
theorem neS_f {a b : Str} {A B : Hp → Prop} (e : a = b) (q : B H) : rNe (.str a) (.str b) H fun z H' => ∃ k, z = .bl k ∧ if k = true then A H' else B H' :=
  rNe_str.mpr ⟨_, rfl, iteF (by rw [decide_eq_true e]; rfl) q⟩
theorem neI_f {a b : Int} {A B : Hp → Prop} (e : a = b) (q : B H) : rNe (.int a) (.int b) H fun z H' => ∃ k, z = .bl k ∧ if k = true then A H' else B H' :=
  rNe_int.mpr ⟨_, rfl, iteF (by rw [decide_eq_true e]; rfl) q⟩
theorem eqD_t {α : Type} [Py α] [DecidableEq α] {a b : α} {A B : Hp → Prop} (hx : De S H x a) (hy : De S' H y b) (hd : Py.dep α ≤ 64) (e : a = b) (q : A H) : rEqD K x y H fun z H' => ∃ k, z = .bl k ∧ if k = true then A H' else B H' :=
  rEqD_of hx hy hd ⟨_, rfl, iteT' (decide_eq_true e) q⟩
end
section
variable {B H H1 : Hp} {T0 S0 S : List Addr} {M : List Mu} {L : List (V × AV)} {v : V} {A : AV}
theorem tLc_c {α : Type} [En α] {wi : TI} {J : It} {n : Nat} {G : Hp → Prop} {Y : Nat → Hp → V → Hp → Prop} {g : TG} {tt : TT} {te : TE} {vs : List Nat} {σ : L2.St} {Q : VK} (C : Ctx B T0 S0 S M L H1) (w : Walk J n G Y) (r : Nat → List α) (hwi : ∀ R : It → Hp → Prop, R J H1 → wi σ H R) (hr : r 0 = [])
    (hG : ∀ D i H', Ctx B T0 S0 (D :: S) (.lst D (r i) :: M) L H' → G H')
    (hs : ∀ D i x H H', i < n → Ctx B T0 S0 (D :: S) (.lst D (r i) :: M) L H → Y i H x H' → g x (wipe σ vs) H' fun σ2 H2 => wipe σ2 vs = wipe σ vs ∧ tt σ2 H2 fun b H3 =>
      if b = true then te σ2 H3 fun y H4 => ∃ acc, H4 D = some (.lst acc) ∧ acc.length < sizeLine ∧ Ctx B T0 S0 (D :: S) (.lst D (r (i + 1)) :: M) L (upd H4 D (.lst (acc ++ [y]))) else Ctx B T0 S0 (D :: S) (.lst D (r (i + 1)) :: M) L H3)
    (hd : ∀ D H', D ∉ S → Ctx B T0 S0 (D :: S) (.lst D (r n) :: M) L H' → Q (.ref D) H') : tLc wi g tt te vs σ H Q := hwi _ (lc_c C w r hr hG hs hd)
/-- a list that stands still, its items known -/
def lx {α : Type} [En α] (a : Addr) (xs : List V) (l : List α) : AV := ⟨fun S H v => v = .ref a ∧ a ∉ S ∧ H a = some (.lst xs) ∧ DeA S H xs l,
  fun ⟨e, n, h, d⟩ k => ⟨e, n, k _ _ n h, DxA.keep k d⟩, fun ⟨e, n, h, d⟩ w => ⟨e, fun z => (w _ z).elim n (fun q => by rw [q] at h; exact nomatch h), h, DxA.wid w d⟩⟩
/-- over a list of data -/
theorem tLc_l {α β : Type} [En α] [En β] {K : PySem.W.Frag} {i : Nat} {l : List β} {g : TG} {tt : TT} {te : TE} {vs : List Nat} {σ : L2.St} {Q : VK} (C : Ctx B T0 S0 S M L H) (hl : De S H v l) (hv : σ[i]? = some (some v)) (r : Nat → List α) (hr : r 0 = [])
    (hs : ∀ F D j x a H', l[j]? = some a → Ctx B T0 S0 (D :: S) (.lst D (r j) :: M) (F :: L) H' → De (D :: S) H' x a → g x (wipe σ vs) H' fun σ2 H2 => wipe σ2 vs = wipe σ vs ∧ tt σ2 H2 fun b H3 =>
      if b = true then te σ2 H3 fun y H4 => ∃ acc, H4 D = some (.lst acc) ∧ acc.length < sizeLine ∧ Ctx B T0 S0 (D :: S) (.lst D (r (j + 1)) :: M) (F :: L) (upd H4 D (.lst (acc ++ [y]))) else Ctx B T0 S0 (D :: S) (.lst D (r (j + 1)) :: M) (F :: L) H3)
    (hd : ∀ D H', D ∉ S → Ctx B T0 S0 (D :: S) (.lst D (r l.length) :: M) L H' → Q (.ref D) H') : tLc (iList K (tVar i)) g tt te vs σ H Q := by
  obtain ⟨a, xs, rfl, na, ea, da⟩ := hl.ls
  refine tLc_c (C.addA (A := lx a xs l) (v := .ref a) ⟨rfl, na, ea, da⟩) (walk_list (K := K) (a := a) (xs := xs)) r (fun R hR => ⟨_, hv, _, rfl, ⟨_, SqL.of ea⟩, hR⟩) hr (fun D i H' C2 => ?_) (fun D i x H2 H3 hi C2 hx => ?_) (fun D H' nD C2 => hd D H' nD (by rw [← da.len]; exact C2.less fun f hf => List.mem_cons_of_mem _ hf))
  · obtain ⟨_, _, e, _⟩ := C2.get (List.mem_cons_self ..)
    exact SqL.of e
  · obtain ⟨e, hx⟩ := hx
    subst e
    obtain ⟨_, _, _, d⟩ := C2.get (List.mem_cons_self ..)
    obtain ⟨b, hb, db⟩ := d.of hx
    exact hs _ D i x b _ hb C2 db
/-- over range(n), its end told by the walk -/
theorem tLc_n {α : Type} [En α] {wi : TI} {n : Nat} {lo : Int} {g : TG} {tt : TT} {te : TE} {vs : List Nat} {σ : L2.St} {Q : VK} (C : Ctx B T0 S0 S M L H1) (r : Nat → List α) (hwi : ∀ R : It → Hp → Prop, R (Itr lo n) H1 → wi σ H R) (hr : r 0 = [])
    (hs : ∀ D (j : Nat) H', j < n → Ctx B T0 S0 (D :: S) (.lst D (r j) :: M) L H' → g (.int (lo + j)) (wipe σ vs) H' fun σ2 H2 => wipe σ2 vs = wipe σ vs ∧ tt σ2 H2 fun b H3 =>
      if b = true then te σ2 H3 fun y H4 => ∃ acc, H4 D = some (.lst acc) ∧ acc.length < sizeLine ∧ Ctx B T0 S0 (D :: S) (.lst D (r (j + 1)) :: M) L (upd H4 D (.lst (acc ++ [y]))) else Ctx B T0 S0 (D :: S) (.lst D (r (j + 1)) :: M) L H3)
    (hd : ∀ D H', D ∉ S → Ctx B T0 S0 (D :: S) (.lst D (r n) :: M) L H' → Q (.ref D) H') : tLc wi g tt te vs σ H Q :=
  tLc_c C (walk_range (lo := lo) (n := n)) r hwi hr (fun _ _ _ _ => trivial) (fun D i x H2 H3 hi C2 ⟨e, hx⟩ => by subst e hx; exact hs D i _ hi C2) hd
/-- a for over a list of data: I by the turn, the slots, the heap -/
theorem tFor_l {β : Type} [En β] {K : PySem.W.Frag} {i : Nat} {l : List β} {g : TG} {tb : TS} {σ : L2.St} {D : Ends} (C : Ctx B T0 S0 S M L H) (hl : De S H v l) (hv : σ[i]? = some (some v)) (I : V × AV → Nat → L2.St → Hp → Prop) (hC : ∀ F j σ H', I F j σ H' → ∃ S' M', (∀ a ∈ S, a ∈ S') ∧ Ctx B T0 S0 S' M' (F :: L) H')
    (h0 : ∀ F, Ctx B T0 S0 S M (F :: L) H → I F 0 σ H) (hs : ∀ F j x a σ H', l[j]? = some a → (∀ S' M', Ctx B T0 S0 S' M' (F :: L) H' → De S' H' x a) → I F j σ H' → g x σ H' fun σ2 H2 => tb { D with nx := I F (j + 1), ct := I F (j + 1), bk := D.nx } σ2 H2)
    (hd : ∀ F σ H', I F l.length σ H' → D.nx σ H') : tFor (iList K (tVar i)) g tb D σ H := by
  obtain ⟨a, xs, rfl, na, ea, da⟩ := hl.ls
  have C1 := C.addA (A := lx a xs l) (v := .ref a) ⟨rfl, na, ea, da⟩
  refine tFor_it H (walk_list (K := K) (a := a) (xs := xs)) (I (.ref a, lx a xs l)) (fun R hR => ⟨_, hv, _, rfl, ⟨_, SqL.of ea⟩, hR⟩) (h0 _ C1) (fun j σ H' _ p => ?_) (fun j x σ H2 H3 hj p ⟨e, hx⟩ => ?_) (fun σ H' p => hd _ _ _ (by rw [← da.len]; exact p))
  · obtain ⟨S', M', _, C2⟩ := hC _ _ _ _ p
    obtain ⟨_, _, e, _⟩ := C2.get (List.mem_cons_self ..)
    exact SqL.of e
  · subst e
    have hj2 : j < l.length := by rw [← da.len]; exact hj
    refine hs _ j x l[j] σ _ (List.getElem?_eq_getElem hj2) (fun S' M' C2 => ?_) p
    obtain ⟨_, _, _, d⟩ := C2.get (List.mem_cons_self ..)
    obtain ⟨b, hb, db⟩ := d.of hx
    rw [List.getElem?_eq_getElem hj2] at hb
    cases hb
    exact db
end
section
variable {K : PySem.W.Frag} {α : Type} [En α] {S : List Addr} {H : Hp} {x : V} {Q : VK}
theorem slD_take {l : List α} {n : Nat} (oS : Old S H) (hx : De S H x l) (hn : n ≤ l.length) (q : ∀ v H', Kp [] H H' → De S H' v (l.take n) → Q v H') : rSlL K x none (some ((n : Nat) : Int)) H Q := by
  obtain ⟨a, xs, rfl, na, ea, da⟩ := hx.ls
  have hl := da.len
  refine ⟨a, xs, rfl, SqL.of ea, newL oS ?_ q⟩
  have e : cutV xs none (some ((n : Nat) : Int)) = xs.take n := by
    unfold cutV
    rw [HT.sIx_nat, HT.sIx_none, List.drop_zero, Nat.sub_zero, Nat.min_eq_left (by omega)]
  rw [e]
  show DxA S H _ ((l.take n).map enc)
  rw [List.map_take]
  exact DxA.take _ da
theorem slD_drop {l : List α} {n : Nat} (oS : Old S H) (hx : De S H x l) (hn : n ≤ l.length) (q : ∀ v H', Kp [] H H' → De S H' v (l.drop n) → Q v H') : rSlL K x (some ((n : Nat) : Int)) none H Q := by
  obtain ⟨a, xs, rfl, na, ea, da⟩ := hx.ls
  have hl := da.len
  refine ⟨a, xs, rfl, SqL.of ea, newL oS ?_ q⟩
  have e : cutV xs (some ((n : Nat) : Int)) none = xs.drop n := by
    unfold cutV
    rw [HT.sIx_nat, HT.sIx_none, Nat.min_eq_left (by omega)]
    refine List.take_of_length_le ?_
    rw [List.length_drop]
    exact Nat.le_refl _
  rw [e]
  show DxA S H _ ((l.drop n).map enc)
  rw [List.map_drop]
  exact DxA.drop _ da
end
/-- what a for asks once it is known what it walks -/
def LoopOK (g : TG) (tb : TS) (D : Ends) (σ : L2.St) (J : It) (H1 : Hp) : Prop := ∃ W : Nat → Nat → L2.St → Hp → Prop, (∃ m, W 0 m σ H1) ∧ ∀ i m σ H, W i m σ H →
  (J.stop i H ∧ D.nx σ H) ∨ (J.go i H ∧ ∃ N : L2.St → Hp → Prop, (∀ σ' H', N σ' H' → ∃ m', m' < m ∧ W (i + 1) m' σ' H') ∧ ∀ x H', J.yld i H x H' → g x σ H' fun σ2 H2 => tb { D with nx := N, ct := N, bk := D.nx } σ2 H2)
theorem tFor_w {wi : TI} {g : TG} {tb : TS} {D : Ends} {σ : L2.St} {H : Hp} (h : wi σ H (LoopOK g tb D σ)) : tFor wi g tb D σ H := h
theorem LoopOK.it {g : TG} {tb : TS} {D : Ends} {σ : L2.St} {H : Hp} {J : It} {n : Nat} {G : Hp → Prop} {Y : Nat → Hp → V → Hp → Prop} (w : Walk J n G Y) (Pv : Nat → L2.St → Hp → Prop) (h0 : Pv 0 σ H) (hG : ∀ i σ H, i ≤ n → Pv i σ H → G H)
    (hs : ∀ i x σ H H', i < n → Pv i σ H → Y i H x H' → g x σ H' fun σ2 H2 => tb { D with nx := Pv (i + 1), ct := Pv (i + 1), bk := D.nx } σ2 H2) (hd : ∀ σ H, Pv n σ H → D.nx σ H) : LoopOK g tb D σ J H := for_it w Pv h0 hG hs hd
def LcOK (g : TG) (tt : TT) (te : TE) (vs : List Nat) (σ : L2.St) (Q : VK) (J : It) (H1 : Hp) : Prop := ∀ D, H1 D = none → ∃ W : Nat → Nat → Hp → Prop, (∃ m, W 0 m (upd H1 D (.lst []))) ∧ ∀ i m H, W i m H →
  (J.stop i H ∧ Q (.ref D) H) ∨ (J.go i H ∧ ∃ Nx : Hp → Prop, (∀ H', Nx H' → ∃ m', m' < m ∧ W (i + 1) m' H') ∧ ∀ x H', J.yld i H x H' → g x (wipe σ vs) H' fun σ2 H2 => wipe σ2 vs = wipe σ vs ∧ tt σ2 H2 fun b H3 =>
    if b = true then te σ2 H3 fun y H4 => ∃ acc, H4 D = some (.lst acc) ∧ acc.length < sizeLine ∧ Nx (upd H4 D (.lst (acc ++ [y]))) else Nx H3)
theorem tLc_w {wi : TI} {g : TG} {tt : TT} {te : TE} {vs : List Nat} {σ : L2.St} {H : Hp} {Q : VK} (h : wi σ H (LcOK g tt te vs σ Q)) : tLc wi g tt te vs σ H Q := h
/-- sorted(set(xs)) of ints -/
theorem srtSet {K : PySem.W.Frag} {w : World} {S : List Addr} {H : Hp} {x : V} {ns : List Int} {Q : VK} (oS : Old S H) (hx : De S H x ns) (hz : ns.length < 64) (q : ∀ v H' (ms : List Int), Kp [] H H' → De S H' v ms → ms.Pairwise (· < ·) → (∀ k, k ∈ ms ↔ k ∈ ns) → ms.length ≤ ns.length → Q v H') : rSetL K w [x] H fun y H1 => rSortedSet w [y] H1 Q := by
  obtain ⟨a, xs, rfl, na, ea, da⟩ := hx.ls
  rw [da.intsV] at ea
  refine ⟨a, ns, rfl, SqL.of ea, by omega, fun b c hb hc => ⟨b, _, c, rfl, upd_same, by omega, fun ms p hp hm hl hpn => ?_⟩⟩
  have k := (Kp.new (S := []) (o := SetO w b (fun j => decide (j ∈ ns)) c) hb).trans (.new (o := .lst (ms.map V.int)) hpn)
  exact q _ _ ms k (De.mkLs ((oS.keep0 (.new hb)).no hpn) upd_same (DxA.ints _)) hp (fun k => by rw [hm k]; simp) (by omega)
theorem rRepr_b {K : PySem.W.Frag} {H : Hp} {b : Bool} {Q : VK} (q : Q (.str (PyData.bool b).shown) H) : rReprD K [.bl b] H Q := rRepr_of (S := []) (Dx.bl b) (Shw.bool b) (by decide) (by cases b <;> decide) q
theorem andV {b : Bool} {i : Int} {f : Int → Bool} (Ψ : Bool → Prop) (h : Ψ (b && f i)) : if b = true then ∃ x, V.int i = .int x ∧ Ψ (f x) else Ψ false := by
  cases b with
  | true => exact ⟨_, rfl, h⟩
  | false => exact h
section
variable {B H H1 : Hp} {T0 S0 S : List Addr} {M : List Mu} {L : List (V × AV)}
/-- a comprehension whose items are drawn: I what is known of them -/
theorem tLc_x {α : Type} [En α] {wi : TI} {J : It} {n : Nat} {G : Hp → Prop} {Y : Nat → Hp → V → Hp → Prop} {g : TG} {tt : TT} {te : TE} {vs : List Nat} {σ : L2.St} {Q : VK} (C : Ctx B T0 S0 S M L H1) (w : Walk J n G Y) (I : Nat → List α → Prop) (hwi : ∀ R : It → Hp → Prop, R J H1 → wi σ H R) (h0 : I 0 [])
    (hG : ∀ D l H', Ctx B T0 S0 (D :: S) (.lst D (l : List α) :: M) L H' → G H')
    (hs : ∀ D i l x H H', i < n → I i l → Ctx B T0 S0 (D :: S) (.lst D l :: M) L H → Y i H x H' → g x (wipe σ vs) H' fun σ2 H2 => wipe σ2 vs = wipe σ vs ∧ tt σ2 H2 fun b H3 =>
      if b = true then te σ2 H3 fun y H4 => ∃ acc, H4 D = some (.lst acc) ∧ acc.length < sizeLine ∧ ∃ l', I (i + 1) l' ∧ Ctx B T0 S0 (D :: S) (.lst D l' :: M) L (upd H4 D (.lst (acc ++ [y]))) else ∃ l', I (i + 1) l' ∧ Ctx B T0 S0 (D :: S) (.lst D l' :: M) L H3)
    (hd : ∀ D l H', D ∉ S → I n l → Ctx B T0 S0 (D :: S) (.lst D l :: M) L H' → Q (.ref D) H') : tLc wi g tt te vs σ H Q :=
  hwi _ fun D hD => lc_it w (fun i H' => ∃ l, I i l ∧ Ctx B T0 S0 (D :: S) (.lst D l :: M) L H') ⟨[], h0, C.pushNil α hD⟩ (fun i H' _ ⟨l, _, p⟩ => hG D l H' p) (fun i x H H' hi ⟨l, hI, p⟩ y => hs D i l x H H' hi hI p y) (fun H' ⟨l, hI, p⟩ => hd D l H' (C.old.no hD) hI p)
theorem Ctx.putX {α : Type} [En α] {f : Addr} {l : List α} {y : V} {a : α} {I : List α → Prop} (C : Ctx B T0 S0 S M L H) (i : Nat) (hm : M[i]? = some (.lst f l)) (hy : De S H y a) (hI : I (l ++ [a])) (hz : l.length < sizeLine) :
    ∃ acc, H f = some (.lst acc) ∧ acc.length < sizeLine ∧ ∃ l', I l' ∧ Ctx B T0 S0 S (M.set i (.lst f l')) L (upd H f (.lst (acc ++ [y]))) := by
  obtain ⟨acc, h1, h2, h3⟩ := C.put i hm hy rfl hz
  exact ⟨acc, h1, h2, _, hI, h3⟩
end
theorem eqD_if {K : PySem.W.Frag} {α : Type} [Py α] [DecidableEq α] {S S' : List Addr} {H : Hp} {x y : V} {a b : α} {A B : Hp → Prop} (hx : De S H x a) (hy : De S' H y b) (hd : Py.dep α ≤ 64) (q : if a = b then A H else B H) : rEqD K x y H fun z H' => ∃ k, z = .bl k ∧ if k = true then A H' else B H' :=
  rEqD_of hx hy hd ⟨_, rfl, by by_cases h : a = b <;> simpa [h] using q⟩
section
variable {B H : Hp} {T0 S0 S : List Addr} {M : List Mu} {L : List (V × AV)}
theorem LcOK.l {α β : Type} [En α] [En β] {K : PySem.W.Frag} {a : Addr} {l : List β} {g : TG} {tt : TT} {te : TE} {vs : List Nat} {σ : L2.St} {Q : VK} (C : Ctx B T0 S0 S M L H) (hl : De S H (.ref a) l) (r : Nat → List α) (hr : r 0 = [])
    (hs : ∀ F D j x a H', l[j]? = some a → Ctx B T0 S0 (D :: S) (.lst D (r j) :: M) (F :: L) H' → De (D :: S) H' x a → g x (wipe σ vs) H' fun σ2 H2 => wipe σ2 vs = wipe σ vs ∧ tt σ2 H2 fun b H3 =>
      if b = true then te σ2 H3 fun y H4 => ∃ acc, H4 D = some (.lst acc) ∧ acc.length < sizeLine ∧ Ctx B T0 S0 (D :: S) (.lst D (r (j + 1)) :: M) (F :: L) (upd H4 D (.lst (acc ++ [y]))) else Ctx B T0 S0 (D :: S) (.lst D (r (j + 1)) :: M) (F :: L) H3)
    (hd : ∀ D H', D ∉ S → Ctx B T0 S0 (D :: S) (.lst D (r l.length) :: M) L H' → Q (.ref D) H') : LcOK g tt te vs σ Q (Itl K a) H := by
  obtain ⟨_, xs, e0, na, ea, da⟩ := hl.ls
  cases e0
  refine lc_c (C.addA (A := lx a xs l) (v := .ref a) ⟨rfl, na, ea, da⟩) (walk_list (K := K) (a := a) (xs := xs)) r hr (fun D i H' C2 => ?_) (fun D i x H2 H3 hi C2 hx => ?_) (fun D H' nD C2 => hd D H' nD (by rw [← da.len]; exact C2.less fun f hf => List.mem_cons_of_mem _ hf))
  · obtain ⟨_, _, e, _⟩ := C2.get (List.mem_cons_self ..)
    exact SqL.of e
  · obtain ⟨e, hx⟩ := hx
    subst e
    obtain ⟨_, _, _, d⟩ := C2.get (List.mem_cons_self ..)
    obtain ⟨b, hb, db⟩ := d.of hx
    exact hs _ D i x b _ hb C2 db
end
theorem SqL_kp {K : PySem.W.Frag} {S : List Addr} {H H' : Hp} {a : Addr} {xs : List V} (h : SqL K H a xs) (k : Kp S H H') (n : ∀ o, H a = some o → a ∉ S) : SqL K H' a xs := by
  rcases h with (h | ⟨ob, h⟩) | h
  · exact .inl (.inl (k a _ (n _ h) h))
  · exact .inl (.inr ⟨ob, k a _ (n _ h) h⟩)
  · exact .inr h
end Lw

set_option Elab.async false
set_option linter.all false
set_option maxRecDepth 100000
namespace Hd
open PySem PySem.Spec PyProof.Rows L2 He Lw
def top (i : Nat) : Stmt := PySem.Challenge.pw_onceseen_k11_whole_versions_by_looking_t.main.body.getD i (.Pass ⟨0, 0, 0, 0⟩)
abbrev s_InvalidCell_init : Stmt := (inClass (top 2) 0)
abbrev s_InvalidStretch_init : Stmt := (inClass (top 3) 0)
abbrev s_InvalidStretches_init : Stmt := (inClass (top 4) 0)
abbrev s_InvalidMoment_init : Stmt := (inClass (top 5) 0)
abbrev s_InvalidEdit_init : Stmt := (inClass (top 6) 0)
abbrev s_WrongVersion_init : Stmt := (inClass (top 8) 0)
abbrev s_is_integer : Stmt := (top 10)
abbrev s_is_count : Stmt := (top 11)
abbrev s_is_couple : Stmt := (top 12)
abbrev s_is_stretch : Stmt := (top 13)
abbrev s_check_cell : Stmt := (top 14)
abbrev s_check_cells : Stmt := (top 15)
abbrev s_check_moment : Stmt := (top 16)
abbrev s_check_edit : Stmt := (top 17)
abbrev s__touched : Stmt := (top 19)
abbrev s__listed : Stmt := (top 20)
abbrev s_History_init : Stmt := (inClass (top 21) 0)
abbrev s_History_of_cells : Stmt := (inClass (top 21) 1)
abbrev s_History_moment : Stmt := (inClass (top 21) 2)
abbrev s_History_len : Stmt := (inClass (top 21) 3)
abbrev s_History_getitem : Stmt := (inClass (top 21) 4)
abbrev s_History_iter : Stmt := (inClass (top 21) 5)
abbrev s_History_until : Stmt := (inClass (top 21) 6)
abbrev s_History_add : Stmt := (inClass (top 21) 7)
abbrev s_History_touches : Stmt := (inClass (top 21) 8)
abbrev s_History_version : Stmt := (inClass (top 21) 9)
abbrev s_History_versions : Stmt := (inClass (top 21) 10)
abbrev s_History_stands : Stmt := (inClass (top 21) 11)
abbrev s_History_eq : Stmt := (inClass (top 21) 12)
abbrev s_History_repr : Stmt := (inClass (top 21) 13)
abbrev s__law_pot : Stmt := (top 23)
abbrev s__law_draw : Stmt := (top 24)
abbrev s__law_pick : Stmt := (top 25)
abbrev s__law_base : Stmt := (top 26)
abbrev s__law_rows : Stmt := (top 27)
abbrev s__law_past : Stmt := (top 28)
abbrev s__law_version : Stmt := (top 29)
abbrev s__law_spots : Stmt := (top 30)
abbrev s__law_cell_right : Stmt := (top 31)
abbrev s__law_until_right : Stmt := (top 32)
abbrev s__law_shown_right : Stmt := (top 33)
abbrev s__law_others_right : Stmt := (top 34)
abbrev s__law_long_right : Stmt := (top 35)
abbrev s__law_points_right : Stmt := (top 36)
abbrev s__law_right : Stmt := (top 37)
abbrev s_law : Stmt := (top 38)
def fn : List DefA := [
  ⟨fun K => ma K (ga K "InvalidCell") "__init__", "__init__", "InvalidCell.__init__", defArgs s_InvalidCell_init, defBody s_InvalidCell_init, defScope s_InvalidCell_init, [], []⟩,
  ⟨fun K => ma K (ga K "InvalidStretch") "__init__", "__init__", "InvalidStretch.__init__", defArgs s_InvalidStretch_init, defBody s_InvalidStretch_init, defScope s_InvalidStretch_init, [], []⟩,
  ⟨fun K => ma K (ga K "InvalidStretches") "__init__", "__init__", "InvalidStretches.__init__", defArgs s_InvalidStretches_init, defBody s_InvalidStretches_init, defScope s_InvalidStretches_init, [], []⟩,
  ⟨fun K => ma K (ga K "InvalidMoment") "__init__", "__init__", "InvalidMoment.__init__", defArgs s_InvalidMoment_init, defBody s_InvalidMoment_init, defScope s_InvalidMoment_init, [], []⟩,
  ⟨fun K => ma K (ga K "InvalidEdit") "__init__", "__init__", "InvalidEdit.__init__", defArgs s_InvalidEdit_init, defBody s_InvalidEdit_init, defScope s_InvalidEdit_init, [], []⟩,
  ⟨fun K => ma K (ga K "WrongVersion") "__init__", "__init__", "WrongVersion.__init__", defArgs s_WrongVersion_init, defBody s_WrongVersion_init, defScope s_WrongVersion_init, [], []⟩,
  ⟨fun K => ga K "is_integer", "is_integer", "is_integer", defArgs s_is_integer, defBody s_is_integer, defScope s_is_integer, [], []⟩,
  ⟨fun K => ga K "is_count", "is_count", "is_count", defArgs s_is_count, defBody s_is_count, defScope s_is_count, [], []⟩,
  ⟨fun K => ga K "is_couple", "is_couple", "is_couple", defArgs s_is_couple, defBody s_is_couple, defScope s_is_couple, [], []⟩,
  ⟨fun K => ga K "is_stretch", "is_stretch", "is_stretch", defArgs s_is_stretch, defBody s_is_stretch, defScope s_is_stretch, [], []⟩,
  ⟨fun K => ga K "check_cell", "check_cell", "check_cell", defArgs s_check_cell, defBody s_check_cell, defScope s_check_cell, [], []⟩,
  ⟨fun K => ga K "check_cells", "check_cells", "check_cells", defArgs s_check_cells, defBody s_check_cells, defScope s_check_cells, [], []⟩,
  ⟨fun K => ga K "check_moment", "check_moment", "check_moment", defArgs s_check_moment, defBody s_check_moment, defScope s_check_moment, [], []⟩,
  ⟨fun K => ga K "check_edit", "check_edit", "check_edit", defArgs s_check_edit, defBody s_check_edit, defScope s_check_edit, [], []⟩,
  ⟨fun K => ga K "_touched", "_touched", "_touched", defArgs s__touched, defBody s__touched, defScope s__touched, [], []⟩,
  ⟨fun K => ga K "_listed", "_listed", "_listed", defArgs s__listed, defBody s__listed, defScope s__listed, [], []⟩,
  ⟨fun K => ma K (ga K "History") "__init__", "__init__", "History.__init__", defArgs s_History_init, defBody s_History_init, defScope s_History_init, [], []⟩,
  ⟨fun K => He5.wf K (ga K "History") "classmethod" "of_cells", "of_cells", "History.of_cells", defArgs s_History_of_cells, defBody s_History_of_cells, defScope s_History_of_cells, [], []⟩,
  ⟨fun K => pg K "History" "moment", "moment", "History.moment", defArgs s_History_moment, defBody s_History_moment, defScope s_History_moment, [], []⟩,
  ⟨fun K => ma K (ga K "History") "__len__", "__len__", "History.__len__", defArgs s_History_len, defBody s_History_len, defScope s_History_len, [], []⟩,
  ⟨fun K => ma K (ga K "History") "__getitem__", "__getitem__", "History.__getitem__", defArgs s_History_getitem, defBody s_History_getitem, defScope s_History_getitem, [], []⟩,
  ⟨fun K => ma K (ga K "History") "__iter__", "__iter__", "History.__iter__", defArgs s_History_iter, defBody s_History_iter, defScope s_History_iter, [], []⟩,
  ⟨fun K => ma K (ga K "History") "until", "until", "History.until", defArgs s_History_until, defBody s_History_until, defScope s_History_until, [], []⟩,
  ⟨fun K => ma K (ga K "History") "__add__", "__add__", "History.__add__", defArgs s_History_add, defBody s_History_add, defScope s_History_add, [], []⟩,
  ⟨fun K => ma K (ga K "History") "touches", "touches", "History.touches", defArgs s_History_touches, defBody s_History_touches, defScope s_History_touches, [], []⟩,
  ⟨fun K => ma K (ga K "History") "version", "version", "History.version", defArgs s_History_version, defBody s_History_version, defScope s_History_version, [.non], []⟩,
  ⟨fun K => ma K (ga K "History") "versions", "versions", "History.versions", defArgs s_History_versions, defBody s_History_versions, defScope s_History_versions, [], []⟩,
  ⟨fun K => ma K (ga K "History") "stands", "stands", "History.stands", defArgs s_History_stands, defBody s_History_stands, defScope s_History_stands, [], []⟩,
  ⟨fun K => ma K (ga K "History") "__eq__", "__eq__", "History.__eq__", defArgs s_History_eq, defBody s_History_eq, defScope s_History_eq, [], []⟩,
  ⟨fun K => ma K (ga K "History") "__repr__", "__repr__", "History.__repr__", defArgs s_History_repr, defBody s_History_repr, defScope s_History_repr, [], []⟩,
  ⟨fun K => ga K "_law_pot", "_law_pot", "_law_pot", defArgs s__law_pot, defBody s__law_pot, defScope s__law_pot, [], []⟩,
  ⟨fun K => ga K "_law_draw", "_law_draw", "_law_draw", defArgs s__law_draw, defBody s__law_draw, defScope s__law_draw, [], []⟩,
  ⟨fun K => ga K "_law_pick", "_law_pick", "_law_pick", defArgs s__law_pick, defBody s__law_pick, defScope s__law_pick, [], []⟩,
  ⟨fun K => ga K "_law_base", "_law_base", "_law_base", defArgs s__law_base, defBody s__law_base, defScope s__law_base, [], []⟩,
  ⟨fun K => ga K "_law_rows", "_law_rows", "_law_rows", defArgs s__law_rows, defBody s__law_rows, defScope s__law_rows, [], []⟩,
  ⟨fun K => ga K "_law_past", "_law_past", "_law_past", defArgs s__law_past, defBody s__law_past, defScope s__law_past, [], []⟩,
  ⟨fun K => ga K "_law_version", "_law_version", "_law_version", defArgs s__law_version, defBody s__law_version, defScope s__law_version, [], []⟩,
  ⟨fun K => ga K "_law_spots", "_law_spots", "_law_spots", defArgs s__law_spots, defBody s__law_spots, defScope s__law_spots, [], []⟩,
  ⟨fun K => ga K "_law_cell_right", "_law_cell_right", "_law_cell_right", defArgs s__law_cell_right, defBody s__law_cell_right, defScope s__law_cell_right, [], []⟩,
  ⟨fun K => ga K "_law_until_right", "_law_until_right", "_law_until_right", defArgs s__law_until_right, defBody s__law_until_right, defScope s__law_until_right, [], []⟩,
  ⟨fun K => ga K "_law_shown_right", "_law_shown_right", "_law_shown_right", defArgs s__law_shown_right, defBody s__law_shown_right, defScope s__law_shown_right, [], []⟩,
  ⟨fun K => ga K "_law_others_right", "_law_others_right", "_law_others_right", defArgs s__law_others_right, defBody s__law_others_right, defScope s__law_others_right, [], []⟩,
  ⟨fun K => ga K "_law_long_right", "_law_long_right", "_law_long_right", defArgs s__law_long_right, defBody s__law_long_right, defScope s__law_long_right, [], []⟩,
  ⟨fun K => ga K "_law_points_right", "_law_points_right", "_law_points_right", defArgs s__law_points_right, defBody s__law_points_right, defScope s__law_points_right, [], []⟩,
  ⟨fun K => ga K "_law_right", "_law_right", "_law_right", defArgs s__law_right, defBody s__law_right, defScope s__law_right, [], []⟩,
  ⟨fun K => ga K "law", "law", "law", defArgs s_law, defBody s_law, defScope s_law, [], []⟩
]
def fs : List (Frag → Bool) := [
  bGlo "StripError",
  bGlo "InvalidCell",
  bGlo "InvalidStretch",
  bGlo "InvalidStretches",
  bGlo "InvalidMoment",
  bGlo "InvalidEdit",
  bGlo "MissingError",
  bGlo "WrongVersion",
  bGlo "is_integer",
  bGlo "is_count",
  bGlo "is_couple",
  bGlo "is_stretch",
  bGlo "check_cell",
  bGlo "check_cells",
  bGlo "check_moment",
  bGlo "check_edit",
  bGlo "_touched",
  bGlo "_listed",
  bGlo "History",
  bGlo "_law_pot",
  bGlo "_law_draw",
  bGlo "_law_pick",
  bGlo "_law_base",
  bGlo "_law_rows",
  bGlo "_law_past",
  bGlo "_law_version",
  bGlo "_law_spots",
  bGlo "_law_cell_right",
  bGlo "_law_until_right",
  bGlo "_law_shown_right",
  bGlo "_law_others_right",
  bGlo "_law_long_right",
  bGlo "_law_points_right",
  bGlo "_law_right",
  bGlo "law",
  bFree "isinstance",
  bFree "int",
  bFree "bool",
  bFree "tuple",
  bFree "len",
  bFree "repr",
  bFree "enumerate",
  bFree "classmethod",
  bFree "property",
  bFree "TypeError",
  bFree "range",
  bFree "abs",
  bFree "max",
  bFree "divmod",
  bFree "sorted",
  bFree "set",
  bFree "str",
  bFree "any",
  bFree "list",
  bFree "all",
  bFree "min",
  bCls "History",
  bNoat "History" "_edits",
  bMkr "History",
  bMeth "History" "__init__",
  bCMet "History" "of_cells",
  bProp "History" "moment",
  bMeth "History" "__len__",
  bMeth "History" "__getitem__",
  bMeth "History" "__iter__",
  bMeth "History" "until",
  bMeth "History" "__add__",
  bBin "History" .Add,
  bBinT "History" .Add "tuple",
  bBinT "History" .Add "list",
  bBinT "History" .Add "int",
  bBinT "History" .Add "str",
  bBinT "History" .Add "NoneType",
  bBinT "History" .Add "bool",
  bBinT "History" .Add "dict",
  bMeth "History" "touches",
  bMeth "History" "version",
  bMeth "History" "versions",
  bMeth "History" "stands",
  bMeth "History" "__eq__",
  bEqOwn "History",
  bMeth "History" "__repr__",
  bRead "History",
  bTyp "History",
  bNoKit "tuple" "History",
  bNoSub "tuple" "History",
  bNoKit "list" "History",
  bNoSub "list" "History",
  bNoKit "int" "History",
  bNoSub "int" "History",
  bNoKit "str" "History",
  bNoSub "str" "History",
  bNoKit "NoneType" "History",
  bNoSub "NoneType" "History",
  bNoKit "bool" "History",
  bNoSub "bool" "History",
  bNoKit "dict" "History",
  bNoSub "dict" "History"
]
def loose : List PySem.Str := (["StripError", "InvalidCell", "InvalidStretch", "InvalidStretches", "InvalidMoment", "InvalidEdit", "MissingError", "WrongVersion", "is_integer", "is_count", "is_couple", "is_stretch", "check_cell", "check_cells", "check_moment", "check_edit", "_touched", "_listed", "History", "_law_pot"] : List PySem.Str) ++ (["_law_draw", "_law_pick", "_law_base", "_law_rows", "_law_past", "_law_version", "_law_spots", "_law_cell_right", "_law_until_right", "_law_shown_right", "_law_others_right", "_law_long_right", "_law_points_right", "_law_right"] : List PySem.Str)
def ilaw : Nat := 38
abbrev R : PySem.W.OpenRow := PySem.W.OpenLaw.row PySem.Challenge.rw_onceseen_k11_whole_versions_by_looking_t
abbrev hk : PySem.W.Hook := hookB 5 fs fn
def ob (s : PySem.W.SharedT) : He.AlD := obsBG 5 fs fn (HandSHeadRun.getT s)
theorem ob_eq (s : PySem.W.SharedT) : ob s = hk.obs s.abs := obsBG_eq (HandSHeadRun.getT_eq s)
structure Tx (K : Frag) (mg : Str → Option Value) : Prop where
  says : SaysB fs fn K
  glo : ∀ x, bGlo x K = true → mg x = some (.ref (ga K x))
  free : ∀ x, bFree x K = true → mg x = none
section
variable {K : Frag} {mg : Str → Option Value}
theorem g_StripError (T : Tx K mg) : mg "StripError" = some (.ref (ga K "StripError")) := T.glo _ (T.says.fact (List.mem_of_getElem? (i := 0) rfl))
theorem g_InvalidCell (T : Tx K mg) : mg "InvalidCell" = some (.ref (ga K "InvalidCell")) := T.glo _ (T.says.fact (List.mem_of_getElem? (i := 1) rfl))
theorem g_InvalidStretch (T : Tx K mg) : mg "InvalidStretch" = some (.ref (ga K "InvalidStretch")) := T.glo _ (T.says.fact (List.mem_of_getElem? (i := 2) rfl))
theorem g_InvalidStretches (T : Tx K mg) : mg "InvalidStretches" = some (.ref (ga K "InvalidStretches")) := T.glo _ (T.says.fact (List.mem_of_getElem? (i := 3) rfl))
theorem g_InvalidMoment (T : Tx K mg) : mg "InvalidMoment" = some (.ref (ga K "InvalidMoment")) := T.glo _ (T.says.fact (List.mem_of_getElem? (i := 4) rfl))
theorem g_InvalidEdit (T : Tx K mg) : mg "InvalidEdit" = some (.ref (ga K "InvalidEdit")) := T.glo _ (T.says.fact (List.mem_of_getElem? (i := 5) rfl))
theorem g_MissingError (T : Tx K mg) : mg "MissingError" = some (.ref (ga K "MissingError")) := T.glo _ (T.says.fact (List.mem_of_getElem? (i := 6) rfl))
theorem g_WrongVersion (T : Tx K mg) : mg "WrongVersion" = some (.ref (ga K "WrongVersion")) := T.glo _ (T.says.fact (List.mem_of_getElem? (i := 7) rfl))
theorem g_is_integer (T : Tx K mg) : mg "is_integer" = some (.ref (ga K "is_integer")) := T.glo _ (T.says.fact (List.mem_of_getElem? (i := 8) rfl))
theorem g_is_count (T : Tx K mg) : mg "is_count" = some (.ref (ga K "is_count")) := T.glo _ (T.says.fact (List.mem_of_getElem? (i := 9) rfl))
theorem g_is_couple (T : Tx K mg) : mg "is_couple" = some (.ref (ga K "is_couple")) := T.glo _ (T.says.fact (List.mem_of_getElem? (i := 10) rfl))
theorem g_is_stretch (T : Tx K mg) : mg "is_stretch" = some (.ref (ga K "is_stretch")) := T.glo _ (T.says.fact (List.mem_of_getElem? (i := 11) rfl))
theorem g_check_cell (T : Tx K mg) : mg "check_cell" = some (.ref (ga K "check_cell")) := T.glo _ (T.says.fact (List.mem_of_getElem? (i := 12) rfl))
theorem g_check_cells (T : Tx K mg) : mg "check_cells" = some (.ref (ga K "check_cells")) := T.glo _ (T.says.fact (List.mem_of_getElem? (i := 13) rfl))
theorem g_check_moment (T : Tx K mg) : mg "check_moment" = some (.ref (ga K "check_moment")) := T.glo _ (T.says.fact (List.mem_of_getElem? (i := 14) rfl))
theorem g_check_edit (T : Tx K mg) : mg "check_edit" = some (.ref (ga K "check_edit")) := T.glo _ (T.says.fact (List.mem_of_getElem? (i := 15) rfl))
theorem g__touched (T : Tx K mg) : mg "_touched" = some (.ref (ga K "_touched")) := T.glo _ (T.says.fact (List.mem_of_getElem? (i := 16) rfl))
theorem g__listed (T : Tx K mg) : mg "_listed" = some (.ref (ga K "_listed")) := T.glo _ (T.says.fact (List.mem_of_getElem? (i := 17) rfl))
theorem g_History (T : Tx K mg) : mg "History" = some (.ref (ga K "History")) := T.glo _ (T.says.fact (List.mem_of_getElem? (i := 18) rfl))
theorem g__law_pot (T : Tx K mg) : mg "_law_pot" = some (.ref (ga K "_law_pot")) := T.glo _ (T.says.fact (List.mem_of_getElem? (i := 19) rfl))
theorem g__law_draw (T : Tx K mg) : mg "_law_draw" = some (.ref (ga K "_law_draw")) := T.glo _ (T.says.fact (List.mem_of_getElem? (i := 20) rfl))
theorem g__law_pick (T : Tx K mg) : mg "_law_pick" = some (.ref (ga K "_law_pick")) := T.glo _ (T.says.fact (List.mem_of_getElem? (i := 21) rfl))
theorem g__law_base (T : Tx K mg) : mg "_law_base" = some (.ref (ga K "_law_base")) := T.glo _ (T.says.fact (List.mem_of_getElem? (i := 22) rfl))
theorem g__law_rows (T : Tx K mg) : mg "_law_rows" = some (.ref (ga K "_law_rows")) := T.glo _ (T.says.fact (List.mem_of_getElem? (i := 23) rfl))
theorem g__law_past (T : Tx K mg) : mg "_law_past" = some (.ref (ga K "_law_past")) := T.glo _ (T.says.fact (List.mem_of_getElem? (i := 24) rfl))
theorem g__law_version (T : Tx K mg) : mg "_law_version" = some (.ref (ga K "_law_version")) := T.glo _ (T.says.fact (List.mem_of_getElem? (i := 25) rfl))
theorem g__law_spots (T : Tx K mg) : mg "_law_spots" = some (.ref (ga K "_law_spots")) := T.glo _ (T.says.fact (List.mem_of_getElem? (i := 26) rfl))
theorem g__law_cell_right (T : Tx K mg) : mg "_law_cell_right" = some (.ref (ga K "_law_cell_right")) := T.glo _ (T.says.fact (List.mem_of_getElem? (i := 27) rfl))
theorem g__law_until_right (T : Tx K mg) : mg "_law_until_right" = some (.ref (ga K "_law_until_right")) := T.glo _ (T.says.fact (List.mem_of_getElem? (i := 28) rfl))
theorem g__law_shown_right (T : Tx K mg) : mg "_law_shown_right" = some (.ref (ga K "_law_shown_right")) := T.glo _ (T.says.fact (List.mem_of_getElem? (i := 29) rfl))
theorem g__law_others_right (T : Tx K mg) : mg "_law_others_right" = some (.ref (ga K "_law_others_right")) := T.glo _ (T.says.fact (List.mem_of_getElem? (i := 30) rfl))
theorem g__law_long_right (T : Tx K mg) : mg "_law_long_right" = some (.ref (ga K "_law_long_right")) := T.glo _ (T.says.fact (List.mem_of_getElem? (i := 31) rfl))
theorem g__law_points_right (T : Tx K mg) : mg "_law_points_right" = some (.ref (ga K "_law_points_right")) := T.glo _ (T.says.fact (List.mem_of_getElem? (i := 32) rfl))
theorem g__law_right (T : Tx K mg) : mg "_law_right" = some (.ref (ga K "_law_right")) := T.glo _ (T.says.fact (List.mem_of_getElem? (i := 33) rfl))
theorem g_law (T : Tx K mg) : mg "law" = some (.ref (ga K "law")) := T.glo _ (T.says.fact (List.mem_of_getElem? (i := 34) rfl))
theorem z_isinstance (T : Tx K mg) : mg "isinstance" = none := T.free _ (T.says.fact (List.mem_of_getElem? (i := 35) rfl))
theorem z_int (T : Tx K mg) : mg "int" = none := T.free _ (T.says.fact (List.mem_of_getElem? (i := 36) rfl))
theorem z_bool (T : Tx K mg) : mg "bool" = none := T.free _ (T.says.fact (List.mem_of_getElem? (i := 37) rfl))
theorem z_tuple (T : Tx K mg) : mg "tuple" = none := T.free _ (T.says.fact (List.mem_of_getElem? (i := 38) rfl))
theorem z_len (T : Tx K mg) : mg "len" = none := T.free _ (T.says.fact (List.mem_of_getElem? (i := 39) rfl))
theorem z_repr (T : Tx K mg) : mg "repr" = none := T.free _ (T.says.fact (List.mem_of_getElem? (i := 40) rfl))
theorem z_enumerate (T : Tx K mg) : mg "enumerate" = none := T.free _ (T.says.fact (List.mem_of_getElem? (i := 41) rfl))
theorem z_classmethod (T : Tx K mg) : mg "classmethod" = none := T.free _ (T.says.fact (List.mem_of_getElem? (i := 42) rfl))
theorem z_property (T : Tx K mg) : mg "property" = none := T.free _ (T.says.fact (List.mem_of_getElem? (i := 43) rfl))
theorem z_TypeError (T : Tx K mg) : mg "TypeError" = none := T.free _ (T.says.fact (List.mem_of_getElem? (i := 44) rfl))
theorem z_range (T : Tx K mg) : mg "range" = none := T.free _ (T.says.fact (List.mem_of_getElem? (i := 45) rfl))
theorem z_abs (T : Tx K mg) : mg "abs" = none := T.free _ (T.says.fact (List.mem_of_getElem? (i := 46) rfl))
theorem z_max (T : Tx K mg) : mg "max" = none := T.free _ (T.says.fact (List.mem_of_getElem? (i := 47) rfl))
theorem z_divmod (T : Tx K mg) : mg "divmod" = none := T.free _ (T.says.fact (List.mem_of_getElem? (i := 48) rfl))
theorem z_sorted (T : Tx K mg) : mg "sorted" = none := T.free _ (T.says.fact (List.mem_of_getElem? (i := 49) rfl))
theorem z_set (T : Tx K mg) : mg "set" = none := T.free _ (T.says.fact (List.mem_of_getElem? (i := 50) rfl))
theorem z_str (T : Tx K mg) : mg "str" = none := T.free _ (T.says.fact (List.mem_of_getElem? (i := 51) rfl))
theorem z_any (T : Tx K mg) : mg "any" = none := T.free _ (T.says.fact (List.mem_of_getElem? (i := 52) rfl))
theorem z_list (T : Tx K mg) : mg "list" = none := T.free _ (T.says.fact (List.mem_of_getElem? (i := 53) rfl))
theorem z_all (T : Tx K mg) : mg "all" = none := T.free _ (T.says.fact (List.mem_of_getElem? (i := 54) rfl))
theorem z_min (T : Tx K mg) : mg "min" = none := T.free _ (T.says.fact (List.mem_of_getElem? (i := 55) rfl))
theorem c_History (T : Tx K mg) : Cls K (ga K "History") := bCls_ok (T.says.fact (List.mem_of_getElem? (i := 56) rfl))
theorem n_History__edits (T : Tx K mg) : NoAttr K (ga K "History") "_edits" := eqO_ok (T.says.fact (List.mem_of_getElem? (i := 57) rfl))
theorem k_History (T : Tx K mg) : Mk K (ga K "History") (ma K (ga K "History") "__init__") := bMkr_ok (T.says.fact (List.mem_of_getElem? (i := 58) rfl))
theorem m_History_init (T : Tx K mg) : Meth K (ga K "History") "__init__" (ma K (ga K "History") "__init__") := bMeth_ok (T.says.fact (List.mem_of_getElem? (i := 59) rfl))
theorem cm_History_of_cells (T : Tx K mg) : ClX.CMet K (ga K "History") (.type "type") "of_cells" (ma K (ga K "History") "of_cells") (He5.wf K (ga K "History") "classmethod" "of_cells") := bCMet_ok (T.says.fact (List.mem_of_getElem? (i := 60) rfl))
theorem p_History_moment (T : Tx K mg) : PropOf K (ga K "History") "moment" (ma K (ga K "History") "moment") (pg K "History" "moment") := bProp_ok (T.says.fact (List.mem_of_getElem? (i := 61) rfl))
theorem m_History_len (T : Tx K mg) : Meth K (ga K "History") "__len__" (ma K (ga K "History") "__len__") := bMeth_ok (T.says.fact (List.mem_of_getElem? (i := 62) rfl))
theorem m_History_getitem (T : Tx K mg) : Meth K (ga K "History") "__getitem__" (ma K (ga K "History") "__getitem__") := bMeth_ok (T.says.fact (List.mem_of_getElem? (i := 63) rfl))
theorem m_History_iter (T : Tx K mg) : Meth K (ga K "History") "__iter__" (ma K (ga K "History") "__iter__") := bMeth_ok (T.says.fact (List.mem_of_getElem? (i := 64) rfl))
theorem m_History_until (T : Tx K mg) : Meth K (ga K "History") "until" (ma K (ga K "History") "until") := bMeth_ok (T.says.fact (List.mem_of_getElem? (i := 65) rfl))
theorem m_History_add (T : Tx K mg) : Meth K (ga K "History") "__add__" (ma K (ga K "History") "__add__") := bMeth_ok (T.says.fact (List.mem_of_getElem? (i := 66) rfl))
theorem b_History_Add (T : Tx K mg) : BinOwn K .Add (ga K "History") (ma K (ga K "History") "__add__") := bBin_ok rfl (T.says.fact (List.mem_of_getElem? (i := 67) rfl))
theorem bt_History_Add_tuple (T : Tx K mg) : BinTy K .Add (ga K "History") "tuple" := bBinT_ok (T.says.fact (List.mem_of_getElem? (i := 68) rfl))
theorem bt_History_Add_list (T : Tx K mg) : BinTy K .Add (ga K "History") "list" := bBinT_ok (T.says.fact (List.mem_of_getElem? (i := 69) rfl))
theorem bt_History_Add_int (T : Tx K mg) : BinTy K .Add (ga K "History") "int" := bBinT_ok (T.says.fact (List.mem_of_getElem? (i := 70) rfl))
theorem bt_History_Add_str (T : Tx K mg) : BinTy K .Add (ga K "History") "str" := bBinT_ok (T.says.fact (List.mem_of_getElem? (i := 71) rfl))
theorem bt_History_Add_NoneType (T : Tx K mg) : BinTy K .Add (ga K "History") "NoneType" := bBinT_ok (T.says.fact (List.mem_of_getElem? (i := 72) rfl))
theorem bt_History_Add_bool (T : Tx K mg) : BinTy K .Add (ga K "History") "bool" := bBinT_ok (T.says.fact (List.mem_of_getElem? (i := 73) rfl))
theorem bt_History_Add_dict (T : Tx K mg) : BinTy K .Add (ga K "History") "dict" := bBinT_ok (T.says.fact (List.mem_of_getElem? (i := 74) rfl))
theorem m_History_touches (T : Tx K mg) : Meth K (ga K "History") "touches" (ma K (ga K "History") "touches") := bMeth_ok (T.says.fact (List.mem_of_getElem? (i := 75) rfl))
theorem m_History_version (T : Tx K mg) : Meth K (ga K "History") "version" (ma K (ga K "History") "version") := bMeth_ok (T.says.fact (List.mem_of_getElem? (i := 76) rfl))
theorem m_History_versions (T : Tx K mg) : Meth K (ga K "History") "versions" (ma K (ga K "History") "versions") := bMeth_ok (T.says.fact (List.mem_of_getElem? (i := 77) rfl))
theorem m_History_stands (T : Tx K mg) : Meth K (ga K "History") "stands" (ma K (ga K "History") "stands") := bMeth_ok (T.says.fact (List.mem_of_getElem? (i := 78) rfl))
theorem m_History_eq (T : Tx K mg) : Meth K (ga K "History") "__eq__" (ma K (ga K "History") "__eq__") := bMeth_ok (T.says.fact (List.mem_of_getElem? (i := 79) rfl))
theorem eq_History (T : Tx K mg) : EqOwn K (ga K "History") (ma K (ga K "History") "__eq__") := bEqOwn_ok (T.says.fact (List.mem_of_getElem? (i := 80) rfl))
theorem m_History_repr (T : Tx K mg) : Meth K (ga K "History") "__repr__" (ma K (ga K "History") "__repr__") := bMeth_ok (T.says.fact (List.mem_of_getElem? (i := 81) rfl))
theorem rd_History (T : Tx K mg) : ClX.CRead K (ga K "History") (.type "type") := bRead_ok (T.says.fact (List.mem_of_getElem? (i := 82) rfl))
theorem ty_History (T : Tx K mg) : TypOwn K (ga K "History") := bTyp_ok (T.says.fact (List.mem_of_getElem? (i := 83) rfl))
theorem nk_History_tuple (T : Tx K mg) : PySem.W.kitOne K (.type "tuple") (.ref (ga K "History")) = some false := of_decide_eq_true (T.says.fact (List.mem_of_getElem? (i := 84) rfl))
theorem no_History_tuple (T : Tx K mg) : PySem.W.subIn K (.type "tuple") (.ref (ga K "History")) = some false := of_decide_eq_true (T.says.fact (List.mem_of_getElem? (i := 85) rfl))
theorem nk_History_list (T : Tx K mg) : PySem.W.kitOne K (.type "list") (.ref (ga K "History")) = some false := of_decide_eq_true (T.says.fact (List.mem_of_getElem? (i := 86) rfl))
theorem no_History_list (T : Tx K mg) : PySem.W.subIn K (.type "list") (.ref (ga K "History")) = some false := of_decide_eq_true (T.says.fact (List.mem_of_getElem? (i := 87) rfl))
theorem nk_History_int (T : Tx K mg) : PySem.W.kitOne K (.type "int") (.ref (ga K "History")) = some false := of_decide_eq_true (T.says.fact (List.mem_of_getElem? (i := 88) rfl))
theorem no_History_int (T : Tx K mg) : PySem.W.subIn K (.type "int") (.ref (ga K "History")) = some false := of_decide_eq_true (T.says.fact (List.mem_of_getElem? (i := 89) rfl))
theorem nk_History_str (T : Tx K mg) : PySem.W.kitOne K (.type "str") (.ref (ga K "History")) = some false := of_decide_eq_true (T.says.fact (List.mem_of_getElem? (i := 90) rfl))
theorem no_History_str (T : Tx K mg) : PySem.W.subIn K (.type "str") (.ref (ga K "History")) = some false := of_decide_eq_true (T.says.fact (List.mem_of_getElem? (i := 91) rfl))
theorem nk_History_NoneType (T : Tx K mg) : PySem.W.kitOne K (.type "NoneType") (.ref (ga K "History")) = some false := of_decide_eq_true (T.says.fact (List.mem_of_getElem? (i := 92) rfl))
theorem no_History_NoneType (T : Tx K mg) : PySem.W.subIn K (.type "NoneType") (.ref (ga K "History")) = some false := of_decide_eq_true (T.says.fact (List.mem_of_getElem? (i := 93) rfl))
theorem nk_History_bool (T : Tx K mg) : PySem.W.kitOne K (.type "bool") (.ref (ga K "History")) = some false := of_decide_eq_true (T.says.fact (List.mem_of_getElem? (i := 94) rfl))
theorem no_History_bool (T : Tx K mg) : PySem.W.subIn K (.type "bool") (.ref (ga K "History")) = some false := of_decide_eq_true (T.says.fact (List.mem_of_getElem? (i := 95) rfl))
theorem nk_History_dict (T : Tx K mg) : PySem.W.kitOne K (.type "dict") (.ref (ga K "History")) = some false := of_decide_eq_true (T.says.fact (List.mem_of_getElem? (i := 96) rfl))
theorem no_History_dict (T : Tx K mg) : PySem.W.subIn K (.type "dict") (.ref (ga K "History")) = some false := of_decide_eq_true (T.says.fact (List.mem_of_getElem? (i := 97) rfl))
theorem F_InvalidCell_init (T : Tx K mg) : ∃ fd, FunD K "__init__" "InvalidCell.__init__" (defArgs s_InvalidCell_init) (defBody s_InvalidCell_init) (defScope s_InvalidCell_init) [] [] (ma K (ga K "InvalidCell") "__init__") fd := T.says.def_ 0 rfl
theorem kp_InvalidCell_init (T : Tx K mg) : PySem.W.keepIn K (.ref (ma K (ga K "InvalidCell") "__init__")) = true := (F_InvalidCell_init T).elim fun _ F => F.kp
theorem F_InvalidStretch_init (T : Tx K mg) : ∃ fd, FunD K "__init__" "InvalidStretch.__init__" (defArgs s_InvalidStretch_init) (defBody s_InvalidStretch_init) (defScope s_InvalidStretch_init) [] [] (ma K (ga K "InvalidStretch") "__init__") fd := T.says.def_ 1 rfl
theorem kp_InvalidStretch_init (T : Tx K mg) : PySem.W.keepIn K (.ref (ma K (ga K "InvalidStretch") "__init__")) = true := (F_InvalidStretch_init T).elim fun _ F => F.kp
theorem F_InvalidStretches_init (T : Tx K mg) : ∃ fd, FunD K "__init__" "InvalidStretches.__init__" (defArgs s_InvalidStretches_init) (defBody s_InvalidStretches_init) (defScope s_InvalidStretches_init) [] [] (ma K (ga K "InvalidStretches") "__init__") fd := T.says.def_ 2 rfl
theorem kp_InvalidStretches_init (T : Tx K mg) : PySem.W.keepIn K (.ref (ma K (ga K "InvalidStretches") "__init__")) = true := (F_InvalidStretches_init T).elim fun _ F => F.kp
theorem F_InvalidMoment_init (T : Tx K mg) : ∃ fd, FunD K "__init__" "InvalidMoment.__init__" (defArgs s_InvalidMoment_init) (defBody s_InvalidMoment_init) (defScope s_InvalidMoment_init) [] [] (ma K (ga K "InvalidMoment") "__init__") fd := T.says.def_ 3 rfl
theorem kp_InvalidMoment_init (T : Tx K mg) : PySem.W.keepIn K (.ref (ma K (ga K "InvalidMoment") "__init__")) = true := (F_InvalidMoment_init T).elim fun _ F => F.kp
theorem F_InvalidEdit_init (T : Tx K mg) : ∃ fd, FunD K "__init__" "InvalidEdit.__init__" (defArgs s_InvalidEdit_init) (defBody s_InvalidEdit_init) (defScope s_InvalidEdit_init) [] [] (ma K (ga K "InvalidEdit") "__init__") fd := T.says.def_ 4 rfl
theorem kp_InvalidEdit_init (T : Tx K mg) : PySem.W.keepIn K (.ref (ma K (ga K "InvalidEdit") "__init__")) = true := (F_InvalidEdit_init T).elim fun _ F => F.kp
theorem F_WrongVersion_init (T : Tx K mg) : ∃ fd, FunD K "__init__" "WrongVersion.__init__" (defArgs s_WrongVersion_init) (defBody s_WrongVersion_init) (defScope s_WrongVersion_init) [] [] (ma K (ga K "WrongVersion") "__init__") fd := T.says.def_ 5 rfl
theorem kp_WrongVersion_init (T : Tx K mg) : PySem.W.keepIn K (.ref (ma K (ga K "WrongVersion") "__init__")) = true := (F_WrongVersion_init T).elim fun _ F => F.kp
theorem F_is_integer (T : Tx K mg) : ∃ fd, FunD K "is_integer" "is_integer" (defArgs s_is_integer) (defBody s_is_integer) (defScope s_is_integer) [] [] (ga K "is_integer") fd := T.says.def_ 6 rfl
theorem kp_is_integer (T : Tx K mg) : PySem.W.keepIn K (.ref (ga K "is_integer")) = true := (F_is_integer T).elim fun _ F => F.kp
theorem F_is_count (T : Tx K mg) : ∃ fd, FunD K "is_count" "is_count" (defArgs s_is_count) (defBody s_is_count) (defScope s_is_count) [] [] (ga K "is_count") fd := T.says.def_ 7 rfl
theorem kp_is_count (T : Tx K mg) : PySem.W.keepIn K (.ref (ga K "is_count")) = true := (F_is_count T).elim fun _ F => F.kp
theorem F_is_couple (T : Tx K mg) : ∃ fd, FunD K "is_couple" "is_couple" (defArgs s_is_couple) (defBody s_is_couple) (defScope s_is_couple) [] [] (ga K "is_couple") fd := T.says.def_ 8 rfl
theorem kp_is_couple (T : Tx K mg) : PySem.W.keepIn K (.ref (ga K "is_couple")) = true := (F_is_couple T).elim fun _ F => F.kp
theorem F_is_stretch (T : Tx K mg) : ∃ fd, FunD K "is_stretch" "is_stretch" (defArgs s_is_stretch) (defBody s_is_stretch) (defScope s_is_stretch) [] [] (ga K "is_stretch") fd := T.says.def_ 9 rfl
theorem kp_is_stretch (T : Tx K mg) : PySem.W.keepIn K (.ref (ga K "is_stretch")) = true := (F_is_stretch T).elim fun _ F => F.kp
theorem F_check_cell (T : Tx K mg) : ∃ fd, FunD K "check_cell" "check_cell" (defArgs s_check_cell) (defBody s_check_cell) (defScope s_check_cell) [] [] (ga K "check_cell") fd := T.says.def_ 10 rfl
theorem kp_check_cell (T : Tx K mg) : PySem.W.keepIn K (.ref (ga K "check_cell")) = true := (F_check_cell T).elim fun _ F => F.kp
theorem F_check_cells (T : Tx K mg) : ∃ fd, FunD K "check_cells" "check_cells" (defArgs s_check_cells) (defBody s_check_cells) (defScope s_check_cells) [] [] (ga K "check_cells") fd := T.says.def_ 11 rfl
theorem kp_check_cells (T : Tx K mg) : PySem.W.keepIn K (.ref (ga K "check_cells")) = true := (F_check_cells T).elim fun _ F => F.kp
theorem F_check_moment (T : Tx K mg) : ∃ fd, FunD K "check_moment" "check_moment" (defArgs s_check_moment) (defBody s_check_moment) (defScope s_check_moment) [] [] (ga K "check_moment") fd := T.says.def_ 12 rfl
theorem kp_check_moment (T : Tx K mg) : PySem.W.keepIn K (.ref (ga K "check_moment")) = true := (F_check_moment T).elim fun _ F => F.kp
theorem F_check_edit (T : Tx K mg) : ∃ fd, FunD K "check_edit" "check_edit" (defArgs s_check_edit) (defBody s_check_edit) (defScope s_check_edit) [] [] (ga K "check_edit") fd := T.says.def_ 13 rfl
theorem kp_check_edit (T : Tx K mg) : PySem.W.keepIn K (.ref (ga K "check_edit")) = true := (F_check_edit T).elim fun _ F => F.kp
theorem F__touched (T : Tx K mg) : ∃ fd, FunD K "_touched" "_touched" (defArgs s__touched) (defBody s__touched) (defScope s__touched) [] [] (ga K "_touched") fd := T.says.def_ 14 rfl
theorem kp__touched (T : Tx K mg) : PySem.W.keepIn K (.ref (ga K "_touched")) = true := (F__touched T).elim fun _ F => F.kp
theorem F__listed (T : Tx K mg) : ∃ fd, FunD K "_listed" "_listed" (defArgs s__listed) (defBody s__listed) (defScope s__listed) [] [] (ga K "_listed") fd := T.says.def_ 15 rfl
theorem kp__listed (T : Tx K mg) : PySem.W.keepIn K (.ref (ga K "_listed")) = true := (F__listed T).elim fun _ F => F.kp
theorem F_History_init (T : Tx K mg) : ∃ fd, FunD K "__init__" "History.__init__" (defArgs s_History_init) (defBody s_History_init) (defScope s_History_init) [] [] (ma K (ga K "History") "__init__") fd := T.says.def_ 16 rfl
theorem kp_History_init (T : Tx K mg) : PySem.W.keepIn K (.ref (ma K (ga K "History") "__init__")) = true := (F_History_init T).elim fun _ F => F.kp
theorem F_History_of_cells (T : Tx K mg) : ∃ fd, FunD K "of_cells" "History.of_cells" (defArgs s_History_of_cells) (defBody s_History_of_cells) (defScope s_History_of_cells) [] [] (He5.wf K (ga K "History") "classmethod" "of_cells") fd := T.says.def_ 17 rfl
theorem kp_History_of_cells (T : Tx K mg) : PySem.W.keepIn K (.ref (He5.wf K (ga K "History") "classmethod" "of_cells")) = true := (F_History_of_cells T).elim fun _ F => F.kp
theorem F_History_moment (T : Tx K mg) : ∃ fd, FunD K "moment" "History.moment" (defArgs s_History_moment) (defBody s_History_moment) (defScope s_History_moment) [] [] (pg K "History" "moment") fd := T.says.def_ 18 rfl
theorem kp_History_moment (T : Tx K mg) : PySem.W.keepIn K (.ref (pg K "History" "moment")) = true := (F_History_moment T).elim fun _ F => F.kp
theorem F_History_len (T : Tx K mg) : ∃ fd, FunD K "__len__" "History.__len__" (defArgs s_History_len) (defBody s_History_len) (defScope s_History_len) [] [] (ma K (ga K "History") "__len__") fd := T.says.def_ 19 rfl
theorem kp_History_len (T : Tx K mg) : PySem.W.keepIn K (.ref (ma K (ga K "History") "__len__")) = true := (F_History_len T).elim fun _ F => F.kp
theorem F_History_getitem (T : Tx K mg) : ∃ fd, FunD K "__getitem__" "History.__getitem__" (defArgs s_History_getitem) (defBody s_History_getitem) (defScope s_History_getitem) [] [] (ma K (ga K "History") "__getitem__") fd := T.says.def_ 20 rfl
theorem kp_History_getitem (T : Tx K mg) : PySem.W.keepIn K (.ref (ma K (ga K "History") "__getitem__")) = true := (F_History_getitem T).elim fun _ F => F.kp
theorem F_History_iter (T : Tx K mg) : ∃ fd, FunD K "__iter__" "History.__iter__" (defArgs s_History_iter) (defBody s_History_iter) (defScope s_History_iter) [] [] (ma K (ga K "History") "__iter__") fd := T.says.def_ 21 rfl
theorem kp_History_iter (T : Tx K mg) : PySem.W.keepIn K (.ref (ma K (ga K "History") "__iter__")) = true := (F_History_iter T).elim fun _ F => F.kp
theorem F_History_until (T : Tx K mg) : ∃ fd, FunD K "until" "History.until" (defArgs s_History_until) (defBody s_History_until) (defScope s_History_until) [] [] (ma K (ga K "History") "until") fd := T.says.def_ 22 rfl
theorem kp_History_until (T : Tx K mg) : PySem.W.keepIn K (.ref (ma K (ga K "History") "until")) = true := (F_History_until T).elim fun _ F => F.kp
theorem F_History_add (T : Tx K mg) : ∃ fd, FunD K "__add__" "History.__add__" (defArgs s_History_add) (defBody s_History_add) (defScope s_History_add) [] [] (ma K (ga K "History") "__add__") fd := T.says.def_ 23 rfl
theorem kp_History_add (T : Tx K mg) : PySem.W.keepIn K (.ref (ma K (ga K "History") "__add__")) = true := (F_History_add T).elim fun _ F => F.kp
theorem F_History_touches (T : Tx K mg) : ∃ fd, FunD K "touches" "History.touches" (defArgs s_History_touches) (defBody s_History_touches) (defScope s_History_touches) [] [] (ma K (ga K "History") "touches") fd := T.says.def_ 24 rfl
theorem kp_History_touches (T : Tx K mg) : PySem.W.keepIn K (.ref (ma K (ga K "History") "touches")) = true := (F_History_touches T).elim fun _ F => F.kp
theorem F_History_version (T : Tx K mg) : ∃ fd, FunD K "version" "History.version" (defArgs s_History_version) (defBody s_History_version) (defScope s_History_version) [(He.Dv.v K (.non))] [] (ma K (ga K "History") "version") fd := T.says.def_ 25 rfl
theorem kp_History_version (T : Tx K mg) : PySem.W.keepIn K (.ref (ma K (ga K "History") "version")) = true := (F_History_version T).elim fun _ F => F.kp
theorem F_History_versions (T : Tx K mg) : ∃ fd, FunD K "versions" "History.versions" (defArgs s_History_versions) (defBody s_History_versions) (defScope s_History_versions) [] [] (ma K (ga K "History") "versions") fd := T.says.def_ 26 rfl
theorem kp_History_versions (T : Tx K mg) : PySem.W.keepIn K (.ref (ma K (ga K "History") "versions")) = true := (F_History_versions T).elim fun _ F => F.kp
theorem F_History_stands (T : Tx K mg) : ∃ fd, FunD K "stands" "History.stands" (defArgs s_History_stands) (defBody s_History_stands) (defScope s_History_stands) [] [] (ma K (ga K "History") "stands") fd := T.says.def_ 27 rfl
theorem kp_History_stands (T : Tx K mg) : PySem.W.keepIn K (.ref (ma K (ga K "History") "stands")) = true := (F_History_stands T).elim fun _ F => F.kp
theorem F_History_eq (T : Tx K mg) : ∃ fd, FunD K "__eq__" "History.__eq__" (defArgs s_History_eq) (defBody s_History_eq) (defScope s_History_eq) [] [] (ma K (ga K "History") "__eq__") fd := T.says.def_ 28 rfl
theorem kp_History_eq (T : Tx K mg) : PySem.W.keepIn K (.ref (ma K (ga K "History") "__eq__")) = true := (F_History_eq T).elim fun _ F => F.kp
theorem F_History_repr (T : Tx K mg) : ∃ fd, FunD K "__repr__" "History.__repr__" (defArgs s_History_repr) (defBody s_History_repr) (defScope s_History_repr) [] [] (ma K (ga K "History") "__repr__") fd := T.says.def_ 29 rfl
theorem kp_History_repr (T : Tx K mg) : PySem.W.keepIn K (.ref (ma K (ga K "History") "__repr__")) = true := (F_History_repr T).elim fun _ F => F.kp
theorem F__law_pot (T : Tx K mg) : ∃ fd, FunD K "_law_pot" "_law_pot" (defArgs s__law_pot) (defBody s__law_pot) (defScope s__law_pot) [] [] (ga K "_law_pot") fd := T.says.def_ 30 rfl
theorem kp__law_pot (T : Tx K mg) : PySem.W.keepIn K (.ref (ga K "_law_pot")) = true := (F__law_pot T).elim fun _ F => F.kp
theorem F__law_draw (T : Tx K mg) : ∃ fd, FunD K "_law_draw" "_law_draw" (defArgs s__law_draw) (defBody s__law_draw) (defScope s__law_draw) [] [] (ga K "_law_draw") fd := T.says.def_ 31 rfl
theorem kp__law_draw (T : Tx K mg) : PySem.W.keepIn K (.ref (ga K "_law_draw")) = true := (F__law_draw T).elim fun _ F => F.kp
theorem F__law_pick (T : Tx K mg) : ∃ fd, FunD K "_law_pick" "_law_pick" (defArgs s__law_pick) (defBody s__law_pick) (defScope s__law_pick) [] [] (ga K "_law_pick") fd := T.says.def_ 32 rfl
theorem kp__law_pick (T : Tx K mg) : PySem.W.keepIn K (.ref (ga K "_law_pick")) = true := (F__law_pick T).elim fun _ F => F.kp
theorem F__law_base (T : Tx K mg) : ∃ fd, FunD K "_law_base" "_law_base" (defArgs s__law_base) (defBody s__law_base) (defScope s__law_base) [] [] (ga K "_law_base") fd := T.says.def_ 33 rfl
theorem kp__law_base (T : Tx K mg) : PySem.W.keepIn K (.ref (ga K "_law_base")) = true := (F__law_base T).elim fun _ F => F.kp
theorem F__law_rows (T : Tx K mg) : ∃ fd, FunD K "_law_rows" "_law_rows" (defArgs s__law_rows) (defBody s__law_rows) (defScope s__law_rows) [] [] (ga K "_law_rows") fd := T.says.def_ 34 rfl
theorem kp__law_rows (T : Tx K mg) : PySem.W.keepIn K (.ref (ga K "_law_rows")) = true := (F__law_rows T).elim fun _ F => F.kp
theorem F__law_past (T : Tx K mg) : ∃ fd, FunD K "_law_past" "_law_past" (defArgs s__law_past) (defBody s__law_past) (defScope s__law_past) [] [] (ga K "_law_past") fd := T.says.def_ 35 rfl
theorem kp__law_past (T : Tx K mg) : PySem.W.keepIn K (.ref (ga K "_law_past")) = true := (F__law_past T).elim fun _ F => F.kp
theorem F__law_version (T : Tx K mg) : ∃ fd, FunD K "_law_version" "_law_version" (defArgs s__law_version) (defBody s__law_version) (defScope s__law_version) [] [] (ga K "_law_version") fd := T.says.def_ 36 rfl
theorem kp__law_version (T : Tx K mg) : PySem.W.keepIn K (.ref (ga K "_law_version")) = true := (F__law_version T).elim fun _ F => F.kp
theorem F__law_spots (T : Tx K mg) : ∃ fd, FunD K "_law_spots" "_law_spots" (defArgs s__law_spots) (defBody s__law_spots) (defScope s__law_spots) [] [] (ga K "_law_spots") fd := T.says.def_ 37 rfl
theorem kp__law_spots (T : Tx K mg) : PySem.W.keepIn K (.ref (ga K "_law_spots")) = true := (F__law_spots T).elim fun _ F => F.kp
theorem F__law_cell_right (T : Tx K mg) : ∃ fd, FunD K "_law_cell_right" "_law_cell_right" (defArgs s__law_cell_right) (defBody s__law_cell_right) (defScope s__law_cell_right) [] [] (ga K "_law_cell_right") fd := T.says.def_ 38 rfl
theorem kp__law_cell_right (T : Tx K mg) : PySem.W.keepIn K (.ref (ga K "_law_cell_right")) = true := (F__law_cell_right T).elim fun _ F => F.kp
theorem F__law_until_right (T : Tx K mg) : ∃ fd, FunD K "_law_until_right" "_law_until_right" (defArgs s__law_until_right) (defBody s__law_until_right) (defScope s__law_until_right) [] [] (ga K "_law_until_right") fd := T.says.def_ 39 rfl
theorem kp__law_until_right (T : Tx K mg) : PySem.W.keepIn K (.ref (ga K "_law_until_right")) = true := (F__law_until_right T).elim fun _ F => F.kp
theorem F__law_shown_right (T : Tx K mg) : ∃ fd, FunD K "_law_shown_right" "_law_shown_right" (defArgs s__law_shown_right) (defBody s__law_shown_right) (defScope s__law_shown_right) [] [] (ga K "_law_shown_right") fd := T.says.def_ 40 rfl
theorem kp__law_shown_right (T : Tx K mg) : PySem.W.keepIn K (.ref (ga K "_law_shown_right")) = true := (F__law_shown_right T).elim fun _ F => F.kp
theorem F__law_others_right (T : Tx K mg) : ∃ fd, FunD K "_law_others_right" "_law_others_right" (defArgs s__law_others_right) (defBody s__law_others_right) (defScope s__law_others_right) [] [] (ga K "_law_others_right") fd := T.says.def_ 41 rfl
theorem kp__law_others_right (T : Tx K mg) : PySem.W.keepIn K (.ref (ga K "_law_others_right")) = true := (F__law_others_right T).elim fun _ F => F.kp
theorem F__law_long_right (T : Tx K mg) : ∃ fd, FunD K "_law_long_right" "_law_long_right" (defArgs s__law_long_right) (defBody s__law_long_right) (defScope s__law_long_right) [] [] (ga K "_law_long_right") fd := T.says.def_ 42 rfl
theorem kp__law_long_right (T : Tx K mg) : PySem.W.keepIn K (.ref (ga K "_law_long_right")) = true := (F__law_long_right T).elim fun _ F => F.kp
theorem F__law_points_right (T : Tx K mg) : ∃ fd, FunD K "_law_points_right" "_law_points_right" (defArgs s__law_points_right) (defBody s__law_points_right) (defScope s__law_points_right) [] [] (ga K "_law_points_right") fd := T.says.def_ 43 rfl
theorem kp__law_points_right (T : Tx K mg) : PySem.W.keepIn K (.ref (ga K "_law_points_right")) = true := (F__law_points_right T).elim fun _ F => F.kp
theorem F__law_right (T : Tx K mg) : ∃ fd, FunD K "_law_right" "_law_right" (defArgs s__law_right) (defBody s__law_right) (defScope s__law_right) [] [] (ga K "_law_right") fd := T.says.def_ 44 rfl
theorem kp__law_right (T : Tx K mg) : PySem.W.keepIn K (.ref (ga K "_law_right")) = true := (F__law_right T).elim fun _ F => F.kp
theorem F_law (T : Tx K mg) : ∃ fd, FunD K "law" "law" (defArgs s_law) (defBody s_law) (defScope s_law) [] [] (ga K "law") fd := T.says.def_ 45 rfl
theorem kp_law (T : Tx K mg) : PySem.W.keepIn K (.ref (ga K "law")) = true := (F_law T).elim fun _ F => F.kp
theorem get_History (T : Tx K mg) : GetOwn K (ga K "History") (ma K (ga K "History") "__getitem__") := ⟨(m_History_getitem T).at_, (F_History_getitem T).elim fun _ F => fnIn_of F, (m_History_getitem T).fn⟩
end
end Hd

set_option Elab.async false
set_option linter.all false
set_option maxRecDepth 100000
namespace Hd
open PySem PySem.Spec PyProof.Rows L2 He Lw
set_option maxHeartbeats 0 in
theorem run (w : World) : HandSHeadRun.RunEq R (PySem.W.view R.prog [ilaw]) hk ob 20000 loose w := by
  intro os
  kernel_rfl
end Hd

set_option Elab.async false
set_option linter.all false
set_option maxRecDepth 100000
set_option maxHeartbeats 4000000
namespace Hd
open PySem PySem.Spec PyProof.Rows L2 He Lw StX
open Lw.En (enc)
local macro_rules | `(tactic| walk_at "vc") => `(tactic| simp only [tSeq, tAsg, tRet, tRetN, tDrop, tNext, tIfS, tNever, tVar, tC, tOp, tUn, tTest, tB, tNot, tAnd, tOr, tAndV, tOrV, tNotV, tIf, tChain, tCmp, t2I, tCB, tCons, tNil, tTup, tLst, tMC, tFld, sFld, tPr, gName, wipe, List.foldl_cons, List.foldl_nil, tYes, iTup, iList, iEnum, iEnumT, iEnumK, iRng1, iRng2, iRng3, gNil, gCons, gTup, gUnl, gSub, tPar, rI, rI0, rU, tIsN, tNotN, tSl, tPart, tNoPart, tThen, rMk, tStar, tBM, tM1,
  assignEach, cxOf, L2.start, List.map_cons, List.map_nil, List.length_cons, List.length_nil, List.replicate, List.cons_append, List.nil_append, List.getElem?_cons_zero, List.getElem?_cons_succ, List.set_cons_zero, List.set_cons_succ, Option.some.injEq, V.int.injEq, V.bl.injEq, V.ref.injEq, V.str.injEq, exists_eq_left', exists_eq_left, exists_eq_right', exists_eq_right, exists_and_left, exists_and_right, true_and, and_true, List.cons.injEq, List.cons_ne_nil, reduceCtorEq, false_and, and_false, exists_false, if_true, if_false, Bool.false_eq_true, Bool.true_eq_false, eq_self, forall_eq, forall_eq', rEq_int, rNe_int, rEq_str, rNe_str])

variable {P : Program} {w : World} {K : Frag} {mg : Str → Option Value} {base : Heap}
def P_is_integer (_ : Frag) : Sp := sp1 fun x H Q _ => ∃ S d, Dx S H x d ∧ Q (.bl (isIntD d)) H
def P_is_count (_ : Frag) : Sp := sp1 fun x H Q _ => ∃ S d, Dx S H x d ∧ Q (.bl (isCntD d)) H
def P_is_couple (_ : Frag) : Sp := sp1 fun x H Q _ => ∃ S d, Dx S H x d ∧ Q (.bl (isCplD d)) H
def P_is_stretch (_ : Frag) : Sp := sp1 fun x H Q _ => ∃ S d, Dx S H x d ∧ Q (.bl (isStrD d)) H
def P_check_cell (_ : Frag) : Sp := sp1 fun x H Q _ => ∃ i, x = .int i ∧ Q .non H
def P_check_cells (K : Frag) : Sp := sp1 fun x H Q _ => ∃ a, ∃ ns : List Int, x = .ref a ∧ SqT K H a (ns.map V.int) ∧ Q .non H
def P_check_moment (_ : Frag) : Sp := sp2 fun x y H Q _ => ∃ i j, x = .int i ∧ y = .int j ∧ 0 ≤ i ∧ i ≤ j ∧ Q .non H
def P_check_edit (_ : Frag) : Sp := sp2 fun x y H Q _ => ∃ i j, x = .int i ∧ y = .int j ∧ 1 ≤ i ∧ i ≤ j ∧ Q .non H
def P__touched (_ : Frag) : Sp := sp2 fun x y H Q _ => ∃ S p c, De S H x (p : Int × Int) ∧ y = .int c ∧ Q (.bl (tch p c)) H
theorem sc_is_integer : FnScope ["value"] ["value"] (defScope s_is_integer) := ⟨rfl, rfl, rfl, by decide +kernel, rfl, by decide +kernel, by decide +kernel⟩
theorem B_is_integer (T : Tx K mg) : BodyG CX0 P w K mg base ["value"] "is_integer" (defScope s_is_integer) (defBody s_is_integer) 0 (ga K "is_integer") (P_is_integer K) := by
  intro cdv A outer s H vs Q E hr h
  have hu := hr.units
  have hu1 := hr.units1
  obtain ⟨x_value, rfl, h⟩ := h
  refine ⟨_, PSs.nox (pss_one (ps_ret (pe_and (pe_callB (call_isi) (by rfl) (z_isinstance T) PyProof.Rows.boot_isinstance (pa_cons (pv 0) (pa_cons (pe_bltn (v := .ty "int") rfl (z_int T) PyProof.Rows.boot_int rfl) pa_nil))) (pe_one (pe_not (pe_callB (call_isi) (by rfl) (z_isinstance T) PyProof.Rows.boot_isinstance (pa_cons (pv 0) (pa_cons (pe_bltn (v := .ty "bool") rfl (z_bool T) PyProof.Rows.boot_bool rfl) pa_nil)))))))), ?_⟩
  walk_at "vc"
  obtain ⟨S, d, hd, q⟩ := h
  refine rIsi_of hd (kit_int d) ⟨_, rfl, ?_⟩
  split
  · refine rIsi_of hd (kit_bool d) ⟨_, rfl, ?_⟩
    rename_i hc
    have e : (!isBoolD d) = isIntD d := by cases d <;> simp_all [isIntD, isBoolD]
    rw [e]
    exact q
  · rename_i hc
    have e : isIntD d = false := by cases d <;> simp_all [isIntD, isBoolD]
    rw [e] at q
    exact q
theorem G_is_integer (T : Tx K mg) : FnG P w K mg base CX0 1 (ga K "is_integer") (P_is_integer K) := by
  obtain ⟨fd, F⟩ := F_is_integer T
  have b : L2.Binds K fd ["value"] [] := F.bindsN fun _ _ _ _ _ _ us hl => match us, hl with | [_], _ => rfl
  exact fnG_pl F sc_is_integer b sp1_len (B_is_integer T)
theorem sc_is_count : FnScope ["value"] ["value"] (defScope s_is_count) := ⟨rfl, rfl, rfl, by decide +kernel, rfl, by decide +kernel, by decide +kernel⟩
theorem B_is_count (T : Tx K mg) : BodyG CX0 P w K mg base ["value"] "is_count" (defScope s_is_count) (defBody s_is_count) 2 (ga K "is_count") (P_is_count K) := by
  intro cdv A outer s H vs Q E hr h
  have hu := hr.units
  have hu1 := hr.units1
  obtain ⟨x_value, rfl, h⟩ := h
  refine ⟨_, PSs.nox (pss_one (ps_ret (pe_and (pe_c (call_g (G_is_integer T) (hr.mono (by decide)) pass0) (kp_is_integer T) rfl (g_is_integer T) (pa_cons (pv 0) pa_nil)) (pe_one (pe_cmpR op_ge (pv 0) pe_int (nomark _)))))), ?_⟩
  walk_at "vc"
  obtain ⟨S, d, hd, q⟩ := h
  refine ⟨_, rfl, S, d, hd, _, rfl, ?_⟩
  cases hd <;> simp only [isIntD, isCntD, if_true, if_false, Bool.false_eq_true] at q ⊢ <;> first | exact q | exact ⟨_, rfl, q⟩
theorem G_is_count (T : Tx K mg) : FnG P w K mg base CX0 3 (ga K "is_count") (P_is_count K) := by
  obtain ⟨fd, F⟩ := F_is_count T
  have b : L2.Binds K fd ["value"] [] := F.bindsN fun _ _ _ _ _ _ us hl => match us, hl with | [_], _ => rfl
  exact fnG_pl F sc_is_count b sp1_len (B_is_count T)
theorem sc_is_couple : FnScope ["value"] ["value"] (defScope s_is_couple) := ⟨rfl, rfl, rfl, by decide +kernel, rfl, by decide +kernel, by decide +kernel⟩
theorem B_is_couple (T : Tx K mg) : BodyG CX0 P w K mg base ["value"] "is_couple" (defScope s_is_couple) (defBody s_is_couple) 0 (ga K "is_couple") (P_is_couple K) := by
  intro cdv A outer s H vs Q E hr h
  have hu := hr.units
  have hu1 := hr.units1
  obtain ⟨x_value, rfl, h⟩ := h
  refine ⟨_, PSs.nox (pss_one (ps_ret (pe_and (pe_callB (call_isi) (by rfl) (z_isinstance T) PyProof.Rows.boot_isinstance (pa_cons (pv 0) (pa_cons (pe_bltn (v := .ty "tuple") rfl (z_tuple T) PyProof.Rows.boot_tuple rfl) pa_nil))) (pe_one (pe_cmpR op_eq (pe_callB (call_len_seq) (by rfl) (z_len T) PySem.boot_len (pa_cons (pv 0) pa_nil)) pe_int (nomark _)))))), ?_⟩
  walk_at "vc"
  obtain ⟨S, d, hd, q⟩ := h
  refine rIsi_of hd (kit_tuple d) ⟨_, rfl, ?_⟩
  cases hd with
  | tup n e hA =>
    simp only [isTupD, if_true]
    refine ⟨_, rfl, _, .inr (SqT.of e), ?_⟩
    cases hA with
    | nil => exact q
    | cons h1 t =>
      cases t with
      | nil => exact q
      | cons h2 t =>
        cases t with
        | nil => exact q
        | cons h3 t =>
          simp only [isCplD] at q
          rw [decide_eq_false (by simp only [List.length_cons]; omega)]
          exact q
  | _ => simp only [isTupD, if_false, Bool.false_eq_true]; exact q
theorem G_is_couple (T : Tx K mg) : FnG P w K mg base CX0 1 (ga K "is_couple") (P_is_couple K) := by
  obtain ⟨fd, F⟩ := F_is_couple T
  have b : L2.Binds K fd ["value"] [] := F.bindsN fun _ _ _ _ _ _ us hl => match us, hl with | [_], _ => rfl
  exact fnG_pl F sc_is_couple b sp1_len (B_is_couple T)
theorem sc_is_stretch : FnScope ["value", "first", "last"] ["value"] (defScope s_is_stretch) := ⟨rfl, rfl, rfl, by decide +kernel, rfl, by decide +kernel, by decide +kernel⟩
theorem B_is_stretch (T : Tx K mg) : BodyG CX0 P w K mg base ["value", "first", "last"] "is_stretch" (defScope s_is_stretch) (defBody s_is_stretch) 2 (ga K "is_stretch") (P_is_stretch K) := by
  intro cdv A outer s H vs Q E hr h
  have hu := hr.units
  have hu1 := hr.units1
  obtain ⟨x_value, rfl, h⟩ := h
  refine ⟨_, PSs.nox (pss_cons (ps_if (pt_not (pt_val (pe_c (call_g (G_is_couple T) (hr.mono (by decide)) pass0) (kp_is_couple T) rfl (g_is_couple T) (pa_cons (pv 0) pa_nil)))) (pss_one (ps_ret pe_bl)) pss_nil)
    (pss_cons (ps_asg (pv 0) (pg_tupK (K := K) (n := 2) rfl rfl (pgs_cons (pg_name (i := 1) sc_is_stretch.nd rfl (by first | exact Or.inl rfl | exact Or.inr rfl)) (pgs_cons (pg_name (i := 2) sc_is_stretch.nd rfl (by first | exact Or.inl rfl | exact Or.inr rfl)) pgs_nil))))
    (pss_one (ps_ret (pe_and (pe_c (call_g (G_is_integer T) (hr.mono (by decide)) pass0) (kp_is_integer T) rfl (g_is_integer T) (pa_cons (pv 1) pa_nil)) (pe_and (pe_c (call_g (G_is_integer T) (hr.mono (by decide)) pass0) (kp_is_integer T) rfl (g_is_integer T) (pa_cons (pv 2) pa_nil)) (pe_one (pe_cmpR op_le (pv 1) (pv 2) (nomark _))))))))), ?_⟩
  walk_at "vc"
  obtain ⟨S, d, hd, q⟩ := h
  refine ⟨_, rfl, S, d, hd, _, rfl, ?_⟩
  cases hc : isCplD d with
  | false =>
    have e := not_cpl_str hc
    rw [e] at q
    simpa using q
  | true =>
    simp only [Bool.not_true, Bool.false_eq_true, if_false]
    cases hd with
    | tup n e hA =>
      cases hA with
      | nil => cases hc
      | cons h1 t =>
        cases t with
        | nil => cases hc
        | cons h2 t =>
          cases t with
          | cons h3 t => cases hc
          | nil =>
            refine ⟨_, rfl, _, SqT.of e, rfl, _, _, rfl, _, _, rfl, rfl, _, rfl, S, _, h1, _, rfl, ?_⟩
            cases h1 <;> simp only [isIntD, if_true, if_false, Bool.false_eq_true]
            case int i =>
              refine ⟨_, rfl, S, _, h2, _, rfl, ?_⟩
              cases h2 <;> simp only [isIntD, if_true, if_false, Bool.false_eq_true]
              case int j => exact ⟨_, rfl, _, rfl, q⟩
              all_goals exact q
            all_goals exact q
    | _ => cases hc
theorem G_is_stretch (T : Tx K mg) : FnG P w K mg base CX0 3 (ga K "is_stretch") (P_is_stretch K) := by
  obtain ⟨fd, F⟩ := F_is_stretch T
  have b : L2.Binds K fd ["value"] [] := F.bindsN fun _ _ _ _ _ _ us hl => match us, hl with | [_], _ => rfl
  exact fnG_pl F sc_is_stretch b sp1_len (B_is_stretch T)
theorem sc_check_cell : FnScope ["cell"] ["cell"] (defScope s_check_cell) := ⟨rfl, rfl, rfl, by decide +kernel, rfl, by decide +kernel, by decide +kernel⟩
theorem B_check_cell (T : Tx K mg) : BodyG CX0 P w K mg base ["cell"] "check_cell" (defScope s_check_cell) (defBody s_check_cell) 2 (ga K "check_cell") (P_check_cell K) := by
  intro cdv A outer s H vs Q E hr h
  have hu := hr.units
  have hu1 := hr.units1
  obtain ⟨x_cell, rfl, h⟩ := h
  refine ⟨_, PSs.nox (pss_one (ps_if (pt_not (pt_val (pe_c (call_g (G_is_integer T) (hr.mono (by decide)) pass0) (kp_is_integer T) rfl (g_is_integer T) (pa_cons (pv 0) pa_nil)))) (pss_one ps_never) pss_nil)), ?_⟩
  walk_at "vc"
  obtain ⟨i, rfl, q⟩ := h
  exact ⟨_, rfl, [], _, .int i, _, rfl, q⟩
theorem G_check_cell (T : Tx K mg) : FnG P w K mg base CX0 3 (ga K "check_cell") (P_check_cell K) := by
  obtain ⟨fd, F⟩ := F_check_cell T
  have b : L2.Binds K fd ["cell"] [] := F.bindsN fun _ _ _ _ _ _ us hl => match us, hl with | [_], _ => rfl
  exact fnG_pl F sc_check_cell b sp1_len (B_check_cell T)
theorem sc_check_cells : FnScope ["cells", "cell"] ["cells"] (defScope s_check_cells) := ⟨rfl, rfl, rfl, by decide +kernel, rfl, by decide +kernel, by decide +kernel⟩
theorem B_check_cells (T : Tx K mg) : BodyG CX0 P w K mg base ["cells", "cell"] "check_cells" (defScope s_check_cells) (defBody s_check_cells) 4 (ga K "check_cells") (P_check_cells K) := by
  intro cdv A outer s H vs Q E hr h
  have hu := hr.units
  have hu1 := hr.units1
  obtain ⟨x_cells, rfl, h⟩ := h
  refine ⟨_, PSs.nox (pss_one (ps_for PassesOwn.never rfl (pi_tup (pv 0)) (pg_name (i := 1) sc_check_cells.nd rfl (by first | exact Or.inl rfl | exact Or.inr rfl))
    (pss_one (ps_expr (pe_c (call_g (G_check_cell T) (hr.mono (by decide)) pass0) (kp_check_cell T) rfl (g_check_cell T) (pa_cons (pv 1) pa_nil)))))), ?_⟩
  walk_at "vc"
  obtain ⟨a, ns, rfl, hq, q⟩ := h
  refine tFor_it H (walk_tup (xs := ns.map V.int)) (fun i σ H' => (∃ u, σ = [some (.ref a), u]) ∧ H' = H) (fun R hR => ⟨_, rfl, _, rfl, ⟨_, hq⟩, hR⟩) ⟨⟨_, rfl⟩, rfl⟩ (fun i σ H' _ ⟨_, e⟩ => e ▸ hq) ?_ ?_
  · rintro i x σ H1 _ hi ⟨⟨u, rfl⟩, rfl⟩ ⟨rfl, hx⟩
    rw [List.getElem?_map] at hx
    obtain ⟨c, hc, rfl⟩ := Option.map_eq_some_iff.mp hx
    walk_at "vc"
    exact ⟨_, rfl, c, rfl, ⟨_, rfl⟩, rfl⟩
  · rintro σ H1 ⟨⟨u, rfl⟩, rfl⟩
    walk_at "vc"
    exact q
theorem G_check_cells (T : Tx K mg) : FnG P w K mg base CX0 5 (ga K "check_cells") (P_check_cells K) := by
  obtain ⟨fd, F⟩ := F_check_cells T
  have b : L2.Binds K fd ["cells"] [] := F.bindsN fun _ _ _ _ _ _ us hl => match us, hl with | [_], _ => rfl
  exact fnG_pl F sc_check_cells b sp1_len (B_check_cells T)
theorem sc_check_moment : FnScope ["moment", "last"] ["moment", "last"] (defScope s_check_moment) := ⟨rfl, rfl, rfl, by decide +kernel, rfl, by decide +kernel, by decide +kernel⟩
theorem B_check_moment (T : Tx K mg) : BodyG CX0 P w K mg base ["moment", "last"] "check_moment" (defScope s_check_moment) (defBody s_check_moment) 4 (ga K "check_moment") (P_check_moment K) := by
  intro cdv A outer s H vs Q E hr h
  have hu := hr.units
  have hu1 := hr.units1
  obtain ⟨x_moment, x_last, rfl, h⟩ := h
  refine ⟨_, PSs.nox (pss_one (ps_if (PW.pt (pw_or (pt_not (pt_val (pe_c (call_g (G_is_count T) (hr.mono (by decide)) pass0) (kp_is_count T) rfl (g_is_count T) (pa_cons (pv 0) pa_nil)))) (pw_or1 (pt_cmpR (op_gt) (pv 0) (pv 1) (nomark _))))) (pss_one ps_never) pss_nil)), ?_⟩
  walk_at "vc"
  obtain ⟨i, j, rfl, rfl, h0, h1, q⟩ := h
  refine ⟨_, rfl, [], _, .int i, _, rfl, ?_⟩
  simp only [isCntD, decide_eq_true h0, Bool.not_true, Bool.false_eq_true, if_false]
  refine ⟨_, rfl, _, rfl, ?_⟩
  rw [decide_eq_false (by omega)]
  exact q
theorem G_check_moment (T : Tx K mg) : FnG P w K mg base CX0 5 (ga K "check_moment") (P_check_moment K) := by
  obtain ⟨fd, F⟩ := F_check_moment T
  have b : L2.Binds K fd ["moment", "last"] [] := F.bindsN fun _ _ _ _ _ _ us hl => match us, hl with | [_, _], _ => rfl
  exact fnG_pl F sc_check_moment b sp2_len (B_check_moment T)
theorem sc_check_edit : FnScope ["number", "last"] ["number", "last"] (defScope s_check_edit) := ⟨rfl, rfl, rfl, by decide +kernel, rfl, by decide +kernel, by decide +kernel⟩
theorem B_check_edit (T : Tx K mg) : BodyG CX0 P w K mg base ["number", "last"] "check_edit" (defScope s_check_edit) (defBody s_check_edit) 2 (ga K "check_edit") (P_check_edit K) := by
  intro cdv A outer s H vs Q E hr h
  have hu := hr.units
  have hu1 := hr.units1
  obtain ⟨x_number, x_last, rfl, h⟩ := h
  refine ⟨_, PSs.nox (pss_one (ps_if (PW.pt (pw_or (pt_not (pt_val (pe_c (call_g (G_is_integer T) (hr.mono (by decide)) pass0) (kp_is_integer T) rfl (g_is_integer T) (pa_cons (pv 0) pa_nil)))) (pw_or1 (pt_not (pt_chain op_le op_le pe_int (pv 0) (pv 1)))))) (pss_one ps_never) pss_nil)), ?_⟩
  walk_at "vc"
  obtain ⟨i, j, rfl, rfl, h0, h1, q⟩ := h
  refine ⟨_, rfl, [], _, .int i, _, rfl, ?_⟩
  simp only [isIntD, Bool.not_true, Bool.false_eq_true, if_false]
  refine ⟨_, rfl, ?_⟩
  rw [decide_eq_true h0, if_pos rfl]
  refine ⟨_, rfl, _, rfl, ?_⟩
  rw [decide_eq_true h1]
  exact q
theorem G_check_edit (T : Tx K mg) : FnG P w K mg base CX0 3 (ga K "check_edit") (P_check_edit K) := by
  obtain ⟨fd, F⟩ := F_check_edit T
  have b : L2.Binds K fd ["number", "last"] [] := F.bindsN fun _ _ _ _ _ _ us hl => match us, hl with | [_, _], _ => rfl
  exact fnG_pl F sc_check_edit b sp2_len (B_check_edit T)
theorem sc__touched : FnScope ["stretch", "cell", "first", "last"] ["stretch", "cell"] (defScope s__touched) := ⟨rfl, rfl, rfl, by decide +kernel, rfl, by decide +kernel, by decide +kernel⟩
theorem B__touched (T : Tx K mg) : BodyG CX0 P w K mg base ["stretch", "cell", "first", "last"] "_touched" (defScope s__touched) (defBody s__touched) 0 (ga K "_touched") (P__touched K) := by
  intro cdv A outer s H vs Q E hr h
  have hu := hr.units
  have hu1 := hr.units1
  obtain ⟨x_stretch, x_cell, rfl, h⟩ := h
  refine ⟨_, PSs.nox (pss_cons (ps_asg (pv 0) (pg_tupK (K := K) (n := 2) rfl rfl (pgs_cons (pg_name (i := 2) sc__touched.nd rfl (by first | exact Or.inl rfl | exact Or.inr rfl)) (pgs_cons (pg_name (i := 3) sc__touched.nd rfl (by first | exact Or.inl rfl | exact Or.inr rfl)) pgs_nil))))
    (pss_one (ps_ret (pe_chain op_le op_le (pv 2) (pv 1) (pv 3))))), ?_⟩
  walk_at "vc"
  obtain ⟨S, p, c, hp, rfl, q⟩ := h
  obtain ⟨a, rfl, n, e⟩ := hp.ints
  refine ⟨_, rfl, _, SqT.of e, rfl, _, _, rfl, _, _, rfl, rfl, _, rfl, _, rfl, ?_⟩
  unfold tch at q
  cases hc : decide (p.1 ≤ c) with
  | true =>
    rw [hc] at q
    exact ⟨_, rfl, _, rfl, by simpa using q⟩
  | false =>
    rw [hc] at q
    simpa using q
theorem G__touched (T : Tx K mg) : FnG P w K mg base CX0 1 (ga K "_touched") (P__touched K) := by
  obtain ⟨fd, F⟩ := F__touched T
  have b : L2.Binds K fd ["stretch", "cell"] [] := F.bindsN fun _ _ _ _ _ _ us hl => match us, hl with | [_, _], _ => rfl
  exact fnG_pl F sc__touched b sp2_len (B__touched T)
end Hd

set_option Elab.async false
set_option linter.all false
set_option maxRecDepth 100000
set_option maxHeartbeats 4000000
namespace Hd
open PySem PySem.Spec PyProof.Rows L2 He Lw StX
open Lw.En (enc)
local macro_rules | `(tactic| walk_at "vc") => `(tactic| simp only [tSeq, tAsg, tRet, tRetN, tDrop, tNext, tIfS, tNever, tVar, tC, tOp, tUn, tTest, tB, tNot, tAnd, tOr, tAndV, tOrV, tNotV, tIf, tChain, tCmp, t2I, tCB, tCons, tNil, tTup, tLst, tMC, tFld, sFld, tPr, gName, wipe, List.foldl_cons, List.foldl_nil, tYes, iTup, iList, iEnum, iEnumT, iEnumK, iRng1, iRng2, iRng3, gNil, gCons, gTup, gUnl, gSub, tPar, rI, rI0, rU, tIsN, tNotN, tSl, tPart, tNoPart, tThen, rMk, tStar, tBM, tM1, tLoc, tCM, tCMW, tMW, tCW,
  assignEach, cxOf, L2.start, List.map_cons, List.map_nil, List.length_cons, List.length_nil, List.replicate, List.cons_append, List.nil_append, List.getElem?_cons_zero, List.getElem?_cons_succ, List.set_cons_zero, List.set_cons_succ, Option.some.injEq, V.int.injEq, V.bl.injEq, V.ref.injEq, V.str.injEq, exists_eq_left', exists_eq_left, exists_eq_right', exists_eq_right, exists_and_left, exists_and_right, true_and, and_true, List.cons.injEq, List.cons_ne_nil, reduceCtorEq, false_and, and_false, exists_false, if_true, if_false, Bool.false_eq_true, Bool.true_eq_false, eq_self, forall_eq, forall_eq', rEq_int, rNe_int, rEq_str, rNe_str])

variable {P : Program} {w : World} {K : Frag} {mg : Str → Option Value} {base : Heap}
/-- a history of the edits es -/
def Hist (K : Frag) (S : List Addr) (H : Hp) (v : V) (es : List (Int × Int)) : Prop :=
  ∃ a dx t xs, v = .ref a ∧ a ∉ S ∧ H a = some (.ins (ga K "History") dx [("_edits", .ref t)]) ∧ t ∉ S ∧ H t = some (.tup xs) ∧ DeA S H xs es
theorem Hist.keep {S : List Addr} {H H' : Hp} {v : V} {es : List (Int × Int)} (h : Hist K S H v es) (k : Kp S H H') : Hist K S H' v es := by
  obtain ⟨a, dx, t, xs, rfl, n, e, nt, et, d⟩ := h
  exact ⟨a, dx, t, xs, rfl, n, k _ _ n e, nt, k _ _ nt et, DxA.keep k d⟩
theorem Hist.keep0 {S : List Addr} {H H' : Hp} {v : V} {es : List (Int × Int)} (h : Hist K S H v es) (k : Kp [] H H') : Hist K S H' v es := h.keep k.of0
/-- all are stretches -/
def Ords (es : List (Int × Int)) : Prop := ∀ p ∈ es, p.1 ≤ p.2
def Bds (es : List (Int × Int)) : Prop := ∀ p ∈ es, Sm p.1 ∧ Sm p.2
def listed (es : List (Int × Int)) : Str := Txt.join ", " (es.map pairT)
def histT (es : List (Int × Int)) : Str := Str.empty ++ "History(" ++ listed es ++ ")"
theorem listed_sum {es : List (Int × Int)} (hb : Bds es) : ((es.map pairT).map fun x => x.length).sum ≤ 120 * es.length := by
  have h1 := sum_le (c := 120) (l := (es.map pairT).map fun x => x.length) (fun x hx => by
    obtain ⟨t, ht, rfl⟩ := List.mem_map.mp hx
    obtain ⟨r, hr, rfl⟩ := List.mem_map.mp ht
    exact (pair_len (hb r hr).1 (hb r hr).2).1)
  rw [List.length_map, List.length_map] at h1
  exact h1
theorem listed_len {es : List (Int × Int)} (hb : Bds es) (hz : es.length ≤ 1000) : (listed es).length ≤ 130000 := by
  have h := listed_sum hb
  unfold listed
  rw [join_len, List.length_map, show (Str.ofString ", ").length = 2 by decide +kernel]
  omega
/-- the last of the first n edits that touches c, 0 if there is none -/
def ver (es : List (Int × Int)) (c : Int) : Nat → Nat
  | 0 => 0
  | n + 1 => if (es[n]?.any fun p => tch p c) = true then n + 1 else ver es c n
/-- the numbers of the edits among the first n that touch c -/
def tchs (es : List (Int × Int)) (c : Int) : Nat → List Int
  | 0 => []
  | n + 1 => tchs es c n ++ (if (es[n]?.any fun p => tch p c) = true then [((n : Nat) : Int) + 1] else [])
def vers (es : List (Int × Int)) (c : Int) : List Int := 0 :: tchs es c es.length
/-- where a version stops standing -/
def stop (vs : List Int) (v m : Int) : Int := match vs.filter fun n => decide (v < n) with
  | [] => m
  | n :: _ => n
def P__listed (_ : Frag) : Sp := sp1 fun x H Q _ => ∃ S es, Old S H ∧ De S H x (Tu.mk es) ∧ es.length ≤ 1000 ∧ Bds es ∧ ∀ H', Kp [] H H' → Q (.str (listed es)) H'
def P_History_init (K : Frag) : Sp := sp2 fun x y H Q _ => ∃ S a dx es, Old S H ∧ x = .ref a ∧ H a = some (.ins (ga K "History") dx []) ∧ De [a] H y (Tu.mk es) ∧ Ords es ∧ es.length ≤ 1000000 ∧
  ∀ H' t xs, Kp [a] H H' → H' a = some (.ins (ga K "History") dx [("_edits", .ref t)]) → t ∉ S → H' t = some (.tup xs) → DeA S H' xs es → Q .non H'
def P_History_moment (K : Frag) : Sp := sp1 fun x H Q _ => ∃ S es, Hist K S H x es ∧ Q (.int (es.length : Int)) H
def P_History_getitem (K : Frag) : Sp := sp2 fun x y H Q _ => ∃ S es, ∃ n : Nat, ∃ p, Hist K S H x es ∧ y = .int ((n : Int) + 1) ∧ es[n]? = some p ∧ ∀ v, De S H v p → Q v H
def P_History_until (K : Frag) : Sp := sp2 fun x y H Q _ => ∃ S es, ∃ n : Nat, Old S H ∧ Hist K S H x es ∧ y = .int n ∧ n ≤ es.length ∧ Ords es ∧ es.length ≤ 1000 ∧ ∀ v H', Kp [] H H' → Hist K S H' v (es.take n) → Q v H'
def P_History_add (K : Frag) : Sp := sp2 fun x y H Q _ => ∃ S es p, Old S H ∧ Hist K S H x es ∧ De S H y p ∧ Ords es ∧ p.1 ≤ p.2 ∧ es.length ≤ 1000 ∧ ∀ v H', Kp [] H H' → Hist K S H' v (es ++ [p]) → Q v H'
def P_History_version (K : Frag) : Sp := sp3 fun x y z H Q _ => ∃ S es c, ∃ n : Nat, Hist K S H x es ∧ y = .int c ∧ ((z = .non ∧ n = es.length) ∨ z = .int n) ∧ n ≤ es.length ∧ es.length ≤ 1000 ∧ Q (.int (ver es c n)) H
def P_History_versions (K : Frag) : Sp := sp2 fun x y H Q _ => ∃ S es c, Old S H ∧ Hist K S H x es ∧ y = .int c ∧ es.length ≤ 1000 ∧ ∀ p H', Kp [] H H' → H p = none → H' p = some (.lst ((vers es c).map V.int)) → Q (.ref p) H'
def P_History_stands (K : Frag) : Sp := sp3 fun x y z H Q _ => ∃ S es c v, Old S H ∧ Hist K S H x es ∧ y = .int c ∧ z = .int v ∧ v ∈ vers es c ∧ es.length ≤ 1000 ∧ ∀ u H', Kp [] H H' → De S H' u (v, stop (vers es c) v (es.length + 1)) → Q u H'
def P_History_eq (K : Frag) : Sp := sp2 fun x y H Q _ => ∃ S es, Hist K S H x es ∧ ((∃ S' es', Hist K S' H y es' ∧ Q (.bl (decide (es = es'))) H) ∨ ∃ S' d, Dx S' H y d ∧ PySem.W.kitOne K (.type (tyN d)) (.ref (ga K "History")) = some false ∧ Q (.bl false) H)
def P_History_len (K : Frag) : Sp := P_History_moment K
def P_History_touches (K : Frag) : Sp := sp3 fun x y z H Q _ => ∃ S es c, ∃ n : Nat, ∃ p, Hist K S H x es ∧ y = .int ((n : Int) + 1) ∧ es[n]? = some p ∧ z = .int c ∧ Q (.bl (tch p c)) H
def P_History_of_cells (K : Frag) : Sp := sp2 fun x y H Q _ => ∃ S a, ∃ ns : List Int, Old S H ∧ x = .ref (ga K "History") ∧ y = .ref a ∧ H a = some (.tup (ns.map V.int)) ∧ ns.length ≤ 1000 ∧ ∀ v H', Kp [] H H' → Hist K S H' v (ns.map fun c => (c, c)) → Q v H'
def P_History_repr (K : Frag) : Sp := sp1 fun x H Q _ => ∃ S es, Old S H ∧ Hist K S H x es ∧ es.length ≤ 1000 ∧ Bds es ∧ ∀ H', Kp [] H H' → Q (.str (histT es)) H'
theorem sc__listed : FnScope ["stretches", "stretch"] ["stretches"] (defScope s__listed) := ⟨rfl, rfl, rfl, by decide +kernel, rfl, by decide +kernel, by decide +kernel⟩
theorem B__listed (T : Tx K mg) : BodyG CX0 P w K mg base ["stretches", "stretch"] "_listed" (defScope s__listed) (defBody s__listed) 0 (ga K "_listed") (P__listed K) := by
  intro cdv A outer s H vs Q E hr h
  have hu := hr.units
  have hu1 := hr.units1
  obtain ⟨x_stretches, rfl, h⟩ := h
  refine ⟨_, PSs.nox (pss_one (ps_ret (pe_join pe_str (pe_lc rfl sc__listed.nd (pi_tup (pv 0)) (blkOk_by (N := ["stretches", "stretch"]) (sc := defScope s__listed) (own := [("stretch", 1)]) (by decide +kernel)) (fun _ _ _ _ _ => (pg_name (i := 1) sc__listed.nd rfl (by first | exact Or.inl rfl | exact Or.inr rfl))) (fun _ _ _ _ _ => pts_nil) (fun _ _ _ _ _ => (pe_callB (call_reprD (K := K) rfl hr.gd hu) (by rfl) (z_repr T) PyProof.Rows.boot_repr (pa_cons (pv 1) pa_nil))))))), ?_⟩
  walk_at "vc"
  obtain ⟨S, es, oS, hx, hz, hb, q⟩ := h
  obtain ⟨a, xs, rfl, na, ea, d⟩ := hx.tu
  refine ⟨⟨_, rfl⟩, ?_⟩
  refine tLc_d H S [] (fun i => (es.take i).map pairT) (walk_tup (xs := xs)) (fun R hR => ⟨_, rfl, a, rfl, ⟨xs, SqT.of ea⟩, hR⟩) rfl (fun D i H' p => p.seqT subNil' ea) ?_ ?_
  · rintro D i x H1 _ hi p ⟨rfl, hx⟩
    walk_at "vc"
    obtain ⟨r, hr, dr⟩ := d.of hx
    have hm := hb r (List.mem_of_getElem? hr)
    have hlen := pair_len hm.1 hm.2
    refine ⟨x, enc r, rfl, (p.keep subNil dr).dp, pair_show hm.1 hm.2, ?_, Nat.le_trans (Py.dle r) (by decide), ?_⟩
    · show (pairT r).length ≤ sizeLine
      have := sizeLine_eq
      omega
    · refine p.put .refl Old.nil subNil (v := pairT r) (Dx.str _) (by rw [take_snoc hr, List.map_append]; rfl) ?_
      have := sizeLine_eq
      rw [List.length_map, List.length_take]
      omega
  · intro D H1 p
    obtain ⟨k, dv⟩ := p.done oS
    obtain ⟨b, ys, e, nb, eb, db⟩ := dv.ls
    cases e
    rw [d.len, List.take_length] at db
    have e2 := db.strs
    subst e2
    refine ⟨_, rfl, _, .inl (SqL.of eb), ?_, q _ k⟩
    have h1 := listed_sum hb
    rw [List.length_map, show (Str.ofString ", ").length = 2 by decide +kernel]
    omega
theorem G__listed (T : Tx K mg) : FnG P w K mg base CX0 1 (ga K "_listed") (P__listed K) := by
  obtain ⟨fd, F⟩ := F__listed T
  have b : L2.Binds K fd ["stretches"] [] := F.bindsN fun _ _ _ _ _ _ us hl => match us, hl with | [_], _ => rfl
  exact fnG_pl F sc__listed b sp1_len (B__listed T)
theorem sc_History_init : FnScope ["self", "stretches", "position", "stretch", "first", "last"] ["self", "stretches"] (defScope s_History_init) := ⟨rfl, rfl, rfl, by decide +kernel, rfl, by decide +kernel, by decide +kernel⟩
theorem B_History_init (T : Tx K mg) : BodyG CX0 P w K mg base ["self", "stretches", "position", "stretch", "first", "last"] "History.__init__" (defScope s_History_init) (defBody s_History_init) 4 (ma K (ga K "History") "__init__") (P_History_init K) := by
  intro cdv A outer s H vs Q E hr h
  have hu := hr.units
  have hu1 := hr.units1
  obtain ⟨x_self, x_stretches, rfl, h⟩ := h
  refine ⟨_, PSs.nox (pss_cons (ps_for PassesOwn.never rfl (pi_enumT rfl (z_enumerate T) (pa_cons (pv 1) pa_nil)) (pg_tupK (K := K) (n := 2) rfl rfl (pgs_cons (pg_name (i := 2) sc_History_init.nd rfl (by first | exact Or.inl rfl | exact Or.inr rfl)) (pgs_cons (pg_name (i := 3) sc_History_init.nd rfl (by first | exact Or.inl rfl | exact Or.inr rfl)) pgs_nil)))
    (pss_one (ps_if (pt_not (pt_val (pe_c (call_g (G_is_stretch T) (hr.mono (by decide)) pass0) (kp_is_stretch T) rfl (g_is_stretch T) (pa_cons (pv 3) pa_nil)))) (pss_one ps_never) pss_nil)))
    (pss_one (ps_fld (pv 0) (pe_tupleOf rfl (z_tuple T) (pe_lc rfl sc_History_init.nd (pi_tup (pv 1)) (blkOk_by (N := ["self", "stretches", "position", "stretch", "first", "last"]) (sc := defScope s_History_init) (own := [("first", 4), ("last", 5)]) (by decide +kernel)) (fun _ _ _ _ _ => (pg_tupK (K := K) (n := 2) rfl rfl (pgs_cons (pg_name (i := 4) sc_History_init.nd rfl (by first | exact Or.inl rfl | exact Or.inr rfl)) (pgs_cons (pg_name (i := 5) sc_History_init.nd rfl (by first | exact Or.inl rfl | exact Or.inr rfl)) pgs_nil)))) (fun _ _ _ _ _ => pts_nil) (fun _ _ _ _ _ => (pe_tup (pa_cons (pv 4) (pa_cons (pv 5) pa_nil)))))) rfl))), ?_⟩
  walk_at "vc"
  obtain ⟨S, a, dx, es, oS, rfl, e, hp, ho, hz, q⟩ := h
  obtain ⟨p, xs, rfl, np, ep, hA⟩ := hp.tu
  have oS' : Old (a :: S) H := oS.cons e
  refine tFor_it H (walk_enumT (xs := xs)) (fun i σ H' => (∃ u v, σ = [some (.ref a), some (.ref p), u, v, none, none]) ∧ Kp [] H H') (fun R hR => ⟨_, rfl, _, _, rfl, SqT.of ep, hR⟩) ⟨⟨_, _, rfl⟩, .refl⟩ ?_ ?_ ?_
  · intro i σ H' hi ⟨_, k⟩
    exact SqT.of (k _ _ subNil' ep)
  · rintro i x σ H1 H2 hi ⟨⟨u, v, rfl⟩, k⟩ ⟨T, x1, y1, rfl, hT, rfl, h1, h2⟩
    walk_at "vc"
    obtain ⟨r, hr, dr⟩ := hA.of h2
    have dr2 : De [a] (upd H1 T (.tup [x1, y1])) y1 r := Dx.keep (k.trans (.new hT)).of0 dr
    obtain ⟨dd, hd, hs⟩ := strD dr2 (ho r (List.mem_of_getElem? hr))
    refine ⟨_, SqT.of upd_same, rfl, _, _, rfl, _, _, rfl, rfl, _, rfl, _, dd, hd, _, rfl, ?_⟩
    rw [hs]
    simp only [Bool.not_true, Bool.false_eq_true, if_false]
    exact ⟨⟨_, rfl⟩, k.trans (.new hT)⟩
  · rintro σ H1 ⟨⟨u, v, rfl⟩, k⟩
    walk_at "vc"
    have ep1 := k _ _ subNil' ep
    have oS1 := oS'.keep0 k
    refine tLc_d H1 (a :: S) [] (fun i => es.take i) (walk_tup (xs := xs)) (fun R hR => ⟨_, rfl, p, rfl, ⟨xs, SqT.of ep1⟩, hR⟩) rfl (fun D i H' p' => p'.seqT subNil' ep1) ?_ ?_
    · rintro D i x H2 _ hi pp ⟨rfl, hx⟩
      walk_at "vc"
      obtain ⟨r, hr, dr⟩ := hA.of hx
      obtain ⟨b, rfl, nb, eb⟩ := De.ints (Dx.keep k.of0 dr)
      refine ⟨_, rfl, _, pp.seqT subNil' eb, rfl, _, _, rfl, _, _, rfl, rfl, by decide, fun t ht => ?_⟩
      refine pp.put (.new ht) Old.nil subNil (v := r) (De.mk2 ((pp.old0 oS1).no ht) upd_same) (take_snoc hr) ?_
      have := sizeLine_eq
      rw [List.length_take]
      omega
    · intro D H2 pp
      obtain ⟨k2, dv⟩ := pp.done oS1
      obtain ⟨b, ys, e1, nb, eb, db⟩ := dv.ls
      cases e1
      rw [hA.len, List.take_length] at db
      refine .inl ⟨_, _, rfl, SqL.of eb, fun t ht => ?_⟩
      have ea2 : H2 a = some (.ins (ga K "History") dx []) := (k.trans k2) _ _ subNil' e
      have ea3 : upd H2 t (.tup ys) a = some (.ins (ga K "History") dx []) := (Kp.new (S := []) ht) _ _ subNil' ea2
      have nta : t ≠ a := fun z => by rw [z, ea2] at ht; cases ht
      have nt := (oS1.keep0 k2).no ht
      refine ⟨_, _, _, ea3, c_History T, n_History__edits T, by decide, q _ t ys ?_ ?_ ?_ ?_ ?_⟩
      · exact (((k.trans k2).trans (.new ht)).of0).trans (.mut (List.mem_singleton_self a))
      · rw [upd_same]; rfl
      · exact fun z => nt (List.mem_cons_of_mem _ z)
      · rw [upd_ne nta, upd_same]
      · exact DxA.sub (DxA.keep ((Kp.new ht).trans (.mut (List.mem_cons_self ..))) db) fun s z => List.mem_cons_of_mem _ z
theorem G_History_init (T : Tx K mg) : FnG P w K mg base CX0 5 (ma K (ga K "History") "__init__") (spS 1 (P_History_init K)) := by
  obtain ⟨fd, F⟩ := F_History_init T
  exact fnG_star (sp := P_History_init K) (ps := ["self"]) (pv := "stretches") F sc_History_init StX.cxUp_none (fun b c d e f g => StX.bind_star1 (B := fun us => bindArgs (PySem.W.fnOf "__init__" "History.__init__" (defArgs s_History_init) (defBody s_History_init) (defScope s_History_init) .none b c d e f g) ⟨us, []⟩) (fun _ => rfl) (fun _ _ _ => rfl)) (B_History_init T)
theorem sc_History_moment : FnScope ["self"] ["self"] (defScope s_History_moment) := ⟨rfl, rfl, rfl, by decide +kernel, rfl, by decide +kernel, by decide +kernel⟩
theorem B_History_moment (T : Tx K mg) : BodyG CX0 P w K mg base ["self"] "History.moment" (defScope s_History_moment) (defBody s_History_moment) 0 (pg K "History" "moment") (P_History_moment K) := by
  intro cdv A outer s H vs Q E hr h
  have hu := hr.units
  have hu1 := hr.units1
  obtain ⟨x_self, rfl, h⟩ := h
  refine ⟨_, PSs.nox (pss_one (ps_ret (pe_callB (call_len_seq) (by rfl) (z_len T) PySem.boot_len (pa_cons (pe_fld (pv 0) rfl) pa_nil)))), ?_⟩
  walk_at "vc"
  obtain ⟨S, es, ⟨a, dx, t, xs, rfl, n, e, nt, et, d⟩, q⟩ := h
  refine ⟨_, rfl, _, _, _, e, c_History T, n_History__edits T, _, rfl, _, rfl, _, .inr (SqT.of et), ?_⟩
  rw [d.len]
  exact q
theorem G_History_moment (T : Tx K mg) : FnG P w K mg base CX0 1 (pg K "History" "moment") (P_History_moment K) := by
  obtain ⟨fd, F⟩ := F_History_moment T
  have b : L2.Binds K fd ["self"] [] := F.bindsN fun _ _ _ _ _ _ us hl => match us, hl with | [_], _ => rfl
  exact fnG_pl F sc_History_moment b sp1_len (B_History_moment T)
theorem sc_History_getitem : FnScope ["self", "at"] ["self", "at"] (defScope s_History_getitem) := ⟨rfl, rfl, rfl, by decide +kernel, rfl, by decide +kernel, by decide +kernel⟩
theorem B_History_getitem (T : Tx K mg) : BodyG CX0 P w K mg base ["self", "at"] "History.__getitem__" (defScope s_History_getitem) (defBody s_History_getitem) 4 (ma K (ga K "History") "__getitem__") (P_History_getitem K) := by
  intro cdv A outer s H vs Q E hr h
  have hu := hr.units
  have hu1 := hr.units1
  obtain ⟨x_self, x_at, rfl, h⟩ := h
  refine ⟨_, PSs.nox (pss_cons (ps_expr (pe_c (call_g (G_check_edit T) (hr.mono (by decide)) pass0) (kp_check_edit T) rfl (g_check_edit T) (pa_cons (pv 1) (pa_cons (pe_pr (pv 0) (c_History T) (p_History_moment T) (G_History_moment T) (hr.mono (by decide)) pass0) pa_nil))))
    (pss_one (ps_ret (pe_ix ix_tup (pe_fld (pv 0) rfl) (pe_op (op_sub) (pv 1) pe_int) (fun _ _ => rfl))))), ?_⟩
  walk_at "vc"
  obtain ⟨S, es, n, p, ⟨a, dx, t, xs, rfl, na, e, nt, et, d⟩, rfl, hp, q⟩ := h
  have hl : n < es.length := (List.getElem?_eq_some_iff.mp hp).1
  refine ⟨_, rfl, ⟨_, _, e⟩, _, rfl, S, es, ⟨a, dx, t, xs, rfl, na, e, nt, et, d⟩, _, _, rfl, _, _, rfl, rfl, by omega, by omega, ?_⟩
  refine ⟨_, rfl, _, _, _, e, c_History T, n_History__edits T, _, rfl, _, rfl, ?_⟩
  obtain ⟨v, hv, dv⟩ := d.at hp
  exact ixT et (n := n) (by omega) hv (q v dv)
theorem G_History_getitem (T : Tx K mg) : FnG P w K mg base CX0 5 (ma K (ga K "History") "__getitem__") (P_History_getitem K) := by
  obtain ⟨fd, F⟩ := F_History_getitem T
  have b : L2.Binds K fd ["self", "at"] [] := F.bindsN fun _ _ _ _ _ _ us hl => match us, hl with | [_, _], _ => rfl
  exact fnG_pl F sc_History_getitem b sp2_len (B_History_getitem T)
/-- a new History -/
theorem mk_History {S : List Addr} {es : List (Int × Int)} {vs : List V} {H : Hp} {Q : VK} {E : XK} (oS : Old S H) (hv : DeA S H vs es) (ho : Ords es) (hz : es.length ≤ 1000000) (q : ∀ v H', Kp [] H H' → Hist K S H' v es → Q v H') :
    ∀ x dx, H x = none → H dx = none → dx ≠ x → spS 1 (P_History_init K) (V.ref x :: vs) (upd (upd H dx (.own x)) x (.ins (ga K "History") dx [])) (fun v H2 => v = .non ∧ Q (.ref x) H2) E := by
  intro x dx hx hdx ne
  refine spS1 (by rw [hv.len]; have := sizeLine_eq; omega) fun p hp => ?_
  have k1 : Kp [] H (upd H dx (.own x)) := .new hdx
  have hx1 : upd H dx (.own x) x = none := by rw [upd_ne (Ne.symm ne)]; exact hx
  have k2 : Kp [] H (upd (upd H dx (.own x)) x (.ins (ga K "History") dx [])) := k1.trans (.new hx1)
  have k3 : Kp [] H (upd (upd (upd H dx (.own x)) x (.ins (ga K "History") dx [])) p (.tup vs)) := k2.trans (.new hp)
  have px : x ≠ p := fun z => by
    rw [← z, upd_same] at hp
    cases hp
  refine ⟨_, _, rfl, S, x, dx, es, oS.keep0 k3, rfl, ?_, ?_, ho, hz, ?_⟩
  · rw [upd_ne px, upd_same]
  · refine .tup (fun z => px (List.mem_singleton.mp z).symm) upd_same ?_
    exact DxA.keep k3.of0 (DxA.wid (S := S) (fun a z => .inr (by rw [List.mem_singleton.mp z]; exact hx)) hv)
  · intro H' t xs k ex nt et d
    refine ⟨rfl, q _ _ ((k3.of0.trans k).newS hx) ⟨x, dx, t, xs, rfl, oS.no hx, ex, nt, et, d⟩⟩
theorem sc_History_until : FnScope ["self", "moment", "stretches"] ["self", "moment"] (defScope s_History_until) := ⟨rfl, rfl, rfl, by decide +kernel, rfl, by decide +kernel, by decide +kernel⟩
theorem B_History_until (T : Tx K mg) : BodyG CX0 P w K mg base ["self", "moment", "stretches"] "History.until" (defScope s_History_until) (defBody s_History_until) 6 (ma K (ga K "History") "until") (P_History_until K) := by
  intro cdv A outer s H vs Q E hr h
  have hu := hr.units
  have hu1 := hr.units1
  obtain ⟨x_self, x_moment, rfl, h⟩ := h
  refine ⟨_, PSs.nox (pss_cons (ps_expr (pe_c (call_g (G_check_moment T) (hr.mono (by decide)) pass0) (kp_check_moment T) rfl (g_check_moment T) (pa_cons (pv 1) (pa_cons (pe_pr (pv 0) (c_History T) (p_History_moment T) (G_History_moment T) (hr.mono (by decide)) pass0) pa_nil))))
    (pss_cons (ps_set (i := 2) sc_History_until.nd rfl (by first | exact Or.inl rfl | exact Or.inr rfl) (pe_slice sl_tupA (pe_fld (pv 0) rfl) po_none (po_some (pv 1))))
    (pss_one (ps_ret (pe_cS (call_mk (k_History T) (G_History_init T) (hr.mono (by decide)) pass0) (k_History T).kp rfl (g_History T) (pv 2)))))), ?_⟩
  walk_at "vc"
  obtain ⟨S, es, n, oS, hh, rfl, hn, ho, hz, q⟩ := h
  obtain ⟨a, dx, t, xs, rfl, na, e, nt, et, d⟩ := id hh
  refine ⟨_, rfl, ⟨_, _, e⟩, _, rfl, S, es, hh, _, _, rfl, _, _, rfl, rfl, by omega, by omega, ?_⟩
  refine ⟨_, rfl, _, _, _, e, c_History T, n_History__edits T, _, rfl, _, rfl, ?_⟩
  refine slA_take oS nt et (by rw [d.len]; exact hn) fun p H' k np ep => ?_
  refine ⟨_, rfl, _, .inl (SqT.of ep), ?_⟩
  rw [List.append_nil]
  refine mk_History (es := es.take n) (oS.keep0 k) ?_ (fun p hp => ho p (List.mem_of_mem_take hp)) (by rw [List.length_take]; omega) fun v H2 k2 h2 => q v H2 (k.trans k2) h2
  show DxA S H' _ ((es.take n).map enc)
  rw [List.map_take]
  exact DxA.take n (DxA.keep k.of0 d)
theorem G_History_until (T : Tx K mg) : FnG P w K mg base CX0 7 (ma K (ga K "History") "until") (P_History_until K) := by
  obtain ⟨fd, F⟩ := F_History_until T
  have b : L2.Binds K fd ["self", "moment"] [] := F.bindsN fun _ _ _ _ _ _ us hl => match us, hl with | [_, _], _ => rfl
  exact fnG_pl F sc_History_until b sp2_len (B_History_until T)
theorem G_History_until_w1_moment (T : Tx K mg) : FnW P w K mg base CX0 7 (ma K (ga K "History") "until") 1 ["moment"] (fun us zs => (us[0]?).toList ++ (zs[0]?).toList) (P_History_until K) := by
  obtain ⟨fd, F⟩ := F_History_until T
  have b := kbn_plain (ps := ["self", "moment"]) (n := 1) (ks := ["moment"]) (fun us zs => (us[0]?).toList ++ (zs[0]?).toList) F (fun r1 r2 => (vals_q 0 r1).append (vals_q 0 r2)) (fun _ _ _ _ _ _ us ws l1 l2 => match us, ws, l1, l2 with | [_], [_], _, _ => rfl)
  exact fnW_of F sc_History_until b sp2_len (B_History_until T)
theorem sc_History_add : FnScope ["self", "other"] ["self", "other"] (defScope s_History_add) := ⟨rfl, rfl, rfl, by decide +kernel, rfl, by decide +kernel, by decide +kernel⟩
theorem B_History_add (T : Tx K mg) : BodyG CX0 P w K mg base ["self", "other"] "History.__add__" (defScope s_History_add) (defBody s_History_add) 6 (ma K (ga K "History") "__add__") (P_History_add K) := by
  intro cdv A outer s H vs Q E hr h
  have hu := hr.units
  have hu1 := hr.units1
  obtain ⟨x_self, x_other, rfl, h⟩ := h
  refine ⟨_, PSs.nox (pss_cons (ps_if (pt_not (pt_val (pe_c (call_g (G_is_stretch T) (hr.mono (by decide)) pass0) (kp_is_stretch T) rfl (g_is_stretch T) (pa_cons (pv 1) pa_nil)))) (pss_one ps_never) pss_nil)
    (pss_one (ps_ret (pe_cS2 (call_mk (k_History T) (G_History_init T) (hr.mono (by decide)) pass0) (k_History T).kp rfl (g_History T) (pa_star (pe_fld (pv 0) rfl) (pa_cons (pv 1) pa_nil)))))), ?_⟩
  walk_at "vc"
  obtain ⟨S, es, p, oS, ⟨a, dx, t, xs, rfl, na, e, nt, et, d⟩, hp, ho, h1, hz, q⟩ := h
  obtain ⟨dd, hd, hs⟩ := strD hp h1
  refine ⟨_, rfl, S, dd, hd, _, rfl, ?_⟩
  rw [hs]
  simp only [Bool.not_true, Bool.false_eq_true, if_false]
  refine ⟨_, rfl, _, _, _, e, c_History T, n_History__edits T, _, rfl, _, rfl, _, .inl (SqT.of et), ?_⟩
  refine mk_History (es := es ++ [p]) oS ?_ ?_ (by rw [List.length_append]; simp; omega) fun v H2 k2 h2 => q v H2 k2 h2
  · show DxA S H _ ((es ++ [p]).map enc)
    rw [List.map_append]
    exact DxA.append d (.cons hp .nil)
  · intro r hr
    rcases List.mem_append.mp hr with z | z
    · exact ho r z
    · rw [List.mem_singleton.mp z]; exact h1
theorem G_History_add (T : Tx K mg) : FnG P w K mg base CX0 7 (ma K (ga K "History") "__add__") (P_History_add K) := by
  obtain ⟨fd, F⟩ := F_History_add T
  have b : L2.Binds K fd ["self", "other"] [] := F.bindsN fun _ _ _ _ _ _ us hl => match us, hl with | [_, _], _ => rfl
  exact fnG_pl F sc_History_add b sp2_len (B_History_add T)
theorem sc_History_version : FnScope ["self", "cell", "moment", "last", "number"] ["self", "cell", "moment"] (defScope s_History_version) := ⟨rfl, rfl, rfl, by decide +kernel, rfl, by decide +kernel, by decide +kernel⟩
theorem B_History_version (T : Tx K mg) : BodyG CX0 P w K mg base ["self", "cell", "moment", "last", "number"] "History.version" (defScope s_History_version) (defBody s_History_version) 6 (ma K (ga K "History") "version") (P_History_version K) := by
  intro cdv A outer s H vs Q E hr h
  have hu := hr.units
  have hu1 := hr.units1
  obtain ⟨x_self, x_cell, x_moment, rfl, h⟩ := h
  refine ⟨_, PSs.nox (pss_cons (ps_expr (pe_c (call_g (G_check_cell T) (hr.mono (by decide)) pass0) (kp_check_cell T) rfl (g_check_cell T) (pa_cons (pv 1) pa_nil)))
    (pss_cons (ps_set (i := 3) sc_History_version.nd rfl (by first | exact Or.inl rfl | exact Or.inr rfl) (pe_pr (pv 0) (c_History T) (p_History_moment T) (G_History_moment T) (hr.mono (by decide)) pass0))
    (pss_cons (ps_if (pt_cmp (pc_notN (pv 2))) (pss_cons (ps_expr (pe_c (call_g (G_check_moment T) (hr.mono (by decide)) pass0) (kp_check_moment T) rfl (g_check_moment T) (pa_cons (pv 2) (pa_cons (pv 3) pa_nil))))
    (pss_one (ps_set (i := 3) sc_History_version.nd rfl (by first | exact Or.inl rfl | exact Or.inr rfl) (pv 2)))) pss_nil)
    (pss_cons (ps_for PassesOwn.never rfl (pi_range3 rfl (z_range T) (pa_cons (pv 3) (pa_cons pe_int (pa_cons (pe_un un_neg pe_int) pa_nil)))) (pg_name (i := 4) sc_History_version.nd rfl (by first | exact Or.inl rfl | exact Or.inr rfl))
    (pss_one (ps_if (pt_val (pe_c (call_g (G__touched T) (hr.mono (by decide)) pass0) (kp__touched T) rfl (g__touched T) (pa_cons (pe_ix ix_tup (pe_fld (pv 0) rfl) (pe_op (op_sub) (pv 4) pe_int) (fun _ _ => rfl)) (pa_cons (pv 1) pa_nil)))) (pss_one (ps_ret (pv 4))) pss_nil)))
    (pss_one (ps_ret pe_int)))))), ?_⟩
  walk_at "vc"
  obtain ⟨S, es, c, n, hh, rfl, hz, hn, hl, q⟩ := h
  obtain ⟨a, dx, t, xs, rfl, na, e, nt, et, d⟩ := id hh
  refine ⟨_, rfl, _, rfl, _, rfl, ⟨_, _, e⟩, _, rfl, S, es, hh, ?_⟩
  have stp : ∀ i : Nat, i < n → ∃ v p, es[n - (i + 1)]? = some p ∧ xs[n - (i + 1)]? = some v ∧ De S H v p := fun i hi => by
    have h1 : n - (i + 1) < es.length := by omega
    obtain ⟨v, hv, dv⟩ := d.at (List.getElem?_eq_getElem h1)
    exact ⟨v, _, List.getElem?_eq_getElem h1, hv, dv⟩
  rcases hz with ⟨rfl, rfl⟩ | rfl
  · rw [decide_eq_true rfl]
    simp only [Bool.not_true, Bool.false_eq_true, if_false]
    refine tFor_it H (walk_rangeC (lo := (es.length : Int)) (c := -1) (n := es.length)) (fun i σ H' => (∃ u, σ = [some (.ref a), some (.int c), some .non, some (.int es.length), u]) ∧ H' = H ∧ ver es c es.length = ver es c (es.length - i)) (fun R hR => ?_) ⟨⟨_, rfl⟩, rfl, rfl⟩ (fun _ _ _ _ _ => trivial) ?_ ?_
    · walk_at "vc"
      refine ⟨_, _, _, ⟨rfl, rfl, rfl⟩, es.length, ?_, hR⟩
      have z := RgC.neg (i := (es.length : Int)) (j := 0) (by omega) (by omega) (by omega) (by omega)
      rw [show ((es.length : Int) - 0).toNat = es.length by omega] at z
      exact z
    · rintro i x σ H1 H2 hi ⟨⟨u, rfl⟩, rfl, hv⟩ ⟨rfl, rfl⟩
      walk_at "vc"
      obtain ⟨v, p, hp, hx, dv⟩ := stp i hi
      refine ⟨_, _, _, e, c_History T, n_History__edits T, _, rfl, ixT et (n := es.length - (i + 1)) (by omega) hx ?_⟩
      refine ⟨_, _, rfl, S, p, c, dv, rfl, _, rfl, ?_⟩
      have en : es.length - i = es.length - (i + 1) + 1 := by omega
      have ev : ver es c (es.length - i) = if tch p c = true then es.length - (i + 1) + 1 else ver es c (es.length - (i + 1)) := by
        rw [en]
        show (if (es[es.length - (i + 1)]?.any fun p => tch p c) = true then _ else _) = _
        rw [hp]
        rfl
      split
      · rename_i ht
        rw [ht, if_pos rfl] at ev
        rw [hv, ev] at q
        have e3 : ((es.length : Nat) : Int) + ((i : Nat) : Int) * -1 = ((es.length - (i + 1) + 1 : Nat) : Int) := by omega
        rw [e3]
        exact q
      · rename_i ht
        rw [if_neg ht] at ev
        exact ⟨⟨_, rfl⟩, rfl, hv.trans ev⟩
    · rintro σ H1 ⟨⟨u, rfl⟩, rfl, hv⟩
      walk_at "vc"
      rw [Nat.sub_self] at hv
      rw [hv] at q
      exact q
  · rw [decide_eq_false (by simp)]
    simp only [Bool.not_false, if_true]
    refine ⟨_, _, rfl, _, _, rfl, rfl, by omega, by omega, ?_⟩
    refine tFor_it H (walk_rangeC (lo := (n : Int)) (c := -1) (n := n)) (fun i σ H' => (∃ u, σ = [some (.ref a), some (.int c), some (.int n), some (.int n), u]) ∧ H' = H ∧ ver es c n = ver es c (n - i)) (fun R hR => ?_) ⟨⟨_, rfl⟩, rfl, rfl⟩ (fun _ _ _ _ _ => trivial) ?_ ?_
    · walk_at "vc"
      refine ⟨_, _, _, ⟨rfl, rfl, rfl⟩, n, ?_, hR⟩
      have z := RgC.neg (i := (n : Int)) (j := 0) (by omega) (by omega) (by omega) (by omega)
      rw [show ((n : Int) - 0).toNat = n by omega] at z
      exact z
    · rintro i x σ H1 H2 hi ⟨⟨u, rfl⟩, rfl, hv⟩ ⟨rfl, rfl⟩
      walk_at "vc"
      obtain ⟨v, p, hp, hx, dv⟩ := stp i hi
      refine ⟨_, _, _, e, c_History T, n_History__edits T, _, rfl, ixT et (n := n - (i + 1)) (by omega) hx ?_⟩
      refine ⟨_, _, rfl, S, p, c, dv, rfl, _, rfl, ?_⟩
      have en : n - i = n - (i + 1) + 1 := by omega
      have ev : ver es c (n - i) = if tch p c = true then n - (i + 1) + 1 else ver es c (n - (i + 1)) := by
        rw [en]
        show (if (es[n - (i + 1)]?.any fun p => tch p c) = true then _ else _) = _
        rw [hp]
        rfl
      split
      · rename_i ht
        rw [ht, if_pos rfl] at ev
        rw [hv, ev] at q
        have e3 : ((n : Nat) : Int) + ((i : Nat) : Int) * -1 = ((n - (i + 1) + 1 : Nat) : Int) := by omega
        rw [e3]
        exact q
      · rename_i ht
        rw [if_neg ht] at ev
        exact ⟨⟨_, rfl⟩, rfl, hv.trans ev⟩
    · rintro σ H1 ⟨⟨u, rfl⟩, rfl, hv⟩
      walk_at "vc"
      rw [Nat.sub_self] at hv
      rw [hv] at q
      exact q
theorem G_History_version_dfl (T : Tx K mg) (j : Nat) (hj : j ≤ 1) : FnG P w K mg base CX0 7 (ma K (ga K "History") "version") (fun vs H Q E => (P_History_version K) (vs ++ ([(He.Dv.v K (.non))] : List V).drop j) H Q E) := by
  obtain ⟨fd, F⟩ := F_History_version T
  have hb : ∃ ds, Vals (([(He.Dv.v K (.non))] : List V).drop j) ds ∧ L2.Binds K fd ["self", "cell", "moment"] ds := by
    match j, hj with
    | 0, _ => exact (F.binds1 (ps := ["self", "cell", "moment"]) 2 0 (List.cons_ne_nil _ _) rfl fun _ _ _ _ _ _ _ us its hl hi => match us, its, hl, hi with | [_, _], [_], _, _ => ⟨_, rfl, rfl⟩)
    | 1, _ => exact (F.binds1 (ps := ["self", "cell", "moment"]) 3 1 (List.cons_ne_nil _ _) rfl fun _ _ _ _ _ _ _ us its hl hi => match us, its, hl, hi with | [_, _, _], [_], _, _ => ⟨_, rfl, rfl⟩)
    | (n + 2), h => exact absurd h (by omega)
  obtain ⟨ds, hd, b⟩ := hb
  exact fnG_of F sc_History_version b hd sp3_len (B_History_version T)
theorem G_History_version_1 (T : Tx K mg) : FnG P w K mg base CX0 7 (ma K (ga K "History") "version") (fun vs H Q E => (P_History_version K) (vs ++ ([He.Dv.v K (.non)] : List V)) H Q E) := G_History_version_dfl T 0 (by decide)
theorem G_History_version (T : Tx K mg) : FnG P w K mg base CX0 7 (ma K (ga K "History") "version") (P_History_version K) := (G_History_version_dfl T 1 (by decide)).imp fun vs H Q E h => by rw [show List.drop 1 ([(He.Dv.v K (.non))] : List V) = [] from rfl, List.append_nil]; exact h
theorem G_History_version_w1_cell_moment (T : Tx K mg) : FnW P w K mg base CX0 7 (ma K (ga K "History") "version") 1 ["cell", "moment"] (fun us zs => (us[0]?).toList ++ (zs[0]?).toList ++ (zs[1]?).toList) (P_History_version K) := by
  obtain ⟨fd, F⟩ := F_History_version T
  obtain ⟨its, b⟩ := F.kbindsD (ps := ["self", "cell", "moment"]) 1 ["cell", "moment"] (fun us its zs => (us[0]?).toList ++ (zs[0]?).toList ++ (zs[1]?).toList) (List.cons_ne_nil _ _) (fun r1 r3 r2 => (((((vals_q 0 r1)).append (vals_q 0 r2))).append (vals_q 1 r2))) (fun _ _ _ _ _ _ _ us its ws l1 l2 l3 => match us, its, ws, l1, l2, l3 with | [_], [_], [_, _], _, _, _ => ⟨_, rfl, rfl⟩)
  exact fnW_of F sc_History_version b sp3_len (B_History_version T)
theorem sc_History_versions : FnScope ["self", "cell", "edits", "number", "stretch"] ["self", "cell"] (defScope s_History_versions) := ⟨rfl, rfl, rfl, by decide +kernel, rfl, by decide +kernel, by decide +kernel⟩
theorem B_History_versions (T : Tx K mg) : BodyG CX0 P w K mg base ["self", "cell", "edits", "number", "stretch"] "History.versions" (defScope s_History_versions) (defBody s_History_versions) 4 (ma K (ga K "History") "versions") (P_History_versions K) := by
  intro cdv A outer s H vs Q E hr h
  have hu := hr.units
  have hu1 := hr.units1
  obtain ⟨x_self, x_cell, rfl, h⟩ := h
  refine ⟨_, PSs.nox (pss_cons (ps_expr (pe_c (call_g (G_check_cell T) (hr.mono (by decide)) pass0) (kp_check_cell T) rfl (g_check_cell T) (pa_cons (pv 1) pa_nil)))
    (pss_cons (ps_setLc (i := 2) rfl sc_History_versions.nd rfl rfl (sw_true rfl rfl rfl (by decide +kernel)) (pi_enumK rfl (z_enumerate T) (pa_cons (pe_fld (pv 0) rfl) pa_nil) (pk_cons pe_int pk_nil)) (blkOk_by (N := ["self", "cell", "edits", "number", "stretch"]) (sc := defScope s_History_versions) (own := [("number", 3), ("stretch", 4)]) (by decide +kernel)) (fun _ _ _ _ _ => (pg_tupK (K := K) (n := 2) rfl rfl (pgs_cons (pg_name (i := 3) sc_History_versions.nd rfl (by first | exact Or.inl rfl | exact Or.inr rfl)) (pgs_cons (pg_name (i := 4) sc_History_versions.nd rfl (by first | exact Or.inl rfl | exact Or.inr rfl)) pgs_nil)))) (fun _ _ _ _ _ => (pts_one (pt_val (pe_c (call_g (G__touched T) (hr.mono (by decide)) pass0) (kp__touched T) rfl (g__touched T) (pa_cons (pv 4) (pa_cons (pv 1) pa_nil)))))) (fun _ _ _ _ _ => (pv 3)))
    (pss_one (ps_ret (pe_lst (pa_cons pe_int (pa_star (pv 2) pa_nil))))))), ?_⟩
  walk_at "vc"
  obtain ⟨S, es, c, oS, hh, rfl, hl, q⟩ := h
  obtain ⟨a, dx, t, xs, rfl, na, e, nt, et, d⟩ := id hh
  have hlt : ∀ i, (tchs es c i).length ≤ i := fun i => by
    induction i with
    | zero => exact Nat.le_refl _
    | succ i ih =>
      show (tchs es c i ++ _).length ≤ _
      rw [List.length_append]
      have : (if (es[i]?.any fun p => tch p c) = true then [((i : Nat) : Int) + 1] else []).length ≤ 1 := by split <;> simp
      omega
  refine ⟨_, rfl, _, rfl, ?_⟩
  refine tLc_d H S [] (fun i => tchs es c i) (walk_enumT (K := K) (a := t) (k := 1) (xs := xs)) (fun R hR => ?_) rfl (fun D i H' p' => p'.seqT subNil' et) ?_ ?_
  · walk_at "vc"
    exact ⟨_, _, _, e, c_History T, n_History__edits T, _, rfl, _, rfl, by decide, by decide, ⟨_, SqT.of et⟩, hR⟩
  · rintro D i x H1 H2 hi pp ⟨T, x1, y1, rfl, hT, rfl, h1, h2⟩
    walk_at "vc"
    obtain ⟨r, hr, dr⟩ := d.of h2
    cases h1
    refine ⟨_, SqT.of upd_same, rfl, _, _, rfl, _, _, rfl, rfl, _, _, ⟨rfl, rfl⟩, _, r, (pp.keep subNil dr).keep (.new hT), _, rfl, ?_⟩
    have er : tchs es c (i + 1) = tchs es c i ++ (if tch r c = true then [((i : Nat) : Int) + 1] else []) := by
      show tchs es c i ++ (if (es[i]?.any fun p => tch p c) = true then _ else _) = _
      rw [hr]
      rfl
    split
    · rename_i ht
      rw [if_pos ht] at er
      refine pp.put (.new hT) Old.nil subNil (v := ((i : Nat) : Int) + 1) ?_ er ?_
      · rw [show (1 : Int) + ((i : Nat) : Int) = ((i : Nat) : Int) + 1 by omega]
        exact Dx.int _
      · have := hlt i
        have := d.len
        have := sizeLine_eq
        omega
    · rename_i ht
      rw [if_neg ht, List.append_nil] at er
      exact pp.skip (.new hT) Old.nil subNil er
  · intro D H1 pp
    obtain ⟨k, dv⟩ := pp.done oS
    obtain ⟨b, ys, e1, nb, eb, db⟩ := dv.ls
    cases e1
    have hly := db.len
    have hlt2 := hlt xs.length
    have hx := d.len
    have hsz := sizeLine_eq
    refine ⟨_, rfl, _, .inr (SqL.of eb), by rw [List.append_nil]; omega, fun p hp => ?_⟩
    rw [List.append_nil]
    rw [hx] at db
    refine q _ _ (k.trans (.new hp)) (k.free subNil' hp) ?_
    rw [upd_same, db.intsV]
    rfl
theorem G_History_versions (T : Tx K mg) : FnG P w K mg base CX0 5 (ma K (ga K "History") "versions") (P_History_versions K) := by
  obtain ⟨fd, F⟩ := F_History_versions T
  have b : L2.Binds K fd ["self", "cell"] [] := F.bindsN fun _ _ _ _ _ _ us hl => match us, hl with | [_, _], _ => rfl
  exact fnG_pl F sc_History_versions b sp2_len (B_History_versions T)
theorem G_History_versions_w1_cell (T : Tx K mg) : FnW P w K mg base CX0 5 (ma K (ga K "History") "versions") 1 ["cell"] (fun us zs => (us[0]?).toList ++ (zs[0]?).toList) (P_History_versions K) := by
  obtain ⟨fd, F⟩ := F_History_versions T
  have b := kbn_plain (ps := ["self", "cell"]) (n := 1) (ks := ["cell"]) (fun us zs => (us[0]?).toList ++ (zs[0]?).toList) F (fun r1 r2 => (vals_q 0 r1).append (vals_q 0 r2)) (fun _ _ _ _ _ _ us ws l1 l2 => match us, ws, l1, l2 with | [_], [_], _, _ => rfl)
  exact fnW_of F sc_History_versions b sp2_len (B_History_versions T)
theorem sc_History_stands : FnScope ["self", "cell", "version", "known", "later", "number", "end"] ["self", "cell", "version"] (defScope s_History_stands) := ⟨rfl, rfl, rfl, by decide +kernel, rfl, by decide +kernel, by decide +kernel⟩
theorem B_History_stands (T : Tx K mg) : BodyG CX0 P w K mg base ["self", "cell", "version", "known", "later", "number", "end"] "History.stands" (defScope s_History_stands) (defBody s_History_stands) 6 (ma K (ga K "History") "stands") (P_History_stands K) := by
  intro cdv A outer s H vs Q E hr h
  have hu := hr.units
  have hu1 := hr.units1
  obtain ⟨x_self, x_cell, x_version, rfl, h⟩ := h
  refine ⟨_, PSs.nox (pss_cons (ps_set (i := 3) sc_History_stands.nd rfl (by first | exact Or.inl rfl | exact Or.inr rfl) (pe_m (call_g (G_History_versions T) (hr.mono (by decide)) pass0) (pv 0) (c_History T) (m_History_versions T) (pa_cons (pv 1) pa_nil)))
    (pss_cons (ps_if (PW.pt (pw_or (pt_not (pt_val (pe_c (call_g (G_is_integer T) (hr.mono (by decide)) pass0) (kp_is_integer T) rfl (g_is_integer T) (pa_cons (pv 2) pa_nil)))) (pw_or1 (pt_cmpR ((op_notInD hu1)) (pv 2) (pv 3) (by rfl))))) (pss_one ps_never) pss_nil)
    (pss_cons (ps_setLc (i := 4) rfl sc_History_stands.nd rfl rfl (sw_true rfl rfl rfl (by decide +kernel)) (pi_list (pv 3)) (blkOk_by (N := ["self", "cell", "version", "known", "later", "number", "end"]) (sc := defScope s_History_stands) (own := [("number", 5)]) (by decide +kernel)) (fun _ _ _ _ _ => (pg_name (i := 5) sc_History_stands.nd rfl (by first | exact Or.inl rfl | exact Or.inr rfl))) (fun _ _ _ _ _ => (pts_one (pt_cmpR (op_gt) (pv 5) (pv 2) (nomark _)))) (fun _ _ _ _ _ => (pv 5)))
    (pss_cons (ps_set (i := 6) sc_History_stands.nd rfl (by first | exact Or.inl rfl | exact Or.inr rfl) (pe_ifExp (pt_truth (pv 4) (by intro _; rfl)) (pe_ix ix_list (pv 4) pe_int (fun _ _ => rfl)) (pe_op (op_add) (pe_pr (pv 0) (c_History T) (p_History_moment T) (G_History_moment T) (hr.mono (by decide)) pass0) pe_int)))
    (pss_one (ps_ret (pe_tup (pa_cons (pv 2) (pa_cons (pv 6) pa_nil))))))))), ?_⟩
  walk_at "vc"
  obtain ⟨S, es, c, v, oS, hh, rfl, rfl, hv, hl, q⟩ := h
  obtain ⟨a, dx, t, xs, rfl, na, e, nt, et, d⟩ := id hh
  refine ⟨_, rfl, _, _, e, rfl, _, _, rfl, S, es, c, oS, hh, rfl, hl, fun w0 H1 k1 hw ew => ?_⟩
  have dw : De S H1 (.ref w0) (vers es c) := De.mkLs (oS.no hw) ew (DxA.ints _)
  refine ⟨_, rfl, [], _, .int v, _, rfl, ?_⟩
  simp only [isIntD, Bool.not_true, Bool.false_eq_true, if_false]
  refine rNotInD_of (S := []) (a := v) (Dx.int v) dw (by decide) ⟨_, rfl, ?_⟩
  rw [decide_eq_true hv]
  simp only [Bool.not_true, Bool.false_eq_true, if_false]
  have oS1 := oS.keep0 k1
  obtain ⟨b, ys, e0, nb, eb, db⟩ := dw.ls
  cases e0
  refine tLc_d H1 S [] (fun i => ((vers es c).take i).filter fun n => decide (v < n)) (walk_list (xs := ys)) (fun R hR => ⟨_, rfl, _, rfl, ⟨_, SqL.of eb⟩, hR⟩) rfl (fun D i H' p' => p'.seqL subNil' eb) ?_ ?_
  · rintro D i x H2 _ hi pp ⟨rfl, hx⟩
    walk_at "vc"
    obtain ⟨r, hr, dr⟩ := db.of hx
    have er := dr.int
    subst er
    refine ⟨_, rfl, ?_⟩
    have hvl : (vers es c).length ≤ es.length + 1 := by
      have : ∀ i, (tchs es c i).length ≤ i := fun i => by
        induction i with
        | zero => exact Nat.le_refl _
        | succ i ih =>
          show (tchs es c i ++ _).length ≤ _
          rw [List.length_append]
          have : (if (es[i]?.any fun p => tch p c) = true then [((i : Nat) : Int) + 1] else []).length ≤ 1 := by split <;> simp
          omega
      have := this es.length
      show (0 :: tchs es c es.length).length ≤ _
      rw [List.length_cons]
      omega
    split
    · rename_i ht
      refine pp.put .refl Old.nil subNil (v := r) (Dx.int r) ?_ ?_
      · show List.filter _ ((vers es c).take (i + 1)) = _
        rw [take_snoc hr, List.filter_append, List.filter_cons, if_pos ht]
        rfl
      · have h1 := List.length_filter_le (fun n => decide (v < n)) ((vers es c).take i)
        rw [List.length_take] at h1
        have := sizeLine_eq
        show (List.filter _ _).length < _
        omega
    · rename_i ht
      refine pp.skip .refl Old.nil subNil ?_
      show List.filter _ ((vers es c).take (i + 1)) = _
      rw [take_snoc hr, List.filter_append, List.filter_cons, if_neg ht]
      exact List.append_nil _
  · intro D H2 pp
    obtain ⟨k2, dv⟩ := pp.done oS1
    obtain ⟨b2, zs, e1, nb2, eb2, db2⟩ := dv.ls
    cases e1
    rw [db.len, List.take_length] at db2
    have ez := db2.intsV
    refine ⟨_, .inl ⟨zs, SqL.of eb2, rfl⟩, ?_⟩
    have hh2 := (hh.keep0 k1).keep0 k2
    have e2 := (k1.trans k2) _ _ subNil' e
    cases hf : (vers es c).filter fun n => decide (v < n) with
    | nil =>
      rw [hf] at ez
      subst ez
      simp only [List.map_nil, List.isEmpty_nil, Bool.not_true, Bool.false_eq_true, if_false]
      refine ⟨_, rfl, ⟨_, _, e2⟩, _, rfl, S, es, hh2, _, rfl, by decide, fun p hp => q _ _ ((k1.trans k2).trans (.new hp)) ?_⟩
      have es2 : stop (vers es c) v (es.length + 1) = es.length + 1 := by unfold stop; rw [hf]
      rw [es2]
      exact De.mk2 (((oS1.keep0 k2)).no hp) upd_same
    | cons n r =>
      rw [hf] at ez
      subst ez
      simp only [List.map_cons, List.isEmpty_cons, Bool.not_false, if_true]
      refine ixL eb2 (n := 0) rfl rfl ⟨by decide, fun p hp => q _ _ ((k1.trans k2).trans (.new hp)) ?_⟩
      have es2 : stop (vers es c) v (es.length + 1) = n := by unfold stop; rw [hf]
      rw [es2]
      exact De.mk2 (((oS1.keep0 k2)).no hp) upd_same
theorem G_History_stands (T : Tx K mg) : FnG P w K mg base CX0 7 (ma K (ga K "History") "stands") (P_History_stands K) := by
  obtain ⟨fd, F⟩ := F_History_stands T
  have b : L2.Binds K fd ["self", "cell", "version"] [] := F.bindsN fun _ _ _ _ _ _ us hl => match us, hl with | [_, _, _], _ => rfl
  exact fnG_pl F sc_History_stands b sp3_len (B_History_stands T)
theorem sc_History_eq : FnScope ["self", "other"] ["self", "other"] (defScope s_History_eq) := ⟨rfl, rfl, rfl, by decide +kernel, rfl, by decide +kernel, by decide +kernel⟩
theorem B_History_eq (T : Tx K mg) : BodyG CX0 P w K mg base ["self", "other"] "History.__eq__" (defScope s_History_eq) (defBody s_History_eq) 0 (ma K (ga K "History") "__eq__") (P_History_eq K) := by
  intro cdv A outer s H vs Q E hr h
  have hu := hr.units
  have hu1 := hr.units1
  obtain ⟨x_self, x_other, rfl, h⟩ := h
  refine ⟨_, PSs.nox (pss_one (ps_ret (pe_and (pe_callB (call_isi) (by rfl) (z_isinstance T) PyProof.Rows.boot_isinstance (pa_cons (pv 1) (pa_cons (pe_glob (v := .ref (ga K "History")) rfl (g_History T) rfl) pa_nil))) (pe_one (pe_cmpR (op_eqD hu) (pe_fld (pv 0) rfl) (pe_fld (pv 1) rfl) (nomark _)))))), ?_⟩
  walk_at "vc"
  obtain ⟨S, es, hh, h⟩ := h
  obtain ⟨a, dx, t, xs, rfl, na, e, nt, et, d⟩ := hh
  rcases h with ⟨S', es', hh', q⟩ | ⟨S', dd, hd, hk, q⟩
  case inr => exact ⟨_, _, _, _, false, rfl, .own _, .base hd.tyOf, hk, _, rfl, q⟩
  obtain ⟨a', dx', t', xs', rfl, na', e', nt', et', d'⟩ := hh'
  refine ⟨_, _, _, _, true, rfl, .own _, (ty_History T).ty e', (ty_History T).self, ?_⟩
  refine ⟨_, rfl, ?_⟩
  rw [if_pos rfl]
  refine ⟨_, rfl, _, _, _, e, c_History T, n_History__edits T, _, rfl, _, rfl, _, _, _, e', c_History T, n_History__edits T, _, rfl, ?_⟩
  refine rEqD_of (De.mkTu nt et d) (De.mkTu nt' et' d') (by decide) ?_
  rw [show decide (Tu.mk es = Tu.mk es') = decide (es = es') from decide_eq_decide.mpr (by rw [Tu.mk.injEq])]
  exact q
theorem G_History_eq (T : Tx K mg) : FnG P w K mg base CX0 1 (ma K (ga K "History") "__eq__") (P_History_eq K) := by
  obtain ⟨fd, F⟩ := F_History_eq T
  have b : L2.Binds K fd ["self", "other"] [] := F.bindsN fun _ _ _ _ _ _ us hl => match us, hl with | [_, _], _ => rfl
  exact fnG_pl F sc_History_eq b sp2_len (B_History_eq T)
theorem sc_History_repr : FnScope ["self"] ["self"] (defScope s_History_repr) := ⟨rfl, rfl, rfl, by decide +kernel, rfl, by decide +kernel, by decide +kernel⟩
theorem B_History_repr (T : Tx K mg) : BodyG CX0 P w K mg base ["self"] "History.__repr__" (defScope s_History_repr) (defBody s_History_repr) 2 (ma K (ga K "History") "__repr__") (P_History_repr K) := by
  intro cdv A outer s H vs Q E hr h
  have hu := hr.units
  have hu1 := hr.units1
  obtain ⟨x_self, rfl, h⟩ := h
  refine ⟨_, PSs.nox (pss_one (ps_ret (pe_joined (PJ.cons pe_str (PJ.cons (pe_fmt (pe_c (call_g (G__listed T) (hr.mono (by decide)) pass0) (kp__listed T) rfl (g__listed T) (pa_cons (pe_fld (pv 0) rfl) pa_nil))) (PJ.cons pe_str PJ.nil)))))), ?_⟩
  obtain ⟨S, es, oS, hh, hz, hb, q⟩ := h
  obtain ⟨a, dx, t, xs, rfl, na, e, nt, et, d⟩ := id hh
  simp only [tJs, tFmt]
  walk_at "vc"
  have hl := listed_len hb hz
  have l1 : (Str.empty ++ Str.ofString "History(").length = 8 := by decide +kernel
  have l2 : (Str.ofString ")").length = 1 := by decide +kernel
  have hsz := sizeLine_eq
  refine ⟨by rw [l1]; omega, _, _, _, e, c_History T, n_History__edits T, _, rfl, _, rfl, S, es, oS, De.mkTu nt et d, hz, hb, fun H' k => .inl ⟨_, rfl, by omega, ?_, ?_, q _ k⟩⟩
  · rw [strLen_append, l1]; omega
  · rw [strLen_append, strLen_append, l1, l2]; omega
theorem G_History_repr (T : Tx K mg) : FnG P w K mg base CX0 3 (ma K (ga K "History") "__repr__") (P_History_repr K) := by
  obtain ⟨fd, F⟩ := F_History_repr T
  have b : L2.Binds K fd ["self"] [] := F.bindsN fun _ _ _ _ _ _ us hl => match us, hl with | [_], _ => rfl
  exact fnG_pl F sc_History_repr b sp1_len (B_History_repr T)
theorem sc_History_len : FnScope ["self"] ["self"] (defScope s_History_len) := ⟨rfl, rfl, rfl, by decide +kernel, rfl, by decide +kernel, by decide +kernel⟩
theorem B_History_len (T : Tx K mg) : BodyG CX0 P w K mg base ["self"] "History.__len__" (defScope s_History_len) (defBody s_History_len) 0 (ma K (ga K "History") "__len__") (P_History_len K) := by
  intro cdv A outer s H vs Q E hr h
  have hu := hr.units
  have hu1 := hr.units1
  obtain ⟨x_self, rfl, h⟩ := h
  refine ⟨_, PSs.nox (pss_one (ps_ret (pe_callB (call_len_seq) (by rfl) (z_len T) PySem.boot_len (pa_cons (pe_fld (pv 0) rfl) pa_nil)))), ?_⟩
  walk_at "vc"
  obtain ⟨S, es, ⟨a, dx, t, xs, rfl, n, e, nt, et, d⟩, q⟩ := h
  refine ⟨_, rfl, _, _, _, e, c_History T, n_History__edits T, _, rfl, _, rfl, _, .inr (SqT.of et), ?_⟩
  rw [d.len]
  exact q
theorem G_History_len (T : Tx K mg) : FnG P w K mg base CX0 1 (ma K (ga K "History") "__len__") (P_History_len K) := by
  obtain ⟨fd, F⟩ := F_History_len T
  have b : L2.Binds K fd ["self"] [] := F.bindsN fun _ _ _ _ _ _ us hl => match us, hl with | [_], _ => rfl
  exact fnG_pl F sc_History_len b sp1_len (B_History_len T)
theorem sc_History_touches : FnScope ["self", "number", "cell"] ["self", "number", "cell"] (defScope s_History_touches) := ⟨rfl, rfl, rfl, by decide +kernel, rfl, by decide +kernel, by decide +kernel⟩
theorem B_History_touches (T : Tx K mg) : BodyG CX0 P w K mg base ["self", "number", "cell"] "History.touches" (defScope s_History_touches) (defBody s_History_touches) 4 (ma K (ga K "History") "touches") (P_History_touches K) := by
  intro cdv A outer s H vs Q E hr h
  have hu := hr.units
  have hu1 := hr.units1
  obtain ⟨x_self, x_number, x_cell, rfl, h⟩ := h
  refine ⟨_, PSs.nox (pss_cons (ps_expr (pe_c (call_g (G_check_edit T) (hr.mono (by decide)) pass0) (kp_check_edit T) rfl (g_check_edit T) (pa_cons (pv 1) (pa_cons (pe_pr (pv 0) (c_History T) (p_History_moment T) (G_History_moment T) (hr.mono (by decide)) pass0) pa_nil))))
    (pss_cons (ps_expr (pe_c (call_g (G_check_cell T) (hr.mono (by decide)) pass0) (kp_check_cell T) rfl (g_check_cell T) (pa_cons (pv 2) pa_nil)))
    (pss_one (ps_ret (pe_c (call_g (G__touched T) (hr.mono (by decide)) pass0) (kp__touched T) rfl (g__touched T) (pa_cons (pe_ix ix_tup (pe_fld (pv 0) rfl) (pe_op (op_sub) (pv 1) pe_int) (fun _ _ => rfl)) (pa_cons (pv 2) pa_nil))))))), ?_⟩
  walk_at "vc"
  obtain ⟨S, es, c, n, p, hh, rfl, hp, rfl, q⟩ := h
  obtain ⟨a, dx, t, xs, rfl, na, e, nt, et, d⟩ := id hh
  have hl : n < es.length := (List.getElem?_eq_some_iff.mp hp).1
  obtain ⟨v, hv, dv⟩ := d.at hp
  refine ⟨_, rfl, ⟨_, _, e⟩, _, rfl, S, es, hh, _, _, rfl, _, _, rfl, rfl, by omega, by omega, _, rfl, _, rfl, ?_⟩
  refine ⟨_, rfl, _, _, _, e, c_History T, n_History__edits T, _, rfl, _, rfl, ixT et (n := n) (by omega) hv ⟨_, _, rfl, S, p, c, dv, rfl, q⟩⟩
theorem G_History_touches (T : Tx K mg) : FnG P w K mg base CX0 5 (ma K (ga K "History") "touches") (P_History_touches K) := by
  obtain ⟨fd, F⟩ := F_History_touches T
  have b : L2.Binds K fd ["self", "number", "cell"] [] := F.bindsN fun _ _ _ _ _ _ us hl => match us, hl with | [_, _, _], _ => rfl
  exact fnG_pl F sc_History_touches b sp3_len (B_History_touches T)
theorem G_History_touches_w1_cell_number (T : Tx K mg) : FnW P w K mg base CX0 5 (ma K (ga K "History") "touches") 1 ["cell", "number"] (fun us zs => (us[0]?).toList ++ (zs[1]?).toList ++ (zs[0]?).toList) (P_History_touches K) := by
  obtain ⟨fd, F⟩ := F_History_touches T
  have b := kbn_plain (ps := ["self", "number", "cell"]) (n := 1) (ks := ["cell", "number"]) (fun us zs => (us[0]?).toList ++ (zs[1]?).toList ++ (zs[0]?).toList) F (fun r1 r2 => (((((vals_q 0 r1)).append (vals_q 1 r2))).append (vals_q 0 r2))) (fun _ _ _ _ _ _ us ws l1 l2 => match us, ws, l1, l2 with | [_], [_, _], _, _ => rfl)
  exact fnW_of F sc_History_touches b sp3_len (B_History_touches T)
theorem sc_History_of_cells : FnScope ["cls", "cells", "stretches", "cell"] ["cls", "cells"] (defScope s_History_of_cells) := ⟨rfl, rfl, rfl, by decide +kernel, rfl, by decide +kernel, by decide +kernel⟩
theorem B_History_of_cells (T : Tx K mg) : BodyG CX0 P w K mg base ["cls", "cells", "stretches", "cell"] "History.of_cells" (defScope s_History_of_cells) (defBody s_History_of_cells) 6 (He5.wf K (ga K "History") "classmethod" "of_cells") (P_History_of_cells K) := by
  intro cdv A outer s H vs Q E hr h
  have hu := hr.units
  have hu1 := hr.units1
  obtain ⟨x_cls, x_cells, rfl, h⟩ := h
  refine ⟨_, PSs.nox (pss_cons (ps_expr (pe_c (call_g (G_check_cells T) (hr.mono (by decide)) pass0) (kp_check_cells T) rfl (g_check_cells T) (pa_cons (pv 1) pa_nil)))
    (pss_cons (ps_setLc (i := 2) rfl sc_History_of_cells.nd rfl rfl (sw_true rfl rfl rfl (by decide +kernel)) (pi_tup (pv 1)) (blkOk_by (N := ["cls", "cells", "stretches", "cell"]) (sc := defScope s_History_of_cells) (own := [("cell", 3)]) (by decide +kernel)) (fun _ _ _ _ _ => (pg_name (i := 3) sc_History_of_cells.nd rfl (by first | exact Or.inl rfl | exact Or.inr rfl))) (fun _ _ _ _ _ => pts_nil) (fun _ _ _ _ _ => (pe_tup (pa_cons (pv 3) (pa_cons (pv 3) pa_nil)))))
    (pss_one (ps_ret (pe_locS (i := 0) (call_mk (k_History T) (G_History_init T) (hr.mono (by decide)) pass0) (k_History T).kp rfl (by first | exact Or.inl rfl | exact Or.inr (Or.inl rfl)) (pv 2)))))), ?_⟩
  walk_at "vc"
  obtain ⟨S, a, ns, oS, rfl, rfl, ea, hz, q⟩ := h
  refine ⟨_, rfl, _, ns, rfl, SqT.of ea, ?_⟩
  refine tLc_d H S [] (fun i => (ns.take i).map fun c => ((c, c) : Int × Int)) (walk_tup (xs := ns.map V.int)) (fun R hR => ⟨_, rfl, _, rfl, ⟨_, SqT.of ea⟩, hR⟩) rfl (fun D i H' p => p.seqT subNil' ea) ?_ ?_
  · rintro D i x H1 _ hi p ⟨rfl, hx⟩
    rw [List.getElem?_map] at hx
    obtain ⟨c, hc, rfl⟩ := Option.map_eq_some_iff.mp hx
    walk_at "vc"
    refine ⟨by decide, fun t ht => p.put (.new ht) Old.nil subNil (v := ((c, c) : Int × Int)) (De.mk2 ((p.old0 oS).no ht) upd_same) (by rw [take_snoc hc, List.map_append]; rfl) ?_⟩
    have := sizeLine_eq
    rw [List.length_map, List.length_take]
    omega
  · intro D H1 p
    obtain ⟨k, dv⟩ := p.done oS
    rw [List.length_map, List.take_length] at dv
    obtain ⟨b, ys, e, nb, eb, db⟩ := dv.ls
    cases e
    refine ⟨rfl, _, rfl, _, .inr (SqL.of eb), ?_⟩
    rw [show ys ++ [] = ys from List.append_nil _]
    refine mk_History (oS.keep0 k) db (fun p hp => ?_) (by rw [List.length_map]; omega) fun v H2 k2 h2 => q v H2 (k.trans k2) h2
    obtain ⟨c, _, rfl⟩ := List.mem_map.mp hp
    exact Int.le_refl _
theorem G_History_of_cells (T : Tx K mg) : FnG P w K mg base CX0 7 (He5.wf K (ga K "History") "classmethod" "of_cells") (spS 1 (P_History_of_cells K)) := by
  obtain ⟨fd, F⟩ := F_History_of_cells T
  exact fnG_star (sp := P_History_of_cells K) (ps := ["cls"]) (pv := "cells") F sc_History_of_cells StX.cxUp_none (fun b c d e f g => StX.bind_star1 (B := fun us => bindArgs (PySem.W.fnOf "of_cells" "History.of_cells" (defArgs s_History_of_cells) (defBody s_History_of_cells) (defScope s_History_of_cells) .none b c d e f g) ⟨us, []⟩) (fun _ => rfl) (fun _ _ _ => rfl)) (B_History_of_cells T)
theorem Hist.wid {S S' : List Addr} {H : Hp} {v : V} {es : List (Int × Int)} (h : Hist K S H v es) (w : ∀ a, a ∈ S' → a ∈ S ∨ H a = none) : Hist K S' H v es := by
  obtain ⟨a, dx, t, xs, e1, na, e2, nt, e3, d⟩ := h
  have no : ∀ {a : Addr} {o : HO}, a ∉ S → H a = some o → a ∉ S' := fun {a o} n e z => (w a z).elim n fun q => by rw [q] at e; cases e
  exact ⟨a, dx, t, xs, e1, no na e2, e2, no nt e3, e3, DxA.wid w d⟩
def hist (K : Frag) (es : List (Int × Int)) : AV := ⟨fun S H v => Hist K S H v es, fun h k => h.keep k, fun h w => h.wid w⟩
theorem Hist.at {S : List Addr} {H : Hp} {v : V} {es : List (Int × Int)} (h : Hist K S H v es) : ∃ a dx t, v = .ref a ∧ H a = some (.ins (ga K "History") dx [("_edits", .ref t)]) := by
  obtain ⟨a, dx, t, xs, rfl, na, e, nt, et, d⟩ := h
  exact ⟨a, dx, t, rfl, e⟩
end Hd

set_option Elab.async false
set_option linter.all false
set_option maxRecDepth 100000
set_option maxHeartbeats 4000000
namespace Hd
open PySem PySem.Spec PyProof.Rows L2 He Lw StX
open Lw.En (enc)
local macro_rules | `(tactic| walk_at "vc") => `(tactic| simp only [tSeq, tAsg, tRet, tRetN, tDrop, tNext, tIfS, tNever, tVar, tC, tOp, tUn, tTest, tB, tNot, tAnd, tOr, tAndV, tOrV, tNotV, tIf, tChain, tCmp, t2I, tCB, tCons, tNil, tTup, tLst, tMC, tFld, sFld, tPr, gName, wipe, List.foldl_cons, List.foldl_nil, tYes, iTup, iList, iEnum, iEnumT, iEnumK, iRng1, iRng2, iRng3, gNil, gCons, gTup, gUnl, gSub, tPar, rI, rI0, rU, tIsN, tNotN, tSl, tPart, tNoPart, tThen, rMk, tStar, tBM, tM1, tLoc, tCM, tCMW, tMW, tCW,
  assignEach, cxOf, L2.start, List.map_cons, List.map_nil, List.length_cons, List.length_nil, List.replicate, List.cons_append, List.nil_append, List.getElem?_cons_zero, List.getElem?_cons_succ, List.set_cons_zero, List.set_cons_succ, Option.some.injEq, V.int.injEq, V.bl.injEq, V.ref.injEq, V.str.injEq, exists_eq_left', exists_eq_left, exists_eq_right', exists_eq_right, exists_and_left, exists_and_right, true_and, and_true, List.cons.injEq, List.cons_ne_nil, reduceCtorEq, false_and, and_false, exists_false, if_true, if_false, Bool.false_eq_true, Bool.true_eq_false, eq_self, forall_eq, forall_eq', rEq_int, rNe_int, rEq_str, rNe_str])

variable {P : Program} {w : World} {K : Frag} {mg : Str → Option Value} {base : Heap}
theorem tchs_len (es : List (Int × Int)) (c : Int) (i : Nat) : (tchs es c i).length ≤ i := by
  induction i with
  | zero => exact Nat.le_refl _
  | succ i ih =>
    show (tchs es c i ++ _).length ≤ _
    rw [List.length_append]
    have : (if (es[i]?.any fun p => tch p c) = true then [((i : Nat) : Int) + 1] else []).length ≤ 1 := by split <;> simp
    omega
theorem vers_len (es : List (Int × Int)) (c : Int) : (vers es c).length ≤ es.length + 1 := by
  have := tchs_len es c es.length
  show (0 :: tchs es c es.length).length ≤ _
  rw [List.length_cons]
  omega
theorem tchs_app {es : List (Int × Int)} {p : Int × Int} {c : Int} : ∀ {i : Nat}, i ≤ es.length → tchs (es ++ [p]) c i = tchs es c i
  | 0, _ => rfl
  | i + 1, h => by
    show tchs (es ++ [p]) c i ++ _ = tchs es c i ++ _
    rw [tchs_app (by omega), List.getElem?_append_left (by omega)]
theorem ver_app {es : List (Int × Int)} {p : Int × Int} {c : Int} : ∀ {i : Nat}, i ≤ es.length → ver (es ++ [p]) c i = ver es c i
  | 0, _ => rfl
  | i + 1, h => by
    show (if ((es ++ [p])[i]?.any _) = true then _ else _) = (if (es[i]?.any _) = true then _ else _)
    rw [ver_app (by omega), List.getElem?_append_left (by omega)]
theorem vers_snoc (es : List (Int × Int)) (p : Int × Int) (c : Int) : vers (es ++ [p]) c = vers es c ++ (if tch p c = true then [(es.length : Int) + 1] else []) := by
  unfold vers
  rw [List.length_append]
  show 0 :: (tchs (es ++ [p]) c es.length ++ (if ((es ++ [p])[es.length]?.any fun p => tch p c) = true then _ else _)) = _
  rw [tchs_app (Nat.le_refl _), List.getElem?_concat_length]
  rfl
theorem tchs_mem {es : List (Int × Int)} {c : Int} : ∀ {i : Nat} {x : Int}, x ∈ tchs es c i → 1 ≤ x ∧ x ≤ i
  | 0, x, h => absurd h List.not_mem_nil
  | i + 1, x, h => by
    have h : x ∈ tchs es c i ++ (if (es[i]?.any fun p => tch p c) = true then [((i : Nat) : Int) + 1] else []) := h
    rcases List.mem_append.mp h with h | h
    · have := tchs_mem h
      omega
    · split at h
      · rw [List.mem_singleton.mp h]; omega
      · exact absurd h List.not_mem_nil
theorem vers_mem {es : List (Int × Int)} {c x : Int} (h : x ∈ vers es c) : 0 ≤ x ∧ x ≤ es.length := by
  rcases List.mem_cons.mp h with h | h
  · omega
  · have := tchs_mem h
    omega
theorem tchs_up {es : List (Int × Int)} {c : Int} : ∀ i : Nat, (tchs es c i).Pairwise (· < ·)
  | 0 => .nil
  | i + 1 => by
    show (tchs es c i ++ _).Pairwise _
    refine List.pairwise_append.mpr ⟨tchs_up i, by split <;> simp, fun a ha b hb => ?_⟩
    have := tchs_mem ha
    split at hb
    · rw [List.mem_singleton.mp hb]; omega
    · exact absurd hb List.not_mem_nil
theorem vers_up (es : List (Int × Int)) (c : Int) : (vers es c).Pairwise (· < ·) :=
  List.pairwise_cons.mpr ⟨fun x h => by have := tchs_mem h; omega, tchs_up _⟩
theorem vers_last' {es : List (Int × Int)} {c : Int} : ∀ i : Nat, ((0 : Int) :: tchs es c i).getLast? = some ((ver es c i : Nat) : Int)
  | 0 => rfl
  | i + 1 => by
    show ((0 : Int) :: (tchs es c i ++ (if (es[i]?.any fun p => tch p c) = true then [((i : Nat) : Int) + 1] else []))).getLast? = some (((if (es[i]?.any fun p => tch p c) = true then i + 1 else ver es c i) : Nat) : Int)
    split
    · rw [← List.cons_append, List.getLast?_concat]
      rfl
    · rw [List.append_nil]
      exact vers_last' i
theorem vers_last (es : List (Int × Int)) (c : Int) : (vers es c).getLast? = some ((ver es c es.length : Nat) : Int) := vers_last' _
theorem stop_eq (vs : List Int) (v m : Int) : stop vs v m = ((vs.filter fun n => decide (v < n)).head?).getD m := by
  unfold stop
  split
  · rename_i h; rw [h]; rfl
  · rename_i h; rw [h]; rfl
end Hd

set_option Elab.async false
set_option linter.all false
set_option maxRecDepth 100000
set_option maxHeartbeats 4000000
namespace Hd
open PySem PySem.Spec PyProof.Rows L2 He Lw StX
open Lw.En (enc)
local macro_rules | `(tactic| walk_at "vc") => `(tactic| simp only [tSeq, tAsg, tRet, tRetN, tDrop, tNext, tIfS, tNever, tVar, tC, tOp, tUn, tTest, tB, tNot, tAnd, tOr, tAndV, tOrV, tNotV, tIf, tChain, tCmp, t2I, tCB, tCons, tNil, tTup, tLst, tMC, tFld, sFld, tPr, gName, wipe, List.foldl_cons, List.foldl_nil, tYes, iTup, iList, iEnum, iEnumT, iEnumK, iRng1, iRng2, iRng3, gNil, gCons, gTup, gUnl, gSub, tPar, rI, rI0, rU, tIsN, tNotN, tSl, tPart, tNoPart, tThen, rMk, tStar, tBM, tM1, tLoc, tCM, tCMW, tMW, tCW,
  assignEach, cxOf, L2.start, List.map_cons, List.map_nil, List.length_cons, List.length_nil, List.replicate, List.cons_append, List.nil_append, List.getElem?_cons_zero, List.getElem?_cons_succ, List.set_cons_zero, List.set_cons_succ, Option.some.injEq, V.int.injEq, V.bl.injEq, V.ref.injEq, V.str.injEq, exists_eq_left', exists_eq_left, exists_eq_right', exists_eq_right, exists_and_left, exists_and_right, true_and, and_true, List.cons.injEq, List.cons_ne_nil, reduceCtorEq, false_and, and_false, exists_false, if_true, if_false, Bool.false_eq_true, Bool.true_eq_false, eq_self, forall_eq, forall_eq', rEq_int, rNe_int, rEq_str, rNe_str])

variable {P : Program} {w : World} {K : Frag} {mg : Str → Option Value} {base : Heap}
def P__law_pot (K : Frag) : Sp := sp2 fun x y H Q _ => ∃ a, ∃ ns : List Int, ∃ i : Nat, x = .ref a ∧ SqL K H a (ns.map V.int) ∧ y = .int i ∧ i ≤ 4 ∧ ∀ p H', Kp [] H H' → H p = none → PotAt H' p → Q (.ref p) H'
def P__law_draw (_ : Frag) : Sp := sp2 fun x y H Q _ => ∃ p n, x = .ref p ∧ PotAt H p ∧ y = .int n ∧ 1 ≤ n ∧ n < 2 ^ 30 ∧ ∀ r H', Kp [p] H H' → PotAt H' p → 0 ≤ r → r < n → Q (.int r) H'
def P__law_pick (_ : Frag) : Sp := sp2 fun x y H Q _ => ∃ p a, ∃ ns : List Int, x = .ref p ∧ PotAt H p ∧ y = .ref a ∧ a ≠ p ∧ H a = some (.lst (ns.map V.int)) ∧ ns ≠ [] ∧ ns.length < 1000 ∧ ∀ r H', Kp [p] H H' → PotAt H' p → r ∈ ns → Q (.int r) H'
def P__law_base (_ : Frag) : Sp := sp1 fun x H Q _ => ∃ p, x = .ref p ∧ PotAt H p ∧ ∀ r H', Kp [p] H H' → PotAt H' p → r.natAbs < 10 ^ 40 → Q (.int r) H'
def P__law_rows (_ : Frag) : Sp := sp3 fun x y z H Q _ => ∃ S p b, ∃ n : Nat, Old S H ∧ p ∈ S ∧ x = .ref p ∧ PotAt H p ∧ y = .int b ∧ b.natAbs < 10 ^ 40 ∧ z = .int n ∧ n ≤ 10 ∧ ∀ v H' rows, Kp [p] H H' → PotAt H' p → De S H' v rows → rows.length = n → Ords rows → Bds rows → Q v H'
def P__law_past (K : Frag) : Sp := sp1 fun x H Q _ => ∃ S rows, Old S H ∧ De S H x rows ∧ Ords rows ∧ rows.length ≤ 900 ∧ ∀ v H', Kp [] H H' → Hist K S H' v rows → Q v H'
theorem sc__law_pot : FnScope ["_law_script", "_law_k", "_law_here"] ["_law_script", "_law_k"] (defScope s__law_pot) := ⟨rfl, rfl, rfl, by decide +kernel, rfl, by decide +kernel, by decide +kernel⟩
theorem B__law_pot (T : Tx K mg) : BodyG CX0 P w K mg base ["_law_script", "_law_k", "_law_here"] "_law_pot" (defScope s__law_pot) (defBody s__law_pot) 0 (ga K "_law_pot") (P__law_pot K) := by
  intro cdv A outer s H vs Q E hr h
  have hu := hr.units
  have hu1 := hr.units1
  obtain ⟨x_script, x_k, rfl, h⟩ := h
  refine ⟨_, PSs.nox (pss_cons (ps_set (i := 2) sc__law_pot.nd rfl (by first | exact Or.inl rfl | exact Or.inr rfl) (pe_op (op_add) (pe_op (op_mul) pe_int (pv 1)) pe_int))
    (pss_cons (ps_if (pt_cmpR (op_lt) (pv 1) (pe_callB (call_len_seq) (by rfl) (z_len T) PySem.boot_len (pa_cons (pv 0) pa_nil)) (nomark _)) (pss_one (ps_set (i := 2) sc__law_pot.nd rfl (by first | exact Or.inl rfl | exact Or.inr rfl) (pe_callB (call_abs) (by rfl) (z_abs T) PyProof.Rows.boot_abs (pa_cons (pe_ix ix_list (pv 0) (pv 1) (fun _ _ => rfl)) pa_nil)))) pss_nil)
    (pss_one (ps_ret (pe_lst (pa_cons (pe_callB (call_max2 rfl) (by rfl) (z_max T) PyProof.Rows.boot_max (pa_cons pe_int (pa_cons (pe_op (op_sub) (pv 2) (pe_op (op_pow) pe_int pe_int)) pa_nil))) (pa_cons (pe_op (op_add) (pe_op (op_mod) (pe_op (op_mul) (pe_callTy (call_int1) (by rfl) (z_int T) PyProof.Rows.boot_int (pa_cons (pe_op (op_add) (pe_op (op_mod) (pe_callTy (call_int1) (by rfl) (z_int T) PyProof.Rows.boot_int (pa_cons (pv 2) pa_nil)) pe_int) pe_int) pa_nil)) (pe_op (op_pow) (pe_op (op_add) (pe_op (op_mul) pe_int (pv 1)) pe_int) pe_int)) pe_int) pe_int) pa_nil))))))), ?_⟩
  walk_at "vc"
  obtain ⟨a, ns, i, rfl, hq, rfl, hi, q⟩ := h
  refine ⟨_, rfl, .inl (by omega), a, rfl, _, .inl hq, _, rfl, ?_⟩
  rw [List.length_map]
  split
  · rename_i hd
    have hlt : i < ns.length := by simpa using hd
    refine ⟨a, _, _, .int (ns[i]), rfl, rfl, hq, atI_nat (by simp [hlt]), ?_⟩
    generalize ns[i] = z
    refine ⟨_, rfl, ⟨by omega, by omega, by decide⟩, _, _, ⟨rfl, rfl⟩, .inl ⟨by omega, .inl ⟨_, rfl, .inl (by omega), ⟨by omega, by omega, by omega⟩, .inl ?_, by omega, by decide, fun p hp => q p _ (.new hp) hp ⟨_, _, upd_same, ?_, ?_, ?_⟩⟩⟩⟩
    · generalize (if z < 0 then -z else z) = u
      omega
    · split <;> omega
    · have := Int.emod_nonneg (((if z < 0 then -z else z) % 2147483563 + 13) * (2 * (i : Int) + 3) ^ Int.toNat 3) (b := 2147483477) (by omega)
      omega
    · have := Int.emod_lt_of_pos (((if z < 0 then -z else z) % 2147483563 + 13) * (2 * (i : Int) + 3) ^ Int.toNat 3) (b := 2147483477) (by omega)
      omega
  · refine ⟨⟨by omega, by omega, by decide⟩, _, _, ⟨rfl, rfl⟩, .inl ⟨by omega, .inl ⟨_, rfl, .inl (by omega), ⟨by omega, by omega, by omega⟩, .inl ?_, by omega, by decide, fun p hp => q p _ (.new hp) hp ⟨_, _, upd_same, ?_, ?_, ?_⟩⟩⟩⟩
    · omega
    · split <;> omega
    · have := Int.emod_nonneg (((31 * (i : Int) + 11) % 2147483563 + 13) * (2 * (i : Int) + 3) ^ Int.toNat 3) (b := 2147483477) (by omega)
      omega
    · have := Int.emod_lt_of_pos (((31 * (i : Int) + 11) % 2147483563 + 13) * (2 * (i : Int) + 3) ^ Int.toNat 3) (b := 2147483477) (by omega)
      omega
theorem G__law_pot (T : Tx K mg) : FnG P w K mg base CX0 1 (ga K "_law_pot") (P__law_pot K) := by
  obtain ⟨fd, F⟩ := F__law_pot T
  have b : L2.Binds K fd ["_law_script", "_law_k"] [] := F.bindsN fun _ _ _ _ _ _ us hl => match us, hl with | [_, _], _ => rfl
  exact fnG_pl F sc__law_pot b sp2_len (B__law_pot T)
theorem sc__law_draw : FnScope ["_law_pot_here", "_law_many", "_law_digit"] ["_law_pot_here", "_law_many"] (defScope s__law_draw) := ⟨rfl, rfl, rfl, by decide +kernel, rfl, by decide +kernel, by decide +kernel⟩
theorem B__law_draw (T : Tx K mg) : BodyG CX0 P w K mg base ["_law_pot_here", "_law_many", "_law_digit"] "_law_draw" (defScope s__law_draw) (defBody s__law_draw) 0 (ga K "_law_draw") (P__law_draw K) := by
  intro cdv A outer s H vs Q E hr h
  have hu := hr.units
  have hu1 := hr.units1
  obtain ⟨x_pot_here, x_many, rfl, h⟩ := h
  refine ⟨_, PSs.nox (pss_cons (ps_if (pt_cmpR (op_gt) (pe_ix ix_list (pv 0) pe_int (fun _ _ => rfl)) pe_int (nomark _)) (pss_cons (ps_asg (pe_callB (call_divmod) (by rfl) (z_divmod T) PyProof.Rows.boot_divmod (pa_cons (pe_ix ix_list (pv 0) pe_int (fun _ _ => rfl)) (pa_cons (pv 1) pa_nil))) (pg_tupK (K := K) (n := 2) rfl rfl (pgs_cons (pg_sub (pv 0) pe_int set_list) (pgs_cons (pg_name (i := 2) sc__law_draw.nd rfl (by first | exact Or.inl rfl | exact Or.inr rfl)) pgs_nil))))
    (pss_one (ps_ret (pv 2)))) pss_nil)
    (pss_cons (ps_asg (pe_op (op_mod) (pe_callTy (call_int1) (by rfl) (z_int T) PyProof.Rows.boot_int (pa_cons (pe_op (op_add) (pe_op (op_mul) (pe_ix ix_list (pv 0) pe_int (fun _ _ => rfl)) pe_int) pe_int) pa_nil)) pe_int) (pg_sub (pv 0) pe_int set_list))
    (pss_one (ps_ret (pe_op (op_mod) (pe_callTy (call_int1) (by rfl) (z_int T) PyProof.Rows.boot_int (pa_cons (pe_op (op_fdiv) (pe_op (op_mod) (pe_callTy (call_int1) (by rfl) (z_int T) PyProof.Rows.boot_int (pa_cons (pe_op (op_mul) (pe_ix ix_list (pv 0) pe_int (fun _ _ => rfl)) (pe_ix ix_list (pv 0) pe_int (fun _ _ => rfl))) pa_nil)) pe_int) pe_int) pa_nil)) (pv 1)))))), ?_⟩
  walk_at "vc"
  obtain ⟨p, n, rfl, ⟨a, b, e, ha, hb, hb2⟩, rfl, h1, h2, q⟩ := h
  refine ixL e (n := 0) rfl rfl ⟨_, rfl, ?_⟩
  split
  · refine ixL e (n := 0) rfl rfl ⟨_, _, ⟨rfl, rfl⟩, ⟨by omega, by omega⟩, fun t ht => ?_⟩
    have np : p ≠ t := fun z => by rw [← z, e] at ht; cases ht
    have e2 : upd H t (.tup [.int (a / n), .int (a % n)]) p = some (.lst [.int a, .int b]) := by rw [upd_ne np]; exact e
    refine ⟨_, SqT.of upd_same, rfl, _, _, rfl, p, _, 0, 0, rfl, rfl, e2, rfl, _, _, rfl, rfl, ?_⟩
    refine q _ _ (((Kp.new ht).of0).trans (.mut (List.mem_singleton_self p))) ⟨a / n, b, upd_same, ?_, hb, hb2⟩ ?_ ?_
    · exact Int.ediv_nonneg ha (by omega)
    · exact Int.emod_nonneg _ (by omega)
    · exact Int.emod_lt_of_pos _ (by omega)
  · refine ixL e (n := 1) rfl rfl ⟨_, rfl, .inr (by omega), .inl ⟨by omega, ?_⟩⟩
    have d1 := Int.emod_nonneg (b * 39373 + 12011) (b := 2147483587) (by omega)
    have d2 := Int.emod_lt_of_pos (b * 39373 + 12011) (b := 2147483587) (by omega)
    generalize (b * 39373 + 12011) % 2147483587 = c at d1 d2
    refine ⟨p, _, 1, 1, rfl, rfl, e, rfl, ?_⟩
    have e2 : upd H p (.lst ([V.int a, V.int b].set 1 (.int c))) p = some (.lst [.int a, .int c]) := upd_same
    refine ixL e2 (n := 1) rfl rfl (ixL e2 (n := 1) rfl rfl ⟨_, rfl, _, rfl, .inl (by omega), .inl ⟨by omega, ⟨by omega, by omega⟩, .inl ⟨_, rfl, by omega, ?_⟩⟩⟩)
    refine q _ _ (.mut (List.mem_singleton_self p)) ⟨a, c, e2, ha, d1, d2⟩ ?_ ?_
    · exact Int.emod_nonneg _ (by omega)
    · exact Int.emod_lt_of_pos _ (by omega)
theorem G__law_draw (T : Tx K mg) : FnG P w K mg base CX0 1 (ga K "_law_draw") (P__law_draw K) := by
  obtain ⟨fd, F⟩ := F__law_draw T
  have b : L2.Binds K fd ["_law_pot_here", "_law_many"] [] := F.bindsN fun _ _ _ _ _ _ us hl => match us, hl with | [_, _], _ => rfl
  exact fnG_pl F sc__law_draw b sp2_len (B__law_draw T)
theorem sc__law_pick : FnScope ["_law_pot_here", "_law_some"] ["_law_pot_here", "_law_some"] (defScope s__law_pick) := ⟨rfl, rfl, rfl, by decide +kernel, rfl, by decide +kernel, by decide +kernel⟩
theorem B__law_pick (T : Tx K mg) : BodyG CX0 P w K mg base ["_law_pot_here", "_law_some"] "_law_pick" (defScope s__law_pick) (defBody s__law_pick) 2 (ga K "_law_pick") (P__law_pick K) := by
  intro cdv A outer s H vs Q E hr h
  have hu := hr.units
  have hu1 := hr.units1
  obtain ⟨x_pot_here, x_some, rfl, h⟩ := h
  refine ⟨_, PSs.nox (pss_one (ps_ret (pe_ix ix_list (pv 1) (pe_c (call_g (G__law_draw T) (hr.mono (by decide)) pass0) (kp__law_draw T) rfl (g__law_draw T) (pa_cons (pv 0) (pa_cons (pe_callB (call_len_seq) (by rfl) (z_len T) PySem.boot_len (pa_cons (pv 1) pa_nil)) pa_nil))) (fun _ _ => rfl)))), ?_⟩
  walk_at "vc"
  obtain ⟨p, a, ns, rfl, hp, rfl, nap, e, hn, hl, q⟩ := h
  have hlen : 1 ≤ ns.length := by
    cases ns with
    | nil => exact absurd rfl hn
    | cons _ _ => simp
  refine ⟨_, rfl, _, .inl (SqL.of e), ?_⟩
  rw [List.length_map]
  refine ⟨_, _, rfl, p, ns.length, rfl, hp, rfl, by omega, by omega, fun r H' k hp' h0 h1 => ?_⟩
  have e' := k a _ (fun z => nap (List.mem_singleton.mp z)) e
  have hr : r.toNat < ns.length := by omega
  refine ixL e' (n := r.toNat) (by omega) (by rw [List.getElem?_map, List.getElem?_eq_getElem hr]; rfl) (q _ _ k hp' (List.getElem_mem hr))
theorem G__law_pick (T : Tx K mg) : FnG P w K mg base CX0 3 (ga K "_law_pick") (P__law_pick K) := by
  obtain ⟨fd, F⟩ := F__law_pick T
  have b : L2.Binds K fd ["_law_pot_here", "_law_some"] [] := F.bindsN fun _ _ _ _ _ _ us hl => match us, hl with | [_, _], _ => rfl
  exact fnG_pl F sc__law_pick b sp2_len (B__law_pick T)
theorem sc__law_base : FnScope ["_law_pot_here"] ["_law_pot_here"] (defScope s__law_base) := ⟨rfl, rfl, rfl, by decide +kernel, rfl, by decide +kernel, by decide +kernel⟩
theorem B__law_base (T : Tx K mg) : BodyG CX0 P w K mg base ["_law_pot_here"] "_law_base" (defScope s__law_base) (defBody s__law_base) 4 (ga K "_law_base") (P__law_base K) := by
  intro cdv A outer s H vs Q E hr h
  have hu := hr.units
  have hu1 := hr.units1
  obtain ⟨x_pot_here, rfl, h⟩ := h
  refine ⟨_, PSs.nox (pss_one (ps_ret (pe_op (op_sub) (pe_op (op_add) (pe_c (call_g (G__law_pick T) (hr.mono (by decide)) pass0) (kp__law_pick T) rfl (g__law_pick T) (pa_cons (pv 0) (pa_cons (pe_lst (pa_cons pe_int (pa_cons pe_int (pa_cons pe_int (pa_cons (pe_op (op_pow) pe_int pe_int) (pa_cons (pe_un un_neg (pe_op (op_pow) pe_int pe_int)) pa_nil)))))) pa_nil))) (pe_c (call_g (G__law_draw T) (hr.mono (by decide)) pass0) (kp__law_draw T) rfl (g__law_draw T) (pa_cons (pv 0) (pa_cons pe_int pa_nil)))) pe_int))), ?_⟩
  walk_at "vc"
  obtain ⟨p, rfl, hp, q⟩ := h
  have c39 : CPow 10 39 := ⟨by omega, by omega, by decide⟩
  refine ⟨c39, c39, by decide, fun t ht => ?_⟩
  have nt : t ≠ p := fun z => by
    obtain ⟨o, e⟩ := hp.old
    rw [z, e] at ht
    cases ht
  refine ⟨_, _, rfl, p, t, [0, 0, 0, 10 ^ Int.toNat 39, -10 ^ Int.toNat 39], rfl, hp.keep (.new ht) subNil', rfl, nt, upd_same, by simp, by simp, fun r H1 k1 hp1 hr => ?_⟩
  refine ⟨_, _, rfl, p, 7, rfl, hp1, rfl, by omega, by omega, fun u H2 k2 hp2 h0 h7 => ⟨_, rfl, _, rfl, ?_⟩⟩
  refine q _ _ (((Kp.new ht).of0.trans k1).trans k2) hp2 ?_
  have e39 : (10 : Int) ^ Int.toNat 39 = 1000000000000000000000000000000000000000 := by decide +kernel
  rw [e39] at hr
  simp only [List.mem_cons, List.not_mem_nil, or_false] at hr
  omega
theorem G__law_base (T : Tx K mg) : FnG P w K mg base CX0 5 (ga K "_law_base") (P__law_base K) := by
  obtain ⟨fd, F⟩ := F__law_base T
  have b : L2.Binds K fd ["_law_pot_here"] [] := F.bindsN fun _ _ _ _ _ _ us hl => match us, hl with | [_], _ => rfl
  exact fnG_pl F sc__law_base b sp1_len (B__law_base T)
theorem sc__law_rows : FnScope ["_law_pot_here", "_law_base_here", "_law_many", "_law_found", "_law_turn", "_law_first", "_law_last"] ["_law_pot_here", "_law_base_here", "_law_many"] (defScope s__law_rows) := ⟨rfl, rfl, rfl, by decide +kernel, rfl, by decide +kernel, by decide +kernel⟩
theorem B__law_rows (T : Tx K mg) : BodyG CX0 P w K mg base ["_law_pot_here", "_law_base_here", "_law_many", "_law_found", "_law_turn", "_law_first", "_law_last"] "_law_rows" (defScope s__law_rows) (defBody s__law_rows) 4 (ga K "_law_rows") (P__law_rows K) := by
  intro cdv A outer s H vs Q E hr h
  have hu := hr.units
  have hu1 := hr.units1
  obtain ⟨x_pot_here, x_base_here, x_many, rfl, h⟩ := h
  refine ⟨_, PSs.nox (pss_cons (ps_set (i := 3) sc__law_rows.nd rfl (by first | exact Or.inl rfl | exact Or.inr rfl) (pe_lst pa_nil))
    (pss_cons (ps_for PassesOwn.never rfl (pi_range1 rfl (z_range T) (pa_cons (pv 2) pa_nil)) (pg_name (i := 4) sc__law_rows.nd rfl (by first | exact Or.inl rfl | exact Or.inr rfl))
    (pss_cons (ps_set (i := 5) sc__law_rows.nd rfl (by first | exact Or.inl rfl | exact Or.inr rfl) (pe_op (op_sub) (pe_op (op_add) (pv 1) (pe_c (call_g (G__law_draw T) (hr.mono (by decide)) pass0) (kp__law_draw T) rfl (g__law_draw T) (pa_cons (pv 0) (pa_cons pe_int pa_nil)))) pe_int))
    (pss_cons (ps_set (i := 6) sc__law_rows.nd rfl (by first | exact Or.inl rfl | exact Or.inr rfl) (pe_op (op_add) (pv 5) (pe_c (call_g (G__law_pick T) (hr.mono (by decide)) pass0) (kp__law_pick T) rfl (g__law_pick T) (pa_cons (pv 0) (pa_cons (pe_lst (pa_cons pe_int (pa_cons pe_int (pa_cons pe_int (pa_cons pe_int (pa_cons pe_int (pa_cons (pe_op (op_pow) pe_int pe_int) pa_nil))))))) pa_nil)))))
    (pss_cons (ps_if (pt_cmpR (op_eq) (pe_c (call_g (G__law_draw T) (hr.mono (by decide)) pass0) (kp__law_draw T) rfl (g__law_draw T) (pa_cons (pv 0) (pa_cons pe_int pa_nil))) pe_int (nomark _)) (pss_one (ps_set (i := 5) sc__law_rows.nd rfl (by first | exact Or.inl rfl | exact Or.inr rfl) (pe_op (op_sub) (pv 5) (pe_op (op_pow) pe_int pe_int)))) pss_nil)
    (pss_one (ps_expr (pe_bm PySem.F.plainAttrs_list PySem.F.slot_list_append PySem.F.type_list_append mt_append (pv 3) (pa_cons (pe_tup (pa_cons (pv 5) (pa_cons (pv 6) pa_nil))) pa_nil))))))))
    (pss_one (ps_ret (pv 3))))), ?_⟩
  walk_at "vc"
  obtain ⟨S, p, b, n, oS, hpS, rfl, hp, rfl, hb, rfl, hn, q⟩ := h
  refine ⟨by decide, fun f hf => ?_⟩
  have nfS := oS.no hf
  have nfp : f ≠ p := fun z => nfS (z ▸ hpS)
  refine tFor_it (upd H f (.lst [])) (walk_range (lo := 0) (n := n)) (fun i σ H' => (∃ u v w, σ = [some (.ref p), some (.int b), some (.int n), some (.ref f), u, v, w]) ∧ PotAt H' p ∧ Kp [f, p] H H' ∧ ∃ xs, ∃ rows : List (Int × Int), H' f = some (.lst xs) ∧ DeA (f :: S) H' xs rows ∧ rows.length = i ∧ Ords rows ∧ Bds rows)
    (fun R hR => ?_) ⟨⟨_, _, _, rfl⟩, hp.keep (.new hf) subNil', (Kp.new hf).of0, [], [], upd_same, .nil, rfl, (fun _ h => absurd h List.not_mem_nil), (fun _ h => absurd h List.not_mem_nil)⟩ (fun _ _ _ _ _ => trivial) ?_ ?_
  · walk_at "vc"
    exact ⟨by omega, by omega, hR⟩
  · rintro i x σ H1 H2 hi ⟨⟨u, v, w, rfl⟩, hp1, k1, xs, rows, ef, d, hl, ho, hB⟩ ⟨rfl, rfl⟩
    walk_at "vc"
    have npf : f ∉ [p] := fun z => nfp (List.mem_singleton.mp z)
    have k1S : Old (f :: S) H2 := fun s hs => by
      rcases List.mem_cons.mp hs with z | z
      · exact ⟨_, z ▸ ef⟩
      · by_cases zp : s = p
        · rw [zp]; exact hp1.old
        · obtain ⟨o, e⟩ := oS s z
          refine ⟨o, k1 s o (fun q => ?_) e⟩
          rcases List.mem_cons.mp q with q | q
          · exact nfS (q ▸ z)
          · exact zp (List.mem_singleton.mp q)
    refine ⟨_, _, rfl, p, 9, rfl, hp1, rfl, by omega, by omega, fun d1 Ha ka hpa h0 h9 => ⟨_, rfl, ⟨by omega, by omega, by decide⟩, by decide, fun t ht => ?_⟩⟩
    have ntp : t ≠ p := fun z => by
      obtain ⟨o, e⟩ := hpa.old
      rw [z, e] at ht
      cases ht
    refine ⟨_, _, rfl, p, t, [0, 0, 1, 2, 4, 10 ^ Int.toNat 30], rfl, hpa.keep (.new ht) subNil', rfl, ntp, upd_same, by simp, by simp, fun r Hb kb hpb hr => ⟨_, rfl, ?_⟩⟩
    refine ⟨_, _, rfl, p, 12, rfl, hpb, rfl, by omega, by omega, fun d2 Hc kc hpc h0' h12 => ?_⟩
    have kk : Kp [p] H2 Hc := (((ka.trans (.new ht)).trans kb).trans kc)
    have efc := kk f _ npf ef
    have e30 : (10 : Int) ^ Int.toNat 30 = 1000000000000000000000000000000 := by decide +kernel
    rw [e30] at hr ⊢
    simp only [List.mem_cons, List.not_mem_nil, or_false] at hr
    have sub : ∀ a, a ∈ [p] → a ∈ f :: S := fun a z => by rw [List.mem_singleton.mp z]; exact List.mem_cons_of_mem _ hpS
    have fin : ∀ (A B : Int) (t2 : Addr) (z : V), Hc t2 = none → A ≤ B → Sm A → Sm B → rAppend (.ref f) [.ref t2] (upd Hc t2 (.tup [.int A, .int B])) (fun x H1 => (∃ u, some z = u) ∧ PotAt H1 p ∧ Kp [f, p] H H1 ∧ ∃ xs, H1 f = some (.lst xs) ∧ ∃ x, DeA (f :: S) H1 xs x ∧ x.length = i + 1 ∧ Ords x ∧ Bds x) := by
      intro A B t2 z h2 hAB sA sB
      have nt2f : f ≠ t2 := fun q => by rw [← q, efc] at h2; cases h2
      have oc : Old (f :: S) Hc := k1S.keep kk (fun a q => by rw [List.mem_singleton.mp q]; exact hpc.old)
      have nt2 := oc.no h2
      refine ⟨f, xs, _, rfl, rfl, by rw [upd_ne nt2f]; exact efc, by rw [d.len]; have := sizeLine_eq; omega, ⟨_, rfl⟩, ?_, ?_, _, upd_same, rows ++ [(A, B)], ?_, by simp [hl], ?_, ?_⟩
      · exact (hpc.keep (.new h2) subNil').keep (Kp.mut (S := [f]) (List.mem_singleton_self f)) (fun q => nfp (List.mem_singleton.mp q).symm)
      · exact (((k1.trans (kk.mono fun a q => List.mem_cons_of_mem _ q)).trans (.new h2)).trans (.mut (List.mem_cons_self ..)))
      · show DxA (f :: S) _ _ ((rows ++ [(A, B)]).map enc)
        rw [List.map_append]
        refine DxA.append (DxA.keep (((kk.mono sub).trans (.new h2)).trans (.mut (List.mem_cons_self ..))) d) (.cons ?_ .nil)
        exact Dx.keep (.mut (List.mem_cons_self ..)) (De.mk2 nt2 upd_same)
      · intro q hq
        rcases List.mem_append.mp hq with w | w
        · exact ho q w
        · rw [List.mem_singleton.mp w]; exact hAB
      · intro q hq
        rcases List.mem_append.mp hq with w | w
        · exact hB q w
        · rw [List.mem_singleton.mp w]; exact ⟨sA, sB⟩
    have sm : ∀ z : Int, z.natAbs < 10 ^ 45 → Sm z := fun z hz => Nat.lt_trans hz (by decide +kernel)
    refine rEq_int.mpr ⟨_, rfl, ?_⟩
    split
    · exact ⟨⟨by omega, by omega, by decide⟩, (.inl ⟨rfl, _, SqL.of efc⟩), by decide, fun t2 h2 => fin _ _ t2 _ h2 (by omega) (sm _ (by omega)) (sm _ (by omega))⟩
    · exact ⟨(.inl ⟨rfl, _, SqL.of efc⟩), by decide, fun t2 h2 => fin _ _ t2 _ h2 (by omega) (sm _ (by omega)) (sm _ (by omega))⟩
  · rintro σ H1 ⟨⟨u, v, w, rfl⟩, hp1, k1, xs, rows, ef, d, hl, ho, hB⟩
    walk_at "vc"
    refine q _ _ rows (k1.newS hf) hp1 (De.mkLs nfS ef (DxA.sub d fun _ z => List.mem_cons_of_mem _ z)) hl ho hB
theorem G__law_rows (T : Tx K mg) : FnG P w K mg base CX0 5 (ga K "_law_rows") (P__law_rows K) := by
  obtain ⟨fd, F⟩ := F__law_rows T
  have b : L2.Binds K fd ["_law_pot_here", "_law_base_here", "_law_many"] [] := F.bindsN fun _ _ _ _ _ _ us hl => match us, hl with | [_, _, _], _ => rfl
  exact fnG_pl F sc__law_rows b sp3_len (B__law_rows T)
theorem sc__law_past : FnScope ["_law_rows_here", "_law_tome", "_law_row"] ["_law_rows_here"] (defScope s__law_past) := ⟨rfl, rfl, rfl, by decide +kernel, rfl, by decide +kernel, by decide +kernel⟩
theorem B__law_past (T : Tx K mg) : BodyG CX0 P w K mg base ["_law_rows_here", "_law_tome", "_law_row"] "_law_past" (defScope s__law_past) (defBody s__law_past) 8 (ga K "_law_past") (P__law_past K) := by
  intro cdv A outer s H vs Q E hr h
  have hu := hr.units
  have hu1 := hr.units1
  obtain ⟨x_rows_here, rfl, h⟩ := h
  refine ⟨_, PSs.nox (pss_cons (ps_set (i := 1) sc__law_past.nd rfl (by first | exact Or.inl rfl | exact Or.inr rfl) (pe_c0 (call_mk (k_History T) (G_History_init T) (hr.mono (by decide)) pass0) (k_History T).kp rfl (g_History T)))
    (pss_cons (ps_for PassesOwn.never rfl (pi_list (pv 0)) (pg_name (i := 2) sc__law_past.nd rfl (by first | exact Or.inl rfl | exact Or.inr rfl))
    (pss_one (ps_set (i := 1) sc__law_past.nd rfl (by first | exact Or.inl rfl | exact Or.inr rfl) (pe_op (op_ownB (b_History_Add T) (bt_History_Add_tuple T) (G_History_add T) (hr.mono (by decide)) pass0) (pv 1) (pv 2)))))
    (pss_one (ps_ret (pv 1))))), ?_⟩
  walk_at "vc"
  obtain ⟨S, rows, oS, hx, ho, hz, q⟩ := h
  obtain ⟨a, xs, rfl, na, ea, d⟩ := hx.ls
  refine mk_History (S := S) (es := []) (Q := fun v H1 => tFor (iList K (tVar 0)) (gName 2) (tAsg (tOp (rOwnT K (ga K "History") "tuple" (P_History_add K) E0) (tVar 1) (tVar 2)) (gName 1)) { nx := tRet (tVar 1) { nx := fun x H' => Q V.non H', rt := Q }, rt := Q } [some (V.ref a), some v, none] H1) oS .nil (fun _ h => absurd h List.not_mem_nil) (by simp) fun v H1 k1 h1 => ?_
  refine tFor_it H1 (walk_list (xs := xs)) (fun i σ H' => (∃ t u, σ = [some (.ref a), some t, u] ∧ Hist K S H' t (rows.take i)) ∧ Kp [] H H') (fun R hR => ⟨_, rfl, _, rfl, ⟨xs, SqL.of (k1 _ _ subNil' ea)⟩, hR⟩) ⟨⟨_, _, rfl, h1⟩, k1⟩ ?_ ?_ ?_
  · rintro i σ H' _ ⟨_, k⟩
    exact SqL.of (k _ _ subNil' ea)
  · rintro i x σ H2 _ hi ⟨⟨t, u, rfl, ht⟩, k⟩ ⟨rfl, hx⟩
    walk_at "vc"
    obtain ⟨r, hr, dr⟩ := d.of hx
    obtain ⟨a2, dx2, t2, xs2, rfl, na2, e2, nt2, et2, d2⟩ := id ht
    have dr2 := dr.keep0 k
    obtain ⟨b, _, _, eb, nb, hb, _, _⟩ := dr2.pair
    cases eb
    refine ⟨a2, dx2, _, rfl, e2, .tup hb, _, _, rfl, S, rows.take i, r, oS.keep0 k, ht, dr2, fun q hq => ho q (List.mem_of_mem_take hq), ho r (List.mem_of_getElem? hr), by rw [List.length_take]; omega, fun v H3 k3 h3 => ⟨?_, k.trans k3⟩⟩
    rw [take_snoc hr]
    exact h3
  · rintro σ H2 ⟨⟨t, u, rfl, ht⟩, k⟩
    walk_at "vc"
    rw [d.len, List.take_length] at ht
    exact q _ _ k ht
theorem G__law_past (T : Tx K mg) : FnG P w K mg base CX0 9 (ga K "_law_past") (P__law_past K) := by
  obtain ⟨fd, F⟩ := F__law_past T
  have b : L2.Binds K fd ["_law_rows_here"] [] := F.bindsN fun _ _ _ _ _ _ us hl => match us, hl with | [_], _ => rfl
  exact fnG_pl F sc__law_past b sp1_len (B__law_past T)
end Hd

set_option Elab.async false
set_option linter.all false
set_option maxRecDepth 100000
set_option maxHeartbeats 4000000
namespace Hd
open PySem PySem.Spec PyProof.Rows L2 He Lw StX
open Lw.En (enc)
local macro_rules | `(tactic| walk_at "vc") => `(tactic| simp only [tSeq, tAsg, tRet, tRetN, tDrop, tNext, tIfS, tNever, tVar, tC, tOp, tUn, tTest, tB, tNot, tAnd, tOr, tAndV, tOrV, tNotV, tIf, tChain, tCmp, t2I, tCB, tCons, tNil, tTup, tLst, tMC, tFld, sFld, tPr, gName, wipe, List.foldl_cons, List.foldl_nil, tYes, iTup, iList, iEnum, iEnumT, iEnumK, iRng1, iRng2, iRng3, gNil, gCons, gTup, gUnl, gSub, tPar, rI, rI0, rU, tIsN, tNotN, tSl, tPart, tNoPart, tThen, rMk, tStar, tBM, tM1, tLoc, tCM, tCMW, tMW, tCW,
  assignEach, cxOf, L2.start, List.map_cons, List.map_nil, List.length_cons, List.length_nil, List.replicate, List.cons_append, List.nil_append, List.getElem?_cons_zero, List.getElem?_cons_succ, List.set_cons_zero, List.set_cons_succ, Option.some.injEq, V.int.injEq, V.bl.injEq, V.ref.injEq, V.str.injEq, exists_eq_left', exists_eq_left, exists_eq_right', exists_eq_right, exists_and_left, exists_and_right, true_and, and_true, List.cons.injEq, List.cons_ne_nil, reduceCtorEq, false_and, and_false, exists_false, if_true, if_false, Bool.false_eq_true, Bool.true_eq_false, eq_self, forall_eq, forall_eq', rEq_int, rNe_int, rEq_str, rNe_str])

local macro_rules | `(tactic| walk_at "m") => `(tactic| first | exact List.Mem.head _ | (apply List.Mem.tail; walk_at "m"))

variable {P : Program} {w : World} {K : Frag} {mg : Str → Option Value} {base : Heap}
def P__law_version (_ : Frag) : Sp := sp3 fun x y z H Q _ => ∃ S, ∃ rows : List (Int × Int), ∃ c, ∃ n : Nat, Old S H ∧ De S H x rows ∧ y = .int c ∧ z = .int n ∧ n ≤ rows.length ∧ rows.length ≤ 1000 ∧ ∀ H', Kp [] H H' → Q (.int (ver rows c n : Nat)) H'
def P__law_spots (_ : Frag) : Sp := sp2 fun x y H Q _ => ∃ S, ∃ rows : List (Int × Int), ∃ b, Old S H ∧ De S H x rows ∧ y = .int b ∧ rows.length ≤ 10 ∧ ∀ v H', ∀ ns : List Int, Kp [] H H' → De S H' v ns → ns.length ≤ 64 → Q v H'
def P__law_cell_right (K : Frag) : Sp := sp3 fun x y z H Q _ => ∃ S, ∃ rows : List (Int × Int), ∃ c, Old S H ∧ Hist K S H x rows ∧ De S H y rows ∧ z = .int c ∧ Ords rows ∧ rows.length ≤ 900 ∧ ∀ H', Kp [] H H' → Q (.bl true) H'
def P__law_until_right (K : Frag) : Sp := sp3 fun x y z H Q _ => ∃ S, ∃ rows : List (Int × Int), ∃ ns : List Int, Old S H ∧ Hist K S H x rows ∧ De S H y rows ∧ De S H z ns ∧ Ords rows ∧ rows.length ≤ 900 ∧ ns.length ≤ 1000 ∧ ∀ H', Kp [] H H' → Q (.bl true) H'
def P__law_shown_right (K : Frag) : Sp := sp2 fun x y H Q _ => ∃ S, ∃ rows : List (Int × Int), Old S H ∧ Hist K S H x rows ∧ De S H y rows ∧ Bds rows ∧ rows.length ≤ 900 ∧ ∀ H', Kp [] H H' → Q (.bl true) H'
def P__law_others_right (K : Frag) : Sp := sp3 fun x y z H Q _ => ∃ S p, ∃ rows : List (Int × Int), Old S H ∧ p ∈ S ∧ x = .ref p ∧ PotAt H p ∧ Hist K S H y rows ∧ De S H z rows ∧ Ords rows ∧ rows.length ≤ 800 ∧ ∀ H', Kp [p] H H' → PotAt H' p → Q (.bl true) H'
def P__law_long_right (K : Frag) : Sp := sp2 fun x y H Q _ => ∃ p b, x = .ref p ∧ PotAt H p ∧ y = .int b ∧ b.natAbs < 10 ^ 40 ∧ ∀ H', Kp [p] H H' → PotAt H' p → Q (.bl true) H'
def P__law_points_right (K : Frag) : Sp := sp2 fun x y H Q _ => ∃ p b, x = .ref p ∧ PotAt H p ∧ y = .int b ∧ ∀ H', Kp [p] H H' → PotAt H' p → Q (.bl true) H'
def P__law_right (_ : Frag) : Sp := sp1 fun x H Q _ => ∃ p, x = .ref p ∧ PotAt H p ∧ ∀ H', Kp [p] H H' → Q (.bl true) H'
theorem ver_step {es : List (Int × Int)} {c : Int} {i : Nat} {r : Int × Int} (h : es[i]? = some r) : ver es c (i + 1) = if tch r c = true then i + 1 else ver es c i := by
  show (if (es[i]?.any fun p => tch p c) = true then _ else _) = _
  rw [h]
  rfl
theorem sc__law_version : FnScope ["_law_rows_here", "_law_spot", "_law_when", "_law_found", "_law_k", "_law_first", "_law_last"] ["_law_rows_here", "_law_spot", "_law_when"] (defScope s__law_version) := ⟨rfl, rfl, rfl, by decide +kernel, rfl, by decide +kernel, by decide +kernel⟩
theorem B__law_version (T : Tx K mg) : BodyG CX0 P w K mg base ["_law_rows_here", "_law_spot", "_law_when", "_law_found", "_law_k", "_law_first", "_law_last"] "_law_version" (defScope s__law_version) (defBody s__law_version) 0 (ga K "_law_version") (P__law_version K) := by
  intro cdv A outer s H vs Q E hr h
  have hu := hr.units
  have hu1 := hr.units1
  obtain ⟨x_rows_here, x_spot, x_when, rfl, h⟩ := h
  refine ⟨_, PSs.nox (pss_cons (ps_set (i := 3) sc__law_version.nd rfl (by first | exact Or.inl rfl | exact Or.inr rfl) pe_int)
    (pss_cons (ps_for PassesOwn.never rfl (pi_enum rfl (z_enumerate T) (pa_cons (pe_slice sl_list (pv 0) po_none (po_some (pv 2))) pa_nil)) (pg_tupK (K := K) (n := 2) rfl rfl (pgs_cons (pg_name (i := 4) sc__law_version.nd rfl (by first | exact Or.inl rfl | exact Or.inr rfl)) (pgs_cons (pg_tupK (K := K) (n := 2) rfl rfl (pgs_cons (pg_name (i := 5) sc__law_version.nd rfl (by first | exact Or.inl rfl | exact Or.inr rfl)) (pgs_cons (pg_name (i := 6) sc__law_version.nd rfl (by first | exact Or.inl rfl | exact Or.inr rfl)) pgs_nil))) pgs_nil)))
    (pss_one (ps_if (PW.pt (pw_and (pt_cmpR (op_le) (pv 5) (pv 1) (nomark _)) (pw_and1 (pt_cmpR (op_le) (pv 1) (pv 6) (nomark _))))) (pss_one (ps_set (i := 3) sc__law_version.nd rfl (by first | exact Or.inl rfl | exact Or.inr rfl) (pe_op (op_add) (pv 4) pe_int))) pss_nil)))
    (pss_one (ps_ret (pv 3))))), ?_⟩
  walk_at "vc"
  obtain ⟨S, rows, c, n, oS, dr, rfl, rfl, hn, hz, q⟩ := h
  refine tFor_w ?_
  walk_at "vc"
  refine slD_take oS dr hn fun v H1 k1 d1 => ?_
  obtain ⟨a, xs, rfl, na, ea, da⟩ := d1.ls
  have hl := da.len
  rw [List.length_take, Nat.min_eq_left hn] at hl
  refine ⟨_, rfl, ⟨_, SqL.of ea⟩, LoopOK.it walk_enum (fun i σ H' => (∃ u v w, σ = [some x_rows_here, some (.int c), some (.int n), some (.int (ver rows c i : Nat)), u, v, w]) ∧ Kp [] H1 H') ⟨⟨_, _, _, rfl⟩, .refl⟩ (fun i σ H' _ ⟨_, k⟩ => SqL.of (k _ _ subNil' ea)) ?_ ?_⟩
  · rintro i x σ H2 H3 hi ⟨⟨u, v, w, rfl⟩, k⟩ ⟨T, x1, y1, rfl, hT, rfl, h1, h2⟩
    cases h1
    obtain ⟨r, hr, dr2⟩ := da.of h2
    obtain ⟨b, rfl, nb, eb⟩ := De.ints dr2
    have k3 : Kp [] H1 (upd H2 T (.tup [.int (i : Nat), .ref b])) := k.trans (.new hT)
    have e3 := k3 _ _ subNil' eb
    walk_at "vc"
    refine ⟨_, SqT.of upd_same, rfl, _, _, rfl, _, _, rfl, _, rfl, _, SqT.of e3, rfl, _, _, rfl, _, _, rfl, rfl, rfl, _, rfl, ?_⟩
    have ev := ver_step (c := c) (show rows[i]? = some r by rw [List.getElem?_take_of_lt (by omega)] at hr; exact hr)
    rw [ev]
    unfold tch
    split
    · rename_i h3
      refine ⟨_, rfl, ?_⟩
      split
      · rename_i h4
        exact ⟨_, rfl, by rw [h3, h4]; simp, k3⟩
      · rename_i h4
        exact ⟨by rw [Bool.eq_false_iff.mpr h4]; simp, k3⟩
    · rename_i h3
      exact ⟨by rw [Bool.eq_false_iff.mpr h3]; simp, k3⟩
  · rintro σ H2 ⟨⟨u, v, w, rfl⟩, k⟩
    rw [hl]
    walk_at "vc"
    exact q _ (k1.trans k)
theorem G__law_version (T : Tx K mg) : FnG P w K mg base CX0 1 (ga K "_law_version") (P__law_version K) := by
  obtain ⟨fd, F⟩ := F__law_version T
  have b : L2.Binds K fd ["_law_rows_here", "_law_spot", "_law_when"] [] := F.bindsN fun _ _ _ _ _ _ us hl => match us, hl with | [_, _, _], _ => rfl
  exact fnG_pl F sc__law_version b sp3_len (B__law_version T)
theorem sc__law_spots : FnScope ["_law_rows_here", "_law_base_here", "_law_found", "_law_k", "_law_first", "_law_last"] ["_law_rows_here", "_law_base_here"] (defScope s__law_spots) := ⟨rfl, rfl, rfl, by decide +kernel, rfl, by decide +kernel, by decide +kernel⟩
theorem B__law_spots (T : Tx K mg) : BodyG CX0 P w K mg base ["_law_rows_here", "_law_base_here", "_law_found", "_law_k", "_law_first", "_law_last"] "_law_spots" (defScope s__law_spots) (defBody s__law_spots) 0 (ga K "_law_spots") (P__law_spots K) := by
  intro cdv A outer s H vs Q E hr h
  have hu := hr.units
  have hu1 := hr.units1
  obtain ⟨x_rows_here, x_base_here, rfl, h⟩ := h
  refine ⟨_, PSs.nox (pss_cons (ps_setLc (i := 2) rfl sc__law_spots.nd rfl rfl (sw_true rfl rfl rfl (by decide +kernel)) (pi_range2 rfl (z_range T) (pa_cons (pe_un un_neg pe_int) (pa_cons pe_int pa_nil))) (blkOk_by (N := ["_law_rows_here", "_law_base_here", "_law_found", "_law_k", "_law_first", "_law_last"]) (sc := defScope s__law_spots) (own := [("_law_k", 3)]) (by decide +kernel)) (fun _ _ _ _ _ => (pg_name (i := 3) sc__law_spots.nd rfl (by first | exact Or.inl rfl | exact Or.inr rfl))) (fun _ _ _ _ _ => pts_nil) (fun _ _ _ _ _ => (pe_op (op_add) (pv 1) (pv 3))))
    (pss_cons (ps_for PassesOwn.never rfl (pi_list (pv 0)) (pg_tupK (K := K) (n := 2) rfl rfl (pgs_cons (pg_name (i := 4) sc__law_spots.nd rfl (by first | exact Or.inl rfl | exact Or.inr rfl)) (pgs_cons (pg_name (i := 5) sc__law_spots.nd rfl (by first | exact Or.inl rfl | exact Or.inr rfl)) pgs_nil)))
    (pss_one (ps_expr (pe_bm PySem.F.plainAttrs_list PySem.F.slot_list_extend PySem.F.type_list_extend mt_extend (pv 2) (pa_cons (pe_lst (pa_cons (pe_op (op_sub) (pv 4) pe_int) (pa_cons (pv 4) (pa_cons (pv 5) (pa_cons (pe_op (op_add) (pv 5) pe_int) pa_nil))))) pa_nil)))))
    (pss_one (ps_ret (pe_callB (cr_sortedSet rfl) (by rfl) (z_sorted T) (by decide +kernel) (pa_cons (pe_callTy (cr_setL rfl) (by rfl) (z_set T) (by decide +kernel) (pa_cons (pv 2) pa_nil)) pa_nil)))))), ?_⟩
  walk_at "vc"
  obtain ⟨S, rows, b, oS, dr, rfl, hz, q⟩ := h
  have C := (Ctx.start (T0 := []) oS subNil).add dr
  refine tLc_n (lo := -5) (n := 13) C (fun i => (List.range i).map fun j : Nat => b + (-5 + (j : Int))) (fun R hR => ?_) rfl ?_ ?_
  · walk_at "vc"
    exact ⟨_, _, ⟨rfl, rfl⟩, by omega, hR⟩
  · intro D j H' hj C
    walk_at "vc"
    refine C.put 0 rfl (a := b + (-5 + (j : Int))) (Dx.int _) (by rw [List.range_succ, List.map_append]; rfl) ?_
    have := sizeLine_eq
    rw [List.length_map, List.length_range]
    omega
  · intro D H' nD C
    refine tFor_l C (C.d (a := rows) (by walk_at "m")) rfl (fun F j σ H' => (∃ u v w, σ = [some x_rows_here, some (.int b), some (.ref D), u, v, w]) ∧ ∃ l : List Int, l.length = 13 + 4 * j ∧ Ctx H [] S (D :: S) [.lst D l] (F :: [(x_rows_here, dat rows)]) H') (fun F j σ H' ⟨_, l, _, C2⟩ => ⟨_, _, fun _ h => h, C2⟩) (fun F C2 => ⟨⟨_, _, _, rfl⟩, _, by simp, C2⟩) ?_ ?_
    · rintro F j x p σ H2 hp hx ⟨⟨u, v, w, rfl⟩, l, hl, C⟩
      obtain ⟨a, rfl, na, e⟩ := (hx _ _ C).ints
      walk_at "vc"
      refine ⟨_, SqT.of e, rfl, _, _, rfl, _, _, rfl, rfl, ?_⟩
      obtain ⟨xs, eD, dD⟩ := C.lstAt 0 rfl
      refine ⟨.inl ⟨rfl, _, SqL.of eD⟩, _, rfl, _, rfl, by decide, fun p2 h2 => ?_⟩
      have ne : D ≠ p2 := fun z => by rw [← z, eD] at h2; cases h2
      refine ⟨D, p2, xs, _, rfl, rfl, by rw [upd_ne ne]; exact eD, upd_same, ?_, ⟨_, rfl⟩, l ++ [p.1 - 1, p.1, p.2, p.2 + 1], by simp [hl]; omega, ?_⟩
      · have := dD.len
        have := sizeLine_eq
        have := (List.getElem?_eq_some_iff.mp hp).1
        simp
        omega
      · refine (C.pure (.new h2)).putAt 0 rfl ?_
        show DxA _ _ _ ((l ++ _).map enc)
        rw [List.map_append]
        exact DxA.append (DxA.keep (.new h2) dD) (.cons (.int _) (.cons (.int _) (.cons (.int _) (.cons (.int _) .nil))))
    · rintro F σ H2 ⟨⟨u, v, w, rfl⟩, l, hl, C⟩
      walk_at "vc"
      have C2 := C.freeze nD
      refine srtSet C2.old (C2.d (List.mem_cons_self ..)) (by omega) fun v H3 ms k d _ _ hm => ?_
      exact q v H3 ms (C2.pure k).kp d (by omega)
theorem G__law_spots (T : Tx K mg) : FnG P w K mg base CX0 1 (ga K "_law_spots") (P__law_spots K) := by
  obtain ⟨fd, F⟩ := F__law_spots T
  have b : L2.Binds K fd ["_law_rows_here", "_law_base_here"] [] := F.bindsN fun _ _ _ _ _ _ us hl => match us, hl with | [_, _], _ => rfl
  exact fnG_pl F sc__law_spots b sp2_len (B__law_spots T)
end Hd

set_option Elab.async false
set_option linter.all false
set_option maxRecDepth 100000
set_option maxHeartbeats 4000000
namespace Hd
open PySem PySem.Spec PyProof.Rows L2 He Lw StX
open Lw.En (enc)
local macro_rules | `(tactic| walk_at "vc") => `(tactic| simp only [tSeq, tAsg, tRet, tRetN, tDrop, tNext, tIfS, tNever, tVar, tC, tOp, tUn, tTest, tB, tNot, tAnd, tOr, tAndV, tOrV, tNotV, tIf, tChain, tCmp, t2I, tCB, tCons, tNil, tTup, tLst, tMC, tFld, sFld, tPr, gName, wipe, List.foldl_cons, List.foldl_nil, tYes, iTup, iList, iEnum, iEnumT, iEnumK, iRng1, iRng2, iRng3, gNil, gCons, gTup, gUnl, gSub, tPar, rI, rI0, rU, tIsN, tNotN, tSl, tPart, tNoPart, tThen, rMk, tStar, tBM, tM1, tLoc, tCM, tCMW, tMW, tCW,
  assignEach, cxOf, L2.start, List.map_cons, List.map_nil, List.length_cons, List.length_nil, List.replicate, List.cons_append, List.nil_append, List.getElem?_cons_zero, List.getElem?_cons_succ, List.set_cons_zero, List.set_cons_succ, Option.some.injEq, V.int.injEq, V.bl.injEq, V.ref.injEq, V.str.injEq, exists_eq_left', exists_eq_left, exists_eq_right', exists_eq_right, exists_and_left, exists_and_right, true_and, and_true, List.cons.injEq, List.cons_ne_nil, reduceCtorEq, false_and, and_false, exists_false, if_true, if_false, Bool.false_eq_true, Bool.true_eq_false, eq_self, forall_eq, forall_eq', rEq_int, rNe_int, rEq_str, rNe_str])

local macro_rules | `(tactic| walk_at "m") => `(tactic| first | exact List.Mem.head _ | (apply List.Mem.tail; walk_at "m"))

variable {P : Program} {w : World} {K : Frag} {mg : Str → Option Value} {base : Heap}
theorem ver_le (es : List (Int × Int)) (c : Int) : ∀ k : Nat, ver es c k ≤ k
  | 0 => Nat.le_refl _
  | k + 1 => by
    show (if _ then _ else _) ≤ _
    split
    · exact Nat.le_refl _
    · exact Nat.le_succ_of_le (ver_le es c k)
theorem tchs_in {es : List (Int × Int)} {c : Int} : ∀ {m : Nat} {x : Int}, x ∈ tchs es c m ↔ ∃ i : Nat, i < m ∧ (es[i]?.any fun p => tch p c) = true ∧ x = (i : Int) + 1
  | 0, x => ⟨fun h => absurd h List.not_mem_nil, fun ⟨i, h, _⟩ => absurd h (Nat.not_lt_zero _)⟩
  | m + 1, x => by
    show x ∈ tchs es c m ++ _ ↔ _
    rw [List.mem_append, tchs_in]
    constructor
    · rintro (⟨i, h1, h2, h3⟩ | h)
      · exact ⟨i, by omega, h2, h3⟩
      · split at h
        · rename_i ht
          exact ⟨m, Nat.lt_succ_self _, ht, List.mem_singleton.mp h⟩
        · exact absurd h List.not_mem_nil
    · rintro ⟨i, h1, h2, h3⟩
      by_cases e : i = m
      · subst e
        exact .inr (by rw [if_pos h2]; exact List.mem_singleton.mpr h3)
      · exact .inl ⟨i, by omega, h2, h3⟩
theorem vers_in {es : List (Int × Int)} {c : Int} {x : Int} : x ∈ vers es c ↔ x = 0 ∨ ∃ i : Nat, i < es.length ∧ (es[i]?.any fun p => tch p c) = true ∧ x = (i : Int) + 1 := by
  unfold vers
  rw [List.mem_cons, tchs_in]
theorem ver_in {es : List (Int × Int)} {c : Int} : ∀ {k : Nat}, k ≤ es.length → ((ver es c k : Nat) : Int) ∈ vers es c
  | 0, _ => List.mem_cons_self ..
  | k + 1, h => by
    show (((if (es[k]?.any fun p => tch p c) = true then k + 1 else ver es c k) : Nat) : Int) ∈ _
    split
    · rename_i ht
      exact vers_in.mpr (.inr ⟨k, by omega, ht, by omega⟩)
    · exact ver_in (by omega)
theorem ver_ge {es : List (Int × Int)} {c x : Int} (hx : x ∈ vers es c) : ∀ {k : Nat}, x ≤ k → x ≤ ver es c k
  | 0, h => by
    have := (vers_mem hx).1
    show x ≤ 0
    omega
  | k + 1, h => by
    show x ≤ ((if (es[k]?.any fun p => tch p c) = true then k + 1 else ver es c k : Nat) : Int)
    split
    · omega
    · rename_i ht
      refine ver_ge hx ?_
      rcases vers_in.mp hx with e | ⟨i, h1, h2, h3⟩
      · omega
      · have : i ≠ k := fun e => ht (e ▸ h2)
        omega
def dueL (es : List (Int × Int)) (c : Int) : List Int := (List.range (es.length + 1)).map fun w => ((ver es c w : Nat) : Int)
theorem dueL_in {es : List (Int × Int)} {c x : Int} : x ∈ dueL es c ↔ x ∈ vers es c := by
  unfold dueL
  rw [List.mem_map]
  constructor
  · rintro ⟨w, hw, rfl⟩
    exact ver_in (by have := List.mem_range.mp hw; omega)
  · intro h
    have h1 := vers_mem h
    refine ⟨x.toNat, List.mem_range.mpr (by omega), ?_⟩
    have h2 := ver_ge h (k := x.toNat) (by omega)
    have h3 := ver_le es c x.toNat
    omega
/-- of the numbers from 0 on, those that are versions -/
theorem known_eq (es : List (Int × Int)) (c : Int) : ((List.range (es.length + 1)).map fun j : Nat => (j : Int)).filter (fun z => decide (z ∈ dueL es c)) = vers es c := by
  have one : ∀ m, m ≤ es.length → ((List.range (m + 1)).map fun j : Nat => (j : Int)).filter (fun z => decide (z ∈ dueL es c)) = 0 :: tchs es c m := by
    intro m
    induction m with
    | zero =>
      intro _
      have : (0 : Int) ∈ dueL es c := dueL_in.mpr (List.mem_cons_self ..)
      simp [tchs, this]
    | succ m ih =>
      intro hm
      rw [List.range_succ, List.map_append, List.filter_append, ih (by omega)]
      show _ = 0 :: (tchs es c m ++ (if (es[m]?.any fun p => tch p c) = true then [((m : Nat) : Int) + 1] else []))
      rw [List.cons_append]
      congr 2
      rw [List.map_singleton, List.filter_cons, List.filter_nil]
      have e : (((m + 1 : Nat) : Int) ∈ dueL es c) ↔ (es[m]?.any fun p => tch p c) = true := by
        rw [dueL_in, vers_in]
        constructor
        · rintro (h | ⟨i, h1, h2, h3⟩)
          · omega
          · have : i = m := by omega
            exact this ▸ h2
        · intro h
          exact .inr ⟨m, by omega, h, by omega⟩
      by_cases h : (es[m]?.any fun p => tch p c) = true
      · rw [if_pos h, if_pos (decide_eq_true (e.mpr h))]
        simp
      · rw [if_neg h, if_neg (by rw [decide_eq_true_eq]; exact fun z => h (e.mp z))]
  exact one _ (Nat.le_refl _)
theorem stop_mem {es : List (Int × Int)} {c v : Int} : (stop (vers es c) v (es.length + 1) = (es.length : Int) + 1 ∧ ∀ u ∈ vers es c, u ≤ v) ∨ (stop (vers es c) v (es.length + 1) ∈ vers es c ∧ v < stop (vers es c) v (es.length + 1)) := by
  rw [stop_eq]
  cases hf : (vers es c).filter fun n => decide (v < n) with
  | nil =>
    refine .inl ⟨rfl, fun u hu => ?_⟩
    have := List.filter_eq_nil_iff.mp hf u hu
    simp at this
    exact this
  | cons n r =>
    have : n ∈ (vers es c).filter fun n => decide (v < n) := by rw [hf]; exact List.mem_cons_self ..
    obtain ⟨h1, h2⟩ := List.mem_filter.mp this
    exact .inr ⟨h1, by simpa using h2⟩
theorem stop_min {es : List (Int × Int)} {c v u : Int} (hu : u ∈ vers es c) (h : v < u) : stop (vers es c) v (es.length + 1) ≤ u := by
  rw [stop_eq]
  cases hf : (vers es c).filter fun n => decide (v < n) with
  | nil =>
    have := List.filter_eq_nil_iff.mp hf u hu
    simp at this
    omega
  | cons n r =>
    have hm : u ∈ (vers es c).filter fun n => decide (v < n) := List.mem_filter.mpr ⟨hu, by simpa using h⟩
    have hs : ((vers es c).filter fun n => decide (v < n)).Pairwise (· < ·) := (vers_up es c).filter _
    rw [hf] at hm hs
    show n ≤ u
    rcases List.mem_cons.mp hm with e | e
    · omega
    · have := (List.pairwise_cons.mp hs).1 u e
      omega
theorem ver_stand {es : List (Int × Int)} {c v : Int} (hv : v ∈ vers es c) {k : Nat} (hk : k ≤ es.length) : ((ver es c k : Nat) : Int) = v ↔ v ≤ k ∧ (k : Int) < stop (vers es c) v (es.length + 1) := by
  have h1 := ver_le es c k
  have h2 := ver_in (c := c) hk
  constructor
  · intro e
    refine ⟨by omega, ?_⟩
    rcases stop_mem (es := es) (c := c) (v := v) with ⟨h, _⟩ | ⟨h3, h4⟩
    · omega
    · by_cases h5 : stop (vers es c) v (es.length + 1) ≤ k
      · have := ver_ge h3 h5
        omega
      · omega
  · rintro ⟨h3, h4⟩
    have h5 := ver_ge hv h3
    by_cases h6 : v < ver es c k
    · have := stop_min h2 h6
      omega
    · omega
theorem filt_range (a b : Nat) : ∀ m : Nat, (List.range m).filter (fun k => decide (a ≤ k) && decide (k < b)) = (List.range (min m b - a)).map (a + ·)
  | 0 => by simp
  | m + 1 => by
    rw [List.range_succ, List.filter_append, filt_range a b m, List.filter_cons, List.filter_nil]
    by_cases h1 : a ≤ m
    · by_cases h2 : m < b
      · rw [if_pos (by simp [h1, h2]), show min (m + 1) b - a = (min m b - a) + 1 by omega, List.range_succ, List.map_append, List.map_singleton]
        congr 2
        omega
      · rw [if_neg (by simp [h2]), List.append_nil, show min (m + 1) b - a = min m b - a by omega]
    · rw [if_neg (by simp [h1]), List.append_nil, show min (m + 1) b - a = 0 by omega, show min m b - a = 0 by omega]
/-- the moments at which it stands -/
theorem when_eq {es : List (Int × Int)} {c v : Int} (hv : v ∈ vers es c) : ((List.range (es.length + 1)).filter fun k => decide (((ver es c k : Nat) : Int) = v)) = (List.range ((stop (vers es c) v (es.length + 1)).toNat - v.toNat)).map (v.toNat + ·) := by
  have hs : 0 ≤ v ∧ v ≤ es.length := vers_mem hv
  have hst : v < stop (vers es c) v (es.length + 1) ∧ stop (vers es c) v (es.length + 1) ≤ es.length + 1 := by
    rcases stop_mem (es := es) (c := c) (v := v) with ⟨h, _⟩ | ⟨h3, h4⟩
    · omega
    · have := vers_mem h3
      omega
  have e := filt_range v.toNat (stop (vers es c) v (es.length + 1)).toNat (es.length + 1)
  rw [show min (es.length + 1) (stop (vers es c) v (es.length + 1)).toNat = (stop (vers es c) v (es.length + 1)).toNat by omega] at e
  rw [← e]
  refine List.filter_congr fun k hk => ?_
  have := List.mem_range.mp hk
  rw [Bool.eq_iff_iff, decide_eq_true_eq, ver_stand hv (by omega), Bool.and_eq_true, decide_eq_true_eq, decide_eq_true_eq]
  omega
def whenL (es : List (Int × Int)) (c v : Int) : List Int := ((List.range (es.length + 1)).filter fun k => decide (((ver es c k : Nat) : Int) = v)).map fun k : Nat => (k : Int)
theorem stop_le {es : List (Int × Int)} {c v : Int} (hv : v ∈ vers es c) : 0 ≤ v ∧ v < stop (vers es c) v (es.length + 1) ∧ stop (vers es c) v (es.length + 1) ≤ es.length + 1 := by
  have hs := vers_mem hv
  rcases stop_mem (es := es) (c := c) (v := v) with ⟨h, _⟩ | ⟨h3, h4⟩
  · omega
  · have := vers_mem h3
    omega
theorem whenL_eq {es : List (Int × Int)} {c v : Int} (hv : v ∈ vers es c) : whenL es c v = (List.range ((stop (vers es c) v (es.length + 1)).toNat - v.toNat)).map fun k : Nat => v + (k : Int) := by
  unfold whenL
  rw [when_eq hv, List.map_map]
  refine List.map_congr_left fun k _ => ?_
  have := stop_le hv
  show ((v.toNat + k : Nat) : Int) = v + k
  omega
theorem when_0 {es : List (Int × Int)} {c v : Int} (hv : v ∈ vers es c) : (whenL es c v)[0]? = some v := by
  have := stop_le hv
  rw [whenL_eq hv, List.getElem?_map, List.getElem?_range (by omega)]
  show some (v + ((0 : Nat) : Int)) = _
  rw [Int.natCast_zero, Int.add_zero]
theorem when_len {es : List (Int × Int)} {c v : Int} (hv : v ∈ vers es c) : ((whenL es c v).length : Int) = stop (vers es c) v (es.length + 1) - v := by
  have := stop_le hv
  rw [whenL_eq hv, List.length_map, List.length_range]
  omega
theorem when_last {es : List (Int × Int)} {c v : Int} (hv : v ∈ vers es c) : (whenL es c v).getLast? = some (stop (vers es c) v (es.length + 1) - 1) := by
  have h := stop_le hv
  obtain ⟨n, hn⟩ : ∃ n, (stop (vers es c) v (es.length + 1)).toNat - v.toNat = n + 1 := ⟨(stop (vers es c) v (es.length + 1)).toNat - v.toNat - 1, by omega⟩
  rw [whenL_eq hv, hn, List.range_succ, List.map_append, List.map_singleton, List.getLast?_concat]
  congr 1
  omega
theorem dueL_len (es : List (Int × Int)) (c : Int) : (dueL es c).length = es.length + 1 := by
  unfold dueL
  rw [List.length_map, List.length_range]
theorem dueL_get {es : List (Int × Int)} {c : Int} {j : Nat} (h : j < es.length + 1) : (dueL es c)[j]? = some ((ver es c j : Nat) : Int) := by
  unfold dueL
  rw [List.getElem?_map, List.getElem?_range h]
  rfl
end Hd

set_option Elab.async false
set_option linter.all false
set_option maxRecDepth 100000
set_option maxHeartbeats 4000000
namespace Hd
open PySem PySem.Spec PyProof.Rows L2 He Lw StX
open Lw.En (enc)
local macro_rules | `(tactic| walk_at "vc") => `(tactic| simp only [tSeq, tAsg, tRet, tRetN, tDrop, tNext, tIfS, tNever, tVar, tC, tOp, tUn, tTest, tB, tNot, tAnd, tOr, tAndV, tOrV, tNotV, tIf, tChain, tCmp, t2I, tCB, tCons, tNil, tTup, tLst, tMC, tFld, sFld, tPr, gName, wipe, List.foldl_cons, List.foldl_nil, tYes, iTup, iList, iEnum, iEnumT, iEnumK, iRng1, iRng2, iRng3, gNil, gCons, gTup, gUnl, gSub, tPar, rI, rI0, rU, tIsN, tNotN, tSl, tPart, tNoPart, tThen, rMk, tStar, tBM, tM1, tLoc, tCM, tCMW, tMW, tCW,
  assignEach, cxOf, L2.start, List.map_cons, List.map_nil, List.length_cons, List.length_nil, List.replicate, List.cons_append, List.nil_append, List.getElem?_cons_zero, List.getElem?_cons_succ, List.set_cons_zero, List.set_cons_succ, Option.some.injEq, V.int.injEq, V.bl.injEq, V.ref.injEq, V.str.injEq, exists_eq_left', exists_eq_left, exists_eq_right', exists_eq_right, exists_and_left, exists_and_right, true_and, and_true, List.cons.injEq, List.cons_ne_nil, reduceCtorEq, false_and, and_false, exists_false, if_true, if_false, Bool.false_eq_true, Bool.true_eq_false, eq_self, forall_eq, forall_eq', rEq_int, rNe_int, rEq_str, rNe_str])

local macro_rules | `(tactic| walk_at "m") => `(tactic| first | exact List.Mem.head _ | (apply List.Mem.tail; walk_at "m"))

variable {P : Program} {w : World} {K : Frag} {mg : Str → Option Value} {base : Heap}
theorem pos_lt {n : Nat} (h : n ≤ 1000) : n < sizeLine := by
  have := sizeLine_eq
  omega
theorem sc__law_cell_right : FnScope ["_law_made", "_law_rows_here", "_law_spot", "_law_due", "_law_when", "_law_known", "_law_one", "_law_told", "_law_k", "_law_first", "_law_last"] ["_law_made", "_law_rows_here", "_law_spot"] (defScope s__law_cell_right) := ⟨rfl, rfl, rfl, by decide +kernel, rfl, by decide +kernel, by decide +kernel⟩
theorem B__law_cell_right (T : Tx K mg) : BodyG CX0 P w K mg base ["_law_made", "_law_rows_here", "_law_spot", "_law_due", "_law_when", "_law_known", "_law_one", "_law_told", "_law_k", "_law_first", "_law_last"] "_law_cell_right" (defScope s__law_cell_right) (defBody s__law_cell_right) 8 (ga K "_law_cell_right") (P__law_cell_right K) := by
  intro cdv A outer s H vs Q E hr h
  have hu := hr.units
  have hu1 := hr.units1
  obtain ⟨x_made, x_rows_here, x_spot, rfl, h⟩ := h
  refine ⟨_, PSs.nox (pss_cons (ps_set (i := 3) sc__law_cell_right.nd rfl (by first | exact Or.inl rfl | exact Or.inr rfl) (pe_lc rfl sc__law_cell_right.nd (pi_range1 rfl (z_range T) (pa_cons (pe_op (op_add) (pe_callB (call_len_seq) (by rfl) (z_len T) PySem.boot_len (pa_cons (pv 1) pa_nil)) pe_int) pa_nil)) (blkOk_by (N := ["_law_made", "_law_rows_here", "_law_spot", "_law_due", "_law_when", "_law_known", "_law_one", "_law_told", "_law_k", "_law_first", "_law_last"]) (sc := defScope s__law_cell_right) (own := [("_law_when", 4)]) (by decide +kernel)) (fun _ _ _ _ _ => (pg_name (i := 4) sc__law_cell_right.nd rfl (by first | exact Or.inl rfl | exact Or.inr rfl))) (fun _ _ _ _ _ => pts_nil) (fun _ _ _ _ _ => (pe_c (call_g (G__law_version T) (hr.mono (by decide)) pass0) (kp__law_version T) rfl (g__law_version T) (pa_cons (pv 1) (pa_cons (pv 2) (pa_cons (pv 4) pa_nil)))))))
    (pss_cons (ps_if (PW.pt (pw_or (pt_cmpR ((op_neD hu)) (pe_lc rfl sc__law_cell_right.nd (pi_range1 rfl (z_range T) (pa_cons (pe_op (op_add) (pe_callB (call_len_seq) (by rfl) (z_len T) PySem.boot_len (pa_cons (pv 1) pa_nil)) pe_int) pa_nil)) (blkOk_by (N := ["_law_made", "_law_rows_here", "_law_spot", "_law_due", "_law_when", "_law_known", "_law_one", "_law_told", "_law_k", "_law_first", "_law_last"]) (sc := defScope s__law_cell_right) (own := [("_law_when", 4)]) (by decide +kernel)) (fun _ _ _ _ _ => (pg_name (i := 4) sc__law_cell_right.nd rfl (by first | exact Or.inl rfl | exact Or.inr rfl))) (fun _ _ _ _ _ => pts_nil) (fun _ _ _ _ _ => (pe_m (call_g (G_History_version T) (hr.mono (by decide)) pass0) (pv 0) (c_History T) (m_History_version T) (pa_cons (pv 2) (pa_cons (pv 4) pa_nil))))) (pv 3) (nomark _)) (pw_or1 (pt_cmpR (op_ne) (pe_m (call_g (G_History_version_1 T) (hr.mono (by decide)) pass0) (pv 0) (c_History T) (m_History_version T) (pa_cons (pv 2) pa_nil)) (pe_ix ix_list (pv 3) (pe_un un_neg pe_int) (fun _ _ => rfl)) (nomark _))))) (pss_one (ps_ret pe_bl)) pss_nil)
    (pss_cons (ps_setLc (i := 5) rfl sc__law_cell_right.nd rfl rfl (sw_true rfl rfl rfl (by decide +kernel)) (pi_range1 rfl (z_range T) (pa_cons (pe_op (op_add) (pe_callB (call_len_seq) (by rfl) (z_len T) PySem.boot_len (pa_cons (pv 1) pa_nil)) pe_int) pa_nil)) (blkOk_by (N := ["_law_made", "_law_rows_here", "_law_spot", "_law_due", "_law_when", "_law_known", "_law_one", "_law_told", "_law_k", "_law_first", "_law_last"]) (sc := defScope s__law_cell_right) (own := [("_law_one", 6)]) (by decide +kernel)) (fun _ _ _ _ _ => (pg_name (i := 6) sc__law_cell_right.nd rfl (by first | exact Or.inl rfl | exact Or.inr rfl))) (fun _ _ _ _ _ => (pts_one (pt_cmpR (((show OpR _ _ (rInD K) from op_inD hu1))) (pv 6) (pv 3) (by rfl)))) (fun _ _ _ _ _ => (pv 6)))
    (pss_cons (ps_set (i := 7) sc__law_cell_right.nd rfl (by first | exact Or.inl rfl | exact Or.inr rfl) (pe_m (call_g (G_History_versions T) (hr.mono (by decide)) pass0) (pv 0) (c_History T) (m_History_versions T) (pa_cons (pv 2) pa_nil)))
    (pss_cons (ps_if (PW.pt (pw_or (pt_cmpR (op_ne) (pe_callB (call_reprD (K := K) rfl hr.gd hu) (by rfl) (z_repr T) PyProof.Rows.boot_repr (pa_cons (pv 7) pa_nil)) (pe_callB (call_reprD (K := K) rfl hr.gd hu) (by rfl) (z_repr T) PyProof.Rows.boot_repr (pa_cons (pv 5) pa_nil)) (nomark _)) (pw_or1 (pt_cmpR (op_ne) (pe_mW0 (G_History_version_w1_cell_moment T) (hr.mono (by decide)) pass0 (pv 0) (c_History T) (m_History_version T) (pk_cons (pv 2) (pk_cons pe_non pk_nil))) (pe_ix ix_list (pv 3) (pe_un un_neg pe_int) (fun _ _ => rfl)) (nomark _))))) (pss_one (ps_ret pe_bl)) pss_nil)
    (pss_cons (ps_expr (pe_bm PySem.F.plainAttrs_list PySem.F.slot_list_append PySem.F.type_list_append mt_append (pv 7) (pa_cons pe_int pa_nil)))
    (pss_cons (ps_for PassesOwn.never rfl (pi_list (pv 5)) (pg_name (i := 6) sc__law_cell_right.nd rfl (by first | exact Or.inl rfl | exact Or.inr rfl))
    (pss_cons (ps_setLc (i := 4) rfl sc__law_cell_right.nd rfl rfl (sw_true rfl rfl rfl (by decide +kernel)) (pi_range1 rfl (z_range T) (pa_cons (pe_callB (call_len_seq) (by rfl) (z_len T) PySem.boot_len (pa_cons (pv 3) pa_nil)) pa_nil)) (blkOk_by (N := ["_law_made", "_law_rows_here", "_law_spot", "_law_due", "_law_when", "_law_known", "_law_one", "_law_told", "_law_k", "_law_first", "_law_last"]) (sc := defScope s__law_cell_right) (own := [("_law_k", 8)]) (by decide +kernel)) (fun _ _ _ _ _ => (pg_name (i := 8) sc__law_cell_right.nd rfl (by first | exact Or.inl rfl | exact Or.inr rfl))) (fun _ _ _ _ _ => (pts_one (pt_cmpR (op_eq) (pe_ix (show IxR _ (rIxL K) from ix_list) (pv 3) (pv 8) (fun _ _ => rfl)) (pv 6) (nomark _)))) (fun _ _ _ _ _ => (pv 8)))
    (pss_one (ps_if (PW.pt (pw_or (pt_cmpR (op_ne) (pe_callB (call_reprD (K := K) rfl hr.gd hu) (by rfl) (z_repr T) PyProof.Rows.boot_repr (pa_cons (pe_m (call_g (G_History_stands T) (hr.mono (by decide)) pass0) (pv 0) (c_History T) (m_History_stands T) (pa_cons (pv 2) (pa_cons (pv 6) pa_nil))) pa_nil)) (pe_callB (call_reprD (K := K) rfl hr.gd hu) (by rfl) (z_repr T) PyProof.Rows.boot_repr (pa_cons (pe_tup (pa_cons (pe_ix ix_list (pv 4) pe_int (fun _ _ => rfl)) (pa_cons (pe_op (op_add) (pe_ix ix_list (pv 4) (pe_un un_neg pe_int) (fun _ _ => rfl)) pe_int) pa_nil))) pa_nil)) (nomark _)) (pw_or1 (pt_cmpR (op_ne) (pe_callB (call_len_seq) (by rfl) (z_len T) PySem.boot_len (pa_cons (pv 4) pa_nil)) (pe_op (op_sub) (pe_op (op_add) (pe_ix ix_list (pv 4) (pe_un un_neg pe_int) (fun _ _ => rfl)) pe_int) (pe_ix ix_list (pv 4) pe_int (fun _ _ => rfl))) (nomark _))))) (pss_one (ps_ret pe_bl)) pss_nil))))
    (pss_cons (ps_for PassesOwn.never rfl (pi_enum rfl (z_enumerate T) (pa_cons (pv 1) pa_nil)) (pg_tupK (K := K) (n := 2) rfl rfl (pgs_cons (pg_name (i := 8) sc__law_cell_right.nd rfl (by first | exact Or.inl rfl | exact Or.inr rfl)) (pgs_cons (pg_tupK (K := K) (n := 2) rfl rfl (pgs_cons (pg_name (i := 9) sc__law_cell_right.nd rfl (by first | exact Or.inl rfl | exact Or.inr rfl)) (pgs_cons (pg_name (i := 10) sc__law_cell_right.nd rfl (by first | exact Or.inl rfl | exact Or.inr rfl)) pgs_nil))) pgs_nil)))
    (pss_cons (ps_if (pt_cmpR (op_ne) (pe_callB (call_reprD (K := K) rfl hr.gd hu) (by rfl) (z_repr T) PyProof.Rows.boot_repr (pa_cons (pe_m (call_g (G_History_touches T) (hr.mono (by decide)) pass0) (pv 0) (c_History T) (m_History_touches T) (pa_cons (pe_op (op_add) (pv 8) pe_int) (pa_cons (pv 2) pa_nil))) pa_nil)) (pe_callB (call_reprD (K := K) rfl hr.gd hu) (by rfl) (z_repr T) PyProof.Rows.boot_repr (pa_cons (pe_and (pe_cmpR op_le (pv 9) (pv 2) (nomark _)) (pe_one (pe_cmpR op_le (pv 2) (pv 10) (nomark _)))) pa_nil)) (nomark _)) (pss_one (ps_ret pe_bl)) pss_nil)
    (pss_one (ps_if (pt_cmpR (op_ne) (pe_mW0 (G_History_touches_w1_cell_number T) (hr.mono (by decide)) pass0 (pv 0) (c_History T) (m_History_touches T) (pk_cons (pv 2) (pk_cons (pe_op (op_add) (pv 8) pe_int) pk_nil))) (pe_m (call_g (G_History_touches T) (hr.mono (by decide)) pass0) (pv 0) (c_History T) (m_History_touches T) (pa_cons (pe_op (op_add) (pv 8) pe_int) (pa_cons (pv 2) pa_nil))) (nomark _)) (pss_one (ps_ret pe_bl)) pss_nil))))
    (pss_one (ps_ret (pe_cmpR (op_eqD hu) (pe_mW0 (G_History_versions_w1_cell T) (hr.mono (by decide)) pass0 (pv 0) (c_History T) (m_History_versions T) (pk_cons (pv 2) pk_nil)) (pv 5) (nomark _)))))))))))), ?_⟩
  walk_at "vc"
  obtain ⟨S, rows, c, oS, hh, dr, rfl, ho, hz, q⟩ := h
  obtain ⟨ra, rxs, rfl, nra, era, dra⟩ := id dr.ls
  obtain ⟨ma, mdx, mt, rfl, ema⟩ := id hh.at
  have hrl := dra.len
  have C := ((Ctx.start (T0 := []) oS subNil).add dr).addA (A := hist K rows) hh
  have rl : ∀ (R : It → Hp → Prop) (σ : L2.St) (H' : Hp), Kp [] H H' → σ[1]? = some (some (V.ref ra)) → R (Itr 0 (rows.length + 1)) H' → iRng1 (tCons (tOp (rI0 fun i j => .int (i + j)) (tCB (fun xs H Q => ∃ p, xs = [V.ref p] ∧ ∃ x, (SqL K H p x ∨ SqT K H p x) ∧ Q (V.int x.length) H) (tCons (tVar 1) tNil)) (tC (.int 1))) tNil) σ H' R := by
    intro R σ H' k e hR
    walk_at "vc"
    refine ⟨_, e, _, rfl, _, .inl (SqL.of (k _ _ subNil' era)), by omega, by omega, ?_⟩
    rw [show ((rxs.length : Int) + 1).toNat = rows.length + 1 by omega]
    exact hR
  refine tLc_n (lo := 0) (n := rows.length + 1) C (fun i => (List.range i).map fun w : Nat => ((ver rows c w : Nat) : Int)) (fun R hR => rl R _ _ .refl rfl hR) rfl ?_ ?_
  · intro D j H' hj C
    walk_at "vc"
    refine ⟨_, _, _, ⟨rfl, rfl, rfl⟩, D :: S, C.old, rows, C.d (by walk_at "m"), c, rfl, j, by rw [Int.zero_add], by omega, by omega, fun H2 k2 => ?_⟩
    refine (C.pure k2).put 0 rfl (a := ((ver rows c j : Nat) : Int)) (Dx.int _) (by rw [List.range_succ, List.map_append]; rfl) ?_
    rw [List.length_map, List.length_range]
    exact pos_lt (by omega)
  · intro D1 H1 nD1 C
    have C1 := C.freeze nD1
    change Ctx H [] S S [] ((V.ref D1, dat (dueL rows c)) :: _) H1 at C1
    refine tLc_n (lo := 0) (n := rows.length + 1) C1 (fun i => (List.range i).map fun w : Nat => ((ver rows c w : Nat) : Int)) (fun R hR => rl R _ _ C1.kp rfl hR) rfl ?_ ?_
    · intro D j H' hj C
      walk_at "vc"
      obtain ⟨a, dx, t, e0, e⟩ := Hist.at (C.get (A := hist K rows) (by walk_at "m"))
      cases e0
      refine ⟨_, _, e, rfl, _, _, _, rfl, D :: S, rows, c, j, C.get (A := hist K rows) (by walk_at "m"), rfl, .inr (by rw [Int.zero_add]), by omega, by omega, ?_⟩
      refine C.put 0 rfl (a := ((ver rows c j : Nat) : Int)) (Dx.int _) (by rw [List.range_succ, List.map_append]; rfl) ?_
      rw [List.length_map, List.length_range]
      exact pos_lt (by omega)
    · intro D2 H2 nD2 C
      have C2 := C.freeze nD2
      change Ctx H [] S S [] ((V.ref D2, dat (dueL rows c)) :: _) H2 at C2
      refine neD_f (C2.d (a := dueL rows c) (by walk_at "m")) (C2.d (a := dueL rows c) (by walk_at "m")) (by decide) rfl ?_
      have dueLast : (dueL rows c).getLast? = some ((ver rows c rows.length : Nat) : Int) := by
        unfold dueL
        rw [List.range_succ, List.map_append]
        exact List.getLast?_concat
      refine ⟨_, rfl, _, _, C2.kp _ _ subNil' ema, rfl, _, _, _, rfl, S, rows, c, rows.length, C2.get (A := hist K rows) (by walk_at "m"), rfl, .inl ⟨rfl, rfl⟩, Nat.le_refl _, by omega, ?_⟩
      refine ixD_last (C2.d (a := dueL rows c) (by walk_at "m")) dueLast fun v dv => ?_
      cases dv
      refine neI_f rfl ?_
      refine tLc_n (lo := 0) (n := rows.length + 1) C2 (fun i => ((List.range i).map fun j : Nat => (j : Int)).filter fun z => decide (z ∈ dueL rows c)) (fun R hR => rl R _ _ C2.kp rfl hR) rfl ?_ ?_
      · intro D j H' hj C
        walk_at "vc"
        rw [Int.zero_add]
        refine rInD_of (S := []) (a := (j : Int)) (Dx.int _) (C.d (a := dueL rows c) (by walk_at "m")) (by decide) ⟨_, rfl, ?_⟩
        have fl : (((List.range j).map fun j : Nat => (j : Int)).filter fun z => decide (z ∈ dueL rows c)).length ≤ j := by
          refine Nat.le_trans (List.length_filter_le _ _) ?_
          rw [List.length_map, List.length_range]
          exact Nat.le_refl _
        split
        · rename_i hm
          exact C.put 0 rfl (a := (j : Int)) (Dx.int _) (by rw [List.range_succ, List.map_append, List.filter_append, List.map_singleton, List.filter_cons, if_pos hm]; rfl) (pos_lt (by omega))
        · rename_i hm
          rw [show (((List.range (j + 1)).map fun j : Nat => (j : Int)).filter fun z => decide (z ∈ dueL rows c)) = ((List.range j).map fun j : Nat => (j : Int)).filter fun z => decide (z ∈ dueL rows c) by
            rw [List.range_succ, List.map_append, List.filter_append, List.map_singleton, List.filter_cons, if_neg hm]; exact List.append_nil _]
          exact C
      · intro D3 H3 nD3 C
        rw [known_eq] at C
        have C3 := C.freeze nD3
        refine ⟨_, rfl, _, _, C3.kp _ _ subNil' ema, rfl, _, _, rfl, S, rows, c, C3.old, C3.get (A := hist K rows) (by walk_at "m"), rfl, by omega, fun p H4 k4 hp e4 => ?_⟩
        have C4 := C3.adopt (l := vers rows c) k4 hp e4 (DxA.ints _)
        have nS : p ∉ S := C3.no hp
        have sv : Shw (Lw.En.enc (vers rows c)) 300000 := (Shw.ints fun n hn => by
          have := vers_mem hn
          have e : n = ((n.toNat : Nat) : Int) := by omega
          rw [e]
          exact Sm.nat (by omega)).mono (by have := vers_len rows c; omega)
        have dv : (Lw.En.enc (vers rows c)).depth ≤ 60 := Nat.le_trans (Py.dle (vers rows c)) (by decide)
        refine rRepr_of (De.mkLs (S := S) nS e4 (DxA.ints _)) sv (Nat.le_refl _) dv (rRepr_of (C4.d (a := vers rows c) (by walk_at "m")) sv (Nat.le_refl _) dv (neS_f rfl ?_))
        refine ⟨_, rfl, _, _, C4.kp _ _ subNil' ema, rfl, _, _, _, rfl, p :: S, rows, c, rows.length, C4.get (A := hist K rows) (by walk_at "m"), rfl, .inl ⟨rfl, rfl⟩, Nat.le_refl _, by omega, ?_⟩
        refine ixD_last (C4.d (a := dueL rows c) (by walk_at "m")) dueLast fun v dv0 => ?_
        cases dv0
        refine neI_f rfl ⟨.inl ⟨rfl, _, SqL.of e4⟩, C4.app 0 rfl (a := (7 : Int)) (Dx.int 7) (by have := vers_len rows c; exact pos_lt (by omega)) fun H5 C5 => ?_⟩
        have C6 := C5.freeze nS
        refine tFor_l C6 (C6.d (a := vers rows c) (by walk_at "m")) rfl (fun F j σ H' => (∃ u4 u6 u8, σ = [some (.ref ma), some (.ref ra), some (.int c), some (.ref D1), u4, some (.ref D3), u6, some (.ref p), u8, none, none]) ∧ Ctx H [] S S [] (F :: _) H') (fun F j σ H' ⟨_, C2⟩ => ⟨_, _, fun _ h => h, C2⟩) (fun F C2 => ⟨⟨_, _, _, rfl⟩, C2⟩) ?_ ?_
        · rintro F j x v σ H7 hv hx ⟨⟨u4, u6, u8, rfl⟩, C7⟩
          cases (hx _ _ C7)
          have hvm : v ∈ vers rows c := List.mem_of_getElem? hv
          walk_at "vc"
          refine tLc_n (lo := 0) (n := rows.length + 1) C7 (fun i => ((List.range i).filter fun k => decide (((ver rows c k : Nat) : Int) = v)).map fun k : Nat => (k : Int)) (fun R hR => ?_) rfl ?_ ?_
          · walk_at "vc"
            obtain ⟨a, xs, e0, _, e, d⟩ := (C7.d (v := .ref D1) (a := dueL rows c) (by walk_at "m")).ls
            cases e0
            have hl := d.len
            rw [dueL_len] at hl
            refine ⟨_, .inl (SqL.of e), by omega, by omega, ?_⟩
            rw [show ((xs.length : Int)).toNat = rows.length + 1 by omega]
            exact hR
          · intro D j H' hj C
            walk_at "vc"
            rw [Int.zero_add]
            refine ixD (C.d (a := dueL rows c) (by walk_at "m")) (n := j) rfl (dueL_get hj) fun y dy => ?_
            cases dy
            refine rEq_int.mpr ⟨_, rfl, ?_⟩
            have fl : (((List.range j).filter fun k => decide (((ver rows c k : Nat) : Int) = v)).map fun k : Nat => (k : Int)).length ≤ j := by
              rw [List.length_map]
              refine Nat.le_trans (List.length_filter_le _ _) ?_
              rw [List.length_range]
              exact Nat.le_refl _
            split
            · rename_i hm
              exact C.put 0 rfl (a := (j : Int)) (Dx.int _) (by rw [List.range_succ, List.filter_append, List.filter_cons, if_pos hm, List.map_append]; rfl) (pos_lt (by omega))
            · rename_i hm
              rw [show ((List.range (j + 1)).filter fun k => decide (((ver rows c k : Nat) : Int) = v)) = (List.range j).filter fun k => decide (((ver rows c k : Nat) : Int) = v) by
                rw [List.range_succ, List.filter_append, List.filter_cons, if_neg hm]; exact List.append_nil _]
              exact C
          · intro D H8 nD C
            have C8 := C.freeze nD
            change Ctx H [] S S [] ((V.ref D, dat (whenL rows c v)) :: _) H8 at C8
            walk_at "vc"
            have hst := stop_le hvm
            have sm : ∀ z : Int, 0 ≤ z → z ≤ 1000 → Sm z := fun z h1 h2 => by
              rw [show z = ((z.toNat : Nat) : Int) by omega]
              exact Sm.nat (by omega)
            refine ⟨_, _, C8.kp _ _ subNil' ema, rfl, _, _, _, rfl, S, rows, c, v, C8.old, C8.get (A := hist K rows) (by walk_at "m"), rfl, rfl, hvm, by omega, fun u H9 k9 d9 => ?_⟩
            have C9 := C8.pure k9
            refine rRepr_of d9 (Shw.pair (sm _ (by show 0 ≤ v; omega) (by show v ≤ 1000; omega)) (sm _ (by show 0 ≤ stop _ _ _; omega) (by show stop _ _ _ ≤ 1000; omega))) (by decide) (Nat.le_trans (Py.dle _) (by decide)) ?_
            refine ixD (C9.d (a := whenL rows c v) (by walk_at "m")) (n := 0) rfl (when_0 hvm) fun y dy => ?_
            cases dy
            refine ixD_last (C9.d (a := whenL rows c v) (by walk_at "m")) (when_last hvm) fun y dy => ?_
            cases dy
            refine ⟨_, rfl, by decide, fun t ht => ?_⟩
            have es : stop (vers rows c) v (rows.length + 1) - 1 + 1 = stop (vers rows c) v (rows.length + 1) := by omega
            rw [es]
            have C10 := C9.pure (.new (o := .tup [.int v, .int (stop (vers rows c) v (rows.length + 1))]) ht)
            refine rRepr_of (De.mk2 (C9.no ht) upd_same) (Shw.pair (p := (v, stop (vers rows c) v (rows.length + 1))) (sm _ (by show 0 ≤ v; omega) (by show v ≤ 1000; omega)) (sm _ (by show 0 ≤ stop _ _ _; omega) (by show stop _ _ _ ≤ 1000; omega))) (by decide) (Nat.le_trans (Py.dle (α := Int × Int) _) (by decide)) (neS_f rfl ?_)
            have dw := C10.d (a := whenL rows c v) (by walk_at "m")
            obtain ⟨a, xs, e0, _, e, d⟩ := id dw.ls
            cases e0
            refine ⟨_, .inl (SqL.of e), ixD_last dw (when_last hvm) fun y dy => ?_⟩
            cases dy
            refine ⟨_, rfl, ixD dw (n := 0) rfl (when_0 hvm) fun y dy => ?_⟩
            cases dy
            have hwl := when_len hvm
            have hdl := d.len
            exact ⟨_, rfl, iteF (by rw [decide_eq_true (by omega)]; rfl) ⟨⟨_, rfl⟩, C10.less fun f hf => List.mem_cons_of_mem _ hf⟩⟩
        · rintro F σ H7 ⟨⟨u4, u6, u8, rfl⟩, C7⟩
          walk_at "vc"
          refine tFor_w ?_
          walk_at "vc"
          have C7 := C7.less (L' := [(V.ref D3, dat (vers rows c)), (V.ref ma, hist K rows)]) fun f hf => by
            simp only [List.mem_cons, List.not_mem_nil, or_false] at hf ⊢
            rcases hf with h | h <;> simp [h]
          refine ⟨⟨_, SqL.of (C7.kp _ _ subNil' era)⟩, LoopOK.it (walk_enum (xs := rxs)) (fun i σ H' => (∃ u8 u9 u10, σ = [some (.ref ma), some (.ref ra), some (.int c), some (.ref D1), u4, some (.ref D3), u6, some (.ref p), u8, u9, u10]) ∧ Ctx H [] S S [] [(V.ref D3, dat (vers rows c)), (V.ref ma, hist K rows)] H') ⟨⟨_, _, _, rfl⟩, C7⟩ (fun i σ H' _ ⟨_, C⟩ => SqL.of (C.kp _ _ subNil' era)) ?_ ?_⟩
          · rintro i x σ H8 H9 hi ⟨⟨u8, u9, u10, rfl⟩, C⟩ ⟨T, x1, y1, rfl, hT, rfl, h1, h2⟩
            cases h1
            obtain ⟨r, hr, dr2⟩ := dra.of h2
            obtain ⟨b, rfl, nb, eb⟩ := De.ints dr2
            have C2 := C.pure (.new (o := .tup [.int (i : Nat), .ref b]) hT)
            have e3 := C2.kp _ _ subNil' eb
            walk_at "vc"
            refine ⟨_, SqT.of upd_same, rfl, _, _, rfl, _, _, rfl, _, rfl, _, SqT.of e3, rfl, _, _, rfl, _, _, rfl, rfl, rfl, _, _, C2.kp _ _ subNil' ema, rfl, _, rfl, ?_⟩
            generalize upd H8 T (.tup [.int (i : Nat), .ref b]) = H9 at C2 e3
            refine ⟨_, _, _, rfl, S, rows, c, i, r, C2.get (A := hist K rows) (by walk_at "m"), rfl, hr, rfl, ?_⟩
            refine rRepr_b ⟨_, rfl, andV (f := fun x => decide (c ≤ x)) (fun b => rReprD K [.bl b] H9 _) (rRepr_b (neS_f rfl ?_))⟩
            refine ⟨_, _, C2.kp _ _ subNil' ema, rfl, _, rfl, _, _, _, rfl, S, rows, c, i, r, C2.get (A := hist K rows) (by walk_at "m"), rfl, hr, rfl, ?_⟩
            refine ⟨_, _, C2.kp _ _ subNil' ema, rfl, _, rfl, _, _, _, rfl, S, rows, c, i, r, C2.get (A := hist K rows) (by walk_at "m"), rfl, hr, rfl, ?_⟩
            exact ⟨rfl, _, rfl, iteF (by simp) ⟨⟨_, rfl⟩, C2⟩⟩
          · rintro σ H8 ⟨⟨u8, u9, u10, rfl⟩, C⟩
            walk_at "vc"
            refine ⟨_, _, C.kp _ _ subNil' ema, rfl, _, _, rfl, S, rows, c, C.old, C.get (A := hist K rows) (by walk_at "m"), rfl, by omega, fun p2 H9 k9 hp9 e9 => ?_⟩
            refine rEqD_of (S := S) (a := vers rows c) (De.mkLs (C.no hp9) e9 (DxA.ints _)) ((C.pure k9).d (by walk_at "m")) (by decide) ?_
            rw [decide_eq_true rfl]
            exact q _ (C.pure k9).kp
theorem G__law_cell_right (T : Tx K mg) : FnG P w K mg base CX0 9 (ga K "_law_cell_right") (P__law_cell_right K) := by
  obtain ⟨fd, F⟩ := F__law_cell_right T
  have b : L2.Binds K fd ["_law_made", "_law_rows_here", "_law_spot"] [] := F.bindsN fun _ _ _ _ _ _ us hl => match us, hl with | [_, _, _], _ => rfl
  exact fnG_pl F sc__law_cell_right b sp3_len (B__law_cell_right T)
end Hd

set_option Elab.async false
set_option linter.all false
set_option maxRecDepth 100000
set_option maxHeartbeats 4000000
namespace Hd
open PySem PySem.Spec PyProof.Rows L2 He Lw StX
open Lw.En (enc)
local macro_rules | `(tactic| walk_at "vc") => `(tactic| simp only [tSeq, tAsg, tRet, tRetN, tDrop, tNext, tIfS, tNever, tVar, tC, tOp, tUn, tTest, tB, tNot, tAnd, tOr, tAndV, tOrV, tNotV, tIf, tChain, tCmp, t2I, tCB, tCons, tNil, tTup, tLst, tMC, tFld, sFld, tPr, gName, wipe, List.foldl_cons, List.foldl_nil, tYes, iTup, iList, iEnum, iEnumT, iEnumK, iRng1, iRng2, iRng3, gNil, gCons, gTup, gUnl, gSub, tPar, rI, rI0, rU, tIsN, tNotN, tSl, tPart, tNoPart, tThen, rMk, tStar, tBM, tM1, tLoc, tCM, tCMW, tMW, tCW,
  assignEach, cxOf, L2.start, List.map_cons, List.map_nil, List.length_cons, List.length_nil, List.replicate, List.cons_append, List.nil_append, List.getElem?_cons_zero, List.getElem?_cons_succ, List.set_cons_zero, List.set_cons_succ, Option.some.injEq, V.int.injEq, V.bl.injEq, V.ref.injEq, V.str.injEq, exists_eq_left', exists_eq_left, exists_eq_right', exists_eq_right, exists_and_left, exists_and_right, true_and, and_true, List.cons.injEq, List.cons_ne_nil, reduceCtorEq, false_and, and_false, exists_false, if_true, if_false, Bool.false_eq_true, Bool.true_eq_false, eq_self, forall_eq, forall_eq', rEq_int, rNe_int, rEq_str, rNe_str])

local macro_rules | `(tactic| walk_at "m") => `(tactic| first | exact List.Mem.head _ | (apply List.Mem.tail; walk_at "m"))

variable {P : Program} {w : World} {K : Frag} {mg : Str → Option Value} {base : Heap}
theorem ver_take {es : List (Int × Int)} {c : Int} {i : Nat} : ∀ {k : Nat}, k ≤ i → ver (es.take i) c k = ver es c k
  | 0, _ => rfl
  | k + 1, h => by
    show (if ((es.take i)[k]?.any fun p => tch p c) = true then _ else ver (es.take i) c k) = (if (es[k]?.any fun p => tch p c) = true then _ else ver es c k)
    rw [List.getElem?_take_of_lt (by omega), ver_take (by omega)]
theorem sc__law_until_right : FnScope ["_law_made", "_law_rows_here", "_law_spots_here", "_law_when", "_law_part", "_law_spot", "_law_k"] ["_law_made", "_law_rows_here", "_law_spots_here"] (defScope s__law_until_right) := ⟨rfl, rfl, rfl, by decide +kernel, rfl, by decide +kernel, by decide +kernel⟩
theorem B__law_until_right (T : Tx K mg) : BodyG CX0 P w K mg base ["_law_made", "_law_rows_here", "_law_spots_here", "_law_when", "_law_part", "_law_spot", "_law_k"] "_law_until_right" (defScope s__law_until_right) (defBody s__law_until_right) 10 (ga K "_law_until_right") (P__law_until_right K) := by
  intro cdv A outer s H vs Q E hr h
  have hu := hr.units
  have hu1 := hr.units1
  obtain ⟨x_made, x_rows_here, x_spots_here, rfl, h⟩ := h
  refine ⟨_, PSs.nox (pss_cons (ps_for PassesOwn.never rfl (pi_range1 rfl (z_range T) (pa_cons (pe_op (op_add) (pe_callB (call_len_seq) (by rfl) (z_len T) PySem.boot_len (pa_cons (pv 1) pa_nil)) pe_int) pa_nil)) (pg_name (i := 3) sc__law_until_right.nd rfl (by first | exact Or.inl rfl | exact Or.inr rfl))
    (pss_cons (ps_set (i := 4) sc__law_until_right.nd rfl (by first | exact Or.inl rfl | exact Or.inr rfl) (pe_m (call_g (G_History_until T) (hr.mono (by decide)) pass0) (pv 0) (c_History T) (m_History_until T) (pa_cons (pv 3) pa_nil)))
    (pss_cons (ps_if (PW.pt (pw_or (pt_cmpR (op_ne) (pe_pr (pv 4) (c_History T) (p_History_moment T) (G_History_moment T) (hr.mono (by decide)) pass0) (pv 3) (nomark _)) (pw_or (pt_cmpR (op_ne) (pe_callB (call_lenOwn (m_History_len T).at_ (m_History_len T).fn (G_History_len T) (hr.mono (by decide)) pass0) (by rfl) (z_len T) PySem.boot_len (pa_cons (pv 4) pa_nil)) (pv 3) (nomark _)) (pw_or1 (pt_cmpR ((op_neO (eq_History T) (G_History_eq T) (hr.mono (by decide)) pass0)) (pv 4) (pe_c (call_g (G__law_past T) (hr.mono (by decide)) pass0) (kp__law_past T) rfl (g__law_past T) (pa_cons (pe_slice sl_list (pv 1) po_none (po_some (pv 3))) pa_nil)) (nomark _)))))) (pss_one (ps_ret pe_bl)) pss_nil)
    (pss_cons (ps_if (pt_cmpR ((op_neD hu)) (pe_lc rfl sc__law_until_right.nd (pi_list (pv 2)) (blkOk_by (N := ["_law_made", "_law_rows_here", "_law_spots_here", "_law_when", "_law_part", "_law_spot", "_law_k"]) (sc := defScope s__law_until_right) (own := [("_law_spot", 5)]) (by decide +kernel)) (fun _ _ _ _ _ => (pg_name (i := 5) sc__law_until_right.nd rfl (by first | exact Or.inl rfl | exact Or.inr rfl))) (fun _ _ _ _ _ => pts_nil) (fun _ _ _ _ _ => (pe_m (call_g (G_History_version_1 T) (hr.mono (by decide)) pass0) (pv 4) (c_History T) (m_History_version T) (pa_cons (pv 5) pa_nil)))) (pe_lc rfl sc__law_until_right.nd (pi_list (pv 2)) (blkOk_by (N := ["_law_made", "_law_rows_here", "_law_spots_here", "_law_when", "_law_part", "_law_spot", "_law_k"]) (sc := defScope s__law_until_right) (own := [("_law_spot", 5)]) (by decide +kernel)) (fun _ _ _ _ _ => (pg_name (i := 5) sc__law_until_right.nd rfl (by first | exact Or.inl rfl | exact Or.inr rfl))) (fun _ _ _ _ _ => pts_nil) (fun _ _ _ _ _ => (pe_m (call_g (G_History_version T) (hr.mono (by decide)) pass0) (pv 0) (c_History T) (m_History_version T) (pa_cons (pv 5) (pa_cons (pv 3) pa_nil))))) (nomark _)) (pss_one (ps_ret pe_bl)) pss_nil)
    (pss_one (ps_if (pt_cmpR ((op_neD hu)) (pe_lc rfl sc__law_until_right.nd (pi_range1 rfl (z_range T) (pa_cons (pv 3) pa_nil)) (blkOk_by (N := ["_law_made", "_law_rows_here", "_law_spots_here", "_law_when", "_law_part", "_law_spot", "_law_k"]) (sc := defScope s__law_until_right) (own := [("_law_k", 6)]) (by decide +kernel)) (fun _ _ _ _ _ => (pg_name (i := 6) sc__law_until_right.nd rfl (by first | exact Or.inl rfl | exact Or.inr rfl))) (fun _ _ _ _ _ => pts_nil) (fun _ _ _ _ _ => (pe_getOwn (get_History T) (G_History_getitem T) (hr.mono (by decide)) pass0 (pv 4) (pe_op (op_add) (pv 6) pe_int)))) (pe_slice sl_list (pv 1) po_none (po_some (pv 3))) (nomark _)) (pss_one (ps_ret pe_bl)) pss_nil))))))
    (pss_one (ps_ret (pe_cmpR (op_eqO (eq_History T) (G_History_eq T) (hr.mono (by decide)) pass0) (pe_mW0 (G_History_until_w1_moment T) (hr.mono (by decide)) pass0 (pv 0) (c_History T) (m_History_until T) (pk_cons (pe_callB (call_len_seq) (by rfl) (z_len T) PySem.boot_len (pa_cons (pv 1) pa_nil)) pk_nil)) (pv 0) (nomark _))))), ?_⟩
  walk_at "vc"
  obtain ⟨S, rows, ns, oS, hh, dr, ds, ho, hz, hns, q⟩ := h
  obtain ⟨ra, rxs, rfl, nra, era, dra⟩ := id dr.ls
  obtain ⟨ma, mdx, mt, rfl, ema⟩ := id hh.at
  obtain ⟨sa, sxs, rfl, nsa, esa, dsa⟩ := id ds.ls
  have hrl := dra.len
  have C := (((Ctx.start (T0 := []) oS subNil).add dr).add ds).addA (A := hist K rows) hh
  refine tFor_w ?_
  walk_at "vc"
  refine ⟨_, .inl (SqL.of era), by omega, by omega, ?_⟩
  rw [show ((rxs.length : Int) + 1).toNat = rows.length + 1 by omega]
  refine LoopOK.it walk_range (fun i σ H' => (∃ u3 u4 u5 u6, σ = [some (.ref ma), some (.ref ra), some (.ref sa), u3, u4, u5, u6]) ∧ Ctx H [] S S [] _ H') ⟨⟨_, _, _, _, rfl⟩, C⟩ (fun _ _ _ _ _ => trivial) ?_ ?_
  · rintro i x σ H1 H2 hi ⟨⟨u3, u4, u5, u6, rfl⟩, C⟩ ⟨rfl, rfl⟩
    simp only [Int.zero_add]
    walk_at "vc"
    refine ⟨_, _, C.kp _ _ subNil' ema, rfl, _, _, rfl, S, rows, i, C.old, C.get (A := hist K rows) (by walk_at "m"), rfl, by omega, ho, by omega, fun v H3 k3 h3 => ?_⟩
    have C3 := (C.pure k3).addA (A := hist K (rows.take i)) h3
    obtain ⟨va, vdx, vt, rfl, eva⟩ := id h3.at
    have htl : (rows.take i).length = i := by rw [List.length_take]; omega
    have oti : Ords (rows.take i) := fun p hp => ho p (List.mem_of_mem_take hp)
    refine ⟨va, rfl, ⟨_, _, eva⟩, _, rfl, S, rows.take i, C3.get (A := hist K (rows.take i)) (by walk_at "m"), neI_f (by rw [htl]) ?_⟩
    refine ⟨va, _, _, rfl, eva, _, rfl, S, rows.take i, C3.get (A := hist K (rows.take i)) (by walk_at "m"), _, rfl, by omega, by omega, neI_f (by rw [htl]) ?_⟩
    refine slD_take C3.old (C3.d (v := .ref ra) (a := rows) (by walk_at "m")) (by omega) fun w H4 k4 d4 => ?_
    have C4 := (C3.pure k4).add d4
    refine ⟨_, rfl, S, rows.take i, C4.old, C4.d (by walk_at "m"), oti, by omega, fun pv H5 k5 h5 => ?_⟩
    have C5 := C4.pure k5
    obtain ⟨pa, pdx, pt, rfl, epa⟩ := id h5.at
    have k35 := k4.trans k5
    refine ⟨va, _, _, rfl, k35 _ _ subNil' eva, .inr ⟨_, _, _, rfl, epa⟩, _, _, rfl, S, rows.take i, C5.get (A := hist K (rows.take i)) (by walk_at "m"), .inl ⟨S, rows.take i, h5, _, rfl, _, rfl, iteF (by rw [decide_eq_true rfl]; rfl) ?_⟩⟩
    refine tLc_l C5 (C5.d (v := .ref sa) (a := ns) (by walk_at "m")) rfl (fun j => (ns.take j).map fun c => ((ver rows c i : Nat) : Int)) rfl ?_ ?_
    · intro F D j x c H' hc C hx
      cases hx
      have hcl := (List.getElem?_eq_some_iff.mp hc).1
      walk_at "vc"
      obtain ⟨_, dx, t, e0, e⟩ := Hist.at (C.get (v := .ref va) (A := hist K (rows.take i)) (by walk_at "m"))
      cases e0
      refine ⟨_, _, e, rfl, _, _, _, rfl, D :: S, rows.take i, c, i, C.get (A := hist K (rows.take i)) (by walk_at "m"), rfl, .inl ⟨rfl, htl.symm⟩, by omega, by omega, ?_⟩
      rw [ver_take (Nat.le_refl i)]
      refine C.put 0 rfl (a := ((ver rows c i : Nat) : Int)) (Dx.int _) (by rw [take_snoc hc, List.map_append]; rfl) (pos_lt ?_)
      rw [List.length_map, List.length_take]
      omega
    · intro D6 H6 nD6 C
      rw [List.take_length] at C
      have C6 := C.freeze nD6
      refine tLc_l C6 (C6.d (v := .ref sa) (a := ns) (by walk_at "m")) rfl (fun j => (ns.take j).map fun c => ((ver rows c i : Nat) : Int)) rfl ?_ ?_
      · intro F D j x c H' hc C hx
        cases hx
        have hcl := (List.getElem?_eq_some_iff.mp hc).1
        walk_at "vc"
        refine ⟨_, _, C.kp _ _ subNil' ema, rfl, _, _, _, rfl, D :: S, rows, c, i, C.get (A := hist K rows) (by walk_at "m"), rfl, .inr rfl, by omega, by omega, ?_⟩
        refine C.put 0 rfl (a := ((ver rows c i : Nat) : Int)) (Dx.int _) (by rw [take_snoc hc, List.map_append]; rfl) (pos_lt ?_)
        rw [List.length_map, List.length_take]
        omega
      · intro D7 H7 nD7 C
        rw [List.take_length] at C
        have C7 := C.freeze nD7
        refine neD_f (C7.d (v := .ref D6) (a := ns.map fun c => ((ver rows c i : Nat) : Int)) (by walk_at "m")) (C7.d (a := ns.map fun c => ((ver rows c i : Nat) : Int)) (by walk_at "m")) (by decide) rfl ?_
        refine tLc_n (lo := 0) (n := i) C7 (fun j => rows.take j) (fun R hR => ?_) rfl ?_ ?_
        · walk_at "vc"
          exact ⟨by omega, by omega, hR⟩
        · intro D j H' hj C
          simp only [Int.zero_add]
          walk_at "vc"
          obtain ⟨p, hp⟩ : ∃ p, rows[j]? = some p := ⟨_, List.getElem?_eq_getElem (by omega)⟩
          obtain ⟨_, dx, t, e0, e⟩ := Hist.at (C.get (v := .ref va) (A := hist K (rows.take i)) (by walk_at "m"))
          cases e0
          refine ⟨va, _, _, rfl, e, _, _, rfl, D :: S, rows.take i, j, p, C.get (A := hist K (rows.take i)) (by walk_at "m"), rfl, by rw [List.getElem?_take_of_lt hj]; exact hp, fun y dy => C.put 0 rfl dy (take_snoc hp) (pos_lt ?_)⟩
          rw [List.length_take]
          omega
        · intro D8 H8 nD8 C
          have C8 := C.freeze nD8
          refine slD_take C8.old (C8.d (v := .ref ra) (a := rows) (by walk_at "m")) (by omega) fun w H9 k9 d9 => ?_
          have C9 := C8.pure k9
          refine neD_f (C9.d (v := .ref D8) (a := rows.take i) (by walk_at "m")) d9 (by decide) rfl ⟨⟨_, rfl⟩, C9.less fun f hf => ?_⟩
          simp only [List.mem_cons, List.not_mem_nil, or_false] at hf ⊢
          rcases hf with h | h | h <;> simp [h]
  · rintro σ H1 ⟨⟨u3, u4, u5, u6, rfl⟩, C⟩
    walk_at "vc"
    refine ⟨_, _, C.kp _ _ subNil' ema, rfl, _, .inl (SqL.of (C.kp _ _ subNil' era)), _, _, rfl, S, rows, rxs.length, C.old, C.get (A := hist K rows) (by walk_at "m"), rfl, by omega, ho, by omega, fun v H3 k3 h3 => ?_⟩
    have C3 := C.pure k3
    rw [hrl, List.take_length] at h3
    obtain ⟨va, vdx, vt, rfl, eva⟩ := id h3.at
    refine ⟨_, _, _, rfl, eva, .inr ⟨_, _, _, rfl, C3.kp _ _ subNil' ema⟩, _, _, rfl, S, rows, h3, .inl ⟨S, rows, C3.get (A := hist K rows) (by walk_at "m"), _, rfl, ?_⟩⟩
    rw [decide_eq_true rfl]
    exact q _ C3.kp
theorem G__law_until_right (T : Tx K mg) : FnG P w K mg base CX0 11 (ga K "_law_until_right") (P__law_until_right K) := by
  obtain ⟨fd, F⟩ := F__law_until_right T
  have b : L2.Binds K fd ["_law_made", "_law_rows_here", "_law_spots_here"] [] := F.bindsN fun _ _ _ _ _ _ us hl => match us, hl with | [_, _, _], _ => rfl
  exact fnG_pl F sc__law_until_right b sp3_len (B__law_until_right T)
theorem pair_text (p : Int × Int) : pairT p = Str.ofString "(" ++ Str.ofString (toString p.1) ++ Str.ofString ", " ++ Str.ofString (toString p.2) ++ Str.ofString ")" := by
  have e : pairT p = ("(" : Str) ++ (Str.ofString (toString p.1) ++ (", " : Str) ++ Str.ofString (toString p.2)) ++ (")" : Str) := by
    unfold pairT
    show (PyData.tuple [.int p.1, .int p.2]).shown = _
    simp only [PyData.shown, PyData.shownAll, tupleText, Str.join]
    rfl
  rw [e, Str.append_assoc (Str.ofString (toString p.1)), ← Str.append_assoc (Str.ofString "("), ← Str.append_assoc]
theorem sc__law_shown_right : FnScope ["_law_made", "_law_rows_here", "_law_due", "_law_first", "_law_last"] ["_law_made", "_law_rows_here"] (defScope s__law_shown_right) := ⟨rfl, rfl, rfl, by decide +kernel, rfl, by decide +kernel, by decide +kernel⟩
theorem B__law_shown_right (T : Tx K mg) : BodyG CX0 P w K mg base ["_law_made", "_law_rows_here", "_law_due", "_law_first", "_law_last"] "_law_shown_right" (defScope s__law_shown_right) (defBody s__law_shown_right) 4 (ga K "_law_shown_right") (P__law_shown_right K) := by
  intro cdv A outer s H vs Q E hr h
  have hu := hr.units
  have hu1 := hr.units1
  obtain ⟨x_made, x_rows_here, rfl, h⟩ := h
  refine ⟨_, PSs.nox (pss_cons (ps_set (i := 2) sc__law_shown_right.nd rfl (by first | exact Or.inl rfl | exact Or.inr rfl) (pe_op (op_add_str) (pe_op (op_add_str) pe_str (pe_join pe_str (pe_lc rfl sc__law_shown_right.nd (pi_list (pv 1)) (blkOk_by (N := ["_law_made", "_law_rows_here", "_law_due", "_law_first", "_law_last"]) (sc := defScope s__law_shown_right) (own := [("_law_first", 3), ("_law_last", 4)]) (by decide +kernel)) (fun _ _ _ _ _ => (pg_tupK (K := K) (n := 2) rfl rfl (pgs_cons (pg_name (i := 3) sc__law_shown_right.nd rfl (by first | exact Or.inl rfl | exact Or.inr rfl)) (pgs_cons (pg_name (i := 4) sc__law_shown_right.nd rfl (by first | exact Or.inl rfl | exact Or.inr rfl)) pgs_nil)))) (fun _ _ _ _ _ => pts_nil) (fun _ _ _ _ _ => (pe_op (op_add_str) (pe_op (op_add_str) (pe_op (op_add_str) (pe_op (op_add_str) pe_str (pe_callTy (call_str_int) (by rfl) (z_str T) PyProof.Rows.boot_str (pa_cons (pv 3) pa_nil))) pe_str) (pe_callTy (call_str_int) (by rfl) (z_str T) PyProof.Rows.boot_str (pa_cons (pv 4) pa_nil))) pe_str))))) pe_str))
    (pss_one (ps_ret (pe_and (pe_cmpR op_eq (pe_callB (call_reprOwn (m_History_repr T).at_ (m_History_repr T).fn (G_History_repr T) (hr.mono (by decide)) pass0) (by rfl) (z_repr T) PyProof.Rows.boot_repr (pa_cons (pv 0) pa_nil)) (pv 2) (nomark _)) (pe_and (pe_cmpR op_eq (pe_pr (pv 0) (c_History T) (p_History_moment T) (G_History_moment T) (hr.mono (by decide)) pass0) (pe_callB (call_len_seq) (by rfl) (z_len T) PySem.boot_len (pa_cons (pv 1) pa_nil)) (nomark _)) (pe_one (pe_cmpR op_eq (pe_callB (call_lenOwn (m_History_len T).at_ (m_History_len T).fn (G_History_len T) (hr.mono (by decide)) pass0) (by rfl) (z_len T) PySem.boot_len (pa_cons (pv 0) pa_nil)) (pe_callB (call_len_seq) (by rfl) (z_len T) PySem.boot_len (pa_cons (pv 1) pa_nil)) (nomark _)))))))), ?_⟩
  walk_at "vc"
  obtain ⟨S, rows, oS, hh, dr, hB, hz, q⟩ := h
  obtain ⟨ra, rxs, rfl, nra, era, dra⟩ := id dr.ls
  obtain ⟨ma, mdx, mt, rfl, ema⟩ := id hh.at
  have hrl := dra.len
  have C := ((Ctx.start (T0 := []) oS subNil).add dr).addA (A := hist K rows) hh
  refine ⟨⟨_, rfl⟩, tLc_l C dr rfl (fun i => (rows.take i).map pairT) rfl ?_ ?_⟩
  · intro F D j x a H' ha C hx
    obtain ⟨b, rfl, nb, eb⟩ := hx.ints
    have hm := hB a (List.mem_of_getElem? ha)
    have l1 := hm.1.len
    have l2 := hm.2.len
    have e1 : (Str.ofString "(").length = 1 := by decide +kernel
    have e2 : (Str.ofString ", ").length = 2 := by decide +kernel
    have e3 : (Str.ofString ")").length = 1 := by decide +kernel
    have hsz := sizeLine_eq
    walk_at "vc"
    refine ⟨_, SqT.of eb, rfl, _, _, rfl, _, _, rfl, rfl, _, rfl, hm.1.log, by omega, by rw [strLen_append]; omega, _, rfl, hm.2.log, by simp only [strLen_append]; omega, by simp only [strLen_append]; omega, ?_⟩
    rw [← pair_text]
    refine C.put 0 rfl (a := pairT a) (Dx.str _) (by rw [take_snoc ha, List.map_append]; rfl) (pos_lt ?_)
    rw [List.length_map, List.length_take]
    omega
  · intro D H' nD C
    rw [List.take_length] at C
    have C2 := C.freeze nD
    obtain ⟨_, ys, e0, _, e, d⟩ := (C2.d (a := rows.map pairT) (by walk_at "m")).ls
    cases e0
    have e2 := d.strs
    subst e2
    have hs := listed_sum hB
    have hl := listed_len hB (by omega)
    have l1 : (Str.ofString "History(").length = 8 := by decide +kernel
    have l2 : (Str.ofString ")").length = 1 := by decide +kernel
    have l3 : (Str.ofString ", ").length = 2 := by decide +kernel
    have hsz := sizeLine_eq
    have hl2 : (Txt.join (Str.ofString ", ") (rows.map pairT)).length ≤ 130000 := hl
    refine ⟨_, rfl, _, .inl (SqL.of e), by rw [List.length_map, l3]; omega, by omega, by rw [strLen_append]; omega, ?_⟩
    refine ⟨ma, _, _, rfl, C2.kp _ _ subNil' ema, _, rfl, S, rows, C2.old, C2.get (A := hist K rows) (by walk_at "m"), by omega, hB, fun H2 k2 => ⟨_, rfl, rEq_str.mpr ⟨_, rfl, iteT' (decide_eq_true ?_) ?_⟩⟩⟩
    · unfold histT listed
      rw [show Str.empty ++ "History(" = Str.ofString "History(" by decide +kernel]
    · have C3 := C2.pure k2
      refine ⟨_, rfl, ⟨_, _, C3.kp _ _ subNil' ema⟩, _, rfl, S, rows, C3.get (A := hist K rows) (by walk_at "m"), _, rfl, _, .inl (SqL.of (C3.kp _ _ subNil' era)), rEq_int.mpr ⟨_, rfl, iteT' (by rw [hrl]; simp) ?_⟩⟩
      refine ⟨ma, _, _, rfl, C3.kp _ _ subNil' ema, _, rfl, S, rows, C3.get (A := hist K rows) (by walk_at "m"), _, rfl, by omega, by omega, _, rfl, _, .inl (SqL.of (C3.kp _ _ subNil' era)), rEq_int.mpr ?_⟩
      rw [hrl, decide_eq_true rfl]
      exact q _ C3.kp
theorem G__law_shown_right (T : Tx K mg) : FnG P w K mg base CX0 5 (ga K "_law_shown_right") (P__law_shown_right K) := by
  obtain ⟨fd, F⟩ := F__law_shown_right T
  have b : L2.Binds K fd ["_law_made", "_law_rows_here"] [] := F.bindsN fun _ _ _ _ _ _ us hl => match us, hl with | [_, _], _ => rfl
  exact fnG_pl F sc__law_shown_right b sp2_len (B__law_shown_right T)
end Hd

set_option Elab.async false
set_option linter.all false
set_option maxRecDepth 100000
set_option maxHeartbeats 4000000
namespace Hd
open PySem PySem.Spec PyProof.Rows L2 He Lw StX
open Lw.En (enc)
local macro_rules | `(tactic| walk_at "vc") => `(tactic| simp only [tSeq, tAsg, tRet, tRetN, tDrop, tNext, tIfS, tNever, tVar, tC, tOp, tUn, tTest, tB, tNot, tAnd, tOr, tAndV, tOrV, tNotV, tIf, tChain, tCmp, t2I, tCB, tCons, tNil, tTup, tLst, tMC, tFld, sFld, tPr, gName, wipe, List.foldl_cons, List.foldl_nil, tYes, iTup, iList, iEnum, iEnumT, iEnumK, iRng1, iRng2, iRng3, gNil, gCons, gTup, gUnl, gSub, tPar, rI, rI0, rU, tIsN, tNotN, tSl, tPart, tNoPart, tThen, rMk, tStar, tBM, tM1, tLoc, tCM, tCMW, tMW, tCW,
  assignEach, cxOf, L2.start, List.map_cons, List.map_nil, List.length_cons, List.length_nil, List.replicate, List.cons_append, List.nil_append, List.getElem?_cons_zero, List.getElem?_cons_succ, List.set_cons_zero, List.set_cons_succ, Option.some.injEq, V.int.injEq, V.bl.injEq, V.ref.injEq, V.str.injEq, exists_eq_left', exists_eq_left, exists_eq_right', exists_eq_right, exists_and_left, exists_and_right, true_and, and_true, List.cons.injEq, List.cons_ne_nil, reduceCtorEq, false_and, and_false, exists_false, if_true, if_false, Bool.false_eq_true, Bool.true_eq_false, eq_self, forall_eq, forall_eq', rEq_int, rNe_int, rEq_str, rNe_str])

local macro_rules | `(tactic| walk_at "m") => `(tactic| first | exact List.Mem.head _ | (apply List.Mem.tail; walk_at "m"))

variable {P : Program} {w : World} {K : Frag} {mg : Str → Option Value} {base : Heap}
theorem not_hist (T : Tx K mg) : ∀ {d : PyData}, (isTupD d = true ∨ d = .none) → PySem.W.kitOne K (.type (tyN d)) (.ref (ga K "History")) = some false := by
  intro d h
  rcases h with h | h
  · cases d with
    | tuple _ => exact nk_History_tuple T
    | _ => cases h
  · subst h
    exact nk_History_NoneType T
/-- rows with one put in another's place -/
def swapped (rows : List (Int × Int)) (i : Nat) (p : Int × Int) : List (Int × Int) := rows.take i ++ [p] ++ rows.drop (i + 1)
theorem swapped_ne {rows : List (Int × Int)} {i : Nat} {p r : Int × Int} (hr : rows[i]? = some r) (h : r ≠ p) : rows ≠ swapped rows i p := fun e => by
  have hi := (List.getElem?_eq_some_iff.mp hr).1
  have e2 : (swapped rows i p)[i]? = some p := by
    unfold swapped
    rw [List.append_assoc, List.getElem?_append_right (by rw [List.length_take]; omega), List.length_take, Nat.min_eq_left (by omega), Nat.sub_self]
    rfl
  rw [← e, hr] at e2
  exact h (Option.some.inj e2)
theorem swapped_ords {rows : List (Int × Int)} {i : Nat} {p : Int × Int} (ho : Ords rows) (h : p.1 ≤ p.2) : Ords (swapped rows i p) := fun q hq => by
  unfold swapped at hq
  rcases List.mem_append.mp hq with hq | hq
  · rcases List.mem_append.mp hq with hq | hq
    · exact ho q (List.mem_of_mem_take hq)
    · rw [List.mem_singleton.mp hq]; exact h
  · exact ho q (List.mem_of_mem_drop hq)
theorem swapped_len {rows : List (Int × Int)} {i : Nat} {p : Int × Int} : (swapped rows i p).length ≤ rows.length + 1 := by
  unfold swapped
  simp
  omega
theorem memSub {T S : List Addr} {p : Addr} (h : p ∈ S) : ∀ a ∈ [p], a ∈ S := fun a z => by rw [List.mem_singleton.mp z]; exact h
theorem sc__law_others_right : FnScope ["_law_pot_here", "_law_made", "_law_rows_here", "_law_place", "_law_first", "_law_last", "_law_others", "_law_one"] ["_law_pot_here", "_law_made", "_law_rows_here"] (defScope s__law_others_right) := ⟨rfl, rfl, rfl, by decide +kernel, rfl, by decide +kernel, by decide +kernel⟩
theorem B__law_others_right (T : Tx K mg) : BodyG CX0 P w K mg base ["_law_pot_here", "_law_made", "_law_rows_here", "_law_place", "_law_first", "_law_last", "_law_others", "_law_one"] "_law_others_right" (defScope s__law_others_right) (defBody s__law_others_right) 10 (ga K "_law_others_right") (P__law_others_right K) := by
  intro cdv A outer s H vs Q E hr h
  have hu := hr.units
  have hu1 := hr.units1
  obtain ⟨x_pot_here, x_made, x_rows_here, rfl, h⟩ := h
  refine ⟨_, PSs.nox (pss_cons (ps_if (PW.pt (pw_or (pt_cmpR ((op_neO (eq_History T) (G_History_eq T) (hr.mono (by decide)) pass0)) (pv 1) (pe_c (call_g (G__law_past T) (hr.mono (by decide)) pass0) (kp__law_past T) rfl (g__law_past T) (pa_cons (pe_callTy (call_list_of) (by rfl) (z_list T) PyProof.Rows.boot_list (pa_cons (pv 2) pa_nil)) pa_nil)) (nomark _)) (pw_or (pt_cmpR ((op_eqO (eq_History T) (G_History_eq T) (hr.mono (by decide)) pass0)) (pv 1) (pe_tupleOf rfl (z_tuple T) (pv 2)) (nomark _)) (pw_or1 (pt_cmpR ((op_eqO (eq_History T) (G_History_eq T) (hr.mono (by decide)) pass0)) (pv 1) pe_non (nomark _)))))) (pss_one (ps_ret pe_bl)) pss_nil)
    (pss_cons (ps_if (pt_cmpR ((op_eqD hu)) (pv 2) (pe_lst pa_nil) (nomark _)) (pss_one (ps_ret (pe_cmpR (op_eqO (eq_History T) (G_History_eq T) (hr.mono (by decide)) pass0) (pv 1) (pe_c0 (call_mk (k_History T) (G_History_init T) (hr.mono (by decide)) pass0) (k_History T).kp rfl (g_History T)) (nomark _)))) pss_nil)
    (pss_cons (ps_set (i := 3) sc__law_others_right.nd rfl (by first | exact Or.inl rfl | exact Or.inr rfl) (pe_c (call_g (G__law_draw T) (hr.mono (by decide)) pass0) (kp__law_draw T) rfl (g__law_draw T) (pa_cons (pv 0) (pa_cons (pe_callB (call_len_seq) (by rfl) (z_len T) PySem.boot_len (pa_cons (pv 2) pa_nil)) pa_nil))))
    (pss_cons (ps_asg (pe_ix ix_list (pv 2) (pv 3) (fun _ _ => rfl)) (pg_tupK (K := K) (n := 2) rfl rfl (pgs_cons (pg_name (i := 4) sc__law_others_right.nd rfl (by first | exact Or.inl rfl | exact Or.inr rfl)) (pgs_cons (pg_name (i := 5) sc__law_others_right.nd rfl (by first | exact Or.inl rfl | exact Or.inr rfl)) pgs_nil))))
    (pss_cons (ps_set (i := 6) sc__law_others_right.nd rfl (by first | exact Or.inl rfl | exact Or.inr rfl) (pe_lst (pa_cons (pe_op (op_cat) (pe_slice sl_list (pv 2) po_none (po_some (pv 3))) (pe_slice sl_list (pv 2) (po_some (pe_op (op_add) (pv 3) pe_int)) po_none)) (pa_cons (pe_op (op_cat) (pv 2) (pe_lst (pa_cons (pe_ix ix_list (pv 2) pe_int (fun _ _ => rfl)) pa_nil))) pa_nil))))
    (pss_cons (ps_expr (pe_bm PySem.F.plainAttrs_list PySem.F.slot_list_append PySem.F.type_list_append mt_append (pv 6) (pa_cons (pe_op (op_cat) (pe_op (op_cat) (pe_slice sl_list (pv 2) po_none (po_some (pv 3))) (pe_lst (pa_cons (pe_tup (pa_cons (pe_op (op_sub) (pv 4) pe_int) (pa_cons (pv 5) pa_nil))) pa_nil))) (pe_slice sl_list (pv 2) (po_some (pe_op (op_add) (pv 3) pe_int)) po_none)) pa_nil)))
    (pss_cons (ps_expr (pe_bm PySem.F.plainAttrs_list PySem.F.slot_list_append PySem.F.type_list_append mt_append (pv 6) (pa_cons (pe_op (op_cat) (pe_op (op_cat) (pe_slice sl_list (pv 2) po_none (po_some (pv 3))) (pe_lst (pa_cons (pe_tup (pa_cons (pv 4) (pa_cons (pe_op (op_add) (pv 5) pe_int) pa_nil))) pa_nil))) (pe_slice sl_list (pv 2) (po_some (pe_op (op_add) (pv 3) pe_int)) po_none)) pa_nil)))
    (pss_one (ps_ret (pe_not (pe_callB (cr_any rfl) (by rfl) (z_any T) PyProof.Rows.boot_any (pa_cons (pe_lc rfl sc__law_others_right.nd (pi_list (pv 6)) (blkOk_by (N := ["_law_pot_here", "_law_made", "_law_rows_here", "_law_place", "_law_first", "_law_last", "_law_others", "_law_one"]) (sc := defScope s__law_others_right) (own := [("_law_one", 7)]) (by decide +kernel)) (fun _ _ _ _ _ => (pg_name (i := 7) sc__law_others_right.nd rfl (by first | exact Or.inl rfl | exact Or.inr rfl))) (fun _ _ _ _ _ => pts_nil) (fun _ _ _ _ _ => (pe_cmpR (show OpR _ _ (rEqO K (ga K "History") (P_History_eq K) E0) from (op_eqO (eq_History T) (G_History_eq T) (hr.mono (by decide)) pass0)) (pv 1) (pe_c (call_g (G__law_past T) (hr.mono (by decide)) pass0) (kp__law_past T) rfl (g__law_past T) (pa_cons (pv 7) pa_nil)) (nomark _)))) pa_nil)))))))))))), ?_⟩
  walk_at "vc"
  obtain ⟨S, p, rows, oS, hpS, rfl, hp, hh, dr, ho, hz, q⟩ := h
  obtain ⟨ra, rxs, rfl, nra, era, dra⟩ := id dr.ls
  obtain ⟨ma, mdx, mt, rfl, ema⟩ := id hh.at
  have hrl := dra.len
  have C := (((Ctx.start (T0 := [p]) oS (memSub (T := []) hpS)).add dr).addA (A := hist K rows) hh).addPot hp (List.mem_singleton_self p)
  refine ⟨_, rfl, _, .inl (SqL.of era), fun l hl => ?_⟩
  have C1 := (C.pure (.new (o := .lst rxs) hl)).add (De.mkLs (C.no hl) upd_same (DxA.keep (.new hl) dra))
  refine ⟨_, rfl, S, rows, C1.old, C1.d (v := .ref l) (by walk_at "m"), ho, by omega, fun v H2 k2 h2 => ?_⟩
  have C2 := C1.pure k2
  obtain ⟨va, vdx, vt, rfl, eva⟩ := id h2.at
  have hm2 := C2.get (v := .ref ma) (A := hist K rows) (by walk_at "m")
  obtain ⟨_, dx2, t2, e0, em2⟩ := Hist.at hm2
  cases e0
  refine ⟨ma, _, _, rfl, em2, .inr ⟨_, _, _, rfl, eva⟩, _, _, rfl, S, rows, hm2, .inl ⟨S, rows, h2, _, rfl, _, rfl, iteF (by rw [decide_eq_true rfl]; rfl) ?_⟩⟩
  obtain ⟨_, rx2, e0, _, er2, dr2⟩ := (C2.d (v := .ref ra) (a := rows) (by walk_at "m")).ls
  cases e0
  refine .inl ⟨_, _, rfl, SqL.of er2, fun t ht => ?_⟩
  have C3 := C2.pure (.new (o := .tup rx2) ht)
  have dt : De S _ (.ref t) (Tu.mk rows) := De.mkTu (C2.no ht) upd_same (DxA.keep (.new ht) dr2)
  have hm3 := C3.get (v := .ref ma) (A := hist K rows) (by walk_at "m")
  obtain ⟨_, dx3, t3, e0, em3⟩ := Hist.at hm3
  cases e0
  refine ⟨ma, _, _, rfl, em3, .inl ⟨"tuple", .tup upd_same, no_History_tuple T⟩, _, _, rfl, S, rows, hm3, .inr ⟨S, _, dt, not_hist T (.inl rfl), _, rfl, _, rfl, iteF rfl ?_⟩⟩
  refine ⟨ma, _, _, rfl, em3, .inl ⟨"NoneType", .non, no_History_NoneType T⟩, _, _, rfl, S, rows, hm3, .inr ⟨[], _, Dx.non, not_hist T (.inr rfl), _, rfl, _, rfl, iteF rfl ?_⟩⟩
  generalize upd H2 t (.tup rx2) = H3 at C3
  refine ⟨by decide, fun l4 h4 => ?_⟩
  have C4 := (C3.pure (.new (o := .lst []) h4)).add (De.mkLs (α := Int × Int) (l := []) (C3.no h4) upd_same .nil)
  refine eqD_if (C4.d (v := .ref ra) (a := rows) (by walk_at "m")) (C4.d (v := .ref l4) (a := ([] : List (Int × Int))) (by walk_at "m")) (by decide) ?_
  have hm4 := C4.get (v := .ref ma) (A := hist K rows) (by walk_at "m")
  obtain ⟨_, dx4, t4, e0, em4⟩ := Hist.at hm4
  cases e0
  split
  · rename_i er
    refine mk_History (S := S) (es := []) (Q := fun v H2 => rEqO K (ga K "History") (P_History_eq K) E0 (.ref ma) v H2 Q) C4.old .nil (fun _ h => absurd h List.not_mem_nil) (by simp) fun v H5 k5 h5 => ?_
    have C5 := C4.pure k5
    obtain ⟨va, vdx, vt, rfl, eva⟩ := id h5.at
    refine ⟨ma, _, _, rfl, k5 _ _ subNil' em4, .inr ⟨_, _, _, rfl, eva⟩, _, _, rfl, S, rows, C5.get (A := hist K rows) (by walk_at "m"), .inl ⟨S, [], h5, _, rfl, ?_⟩⟩
    rw [decide_eq_true er]
    exact q _ C5.kp (C5.potAt 0 rfl).1
  · rename_i er
    have hpos : 1 ≤ rows.length := by
      cases rows with
      | nil => exact absurd rfl er
      | cons _ _ => simp
    obtain ⟨_, rx4, e0, _, er4, dr4⟩ := (C4.d (v := .ref ra) (a := rows) (by walk_at "m")).ls
    cases e0
    have hl4 := dr4.len
    refine ⟨_, rfl, _, .inl (SqL.of er4), _, _, rfl, p, rx4.length, rfl, (C4.potAt 0 rfl).1, rfl, by omega, by omega, fun r H5 k5 hp5 h0 h1 => ?_⟩
    have C5 := C4.pot 0 rfl k5 hp5
    obtain ⟨i, rfl⟩ := Int.eq_ofNat_of_zero_le h0
    have hi : i < rows.length := by omega
    obtain ⟨r, hr⟩ : ∃ r, rows[i]? = some r := ⟨_, List.getElem?_eq_getElem hi⟩
    obtain ⟨r0, hr0⟩ : ∃ r, rows[0]? = some r := ⟨_, List.getElem?_eq_getElem (by omega)⟩
    have hro := ho r (List.mem_of_getElem? hr)
    refine ixD (C5.d (v := .ref ra) (a := rows) (by walk_at "m")) (n := i) rfl hr fun x dx => ?_
    obtain ⟨b, rfl, nb, eb⟩ := De.ints dx
    refine ⟨_, rfl, _, SqT.of eb, rfl, _, _, rfl, _, _, rfl, rfl, _, rfl, ?_⟩
    refine slD_take C5.old (C5.d (v := .ref ra) (a := rows) (by walk_at "m")) (by omega) fun w1 H6 k6 d6 => ⟨_, rfl, ?_⟩
    have C6 := (C5.pure k6).add d6
    rw [show (i : Int) + 1 = ((i + 1 : Nat) : Int) by omega]
    refine slD_drop C6.old (C6.d (v := .ref ra) (a := rows) (by walk_at "m")) (by omega) fun w2 H7 k7 d7 => ?_
    have C7 := (C6.pure k7).add d7
    refine catD C7.old (C7.d (v := w1) (a := rows.take i) (by walk_at "m")) d7 (by simp; omega) fun w3 H8 k8 d8 => ?_
    have C8 := (C7.pure k8).add d8
    refine ixD (C8.d (v := .ref ra) (a := rows) (by walk_at "m")) (n := 0) rfl hr0 fun x0 dx0 => ⟨by decide, fun t9 ht9 => ?_⟩
    have C9 := (C8.pure (.new (o := .lst [x0]) ht9)).add (factL (as := [r0]) C8.old (.cons dx0 .nil) ht9)
    refine catD C9.old (C9.d (v := .ref ra) (a := rows) (by walk_at "m")) (C9.d (v := .ref t9) (a := [r0]) (by walk_at "m")) (by simp; omega) fun w4 H10 k10 d10 => ⟨by decide, fun f hf => ?_⟩
    have C10 := (C9.pure k10).add d10
    have C11 := C10.pushL (l := [rows.take i ++ rows.drop (i + 1), rows ++ [r0]]) (xs := [w3, w4]) hf (.cons (C10.d (by walk_at "m")) (.cons d10 .nil))
    obtain ⟨fxs, ef, _⟩ := C11.lstAt 0 rfl
    generalize upd H10 f (.lst [w3, w4]) = H12 at C11 ef
    refine ⟨.inl ⟨rfl, _, SqL.of ef⟩, _, rfl, ?_⟩
    refine slD_take C11.old (C11.d (v := .ref ra) (a := rows) (by walk_at "m")) (by omega) fun w5 H13 k13 d13 => ⟨_, rfl, by decide, fun t1 ht1 => ⟨by decide, fun t2 ht2 => ?_⟩⟩
    have C13 := (C11.pure k13).add d13
    have C14 := (C13.pure (.new (o := .tup [.int (r.1 - 1), .int r.2]) ht1)).add (a := ((r.1 - 1, r.2) : Int × Int)) (De.mk2 (C13.no ht1) upd_same)
    have C15 := (C14.pure (.new (o := .lst [.ref t1]) ht2)).add (factL (as := [((r.1 - 1, r.2) : Int × Int)]) C14.old (.cons (C14.d (by walk_at "m")) .nil) ht2)
    refine catD C15.old (C15.d (v := w5) (a := rows.take i) (by walk_at "m")) (C15.d (v := .ref t2) (a := [((r.1 - 1, r.2) : Int × Int)]) (by walk_at "m")) (by simp; omega) fun w6 H16 k16 d16 => ⟨_, rfl, ?_⟩
    have C16 := (C15.pure k16).add d16
    rw [show (i : Int) + 1 = ((i + 1 : Nat) : Int) by omega]
    refine slD_drop C16.old (C16.d (v := .ref ra) (a := rows) (by walk_at "m")) (by omega) fun w7 H17 k17 d17 => ?_
    have C17 := (C16.pure k17).add d17
    refine catD C17.old (C17.d (v := w6) (by walk_at "m")) d17 (by simp; omega) fun w8 H18 k18 d18 => ?_
    have C18 := C17.pure k18
    change De (f :: S) H18 w8 (swapped rows i (r.1 - 1, r.2)) at d18
    refine C18.app 0 rfl d18 (pos_lt (by simp)) fun H19 C19 => ?_
    obtain ⟨fxs, ef, _⟩ := C19.lstAt 0 rfl
    refine ⟨.inl ⟨rfl, _, SqL.of ef⟩, _, rfl, ?_⟩
    refine slD_take C19.old (C19.d (v := .ref ra) (a := rows) (by walk_at "m")) (by omega) fun w9 H20 k20 d20 => ⟨_, rfl, by decide, fun t3 ht3 => ⟨by decide, fun t4 ht4 => ?_⟩⟩
    have C20 := (C19.pure k20).add d20
    have C21 := (C20.pure (.new (o := .tup [.int r.1, .int (r.2 + 1)]) ht3)).add (a := ((r.1, r.2 + 1) : Int × Int)) (De.mk2 (C20.no ht3) upd_same)
    have C22 := (C21.pure (.new (o := .lst [.ref t3]) ht4)).add (factL (as := [((r.1, r.2 + 1) : Int × Int)]) C21.old (.cons (C21.d (by walk_at "m")) .nil) ht4)
    refine catD C22.old (C22.d (v := w9) (a := rows.take i) (by walk_at "m")) (C22.d (v := .ref t4) (a := [((r.1, r.2 + 1) : Int × Int)]) (by walk_at "m")) (by simp; omega) fun w10 H23 k23 d23 => ⟨_, rfl, ?_⟩
    have C23 := (C22.pure k23).add d23
    rw [show (i : Int) + 1 = ((i + 1 : Nat) : Int) by omega]
    refine slD_drop C23.old (C23.d (v := .ref ra) (a := rows) (by walk_at "m")) (by omega) fun w11 H24 k24 d24 => ?_
    have C24 := (C23.pure k24).add d24
    refine catD C24.old (C24.d (v := w10) (by walk_at "m")) d24 (by simp; omega) fun w12 H25 k25 d25 => ?_
    have C25 := C24.pure k25
    change De (f :: S) H25 w12 (swapped rows i (r.1, r.2 + 1)) at d25
    refine C25.app 0 rfl d25 (pos_lt (by simp)) fun H26 C26 => ?_
    have C27 := C26.freeze (C10.no hf)
    have hol : ∀ o ∈ ([rows.take i ++ rows.drop (i + 1), rows ++ [r0]] ++ [swapped rows i (r.1 - 1, r.2)] ++ [swapped rows i (r.1, r.2 + 1)] : List (List (Int × Int))), Ords o ∧ rows ≠ o ∧ o.length ≤ 900 := by
      intro o hm
      simp only [List.cons_append, List.nil_append, List.mem_cons, List.not_mem_nil, or_false] at hm
      rcases hm with rfl | rfl | rfl | rfl
      · refine ⟨fun z hz => ?_, fun e => ?_, by simp; omega⟩
        · rcases List.mem_append.mp hz with h | h
          · exact ho z (List.mem_of_mem_take h)
          · exact ho z (List.mem_of_mem_drop h)
        · have := congrArg List.length e
          simp at this
          omega
      · refine ⟨fun z hz => ?_, fun e => ?_, by simp; omega⟩
        · rcases List.mem_append.mp hz with h | h
          · exact ho z h
          · rw [List.mem_singleton.mp h]; exact ho r0 (List.mem_of_getElem? hr0)
        · have := congrArg List.length e
          simp at this
      · exact ⟨swapped_ords ho (by show r.1 - 1 ≤ r.2; omega), swapped_ne hr fun e => by have := congrArg Prod.fst e; simp at this; omega, by have := swapped_len (rows := rows) (i := i) (p := (r.1 - 1, r.2)); omega⟩
      · exact ⟨swapped_ords ho (by show r.1 ≤ r.2 + 1; omega), swapped_ne hr fun e => by have := congrArg Prod.snd e; simp at this; omega, by have := swapped_len (rows := rows) (i := i) (p := (r.1, r.2 + 1)); omega⟩
    have dol := C27.d (v := .ref f) (by walk_at "m")
    have hlen : ([rows.take i ++ rows.drop (i + 1), rows ++ [r0]] ++ [swapped rows i (r.1 - 1, r.2)] ++ [swapped rows i (r.1, r.2 + 1)] : List (List (Int × Int))).length ≤ 4 := by simp
    generalize ([rows.take i ++ rows.drop (i + 1), rows ++ [r0]] ++ [swapped rows i (r.1 - 1, r.2)] ++ [swapped rows i (r.1, r.2 + 1)] : List (List (Int × Int))) = ol at C27 hol dol hlen
    refine tLc_l C27 dol rfl (fun j => List.replicate j false) rfl ?_ ?_
    · intro F D j x o H' hc C hx
      have hjl := (List.getElem?_eq_some_iff.mp hc).1
      obtain ⟨h1, h2, h3⟩ := hol o (List.mem_of_getElem? hc)
      walk_at "vc"
      refine ⟨_, rfl, D :: S, o, C.old, hx, h1, h3, fun w H2 k2 hw => ?_⟩
      have C2 := C.pure k2
      obtain ⟨wa, wdx, wt, rfl, ewa⟩ := id hw.at
      have hv := C2.get (v := .ref ma) (A := hist K rows) (by walk_at "m")
      obtain ⟨_, vdx, vt, e0, eva⟩ := id hv.at
      cases e0
      refine ⟨_, _, _, rfl, eva, .inr ⟨_, _, _, rfl, ewa⟩, _, _, rfl, D :: S, rows, hv, .inl ⟨D :: S, o, hw, _, rfl, ?_⟩⟩
      rw [decide_eq_false h2]
      exact C2.put 0 rfl (a := false) (Dx.bl false) (by rw [← List.replicate_succ']; rfl) (by rw [List.length_replicate]; exact pos_lt (by omega))
    · intro D H' nD C
      have C28 := C.freeze nD
      obtain ⟨_, ys, e0, _, e, d⟩ := (C28.d (v := .ref D) (by walk_at "m")).ls
      cases e0
      have e2 := d.bools
      subst e2
      refine ⟨D, _, rfl, SqL.of e, ?_⟩
      refine ⟨_, rfl, ?_⟩
      rw [show (List.replicate ol.length false).any id = false by simp]
      exact q _ C28.kp (C28.potAt 0 rfl).1
theorem G__law_others_right (T : Tx K mg) : FnG P w K mg base CX0 11 (ga K "_law_others_right") (P__law_others_right K) := by
  obtain ⟨fd, F⟩ := F__law_others_right T
  have b : L2.Binds K fd ["_law_pot_here", "_law_made", "_law_rows_here"] [] := F.bindsN fun _ _ _ _ _ _ us hl => match us, hl with | [_, _, _], _ => rfl
  exact fnG_pl F sc__law_others_right b sp3_len (B__law_others_right T)
theorem sc__law_points_right : FnScope ["_law_pot_here", "_law_base_here", "_law_spots_here", "_law_turn", "_law_made", "_law_spot"] ["_law_pot_here", "_law_base_here"] (defScope s__law_points_right) := ⟨rfl, rfl, rfl, by decide +kernel, rfl, by decide +kernel, by decide +kernel⟩
theorem B__law_points_right (T : Tx K mg) : BodyG CX0 P w K mg base ["_law_pot_here", "_law_base_here", "_law_spots_here", "_law_turn", "_law_made", "_law_spot"] "_law_points_right" (defScope s__law_points_right) (defBody s__law_points_right) 10 (ga K "_law_points_right") (P__law_points_right K) := by
  intro cdv A outer s H vs Q E hr h
  have hu := hr.units
  have hu1 := hr.units1
  obtain ⟨x_pot_here, x_base_here, rfl, h⟩ := h
  refine ⟨_, PSs.nox (pss_cons (ps_setLc (i := 2) rfl sc__law_points_right.nd rfl rfl (sw_true rfl rfl rfl (by decide +kernel)) (pi_range1 rfl (z_range T) (pa_cons pe_int pa_nil)) (blkOk_by (N := ["_law_pot_here", "_law_base_here", "_law_spots_here", "_law_turn", "_law_made", "_law_spot"]) (sc := defScope s__law_points_right) (own := [("_law_turn", 3)]) (by decide +kernel)) (fun _ _ _ _ _ => (pg_name (i := 3) sc__law_points_right.nd rfl (by first | exact Or.inl rfl | exact Or.inr rfl))) (fun _ _ _ _ _ => pts_nil) (fun _ _ _ _ _ => (pe_op (op_add) (pv 1) (pe_c (call_g (G__law_draw T) (hr.mono (by decide)) pass0) (kp__law_draw T) rfl (g__law_draw T) (pa_cons (pv 0) (pa_cons pe_int pa_nil))))))
    (pss_cons (ps_set (i := 4) sc__law_points_right.nd rfl (by first | exact Or.inl rfl | exact Or.inr rfl) (pe_cm (pe_glob (v := .ref (ga K "History")) rfl (g_History T) rfl) (rd_History T) (cm_History_of_cells T) (G_History_of_cells T) (hr.mono (by decide)) pass0 (pa_cons (pe_ix ix_list (pv 2) pe_int (fun _ _ => rfl)) (pa_cons (pe_ix ix_list (pv 2) pe_int (fun _ _ => rfl)) (pa_cons (pe_ix ix_list (pv 2) pe_int (fun _ _ => rfl)) pa_nil)))))
    (pss_one (ps_ret (pe_and (pe_cmpR (op_eqO (eq_History T) (G_History_eq T) (hr.mono (by decide)) pass0) (pv 4) (pe_c (call_g (G__law_past T) (hr.mono (by decide)) pass0) (kp__law_past T) rfl (g__law_past T) (pa_cons (pe_lc rfl sc__law_points_right.nd (pi_list (pv 2)) (blkOk_by (N := ["_law_pot_here", "_law_base_here", "_law_spots_here", "_law_turn", "_law_made", "_law_spot"]) (sc := defScope s__law_points_right) (own := [("_law_spot", 5)]) (by decide +kernel)) (fun _ _ _ _ _ => (pg_name (i := 5) sc__law_points_right.nd rfl (by first | exact Or.inl rfl | exact Or.inr rfl))) (fun _ _ _ _ _ => pts_nil) (fun _ _ _ _ _ => (pe_tup (pa_cons (pv 5) (pa_cons (pv 5) pa_nil))))) pa_nil)) (nomark _)) (pe_one (pe_cmpR (op_eqO (eq_History T) (G_History_eq T) (hr.mono (by decide)) pass0) (pe_cm0 (pe_glob (v := .ref (ga K "History")) rfl (g_History T) rfl) (rd_History T) (cm_History_of_cells T) (G_History_of_cells T) (hr.mono (by decide)) pass0) (pe_c0 (call_mk (k_History T) (G_History_init T) (hr.mono (by decide)) pass0) (k_History T).kp rfl (g_History T)) (nomark _)))))))), ?_⟩
  walk_at "vc"
  obtain ⟨p, b, rfl, hp, rfl, q⟩ := h
  have C := (Ctx.start (T0 := [p]) (Old.nil.cons hp.old.choose_spec) (fun _ h => h)).addPot hp (List.mem_singleton_self p)
  refine tLc_x (α := Int) C (walk_range (lo := 0) (n := 3)) (fun i l => l.length = i) (fun R hR => ?_) rfl (fun _ _ _ _ => trivial) ?_ ?_
  · walk_at "vc"
    exact ⟨by omega, by omega, hR⟩
  · rintro D i l x H1 _ hi hl C ⟨rfl, rfl⟩
    walk_at "vc"
    refine ⟨_, _, ⟨rfl, rfl⟩, p, rfl, (C.potAt 1 rfl).1, 4, rfl, by omega, by omega, fun r H2 k2 hp2 h0 h4 => ?_⟩
    exact (C.pot 1 rfl k2 hp2).putX (I := fun l => l.length = i + 1) 0 rfl (a := b + r) (Dx.int _) (by simp [hl]) (pos_lt (by omega))
  · intro D l H1 nD hl C
    match l, hl with
    | [c0, c1, c2], _ =>
    have C1 := C.freeze nD
    have d1 := C1.d (v := .ref D) (a := [c0, c1, c2]) (by walk_at "m")
    refine ixD d1 (n := 0) rfl rfl fun x dx => ixD d1 (n := 1) rfl rfl fun y dy => ixD d1 (n := 2) rfl rfl fun z dz => ?_
    cases dx
    cases dy
    cases dz
    refine spS1 (Nat.le_of_lt (pos_lt (by simp))) fun t ht => ?_
    have C2 := C1.pure (.new (o := .tup [.int c0, .int c1, .int c2]) ht)
    refine ⟨_, _, rfl, [p], t, [c0, c1, c2], C2.old, rfl, rfl, upd_same, by simp, fun v H3 k3 h3 => ?_⟩
    have C3 := (C2.pure k3).addA (A := hist K ([c0, c1, c2].map fun c => (c, c))) h3
    refine tLc_l C3 (C3.d (v := .ref D) (a := [c0, c1, c2]) (by walk_at "m")) rfl (fun j => ([c0, c1, c2].take j).map fun c => ((c, c) : Int × Int)) rfl ?_ ?_
    · intro F D2 j x c H' hc C hx
      cases hx
      have := (List.getElem?_eq_some_iff.mp hc).1
      walk_at "vc"
      refine ⟨by decide, fun t2 ht2 => (C.pure (.new (o := .tup [.int c, .int c]) ht2)).put 0 rfl (a := ((c, c) : Int × Int)) (De.mk2 (C.no ht2) upd_same) (by rw [take_snoc hc, List.map_append]; rfl) (pos_lt ?_)⟩
      rw [List.length_map, List.length_take]
      simp at this ⊢
      omega
    · intro D2 H4 nD2 C
      have C4 := C.freeze nD2
      refine ⟨_, rfl, [p], [c0, c1, c2].map fun c => (c, c), C4.old, C4.d (v := .ref D2) (by walk_at "m"), ?_, by simp, fun w H5 k5 h5 => ?_⟩
      · intro q hq
        obtain ⟨c, _, rfl⟩ := List.mem_map.mp hq
        exact Int.le_refl _
      have C5 := C4.pure k5
      obtain ⟨wa, wdx, wt, rfl, ewa⟩ := id h5.at
      have hv := C5.get (v := v) (A := hist K ([c0, c1, c2].map fun c => (c, c))) (by walk_at "m")
      obtain ⟨va, vdx, vt, rfl, eva⟩ := id hv.at
      refine ⟨_, _, _, rfl, eva, .inr ⟨_, _, _, rfl, ewa⟩, _, _, rfl, [p], _, hv, .inl ⟨[p], _, h5, _, rfl, _, rfl, iteT' (decide_eq_true rfl) ?_⟩⟩
      refine spS1 (by decide) fun t6 ht6 => ?_
      have C6 := C5.pure (.new (o := .tup []) ht6)
      refine ⟨_, _, rfl, [p], t6, [], C6.old, rfl, rfl, upd_same, by decide, fun u H7 k7 h7 => ?_⟩
      have C7 := (C6.pure k7).addA (A := hist K []) h7
      refine mk_History (S := [p]) (es := []) (Q := fun v H2 => rEqO K (ga K "History") (P_History_eq K) E0 u v H2 Q) C7.old .nil (fun _ h => absurd h List.not_mem_nil) (by simp) fun x H8 k8 h8 => ?_
      have C8 := C7.pure k8
      have hu := C8.get (v := u) (A := hist K []) (by walk_at "m")
      obtain ⟨ua, udx, ut, rfl, eua⟩ := id hu.at
      obtain ⟨xa, xdx, xt, rfl, exa⟩ := id h8.at
      refine ⟨_, _, _, rfl, eua, .inr ⟨_, _, _, rfl, exa⟩, _, _, rfl, [p], [], hu, .inl ⟨[p], [], h8, _, rfl, ?_⟩⟩
      rw [decide_eq_true rfl]
      exact q _ C8.kp (C8.potAt 0 rfl).1
theorem G__law_points_right (T : Tx K mg) : FnG P w K mg base CX0 11 (ga K "_law_points_right") (P__law_points_right K) := by
  obtain ⟨fd, F⟩ := F__law_points_right T
  have b : L2.Binds K fd ["_law_pot_here", "_law_base_here"] [] := F.bindsN fun _ _ _ _ _ _ us hl => match us, hl with | [_, _], _ => rfl
  exact fnG_pl F sc__law_points_right b sp2_len (B__law_points_right T)
theorem tchs_take {es : List (Int × Int)} {c : Int} {m : Nat} : ∀ {k : Nat}, k ≤ m → tchs (es.take m) c k = tchs es c k
  | 0, _ => rfl
  | k + 1, h => by
    show tchs (es.take m) c k ++ (if ((es.take m)[k]?.any fun p => tch p c) = true then _ else _) = tchs es c k ++ (if (es[k]?.any fun p => tch p c) = true then _ else _)
    rw [List.getElem?_take_of_lt (by omega), tchs_take (by omega)]
theorem tchs_filter {es : List (Int × Int)} {c : Int} {m : Nat} : ∀ {k : Nat}, m ≤ k → (tchs es c k).filter (fun x : Int => decide (x ≤ (m : Int))) = tchs es c m
  | 0, h => by
    have : m = 0 := by omega
    subst this
    rfl
  | k + 1, h => by
    by_cases e : m = k + 1
    · subst e
      rw [List.filter_eq_self]
      intro x hx
      have := tchs_mem hx
      simp
      omega
    · show (tchs es c k ++ (if (es[k]?.any fun p => tch p c) = true then [((k : Nat) : Int) + 1] else [])).filter _ = _
      rw [List.filter_append, tchs_filter (by omega)]
      split
      · rw [List.filter_cons, if_neg (by simp; omega)]
        exact List.append_nil _
      · exact List.append_nil _
theorem vers_take {es : List (Int × Int)} {c : Int} {m : Nat} (h : m ≤ es.length) : (vers es c).filter (fun x : Int => decide (x ≤ (m : Int))) = vers (es.take m) c := by
  unfold vers
  rw [List.filter_cons, if_pos (by simp), tchs_filter h, List.length_take, Nat.min_eq_left h, tchs_take (Nat.le_refl _)]
def lg (near : List (Int × Int)) (k : Nat) : Int × Int := ((near.getD (k % 9) (0, 0)).1 + ((k % 4 : Nat) : Int), (near.getD (k % 9) (0, 0)).2 + ((k % 4 : Nat) : Int))
def lgs (near : List (Int × Int)) (n : Nat) : List (Int × Int) := (List.range n).map (lg near)
theorem lgs_len {near : List (Int × Int)} {n : Nat} : (lgs near n).length = n := by
  unfold lgs
  rw [List.length_map, List.length_range]
theorem lgs_ords {near : List (Int × Int)} {n : Nat} (h : Ords near) (hl : near.length = 9) : Ords (lgs near n) := fun p hp => by
  obtain ⟨k, _, rfl⟩ := List.mem_map.mp hp
  have hk : k % 9 < near.length := by omega
  have := h near[k % 9] (List.getElem_mem hk)
  unfold lg
  rw [List.getD_eq_getElem?_getD, List.getElem?_eq_getElem hk]
  show near[k % 9].1 + _ ≤ near[k % 9].2 + _
  omega
theorem sc__law_long_right : FnScope ["_law_pot_here", "_law_base_here", "_law_near", "_law_many", "_law_rows_here", "_law_k", "_law_made", "_law_spot", "_law_part", "_law_one"] ["_law_pot_here", "_law_base_here"] (defScope s__law_long_right) := ⟨rfl, rfl, rfl, by decide +kernel, rfl, by decide +kernel, by decide +kernel⟩
theorem B__law_long_right (T : Tx K mg) : BodyG CX0 P w K mg base ["_law_pot_here", "_law_base_here", "_law_near", "_law_many", "_law_rows_here", "_law_k", "_law_made", "_law_spot", "_law_part", "_law_one"] "_law_long_right" (defScope s__law_long_right) (defBody s__law_long_right) 10 (ga K "_law_long_right") (P__law_long_right K) := by
  intro cdv A outer s H vs Q E hr h
  have hu := hr.units
  have hu1 := hr.units1
  obtain ⟨x_pot_here, x_base_here, rfl, h⟩ := h
  refine ⟨_, PSs.nox (pss_cons (ps_set (i := 2) sc__law_long_right.nd rfl (by first | exact Or.inl rfl | exact Or.inr rfl) (pe_c (call_g (G__law_rows T) (hr.mono (by decide)) pass0) (kp__law_rows T) rfl (g__law_rows T) (pa_cons (pv 0) (pa_cons (pv 1) (pa_cons pe_int pa_nil)))))
    (pss_cons (ps_set (i := 3) sc__law_long_right.nd rfl (by first | exact Or.inl rfl | exact Or.inr rfl) (pe_c (call_g (G__law_pick T) (hr.mono (by decide)) pass0) (kp__law_pick T) rfl (g__law_pick T) (pa_cons (pv 0) (pa_cons (pe_lst (pa_cons pe_int (pa_cons (pe_op (op_add) pe_int (pe_c (call_g (G__law_draw T) (hr.mono (by decide)) pass0) (kp__law_draw T) rfl (g__law_draw T) (pa_cons (pv 0) (pa_cons pe_int pa_nil)))) (pa_cons (pe_op (op_add) pe_int (pe_c (call_g (G__law_draw T) (hr.mono (by decide)) pass0) (kp__law_draw T) rfl (g__law_draw T) (pa_cons (pv 0) (pa_cons pe_int pa_nil)))) (pa_cons pe_int pa_nil))))) pa_nil))))
    (pss_cons (ps_setLc (i := 4) rfl sc__law_long_right.nd rfl rfl (sw_true rfl rfl rfl (by decide +kernel)) (pi_range1 rfl (z_range T) (pa_cons (pv 3) pa_nil)) (blkOk_by (N := ["_law_pot_here", "_law_base_here", "_law_near", "_law_many", "_law_rows_here", "_law_k", "_law_made", "_law_spot", "_law_part", "_law_one"]) (sc := defScope s__law_long_right) (own := [("_law_k", 5)]) (by decide +kernel)) (fun _ _ _ _ _ => (pg_name (i := 5) sc__law_long_right.nd rfl (by first | exact Or.inl rfl | exact Or.inr rfl))) (fun _ _ _ _ _ => pts_nil) (fun _ _ _ _ _ => (pe_tup (pa_cons (pe_op (op_add) (pe_ix (show IxR _ (rIxT K) from ix_tup) (pe_ix (show IxR _ (rIxL K) from ix_list) (pv 2) (pe_op (op_mod) (pv 5) pe_int) (fun _ _ => rfl)) pe_int (fun _ _ => rfl)) (pe_op (op_mod) (pv 5) pe_int)) (pa_cons (pe_op (op_add) (pe_ix (show IxR _ (rIxT K) from ix_tup) (pe_ix (show IxR _ (rIxL K) from ix_list) (pv 2) (pe_op (op_mod) (pv 5) pe_int) (fun _ _ => rfl)) pe_int (fun _ _ => rfl)) (pe_op (op_mod) (pv 5) pe_int)) pa_nil)))))
    (pss_cons (ps_par (i := 6) (j := 7) rfl sc__law_long_right.nd rfl rfl (by decide) rfl rfl (pa_cons (pe_c (call_g (G__law_past T) (hr.mono (by decide)) pass0) (kp__law_past T) rfl (g__law_past T) (pa_cons (pv 4) pa_nil)) (pa_cons (pe_op (op_sub) (pe_op (op_add) (pv 1) (pe_c (call_g (G__law_draw T) (hr.mono (by decide)) pass0) (kp__law_draw T) rfl (g__law_draw T) (pa_cons (pv 0) (pa_cons pe_int pa_nil)))) pe_int) pa_nil)) rfl)
    (pss_cons (ps_if (PW.pt (pw_or (pt_not (pt_val (pe_c (call_g (G__law_cell_right T) (hr.mono (by decide)) pass0) (kp__law_cell_right T) rfl (g__law_cell_right T) (pa_cons (pv 6) (pa_cons (pv 4) (pa_cons (pv 7) pa_nil)))))) (pw_or (pt_cmpR (op_ne) (pe_pr (pv 6) (c_History T) (p_History_moment T) (G_History_moment T) (hr.mono (by decide)) pass0) (pv 3) (nomark _)) (pw_or1 (pt_cmpR ((op_neD hu)) (pe_getOwn (get_History T) (G_History_getitem T) (hr.mono (by decide)) pass0 (pv 6) (pv 3)) (pe_ix ix_list (pv 4) (pe_un un_neg pe_int) (fun _ _ => rfl)) (nomark _)))))) (pss_one (ps_ret pe_bl)) pss_nil)
    (pss_cons (ps_set (i := 8) sc__law_long_right.nd rfl (by first | exact Or.inl rfl | exact Or.inr rfl) (pe_m (call_g (G_History_until T) (hr.mono (by decide)) pass0) (pv 6) (c_History T) (m_History_until T) (pa_cons (pe_op (op_sub) (pe_op (op_sub) (pv 3) pe_int) (pe_c (call_g (G__law_draw T) (hr.mono (by decide)) pass0) (kp__law_draw T) rfl (g__law_draw T) (pa_cons (pv 0) (pa_cons pe_int pa_nil)))) pa_nil)))
    (pss_one (ps_ret (pe_cmpR (op_eqD hu) (pe_m (call_g (G_History_versions T) (hr.mono (by decide)) pass0) (pv 8) (c_History T) (m_History_versions T) (pa_cons (pv 7) pa_nil)) (pe_lc rfl sc__law_long_right.nd (pi_list (pe_m (call_g (G_History_versions T) (hr.mono (by decide)) pass0) (pv 6) (c_History T) (m_History_versions T) (pa_cons (pv 7) pa_nil))) (blkOk_by (N := ["_law_pot_here", "_law_base_here", "_law_near", "_law_many", "_law_rows_here", "_law_k", "_law_made", "_law_spot", "_law_part", "_law_one"]) (sc := defScope s__law_long_right) (own := [("_law_one", 9)]) (by decide +kernel)) (fun _ _ _ _ _ => (pg_name (i := 9) sc__law_long_right.nd rfl (by first | exact Or.inl rfl | exact Or.inr rfl))) (fun _ _ _ _ _ => (pts_one (pt_cmpR (op_le) (pv 9) (pe_pr (pv 8) (c_History T) (p_History_moment T) (G_History_moment T) (hr.mono (by decide)) pass0) (nomark _)))) (fun _ _ _ _ _ => (pv 9))) (nomark _)))))))))), ?_⟩
  walk_at "vc"
  obtain ⟨p, b, rfl, hp, rfl, hb, q⟩ := h
  have C := (Ctx.start (T0 := [p]) (Old.nil.cons hp.old.choose_spec) (fun _ h => h)).addPot hp (List.mem_singleton_self p)
  refine ⟨_, _, _, rfl, [p], p, b, 9, C.old, List.mem_singleton_self p, rfl, hp, rfl, hb, rfl, by decide, fun nv H1 near k1 hp1 dn hnl hno hnB => ?_⟩
  have C1 := (C.pot 0 rfl k1 hp1).add dn
  refine ⟨_, _, rfl, p, 29, rfl, (C1.potAt 0 rfl).1, rfl, by omega, by omega, fun r1 H2 k2 hp2 h10 h11 => ⟨_, rfl, ?_⟩⟩
  have C2 := C1.pot 0 rfl k2 hp2
  refine ⟨_, _, rfl, p, 29, rfl, (C2.potAt 0 rfl).1, rfl, by omega, by omega, fun r2 H3 k3 hp3 h20 h21 => ⟨_, rfl, by decide, fun t ht => ?_⟩⟩
  have C3 := C2.pot 0 rfl k3 hp3
  have C4 := C3.pure (.new (o := .lst [.int 12, .int (12 + r1), .int (12 + r2), .int 300]) ht)
  have ntp : t ≠ p := fun z => C3.no ht (z ▸ List.mem_singleton_self p)
  refine ⟨_, _, rfl, p, t, [12, 12 + r1, 12 + r2, 300], rfl, (C4.potAt 0 rfl).1, rfl, ntp, upd_same, by simp, by simp, fun m H5 k5 hp5 hm => ?_⟩
  have C5 := C4.pot 0 rfl k5 hp5
  have hm2 : ∃ n : Nat, m = (n : Int) ∧ 12 ≤ n ∧ n ≤ 300 := by
    simp only [List.mem_cons, List.not_mem_nil, or_false] at hm
    exact ⟨m.toNat, by omega, by omega, by omega⟩
  obtain ⟨n, rfl, hn1, hn2⟩ := hm2
  refine tLc_n (lo := 0) (n := n) C5 (fun j => lgs near j) (fun R hR => ?_) rfl ?_ ?_
  · walk_at "vc"
    exact ⟨by omega, by omega, hR⟩
  · intro D j H' hj C
    simp only [Int.zero_add]
    have hk : j % 9 < near.length := by omega
    have hg : near.getD (j % 9) (0, 0) = near[j % 9] := by rw [List.getD_eq_getElem?_getD, List.getElem?_eq_getElem hk]; rfl
    have e9 : (j : Int) % 9 = ((j % 9 : Nat) : Int) := by omega
    have e4 : (j : Int) % 4 = ((j % 4 : Nat) : Int) := by omega
    walk_at "vc"
    have dn := C.d (v := nv) (a := near) (by walk_at "m")
    rw [e9, e4]
    have hgi : near[j % 9]? = some near[j % 9] := List.getElem?_eq_getElem hk
    refine ⟨by decide, ixD dn rfl hgi fun y dy => ixI0 dy ⟨by decide, _, rfl, by decide, ixD dn rfl hgi fun y dy => ixI1 dy ⟨by decide, _, rfl, by decide, fun t3 ht3 => ?_⟩⟩⟩
    refine (C.pure (.new (o := .tup _) ht3)).put 0 rfl (a := lg near j) ?_ (by unfold lgs; rw [List.range_succ, List.map_append]; rfl) (by rw [lgs_len]; exact pos_lt (by omega))
    unfold lg
    rw [hg]
    exact De.mk2 (C.no ht3) upd_same
  · intro D H6 nD C
    have C6 := C.freeze nD
    have ol : Ords (lgs near n) := lgs_ords hno hnl
    refine ⟨_, rfl, [p], lgs near n, C6.old, C6.d (by walk_at "m"), ol, by rw [lgs_len]; omega, fun tm H7 k7 h7 => ?_⟩
    have C7 := (C6.pure k7).addA (A := hist K (lgs near n)) h7
    obtain ⟨ta, tdx, tt, rfl, eta⟩ := id h7.at
    refine ⟨_, _, rfl, p, 6, rfl, (C7.potAt 0 rfl).1, rfl, by omega, by omega, fun r6 H8 k8 hp8 h60 h61 => ⟨_, rfl, _, rfl, _, _, ⟨rfl, rfl⟩, ?_⟩⟩
    have C8 := C7.pot 0 rfl k8 hp8
    generalize b + r6 - 1 = c
    refine ⟨_, _, _, rfl, [p], lgs near n, c, C8.old, C8.get (A := hist K (lgs near n)) (by walk_at "m"), C8.d (by walk_at "m"), rfl, ol, by rw [lgs_len]; omega, fun H9 k9 => ⟨_, rfl, iteF rfl ?_⟩⟩
    have C9 := C8.pure k9
    have h9 := C9.get (v := .ref ta) (A := hist K (lgs near n)) (by walk_at "m")
    obtain ⟨_, dx9, t9, e0, e9⟩ := id h9.at
    cases e0
    obtain ⟨lp, hlp⟩ : ∃ lp, (lgs near n)[n - 1]? = some lp := ⟨_, List.getElem?_eq_getElem (by rw [lgs_len]; omega)⟩
    refine ⟨_, rfl, ⟨_, _, e9⟩, _, rfl, [p], lgs near n, h9, neI_f (by rw [lgs_len]) ?_⟩
    refine ⟨ta, _, _, rfl, e9, _, _, rfl, [p], lgs near n, n - 1, lp, h9, by rw [show (n : Int) = ((n - 1 : Nat) : Int) + 1 by omega], hlp, fun y dy => ?_⟩
    refine ixD_last (C9.d (v := .ref D) (a := lgs near n) (by walk_at "m")) (a := lp) (by rw [List.getLast?_eq_getElem?, lgs_len]; exact hlp) fun z dz => neD_f dy dz (by decide) rfl ?_
    refine ⟨_, rfl, _, _, e9, rfl, _, rfl, _, _, rfl, p, 10, rfl, (C9.potAt 0 rfl).1, rfl, by omega, by omega, fun d H10 k10 hp10 hd0 hd1 => ⟨_, rfl, ?_⟩⟩
    have C10 := C9.pot 0 rfl k10 hp10
    obtain ⟨m, hm⟩ : ∃ m : Nat, (n : Int) - 1 - d = m := ⟨((n : Int) - 1 - d).toNat, by omega⟩
    rw [hm]
    refine ⟨_, _, rfl, [p], lgs near n, m, C10.old, C10.get (A := hist K (lgs near n)) (by walk_at "m"), rfl, by rw [lgs_len]; omega, ol, by rw [lgs_len]; omega, fun pv H11 k11 h11 => ?_⟩
    have C11 := (C10.pure k11).addA (A := hist K ((lgs near n).take m)) h11
    obtain ⟨pa, pdx, pt, rfl, epa⟩ := id h11.at
    have hmn : m ≤ (lgs near n).length := by rw [lgs_len]; omega
    refine ⟨_, rfl, _, _, epa, rfl, _, _, rfl, [p], (lgs near n).take m, c, C11.old, h11, rfl, by rw [List.length_take]; omega, fun u1 H12 k12 hu1 e12 => ?_⟩
    have C12 := (C11.pure k12).add (De.mkLs (l := vers ((lgs near n).take m) c) (C11.no hu1) e12 (DxA.ints _))
    have h12 := C12.get (v := .ref ta) (A := hist K (lgs near n)) (by walk_at "m")
    obtain ⟨_, dx12, t12, e0, e13⟩ := id h12.at
    cases e0
    refine tLc_w ?_
    walk_at "vc"
    refine ⟨_, _, e13, rfl, _, _, rfl, [p], lgs near n, c, C12.old, h12, rfl, by rw [lgs_len]; omega, fun u2 H14 k14 hu2 e14 => ?_⟩
    have C14 := (C12.pure k14).add (De.mkLs (l := vers (lgs near n) c) (C12.no hu2) e14 (DxA.ints _))
    refine ⟨_, rfl, ⟨_, SqL.of e14⟩, LcOK.l C14 (C14.d (v := .ref u2) (by walk_at "m")) (fun j => ((vers (lgs near n) c).take j).filter fun x : Int => decide (x ≤ (m : Int))) rfl ?_ ?_⟩
    · intro F D2 j x v H' hv C hx
      cases hx
      walk_at "vc"
      have hp2 := C.get (v := .ref pa) (A := hist K ((lgs near n).take m)) (by walk_at "m")
      obtain ⟨_, dxp, tp, e0, ep⟩ := id hp2.at
      cases e0
      refine ⟨⟨_, _, ep⟩, _, rfl, D2 :: [p], (lgs near n).take m, hp2, _, rfl, ?_⟩
      rw [List.length_take, Nat.min_eq_left hmn]
      have hjl := (List.getElem?_eq_some_iff.mp hv).1
      have hvl := vers_len (lgs near n) c
      rw [lgs_len] at hvl
      split
      · rename_i h1
        refine C.put 0 rfl (a := v) (Dx.int v) (by rw [take_snoc hv, List.filter_append, List.filter_cons, if_pos h1]; rfl) (pos_lt ?_)
        refine Nat.le_trans (List.length_filter_le _ _) ?_
        rw [List.length_take]
        omega
      · rename_i h1
        rw [show ((vers (lgs near n) c).take (j + 1)).filter (fun x : Int => decide (x ≤ (m : Int))) = ((vers (lgs near n) c).take j).filter fun x : Int => decide (x ≤ (m : Int)) by
          rw [take_snoc hv, List.filter_append, List.filter_cons, if_neg h1]; exact List.append_nil _]
        exact C
    · intro D2 H' nD2 C
      rw [List.take_length, vers_take hmn] at C
      have C15 := C.freeze nD2
      refine rEqD_of (C15.d (v := .ref u1) (a := vers ((lgs near n).take m) c) (by walk_at "m")) (C15.d (v := .ref D2) (a := vers ((lgs near n).take m) c) (by walk_at "m")) (by decide) ?_
      rw [decide_eq_true rfl]
      exact q _ C15.kp (C15.potAt 0 rfl).1
theorem G__law_long_right (T : Tx K mg) : FnG P w K mg base CX0 11 (ga K "_law_long_right") (P__law_long_right K) := by
  obtain ⟨fd, F⟩ := F__law_long_right T
  have b : L2.Binds K fd ["_law_pot_here", "_law_base_here"] [] := F.bindsN fun _ _ _ _ _ _ us hl => match us, hl with | [_, _], _ => rfl
  exact fnG_pl F sc__law_long_right b sp2_len (B__law_long_right T)
end Hd

set_option Elab.async false
set_option linter.all false
set_option maxRecDepth 100000
set_option maxHeartbeats 4000000
namespace Hd
open PySem PySem.Spec PyProof.Rows L2 He Lw StX
open Lw.En (enc)
local macro_rules | `(tactic| walk_at "vc") => `(tactic| simp only [tSeq, tAsg, tRet, tRetN, tDrop, tNext, tIfS, tNever, tVar, tC, tOp, tUn, tTest, tB, tNot, tAnd, tOr, tAndV, tOrV, tNotV, tIf, tChain, tCmp, t2I, tCB, tCons, tNil, tTup, tLst, tMC, tFld, sFld, tPr, gName, wipe, List.foldl_cons, List.foldl_nil, tYes, iTup, iList, iEnum, iEnumT, iEnumK, iRng1, iRng2, iRng3, gNil, gCons, gTup, gUnl, gSub, tPar, rI, rI0, rU, tIsN, tNotN, tSl, tPart, tNoPart, tThen, rMk, tStar, tBM, tM1, tLoc, tCM, tCMW, tMW, tCW,
  assignEach, cxOf, L2.start, List.map_cons, List.map_nil, List.length_cons, List.length_nil, List.replicate, List.cons_append, List.nil_append, List.getElem?_cons_zero, List.getElem?_cons_succ, List.set_cons_zero, List.set_cons_succ, Option.some.injEq, V.int.injEq, V.bl.injEq, V.ref.injEq, V.str.injEq, exists_eq_left', exists_eq_left, exists_eq_right', exists_eq_right, exists_and_left, exists_and_right, true_and, and_true, List.cons.injEq, List.cons_ne_nil, reduceCtorEq, false_and, and_false, exists_false, if_true, if_false, Bool.false_eq_true, Bool.true_eq_false, eq_self, forall_eq, forall_eq', rEq_int, rNe_int, rEq_str, rNe_str])

local macro_rules | `(tactic| walk_at "m") => `(tactic| first | exact List.Mem.head _ | (apply List.Mem.tail; walk_at "m"))

variable {P : Program} {w : World} {K : Frag} {mg : Str → Option Value} {base : Heap}
theorem sc__law_right : FnScope ["_law_pot_here", "_law_base_here", "_law_rows_here", "_law_made", "_law_spots_here", "_law_spot"] ["_law_pot_here"] (defScope s__law_right) := ⟨rfl, rfl, rfl, by decide +kernel, rfl, by decide +kernel, by decide +kernel⟩
theorem B__law_right (T : Tx K mg) : BodyG CX0 P w K mg base ["_law_pot_here", "_law_base_here", "_law_rows_here", "_law_made", "_law_spots_here", "_law_spot"] "_law_right" (defScope s__law_right) (defBody s__law_right) 12 (ga K "_law_right") (P__law_right K) := by
  intro cdv A outer s H vs Q E hr h
  have hu := hr.units
  have hu1 := hr.units1
  obtain ⟨x_pot_here, rfl, h⟩ := h
  refine ⟨_, PSs.nox (pss_cons (ps_set (i := 1) sc__law_right.nd rfl (by first | exact Or.inl rfl | exact Or.inr rfl) (pe_c (call_g (G__law_base T) (hr.mono (by decide)) pass0) (kp__law_base T) rfl (g__law_base T) (pa_cons (pv 0) pa_nil)))
    (pss_cons (ps_set (i := 2) sc__law_right.nd rfl (by first | exact Or.inl rfl | exact Or.inr rfl) (pe_c (call_g (G__law_rows T) (hr.mono (by decide)) pass0) (kp__law_rows T) rfl (g__law_rows T) (pa_cons (pv 0) (pa_cons (pv 1) (pa_cons (pe_c (call_g (G__law_draw T) (hr.mono (by decide)) pass0) (kp__law_draw T) rfl (g__law_draw T) (pa_cons (pv 0) (pa_cons pe_int pa_nil))) pa_nil)))))
    (pss_cons (ps_asg (pe_tup (pa_cons (pe_c (call_g (G__law_past T) (hr.mono (by decide)) pass0) (kp__law_past T) rfl (g__law_past T) (pa_cons (pv 2) pa_nil)) (pa_cons (pe_c (call_g (G__law_spots T) (hr.mono (by decide)) pass0) (kp__law_spots T) rfl (g__law_spots T) (pa_cons (pv 2) (pa_cons (pv 1) pa_nil))) pa_nil))) (pg_tupK (K := K) (n := 2) rfl rfl (pgs_cons (pg_name (i := 3) sc__law_right.nd rfl (by first | exact Or.inl rfl | exact Or.inr rfl)) (pgs_cons (pg_name (i := 4) sc__law_right.nd rfl (by first | exact Or.inl rfl | exact Or.inr rfl)) pgs_nil))))
    (pss_cons (ps_if (pt_not (pt_val (pe_callB (cr_all rfl) (by rfl) (z_all T) PyProof.Rows.boot_all (pa_cons (pe_lc rfl sc__law_right.nd (pi_list (pv 4)) (blkOk_by (N := ["_law_pot_here", "_law_base_here", "_law_rows_here", "_law_made", "_law_spots_here", "_law_spot"]) (sc := defScope s__law_right) (own := [("_law_spot", 5)]) (by decide +kernel)) (fun _ _ _ _ _ => (pg_name (i := 5) sc__law_right.nd rfl (by first | exact Or.inl rfl | exact Or.inr rfl))) (fun _ _ _ _ _ => pts_nil) (fun _ _ _ _ _ => (pe_c (call_g (G__law_cell_right T) (hr.mono (by decide)) pass0) (kp__law_cell_right T) rfl (g__law_cell_right T) (pa_cons (pv 3) (pa_cons (pv 2) (pa_cons (pv 5) pa_nil)))))) pa_nil)))) (pss_one (ps_ret pe_bl)) pss_nil)
    (pss_cons (ps_if (PW.pt (pw_or (pt_not (pt_val (pe_c (call_g (G__law_until_right T) (hr.mono (by decide)) pass0) (kp__law_until_right T) rfl (g__law_until_right T) (pa_cons (pv 3) (pa_cons (pv 2) (pa_cons (pv 4) pa_nil)))))) (pw_or1 (pt_not (pt_val (pe_c (call_g (G__law_shown_right T) (hr.mono (by decide)) pass0) (kp__law_shown_right T) rfl (g__law_shown_right T) (pa_cons (pv 3) (pa_cons (pv 2) pa_nil)))))))) (pss_one (ps_ret pe_bl)) pss_nil)
    (pss_cons (ps_if (PW.pt (pw_and (pt_cmpR (op_eq) (pe_callB (call_len_seq) (by rfl) (z_len T) PySem.boot_len (pa_cons (pv 2) pa_nil)) pe_int (nomark _)) (pw_and1 (pt_cmpR ((op_neO (eq_History T) (G_History_eq T) (hr.mono (by decide)) pass0)) (pv 3) (pe_op (op_ownB (b_History_Add T) (bt_History_Add_tuple T) (G_History_add T) (hr.mono (by decide)) pass0) (pe_c (call_mk (k_History T) (G_History_init T) (hr.mono (by decide)) pass0) (k_History T).kp rfl (g_History T) (pa_cons (pe_ix ix_list (pv 2) pe_int (fun _ _ => rfl)) (pa_cons (pe_ix ix_list (pv 2) pe_int (fun _ _ => rfl)) pa_nil))) (pe_ix ix_list (pv 2) pe_int (fun _ _ => rfl))) (nomark _))))) (pss_one (ps_ret pe_bl)) pss_nil)
    (pss_cons (ps_if (pt_not (pt_val (pe_c (call_g (G__law_long_right T) (hr.mono (by decide)) pass0) (kp__law_long_right T) rfl (g__law_long_right T) (pa_cons (pv 0) (pa_cons (pv 1) pa_nil))))) (pss_one (ps_ret pe_bl)) pss_nil)
    (pss_one (ps_ret (pe_and (pe_c (call_g (G__law_others_right T) (hr.mono (by decide)) pass0) (kp__law_others_right T) rfl (g__law_others_right T) (pa_cons (pv 0) (pa_cons (pv 3) (pa_cons (pv 2) pa_nil)))) (pe_one (pe_c (call_g (G__law_points_right T) (hr.mono (by decide)) pass0) (kp__law_points_right T) rfl (g__law_points_right T) (pa_cons (pv 0) (pa_cons (pv 1) pa_nil)))))))))))))), ?_⟩
  walk_at "vc"
  obtain ⟨p, rfl, hp, q⟩ := h
  have C := (Ctx.start (T0 := [p]) (Old.nil.cons hp.old.choose_spec) (fun _ h => h)).addPot hp (List.mem_singleton_self p)
  refine ⟨_, rfl, p, rfl, hp, fun b H1 k1 hp1 hb => ?_⟩
  have C1 := C.pot 0 rfl k1 hp1
  refine ⟨_, _, rfl, p, 10, rfl, (C1.potAt 0 rfl).1, rfl, by omega, by omega, fun r H2 k2 hp2 h0 h1 => ?_⟩
  have C2 := C1.pot 0 rfl k2 hp2
  obtain ⟨n, rfl⟩ := Int.eq_ofNat_of_zero_le h0
  refine ⟨_, _, _, rfl, [p], p, b, n, C2.old, List.mem_singleton_self p, rfl, (C2.potAt 0 rfl).1, rfl, hb, rfl, by omega, fun rv H3 rows k3 hp3 dr hl ho hB => ?_⟩
  have C3 := (C2.pot 0 rfl k3 hp3).add dr
  refine ⟨_, rfl, [p], rows, C3.old, C3.d (by walk_at "m"), ho, by omega, fun tm H4 k4 h4 => ?_⟩
  have C4 := (C3.pure k4).addA (A := hist K rows) h4
  refine ⟨_, _, rfl, [p], rows, b, C4.old, C4.d (by walk_at "m"), rfl, by omega, fun sv H5 ns k5 ds hns => ?_⟩
  have C5 := (C4.pure k5).add ds
  refine ⟨by decide, fun t ht => ⟨_, SqT.of upd_same, rfl, _, _, rfl, _, _, rfl, rfl, ?_⟩⟩
  have C6 := C5.pure (.new (o := .tup [tm, sv]) ht)
  generalize upd H5 t (.tup [tm, sv]) = H6 at C6
  refine tLc_l C6 (C6.d (v := sv) (a := ns) (by walk_at "m")) rfl (fun j => List.replicate j true) rfl ?_ ?_
  · intro F D j x c H' hc C hx
    cases hx
    have hjl := (List.getElem?_eq_some_iff.mp hc).1
    walk_at "vc"
    refine ⟨_, _, _, rfl, D :: [p], rows, c, C.old, C.get (A := hist K rows) (by walk_at "m"), C.d (by walk_at "m"), rfl, ho, by omega, fun H2 k2 => ?_⟩
    exact (C.pure k2).put 0 rfl (a := true) (Dx.bl true) (by rw [← List.replicate_succ']; rfl) (by rw [List.length_replicate]; exact pos_lt (by omega))
  · intro D H7 nD C
    have C7 := C.freeze nD
    obtain ⟨_, ys, e0, _, e, d⟩ := (C7.d (v := .ref D) (by walk_at "m")).ls
    cases e0
    have e2 := d.bools
    subst e2
    refine ⟨D, _, rfl, SqL.of e, _, rfl, iteF (by simp) ?_⟩
    refine ⟨_, _, _, rfl, [p], rows, ns, C7.old, C7.get (A := hist K rows) (by walk_at "m"), C7.d (by walk_at "m"), C7.d (by walk_at "m"), ho, by omega, by omega, fun H8 k8 => ⟨_, rfl, iteF rfl ?_⟩⟩
    have C8 := C7.pure k8
    refine ⟨_, _, rfl, [p], rows, C8.old, C8.get (A := hist K rows) (by walk_at "m"), C8.d (by walk_at "m"), hB, by omega, fun H9 k9 => ⟨_, rfl, iteF rfl ?_⟩⟩
    have C9 := C8.pure k9
    have dr9 := C9.d (v := rv) (a := rows) (by walk_at "m")
    obtain ⟨ra, rxs, rfl, nra, era, dra⟩ := id dr9.ls
    have hrl := dra.len
    refine ⟨_, rfl, _, .inl (SqL.of era), ?_⟩
    have fin : ∀ (H10 : Hp) (L : List (V × AV)), Ctx H [p] [p] [p] [.pot p] L H10 → (tm, hist K rows) ∈ L → (V.ref ra, dat rows) ∈ L → P__law_long_right K [.ref p, .int b] H10 (fun x H1 => ∃ c, x = .bl c ∧ if (!c) = true then Q (.bl false) H1 else
        P__law_others_right K [.ref p, tm, .ref ra] H1 (fun x H1 => ∃ c, x = .bl c ∧ if c = true then P__law_points_right K [.ref p, .int b] H1 Q E0 else Q (.bl false) H1) E0) E0 := by
      intro H10 L C10 m1 m2
      refine ⟨_, _, rfl, p, b, rfl, (C10.potAt 0 rfl).1, rfl, hb, fun H11 k11 hp11 => ⟨_, rfl, iteF rfl ?_⟩⟩
      have C11 := C10.pot 0 rfl k11 hp11
      refine ⟨_, _, _, rfl, [p], p, rows, C11.old, List.mem_singleton_self p, rfl, (C11.potAt 0 rfl).1, C11.get m1, C11.d m2, ho, by omega, fun H12 k12 hp12 => ⟨_, rfl, iteT' rfl ?_⟩⟩
      have C12 := C11.pot 0 rfl k12 hp12
      refine ⟨_, _, rfl, p, b, rfl, (C12.potAt 0 rfl).1, rfl, fun H13 k13 hp13 => q _ (C12.pot 0 rfl k13 hp13).kp⟩
    split
    · rename_i h3
      have h3 : rows.length = 3 := by
        have := of_decide_eq_true h3
        omega
      match rows, h3 with
      | [r0, r1, r2], _ =>
      refine ixD (C9.d (v := .ref ra) (a := [r0, r1, r2]) (by walk_at "m")) (n := 0) rfl rfl fun y0 d0 => ixD (C9.d (v := .ref ra) (a := [r0, r1, r2]) (by walk_at "m")) (n := 1) rfl rfl fun y1 d1 => ?_
      refine mk_History (S := [p]) (es := [r0, r1]) (Q := fun v H2 => rIxL K (V.ref ra) (V.int 2) H2 fun y H2 => rOwnT K (ga K "History") "tuple" (P_History_add K) E0 v y H2 fun y H2 => rNeO K (ga K "History") (P_History_eq K) E0 tm y H2 _) C9.old (.cons d0 (.cons d1 .nil)) (fun z hz => ho z (by simp at hz; rcases hz with h | h <;> simp [h])) (by simp) fun v H10 k10 h10 => ?_
      have C10 := C9.pure k10
      obtain ⟨va, vdx, vt, rfl, eva⟩ := id h10.at
      refine ixD (C10.d (v := .ref ra) (a := [r0, r1, r2]) (by walk_at "m")) (n := 2) rfl rfl fun y2 d2 => ?_
      obtain ⟨b2, rfl, nb2, eb2⟩ := d2.ints
      refine ⟨va, _, _, rfl, eva, .tup eb2, _, _, rfl, [p], [r0, r1], r2, C10.old, h10, d2, fun z hz => ho z (by simp at hz; rcases hz with h | h <;> simp [h]), ho r2 (by simp), by simp, fun w H11 k11 h11 => ?_⟩
      have C11 := C10.pure k11
      obtain ⟨wa, wdx, wt, rfl, ewa⟩ := id h11.at
      have ht := C11.get (v := tm) (A := hist K [r0, r1, r2]) (by walk_at "m")
      obtain ⟨ta, tdx, tt, rfl, eta⟩ := id ht.at
      refine ⟨ta, _, _, rfl, eta, .inr ⟨_, _, _, rfl, ewa⟩, _, _, rfl, [p], _, ht, .inl ⟨[p], _, h11, _, rfl, _, rfl, iteF (by simp) ?_⟩⟩
      exact fin _ _ C11 (by walk_at "m") (by walk_at "m")
    · exact fin _ _ C9 (by walk_at "m") (by walk_at "m")
theorem G__law_right (T : Tx K mg) : FnG P w K mg base CX0 13 (ga K "_law_right") (P__law_right K) := by
  obtain ⟨fd, F⟩ := F__law_right T
  have b : L2.Binds K fd ["_law_pot_here"] [] := F.bindsN fun _ _ _ _ _ _ us hl => match us, hl with | [_], _ => rfl
  exact fnG_pl F sc__law_right b sp1_len (B__law_right T)
end Hd

set_option Elab.async false
set_option linter.all false
set_option maxRecDepth 100000
set_option maxHeartbeats 4000000
namespace Hd
open PySem PySem.Spec PyProof.Rows L2 He Lw StX
open Lw.En (enc)
local macro_rules | `(tactic| walk_at "vc") => `(tactic| simp only [tSeq, tAsg, tRet, tRetN, tDrop, tNext, tIfS, tNever, tVar, tC, tOp, tUn, tTest, tB, tNot, tAnd, tOr, tAndV, tOrV, tNotV, tIf, tChain, tCmp, t2I, tCB, tCons, tNil, tTup, tLst, tMC, tFld, sFld, tPr, gName, wipe, List.foldl_cons, List.foldl_nil, tYes, iTup, iList, iEnum, iEnumT, iEnumK, iRng1, iRng2, iRng3, gNil, gCons, gTup, gUnl, gSub, tPar, rI, rI0, rU, tIsN, tNotN, tSl, tPart, tNoPart, tThen, rMk, tStar, tBM, tM1, tLoc, tCM, tCMW, tMW, tCW,
  assignEach, cxOf, L2.start, List.map_cons, List.map_nil, List.length_cons, List.length_nil, List.replicate, List.cons_append, List.nil_append, List.getElem?_cons_zero, List.getElem?_cons_succ, List.set_cons_zero, List.set_cons_succ, Option.some.injEq, V.int.injEq, V.bl.injEq, V.ref.injEq, V.str.injEq, exists_eq_left', exists_eq_left, exists_eq_right', exists_eq_right, exists_and_left, exists_and_right, true_and, and_true, List.cons.injEq, List.cons_ne_nil, reduceCtorEq, false_and, and_false, exists_false, if_true, if_false, Bool.false_eq_true, Bool.true_eq_false, eq_self, forall_eq, forall_eq', rEq_int, rNe_int, rEq_str, rNe_str])

local macro_rules | `(tactic| walk_at "m") => `(tactic| first | exact List.Mem.head _ | (apply List.Mem.tail; walk_at "m"))

variable {P : Program} {w : World} {K : Frag} {mg : Str → Option Value} {base : Heap}
def P_law (K : Frag) : Sp := sp1 fun x H Q _ => ∃ a, ∃ ns : List Int, x = .ref a ∧ SqL K H a (ns.map V.int) ∧ ns.length ≤ 63 ∧ ∀ H', Q (.bl true) H'
theorem sc_law : FnScope ["_law_script", "_law_k"] ["_law_script"] (defScope s_law) := ⟨rfl, rfl, rfl, by decide +kernel, rfl, by decide +kernel, by decide +kernel⟩
theorem B_law (T : Tx K mg) : BodyG CX0 P w K mg base ["_law_script", "_law_k"] "law" (defScope s_law) (defBody s_law) 14 (ga K "law") (P_law K) := by
  intro cdv A outer s H vs Q E hr h
  have hu := hr.units
  have hu1 := hr.units1
  obtain ⟨x_script, rfl, h⟩ := h
  refine ⟨_, PSs.nox (pss_one (ps_ret (pe_callB (cr_all rfl) (by rfl) (z_all T) PyProof.Rows.boot_all (pa_cons (pe_lc rfl sc_law.nd (pi_range1 rfl (z_range T) (pa_cons (pe_callB (call_max2 rfl) (by rfl) (z_max T) PyProof.Rows.boot_max (pa_cons pe_int (pa_cons (pe_callB (call_min2 rfl) (by rfl) (z_min T) PyProof.Rows.boot_min (pa_cons (pe_callB (call_len_seq) (by rfl) (z_len T) PySem.boot_len (pa_cons (pv 0) pa_nil)) (pa_cons pe_int pa_nil))) pa_nil))) pa_nil)) (blkOk_by (N := ["_law_script", "_law_k"]) (sc := defScope s_law) (own := [("_law_k", 1)]) (by decide +kernel)) (fun _ _ _ _ _ => (pg_name (i := 1) sc_law.nd rfl (by first | exact Or.inl rfl | exact Or.inr rfl))) (fun _ _ _ _ _ => pts_nil) (fun _ _ _ _ _ => (pe_c (call_g (G__law_right T) (hr.mono (by decide)) pass0) (kp__law_right T) rfl (g__law_right T) (pa_cons (pe_c (call_g (G__law_pot T) (hr.mono (by decide)) pass0) (kp__law_pot T) rfl (g__law_pot T) (pa_cons (pv 0) (pa_cons (pv 1) pa_nil))) pa_nil)))) pa_nil)))), ?_⟩
  walk_at "vc"
  obtain ⟨a, ns, rfl, hq, hz, q⟩ := h
  refine tLc_d H [] [] (fun i => List.replicate i true) (walk_range (lo := 0) (n := max 1 (min ns.length 4))) (fun R hR => ?_) rfl (fun _ _ _ _ => trivial) ?_ ?_
  · walk_at "vc"
    refine ⟨_, .inl hq, _, _, ⟨rfl, rfl⟩, _, _, ⟨rfl, rfl⟩, ?_⟩
    rw [List.length_map]
    have e : (if (if (4 : Int) < (ns.length : Int) then 4 else (ns.length : Int)) > 1 then (if (4 : Int) < (ns.length : Int) then 4 else (ns.length : Int)) else 1) = ((max 1 (min ns.length 4) : Nat) : Int) := by
      split <;> split <;> omega
    rw [e]
    exact ⟨by omega, by omega, by rw [Int.toNat_natCast]; exact hR⟩
  · rintro D i x H1 H2 hi pp ⟨rfl, rfl⟩
    walk_at "vc"
    have hq2 : SqL K H2 a (ns.map V.int) := SqL_kp hq pp.kp fun o e z => by
      rw [List.mem_singleton.mp z, pp.new] at e
      cases e
    refine ⟨_, _, rfl, a, ns, i, rfl, hq2, by rw [Int.zero_add], by omega, fun t H3 k3 hn hp => ⟨t, rfl, hp, fun H4 k4 => ?_⟩⟩
    refine pp.put ((k3.of0.trans k4).newS hn) Old.nil subNil (v := true) (Dx.bl true) (by rw [List.replicate_succ']) ?_
    have := sizeLine_eq
    rw [List.length_replicate]
    omega
  · intro D H1 pp
    obtain ⟨k, d⟩ := pp.done Old.nil
    obtain ⟨b, ys, e1, nb, eb, db⟩ := d.ls
    cases e1
    have eb2 := db.bools
    subst eb2
    refine ⟨D, _, rfl, SqL.of eb, ?_⟩
    rw [show (List.replicate (max 1 (min ns.length 4)) true).all id = true by simp]
    exact q _
theorem G_law (T : Tx K mg) : FnG P w K mg base CX0 15 (ga K "law") (P_law K) := by
  obtain ⟨fd, F⟩ := F_law T
  have b : L2.Binds K fd ["_law_script"] [] := F.bindsN fun _ _ _ _ _ _ us hl => match us, hl with | [_], _ => rfl
  exact fnG_pl F sc_law b sp1_len (B_law T)
end Hd

set_option Elab.async false
set_option linter.all false
set_option maxRecDepth 100000
set_option maxHeartbeats 4000000
namespace Hd
open PySem PySem.Spec PyProof.Rows L2 He Lw StX
open Lw.En (enc)
local macro_rules | `(tactic| walk_at "vc") => `(tactic| simp only [tSeq, tAsg, tRet, tRetN, tDrop, tNext, tIfS, tNever, tVar, tC, tOp, tUn, tTest, tB, tNot, tAnd, tOr, tAndV, tOrV, tNotV, tIf, tChain, tCmp, t2I, tCB, tCons, tNil, tTup, tLst, tMC, tFld, sFld, tPr, gName, wipe, List.foldl_cons, List.foldl_nil, tYes, iTup, iList, iEnum, iEnumT, iEnumK, iRng1, iRng2, iRng3, gNil, gCons, gTup, gUnl, gSub, tPar, rI, rI0, rU, tIsN, tNotN, tSl, tPart, tNoPart, tThen, rMk, tStar, tBM, tM1, tLoc, tCM, tCMW, tMW, tCW,
  assignEach, cxOf, L2.start, List.map_cons, List.map_nil, List.length_cons, List.length_nil, List.replicate, List.cons_append, List.nil_append, List.getElem?_cons_zero, List.getElem?_cons_succ, List.set_cons_zero, List.set_cons_succ, Option.some.injEq, V.int.injEq, V.bl.injEq, V.ref.injEq, V.str.injEq, exists_eq_left', exists_eq_left, exists_eq_right', exists_eq_right, exists_and_left, exists_and_right, true_and, and_true, List.cons.injEq, List.cons_ne_nil, reduceCtorEq, false_and, and_false, exists_false, if_true, if_false, Bool.false_eq_true, Bool.true_eq_false, eq_self, forall_eq, forall_eq', rEq_int, rNe_int, rEq_str, rNe_str])

local macro_rules | `(tactic| walk_at "m") => `(tactic| first | exact List.Mem.head _ | (apply List.Mem.tail; walk_at "m"))

variable {P : Program} {w : World} {K : Frag} {mg : Str → Option Value} {base : Heap}
theorem Tx.of {h : Heap} (X : K.In h) (G : h.Ns mainGlobals mg) (c : SaysB fs fn K) : Tx K mg := ⟨c, fun x hx => He.glo_ok X G hx, fun x hx => He.free_ok X G hx⟩
end Hd
open PySem PySem.W PySem.Calls PyProof.Rows
set_option maxHeartbeats 0 in
theorem PySem.Challenge.cw_onceseen_k11_whole_versions_by_looking_t_holds : PySem.Challenge.rw_onceseen_k11_whole_versions_by_looking_t.Holds := by
  w_on; o_law
  refine HandSHeadRun.head_any (r := OpenLaw.row PySem.Challenge.rw_onceseen_k11_whole_versions_by_looking_t) (q := view (OpenLaw.row PySem.Challenge.rw_onceseen_k11_whole_versions_by_looking_t).prog [Hd.ilaw]) (H := Hd.hk) (ob := Hd.ob) (M := 20000) (loose := Hd.loose) (d := HandSHeadRun.topDef (OpenLaw.row PySem.Challenge.rw_onceseen_k11_whole_versions_by_looking_t).prog Hd.ilaw) (kwd := []) Hd.ob_eq
    (by kernel_rfl) (fun s => by kernel_rfl) Hd.run (by kernel_rfl) (by kernel_rfl) (by kernel_rfl) (by rfl) (by first | assumption | decide +kernel) (by decide +kernel) ⟨rfl, rfl, rfl, rfl, rfl, by decide +kernel⟩ ?hw ?hc
  case hw => w_witness2
  case hc =>
    refine Lw.end_law (l := PySem.Challenge.rw_onceseen_k11_whole_versions_by_looking_t) (n := 63) (k := 15) rfl (by decide) (by kernel_rfl) ⟨rfl, by decide, by decide⟩ ?F
    intro w mg fa h Y G hmg0
    obtain ⟨K, KX, c⟩ := Y
    have T := Hd.Tx.of KX G c
    have hmg : mg ("law" : PySem.Str) = some (.ref fa) := by
      have e : (HandSHeadRun.topDef (OpenLaw.row PySem.Challenge.rw_onceseen_k11_whole_versions_by_looking_t).prog Hd.ilaw).name = ("law" : PySem.Str) := by kernel_rfl
      rw [← e]
      exact hmg0
    have e := hmg.symm.trans (Hd.g_law T)
    cases e
    exact ⟨K, Hd.P_law K, KX, fun H a ns hl hS => ⟨_, rfl, a, ns, rfl, hS, hl, fun _ => rfl⟩, fun base _ _ => Hd.G_law T⟩
namespace Hd
end Hd

