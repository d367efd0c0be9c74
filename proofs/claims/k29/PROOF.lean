import PyProof.Rows.All
import Wide.All
import OpenK.AllK
import Wide.FinOn
import KE.KStateDown
import HandS.Base
import HandS.Call
import HandS.Exc
import HandS.Ends
import HandS.More
import HandS.Words
import HandS.WordsExc
import HandS.Defaults
import HandS.Head0
import HandS.Head1
import HandS.Head2
import HandS.HeadEnd
import HandS.HeadHook1
import HandS.HeadHook2
import HandS.HeadNt
import HandS.List
import HandS.Comp
import HandS.Iter
import HandS.Conv
import HandS.Text
import HandS.FStr
import HandS.Star
import HandS.MethStar
import HandS.Property
import HandS.ClsMeth
import HandS.OwnEq
import HandS.WideBits
import HandS.IsInst
import HandS.Flow
import HandS.WordsList
import KE.KOpsOwn
import KE.DataIsa
import OpenK.KMeth
import OpenK.KOps
import HandS.Deep
import HandS.TupAny
import HandS.SlotsOwn
import KE.GoesEnum
import KE.GoesEnumKw
import HandS.EndBits
import PySem.Challenge.RW_onceseen_k29_whole_holders_counted
import HandS.NoneIn
import HandS.Walk
import HandS.MakeKw
import HandS.Lambda
import HandS.SetFor
import HandS.Strs
import HandS.TupSets
import HandS.Sort
import HandS.SortInts
import PyProof.ReprLen
import HandS.Wide
import HandS.Style
import PyProof.ReprRoads
import PyProof.ListMulRight
import KE.GoesMore
set_option Elab.async false
set_option linter.all false
set_option maxRecDepth 100000
/-! the head's facts: any Bool of the written part, each def by its place -/
namespace Lw
open PySem PySem.Spec PyProof.Rows L2 He
abbrev Frag := PySem.W.Frag
abbrev DefA := He5.DefA
def obsB (fs : List (Frag → Bool)) (fn : List DefA) (K : Frag) : He.AlD := ((fs.all fun f => f K) && fn.all fun d => d.ok K, fn.map fun d => He5.fnA K (d.at_ K))
def valB (fn : List DefA) : He.AlD := (true, fn.map He5.DefA.val)
def SaysB (fs : List (Frag → Bool)) (fn : List DefA) (K : Frag) : Prop := obsB fs fn K = valB fn
def obsBG (n : Nat) (fs : List (Frag → Bool)) (fn : List DefA) (g : Addr → Option Obj) : He.AlD := obsB fs fn (frG g (He5.asA g n))
def hookB (n : Nat) (fs : List (Frag → Bool)) (fn : List DefA) : PySem.W.Hook where
  α := He.AlD
  obs := fun s => obsBG n fs fn s.heap.get?
  val := fun _ => valB fn
  says := fun _ h => ∃ K : Frag, K.In h ∧ SaysB fs fn K
  of := fun _ _ e => ⟨_, frG_in, e⟩
  keeps := fun _ _ _ ⟨K, hK, c⟩ k => ⟨K, PySem.W.Frag.In.keeps hK k, c⟩
theorem obsBG_eq {n : Nat} {fs : List (Frag → Bool)} {fn : List DefA} {g : Addr → Option Obj} {s : Shared} (h : ∀ a, g a = s.heap.get? a) : obsBG n fs fn g = (hookB n fs fn).obs s := by
  have e : g = s.heap.get? := funext h
  rw [e] <;> rfl
section
variable {fs : List (Frag → Bool)} {fn : List DefA} {K : Frag}
theorem SaysB.fact (c : SaysB fs fn K) {f : Frag → Bool} (h : f ∈ fs) : f K = true := by
  have c1 := (ba (show ((fs.all fun f => f K) && fn.all fun d => d.ok K) = true from congrArg (fun z : He.AlD => z.1) c)).1
  exact List.all_eq_true.mp c1 f h
theorem SaysB.def_ (c : SaysB fs fn K) (i : Nat) {d : DefA} (h : fn[i]? = some d) : ∃ fd, L2.FunD K d.name d.qual d.params d.body d.scope (d.dvs K) (d.kws K) (d.at_ K) fd := by
  have c2 := (ba (show ((fs.all fun f => f K) && fn.all fun d => d.ok K) = true from congrArg (fun z : He.AlD => z.1) c)).2
  have e : fn.map (fun d => He5.fnA K (d.at_ K)) = fn.map He5.DefA.val := congrArg (fun z : He.AlD => z.2) c
  have e2 : (fn.map fun d => He5.fnA K (d.at_ K))[i]? = (fn.map He5.DefA.val)[i]? := by rw [e]
  rw [List.getElem?_map, List.getElem?_map, h] at e2
  exact He5.DefA.funD (Option.some.inj e2) (List.all_eq_true.mp c2 d (List.mem_of_getElem? h))
end
/-! facts as Bools -/
def bGlo (x : Str) (K : Frag) : Bool := eqO (PySem.W.nsIn K mainGlobals x) (some (some (.ref (ga K x))))
def bFree (x : Str) (K : Frag) : Bool := eqO (PySem.W.nsIn K mainGlobals x) (some none)
def bCls (x : Str) (K : Frag) : Bool := (Fa.cls x).ok K
def bNoat (x f : Str) (K : Frag) : Bool := eqO (PySem.W.findIn K (.ref (ga K x)) f) (some none)
def bMeth (x m : Str) (K : Frag) : Bool := (Fa.meth x m).ok K
def bMkr (x : Str) (K : Frag) : Bool := (Fa.mkr x).ok K
/-- a property: its record p, its getter g -/
def pg (K : Frag) (C m : Str) : Addr := He5.wf K (ga K C) "property" m
def bProp (C m : Str) (K : Frag) : Bool := eqO (PySem.W.findIn K (.ref (ga K C)) m) (some (some (.ref (ma K (ga K C) m)))) &&
  (eqO (PySem.W.specialIn K (.ref (ma K (ga K C) m)) "__get__") (some (some (.builtin "property.__get__"))) &&
  (decide (PySem.W.takesIn K (.ref (ma K (ga K C) m)) = some true) && (match PySem.W.recIn K (ma K (ga K C) m) "property" with
    | some (.ref _ :: _) => true
    | _ => false)))
end Lw

set_option Elab.async false
set_option linter.all false
set_option maxRecDepth 100000
set_option maxHeartbeats 4000000
/-! promises where no repr is under way; calls by values -/
namespace Lw
open PySem PySem.Spec PyProof.Rows L2 StX
structure RoomG (k : Nat) (A : Around) : Prop where
  room : Room k A
  gd : A.guards = some []
theorem RoomG.mono {j k : Nat} {A : Around} (r : RoomG k A) (h : j ≤ k) : RoomG j A := ⟨r.room.mono h, r.gd⟩
theorem RoomG.deeper {k : Nat} {A : Around} (r : RoomG (k + 1) A) (env : Env) : RoomG k (A.deeper env) := ⟨r.room.deeper env, r.gd⟩
theorem RoomG.in1 {k : Nat} {A : Around} (r : RoomG (k + 1) A) : RoomG k A.in1 := ⟨r.room.in1, r.gd⟩
theorem RoomG.make {k : Nat} {A : Around} (r : RoomG (k + 1) A) (C : Addr) (us : List Value) (kw : List (Str × Value)) : RoomG k (A.under (.builtin "type.__call__" ⟨.ref C :: us, kw⟩)) := by
  refine ⟨r.room.make C us kw, ?_⟩
  have e : Code.guards (.builtin "type.__call__" ⟨.ref C :: us, kw⟩) = [] := by
    first | rfl | simp [Code.guards, Code.isGuard, guardIds]
  show pushGuards (Code.guards (.builtin "type.__call__" ⟨.ref C :: us, kw⟩)) A.guards = some []
  rw [e]
  exact r.gd
theorem RoomG.units {k : Nat} {A : Around} (r : RoomG k A) : A.units + 64 < cLine := r.room.units
theorem RoomG.units0 {k : Nat} {A : Around} (r : RoomG k A) : A.units < cLine := r.room.units0
/-- a promise by positional values, no repr being under way -/
def FnG (P : Program) (w : World) (K : PySem.W.Frag) (mg : Str → Option Value) (base : Heap) (CX : CXT) (k : Nat) (f : Addr) (sp : Sp) : Prop :=
  ∀ (A : Around) (outer : List Env) (s : Shared) (H : Hp) (us : List Value) (vs : List V) (Q : VK) (E : XK), RoomG k A → Env0 P w K mg base A outer s H → Vals vs us → sp vs H Q E →
    codeAny (model P w) A (.call (.ref f) ⟨us, []⟩) (CR CX outer P w H s Q E) s
section
variable {P : Program} {w : World} {K : PySem.W.Frag} {mg : Str → Option Value} {base : Heap} {CX : CXT} {j k : Nat} {f : Addr} {sp sp' : Sp}
theorem FnG.mono (F : FnG P w K mg base CX j f sp) (h : j ≤ k) : FnG P w K mg base CX k f sp := fun A outer s H us vs Q E hr => F A outer s H us vs Q E (hr.mono h)
theorem FnG.imp (F : FnG P w K mg base CX k f sp) (h : ∀ vs H Q E, sp' vs H Q E → sp vs H Q E) : FnG P w K mg base CX k f sp' := fun A outer s H us vs Q E hr e0 r hs => F A outer s H us vs Q E hr e0 r (h _ _ _ _ hs)
end
section
variable {X : Cx} {CX : CXT} {k : Nat} {f C : Addr} {sp : Sp} {E : XK} {pins : List (Addr × Obj)} {σ : L2.St} {H : Hp} {s : Shared}
/-- how a callee's end reaches the caller -/
theorem run_gA {A : Around} {Q : VK} {us : List Value} {vs : List V} (F : FnG X.prog X.w X.K X.mg X.base CX k f sp) (hr : RoomG k A) (e0 : Env0 X.prog X.w X.K X.mg X.base A X.stack s H) (hx : Passes CX X E) (I : Inv X pins σ H s) (r : Vals vs us) (h : sp vs H Q E) :
    codeAny (model X.prog X.w) A (.call (.ref f) ⟨us, []⟩) (fun r s' => match r with | .ok (.ret v) => EP X pins σ Q v s' | .ok _ => False | .error e => X.xe e s') s := by
  refine codeAny_mono (F A X.stack s H us vs Q E hr e0 r h) fun r s' hq => ?_
  match r, hq with
  | .error e, hq => exact hx pins σ H s e s' I hq
  | .ok (.ret u), hq => exact I.after hq
  | .ok .next, hq => exact False.elim hq
  | .ok .brk, hq => exact False.elim hq
  | .ok .cont, hq => exact False.elim hq
theorem run_g {Q : VK} {us : List Value} {vs : List V} (F : FnG X.prog X.w X.K X.mg X.base CX k f sp) (hr : RoomG k X.A) (hx : Passes CX X E) (I : Inv X pins σ H s) (r : Vals vs us) (h : sp vs H Q E) :
    wpAny (model X.prog X.w) X.A (call (.ref f) us) (EP X pins σ Q) X.xe s := wpAny_call (run_gA F hr I.env0 hx I r h)
theorem run_g1 {Q : VK} {us : List Value} {vs : List V} (F : FnG X.prog X.w X.K X.mg X.base CX k f sp) (hr : RoomG (k + 1) X.A) (hx : Passes CX X E) (I : Inv X pins σ H s) (r : Vals vs us) (h : sp vs H Q E) :
    wpAny (model X.prog X.w) X.A.in1 (call (.ref f) us) (EP X pins σ Q) X.xe s := wpAny_call (run_gA F hr.in1 I.env0.in1 hx I r h)
/-- a def, called by values -/
theorem call_g (F : FnG X.prog X.w X.K X.mg X.base CX k f sp) (hr : RoomG k X.A) (hx : Passes CX X E) : CallR X (.ref f) fun vs H Q => sp vs H Q E :=
  fun pins s σ H xs us Q I r h => run_g F hr hx I r h
/-- a class, called by values: a new instance, its __init__ -/
abbrev rMk (C : Addr) (sp : Sp) (E : XK) : List V → Hp → VK → Prop := fun vs H Q => ∀ x dx, H x = Option.none → H dx = Option.none → dx ≠ x →
  sp (V.ref x :: vs) (upd (upd H dx (.own x)) x (.ins C dx [])) (fun v H2 => v = .non ∧ Q (.ref x) H2) E
theorem call_mk (M : Mk X.K C f) (F : FnG X.prog X.w X.K X.mg X.base CX k f sp) (hr : RoomG (k + 1) X.A) (hx : Passes CX X E) : CallR X (.ref C) (rMk C sp E) := by
  intro pins s σ H xs us Q I r h
  have hq := h (s.heap.objs.size + 1) s.heap.objs.size (I.hok.fresh (Nat.le_succ _)) (I.hok.fresh (Nat.le_refl _)) (Nat.ne_of_lt (Nat.lt_succ_self _))
  have I2 := Inv.made (C := C) I
  have r2 : Vals (V.ref (s.heap.objs.size + 1) :: xs) (Value.ref (s.heap.objs.size + 1) :: us) := .cons rfl r
  refine wpAny_call (make_map (f := f) I.kIn M.makes M.init (beq_iff_eq.mp M.fn) (codeAny_mono (F _ X.stack _ _ (Value.ref (s.heap.objs.size + 1) :: us) _ _ E (hr.make C us []) (I2.env0.make C us []) r2 hq) fun r s' hq' => ?_))
  match r, hq' with
  | .error e, hq' => exact hx pins σ _ _ e s' I2 hq'
  | .ok (.ret u), hq' =>
    obtain ⟨v, H', I3, rv, ev, q3⟩ := I2.after hq'
    subst ev
    exact ⟨rv, ⟨V.ref (s.heap.objs.size + 1), H', I3, rfl, q3⟩⟩
  | .ok .next, hq' => exact False.elim hq'
  | .ok .brk, hq' => exact False.elim hq'
  | .ok .cont, hq' => exact False.elim hq'
end
/-! the forms of a call of a name of the module -/
section
variable {X : Cx} {u : Value} {x m : Str} {r : List V → Hp → VK → Prop} {e e2 o : Expr} {es : List Expr} {te ta : TE} {t : TA} {p sp_ pos apos : Pos} {C f : Addr}
theorem pe_c0 (hc : CallR X u r) (hk : PySem.W.keepIn X.K u = true) (hg : Gl X x) (hm : X.mg x = some u) (hd : (x == ("__debug__" : Str)) = false := by decide) : PE X (.Call (.Name x p) [] [] pos) (tCB r tNil) :=
  ⟨fun pins s σ H Q I h => wpAny_Call_Name_kw (ld_glob I hg hm (PySem.W.callWith_K0 I.kIn hk (hc pins s σ H [] [] Q I .nil h)) hd)⟩
theorem pe_c (hc : CallR X u r) (hk : PySem.W.keepIn X.K u = true) (hg : Gl X x) (hm : X.mg x = some u) (ha : PA X (e :: es) t) (hd : (x == ("__debug__" : Str)) = false := by decide)
    (he : starEach (e :: es) X.env = (false, eval e X.env) :: starEach es X.env := by rfl) (hpl : (backTo pos (starEach es X.env)).any (·.1) = false := by rfl) : PE X (.Call (.Name x p) (e :: es) [] pos) (tCB r t) :=
  ⟨fun pins s σ H Q I h => wpAny_Call_Name_kw (ld_glob I hg hm (PySem.W.callWith_K (h₀ := X.base) I.ok.mod.kin hk (thn (ha.run pos pins s σ H _ I h) fun us s1 ⟨vs, H1, I1, rv, q⟩ => ⟨I1.kIn, hc pins s1 σ H1 vs us Q I1 rv q⟩) he hpl) hd)⟩
/-- x( *e) -/
theorem pe_cS (hc : CallR X u r) (hk : PySem.W.keepIn X.K u = true) (hg : Gl X x) (hm : X.mg x = some u) (he : PE X e te) (hd : (x == ("__debug__" : Str)) = false := by decide)
    (hst : starEach [.Starred e sp_] X.env = [(true, eval e X.env)] := by rfl) : PE X (.Call (.Name x p) [.Starred e sp_] [] pos) (tCB r (tStar X.K te tNil)) := by
  refine ⟨fun pins s σ H Q I h => wpAny_Call_Name_kw (ld_glob I hg hm ?_ hd)⟩
  refine PySem.W.callWith_S (h₀ := X.base) I.ok.mod.kin hk (thn (he.run pins s σ H _ I h) fun v s1 ⟨y, H1, I1, ry, a, xs, ey, hxs, q⟩ => ?_) hst
  subst ey
  obtain rfl : v = Value.ref a := ry
  refine star_any I1 hxs fun us s2 I2 rv => ⟨I2.kIn, ?_⟩
  have q' : r (xs ++ []) H1 Q := q
  rw [List.append_nil] at q'
  exact hc pins s2 σ H1 xs us Q I2 rv q'
theorem evalArgs_star2 {M : Model} {A : Around} {Ex : Value → Shared → Prop} {s : Shared} {g : Value} {y : Sem Value} {b : Bool × Sem Value} {rest : List (Bool × Sem Value)} {Q : Args → Shared → Prop}
    (h : wpAny M A (spliced ((true, y) :: b :: rest)) (fun vs s' => Q ⟨vs, []⟩ s') Ex s) : wpAny M A (evalArgs g true ((true, y) :: b :: rest) []) Q Ex s := by
  unfold evalArgs
  show wpAny M A (spliced ((true, y) :: b :: rest) >>= _) Q Ex s
  refine wpAny_bind (wpAny_mono h (fun vs s' h' => ?_) fun _ _ x => x)
  refine wpAny_holding ?_
  exact wpAny_bind (wpAny_pure (wpAny_bind (wpAny_pure (wpAny_pure h'))))
/-- x( *e, e2, ..) -/
theorem pe_cS2 (hc : CallR X u r) (hk : PySem.W.keepIn X.K u = true) (hg : Gl X x) (hm : X.mg x = some u) (ha : PA X (.Starred e sp_ :: e2 :: es) t) (hd : (x == ("__debug__" : Str)) = false := by decide)
    (hst : ∃ y b rest, backTo pos (starEach (.Starred e sp_ :: e2 :: es) X.env) = (true, y) :: b :: rest := by exact ⟨_, _, _, rfl⟩) : PE X (.Call (.Name x p) (.Starred e sp_ :: e2 :: es) [] pos) (tCB r t) := by
  refine ⟨fun pins s σ H Q I h => wpAny_Call_Name_kw (ld_glob I hg hm ?_ hd)⟩
  have z := ha.run pos pins s σ H _ I h
  obtain ⟨y, b, rest, hb⟩ := hst
  rw [hb] at z
  show wpAny _ _ (callWith pos u [] (backTo pos (starEach (.Starred e sp_ :: e2 :: es) X.env)) []) _ _ _
  rw [hb]
  exact PySem.W.ks_call rfl (PySem.W.keeps_K hk) (evalArgs_star2 (thn z fun us s1 ⟨vs, H1, I1, rv, q⟩ => ⟨I1.kIn, hc pins s1 σ H1 vs us Q I1 rv q⟩))
/-- o.m(..), m a plain def of the class of o -/
def tMC (C : Addr) (m : Str) (r : List V → Hp → VK → Prop) (ta : TE) (t : TA) : TE := fun σ H Q => ta σ H fun x H1 => ∃ a dx fs, x = .ref a ∧ H1 a = some (.ins C dx fs) ∧ fs.lookup m = none ∧ t σ H1 fun vs H2 => r (x :: vs) H2 Q
theorem pe_m {pl : Sem Bool} (hc : CallR X (.ref f) r) (he : PE X o ta) (c : Cls X.K C) (hm : Meth X.K C m f) (ha : PA X (e :: es) t)
    (hst : starEach (e :: es) X.env = (false, eval e X.env) :: starEach es X.env := by rfl) (hpl : (backTo pos (starEach es X.env)).any (·.1) = false := by rfl)
    (ht : eval (.Call (.Attribute o m apos) (e :: es) [] pos) X.env = (do
      let ov ← eval o X.env
      standAt apos.atName
      let (f, first) ← holding [ov] (getMethod ov m pl)
      callWith pos f first (backTo pos (starEach (e :: es) X.env)) (backToKw pos (keywordEach [] X.env))) := by rfl) :
    PE X (.Call (.Attribute o m apos) (e :: es) [] pos) (tMC C m r ta t) := by
  refine ⟨fun pins s σ H Q I h => ?_⟩
  refine PySem.W.methodCall_KW (pl := pl) (thn (he.run pins s σ H _ I h) fun u s1 ⟨x, H1, I1, rx, a, dx, fs, ex, ea, l, q⟩ => ?_) ht
  subst ex
  obtain rfl : u = Value.ref a := rx
  refine getmeth_ok I1 ea c hm l (PySem.W.callWith_K (first := [.ref a]) (h₀ := X.base) I.ok.mod.kin hm.kp (thn (ha.run pos pins s1 σ H1 _ I1 q) fun us s2 ⟨vs, H2, I2, rv, q2⟩ => ⟨I2.kIn, ?_⟩) hst hpl)
  exact hc pins s2 σ H2 (.ref a :: vs) (.ref a :: us) Q I2 (.cons rfl rv) q2
theorem pe_m0 {pl : Sem Bool} (hc : CallR X (.ref f) r) (he : PE X o ta) (c : Cls X.K C) (hm : Meth X.K C m f)
    (ht : eval (.Call (.Attribute o m apos) [] [] pos) X.env = (do
      let ov ← eval o X.env
      standAt apos.atName
      let (f, first) ← holding [ov] (getMethod ov m pl)
      callWith pos f first (backTo pos (starEach [] X.env)) (backToKw pos (keywordEach [] X.env))) := by rfl) :
    PE X (.Call (.Attribute o m apos) [] [] pos) (tMC C m r ta tNil) := by
  refine ⟨fun pins s σ H Q I h => ?_⟩
  refine PySem.W.methodCall_KW (pl := pl) (thn (he.run pins s σ H _ I h) fun u s1 ⟨x, H1, I1, rx, a, dx, fs, ex, ea, l, q⟩ => ?_) ht
  subst ex
  obtain rfl : u = Value.ref a := rx
  exact getmeth_ok I1 ea c hm l (PySem.W.callWith_K0 (first := [.ref a]) I1.kIn hm.kp (hc pins s1 σ H1 [.ref a] [.ref a] Q I1 (.cons rfl .nil) q))
/-- e.f, a property -/
def tPr (C : Addr) (sp : Sp) (E : XK) (ta : TE) : TE := fun σ H Q => ta σ H fun x H1 => ∃ a dx fs, x = .ref a ∧ H1 a = some (.ins C dx fs) ∧ sp [.ref a] H1 Q E
theorem pe_pr {CX : CXT} {k : Nat} {sp : Sp} {E : XK} {g : Addr} {fn : Str} {q : Addr} (he : PE X e ta) (c : Cls X.K C) (hp : PropOf X.K C fn q g) (F : FnG X.prog X.w X.K X.mg X.base CX k g sp) (hr : RoomG (k + 1) X.A) (hx : Passes CX X.nox E)
    (hab : attributeBase e fn X.env (eval e X.env) = eval e X.env := by rfl) : PE X (.Attribute e fn pos) (tPr C sp E ta) := by
  refine ⟨fun pins s σ H Q I h => ?_⟩
  refine attr_of hab (thn (he.run pins s σ H _ I h) fun u s1 ⟨x, H1, I1, rx, a, dx, fs, ex, ea, q⟩ => ?_)
  subst ex
  obtain rfl : u = Value.ref a := rx
  obtain ⟨mA, O, _, _, _, _⟩ := ins_get I1.hok ea
  obtain ⟨od, J, _⟩ := O.look
  obtain ⟨rest, hrec⟩ := hp.rec_
  have I2 := I1.tok (s1.toks + 1)
  have hc : (PySem.W.clsIn X.K C).isSome = true := by
    obtain ⟨cd, hc, _⟩ := PySem.W.any_some c.hd
    rw [hc]
    rfl
  refine PySem.W.get_bind I1.kIn J (PySem.W.plainGet_of (c.get fn)).1 (PySem.W.findObj_data hc hp.at_ hp.get hp.tak) (PySem.W.plainGet_of (c.get fn)).2 (wpAny_call (PySem.W.prop_get (s := { s1 with toks := s1.toks + 1 }) I1.kIn hrec ?_))
  refine codeAny_mono (F X.A.in1 X.stack { s1 with toks := s1.toks + 1 } H1 [.ref a] [.ref a] Q E hr.in1 I2.env0.in1 (.cons rfl .nil) q) fun r s' hq => ?_
  match r, hq with
  | .error er, hq => exact False.elim (hx pins σ H1 { s1 with toks := s1.toks + 1 } er s' (I2.wish _) hq)
  | .ok (.ret u), hq =>
    obtain ⟨v, H', I3, rv, q3⟩ := I2.after hq
    show wpAny _ _ (handedOut u) _ _ _
    rw [PySem.W.handedOut_of (handed_of rv)]
    exact wpAny_pure ⟨v, H', I3, rv, q3⟩
  | .ok .next, hq => exact False.elim hq
  | .ok .brk, hq => exact False.elim hq
  | .ok .cont, hq => exact False.elim hq
end
end Lw

set_option Elab.async false
set_option linter.all false
set_option maxRecDepth 100000
set_option maxHeartbeats 4000000
/-! data that stands: Dx S H v d: v is the data d, read off H at addresses that are not among S (S: what may still change) -/
namespace Lw
open PySem PySem.Spec PyProof.Rows L2 StX
/-- all but what stands at S is kept -/
def Kp (S : List Addr) (H H' : Hp) : Prop := ∀ a o, a ∉ S → H a = some o → H' a = some o
theorem Kp.refl {S : List Addr} {H : Hp} : Kp S H H := fun _ _ _ h => h
theorem Kp.trans {S : List Addr} {H H1 H2 : Hp} (a : Kp S H H1) (b : Kp S H1 H2) : Kp S H H2 := fun x o n h => b x o n (a x o n h)
theorem Kp.mono {S S' : List Addr} {H H' : Hp} (k : Kp S H H') (h : ∀ a, a ∈ S → a ∈ S') : Kp S' H H' := fun a o n e => k a o (fun z => n (h a z)) e
theorem Kp.new {S : List Addr} {H : Hp} {p : Addr} {o : HO} (h : H p = none) : Kp S H (upd H p o) := fun a u _ e => by
  rw [upd_ne (ne_of_none e h)]
  exact e
theorem Kp.mut {S : List Addr} {H : Hp} {p : Addr} {o : HO} (h : p ∈ S) : Kp S H (upd H p o) := fun a u n e => by
  have ne : a ≠ p := fun z => n (z ▸ h)
  rw [upd_ne ne]
  exact e
/-- a new object, changed later on -/
theorem Kp.newS {S : List Addr} {H H' : Hp} {p : Addr} (k : Kp (p :: S) H H') (h : H p = none) : Kp S H H' := fun a u n e => k a u (fun z => by
  rcases List.mem_cons.mp z with z | z
  · rw [z, h] at e
    cases e
  · exact n z) e
theorem Kp.free {S : List Addr} {H H' : Hp} (k : Kp S H H') {p : Addr} (n : p ∉ S) (h : H' p = none) : H p = none := by
  cases q : H p with
  | none => rfl
  | some o =>
    rw [k p o n q] at h
    cases h
theorem Kp.freeS {S : List Addr} {H H' : Hp} (k : Kp S H H') {p : Addr} (hS : ∀ a ∈ S, ∃ o, H' a = some o) (h : H' p = none) : H p = none := k.free (fun z => by
  obtain ⟨o, e⟩ := hS p z
  rw [h] at e
  cases e) h

mutual
inductive Dx (S : List Addr) (H : Hp) : V → PyData → Prop
  | non : Dx S H .non .none
  | bl (b : Bool) : Dx S H (.bl b) (.bool b)
  | int (i : Int) : Dx S H (.int i) (.int i)
  | str (x : Str) : Dx S H (.str x) (.str x)
  | lst {a : Addr} {xs : List V} {ds : List PyData} (n : a ∉ S) (e : H a = some (.lst xs)) (h : DxA S H xs ds) : Dx S H (.ref a) (.list ds)
  | tup {a : Addr} {xs : List V} {ds : List PyData} (n : a ∉ S) (e : H a = some (.tup xs)) (h : DxA S H xs ds) : Dx S H (.ref a) (.tuple ds)
inductive DxA (S : List Addr) (H : Hp) : List V → List PyData → Prop
  | nil : DxA S H [] []
  | cons {v : V} {vs : List V} {d : PyData} {ds : List PyData} (h : Dx S H v d) (t : DxA S H vs ds) : DxA S H (v :: vs) (d :: ds)
end
mutual
theorem Dx.dp {K : PySem.W.Frag} {S : List Addr} {H : Hp} : ∀ {v : V} {d : PyData}, Dx S H v d → Dp K H v d
  | _, _, .non => .non
  | _, _, .bl b => .bl b
  | _, _, .int i => .int i
  | _, _, .str x => .str x
  | _, _, .lst _ e h => .lst (SqL.of e) (DxA.dp h)
  | _, _, .tup _ e h => .tup (SqT.of e) (DxA.dp h)
theorem DxA.dp {K : PySem.W.Frag} {S : List Addr} {H : Hp} : ∀ {vs : List V} {ds : List PyData}, DxA S H vs ds → DpAll K H vs ds
  | _, _, .nil => .nil
  | _, _, .cons h t => .cons (Dx.dp h) (DxA.dp t)
end
mutual
theorem Dx.keep {S : List Addr} {H H' : Hp} (k : Kp S H H') : ∀ {v : V} {d : PyData}, Dx S H v d → Dx S H' v d
  | _, _, .non => .non
  | _, _, .bl b => .bl b
  | _, _, .int i => .int i
  | _, _, .str x => .str x
  | _, _, .lst n e h => .lst n (k _ _ n e) (DxA.keep k h)
  | _, _, .tup n e h => .tup n (k _ _ n e) (DxA.keep k h)
theorem DxA.keep {S : List Addr} {H H' : Hp} (k : Kp S H H') : ∀ {vs : List V} {ds : List PyData}, DxA S H vs ds → DxA S H' vs ds
  | _, _, .nil => .nil
  | _, _, .cons h t => .cons (Dx.keep k h) (DxA.keep k t)
end
mutual
/-- nothing of it stands at an address that H does not know (or that S has already) -/
theorem Dx.wid {S S' : List Addr} {H : Hp} (w : ∀ a, a ∈ S' → a ∈ S ∨ H a = none) : ∀ {v : V} {d : PyData}, Dx S H v d → Dx S' H v d
  | _, _, .non => .non
  | _, _, .bl b => .bl b
  | _, _, .int i => .int i
  | _, _, .str x => .str x
  | _, _, .lst n e h => .lst (fun z => (w _ z).elim n fun q => by rw [q] at e; cases e) e (DxA.wid w h)
  | _, _, .tup n e h => .tup (fun z => (w _ z).elim n fun q => by rw [q] at e; cases e) e (DxA.wid w h)
theorem DxA.wid {S S' : List Addr} {H : Hp} (w : ∀ a, a ∈ S' → a ∈ S ∨ H a = none) : ∀ {vs : List V} {ds : List PyData}, DxA S H vs ds → DxA S' H vs ds
  | _, _, .nil => .nil
  | _, _, .cons h t => .cons (Dx.wid w h) (DxA.wid w t)
end
theorem Dx.sub {S S' : List Addr} {H : Hp} {v : V} {d : PyData} (h : Dx S H v d) (w : ∀ a, a ∈ S' → a ∈ S) : Dx S' H v d := h.wid fun a z => .inl (w a z)
theorem DxA.sub {S S' : List Addr} {H : Hp} {v : List V} {d : List PyData} (h : DxA S H v d) (w : ∀ a, a ∈ S' → a ∈ S) : DxA S' H v d := h.wid fun a z => .inl (w a z)
theorem DxA.length {S : List Addr} {H : Hp} : ∀ {vs : List V} {ds : List PyData}, DxA S H vs ds → vs.length = ds.length
  | _, _, .nil => rfl
  | _, _, .cons _ t => congrArg (· + 1) t.length
theorem DxA.get {S : List Addr} {H : Hp} : ∀ {vs : List V} {ds : List PyData} {i : Nat} {v : V}, DxA S H vs ds → vs[i]? = some v → ∃ d, ds[i]? = some d ∧ Dx S H v d
  | _, _, _, _, .nil, e => by simp at e
  | _, _, 0, _, .cons h _, e => by
    simp at e
    subst e
    exact ⟨_, rfl, h⟩
  | _, _, i + 1, v, .cons _ t, e => by
    obtain ⟨d, h1, h2⟩ := DxA.get (i := i) (v := v) t (by simpa using e)
    exact ⟨d, by simpa using h1, h2⟩
theorem DxA.getD {S : List Addr} {H : Hp} {vs : List V} {ds : List PyData} {i : Nat} {d : PyData} (h : DxA S H vs ds) (e : ds[i]? = some d) : ∃ v, vs[i]? = some v ∧ Dx S H v d := by
  have hl := h.length
  have hi : i < vs.length := by
    have := (List.getElem?_eq_some_iff.mp e).1
    omega
  obtain ⟨d', e1, e2⟩ := h.get (List.getElem?_eq_getElem hi)
  rw [e] at e1
  cases e1
  exact ⟨_, List.getElem?_eq_getElem hi, e2⟩
theorem DxA.append {S : List Addr} {H : Hp} {vs ws : List V} {ds es : List PyData} (h : DxA S H vs ds) (k : DxA S H ws es) : DxA S H (vs ++ ws) (ds ++ es) := by
  induction vs generalizing ds with
  | nil =>
    cases h
    exact k
  | cons v vs ih =>
    cases h with
    | cons h t => exact .cons h (ih t)
theorem DxA.snoc {S : List Addr} {H : Hp} {vs : List V} {ds : List PyData} {v : V} {d : PyData} (h : DxA S H vs ds) (k : Dx S H v d) : DxA S H (vs ++ [v]) (ds ++ [d]) := h.append (.cons k .nil)
theorem DxA.take {S : List Addr} {H : Hp} {vs : List V} {ds : List PyData} (n : Nat) (h : DxA S H vs ds) : DxA S H (vs.take n) (ds.take n) := by
  induction vs generalizing ds n with
  | nil =>
    cases h
    simp
    exact .nil
  | cons v vs ih =>
    cases h with
    | cons h t =>
      cases n with
      | zero => exact .nil
      | succ n => exact .cons h (ih n t)
theorem DxA.drop {S : List Addr} {H : Hp} {vs : List V} {ds : List PyData} (n : Nat) (h : DxA S H vs ds) : DxA S H (vs.drop n) (ds.drop n) := by
  induction vs generalizing ds n with
  | nil =>
    cases h
    simp
    exact .nil
  | cons v vs ih =>
    cases h with
    | cons h t =>
      cases n with
      | zero => exact .cons h t
      | succ n => exact ih n t
theorem DxA.ints {S : List Addr} {H : Hp} : ∀ ns : List Int, DxA S H (ns.map V.int) (ns.map PyData.int)
  | [] => .nil
  | n :: ns => .cons (.int n) (DxA.ints ns)
theorem DxA.ints_eq {S : List Addr} {H : Hp} : ∀ {ns : List Int} {vs : List V}, DxA S H vs (ns.map PyData.int) → vs = ns.map V.int
  | [], _, .nil => rfl
  | n :: ns, _, .cons h t => by
    cases h
    rw [DxA.ints_eq t]
    rfl
theorem DxA.new {S : List Addr} {H : Hp} {p : Addr} {o : HO} {vs : List V} {ds : List PyData} (h : DxA S H vs ds) (n : H p = none) : DxA S (upd H p o) vs ds := h.keep (.new n)
theorem Dx.new {S : List Addr} {H : Hp} {p : Addr} {o : HO} {v : V} {d : PyData} (h : Dx S H v d) (n : H p = none) : Dx S (upd H p o) v d := h.keep (.new n)
theorem Dx.tupN {S : List Addr} {H : Hp} {p : Addr} {vs : List V} {ds : List PyData} (h : DxA S H vs ds) (n : H p = none) (nS : p ∉ S) : Dx S (upd H p (.tup vs)) (.ref p) (.tuple ds) := .tup nS upd_same (h.new n)
theorem Dx.lstN {S : List Addr} {H : Hp} {p : Addr} {vs : List V} {ds : List PyData} (h : DxA S H vs ds) (n : H p = none) (nS : p ∉ S) : Dx S (upd H p (.lst vs)) (.ref p) (.list ds) := .lst nS upd_same (h.new n)

/-! ### typed data -/
class En (α : Type) where
  enc : α → PyData
class Py (α : Type) extends En α where
  dep : Nat
  eqv : ∀ a b, PyData.eqv (enc a) (enc b) = true ↔ a = b
  lay : ∀ a, (enc a).canLay0 = true
  dle : ∀ a, (enc a).depth ≤ dep
open En (enc)
instance : En Int where
  enc := .int
instance {α β : Type} [En α] [En β] : En (α × β) where
  enc := fun p => .tuple [enc p.1, enc p.2]
instance {α : Type} [En α] : En (List α) where
  enc := fun as => .list (as.map enc)
/-- a tuple of any length -/
structure Tu (α : Type) where
  l : List α
instance {α : Type} [DecidableEq α] : DecidableEq (Tu α) := fun a b => decidable_of_iff (a.l = b.l) ⟨fun h => by cases a; cases b; cases h; rfl, fun h => by rw [h]⟩
instance {α : Type} [En α] : En (Tu α) where
  enc := fun as => .tuple (as.l.map enc)
instance : Py Int where
  dep := 0
  eqv := fun a b => by simp [enc, PyData.eqv]
  lay := fun a => by simp [enc, PyData.canLay0]
  dle := fun a => by simp [enc, PyData.depth]
instance {α β : Type} [Py α] [Py β] : Py (α × β) where
  dep := max (Py.dep α) (Py.dep β) + 1
  eqv := fun a b => by
    show PyData.eqv (.tuple [enc a.1, enc a.2]) (.tuple [enc b.1, enc b.2]) = true ↔ a = b
    simp only [PyData.eqv, PyData.eqvAll, Bool.and_eq_true, Bool.and_true, Py.eqv]
    constructor
    · rintro ⟨h1, h2⟩
      exact Prod.ext h1 h2
    · rintro rfl
      exact ⟨rfl, rfl⟩
  lay := fun a => by
    show (PyData.tuple [enc a.1, enc a.2]).canLay0 = true
    simp [PyData.canLay0, PyData.canLayAll0, Py.lay]
  dle := fun a => by
    have h1 := Py.dle a.1
    have h2 := Py.dle a.2
    show (PyData.tuple [enc a.1, enc a.2]).depth ≤ _
    simp only [PyData.depth, PyData.depthAll]
    omega
theorem eqvAll_enc {α : Type} [Py α] : ∀ as bs : List α, PyData.eqvAll (as.map enc) (bs.map enc) = true ↔ as = bs
  | [], [] => by simp [PyData.eqvAll]
  | [], b :: bs => by simp [PyData.eqvAll]
  | a :: as, [] => by simp [PyData.eqvAll]
  | a :: as, b :: bs => by simp [PyData.eqvAll, Py.eqv, eqvAll_enc as bs]
theorem layAll_enc {α : Type} [Py α] : ∀ as : List α, PyData.canLayAll0 (as.map enc) = true
  | [] => by simp [PyData.canLayAll0]
  | a :: as => by simp [PyData.canLayAll0, Py.lay, layAll_enc as]
theorem depAll_enc {α : Type} [Py α] : ∀ as : List α, PyData.depthAll (as.map enc) ≤ Py.dep α
  | [] => by simp [PyData.depthAll]
  | a :: as => by
    have h1 := depAll_enc as
    have h2 := Py.dle a
    simp only [List.map_cons, PyData.depthAll]
    omega
instance {α : Type} [Py α] : Py (List α) where
  dep := Py.dep α + 1
  eqv := fun a b => by
    show PyData.eqv (.list (a.map enc)) (.list (b.map enc)) = true ↔ a = b
    simp only [PyData.eqv, eqvAll_enc]
  lay := fun a => by
    show (PyData.list (a.map enc)).canLay0 = true
    simp only [PyData.canLay0, layAll_enc]
  dle := fun a => by
    have h1 := depAll_enc a
    show (PyData.list (a.map enc)).depth ≤ _
    simp only [PyData.depth]
    omega
instance {α : Type} [Py α] : Py (Tu α) where
  dep := Py.dep α + 1
  eqv := fun a b => by
    obtain ⟨a⟩ := a
    obtain ⟨b⟩ := b
    show PyData.eqv (.tuple (a.map enc)) (.tuple (b.map enc)) = true ↔ Tu.mk a = Tu.mk b
    simp only [PyData.eqv, eqvAll_enc, Tu.mk.injEq]
  lay := fun a => by
    show (PyData.tuple (a.l.map enc)).canLay0 = true
    simp only [PyData.canLay0, layAll_enc]
  dle := fun a => by
    have h1 := depAll_enc a.l
    show (PyData.tuple (a.l.map enc)).depth ≤ _
    simp only [PyData.depth]
    omega
theorem shaped_enc {α : Type} [Py α] (h : Py.dep α ≤ 64) (a : α) : SeqAt.shaped (enc a) = true := by
  show ((enc a).canLay0 && decide ((enc a).depth ≤ 64)) = true
  rw [Py.lay, decide_eq_true (Nat.le_trans (Py.dle a) h)]
  rfl
theorem eqv_enc {α : Type} [Py α] [DecidableEq α] (a b : α) : PyData.eqv (enc a) (enc b) = decide (a = b) := by
  by_cases h : a = b
  · rw [decide_eq_true h]
    exact (Py.eqv a b).mpr h
  · rw [decide_eq_false h]
    cases q : PyData.eqv (enc a) (enc b) with
    | false => rfl
    | true => exact absurd ((Py.eqv a b).mp q) h
/-- v is the data a -/
abbrev De {α : Type} [En α] (S : List Addr) (H : Hp) (v : V) (a : α) : Prop := Dx S H v (enc a)
abbrev DeA {α : Type} [En α] (S : List Addr) (H : Hp) (vs : List V) (as : List α) : Prop := DxA S H vs (as.map enc)
end Lw

set_option Elab.async false
set_option linter.all false
set_option maxRecDepth 100000
set_option maxHeartbeats 4000000
/-! operators of own classes -/
namespace Lw
open PySem PySem.Spec PyProof.Rows L2 StX
section
open PySem.W (clsIn findIn isFn subIn typeIn notFirst selfFirst noSeq fnIn)
variable {X : Cx} {CX : CXT} {k : Nat} {f C : Addr} {sp : Sp} {E : XK} {pins : List (Addr × Obj)} {σ : L2.St} {H : Hp} {s : Shared}
theorem looks_is {M : Model} {h : Heap} {v : Value} {T : String} (ht : ∀ s : Shared, (∀ b o, h.get? b = some o → s.heap.get? b = some o) → s.TypeIs v T) : PySem.W.Looks M h (typeOf v) (.type T) :=
  fun A Q E s kp q => wpAny_typeOf (ht s kp) q
/-- what type an operand has -/
theorem looks_ty {M : Model} {y : V} {u : Value} {T : String} (I : Inv X pins σ H s) (ry : RelV y u) (ty : TyOf X.K H y (.type T)) : PySem.W.Looks M s.heap (typeOf u) (.type T) := by
  generalize hT : Value.type T = t at ty
  cases ty with
  | non =>
    cases hT
    cases ry
    exact .of_pure rfl
  | bl b =>
    cases hT
    cases ry
    exact .of_pure rfl
  | int i =>
    cases hT
    obtain ⟨t, rfl⟩ := ry
    exact .of_pure rfl
  | str x =>
    cases hT
    obtain ⟨t, rfl⟩ := ry
    exact .of_pure rfl
  | flt x =>
    cases hT
    obtain ⟨t, rfl⟩ := ry
    exact .of_pure rfl
  | @lst a xs e =>
    cases hT
    cases ry
    obtain ⟨_, _, n, _, h1⟩ := (show ObjOk X.prog X.w H s.heap a (.lst xs) from I.hok a _ e)
    exact looks_is fun s' kp => ⟨_, kp _ _ h1, rfl⟩
  | @frz a ob xs e =>
    cases hT
    cases ry
    obtain ⟨_, _, _, n, _, h1⟩ := (show ObjOk X.prog X.w H s.heap a (.frz ob (.lst xs)) from I.hok a _ e)
    exact looks_is fun s' kp => ⟨_, kp _ _ h1, rfl⟩
  | @tup a xs e =>
    cases hT
    cases ry
    obtain ⟨_, _, _, o, h1, h2, _⟩ := (show ObjOk X.prog X.w H s.heap a (.tup xs) from I.hok a _ e)
    exact looks_is fun s' kp => ⟨o, kp _ _ h1, h2⟩
  | @dK a kvs e =>
    cases hT
    cases ry
    obtain ⟨_, _, vs, _, o, es, ep, h1, h2, _⟩ := (show ObjOk X.prog X.w H s.heap a (.dK kvs) from I.hok a _ e)
    exact looks_is fun s' kp => ⟨o, kp _ _ h1, h2.1⟩
  | @dT a kvs e =>
    cases hT
    cases ry
    obtain ⟨_, _, xs, _, o, es, ep, h1, h2, _⟩ := (show ObjOk X.prog X.w H s.heap a (.dT kvs) from I.hok a _ e)
    exact looks_is fun s' kp => ⟨o, kp _ _ h1, h2.1⟩
  | ins e => cases hT
theorem ins_at {a dx : Addr} {fs : List (Str × V)} (I : Inv X pins σ H s) (e : H a = some (.ins C dx fs)) : ∃ od, PySem.W.InstAt s.heap a (PySem.W.instObj C dx) C (some od) := by
  obtain ⟨mA, O, _⟩ := ins_get I.hok e
  obtain ⟨od, J, _⟩ := O.look
  exact ⟨od, J⟩
/-- a op b: a an instance of C, b of a built-in type -/
structure BinOwn (K : PySem.W.Frag) (op : Operator) (C f : Addr) : Prop where
  first : selfFirst K C = true
  at_ : findIn K (.ref C) (PySem.dunder op.info.2) = some (some (.ref f))
  fn : isFn K (.ref f) = true
  refl : ∃ rc, findIn K (.ref C) (dunderR op.info.2) = some rc ∧ (rc = none ∨ ∃ g : Addr, rc = some (.ref g))
theorem binT {prog : Program} {w : World} {A : Around} {E : Value → Shared → Prop} {s : Shared} {K : PySem.W.Frag} {x C L f : Addr} {h₀ : Heap} {m : Str → Option Value} {ox : Obj} {od : Option Obj} {T : String} {op : Operator} {b : Value} {fo ro : Option Value} {Q : Value → Shared → Prop} (F : Fr h₀ L s.heap m) (X₀ : K.In h₀) (I : PySem.W.InstAt s.heap x ox C od) (hb : PySem.W.Looks (model prog w) s.heap (typeOf b) (.type T)) (B : BinOwn K op C f)
    (h1 : findIn K (.type T) (PySem.dunder op.info.2) = some fo) (h2 : findIn K (.type T) (dunderR op.info.2) = some ro) (hsub : subIn K (.type T) (.ref C) = some false)
    (h : wpAny (model prog w) A (call (.ref f) [.ref x, b]) (PySem.W.CmpBack Q) E s) : wpAny (model prog w) A (binaryOp op (.ref x) b) Q E s := by
  have X := X₀.keeps F.keep
  obtain ⟨cd, rest, hcd, hm⟩ := PySem.W.ksp_first B.first
  obtain ⟨_, hs, hf, rc, hr, hp⟩ := B
  rcases hi : op.info with ⟨sym, nm'⟩
  rw [hi] at hs hr h1 h2
  dsimp only at hs hr h1 h2
  have one := PySem.W.ksp_try X I hs hf h
  obtain ⟨hh, g, d, tt, os⟩ := s
  have L1 : PySem.W.Looks (model prog w) hh (typeOf (.ref x)) (.ref C) := I.type
  have L2 : PySem.W.Looks (model prog w) hh (typeOf b) (.type T) := hb
  have L3 : PySem.W.Looks (model prog w) hh (fillsNumberSlot (.ref C) nm') true := PySem.W.fills_K X hcd hm hs
  have L4 : PySem.W.Looks (model prog w) hh (fillsNumberSlot (.type T) nm') ((fo.isSome && !isSeqSlot fo) || (ro.isSome && !isSeqSlot ro)) := PySem.W.ksp_fillsT X h1 h2
  have L5 : PySem.W.Looks (model prog w) hh (isSubtype (.type T) (.ref C)) false := PySem.W.looks_subIn X hsub
  have L6 : PySem.W.Looks (model prog w) hh (numberSlotInPython (.ref C) nm') true := PySem.W.ksp_inPy X hs hr hp
  have L7 : PySem.W.Looks (model prog w) hh (numberSlotInPython (.type T) nm') false := PySem.W.Looks.of_pure rfl
  have L8 : PySem.W.Looks (model prog w) hh (typeLookup (.type T) (dunderR nm')) ro := PySem.W.looks_findIn X h2
  generalize ((fo.isSome && !isSeqSlot fo) || (ro.isSome && !isSeqSlot ro)) = right at L4
  have hne : (Value.ref C == Value.type T) = false := Bool.eq_false_iff.mpr fun q => by cases beq_iff_eq.mp q
  simp only [binaryOp, hi]
  refine wpAny_holding (wpAny_bind ?_)
  unfold binaryOp1
  refine wpAny_bind (L1.at (wpAny_bind (L2.at (wpAny_bind (L3.at ?_)))))
  simp only [hne, Bool.false_eq_true, if_false]
  cases right with
  | false =>
    ksp_lk
    refine wpAny_mono one (fun r s' hr' => ?_) fun _ _ e => e
    obtain ⟨v, rfl, hq⟩ := hr'
    ksp_lk
    exact hq
  | true =>
    ksp_lk
    refine wpAny_mono one (fun r s' hr' => ?_) fun _ _ e => e
    obtain ⟨v, rfl, hq⟩ := hr'
    ksp_lk
    exact hq

/-! over the layer -/
abbrev rOwnT (K : PySem.W.Frag) (C : Addr) (T : String) (sp : Sp) (E : XK) : R2 := fun x y H Q => ∃ a dx fs, x = .ref a ∧ H a = some (.ins C dx fs) ∧ TyOf K H y (.type T) ∧ sp [x, y] H Q E
abbrev rOwnI (C : Addr) (sp : Sp) (E : XK) : R2 := fun x y H Q => ∃ a dx fs b dy gs, x = .ref a ∧ y = .ref b ∧ H a = some (.ins C dx fs) ∧ H b = some (.ins C dy gs) ∧ sp [x, y] H Q E
theorem op_ownT {op : Operator} {T : String} {fo ro : Option Value} (B : BinOwn X.K op C f) (h1 : findIn X.K (.type T) (PySem.dunder op.info.2) = some fo) (h2 : findIn X.K (.type T) (dunderR op.info.2) = some ro) (hsub : subIn X.K (.type T) (.ref C) = some false)
    (F : FnG X.prog X.w X.K X.mg X.base CX k f sp) (hr : RoomG k X.A) (hx : Passes CX X E) : OpR X (binaryOp op) (rOwnT X.K C T sp E) := by
  intro pins s σ H x y v u Q I rx ry h
  obtain ⟨a, dx, fs, rfl, ha, ty, q⟩ := h
  cases (show v = Value.ref a from rx)
  obtain ⟨od, J⟩ := ins_at I ha
  obtain ⟨m, hF⟩ := I.fr
  refine binT hF I.ok.mod.kin J (looks_ty I ry ty) B h1 h2 hsub ?_
  refine wpAny_mono (run_g (us := [.ref a, u]) (vs := [.ref a, y]) F hr hx I (.cons rfl (.cons ry .nil)) q) (fun w s' z => ?_) fun _ _ x => x
  obtain ⟨z', H', I', rz, qz⟩ := z
  exact SlX.cmpback rz ⟨z', H', I', rz, qz⟩
theorem op_ownI {op : Operator} (B : BinOwn X.K op C f) (F : FnG X.prog X.w X.K X.mg X.base CX k f sp) (hr : RoomG k X.A) (hx : Passes CX X E) : OpR X (binaryOp op) (rOwnI C sp E) := by
  intro pins s σ H x y v u Q I rx ry h
  obtain ⟨a, dx, fs, b, dy, gs, rfl, rfl, ha, hb, q⟩ := h
  cases (show v = Value.ref a from rx)
  cases (show u = Value.ref b from ry)
  obtain ⟨od, J⟩ := ins_at I ha
  obtain ⟨od', J'⟩ := ins_at I hb
  obtain ⟨m, hF⟩ := I.fr
  refine PySem.W.binop_K hF I.ok.mod.kin J J'.type B.first B.at_ B.fn ?_
  refine wpAny_mono (run_g (us := [.ref a, .ref b]) (vs := [.ref a, .ref b]) F hr hx I (.cons rfl (.cons rfl .nil)) q) (fun w s' z => ?_) fun _ _ x => x
  obtain ⟨z', H', I', rz, qz⟩ := z
  exact SlX.cmpback rz ⟨z', H', I', rz, qz⟩
/-- o[i], o an instance with __getitem__ -/
structure GetOwn (K : PySem.W.Frag) (C f : Addr) : Prop where
  at_ : findIn K (.ref C) "__getitem__" = some (some (.ref f))
  fi : fnIn K f = true
  fn : isFn K (.ref f) = true
abbrev rGet (C : Addr) (sp : Sp) (E : XK) : R2 := fun x y H Q => ∃ a dx fs, x = .ref a ∧ H a = some (.ins C dx fs) ∧ sp [x, y] H Q E
theorem pe_getOwn {a b : Expr} {ta tb : TE} {pos : Pos} (G : GetOwn X.K C f) (F : FnG X.prog X.w X.K X.mg X.base CX k f sp) (hr : RoomG (k + 1) X.A) (hx : Passes CX X E) (ha : PE X a ta) (hb : PE X b tb)
    (hs : ∀ o i, subscripted b true o i = runValue (.builtin "lifetime.subscript" ⟨[o, i], []⟩) := by intro _ _; with_unfolding_all rfl) : PE X (.Subscript a b pos) (tOp (rGet C sp E) ta tb) := by
  refine ⟨fun pins s σ H Q I h => ?_⟩
  refine Subscript_ (L2.binT ha hb I h fun v u s2 x y H2 I2 rx ry q => ?_)
  obtain ⟨p, dx, fs, rfl, hp, q⟩ := q
  cases (show v = Value.ref p from rx)
  obtain ⟨od, J⟩ := ins_at I2 hp
  obtain ⟨m, hF⟩ := I2.fr
  exact PySem.W.sub_K hF I2.ok.mod.kin J G.at_ G.fi G.fn (run_g1 (us := [.ref p, u]) (vs := [.ref p, y]) F hr hx I2 (.cons rfl (.cons ry .nil)) q) (hs _ _)
/-- repr(o), len(o) -/
abbrev rRepr (C : Addr) (sp : Sp) (E : XK) : List V → Hp → VK → Prop := fun xs H Q => ∃ a dx fs, xs = [.ref a] ∧ H a = some (.ins C dx fs) ∧ sp xs H (fun v H' => ∃ z, v = .str z ∧ Q (.str z) H') E
theorem call_reprOwn (hs : findIn X.K (.ref C) "__repr__" = some (some (.ref f))) (hf : isFn X.K (.ref f) = true) (F : FnG X.prog X.w X.K X.mg X.base CX k f sp) (hr : RoomG (k + 1) X.A) (hx : Passes CX X E) : CallR X (.builtin "repr") (rRepr C sp E) := by
  intro pins s σ H xs us Q I r h
  obtain ⟨a, dx, fs, rfl, ha, q⟩ := h
  obtain ⟨u, rfl, ru⟩ := vals1 r
  cases (show u = Value.ref a from ru)
  obtain ⟨od, J⟩ := ins_at I ha
  obtain ⟨m, hF⟩ := I.fr
  refine PySem.W.repr_K (by have := hr.units; have e : X.A.in1.units = X.A.units + 1 := rfl; omega) hF I.ok.mod.kin J hs hf (wpAny_mono (run_g1 (us := [.ref a]) (vs := [.ref a]) F hr hx I (.cons rfl .nil) q) (fun w s' z => ?_) fun _ _ x => x)
  obtain ⟨z', H', I', rz, y, rfl, qz⟩ := z
  obtain ⟨t, rfl⟩ := rz
  exact ⟨.str y, H', I', ⟨t, rfl⟩, qz⟩
abbrev rLen (C : Addr) (sp : Sp) (E : XK) : List V → Hp → VK → Prop := fun xs H Q => ∃ a dx fs, xs = [.ref a] ∧ H a = some (.ins C dx fs) ∧ sp xs H (fun v H' => ∃ n : Int, v = .int n ∧ 0 ≤ n ∧ n < 2 ^ 63 ∧ Q (.int n) H') E
theorem call_lenOwn (hs : findIn X.K (.ref C) "__len__" = some (some (.ref f))) (hf : isFn X.K (.ref f) = true) (F : FnG X.prog X.w X.K X.mg X.base CX k f sp) (hr : RoomG (k + 1) X.A) (hx : Passes CX X E) : CallR X (.builtin "len") (rLen C sp E) := by
  intro pins s σ H xs us Q I r h
  obtain ⟨a, dx, fs, rfl, ha, q⟩ := h
  obtain ⟨u, rfl, ru⟩ := vals1 r
  cases (show u = Value.ref a from ru)
  obtain ⟨od, J⟩ := ins_at I ha
  obtain ⟨m, hF⟩ := I.fr
  refine PySem.W.len_K hF I.ok.mod.kin J hs hf (wpAny_mono (run_g1 (us := [.ref a]) (vs := [.ref a]) F hr hx I (.cons rfl .nil) q) (fun w s' z => ?_) fun _ _ x => x)
  obtain ⟨z', H', I', rz, y, rfl, h0, h1, qz⟩ := z
  obtain ⟨t, rfl⟩ := rz
  exact ⟨⟨h0, h1⟩, .int y, H', I'.tok _, ⟨_, rfl⟩, qz⟩
/-- o == y, o != y by an own __eq__ -/
structure EqOwn (K : PySem.W.Frag) (C f : Addr) : Prop where
  at_ : findIn K (.ref C) "__eq__" = some (some (.ref f))
  fn : isFn K (.ref f) = true
  ne : findIn K (.ref C) "__ne__" = some (some (.builtin "object.__ne__"))
  obj : PySem.W.mroIn K C (.type "object") = some true
def EqTo (K : PySem.W.Frag) (C : Addr) (H : Hp) (y : V) : Prop := (∃ T, TyOf K H y (.type T) ∧ subIn K (.type T) (.ref C) = some false) ∨ ∃ b dy gs, y = .ref b ∧ H b = some (.ins C dy gs)
abbrev rEqO (K : PySem.W.Frag) (C : Addr) (sp : Sp) (E : XK) : R2 := fun x y H Q => ∃ a dx fs, x = .ref a ∧ H a = some (.ins C dx fs) ∧ EqTo K C H y ∧ sp [x, y] H (fun v H' => ∃ c, v = .bl c ∧ Q (.bl c) H') E
abbrev rNeO (K : PySem.W.Frag) (C : Addr) (sp : Sp) (E : XK) : R2 := fun x y H Q => ∃ a dx fs, x = .ref a ∧ H a = some (.ins C dx fs) ∧ EqTo K C H y ∧ sp [x, y] H (fun v H' => ∃ c, v = .bl c ∧ Q (.bl (!c)) H') E
theorem eqTo_looks {M : Model} {y : V} {u : Value} (I : Inv X pins σ H s) (ry : RelV y u) (h : EqTo X.K C H y) : ∃ tb, PySem.W.Looks M s.heap (typeOf u) tb ∧ notFirst X.K C tb = true := by
  rcases h with ⟨T, ty, hs⟩ | ⟨b, dy, gs, rfl, hb⟩
  · refine ⟨_, looks_ty I ry ty, ?_⟩
    unfold PySem.W.notFirst
    rw [hs]
    simp
  · cases (show u = Value.ref b from ry)
    obtain ⟨od, J⟩ := ins_at I hb
    refine ⟨_, J.type, ?_⟩
    unfold PySem.W.notFirst
    simp
theorem op_eqO (O : EqOwn X.K C f) (F : FnG X.prog X.w X.K X.mg X.base CX k f sp) (hr : RoomG k X.A) (hx : Passes CX X E) : OpR X (compareOp .Eq) (rEqO X.K C sp E) := by
  intro pins s σ H x y v u Q I rx ry h
  obtain ⟨a, dx, fs, rfl, ha, hy, q⟩ := h
  cases (show v = Value.ref a from rx)
  obtain ⟨od, J⟩ := ins_at I ha
  obtain ⟨m, hF⟩ := I.fr
  obtain ⟨tb, hb, hn⟩ := eqTo_looks (M := model X.prog X.w) I ry hy
  show wpAny _ _ (richCompare .Eq (.ref a) u) _ _ _
  refine PySem.W.cmp_K (op := .Eq) (tb := tb) hr.units0 hF I.ok.mod.kin J hb hn O.at_ O.fn ?_
  refine wpAny_mono (run_g (us := [.ref a, u]) (vs := [.ref a, y]) F hr hx I (.cons rfl (.cons ry .nil)) q) (fun w s' z => ?_) fun _ _ x => x
  obtain ⟨z', H', I', rz, c, rfl, qz⟩ := z
  exact SlX.cmpback rz ⟨_, H', I', rz, qz⟩
theorem ifBound_ne {M : Model} {A : Around} {Ex : Value → Shared → Prop} {x : Addr} {ox : Obj} {od : Option Obj} {args : List Value} {Q : Option Value → Shared → Prop} {K : PySem.W.Frag} (X : K.In s.heap) (I : PySem.W.InstAt s.heap x ox C od) (hs : findIn K (.ref C) "__ne__" = some (some (.builtin "object.__ne__")))
    (h : wpAny M A (call (.builtin "object.__ne__") (.ref x :: args)) (fun v => Q (some v)) Ex s) : wpAny M A (callSpecialIfBound? (.ref x) "__ne__" args) Q Ex s := by
  simp only [callSpecialIfBound?, bindSpecialIfBound?]
  refine wpAny_holding (wpAny_bind (wpAny_bind (wpAny_bind (I.type.here ((PySem.W.looks_findIn X hs).here ?_)))))
  refine wpAny_bind (wpAny_askSetting (wpAny_ite ?_))
  have fin : wpAny M A (call (.builtin "object.__ne__") ([.ref x] ++ args) >>= fun v => pure (some v)) Q Ex s := wpAny_bind (wpAny_mono h (fun v s' h' => wpAny_pure h') fun _ _ h' => h')
  split
  · exact wpAny_bind (wpAny_of_eq (F.cmp_object.ne.bind _) (wpAny_pure (by exact fin)))
  · exact wpAny_tryCatch (wpAny_bind (wpAny_of_eq (F.cmp_object.ne.bind _) (wpAny_pure (by exact fin))))
theorem call_objNe {prog : Program} {w : World} {A : Around} {Ex : Value → Shared → Prop} {x : Addr} {b : Value} {ox : Obj} {od : Option Obj} {Q : Value → Shared → Prop} {K : PySem.W.Frag} (X : K.In s.heap) (I : PySem.W.InstAt s.heap x ox C od) (hm : PySem.W.mroIn K C (.type "object") = some true)
    (hs : findIn K (.ref C) "__eq__" = some (some (.ref f))) (hf : isFn K (.ref f) = true) (hu : A.in1.units < cLine)
    (h : wpAny (model prog w) A.in1 (call (.ref f) [.ref x, b]) (fun v s' => ∃ c, v = .bool c ∧ Q (.bool (!c)) s') Ex s) :
    wpAny (model prog w) A (call (.builtin "object.__ne__") [.ref x, b]) Q Ex s := by
  refine wpAny_call (codeAny_call_builtin F.cmp_object.ne.plain F.cmpEntry_ne (PySem.W.check_slot F.cmpKind_ne F.cmpSplit_ne (I.type.andThen (PySem.W.looks_mroIn X hm)) (F.cmpArgs_ne _ _) ?_))
  unfold Builtin.«object.__ne__»
  refine wpAny_bind (m := slotArgs "__ne__" 1 _) (wpAny_pure ?_)
  refine wpAny_bind (wpAny_cRoomFor hu ?_)
  refine wpAny_bind (m := callSpecialIfBound? (.ref x) "__eq__" [b]) (PySem.W.ifBound_K X I hs hf (wpAny_mono h (fun v s' z => ?_) fun _ _ e => e))
  obtain ⟨c, rfl, q⟩ := z
  exact wpAny_bind (wpAny_truthy_bool (wpAny_pure q))
theorem op_neO (O : EqOwn X.K C f) (F : FnG X.prog X.w X.K X.mg X.base CX k f sp) (hr : RoomG (k + 1) X.A) (hx : Passes CX X E) : OpR X (compareOp .NotEq) (rNeO X.K C sp E) := by
  intro pins s σ H x y v u Q I rx ry h
  obtain ⟨a, dx, fs, rfl, ha, hy, q⟩ := h
  cases (show v = Value.ref a from rx)
  obtain ⟨od, J⟩ := ins_at I ha
  obtain ⟨tb, hb, hn⟩ := eqTo_looks (M := model X.prog X.w) I ry hy
  have hu : X.A.in1.units < cLine := by have := hr.units; have e : X.A.in1.units = X.A.units + 1 := rfl; omega
  have one : wpAny (model X.prog X.w) X.A (tryCompare (.ref a) "__ne__" u) (fun r s' => ∃ v, r = some v ∧ EP X pins σ Q v s') X.xe s := by
    unfold tryCompare
    refine wpAny_bind (ifBound_ne I.kIn J O.ne (call_objNe I.kIn J O.obj O.at_ O.fn hu (wpAny_mono (run_g1 (us := [.ref a, u]) (vs := [.ref a, y]) F hr hx I (.cons rfl (.cons ry .nil)) q) (fun w s' z => ?_) fun _ _ x => x)))
    obtain ⟨z', H', I', rz, c, rfl, qz⟩ := z
    cases (show w = Value.bool c from rz)
    exact ⟨c, rfl, wpAny_pure ⟨_, rfl, .bl (!c), H', I', rfl, qz⟩⟩
  show wpAny _ _ (richCompare .NotEq (.ref a) u) _ _ _
  unfold richCompare
  simp only [PySem.oneThing_ref]
  refine wpAny_holding (wpAny_bind (wpAny_cRoomFor hr.units0 ?_))
  refine wpAny_bind (J.type.here (wpAny_bind (hb.here ?_)))
  have fin : wpAny (model X.prog X.w) X.A (do
      let __do_lift ← tryCompare (.ref a) (cmpInfo .NotEq).2.1 u
      match __do_lift with
      | some v => return v
      | none => unsupported "x") (EP X pins σ Q) X.xe s := wpAny_bind (wpAny_mono one (fun r s' z => by
        obtain ⟨v, rfl, hq⟩ := z
        exact wpAny_pure hq) fun _ _ e => e)
  split
  · rename_i q
    have e : subIn X.K tb (.ref C) = some false := by
      rcases Bool.or_eq_true_iff.mp hn with e | e
      · rw [beq_iff_eq.mp e] at q; simp at q
      · exact beq_iff_eq.mp e
    refine wpAny_bind ((PySem.W.looks_subIn I.kIn e).here ?_)
    simp only [Bool.false_eq_true, if_false]
    refine wpAny_bind (m := tryCompare (.ref a) _ u) (wpAny_mono one (fun r s' z => ?_) fun _ _ e => e)
    obtain ⟨v, rfl, hq⟩ := z
    exact wpAny_pure hq
  · refine wpAny_bind (wpAny_pure ?_)
    simp only [Bool.false_eq_true, if_false]
    refine wpAny_bind (m := tryCompare (.ref a) _ u) (wpAny_mono one (fun r s' z => ?_) fun _ _ e => e)
    obtain ⟨v, rfl, hq⟩ := z
    exact wpAny_pure hq
end
end Lw

set_option Elab.async false
set_option linter.all false
set_option maxRecDepth 100000
set_option maxHeartbeats 4000000
/-! enumerate over a tuple, from any start -/
namespace PySem
open Sem (wp)
set_option maxHeartbeats 1000000 in
theorem meets_enumerate_newB1 {v : Value} {o : Obj} {H : Heap → Prop} (B : Begins v o H) :
    Meets (Builtin.«enumerate.__new__» ⟨[.type "enumerate", v], []⟩) (fun _ R s => H s.heap ∧
      R (.ok (.ret (.ref (s.heap.push o).objs.size))) { s with heap := (s.heap.push o).push { cls := .type "enumerate", data := .fields #[.none, .bool false, .ref s.heap.objs.size, rawInt 0, .none, .none] } }) :=
  .of_wp fun prog w A R s h => by
    obtain ⟨hp, g, d, tk, os⟩ := s; obtain ⟨h1, h⟩ := h
    have hsub := sub_enumerate
    have q1 : ∀ {A' : Around} {E : Value → Shared → Prop} {Q : Value → Shared → Prop}, Q (.ref hp.objs.size) ⟨hp.push o, g, d, tk, os⟩ → wpAny (model prog w) A' (pyIter v) Q E ⟨hp, g, d, tk, os⟩ :=
      fun q => B.iter prog w _ _ ⟨hp, g, d, tk, os⟩ _ h1 q
    wp_walk using q1
    refine wpAny_stack_any fun st => wpAny_pure ?_
    split
    · rename_i c _ _ _ _ _
      cases (c == Value.type "enumerate")
      · wp_walk using q1
        exact ⟨_, rfl, h⟩
      · wp_walk using q1
        exact ⟨_, rfl, h⟩
    · wp_walk using q1
      exact ⟨_, rfl, h⟩
theorem enum_begins1 {prog : Program} {w : World} {A : Around} {E : Value → Shared → Prop} {s : Shared} {v : Value} {o : Obj} {H : Heap → Prop} {Q : Value → Shared → Prop} (B : Begins v o H) (h1 : H s.heap)
    (h : ∀ h', IsEnum h' (s.heap.objs.size + 1) s.heap.objs.size 0 .none → h'.get? s.heap.objs.size = some o → h'.objs.size = s.heap.objs.size + 2 →
      (∀ b o, s.heap.get? b = some o → h'.get? b = some o) → Q (.ref (s.heap.objs.size + 1)) { s with heap := h' }) :
    wpAny (model prog w) A (call (.type "enumerate") [v]) Q E s := by
  refine callType_new F.called_enumerate (by decide) (F.typeCall_enumerate_1 _) (F.newCall_enumerate_1 _) (fun obj => F.args_object_init_2 obj _) F.entry_enumerate_new
    (meets_enumerate_newB1 B) ⟨h1, ?_⟩
  have hz : (s.heap.push o).objs.size = s.heap.objs.size + 1 := Heap.size_push ..
  show _ ∧ _
  rw [hz]
  have he : IsEnum ((s.heap.push o).push { cls := .type "enumerate", data := .fields #[.none, .bool false, .ref s.heap.objs.size, rawInt 0, .none, .none] }) (s.heap.objs.size + 1) s.heap.objs.size 0 .none := by
    have := Heap.get?_push_size (s.heap.push o) (o := { cls := .type "enumerate", data := .fields #[.none, .bool false, .ref s.heap.objs.size, rawInt 0, .none, .none] }) rfl
    rw [hz] at this; exact this
  refine ⟨⟨_, he, rfl⟩, h _ he (Heap.get?_push_of_some _ (Heap.get?_push_size _ B.free)) (by rw [Heap.size_push, hz]) fun b o x => Heap.get?_push_of_some _ (Heap.get?_push_of_some _ x)⟩
end PySem
namespace Lw
open PySem PySem.Spec PyProof.Rows L2 StX
/-- the tuple at a, each item in a new pair behind its number -/
def IteT (K : PySem.W.Frag) (a : Addr) (k₀ : Int) : It :=
  ⟨fun i H => ∃ (xs : List V) (x : V), SqT K H a xs ∧ xs[i]? = some x, fun i H v H' => ∃ T x, v = .ref T ∧ H T = none ∧ H' = upd H T (.tup [.int (k₀ + (i : Nat)), x]) ∧ ∀ xs, SqT K H a xs → xs[i]? = some x, fun i H => ∃ xs : List V, SqT K H a xs ∧ xs.length ≤ i⟩
theorem turn_enumT {P : Program} {w : World} {K : PySem.W.Frag} {elts : List Expr} {kk : Nat} {tpos : Pos} (k₀ : Int) (a e it : Addr) :
    Turn P w K (.Tuple elts kk tpos) (IteT K a k₀) [e, it] e (fun i h => (∃ old, IsEnum h e it (k₀ + ((i : Nat) : Int)) old) ∧ h.IsTupleIter it a i ∧ e ≠ it) where
  mem := by simp
  obj := fun i h st b hb => by
    obtain ⟨⟨old, he⟩, ⟨o, ho, hc, hd⟩, _⟩ := st
    have e' : b = e ∨ b = it := by simpa using hb
    rcases e' with z | z
    · rw [z]; exact ⟨_, he, fun v q => nomatch q⟩
    · rw [z]; exact ⟨o, ho, fun v q => by rw [hd] at q; cases q⟩
  keep := fun i h h' st k => let ⟨⟨old, he⟩, hi, hne⟩ := st; ⟨⟨old, k e (by simp) _ he⟩, hi.at fun o q => k it (by simp) o q, hne⟩
  item := by
    intro X hP hw hK hc i pins s σ H E I hf st hg
    subst hP hw hK
    obtain ⟨⟨old, he⟩, hit, hne⟩ := st
    obtain ⟨xs, x, hq, hx⟩ := hg
    obtain ⟨its, rv, p, hz⟩ := I.tuple hq
    obtain ⟨u, hu, ru⟩ := rv.get hx
    have hel : e < s.heap.objs.size := Heap.lt_size he
    have hil : it < s.heap.objs.size := by obtain ⟨_, q, _⟩ := hit; exact Heap.lt_size q
    have nai : a ≠ it := fun z => by
      obtain ⟨o, ho, hcl, _⟩ := hit
      obtain ⟨o', ho', hcl', _⟩ := p
      rw [z, ho] at ho'
      cases ho'
      rw [hcl] at hcl'
      exact absurd hcl' (by decide)
    have nea : e ≠ a := fun z => by
      obtain ⟨o', ho', hcl', _⟩ := p
      rw [← z, he] at ho'
      cases ho'
      simp at hcl'
    have hlt : i < its.toArray.size := by
      have := (List.getElem?_eq_some_iff.mp hu).1
      simpa using this
    refine wpAny_pyNext_enum_itemC (Draws.tuple (prog := X.prog) (w := X.w) (A := X.A.in1) (I.ok.hd hc) it a nai its.toArray) he ⟨hit, p⟩ hlt hne (by simp [hne, nea]) fun y h' tk hP ho hst' hT hsz hk => ?_
    have ey : y = u := by
      have h1 : its.toArray[i]? = some y := hP
      have h2 : its.toArray[i]? = some u := by simpa using hu
      rw [h2] at h1
      exact (Option.some.inj h1).symm
    subst ey
    refine ⟨_, rfl, wpAny_letOwnedTupleGo_enum (s := { s with heap := h', toks := tk + 1 }) ho fun h'' he' sb => ?_⟩
    have hT2 : h''.get? s.heap.objs.size = some { cls := .type "tuple", data := .seq #[.int (k₀ + (i : Int)) tk, y] } := (sb.2 _ (Nat.ne_of_gt hel)).trans hT
    have new : ObjOk X.prog X.w (upd H s.heap.objs.size (.tup [.int (k₀ + (i : Nat)), x])) h'' s.heap.objs.size (.tup [.int (k₀ + (i : Nat)), x]) :=
      ⟨by show 2 ≤ sizeLine; decide, [.int (k₀ + (i : Int)) tk, y], .cons ⟨_, rfl⟩ (.cons ru .nil), ⟨_, hT2, rfl, _, rfl⟩⟩
    have I1 : Inv X pins σ (upd H s.heap.objs.size (.tup [.int (k₀ + (i : Nat)), x])) { s with heap := h'', toks := tk + 1 } :=
      I.turnedNew (ch := [e, it]) (fun b ob hb q => (sb.2 b (fun z => hb (by simp [z]))).trans (hk b ob (fun z => hb (by simp [z])) (fun z => hb (by simp [z])) q)) hf (Nat.le_refl _) new
    refine ⟨.ref s.heap.objs.size, _, I1, rfl, ⟨_, x, rfl, I.hok.fresh (Nat.le_refl _), rfl, fun ys hy => by rw [I.tuple_inj hy hq]; exact hx⟩, ⟨⟨y, ?_⟩, hst'.1.at fun o q => (sb.2 it (Ne.symm hne)).trans q, hne⟩, fun b hb => ?_⟩
    · have e1 : k₀ + ((i + 1 : Nat) : Int) = k₀ + (i : Int) + 1 := by omega
      rw [e1]; exact he'
    · have hb' : b < s.heap.objs.size := by
        have e' : b = e ∨ b = it := by simpa using hb
        rcases e' with z | z
        · rw [z]; exact hel
        · rw [z]; exact hil
      rw [upd_ne (Nat.ne_of_lt hb')]
      exact (hf b hb).1
  done := by
    intro X hP hw hK hc i pins s σ H E I hf st hg
    subst hP hw hK
    obtain ⟨⟨old, he⟩, hit, hne⟩ := st
    obtain ⟨xs, hq, hx⟩ := hg
    obtain ⟨its, rv, p, hz⟩ := I.tuple hq
    obtain ⟨f0, f1, f2, f3, f4, f5⟩ := hf it (by simp)
    have hl := rv.length
    have nai : a ≠ it := fun z => by
      obtain ⟨o, ho, hcl, _⟩ := hit
      obtain ⟨o', ho', hcl', _⟩ := p
      rw [z, ho] at ho'
      cases ho'
      rw [hcl] at hcl'
      exact absurd hcl' (by decide)
    have D : Draws X.prog X.w X.A.in1 it [it, a] i (fun _ _ => True) (fun j h => j = i ∧ h.IsTupleIter it a i ∧ h.IsTuple a its.toArray) := {
      live := fun _ _ st => let ⟨o, ho, _⟩ := st.2.1; ⟨o, ho⟩
      frame := fun _ _ _ st hk => ⟨st.1, st.2.1.at fun o e => hk it (by simp) o e, st.2.2.at fun o e => hk a (by simp) o e⟩
      item := fun j s Q E hi st hQ => absurd st.1 (Nat.ne_of_lt hi)
      done := fun s Q E st hE => wpAny_nextOf_tuple_end (I.ok.hd hc) st.2.1 st.2.2 (by simp; omega) hE }
    exact wpAny_pyNext_enum_endD D he ⟨rfl, hit, p⟩ fun h' eb => ⟨rfl, I.turned (t' := s.toks) (fun b o hb q => eb b o hb q) f0 f1 f3 f4 f5⟩
  self := fun A i s Q E st h => let ⟨⟨_, he⟩, _⟩ := st; wpAny_pyIter_enum he h
def iEnumT (K : PySem.W.Frag) (ta : TA) : TI := fun σ H R => ta σ H fun vs H1 => ∃ a xs, vs = [.ref a] ∧ SqT K H1 a xs ∧ R (IteT K a 0) H1
/-- enumerate(t) -/
theorem pi_enumT {X : Cx} {e : Expr} {ta : TA} {p pos tpos : Pos} {elts : List Expr} {kk : Nat} (hg : Gl X "enumerate") (hm : X.mg "enumerate" = none) (ha : PA X [e] ta) (hs : starEach [e] X.env = [(false, eval e X.env)] := by rfl) :
    PI X (.Tuple elts kk tpos) (.Call (.Name "enumerate" p) [e] [] pos) (iEnumT X.K ta) := by
  refine ⟨fun pins s σ H R I h => ?_⟩
  refine Call_ (ld_blt I hg hm boot_enumerate (PyProof.Rows.callWith_type1 (thn (ha.run pos pins s σ H _ I h) fun us s1 ⟨vs, H1, I1, r1, q1⟩ => ?_) hs rfl))
  obtain ⟨a, xs, ex, hq, q⟩ := q1
  subst ex
  obtain ⟨u, rfl, r⟩ := vals1 r1
  cases (show u = Value.ref a from r)
  obtain ⟨its, rv, p', hz⟩ := I1.tuple hq
  refine enum_begins1 (begins_tuple a its.toArray) p' fun h' he hit hsz hk => wpAny_pyIter_enum he ?_
  have I3 : Inv X pins σ H1 { s1 with heap := h' } := I1.kept (t' := s1.toks) hk
  refine ⟨s1.heap.objs.size + 1, [s1.heap.objs.size + 1, s1.heap.objs.size], _, _, H1, rfl, I3, turn_enumT 0 a (s1.heap.objs.size + 1) s1.heap.objs.size, ⟨⟨.none, he⟩, ⟨_, hit, rfl, rfl⟩, Nat.succ_ne_self _⟩, fun b hb => ?_, q⟩
  have e' : b = s1.heap.objs.size + 1 ∨ b = s1.heap.objs.size := by simpa using hb
  have hle : s1.heap.objs.size ≤ b := by
    rcases e' with z | z
    · rw [z]; exact Nat.le_add_right _ _
    · rw [z]; exact Nat.le_refl _
  exact I1.fpOk hle (I1.hok.fresh hle)
/-- enumerate(t, start=k) -/
def iEnumK (K : PySem.W.Frag) (ta tk : TA) : TI := fun σ H R => ta σ H fun vs H1 => tk σ H1 fun ks H2 => ∃ a xs k, vs = [.ref a] ∧ ks = [.int k] ∧ -(2 ^ 63) ≤ k ∧ k < 2 ^ 63 ∧ SqT K H2 a xs ∧ R (IteT K a k) H2
theorem evalArgs_kwT {M : Model} {A : Around} {Ex : Value → Shared → Prop} {s : Shared} {env : Env} {pos : Pos} {T : String} {first : List Value} {Q : Value → Shared → Prop} {e : Expr} {rest : List Expr} {kws : List Keyword} (hall : (backToKw pos (keywordEach kws env)).all (·.1.isSome) = true)
    (h : wpAny M A (spliced (backTo pos (starEach (e :: rest) env))) (fun vs s₁ => wpAny M A (evalAll ((backToKw pos (keywordEach kws env)).map (·.2)))
      (fun ks s₂ => wpAny M A (call (.type T) (first ++ vs) (((backToKw pos (keywordEach kws env)).filterMap (·.1)).zip ks)) Q Ex s₂) Ex s₁) Ex s)
    (hplain : ((backTo pos (starEach (e :: rest) env)).any (·.1) || (backToKw pos (keywordEach kws env)).any (·.1.isNone)) = false := by rfl) (he : starEach (e :: rest) env = (false, eval e env) :: starEach rest env := by rfl) :
    wpAny M A (callWith pos (.type T) first (backTo pos (starEach (e :: rest) env)) (backToKw pos (keywordEach kws env))) Q Ex s :=
  PySem.W.callWith_of (P := fun _ => True) hplain (fun h _ => ⟨.machine, .inr (.inl rfl), .of_pure rfl⟩) (evalArgs_kw2 hall (wpAny_mono h (fun _ _ z => wpAny_mono z (fun _ _ z => ⟨trivial, z⟩) fun _ _ e => e) fun _ _ e => e) he)
theorem pi_enumK {X : Cx} {e e2 : Expr} {ta tk : TA} {p pos tpos kpos : Pos} {elts : List Expr} {kk : Nat} (hg : Gl X "enumerate") (hm : X.mg "enumerate" = none) (ha : PA X [e] ta) (hk : PK X [⟨some "start", e2, kpos⟩] tk) (hs : starEach [e] X.env = [(false, eval e X.env)] := by rfl) :
    PI X (.Tuple elts kk tpos) (.Call (.Name "enumerate" p) [e] [⟨some "start", e2, kpos⟩] pos) (iEnumK X.K ta tk) := by
  refine ⟨fun pins s σ H R I h => ?_⟩
  refine wpAny_Call_Name_kw (ld_blt I hg hm boot_enumerate ?_)
  refine evalArgs_kwT rfl (thn (ha.run pos pins s σ H _ I h) fun us s1 ⟨vs, H1, I1, r1, q1⟩ => thn (hk.run pos pins s1 σ H1 _ I1 q1) fun ws s2 ⟨zs, H2, I2, r2, q2⟩ => ?_) (by rw [hs] <;> rfl) hs
  obtain ⟨a, xs, k, ex, ez, k0, k1, hq, q⟩ := q2
  subst ex ez
  obtain ⟨u, rfl, r⟩ := vals1 r1
  cases (show u = Value.ref a from r)
  obtain ⟨u2, rfl, r2'⟩ := vals1 r2
  obtain ⟨t, rfl⟩ := r2'
  obtain ⟨its, rv, p', hz⟩ := I2.tuple hq
  refine enum_begins_start (begins_tuple a its.toArray) p' k0 k1 fun h' he hit hsz hk => wpAny_pyIter_enum he ?_
  have I3 : Inv X pins σ H2 { s2 with heap := h' } := I2.kept (t' := s2.toks) hk
  refine ⟨s2.heap.objs.size + 1, [s2.heap.objs.size + 1, s2.heap.objs.size], _, _, H2, rfl, I3, turn_enumT k a (s2.heap.objs.size + 1) s2.heap.objs.size, ⟨⟨.none, ?_⟩, ⟨_, hit, rfl, rfl⟩, Nat.succ_ne_self _⟩, fun b hb => ?_, q⟩
  · have e0 : k + ((0 : Nat) : Int) = k := by omega
    rw [e0]
    exact he
  have e' : b = s2.heap.objs.size + 1 ∨ b = s2.heap.objs.size := by simpa using hb
  have hle : s2.heap.objs.size ≤ b := by
    rcases e' with z | z
    · rw [z]; exact Nat.le_add_right _ _
    · rw [z]; exact Nat.le_refl _
  exact I2.fpOk hle (I2.hok.fresh hle)
end Lw

set_option Elab.async false
set_option linter.all false
set_option maxRecDepth 100000
set_option maxHeartbeats 4000000
/-! a def's body keeps its promise; the law's end -/
namespace Lw
open PySem PySem.Spec PyProof.Rows L2 StX
section
variable {CX : CXT} {P : Program} {w : World} {K : PySem.W.Frag} {mg : Str → Option Value} {base : Heap} {k : Nat} {f : Addr} {x qual : Str} {params : Arguments} {body : List Stmt} {scope : Scope} {dvs : List V} {kws : List (Str × V)} {fd : FuncData} {N ps : List Str} {sp : Sp}
/-- the arguments bind by themselves: ds fill up -/
theorem fnG_of {ds : List Value} {dfl : List V} (F : FunD K x qual params body scope dvs kws f fd) (S : FnScope N ps scope) (hb : Binds K fd ps ds) (hd : Vals dfl ds) (len : ∀ vs H Q E, sp vs H Q E → vs.length = ps.length)
    (hbody : ∀ (cdv : Value) (A : Around) (outer : List Env) (s : Shared) (H : Hp) (vs : List V) (Q : VK) (E : XK), RoomG k (A.deeper (envOfC qual scope s.heap.objs.size f cdv)) → sp vs H Q E →
      ∃ t, PSs (cxOf CX P w K mg base N qual scope f cdv A outer s H E) body t ∧ t { nx := fun _ H' => Q .non H', rt := Q } (start N vs) H) : FnG P w K mg base CX (k + 1) f (fun vs H Q E => sp (vs ++ dfl) H Q E) := by
  obtain ⟨oc, od, dV, kV, doc, pm, an, cdv, ct, osl, rfl, lk, hcd, _, _⟩ := F.ex
  intro A outer s H us vs Q E hr e0 r hs
  have r2 : Vals (vs ++ dfl) (us ++ ds) := r.append hd
  have hl : (us ++ ds).length = ps.length := by rw [← r2.length]; exact len _ _ _ _ hs
  have KX : K.In s.heap := e0.mod.kin.keeps fun b o e => (e0.bs b o e).1
  refine run_bnd lk hcd S hr.room e0 (G := fun xs H2 => xs = vs ++ dfl ∧ H2 = H) (fun A' Ex Q' h => hb s us KX hl _ _ _ _ (h s H (vs ++ dfl) (us ++ ds) e0 Un.refl rfl (fun _ _ z => z) r2 (len _ _ _ _ hs) ⟨rfl, rfl⟩)) fun s2 H2 xs ⟨ex, eH⟩ hr' => ?_
  subst ex eH
  exact hbody cdv A outer s2 H2 _ Q E ⟨hr', hr.gd⟩ hs
/-- no defaults -/
theorem fnG_pl (F : FunD K x qual params body scope dvs kws f fd) (S : FnScope N ps scope) (hb : Binds K fd ps []) (len : ∀ vs H Q E, sp vs H Q E → vs.length = ps.length)
    (hbody : ∀ (cdv : Value) (A : Around) (outer : List Env) (s : Shared) (H : Hp) (vs : List V) (Q : VK) (E : XK), RoomG k (A.deeper (envOfC qual scope s.heap.objs.size f cdv)) → sp vs H Q E →
      ∃ t, PSs (cxOf CX P w K mg base N qual scope f cdv A outer s H E) body t ∧ t { nx := fun _ H' => Q .non H', rt := Q } (start N vs) H) : FnG P w K mg base CX (k + 1) f sp :=
  (fnG_of F S hb .nil len hbody).imp fun vs H Q E h => by rw [List.append_nil]; exact h
/-- def f(a, .., *v) -/
theorem fnG_star {pv : Str} (F : FunD K x qual params body scope [] kws f fd) (S : FnScope N (ps ++ [pv]) scope) (hCX : CXUp CX)
    (hb : ∀ (kV doc pm : Value) (an : Option Addr) (cdv ct : Value) (us rest : List Value), us.length = ps.length → bindArgs (PySem.W.fnOf x qual params body scope .none kV doc pm an cdv ct) ⟨us ++ rest, []⟩ = (newTuple rest >>= fun t => pure (ps.zip us ++ [(pv, t)])))
    (hbody : ∀ (cdv : Value) (A : Around) (outer : List Env) (s : Shared) (H : Hp) (vs : List V) (Q : VK) (E : XK), RoomG k (A.deeper (envOfC qual scope s.heap.objs.size f cdv)) → sp vs H Q E →
      ∃ t, PSs (cxOf CX P w K mg base N qual scope f cdv A outer s H E) body t ∧ t { nx := fun _ H' => Q .non H', rt := Q } (start N vs) H) :
    FnG P w K mg base CX (k + 1) f (fun vs H Q E => ∃ ws rest, vs = ws ++ rest ∧ ws.length = ps.length ∧ rest.length ≤ sizeLine ∧ ∀ p, H p = Option.none → sp (ws ++ [V.ref p]) (upd H p (.tup rest)) Q E) := by
  obtain ⟨oc, od, dV, kV, doc, pm, an, cdv, ct, osl, rfl, lk, hcd, hD, _⟩ := F.ex
  obtain rfl : dV = .none := by
    rcases hD with ⟨_, e⟩ | ⟨e, _⟩
    · exact e
    · exact absurd rfl e
  intro A outer s H us vs Q E hr e0 r hsp
  obtain ⟨ws, rest, rfl, hl, hz, hq⟩ := hsp
  obtain ⟨u1, u2, rfl, r1, r2⟩ := vals_split r
  have hn : H s.heap.objs.size = Option.none := e0.hok.fresh (Nat.le_refl _)
  have hl1 : u1.length = ps.length := by rw [← r1.length]; exact hl
  have hl2 : u2.length ≤ sizeLine := by rw [← r2.length]; exact hz
  refine run_bnd lk hcd S hr.room e0 (G := fun xs H2 => ∃ p, H p = Option.none ∧ xs = ws ++ [V.ref p] ∧ H2 = upd H p (.tup rest)) (fun A' Ex Q' h => ?_) fun s2 H2 xs ⟨p, hp, ex, eH⟩ hr' => ?_
  · rw [hb _ _ _ _ _ _ u1 u2 hl1]
    refine wpAny_bind (wpAny_newTuple (wpAny_pure ?_) hl2)
    have z := h _ _ (ws ++ [V.ref s.heap.objs.size]) (u1 ++ [Value.ref s.heap.objs.size]) (env0_laid (u := .tup rest) (o := { cls := .type "tuple", data := .seq u2.toArray }) e0 ⟨hz, u2, r2, ⟨_, Heap.get?_push_size _ rfl, rfl, _, rfl⟩⟩) (un_laid hn) rfl
      (fun e s' => hCX outer s H _ _ E e s' (un_laid (o := { cls := .type "tuple", data := .seq u2.toArray }) (u := .tup rest) hn) (fun b o q => Heap.get?_push_of_some _ q) rfl) (r1.append (.cons rfl .nil)) (by rw [List.length_append, List.length_append, hl] <;> rfl) ⟨_, hn, rfl, rfl⟩
    rw [List.zip_append hl1.symm] at z
    exact z
  · subst ex eH
    exact hbody cdv A outer s2 _ _ Q E ⟨hr', hr.gd⟩ (hq p hp)
end
/-! the law's call: the heap ahead of it tracks nothing but the script -/
section
variable {P : Program} {w : World} {K : PySem.W.Frag} {mg mb : Str → Option Value} {k : Nat} {fa a : Addr} {sp : Sp} {s₁ : Shared} {vs : List Value} {ns : List Int}
theorem end_core {H : Hp} (KX : K.In s₁.heap) (hns : s₁.heap.Ns mainGlobals mg) (hb : s₁.heap.Ns builtinsNs mb) (hbb : ∀ x : Str, x ≠ "__name__" → mb x = bootBuiltins x) (hlim : s₁.heap.NoLimit) (hg : s₁.gens = #[])
    (ha : s₁.heap.get? a = some { cls := .type "list", data := .seq vs.toArray }) (hr : Room k callerA) (F : ∀ base : Heap, K.In base → base.Ns mainGlobals mg → FnG P w K mg base CX0 k fa sp)
    (hsp : sp [.ref a] H (fun v _ => v = .bl true) fun _ _ _ => False) (hO : Only H) (hok : HOk P w H s₁.heap) (hA : ∀ b, H b ≠ none → b = a) (hK : H a ≠ none → K.lookup a = none) :
    codeAny (model P w) callerA (.call (.ref fa) ⟨[.ref a], []⟩) (fun r s' => r = .ok (.ret (.bool true)) ∧ OldK s₁.heap s'.heap ∧ s'.os = s₁.os ∧ AllBare s'.gens) s₁ := by
  have untr : ∀ {b : Addr} {o : Obj}, s₁.heap.get? b = some o → (b = a → False) → H b = none := fun {b o} e n => by
    cases q : H b with
    | none => rfl
    | some u => exact (n (hA b (by rw [q]; exact fun z => nomatch z))).elim
  have ns' : ∀ {b : Addr} {m : Str → Option Value}, s₁.heap.Ns b m → (hidT s₁.heap H).Ns b m := fun {b m} ⟨o, es, ep, e, d, r⟩ => ⟨o, es, ep, hidT_get e (untr e fun z => by
    rw [z, ha] at e
    cases e
    cases d), d, r⟩
  have kb : K.In (hidT s₁.heap H) := fun b o e => hidT_get (KX b o e) (by
    cases q : H b with
    | none => rfl
    | some u =>
      have eb := hA b (by rw [q]; exact fun z => nomatch z)
      rw [← eb] at hK
      have z := hK (by rw [q]; exact fun z => nomatch z)
      rw [z] at e
      cases e)
  have mod : Mod K mg (hidT s₁.heap H) := ⟨kb, ns' hns, ⟨mb, ns' hb, hbb⟩, let ⟨mc, h1, h2⟩ := hlim; ⟨mc, ns' h1, h2⟩⟩
  have e0 : Env0 P w K mg (hidT s₁.heap H) callerA [] s₁ H := ⟨rfl, mod, fun b o e => of_hidT e, Nat.le_of_eq (hidT_size _ _), trivial, fun b hb => absurd hb (by simp [frs]), hok, AllBare.of_eq hg⟩
  refine codeAny_mono (F _ kb (ns' hns) callerA [] s₁ H [.ref a] [.ref a] _ _ ⟨hr, rfl⟩ e0 (.cons rfl .nil) hsp) fun r s' h => ?_
  match r, h with
  | .error e, h => exact False.elim h
  | .ok .next, h => exact False.elim h
  | .ok .brk, h => exact False.elim h
  | .ok .cont, h => exact False.elim h
  | .ok (.ret u), h =>
    obtain ⟨v, H', os, bare, un, hok', r', q⟩ := h
    cases (show v = .bl true from q)
    cases (show u = Value.bool true from r')
    refine ⟨rfl, OldK.of_keep fun b o e => ?_, os, bare⟩
    rcases hO b with z | ⟨ob, xs, z⟩
    · exact un.keep b o e z (fun y => absurd y (by simp [frs])) (fun y => absurd y (by simp))
    · obtain ⟨e1, _⟩ := hok b _ z
      obtain ⟨e2, _⟩ := hok' b _ (un.frzs b ob _ z)
      rw [e] at e1
      cases e1
      exact e2
theorem end_call (KX : K.In s₁.heap) (hns : s₁.heap.Ns mainGlobals mg) (hb : s₁.heap.Ns builtinsNs mb) (hbb : ∀ x : Str, x ≠ "__name__" → mb x = bootBuiltins x) (hlim : s₁.heap.NoLimit) (hg : s₁.gens = #[])
    (ha : s₁.heap.get? a = some { cls := .type "list", data := .seq vs.toArray }) (hi : IntsAre vs ns) (hl : ns.length ≤ sizeLine) (hr : Room k callerA) (F : ∀ base : Heap, K.In base → base.Ns mainGlobals mg → FnG P w K mg base CX0 k fa sp)
    (hsp : ∀ H : Hp, SqL K H a (ns.map V.int) → sp [.ref a] H (fun v _ => v = .bl true) fun _ _ _ => False) :
    codeAny (model P w) callerA (.call (.ref fa) ⟨[.ref a], []⟩) (fun r s' => r = .ok (.ret (.bool true)) ∧ OldK s₁.heap s'.heap ∧ s'.os = s₁.os ∧ AllBare s'.gens) s₁ := by
  have rv := vals_ints hi
  have lenV := hi.length
  cases hk : K.lookup a with
  | some o =>
    have e := KX a o hk
    rw [ha] at e
    cases e
    exact end_core (H := fun _ => none) KX hns hb hbb hlim hg ha hr F (hsp _ (.inr ⟨_, vs.toArray, _, hk, rfl, rfl, rfl, by rw [List.size_toArray, lenV]; exact hl, by simpa using rv⟩)) (fun _ => .inl rfl) (fun b u z => nomatch z) (fun b z => absurd rfl z) fun z => absurd rfl z
  | none =>
    have e1 : ∀ b, b ≠ a → upd (fun _ => none) a (.frz { cls := .type "list", data := .seq vs.toArray } (.lst (ns.map V.int))) b = none := fun b h => upd_ne h
    refine end_core (H := upd (fun _ => none) a (.frz { cls := .type "list", data := .seq vs.toArray } (.lst (ns.map V.int)))) KX hns hb hbb hlim hg ha hr F (hsp _ (.inl (.inr ⟨_, upd_same⟩))) (fun b => ?_) (fun b u z => ?_) (fun b z => ?_) fun _ => hk
    · by_cases h : b = a
      · exact .inr ⟨_, _, by rw [h]; exact upd_same⟩
      · exact .inl (e1 b h)
    · by_cases h : b = a
      · subst h
        rw [upd_same] at z
        cases z
        exact ⟨ha, by rw [List.length_map]; exact hl, vs, _, rv, ha⟩
      · rw [e1 b h] at z
        cases z
    · by_cases h : b = a
      · exact h
      · exact absurd (e1 b h) z
end
theorem end_law {l : PySem.W.OpenLaw} {n k : Nat} {q : Program} {loose : List Str} {XP : (Str → Option Value) → Heap → Prop} {YP : World → Heap → Prop} {d : DefRec} (hn : l.most = some n) (hn2 : n ≤ sizeLine) (hdf : d.params.defaults = []) (hr : Room k callerA)
    (F : ∀ (w : World) (mg : Str → Option Value) (fa : Addr) (h : Heap), YP w h → h.Ns mainGlobals mg → mg d.name = some (.ref fa) →
      ∃ (K : PySem.W.Frag) (sp : Sp), K.In h ∧ (∀ (H : Hp) (a : Addr) (ns : List Int), ns.length ≤ n → SqL K H a (ns.map V.int) → sp [.ref a] H (fun v _ => v = .bl true) fun _ _ _ => False) ∧
        ∀ base : Heap, K.In base → base.Ns mainGlobals mg → FnG l.prog w K mg base CX0 k fa sp) :
    PySem.W.WalkO q loose XP YP l.row.toRowW d [] (fun f vs => PySem.call f vs) := by
  refine Att.attach_call hn hdf fun w s₀ s₁ mg mb fa o pm cd doc a vs ns G Y ho hd hcd hmg hobj hints hlen hg => ?_
  obtain ⟨K, sp, KX, hsp, hF⟩ := F w mg fa _ Y G.T.g hmg
  exact end_call KX G.T.g G.T.b G.T.builtins G.T.nolimit hg hobj hints (Nat.le_trans hlen hn2) hr hF fun H hS => hsp H a ns hlen hS
end Lw

set_option Elab.async false
set_option linter.all false
set_option maxRecDepth 100000
/-! facts of the head, told as what the rules ask -/
namespace Lw
open PySem PySem.Spec PyProof.Rows L2 He
variable {K : Frag}
def bEqOwn (C : Str) (K : Frag) : Bool := eqO (PySem.W.findIn K (.ref (ga K C)) "__eq__") (some (some (.ref (ma K (ga K C) "__eq__")))) && (PySem.W.isFn K (.ref (ma K (ga K C) "__eq__")) &&
  (eqO (PySem.W.findIn K (.ref (ga K C)) "__ne__") (some (some (.builtin "object.__ne__"))) && decide (PySem.W.mroIn K (ga K C) (.type "object") = some true)))
theorem bEqOwn_ok {C : Str} (h : bEqOwn C K = true) : EqOwn K (ga K C) (ma K (ga K C) "__eq__") := by
  obtain ⟨h1, h⟩ := ba h
  obtain ⟨h2, h⟩ := ba h
  obtain ⟨h3, h4⟩ := ba h
  exact ⟨eqO_ok h1, h2, eqO_ok h3, of_decide_eq_true h4⟩
def bBin (C : Str) (op : Operator) (K : Frag) : Bool := PySem.W.selfFirst K (ga K C) && (eqO (PySem.W.findIn K (.ref (ga K C)) (PySem.dunder op.info.2)) (some (some (.ref (ma K (ga K C) (PySem.dunder op.info.2))))) &&
  (PySem.W.isFn K (.ref (ma K (ga K C) (PySem.dunder op.info.2))) && (match PySem.W.findIn K (.ref (ga K C)) (dunderR op.info.2) with | some none => true | some (some (.ref _)) => true | _ => false)))
theorem bBin_ok {C : Str} {op : Operator} {n : Str} (e : PySem.dunder op.info.2 = n) (h : bBin C op K = true) : BinOwn K op (ga K C) (ma K (ga K C) n) := by
  subst e
  obtain ⟨h1, h⟩ := ba h
  obtain ⟨h2, h⟩ := ba h
  obtain ⟨h3, h4⟩ := ba h
  refine ⟨h1, eqO_ok h2, h3, ?_⟩
  split at h4
  · rename_i z
    exact ⟨_, z, .inl rfl⟩
  · rename_i z
    exact ⟨_, z, .inr ⟨_, rfl⟩⟩
  · cases h4
structure BinTy (K : Frag) (op : Operator) (C : Addr) (T : String) : Prop where
  h1 : ∃ fo, PySem.W.findIn K (.type T) (PySem.dunder op.info.2) = some fo
  h2 : ∃ ro, PySem.W.findIn K (.type T) (dunderR op.info.2) = some ro
  sub : PySem.W.subIn K (.type T) (.ref C) = some false
def bBinT (C : Str) (op : Operator) (T : String) (K : Frag) : Bool := (PySem.W.findIn K (.type T) (PySem.dunder op.info.2)).isSome && ((PySem.W.findIn K (.type T) (dunderR op.info.2)).isSome && decide (PySem.W.subIn K (.type T) (.ref (ga K C)) = some false))
theorem bBinT_ok {C : Str} {op : Operator} {T : String} (h : bBinT C op T K = true) : BinTy K op (ga K C) T := by
  obtain ⟨h1, h⟩ := ba h
  obtain ⟨h2, h3⟩ := ba h
  exact ⟨Option.isSome_iff_exists.mp h1, Option.isSome_iff_exists.mp h2, of_decide_eq_true h3⟩
/-- n * o, o an instance of C -/
structure MulRef (K : Frag) (C g : Addr) : Prop where
  first : PySem.W.selfFirst K C = true
  at_ : ∃ f : Addr, PySem.W.findIn K (.ref C) "__mul__" = some (some (.ref f))
  refl : PySem.W.findIn K (.ref C) "__rmul__" = some (some (.ref g))
  fn : PySem.W.isFn K (.ref g) = true
  sub : PySem.W.subIn K (.ref C) (.type "int") = some false
def bMulR (C : Str) (K : Frag) : Bool := PySem.W.selfFirst K (ga K C) && (eqO (PySem.W.findIn K (.ref (ga K C)) "__mul__") (some (some (.ref (ma K (ga K C) "__mul__")))) && (eqO (PySem.W.findIn K (.ref (ga K C)) "__rmul__") (some (some (.ref (ma K (ga K C) "__rmul__")))) &&
  (PySem.W.isFn K (.ref (ma K (ga K C) "__rmul__")) && decide (PySem.W.subIn K (.ref (ga K C)) (.type "int") = some false))))
theorem bMulR_ok {C : Str} (h : bMulR C K = true) : MulRef K (ga K C) (ma K (ga K C) "__rmul__") := by
  obtain ⟨h1, h⟩ := ba h
  obtain ⟨h2, h⟩ := ba h
  obtain ⟨h3, h⟩ := ba h
  obtain ⟨h4, h5⟩ := ba h
  exact ⟨h1, ⟨_, eqO_ok h2⟩, eqO_ok h3, h4, of_decide_eq_true h5⟩
def bNoSub (T : String) (C : Str) (K : Frag) : Bool := decide (PySem.W.subIn K (.type T) (.ref (ga K C)) = some false)
/-- what isinstance(o, C) asks of the class of o -/
structure TypOwn (K : Frag) (C : Addr) : Prop where
  cl : Cls K C
  ha : PySem.W.findIn K (.ref C) "__class__" = some (some (.builtin "object.__class__"))
  hn : PySem.W.specialIn K (.builtin "object.__class__") "__get__" = some (some (.builtin "getset_descriptor.__get__"))
  htk : PySem.W.takesIn K (.builtin "object.__class__") = some true
  hm : PySem.W.mroIn K C (.type "object") = some true
  self : PySem.W.kitOne K (.ref C) (.ref C) = some true
theorem TypOwn.ty {C : Addr} {H : Hp} {a dx : Addr} {fs : List (Str × V)} (t : TypOwn K C) (e : H a = some (.ins C dx fs)) : TyX K H (.ref a) (.ref C) := .base (.ins e t.cl t.ha t.hn t.htk t.hm)
theorem bCls_ok {C : Str} (h : bCls C K = true) : Cls K (ga K C) := by
  obtain ⟨h1, h⟩ := ba (show (PySem.W.plainGet K (ga K C) Str.empty && (PySem.W.hasDictIn K (ga K C) && (PySem.W.plainOver K (ga K C) && eqO (PySem.W.findIn K (.ref (ga K C)) "__setattr__") (some (some (.builtin "object.__setattr__")))))) = true from h)
  obtain ⟨h2, h⟩ := ba h
  obtain ⟨h3, h4⟩ := ba h
  exact ⟨h1, h2, h3, eqO_ok h4⟩
def bTyp (C : Str) (K : Frag) : Bool := bCls C K && (eqO (PySem.W.findIn K (.ref (ga K C)) "__class__") (some (some (.builtin "object.__class__"))) && (eqO (PySem.W.specialIn K (.builtin "object.__class__") "__get__") (some (some (.builtin "getset_descriptor.__get__"))) &&
  (decide (PySem.W.takesIn K (.builtin "object.__class__") = some true) && (decide (PySem.W.mroIn K (ga K C) (.type "object") = some true) && decide (PySem.W.kitOne K (.ref (ga K C)) (.ref (ga K C)) = some true)))))
theorem bTyp_ok {C : Str} (h : bTyp C K = true) : TypOwn K (ga K C) := by
  obtain ⟨h1, h⟩ := ba h
  obtain ⟨h2, h⟩ := ba h
  obtain ⟨h3, h⟩ := ba h
  obtain ⟨h4, h⟩ := ba h
  obtain ⟨h5, h6⟩ := ba h
  exact ⟨bCls_ok h1, eqO_ok h2, eqO_ok h3, of_decide_eq_true h4, of_decide_eq_true h5, of_decide_eq_true h6⟩
theorem bMeth_ok {C m : Str} (h : bMeth C m K = true) : Meth K (ga K C) m (ma K (ga K C) m) := by
  obtain ⟨h1, h⟩ := ba (show (eqO (PySem.W.findIn K (.ref (ga K C)) m) (some (some (.ref (ma K (ga K C) m)))) && (PySem.W.isFn K (.ref (ma K (ga K C) m)) && PySem.W.keepIn K (.ref (ma K (ga K C) m)))) = true from h)
  obtain ⟨h2, h3⟩ := ba h
  exact ⟨eqO_ok h1, h2, h3⟩
theorem bMkr_ok {C : Str} (h : bMkr C K = true) : Mk K (ga K C) (ma K (ga K C) "__init__") := by
  obtain ⟨h1, h⟩ := ba (show (PySem.W.makesIn K (ga K C) && (eqO (PySem.W.findIn K (.ref (ga K C)) "__init__") (some (some (.ref (ma K (ga K C) "__init__")))) && (PySem.W.isFn K (.ref (ma K (ga K C) "__init__")) && PySem.W.keepIn K (.ref (ga K C))))) = true from h)
  obtain ⟨h2, h⟩ := ba h
  obtain ⟨h3, h4⟩ := ba h
  exact ⟨h1, eqO_ok h2, h3, h4⟩
theorem bProp_ok {C m : Str} (h : bProp C m K = true) : PropOf K (ga K C) m (ma K (ga K C) m) (pg K C m) := by
  obtain ⟨h1, h⟩ := ba h
  obtain ⟨h2, h⟩ := ba h
  obtain ⟨h3, h4⟩ := ba h
  refine ⟨eqO_ok h1, eqO_ok h2, of_decide_eq_true h3, ?_⟩
  unfold pg He5.wf
  split at h4
  · rename_i f r e
    exact ⟨r, by rw [e]⟩
  · cases h4
theorem fnIn_of {x qual : Str} {params : Arguments} {body : List Stmt} {scope : Scope} {dvs : List V} {kws : List (Str × V)} {f : Addr} {fd : FuncData} (F : FunD K x qual params body scope dvs kws f fd) : PySem.W.fnIn K f = true := by
  obtain ⟨oc, od, dV, kV, doc, pm, an, cdv, ct, osl, rfl, lk, _⟩ := F.ex
  unfold PySem.W.fnIn
  rw [lk]
/-- a default that is the empty tuple -/
def bTup0 (f : Str × Option Str) (i : Nat) (K : Frag) : Bool := match K.lookup (He.dflAt f i K) with
  | some o => decide (o.cls = .type "tuple") && (match o.data with | .seq its _ => its.size == 0 | _ => false)
  | none => false
theorem bTup0_ok {f : Str × Option Str} {i : Nat} {K : Frag} (h : bTup0 f i K = true) : ∀ H : L2.Hp, L2.SqT K H (He.dflAt f i K) [] := fun H => by
  unfold bTup0 at h
  split at h
  · rename_i o e
    obtain ⟨h1, h2⟩ := Bool.and_eq_true_iff.mp h
    split at h2
    · rename_i its n e2
      have hz : its.size = 0 := by simpa using h2
      have hi : its = #[] := Array.eq_empty_of_size_eq_zero hz
      subst hi
      exact .inr ⟨o, #[], n, e, of_decide_eq_true h1, e2, by simp, .nil⟩
    · cases h2
  · cases h
/-- class methods -/
def bRead (C : Str) (K : Frag) : Bool := PySem.W.readsIn K (ga K C) (.type "type") && eqO (PySem.W.specialIn K (.ref (ga K C)) "__getattribute__") (some (some (.builtin "type.__getattribute__")))
theorem bRead_ok {C : Str} (h : bRead C K = true) : ClX.CRead K (ga K C) (.type "type") := ⟨(ba h).1, eqO_ok (ba h).2⟩
def bCMet (C m : Str) (K : Frag) : Bool := He5.wrapB K (ga K C) "classmethod" "classmethod.__get__" m && PySem.W.fnIn K (He5.wf K (ga K C) "classmethod" m)
theorem bCMet_ok {C m : Str} (h : bCMet C m K = true) : ClX.CMet K (ga K C) (.type "type") m (ma K (ga K C) m) (He5.wf K (ga K C) "classmethod" m) := He5.cmet_of (ba h).1 (ba h).2
def bNoKit (T : String) (C : Str) (K : Frag) : Bool := decide (PySem.W.kitOne K (.type T) (.ref (ga K C)) = some false)
def bCVal (C f : Str) (i : Int) (K : Frag) : Bool := match PySem.W.findCls K (.ref (ga K C)) (.type "type") f with
  | some (.val (.int j _)) => decide (i = j)
  | _ => false
theorem bCVal_ok {C f : Str} {i : Int} (h : bCVal C f i K = true) : ∃ u, ClX.CVal K (ga K C) (.type "type") f (.int i) u := by
  unfold bCVal at h
  split at h
  · rename_i j t e
    have := of_decide_eq_true h
    subst this
    exact ⟨_, e, ⟨t, rfl⟩⟩
  · cases h
end Lw

set_option Elab.async false
set_option linter.all false
set_option maxRecDepth 100000
namespace Hd
open PySem PySem.Spec PyProof.Rows L2 He Lw
def top (i : Nat) : Stmt := PySem.Challenge.pw_onceseen_k29_whole_holders_counted.main.body.getD i (.Pass ⟨0, 0, 0, 0⟩)
abbrev s__wall : Stmt := (top 0)
abbrev s_InvalidCell_init : Stmt := (inClass (top 3) 0)
abbrev s_InvalidSide_init : Stmt := (inClass (top 4) 0)
abbrev s_InvalidFactors_init : Stmt := (inClass (top 5) 0)
abbrev s_InvalidEdges_init : Stmt := (inClass (top 6) 0)
abbrev s_InvalidEdge_init : Stmt := (inClass (top 7) 0)
abbrev s_InvalidLevel_init : Stmt := (inClass (top 8) 0)
abbrev s_InvalidTile_init : Stmt := (inClass (top 9) 0)
abbrev s_InvalidCount_init : Stmt := (inClass (top 10) 0)
abbrev s_TooMany_init : Stmt := (inClass (top 12) 0)
abbrev s_is_integer : Stmt := (top 14)
abbrev s_is_count : Stmt := (top 15)
abbrev s_is_list : Stmt := (top 16)
abbrev s_is_couple : Stmt := (top 17)
abbrev s_is_count_couple : Stmt := (top 18)
abbrev s_is_edge : Stmt := (top 19)
abbrev s_is_level : Stmt := (top 20)
abbrev s_check_cell : Stmt := (top 21)
abbrev s_check_level : Stmt := (top 22)
abbrev s_check_tile : Stmt := (top 23)
abbrev s_check_positive : Stmt := (top 24)
abbrev s__check_factors : Stmt := (top 26)
abbrev s__check_edges : Stmt := (top 27)
abbrev s__sides : Stmt := (top 28)
abbrev s_Ladder_init : Stmt := (inClass (top 29) 1)
abbrev s_Ladder_levels : Stmt := (inClass (top 29) 2)
abbrev s_Ladder_period : Stmt := (inClass (top 29) 3)
abbrev s_Ladder_sides : Stmt := (inClass (top 29) 4)
abbrev s_Ladder_side : Stmt := (inClass (top 29) 5)
abbrev s_Ladder_edge : Stmt := (inClass (top 29) 6)
abbrev s_Ladder_owned : Stmt := (inClass (top 29) 7)
abbrev s_Ladder_held : Stmt := (inClass (top 29) 8)
abbrev s_Ladder_owner : Stmt := (inClass (top 29) 9)
abbrev s_Ladder_holders : Stmt := (inClass (top 29) 10)
abbrev s_Ladder_holds : Stmt := (inClass (top 29) 11)
abbrev s_Ladder_parts : Stmt := (inClass (top 29) 12)
abbrev s_Ladder_wholes : Stmt := (inClass (top 29) 13)
abbrev s_Ladder_way : Stmt := (inClass (top 29) 14)
abbrev s_Ladder_mul : Stmt := (inClass (top 29) 15)
abbrev s_Ladder_rmul : Stmt := (inClass (top 29) 16)
abbrev s_Ladder_turned : Stmt := (inClass (top 29) 17)
abbrev s_Ladder_cut : Stmt := (inClass (top 29) 18)
abbrev s_Ladder_with_edge : Stmt := (inClass (top 29) 19)
abbrev s_Ladder_eq : Stmt := (inClass (top 29) 20)
abbrev s_Ladder_repr : Stmt := (inClass (top 29) 21)
abbrev s__law_pot : Stmt := (top 31)
abbrev s__law_draw : Stmt := (top 32)
abbrev s__law_pick : Stmt := (top 33)
abbrev s__law_great : Stmt := (top 34)
abbrev s__law_wides : Stmt := (top 35)
abbrev s__law_far : Stmt := (top 36)
abbrev s__law_small : Stmt := (top 37)
abbrev s__law_built : Stmt := (top 38)
abbrev s__law_counted : Stmt := (top 39)
abbrev s__law_level_right : Stmt := (top 40)
abbrev s__law_great_right : Stmt := (top 41)
abbrev s__law_right : Stmt := (top 42)
abbrev s_law : Stmt := (top 43)
def fn : List DefA := [
  ⟨fun K => ga K "is_integer", "is_integer", "is_integer", defArgs s_is_integer, defBody s_is_integer, defScope s_is_integer, [], []⟩,
  ⟨fun K => ga K "is_count", "is_count", "is_count", defArgs s_is_count, defBody s_is_count, defScope s_is_count, [], []⟩,
  ⟨fun K => ga K "is_list", "is_list", "is_list", defArgs s_is_list, defBody s_is_list, defScope s_is_list, [], []⟩,
  ⟨fun K => ga K "is_couple", "is_couple", "is_couple", defArgs s_is_couple, defBody s_is_couple, defScope s_is_couple, [], []⟩,
  ⟨fun K => ga K "is_count_couple", "is_count_couple", "is_count_couple", defArgs s_is_count_couple, defBody s_is_count_couple, defScope s_is_count_couple, [], []⟩,
  ⟨fun K => ga K "is_edge", "is_edge", "is_edge", defArgs s_is_edge, defBody s_is_edge, defScope s_is_edge, [], []⟩,
  ⟨fun K => ga K "is_level", "is_level", "is_level", defArgs s_is_level, defBody s_is_level, defScope s_is_level, [], []⟩,
  ⟨fun K => ga K "check_cell", "check_cell", "check_cell", defArgs s_check_cell, defBody s_check_cell, defScope s_check_cell, [], []⟩,
  ⟨fun K => ga K "check_level", "check_level", "check_level", defArgs s_check_level, defBody s_check_level, defScope s_check_level, [], []⟩,
  ⟨fun K => ga K "check_tile", "check_tile", "check_tile", defArgs s_check_tile, defBody s_check_tile, defScope s_check_tile, [], []⟩,
  ⟨fun K => ga K "check_positive", "check_positive", "check_positive", defArgs s_check_positive, defBody s_check_positive, defScope s_check_positive, [], []⟩,
  ⟨fun K => ga K "_check_factors", "_check_factors", "_check_factors", defArgs s__check_factors, defBody s__check_factors, defScope s__check_factors, [], []⟩,
  ⟨fun K => ga K "_check_edges", "_check_edges", "_check_edges", defArgs s__check_edges, defBody s__check_edges, defScope s__check_edges, [], []⟩,
  ⟨fun K => ga K "_sides", "_sides", "_sides", defArgs s__sides, defBody s__sides, defScope s__sides, [], []⟩,
  ⟨fun K => ma K (ga K "Ladder") "__init__", "__init__", "Ladder.__init__", defArgs s_Ladder_init, defBody s_Ladder_init, defScope s_Ladder_init, [.adr (He.dflAt ("Ladder", some "__init__") 0), .non], []⟩,
  ⟨fun K => pg K "Ladder" "levels", "levels", "Ladder.levels", defArgs s_Ladder_levels, defBody s_Ladder_levels, defScope s_Ladder_levels, [], []⟩,
  ⟨fun K => ma K (ga K "Ladder") "side", "side", "Ladder.side", defArgs s_Ladder_side, defBody s_Ladder_side, defScope s_Ladder_side, [], []⟩,
  ⟨fun K => ma K (ga K "Ladder") "owned", "owned", "Ladder.owned", defArgs s_Ladder_owned, defBody s_Ladder_owned, defScope s_Ladder_owned, [], []⟩,
  ⟨fun K => ma K (ga K "Ladder") "held", "held", "Ladder.held", defArgs s_Ladder_held, defBody s_Ladder_held, defScope s_Ladder_held, [], []⟩,
  ⟨fun K => ma K (ga K "Ladder") "owner", "owner", "Ladder.owner", defArgs s_Ladder_owner, defBody s_Ladder_owner, defScope s_Ladder_owner, [], []⟩,
  ⟨fun K => ma K (ga K "Ladder") "holders", "holders", "Ladder.holders", defArgs s_Ladder_holders, defBody s_Ladder_holders, defScope s_Ladder_holders, [], []⟩,
  ⟨fun K => ma K (ga K "Ladder") "holds", "holds", "Ladder.holds", defArgs s_Ladder_holds, defBody s_Ladder_holds, defScope s_Ladder_holds, [], []⟩,
  ⟨fun K => ma K (ga K "Ladder") "__mul__", "__mul__", "Ladder.__mul__", defArgs s_Ladder_mul, defBody s_Ladder_mul, defScope s_Ladder_mul, [], []⟩,
  ⟨fun K => ma K (ga K "Ladder") "__rmul__", "__rmul__", "Ladder.__rmul__", defArgs s_Ladder_rmul, defBody s_Ladder_rmul, defScope s_Ladder_rmul, [], []⟩,
  ⟨fun K => ma K (ga K "Ladder") "with_edge", "with_edge", "Ladder.with_edge", defArgs s_Ladder_with_edge, defBody s_Ladder_with_edge, defScope s_Ladder_with_edge, [], []⟩,
  ⟨fun K => ma K (ga K "Ladder") "__eq__", "__eq__", "Ladder.__eq__", defArgs s_Ladder_eq, defBody s_Ladder_eq, defScope s_Ladder_eq, [], []⟩,
  ⟨fun K => ma K (ga K "Ladder") "__repr__", "__repr__", "Ladder.__repr__", defArgs s_Ladder_repr, defBody s_Ladder_repr, defScope s_Ladder_repr, [], []⟩,
  ⟨fun K => ga K "_law_pot", "_law_pot", "_law_pot", defArgs s__law_pot, defBody s__law_pot, defScope s__law_pot, [], []⟩,
  ⟨fun K => ga K "_law_draw", "_law_draw", "_law_draw", defArgs s__law_draw, defBody s__law_draw, defScope s__law_draw, [], []⟩,
  ⟨fun K => ga K "_law_pick", "_law_pick", "_law_pick", defArgs s__law_pick, defBody s__law_pick, defScope s__law_pick, [], []⟩,
  ⟨fun K => ga K "_law_great", "_law_great", "_law_great", defArgs s__law_great, defBody s__law_great, defScope s__law_great, [], []⟩,
  ⟨fun K => ga K "_law_wides", "_law_wides", "_law_wides", defArgs s__law_wides, defBody s__law_wides, defScope s__law_wides, [], []⟩,
  ⟨fun K => ga K "_law_far", "_law_far", "_law_far", defArgs s__law_far, defBody s__law_far, defScope s__law_far, [], []⟩,
  ⟨fun K => ga K "_law_small", "_law_small", "_law_small", defArgs s__law_small, defBody s__law_small, defScope s__law_small, [], []⟩,
  ⟨fun K => ga K "_law_built", "_law_built", "_law_built", defArgs s__law_built, defBody s__law_built, defScope s__law_built, [], []⟩,
  ⟨fun K => ga K "_law_counted", "_law_counted", "_law_counted", defArgs s__law_counted, defBody s__law_counted, defScope s__law_counted, [], []⟩,
  ⟨fun K => ga K "_law_level_right", "_law_level_right", "_law_level_right", defArgs s__law_level_right, defBody s__law_level_right, defScope s__law_level_right, [], []⟩,
  ⟨fun K => ga K "_law_great_right", "_law_great_right", "_law_great_right", defArgs s__law_great_right, defBody s__law_great_right, defScope s__law_great_right, [], []⟩,
  ⟨fun K => ga K "_law_right", "_law_right", "_law_right", defArgs s__law_right, defBody s__law_right, defScope s__law_right, [], []⟩,
  ⟨fun K => ga K "law", "law", "law", defArgs s_law, defBody s_law, defScope s_law, [], []⟩
]
def fs : List (Frag → Bool) := [
  bGlo "is_integer",
  bGlo "is_count",
  bGlo "is_list",
  bGlo "is_couple",
  bGlo "is_count_couple",
  bGlo "is_edge",
  bGlo "is_level",
  bGlo "check_cell",
  bGlo "check_level",
  bGlo "check_tile",
  bGlo "check_positive",
  bGlo "_check_factors",
  bGlo "_check_edges",
  bGlo "_sides",
  bGlo "Ladder",
  bGlo "_law_pot",
  bGlo "_law_draw",
  bGlo "_law_pick",
  bGlo "_law_great",
  bGlo "_law_wides",
  bGlo "_law_far",
  bGlo "_law_small",
  bGlo "_law_built",
  bGlo "_law_counted",
  bGlo "_law_level_right",
  bGlo "_law_great_right",
  bGlo "_law_right",
  bGlo "law",
  bFree "isinstance",
  bFree "int",
  bFree "bool",
  bFree "list",
  bFree "tuple",
  bFree "len",
  bFree "enumerate",
  bFree "abs",
  bFree "max",
  bFree "divmod",
  bFree "range",
  bFree "sum",
  bFree "min",
  bFree "all",
  bFree "zip",
  bFree "repr",
  bCls "Ladder",
  bNoat "Ladder" "_all_sides",
  bNoat "Ladder" "_edges",
  bNoat "Ladder" "_factors",
  bMkr "Ladder",
  bProp "Ladder" "levels",
  bMeth "Ladder" "side",
  bMeth "Ladder" "owned",
  bMeth "Ladder" "held",
  bMeth "Ladder" "owner",
  bMeth "Ladder" "holders",
  bMeth "Ladder" "holds",
  bMulR "Ladder",
  bBin "Ladder" .Mult,
  bBinT "Ladder" .Mult "int",
  bMeth "Ladder" "with_edge",
  bEqOwn "Ladder",
  bMeth "Ladder" "__repr__",
  bCVal "Ladder" "MOST_LEVELS" 4,
  bRead "Ladder",
  bTyp "Ladder"
]
def loose : List PySem.Str := (["_wall", "StripError", "InvalidCell", "InvalidSide", "InvalidFactors", "InvalidEdges", "InvalidEdge", "InvalidLevel", "InvalidTile", "InvalidCount", "LimitError", "TooMany", "is_integer", "is_count", "is_list", "is_couple", "is_count_couple", "is_edge", "is_level", "check_cell"] : List PySem.Str) ++ (["check_level", "check_tile", "check_positive", "_check_factors", "_check_edges", "_sides", "Ladder", "_law_pot", "_law_draw", "_law_pick", "_law_great", "_law_wides", "_law_far", "_law_small", "_law_built", "_law_counted", "_law_level_right", "_law_great_right", "_law_right"] : List PySem.Str)
def ilaw : Nat := 43
abbrev R : PySem.W.OpenRow := PySem.W.OpenLaw.row PySem.Challenge.rw_onceseen_k29_whole_holders_counted
abbrev hk : PySem.W.Hook := hookB 5 fs fn
def ob (s : PySem.W.SharedT) : He.AlD := obsBG 5 fs fn (HandSHeadRun.getT s)
theorem ob_eq (s : PySem.W.SharedT) : ob s = hk.obs s.abs := obsBG_eq (HandSHeadRun.getT_eq s)
structure Tx (K : Frag) (mg : Str → Option Value) : Prop where
  says : SaysB fs fn K
  glo : ∀ x, bGlo x K = true → mg x = some (.ref (ga K x))
  free : ∀ x, bFree x K = true → mg x = none
section
variable {K : Frag} {mg : Str → Option Value}
theorem g_is_integer (T : Tx K mg) : mg "is_integer" = some (.ref (ga K "is_integer")) := T.glo _ (T.says.fact (List.mem_of_getElem? (i := 0) rfl))
theorem g_is_count (T : Tx K mg) : mg "is_count" = some (.ref (ga K "is_count")) := T.glo _ (T.says.fact (List.mem_of_getElem? (i := 1) rfl))
theorem g_is_list (T : Tx K mg) : mg "is_list" = some (.ref (ga K "is_list")) := T.glo _ (T.says.fact (List.mem_of_getElem? (i := 2) rfl))
theorem g_is_couple (T : Tx K mg) : mg "is_couple" = some (.ref (ga K "is_couple")) := T.glo _ (T.says.fact (List.mem_of_getElem? (i := 3) rfl))
theorem g_is_count_couple (T : Tx K mg) : mg "is_count_couple" = some (.ref (ga K "is_count_couple")) := T.glo _ (T.says.fact (List.mem_of_getElem? (i := 4) rfl))
theorem g_is_edge (T : Tx K mg) : mg "is_edge" = some (.ref (ga K "is_edge")) := T.glo _ (T.says.fact (List.mem_of_getElem? (i := 5) rfl))
theorem g_is_level (T : Tx K mg) : mg "is_level" = some (.ref (ga K "is_level")) := T.glo _ (T.says.fact (List.mem_of_getElem? (i := 6) rfl))
theorem g_check_cell (T : Tx K mg) : mg "check_cell" = some (.ref (ga K "check_cell")) := T.glo _ (T.says.fact (List.mem_of_getElem? (i := 7) rfl))
theorem g_check_level (T : Tx K mg) : mg "check_level" = some (.ref (ga K "check_level")) := T.glo _ (T.says.fact (List.mem_of_getElem? (i := 8) rfl))
theorem g_check_tile (T : Tx K mg) : mg "check_tile" = some (.ref (ga K "check_tile")) := T.glo _ (T.says.fact (List.mem_of_getElem? (i := 9) rfl))
theorem g_check_positive (T : Tx K mg) : mg "check_positive" = some (.ref (ga K "check_positive")) := T.glo _ (T.says.fact (List.mem_of_getElem? (i := 10) rfl))
theorem g__check_factors (T : Tx K mg) : mg "_check_factors" = some (.ref (ga K "_check_factors")) := T.glo _ (T.says.fact (List.mem_of_getElem? (i := 11) rfl))
theorem g__check_edges (T : Tx K mg) : mg "_check_edges" = some (.ref (ga K "_check_edges")) := T.glo _ (T.says.fact (List.mem_of_getElem? (i := 12) rfl))
theorem g__sides (T : Tx K mg) : mg "_sides" = some (.ref (ga K "_sides")) := T.glo _ (T.says.fact (List.mem_of_getElem? (i := 13) rfl))
theorem g_Ladder (T : Tx K mg) : mg "Ladder" = some (.ref (ga K "Ladder")) := T.glo _ (T.says.fact (List.mem_of_getElem? (i := 14) rfl))
theorem g__law_pot (T : Tx K mg) : mg "_law_pot" = some (.ref (ga K "_law_pot")) := T.glo _ (T.says.fact (List.mem_of_getElem? (i := 15) rfl))
theorem g__law_draw (T : Tx K mg) : mg "_law_draw" = some (.ref (ga K "_law_draw")) := T.glo _ (T.says.fact (List.mem_of_getElem? (i := 16) rfl))
theorem g__law_pick (T : Tx K mg) : mg "_law_pick" = some (.ref (ga K "_law_pick")) := T.glo _ (T.says.fact (List.mem_of_getElem? (i := 17) rfl))
theorem g__law_great (T : Tx K mg) : mg "_law_great" = some (.ref (ga K "_law_great")) := T.glo _ (T.says.fact (List.mem_of_getElem? (i := 18) rfl))
theorem g__law_wides (T : Tx K mg) : mg "_law_wides" = some (.ref (ga K "_law_wides")) := T.glo _ (T.says.fact (List.mem_of_getElem? (i := 19) rfl))
theorem g__law_far (T : Tx K mg) : mg "_law_far" = some (.ref (ga K "_law_far")) := T.glo _ (T.says.fact (List.mem_of_getElem? (i := 20) rfl))
theorem g__law_small (T : Tx K mg) : mg "_law_small" = some (.ref (ga K "_law_small")) := T.glo _ (T.says.fact (List.mem_of_getElem? (i := 21) rfl))
theorem g__law_built (T : Tx K mg) : mg "_law_built" = some (.ref (ga K "_law_built")) := T.glo _ (T.says.fact (List.mem_of_getElem? (i := 22) rfl))
theorem g__law_counted (T : Tx K mg) : mg "_law_counted" = some (.ref (ga K "_law_counted")) := T.glo _ (T.says.fact (List.mem_of_getElem? (i := 23) rfl))
theorem g__law_level_right (T : Tx K mg) : mg "_law_level_right" = some (.ref (ga K "_law_level_right")) := T.glo _ (T.says.fact (List.mem_of_getElem? (i := 24) rfl))
theorem g__law_great_right (T : Tx K mg) : mg "_law_great_right" = some (.ref (ga K "_law_great_right")) := T.glo _ (T.says.fact (List.mem_of_getElem? (i := 25) rfl))
theorem g__law_right (T : Tx K mg) : mg "_law_right" = some (.ref (ga K "_law_right")) := T.glo _ (T.says.fact (List.mem_of_getElem? (i := 26) rfl))
theorem g_law (T : Tx K mg) : mg "law" = some (.ref (ga K "law")) := T.glo _ (T.says.fact (List.mem_of_getElem? (i := 27) rfl))
theorem z_isinstance (T : Tx K mg) : mg "isinstance" = none := T.free _ (T.says.fact (List.mem_of_getElem? (i := 28) rfl))
theorem z_int (T : Tx K mg) : mg "int" = none := T.free _ (T.says.fact (List.mem_of_getElem? (i := 29) rfl))
theorem z_bool (T : Tx K mg) : mg "bool" = none := T.free _ (T.says.fact (List.mem_of_getElem? (i := 30) rfl))
theorem z_list (T : Tx K mg) : mg "list" = none := T.free _ (T.says.fact (List.mem_of_getElem? (i := 31) rfl))
theorem z_tuple (T : Tx K mg) : mg "tuple" = none := T.free _ (T.says.fact (List.mem_of_getElem? (i := 32) rfl))
theorem z_len (T : Tx K mg) : mg "len" = none := T.free _ (T.says.fact (List.mem_of_getElem? (i := 33) rfl))
theorem z_enumerate (T : Tx K mg) : mg "enumerate" = none := T.free _ (T.says.fact (List.mem_of_getElem? (i := 34) rfl))
theorem z_abs (T : Tx K mg) : mg "abs" = none := T.free _ (T.says.fact (List.mem_of_getElem? (i := 35) rfl))
theorem z_max (T : Tx K mg) : mg "max" = none := T.free _ (T.says.fact (List.mem_of_getElem? (i := 36) rfl))
theorem z_divmod (T : Tx K mg) : mg "divmod" = none := T.free _ (T.says.fact (List.mem_of_getElem? (i := 37) rfl))
theorem z_range (T : Tx K mg) : mg "range" = none := T.free _ (T.says.fact (List.mem_of_getElem? (i := 38) rfl))
theorem z_sum (T : Tx K mg) : mg "sum" = none := T.free _ (T.says.fact (List.mem_of_getElem? (i := 39) rfl))
theorem z_min (T : Tx K mg) : mg "min" = none := T.free _ (T.says.fact (List.mem_of_getElem? (i := 40) rfl))
theorem z_all (T : Tx K mg) : mg "all" = none := T.free _ (T.says.fact (List.mem_of_getElem? (i := 41) rfl))
theorem z_zip (T : Tx K mg) : mg "zip" = none := T.free _ (T.says.fact (List.mem_of_getElem? (i := 42) rfl))
theorem z_repr (T : Tx K mg) : mg "repr" = none := T.free _ (T.says.fact (List.mem_of_getElem? (i := 43) rfl))
theorem c_Ladder (T : Tx K mg) : Cls K (ga K "Ladder") := bCls_ok (T.says.fact (List.mem_of_getElem? (i := 44) rfl))
theorem n_Ladder__all_sides (T : Tx K mg) : NoAttr K (ga K "Ladder") "_all_sides" := eqO_ok (T.says.fact (List.mem_of_getElem? (i := 45) rfl))
theorem n_Ladder__edges (T : Tx K mg) : NoAttr K (ga K "Ladder") "_edges" := eqO_ok (T.says.fact (List.mem_of_getElem? (i := 46) rfl))
theorem n_Ladder__factors (T : Tx K mg) : NoAttr K (ga K "Ladder") "_factors" := eqO_ok (T.says.fact (List.mem_of_getElem? (i := 47) rfl))
theorem k_Ladder (T : Tx K mg) : Mk K (ga K "Ladder") (ma K (ga K "Ladder") "__init__") := bMkr_ok (T.says.fact (List.mem_of_getElem? (i := 48) rfl))
theorem p_Ladder_levels (T : Tx K mg) : PropOf K (ga K "Ladder") "levels" (ma K (ga K "Ladder") "levels") (pg K "Ladder" "levels") := bProp_ok (T.says.fact (List.mem_of_getElem? (i := 49) rfl))
theorem m_Ladder_side (T : Tx K mg) : Meth K (ga K "Ladder") "side" (ma K (ga K "Ladder") "side") := bMeth_ok (T.says.fact (List.mem_of_getElem? (i := 50) rfl))
theorem m_Ladder_owned (T : Tx K mg) : Meth K (ga K "Ladder") "owned" (ma K (ga K "Ladder") "owned") := bMeth_ok (T.says.fact (List.mem_of_getElem? (i := 51) rfl))
theorem m_Ladder_held (T : Tx K mg) : Meth K (ga K "Ladder") "held" (ma K (ga K "Ladder") "held") := bMeth_ok (T.says.fact (List.mem_of_getElem? (i := 52) rfl))
theorem m_Ladder_owner (T : Tx K mg) : Meth K (ga K "Ladder") "owner" (ma K (ga K "Ladder") "owner") := bMeth_ok (T.says.fact (List.mem_of_getElem? (i := 53) rfl))
theorem m_Ladder_holders (T : Tx K mg) : Meth K (ga K "Ladder") "holders" (ma K (ga K "Ladder") "holders") := bMeth_ok (T.says.fact (List.mem_of_getElem? (i := 54) rfl))
theorem m_Ladder_holds (T : Tx K mg) : Meth K (ga K "Ladder") "holds" (ma K (ga K "Ladder") "holds") := bMeth_ok (T.says.fact (List.mem_of_getElem? (i := 55) rfl))
theorem rb_Ladder (T : Tx K mg) : MulRef K (ga K "Ladder") (ma K (ga K "Ladder") "__rmul__") := bMulR_ok (T.says.fact (List.mem_of_getElem? (i := 56) rfl))
theorem b_Ladder_Mult (T : Tx K mg) : BinOwn K .Mult (ga K "Ladder") (ma K (ga K "Ladder") "__mul__") := bBin_ok rfl (T.says.fact (List.mem_of_getElem? (i := 57) rfl))
theorem bt_Ladder_Mult_int (T : Tx K mg) : BinTy K .Mult (ga K "Ladder") "int" := bBinT_ok (T.says.fact (List.mem_of_getElem? (i := 58) rfl))
theorem m_Ladder_with_edge (T : Tx K mg) : Meth K (ga K "Ladder") "with_edge" (ma K (ga K "Ladder") "with_edge") := bMeth_ok (T.says.fact (List.mem_of_getElem? (i := 59) rfl))
theorem eq_Ladder (T : Tx K mg) : EqOwn K (ga K "Ladder") (ma K (ga K "Ladder") "__eq__") := bEqOwn_ok (T.says.fact (List.mem_of_getElem? (i := 60) rfl))
theorem m_Ladder_repr (T : Tx K mg) : Meth K (ga K "Ladder") "__repr__" (ma K (ga K "Ladder") "__repr__") := bMeth_ok (T.says.fact (List.mem_of_getElem? (i := 61) rfl))
theorem v_Ladder_MOST_LEVELS (T : Tx K mg) : ∃ u, ClX.CVal K (ga K "Ladder") (.type "type") "MOST_LEVELS" (.int 4) u := bCVal_ok (T.says.fact (List.mem_of_getElem? (i := 62) rfl))
theorem rd_Ladder (T : Tx K mg) : ClX.CRead K (ga K "Ladder") (.type "type") := bRead_ok (T.says.fact (List.mem_of_getElem? (i := 63) rfl))
theorem ty_Ladder (T : Tx K mg) : TypOwn K (ga K "Ladder") := bTyp_ok (T.says.fact (List.mem_of_getElem? (i := 64) rfl))
theorem F_is_integer (T : Tx K mg) : ∃ fd, FunD K "is_integer" "is_integer" (defArgs s_is_integer) (defBody s_is_integer) (defScope s_is_integer) [] [] (ga K "is_integer") fd := T.says.def_ 0 rfl
theorem kp_is_integer (T : Tx K mg) : PySem.W.keepIn K (.ref (ga K "is_integer")) = true := (F_is_integer T).elim fun _ F => F.kp
theorem F_is_count (T : Tx K mg) : ∃ fd, FunD K "is_count" "is_count" (defArgs s_is_count) (defBody s_is_count) (defScope s_is_count) [] [] (ga K "is_count") fd := T.says.def_ 1 rfl
theorem kp_is_count (T : Tx K mg) : PySem.W.keepIn K (.ref (ga K "is_count")) = true := (F_is_count T).elim fun _ F => F.kp
theorem F_is_list (T : Tx K mg) : ∃ fd, FunD K "is_list" "is_list" (defArgs s_is_list) (defBody s_is_list) (defScope s_is_list) [] [] (ga K "is_list") fd := T.says.def_ 2 rfl
theorem kp_is_list (T : Tx K mg) : PySem.W.keepIn K (.ref (ga K "is_list")) = true := (F_is_list T).elim fun _ F => F.kp
theorem F_is_couple (T : Tx K mg) : ∃ fd, FunD K "is_couple" "is_couple" (defArgs s_is_couple) (defBody s_is_couple) (defScope s_is_couple) [] [] (ga K "is_couple") fd := T.says.def_ 3 rfl
theorem kp_is_couple (T : Tx K mg) : PySem.W.keepIn K (.ref (ga K "is_couple")) = true := (F_is_couple T).elim fun _ F => F.kp
theorem F_is_count_couple (T : Tx K mg) : ∃ fd, FunD K "is_count_couple" "is_count_couple" (defArgs s_is_count_couple) (defBody s_is_count_couple) (defScope s_is_count_couple) [] [] (ga K "is_count_couple") fd := T.says.def_ 4 rfl
theorem kp_is_count_couple (T : Tx K mg) : PySem.W.keepIn K (.ref (ga K "is_count_couple")) = true := (F_is_count_couple T).elim fun _ F => F.kp
theorem F_is_edge (T : Tx K mg) : ∃ fd, FunD K "is_edge" "is_edge" (defArgs s_is_edge) (defBody s_is_edge) (defScope s_is_edge) [] [] (ga K "is_edge") fd := T.says.def_ 5 rfl
theorem kp_is_edge (T : Tx K mg) : PySem.W.keepIn K (.ref (ga K "is_edge")) = true := (F_is_edge T).elim fun _ F => F.kp
theorem F_is_level (T : Tx K mg) : ∃ fd, FunD K "is_level" "is_level" (defArgs s_is_level) (defBody s_is_level) (defScope s_is_level) [] [] (ga K "is_level") fd := T.says.def_ 6 rfl
theorem kp_is_level (T : Tx K mg) : PySem.W.keepIn K (.ref (ga K "is_level")) = true := (F_is_level T).elim fun _ F => F.kp
theorem F_check_cell (T : Tx K mg) : ∃ fd, FunD K "check_cell" "check_cell" (defArgs s_check_cell) (defBody s_check_cell) (defScope s_check_cell) [] [] (ga K "check_cell") fd := T.says.def_ 7 rfl
theorem kp_check_cell (T : Tx K mg) : PySem.W.keepIn K (.ref (ga K "check_cell")) = true := (F_check_cell T).elim fun _ F => F.kp
theorem F_check_level (T : Tx K mg) : ∃ fd, FunD K "check_level" "check_level" (defArgs s_check_level) (defBody s_check_level) (defScope s_check_level) [] [] (ga K "check_level") fd := T.says.def_ 8 rfl
theorem kp_check_level (T : Tx K mg) : PySem.W.keepIn K (.ref (ga K "check_level")) = true := (F_check_level T).elim fun _ F => F.kp
theorem F_check_tile (T : Tx K mg) : ∃ fd, FunD K "check_tile" "check_tile" (defArgs s_check_tile) (defBody s_check_tile) (defScope s_check_tile) [] [] (ga K "check_tile") fd := T.says.def_ 9 rfl
theorem kp_check_tile (T : Tx K mg) : PySem.W.keepIn K (.ref (ga K "check_tile")) = true := (F_check_tile T).elim fun _ F => F.kp
theorem F_check_positive (T : Tx K mg) : ∃ fd, FunD K "check_positive" "check_positive" (defArgs s_check_positive) (defBody s_check_positive) (defScope s_check_positive) [] [] (ga K "check_positive") fd := T.says.def_ 10 rfl
theorem kp_check_positive (T : Tx K mg) : PySem.W.keepIn K (.ref (ga K "check_positive")) = true := (F_check_positive T).elim fun _ F => F.kp
theorem F__check_factors (T : Tx K mg) : ∃ fd, FunD K "_check_factors" "_check_factors" (defArgs s__check_factors) (defBody s__check_factors) (defScope s__check_factors) [] [] (ga K "_check_factors") fd := T.says.def_ 11 rfl
theorem kp__check_factors (T : Tx K mg) : PySem.W.keepIn K (.ref (ga K "_check_factors")) = true := (F__check_factors T).elim fun _ F => F.kp
theorem F__check_edges (T : Tx K mg) : ∃ fd, FunD K "_check_edges" "_check_edges" (defArgs s__check_edges) (defBody s__check_edges) (defScope s__check_edges) [] [] (ga K "_check_edges") fd := T.says.def_ 12 rfl
theorem kp__check_edges (T : Tx K mg) : PySem.W.keepIn K (.ref (ga K "_check_edges")) = true := (F__check_edges T).elim fun _ F => F.kp
theorem F__sides (T : Tx K mg) : ∃ fd, FunD K "_sides" "_sides" (defArgs s__sides) (defBody s__sides) (defScope s__sides) [] [] (ga K "_sides") fd := T.says.def_ 13 rfl
theorem kp__sides (T : Tx K mg) : PySem.W.keepIn K (.ref (ga K "_sides")) = true := (F__sides T).elim fun _ F => F.kp
theorem F_Ladder_init (T : Tx K mg) : ∃ fd, FunD K "__init__" "Ladder.__init__" (defArgs s_Ladder_init) (defBody s_Ladder_init) (defScope s_Ladder_init) [(He.Dv.v K (.adr (He.dflAt ("Ladder", some "__init__") 0))), (He.Dv.v K (.non))] [] (ma K (ga K "Ladder") "__init__") fd := T.says.def_ 14 rfl
theorem kp_Ladder_init (T : Tx K mg) : PySem.W.keepIn K (.ref (ma K (ga K "Ladder") "__init__")) = true := (F_Ladder_init T).elim fun _ F => F.kp
theorem F_Ladder_levels (T : Tx K mg) : ∃ fd, FunD K "levels" "Ladder.levels" (defArgs s_Ladder_levels) (defBody s_Ladder_levels) (defScope s_Ladder_levels) [] [] (pg K "Ladder" "levels") fd := T.says.def_ 15 rfl
theorem kp_Ladder_levels (T : Tx K mg) : PySem.W.keepIn K (.ref (pg K "Ladder" "levels")) = true := (F_Ladder_levels T).elim fun _ F => F.kp
theorem F_Ladder_side (T : Tx K mg) : ∃ fd, FunD K "side" "Ladder.side" (defArgs s_Ladder_side) (defBody s_Ladder_side) (defScope s_Ladder_side) [] [] (ma K (ga K "Ladder") "side") fd := T.says.def_ 16 rfl
theorem kp_Ladder_side (T : Tx K mg) : PySem.W.keepIn K (.ref (ma K (ga K "Ladder") "side")) = true := (F_Ladder_side T).elim fun _ F => F.kp
theorem F_Ladder_owned (T : Tx K mg) : ∃ fd, FunD K "owned" "Ladder.owned" (defArgs s_Ladder_owned) (defBody s_Ladder_owned) (defScope s_Ladder_owned) [] [] (ma K (ga K "Ladder") "owned") fd := T.says.def_ 17 rfl
theorem kp_Ladder_owned (T : Tx K mg) : PySem.W.keepIn K (.ref (ma K (ga K "Ladder") "owned")) = true := (F_Ladder_owned T).elim fun _ F => F.kp
theorem F_Ladder_held (T : Tx K mg) : ∃ fd, FunD K "held" "Ladder.held" (defArgs s_Ladder_held) (defBody s_Ladder_held) (defScope s_Ladder_held) [] [] (ma K (ga K "Ladder") "held") fd := T.says.def_ 18 rfl
theorem kp_Ladder_held (T : Tx K mg) : PySem.W.keepIn K (.ref (ma K (ga K "Ladder") "held")) = true := (F_Ladder_held T).elim fun _ F => F.kp
theorem F_Ladder_owner (T : Tx K mg) : ∃ fd, FunD K "owner" "Ladder.owner" (defArgs s_Ladder_owner) (defBody s_Ladder_owner) (defScope s_Ladder_owner) [] [] (ma K (ga K "Ladder") "owner") fd := T.says.def_ 19 rfl
theorem kp_Ladder_owner (T : Tx K mg) : PySem.W.keepIn K (.ref (ma K (ga K "Ladder") "owner")) = true := (F_Ladder_owner T).elim fun _ F => F.kp
theorem F_Ladder_holders (T : Tx K mg) : ∃ fd, FunD K "holders" "Ladder.holders" (defArgs s_Ladder_holders) (defBody s_Ladder_holders) (defScope s_Ladder_holders) [] [] (ma K (ga K "Ladder") "holders") fd := T.says.def_ 20 rfl
theorem kp_Ladder_holders (T : Tx K mg) : PySem.W.keepIn K (.ref (ma K (ga K "Ladder") "holders")) = true := (F_Ladder_holders T).elim fun _ F => F.kp
theorem F_Ladder_holds (T : Tx K mg) : ∃ fd, FunD K "holds" "Ladder.holds" (defArgs s_Ladder_holds) (defBody s_Ladder_holds) (defScope s_Ladder_holds) [] [] (ma K (ga K "Ladder") "holds") fd := T.says.def_ 21 rfl
theorem kp_Ladder_holds (T : Tx K mg) : PySem.W.keepIn K (.ref (ma K (ga K "Ladder") "holds")) = true := (F_Ladder_holds T).elim fun _ F => F.kp
theorem F_Ladder_mul (T : Tx K mg) : ∃ fd, FunD K "__mul__" "Ladder.__mul__" (defArgs s_Ladder_mul) (defBody s_Ladder_mul) (defScope s_Ladder_mul) [] [] (ma K (ga K "Ladder") "__mul__") fd := T.says.def_ 22 rfl
theorem kp_Ladder_mul (T : Tx K mg) : PySem.W.keepIn K (.ref (ma K (ga K "Ladder") "__mul__")) = true := (F_Ladder_mul T).elim fun _ F => F.kp
theorem F_Ladder_rmul (T : Tx K mg) : ∃ fd, FunD K "__rmul__" "Ladder.__rmul__" (defArgs s_Ladder_rmul) (defBody s_Ladder_rmul) (defScope s_Ladder_rmul) [] [] (ma K (ga K "Ladder") "__rmul__") fd := T.says.def_ 23 rfl
theorem kp_Ladder_rmul (T : Tx K mg) : PySem.W.keepIn K (.ref (ma K (ga K "Ladder") "__rmul__")) = true := (F_Ladder_rmul T).elim fun _ F => F.kp
theorem F_Ladder_with_edge (T : Tx K mg) : ∃ fd, FunD K "with_edge" "Ladder.with_edge" (defArgs s_Ladder_with_edge) (defBody s_Ladder_with_edge) (defScope s_Ladder_with_edge) [] [] (ma K (ga K "Ladder") "with_edge") fd := T.says.def_ 24 rfl
theorem kp_Ladder_with_edge (T : Tx K mg) : PySem.W.keepIn K (.ref (ma K (ga K "Ladder") "with_edge")) = true := (F_Ladder_with_edge T).elim fun _ F => F.kp
theorem F_Ladder_eq (T : Tx K mg) : ∃ fd, FunD K "__eq__" "Ladder.__eq__" (defArgs s_Ladder_eq) (defBody s_Ladder_eq) (defScope s_Ladder_eq) [] [] (ma K (ga K "Ladder") "__eq__") fd := T.says.def_ 25 rfl
theorem kp_Ladder_eq (T : Tx K mg) : PySem.W.keepIn K (.ref (ma K (ga K "Ladder") "__eq__")) = true := (F_Ladder_eq T).elim fun _ F => F.kp
theorem F_Ladder_repr (T : Tx K mg) : ∃ fd, FunD K "__repr__" "Ladder.__repr__" (defArgs s_Ladder_repr) (defBody s_Ladder_repr) (defScope s_Ladder_repr) [] [] (ma K (ga K "Ladder") "__repr__") fd := T.says.def_ 26 rfl
theorem kp_Ladder_repr (T : Tx K mg) : PySem.W.keepIn K (.ref (ma K (ga K "Ladder") "__repr__")) = true := (F_Ladder_repr T).elim fun _ F => F.kp
theorem F__law_pot (T : Tx K mg) : ∃ fd, FunD K "_law_pot" "_law_pot" (defArgs s__law_pot) (defBody s__law_pot) (defScope s__law_pot) [] [] (ga K "_law_pot") fd := T.says.def_ 27 rfl
theorem kp__law_pot (T : Tx K mg) : PySem.W.keepIn K (.ref (ga K "_law_pot")) = true := (F__law_pot T).elim fun _ F => F.kp
theorem F__law_draw (T : Tx K mg) : ∃ fd, FunD K "_law_draw" "_law_draw" (defArgs s__law_draw) (defBody s__law_draw) (defScope s__law_draw) [] [] (ga K "_law_draw") fd := T.says.def_ 28 rfl
theorem kp__law_draw (T : Tx K mg) : PySem.W.keepIn K (.ref (ga K "_law_draw")) = true := (F__law_draw T).elim fun _ F => F.kp
theorem F__law_pick (T : Tx K mg) : ∃ fd, FunD K "_law_pick" "_law_pick" (defArgs s__law_pick) (defBody s__law_pick) (defScope s__law_pick) [] [] (ga K "_law_pick") fd := T.says.def_ 29 rfl
theorem kp__law_pick (T : Tx K mg) : PySem.W.keepIn K (.ref (ga K "_law_pick")) = true := (F__law_pick T).elim fun _ F => F.kp
theorem F__law_great (T : Tx K mg) : ∃ fd, FunD K "_law_great" "_law_great" (defArgs s__law_great) (defBody s__law_great) (defScope s__law_great) [] [] (ga K "_law_great") fd := T.says.def_ 30 rfl
theorem kp__law_great (T : Tx K mg) : PySem.W.keepIn K (.ref (ga K "_law_great")) = true := (F__law_great T).elim fun _ F => F.kp
theorem F__law_wides (T : Tx K mg) : ∃ fd, FunD K "_law_wides" "_law_wides" (defArgs s__law_wides) (defBody s__law_wides) (defScope s__law_wides) [] [] (ga K "_law_wides") fd := T.says.def_ 31 rfl
theorem kp__law_wides (T : Tx K mg) : PySem.W.keepIn K (.ref (ga K "_law_wides")) = true := (F__law_wides T).elim fun _ F => F.kp
theorem F__law_far (T : Tx K mg) : ∃ fd, FunD K "_law_far" "_law_far" (defArgs s__law_far) (defBody s__law_far) (defScope s__law_far) [] [] (ga K "_law_far") fd := T.says.def_ 32 rfl
theorem kp__law_far (T : Tx K mg) : PySem.W.keepIn K (.ref (ga K "_law_far")) = true := (F__law_far T).elim fun _ F => F.kp
theorem F__law_small (T : Tx K mg) : ∃ fd, FunD K "_law_small" "_law_small" (defArgs s__law_small) (defBody s__law_small) (defScope s__law_small) [] [] (ga K "_law_small") fd := T.says.def_ 33 rfl
theorem kp__law_small (T : Tx K mg) : PySem.W.keepIn K (.ref (ga K "_law_small")) = true := (F__law_small T).elim fun _ F => F.kp
theorem F__law_built (T : Tx K mg) : ∃ fd, FunD K "_law_built" "_law_built" (defArgs s__law_built) (defBody s__law_built) (defScope s__law_built) [] [] (ga K "_law_built") fd := T.says.def_ 34 rfl
theorem kp__law_built (T : Tx K mg) : PySem.W.keepIn K (.ref (ga K "_law_built")) = true := (F__law_built T).elim fun _ F => F.kp
theorem F__law_counted (T : Tx K mg) : ∃ fd, FunD K "_law_counted" "_law_counted" (defArgs s__law_counted) (defBody s__law_counted) (defScope s__law_counted) [] [] (ga K "_law_counted") fd := T.says.def_ 35 rfl
theorem kp__law_counted (T : Tx K mg) : PySem.W.keepIn K (.ref (ga K "_law_counted")) = true := (F__law_counted T).elim fun _ F => F.kp
theorem F__law_level_right (T : Tx K mg) : ∃ fd, FunD K "_law_level_right" "_law_level_right" (defArgs s__law_level_right) (defBody s__law_level_right) (defScope s__law_level_right) [] [] (ga K "_law_level_right") fd := T.says.def_ 36 rfl
theorem kp__law_level_right (T : Tx K mg) : PySem.W.keepIn K (.ref (ga K "_law_level_right")) = true := (F__law_level_right T).elim fun _ F => F.kp
theorem F__law_great_right (T : Tx K mg) : ∃ fd, FunD K "_law_great_right" "_law_great_right" (defArgs s__law_great_right) (defBody s__law_great_right) (defScope s__law_great_right) [] [] (ga K "_law_great_right") fd := T.says.def_ 37 rfl
theorem kp__law_great_right (T : Tx K mg) : PySem.W.keepIn K (.ref (ga K "_law_great_right")) = true := (F__law_great_right T).elim fun _ F => F.kp
theorem F__law_right (T : Tx K mg) : ∃ fd, FunD K "_law_right" "_law_right" (defArgs s__law_right) (defBody s__law_right) (defScope s__law_right) [] [] (ga K "_law_right") fd := T.says.def_ 38 rfl
theorem kp__law_right (T : Tx K mg) : PySem.W.keepIn K (.ref (ga K "_law_right")) = true := (F__law_right T).elim fun _ F => F.kp
theorem F_law (T : Tx K mg) : ∃ fd, FunD K "law" "law" (defArgs s_law) (defBody s_law) (defScope s_law) [] [] (ga K "law") fd := T.says.def_ 39 rfl
theorem kp_law (T : Tx K mg) : PySem.W.keepIn K (.ref (ga K "law")) = true := (F_law T).elim fun _ F => F.kp
end
end Hd

set_option Elab.async false
set_option linter.all false
set_option maxRecDepth 100000
namespace Hd
open PySem PySem.Spec PyProof.Rows L2 He Lw
set_option maxHeartbeats 0 in
theorem run (w : World) : HandSHeadRun.RunEq R (PySem.W.view R.prog [ilaw]) hk ob 20000 loose w := by
  intro os
  kernel_rfl
end Hd

set_option Elab.async false
set_option linter.all false
set_option maxRecDepth 100000
/-! promises of one to six values -/
namespace Lw
open PySem PySem.Spec PyProof.Rows L2 He
abbrev sp1 (B : V → Hp → VK → XK → Prop) : Sp := fun vs H Q E => ∃ a, vs = [a] ∧ B a H Q E
abbrev sp2 (B : V → V → Hp → VK → XK → Prop) : Sp := fun vs H Q E => ∃ a b, vs = [a, b] ∧ B a b H Q E
abbrev sp3 (B : V → V → V → Hp → VK → XK → Prop) : Sp := fun vs H Q E => ∃ a b c, vs = [a, b, c] ∧ B a b c H Q E
abbrev sp4 (B : V → V → V → V → Hp → VK → XK → Prop) : Sp := fun vs H Q E => ∃ a b c d, vs = [a, b, c, d] ∧ B a b c d H Q E
abbrev sp5 (B : V → V → V → V → V → Hp → VK → XK → Prop) : Sp := fun vs H Q E => ∃ a b c d e, vs = [a, b, c, d, e] ∧ B a b c d e H Q E
variable {vs : List V} {H : Hp} {Q : VK} {E : XK}
theorem sp1_len {B} : ∀ (vs : List V) (H : Hp) (Q : VK) (E : XK), sp1 B vs H Q E → vs.length = 1 := fun _ _ _ _ ⟨_, e, _⟩ => by rw [e]; rfl
theorem sp2_len {B} : ∀ (vs : List V) (H : Hp) (Q : VK) (E : XK), sp2 B vs H Q E → vs.length = 2 := fun _ _ _ _ ⟨_, _, e, _⟩ => by rw [e]; rfl
theorem sp3_len {B} : ∀ (vs : List V) (H : Hp) (Q : VK) (E : XK), sp3 B vs H Q E → vs.length = 3 := fun _ _ _ _ ⟨_, _, _, e, _⟩ => by rw [e]; rfl
theorem sp4_len {B} : ∀ (vs : List V) (H : Hp) (Q : VK) (E : XK), sp4 B vs H Q E → vs.length = 4 := fun _ _ _ _ ⟨_, _, _, _, e, _⟩ => by rw [e]; rfl
theorem sp5_len {B} : ∀ (vs : List V) (H : Hp) (Q : VK) (E : XK), sp5 B vs H Q E → vs.length = 5 := fun _ _ _ _ ⟨_, _, _, _, _, e, _⟩ => by rw [e]; rfl
theorem RoomG.units1 {k : Nat} {A : Around} (r : RoomG k A) : A.units + 65 < cLine := by have := r.room.un; omega
end Lw

set_option Elab.async false
set_option linter.all false
set_option maxRecDepth 100000
set_option maxHeartbeats 4000000
/-! what readings ask, over data -/
namespace Lw
open PySem PySem.Spec PyProof.Rows L2 He StX
open En (enc)
section
variable {X : Cx} {CX : CXT} {k : Nat} {f C : Addr} {sp : Sp} {E : XK} {pins : List (Addr × Obj)} {σ : L2.St} {H : Hp} {s : Shared} {K : PySem.W.Frag}
/-- repr of data -/
def rReprD (K : PySem.W.Frag) : List V → Hp → VK → Prop := fun xs H Q => ∃ x d, xs = [x] ∧ Dp K H x d ∧ d.showable = true ∧ d.shown.length ≤ sizeLine ∧ d.depth ≤ 60 ∧ Q (.str d.shown) H
mutual
theorem Dp.noDict {H : Hp} : ∀ (d : PyData) (v : V), Dp K H v d → d.hasDict = false
  | .none, _, _ => by simp [PyData.hasDict]
  | .bool _, _, _ => by simp [PyData.hasDict]
  | .int _, _, _ => by simp [PyData.hasDict]
  | .str _, _, _ => by simp [PyData.hasDict]
  | .list ds, _, h => by
    cases h with
    | lst _ ha => simp only [PyData.hasDict]; exact DpAll.noDict ds _ ha
  | .tuple ds, _, h => by
    cases h with
    | tup _ ha => simp only [PyData.hasDict]; exact DpAll.noDict ds _ ha
theorem DpAll.noDict {H : Hp} : ∀ (ds : List PyData) (vs : List V), DpAll K H vs ds → PyData.hasDictAll ds = false
  | [], _, _ => by simp [PyData.hasDictAll]
  | d :: ds, _, h => by
    cases h with
    | cons h t => simp only [PyData.hasDictAll, Dp.noDict d _ h, DpAll.noDict ds _ t, Bool.or_self]
end
theorem call_reprD (hK : X.K = K) (hg : X.A.guards = some []) (hu : X.A.units + 64 < cLine) : CallR X (.builtin "repr") (rReprD K) := by
  subst hK
  intro pins s σ H xs us Q I r h
  obtain ⟨x, d, rfl, hd, hs, hz, hdp, q⟩ := h
  obtain ⟨u, rfl, ru⟩ := vals1 r
  obtain ⟨as, hr⟩ := Dp.reads I d x u hd ru
  have nd := Dp.noDict d x hd
  cases hd with
  | lst hsq ha =>
    cases (show u = Value.ref _ from ru)
    exact repr_of_reads' hr hs (fun z => by rw [nd] at z; cases z) hg (by omega) (fun _ _ e => e) (fun h' t tk kp => ⟨.str _, H, I.kept (t' := tk) kp, ⟨_, rfl⟩, q⟩) hz
  | tup hsq ha =>
    cases (show u = Value.ref _ from ru)
    exact repr_of_reads' hr hs (fun z => by rw [nd] at z; cases z) hg (by omega) (fun _ _ e => e) (fun h' t tk kp => ⟨.str _, H, I.kept (t' := tk) kp, ⟨_, rfl⟩, q⟩) hz
  | int i =>
    obtain ⟨t, rfl⟩ := ru
    exact PySem.P.repr_of_int (of_decide_eq_true (by simpa [PyData.showable] using hs)) ⟨.str _, H, I.tok _, ⟨_, rfl⟩, q⟩
  | non =>
    cases (show u = Value.none from ru)
    exact PySem.P.repr_of_none ⟨.str _, H, I.tok _, ⟨_, rfl⟩, q⟩
  | bl b =>
    cases (show u = Value.bool b from ru)
    have e : (if b = true then Str.ofString "True" else Str.ofString "False") = (PyData.bool b).shown := by cases b <;> rfl
    exact PySem.P.repr_of_bool ⟨.str _, H, I.tok _, ⟨_, by rw [e]⟩, q⟩
  | str z =>
    obtain ⟨t, rfl⟩ := ru
    exact PySem.P.repr_of_str ⟨.str _, H, I.tok _, ⟨_, rfl⟩, q⟩ hz
theorem pg_tupK {es : List Expr} {kk : Nat} {t : TGs} {n : Nat} {pos : Pos} (hK : X.K = K) (hc : X.calm = true) (h : PGs X es t) (hn : (assignEach es X.env).length = n := by rfl) (hst : (assignEach es X.env).findIdx? (·.1) = none := by rfl) :
    PG X (.Tuple es kk pos) (gTup K n t) := hK ▸ pg_tup hc h hn hst
theorem pg_unlK {es : List Expr} {kk : Nat} {t : TGs} {n : Nat} {pos : Pos} (hK : X.K = K) (hc : X.calm = true) (h : PGs X es t) (hn : (assignEach es X.env).length = n := by rfl) (hst : (assignEach es X.env).findIdx? (·.1) = none := by rfl) :
    PG X (.Tuple es kk pos) (gUnl K n t) := hK ▸ pg_unl hc h hn hst
theorem op_ownB {op : Operator} {T : String} (B : BinOwn X.K op C f) (t : BinTy X.K op C T) (F : FnG X.prog X.w X.K X.mg X.base CX k f sp) (hr : RoomG k X.A) (hx : Passes CX X E) : OpR X (binaryOp op) (rOwnT X.K C T sp E) := by
  obtain ⟨fo, h1⟩ := t.h1
  obtain ⟨ro, h2⟩ := t.h2
  exact op_ownT B h1 h2 t.sub F hr hx
/-- the name of the type of data -/
def tyN : PyData → String
  | .none => "NoneType"
  | .bool _ => "bool"
  | .int _ => "int"
  | .str _ => "str"
  | .list _ => "list"
  | .tuple _ => "tuple"
  | .dict _ => "dict"
theorem Dx.tyOf {S : List Addr} {v : V} {d : PyData} (h : Dx S H v d) : TyOf K H v (.type (tyN d)) := by
  cases h with
  | non => exact .non
  | bl b => exact .bl b
  | int i => exact .int i
  | str x => exact .str x
  | lst _ e _ => exact .lst e
  | tup _ e _ => exact .tup e
/-- isinstance(x, T), x data -/
theorem rIsi_of {S : List Addr} {v : V} {d : PyData} {T : String} {b : Bool} {Q : VK} (h : Dx S H v d) (e : kitB (tyN d) T = some b) (q : Q (.bl b) H) : rIsi K [v, .ty T] H Q :=
  ⟨v, .ty T, .type (tyN d), .type T, b, rfl, .ty T, .base h.tyOf, kit_ty e, q⟩
def isIntD : PyData → Bool
  | .int _ => true
  | _ => false
def isBoolD : PyData → Bool
  | .bool _ => true
  | _ => false
def isTupD : PyData → Bool
  | .tuple _ => true
  | _ => false
theorem kit_int (d : PyData) : kitB (tyN d) "int" = some (isIntD d || isBoolD d) := by
  cases d with
  | none => exact (by decide +kernel : kitB "NoneType" "int" = some false)
  | bool _ => exact (by decide +kernel : kitB "bool" "int" = some true)
  | int _ => exact (by decide +kernel : kitB "int" "int" = some true)
  | str _ => exact (by decide +kernel : kitB "str" "int" = some false)
  | list _ => exact (by decide +kernel : kitB "list" "int" = some false)
  | tuple _ => exact (by decide +kernel : kitB "tuple" "int" = some false)
  | dict _ => exact (by decide +kernel : kitB "dict" "int" = some false)
theorem kit_bool (d : PyData) : kitB (tyN d) "bool" = some (isBoolD d) := by
  cases d with
  | none => exact (by decide +kernel : kitB "NoneType" "bool" = some false)
  | bool _ => exact (by decide +kernel : kitB "bool" "bool" = some true)
  | int _ => exact (by decide +kernel : kitB "int" "bool" = some false)
  | str _ => exact (by decide +kernel : kitB "str" "bool" = some false)
  | list _ => exact (by decide +kernel : kitB "list" "bool" = some false)
  | tuple _ => exact (by decide +kernel : kitB "tuple" "bool" = some false)
  | dict _ => exact (by decide +kernel : kitB "dict" "bool" = some false)
theorem kit_tuple (d : PyData) : kitB (tyN d) "tuple" = some (isTupD d) := by
  cases d with
  | none => exact (by decide +kernel : kitB "NoneType" "tuple" = some false)
  | bool _ => exact (by decide +kernel : kitB "bool" "tuple" = some false)
  | int _ => exact (by decide +kernel : kitB "int" "tuple" = some false)
  | str _ => exact (by decide +kernel : kitB "str" "tuple" = some false)
  | list _ => exact (by decide +kernel : kitB "list" "tuple" = some false)
  | tuple _ => exact (by decide +kernel : kitB "tuple" "tuple" = some true)
  | dict _ => exact (by decide +kernel : kitB "dict" "tuple" = some false)
/-- a tuple of two -/
theorem De.pair {α β : Type} [En α] [En β] {S : List Addr} {v : V} {p : α × β} (h : De S H v p) : ∃ a x y, v = .ref a ∧ a ∉ S ∧ H a = some (.tup [x, y]) ∧ De S H x p.1 ∧ De S H y p.2 := by
  cases h with
  | tup n e h =>
    cases h with
    | cons h1 t =>
      cases t with
      | cons h2 t =>
        cases t
        exact ⟨_, _, _, rfl, n, e, h1, h2⟩
theorem De.int {S : List Addr} {v : V} {i : Int} (h : De S H v i) : v = .int i := by cases h; rfl
theorem De.ints {S : List Addr} {v : V} {p : Int × Int} (h : De S H v p) : ∃ a, v = .ref a ∧ a ∉ S ∧ H a = some (.tup [.int p.1, .int p.2]) := by
  obtain ⟨a, x, y, e, n, h, hx, hy⟩ := h.pair
  rw [hx.int, hy.int] at h
  exact ⟨a, e, n, h⟩
theorem De.mk2 {S : List Addr} {a : Addr} {x y : Int} (n : a ∉ S) (h : H a = some (.tup [.int x, .int y])) : De S H (.ref a) ((x, y) : Int × Int) := .tup n h (.cons (.int x) (.cons (.int y) .nil))
theorem De.tu {α : Type} [En α] {S : List Addr} {v : V} {l : List α} (h : De S H v (Tu.mk l)) : ∃ a xs, v = .ref a ∧ a ∉ S ∧ H a = some (.tup xs) ∧ DeA S H xs l := by
  cases h with
  | tup n e h => exact ⟨_, _, rfl, n, e, h⟩
theorem De.ls {α : Type} [En α] {S : List Addr} {v : V} {l : List α} (h : De S H v l) : ∃ a xs, v = .ref a ∧ a ∉ S ∧ H a = some (.lst xs) ∧ DeA S H xs l := by
  cases h with
  | lst n e h => exact ⟨_, _, rfl, n, e, h⟩
theorem De.mkTu {α : Type} [En α] {S : List Addr} {a : Addr} {xs : List V} {l : List α} (n : a ∉ S) (e : H a = some (.tup xs)) (h : DeA S H xs l) : De S H (.ref a) (Tu.mk l) := .tup n e h
theorem De.mkLs {α : Type} [En α] {S : List Addr} {a : Addr} {xs : List V} {l : List α} (n : a ∉ S) (e : H a = some (.lst xs)) (h : DeA S H xs l) : De S H (.ref a) l := .lst n e h
theorem DeA.len {α : Type} [En α] {S : List Addr} {xs : List V} {l : List α} (h : DeA S H xs l) : xs.length = l.length := by
  have := h.length
  rw [List.length_map] at this
  exact this
theorem DeA.at {α : Type} [En α] {S : List Addr} {xs : List V} {l : List α} {i : Nat} {a : α} (h : DeA S H xs l) (e : l[i]? = some a) : ∃ v, xs[i]? = some v ∧ De S H v a :=
  h.getD (d := enc a) (by rw [List.getElem?_map, e]; rfl)
theorem DeA.of {α : Type} [En α] {S : List Addr} {xs : List V} {l : List α} {i : Nat} {v : V} (h : DeA S H xs l) (e : xs[i]? = some v) : ∃ a, l[i]? = some a ∧ De S H v a := by
  have hi : i < l.length := by
    have := (List.getElem?_eq_some_iff.mp e).1
    rw [h.len] at this
    exact this
  obtain ⟨d, h1, h2⟩ := DxA.get h e
  rw [List.getElem?_map, List.getElem?_eq_getElem hi] at h1
  cases h1
  exact ⟨_, List.getElem?_eq_getElem hi, h2⟩
/-- == of data -/
theorem rEqD_of {α : Type} [Py α] [DecidableEq α] {S S' : List Addr} {x y : V} {a b : α} {Q : VK} (hx : De S H x a) (hy : De S' H y b) (hd : Py.dep α ≤ 64) (q : Q (.bl (decide (a = b))) H) : rEqD K x y H Q :=
  ⟨enc a, enc b, hx.dp, hy.dp, shaped_enc hd a, shaped_enc hd b, by rw [eqv_enc]; exact q⟩
theorem rNeD_of {α : Type} [Py α] [DecidableEq α] {S S' : List Addr} {x y : V} {a b : α} {Q : VK} (hx : De S H x a) (hy : De S' H y b) (hd : Py.dep α ≤ 64) (q : Q (.bl (!decide (a = b))) H) : rNeD K x y H Q :=
  ⟨enc a, enc b, hx.dp, hy.dp, shaped_enc hd a, shaped_enc hd b, by rw [eqv_enc]; exact q⟩
end
end Lw

set_option Elab.async false
set_option linter.all false
set_option maxRecDepth 100000
set_option maxHeartbeats 4000000
/-! promises of defs with a star; small things of the package -/
namespace Lw
open PySem PySem.Spec PyProof.Rows L2 He StX
open En (enc)
/-- a promise of n values and a tuple of the rest -/
abbrev spS (n : Nat) (sp : Sp) : Sp := fun vs H Q E => ∃ ws rest, vs = ws ++ rest ∧ ws.length = n ∧ rest.length ≤ sizeLine ∧ ∀ p, H p = Option.none → sp (ws ++ [V.ref p]) (upd H p (.tup rest)) Q E
theorem spS0 {sp : Sp} {vs : List V} {H : Hp} {Q : VK} {E : XK} (hz : vs.length ≤ sizeLine) (h : ∀ p, H p = Option.none → sp [V.ref p] (upd H p (.tup vs)) Q E) : spS 0 sp vs H Q E := ⟨[], vs, rfl, rfl, hz, h⟩
theorem spS1 {sp : Sp} {a : V} {vs : List V} {H : Hp} {Q : VK} {E : XK} (hz : vs.length ≤ sizeLine) (h : ∀ p, H p = Option.none → sp [a, V.ref p] (upd H p (.tup vs)) Q E) : spS 1 sp (a :: vs) H Q E := ⟨[a], vs, rfl, rfl, hz, h⟩
/-- all of S stand in H -/
def Old (S : List Addr) (H : Hp) : Prop := ∀ a ∈ S, ∃ o, H a = some o
theorem Old.nil {H : Hp} : Old [] H := fun _ h => nomatch h
theorem Old.cons {S : List Addr} {H : Hp} {a : Addr} {o : HO} (e : H a = some o) (h : Old S H) : Old (a :: S) H := fun b hb => by
  rcases List.mem_cons.mp hb with z | z
  · exact ⟨o, z ▸ e⟩
  · exact h b z
theorem Old.keep {S T : List Addr} {H H' : Hp} (h : Old S H) (k : Kp T H H') (hT : ∀ a ∈ T, ∃ o, H' a = some o) : Old S H' := fun a ha => by
  obtain ⟨o, e⟩ := h a ha
  by_cases z : a ∈ T
  · exact hT a z
  · exact ⟨o, k a o z e⟩
theorem Old.keep0 {S : List Addr} {H H' : Hp} (h : Old S H) (k : Kp [] H H') : Old S H' := fun a ha => by
  obtain ⟨o, e⟩ := h a ha
  exact ⟨o, k a o (fun z => nomatch z) e⟩
theorem Old.no {S : List Addr} {H : Hp} {p : Addr} (h : Old S H) (e : H p = none) : p ∉ S := fun z => by
  obtain ⟨o, q⟩ := h p z
  rw [e] at q
  cases q
theorem Kp.of0 {S : List Addr} {H H' : Hp} (k : Kp [] H H') : Kp S H H' := k.mono fun _ z => nomatch z
def isCntD : PyData → Bool
  | .int i => decide (0 ≤ i)
  | _ => false
def isCplD : PyData → Bool
  | .tuple [_, _] => true
  | _ => false
def isStrD : PyData → Bool
  | .tuple [.int a, .int b] => decide (a ≤ b)
  | _ => false
/-- whether a stretch touches a cell -/
def tch (p : Int × Int) (c : Int) : Bool := decide (p.1 ≤ c) && decide (c ≤ p.2)
theorem rEq_int {i j : Int} {H : Hp} {Q : VK} : rEq (.int i) (.int j) H Q ↔ Q (.bl (decide (i = j))) H := by
  have e : decide (V.int i = V.int j) = decide (i = j) := decide_eq_decide.mpr (by rw [V.int.injEq])
  unfold rEq
  rw [e]
  exact ⟨fun h => h.2, fun h => ⟨rfl, h⟩⟩
theorem rNe_int {i j : Int} {H : Hp} {Q : VK} : rNe (.int i) (.int j) H Q ↔ Q (.bl (!decide (i = j))) H := by
  have e : decide (V.int i = V.int j) = decide (i = j) := decide_eq_decide.mpr (by rw [V.int.injEq])
  unfold rNe
  rw [e]
  exact ⟨fun h => h.2, fun h => ⟨rfl, h⟩⟩
theorem rEq_str {i j : Str} {H : Hp} {Q : VK} : rEq (.str i) (.str j) H Q ↔ Q (.bl (decide (i = j))) H := by
  have e : decide (V.str i = V.str j) = decide (i = j) := decide_eq_decide.mpr (by rw [V.str.injEq])
  unfold rEq
  rw [e]
  exact ⟨fun h => h.2, fun h => ⟨rfl, h⟩⟩
theorem rNe_str {i j : Str} {H : Hp} {Q : VK} : rNe (.str i) (.str j) H Q ↔ Q (.bl (!decide (i = j))) H := by
  have e : decide (V.str i = V.str j) = decide (i = j) := decide_eq_decide.mpr (by rw [V.str.injEq])
  unfold rNe
  rw [e]
  exact ⟨fun h => h.2, fun h => ⟨rfl, h⟩⟩
theorem not_cpl_str {d : PyData} (h : isCplD d = false) : isStrD d = false := by
  unfold isStrD
  split
  · simp [isCplD] at h
  · rfl

/-! ### walks -/
theorem walk_enumT {K : PySem.W.Frag} {a : Addr} {k : Int} {xs : List V} : Walk (IteT K a k) xs.length (fun H => SqT K H a xs) (YPair (fun i => some (.int (k + (i : Nat)))) (fun i => xs[i]?)) :=
  ⟨fun i _ hi q => ⟨xs, xs[i], q, by simp [hi]⟩, fun _ q => ⟨xs, q, Nat.le_refl _⟩, fun _ _ _ _ _ q ⟨T, x, e, n, u, h⟩ => ⟨T, _, x, e, n, u, rfl, h xs q⟩⟩
instance : En Bool where
  enc := .bool
instance : Py Bool where
  dep := 0
  eqv := fun a b => by simp [enc, PyData.eqv]
  lay := fun a => by simp [enc, PyData.canLay0]
  dle := fun a => by simp [enc, PyData.depth]
theorem De.bool {S : List Addr} {H : Hp} {v : V} {b : Bool} (h : De S H v b) : v = .bl b := by cases h; rfl
theorem De.upd {α : Type} [En α] {S : List Addr} {H : Hp} {v : V} {a : α} {p : Addr} {o : HO} (h : De S H v a) (hp : p ∈ S) : De S (upd H p o) v a := Dx.keep (.mut hp) h
/-! ### a comprehension's list, its items data: r i what stands there behind i turns; D the list, T what else may be changed -/
structure LcP {α : Type} [En α] (S T : List Addr) (H1 : Hp) (D : Addr) (r : Nat → List α) (i : Nat) (H : Hp) : Prop where
  acc : ∃ xs, H D = some (.lst xs) ∧ DeA (D :: S) H xs (r i)
  kp : Kp (D :: T) H1 H
  new : H1 D = none
theorem LcP.start {α : Type} [En α] {S T : List Addr} {H1 : Hp} {D : Addr} {r : Nat → List α} (n : H1 D = none) (h : r 0 = []) : LcP S T H1 D r 0 (upd H1 D (.lst [])) :=
  ⟨⟨[], upd_same, by rw [h]; exact .nil⟩, .new n, n⟩
theorem LcP.put {α : Type} [En α] {S T : List Addr} {H1 H H4 : Hp} {D : Addr} {r : Nat → List α} {i : Nat} {y : V} {v : α} (p : LcP S T H1 D r i H) (k : Kp T H H4) (oT : Old T H1) (hT : ∀ a ∈ T, a ∈ S) (hv : De (D :: S) H4 y v) (hr : r (i + 1) = r i ++ [v]) (hz : (r i).length < sizeLine) :
    ∃ acc, H4 D = some (.lst acc) ∧ acc.length < sizeLine ∧ LcP S T H1 D r (i + 1) (upd H4 D (.lst (acc ++ [y]))) := by
  obtain ⟨xs, e, d⟩ := p.acc
  have nT : D ∉ T := oT.no p.new
  have e4 := k D _ nT e
  have d4 : DeA (D :: S) H4 xs (r i) := DxA.keep (k.mono fun a z => List.mem_cons_of_mem _ (hT a z)) d
  refine ⟨xs, e4, by rw [d.len]; exact hz, ⟨_, upd_same, ?_⟩, ?_, p.new⟩
  · show DxA (D :: S) _ (xs ++ [y]) ((r (i + 1)).map enc)
    rw [hr, List.map_append]
    exact DxA.append (DxA.keep (.mut (List.mem_cons_self ..)) d4) (.cons (Dx.keep (.mut (List.mem_cons_self ..)) hv) .nil)
  · exact (p.kp.trans (k.mono fun a z => List.mem_cons_of_mem _ z)).trans (.mut (List.mem_cons_self ..))
theorem LcP.skip {α : Type} [En α] {S T : List Addr} {H1 H H3 : Hp} {D : Addr} {r : Nat → List α} {i : Nat} (p : LcP S T H1 D r i H) (k : Kp T H H3) (oT : Old T H1) (hT : ∀ a ∈ T, a ∈ S) (hr : r (i + 1) = r i) : LcP S T H1 D r (i + 1) H3 := by
  obtain ⟨xs, e, d⟩ := p.acc
  refine ⟨⟨xs, k D _ (oT.no p.new) e, ?_⟩, p.kp.trans (k.mono fun a z => List.mem_cons_of_mem _ z), p.new⟩
  rw [hr]
  exact DxA.keep (k.mono fun a z => List.mem_cons_of_mem _ (hT a z)) d
theorem LcP.done {α : Type} [En α] {S T : List Addr} {H1 H : Hp} {D : Addr} {r : Nat → List α} {n : Nat} (p : LcP S T H1 D r n H) (oS : Old S H1) : Kp T H1 H ∧ De S H (.ref D) (r n) := by
  obtain ⟨xs, e, d⟩ := p.acc
  exact ⟨p.kp.newS p.new, .lst (oS.no p.new) e (DxA.sub d fun a z => List.mem_cons_of_mem _ z)⟩
/-- what stood ahead of the comprehension -/
theorem LcP.keep {α β : Type} [En α] [En β] {S T : List Addr} {H1 H : Hp} {D : Addr} {r : Nat → List α} {n : Nat} {v : V} {b : β} (p : LcP S T H1 D r n H) (hT : ∀ a ∈ T, a ∈ S) (h : De S H1 v b) : De (D :: S) H v b :=
  Dx.keep (p.kp.mono fun a z => by
    rcases List.mem_cons.mp z with z | z
    · rw [z]; exact List.mem_cons_self ..
    · exact List.mem_cons_of_mem _ (hT a z)) (Dx.wid (fun a z => by
    rcases List.mem_cons.mp z with z | z
    · rw [z]; exact .inr p.new
    · exact .inl z) h)
theorem LcP.seqT {α : Type} [En α] {K : PySem.W.Frag} {S T : List Addr} {H1 H : Hp} {D : Addr} {r : Nat → List α} {n : Nat} {a : Addr} {xs : List V} (p : LcP S T H1 D r n H) (nT : a ∉ T) (e : H1 a = some (.tup xs)) : SqT K H a xs :=
  SqT.of (p.kp a _ (fun z => by
    rcases List.mem_cons.mp z with z | z
    · rw [z, p.new] at e; cases e
    · exact nT z) e)
theorem LcP.seqL {α : Type} [En α] {K : PySem.W.Frag} {S T : List Addr} {H1 H : Hp} {D : Addr} {r : Nat → List α} {n : Nat} {a : Addr} {xs : List V} (p : LcP S T H1 D r n H) (nT : a ∉ T) (e : H1 a = some (.lst xs)) : SqL K H a xs :=
  SqL.of (p.kp a _ (fun z => by
    rcases List.mem_cons.mp z with z | z
    · rw [z, p.new] at e; cases e
    · exact nT z) e)
theorem subNil' {a : Addr} : a ∉ ([] : List Addr) := fun h => nomatch h
theorem subNil {S : List Addr} : ∀ a ∈ ([] : List Addr), a ∈ S := fun _ h => nomatch h
theorem tFor_it {wi : TI} {g : TG} {tb : TS} {D : Ends} {σ : L2.St} {H : Hp} {J : It} {n : Nat} {G : Hp → Prop} {Y : Nat → Hp → V → Hp → Prop} (H1 : Hp) (w : Walk J n G Y) (Pv : Nat → L2.St → Hp → Prop) (hwi : ∀ R : It → Hp → Prop, R J H1 → wi σ H R) (h0 : Pv 0 σ H1)
    (hG : ∀ i σ H, i ≤ n → Pv i σ H → G H) (hs : ∀ i x σ H H', i < n → Pv i σ H → Y i H x H' → g x σ H' fun σ2 H2 => tb { D with nx := Pv (i + 1), ct := Pv (i + 1), bk := D.nx } σ2 H2) (hd : ∀ σ H, Pv n σ H → D.nx σ H) : tFor wi g tb D σ H :=
  hwi _ (for_it w Pv h0 hG hs hd)
theorem tLc_d {α : Type} [En α] {wi : TI} {g : TG} {tt : TT} {te : TE} {vs : List Nat} {σ : L2.St} {H : Hp} {Q : VK} {J : It} {n : Nat} {G : Hp → Prop} {Y : Nat → Hp → V → Hp → Prop} (H1 : Hp) (S T : List Addr) (r : Nat → List α) (w : Walk J n G Y)
    (hwi : ∀ R : It → Hp → Prop, R J H1 → wi σ H R) (hr : r 0 = []) (hG : ∀ D i H, LcP S T H1 D r i H → G H)
    (hs : ∀ D i x H H', i < n → LcP S T H1 D r i H → Y i H x H' → g x (wipe σ vs) H' fun σ2 H2 => wipe σ2 vs = wipe σ vs ∧ tt σ2 H2 fun b H3 =>
      if b = true then te σ2 H3 fun y H4 => ∃ acc, H4 D = some (.lst acc) ∧ acc.length < sizeLine ∧ LcP S T H1 D r (i + 1) (upd H4 D (.lst (acc ++ [y]))) else LcP S T H1 D r (i + 1) H3)
    (hd : ∀ D H, LcP S T H1 D r n H → Q (.ref D) H) : tLc wi g tt te vs σ H Q :=
  hwi _ fun D hD => lc_it w (LcP S T H1 D r) (.start hD hr) (fun i H _ p => hG D i H p) (hs D) (hd D)
theorem LcP.old0 {α : Type} [En α] {S : List Addr} {H1 H : Hp} {D : Addr} {r : Nat → List α} {i : Nat} (p : LcP S [] H1 D r i H) (oS : Old S H1) : Old (D :: S) H := fun a ha => by
  rcases List.mem_cons.mp ha with z | z
  · obtain ⟨xs, e, _⟩ := p.acc
    exact ⟨_, z ▸ e⟩
  · obtain ⟨o, e⟩ := oS a z
    exact ⟨o, p.kp a o (fun q => by rw [List.mem_singleton.mp q, p.new] at e; cases e) e⟩
theorem take_snoc {α : Type} {l : List α} {i : Nat} {a : α} (h : l[i]? = some a) : l.take (i + 1) = l.take i ++ [a] := by
  rw [List.take_add_one, h]
  rfl
end Lw

set_option Elab.async false
set_option linter.all false
set_option maxRecDepth 100000
set_option maxHeartbeats 4000000
/-! texts of data -/
namespace Lw
open PySem PySem.Spec PyProof.Rows L2 He StX
open En (enc)
instance : En Str where
  enc := .str
theorem De.str {S : List Addr} {H : Hp} {v : V} {x : Str} (h : De S H v x) : v = .str x := by cases h; rfl
theorem DeA.strs {S : List Addr} {H : Hp} : ∀ {ns : List Str} {vs : List V}, DeA S H vs ns → vs = ns.map V.str
  | [], _, .nil => rfl
  | n :: ns, _, .cons h t => by
    cases h
    rw [DeA.strs (ns := ns) t]
    rfl
theorem DeA.intsV {S : List Addr} {H : Hp} : ∀ {ns : List Int} {vs : List V}, DeA S H vs ns → vs = ns.map V.int
  | [], _, .nil => rfl
  | n :: ns, _, .cons h t => by
    cases h
    rw [DeA.intsV (ns := ns) t]
    rfl
theorem DeA.bools {S : List Addr} {H : Hp} : ∀ {ns : List Bool} {vs : List V}, DeA S H vs ns → vs = ns.map V.bl
  | [], _, .nil => rfl
  | n :: ns, _, .cons h t => by
    cases h
    rw [DeA.bools (ns := ns) t]
    rfl
/-- numbers of less than fifty-one digits -/
def Sm (a : Int) : Prop := a.natAbs < 10 ^ 50
theorem Sm.log {a : Int} (h : Sm a) : a.natAbs.log2 < 1920 := by
  unfold Sm at h
  by_cases z : a.natAbs = 0
  · rw [z]; decide
  · exact (Nat.log2_lt z).mpr (Nat.lt_of_lt_of_le h (by decide +kernel))
theorem Sm.len {a : Int} (h : Sm a) : (Str.ofString (toString a)).length ≤ 51 := by
  rw [PySem.ofString_length]
  exact int_text_length_le10 (k := 50) (by decide) h
/-- the text of a stretch -/
def pairT (p : Int × Int) : Str := (enc p).shown
theorem pair_show {p : Int × Int} (h1 : Sm p.1) (h2 : Sm p.2) : (enc p).showable = true := by
  show (PyData.tuple [.int p.1, .int p.2]).showable = true
  simp only [PyData.showable, PyData.showableAll, Bool.and_true, Bool.and_eq_true, decide_eq_true_eq]
  exact ⟨h1.log, h2.log⟩
theorem pair_len {p : Int × Int} (h1 : Sm p.1) (h2 : Sm p.2) : (pairT p).length ≤ 120 ∧ 1 ≤ (pairT p).length := by
  have e : pairT p = ("(" : Str) ++ (Str.ofString (toString p.1) ++ (", " : Str) ++ Str.ofString (toString p.2)) ++ (")" : Str) := by
    unfold pairT
    show (PyData.tuple [.int p.1, .int p.2]).shown = _
    simp only [PyData.shown, PyData.shownAll, tupleText, Str.join]
    rfl
  rw [e]
  simp only [strLen_append]
  have l1 := h1.len
  have l2 := h2.len
  have a1 : ("(" : Str).length = 1 := by decide +kernel
  have a2 : (", " : Str).length = 2 := by decide +kernel
  have a3 : (")" : Str).length = 1 := by decide +kernel
  omega
theorem slA_take {K : PySem.W.Frag} {S : List Addr} {a : Addr} {xs : List V} {n : Nat} {H : Hp} {Q : VK} (oS : Old S H) (nS : a ∉ S) (e : H a = some (.tup xs)) (hn : n ≤ xs.length)
    (q : ∀ p H', Kp [] H H' → p ∉ S → H' p = some (.tup (xs.take n)) → Q (.ref p) H') : rSlA K (.ref a) none (some ((n : Nat) : Int)) H Q := by
  refine ⟨a, xs, rfl, SqT.of e, ?_, ?_⟩
  · rintro ⟨_, h2⟩
    rw [HT.sIx_nat] at h2
    refine q a H .refl nS ?_
    rw [show n = xs.length by omega, List.take_length]
    exact e
  · intro _ p hp
    refine q p _ (.new hp) (oS.no hp) ?_
    rw [upd_same]
    unfold cutV
    rw [HT.sIx_nat, HT.sIx_none, List.drop_zero, Nat.sub_zero, Nat.min_eq_left hn]
theorem ixT {K : PySem.W.Frag} {a : Addr} {xs : List V} {v : V} {n : Nat} {i : Int} {H : Hp} {Q : VK} (e : H a = some (.tup xs)) (hi : i = n) (hv : xs[n]? = some v) (q : Q v H) : rIxT K (.ref a) (.int i) H Q :=
  ⟨a, xs, i, v, rfl, rfl, SqT.of e, by rw [hi]; exact atI_nat hv, q⟩
theorem ixL {K : PySem.W.Frag} {a : Addr} {xs : List V} {v : V} {n : Nat} {i : Int} {H : Hp} {Q : VK} (e : H a = some (.lst xs)) (hi : i = n) (hv : xs[n]? = some v) (q : Q v H) : rIxL K (.ref a) (.int i) H Q :=
  ⟨a, xs, i, v, rfl, rfl, SqL.of e, by rw [hi]; exact atI_nat hv, q⟩
theorem strD {S : List Addr} {H : Hp} {v : V} {p : Int × Int} (h : De S H v p) (o : p.1 ≤ p.2) : ∃ d, Dx S H v d ∧ isStrD d = true := ⟨_, h, by
  show isStrD (.tuple [.int p.1, .int p.2]) = true
  simp only [isStrD, decide_eq_true o]⟩
theorem sum_le {c : Nat} : ∀ {l : List Nat}, (∀ x ∈ l, x ≤ c) → l.sum ≤ c * l.length
  | [], _ => by simp
  | x :: l, h => by
    have h1 := h x (List.mem_cons_self ..)
    have h2 := sum_le (l := l) fun y hy => h y (List.mem_cons_of_mem _ hy)
    simp only [List.sum_cons, List.length_cons, Nat.mul_succ]
    omega
theorem tyI_int (i : Int) : isIntD (.int i) = true := rfl
theorem any_enc {α : Type} [Py α] [DecidableEq α] (a : α) : ∀ l : List α, ((l.map enc).any fun z => PyData.eqv z (enc a)) = decide (a ∈ l)
  | [] => by simp
  | b :: l => by
    rw [List.map_cons, List.any_cons, any_enc a l, eqv_enc]
    by_cases h : b = a
    · subst h
      simp
    · have h2 : a ≠ b := fun z => h z.symm
      simp [h, h2]
theorem rNotInD_of {K : PySem.W.Frag} {α : Type} [Py α] [DecidableEq α] {S S' : List Addr} {H : Hp} {x y : V} {a : α} {l : List α} {Q : VK} (hx : De S H x a) (hy : De S' H y l) (hd : Py.dep α + 1 ≤ 64) (q : Q (.bl (!decide (a ∈ l))) H) : rNotInD K x y H Q :=
  ⟨enc a, l.map enc, hx.dp, hy.dp, shaped_enc (by omega) a, shaped_enc (α := List α) hd l, by rw [any_enc]; exact q⟩
theorem rInD_of {K : PySem.W.Frag} {α : Type} [Py α] [DecidableEq α] {S S' : List Addr} {H : Hp} {x y : V} {a : α} {l : List α} {Q : VK} (hx : De S H x a) (hy : De S' H y l) (hd : Py.dep α + 1 ≤ 64) (q : Q (.bl (decide (a ∈ l))) H) : rInD K x y H Q :=
  ⟨enc a, l.map enc, hx.dp, hy.dp, shaped_enc (by omega) a, shaped_enc (α := List α) hd l, by rw [any_enc]; exact q⟩
theorem join_len (sep : Str) (l : List Str) : (Txt.join sep l).length = (l.map (·.length)).sum + (l.length - 1) * sep.length := size_glued sep l
/-- a list of two things -/
structure Li2 (α β : Type) where
  a : α
  b : β
instance {α β : Type} [DecidableEq α] [DecidableEq β] : DecidableEq (Li2 α β) := fun x y => decidable_of_iff (x.a = y.a ∧ x.b = y.b) ⟨fun h => by cases x; cases y; cases h; simp_all, fun h => by rw [h]; exact ⟨rfl, rfl⟩⟩
instance {α β : Type} [En α] [En β] : En (Li2 α β) where
  enc := fun p => .list [enc p.a, enc p.b]
instance {α β : Type} [Py α] [Py β] : Py (Li2 α β) where
  dep := max (Py.dep α) (Py.dep β) + 1
  eqv := fun a b => by
    show PyData.eqv (.list [enc a.a, enc a.b]) (.list [enc b.a, enc b.b]) = true ↔ a = b
    simp only [PyData.eqv, PyData.eqvAll, Bool.and_eq_true, Bool.and_true, Py.eqv]
    constructor
    · rintro ⟨h1, h2⟩
      cases a
      cases b
      simp_all
    · rintro rfl
      exact ⟨rfl, rfl⟩
  lay := fun a => by
    show (PyData.list [enc a.a, enc a.b]).canLay0 = true
    simp [PyData.canLay0, PyData.canLayAll0, Py.lay]
  dle := fun a => by
    have h1 := Py.dle a.a
    have h2 := Py.dle a.b
    show (PyData.list [enc a.a, enc a.b]).depth ≤ _
    simp only [PyData.depth, PyData.depthAll]
    omega
theorem De.li2 {α β : Type} [En α] [En β] {S : List Addr} {H : Hp} {v : V} {p : Li2 α β} (h : De S H v p) : ∃ a x y, v = .ref a ∧ a ∉ S ∧ H a = some (.lst [x, y]) ∧ De S H x p.a ∧ De S H y p.b := by
  cases h with
  | lst n e h =>
    cases h with
    | cons h1 t =>
      cases t with
      | cons h2 t =>
        cases t
        exact ⟨_, _, _, rfl, n, e, h1, h2⟩
theorem De.mkLi2 {α β : Type} [En α] [En β] {S : List Addr} {H : Hp} {a : Addr} {x y : V} {p : Li2 α β} (n : a ∉ S) (e : H a = some (.lst [x, y])) (hx : De S H x p.a) (hy : De S H y p.b) : De S H (.ref a) p := .lst n e (.cons hx (.cons hy .nil))
/-- a pot of draws -/
def PotAt (H : Hp) (p : Addr) : Prop := ∃ a b : Int, H p = some (.lst [.int a, .int b]) ∧ 0 ≤ a ∧ 0 ≤ b ∧ b < 2147483587
theorem PotAt.old {H : Hp} {p : Addr} (h : PotAt H p) : ∃ o, H p = some o := by
  obtain ⟨a, b, e, _⟩ := h
  exact ⟨_, e⟩
theorem PotAt.keep {S : List Addr} {H H' : Hp} {p : Addr} (h : PotAt H p) (k : Kp S H H') (n : p ∉ S) : PotAt H' p := by
  obtain ⟨a, b, e, h⟩ := h
  exact ⟨a, b, k p _ n e, h⟩
end Lw

set_option Elab.async false
set_option linter.all false
set_option maxRecDepth 100000
set_option maxHeartbeats 4000000
/-! what readings ask of lists and pairs that are data -/
namespace Lw
open PySem PySem.Spec PyProof.Rows L2 He StX
open En (enc)
section
variable {K : PySem.W.Frag} {α β : Type} [En α] [En β] {S : List Addr} {H : Hp} {x y : V} {Q : VK}
theorem De.keep0 {H' : Hp} {a : α} (h : De S H x a) (k : Kp [] H H') : De S H' x a := Dx.keep k.of0 h
theorem newL {vs : List V} {as : List α} (oS : Old S H) (h : DeA S H vs as) (q : ∀ v H', Kp [] H H' → De S H' v as → Q v H') : ∀ p, H p = none → Q (.ref p) (upd H p (.lst vs)) :=
  fun p hp => q _ _ (.new hp) (De.mkLs (oS.no hp) upd_same (DxA.keep (.new hp) h))
theorem newP {a : α} {b : β} (oS : Old S H) (hx : De S H x a) (hy : De S H y b) (q : ∀ v H', Kp [] H H' → De S H' v (a, b) → Q v H') : ∀ p, H p = none → Q (.ref p) (upd H p (.tup [x, y])) :=
  fun p hp => q _ _ (.new hp) (.tup (oS.no hp) upd_same (.cons (Dx.keep (.new hp) hx) (.cons (Dx.keep (.new hp) hy) .nil)))
theorem newLi2 {a : α} {b : β} (oS : Old S H) (hx : De S H x a) (hy : De S H y b) (q : ∀ v H', Kp [] H H' → De S H' v (Li2.mk a b) → Q v H') : ∀ p, H p = none → Q (.ref p) (upd H p (.lst [x, y])) :=
  fun p hp => q _ _ (.new hp) (De.mkLi2 (oS.no hp) upd_same (Dx.keep (.new hp) hx) (Dx.keep (.new hp) hy))
theorem catD {l m : List α} (oS : Old S H) (hx : De S H x l) (hy : De S H y m) (hz : l.length + m.length ≤ 1000000) (q : ∀ v H', Kp [] H H' → De S H' v (l ++ m) → Q v H') : rCat x y H Q := by
  obtain ⟨a, xs, rfl, na, ea, da⟩ := hx.ls
  obtain ⟨b, ys, rfl, nb, eb, db⟩ := hy.ls
  refine ⟨a, b, xs, ys, rfl, rfl, ea, eb, by rw [da.len, db.len]; have := sizeLine_eq; omega, newL oS ?_ q⟩
  show DxA S H (xs ++ ys) ((l ++ m).map enc)
  rw [List.map_append]
  exact DxA.append da db
theorem slD_init {l : List α} (oS : Old S H) (hx : De S H x l) (q : ∀ v H', Kp [] H H' → De S H' v l.dropLast → Q v H') : rSlL K x none (some (-1)) H Q := by
  obtain ⟨a, xs, rfl, na, ea, da⟩ := hx.ls
  refine ⟨a, xs, rfl, SqL.of ea, newL oS ?_ q⟩
  have e : cutV xs none (some (-1)) = xs.dropLast := by
    unfold cutV
    rw [HT.sIx_none, List.drop_zero, Nat.sub_zero]
    show xs.take ((-1 + (xs.length : Int)).toNat) = _
    rw [List.dropLast_eq_take, show (-1 + (xs.length : Int)).toNat = xs.length - 1 by omega]
  rw [e]
  show DxA S H _ (l.dropLast.map enc)
  rw [List.dropLast_eq_take, List.dropLast_eq_take, List.map_take, da.len]
  exact DxA.take _ da
theorem ixD {l : List α} {n : Nat} {i : Int} {a : α} (hx : De S H x l) (hi : i = n) (ha : l[n]? = some a) (q : ∀ v, De S H v a → Q v H) : rIxL K x (.int i) H Q := by
  obtain ⟨b, xs, rfl, nb, eb, db⟩ := hx.ls
  obtain ⟨v, hv, dv⟩ := db.at ha
  exact ixL eb hi hv (q v dv)
theorem ixD_last {l : List α} {a : α} (hx : De S H x l) (ha : l.getLast? = some a) (q : ∀ v, De S H v a → Q v H) : rIxL K x (.int (-1)) H Q := by
  obtain ⟨b, xs, rfl, nb, eb, db⟩ := hx.ls
  have hl : l[l.length - 1]? = some a := by rw [← List.getLast?_eq_getElem?]; exact ha
  have h0 : l.length ≠ 0 := fun z => by rw [List.length_eq_zero_iff.mp z] at ha; cases ha
  obtain ⟨v, hv, dv⟩ := db.at hl
  refine ⟨b, xs, _, v, rfl, rfl, SqL.of eb, ?_, q v dv⟩
  have e : xs = xs.dropLast ++ [v] := by
    have h1 : xs.getLast? = some v := by rw [List.getLast?_eq_getElem?, db.len]; exact hv
    obtain ⟨ys, hy⟩ := List.getLast?_eq_some_iff.mp h1
    rw [hy, List.dropLast_concat]
  rw [e]
  exact atI_last _ _
theorem ixP0 {p : α × β} (hx : De S H x p) (q : ∀ v, De S H v p.1 → Q v H) : rIxT K x (.int 0) H Q := by
  obtain ⟨a, u, v, rfl, na, ea, d1, d2⟩ := hx.pair
  exact ixT ea (n := 0) rfl rfl (q u d1)
theorem ixP1 {p : α × β} (hx : De S H x p) (q : ∀ v, De S H v p.2 → Q v H) : rIxT K x (.int 1) H Q := by
  obtain ⟨a, u, v, rfl, na, ea, d1, d2⟩ := hx.pair
  exact ixT ea (n := 1) rfl rfl (q v d2)
theorem ixLi0 {p : Li2 α β} (hx : De S H x p) (q : ∀ v, De S H v p.a → Q v H) : rIxL K x (.int 0) H Q := by
  obtain ⟨a, u, v, rfl, na, ea, d1, d2⟩ := hx.li2
  exact ixL ea (n := 0) rfl rfl (q u d1)
theorem ixLi1 {p : Li2 α β} (hx : De S H x p) (q : ∀ v, De S H v p.b → Q v H) : rIxL K x (.int 1) H Q := by
  obtain ⟨a, u, v, rfl, na, ea, d1, d2⟩ := hx.li2
  exact ixL ea (n := 1) rfl rfl (q v d2)
end
theorem ixI0 {K : PySem.W.Frag} {S : List Addr} {H : Hp} {x : V} {Q : VK} {p : Int × Int} (hx : De S H x p) (q : Q (.int p.1) H) : rIxT K x (.int 0) H Q := ixP0 hx fun v d => by rw [d.int]; exact q
theorem ixI1 {K : PySem.W.Frag} {S : List Addr} {H : Hp} {x : V} {Q : VK} {p : Int × Int} (hx : De S H x p) (q : Q (.int p.2) H) : rIxT K x (.int 1) H Q := ixP1 hx fun v d => by rw [d.int]; exact q
section
variable {K : PySem.W.Frag} {α β : Type} [En α] [En β] {S : List Addr} {H : Hp} {x y : V} {Q : VK} {p : Addr}
theorem factL {vs : List V} {as : List α} (oS : Old S H) (h : DeA S H vs as) (hp : H p = none) : De S (upd H p (.lst vs)) (.ref p) as := De.mkLs (oS.no hp) upd_same (DxA.keep (.new hp) h)
theorem factP {a : α} {b : β} (oS : Old S H) (hx : De S H x a) (hy : De S H y b) (hp : H p = none) : De S (upd H p (.tup [x, y])) (.ref p) (a, b) := .tup (oS.no hp) upd_same (.cons (Dx.keep (.new hp) hx) (.cons (Dx.keep (.new hp) hy) .nil))
theorem factLi2 {a : α} {b : β} (oS : Old S H) (hx : De S H x a) (hy : De S H y b) (hp : H p = none) : De S (upd H p (.lst [x, y])) (.ref p) (Li2.mk a b) := De.mkLi2 (oS.no hp) upd_same (Dx.keep (.new hp) hx) (Dx.keep (.new hp) hy)
end
theorem De.keepN {α : Type} [En α] {S T : List Addr} {H H' : Hp} {f : Addr} {v : V} {a : α} (h : De S H v a) (hf : H f = none) (k : Kp (f :: T) H H') (hT : ∀ a ∈ T, a ∈ S) : De (f :: S) H' v a :=
  Dx.keep (k.mono fun a z => by
    rcases List.mem_cons.mp z with z | z
    · rw [z]; exact List.mem_cons_self ..
    · exact List.mem_cons_of_mem _ (hT a z)) (Dx.wid (fun a z => by
    rcases List.mem_cons.mp z with z | z
    · rw [z]; exact .inr hf
    · exact .inl z) h)
theorem Old.keepN {S : List Addr} {H H' : Hp} {f : Addr} {o : HO} (h : Old S H) (k : Kp [f] H H') (e : H' f = some o) : Old (f :: S) H' := fun s hs => by
  rcases List.mem_cons.mp hs with z | z
  · exact ⟨_, z ▸ e⟩
  · by_cases zf : s = f
    · exact ⟨_, zf ▸ e⟩
    · obtain ⟨u, q⟩ := h s z
      exact ⟨u, k s u (fun w => zf (List.mem_singleton.mp w)) q⟩
section
variable {K : PySem.W.Frag} {α β : Type} [En α] [En β] {S : List Addr} {H : Hp} {x y : V} {Q : VK} {p : Addr}
theorem fL {vs : List V} (as : List α) (oS : Old S H) (h : DeA S H vs as) (hp : H p = none) : Kp [] H (upd H p (.lst vs)) ∧ De S (upd H p (.lst vs)) (.ref p) as := ⟨.new hp, factL oS h hp⟩
theorem fP (a : α) (b : β) (oS : Old S H) (hx : De S H x a) (hy : De S H y b) (hp : H p = none) : Kp [] H (upd H p (.tup [x, y])) ∧ De S (upd H p (.tup [x, y])) (.ref p) (a, b) := ⟨.new hp, factP oS hx hy hp⟩
end
theorem tFor_new {K : PySem.W.Frag} {wi : TI} {g : TG} {tb : TS} {D : Ends} {σ : L2.St} {H : Hp} (vs : List V) (Pv : Addr → Nat → L2.St → Hp → Prop) (hwi : ∀ R : It → Hp → Prop, (∀ L, H L = none → R (Itl K L) (upd H L (.lst vs))) → wi σ H R)
    (h0 : ∀ L, H L = none → Pv L 0 σ (upd H L (.lst vs))) (hG : ∀ L i σ H', Pv L i σ H' → H' L = some (.lst vs))
    (hs : ∀ L i x σ H', H L = none → vs[i]? = some x → Pv L i σ H' → g x σ H' fun σ2 H2 => tb { D with nx := Pv L (i + 1), ct := Pv L (i + 1), bk := D.nx } σ2 H2) (hd : ∀ L σ H', H L = none → Pv L vs.length σ H' → D.nx σ H') : tFor wi g tb D σ H :=
  hwi _ fun L hL => for_it (walk_list (K := K) (a := L) (xs := vs)) (Pv L) (h0 L hL) (fun i σ H' _ p => SqL.of (hG L i σ H' p)) (fun i x σ H1 H2 hi p ⟨e, hx⟩ => by subst e; exact hs L i x σ _ hL hx p) (fun σ H' p => hd L σ H' hL p)
end Lw

set_option Elab.async false
set_option linter.all false
set_option maxRecDepth 100000
set_option maxHeartbeats 4000000
/-! where one stands: B the heap at the def's begin, T0 what may change of it, S0 what results keep off; now S kept off, M what stands at addresses of S, L facts of values, H the heap -/
namespace Lw
open PySem PySem.Spec PyProof.Rows L2 He StX
open En (enc)
/-- what a value is -/
structure AV where
  R : List Addr → Hp → V → Prop
  keep : ∀ {S : List Addr} {H H' : Hp} {v : V}, R S H v → Kp S H H' → R S H' v
  wid : ∀ {S S' : List Addr} {H : Hp} {v : V}, R S H v → (∀ a, a ∈ S' → a ∈ S ∨ H a = none) → R S' H v
def dat {α : Type} [En α] (a : α) : AV := ⟨fun S H v => De S H v a, fun h k => Dx.keep k h, fun h w => Dx.wid w h⟩
/-- what stands at an address that may change -/
structure Mu where
  a : Addr
  loc : Bool
  P : List Addr → Hp → Prop
  keep : ∀ {S T : List Addr} {H H' : Hp}, P S H → Kp T H H' → (∀ x ∈ T, x ∈ S) → a ∉ T → P S H'
  wid : ∀ {S S' : List Addr} {H : Hp}, P S H → (∀ x, x ∈ S' → x ∈ S ∨ H x = none) → P S' H
def Mu.pot (p : Addr) : Mu := ⟨p, false, fun _ H => PotAt H p, fun h k _ n => h.keep k n, fun h _ => h⟩
def Mu.lst {α : Type} [En α] (f : Addr) (l : List α) : Mu := ⟨f, true, fun S H => ∃ xs, H f = some (.lst xs) ∧ DeA S H xs l,
  fun ⟨xs, e, d⟩ k s n => ⟨xs, k f _ n e, DxA.keep (k.mono s) d⟩, fun ⟨xs, e, d⟩ w => ⟨xs, e, DxA.wid w d⟩⟩
structure Ctx (B : Hp) (T0 S0 S : List Addr) (M : List Mu) (L : List (V × AV)) (H : Hp) : Prop where
  oB : Old S0 B
  tS : ∀ a ∈ T0, a ∈ S0
  sub : ∀ a ∈ S0, a ∈ S
  old : Old S H
  kp : Kp T0 B H
  mu : ∀ m ∈ M, m.a ∈ S ∧ m.P S H ∧ (m.a ∈ T0 ∨ B m.a = none) ∧ (m.loc = true → B m.a = none)
  dis : (M.map (·.a)).Nodup
  fa : ∀ f ∈ L, f.2.R S H f.1
section
variable {B H H' : Hp} {T0 S0 S : List Addr} {M : List Mu} {L : List (V × AV)} {v : V} {A : AV}
theorem Ctx.start {S T0 : List Addr} (o : Old S H) (t : ∀ a ∈ T0, a ∈ S) : Ctx H T0 S S [] [] H :=
  ⟨o, t, fun _ h => h, o, .refl, fun _ h => absurd h List.not_mem_nil, .nil, fun _ h => absurd h List.not_mem_nil⟩
theorem Ctx.addA (C : Ctx B T0 S0 S M L H) (h : A.R S H v) : Ctx B T0 S0 S M ((v, A) :: L) H :=
  ⟨C.oB, C.tS, C.sub, C.old, C.kp, C.mu, C.dis, fun f hf => (List.mem_cons.mp hf).elim (fun z => z ▸ h) (C.fa f)⟩
theorem Ctx.add {α : Type} [En α] {a : α} (C : Ctx B T0 S0 S M L H) (h : De S H v a) : Ctx B T0 S0 S M ((v, dat a) :: L) H := C.addA (A := dat a) h
theorem Ctx.less {L' : List (V × AV)} (C : Ctx B T0 S0 S M L H) (h : ∀ f ∈ L', f ∈ L) : Ctx B T0 S0 S M L' H := ⟨C.oB, C.tS, C.sub, C.old, C.kp, C.mu, C.dis, fun f hf => C.fa f (h f hf)⟩
theorem Ctx.get (C : Ctx B T0 S0 S M L H) (h : (v, A) ∈ L) : A.R S H v := C.fa _ h
theorem Ctx.d {α : Type} [En α] {a : α} (C : Ctx B T0 S0 S M L H) (h : (v, dat a) ∈ L) : De S H v a := C.fa _ h
/-- a step that changes what stands at T, all that is of M kept or said anew -/
theorem Ctx.step {M' : List Mu} {T : List Addr} (C : Ctx B T0 S0 S M L H) (k : Kp T H H') (o : Old S H') (hT : ∀ a ∈ T, a ∈ S) (hB : ∀ a ∈ T, a ∈ T0 ∨ B a = none)
    (hM : M'.map (·.a) = M.map (·.a)) (hm : ∀ m ∈ M', m.a ∈ S ∧ m.P S H' ∧ (m.a ∈ T0 ∨ B m.a = none) ∧ (m.loc = true → B m.a = none)) : Ctx B T0 S0 S M' L H' where
  oB := C.oB
  tS := C.tS
  sub := C.sub
  old := o
  kp := fun a u n e => k a u (fun z => by
    rcases hB a z with q | q
    · exact n q
    · rw [q] at e; cases e) (C.kp a u n e)
  mu := hm
  dis := by rw [hM]; exact C.dis
  fa := fun f hf => f.2.keep (C.fa f hf) (k.mono hT)
theorem Ctx.pure (C : Ctx B T0 S0 S M L H) (k : Kp [] H H') : Ctx B T0 S0 S M L H' :=
  C.step k (C.old.keep0 k) (fun _ h => absurd h List.not_mem_nil) (fun _ h => absurd h List.not_mem_nil) rfl fun m hm =>
    let ⟨h1, h2, h3, h4⟩ := C.mu m hm
    ⟨h1, m.keep h2 k (fun _ h => absurd h List.not_mem_nil) subNil', h3, h4⟩
theorem nodup_idx {l : List Addr} (h : l.Nodup) {i j : Nat} {a : Addr} (hi : l[i]? = some a) (hj : l[j]? = some a) : i = j := by
  obtain ⟨h1, e1⟩ := List.getElem?_eq_some_iff.mp hi
  obtain ⟨h2, e2⟩ := List.getElem?_eq_some_iff.mp hj
  exact (List.getElem_inj (h₀ := h1) (h₁ := h2) h).mp (e1.trans e2.symm)
theorem Ctx.eff {m m' : Mu} {i : Nat} (C : Ctx B T0 S0 S M L H) (hm : M[i]? = some m) (k : Kp [m.a] H H') (ho : ∃ o, H' m.a = some o) (ea : m'.a = m.a) (el : m'.loc = m.loc) (hP : m'.P S H') : Ctx B T0 S0 S (M.set i m') L H' := by
  have hi := (List.getElem?_eq_some_iff.mp hm).1
  obtain ⟨c1, c2, c3, c4⟩ := C.mu m (List.mem_of_getElem? hm)
  have one : ∀ a ∈ [m.a], a ∈ S := fun a h => by rw [List.mem_singleton.mp h]; exact c1
  refine C.step k (C.old.keep k fun a h => by rw [List.mem_singleton.mp h]; exact ho) one (fun a h => by rw [List.mem_singleton.mp h]; exact c3) ?_ ?_
  · rw [List.map_set, ea]
    refine List.ext_getElem? fun j => ?_
    rw [List.getElem?_set]
    split
    · rename_i e
      subst e
      rw [if_pos (by rw [List.length_map]; exact hi), List.getElem?_map, hm]
      rfl
    · rfl
  · intro n hn
    obtain ⟨j, hj, ej⟩ := List.mem_iff_getElem.mp hn
    rw [List.length_set] at hj
    rw [List.getElem_set] at ej
    split at ej
    · subst ej
      rw [ea, el]
      exact ⟨c1, hP, c3, c4⟩
    · rename_i ne
      have hjM : M[j]? = some n := by rw [List.getElem?_eq_getElem hj, ej]
      obtain ⟨d1, d2, d3, d4⟩ := C.mu n (List.mem_of_getElem? hjM)
      refine ⟨d1, n.keep d2 k one fun z => ?_, d3, d4⟩
      have e := List.mem_singleton.mp z
      exact ne (nodup_idx C.dis (i := i) (j := j) (a := m.a) (by rw [List.getElem?_map, hm]; rfl) (by rw [List.getElem?_map, hjM, ← e]; rfl))
theorem set_self {α : Type} {l : List α} {i : Nat} {a : α} (h : l[i]? = some a) : l.set i a = l := by
  refine List.ext_getElem? fun j => ?_
  rw [List.getElem?_set]
  split
  · rename_i e
    subst e
    rw [if_pos (List.getElem?_eq_some_iff.mp h).1, h]
  · rfl
theorem Ctx.pot {p : Addr} (C : Ctx B T0 S0 S M L H) (i : Nat) (hm : M[i]? = some (.pot p)) (k : Kp [p] H H') (h : PotAt H' p) : Ctx B T0 S0 S M L H' := by
  have z := C.eff (m' := .pot p) hm k h.old rfl rfl h
  rwa [set_self hm] at z
theorem Ctx.potAt {p : Addr} (C : Ctx B T0 S0 S M L H) (i : Nat) (hm : M[i]? = some (.pot p)) : PotAt H p ∧ p ∈ S := let ⟨a, b, _⟩ := C.mu _ (List.mem_of_getElem? hm); ⟨b, a⟩
theorem Ctx.addPot {p : Addr} (C : Ctx B T0 S0 S M L H) (h : PotAt H p) (hp : p ∈ T0) (n : p ∉ M.map (·.a) := by exact List.not_mem_nil) : Ctx B T0 S0 S (.pot p :: M) L H :=
  ⟨C.oB, C.tS, C.sub, C.old, C.kp, fun m hm => (List.mem_cons.mp hm).elim (fun z => by subst z; exact ⟨C.sub _ (C.tS _ hp), h, .inl hp, fun z => nomatch z⟩) (C.mu m), List.nodup_cons.mpr ⟨n, C.dis⟩, C.fa⟩
/-- a new thing that may change -/
theorem Ctx.push {m : Mu} {o : HO} (C : Ctx B T0 S0 S M L H) (hf : H m.a = none) (hP : m.P (m.a :: S) (upd H m.a o)) : Ctx B T0 S0 (m.a :: S) (m :: M) L (upd H m.a o) := by
  have nS := C.old.no hf
  have nB : B m.a = none := C.kp.free (fun z => nS (C.sub _ (C.tS _ z))) hf
  have w : ∀ x, x ∈ m.a :: S → x ∈ S ∨ H x = none := fun x hx => by
    rcases List.mem_cons.mp hx with z | z
    · rw [z]; exact .inr hf
    · exact .inl z
  refine ⟨C.oB, C.tS, fun a h => List.mem_cons_of_mem _ (C.sub a h), Old.cons upd_same (C.old.keep0 (.new hf)), C.kp.trans (.new hf), fun n hn => ?_, ?_, fun f hf' => f.2.keep (f.2.wid (C.fa f hf') w) (.new hf)⟩
  · rcases List.mem_cons.mp hn with z | z
    · subst z
      exact ⟨List.mem_cons_self .., hP, .inr nB, fun _ => nB⟩
    · obtain ⟨h1, h2, h3, h4⟩ := C.mu n z
      exact ⟨List.mem_cons_of_mem _ h1, n.keep (n.wid h2 w) (T := []) (.new hf) (fun _ h => absurd h List.not_mem_nil) subNil', h3, h4⟩
  · rw [List.map_cons]
    refine List.nodup_cons.mpr ⟨fun z => ?_, C.dis⟩
    obtain ⟨n, hn, e⟩ := List.mem_map.mp z
    exact nS (e ▸ (C.mu n hn).1)
theorem Ctx.pushL {α : Type} [En α] {f : Addr} {xs : List V} {l : List α} (C : Ctx B T0 S0 S M L H) (hf : H f = none) (d : DeA S H xs l) : Ctx B T0 S0 (f :: S) (.lst f l :: M) L (upd H f (.lst xs)) :=
  C.push (m := .lst f l) hf ⟨xs, upd_same, DxA.keep (.new hf) (DxA.wid (fun x hx => by
    rcases List.mem_cons.mp hx with z | z
    · rw [z]; exact .inr hf
    · exact .inl z) d)⟩
/-- a new list that a call returned -/
theorem Ctx.adopt {α : Type} [En α] {f : Addr} {xs : List V} {l : List α} (C : Ctx B T0 S0 S M L H) (k : Kp [] H H') (hf : H f = none) (e : H' f = some (.lst xs)) (d : DeA (f :: S) H' xs l) : Ctx B T0 S0 (f :: S) (.lst f l :: M) L H' := by
  have nS := C.old.no hf
  have nB : B f = none := C.kp.free (fun z => nS (C.sub _ (C.tS _ z))) hf
  have w : ∀ x, x ∈ f :: S → x ∈ S ∨ H x = none := fun x hx => by
    rcases List.mem_cons.mp hx with z | z
    · rw [z]; exact .inr hf
    · exact .inl z
  refine ⟨C.oB, C.tS, fun a h => List.mem_cons_of_mem _ (C.sub a h), Old.cons e (C.old.keep0 k), C.kp.trans k.of0, fun n hn => ?_, ?_, fun g hg => g.2.keep (g.2.wid (C.fa g hg) w) k.of0⟩
  · rcases List.mem_cons.mp hn with z | z
    · subst z
      exact ⟨List.mem_cons_self .., ⟨xs, e, d⟩, .inr nB, fun _ => nB⟩
    · obtain ⟨h1, h2, h3, h4⟩ := C.mu n z
      exact ⟨List.mem_cons_of_mem _ h1, n.keep (n.wid h2 w) (T := []) k (fun _ h => absurd h List.not_mem_nil) subNil', h3, h4⟩
  · rw [List.map_cons]
    refine List.nodup_cons.mpr ⟨fun z => ?_, C.dis⟩
    obtain ⟨n, hn, e⟩ := List.mem_map.mp z
    exact nS ((show n.a = f from e) ▸ (C.mu n hn).1)
theorem Ctx.no {f : Addr} (C : Ctx B T0 S0 S M L H) (hf : H f = none) : f ∉ S := C.old.no hf
theorem Ctx.addD {α : Type} [En α] {a : α} (C : Ctx B T0 S0 S M L H) (k : Kp [] H H') (h : De S H' v a) : Ctx B T0 S0 S M ((v, dat a) :: L) H' := (C.pure k).add h
/-- what is returned -/
theorem Ctx.out {α : Type} [En α] {a : α} (C : Ctx B T0 S0 S M L H) (h : De S H v a) : De S0 H v a := Dx.wid (fun x hx => .inl (C.sub x hx)) h
theorem Ctx.outA (C : Ctx B T0 S0 S M L H) (h : A.R S H v) : A.R S0 H v := A.wid h (fun x hx => .inl (C.sub x hx))
theorem Ctx.pushNil {f : Addr} (α : Type) [En α] (C : Ctx B T0 S0 S M L H) (hf : H f = none) : Ctx B T0 S0 (f :: S) (.lst f ([] : List α) :: M) L (upd H f (.lst [])) := C.pushL hf .nil
/-- the list at f as it stands -/
theorem Ctx.lstAt {α : Type} [En α] {f : Addr} {l : List α} (C : Ctx B T0 S0 S M L H) (i : Nat) (hm : M[i]? = some (.lst f l)) : ∃ xs, H f = some (.lst xs) ∧ DeA S H xs l := (C.mu _ (List.mem_of_getElem? hm)).2.1
theorem Ctx.putAt {α : Type} [En α] {f : Addr} {l l' : List α} {xs' : List V} (C : Ctx B T0 S0 S M L H) (i : Nat) (hm : M[i]? = some (.lst f l)) (d : DeA S H xs' l') : Ctx B T0 S0 S (M.set i (.lst f l')) L (upd H f (.lst xs')) := by
  have fS := (C.mu _ (List.mem_of_getElem? hm)).1
  exact C.eff (m' := .lst f l') hm (Kp.mut (List.mem_singleton_self f)) ⟨_, upd_same⟩ rfl rfl ⟨xs', upd_same, DxA.keep (.mut fS) d⟩
/-- what changes no more -/
theorem Ctx.freeze {α : Type} [En α] {f : Addr} {l : List α} (C : Ctx B T0 S0 (f :: S) (.lst f l :: M) L H) (nf : f ∉ S) : Ctx B T0 S0 S M ((.ref f, dat l) :: L) H := by
  obtain ⟨c1, ⟨xs, e, d⟩, c3, c4⟩ := C.mu _ (List.mem_cons_self ..)
  have nB : B f = none := c4 rfl
  have n0 : f ∉ S0 := C.oB.no nB
  obtain ⟨n1, n2⟩ := List.nodup_cons.mp C.dis
  have w : ∀ a, a ∈ S → a ∈ f :: S ∨ H a = none := fun a h => .inl (List.mem_cons_of_mem _ h)
  refine ⟨C.oB, C.tS, fun a h => ?_, fun a h => C.old a (List.mem_cons_of_mem _ h), C.kp, fun n hn => ?_, n2, fun g hg => ?_⟩
  · rcases List.mem_cons.mp (C.sub a h) with z | z
    · exact absurd h (z ▸ n0)
    · exact z
  · obtain ⟨h1, h2, h3, h4⟩ := C.mu n (List.mem_cons_of_mem _ hn)
    refine ⟨?_, n.wid h2 w, h3, h4⟩
    rcases List.mem_cons.mp h1 with z | z
    · exact absurd (List.mem_map.mpr ⟨n, hn, z⟩) n1
    · exact z
  · rcases List.mem_cons.mp hg with z | z
    · subst z
      show De S H (.ref f) l
      exact De.mkLs nf e (DxA.wid w d)
    · exact g.2.wid (C.fa g z) w
/-- a comprehension's turn -/
theorem Ctx.put {α : Type} [En α] {f : Addr} {l l' : List α} {y : V} {a : α} (C : Ctx B T0 S0 S M L H) (i : Nat) (hm : M[i]? = some (.lst f l)) (hy : De S H y a) (e : l' = l ++ [a]) (hz : l.length < sizeLine) :
    ∃ acc, H f = some (.lst acc) ∧ acc.length < sizeLine ∧ Ctx B T0 S0 S (M.set i (.lst f l')) L (upd H f (.lst (acc ++ [y]))) := by
  obtain ⟨xs, ex, d⟩ := C.lstAt i hm
  have d' : DeA S H (xs ++ [y]) l' := by
    subst e
    show DxA S H _ ((l ++ [a]).map enc)
    rw [List.map_append]
    exact DxA.append d (.cons hy .nil)
  exact ⟨xs, ex, by rw [d.len]; exact hz, C.putAt i hm d'⟩
/-- xs.append(y) -/
theorem Ctx.app {α : Type} [En α] {f : Addr} {l : List α} {y : V} {a : α} {Q : VK} (C : Ctx B T0 S0 S M L H) (i : Nat) (hm : M[i]? = some (.lst f l)) (hy : De S H y a) (hz : l.length < sizeLine) (q : ∀ H', Ctx B T0 S0 S (M.set i (.lst f (l ++ [a]))) L H' → Q .non H') : rAppend (.ref f) [y] H Q := by
  obtain ⟨xs, ex, hl, C'⟩ := C.put i hm hy rfl hz
  exact ⟨f, xs, y, rfl, rfl, ex, hl, q _ C'⟩
/-- a list comprehension: r i what stands there behind i turns -/
theorem lc_c {α : Type} [En α] {J : It} {n : Nat} {G : Hp → Prop} {Y : Nat → Hp → V → Hp → Prop} {g : TG} {tt : TT} {te : TE} {vs : List Nat} {σ : L2.St} {Q : VK} (C : Ctx B T0 S0 S M L H) (w : Walk J n G Y) (r : Nat → List α) (hr : r 0 = [])
    (hG : ∀ D i H', Ctx B T0 S0 (D :: S) (.lst D (r i) :: M) L H' → G H')
    (hs : ∀ D i x H H', i < n → Ctx B T0 S0 (D :: S) (.lst D (r i) :: M) L H → Y i H x H' → g x (wipe σ vs) H' fun σ2 H2 => wipe σ2 vs = wipe σ vs ∧ tt σ2 H2 fun b H3 =>
      if b = true then te σ2 H3 fun y H4 => ∃ acc, H4 D = some (.lst acc) ∧ acc.length < sizeLine ∧ Ctx B T0 S0 (D :: S) (.lst D (r (i + 1)) :: M) L (upd H4 D (.lst (acc ++ [y]))) else Ctx B T0 S0 (D :: S) (.lst D (r (i + 1)) :: M) L H3)
    (hd : ∀ D H', D ∉ S → Ctx B T0 S0 (D :: S) (.lst D (r n) :: M) L H' → Q (.ref D) H') :
    ∀ D, H D = none → ∃ W : Nat → Nat → Hp → Prop, (∃ m, W 0 m (upd H D (.lst []))) ∧ ∀ i m H, W i m H →
      (J.stop i H ∧ Q (.ref D) H) ∨ (J.go i H ∧ ∃ Nx : Hp → Prop, (∀ H', Nx H' → ∃ m', m' < m ∧ W (i + 1) m' H') ∧ ∀ x H', J.yld i H x H' → g x (wipe σ vs) H' fun σ2 H2 => wipe σ2 vs = wipe σ vs ∧ tt σ2 H2 fun b H3 =>
        if b = true then te σ2 H3 fun y H4 => ∃ acc, H4 D = some (.lst acc) ∧ acc.length < sizeLine ∧ Nx (upd H4 D (.lst (acc ++ [y]))) else Nx H3) := fun D hD =>
  lc_it w (fun i H' => Ctx B T0 S0 (D :: S) (.lst D (r i) :: M) L H') (by rw [hr]; exact C.pushNil α hD) (fun i H' _ p => hG D i H' p) (hs D) (fun H' p => hd D H' (C.old.no hD) p)
end
end Lw

set_option Elab.async false
set_option linter.all false
set_option maxRecDepth 100000
set_option maxHeartbeats 4000000
/-! calls with keywords; class methods -/
namespace Lw
open PySem PySem.Spec PyProof.Rows L2 He StX ClX
open En (enc)
/-- a def's body keeps its promise -/
def BodyG (CX : CXT) (P : Program) (w : World) (K : PySem.W.Frag) (mg : Str → Option Value) (base : Heap) (N : List Str) (qual : Str) (scope : Scope) (body : List Stmt) (k : Nat) (f : Addr) (sp : Sp) : Prop :=
  ∀ (cdv : Value) (A : Around) (outer : List Env) (s : Shared) (H : Hp) (vs : List V) (Q : VK) (E : XK), RoomG k (A.deeper (envOfC qual scope s.heap.objs.size f cdv)) → sp vs H Q E →
    ∃ t, PSs (cxOf CX P w K mg base N qual scope f cdv A outer s H E) body t ∧ t { nx := fun _ H' => Q .non H', rt := Q } (start N vs) H
/-- a promise by n positional values and the keywords ks -/
def FnW (P : Program) (w : World) (K : PySem.W.Frag) (mg : Str → Option Value) (base : Heap) (CX : CXT) (k : Nat) (f : Addr) (n : Nat) (ks : List Str) (gV : List V → List V → List V) (sp : Sp) : Prop :=
  ∀ (A : Around) (outer : List Env) (s : Shared) (H : Hp) (us ws : List Value) (vs zs : List V) (Q : VK) (E : XK), RoomG k A → Env0 P w K mg base A outer s H → Vals vs us → Vals zs ws → vs.length = n → zs.length = ks.length → sp (gV vs zs) H Q E →
    codeAny (model P w) A (.call (.ref f) ⟨us, ks.zip ws⟩) (CR CX outer P w H s Q E) s
section
variable {CX : CXT} {P : Program} {w : World} {K : PySem.W.Frag} {mg : Str → Option Value} {base : Heap} {k : Nat} {f : Addr} {x qual : Str} {params : Arguments} {body : List Stmt} {scope : Scope} {dvs : List V} {kws : List (Str × V)} {fd : FuncData} {N ps : List Str} {sp : Sp}
theorem fnW_of {n : Nat} {ks : List Str} {g : List Value → List Value → List Value} {gV : List V → List V → List V} (F : FunD K x qual params body scope dvs kws f fd) (S : FnScope N ps scope) (hb : KBn K fd ps n ks g gV) (len : ∀ vs H Q E, sp vs H Q E → vs.length = ps.length)
    (B : BodyG CX P w K mg base N qual scope body k f sp) : FnW P w K mg base CX (k + 1) f n ks gV sp := by
  obtain ⟨oc, od, dV, kV, doc, pm, an, cdv, ct, osl, rfl, lk, hcd, _, _⟩ := F.ex
  intro A outer s H us ws vs zs Q E hr e0 r1 r2 l1 l2 hs
  have r := hb.rel r1 r2
  have hl := (r.length).symm.trans (len _ _ _ _ hs)
  have KX : K.In s.heap := e0.mod.kin.keeps fun b o e => (e0.bs b o e).1
  refine run_bnd lk hcd S hr.room e0 (G := fun xs H2 => xs = gV vs zs ∧ H2 = H) (fun A' Ex Q' h => hb.to s us ws KX (r1.length.symm.trans l1) (r2.length.symm.trans l2) _ _ _ _ (h s H (gV vs zs) (g us ws) e0 Un.refl rfl (fun _ _ z => z) r (len _ _ _ _ hs) ⟨rfl, rfl⟩)) fun s2 H2 xs ⟨ex, eH⟩ hr' => ?_
  subst ex eH
  exact B cdv A outer s2 H2 _ Q E ⟨hr', hr.gd⟩ hs
/-- no defaults: how the keywords bind -/
theorem kbn_plain {n : Nat} {ks : List Str} (g : {α : Type} → List α → List α → List α) (F : FunD K x qual params body scope [] kws f fd) (hrel : ∀ {vs zs : List V} {us ws : List Value}, Vals vs us → Vals zs ws → Vals (g vs zs) (g us ws))
    (h : ∀ (kV doc pm : Value) (an : Option Addr) (cdv ct : Value) (us ws : List Value), us.length = n → ws.length = ks.length → bindArgs (PySem.W.fnOf x qual params body scope .none kV doc pm an cdv ct) ⟨us, ks.zip ws⟩ = pure (ps.zip (g us ws))) :
    KBn K fd ps n ks (fun us ws => g us ws) (fun vs zs => g vs zs) := by
  obtain ⟨oc, od, dV, kV, doc, pm, an, cdv, ct, osl, rfl, lk, hcd, hD, hK⟩ := F.ex
  obtain rfl : dV = .none := by
    rcases hD with ⟨_, e⟩ | ⟨e, _⟩
    · exact e
    · exact absurd rfl e
  exact ⟨fun s us ws _ l1 l2 => .of_eq (h _ _ _ _ _ _ us ws l1 l2), hrel⟩
end
section
variable {X : Cx} {CX : CXT} {k : Nat} {f C : Addr} {sp : Sp} {E : XK} {pins : List (Addr × Obj)} {σ : L2.St} {H : Hp} {s : Shared} {n : Nat} {ks : List Str} {gV : List V → List V → List V}
theorem run_w {Q : VK} {us ws : List Value} {vs zs : List V} (F : FnW X.prog X.w X.K X.mg X.base CX k f n ks gV sp) (hr : RoomG k X.A) (hx : Passes CX X E) (I : Inv X pins σ H s) (r : Vals vs us) (rz : Vals zs ws) (l1 : vs.length = n) (l2 : zs.length = ks.length) (h : sp (gV vs zs) H Q E) :
    wpAny (model X.prog X.w) X.A (call (.ref f) us (ks.zip ws)) (EP X pins σ Q) X.xe s := by
  refine wpAny_call (codeAny_mono (F X.A X.stack s H us ws vs zs Q E hr I.env0 r rz l1 l2 h) fun r s' hq => ?_)
  match r, hq with
  | .error e, hq => exact hx pins σ H s e s' I hq
  | .ok (.ret u), hq => exact I.after hq
  | .ok .next, hq => exact False.elim hq
  | .ok .brk, hq => exact False.elim hq
  | .ok .cont, hq => exact False.elim hq
/-- f(e, .., k=v), f(k=v) -/
def tCW (n m : Nat) (gV : List V → List V → List V) (sp : Sp) (E : XK) (t tk : TA) : TE := fun σ H Q => t σ H fun vs H1 => tk σ H1 fun zs H2 => vs.length = n ∧ zs.length = m ∧ sp (gV vs zs) H2 Q E
theorem pe_cW {x : Str} {e : Expr} {es : List Expr} {kws : List Keyword} {t tk : TA} {p pos : Pos} (F : FnW X.prog X.w X.K X.mg X.base CX k f n ks gV sp) (hr : RoomG k X.A) (hk : PySem.W.keepIn X.K (.ref f) = true) (hg : Gl X x) (hm : X.mg x = some (.ref f)) (hx : Passes CX X E) (ha : PA X (e :: es) t) (hkw : PK X kws tk)
    (hall : (backToKw pos (keywordEach kws X.env)).all (·.1.isSome) = true := by rfl) (hks : (backToKw pos (keywordEach kws X.env)).filterMap (·.1) = ks := by rfl)
    (hdb : (x == ("__debug__" : Str)) = false := by decide) (he : starEach (e :: es) X.env = (false, eval e X.env) :: starEach es X.env := by rfl)
    (hpl : ((backTo pos (starEach (e :: es) X.env)).any (·.1) || (backToKw pos (keywordEach kws X.env)).any (·.1.isNone)) = false := by rfl) : PE X (.Call (.Name x p) (e :: es) kws pos) (tCW n ks.length gV sp E t tk) :=
  ⟨fun pins s σ H Q I h => wpAny_Call_Name_kw (ld_glob I hg hm (PySem.W.callWith_KW (h₀ := X.base) I.ok.mod.kin hk hall (thn (ha.run pos pins s σ H _ I h) fun us s1 ⟨vs, H1, I1, r, q⟩ =>
    thn (hkw.run pos pins s1 σ H1 _ I1 q) fun ws s2 ⟨zs, H2, I2, rz, l1, l2, q2⟩ => ⟨I2.kIn, by rw [hks]; exact run_w F hr hx I2 r rz l1 l2 q2⟩) hpl he) hdb)⟩
theorem pe_cW0 {x : Str} {kws : List Keyword} {tk : TA} {p pos : Pos} (F : FnW X.prog X.w X.K X.mg X.base CX k f n ks gV sp) (hr : RoomG k X.A) (hk : PySem.W.keepIn X.K (.ref f) = true) (hg : Gl X x) (hm : X.mg x = some (.ref f)) (hx : Passes CX X E) (hkw : PK X kws tk)
    (hall : (backToKw pos (keywordEach kws X.env)).all (·.1.isSome) = true := by rfl) (hks : (backToKw pos (keywordEach kws X.env)).filterMap (·.1) = ks := by rfl)
    (hdb : (x == ("__debug__" : Str)) = false := by decide)
    (hpl : ((backTo pos (starEach [] X.env)).any (·.1) || (backToKw pos (keywordEach kws X.env)).any (·.1.isNone)) = false := by rfl) : PE X (.Call (.Name x p) [] kws pos) (tCW n ks.length gV sp E tNil tk) :=
  ⟨fun pins s σ H Q I h => wpAny_Call_Name_kw (ld_glob I hg hm (PySem.W.callWith_KW0 (first := []) (h₀ := X.base) I.ok.mod.kin hk hall
    (thn (hkw.run pos pins s σ H _ I h) fun ws s2 ⟨zs, H2, I2, rz, l1, l2, q2⟩ => ⟨I2.kIn, by rw [hks]; exact run_w (us := []) (vs := []) F hr hx I2 .nil rz l1 l2 q2⟩) hpl) hdb)⟩
/-- o.m(e, .., k=v), o.m(k=v) -/
def tMW (C : Addr) (mt : Str) (n m : Nat) (gV : List V → List V → List V) (sp : Sp) (E : XK) (ta : TE) (t tk : TA) : TE := fun σ H Q => ta σ H fun x H1 => ∃ a dx fs, x = .ref a ∧ H1 a = some (.ins C dx fs) ∧ fs.lookup mt = none ∧ t σ H1 fun vs H2 => tk σ H2 fun zs H3 => vs.length + 1 = n ∧ zs.length = m ∧ sp (gV (x :: vs) zs) H3 Q E
theorem pe_mW {o e : Expr} {es : List Expr} {m : Str} {kws : List Keyword} {ta : TE} {t tk : TA} {apos pos : Pos} {pl : Sem Bool} (F : FnW X.prog X.w X.K X.mg X.base CX k f n ks gV sp) (hr : RoomG k X.A) (hx : Passes CX X E) (he : PE X o ta) (c : Cls X.K C) (hm : Meth X.K C m f) (ha : PA X (e :: es) t) (hkw : PK X kws tk)
    (hall : (backToKw pos (keywordEach kws X.env)).all (·.1.isSome) = true := by rfl) (hks : (backToKw pos (keywordEach kws X.env)).filterMap (·.1) = ks := by rfl) (hst : starEach (e :: es) X.env = (false, eval e X.env) :: starEach es X.env := by rfl)
    (hpl : ((backTo pos (starEach (e :: es) X.env)).any (·.1) || (backToKw pos (keywordEach kws X.env)).any (·.1.isNone)) = false := by rfl)
    (ht : eval (.Call (.Attribute o m apos) (e :: es) kws pos) X.env = (do
      let ov ← eval o X.env
      standAt apos.atName
      let (f, first) ← holding [ov] (getMethod ov m pl)
      callWith pos f first (backTo pos (starEach (e :: es) X.env)) (backToKw pos (keywordEach kws X.env))) := by rfl) : PE X (.Call (.Attribute o m apos) (e :: es) kws pos) (tMW C m n ks.length gV sp E ta t tk) := by
  refine ⟨fun pins s σ H Q I h => ?_⟩
  refine PySem.W.methodCall_KW (pl := pl) (thn (he.run pins s σ H _ I h) fun u s1 ⟨x, H1, I1, rx, a, dx, fs, ex, ea, l, q⟩ => ?_) ht
  subst ex
  cases (show u = Value.ref a from rx)
  refine getmeth_ok I1 ea c hm l (PySem.W.callWith_KW (first := [.ref a]) (h₀ := X.base) I.ok.mod.kin hm.kp hall (thn (ha.run pos pins s1 σ H1 _ I1 q) fun us s2 ⟨vs, H2, I2, r, q2⟩ =>
    thn (hkw.run pos pins s2 σ H2 _ I2 q2) fun ws s3 ⟨zs, H3, I3, rz, l1, l2, q3⟩ => ⟨I3.kIn, ?_⟩) hpl hst)
  rw [hks]
  exact run_w (us := .ref a :: us) (vs := .ref a :: vs) F hr hx I3 (.cons rfl r) rz l1 l2 q3
theorem pe_mW0 {o : Expr} {m : Str} {kws : List Keyword} {ta : TE} {tk : TA} {apos pos : Pos} {pl : Sem Bool} (F : FnW X.prog X.w X.K X.mg X.base CX k f n ks gV sp) (hr : RoomG k X.A) (hx : Passes CX X E) (he : PE X o ta) (c : Cls X.K C) (hm : Meth X.K C m f) (hkw : PK X kws tk)
    (hall : (backToKw pos (keywordEach kws X.env)).all (·.1.isSome) = true := by rfl) (hks : (backToKw pos (keywordEach kws X.env)).filterMap (·.1) = ks := by rfl)
    (hpl : ((backTo pos (starEach [] X.env)).any (·.1) || (backToKw pos (keywordEach kws X.env)).any (·.1.isNone)) = false := by rfl)
    (ht : eval (.Call (.Attribute o m apos) [] kws pos) X.env = (do
      let ov ← eval o X.env
      standAt apos.atName
      let (f, first) ← holding [ov] (getMethod ov m pl)
      callWith pos f first (backTo pos (starEach [] X.env)) (backToKw pos (keywordEach kws X.env))) := by rfl) : PE X (.Call (.Attribute o m apos) [] kws pos) (tMW C m n ks.length gV sp E ta tNil tk) := by
  refine ⟨fun pins s σ H Q I h => ?_⟩
  refine PySem.W.methodCall_KW (pl := pl) (thn (he.run pins s σ H _ I h) fun u s1 ⟨x, H1, I1, rx, a, dx, fs, ex, ea, l, q⟩ => ?_) ht
  subst ex
  cases (show u = Value.ref a from rx)
  refine getmeth_ok I1 ea c hm l (PySem.W.callWith_KW0 (first := [.ref a]) (h₀ := X.base) I.ok.mod.kin hm.kp hall (thn (hkw.run pos pins s1 σ H1 _ I1 q) fun ws s3 ⟨zs, H3, I3, rz, l1, l2, q3⟩ => ⟨I3.kIn, ?_⟩) hpl)
  rw [hks]
  exact run_w (us := [.ref a]) (vs := [.ref a]) F hr hx I3 (.cons rfl .nil) rz l1 l2 q3
/-- C.m(e, ..), m a classmethod -/
def tCM (C : Addr) (r : List V → Hp → VK → Prop) (t : TA) : TE := fun σ H Q => t σ H fun vs H2 => r (.ref C :: vs) H2 Q
def tCMW (C : Addr) (n m : Nat) (gV : List V → List V → List V) (sp : Sp) (E : XK) (t tk : TA) : TE := fun σ H Q => t σ H fun vs H2 => tk σ H2 fun zs H3 => vs.length + 1 = n ∧ zs.length = m ∧ sp (gV (.ref C :: vs) zs) H3 Q E
theorem run_cmG {q g : Addr} {Q : VK} {us : List Value} {vs : List V} (F : FnG X.prog X.w X.K X.mg X.base CX k g sp) (hr : RoomG k X.A) (hx : Passes CX X E) (I : Inv X ((q, PySem.W.methodObj (.ref g) (.ref C)) :: pins) σ H s) (r : Vals vs us) (h : sp (.ref C :: vs) H Q E) :
    wpAny (model X.prog X.w) X.A (call (.ref q) us) (EP X pins σ Q) X.xe s := by
  have z : wpAny (model X.prog X.w) X.A (call (.ref q) us) (EP X ((q, PySem.W.methodObj (.ref g) (.ref C)) :: pins) σ Q) X.xe s :=
    wpAny_call (PySem.W.method_call (pin_at I) (run_gA (us := .ref C :: us) (vs := .ref C :: vs) F hr I.env0 hx I (.cons rfl r) h))
  exact thn z fun _ _ y => unpinE y
theorem pe_cm {g p0 : Addr} {mc : Value} {o e : Expr} {es : List Expr} {m : Str} {t : TA} {apos pos : Pos} {pl : Sem Bool} (he : PE X o (tC (.ref C))) (r : CRead X.K C mc) (c : CMet X.K C mc m p0 g) (F : FnG X.prog X.w X.K X.mg X.base CX k g sp) (hr : RoomG k X.A) (hx : Passes CX X E) (ha : PA X (e :: es) t)
    (hst : starEach (e :: es) X.env = (false, eval e X.env) :: starEach es X.env := by rfl) (hpl : (backTo pos (starEach es X.env)).any (·.1) = false := by rfl)
    (ht : eval (.Call (.Attribute o m apos) (e :: es) [] pos) X.env = (do
      let ov ← eval o X.env
      standAt apos.atName
      let (f, first) ← holding [ov] (getMethod ov m pl)
      callWith pos f first (backTo pos (starEach (e :: es) X.env)) (backToKw pos (keywordEach [] X.env))) := by rfl) : PE X (.Call (.Attribute o m apos) (e :: es) [] pos) (tCM C (fun vs H Q => sp vs H Q E) t) := by
  refine ⟨fun pins s σ H Q I h => ?_⟩
  refine PySem.W.methodCall_KW (pl := pl) (thn (he.run pins s σ H (fun x H1 => x = .ref C ∧ H1 = H) I ⟨rfl, rfl⟩) fun u s1 ⟨x, H1, I1, rx, ex, eH⟩ => ?_) ht
  subst ex eH
  cases (show u = Value.ref C from rx)
  refine getmethcm_ok I1 r c fun s2 I2 => ?_
  refine callwith_cm I2 (base_none I1 (Nat.le_refl _)) c.fi (thn (ha.run pos _ s2 σ H1 _ I2 h) fun us s3 ⟨vs, H2, I3, rv, q2⟩ => ⟨⟨pin_at I3, I3.kIn⟩, ?_⟩) hst hpl
  exact run_cmG F hr hx I3 rv q2
theorem pe_cm0 {g p0 : Addr} {mc : Value} {o : Expr} {m : Str} {apos pos : Pos} {pl : Sem Bool} (he : PE X o (tC (.ref C))) (r : CRead X.K C mc) (c : CMet X.K C mc m p0 g) (F : FnG X.prog X.w X.K X.mg X.base CX k g sp) (hr : RoomG k X.A) (hx : Passes CX X E)
    (ht : eval (.Call (.Attribute o m apos) [] [] pos) X.env = (do
      let ov ← eval o X.env
      standAt apos.atName
      let (f, first) ← holding [ov] (getMethod ov m pl)
      callWith pos f first (backTo pos (starEach [] X.env)) (backToKw pos (keywordEach [] X.env))) := by rfl) : PE X (.Call (.Attribute o m apos) [] [] pos) (tCM C (fun vs H Q => sp vs H Q E) tNil) := by
  refine ⟨fun pins s σ H Q I h => ?_⟩
  refine PySem.W.methodCall_KW (pl := pl) (thn (he.run pins s σ H (fun x H1 => x = .ref C ∧ H1 = H) I ⟨rfl, rfl⟩) fun u s1 ⟨x, H1, I1, rx, ex, eH⟩ => ?_) ht
  subst ex eH
  cases (show u = Value.ref C from rx)
  refine getmethcm_ok I1 r c fun s2 I2 => ?_
  exact PySem.W.callWith_M0 (first := []) ⟨pin_at I2, I2.kIn⟩ c.fi (run_cmG (vs := []) (us := []) F hr hx I2 .nil h)
theorem pe_cmW0 {g p0 : Addr} {mc : Value} {o : Expr} {m : Str} {kws : List Keyword} {tk : TA} {apos pos : Pos} {pl : Sem Bool} (he : PE X o (tC (.ref C))) (r : CRead X.K C mc) (c : CMet X.K C mc m p0 g) (F : FnW X.prog X.w X.K X.mg X.base CX k g n ks gV sp) (hr : RoomG k X.A) (hx : Passes CX X E) (hkw : PK X kws tk)
    (hall : (backToKw pos (keywordEach kws X.env)).all (·.1.isSome) = true := by rfl) (hks : (backToKw pos (keywordEach kws X.env)).filterMap (·.1) = ks := by rfl)
    (hpl : ((backTo pos (starEach [] X.env)).any (·.1) || (backToKw pos (keywordEach kws X.env)).any (·.1.isNone)) = false := by rfl)
    (ht : eval (.Call (.Attribute o m apos) [] kws pos) X.env = (do
      let ov ← eval o X.env
      standAt apos.atName
      let (f, first) ← holding [ov] (getMethod ov m pl)
      callWith pos f first (backTo pos (starEach [] X.env)) (backToKw pos (keywordEach kws X.env))) := by rfl) : PE X (.Call (.Attribute o m apos) [] kws pos) (tCMW C n ks.length gV sp E tNil tk) := by
  refine ⟨fun pins s σ H Q I h => ?_⟩
  refine PySem.W.methodCall_KW (pl := pl) (thn (he.run pins s σ H (fun x H1 => x = .ref C ∧ H1 = H) I ⟨rfl, rfl⟩) fun u s1 ⟨x, H1, I1, rx, ex, eH⟩ => ?_) ht
  subst ex eH
  cases (show u = Value.ref C from rx)
  refine getmethcm_ok I1 r c fun s2 I2 => ?_
  refine PySem.W.callWith_of hpl (PySem.W.keeps_M c.fi) (evalArgs_kw2_nil hall (thn (hkw.run pos _ s2 σ H1 _ I2 h) fun ws s3 ⟨zs, H3, I3, rz, l1, l2, q3⟩ => ⟨⟨pin_at I3, I3.kIn⟩, ?_⟩))
  rw [hks]
  have z : wpAny (model X.prog X.w) X.A (call (.ref s1.heap.objs.size) [] (ks.zip ws)) (EP X ((s1.heap.objs.size, PySem.W.methodObj (.ref g) (.ref C)) :: pins) σ Q) X.xe s3 :=
    wpAny_call (PySem.W.method_call (pin_at I3) (codeAny_mono (F X.A X.stack s3 H3 [.ref C] ws [.ref C] zs Q E hr I3.env0 (.cons rfl .nil) rz l1 l2 q3) fun r s' hq => match r, hq with
      | .error e, hq => hx _ σ H3 s3 e s' I3 hq
      | .ok (.ret u), hq => I3.after hq
      | .ok .next, hq => False.elim hq
      | .ok .brk, hq => False.elim hq
      | .ok .cont, hq => False.elim hq))
  exact thn z fun _ _ y => unpinE y
/-- x(e, ..), x a name of the def that holds u -/
def tLoc (i : Nat) (u : V) (r : List V → Hp → VK → Prop) (t : TA) : TE := fun σ H Q => σ[i]? = some (some u) ∧ t σ H fun vs H1 => r vs H1 Q
theorem pe_loc {i : Nat} {x : Str} {p pos : Pos} {a : Addr} {e : Expr} {es : List Expr} {t : TA} {r : List V → Hp → VK → Prop} (hc : CallR X (.ref a) r) (hk : PySem.W.keepIn X.K (.ref a) = true) (hN : X.N[i]? = some x) (hv : Vis X.env.scope x) (ha : PA X (e :: es) t)
    (hdb : (x == ("__debug__" : Str)) = false := by decide) (hcd : (x == ("__classdict__" : Str)) = false := by decide)
    (he : starEach (e :: es) X.env = (false, eval e X.env) :: starEach es X.env := by rfl) (hpl : (backTo pos (starEach es X.env)).any (·.1) = false := by rfl) : PE X (.Call (.Name x p) (e :: es) [] pos) (tLoc i (.ref a) r t) := by
  refine ⟨fun pins s σ H Q I ⟨hs, h⟩ => wpAny_Call_Name_kw (thn ((pe_var (pos := p) hN hv hdb hcd).run pins s σ H (fun v H1 => v = .ref a ∧ H1 = H) I ⟨.ref a, hs, rfl, rfl⟩) fun u s1 ⟨v, H1, I1, r1, e1, e2⟩ => ?_)⟩
  subst e1 e2
  cases r1
  exact PySem.W.callWith_K (h₀ := X.base) I.ok.mod.kin hk (thn (ha.run pos pins s1 σ _ _ I1 h) fun us s2 ⟨vs, H2, I2, rv, q⟩ => ⟨I2.kIn, hc pins s2 σ H2 vs us Q I2 rv q⟩) he hpl
/-- x( *e) -/
theorem pe_locS {i : Nat} {x : Str} {p pos sp_ : Pos} {a : Addr} {e : Expr} {te : TE} {r : List V → Hp → VK → Prop} (hc : CallR X (.ref a) r) (hk : PySem.W.keepIn X.K (.ref a) = true) (hN : X.N[i]? = some x) (hv : Vis X.env.scope x) (he : PE X e te)
    (hdb : (x == ("__debug__" : Str)) = false := by decide) (hcd : (x == ("__classdict__" : Str)) = false := by decide)
    (hst : starEach [.Starred e sp_] X.env = [(true, eval e X.env)] := by rfl) : PE X (.Call (.Name x p) [.Starred e sp_] [] pos) (tLoc i (.ref a) r (tStar X.K te tNil)) := by
  refine ⟨fun pins s σ H Q I ⟨hs, h⟩ => wpAny_Call_Name_kw (thn ((pe_var (pos := p) hN hv hdb hcd).run pins s σ H (fun v H1 => v = .ref a ∧ H1 = H) I ⟨.ref a, hs, rfl, rfl⟩) fun u s1 ⟨v, H1, I1, r1, e1, e2⟩ => ?_)⟩
  subst e1 e2
  cases r1
  refine PySem.W.callWith_S (h₀ := X.base) I.ok.mod.kin hk (thn (he.run pins s1 σ _ _ I1 h) fun v s2 ⟨y, H2, I2, ry, b, xs, ey, hxs, q⟩ => ?_) hst
  subst ey
  cases (show v = Value.ref b from ry)
  refine star_any I2 hxs fun us s3 I3 rv => ⟨I3.kIn, ?_⟩
  have q' : r (xs ++ []) H2 Q := q
  rw [List.append_nil] at q'
  exact hc pins s3 σ H2 xs us Q I3 rv q'
end
end Lw
namespace Lw
open PySem PySem.Spec PyProof.Rows L2
theorem vals_q {vs : List V} {us : List Value} (i : Nat) (r : Vals vs us) : Vals (vs[i]?).toList (us[i]?).toList := by
  induction r generalizing i with
  | nil => simp; exact .nil
  | cons h t ih =>
    cases i with
    | zero => exact .cons h .nil
    | succ i => simpa using ih i
end Lw

set_option Elab.async false
set_option linter.all false
set_option maxRecDepth 100000
set_option maxHeartbeats 4000000
/-! set(xs) of a list of ints, sorted(set(xs)) -/
namespace Lw
open PySem PySem.Spec PyProof.Rows L2
section
variable {P : Program} {w : World} {A : Around} {E : Value → Shared → Prop} {s : Shared}
/-- a set without items, as it is laid -/
abbrev set0 (w : World) : Obj := { cls := .type "set", dict := none, data := .set #[] 0 (.fresh 0 0 (!w.params.followText "set-order")) }
/-- what set(xs) leaves -/
def SetMade (w : World) (s : Shared) (ns : List Int) (h' : Heap) (c : Nat) : Prop := SetR w h' s.heap.objs.size (fun j => decide (j ∈ ns)) c ∧ c ≤ ns.length ∧ ∀ b o, s.heap.get? b = some o → h'.get? b = some o
theorem set_init_list {l : Addr} {its : Array Value} (ns : List Int) (hh : A.handled = none) (hl : s.heap.IsList l its) (hit : IntsAre its.toList ns) (hb : ns.length + 1 < scanBound) :
    codeAny (model P w) A (.call (.builtin "set.__init__") ⟨[.ref s.heap.objs.size, .ref l], []⟩) (wants (fun r s2 => r = .none ∧ ∃ h' tk c, s2 = { s with heap := h', toks := tk } ∧ SetMade w s ns h' c) E) { s with heap := s.heap.push (set0 w) } := by
  have n1 : its.size = ns.length := by rw [← Array.length_toList]; exact IntsAre.length hit
  have hS : (s.heap.push (set0 w)).get? s.heap.objs.size = some (set0 w) := Heap.get?_push_size _ rfl
  have hz : (s.heap.push (set0 w)).objs.size = s.heap.objs.size + 1 := Heap.size_push ..
  refine codeAny_call_builtin F.called_set.init.plain F.entry_set_init (check_set_init_1 ⟨_, hS, rfl⟩ ?_)
  obtain ⟨⟨cl, di, da, sl⟩, e0, e1, m, e2⟩ := id hl
  cases e1
  cases e2
  have hlS : l < s.heap.objs.size := Heap.lt_size e0
  have e3 : (s.heap.push (set0 w)).get? l = _ := Heap.get?_push_of_some _ e0
  have hl1 : (s.heap.push (set0 w)).IsList l its := ⟨_, e3, rfl, m, rfl⟩
  have f1 := F.sub_list_set
  have f2 := F.sub_list_frozenset
  have f3 : (Value.type "list" == Value.type "dict") = false := by decide
  unfold Builtin.«set.__init__» noKeywords Builtin.Frozenset.updateFrom
  generalize g0 : pyIter = it
  wp_walk
  subst g0
  refine wpAny_pyIter_list hl1 (wpAny_bind (wpAny_runValue ?_))
  have nI : l ≠ (s.heap.push (set0 w)).objs.size := hz ▸ Nat.ne_of_lt (Nat.lt_succ_of_lt hlS)
  have nS : s.heap.objs.size ∉ [(s.heap.push (set0 w)).objs.size, l] := by
    rw [hz]
    simp only [List.mem_cons, List.not_mem_nil, or_false, not_or]
    exact ⟨Nat.ne_of_lt (Nat.lt_succ_self _), Nat.ne_of_gt hlS⟩
  refine set_update_ints ((Walks.list (by simp [hh]) _ l nI its).toS) s.heap.objs.size nS ns n1 hb (fun i v hv => ?_) (its.size - 0) 0 _ (by omega) (Nat.zero_le _) ⟨⟨_, Heap.get?_push_size _ rfl, rfl, rfl⟩, hl1.push _⟩
    ⟨0, Nat.le_refl 0, setR_new_at (Heap.get?_push_of_some _ hS)⟩ fun s' c hm hc hR => ?_
  · have hi : i < ns.length := by
      have := (Array.getElem?_eq_some_iff.mp hv).1
      omega
    obtain ⟨t, e⟩ := IntsAre.int_at hit i v (by rw [Array.getElem?_toList]; exact hv)
    exact ⟨ns[i], t, List.getElem?_eq_getElem hi, by rw [e, List.getD_eq_getElem?_getD, List.getElem?_eq_getElem hi]; rfl⟩
  · obtain ⟨h', g, d, tk, os⟩ := s'
    obtain rfl : g = s.gens := hm.gens
    obtain rfl : d = s.drawn := hm.drawn
    obtain rfl : os = s.os := hm.os
    refine wpAny_pure (show wpAny _ _ (ret Value.none) _ _ _ from wpAny_pure ⟨rfl, h', tk, c, rfl, hR, by omega, fun b o e => ?_⟩)
    have b0 : b < s.heap.objs.size := Heap.lt_size e
    refine hm.heap b o ?_ (Heap.get?_push_of_some _ (Heap.get?_push_of_some _ e))
    rw [hz]
    simp only [List.mem_cons, List.not_mem_nil, or_false, not_or]
    exact ⟨Nat.ne_of_lt b0, Nat.ne_of_lt (Nat.lt_succ_of_lt b0)⟩
theorem call_setL {l : Addr} {its : Array Value} (ns : List Int) {Q : Value → Shared → Prop} (hh : A.handled = none) (hl : s.heap.IsList l its) (hit : IntsAre its.toList ns) (hb : ns.length + 1 < scanBound)
    (h : ∀ (h' : Heap) (tk c : Nat), SetMade w s ns h' c → Q (.ref s.heap.objs.size) { s with heap := h', toks := tk }) : wpAny (model P w) A (call (.type "set") [.ref l]) Q E s := by
  obtain ⟨_, _, hmro⟩ := F.called_set.mro
  have k1 := F.called_set.made
  have k2 := F.called_set.sub
  have k3 := F.called_set.notType
  have k4 := F.called_set.canCreate
  have k5 := F.typeCall_set_1 (.ref l)
  refine wpAny_call (codeAny_of_tree (show wpAny _ _ (callAny (.type "set") _) _ _ _ from wpAny_pure ⟨Code.quiet_builtin _ (by decide +kernel), codeAny_builtin F.entry_type_call ?_⟩))
  rw [Around.under_plain (weight_type_call_type "set" [.ref l] []) rfl]
  repeat (any_goals (first | assumption | wp_step))
  refine codeAny_mono (code_set_led1 (.ref l) (E := E) (Q₁ := fun o s1 => o = .ref s.heap.objs.size ∧ s1 = { s with heap := s.heap.push (set0 w) }) ⟨rfl, rfl⟩) fun r s1 hr => ?_
  match r, hr with
  | .error _, hr => exact hr
  | .ok .next, hr => exact hr.elim
  | .ok .brk, hr => exact hr.elim
  | .ok .cont, hr => exact hr.elim
  | .ok (.ret o), hr =>
    obtain ⟨rfl, rfl⟩ := hr
    have hS : (s.heap.push (set0 w)).get? s.heap.objs.size = some (set0 w) := Heap.get?_push_size _ rfl
    have hT : Shared.TypeIs { s with heap := s.heap.push (set0 w) } (.ref s.heap.objs.size) "set" := ⟨_, hS, rfl⟩
    have k6 := F.called_set.init.lookup
    have k7 := F.called_set.init.bind (.ref s.heap.objs.size)
    repeat (any_goals (first | assumption | wp_step))
    refine codeAny_mono (set_init_list (E := E) ns (by simp [hh]) hl hit hb) fun r s2 hr2 => ?_
    match r, hr2 with
    | .error _, hr => exact hr
    | .ok .next, hr => exact hr.elim
    | .ok .brk, hr => exact hr.elim
    | .ok .cont, hr => exact hr.elim
    | .ok (.ret o), hr =>
      obtain ⟨rfl, h', tk, c, rfl, hR⟩ := hr
      repeat (any_goals (first | assumption | wp_step))
      exact h _ _ _ hR
end
section
variable {X : Cx}
def rSetL (K : PySem.W.Frag) (w : World) : List V → Hp → VK → Prop := fun xs H Q => ∃ (l : Addr) (ns : List Int), xs = [V.ref l] ∧ SqL K H l (ns.map V.int) ∧ ns.length ≤ 1000 ∧ ∀ (a : Addr) (c : Nat), H a = none → c ≤ ns.length → Q (.ref a) (upd H a (SetO w a (fun j => decide (j ∈ ns)) c))
theorem cr_setL (hc : X.calm = true) : CallR X (.type "set") (rSetL X.K X.w) := by
  intro pins s σ H xs us Q I r h
  obtain ⟨l, ns, rfl, hl, hz, q⟩ := h
  rw [Vals.ref1 r]
  obtain ⟨its, rv, pl, _⟩ := I.list hl
  have hn : H s.heap.objs.size = none := I.hok.fresh (Nat.le_refl _)
  refine call_setL ns (I.ok.hd hc) pl.isList (by simpa using rv.ints) (by unfold scanBound; omega) fun h' tk c ⟨R, hcl, k⟩ => ?_
  exact ⟨.ref s.heap.objs.size, upd H s.heap.objs.size (SetO X.w s.heap.objs.size _ c), I.laid (t' := tk) k (Nat.le_refl _) (setO_new R), rfl, q _ c hn hcl⟩
end
end Lw

set_option Elab.async false
set_option linter.all false
set_option maxRecDepth 100000
set_option maxHeartbeats 4000000
/-! readings where one stands: comprehensions, walks, reprs, tests -/
namespace Lw
open PySem PySem.Spec PyProof.Rows L2 He StX
open En (enc)
/-- what may be shown: n bounds its weight -/
structure Shw (d : PyData) (n : Nat) : Prop where
  s : d.showable = true
  l : d.leavesShort 51 = true
  w : d.weight ≤ n
theorem Shw.mono {d : PyData} {n m : Nat} (h : Shw d n) (k : n ≤ m) : Shw d m := ⟨h.s, h.l, Nat.le_trans h.w k⟩
theorem Shw.int {a : Int} (h : Sm a) : Shw (.int a) 167 := by
  refine ⟨by simp only [PyData.showable, decide_eq_true_eq]; exact h.log, ?_, ?_⟩
  · simp only [PyData.leavesShort, decide_eq_true_eq]
    exact h.len
  · simp only [PyData.weight]
    split
    · omega
    · have h2 : a.natAbs.log2 < 167 := by
        unfold Sm at h
        by_cases z : a.natAbs = 0
        · rw [z]; decide
        · exact (Nat.log2_lt z).mpr (Nat.lt_of_lt_of_le h (by decide +kernel))
      omega
theorem Shw.bool (b : Bool) : Shw (.bool b) 0 := ⟨by simp [PyData.showable], by simp [PyData.leavesShort], by simp [PyData.weight]⟩
theorem Shw.non : Shw .none 0 := ⟨by simp [PyData.showable], by simp [PyData.leavesShort], by simp [PyData.weight]⟩
theorem Shw.all {n : Nat} : ∀ {ds : List PyData}, (∀ d ∈ ds, Shw d n) → PyData.showableAll ds = true ∧ PyData.leavesShortAll 51 ds = true ∧ PyData.weightAll ds ≤ (n + 1) * ds.length
  | [], _ => by simp [PyData.showableAll, PyData.leavesShortAll, PyData.weightAll]
  | d :: ds, h => by
    have h1 := h d (List.mem_cons_self ..)
    obtain ⟨a, b, c⟩ := Shw.all (ds := ds) fun x hx => h x (List.mem_cons_of_mem _ hx)
    have hw := h1.w
    refine ⟨by simp [PyData.showableAll, h1.s, a], by simp [PyData.leavesShortAll, h1.l, b], ?_⟩
    simp only [PyData.weightAll, List.length_cons, Nat.mul_succ]
    omega
theorem Shw.list {n : Nat} {ds : List PyData} (h : ∀ d ∈ ds, Shw d n) : Shw (.list ds) ((n + 1) * ds.length) := by
  obtain ⟨a, b, c⟩ := Shw.all h
  exact ⟨by simp [PyData.showable, a], by simp [PyData.leavesShort, b], by simp only [PyData.weight]; exact c⟩
theorem Shw.tuple {n : Nat} {ds : List PyData} (h : ∀ d ∈ ds, Shw d n) : Shw (.tuple ds) ((n + 1) * ds.length) := by
  obtain ⟨a, b, c⟩ := Shw.all h
  exact ⟨by simp [PyData.showable, a], by simp [PyData.leavesShort, b], by simp only [PyData.weight]; exact c⟩
theorem Shw.ints {ns : List Int} (h : ∀ n ∈ ns, Sm n) : Shw (enc ns) (168 * ns.length) := by
  have := Shw.list (n := 167) (ds := ns.map enc) fun d hd => by
    obtain ⟨n, hn, rfl⟩ := List.mem_map.mp hd
    exact Shw.int (h n hn)
  rwa [List.length_map] at this
theorem Shw.pair {p : Int × Int} (h1 : Sm p.1) (h2 : Sm p.2) : Shw (enc p) 336 := Shw.tuple (n := 167) (ds := [.int p.1, .int p.2]) fun d hd => by
  simp only [List.mem_cons, List.not_mem_nil, or_false] at hd
  rcases hd with rfl | rfl
  · exact Shw.int h1
  · exact Shw.int h2
theorem Sm.nat {n : Nat} (h : n ≤ 1000000) : Sm (n : Int) := by
  unfold Sm
  have : ((n : Int)).natAbs = n := by omega
  rw [this]
  exact Nat.lt_of_le_of_lt h (by decide +kernel)
section
variable {K : PySem.W.Frag} {S S' : List Addr} {H : Hp} {x y : V} {Q : VK}
theorem rRepr_of {d : PyData} {n : Nat} (h : Dx S H x d) (s : Shw d n) (hn : n ≤ 300000) (hd : d.depth ≤ 60) (q : Q (.str d.shown) H) : rReprD K [x] H Q := by
  refine ⟨x, d, rfl, h.dp, s.s, ?_, hd, q⟩
  have h1 := PyData.shown_le 51 (by decide) d s.l
  have h2 := s.w
  have := sizeLine_eq
  have h3 : (51 + 2) * d.weight ≤ 53 * 300000 := Nat.mul_le_mul (by decide) (by omega)
  omega
/-- tests of known outcome -/
theorem iteF {A B : Prop} {b : Bool} (h : b = false) (hB : B) : if b = true then A else B := by subst h; exact hB
theorem iteT' {A B : Prop} {b : Bool} (h : b = true) (hA : A) : if b = true then A else B := by subst h; exact hA
theorem neD_f {α : Type} [Py α] [DecidableEq α] {a b : α} {A B : Hp → Prop} (hx : De S H x a) (hy : De S' H y b) (hd : Py.dep α ≤ 64) (e : a = b) (q : B H) : rNeD K x y H fun z H' => ∃ k, z = .bl k ∧ if k = true then A H' else B H' :=
  rNeD_of hx hy hd ⟨_, rfl, iteF (by rw [decide_eq_true e]; rfl) q⟩
theorem neS_f {a b : Str} {A B : Hp → Prop} (e : a = b) (q : B H) : rNe (.str a) (.str b) H fun z H' => ∃ k, z = .bl k ∧ if k = true then A H' else B H' :=
  rNe_str.mpr ⟨_, rfl, iteF (by rw [decide_eq_true e]; rfl) q⟩
theorem neI_f {a b : Int} {A B : Hp → Prop} (e : a = b) (q : B H) : rNe (.int a) (.int b) H fun z H' => ∃ k, z = .bl k ∧ if k = true then A H' else B H' :=
  rNe_int.mpr ⟨_, rfl, iteF (by rw [decide_eq_true e]; rfl) q⟩
theorem eqD_t {α : Type} [Py α] [DecidableEq α] {a b : α} {A B : Hp → Prop} (hx : De S H x a) (hy : De S' H y b) (hd : Py.dep α ≤ 64) (e : a = b) (q : A H) : rEqD K x y H fun z H' => ∃ k, z = .bl k ∧ if k = true then A H' else B H' :=
  rEqD_of hx hy hd ⟨_, rfl, iteT' (decide_eq_true e) q⟩
end
section
variable {B H H1 : Hp} {T0 S0 S : List Addr} {M : List Mu} {L : List (V × AV)} {v : V} {A : AV}
theorem tLc_c {α : Type} [En α] {wi : TI} {J : It} {n : Nat} {G : Hp → Prop} {Y : Nat → Hp → V → Hp → Prop} {g : TG} {tt : TT} {te : TE} {vs : List Nat} {σ : L2.St} {Q : VK} (C : Ctx B T0 S0 S M L H1) (w : Walk J n G Y) (r : Nat → List α) (hwi : ∀ R : It → Hp → Prop, R J H1 → wi σ H R) (hr : r 0 = [])
    (hG : ∀ D i H', Ctx B T0 S0 (D :: S) (.lst D (r i) :: M) L H' → G H')
    (hs : ∀ D i x H H', i < n → Ctx B T0 S0 (D :: S) (.lst D (r i) :: M) L H → Y i H x H' → g x (wipe σ vs) H' fun σ2 H2 => wipe σ2 vs = wipe σ vs ∧ tt σ2 H2 fun b H3 =>
      if b = true then te σ2 H3 fun y H4 => ∃ acc, H4 D = some (.lst acc) ∧ acc.length < sizeLine ∧ Ctx B T0 S0 (D :: S) (.lst D (r (i + 1)) :: M) L (upd H4 D (.lst (acc ++ [y]))) else Ctx B T0 S0 (D :: S) (.lst D (r (i + 1)) :: M) L H3)
    (hd : ∀ D H', D ∉ S → Ctx B T0 S0 (D :: S) (.lst D (r n) :: M) L H' → Q (.ref D) H') : tLc wi g tt te vs σ H Q := hwi _ (lc_c C w r hr hG hs hd)
/-- a list that stands still, its items known -/
def lx {α : Type} [En α] (a : Addr) (xs : List V) (l : List α) : AV := ⟨fun S H v => v = .ref a ∧ a ∉ S ∧ H a = some (.lst xs) ∧ DeA S H xs l,
  fun ⟨e, n, h, d⟩ k => ⟨e, n, k _ _ n h, DxA.keep k d⟩, fun ⟨e, n, h, d⟩ w => ⟨e, fun z => (w _ z).elim n (fun q => by rw [q] at h; exact nomatch h), h, DxA.wid w d⟩⟩
/-- over a list of data -/
theorem tLc_l {α β : Type} [En α] [En β] {K : PySem.W.Frag} {i : Nat} {l : List β} {g : TG} {tt : TT} {te : TE} {vs : List Nat} {σ : L2.St} {Q : VK} (C : Ctx B T0 S0 S M L H) (hl : De S H v l) (hv : σ[i]? = some (some v)) (r : Nat → List α) (hr : r 0 = [])
    (hs : ∀ F D j x a H', l[j]? = some a → Ctx B T0 S0 (D :: S) (.lst D (r j) :: M) (F :: L) H' → De (D :: S) H' x a → g x (wipe σ vs) H' fun σ2 H2 => wipe σ2 vs = wipe σ vs ∧ tt σ2 H2 fun b H3 =>
      if b = true then te σ2 H3 fun y H4 => ∃ acc, H4 D = some (.lst acc) ∧ acc.length < sizeLine ∧ Ctx B T0 S0 (D :: S) (.lst D (r (j + 1)) :: M) (F :: L) (upd H4 D (.lst (acc ++ [y]))) else Ctx B T0 S0 (D :: S) (.lst D (r (j + 1)) :: M) (F :: L) H3)
    (hd : ∀ D H', D ∉ S → Ctx B T0 S0 (D :: S) (.lst D (r l.length) :: M) L H' → Q (.ref D) H') : tLc (iList K (tVar i)) g tt te vs σ H Q := by
  obtain ⟨a, xs, rfl, na, ea, da⟩ := hl.ls
  refine tLc_c (C.addA (A := lx a xs l) (v := .ref a) ⟨rfl, na, ea, da⟩) (walk_list (K := K) (a := a) (xs := xs)) r (fun R hR => ⟨_, hv, _, rfl, ⟨_, SqL.of ea⟩, hR⟩) hr (fun D i H' C2 => ?_) (fun D i x H2 H3 hi C2 hx => ?_) (fun D H' nD C2 => hd D H' nD (by rw [← da.len]; exact C2.less fun f hf => List.mem_cons_of_mem _ hf))
  · obtain ⟨_, _, e, _⟩ := C2.get (List.mem_cons_self ..)
    exact SqL.of e
  · obtain ⟨e, hx⟩ := hx
    subst e
    obtain ⟨_, _, _, d⟩ := C2.get (List.mem_cons_self ..)
    obtain ⟨b, hb, db⟩ := d.of hx
    exact hs _ D i x b _ hb C2 db
/-- over range(n), its end told by the walk -/
theorem tLc_n {α : Type} [En α] {wi : TI} {n : Nat} {lo : Int} {g : TG} {tt : TT} {te : TE} {vs : List Nat} {σ : L2.St} {Q : VK} (C : Ctx B T0 S0 S M L H1) (r : Nat → List α) (hwi : ∀ R : It → Hp → Prop, R (Itr lo n) H1 → wi σ H R) (hr : r 0 = [])
    (hs : ∀ D (j : Nat) H', j < n → Ctx B T0 S0 (D :: S) (.lst D (r j) :: M) L H' → g (.int (lo + j)) (wipe σ vs) H' fun σ2 H2 => wipe σ2 vs = wipe σ vs ∧ tt σ2 H2 fun b H3 =>
      if b = true then te σ2 H3 fun y H4 => ∃ acc, H4 D = some (.lst acc) ∧ acc.length < sizeLine ∧ Ctx B T0 S0 (D :: S) (.lst D (r (j + 1)) :: M) L (upd H4 D (.lst (acc ++ [y]))) else Ctx B T0 S0 (D :: S) (.lst D (r (j + 1)) :: M) L H3)
    (hd : ∀ D H', D ∉ S → Ctx B T0 S0 (D :: S) (.lst D (r n) :: M) L H' → Q (.ref D) H') : tLc wi g tt te vs σ H Q :=
  tLc_c C (walk_range (lo := lo) (n := n)) r hwi hr (fun _ _ _ _ => trivial) (fun D i x H2 H3 hi C2 ⟨e, hx⟩ => by subst e hx; exact hs D i _ hi C2) hd
/-- a for over a list of data: I by the turn, the slots, the heap -/
theorem tFor_l {β : Type} [En β] {K : PySem.W.Frag} {i : Nat} {l : List β} {g : TG} {tb : TS} {σ : L2.St} {D : Ends} (C : Ctx B T0 S0 S M L H) (hl : De S H v l) (hv : σ[i]? = some (some v)) (I : V × AV → Nat → L2.St → Hp → Prop) (hC : ∀ F j σ H', I F j σ H' → ∃ S' M', (∀ a ∈ S, a ∈ S') ∧ Ctx B T0 S0 S' M' (F :: L) H')
    (h0 : ∀ F, Ctx B T0 S0 S M (F :: L) H → I F 0 σ H) (hs : ∀ F j x a σ H', l[j]? = some a → (∀ S' M', Ctx B T0 S0 S' M' (F :: L) H' → De S' H' x a) → I F j σ H' → g x σ H' fun σ2 H2 => tb { D with nx := I F (j + 1), ct := I F (j + 1), bk := D.nx } σ2 H2)
    (hd : ∀ F σ H', I F l.length σ H' → D.nx σ H') : tFor (iList K (tVar i)) g tb D σ H := by
  obtain ⟨a, xs, rfl, na, ea, da⟩ := hl.ls
  have C1 := C.addA (A := lx a xs l) (v := .ref a) ⟨rfl, na, ea, da⟩
  refine tFor_it H (walk_list (K := K) (a := a) (xs := xs)) (I (.ref a, lx a xs l)) (fun R hR => ⟨_, hv, _, rfl, ⟨_, SqL.of ea⟩, hR⟩) (h0 _ C1) (fun j σ H' _ p => ?_) (fun j x σ H2 H3 hj p ⟨e, hx⟩ => ?_) (fun σ H' p => hd _ _ _ (by rw [← da.len]; exact p))
  · obtain ⟨S', M', _, C2⟩ := hC _ _ _ _ p
    obtain ⟨_, _, e, _⟩ := C2.get (List.mem_cons_self ..)
    exact SqL.of e
  · subst e
    have hj2 : j < l.length := by rw [← da.len]; exact hj
    refine hs _ j x l[j] σ _ (List.getElem?_eq_getElem hj2) (fun S' M' C2 => ?_) p
    obtain ⟨_, _, _, d⟩ := C2.get (List.mem_cons_self ..)
    obtain ⟨b, hb, db⟩ := d.of hx
    rw [List.getElem?_eq_getElem hj2] at hb
    cases hb
    exact db
end
section
variable {K : PySem.W.Frag} {α : Type} [En α] {S : List Addr} {H : Hp} {x : V} {Q : VK}
theorem slD_take {l : List α} {n : Nat} (oS : Old S H) (hx : De S H x l) (hn : n ≤ l.length) (q : ∀ v H', Kp [] H H' → De S H' v (l.take n) → Q v H') : rSlL K x none (some ((n : Nat) : Int)) H Q := by
  obtain ⟨a, xs, rfl, na, ea, da⟩ := hx.ls
  have hl := da.len
  refine ⟨a, xs, rfl, SqL.of ea, newL oS ?_ q⟩
  have e : cutV xs none (some ((n : Nat) : Int)) = xs.take n := by
    unfold cutV
    rw [HT.sIx_nat, HT.sIx_none, List.drop_zero, Nat.sub_zero, Nat.min_eq_left (by omega)]
  rw [e]
  show DxA S H _ ((l.take n).map enc)
  rw [List.map_take]
  exact DxA.take _ da
theorem slD_drop {l : List α} {n : Nat} (oS : Old S H) (hx : De S H x l) (hn : n ≤ l.length) (q : ∀ v H', Kp [] H H' → De S H' v (l.drop n) → Q v H') : rSlL K x (some ((n : Nat) : Int)) none H Q := by
  obtain ⟨a, xs, rfl, na, ea, da⟩ := hx.ls
  have hl := da.len
  refine ⟨a, xs, rfl, SqL.of ea, newL oS ?_ q⟩
  have e : cutV xs (some ((n : Nat) : Int)) none = xs.drop n := by
    unfold cutV
    rw [HT.sIx_nat, HT.sIx_none, Nat.min_eq_left (by omega)]
    refine List.take_of_length_le ?_
    rw [List.length_drop]
    exact Nat.le_refl _
  rw [e]
  show DxA S H _ ((l.drop n).map enc)
  rw [List.map_drop]
  exact DxA.drop _ da
end
/-- what a for asks once it is known what it walks -/
def LoopOK (g : TG) (tb : TS) (D : Ends) (σ : L2.St) (J : It) (H1 : Hp) : Prop := ∃ W : Nat → Nat → L2.St → Hp → Prop, (∃ m, W 0 m σ H1) ∧ ∀ i m σ H, W i m σ H →
  (J.stop i H ∧ D.nx σ H) ∨ (J.go i H ∧ ∃ N : L2.St → Hp → Prop, (∀ σ' H', N σ' H' → ∃ m', m' < m ∧ W (i + 1) m' σ' H') ∧ ∀ x H', J.yld i H x H' → g x σ H' fun σ2 H2 => tb { D with nx := N, ct := N, bk := D.nx } σ2 H2)
theorem tFor_w {wi : TI} {g : TG} {tb : TS} {D : Ends} {σ : L2.St} {H : Hp} (h : wi σ H (LoopOK g tb D σ)) : tFor wi g tb D σ H := h
theorem LoopOK.it {g : TG} {tb : TS} {D : Ends} {σ : L2.St} {H : Hp} {J : It} {n : Nat} {G : Hp → Prop} {Y : Nat → Hp → V → Hp → Prop} (w : Walk J n G Y) (Pv : Nat → L2.St → Hp → Prop) (h0 : Pv 0 σ H) (hG : ∀ i σ H, i ≤ n → Pv i σ H → G H)
    (hs : ∀ i x σ H H', i < n → Pv i σ H → Y i H x H' → g x σ H' fun σ2 H2 => tb { D with nx := Pv (i + 1), ct := Pv (i + 1), bk := D.nx } σ2 H2) (hd : ∀ σ H, Pv n σ H → D.nx σ H) : LoopOK g tb D σ J H := for_it w Pv h0 hG hs hd
def LcOK (g : TG) (tt : TT) (te : TE) (vs : List Nat) (σ : L2.St) (Q : VK) (J : It) (H1 : Hp) : Prop := ∀ D, H1 D = none → ∃ W : Nat → Nat → Hp → Prop, (∃ m, W 0 m (upd H1 D (.lst []))) ∧ ∀ i m H, W i m H →
  (J.stop i H ∧ Q (.ref D) H) ∨ (J.go i H ∧ ∃ Nx : Hp → Prop, (∀ H', Nx H' → ∃ m', m' < m ∧ W (i + 1) m' H') ∧ ∀ x H', J.yld i H x H' → g x (wipe σ vs) H' fun σ2 H2 => wipe σ2 vs = wipe σ vs ∧ tt σ2 H2 fun b H3 =>
    if b = true then te σ2 H3 fun y H4 => ∃ acc, H4 D = some (.lst acc) ∧ acc.length < sizeLine ∧ Nx (upd H4 D (.lst (acc ++ [y]))) else Nx H3)
theorem tLc_w {wi : TI} {g : TG} {tt : TT} {te : TE} {vs : List Nat} {σ : L2.St} {H : Hp} {Q : VK} (h : wi σ H (LcOK g tt te vs σ Q)) : tLc wi g tt te vs σ H Q := h
/-- sorted(set(xs)) of ints -/
theorem srtSet {K : PySem.W.Frag} {w : World} {S : List Addr} {H : Hp} {x : V} {ns : List Int} {Q : VK} (oS : Old S H) (hx : De S H x ns) (hz : ns.length < 64) (q : ∀ v H' (ms : List Int), Kp [] H H' → De S H' v ms → ms.Pairwise (· < ·) → (∀ k, k ∈ ms ↔ k ∈ ns) → ms.length ≤ ns.length → Q v H') : rSetL K w [x] H fun y H1 => rSortedSet w [y] H1 Q := by
  obtain ⟨a, xs, rfl, na, ea, da⟩ := hx.ls
  rw [da.intsV] at ea
  refine ⟨a, ns, rfl, SqL.of ea, by omega, fun b c hb hc => ⟨b, _, c, rfl, upd_same, by omega, fun ms p hp hm hl hpn => ?_⟩⟩
  have k := (Kp.new (S := []) (o := SetO w b (fun j => decide (j ∈ ns)) c) hb).trans (.new (o := .lst (ms.map V.int)) hpn)
  exact q _ _ ms k (De.mkLs ((oS.keep0 (.new hb)).no hpn) upd_same (DxA.ints _)) hp (fun k => by rw [hm k]; simp) (by omega)
theorem rRepr_b {K : PySem.W.Frag} {H : Hp} {b : Bool} {Q : VK} (q : Q (.str (PyData.bool b).shown) H) : rReprD K [.bl b] H Q := rRepr_of (S := []) (Dx.bl b) (Shw.bool b) (by decide) (by cases b <;> decide) q
theorem andV {b : Bool} {i : Int} {f : Int → Bool} (Ψ : Bool → Prop) (h : Ψ (b && f i)) : if b = true then ∃ x, V.int i = .int x ∧ Ψ (f x) else Ψ false := by
  cases b with
  | true => exact ⟨_, rfl, h⟩
  | false => exact h
section
variable {B H H1 : Hp} {T0 S0 S : List Addr} {M : List Mu} {L : List (V × AV)}
/-- a comprehension whose items are drawn: I what is known of them -/
theorem tLc_x {α : Type} [En α] {wi : TI} {J : It} {n : Nat} {G : Hp → Prop} {Y : Nat → Hp → V → Hp → Prop} {g : TG} {tt : TT} {te : TE} {vs : List Nat} {σ : L2.St} {Q : VK} (C : Ctx B T0 S0 S M L H1) (w : Walk J n G Y) (I : Nat → List α → Prop) (hwi : ∀ R : It → Hp → Prop, R J H1 → wi σ H R) (h0 : I 0 [])
    (hG : ∀ D l H', Ctx B T0 S0 (D :: S) (.lst D (l : List α) :: M) L H' → G H')
    (hs : ∀ D i l x H H', i < n → I i l → Ctx B T0 S0 (D :: S) (.lst D l :: M) L H → Y i H x H' → g x (wipe σ vs) H' fun σ2 H2 => wipe σ2 vs = wipe σ vs ∧ tt σ2 H2 fun b H3 =>
      if b = true then te σ2 H3 fun y H4 => ∃ acc, H4 D = some (.lst acc) ∧ acc.length < sizeLine ∧ ∃ l', I (i + 1) l' ∧ Ctx B T0 S0 (D :: S) (.lst D l' :: M) L (upd H4 D (.lst (acc ++ [y]))) else ∃ l', I (i + 1) l' ∧ Ctx B T0 S0 (D :: S) (.lst D l' :: M) L H3)
    (hd : ∀ D l H', D ∉ S → I n l → Ctx B T0 S0 (D :: S) (.lst D l :: M) L H' → Q (.ref D) H') : tLc wi g tt te vs σ H Q :=
  hwi _ fun D hD => lc_it w (fun i H' => ∃ l, I i l ∧ Ctx B T0 S0 (D :: S) (.lst D l :: M) L H') ⟨[], h0, C.pushNil α hD⟩ (fun i H' _ ⟨l, _, p⟩ => hG D l H' p) (fun i x H H' hi ⟨l, hI, p⟩ y => hs D i l x H H' hi hI p y) (fun H' ⟨l, hI, p⟩ => hd D l H' (C.old.no hD) hI p)
theorem Ctx.putX {α : Type} [En α] {f : Addr} {l : List α} {y : V} {a : α} {I : List α → Prop} (C : Ctx B T0 S0 S M L H) (i : Nat) (hm : M[i]? = some (.lst f l)) (hy : De S H y a) (hI : I (l ++ [a])) (hz : l.length < sizeLine) :
    ∃ acc, H f = some (.lst acc) ∧ acc.length < sizeLine ∧ ∃ l', I l' ∧ Ctx B T0 S0 S (M.set i (.lst f l')) L (upd H f (.lst (acc ++ [y]))) := by
  obtain ⟨acc, h1, h2, h3⟩ := C.put i hm hy rfl hz
  exact ⟨acc, h1, h2, _, hI, h3⟩
end
theorem eqD_if {K : PySem.W.Frag} {α : Type} [Py α] [DecidableEq α] {S S' : List Addr} {H : Hp} {x y : V} {a b : α} {A B : Hp → Prop} (hx : De S H x a) (hy : De S' H y b) (hd : Py.dep α ≤ 64) (q : if a = b then A H else B H) : rEqD K x y H fun z H' => ∃ k, z = .bl k ∧ if k = true then A H' else B H' :=
  rEqD_of hx hy hd ⟨_, rfl, by by_cases h : a = b <;> simpa [h] using q⟩
section
variable {B H : Hp} {T0 S0 S : List Addr} {M : List Mu} {L : List (V × AV)}
theorem LcOK.l {α β : Type} [En α] [En β] {K : PySem.W.Frag} {a : Addr} {l : List β} {g : TG} {tt : TT} {te : TE} {vs : List Nat} {σ : L2.St} {Q : VK} (C : Ctx B T0 S0 S M L H) (hl : De S H (.ref a) l) (r : Nat → List α) (hr : r 0 = [])
    (hs : ∀ F D j x a H', l[j]? = some a → Ctx B T0 S0 (D :: S) (.lst D (r j) :: M) (F :: L) H' → De (D :: S) H' x a → g x (wipe σ vs) H' fun σ2 H2 => wipe σ2 vs = wipe σ vs ∧ tt σ2 H2 fun b H3 =>
      if b = true then te σ2 H3 fun y H4 => ∃ acc, H4 D = some (.lst acc) ∧ acc.length < sizeLine ∧ Ctx B T0 S0 (D :: S) (.lst D (r (j + 1)) :: M) (F :: L) (upd H4 D (.lst (acc ++ [y]))) else Ctx B T0 S0 (D :: S) (.lst D (r (j + 1)) :: M) (F :: L) H3)
    (hd : ∀ D H', D ∉ S → Ctx B T0 S0 (D :: S) (.lst D (r l.length) :: M) L H' → Q (.ref D) H') : LcOK g tt te vs σ Q (Itl K a) H := by
  obtain ⟨_, xs, e0, na, ea, da⟩ := hl.ls
  cases e0
  refine lc_c (C.addA (A := lx a xs l) (v := .ref a) ⟨rfl, na, ea, da⟩) (walk_list (K := K) (a := a) (xs := xs)) r hr (fun D i H' C2 => ?_) (fun D i x H2 H3 hi C2 hx => ?_) (fun D H' nD C2 => hd D H' nD (by rw [← da.len]; exact C2.less fun f hf => List.mem_cons_of_mem _ hf))
  · obtain ⟨_, _, e, _⟩ := C2.get (List.mem_cons_self ..)
    exact SqL.of e
  · obtain ⟨e, hx⟩ := hx
    subst e
    obtain ⟨_, _, _, d⟩ := C2.get (List.mem_cons_self ..)
    obtain ⟨b, hb, db⟩ := d.of hx
    exact hs _ D i x b _ hb C2 db
end
theorem SqL_kp {K : PySem.W.Frag} {S : List Addr} {H H' : Hp} {a : Addr} {xs : List V} (h : SqL K H a xs) (k : Kp S H H') (n : ∀ o, H a = some o → a ∉ S) : SqL K H' a xs := by
  rcases h with (h | ⟨ob, h⟩) | h
  · exact .inl (.inl (k a _ (n _ h) h))
  · exact .inl (.inr ⟨ob, k a _ (n _ h) h⟩)
  · exact .inr h
end Lw

set_option Elab.async false
set_option linter.all false
set_option maxRecDepth 100000
set_option maxHeartbeats 4000000
/-! what a value is, by its kind; where a def stands; expressions that have a value -/
namespace Lx
open PySem PySem.Spec PyProof.Rows L2 He StX Lw
open Lw.En (enc)
/-- a kind of values: how one of them stands in the heap -/
class Rv (K : Frag) (α : Type) where
  R : List Addr → Hp → V → α → Prop
  keep : ∀ {S : List Addr} {H H' : Hp} {v : V} {a : α}, R S H v a → Kp S H H' → R S H' v a
  wid : ∀ {S S' : List Addr} {H : Hp} {v : V} {a : α}, R S H v a → (∀ x, x ∈ S' → x ∈ S ∨ H x = none) → R S' H v a
def av (K : Frag) {α : Type} [Rv K α] (a : α) : AV := ⟨fun S H v => Rv.R K S H v a, fun h k => Rv.keep h k, fun h w => Rv.wid h w⟩
section
variable {K : Frag}
instance : Rv K Int := ⟨fun _ _ v a => v = .int a, fun h _ => h, fun h _ => h⟩
instance : Rv K Bool := ⟨fun _ _ v a => v = .bl a, fun h _ => h, fun h _ => h⟩
instance : Rv K Str := ⟨fun _ _ v a => v = .str a, fun h _ => h, fun h _ => h⟩
instance : Rv K Unit := ⟨fun _ _ v _ => v = .non, fun h _ => h, fun h _ => h⟩
/-- at an address that does not change -/
def Fx (S : List Addr) (H : Hp) (p : Addr) (o : HO) : Prop := p ∉ S ∧ H p = some o
theorem Fx.keep {S : List Addr} {H H' : Hp} {p : Addr} {o : HO} (h : Fx S H p o) (k : Kp S H H') : Fx S H' p o := ⟨h.1, k _ _ h.1 h.2⟩
theorem Fx.wid {S S' : List Addr} {H : Hp} {p : Addr} {o : HO} (h : Fx S H p o) (w : ∀ x, x ∈ S' → x ∈ S ∨ H x = none) : Fx S' H p o := ⟨fun z => (w _ z).elim h.1 (fun q => by rw [h.2] at q; cases q), h.2⟩
instance {α β : Type} [Rv K α] [Rv K β] : Rv K (α × β) where
  R := fun S H v a => ∃ p x y, v = .ref p ∧ Fx S H p (.tup [x, y]) ∧ Rv.R K S H x a.1 ∧ Rv.R K S H y a.2
  keep := fun ⟨p, x, y, e, f, h1, h2⟩ k => ⟨p, x, y, e, f.keep k, Rv.keep h1 k, Rv.keep h2 k⟩
  wid := fun ⟨p, x, y, e, f, h1, h2⟩ w => ⟨p, x, y, e, f.wid w, Rv.wid h1 w, Rv.wid h2 w⟩
structure T3 (α β γ : Type) where
  a : α
  b : β
  c : γ
  deriving DecidableEq
instance {α β γ : Type} [Rv K α] [Rv K β] [Rv K γ] : Rv K (T3 α β γ) where
  R := fun S H v a => ∃ p x y z, v = .ref p ∧ Fx S H p (.tup [x, y, z]) ∧ Rv.R K S H x a.a ∧ Rv.R K S H y a.b ∧ Rv.R K S H z a.c
  keep := fun ⟨p, x, y, z, e, f, h1, h2, h3⟩ k => ⟨p, x, y, z, e, f.keep k, Rv.keep h1 k, Rv.keep h2 k, Rv.keep h3 k⟩
  wid := fun ⟨p, x, y, z, e, f, h1, h2, h3⟩ w => ⟨p, x, y, z, e, f.wid w, Rv.wid h1 w, Rv.wid h2 w, Rv.wid h3 w⟩
structure T4 (α β γ δ : Type) where
  a : α
  b : β
  c : γ
  d : δ
  deriving DecidableEq
instance {α β γ δ : Type} [Rv K α] [Rv K β] [Rv K γ] [Rv K δ] : Rv K (T4 α β γ δ) where
  R := fun S H v a => ∃ p x y z u, v = .ref p ∧ Fx S H p (.tup [x, y, z, u]) ∧ Rv.R K S H x a.a ∧ Rv.R K S H y a.b ∧ Rv.R K S H z a.c ∧ Rv.R K S H u a.d
  keep := fun ⟨p, x, y, z, u, e, f, h1, h2, h3, h4⟩ k => ⟨p, x, y, z, u, e, f.keep k, Rv.keep h1 k, Rv.keep h2 k, Rv.keep h3 k, Rv.keep h4 k⟩
  wid := fun ⟨p, x, y, z, u, e, f, h1, h2, h3, h4⟩ w => ⟨p, x, y, z, u, e, f.wid w, Rv.wid h1 w, Rv.wid h2 w, Rv.wid h3 w, Rv.wid h4 w⟩
/-- values one by one -/
def RA {α : Type} (r : V → α → Prop) : List V → List α → Prop
  | [], [] => True
  | v :: vs, a :: as => r v a ∧ RA r vs as
  | _, _ => False
theorem RA.imp {α : Type} {r r' : V → α → Prop} (h : ∀ v a, r v a → r' v a) : ∀ {vs : List V} {as : List α}, RA r vs as → RA r' vs as
  | [], [], _ => trivial
  | v :: vs, a :: as, ⟨h1, h2⟩ => ⟨h v a h1, RA.imp h h2⟩
  | [], _ :: _, h => h.elim
  | _ :: _, [], h => h.elim
theorem RA.len {α : Type} {r : V → α → Prop} : ∀ {vs : List V} {as : List α}, RA r vs as → vs.length = as.length
  | [], [], _ => rfl
  | v :: vs, a :: as, ⟨h1, h2⟩ => congrArg (· + 1) (RA.len h2)
  | [], _ :: _, h => h.elim
  | _ :: _, [], h => h.elim
theorem RA.at {α : Type} {r : V → α → Prop} : ∀ {vs : List V} {as : List α} {i : Nat} {v : V}, RA r vs as → vs[i]? = some v → ∃ a, as[i]? = some a ∧ r v a
  | v :: vs, a :: as, 0, w, ⟨h1, h2⟩, e => by
    simp at e
    subst e
    exact ⟨a, rfl, h1⟩
  | v :: vs, a :: as, i + 1, w, ⟨h1, h2⟩, e => by
    obtain ⟨b, e1, e2⟩ := RA.at (i := i) h2 (by simpa using e)
    exact ⟨b, by simpa using e1, e2⟩
  | [], [], _, _, _, e => by simp at e
  | [], _ :: _, _, _, h, _ => h.elim
  | _ :: _, [], _, _, h, _ => h.elim
theorem RA.of {α : Type} {r : V → α → Prop} {vs : List V} {as : List α} {i : Nat} {a : α} (h : RA r vs as) (e : as[i]? = some a) : ∃ v, vs[i]? = some v ∧ r v a := by
  have hl := h.len
  have hi : i < vs.length := by
    have := (List.getElem?_eq_some_iff.mp e).1
    omega
  obtain ⟨b, e1, e2⟩ := h.at (List.getElem?_eq_getElem hi)
  rw [e] at e1
  cases e1
  exact ⟨_, List.getElem?_eq_getElem hi, e2⟩
theorem RA.app {α : Type} {r : V → α → Prop} : ∀ {vs ws : List V} {as bs : List α}, RA r vs as → RA r ws bs → RA r (vs ++ ws) (as ++ bs)
  | [], _, [], _, _, h => h
  | v :: vs, _, a :: as, _, ⟨h1, h2⟩, h => ⟨h1, RA.app h2 h⟩
  | [], _, _ :: _, _, h, _ => h.elim
  | _ :: _, _, [], _, h, _ => h.elim
theorem RA.take {α : Type} {r : V → α → Prop} : ∀ (n : Nat) {vs : List V} {as : List α}, RA r vs as → RA r (vs.take n) (as.take n)
  | 0, _, _, _ => by simp [RA]
  | n + 1, [], [], _ => by simp [RA]
  | n + 1, v :: vs, a :: as, ⟨h1, h2⟩ => ⟨h1, RA.take n h2⟩
  | n + 1, [], _ :: _, h => h.elim
  | n + 1, _ :: _, [], h => h.elim
theorem RA.drop {α : Type} {r : V → α → Prop} : ∀ (n : Nat) {vs : List V} {as : List α}, RA r vs as → RA r (vs.drop n) (as.drop n)
  | 0, _, _, h => by simpa using h
  | n + 1, [], [], _ => by simp [RA]
  | n + 1, v :: vs, a :: as, ⟨h1, h2⟩ => by simpa using RA.drop n h2
  | n + 1, [], _ :: _, h => h.elim
  | n + 1, _ :: _, [], h => h.elim
theorem RA.set {α : Type} {r : V → α → Prop} : ∀ (n : Nat) {vs : List V} {as : List α} {v : V} {a : α}, RA r vs as → r v a → RA r (vs.set n v) (as.set n a)
  | _, [], [], _, _, _, _ => by simp [RA]
  | 0, v :: vs, a :: as, _, _, ⟨h1, h2⟩, h => ⟨h, h2⟩
  | n + 1, v :: vs, a :: as, _, _, ⟨h1, h2⟩, h => ⟨h1, RA.set n h2 h⟩
  | _, [], _ :: _, _, _, h, _ => h.elim
  | _, _ :: _, [], _, _, h, _ => h.elim
instance {α : Type} [Rv K α] : Rv K (List α) where
  R := fun S H v a => ∃ p xs, v = .ref p ∧ Fx S H p (.lst xs) ∧ xs.length ≤ sizeLine ∧ RA (Rv.R K S H) xs a
  keep := fun ⟨p, xs, e, f, z, h⟩ k => ⟨p, xs, e, f.keep k, z, h.imp fun _ _ h => Rv.keep h k⟩
  wid := fun ⟨p, xs, e, f, z, h⟩ w => ⟨p, xs, e, f.wid w, z, h.imp fun _ _ h => Rv.wid h w⟩
/-- a tuple of the module -/
def KT (K : Frag) (p : Addr) (xs : List V) : Prop := ∃ (o : Obj) (its : Array Value) (n : Nat), K.lookup p = some o ∧ o.cls = .type "tuple" ∧ o.data = .seq its n ∧ its.size ≤ sizeLine ∧ Vals xs its.toList
instance {α : Type} [Rv K α] : Rv K (Tu α) where
  R := fun S H v a => ∃ p xs, v = .ref p ∧ (Fx S H p (.tup xs) ∨ KT K p xs) ∧ xs.length ≤ sizeLine ∧ RA (Rv.R K S H) xs a.l
  keep := fun ⟨p, xs, e, f, z, h⟩ k => ⟨p, xs, e, f.imp (·.keep k) id, z, h.imp fun _ _ h => Rv.keep h k⟩
  wid := fun ⟨p, xs, e, f, z, h⟩ w => ⟨p, xs, e, f.imp (·.wid w) id, z, h.imp fun _ _ h => Rv.wid h w⟩
instance {α : Type} [Rv K α] : Rv K (Option α) where
  R := fun S H v a => match a with
    | none => v = .non
    | some x => v ≠ .non ∧ Rv.R K S H v x
  keep := fun {S H H' v a} h k => by
    cases a with
    | none => exact h
    | some x => exact ⟨h.1, Rv.keep h.2 k⟩
  wid := fun {S S' H v a} h w => by
    cases a with
    | none => exact h
    | some x => exact ⟨h.1, Rv.wid h.2 w⟩
theorem Fx.sqL {S : List Addr} {H : Hp} {p : Addr} {xs : List V} (f : Fx S H p (.lst xs)) : SqL K H p xs := SqL.of f.2
theorem Fx.sqT {S : List Addr} {H : Hp} {p : Addr} {xs : List V} (f : Fx S H p (.tup xs)) : SqT K H p xs := SqT.of f.2
theorem tu_sqT {S : List Addr} {H : Hp} {p : Addr} {xs : List V} (f : Fx S H p (.tup xs) ∨ KT K p xs) : SqT K H p xs := f.elim (·.sqT) fun h => .inr h
theorem tu_keep {S : List Addr} {H H' : Hp} {p : Addr} {xs : List V} (f : Fx S H p (.tup xs) ∨ KT K p xs) (k : Kp S H H') : Fx S H' p (.tup xs) ∨ KT K p xs := f.imp (·.keep k) id

/-! ### kinds that are data -/
instance : Py Unit where
  enc := fun _ => .none
  dep := 0
  eqv := fun a b => by simp [PyData.eqv]
  lay := fun a => by simp [PyData.canLay0]
  dle := fun a => by simp [PyData.depth]
instance {α β γ : Type} [Py α] [Py β] [Py γ] : Py (T3 α β γ) where
  enc := fun p => .tuple [enc p.a, enc p.b, enc p.c]
  dep := max (Py.dep α) (max (Py.dep β) (Py.dep γ)) + 1
  eqv := fun a b => by
    simp only [PyData.eqv, PyData.eqvAll, Bool.and_eq_true, Bool.and_true, Py.eqv]
    constructor
    · rintro ⟨h1, h2, h3⟩
      cases a; cases b; simp_all
    · rintro rfl
      exact ⟨rfl, rfl, rfl⟩
  lay := fun a => by simp [PyData.canLay0, PyData.canLayAll0, Py.lay]
  dle := fun a => by
    have h1 := Py.dle a.a
    have h2 := Py.dle a.b
    have h3 := Py.dle a.c
    simp only [PyData.depth, PyData.depthAll]
    omega
instance {α β γ δ : Type} [Py α] [Py β] [Py γ] [Py δ] : Py (T4 α β γ δ) where
  enc := fun p => .tuple [enc p.a, enc p.b, enc p.c, enc p.d]
  dep := max (Py.dep α) (max (Py.dep β) (max (Py.dep γ) (Py.dep δ))) + 1
  eqv := fun a b => by
    simp only [PyData.eqv, PyData.eqvAll, Bool.and_eq_true, Bool.and_true, Py.eqv]
    constructor
    · rintro ⟨h1, h2, h3, h4⟩
      cases a; cases b; simp_all
    · rintro rfl
      exact ⟨rfl, rfl, rfl, rfl⟩
  lay := fun a => by simp [PyData.canLay0, PyData.canLayAll0, Py.lay]
  dle := fun a => by
    have h1 := Py.dle a.a
    have h2 := Py.dle a.b
    have h3 := Py.dle a.c
    have h4 := Py.dle a.d
    simp only [PyData.depth, PyData.depthAll]
    omega
class Dt (K : Frag) (α : Type) [Rv K α] extends Py α where
  toDp : ∀ {S : List Addr} {H : Hp} {v : V} {a : α}, Rv.R K S H v a → Dp K H v (enc a)
instance : Dt K Int := ⟨fun h => by cases h; exact .int _⟩
instance : Dt K Bool := ⟨fun h => by cases h; exact .bl _⟩
instance : Dt K Unit := ⟨fun h => by cases h; exact .non⟩
theorem RA.dp {α : Type} [Rv K α] [Dt K α] {S : List Addr} {H : Hp} : ∀ {vs : List V} {as : List α}, RA (Rv.R K S H) vs as → DpAll K H vs (as.map enc)
  | [], [], _ => .nil
  | v :: vs, a :: as, ⟨h1, h2⟩ => .cons (Dt.toDp h1) (RA.dp h2)
  | [], _ :: _, h => h.elim
  | _ :: _, [], h => h.elim
instance {α β : Type} [Rv K α] [Rv K β] [Dt K α] [Dt K β] : Dt K (α × β) := ⟨fun ⟨p, x, y, e, f, h1, h2⟩ => by subst e; exact .tup f.sqT (.cons (Dt.toDp h1) (.cons (Dt.toDp h2) .nil))⟩
instance {α β γ : Type} [Rv K α] [Rv K β] [Rv K γ] [Dt K α] [Dt K β] [Dt K γ] : Dt K (T3 α β γ) := ⟨fun ⟨p, x, y, z, e, f, h1, h2, h3⟩ => by subst e; exact .tup f.sqT (.cons (Dt.toDp h1) (.cons (Dt.toDp h2) (.cons (Dt.toDp h3) .nil)))⟩
instance {α β γ δ : Type} [Rv K α] [Rv K β] [Rv K γ] [Rv K δ] [Dt K α] [Dt K β] [Dt K γ] [Dt K δ] : Dt K (T4 α β γ δ) := ⟨fun ⟨p, x, y, z, u, e, f, h1, h2, h3, h4⟩ => by subst e; exact .tup f.sqT (.cons (Dt.toDp h1) (.cons (Dt.toDp h2) (.cons (Dt.toDp h3) (.cons (Dt.toDp h4) .nil))))⟩
instance {α : Type} [Rv K α] [Dt K α] : Dt K (List α) := ⟨fun ⟨p, xs, e, f, z, h⟩ => by subst e; exact .lst f.sqL h.dp⟩
instance {α : Type} [Rv K α] [Dt K α] : Dt K (Tu α) := ⟨fun ⟨p, xs, e, f, z, h⟩ => by subst e; exact .tup (tu_sqT f) h.dp⟩
theorem eqv_dt {α : Type} [Py α] [DecidableEq α] (a b : α) : PyData.eqv (enc a) (enc b) = decide (a = b) := eqv_enc a b
/-- a kind of which none is None -/
class NN (K : Frag) (α : Type) [Rv K α] : Prop where
  nn : ∀ {S : List Addr} {H : Hp} {v : V} {a : α}, Rv.R K S H v a → v ≠ .non
instance : NN K Int := ⟨fun h => by cases h; exact fun z => nomatch z⟩
instance : NN K Bool := ⟨fun h => by cases h; exact fun z => nomatch z⟩
instance : NN K Str := ⟨fun h => by cases h; exact fun z => nomatch z⟩
instance {α β : Type} [Rv K α] [Rv K β] : NN K (α × β) := ⟨fun ⟨p, x, y, e, _⟩ => by subst e; exact fun z => nomatch z⟩
instance {α β γ : Type} [Rv K α] [Rv K β] [Rv K γ] : NN K (T3 α β γ) := ⟨fun ⟨p, x, y, _, e, _⟩ => by subst e; exact fun z => nomatch z⟩
instance {α β γ δ : Type} [Rv K α] [Rv K β] [Rv K γ] [Rv K δ] : NN K (T4 α β γ δ) := ⟨fun ⟨p, x, y, _, _, e, _⟩ => by subst e; exact fun z => nomatch z⟩
instance {α : Type} [Rv K α] : NN K (List α) := ⟨fun ⟨p, x, e, _⟩ => by subst e; exact fun z => nomatch z⟩
instance {α : Type} [Rv K α] : NN K (Tu α) := ⟨fun ⟨p, x, e, _⟩ => by subst e; exact fun z => nomatch z⟩
end
/-! ### where a def stands -/
/-- the slots -/
structure Sl (ts : List (Option AV)) (S : List Addr) (σ : L2.St) (H : Hp) : Prop where
  len : σ.length = ts.length
  at_ : ∀ (i : Nat) (A : AV), ts[i]? = some (some A) → ∃ v, σ[i]? = some (some v) ∧ A.R S H v
theorem Sl.keep {ts : List (Option AV)} {S : List Addr} {σ : L2.St} {H H' : Hp} (h : Sl ts S σ H) (k : Kp S H H') : Sl ts S σ H' := ⟨h.len, fun i A e => let ⟨v, e1, r⟩ := h.at_ i A e; ⟨v, e1, A.keep r k⟩⟩
theorem Sl.wid {ts : List (Option AV)} {S S' : List Addr} {σ : L2.St} {H : Hp} (h : Sl ts S σ H) (w : ∀ x, x ∈ S' → x ∈ S ∨ H x = none) : Sl ts S' σ H := ⟨h.len, fun i A e => let ⟨v, e1, r⟩ := h.at_ i A e; ⟨v, e1, A.wid r w⟩⟩
theorem Sl.set {ts : List (Option AV)} {S : List Addr} {σ : L2.St} {H : Hp} {i : Nat} {v : V} {A : AV} (h : Sl ts S σ H) (r : A.R S H v) : Sl (ts.set i (some A)) S (σ.set i (some v)) H := by
  refine ⟨by rw [List.length_set, List.length_set, h.len], fun j A' e => ?_⟩
  rw [List.getElem?_set] at e
  split at e
  · rename_i hij
    split at e
    · rename_i hl
      have e2 : A = A' := by injection e with e; injection e
      subst e2
      refine ⟨v, ?_, r⟩
      rw [List.getElem?_set, if_pos hij, if_pos (by rw [h.len]; exact hl)]
    · cases e
  · rename_i hij
    obtain ⟨u, e1, r1⟩ := h.at_ j A' e
    refine ⟨u, ?_, r1⟩
    rw [List.getElem?_set, if_neg hij]
    exact e1
/-- fewer slots known -/
inductive Sub : List (Option AV) → List (Option AV) → Prop
  | nil : Sub [] []
  | keep {a : Option AV} {t s : List (Option AV)} (h : Sub t s) : Sub (a :: t) (a :: s)
  | drop {a : Option AV} {t s : List (Option AV)} (h : Sub t s) : Sub (none :: t) (a :: s)
theorem Sub.len {t s : List (Option AV)} (h : Sub t s) : t.length = s.length := by
  induction h with
  | nil => rfl
  | keep h ih => exact congrArg (· + 1) ih
  | drop h ih => exact congrArg (· + 1) ih
theorem Sub.at {t s : List (Option AV)} (h : Sub t s) : ∀ {i : Nat} {A : AV}, t[i]? = some (some A) → s[i]? = some (some A) := by
  induction h with
  | nil => intro i A e; exact e
  | keep h ih =>
    intro i A e
    cases i with
    | zero => exact e
    | succ i => exact ih e
  | drop h ih =>
    intro i A e
    cases i with
    | zero => cases e
    | succ i => exact ih e
theorem Sub.refl : ∀ {t : List (Option AV)}, Sub t t
  | [] => .nil
  | _ :: _ => .keep Sub.refl
theorem Sl.sub {t ts : List (Option AV)} {S : List Addr} {σ : L2.St} {H : Hp} (h : Sl ts S σ H) (s : Sub t ts) : Sl t S σ H := ⟨by rw [h.len, s.len], fun i A e => h.at_ i A (s.at e)⟩
/-- what holds of a def's run: B its heap at the begin, T0 what may change of it, S0 what results keep off, m the things that change, r what it computes, rt what is wanted of its value -/
structure Env (K : Frag) (τ ρ : Type) where
  B : Hp
  T0 : List Addr
  S0 : List Addr
  m : τ → List Mu
  r : ρ
  rt : VK
section
variable {K : Frag} {β τ ρ α γ δ : Type} [Rv K β] [Rv K α] [Rv K γ] [Rv K δ]
structure Env.At (e : Env K τ ρ) (S : List Addr) (N : List Mu) (ts : List (Option AV)) (L : List (V × AV)) (s : τ) (σ : L2.St) (H : Hp) : Prop where
  c : Ctx e.B e.T0 e.S0 S (N ++ e.m s) L H
  s : Sl ts S σ H
variable {e : Env K τ ρ} {S : List Addr} {N : List Mu} {ts ts' : List (Option AV)} {L L' : List (V × AV)} {s : τ} {σ : L2.St} {H H' : Hp} {v : V} {A : AV}
theorem Env.At.add (h : e.At S N ts L s σ H) (r : A.R S H v) : e.At S N ts ((v, A) :: L) s σ H := ⟨h.c.addA r, h.s⟩
theorem Env.At.less (h : e.At S N ts L s σ H) (w : ∀ f ∈ L', f ∈ L) : e.At S N ts L' s σ H := ⟨h.c.less w, h.s⟩
theorem Env.At.pure (h : e.At S N ts L s σ H) (k : Kp [] H H') : e.At S N ts L s σ H' := ⟨h.c.pure k, h.s.keep k.of0⟩
theorem Env.At.get (h : e.At S N ts L s σ H) (m : (v, A) ∈ L) : A.R S H v := h.c.get m
theorem Env.At.set {i : Nat} (h : e.At S N ts L s σ H) (r : A.R S H v) : e.At S N (ts.set i (some A)) L s (σ.set i (some v)) H := ⟨h.c, h.s.set r⟩
theorem Env.At.sub (h : e.At S N ts L s σ H) (w : Sub ts' ts) : e.At S N ts' L s σ H := ⟨h.c, h.s.sub w⟩
theorem m0 {x : V × AV} {L : List (V × AV)} : x ∈ x :: L := List.mem_cons_self ..
theorem m1 {x y : V × AV} {L : List (V × AV)} : x ∈ y :: x :: L := List.mem_cons_of_mem _ (List.mem_cons_self ..)
theorem m2 {x y z : V × AV} {L : List (V × AV)} : x ∈ z :: y :: x :: L := List.mem_cons_of_mem _ (List.mem_cons_of_mem _ (List.mem_cons_self ..))
theorem d1 {x : V × AV} {L : List (V × AV)} : ∀ f ∈ L, f ∈ x :: L := fun _ h => List.mem_cons_of_mem _ h
theorem k1 {a x : V × AV} {L : List (V × AV)} : ∀ f ∈ a :: L, f ∈ a :: x :: L := fun _ h => (List.mem_cons.mp h).elim (fun z => z ▸ m0) fun z => List.mem_cons_of_mem _ (List.mem_cons_of_mem _ z)
theorem k2 {a x y : V × AV} {L : List (V × AV)} : ∀ f ∈ a :: L, f ∈ a :: x :: y :: L := fun _ h => (List.mem_cons.mp h).elim (fun z => z ▸ m0) fun z => List.mem_cons_of_mem _ (List.mem_cons_of_mem _ (List.mem_cons_of_mem _ z))

/-! ### judgements -/
/-- the reading has the value a, whatever the state is -/
def Pu (e : Env K τ ρ) (S : List Addr) (N : List Mu) (ts : List (Option AV)) (te : TE) (L : List (V × AV)) (a : α) : Prop :=
  ∀ s σ H Q, e.At S N ts L s σ H → (∀ v H', e.At S N ts ((v, av K a) :: L) s σ H' → Q v H') → te σ H Q
/-- p is what is computed from here on, k what is computed behind the reading -/
def Ev (e : Env K τ ρ) (S : List Addr) (N : List Mu) (ts : List (Option AV)) (te : TE) (L : List (V × AV)) (s : τ) (p : Option ρ) (k : α → τ → Option ρ) : Prop :=
  p = some e.r → ∀ σ H Q, e.At S N ts L s σ H → (∀ a s' v H', k a s' = some e.r → e.At S N ts ((v, av K a) :: L) s' σ H' → Q v H') → te σ H Q
/-- a test -/
def PuT (e : Env K τ ρ) (S : List Addr) (N : List Mu) (ts : List (Option AV)) (tt : TT) (L : List (V × AV)) (b : Bool) : Prop :=
  ∀ s σ H Q, e.At S N ts L s σ H → (∀ H', e.At S N ts L s σ H' → Q b H') → tt σ H Q
def EvT (e : Env K τ ρ) (S : List Addr) (N : List Mu) (ts : List (Option AV)) (tt : TT) (L : List (V × AV)) (s : τ) (p : Option ρ) (k : Bool → τ → Option ρ) : Prop :=
  p = some e.r → ∀ σ H Q, e.At S N ts L s σ H → (∀ b s' H', k b s' = some e.r → e.At S N ts L s' σ H' → Q b H') → tt σ H Q
/-- a statement: what holds behind it (nx), behind continue, break -/
def Sv (e : Env K τ ρ) (S : List Addr) (N : List Mu) (ts : List (Option AV)) (L : List (V × AV)) (t : TS) (s : τ) (p : Option ρ) (nx ct bk : L2.St → Hp → Prop) : Prop :=
  p = some e.r → ∀ σ H D, e.At S N ts L s σ H → (∀ v H, e.rt v H → D.rt v H) → (∀ σ H, nx σ H → D.nx σ H) → (∀ σ H, ct σ H → D.ct σ H) → (∀ σ H, bk σ H → D.bk σ H) → t D σ H
theorem Pu.ev {te : TE} {a : α} {k : α → τ → Option ρ} (h : Pu e S N ts te L a) : Ev e S N ts te L s (k a s) k := fun hp σ H Q at_ q => h s σ H Q at_ fun v H' a' => q a s v H' hp a'
theorem PuT.ev {tt : TT} {b : Bool} {k : Bool → τ → Option ρ} (h : PuT e S N ts tt L b) : EvT e S N ts tt L s (k b s) k := fun hp σ H Q at_ q => h s σ H Q at_ fun H' a' => q b s H' hp a'

/-! ### leaves -/
theorem pu_var {a : α} (i : Nat) (h : ts[i]? = some (some (av K a))) : Pu e S N ts (tVar i) L a := fun s σ H Q at_ q => by
  obtain ⟨v, hv, hr⟩ := at_.s.at_ i _ h
  exact ⟨v, hv, q v H (at_.add hr)⟩
theorem pu_c {x : V} (a : α) (h : ∀ S H, Rv.R K S H x a) : Pu e S N ts (tC x) L a := fun s σ H Q at_ q => q x H (at_.add (h S H))
theorem pu_int (i : Int) : Pu e S N ts (tC (.int i)) L i := pu_c i fun _ _ => rfl
theorem pu_bl (b : Bool) : Pu e S N ts (tC (.bl b)) L b := pu_c b fun _ _ => rfl
theorem pu_str (x : Str) : Pu e S N ts (tC (.str x)) L x := pu_c x fun _ _ => rfl
theorem pu_non : Pu e S N ts (tC .non) L () := pu_c () fun _ _ => rfl

/-! ### operators -/
def Op1 (K : Frag) {α γ : Type} [Rv K α] [Rv K γ] (r : V → Hp → VK → Prop) (C : α → Prop) (g : α → γ) : Prop := ∀ (S : List Addr) (H : Hp) (x : V) (a : α) (Q : VK), Old S H → Rv.R K S H x a → C a → (∀ v H', Kp [] H H' → Rv.R K S H' v (g a) → Q v H') → r x H Q
def Op2 (K : Frag) {α γ δ : Type} [Rv K α] [Rv K γ] [Rv K δ] (r : R2) (C : α → γ → Prop) (g : α → γ → δ) : Prop := ∀ (S : List Addr) (H : Hp) (x y : V) (a : α) (b : γ) (Q : VK), Old S H → Rv.R K S H x a → Rv.R K S H y b → C a b → (∀ v H', Kp [] H H' → Rv.R K S H' v (g a b) → Q v H') → r x y H Q
def Op1O (K : Frag) {α γ : Type} [Rv K α] [Rv K γ] (r : V → Hp → VK → Prop) (g : α → Option γ) : Prop := ∀ (S : List Addr) (H : Hp) (x : V) (a : α) (c : γ) (Q : VK), Old S H → Rv.R K S H x a → g a = some c → (∀ v H', Kp [] H H' → Rv.R K S H' v c → Q v H') → r x H Q
def Op2O (K : Frag) {α γ δ : Type} [Rv K α] [Rv K γ] [Rv K δ] (r : R2) (g : α → γ → Option δ) : Prop := ∀ (S : List Addr) (H : Hp) (x y : V) (a : α) (b : γ) (c : δ) (Q : VK), Old S H → Rv.R K S H x a → Rv.R K S H y b → g a b = some c → (∀ v H', Kp [] H H' → Rv.R K S H' v c → Q v H') → r x y H Q
abbrev C1 {α : Type} : α → Prop := fun _ => True
abbrev C2 {α γ : Type} : α → γ → Prop := fun _ _ => True
/-- the value stands at the heap behind, and as a fact -/
theorem Env.At.res {c : γ} (at_ : e.At S N ts (L' ++ L) s σ H) (k : Kp [] H H') (r : Rv.R K S H' v c) : e.At S N ts ((v, av K c) :: L) s σ H' :=
  ((at_.pure k).less fun f hf => List.mem_append_right _ hf).add r
variable {te ta tb : TE} {r : R2} {r1 : V → Hp → VK → Prop} {a : α} {b : γ} {p : Option ρ}
theorem pu_op {g : α → γ → δ} (h1 : Pu e S N ts ta L a) (h2 : ∀ v, Pu e S N ts tb ((v, av K a) :: L) b) (o : Op2 K r C2 g) : Pu e S N ts (tOp r ta tb) L (g a b) := fun s σ H Q at_ q =>
  h1 s σ H _ at_ fun x H1 a1 => h2 x s σ H1 _ a1 fun y H2 a2 => o S H2 x y a b Q a2.c.old (a2.get m1) (a2.get m0) trivial fun v H' k r => q v H' (a2.res (L' := [_, _]) k r)
theorem ev_op {g : α → γ → δ} {k1 : α → τ → Option ρ} {k : δ → τ → Option ρ} (h1 : Ev e S N ts ta L s p k1) (h2 : ∀ a s1 v, Ev e S N ts tb ((v, av K a) :: L) s1 (k1 a s1) fun b s2 => k (g a b) s2) (o : Op2 K r C2 g) : Ev e S N ts (tOp r ta tb) L s p k := fun hp σ H Q at_ q =>
  h1 hp σ H _ at_ fun a s1 x H1 e1 a1 => h2 a s1 x e1 σ H1 _ a1 fun b s2 y H2 e2 a2 => o S H2 x y a b Q a2.c.old (a2.get m1) (a2.get m0) trivial fun v H' k r => q _ _ v H' e2 (a2.res (L' := [_, _]) k r)
theorem ev_opC {C : α → γ → Prop} [∀ a b, Decidable (C a b)] {g : α → γ → δ} {k1 : α → τ → Option ρ} {k : δ → τ → Option ρ} (h1 : Ev e S N ts ta L s p k1) (h2 : ∀ a s1 v, Ev e S N ts tb ((v, av K a) :: L) s1 (k1 a s1) fun b s2 => if C a b then k (g a b) s2 else none) (o : Op2 K r C g) : Ev e S N ts (tOp r ta tb) L s p k := fun hp σ H Q at_ q =>
  h1 hp σ H _ at_ fun a s1 x H1 e1 a1 => h2 a s1 x e1 σ H1 _ a1 fun b s2 y H2 e2 a2 => by
    dsimp only at e2
    split at e2
    · rename_i hc
      exact o S H2 x y a b Q a2.c.old (a2.get m1) (a2.get m0) hc fun v H' k r => q _ _ v H' e2 (a2.res (L' := [_, _]) k r)
    · cases e2
theorem ev_opO {g : α → γ → Option δ} {k1 : α → τ → Option ρ} {k : δ → τ → Option ρ} (h1 : Ev e S N ts ta L s p k1) (h2 : ∀ a s1 v, Ev e S N ts tb ((v, av K a) :: L) s1 (k1 a s1) fun b s2 => (g a b).bind fun c => k c s2) (o : Op2O K r g) : Ev e S N ts (tOp r ta tb) L s p k := fun hp σ H Q at_ q =>
  h1 hp σ H _ at_ fun a s1 x H1 e1 a1 => h2 a s1 x e1 σ H1 _ a1 fun b s2 y H2 e2 a2 => by
    obtain ⟨c, hc, e3⟩ := Option.bind_eq_some_iff.mp e2
    exact o S H2 x y a b c Q a2.c.old (a2.get m1) (a2.get m0) hc fun v H' k r => q _ _ v H' e3 (a2.res (L' := [_, _]) k r)
theorem pu_un {g : α → γ} (h1 : Pu e S N ts ta L a) (o : Op1 K r1 C1 g) : Pu e S N ts (tUn r1 ta) L (g a) := fun s σ H Q at_ q =>
  h1 s σ H _ at_ fun x H1 a1 => o S H1 x a Q a1.c.old (a1.get m0) trivial fun v H' k r => q v H' (a1.res (L' := [_]) k r)
theorem ev_un {g : α → γ} {k : γ → τ → Option ρ} (h1 : Ev e S N ts ta L s p fun a s1 => k (g a) s1) (o : Op1 K r1 C1 g) : Ev e S N ts (tUn r1 ta) L s p k := fun hp σ H Q at_ q =>
  h1 hp σ H _ at_ fun a s1 x H1 e1 a1 => o S H1 x a Q a1.c.old (a1.get m0) trivial fun v H' k r => q _ _ v H' e1 (a1.res (L' := [_]) k r)
/-- f(x), f of the language -/
theorem pu_cb1 {rb : List V → Hp → VK → Prop} {g : α → γ} (h1 : Pu e S N ts ta L a) (o : Op1 K (fun x => rb [x]) C1 g) : Pu e S N ts (tCB rb (tCons ta tNil)) L (g a) := fun s σ H Q at_ q =>
  h1 s σ H _ at_ fun x H1 a1 => o S H1 x a Q a1.c.old (a1.get m0) trivial fun v H' k r => q v H' (a1.res (L' := [_]) k r)
theorem ev_cb1 {rb : List V → Hp → VK → Prop} {g : α → γ} {k : γ → τ → Option ρ} (h1 : Ev e S N ts ta L s p fun a s1 => k (g a) s1) (o : Op1 K (fun x => rb [x]) C1 g) : Ev e S N ts (tCB rb (tCons ta tNil)) L s p k := fun hp σ H Q at_ q =>
  h1 hp σ H _ at_ fun a s1 x H1 e1 a1 => o S H1 x a Q a1.c.old (a1.get m0) trivial fun v H' k r => q _ _ v H' e1 (a1.res (L' := [_]) k r)
theorem ev_cb1C {rb : List V → Hp → VK → Prop} {C : α → Prop} [∀ a, Decidable (C a)] {g : α → γ} {k : γ → τ → Option ρ} (h1 : Ev e S N ts ta L s p fun a s1 => if C a then k (g a) s1 else none) (o : Op1 K (fun x => rb [x]) C g) : Ev e S N ts (tCB rb (tCons ta tNil)) L s p k := fun hp σ H Q at_ q =>
  h1 hp σ H _ at_ fun a s1 x H1 e1 a1 => by
    dsimp only at e1
    split at e1
    · rename_i hc
      exact o S H1 x a Q a1.c.old (a1.get m0) hc fun v H' k r => q _ _ v H' e1 (a1.res (L' := [_]) k r)
    · cases e1
theorem ev_cb1O {rb : List V → Hp → VK → Prop} {g : α → Option γ} {k : γ → τ → Option ρ} (h1 : Ev e S N ts ta L s p fun a s1 => (g a).bind fun c => k c s1) (o : Op1O K (fun x => rb [x]) g) : Ev e S N ts (tCB rb (tCons ta tNil)) L s p k := fun hp σ H Q at_ q =>
  h1 hp σ H _ at_ fun a s1 x H1 e1 a1 => by
    obtain ⟨c, hc, e3⟩ := Option.bind_eq_some_iff.mp e1
    exact o S H1 x a c Q a1.c.old (a1.get m0) hc fun v H' k r => q _ _ v H' e3 (a1.res (L' := [_]) k r)
theorem pu_cb2 {rb : List V → Hp → VK → Prop} {g : α → γ → δ} (h1 : Pu e S N ts ta L a) (h2 : ∀ v, Pu e S N ts tb ((v, av K a) :: L) b) (o : Op2 K (fun x y => rb [x, y]) C2 g) : Pu e S N ts (tCB rb (tCons ta (tCons tb tNil))) L (g a b) := fun s σ H Q at_ q =>
  h1 s σ H _ at_ fun x H1 a1 => h2 x s σ H1 _ a1 fun y H2 a2 => o S H2 x y a b Q a2.c.old (a2.get m1) (a2.get m0) trivial fun v H' k r => q v H' (a2.res (L' := [_, _]) k r)
theorem ev_cb2 {rb : List V → Hp → VK → Prop} {g : α → γ → δ} {k1 : α → τ → Option ρ} {k : δ → τ → Option ρ} (h1 : Ev e S N ts ta L s p k1) (h2 : ∀ a s1 v, Ev e S N ts tb ((v, av K a) :: L) s1 (k1 a s1) fun b s2 => k (g a b) s2) (o : Op2 K (fun x y => rb [x, y]) C2 g) : Ev e S N ts (tCB rb (tCons ta (tCons tb tNil))) L s p k := fun hp σ H Q at_ q =>
  h1 hp σ H _ at_ fun a s1 x H1 e1 a1 => h2 a s1 x e1 σ H1 _ a1 fun b s2 y H2 e2 a2 => o S H2 x y a b Q a2.c.old (a2.get m1) (a2.get m0) trivial fun v H' k r => q _ _ v H' e2 (a2.res (L' := [_, _]) k r)
theorem ev_cb2C {rb : List V → Hp → VK → Prop} {C : α → γ → Prop} [∀ a b, Decidable (C a b)] {g : α → γ → δ} {k1 : α → τ → Option ρ} {k : δ → τ → Option ρ} (h1 : Ev e S N ts ta L s p k1) (h2 : ∀ a s1 v, Ev e S N ts tb ((v, av K a) :: L) s1 (k1 a s1) fun b s2 => if C a b then k (g a b) s2 else none) (o : Op2 K (fun x y => rb [x, y]) C g) : Ev e S N ts (tCB rb (tCons ta (tCons tb tNil))) L s p k := fun hp σ H Q at_ q =>
  h1 hp σ H _ at_ fun a s1 x H1 e1 a1 => h2 a s1 x e1 σ H1 _ a1 fun b s2 y H2 e2 a2 => by
    dsimp only at e2
    split at e2
    · rename_i hc
      exact o S H2 x y a b Q a2.c.old (a2.get m1) (a2.get m0) hc fun v H' k r => q _ _ v H' e2 (a2.res (L' := [_, _]) k r)
    · cases e2
end
end Lx

set_option Elab.async false
set_option linter.all false
set_option maxRecDepth 100000
set_option maxHeartbeats 4000000
/-! tests, and/or, chains, displays, calls, statements -/
namespace Lx
open PySem PySem.Spec PyProof.Rows L2 He StX Lw
open Lw.En (enc)
section
variable {K : Frag} {β τ ρ α γ δ : Type} [Rv K β] [Rv K α] [Rv K γ] [Rv K δ]
variable {e : Env K τ ρ} {S : List Addr} {N : List Mu} {ts ts' : List (Option AV)} {L L' : List (V × AV)} {s : τ} {σ : L2.St} {H H' : Hp} {v : V} {A : AV}
variable {te ta tb tc : TE} {tt tu : TT} {r r' : R2} {a : α} {b c : Bool} {p : Option ρ}
theorem bl_of {S : List Addr} {H : Hp} {v : V} {b : Bool} (h : (av K b).R S H v) : v = .bl b := h
theorem int_of {S : List Addr} {H : Hp} {v : V} {b : Int} (h : (av K b).R S H v) : v = .int b := h
/-! ### tests -/
theorem puT_test (h : Pu e S N ts te L b) : PuT e S N ts (tTest te) L b := fun s σ H Q at_ q => h s σ H _ at_ fun x H1 a1 => ⟨b, bl_of (a1.get m0), q H1 (a1.less d1)⟩
theorem evT_test {k : Bool → τ → Option ρ} (h : Ev e S N ts te L s p k) : EvT e S N ts (tTest te) L s p k := fun hp σ H Q at_ q => h hp σ H _ at_ fun a s' x H1 e1 a1 => ⟨a, bl_of (a1.get m0), q _ _ H1 e1 (a1.less d1)⟩
theorem puT_B (h : Pu e S N ts te L b) : PuT e S N ts (tB te) L b := fun s σ H Q at_ q => h s σ H _ at_ fun x H1 a1 => ⟨b, bl_of (a1.get m0), q H1 (a1.less d1)⟩
theorem evT_B {k : Bool → τ → Option ρ} (h : Ev e S N ts te L s p k) : EvT e S N ts (tB te) L s p k := fun hp σ H Q at_ q => h hp σ H _ at_ fun a s' x H1 e1 a1 => ⟨a, bl_of (a1.get m0), q _ _ H1 e1 (a1.less d1)⟩
theorem puT_not (h : PuT e S N ts tt L b) : PuT e S N ts (tNot tt) L (!b) := fun s σ H Q at_ q => h s σ H _ at_ q
theorem evT_not {k : Bool → τ → Option ρ} (h : EvT e S N ts tt L s p fun b s1 => k (!b) s1) : EvT e S N ts (tNot tt) L s p k := fun hp σ H Q at_ q => h hp σ H _ at_ fun b s1 H1 e1 a1 => q _ _ H1 e1 a1
theorem puT_and (h1 : PuT e S N ts tt L b) (h2 : PuT e S N ts tu L c) : PuT e S N ts (tAnd tt tu) L (b && c) := fun s σ H Q at_ q => h1 s σ H _ at_ fun H1 a1 => by
  cases b with
  | true => exact h2 s σ H1 Q a1 q
  | false => exact q H1 a1
theorem puT_or (h1 : PuT e S N ts tt L b) (h2 : PuT e S N ts tu L c) : PuT e S N ts (tOr tt tu) L (b || c) := fun s σ H Q at_ q => h1 s σ H _ at_ fun H1 a1 => by
  cases b with
  | true => exact q H1 a1
  | false => exact h2 s σ H1 Q a1 q
theorem evT_and {p2 : τ → Option ρ} {k : Bool → τ → Option ρ} (h1 : EvT e S N ts tt L s p fun b s1 => if b = true then p2 s1 else k false s1) (h2 : ∀ s1, EvT e S N ts tu L s1 (p2 s1) k) : EvT e S N ts (tAnd tt tu) L s p k := fun hp σ H Q at_ q =>
  h1 hp σ H _ at_ fun b s1 H1 e1 a1 => by
    cases b with
    | true => exact h2 s1 e1 σ H1 Q a1 q
    | false => exact q false s1 H1 e1 a1
theorem evT_or {p2 : τ → Option ρ} {k : Bool → τ → Option ρ} (h1 : EvT e S N ts tt L s p fun b s1 => if b = true then k true s1 else p2 s1) (h2 : ∀ s1, EvT e S N ts tu L s1 (p2 s1) k) : EvT e S N ts (tOr tt tu) L s p k := fun hp σ H Q at_ q =>
  h1 hp σ H _ at_ fun b s1 H1 e1 a1 => by
    cases b with
    | true => exact q true s1 H1 e1 a1
    | false => exact h2 s1 e1 σ H1 Q a1 q
/-! ### truth values -/
theorem pu_not (h : Pu e S N ts te L b) : Pu e S N ts (tNotV te) L (!b) := fun s σ H Q at_ q => h s σ H _ at_ fun x H1 a1 => ⟨b, bl_of (a1.get m0), q _ H1 ((a1.less d1).add (A := av K (!b)) rfl)⟩
theorem ev_not {k : Bool → τ → Option ρ} (h : Ev e S N ts te L s p fun b s1 => k (!b) s1) : Ev e S N ts (tNotV te) L s p k := fun hp σ H Q at_ q => h hp σ H _ at_ fun a s1 x H1 e1 a1 => ⟨a, bl_of (a1.get m0), q _ _ _ H1 e1 ((a1.less d1).add (A := av K (!a)) rfl)⟩
theorem pu_and (h1 : Pu e S N ts ta L b) (h2 : Pu e S N ts tb L c) : Pu e S N ts (tAndV ta tb) L (b && c) := fun s σ H Q at_ q => h1 s σ H _ at_ fun x H1 a1 => ⟨b, bl_of (a1.get m0), by
  cases b with
  | true => exact h2 s σ H1 Q (a1.less d1) q
  | false => exact q _ H1 ((a1.less d1).add (A := av K (false && c)) rfl)⟩
theorem pu_or (h1 : Pu e S N ts ta L b) (h2 : Pu e S N ts tb L c) : Pu e S N ts (tOrV ta tb) L (b || c) := fun s σ H Q at_ q => h1 s σ H _ at_ fun x H1 a1 => ⟨b, bl_of (a1.get m0), by
  cases b with
  | true => exact q _ H1 ((a1.less d1).add (A := av K (true || c)) rfl)
  | false => exact h2 s σ H1 Q (a1.less d1) q⟩
theorem ev_and {p2 : τ → Option ρ} {k : Bool → τ → Option ρ} (h1 : Ev e S N ts ta L s p fun (b : Bool) s1 => if b = true then p2 s1 else k false s1) (h2 : ∀ s1, Ev e S N ts tb L s1 (p2 s1) k) : Ev e S N ts (tAndV ta tb) L s p k := fun hp σ H Q at_ q =>
  h1 hp σ H _ at_ fun b s1 x H1 e1 a1 => ⟨b, bl_of (a1.get m0), by
    cases b with
    | true => exact h2 s1 e1 σ H1 Q (a1.less d1) q
    | false => exact q false s1 _ H1 e1 ((a1.less d1).add (A := av K false) rfl)⟩
theorem ev_or {p2 : τ → Option ρ} {k : Bool → τ → Option ρ} (h1 : Ev e S N ts ta L s p fun (b : Bool) s1 => if b = true then k true s1 else p2 s1) (h2 : ∀ s1, Ev e S N ts tb L s1 (p2 s1) k) : Ev e S N ts (tOrV ta tb) L s p k := fun hp σ H Q at_ q =>
  h1 hp σ H _ at_ fun b s1 x H1 e1 a1 => ⟨b, bl_of (a1.get m0), by
    cases b with
    | true => exact q true s1 _ H1 e1 ((a1.less d1).add (A := av K true) rfl)
    | false => exact h2 s1 e1 σ H1 Q (a1.less d1) q⟩
/-! ### x if t else y -/
theorem pu_if {a b : α} {c : Bool} (ht : PuT e S N ts tt L c) (h1 : Pu e S N ts ta L a) (h2 : Pu e S N ts tb L b) : Pu e S N ts (tIf tt ta tb) L (if c = true then a else b) := fun s σ H Q at_ q => ht s σ H _ at_ fun H1 a1 => by
  cases c with
  | true => exact h1 s σ H1 Q a1 q
  | false => exact h2 s σ H1 Q a1 q
theorem ev_if {p1 p2 : τ → Option ρ} {k : α → τ → Option ρ} (ht : EvT e S N ts tt L s p fun c s1 => if c = true then p1 s1 else p2 s1) (h1 : ∀ s1, Ev e S N ts ta L s1 (p1 s1) k) (h2 : ∀ s1, Ev e S N ts tb L s1 (p2 s1) k) : Ev e S N ts (tIf tt ta tb) L s p k := fun hp σ H Q at_ q =>
  ht hp σ H _ at_ fun c s1 H1 e1 a1 => by
    cases c with
    | true => exact h1 s1 e1 σ H1 Q a1 q
    | false => exact h2 s1 e1 σ H1 Q a1 q
/-! ### a < b < c -/
theorem pu_chain {α1 α2 α3 : Type} [Rv K α1] [Rv K α2] [Rv K α3] {x : α1} {y : α2} {z : α3} {g : α1 → α2 → Bool} {g' : α2 → α3 → Bool} (h1 : Pu e S N ts ta L x) (h2 : ∀ v, Pu e S N ts tb ((v, av K x) :: L) y) (h3 : ∀ v w, Pu e S N ts tc ((w, av K y) :: (v, av K x) :: L) z) (o : Op2 K r C2 g) (o' : Op2 K r' C2 g') :
    Pu e S N ts (tChain r r' ta tb tc) L (g x y && g' y z) := fun s σ H Q at_ q => h1 s σ H _ at_ fun x1 H1 a1 => h2 x1 s σ H1 _ a1 fun y1 H2 a2 => o S H2 x1 y1 x y _ a2.c.old (a2.get m1) (a2.get m0) trivial fun v H3 k3 r3 => ⟨g x y, bl_of r3, by
      have a3 := a2.pure k3
      cases hg : g x y with
      | true =>
        rw [if_pos rfl]
        refine h3 x1 y1 s σ H3 _ a3 fun w H4 a4 => o' S H4 y1 w y z _ a4.c.old (a4.get m1) (a4.get m0) trivial fun u H5 k5 r5 => ?_
        refine q u H5 ?_
        rw [hg] at *
        exact a4.res (L' := [_, _, _]) k5 (by simpa using r5)
      | false =>
        rw [if_neg (by decide)]
        refine q _ H3 ?_
        rw [hg]
        exact (a3.less (fun f hf => List.mem_cons_of_mem _ (List.mem_cons_of_mem _ hf))).add (A := av K (false && g' y z)) rfl⟩
theorem ev_chain {α1 α2 α3 : Type} [Rv K α1] [Rv K α2] [Rv K α3] {g : α1 → α2 → Bool} {g' : α2 → α3 → Bool} {k1 : α1 → τ → Option ρ} {k2 : α1 → α2 → τ → Option ρ} {k : Bool → τ → Option ρ} (h1 : Ev e S N ts ta L s p k1)
    (h2 : ∀ x s1 v, Ev e S N ts tb ((v, av K x) :: L) s1 (k1 x s1) fun y s2 => if g x y = true then k2 x y s2 else k false s2)
    (h3 : ∀ x y s2 v w, Ev e S N ts tc ((w, av K y) :: (v, av K x) :: L) s2 (k2 x y s2) fun z s3 => k (g' y z) s3) (o : Op2 K r C2 g) (o' : Op2 K r' C2 g') : Ev e S N ts (tChain r r' ta tb tc) L s p k := fun hp σ H Q at_ q =>
  h1 hp σ H _ at_ fun x s1 x1 H1 e1 a1 => h2 x s1 x1 e1 σ H1 _ a1 fun y s2 y1 H2 e2 a2 => o S H2 x1 y1 x y _ a2.c.old (a2.get m1) (a2.get m0) trivial fun v H3 k3 r3 => ⟨g x y, bl_of r3, by
      have a3 := a2.pure k3
      dsimp only at e2
      cases hg : g x y with
      | true =>
        rw [hg, if_pos rfl] at e2
        rw [if_pos rfl]
        exact h3 x y s2 x1 y1 e2 σ H3 _ a3 fun z s3 w H4 e4 a4 => o' S H4 y1 w y z _ a4.c.old (a4.get m1) (a4.get m0) trivial fun u H5 k5 r5 => q _ s3 u H5 e4 (a4.res (L' := [_, _, _]) k5 r5)
      | false =>
        rw [hg, if_neg (by decide)] at e2
        rw [if_neg (by decide)]
        exact q false s2 _ H3 e2 ((a3.less (fun f hf => List.mem_cons_of_mem _ (List.mem_cons_of_mem _ hf))).add (A := av K false) rfl)⟩
/-! ### x is None -/
theorem pu_isN [NN K α] (h : Pu e S N ts te L a) : Pu e S N ts (tIsN te) L false := fun s σ H Q at_ q => h s σ H _ at_ fun x H1 a1 => by
  have n : x ≠ .non := NN.nn (K := K) (a1.get m0)
  rw [decide_eq_false n]
  exact q _ H1 ((a1.less d1).add (A := av K false) rfl)
theorem pu_isN0 (h : Pu e S N ts te L ()) : Pu e S N ts (tIsN te) L true := fun s σ H Q at_ q => h s σ H _ at_ fun x H1 a1 => by
  have n : x = .non := a1.get (A := av K ()) m0
  rw [decide_eq_true n]
  exact q _ H1 ((a1.less d1).add (A := av K true) rfl)
theorem pu_isNO {a : Option α} (h : Pu e S N ts te L a) : Pu e S N ts (tIsN te) L a.isNone := fun s σ H Q at_ q => h s σ H _ at_ fun x H1 a1 => by
  have n : Rv.R K S H1 x a := a1.get (A := av K a) m0
  refine q _ H1 ((a1.less d1).add (A := av K a.isNone) ?_)
  show V.bl _ = V.bl _
  congr 1
  cases a with
  | none => exact decide_eq_true n
  | some z => exact decide_eq_false n.1
/-! ### values as others -/
/-- a value, read as one of another kind -/
theorem pu_as {a : α} {c : γ} (h : Pu e S N ts te L a) (w : ∀ S H v, Rv.R K S H v a → Rv.R K S H v c) : Pu e S N ts te L c := fun s σ H Q at_ q => h s σ H _ at_ fun x H1 a1 => q x H1 ((a1.less d1).add (A := av K c) (w S H1 x (a1.get m0)))
theorem ev_as {g : α → γ} {k : γ → τ → Option ρ} (h : Ev e S N ts te L s p fun a s1 => k (g a) s1) (w : ∀ (a : α) S H v, Rv.R K S H v a → Rv.R K S H v (g a)) : Ev e S N ts te L s p k := fun hp σ H Q at_ q => h hp σ H _ at_ fun a s1 x H1 e1 a1 => q (g a) s1 x H1 e1 ((a1.less d1).add (A := av K (g a)) (w a S H1 x (a1.get m0)))
theorem as_some [NN K α] (a : α) (S : List Addr) (H : Hp) (v : V) (h : Rv.R K S H v a) : Rv.R K S H v (some a) := ⟨NN.nn h, h⟩
theorem as_none (S : List Addr) (H : Hp) (v : V) (h : Rv.R K S H v ()) : Rv.R K S H v (none : Option α) := h
theorem as_pair (a : α × α) (S : List Addr) (H : Hp) (v : V) (h : Rv.R K S H v a) : Rv.R K S H v (Tu.mk [a.1, a.2]) := by
  obtain ⟨p, x, y, e, f, h1, h2⟩ := h
  exact ⟨p, [x, y], e, .inl f, by rw [sizeLine_eq]; simp, h1, h2, trivial⟩
/-! ### arguments -/
class Ra (K : Frag) (As : Type) where
  avs : As → List AV
instance : Ra K Unit := ⟨fun _ => []⟩
instance {α As : Type} [Rv K α] [Ra K As] : Ra K (α × As) := ⟨fun x => av K x.1 :: Ra.avs K x.2⟩
def AllV (S : List Addr) (H : Hp) : List V → List AV → Prop
  | [], [] => True
  | v :: vs, A :: As => A.R S H v ∧ AllV S H vs As
  | _, _ => False
theorem AllV.keep {S : List Addr} {H H' : Hp} (k : Kp S H H') : ∀ {vs : List V} {As : List AV}, AllV S H vs As → AllV S H' vs As
  | [], [], _ => trivial
  | v :: vs, A :: As, ⟨h1, h2⟩ => ⟨A.keep h1 k, h2.keep k⟩
  | [], _ :: _, h => h.elim
  | _ :: _, [], h => h.elim
theorem AllV.wid {S S' : List Addr} {H : Hp} (w : ∀ x, x ∈ S' → x ∈ S ∨ H x = none) : ∀ {vs : List V} {As : List AV}, AllV S H vs As → AllV S' H vs As
  | [], [], _ => trivial
  | v :: vs, A :: As, ⟨h1, h2⟩ => ⟨A.wid h1 w, h2.wid w⟩
  | [], _ :: _, h => h.elim
  | _ :: _, [], h => h.elim
def allA (vs : List V) (As : List AV) : AV := ⟨fun S H _ => AllV S H vs As, fun h k => h.keep k, fun h w => h.wid w⟩
def PuA {As : Type} [Ra K As] (e : Env K τ ρ) (S : List Addr) (N : List Mu) (ts : List (Option AV)) (ta : TA) (L : List (V × AV)) (as : As) : Prop :=
  ∀ s σ H Q, e.At S N ts L s σ H → (∀ vs H', e.At S N ts ((.non, allA vs (Ra.avs K as)) :: L) s σ H' → Q vs H') → ta σ H Q
def EvA {As : Type} [Ra K As] (e : Env K τ ρ) (S : List Addr) (N : List Mu) (ts : List (Option AV)) (ta : TA) (L : List (V × AV)) (s : τ) (p : Option ρ) (k : As → τ → Option ρ) : Prop :=
  p = some e.r → ∀ σ H Q, e.At S N ts L s σ H → (∀ as s' vs H', k as s' = some e.r → e.At S N ts ((.non, allA vs (Ra.avs K as)) :: L) s' σ H' → Q vs H') → ta σ H Q
variable {As : Type} [Ra K As] {tA tA' : TA}
theorem PuA.ev {as : As} {k : As → τ → Option ρ} (h : PuA e S N ts tA L as) : EvA e S N ts tA L s (k as s) k := fun hp σ H Q at_ q => h s σ H Q at_ fun vs H' a' => q as s vs H' hp a'
theorem puA_nil : PuA (As := Unit) e S N ts tNil L () := fun s σ H Q at_ q => q [] H (at_.add (v := .non) (A := allA [] []) trivial)
theorem puA_cons {as : As} (h1 : Pu e S N ts te L a) (h2 : ∀ v, PuA e S N ts tA ((v, av K a) :: L) as) : PuA (As := α × As) e S N ts (tCons te tA) L (a, as) := fun s σ H Q at_ q =>
  h1 s σ H _ at_ fun x H1 a1 => h2 x s σ H1 _ a1 fun vs H2 a2 => q (x :: vs) H2 ((a2.less (fun f hf => List.mem_cons_of_mem _ (List.mem_cons_of_mem _ hf))).add (v := .non) (A := allA (x :: vs) (av K a :: Ra.avs K as)) ⟨a2.get m1, a2.get m0⟩)
theorem evA_cons {k1 : α → τ → Option ρ} {k : α × As → τ → Option ρ} (h1 : Ev e S N ts te L s p k1) (h2 : ∀ a s1 v, EvA e S N ts tA ((v, av K a) :: L) s1 (k1 a s1) fun as s2 => k (a, as) s2) : EvA e S N ts (tCons te tA) L s p k := fun hp σ H Q at_ q =>
  h1 hp σ H _ at_ fun a s1 x H1 e1 a1 => h2 a s1 x e1 σ H1 _ a1 fun as s2 vs H2 e2 a2 => q (a, as) s2 (x :: vs) H2 e2 ((a2.less (fun f hf => List.mem_cons_of_mem _ (List.mem_cons_of_mem _ hf))).add (v := .non) (A := allA (x :: vs) (av K a :: Ra.avs K as)) ⟨a2.get m1, a2.get m0⟩)
/-- a def that changes nothing -/
def SpF (K : Frag) {As β : Type} [Ra K As] [Rv K β] (f : As → Option β) : Sp := fun vs H Q _ => ∃ S as b, Old S H ∧ AllV S H vs (Ra.avs K as) ∧ f as = some b ∧ ∀ v H', Kp [] H H' → Rv.R K S H' v b → Q v H'
/-- a def that draws: its first argument the pot at q -/
def potD (q : Addr) (st : Int × Int) : Mu where
  a := q
  loc := false
  P := fun _ H => H q = some (.lst [.int st.1, .int st.2])
  keep := fun h k _ n => k q _ n h
  wid := fun h _ => h
def SpS (K : Frag) {As β : Type} [Ra K As] [Rv K β] (f : As → Int × Int → Option (β × (Int × Int))) : Sp := fun vs H Q _ => ∃ S q us as st b st', Old S H ∧ q ∈ S ∧ vs = .ref q :: us ∧ H q = some (.lst [.int st.1, .int st.2]) ∧ AllV S H us (Ra.avs K as) ∧ f as st = some (b, st') ∧
  ∀ v H', Kp [q] H H' → H' q = some (.lst [.int st'.1, .int st'.2]) → Rv.R K S H' v b → Q v H'
theorem call_F {f : As → Option γ} {vs : List V} {as : As} {c : γ} {Q : VK} {E : XK} (at_ : e.At S N ts ((.non, allA vs (Ra.avs K as)) :: L) s σ H) (hc : f as = some c) (q : ∀ v H', e.At S N ts ((v, av K c) :: L) s σ H' → Q v H') : SpF K f vs H Q E :=
  ⟨S, as, c, at_.c.old, at_.get (v := .non) (A := allA vs (Ra.avs K as)) m0, hc, fun v H' k r => q v H' (((at_.pure k).less d1).add (A := av K c) r)⟩
theorem ev_call {f : As → Option γ} {k : γ → τ → Option ρ} (h : EvA e S N ts tA L s p fun as s1 => (f as).bind fun c => k c s1) : Ev e S N ts (tCB (fun vs H Q => SpF K f vs H Q E0) tA) L s p k := fun hp σ H Q at_ q =>
  h hp σ H _ at_ fun as s1 vs H1 e1 a1 => by
    obtain ⟨c, hc, e2⟩ := Option.bind_eq_some_iff.mp e1
    exact call_F a1 hc fun v H' a2 => q c s1 v H' e2 a2
theorem ev_callP {f : As → Option γ} {as : As} {k : γ → τ → Option ρ} (h : PuA e S N ts tA L as) : Ev e S N ts (tCB (fun vs H Q => SpF K f vs H Q E0) tA) L s ((f as).bind fun c => k c s) k := ev_call (h.ev (k := fun as s1 => (f as).bind fun c => k c s1))
/-- the pot at q among what a def has got -/
structure PRef (q : Addr) where
instance {q : Addr} : Rv K (PRef q) := ⟨fun _ _ v _ => v = .ref q, fun h _ => h, fun h _ => h⟩
theorem Env.At.inT {M : List Mu} {B : Hp} {T0 S0 : List Addr} {st : Int × Int} {q : Addr} (C : Ctx B T0 S0 S M L H) (i : Nat) (hi : M[i]? = some (potD q st)) : q ∈ S ∧ H q = some (.lst [.int st.1, .int st.2]) := by
  obtain ⟨h1, h2, _⟩ := C.mu _ (List.mem_of_getElem? hi)
  exact ⟨h1, h2⟩
end
/-! ### defs with a pot: the state is the pot's -/
section
variable {K : Frag} {β ρ α γ δ : Type} [Rv K β] [Rv K α] [Rv K γ] [Rv K δ]
variable {q : Addr}
abbrev Pot := Int × Int
variable {e : Env K Pot ρ} {S : List Addr} {N : List Mu} {ts ts' : List (Option AV)} {L L' : List (V × AV)} {s s' : Pot} {σ : L2.St} {H H' : Hp} {v : V} {A : AV}
variable {te ta tb tc : TE} {a : α} {p : Option ρ} {As : Type} [Ra K As] {tA tA' : TA}
theorem getApp {M : List Mu} {m : Mu} : (M ++ [m])[M.length]? = some m := by simp
theorem Env.At.eff (hm : ∀ st, e.m st = [potD q st]) (at_ : e.At S N ts L s σ H) (k : Kp [q] H H') (hq : H' q = some (.lst [.int s'.1, .int s'.2])) : e.At S N ts L s' σ H' := by
  have c := at_.c
  rw [hm] at c
  have c2 := c.eff (i := N.length) (m := potD q s) (m' := potD q s') getApp k ⟨_, hq⟩ rfl rfl hq
  have e1 : (N ++ [potD q s]).set N.length (potD q s') = N ++ [potD q s'] := by simp
  rw [e1, ← hm] at c2
  have qS : ∀ a ∈ [q], a ∈ S := fun a h => by
    rw [List.mem_singleton.mp h]
    exact (Env.At.inT c N.length getApp).1
  exact ⟨c2, at_.s.keep (k.mono qS)⟩
theorem ev_callS (hm : ∀ st, e.m st = [potD q st]) {f : As → Pot → Option (γ × Pot)} {k : γ → Pot → Option ρ} (h : EvA (As := PRef q × As) e S N ts tA L s p fun as s1 => (f as.2 s1).bind fun c => k c.1 c.2) : Ev e S N ts (tCB (fun vs H Q => SpS K f vs H Q E0) tA) L s p k := fun hp σ H Q at_ qq =>
  h hp σ H _ at_ fun as s1 vs H1 e1 a1 => by
    obtain ⟨c, hc, e2⟩ := Option.bind_eq_some_iff.mp e1
    obtain ⟨c, s2⟩ := c
    have hv := a1.get (v := .non) (A := allA vs (Ra.avs K as)) m0
    obtain ⟨x, us, ex⟩ : ∃ x us, vs = x :: us := by
      cases vs with
      | nil => exact hv.elim
      | cons x us => exact ⟨x, us, rfl⟩
    subst ex
    obtain ⟨h1, h2⟩ := hv
    have ex : x = .ref q := h1
    subst ex
    have c1 := a1.c
    rw [hm] at c1
    obtain ⟨qS, hq⟩ := Env.At.inT c1 N.length getApp
    exact ⟨S, q, us, as.2, s1, c, s2, a1.c.old, qS, rfl, hq, h2, hc, fun v H' k' hq' r => qq c s2 v H' e2 (((a1.eff hm k' hq').less d1).add (A := av K c) r)⟩
theorem ev_callSP (hm : ∀ st, e.m st = [potD q st]) {f : As → Pot → Option (γ × Pot)} {as : PRef q × As} {k : γ → Pot → Option ρ} (h : PuA e S N ts tA L as) : Ev e S N ts (tCB (fun vs H Q => SpS K f vs H Q E0) tA) L s ((f as.2 s).bind fun c => k c.1 c.2) k := ev_callS hm (h.ev (k := fun as s1 => (f as.2 s1).bind fun c => k c.1 c.2))
end
end Lx

set_option Elab.async false
set_option linter.all false
set_option maxRecDepth 100000
set_option maxHeartbeats 4000000
/-! operators and functions of the language; what is walked -/
namespace Lx
open PySem PySem.Spec PyProof.Rows L2 He StX Lw
open Lw.En (enc)
section
variable {K : Frag} {β τ ρ α γ δ : Type} [Rv K β] [Rv K α] [Rv K γ] [Rv K δ]
variable {e : Env K τ ρ} {S : List Addr} {N : List Mu} {ts ts' : List (Option AV)} {L L' : List (V × AV)} {s : τ} {σ : L2.St} {H H' : Hp} {v : V} {A : AV}
variable {te ta tb tc : TE} {tt tu : TT} {r r' : R2} {b c : Bool} {p : Option ρ}
instance (i j : Int) : Decidable (CMulW i j) := inferInstanceAs (Decidable (_ < _))
instance (i j : Int) : Decidable (CPow i j) := inferInstanceAs (Decidable (_ ∧ _ ∧ _))
instance (i j : Int) : Decidable (CDivW i j) := inferInstanceAs (Decidable (_ ∧ _))
/-! ### ints -/
theorem o_i0 {g : Int → Int → Int} : Op2 K (rI0 fun i j => .int (g i j)) C2 g := fun S H x y a b Q _ ha hb _ q => by
  cases ha; cases hb
  exact ⟨_, _, rfl, rfl, q _ H .refl rfl⟩
theorem o_i {C : Int → Int → Prop} {g : Int → Int → Int} : Op2 K (rI C fun i j => .int (g i j)) C g := fun S H x y a b Q _ ha hb hc q => by
  cases ha; cases hb
  exact ⟨_, _, rfl, rfl, hc, q _ H .refl rfl⟩
theorem o_c {g : Int → Int → Bool} : Op2 K (rI0 fun i j => .bl (g i j)) C2 g := fun S H x y a b Q _ ha hb _ q => by
  cases ha; cases hb
  exact ⟨_, _, rfl, rfl, q _ H .refl rfl⟩
theorem o_add : Op2 K (rI0 fun (i j : Int) => .int (i + j)) C2 (fun (i j : Int) => i + j) := o_i0
theorem o_sub : Op2 K (rI0 fun (i j : Int) => .int (i - j)) C2 (fun (i j : Int) => i - j) := o_i0
theorem o_mul : Op2 K (rI CMulW fun (i j : Int) => .int (i * j)) CMulW (fun (i j : Int) => i * j) := o_i
theorem o_fdiv : Op2 K (rI CDivW fun (i j : Int) => .int (i / j)) CDivW (fun (i j : Int) => i / j) := o_i
theorem o_mod : Op2 K (rI (fun (_ j : Int) => 0 < j) fun (i j : Int) => .int (i % j)) (fun (_ j : Int) => 0 < j) (fun (i j : Int) => i % j) := o_i
theorem o_lt : Op2 K (rI0 fun (i j : Int) => .bl (decide (i < j))) C2 (fun (i j : Int) => decide (i < j)) := o_c
theorem o_le : Op2 K (rI0 fun (i j : Int) => .bl (decide (i ≤ j))) C2 (fun (i j : Int) => decide (i ≤ j)) := o_c
theorem o_gt : Op2 K (rI0 fun (i j : Int) => .bl (decide (j < i))) C2 (fun (i j : Int) => decide (j < i)) := o_c
theorem o_ge : Op2 K (rI0 fun (i j : Int) => .bl (decide (j ≤ i))) C2 (fun (i j : Int) => decide (j ≤ i)) := o_c
theorem o_neg : Op1 K (rU fun i => .int (-i)) C1 (fun i : Int => -i) := fun S H x a Q _ ha _ q => by
  cases ha
  exact ⟨_, rfl, q _ H .refl rfl⟩
/-- by a number that is written -/
theorem o_mulcR {n : Int} (h : -(2 ^ 64) < n ∧ n < 2 ^ 64) : Op1 K (fun x H Q => rI CMul (fun i j => .int (i * j)) x (.int n) H Q) C1 (fun i : Int => i * n) := fun S H x a Q _ ha _ q => by
  cases ha
  exact ⟨_, _, rfl, rfl, .inr h, q _ H .refl rfl⟩
theorem o_mulcL {n : Int} (h : -(2 ^ 64) < n ∧ n < 2 ^ 64) : Op1 K (fun x H Q => rI CMul (fun i j => .int (i * j)) (.int n) x H Q) C1 (fun i : Int => n * i) := fun S H x a Q _ ha _ q => by
  cases ha
  exact ⟨_, _, rfl, rfl, .inl h, q _ H .refl rfl⟩
theorem o_fdivc {n : Int} (h : 0 < n ∧ n < 1073741824) : Op1 K (fun x H Q => rI CDiv (fun i j => .int (i / j)) x (.int n) H Q) C1 (fun i : Int => i / n) := fun S H x a Q _ ha _ q => by
  cases ha
  exact ⟨_, _, rfl, rfl, h, q _ H .refl rfl⟩
theorem o_modc {n : Int} (h : 0 < n) : Op1 K (fun x H Q => rI (fun _ j => 0 < j) (fun i j => .int (i % j)) x (.int n) H Q) C1 (fun i : Int => i % n) := fun S H x a Q _ ha _ q => by
  cases ha
  exact ⟨_, _, rfl, rfl, h, q _ H .refl rfl⟩
/-- an operator with a value that is written, on the right, on the left -/
theorem pu_opR {w : V} {g : α → γ} {a : α} (h1 : Pu e S N ts ta L a) (o : Op1 K (fun x H Q => r x w H Q) C1 g) : Pu e S N ts (tOp r ta (tC w)) L (g a) := fun s σ H Q at_ q =>
  h1 s σ H _ at_ fun x H1 a1 => o S H1 x a Q a1.c.old (a1.get m0) trivial fun v H' k r => q v H' (a1.res (L' := [_]) k r)
theorem ev_opR {w : V} {g : α → γ} {k : γ → τ → Option ρ} (h1 : Ev e S N ts ta L s p fun a s1 => k (g a) s1) (o : Op1 K (fun x H Q => r x w H Q) C1 g) : Ev e S N ts (tOp r ta (tC w)) L s p k := fun hp σ H Q at_ q =>
  h1 hp σ H _ at_ fun a s1 x H1 e1 a1 => o S H1 x a Q a1.c.old (a1.get m0) trivial fun v H' k r => q _ _ v H' e1 (a1.res (L' := [_]) k r)
theorem pu_opL {w : V} {g : α → γ} {a : α} (h1 : Pu e S N ts tb L a) (o : Op1 K (fun x H Q => r w x H Q) C1 g) : Pu e S N ts (tOp r (tC w) tb) L (g a) := fun s σ H Q at_ q =>
  h1 s σ H _ at_ fun x H1 a1 => o S H1 x a Q a1.c.old (a1.get m0) trivial fun v H' k r => q v H' (a1.res (L' := [_]) k r)
theorem ev_opL {w : V} {g : α → γ} {k : γ → τ → Option ρ} (h1 : Ev e S N ts tb L s p fun a s1 => k (g a) s1) (o : Op1 K (fun x H Q => r w x H Q) C1 g) : Ev e S N ts (tOp r (tC w) tb) L s p k := fun hp σ H Q at_ q =>
  h1 hp σ H _ at_ fun a s1 x H1 e1 a1 => o S H1 x a Q a1.c.old (a1.get m0) trivial fun v H' k r => q _ _ v H' e1 (a1.res (L' := [_]) k r)
theorem pu_pow {i j c : Int} (hc : CPow i j) (h : i ^ j.toNat = c) : Pu e S N ts (tOp (rI CPow fun i j => .int (i ^ j.toNat)) (tC (.int i)) (tC (.int j))) L c := fun s σ H Q at_ q =>
  ⟨i, j, rfl, rfl, hc, by show Q (.int (i ^ j.toNat)) H; rw [h]; exact q _ H (at_.add (A := av K c) rfl)⟩
/-! ### equality -/
theorem o_eqI : Op2 K rEq C2 (fun i j : Int => decide (i = j)) := fun S H x y a b Q _ ha hb _ q => by
  cases ha; cases hb
  exact rEq_int.mpr (q _ H .refl rfl)
theorem o_neI : Op2 K rNe C2 (fun i j : Int => !decide (i = j)) := fun S H x y a b Q _ ha hb _ q => by
  cases ha; cases hb
  exact rNe_int.mpr (q _ H .refl rfl)
theorem o_eqS : Op2 K rEq C2 (fun i j : Str => decide (i = j)) := fun S H x y a b Q _ ha hb _ q => by
  cases ha; cases hb
  exact rEq_str.mpr (q _ H .refl rfl)
theorem o_neS : Op2 K rNe C2 (fun i j : Str => !decide (i = j)) := fun S H x y a b Q _ ha hb _ q => by
  cases ha; cases hb
  exact rNe_str.mpr (q _ H .refl rfl)
theorem o_eqB : Op2 K rEq C2 (fun i j : Bool => decide (i = j)) := fun S H x y a b Q _ ha hb _ q => by
  cases ha; cases hb
  exact ⟨rfl, q _ H .refl (congrArg V.bl (decide_eq_decide.mpr (by rw [V.bl.injEq])))⟩
theorem o_neB : Op2 K rNe C2 (fun i j : Bool => !decide (i = j)) := fun S H x y a b Q _ ha hb _ q => by
  cases ha; cases hb
  exact ⟨rfl, q _ H .refl (congrArg V.bl (congrArg _ (decide_eq_decide.mpr (by rw [V.bl.injEq]))))⟩
theorem o_eqD [Dt K α] [DecidableEq α] (h : Py.dep α ≤ 64) : Op2 K (rEqD K) C2 (fun i j : α => decide (i = j)) := fun S H x y a b Q _ ha hb _ q =>
  ⟨enc a, enc b, Dt.toDp ha, Dt.toDp hb, shaped_enc h a, shaped_enc h b, by rw [eqv_enc]; exact q _ H .refl rfl⟩
theorem o_neD [Dt K α] [DecidableEq α] (h : Py.dep α ≤ 64) : Op2 K (rNeD K) C2 (fun i j : α => !decide (i = j)) := fun S H x y a b Q _ ha hb _ q =>
  ⟨enc a, enc b, Dt.toDp ha, Dt.toDp hb, shaped_enc h a, shaped_enc h b, by rw [eqv_enc]; exact q _ H .refl rfl⟩
/-- of data of two kinds -/
theorem o_eqX [Dt K α] [Dt K γ] (h : Py.dep α ≤ 64) (h' : Py.dep γ ≤ 64) : Op2 K (rEqD K) C2 (fun (i : α) (j : γ) => PyData.eqv (enc i) (enc j)) := fun S H x y a b Q _ ha hb _ q =>
  ⟨enc a, enc b, Dt.toDp ha, Dt.toDp hb, shaped_enc h a, shaped_enc h' b, q _ H .refl rfl⟩
theorem o_neX [Dt K α] [Dt K γ] (h : Py.dep α ≤ 64) (h' : Py.dep γ ≤ 64) : Op2 K (rNeD K) C2 (fun (i : α) (j : γ) => !PyData.eqv (enc i) (enc j)) := fun S H x y a b Q _ ha hb _ q =>
  ⟨enc a, enc b, Dt.toDp ha, Dt.toDp hb, shaped_enc h a, shaped_enc h' b, q _ H .refl rfl⟩
theorem o_inD [Dt K α] [DecidableEq α] (h : Py.dep α + 1 ≤ 64) : Op2 K (rInD K) C2 (fun (a : α) (l : List α) => decide (a ∈ l)) := fun S H x y a l Q _ ha hb _ q =>
  ⟨enc a, l.map enc, Dt.toDp ha, Dt.toDp (α := List α) hb, shaped_enc (by omega) a, shaped_enc (α := List α) h l, by rw [any_enc]; exact q _ H .refl rfl⟩
theorem o_notInD [Dt K α] [DecidableEq α] (h : Py.dep α + 1 ≤ 64) : Op2 K (rNotInD K) C2 (fun (a : α) (l : List α) => !decide (a ∈ l)) := fun S H x y a l Q _ ha hb _ q =>
  ⟨enc a, l.map enc, Dt.toDp ha, Dt.toDp (α := List α) hb, shaped_enc (by omega) a, shaped_enc (α := List α) h l, by rw [any_enc]; exact q _ H .refl rfl⟩
/-! ### lists, tuples -/
theorem new_lst {xs : List V} {as : List α} {S : List Addr} {H : Hp} {p : Addr} (oS : Old S H) (hn : H p = none) (hz : xs.length ≤ sizeLine) (h : RA (Rv.R K S H) xs as) : Rv.R K S (upd H p (.lst xs)) (.ref p) as :=
  ⟨p, xs, rfl, ⟨oS.no hn, upd_same⟩, hz, h.imp fun _ _ h => Rv.keep h (.new hn)⟩
theorem new_tup {xs : List V} {as : List α} {S : List Addr} {H : Hp} {p : Addr} (oS : Old S H) (hn : H p = none) (hz : xs.length ≤ sizeLine) (h : RA (Rv.R K S H) xs as) : Rv.R K S (upd H p (.tup xs)) (.ref p) (Tu.mk as) :=
  ⟨p, xs, rfl, .inl ⟨oS.no hn, upd_same⟩, hz, h.imp fun _ _ h => Rv.keep h (.new hn)⟩
theorem o_cat : Op2 K rCat (fun (a b : List α) => a.length + b.length ≤ sizeLine) (fun a b => a ++ b) := fun S H x y a b Q oS ha hb hc q => by
  obtain ⟨l, xs, rfl, f, z, h⟩ := ha
  obtain ⟨m, ys, rfl, g, w, k⟩ := hb
  have hz : xs.length + ys.length ≤ sizeLine := by rw [h.len, k.len]; exact hc
  exact ⟨l, m, xs, ys, rfl, rfl, f.2, g.2, hz, fun p hn => q _ _ (.new hn) (new_lst oS hn (by rw [List.length_append]; exact hz) (h.app k))⟩
theorem RA.nil_r {r : V → α → Prop} {as : List α} (h : RA r [] as) : as = [] := by
  have := h.len
  cases as with
  | nil => rfl
  | cons _ _ => simp at this
theorem o_catA : Op2 K (rCatA K) (fun (a b : Tu α) => a.l.length + b.l.length ≤ sizeLine) (fun a b => Tu.mk (a.l ++ b.l)) := fun S H x y a b Q oS ha hb hc q => by
  obtain ⟨l, xs, rfl, f, z, h⟩ := ha
  obtain ⟨m, ys, rfl, g, w, k⟩ := hb
  have hz : xs.length + ys.length ≤ sizeLine := by rw [h.len, k.len]; exact hc
  refine ⟨l, m, xs, ys, rfl, rfl, tu_sqT f, tu_sqT g, hz, fun e0 => ?_, fun n0 e0 => ?_, fun n0 n1 p hn => ?_⟩
  · subst e0
    refine q _ H .refl ⟨m, ys, rfl, g, w, ?_⟩
    have ea := h.nil_r
    simp only [ea, List.nil_append]
    exact k
  · subst e0
    refine q _ H .refl ⟨l, xs, rfl, f, z, ?_⟩
    have ea := k.nil_r
    simp only [ea, List.append_nil]
    exact h
  · exact q _ _ (.new hn) (new_tup oS hn (by rw [List.length_append]; exact hz) (h.app k))
theorem RA.atI {r : V → α → Prop} {xs : List V} {as : List α} {i : Int} {a : α} (h : RA r xs as) (ha : atI as i = some a) : ∃ v, atI xs i = some v ∧ r v a := by
  unfold L2.atI at ha ⊢
  obtain ⟨j, hj, e⟩ := Option.bind_eq_some_iff.mp ha
  obtain ⟨v, hv, hr⟩ := h.of e
  exact ⟨v, by rw [h.len, hj]; exact hv, hr⟩
theorem o_ixL : Op2O K (rIxL K) (fun (l : List α) (i : Int) => atI l i) := fun S H x y l i c Q oS hl hi hc q => by
  obtain ⟨p, xs, rfl, f, z, h⟩ := hl
  cases hi
  obtain ⟨v, hv, hr⟩ := h.atI hc
  exact ⟨p, xs, i, v, rfl, rfl, f.sqL, hv, q v H .refl hr⟩
theorem o_ixT : Op2O K (rIxT K) (fun (l : Tu α) (i : Int) => atI l.l i) := fun S H x y l i c Q oS hl hi hc q => by
  obtain ⟨p, xs, rfl, f, z, h⟩ := hl
  cases hi
  obtain ⟨v, hv, hr⟩ := h.atI hc
  exact ⟨p, xs, i, v, rfl, rfl, tu_sqT f, hv, q v H .refl hr⟩
theorem o_ix20 : Op1 K (fun x H Q => rIxT K x (.int 0) H Q) C1 (fun (a : α × γ) => a.1) := fun S H x a Q _ ha _ q => by
  obtain ⟨p, u, w, rfl, f, h1, h2⟩ := ha
  exact ⟨p, _, 0, u, rfl, rfl, f.sqT, rfl, q u H .refl h1⟩
theorem o_ix21 : Op1 K (fun x H Q => rIxT K x (.int 1) H Q) C1 (fun (a : α × γ) => a.2) := fun S H x a Q _ ha _ q => by
  obtain ⟨p, u, w, rfl, f, h1, h2⟩ := ha
  exact ⟨p, _, 1, w, rfl, rfl, f.sqT, rfl, q w H .refl h2⟩
theorem o_ix2m : Op1 K (fun x H Q => rIxT K x (.int (-1)) H Q) C1 (fun (a : α × γ) => a.2) := fun S H x a Q _ ha _ q => by
  obtain ⟨p, u, w, rfl, f, h1, h2⟩ := ha
  exact ⟨p, _, -1, w, rfl, rfl, f.sqT, rfl, q w H .refl h2⟩
theorem o_ix30 : Op1 K (fun x H Q => rIxT K x (.int 0) H Q) C1 (fun (a : T3 α γ δ) => a.a) := fun S H x a Q _ ha _ q => by
  obtain ⟨p, u, w, z, rfl, f, h1, h2, h3⟩ := ha
  exact ⟨p, _, 0, u, rfl, rfl, f.sqT, rfl, q u H .refl h1⟩
theorem o_ix31 : Op1 K (fun x H Q => rIxT K x (.int 1) H Q) C1 (fun (a : T3 α γ δ) => a.b) := fun S H x a Q _ ha _ q => by
  obtain ⟨p, u, w, z, rfl, f, h1, h2, h3⟩ := ha
  exact ⟨p, _, 1, w, rfl, rfl, f.sqT, rfl, q w H .refl h2⟩
theorem o_ix32 : Op1 K (fun x H Q => rIxT K x (.int 2) H Q) C1 (fun (a : T3 α γ δ) => a.c) := fun S H x a Q _ ha _ q => by
  obtain ⟨p, u, w, z, rfl, f, h1, h2, h3⟩ := ha
  exact ⟨p, _, 2, z, rfl, rfl, f.sqT, rfl, q z H .refl h3⟩
/-! ### functions -/
abbrev rbLen (K : Frag) : List V → Hp → VK → Prop := fun xs H Q => ∃ p ys, xs = [V.ref p] ∧ (SqL K H p ys ∨ SqT K H p ys) ∧ Q (.int ys.length) H
theorem o_lenL : Op1 K (fun x => rbLen K [x]) C1 (fun (l : List α) => (l.length : Int)) := fun S H x l Q _ hl _ q => by
  obtain ⟨p, xs, rfl, f, z, h⟩ := hl
  exact ⟨p, xs, rfl, .inl f.sqL, q _ H .refl (by rw [h.len]; rfl)⟩
theorem o_lenT : Op1 K (fun x => rbLen K [x]) C1 (fun (l : Tu α) => (l.l.length : Int)) := fun S H x l Q _ hl _ q => by
  obtain ⟨p, xs, rfl, f, z, h⟩ := hl
  exact ⟨p, xs, rfl, .inr (tu_sqT f), q _ H .refl (by rw [h.len]; rfl)⟩
theorem o_len2 : Op1 K (fun x => rbLen K [x]) C1 (fun (_ : α × γ) => (2 : Int)) := fun S H x l Q _ hl _ q => by
  obtain ⟨p, u, w, rfl, f, h⟩ := hl
  exact ⟨p, _, rfl, .inr f.sqT, q _ H .refl rfl⟩
theorem o_len3 : Op1 K (fun x => rbLen K [x]) C1 (fun (_ : T3 α γ δ) => (3 : Int)) := fun S H x l Q _ hl _ q => by
  obtain ⟨p, u, w, z, rfl, f, h⟩ := hl
  exact ⟨p, _, rfl, .inr f.sqT, q _ H .refl rfl⟩
def absI (i : Int) : Int := if i < 0 then -i else i
def rbAbs : List V → Hp → VK → Prop := fun xs H Q => ∃ i, xs = [.int i] ∧ Q (.int (if i < 0 then -i else i)) H
theorem o_abs : Op1 K (fun x => rbAbs [x]) C1 absI := fun S H x a Q _ ha _ q => by
  cases ha
  exact ⟨_, rfl, q _ H .refl rfl⟩
def rbInt : List V → Hp → VK → Prop := fun xs H Q => (∃ i, xs = [.int i] ∧ Q (.int i) H) ∨ ∃ k, xs = [.bl k] ∧ Q (.int (if k then 1 else 0)) H
theorem o_int : Op1 K (fun x => rbInt [x]) C1 (fun i : Int => i) := fun S H x a Q _ ha _ q => by
  cases ha
  exact .inl ⟨_, rfl, q _ H .refl rfl⟩
theorem o_intB : Op1 K (fun x => rbInt [x]) C1 (fun b : Bool => (if b then (1 : Int) else 0)) := fun S H x a Q _ ha _ q => by
  cases ha
  exact .inr ⟨_, rfl, q _ H .refl rfl⟩
def rbmax2 : List V → Hp → VK → Prop := fun xs H Q => ∃ i j, xs = [.int i, .int j] ∧ Q (.int (if j > i then j else i)) H
theorem o_max2 : Op2 K (fun x y => rbmax2 [x, y]) C2 (fun i j : Int => max i j) := fun S H x y a b Q _ ha hb _ q => by
  cases ha; cases hb
  refine ⟨_, _, rfl, q _ H .refl ?_⟩
  show V.int _ = V.int _
  congr 1
  show (if b > a then b else a) = max a b
  split <;> omega
def rbmin2 : List V → Hp → VK → Prop := fun xs H Q => ∃ i j, xs = [.int i, .int j] ∧ Q (.int (if j < i then j else i)) H
theorem o_min2 : Op2 K (fun x y => rbmin2 [x, y]) C2 (fun i j : Int => min i j) := fun S H x y a b Q _ ha hb _ q => by
  cases ha; cases hb
  refine ⟨_, _, rfl, q _ H .refl ?_⟩
  show V.int _ = V.int _
  congr 1
  show (if b < a then b else a) = min a b
  split <;> omega
theorem RA.ints {S : List Addr} {H : Hp} : ∀ {xs : List V} {ns : List Int}, RA (Rv.R K S H) xs ns → xs = ns.map V.int
  | [], [], _ => rfl
  | x :: xs, n :: ns, ⟨h1, h2⟩ => by
    cases (show x = V.int n from h1)
    rw [RA.ints h2]
    rfl
  | [], _ :: _, h => h.elim
  | _ :: _, [], h => h.elim
theorem RA.bools {S : List Addr} {H : Hp} : ∀ {xs : List V} {ns : List Bool}, RA (Rv.R K S H) xs ns → xs = ns.map V.bl
  | [], [], _ => rfl
  | x :: xs, n :: ns, ⟨h1, h2⟩ => by
    cases (show x = V.bl n from h1)
    rw [RA.bools h2]
    rfl
  | [], _ :: _, h => h.elim
  | _ :: _, [], h => h.elim
theorem ra_ints {S : List Addr} {H : Hp} : ∀ {ns : List Int}, RA (Rv.R K S H) (ns.map V.int) ns
  | [] => trivial
  | n :: ns => ⟨rfl, ra_ints⟩
def maxL : List Int → Int
  | [] => 0
  | x :: xs => xs.foldl max x
def minL : List Int → Int
  | [] => 0
  | x :: xs => xs.foldl min x
theorem foldl_max (xs : List Int) : ∀ x : Int, xs.foldl max x ∈ x :: xs ∧ ∀ y ∈ x :: xs, y ≤ xs.foldl max x := by
  induction xs with
  | nil => intro x; simp
  | cons z xs ih =>
    intro x
    obtain ⟨h1, h2⟩ := ih (max x z)
    refine ⟨?_, fun y hy => ?_⟩
    · simp only [List.foldl_cons, List.mem_cons] at h1 ⊢
      rcases h1 with h1 | h1
      · rw [h1]
        by_cases h : x ≤ z
        · first | exact .inl (by omega) | exact .inr (.inl (by omega))
        · first | exact .inl (by omega) | exact .inr (.inl (by omega))
      · exact .inr (.inr h1)
    · have h0 := h2 (max x z) (List.mem_cons_self ..)
      simp only [List.foldl_cons]
      rcases List.mem_cons.mp hy with h | h
      · rw [h]; omega
      · rcases List.mem_cons.mp h with h | h
        · rw [h]; omega
        · exact h2 y (List.mem_cons_of_mem _ h)
theorem foldl_min (xs : List Int) : ∀ x : Int, xs.foldl min x ∈ x :: xs ∧ ∀ y ∈ x :: xs, xs.foldl min x ≤ y := by
  induction xs with
  | nil => intro x; simp
  | cons z xs ih =>
    intro x
    obtain ⟨h1, h2⟩ := ih (min x z)
    refine ⟨?_, fun y hy => ?_⟩
    · simp only [List.foldl_cons, List.mem_cons] at h1 ⊢
      rcases h1 with h1 | h1
      · rw [h1]
        by_cases h : x ≤ z
        · first | exact .inl (by omega) | exact .inr (.inl (by omega))
        · first | exact .inl (by omega) | exact .inr (.inl (by omega))
      · exact .inr (.inr h1)
    · have h0 := h2 (min x z) (List.mem_cons_self ..)
      simp only [List.foldl_cons]
      rcases List.mem_cons.mp hy with h | h
      · rw [h]; omega
      · rcases List.mem_cons.mp h with h | h
        · rw [h]; omega
        · exact h2 y (List.mem_cons_of_mem _ h)
theorem maxL_mem {l : List Int} (h : l ≠ []) : maxL l ∈ l := by
  cases l with
  | nil => exact absurd rfl h
  | cons x xs => exact (foldl_max xs x).1
theorem le_maxL {l : List Int} {y : Int} (h : y ∈ l) : y ≤ maxL l := by
  cases l with
  | nil => cases h
  | cons x xs => exact (foldl_max xs x).2 y h
theorem minL_mem {l : List Int} (h : l ≠ []) : minL l ∈ l := by
  cases l with
  | nil => exact absurd rfl h
  | cons x xs => exact (foldl_min xs x).1
theorem minL_le {l : List Int} {y : Int} (h : y ∈ l) : minL l ≤ y := by
  cases l with
  | nil => cases h
  | cons x xs => exact (foldl_min xs x).2 y h
theorem o_maxL : Op1 K (fun x => rMax K [x]) (fun l : List Int => l ≠ []) maxL := fun S H x l Q _ hl hc q => by
  obtain ⟨p, xs, rfl, f, z, h⟩ := hl
  have ex := h.ints
  subst ex
  refine ⟨p, l, rfl, f.sqL, List.length_pos_iff.mpr hc, fun m hm h' => ?_⟩
  have e : m = maxL l := by
    have h1 := h' _ (maxL_mem hc)
    have h2 := le_maxL hm
    omega
  rw [e]
  exact q _ H .refl rfl
theorem o_minL : Op1 K (fun x => rMin K [x]) (fun l : List Int => l ≠ []) minL := fun S H x l Q _ hl hc q => by
  obtain ⟨p, xs, rfl, f, z, h⟩ := hl
  have ex := h.ints
  subst ex
  refine ⟨p, l, rfl, f.sqL, List.length_pos_iff.mpr hc, fun m hm h' => ?_⟩
  have e : m = minL l := by
    have h1 := h' _ (minL_mem hc)
    have h2 := minL_le hm
    omega
  rw [e]
  exact q _ H .refl rfl
theorem o_sum : Op1 K (fun x => rSum K [x]) C1 (fun l : List Int => l.sum) := fun S H x l Q _ hl hc q => by
  obtain ⟨p, xs, rfl, f, z, h⟩ := hl
  have ex := h.ints
  subst ex
  exact ⟨p, l, rfl, f.sqL, q _ H .refl rfl⟩
theorem o_all : Op1 K (fun x => rAll K [x]) C1 (fun l : List Bool => l.all id) := fun S H x l Q _ hl hc q => by
  obtain ⟨p, xs, rfl, f, z, h⟩ := hl
  have ex := h.bools
  subst ex
  exact ⟨p, l, rfl, f.sqL, q _ H .refl rfl⟩
theorem o_any : Op1 K (fun x => rAny K [x]) C1 (fun l : List Bool => l.any id) := fun S H x l Q _ hl hc q => by
  obtain ⟨p, xs, rfl, f, z, h⟩ := hl
  have ex := h.bools
  subst ex
  exact ⟨p, l, rfl, f.sqL, q _ H .refl rfl⟩
abbrev rbList (K : Frag) : List V → Hp → VK → Prop := fun xs H Q => ∃ p ys, xs = [V.ref p] ∧ (SqL K H p ys ∨ SqT K H p ys) ∧ ∀ l, H l = none → Q (.ref l) (upd H l (.lst ys))
theorem o_listL : Op1 K (fun x => rbList K [x]) C1 (fun l : List α => l) := fun S H x l Q oS hl hc q => by
  obtain ⟨p, xs, rfl, f, z, h⟩ := hl
  exact ⟨p, xs, rfl, .inl f.sqL, fun m hm => q _ _ (.new hm) (new_lst oS hm z h)⟩
theorem o_listT : Op1 K (fun x => rbList K [x]) C1 (fun l : Tu α => l.l) := fun S H x l Q oS hl hc q => by
  obtain ⟨p, xs, rfl, f, z, h⟩ := hl
  exact ⟨p, xs, rfl, .inr (tu_sqT f), fun m hm => q _ _ (.new hm) (new_lst oS hm z h)⟩
/-- tuple(x) -/
theorem pu_then {kk : V → Hp → VK → Prop} {g : α → γ} {a : α} (h1 : Pu e S N ts ta L a) (o : Op1 K kk C1 g) : Pu e S N ts (tThen ta kk) L (g a) := fun s σ H Q at_ q =>
  h1 s σ H _ at_ fun x H1 a1 => o S H1 x a Q a1.c.old (a1.get m0) trivial fun v H' k r => q v H' (a1.res (L' := [_]) k r)
theorem ev_then {kk : V → Hp → VK → Prop} {g : α → γ} {k : γ → τ → Option ρ} (h1 : Ev e S N ts ta L s p fun a s1 => k (g a) s1) (o : Op1 K kk C1 g) : Ev e S N ts (tThen ta kk) L s p k := fun hp σ H Q at_ q =>
  h1 hp σ H _ at_ fun a s1 x H1 e1 a1 => o S H1 x a Q a1.c.old (a1.get m0) trivial fun v H' k r => q _ _ v H' e1 (a1.res (L' := [_]) k r)
theorem o_tupL : Op1 K (kTup K) C1 (fun l : List α => Tu.mk l) := fun S H x l Q oS hl hc q => by
  obtain ⟨p, xs, rfl, f, z, h⟩ := hl
  exact .inl ⟨p, xs, rfl, f.sqL, fun m hm => q _ _ (.new hm) (new_tup oS hm z h)⟩
theorem o_tupT : Op1 K (kTup K) C1 (fun l : Tu α => l) := fun S H x l Q oS hl hc q => by
  obtain ⟨p, xs, rfl, f, z, h⟩ := hl
  exact .inr ⟨p, xs, rfl, tu_sqT f, q _ H .refl ⟨p, xs, rfl, f, z, h⟩⟩
def rbDivmod : List V → Hp → VK → Prop := fun xs H Q => ∃ i j, xs = [.int i, .int j] ∧ CDiv i j ∧ ∀ p, H p = none → Q (.ref p) (upd H p (.tup [.int (i / j), .int (i % j)]))
theorem o_divmodc {n : Int} (h : 0 < n ∧ n < 1073741824) : Op2 K (fun x y => rbDivmod [x, y]) (fun _ j => j = n) (fun i j : Int => (i / j, i % j)) := fun S H x y a b Q oS ha hb hc q => by
  subst hc
  cases ha; cases hb
  exact ⟨_, _, rfl, h, fun p hp => q _ _ (.new hp) ⟨p, _, _, rfl, ⟨oS.no hp, upd_same⟩, rfl, rfl⟩⟩
instance (i j : Int) : Decidable (CDiv i j) := inferInstanceAs (Decidable (_ ∧ _))
theorem o_divmod : Op2 K (fun x y => rbDivmod [x, y]) CDiv (fun i j : Int => (i / j, i % j)) := fun S H x y a b Q oS ha hb hc q => by
  cases ha; cases hb
  exact ⟨_, _, rfl, hc, fun p hp => q _ _ (.new hp) ⟨p, _, _, rfl, ⟨oS.no hp, upd_same⟩, rfl, rfl⟩⟩
/-- repr of data -/
structure OkR (d : PyData) : Prop where
  s : d.showable = true
  l : d.shown.length ≤ sizeLine
  d : d.depth ≤ 60
instance (d : PyData) : Decidable (OkR d) := decidable_of_iff (d.showable = true ∧ d.shown.length ≤ sizeLine ∧ d.depth ≤ 60) ⟨fun h => ⟨h.1, h.2.1, h.2.2⟩, fun h => ⟨h.s, h.l, h.d⟩⟩
theorem o_repr [Dt K α] : Op1 K (fun x => rReprD K [x]) (fun a : α => OkR (enc a)) (fun a : α => (enc a).shown) := fun S H x a Q oS ha hc q =>
  ⟨x, enc a, rfl, Dt.toDp ha, hc.s, hc.l, hc.d, q _ H .refl rfl⟩
/-- sorted, of ints -/
theorem o_sorted : Op1 K (fun x => rSorted K [x]) (fun l : List Int => l.length < 64) (fun l : List Int => l.mergeSort) := fun S H x l Q oS hl hc q => by
  obtain ⟨p, xs, rfl, f, z, h⟩ := hl
  have ex := h.ints
  subst ex
  refine ⟨p, l, rfl, f.sqL, hc, fun ns' pp hp hs hn => ?_⟩
  have e : ns' = l.mergeSort := by
    refine List.Perm.eq_of_pairwise (le := (· ≤ ·)) (fun a b _ _ h1 h2 => Int.le_antisymm h1 h2) hs ?_ (hp.trans (List.mergeSort_perm l _).symm)
    have := List.pairwise_mergeSort (le := fun a b : Int => decide (a ≤ b)) (fun a b c h1 h2 => by simp at *; omega) (fun a b => by simp; omega) l
    exact this.imp fun h => by simpa using h
  rw [e]
  exact q _ _ (.new hn) (new_lst oS hn (by rw [List.length_map, List.length_mergeSort]; rw [List.length_map] at z; exact z) ra_ints)
end
end Lx

set_option Elab.async false
set_option linter.all false
set_option maxRecDepth 100000
set_option maxHeartbeats 4000000
/-! what is walked; comprehensions; statements; loops -/
namespace Lx
open PySem PySem.Spec PyProof.Rows L2 He StX Lw
open Lw.En (enc)
section
variable {K : Frag} {β τ ρ α γ δ : Type} [Rv K β] [Rv K α] [Rv K γ] [Rv K δ]
variable {e : Env K τ ρ} {S : List Addr} {N : List Mu} {ts ts' : List (Option AV)} {L L' : List (V × AV)} {s : τ} {σ : L2.St} {H H' : Hp} {v : V} {A : AV}
variable {te ta tb tc : TE} {tt tu : TT} {r r' : R2} {b c : Bool} {p : Option ρ} {wi : TI} {g : TG}
/-! ### displays -/
theorem pu_tup2 {a : α} {b : γ} (h1 : Pu e S N ts ta L a) (h2 : ∀ v, Pu e S N ts tb ((v, av K a) :: L) b) : Pu e S N ts (tTup (tCons ta (tCons tb tNil))) L (a, b) := fun s σ H Q at_ q =>
  h1 s σ H _ at_ fun x H1 a1 => h2 x s σ H1 _ a1 fun y H2 a2 => ⟨by rw [sizeLine_eq]; simp, fun p hn => q _ _ (a2.res (L' := [_, _]) (c := (a, b)) (.new hn) ⟨p, x, y, rfl, ⟨a2.c.old.no hn, upd_same⟩, Rv.keep (a2.get m1) (.new hn), Rv.keep (a2.get m0) (.new hn)⟩)⟩
theorem ev_tup2 {k1 : α → τ → Option ρ} {k : α × γ → τ → Option ρ} (h1 : Ev e S N ts ta L s p k1) (h2 : ∀ a s1 v, Ev e S N ts tb ((v, av K a) :: L) s1 (k1 a s1) fun b s2 => k (a, b) s2) : Ev e S N ts (tTup (tCons ta (tCons tb tNil))) L s p k := fun hp σ H Q at_ q =>
  h1 hp σ H _ at_ fun a s1 x H1 e1 a1 => h2 a s1 x e1 σ H1 _ a1 fun b s2 y H2 e2 a2 => ⟨by rw [sizeLine_eq]; simp, fun p hn => q _ _ _ _ e2 (a2.res (L' := [_, _]) (c := (a, b)) (.new hn) ⟨p, x, y, rfl, ⟨a2.c.old.no hn, upd_same⟩, Rv.keep (a2.get m1) (.new hn), Rv.keep (a2.get m0) (.new hn)⟩)⟩
theorem ev_tup3 {k1 : α → τ → Option ρ} {k2 : α → γ → τ → Option ρ} {k : T3 α γ δ → τ → Option ρ} (h1 : Ev e S N ts ta L s p k1) (h2 : ∀ a s1 v, Ev e S N ts tb ((v, av K a) :: L) s1 (k1 a s1) fun b s2 => k2 a b s2)
    (h3 : ∀ a b s2 v w, Ev e S N ts tc ((w, av K b) :: (v, av K a) :: L) s2 (k2 a b s2) fun c s3 => k ⟨a, b, c⟩ s3) : Ev e S N ts (tTup (tCons ta (tCons tb (tCons tc tNil)))) L s p k := fun hp σ H Q at_ q =>
  h1 hp σ H _ at_ fun a s1 x H1 e1 a1 => h2 a s1 x e1 σ H1 _ a1 fun b s2 y H2 e2 a2 => h3 a b s2 x y e2 σ H2 _ a2 fun c s3 z H3 e3 a3 => ⟨by rw [sizeLine_eq]; simp, fun p hn => q _ _ _ _ e3 (a3.res (L' := [_, _, _]) (c := (⟨a, b, c⟩ : T3 α γ δ)) (.new hn) ⟨p, x, y, z, rfl, ⟨a3.c.old.no hn, upd_same⟩, Rv.keep (a3.get m2) (.new hn), Rv.keep (a3.get m1) (.new hn), Rv.keep (a3.get m0) (.new hn)⟩)⟩
theorem pu_tup3 {a : α} {b : γ} {c : δ} (h1 : Pu e S N ts ta L a) (h2 : ∀ v, Pu e S N ts tb ((v, av K a) :: L) b) (h3 : ∀ v w, Pu e S N ts tc ((w, av K b) :: (v, av K a) :: L) c) : Pu e S N ts (tTup (tCons ta (tCons tb (tCons tc tNil)))) L (⟨a, b, c⟩ : T3 α γ δ) := fun s σ H Q at_ q =>
  h1 s σ H _ at_ fun x H1 a1 => h2 x s σ H1 _ a1 fun y H2 a2 => h3 x y s σ H2 _ a2 fun z H3 a3 => ⟨by rw [sizeLine_eq]; simp, fun p hn => q _ _ (a3.res (L' := [_, _, _]) (c := (⟨a, b, c⟩ : T3 α γ δ)) (.new hn) ⟨p, x, y, z, rfl, ⟨a3.c.old.no hn, upd_same⟩, Rv.keep (a3.get m2) (.new hn), Rv.keep (a3.get m1) (.new hn), Rv.keep (a3.get m0) (.new hn)⟩)⟩
/-- a list of values of one kind: values l behind one another -/
def PuL (e : Env K τ ρ) (S : List Addr) (N : List Mu) (ts : List (Option AV)) (ta : TA) (L : List (V × AV)) (l : List α) : Prop :=
  ∀ s σ H Q, e.At S N ts L s σ H → (∀ vs H', e.At S N ts ((.non, allA vs (l.map (av K))) :: L) s σ H' → Q vs H') → ta σ H Q
def EvL (e : Env K τ ρ) (S : List Addr) (N : List Mu) (ts : List (Option AV)) (ta : TA) (L : List (V × AV)) (s : τ) (p : Option ρ) (n : Nat) (k : List α → τ → Option ρ) : Prop :=
  p = some e.r → ∀ σ H Q, e.At S N ts L s σ H → (∀ l s' vs H', k l s' = some e.r → l.length = n → e.At S N ts ((.non, allA vs (l.map (av K))) :: L) s' σ H' → Q vs H') → ta σ H Q
theorem allA_RA {S : List Addr} {H : Hp} : ∀ {vs : List V} {l : List α}, AllV S H vs (l.map (av K)) → RA (Rv.R K S H) vs l
  | [], [], _ => trivial
  | v :: vs, a :: l, ⟨h1, h2⟩ => ⟨h1, allA_RA h2⟩
  | [], _ :: _, h => h.elim
  | _ :: _, [], h => h.elim
variable {tA : TA}
theorem puL_nil : PuL (α := α) e S N ts tNil L [] := fun s σ H Q at_ q => q [] H (at_.add (v := .non) (A := allA [] []) trivial)
theorem puL_cons {a : α} {l : List α} (h1 : Pu e S N ts te L a) (h2 : ∀ v, PuL e S N ts tA ((v, av K a) :: L) l) : PuL e S N ts (tCons te tA) L (a :: l) := fun s σ H Q at_ q =>
  h1 s σ H _ at_ fun x H1 a1 => h2 x s σ H1 _ a1 fun vs H2 a2 => q (x :: vs) H2 ((a2.less (fun f hf => List.mem_cons_of_mem _ (List.mem_cons_of_mem _ hf))).add (v := .non) (A := allA (x :: vs) (av K a :: l.map (av K))) ⟨a2.get m1, a2.get m0⟩)
theorem evL_nil {k : List α → τ → Option ρ} : EvL e S N ts tNil L s (k [] s) 0 k := fun hp σ H Q at_ q => q [] s [] H hp rfl (at_.add (v := .non) (A := allA [] []) trivial)
theorem evL_cons {n : Nat} {k1 : α → τ → Option ρ} {k : List α → τ → Option ρ} (h1 : Ev e S N ts te L s p k1) (h2 : ∀ a s1 v, EvL e S N ts tA ((v, av K a) :: L) s1 (k1 a s1) n fun l s2 => k (a :: l) s2) : EvL e S N ts (tCons te tA) L s p (n + 1) k := fun hp σ H Q at_ q =>
  h1 hp σ H _ at_ fun a s1 x H1 e1 a1 => h2 a s1 x e1 σ H1 _ a1 fun l s2 vs H2 e2 hn a2 => q (a :: l) s2 (x :: vs) H2 e2 (by rw [List.length_cons, hn]) ((a2.less (fun f hf => List.mem_cons_of_mem _ (List.mem_cons_of_mem _ hf))).add (v := .non) (A := allA (x :: vs) (av K a :: l.map (av K))) ⟨a2.get m1, a2.get m0⟩)
theorem puL_lst {l : List α} (h : PuL e S N ts tA L l) (hz : l.length ≤ 1000) : Pu e S N ts (tLst tA) L l := fun s σ H Q at_ q => h s σ H _ at_ fun vs H1 a1 => by
  have hr := allA_RA (a1.get (v := .non) (A := allA vs (l.map (av K))) m0)
  have hz' : vs.length ≤ sizeLine := by rw [hr.len, sizeLine_eq]; omega
  exact ⟨hz', fun p hn => q _ _ (a1.res (L' := [_]) (c := l) (.new hn) (new_lst a1.c.old hn hz' hr))⟩
theorem evL_lst {n : Nat} {k : List α → τ → Option ρ} (h : EvL e S N ts tA L s p n k) (hz : n ≤ 1000) : Ev e S N ts (tLst tA) L s p k := fun hp σ H Q at_ q => h hp σ H _ at_ fun l s1 vs H1 e1 hn a1 => by
  have hr := allA_RA (a1.get (v := .non) (A := allA vs (l.map (av K))) m0)
  have hz' : vs.length ≤ sizeLine := by rw [hr.len, sizeLine_eq]; omega
  exact ⟨hz', fun p hn => q _ _ _ _ e1 (a1.res (L' := [_]) (c := l) (.new hn) (new_lst a1.c.old hn hz' hr))⟩
theorem puL_tup {l : List α} (h : PuL e S N ts tA L l) (hz : l.length ≤ 1000) : Pu e S N ts (tTup tA) L (Tu.mk l) := fun s σ H Q at_ q => h s σ H _ at_ fun vs H1 a1 => by
  have hr := allA_RA (a1.get (v := .non) (A := allA vs (l.map (av K))) m0)
  have hz' : vs.length ≤ sizeLine := by rw [hr.len, sizeLine_eq]; omega
  exact ⟨hz', fun p hn => q _ _ (a1.res (L' := [_]) (c := Tu.mk l) (.new hn) (new_tup a1.c.old hn hz' hr))⟩
/-! ### what is walked -/
structure WkR (K : Frag) {α : Type} [Rv K α] (A : AV) (J : It) (xs : List α) : Prop where
  wk : ∃ (G : Hp → Prop) (Y : Nat → Hp → V → Hp → Prop), Walk J xs.length G Y ∧ (∀ S H, A.R S H .non → G H) ∧ ∀ S i H x H' a, xs[i]? = some a → A.R S H .non → Old S H → Y i H x H' → Kp [] H H' ∧ Rv.R K S H' x a
  len : xs.length ≤ sizeLine
def PuI (e : Env K τ ρ) (S : List Addr) (N : List Mu) (ts : List (Option AV)) (wi : TI) (L : List (V × AV)) (xs : List α) : Prop :=
  ∀ s σ H R, e.At S N ts L s σ H → (∀ A J H', WkR K A J xs → e.At S N ts ((.non, A) :: L) s σ H' → R J H') → wi σ H R
def EvI (e : Env K τ ρ) (S : List Addr) (N : List Mu) (ts : List (Option AV)) (wi : TI) (L : List (V × AV)) (s : τ) (p : Option ρ) (k : List α → τ → Option ρ) : Prop :=
  p = some e.r → ∀ σ H R, e.At S N ts L s σ H → (∀ xs s' A J H', k xs s' = some e.r → WkR K A J xs → e.At S N ts ((.non, A) :: L) s' σ H' → R J H') → wi σ H R
theorem PuI.ev {xs : List α} {k : List α → τ → Option ρ} (h : PuI e S N ts wi L xs) : EvI e S N ts wi L s (k xs s) k := fun hp σ H R at_ q => h s σ H R at_ fun A J H' w a => q xs s A J H' hp w a
/-- no fact -/
def trueA : AV := ⟨fun _ _ _ => True, fun _ _ => trivial, fun _ _ => trivial⟩
/-- of a value -/
def factA (v : V) (A : AV) : AV := ⟨fun S H _ => A.R S H v, fun h k => A.keep h k, fun h w => A.wid h w⟩
/-- a list at p whose values are xs: l -/
def lstA (K : Frag) {α : Type} [Rv K α] (p : Addr) (xs : List V) (l : List α) : AV := ⟨fun S H _ => Fx S H p (.lst xs) ∧ RA (Rv.R K S H) xs l, fun h k => ⟨h.1.keep k, h.2.imp fun _ _ z => Rv.keep z k⟩, fun h w => ⟨h.1.wid w, h.2.imp fun _ _ z => Rv.wid z w⟩⟩
def tupA (K : Frag) {α : Type} [Rv K α] (p : Addr) (xs : List V) (l : List α) : AV := ⟨fun S H _ => (Fx S H p (.tup xs) ∨ KT K p xs) ∧ RA (Rv.R K S H) xs l, fun h k => ⟨tu_keep h.1 k, h.2.imp fun _ _ z => Rv.keep z k⟩, fun h w => ⟨h.1.imp (·.wid w) id, h.2.imp fun _ _ z => Rv.wid z w⟩⟩
theorem wk_list {p : Addr} {xs : List V} {l : List α} (h : xs.length = l.length) (hz : l.length ≤ sizeLine) : WkR K (lstA K p xs l) (Itl K p) l :=
  ⟨⟨_, _, h ▸ walk_list (K := K) (a := p) (xs := xs), fun S H h => h.1.sqL, fun S i H x H' a ha h _ ⟨e, hx⟩ => by
    subst e
    obtain ⟨b, hb, r⟩ := h.2.at hx
    rw [ha] at hb
    cases hb
    exact ⟨.refl, r⟩⟩, hz⟩
theorem wk_tup {p : Addr} {xs : List V} {l : List α} (h : xs.length = l.length) (hz : l.length ≤ sizeLine) : WkR K (tupA K p xs l) (Itt K p) l :=
  ⟨⟨_, _, h ▸ walk_tup (K := K) (a := p) (xs := xs), fun S H h => tu_sqT h.1, fun S i H x H' a ha h _ ⟨e, hx⟩ => by
    subst e
    obtain ⟨b, hb, r⟩ := h.2.at hx
    rw [ha] at hb
    cases hb
    exact ⟨.refl, r⟩⟩, hz⟩
def rg (lo hi : Int) : List Int := (List.range (hi - lo).toNat).map fun i : Nat => lo + i
theorem rg_len (lo hi : Int) : (rg lo hi).length = (hi - lo).toNat := by unfold rg; simp
theorem wk_range {lo hi : Int} {n : Nat} (hn : n = (hi - lo).toNat) (hz : n ≤ sizeLine) : WkR K trueA (Itr lo n) (rg lo hi) :=
  ⟨⟨fun _ => True, YFn fun i => .int (lo + i), by rw [rg_len, ← hn]; exact walk_range, fun _ _ _ => trivial, fun S i H x H' a ha _ _ ⟨e, hx⟩ => by
    subst e
    subst hx
    unfold rg at ha
    rw [List.getElem?_map] at ha
    obtain ⟨j, hj, rfl⟩ := Option.map_eq_some_iff.mp ha
    have e2 : i = j := by
      have := List.getElem?_eq_some_iff.mp hj
      obtain ⟨h1, h2⟩ := this
      simp at h2
      exact h2
    subst e2
    exact ⟨.refl, rfl⟩⟩, by rw [rg_len, ← hn]; exact hz⟩
/-- numbered -/
def en (k : Int) (l : List α) : List (Int × α) := l.zipIdx.map fun x => (k + (x.2 : Nat), x.1)
theorem en_len (k : Int) (l : List α) : (en k l).length = l.length := by unfold en; simp
theorem en_at {k : Int} {l : List α} {i : Nat} {x : Int × α} (h : (en k l)[i]? = some x) : x.1 = k + (i : Nat) ∧ l[i]? = some x.2 := by
  unfold en at h
  rw [List.getElem?_map] at h
  obtain ⟨y, hy, rfl⟩ := Option.map_eq_some_iff.mp h
  rw [List.getElem?_zipIdx] at hy
  obtain ⟨z, hz, rfl⟩ := Option.map_eq_some_iff.mp hy
  simp [hz]
theorem wk_enumL {p : Addr} {xs : List V} {l : List α} (h : xs.length = l.length) (hz : l.length ≤ sizeLine) : WkR K (lstA K p xs l) (Ite K p) (en 0 l) :=
  ⟨⟨fun H => SqL K H p xs, YPair (fun i => some (.int (i : Nat))) (fun i => xs[i]?), by rw [en_len, ← h]; exact walk_enum (K := K) (a := p) (xs := xs), fun S H h => h.1.sqL, fun S i H x H' a ha h oS ⟨T, u, w, e1, hT, e2, hu, hw⟩ => by
    subst e1 e2
    obtain ⟨h1, h2⟩ := en_at ha
    obtain ⟨b, hb, r⟩ := h.2.at hw
    rw [h2] at hb
    cases hb
    cases hu
    exact ⟨.new hT, T, _, w, rfl, ⟨oS.no hT, upd_same⟩, by rw [h1]; show V.int _ = V.int _; rw [Int.zero_add], Rv.keep r (.new hT)⟩⟩, by rw [en_len]; exact hz⟩
theorem wk_enumT {p : Addr} {xs : List V} {l : List α} {k : Int} (h : xs.length = l.length) (hz : l.length ≤ sizeLine) : WkR K (tupA K p xs l) (IteT K p k) (en k l) :=
  ⟨⟨fun H => SqT K H p xs, YPair (fun i => some (.int (k + (i : Nat)))) (fun i => xs[i]?), by rw [en_len, ← h]; exact walk_enumT (K := K) (a := p) (k := k) (xs := xs), fun S H h => tu_sqT h.1, fun S i H x H' a ha h oS ⟨T, u, w, e1, hT, e2, hu, hw⟩ => by
    subst e1 e2
    obtain ⟨h1, h2⟩ := en_at ha
    obtain ⟨b, hb, r⟩ := h.2.at hw
    rw [h2] at hb
    cases hb
    cases hu
    exact ⟨.new hT, T, _, w, rfl, ⟨oS.no hT, upd_same⟩, by rw [h1]; rfl, Rv.keep r (.new hT)⟩⟩, by rw [en_len]; exact hz⟩
def bothA (A B : AV) : AV := ⟨fun S H v => A.R S H v ∧ B.R S H v, fun h k => ⟨A.keep h.1 k, B.keep h.2 k⟩, fun h w => ⟨A.wid h.1 w, B.wid h.2 w⟩⟩
theorem wk_zip {p q : Addr} {xs ys : List V} {l : List α} {m : List γ} (h : xs.length = l.length) (h' : ys.length = m.length) (hz : l.length ≤ sizeLine) : WkR K (bothA (lstA K p xs l) (lstA K q ys m)) (Itz K p q) (l.zip m) :=
  ⟨⟨fun H => SqL K H p xs ∧ SqL K H q ys, YPair (fun i => xs[i]?) (fun i => ys[i]?), by rw [List.length_zip, ← h, ← h']; exact walk_zip (K := K) (a := p) (b := q) (xs := xs) (ys := ys) rfl, fun S H h => ⟨h.1.1.sqL, h.2.1.sqL⟩, fun S i H x H' a ha h oS ⟨T, u, w, e1, hT, e2, hu, hw⟩ => by
    subst e1 e2
    obtain ⟨b, hb, rb⟩ := h.1.2.at hu
    obtain ⟨c, hc, rc⟩ := h.2.2.at hw
    rw [List.getElem?_zip_eq_some] at ha
    rw [ha.1] at hb
    rw [ha.2] at hc
    cases hb
    cases hc
    exact ⟨.new hT, T, u, w, rfl, ⟨oS.no hT, upd_same⟩, Rv.keep rb (.new hT), Rv.keep rc (.new hT)⟩⟩, by rw [List.length_zip]; omega⟩
theorem evI_list {k : List α → τ → Option ρ} (h : Ev e S N ts te L s p k) : EvI e S N ts (iList K te) L s p k := fun hp σ H R at_ q => h hp σ H _ at_ fun l s1 x H1 e1 a1 => by
  obtain ⟨p, xs, rfl, f, z, hr⟩ := a1.get (A := av K l) m0
  exact ⟨p, rfl, ⟨xs, f.sqL⟩, q l s1 _ _ H1 e1 (wk_list hr.len (hr.len ▸ z)) ((a1.less d1).add (A := lstA K p xs l) ⟨f, hr⟩)⟩
theorem puI_list {l : List α} (h : Pu e S N ts te L l) : PuI e S N ts (iList K te) L l := fun s σ H R at_ q => h s σ H _ at_ fun x H1 a1 => by
  obtain ⟨p, xs, rfl, f, z, hr⟩ := a1.get (A := av K l) m0
  exact ⟨p, rfl, ⟨xs, f.sqL⟩, q _ _ H1 (wk_list hr.len (hr.len ▸ z)) ((a1.less d1).add (A := lstA K p xs l) ⟨f, hr⟩)⟩
theorem evI_tup {k : List α → τ → Option ρ} (h : Ev e S N ts te L s p fun (l : Tu α) s1 => k l.l s1) : EvI e S N ts (iTup K te) L s p k := fun hp σ H R at_ q => h hp σ H _ at_ fun l s1 x H1 e1 a1 => by
  obtain ⟨p, xs, rfl, f, z, hr⟩ := a1.get (A := av K l) m0
  exact ⟨p, rfl, ⟨xs, tu_sqT f⟩, q l.l s1 _ _ H1 e1 (wk_tup hr.len (hr.len ▸ z)) ((a1.less d1).add (A := tupA K p xs l.l) ⟨f, hr⟩)⟩
theorem puI_tup {l : Tu α} (h : Pu e S N ts te L l) : PuI e S N ts (iTup K te) L l.l := fun s σ H R at_ q => h s σ H _ at_ fun x H1 a1 => by
  obtain ⟨p, xs, rfl, f, z, hr⟩ := a1.get (A := av K l) m0
  exact ⟨p, rfl, ⟨xs, tu_sqT f⟩, q _ _ H1 (wk_tup hr.len (hr.len ▸ z)) ((a1.less d1).add (A := tupA K p xs l.l) ⟨f, hr⟩)⟩
theorem evI_enumL {k : List (Int × α) → τ → Option ρ} (h : Ev e S N ts te L s p fun (l : List α) s1 => k (en 0 l) s1) : EvI e S N ts (iEnum K (tCons te tNil)) L s p k := fun hp σ H R at_ q => h hp σ H _ at_ fun l s1 x H1 e1 a1 => by
  obtain ⟨p, xs, rfl, f, z, hr⟩ := a1.get (A := av K l) m0
  exact ⟨p, xs, rfl, f.sqL, q _ s1 _ _ H1 e1 (wk_enumL hr.len (hr.len ▸ z)) ((a1.less d1).add (A := lstA K p xs l) ⟨f, hr⟩)⟩
theorem puI_enumL {l : List α} (h : Pu e S N ts te L l) : PuI e S N ts (iEnum K (tCons te tNil)) L (en 0 l) := fun s σ H R at_ q => h s σ H _ at_ fun x H1 a1 => by
  obtain ⟨p, xs, rfl, f, z, hr⟩ := a1.get (A := av K l) m0
  exact ⟨p, xs, rfl, f.sqL, q _ _ H1 (wk_enumL hr.len (hr.len ▸ z)) ((a1.less d1).add (A := lstA K p xs l) ⟨f, hr⟩)⟩
theorem puI_enumT {l : Tu α} (h : Pu e S N ts te L l) : PuI e S N ts (iEnumT K (tCons te tNil)) L (en 0 l.l) := fun s σ H R at_ q => h s σ H _ at_ fun x H1 a1 => by
  obtain ⟨p, xs, rfl, f, z, hr⟩ := a1.get (A := av K l) m0
  exact ⟨p, xs, rfl, tu_sqT f, q _ _ H1 (wk_enumT hr.len (hr.len ▸ z)) ((a1.less d1).add (A := tupA K p xs l.l) ⟨f, hr⟩)⟩
theorem evI_enumT {k : List (Int × α) → τ → Option ρ} (h : Ev e S N ts te L s p fun (l : Tu α) s1 => k (en 0 l.l) s1) : EvI e S N ts (iEnumT K (tCons te tNil)) L s p k := fun hp σ H R at_ q => h hp σ H _ at_ fun l s1 x H1 e1 a1 => by
  obtain ⟨p, xs, rfl, f, z, hr⟩ := a1.get (A := av K l) m0
  exact ⟨p, xs, rfl, tu_sqT f, q _ s1 _ _ H1 e1 (wk_enumT hr.len (hr.len ▸ z)) ((a1.less d1).add (A := tupA K p xs l.l) ⟨f, hr⟩)⟩
theorem puI_zip {l : List α} {m : List γ} (h : Pu e S N ts ta L l) (h' : ∀ v, Pu e S N ts tb ((v, av K l) :: L) m) : PuI e S N ts (iZip K (tCons ta (tCons tb tNil))) L (l.zip m) := fun s σ H R at_ q => h s σ H _ at_ fun x H1 a1 => h' x s σ H1 _ a1 fun y H2 a2 => by
  have i1 := a2.get (A := av K m) m0
  have i2 := a2.get (v := x) (A := av K l) m1
  obtain ⟨p2, ys, rfl, g, z', hr'⟩ := i1
  obtain ⟨p1, xs, rfl, f, z, hr⟩ := i2
  exact ⟨p1, p2, xs, ys, rfl, f.sqL, g.sqL, q _ _ H2 (wk_zip hr.len hr'.len (hr.len ▸ z)) ((a2.less (fun f hf => List.mem_cons_of_mem _ (List.mem_cons_of_mem _ hf))).add (A := bothA (lstA K p1 xs l) (lstA K p2 ys m)) ⟨⟨f, hr⟩, ⟨g, hr'⟩⟩)⟩
theorem evI_zip {k1 : List α → τ → Option ρ} {k : List (α × γ) → τ → Option ρ} (h : Ev e S N ts ta L s p k1) (h' : ∀ l s1 v, Ev e S N ts tb ((v, av K l) :: L) s1 (k1 l s1) fun (m : List γ) s2 => k (l.zip m) s2) : EvI e S N ts (iZip K (tCons ta (tCons tb tNil))) L s p k := fun hp σ H R at_ q => h hp σ H _ at_ fun l s1 x H1 e1 a1 => h' l s1 x e1 σ H1 _ a1 fun m s2 y H2 e2 a2 => by
  have i1 := a2.get (A := av K m) m0
  have i2 := a2.get (v := x) (A := av K l) m1
  obtain ⟨p2, ys, rfl, g, z', hr'⟩ := i1
  obtain ⟨p1, xs, rfl, f, z, hr⟩ := i2
  exact ⟨p1, p2, xs, ys, rfl, f.sqL, g.sqL, q _ s2 _ _ H2 e2 (wk_zip hr.len hr'.len (hr.len ▸ z)) ((a2.less (fun f hf => List.mem_cons_of_mem _ (List.mem_cons_of_mem _ hf))).add (A := bothA (lstA K p1 xs l) (lstA K p2 ys m)) ⟨⟨f, hr⟩, ⟨g, hr'⟩⟩)⟩
/-- the bounds of a range -/
def RgB (i j : Int) : Prop := -(2 ^ 62) ≤ i ∧ i < 2 ^ 62 ∧ -(2 ^ 62) ≤ j ∧ j < 2 ^ 62 ∧ (j - i).toNat ≤ sizeLine
instance (i j : Int) : Decidable (RgB i j) := inferInstanceAs (Decidable (_ ∧ _))
theorem puI_rg1 {j : Int} (h : Pu e S N ts te L j) (hj : RgB 0 j) : PuI e S N ts (iRng1 (tCons te tNil)) L (rg 0 j) := fun s σ H R at_ q => h s σ H _ at_ fun x H1 a1 => by
  cases (show x = V.int j from a1.get (A := av K j) m0)
  exact ⟨j, rfl, hj.2.2.1, hj.2.2.2.1, q _ _ H1 (wk_range (by rw [Int.sub_zero]) (by have := hj.2.2.2.2; rw [Int.sub_zero] at this; exact this)) ((a1.less d1).add (A := trueA) trivial)⟩
theorem evI_rg1 {k : List Int → τ → Option ρ} (h : Ev e S N ts te L s p fun (j : Int) s1 => if RgB 0 j then k (rg 0 j) s1 else none) : EvI e S N ts (iRng1 (tCons te tNil)) L s p k := fun hp σ H R at_ q => h hp σ H _ at_ fun j s1 x H1 e1 a1 => by
  dsimp only at e1
  split at e1
  · rename_i hj
    cases (show x = V.int j from a1.get (A := av K j) m0)
    exact ⟨j, rfl, hj.2.2.1, hj.2.2.2.1, q _ s1 _ _ H1 e1 (wk_range (by rw [Int.sub_zero]) (by have := hj.2.2.2.2; rw [Int.sub_zero] at this; exact this)) ((a1.less d1).add (A := trueA) trivial)⟩
  · cases e1
theorem puI_rg2 {i j : Int} (h : Pu e S N ts ta L i) (h' : ∀ v, Pu e S N ts tb ((v, av K i) :: L) j) (hj : RgB i j) : PuI e S N ts (iRng2 (tCons ta (tCons tb tNil))) L (rg i j) := fun s σ H R at_ q => h s σ H _ at_ fun x H1 a1 => h' x s σ H1 _ a1 fun y H2 a2 => by
  cases (show y = V.int j from a2.get (A := av K j) m0)
  cases (show x = V.int i from a2.get (A := av K i) m1)
  exact ⟨i, j, rfl, ⟨hj.1, hj.2.1, hj.2.2.1, hj.2.2.2.1⟩, q _ _ H2 (wk_range rfl hj.2.2.2.2) ((a2.less (fun f hf => List.mem_cons_of_mem _ (List.mem_cons_of_mem _ hf))).add (A := trueA) trivial)⟩
theorem evI_rg2 {k1 : Int → τ → Option ρ} {k : List Int → τ → Option ρ} (h : Ev e S N ts ta L s p k1) (h' : ∀ i s1 v, Ev e S N ts tb ((v, av K i) :: L) s1 (k1 i s1) fun (j : Int) s2 => if RgB i j then k (rg i j) s2 else none) : EvI e S N ts (iRng2 (tCons ta (tCons tb tNil))) L s p k := fun hp σ H R at_ q => h hp σ H _ at_ fun i s1 x H1 e1 a1 => h' i s1 x e1 σ H1 _ a1 fun j s2 y H2 e2 a2 => by
  dsimp only at e2
  split at e2
  · rename_i hj
    cases (show y = V.int j from a2.get (A := av K j) m0)
    cases (show x = V.int i from a2.get (A := av K i) m1)
    exact ⟨i, j, rfl, ⟨hj.1, hj.2.1, hj.2.2.1, hj.2.2.2.1⟩, q _ s2 _ _ H2 e2 (wk_range rfl hj.2.2.2.2) ((a2.less (fun f hf => List.mem_cons_of_mem _ (List.mem_cons_of_mem _ hf))).add (A := trueA) trivial)⟩
  · cases e2
/-! ### targets -/
/-- but for the slots is as it was -/
def Ch (is : List Nat) (σ σ' : L2.St) : Prop := σ'.length = σ.length ∧ ∀ j, j ∉ is → σ'[j]? = σ[j]?
theorem Ch.set {i : Nat} {x : Option V} : Ch [i] σ (σ.set i x) := ⟨List.length_set, fun j hj => by rw [List.getElem?_set, if_neg fun z => hj (by rw [z]; exact List.mem_singleton_self _)]⟩
theorem Ch.trans {is js : List Nat} {σ σ1 σ2 : L2.St} (h : Ch is σ σ1) (k : Ch js σ1 σ2) : Ch (is ++ js) σ σ2 := ⟨k.1.trans h.1, fun j hj => (k.2 j fun z => hj (List.mem_append_right _ z)).trans (h.2 j fun z => hj (List.mem_append_left _ z))⟩
/-- a target takes a value of the kind α: the slots behind it -/
def Tg (K : Frag) {α : Type} [Rv K α] (g : TG) (is : List Nat) (f : α → List (Option AV) → List (Option AV)) : Prop :=
  ∀ {S : List Addr} {ts : List (Option AV)} {σ : L2.St} {H : Hp} {v : V} {a : α} {Q : L2.St → Hp → Prop}, Sl ts S σ H → Rv.R K S H v a → (∀ σ', Sl (f a ts) S σ' H → Ch is σ σ' → Q σ' H) → g v σ H Q
def Tgs (K : Frag) {As : Type} [Ra K As] (g : TGs) (is : List Nat) (f : As → List (Option AV) → List (Option AV)) : Prop :=
  ∀ {S : List Addr} {ts : List (Option AV)} {σ : L2.St} {H : Hp} {vs : List V} {as : As} {Q : L2.St → Hp → Prop}, Sl ts S σ H → AllV S H vs (Ra.avs K as) → (∀ σ', Sl (f as ts) S σ' H → Ch is σ σ' → Q σ' H) → g vs σ H Q
theorem tg_name (i : Nat) : Tg K (gName i) [i] fun (a : α) ts => ts.set i (some (av K a)) := fun s r q => q _ (s.set (A := av K _) r) .set
theorem tgs_nil : Tgs K gNil [] fun (_ : Unit) ts => ts := fun {S ts σ H vs as Q} s r q => by
  cases vs with
  | nil => exact ⟨rfl, q σ s ⟨rfl, fun _ _ => rfl⟩⟩
  | cons _ _ => exact r.elim
variable {is js : List Nat}
theorem tgs_cons {As : Type} [Ra K As] {g : TG} {gs : TGs} {f : α → List (Option AV) → List (Option AV)} {f' : As → List (Option AV) → List (Option AV)} (h1 : Tg K g is f) (h2 : Tgs K gs js f') : Tgs K (gCons g gs) (is ++ js) fun (as : α × As) ts => f' as.2 (f as.1 ts) := fun {S ts σ H vs as Q} s r q => by
  cases vs with
  | nil => exact r.elim
  | cons v vs =>
    refine ⟨v, vs, rfl, h1 s r.1 fun σ' s' c => h2 s' r.2 fun σ2 s2 c2 => q σ2 s2 (c.trans c2)⟩
theorem tg_tup2 {gs : TGs} {f : α × γ × Unit → List (Option AV) → List (Option AV)} (h : Tgs K gs is f) : Tg K (gTup K 2 gs) is fun (a : α × γ) ts => f (a.1, a.2, ()) ts := fun {S ts σ H v a Q} s r q => by
  obtain ⟨p, x, y, rfl, fx, h1, h2⟩ := r
  exact ⟨p, [x, y], rfl, fx.sqT, rfl, h (as := (a.1, a.2, ())) s ⟨h1, h2, trivial⟩ q⟩
theorem tg_tup3 {gs : TGs} {f : α × γ × δ × Unit → List (Option AV) → List (Option AV)} (h : Tgs K gs is f) : Tg K (gTup K 3 gs) is fun (a : T3 α γ δ) ts => f (a.a, a.b, a.c, ()) ts := fun {S ts σ H v a Q} s r q => by
  obtain ⟨p, x, y, z, rfl, fx, h1, h2, h3⟩ := r
  exact ⟨p, [x, y, z], rfl, fx.sqT, rfl, h (as := (a.a, a.b, a.c, ())) s ⟨h1, h2, h3, trivial⟩ q⟩
theorem Tg.at {g : TG} {f : α → List (Option AV) → List (Option AV)} (h : Tg K g is f) {a : α} {Q : L2.St → Hp → Prop} (at_ : e.At S N ts L s σ H) (r : Rv.R K S H v a) (q : ∀ σ', e.At S N (f a ts) L s σ' H → Q σ' H) : g v σ H Q :=
  h at_.s r fun σ' s' _ => q σ' ⟨at_.c, s'⟩
/-! ### comprehensions -/
def wipeT (ts : List (Option AV)) : List Nat → List (Option AV)
  | [] => ts
  | v :: vs => (wipeT ts vs).set v none
theorem wipe_sl {ts : List (Option AV)} {S : List Addr} {σ : L2.St} {H : Hp} (h : Sl ts S σ H) : ∀ vs : List Nat, Sl (wipeT ts vs) S (wipe σ vs) H
  | [] => h
  | w :: vs => by
    have ih := wipe_sl h vs
    unfold wipeT wipe
    refine ⟨by rw [List.length_set, List.length_set, ih.len], fun j A' e => ?_⟩
    rw [List.getElem?_set] at e
    split at e
    · split at e <;> cases e
    · rename_i hij
      obtain ⟨u, e1, r1⟩ := ih.at_ j A' e
      refine ⟨u, ?_, r1⟩
      rw [List.getElem?_set, if_neg hij]
      exact e1
/-- the values of a comprehension one by one -/
def mapK {α γ τ ρ : Type} : List α → τ → (α → τ → (γ → τ → Option ρ) → Option ρ) → (List γ → τ → Option ρ) → Option ρ
  | [], s, _, k => k [] s
  | x :: xs, s, b, k => b x s fun y s' => mapK xs s' b fun ys s'' => k (y :: ys) s''
/-- .. with a test: what is left out -/
def mapKF {α γ τ ρ : Type} : List α → τ → (α → τ → (γ → τ → Option ρ) → (τ → Option ρ) → Option ρ) → (List γ → τ → Option ρ) → Option ρ
  | [], s, _, k => k [] s
  | x :: xs, s, b, k => b x s (fun y s' => mapKF xs s' b fun ys s'' => k (y :: ys) s'') (fun s' => mapKF xs s' b k)
/-- a list that a comprehension fills -/
def accD (K : Frag) {γ : Type} [Rv K γ] (D : Addr) (l : List γ) : Mu where
  a := D
  loc := true
  P := fun S H => ∃ xs, H D = some (.lst xs) ∧ xs.length ≤ sizeLine ∧ RA (Rv.R K S H) xs l
  keep := fun ⟨xs, e, z, h⟩ k hs n => ⟨xs, k D _ n e, z, h.imp fun _ _ z => Rv.keep z (k.mono hs)⟩
  wid := fun ⟨xs, e, z, h⟩ w => ⟨xs, e, z, h.imp fun _ _ z => Rv.wid z w⟩
theorem At.push {D : Addr} (at_ : e.At S N ts L s σ H) (hD : H D = none) : e.At (D :: S) (accD K D ([] : List γ) :: N) ts L s σ (upd H D (.lst [])) := by
  have w : ∀ x, x ∈ D :: S → x ∈ S ∨ H x = none := fun x hx => by
    rcases List.mem_cons.mp hx with z | z
    · rw [z]; exact .inr hD
    · exact .inl z
  exact ⟨at_.c.push (m := accD K D ([] : List γ)) hD ⟨[], upd_same, Nat.zero_le _, trivial⟩, (at_.s.wid w).keep (.new hD)⟩
theorem At.app {D : Addr} {l : List γ} {y : V} {a : γ} (at_ : e.At (D :: S) (accD K D l :: N) ts L s σ H) (hy : Rv.R K (D :: S) H y a) (hz : l.length < sizeLine) :
    ∃ acc, H D = some (.lst acc) ∧ acc.length < sizeLine ∧ e.At (D :: S) (accD K D (l ++ [a]) :: N) ts L s σ (upd H D (.lst (acc ++ [y]))) := by
  obtain ⟨c1, ⟨xs, ex, _, h⟩, c3, c4⟩ := at_.c.mu _ (List.mem_cons_self ..)
  have k : Kp [D] H (upd H D (.lst (xs ++ [y]))) := .mut (List.mem_singleton_self D)
  have k' : Kp (D :: S) H (upd H D (.lst (xs ++ [y]))) := .mut (List.mem_cons_self ..)
  refine ⟨xs, ex, by rw [h.len]; exact hz, ?_, at_.s.keep k'⟩
  exact at_.c.eff (i := 0) (m := accD K D l) (m' := accD K D (l ++ [a])) rfl k ⟨_, upd_same⟩ rfl rfl ⟨_, upd_same, by rw [List.length_append, h.len]; exact hz, (h.app (ws := [y]) (bs := [a]) ⟨hy, trivial⟩).imp fun _ _ z => Rv.keep z k'⟩
/-- Ctx.freeze, of a list that a comprehension filled -/
theorem At.freeze {D : Addr} {l : List γ} {σ0 : L2.St} (at_ : e.At (D :: S) (accD K D l :: N) ts L s σ H) (nD : D ∉ S) : e.At S N ts ((.ref D, av K l) :: L) s σ H := by
  obtain ⟨c, sl⟩ := at_
  obtain ⟨c1, ⟨xs, ex, hz, d⟩, c3, c4⟩ := c.mu _ (List.mem_cons_self ..)
  have nB : e.B D = none := c4 rfl
  have n0 : D ∉ e.S0 := c.oB.no nB
  obtain ⟨n1, n2⟩ := List.nodup_cons.mp c.dis
  have w : ∀ a, a ∈ S → a ∈ D :: S ∨ H a = none := fun a h => .inl (List.mem_cons_of_mem _ h)
  refine ⟨⟨c.oB, c.tS, fun a h => ?_, fun a h => c.old a (List.mem_cons_of_mem _ h), c.kp, fun n hn => ?_, n2, fun g hg => ?_⟩, sl.wid w⟩
  · rcases List.mem_cons.mp (c.sub a h) with z | z
    · exact absurd h (z ▸ n0)
    · exact z
  · obtain ⟨h1, h2, h3, h4⟩ := c.mu n (List.mem_cons_of_mem _ hn)
    refine ⟨?_, n.wid h2 w, h3, h4⟩
    rcases List.mem_cons.mp h1 with z | z
    · exact absurd (List.mem_map.mpr ⟨n, hn, z⟩) n1
    · exact z
  · rcases List.mem_cons.mp hg with z | z
    · subst z
      exact ⟨D, xs, rfl, ⟨nD, ex⟩, hz, d.imp fun _ _ z => Rv.wid z w⟩
    · exact g.2.wid (c.fa g z) w
theorem wipe_at (σ : L2.St) : ∀ (vs : List Nat) (j : Nat), (wipe σ vs)[j]? = if j ∈ vs then (if j < σ.length then some none else none) else σ[j]?
  | [], j => by simp [wipe]
  | w :: vs, j => by
    unfold wipe
    rw [List.getElem?_set, wipe_at σ vs j, wipe_length]
    by_cases h : w = j
    · subst h
      simp
    · have h2 : j ≠ w := fun z => h z.symm
      simp [h, h2]
theorem wipe_ch {σ σ2 : L2.St} {vs : List Nat} (h : Ch is (wipe σ vs) σ2) (hv : ∀ i ∈ is, i ∈ vs) : wipe σ2 vs = wipe σ vs := by
  refine List.ext_getElem? fun j => ?_
  rw [wipe_at σ2 vs j, wipe_at σ vs j]
  have hl := h.1
  rw [wipe_length] at hl
  by_cases hj : j ∈ vs
  · rw [if_pos hj, if_pos hj, hl]
  · rw [if_neg hj, if_neg hj, h.2 j fun z => hj (hv j z), wipe_at, if_neg hj]
/-- the slots as a fact -/
def slA (ts : List (Option AV)) (σ : L2.St) : AV := ⟨fun S H _ => Sl ts S σ H, fun h k => h.keep k, fun h w => h.wid w⟩
/-- the loop of a comprehension: I what is known of what is made -/
theorem lc_main {f : α → List (Option AV) → List (Option AV)} {vs : List Nat} {J : It} {xs : List α} {H1 : Hp} {Q : VK} (W : WkR K A J xs) (hg : Tg K g is f) (hv : ∀ i ∈ is, i ∈ vs) (at_ : e.At S N ts ((.non, A) :: L) s σ H1)
    (I : Nat → List γ → τ → Prop) (h0 : I 0 [] s)
    (hs : ∀ D M L' i x ys s' σ2 H2 (QY : VK) (QN : Hp → Prop), xs[i]? = some x → I i ys s' → e.At (D :: S) (M :: N) (f x (wipeT ts vs)) L' s' σ2 H2 →
      (∀ a s'' y H4 ts', I (i + 1) (ys ++ [a]) s'' → Rv.R K (D :: S) H4 y a → e.At (D :: S) (M :: N) ts' L' s'' σ2 H4 → QY y H4) → (∀ s'' H3 ts', I (i + 1) ys s'' → e.At (D :: S) (M :: N) ts' L' s'' σ2 H3 → QN H3) →
      tt σ2 H2 fun b H3 => if b = true then te σ2 H3 QY else QN H3)
    (hd : ∀ D ys s' H', I xs.length ys s' → e.At S N ts ((.ref D, av K ys) :: L) s' σ H' → Q (.ref D) H') :
    ∀ D, H1 D = none → ∃ W : Nat → Nat → Hp → Prop, (∃ m, W 0 m (upd H1 D (.lst []))) ∧ ∀ i m H, W i m H →
      (J.stop i H ∧ Q (.ref D) H) ∨ (J.go i H ∧ ∃ Nx : Hp → Prop, (∀ H', Nx H' → ∃ m', m' < m ∧ W (i + 1) m' H') ∧ ∀ x H', J.yld i H x H' → g x (wipe σ vs) H' fun σ2 H2 => wipe σ2 vs = wipe σ vs ∧ tt σ2 H2 fun b H3 =>
        if b = true then te σ2 H3 fun y H4 => ∃ acc, H4 D = some (.lst acc) ∧ acc.length < sizeLine ∧ Nx (upd H4 D (.lst (acc ++ [y]))) else Nx H3) := fun D hD => by
  obtain ⟨⟨G, Y, w, hG, hY⟩, hz⟩ := W
  have nD : D ∉ S := at_.c.old.no hD
  refine lc_it w (fun i H' => ∃ ys s', I i ys s' ∧ ys.length ≤ i ∧ e.At (D :: S) (accD K D ys :: N) ts ((.non, slA ts σ) :: (.non, A) :: L) s' σ H') ?_ ?_ ?_ ?_
  · exact ⟨[], s, h0, Nat.le_refl _, At.push (at_.add (v := .non) (A := slA ts σ) at_.s) hD⟩
  · rintro i H' _ ⟨ys, s', _, _, a⟩
    exact hG _ _ (a.get (v := .non) (A := A) m1)
  · rintro i x H2 H3 hi ⟨ys, s', hI, hl, a⟩ hy
    obtain ⟨k, hr⟩ := hY (D :: S) i H2 x H3 xs[i] (List.getElem?_eq_getElem hi) (a.get (v := .non) (A := A) m1) a.c.old hy
    have a3 := a.pure k
    refine hg (wipe_sl a3.s vs) hr fun σ2 s2 ch => ⟨wipe_ch ch hv, ?_⟩
    have a4 : e.At (D :: S) (accD K D ys :: N) (f xs[i] (wipeT ts vs)) ((.non, slA ts σ) :: (.non, A) :: L) s' σ2 H3 := ⟨a3.c, s2⟩
    refine hs D (accD K D ys) _ i xs[i] ys s' σ2 H3 _ _ (List.getElem?_eq_getElem hi) hI a4 (fun b s3 y H4 ts' hI' hy' a5 => ?_) fun s3 H4 ts' hI' a5 => ?_
    · have a6 : e.At (D :: S) (accD K D ys :: N) ts ((.non, slA ts σ) :: (.non, A) :: L) s3 σ H4 := ⟨a5.c, a5.get (v := .non) (A := slA ts σ) m0⟩
      obtain ⟨acc, h1, h2, h3⟩ := At.app a6 hy' (by omega)
      exact ⟨acc, h1, h2, _, s3, hI', by rw [List.length_append]; simp; exact hl, h3⟩
    · exact ⟨ys, s3, hI', Nat.le_succ_of_le hl, a5.c, a5.get (v := .non) (A := slA ts σ) m0⟩
  · rintro H' ⟨ys, s', hI, hl, a⟩
    exact hd D ys s' H' hI ((At.freeze (σ0 := σ) a nD).less fun f hf => (List.mem_cons.mp hf).elim (fun z => z ▸ m0) fun z => List.mem_cons_of_mem _ (List.mem_cons_of_mem _ (List.mem_cons_of_mem _ z)))
/-- [te for g in wi]: all of it plain -/
theorem pu_lc {f : α → List (Option AV) → List (Option AV)} {vs : List Nat} {xs : List α} {h : α → γ} (hi : PuI e S N ts wi L xs) (hg : Tg K g is f) (hv : ∀ i ∈ is, i ∈ vs) (hb : ∀ D M L' x, Pu e (D :: S) (M :: N) (f x (wipeT ts vs)) te L' (h x)) : Pu e S N ts (tLc wi g tYes te vs) L (xs.map h) := fun s σ H Q at_ q =>
  hi s σ H _ at_ fun A J H1 W a1 => lc_main W hg hv a1 (fun i ys s' => ys = (xs.take i).map h ∧ s' = s) ⟨rfl, rfl⟩ (fun D M L' i x ys s' σ2 H2 QY QN hx hI a qy _ => by
    obtain ⟨rfl, rfl⟩ := hI
    refine hb D M L' x _ σ2 H2 _ a fun y H4 a4 => ?_
    exact qy (h x) _ y H4 _ ⟨by rw [take_snoc hx, List.map_append]; rfl, rfl⟩ (a4.get m0) (a4.less d1)) fun D ys s' H' hI a => by
    obtain ⟨rfl, rfl⟩ := hI
    rw [List.take_length] at a
    exact q _ H' a
/-- [te for g in wi if tt] -/
theorem pu_lcF {f : α → List (Option AV) → List (Option AV)} {vs : List Nat} {xs : List α} {h : α → γ} {t : α → Bool} (hi : PuI e S N ts wi L xs) (hg : Tg K g is f) (hv : ∀ i ∈ is, i ∈ vs) (ht : ∀ D M L' x, PuT e (D :: S) (M :: N) (f x (wipeT ts vs)) tt L' (t x)) (hb : ∀ D M L' x, Pu e (D :: S) (M :: N) (f x (wipeT ts vs)) te L' (h x)) :
    Pu e S N ts (tLc wi g tt te vs) L ((xs.filter t).map h) := fun s σ H Q at_ q =>
  hi s σ H _ at_ fun A J H1 W a1 => lc_main W hg hv a1 (fun i ys s' => ys = ((xs.take i).filter t).map h ∧ s' = s) ⟨rfl, rfl⟩ (fun D M L' i x ys s' σ2 H2 QY QN hx hI a qy qn => by
    obtain ⟨rfl, rfl⟩ := hI
    refine ht D M L' x _ σ2 H2 _ a fun H3 a3 => ?_
    cases hc : t x with
    | true =>
      rw [if_pos rfl]
      refine hb D M L' x _ σ2 H3 _ a3 fun y H4 a4 => ?_
      exact qy (h x) _ y H4 _ ⟨by rw [take_snoc hx, List.filter_append, List.map_append]; simp [hc], rfl⟩ (a4.get m0) (a4.less d1)
    | false =>
      rw [if_neg (by decide)]
      exact qn _ H3 _ ⟨by rw [take_snoc hx, List.filter_append, List.map_append]; simp [hc], rfl⟩ a3) fun D ys s' H' hI a => by
    obtain ⟨rfl, rfl⟩ := hI
    rw [List.take_length] at a
    exact q _ H' a
theorem ev_lcP {f : α → List (Option AV) → List (Option AV)} {vs : List Nat} {h : α → γ} {k : List γ → τ → Option ρ} (hi : EvI e S N ts wi L s p fun xs s1 => k (xs.map h) s1) (hg : Tg K g is f) (hv : ∀ i ∈ is, i ∈ vs) (hb : ∀ D M L' x, Pu e (D :: S) (M :: N) (f x (wipeT ts vs)) te L' (h x)) : Ev e S N ts (tLc wi g tYes te vs) L s p k := fun hp σ H Q at_ q =>
  hi hp σ H _ at_ fun xs s1 A J H1 e1 W a1 => lc_main W hg hv a1 (fun i ys s' => ys = (xs.take i).map h ∧ s' = s1) ⟨rfl, rfl⟩ (fun D M L' i x ys s' σ2 H2 QY QN hx hI a qy _ => by
    obtain ⟨rfl, rfl⟩ := hI
    refine hb D M L' x _ σ2 H2 _ a fun y H4 a4 => ?_
    exact qy (h x) _ y H4 _ ⟨by rw [take_snoc hx, List.map_append]; rfl, rfl⟩ (a4.get m0) (a4.less d1)) fun D ys s' H' hI a => by
    obtain ⟨rfl, rfl⟩ := hI
    rw [List.take_length] at a
    exact q _ _ _ H' e1 a
theorem ev_lcPF {f : α → List (Option AV) → List (Option AV)} {vs : List Nat} {h : α → γ} {t : α → Bool} {k : List γ → τ → Option ρ} (hi : EvI e S N ts wi L s p fun xs s1 => k ((xs.filter t).map h) s1) (hg : Tg K g is f) (hv : ∀ i ∈ is, i ∈ vs) (ht : ∀ D M L' x, PuT e (D :: S) (M :: N) (f x (wipeT ts vs)) tt L' (t x)) (hb : ∀ D M L' x, Pu e (D :: S) (M :: N) (f x (wipeT ts vs)) te L' (h x)) : Ev e S N ts (tLc wi g tt te vs) L s p k := fun hp σ H Q at_ q =>
  hi hp σ H _ at_ fun xs s1 A J H1 e1 W a1 => lc_main W hg hv a1 (fun i ys s' => ys = ((xs.take i).filter t).map h ∧ s' = s1) ⟨rfl, rfl⟩ (fun D M L' i x ys s' σ2 H2 QY QN hx hI a qy qn => by
    obtain ⟨rfl, rfl⟩ := hI
    refine ht D M L' x _ σ2 H2 _ a fun H3 a3 => ?_
    cases hc : t x with
    | true =>
      rw [if_pos rfl]
      refine hb D M L' x _ σ2 H3 _ a3 fun y H4 a4 => ?_
      exact qy (h x) _ y H4 _ ⟨by rw [take_snoc hx, List.filter_append, List.map_append]; simp [hc], rfl⟩ (a4.get m0) (a4.less d1)
    | false =>
      rw [if_neg (by decide)]
      exact qn _ H3 _ ⟨by rw [take_snoc hx, List.filter_append, List.map_append]; simp [hc], rfl⟩ a3) fun D ys s' H' hI a => by
    obtain ⟨rfl, rfl⟩ := hI
    rw [List.take_length] at a
    exact q _ _ _ H' e1 a
theorem drop_cons {l : List α} {i : Nat} {x : α} (h : l[i]? = some x) : l.drop i = x :: l.drop (i + 1) := by
  obtain ⟨hi, e⟩ := List.getElem?_eq_some_iff.mp h
  rw [List.drop_eq_getElem_cons hi, e]
theorem ev_lc {f : α → List (Option AV) → List (Option AV)} {vs : List Nat} {b : α → τ → (γ → τ → Option ρ) → Option ρ} {k : List γ → τ → Option ρ} (hi : EvI e S N ts wi L s p fun xs s1 => mapK xs s1 b k) (hg : Tg K g is f) (hv : ∀ i ∈ is, i ∈ vs)
    (hb : ∀ D M L' x s1 nx, Ev e (D :: S) (M :: N) (f x (wipeT ts vs)) te L' s1 (b x s1 nx) nx) : Ev e S N ts (tLc wi g tYes te vs) L s p k := fun hp σ H Q at_ q =>
  hi hp σ H _ at_ fun xs s1 A J H1 e1 W a1 => lc_main W hg hv a1 (fun i ys s' => mapK (xs.drop i) s' b (fun zs s'' => k (ys ++ zs) s'') = some e.r) (by simpa using e1) (fun D M L' i x ys s' σ2 H2 QY QN hx hI a qy _ => by
    rw [drop_cons hx] at hI
    refine hb D M L' x s' _ hI σ2 H2 _ a fun y s3 v H4 e4 a4 => ?_
    refine qy y s3 v H4 _ ?_ (a4.get m0) (a4.less d1)
    simpa using e4) fun D ys s' H' hI a => by
    rw [List.drop_length] at hI
    exact q ys s' _ H' (by simpa [mapK] using hI) a
theorem ev_lcF {f : α → List (Option AV) → List (Option AV)} {vs : List Nat} {b : α → τ → (γ → τ → Option ρ) → (τ → Option ρ) → Option ρ} {b2 : α → τ → (γ → τ → Option ρ) → Option ρ} {k : List γ → τ → Option ρ} (hi : EvI e S N ts wi L s p fun xs s1 => mapKF xs s1 b k) (hg : Tg K g is f) (hv : ∀ i ∈ is, i ∈ vs)
    (ht : ∀ D M L' x s1 nx sk, EvT e (D :: S) (M :: N) (f x (wipeT ts vs)) tt L' s1 (b x s1 nx sk) fun c s2 => if c = true then b2 x s2 nx else sk s2)
    (hb : ∀ D M L' x s1 nx, Ev e (D :: S) (M :: N) (f x (wipeT ts vs)) te L' s1 (b2 x s1 nx) nx) : Ev e S N ts (tLc wi g tt te vs) L s p k := fun hp σ H Q at_ q =>
  hi hp σ H _ at_ fun xs s1 A J H1 e1 W a1 => lc_main W hg hv a1 (fun i ys s' => mapKF (xs.drop i) s' b (fun zs s'' => k (ys ++ zs) s'') = some e.r) (by simpa using e1) (fun D M L' i x ys s' σ2 H2 QY QN hx hI a qy qn => by
    rw [drop_cons hx] at hI
    refine ht D M L' x s' _ _ hI σ2 H2 _ a fun c s3 H3 e3 a3 => ?_
    dsimp only at e3
    cases c with
    | true =>
      rw [if_pos rfl] at e3 ⊢
      refine hb D M L' x s3 _ e3 σ2 H3 _ a3 fun y s4 v H4 e4 a4 => ?_
      refine qy y s4 v H4 _ ?_ (a4.get m0) (a4.less d1)
      simpa using e4
    | false =>
      rw [if_neg (by decide)] at e3 ⊢
      exact qn s3 H3 _ e3 a3) fun D ys s' H' hI a => by
    rw [List.drop_length] at hI
    exact q ys s' _ H' (by simpa [mapKF] using hI) a
end
end Lx

set_option Elab.async false
set_option linter.all false
set_option maxRecDepth 100000
set_option maxHeartbeats 4000000
/-! statements, loops -/
namespace Lx
open PySem PySem.Spec PyProof.Rows L2 He StX Lw
open Lw.En (enc)
section
variable {K : Frag} {β τ ρ α γ δ ς : Type} [Rv K β] [Rv K α] [Rv K γ] [Rv K δ]
variable {e : Env K τ ρ} {S : List Addr} {N : List Mu} {ts ts' : List (Option AV)} {L L' : List (V × AV)} {s : τ} {σ : L2.St} {H H' : Hp} {v : V} {A : AV}
variable {te ta tb tc : TE} {tt tu : TT} {t u t1 t2 : TS} {r r' : R2} {b c : Bool} {p : Option ρ} {wi : TI} {g : TG} {nx ct bk : L2.St → Hp → Prop} {is : List Nat}
/-- what is returned is what was wanted -/
def RetOk (K : Frag) {β τ ρ : Type} [Rv K β] (mk : β → τ → ρ) (e : Env K τ ρ) : Prop := ∀ S N L v H' a s', some (mk a s') = some e.r → Ctx e.B e.T0 e.S0 S (N ++ e.m s') ((v, av K a) :: L) H' → e.rt v H'
abbrev nF : L2.St → Hp → Prop := fun _ _ => False
theorem sv_ret {mk : β → τ → ρ} (hR : RetOk K mk e) {p0 : Option ρ} (h : Ev e S N ts te L s p0 fun a s1 => some (mk a s1)) (e0 : p = p0) : Sv e S N ts L (tRet te) s p nx ct bk := fun hp σ H D at_ rt _ _ _ =>
  h (e0 ▸ hp) σ H D.rt at_ fun a s1 v H' e1 a1 => rt _ _ (hR S N L v H' a s1 e1 a1.c)
theorem sv_asg (k : α → τ → Option ρ) {p0 : Option ρ} {f : α → List (Option AV) → List (Option AV)} (h : Ev e S N ts te L s p0 k) (hg : Tg K g is f) (hu : ∀ a s1, Sv e S N (f a ts) L u s1 (k a s1) nx ct bk) (e0 : p = p0) : Sv e S N ts L (tSeq (tAsg te g) u) s p nx ct bk := fun hp σ H D at_ rt n c b =>
  h (e0 ▸ hp) σ H _ at_ fun a s1 x H1 e1 a1 => hg.at (a1.less d1) (a1.get m0) fun σ' a2 => hu a s1 e1 σ' H1 D a2 rt n c b
theorem sv_expr (k : α → τ → Option ρ) {p0 : Option ρ} (h : Ev e S N ts te L s p0 k) (hu : ∀ a s1, Sv e S N ts L u s1 (k a s1) nx ct bk) (e0 : p = p0) : Sv e S N ts L (tSeq (tDrop te) u) s p nx ct bk := fun hp σ H D at_ rt n c b =>
  h (e0 ▸ hp) σ H _ at_ fun a s1 x H1 e1 a1 => hu a s1 e1 σ H1 D (a1.less d1) rt n c b
theorem sv_never : Sv e S N ts L tNever s none nx ct bk := fun hp => nomatch hp
/-- what is never reached -/
theorem sv_dead : Sv e S N ts L t s none nx ct bk := fun hp => nomatch hp
theorem sv_next (h : ∀ σ H, p = some e.r → e.At S N ts L s σ H → nx σ H) : Sv e S N ts L tNext s p nx ct bk := fun hp σ H D at_ rt n c b => n σ H (h σ H hp at_)
theorem sv_pass : Sv e S N ts L u s p nx ct bk → Sv e S N ts L (tSeq tNext u) s p nx ct bk := id
/-- the last statement of a block -/
theorem sv_last (h : Sv e S N ts L (tSeq t tNext) s p nx ct bk) : Sv e S N ts L t s p nx ct bk := h
/-- return nothing, at the end or by the word -/
theorem sv_retN {mk : Unit → τ → ρ} (hR : RetOk K mk e) : Sv e S N ts L tRetN s (some (mk () s)) nx ct bk := fun hp σ H D at_ rt _ _ _ => rt _ _ (hR S N L .non H () s hp (at_.add (v := .non) (A := av K ()) rfl).c)
theorem sv_fall {mk : Unit → τ → ρ} (hR : RetOk K mk e) : Sv e S N ts L tNext s (some (mk () s)) (fun _ H => e.rt .non H) ct bk := fun hp σ H D at_ rt n _ _ => n σ H (hR S N L .non H () s hp (at_.add (v := .non) (A := av K ()) rfl).c)
/-! ### if -/
theorem sv_ifL (p1 p2 : τ → Option ρ) {p0 : Option ρ} (hc : EvT e S N ts tt L s p0 fun b s1 => if b = true then p1 s1 else p2 s1) (h1 : ∀ s1, Sv e S N ts L t1 s1 (p1 s1) nx ct bk) (h2 : ∀ s1, Sv e S N ts L t2 s1 (p2 s1) nx ct bk) (e0 : p = p0) : Sv e S N ts L (tIfS tt t1 t2) s p nx ct bk := fun hp σ H D at_ rt n c b =>
  hc (e0 ▸ hp) σ H _ at_ fun b0 s1 H1 e1 a1 => by
    cases b0 with
    | true => exact h1 s1 e1 σ H1 D a1 rt n c b
    | false => exact h2 s1 e1 σ H1 D a1 rt n c b
/-- the branch leaves; else on with u -/
theorem sv_ifR (p1 p2 : τ → Option ρ) {p0 : Option ρ} (hc : EvT e S N ts tt L s p0 fun b s1 => if b = true then p1 s1 else p2 s1) (h1 : ∀ s1, Sv e S N ts L t1 s1 (p1 s1) nF ct bk) (h2 : ∀ s1, Sv e S N ts L u s1 (p2 s1) nx ct bk) (e0 : p = p0) : Sv e S N ts L (tSeq (tIfS tt t1 tNext) u) s p nx ct bk := fun hp σ H D at_ rt n c b =>
  hc (e0 ▸ hp) σ H _ at_ fun b0 s1 H1 e1 a1 => by
    cases b0 with
    | true => exact h1 s1 e1 σ H1 _ a1 rt (fun _ _ z => z.elim) c b
    | false => exact h2 s1 e1 σ H1 D a1 rt n c b
/-- both branches go on: what is known behind them -/
def JN (e : Env K τ ρ) (S : List Addr) (NJ : ς → List Mu) (tJ : ς → List (Option AV)) (L : List (V × AV)) (j : ς → τ → Option ρ) : L2.St → Hp → Prop := fun σ H => ∃ c s', j c s' = some e.r ∧ e.At S (NJ c) (tJ c) L s' σ H
variable {NJ : ς → List Mu} {tJ : ς → List (Option AV)} {j : ς → τ → Option ρ}
theorem sv_join (j : ς → τ → Option ρ) (h1 : Sv e S N ts L t s p (JN e S NJ tJ L j) ct bk) (hu : ∀ c s1, Sv e S (NJ c) (tJ c) L u s1 (j c s1) nx ct bk) : Sv e S N ts L (tSeq t u) s p nx ct bk := fun hp σ H D at_ rt n c b =>
  h1 hp σ H _ at_ rt (fun σ' H' ⟨c0, s1, e1, a1⟩ => hu c0 s1 e1 σ' H' D a1 rt n c b) c b
theorem sv_endJ (c : ς) (hN : NJ c = N) (w : Sub (tJ c) ts) : Sv e S N ts L tNext s (j c s) (JN e S NJ tJ L j) ct bk := fun hp σ H D at_ rt n _ _ => n σ H ⟨c, s, hp, by rw [hN]; exact at_.sub w⟩
theorem sv_cont (c : ς) (hN : NJ c = N) (w : Sub (tJ c) ts) : Sv e S N ts L (fun D => D.ct) s (j c s) nx (JN e S NJ tJ L j) bk := fun hp σ H D at_ rt _ n _ => n σ H ⟨c, s, hp, by rw [hN]; exact at_.sub w⟩
theorem sv_brk (c : ς) (hN : NJ c = N) (w : Sub (tJ c) ts) : Sv e S N ts L (fun D => D.bk) s (j c s) nx ct (JN e S NJ tJ L j) := fun hp σ H D at_ rt _ _ n => n σ H ⟨c, s, hp, by rw [hN]; exact at_.sub w⟩
/-! ### for -/
/-- a loop: its body goes on with the next turn, or leaves -/
def forK {α ς τ ρ : Type} : List α → ς → τ → (α → ς → τ → (ς → τ → Option ρ) → (ς → τ → Option ρ) → Option ρ) → (ς → τ → Option ρ) → Option ρ
  | [], c, s, _, k => k c s
  | x :: xs, c, s, b, k => b x c s (fun c' s' => forK xs c' s' b k) k
theorem sv_for {f : α → List (Option AV) → List (Option AV)} (body : α → ς → τ → (ς → τ → Option ρ) → (ς → τ → Option ρ) → Option ρ) (kf : ς → τ → Option ρ) {p0 : Option ρ} (c0 : ς) (hN : NJ c0 = N) (w0 : Sub (tJ c0) ts)
    (hi : EvI e S N ts wi L s p0 fun xs s1 => forK xs c0 s1 body kf) (hg : Tg K g is f)
    (hb : ∀ L' (x : α) c s1 next done, Sv e S (NJ c) (f x (tJ c)) L' tb' s1 (body x c s1 next done) (JN e S NJ tJ L' next) (JN e S NJ tJ L' next) (JN e S NJ tJ L' done))
    (hu : ∀ c s1, Sv e S (NJ c) (tJ c) L u s1 (kf c s1) nx ct bk) (e0 : p = p0) : Sv e S N ts L (tSeq (tFor wi g tb') u) s p nx ct bk := fun hp σ H D at_ rt n c b =>
  hi (e0 ▸ hp) σ H _ at_ fun xs s1 A J H1 e1 W a1 => by
    obtain ⟨⟨G, Y, w, hG, hY⟩, hz⟩ := W
    refine for_it w (fun i σ' H' => ∃ c s', forK (xs.drop i) c s' body kf = some e.r ∧ e.At S (NJ c) (tJ c) ((.non, A) :: L) s' σ' H') ?_ ?_ ?_ ?_
    · exact ⟨c0, s1, by simpa using e1, by rw [hN]; exact a1.sub w0⟩
    · rintro i σ' H' _ ⟨c, s', _, a⟩
      exact hG _ _ (a.get (v := .non) (A := A) m0)
    · rintro i x σ' H2 H3 hi' ⟨c1, s', hI, a⟩ hy
      obtain ⟨k, hr⟩ := hY S i H2 x H3 xs[i] (List.getElem?_eq_getElem hi') (a.get (v := .non) (A := A) m0) a.c.old hy
      rw [List.drop_eq_getElem_cons hi'] at hI
      refine hg.at (a.pure k) hr fun σ2 a2 => ?_
      exact hb _ xs[i] c1 s' _ _ hI σ2 H3 _ a2 rt (fun σ3 H4 z => z) (fun σ3 H4 z => z) fun σ3 H4 ⟨c2, s2, e2, a3⟩ => hu c2 s2 e2 σ3 H4 D (a3.less d1) rt n c b
    · rintro σ' H' ⟨c1, s', hI, a⟩
      rw [List.drop_length] at hI
      exact hu c1 s' hI σ' H' D (a.less d1) rt n c b
/-- while: as long as there is fuel -/
def whileK {ς τ ρ : Type} : Nat → ς → τ → (ς → τ → (ς → τ → Option ρ) → (ς → τ → Option ρ) → Option ρ) → (ς → τ → Option ρ) → Option ρ
  | 0, _, _, _, _ => none
  | n + 1, c, s, b, k => b c s (fun c' s' => whileK n c' s' b k) k
theorem sv_while {n0 : Nat} {body : ς → τ → (ς → τ → Option ρ) → (ς → τ → Option ρ) → Option ρ} {p1 : ς → τ → (ς → τ → Option ρ) → (ς → τ → Option ρ) → Option ρ} {kf : ς → τ → Option ρ} (c0 : ς) (hN : NJ c0 = N) (w0 : Sub (tJ c0) ts) (hp0 : p = whileK n0 c0 s body kf)
    (hc : ∀ L' c s1 next done, EvT e S (NJ c) (tJ c) tt L' s1 (body c s1 next done) fun b s2 => if b = true then p1 c s2 next done else done c s2)
    (hb : ∀ L' c s1 next done, Sv e S (NJ c) (tJ c) L' tb' s1 (p1 c s1 next done) (JN e S NJ tJ L' next) (JN e S NJ tJ L' next) (JN e S NJ tJ L' done))
    (hu : ∀ c s1, Sv e S (NJ c) (tJ c) L u s1 (kf c s1) nx ct bk) : Sv e S N ts L (tSeq (tWhile tt tb') u) s p nx ct bk := fun hp σ H D at_ rt n c b => by
  refine ⟨fun m σ' H' => ∃ c s', whileK m c s' body kf = some e.r ∧ e.At S (NJ c) (tJ c) L s' σ' H', ⟨n0, c0, s, by rw [← hp0]; exact hp, by rw [hN]; exact at_.sub w0⟩, ?_⟩
  rintro m σ' H2 ⟨c1, s', hI, a⟩
  cases m with
  | zero => cases hI
  | succ m =>
    refine hc L c1 s' _ _ hI σ' H2 _ a fun b0 s2 H3 e3 a3 => ?_
    dsimp only at e3
    cases b0 with
    | true =>
      rw [if_pos rfl] at e3 ⊢
      exact ⟨_, fun σ3 H4 z => ⟨m, Nat.lt_succ_self m, z⟩, hb L c1 s2 _ _ e3 σ' H3 _ a3 rt (fun σ3 H4 z => z) (fun σ3 H4 z => z) fun σ3 H4 ⟨c2, s3, e2, a4⟩ => hu c2 s3 e2 σ3 H4 D a4 rt n c b⟩
    | false =>
      rw [if_neg (by decide)] at e3 ⊢
      exact hu c1 s2 e3 σ' H3 D a3 rt n c b
/-! ### lists that are built -/
def refA (f : Addr) : AV := ⟨fun _ _ v => v = .ref f, fun h _ => h, fun h _ => h⟩
theorem sv_newL {i : Nat} (γ : Type) [Rv K γ] (hu : ∀ f, f ∉ S → Sv e (f :: S) (accD K f ([] : List γ) :: N) (ts.set i (some (refA f))) L u s p nx ct bk) : Sv e S N ts L (tSeq (tAsg (tLst tNil) (gName i)) u) s p nx ct bk := fun hp σ H D at_ rt n c b =>
  ⟨Nat.zero_le _, fun f hf => by
    have a2 := At.push (γ := γ) at_ hf
    exact hu f (at_.c.old.no hf) hp _ _ D (a2.set (A := refA f) rfl) rt n c b⟩
/-- a new list of some values that will grow -/
theorem At.pushL {D : Addr} {l : List γ} {xs : List V} (at_ : e.At S N ts L s σ H) (hD : H D = none) (hz : xs.length ≤ sizeLine) (h : RA (Rv.R K S H) xs l) : e.At (D :: S) (accD K D l :: N) ts L s σ (upd H D (.lst xs)) := by
  have w : ∀ x, x ∈ D :: S → x ∈ S ∨ H x = none := fun x hx => by
    rcases List.mem_cons.mp hx with z | z
    · rw [z]; exact .inr hD
    · exact .inl z
  exact ⟨at_.c.push (m := accD K D l) hD ⟨xs, upd_same, hz, h.imp fun _ _ z => Rv.keep (Rv.wid z w) (.new hD)⟩, (at_.s.wid w).keep (.new hD)⟩
theorem sv_newLs {i n : Nat} {tA : TA} (k : List γ → τ → Option ρ) {p0 : Option ρ} (h : EvL e S N ts tA L s p0 n k) (hz : n ≤ 1000) (hu : ∀ f l s1, f ∉ S → Sv e (f :: S) (accD K f l :: N) (ts.set i (some (refA f))) L u s1 (k l s1) nx ct bk) (e0 : p = p0) : Sv e S N ts L (tSeq (tAsg (tLst tA) (gName i)) u) s p nx ct bk := fun hp σ H D at_ rt n' c b =>
  h (e0 ▸ hp) σ H _ at_ fun l s1 vs H1 e1 hn a1 => by
    have hr := allA_RA (a1.get (v := .non) (A := allA vs (l.map (av K))) m0)
    have hz' : vs.length ≤ sizeLine := by rw [hr.len, sizeLine_eq]; omega
    exact ⟨hz', fun f hf => hu f l s1 (a1.c.old.no hf) e1 _ _ D (((At.pushL a1 hf hz' hr).less d1).set (A := refA f) rfl) rt n' c b⟩
/-- a list that was made by an expression of the reading (list(x), a comprehension) grows: a copy is not made, so only where it is new -/
theorem sv_app {i j : Nat} {f : Addr} {l : List γ} (k : γ → τ → Option ρ) {p0 : Option ρ} (hi : ts[i]? = some (some (refA f))) (hj : N[j]? = some (accD K f l)) (h : Ev e S N ts te L s p0 fun a s1 => if l.length < sizeLine then k a s1 else none) (hu : ∀ a s1, Sv e S (N.set j (accD K f (l ++ [a]))) ts L u s1 (k a s1) nx ct bk) (e0 : p = p0) :
    Sv e S N ts L (tSeq (tDrop (tBM K "list" rAppend (tVar i) (tCons te tNil))) u) s p nx ct bk := fun hp σ H D at_ rt n c b => by
  obtain ⟨x, hx, rx⟩ := at_.s.at_ i _ hi
  have rx' : x = .ref f := rx
  subst rx'
  refine ⟨.ref f, hx, ?_⟩
  have hjm : ∀ s, (N ++ e.m s)[j]? = some (accD K f l) := fun s => by rw [List.getElem?_append_left (List.getElem?_eq_some_iff.mp hj).1]; exact hj
  obtain ⟨_, ⟨xs0, ex0, _, _⟩, _⟩ := at_.c.mu _ (List.mem_of_getElem? (hjm s))
  refine ⟨.inl ⟨rfl, xs0, SqL.of ex0⟩, h (e0 ▸ hp) σ H _ at_ fun a s1 y H1 e1 a1 => ?_⟩
  dsimp only at e1
  split at e1
  · rename_i hl
    obtain ⟨c1, ⟨xs, ex, hz, hr⟩, c3, c4⟩ := a1.c.mu _ (List.mem_of_getElem? (hjm s1))
    refine ⟨f, xs, y, rfl, rfl, ex, by rw [hr.len]; exact hl, ?_⟩
    have kk : Kp [f] H1 (upd H1 f (.lst (xs ++ [y]))) := .mut (List.mem_singleton_self f)
    have kS : Kp S H1 (upd H1 f (.lst (xs ++ [y]))) := .mut c1
    have hy : Rv.R K S H1 y a := a1.get m0
    have c2 := a1.c.eff (i := j) (m := accD K f l) (m' := accD K f (l ++ [a])) (hjm s1) kk ⟨_, upd_same⟩ rfl rfl ⟨_, upd_same, by rw [List.length_append, hr.len]; exact hl, (hr.app (ws := [y]) (bs := [a]) ⟨hy, trivial⟩).imp fun _ _ z => Rv.keep z kS⟩
    rw [List.set_append_left _ _ (List.getElem?_eq_some_iff.mp hj).1] at c2
    exact hu a s1 e1 σ _ D ⟨c2.less d1, a1.s.keep kS⟩ rt n c b
  · cases e1
theorem sv_freeze {i : Nat} {f : Addr} {l : List γ} (hi : ts[i]? = some (some (refA f))) (nf : f ∉ S) (hu : Sv e S N (ts.set i (some (av K l))) L u s p nx ct bk) : Sv e (f :: S) (accD K f l :: N) ts L u s p nx ct bk := fun hp σ H D at_ rt n c b => by
  have a1 := At.freeze (σ0 := σ) at_ nf
  have z := a1.get (A := av K l) m0
  obtain ⟨x, hx, rx⟩ := at_.s.at_ i _ hi
  have rx' : x = .ref f := rx
  subst rx'
  have a2 := (a1.less d1).set (i := i) (A := av K l) z
  have es : σ.set i (some (.ref f)) = σ := set_self hx
  rw [es] at a2
  exact hu hp σ H D a2 rt n c b
/-- two that are built: the other one first -/
theorem sv_swap {f g : Addr} {A B : Mu} (hu : Sv e (g :: f :: S) (B :: A :: N) ts L u s p nx ct bk) : Sv e (f :: g :: S) (A :: B :: N) ts L u s p nx ct bk := fun hp σ H D at_ rt n c b => by
  have w : ∀ x, x ∈ g :: f :: S → x ∈ f :: g :: S := fun x h => by
    simp only [List.mem_cons] at h ⊢
    rcases h with h | h | h
    · exact .inr (.inl h)
    · exact .inl h
    · exact .inr (.inr h)
  have w' : ∀ x, x ∈ f :: g :: S → x ∈ g :: f :: S := fun x h => by
    simp only [List.mem_cons] at h ⊢
    rcases h with h | h | h
    · exact .inr (.inl h)
    · exact .inl h
    · exact .inr (.inr h)
  obtain ⟨c1, s1⟩ := at_
  refine hu hp σ H D ⟨⟨c1.oB, c1.tS, fun a h => w' a (c1.sub a h), fun a h => c1.old a (w a h), c1.kp, fun m hm => ?_, ?_, fun g' hg => g'.2.wid (c1.fa g' hg) fun x h => .inl (w x h)⟩, s1.wid fun x h => .inl (w x h)⟩ rt n c b
  · have hm' : m ∈ A :: B :: N ++ e.m s := by
      simp only [List.cons_append, List.mem_cons] at hm ⊢
      rcases hm with h | h | h
      · exact .inr (.inl h)
      · exact .inl h
      · exact .inr (.inr h)
    obtain ⟨h1, h2, h3, h4⟩ := c1.mu m hm'
    exact ⟨w' _ h1, m.wid h2 fun x h => .inl (w x h), h3, h4⟩
  · have d := c1.dis
    simp only [List.cons_append, List.map_cons, List.nodup_cons, List.mem_cons, not_or] at d ⊢
    exact ⟨⟨fun z => d.1.1 z.symm, d.2.1⟩, d.1.2, d.2.2⟩
/-- xs[i], len(xs), xs being built -/
theorem at_live {i j : Nat} {f : Addr} {l : List γ} (hi : ts[i]? = some (some (refA f))) (hj : N[j]? = some (accD K f l)) (at_ : e.At S N ts L s σ H) : σ[i]? = some (some (.ref f)) ∧ ∃ xs, H f = some (.lst xs) ∧ RA (Rv.R K S H) xs l := by
  obtain ⟨x, hx, rx⟩ := at_.s.at_ i _ hi
  have rx' : x = .ref f := rx
  subst rx'
  have hjm : (N ++ e.m s)[j]? = some (accD K f l) := by rw [List.getElem?_append_left (List.getElem?_eq_some_iff.mp hj).1]; exact hj
  obtain ⟨_, ⟨xs, ex, _, hr⟩, _⟩ := at_.c.mu _ (List.mem_of_getElem? hjm)
  exact ⟨hx, xs, ex, hr⟩
theorem ev_ixM {i j : Nat} {f : Addr} {l : List γ} {k : γ → τ → Option ρ} (hi : ts[i]? = some (some (refA f))) (hj : N[j]? = some (accD K f l)) (h : Ev e S N ts tb L s p fun (b : Int) s2 => (atI l b).bind fun c => k c s2) : Ev e S N ts (tOp (rIxL K) (tVar i) tb) L s p k := fun hp σ H Q at_ q => by
  obtain ⟨hx, _⟩ := at_live hi hj at_
  refine ⟨.ref f, hx, h hp σ H _ at_ fun b s2 y H2 e2 a2 => ?_⟩
  obtain ⟨_, xs, ex, hr⟩ := at_live hi hj a2
  obtain ⟨c, hc, e3⟩ := Option.bind_eq_some_iff.mp e2
  cases (show y = V.int b from a2.get (A := av K b) m0)
  obtain ⟨w, hw, rw_⟩ := hr.atI hc
  exact ⟨f, xs, b, w, rfl, rfl, SqL.of ex, hw, q c s2 w H2 e3 ((a2.less d1).add (A := av K c) rw_)⟩
theorem pu_lenM {i j : Nat} {f : Addr} {l : List γ} (hi : ts[i]? = some (some (refA f))) (hj : N[j]? = some (accD K f l)) : Pu e S N ts (tCB (rbLen K) (tCons (tVar i) tNil)) L (l.length : Int) := fun s σ H Q at_ q => by
  obtain ⟨hx, xs, ex, hr⟩ := at_live hi hj at_
  exact ⟨.ref f, hx, f, xs, rfl, .inl (SqL.of ex), q _ H (at_.add (A := av K (l.length : Int)) (by show V.int _ = V.int _; rw [hr.len]))⟩
/-- xs[i] = e, xs being built -/
theorem sv_setM {i j : Nat} {f : Addr} {l : List γ} {k1 : γ → τ → Option ρ} {k : γ → Int → τ → Option ρ} (hi : ts[i]? = some (some (refA f))) (hj : N[j]? = some (accD K f l)) (h : Ev e S N ts te L s p k1)
    (h2 : ∀ a s1 v, Ev e S N ts tb ((v, av K a) :: L) s1 (k1 a s1) fun (n : Int) s2 => (ixN l.length n).bind fun m => k a n s2) (hu : ∀ a n s1 m, ixN l.length n = some m → Sv e S (N.set j (accD K f (l.set m a))) ts L u s1 (k a n s1) nx ct bk) :
    Sv e S N ts L (tSeq (tAsg te (gSub (tVar i) tb rSetL)) u) s p nx ct bk := fun hp σ H D at_ rt n c b => by
  refine h hp σ H _ at_ fun a s1 y H1 e1 a1 => ?_
  obtain ⟨hx, _⟩ := at_live hi hj a1
  refine ⟨.ref f, hx, h2 a s1 y e1 σ H1 _ a1 fun m s2 z H2 e2 a2 => ?_⟩
  cases (show z = V.int m from a2.get (A := av K m) m0)
  obtain ⟨w, hw, e3⟩ := Option.bind_eq_some_iff.mp e2
  have hjm : (N ++ e.m s2)[j]? = some (accD K f l) := by rw [List.getElem?_append_left (List.getElem?_eq_some_iff.mp hj).1]; exact hj
  obtain ⟨c1, ⟨xs, ex, hz, hr⟩, c3, c4⟩ := a2.c.mu _ (List.mem_of_getElem? hjm)
  refine ⟨f, xs, m, w, rfl, rfl, ex, by rw [hr.len]; exact hw, ?_⟩
  have kk : Kp [f] H2 (upd H2 f (.lst (xs.set w y))) := .mut (List.mem_singleton_self f)
  have kS : Kp S H2 (upd H2 f (.lst (xs.set w y))) := .mut c1
  have hy : Rv.R K S H2 y a := a2.get m1
  have c2 := a2.c.eff (i := j) (m := accD K f l) (m' := accD K f (l.set w a)) hjm kk ⟨_, upd_same⟩ rfl rfl ⟨_, upd_same, by rw [List.length_set]; exact hz, (hr.set w hy).imp fun _ _ z => Rv.keep z kS⟩
  rw [List.set_append_left _ _ (List.getElem?_eq_some_iff.mp hj).1] at c2
  exact hu a m s2 w hw e3 σ _ D ⟨c2.less (fun f hf => List.mem_cons_of_mem _ (List.mem_cons_of_mem _ hf)), a2.s.keep kS⟩ rt n c b
/-! ### a, b, c = e1, e2, e3; among them new lists that will grow -/
def SvA (e : Env K τ ρ) (S : List Addr) (N : List Mu) (ts : List (Option AV)) (L acc : List (V × AV)) (tA : TA) (s : τ) (p : Option ρ) (Fin : Ends → L2.St → List V → Hp → Prop) (nx ct bk : L2.St → Hp → Prop) : Prop :=
  p = some e.r → ∀ σ H D, e.At S N ts (acc ++ L) s σ H → (∀ v H, e.rt v H → D.rt v H) → (∀ σ H, nx σ H → D.nx σ H) → (∀ σ H, ct σ H → D.ct σ H) → (∀ σ H, bk σ H → D.bk σ H) → tA σ H fun vs H' => Fin D σ (acc.map (·.1) ++ vs) H'
variable {acc : List (V × AV)} {tA : TA} {Fin : Ends → L2.St → List V → Hp → Prop}
theorem snoc_less {acc L : List (V × AV)} {x : V × AV} : ∀ f ∈ acc ++ [x] ++ L, f ∈ x :: (acc ++ L) := fun f hf => by
  simp only [List.append_assoc, List.mem_append, List.mem_cons, List.not_mem_nil, or_false, List.cons_append, List.nil_append] at hf ⊢
  rcases hf with h | h | h
  · exact .inr (.inl h)
  · exact .inl h
  · exact .inr (.inr h)
theorem svA_cons (k : α → τ → Option ρ) {p0 : Option ρ} (h : Ev e S N ts te (acc ++ L) s p0 k) (hu : ∀ a s1 v, SvA e S N ts L (acc ++ [(v, av K a)]) tA s1 (k a s1) Fin nx ct bk) (e0 : p = p0) : SvA e S N ts L acc (tCons te tA) s p Fin nx ct bk := fun hp σ H D at_ rt n c b =>
  h (e0 ▸ hp) σ H _ at_ fun a s1 x H1 e1 a1 => by
    have z := hu a s1 x e1 σ H1 D (a1.less snoc_less) rt n c b
    simpa using z
theorem svA_new (γ : Type) [Rv K γ] (hu : ∀ f, f ∉ S → SvA e (f :: S) (accD K f ([] : List γ) :: N) ts L (acc ++ [(.ref f, refA f)]) tA s p Fin nx ct bk) : SvA e S N ts L acc (tCons (tLst tNil) tA) s p Fin nx ct bk := fun hp σ H D at_ rt n c b =>
  ⟨Nat.zero_le _, fun f hf => by
    have a2 := (At.push (γ := γ) at_ hf).add (v := .ref f) (A := refA f) rfl
    have z := hu f (at_.c.old.no hf) hp σ _ D (a2.less snoc_less) rt n c b
    simpa using z⟩
theorem svA_nil (h : p = some e.r → ∀ σ H D, e.At S N ts (acc ++ L) s σ H → (∀ v H, e.rt v H → D.rt v H) → (∀ σ H, nx σ H → D.nx σ H) → (∀ σ H, ct σ H → D.ct σ H) → (∀ σ H, bk σ H → D.bk σ H) → Fin D σ (acc.map (·.1)) H) : SvA e S N ts L acc tNil s p Fin nx ct bk := fun hp σ H D at_ rt n c b => by
  show Fin D σ (acc.map (·.1) ++ []) H
  rw [List.append_nil]
  exact h hp σ H D at_ rt n c b
theorem sv_par {i j : Nat} (h : SvA e S N ts L [] tA s p (fun D σ vs H' => ∃ v w, vs = [v, w] ∧ u D ((σ.set i (some v)).set j (some w)) H') nx ct bk) : Sv e S N ts L (tSeq (tPar i j tA) u) s p nx ct bk := fun hp σ H D at_ rt n c b => h hp σ H D at_ rt n c b
theorem svA_par {i j : Nat} {v w : V} {A B : AV} (hu : Sv e S N ((ts.set i (some A)).set j (some B)) L u s p nx ct bk) : SvA e S N ts L [(v, A), (w, B)] tNil s p (fun D σ vs H' => ∃ v w, vs = [v, w] ∧ u D ((σ.set i (some v)).set j (some w)) H') nx ct bk :=
  svA_nil fun hp σ H D at_ rt n c b => ⟨v, w, rfl, hu hp _ H D (((at_.set (i := i) (at_.get m0)).set (i := j) (at_.get m1)).less fun f hf => List.mem_cons_of_mem _ (List.mem_cons_of_mem _ hf)) rt n c b⟩
theorem sv_par3 {i j l : Nat} (h : SvA e S N ts L [] tA s p (fun D σ vs H' => ∃ x v w, vs = [x, v, w] ∧ u D (((σ.set i (some x)).set j (some v)).set l (some w)) H') nx ct bk) : Sv e S N ts L (tSeq (tPar3 i j l tA) u) s p nx ct bk := fun hp σ H D at_ rt n c b => h hp σ H D at_ rt n c b
theorem svA_par3 {i j l : Nat} {x v w : V} {A B C : AV} (hu : Sv e S N (((ts.set i (some A)).set j (some B)).set l (some C)) L u s p nx ct bk) : SvA e S N ts L [(x, A), (v, B), (w, C)] tNil s p (fun D σ vs H' => ∃ x v w, vs = [x, v, w] ∧ u D (((σ.set i (some x)).set j (some v)).set l (some w)) H') nx ct bk :=
  svA_nil fun hp σ H D at_ rt n c b => ⟨x, v, w, rfl, hu hp _ H D ((((at_.set (i := i) (at_.get m0)).set (i := j) (at_.get m1)).set (i := l) (at_.get m2)).less fun f hf => List.mem_cons_of_mem _ (List.mem_cons_of_mem _ (List.mem_cons_of_mem _ hf))) rt n c b⟩
theorem sv_tupN {g : TG} (h : SvA e S N ts L [] tA s p (fun D σ xs H1 => xs.length ≤ sizeLine ∧ ∀ p, H1 p = none → g (.ref p) σ (upd H1 p (.tup xs)) (u D)) nx ct bk) : Sv e S N ts L (tSeq (tAsg (tTup tA) g) u) s p nx ct bk := fun hp σ H D at_ rt n c b => h hp σ H D at_ rt n c b
theorem svA_tup2 {i j : Nat} {v w : V} {A B : AV} (hu : Sv e S N ((ts.set i (some A)).set j (some B)) L u s p nx ct bk) : SvA e S N ts L [(v, A), (w, B)] tNil s p (fun D σ xs H1 => xs.length ≤ sizeLine ∧ ∀ p, H1 p = none → (gTup K 2 (gCons (gName i) (gCons (gName j) gNil))) (.ref p) σ (upd H1 p (.tup xs)) (u D)) nx ct bk :=
  svA_nil fun hp σ H D at_ rt n c b => ⟨by rw [sizeLine_eq]; simp, fun q hq => ⟨q, [v, w], rfl, SqT.of upd_same, rfl, v, [w], rfl, w, [], rfl, rfl, hu hp _ _ D ((((at_.pure (.new hq)).set (i := i) ((at_.pure (.new hq)).get m0)).set (i := j) ((at_.pure (.new hq)).get m1)).less fun f hf => List.mem_cons_of_mem _ (List.mem_cons_of_mem _ hf)) rt n c b⟩⟩
theorem svA_tup3 {i j l : Nat} {v w x : V} {A B C : AV} (hu : Sv e S N (((ts.set i (some A)).set j (some B)).set l (some C)) L u s p nx ct bk) : SvA e S N ts L [(v, A), (w, B), (x, C)] tNil s p (fun D σ xs H1 => xs.length ≤ sizeLine ∧ ∀ p, H1 p = none → (gTup K 3 (gCons (gName i) (gCons (gName j) (gCons (gName l) gNil)))) (.ref p) σ (upd H1 p (.tup xs)) (u D)) nx ct bk :=
  svA_nil fun hp σ H D at_ rt n c b => ⟨by rw [sizeLine_eq]; simp, fun q hq => ⟨q, [v, w, x], rfl, SqT.of upd_same, rfl, v, [w, x], rfl, w, [x], rfl, x, [], rfl, rfl, by
    have a1 := at_.pure (.new (o := .tup [v, w, x]) hq)
    exact hu hp _ _ D ((((a1.set (i := i) (a1.get m0)).set (i := j) (a1.get m1)).set (i := l) (a1.get m2)).less fun f hf => List.mem_cons_of_mem _ (List.mem_cons_of_mem _ (List.mem_cons_of_mem _ hf))) rt n c b⟩⟩
end
end Lx

set_option Elab.async false
set_option linter.all false
set_option maxRecDepth 100000
set_option maxHeartbeats 4000000
/-! own objects; how a def keeps its promise -/
namespace Lx
open PySem PySem.Spec PyProof.Rows L2 He StX Lw
open Lw.En (enc)
/-- an instance: its class, the names of its attributes, what they are -/
def obR (C : Addr) (ns : List Str) (As : List AV) (S : List Addr) (H : Hp) (v : V) : Prop := ∃ a dx fs, v = .ref a ∧ Fx S H a (.ins C dx fs) ∧ fs.map (·.1) = ns ∧ AllV S H (fs.map (·.2)) As
theorem obR.keep {C : Addr} {ns : List Str} {As : List AV} {S : List Addr} {H H' : Hp} {v : V} : obR C ns As S H v → Kp S H H' → obR C ns As S H' v := fun ⟨a, dx, fs, e, f, n, h⟩ k => ⟨a, dx, fs, e, f.keep k, n, h.keep k⟩
theorem obR.wid {C : Addr} {ns : List Str} {As : List AV} {S S' : List Addr} {H : Hp} {v : V} : obR C ns As S H v → (∀ x, x ∈ S' → x ∈ S ∨ H x = none) → obR C ns As S' H v := fun ⟨a, dx, fs, e, f, n, h⟩ w => ⟨a, dx, fs, e, f.wid w, n, h.wid w⟩
/-- a kind whose values are instances of the class at C -/
class Ob (K : Frag) (α : Type) [Rv K α] where
  C : Addr
  ns : List Str
  as : α → List AV
  ob : ∀ {S : List Addr} {H : Hp} {v : V} {a : α}, Rv.R K S H v a → obR C ns (as a) S H v
/-- the place of a name -/
def lkp : List Str → Str → Option Nat
  | [], _ => none
  | g :: ns, f => if f == g then some 0 else (lkp ns f).map (· + 1)
theorem lkp_none {f : Str} : ∀ {fs : List (Str × V)}, lkp (fs.map (·.1)) f = none → fs.lookup f = none
  | [], _ => rfl
  | (g, x) :: fs, h => by
    unfold lkp at h
    simp only [List.map_cons] at h
    split at h
    · cases h
    · rename_i hg
      rw [List.lookup_cons]
      split
      · rename_i z
        exact absurd z hg
      · exact lkp_none (by simpa using h)
theorem lkp_some {f : Str} : ∀ {fs : List (Str × V)} {j : Nat}, lkp (fs.map (·.1)) f = some j → ∃ v, fs.lookup f = some v ∧ (fs.map (·.2))[j]? = some v
  | [], _, h => by cases h
  | (g, x) :: fs, j, h => by
    unfold lkp at h
    simp only [List.map_cons] at h
    rw [List.lookup_cons]
    split at h
    · rename_i hg
      cases h
      rw [hg]
      exact ⟨x, rfl, rfl⟩
    · rename_i hg
      obtain ⟨i, hi, rfl⟩ := Option.map_eq_some_iff.mp h
      obtain ⟨v, h1, h2⟩ := lkp_some hi
      split
      · rename_i z
        exact absurd z hg
      · exact ⟨v, h1, by simpa using h2⟩
theorem AllV.at {S : List Addr} {H : Hp} : ∀ {vs : List V} {As : List AV} {j : Nat} {v : V} {A : AV}, AllV S H vs As → vs[j]? = some v → As[j]? = some A → A.R S H v
  | [], [], _, _, _, _, h, _ => by simp at h
  | v :: vs, A :: As, 0, w, B, ⟨h1, h2⟩, e1, e2 => by
    simp at e1 e2
    subst e1 e2
    exact h1
  | v :: vs, A :: As, j + 1, w, B, ⟨h1, h2⟩, e1, e2 => h2.at (by simpa using e1) (by simpa using e2)
  | [], _ :: _, _, _, _, h, _, _ => h.elim
  | _ :: _, [], _, _, _, h, _, _ => h.elim
theorem AllV.len {S : List Addr} {H : Hp} : ∀ {vs : List V} {As : List AV}, AllV S H vs As → vs.length = As.length
  | [], [], _ => rfl
  | v :: vs, A :: As, ⟨h1, h2⟩ => congrArg (· + 1) h2.len
  | [], _ :: _, h => h.elim
  | _ :: _, [], h => h.elim
theorem AllV.app {S : List Addr} {H : Hp} : ∀ {vs ws : List V} {As Bs : List AV}, AllV S H vs As → AllV S H ws Bs → AllV S H (vs ++ ws) (As ++ Bs)
  | [], _, [], _, _, h => h
  | v :: vs, _, A :: As, _, ⟨h1, h2⟩, h => ⟨h1, h2.app h⟩
  | [], _, _ :: _, _, h, _ => h.elim
  | _ :: _, _, [], _, h, _ => h.elim
theorem AllV.cons_l {S : List Addr} {H : Hp} {vs : List V} {A : AV} {As : List AV} (h : AllV S H vs (A :: As)) : ∃ v us, vs = v :: us ∧ A.R S H v ∧ AllV S H us As := by
  cases vs with
  | nil => exact h.elim
  | cons v us => exact ⟨v, us, rfl, h.1, h.2⟩
section
variable {K : Frag} {β τ ρ α γ δ ς : Type} [Rv K β] [Rv K α] [Rv K γ] [Rv K δ]
variable {e : Env K τ ρ} {S : List Addr} {N : List Mu} {ts ts' : List (Option AV)} {L L' : List (V × AV)} {s : τ} {σ : L2.St} {H H' : Hp} {v : V} {A : AV}
variable {te ta tb tc : TE} {tt tu : TT} {t u t1 t2 : TS} {r r' : R2} {b c : Bool} {p : Option ρ} {wi : TI} {g : TG} {nx ct bk : L2.St → Hp → Prop} {is : List Nat} {As Bs Cs : Type} [Ra K As] [Ra K Bs] [Ra K Cs] {tA tB : TA}
theorem ob_nn [Ob K α] {a : α} (h : Rv.R K S H v a) : v ≠ .non := by
  obtain ⟨p, dx, fs, rfl, _⟩ := Ob.ob h
  exact fun z => nomatch z
instance [Ob K α] : NN K α := ⟨fun h => ob_nn h⟩
/-! ### o.f, o.m(..), o.p -/
theorem fld_at [Ob K α] {o : α} {f : Str} {j : Nat} {x : γ} (c : Cls K (Ob.C K α)) (n : NoAttr K (Ob.C K α) f) (hj : lkp (Ob.ns K α) f = some j) (hx : (Ob.as (K := K) o)[j]? = some (av K x)) (h : Rv.R K S H v o) : ∃ a C dx fs w, v = .ref a ∧ H a = some (.ins C dx fs) ∧ Cls K C ∧ NoAttr K C f ∧ fs.lookup f = some w ∧ Rv.R K S H w x := by
  obtain ⟨a, dx, fs, rfl, fx, hn, hA⟩ := Ob.ob h
  rw [← hn] at hj
  obtain ⟨w, h1, h2⟩ := lkp_some hj
  exact ⟨a, _, dx, fs, w, rfl, fx.2, c, n, h1, hA.at h2 hx⟩
theorem pu_fld [Ob K α] {o : α} {f : Str} (j : Nat) {x : γ} (c : Cls K (Ob.C K α)) (n : NoAttr K (Ob.C K α) f) (h : Pu e S N ts te L o) (hj : lkp (Ob.ns K α) f = some j) (hx : (Ob.as (K := K) o)[j]? = some (av K x)) : Pu e S N ts (tFld K te f) L x := fun s σ H Q at_ q => h s σ H _ at_ fun y H1 a1 => by
  obtain ⟨a, C, dx, fs, w, e1, e2, e3, e4, e5, hw⟩ := fld_at c n hj hx (a1.get m0)
  exact ⟨a, C, dx, fs, w, e1, e2, e3, e4, e5, q w H1 ((a1.less d1).add (A := av K x) hw)⟩
theorem ev_fld [Ob K α] {f : Str} (j : Nat) {g : α → γ} {k : γ → τ → Option ρ} (c : Cls K (Ob.C K α)) (n : NoAttr K (Ob.C K α) f) (h : Ev e S N ts te L s p fun o s1 => k (g o) s1) (hj : lkp (Ob.ns K α) f = some j) (hx : ∀ o, (Ob.as (K := K) o)[j]? = some (av K (g o))) : Ev e S N ts (tFld K te f) L s p k := fun hp σ H Q at_ q => h hp σ H _ at_ fun o s1 y H1 e1' a1 => by
  obtain ⟨a, C, dx, fs, w, e1, e2, e3, e4, e5, hw⟩ := fld_at c n hj (hx o) (a1.get m0)
  exact ⟨a, C, dx, fs, w, e1, e2, e3, e4, e5, q (g o) s1 w H1 e1' ((a1.less d1).add (A := av K (g o)) hw)⟩
theorem ev_prop [Ob K α] {f : α × Unit → Option γ} {k : γ → τ → Option ρ} (h : Ev e S N ts te L s p fun o s1 => (f (o, ())).bind fun b => k b s1) : Ev e S N ts (tPr (Ob.C K α) (SpF K f) E0 te) L s p k := fun hp σ H Q at_ q => h hp σ H _ at_ fun o s1 y H1 e1 a1 => by
  obtain ⟨b, hb, e2⟩ := Option.bind_eq_some_iff.mp e1
  have z : Rv.R K S H1 y o := a1.get m0
  obtain ⟨a, dx, fs, rfl, fx, hn, hA⟩ := Ob.ob z
  exact ⟨a, dx, fs, rfl, fx.2, call_F (f := f) (as := (o, ())) ((a1.less d1).add (v := .non) (A := allA [.ref a] [av K o]) ⟨z, trivial⟩) hb fun w H2 a2 => q b s1 w H2 e2 a2⟩
theorem ev_meth [Ob K α] {m : Str} {f : α × As → Option γ} {k1 : α → τ → Option ρ} {k : γ → τ → Option ρ} (hm : lkp (Ob.ns K α) m = none) (h : Ev e S N ts ta L s p k1) (h2 : ∀ o s1 v, EvA e S N ts tA ((v, av K o) :: L) s1 (k1 o s1) fun as s2 => (f (o, as)).bind fun b => k b s2) :
    Ev e S N ts (tMC (Ob.C K α) m (fun vs H Q => SpF K f vs H Q E0) ta tA) L s p k := fun hp σ H Q at_ q => h hp σ H _ at_ fun o s1 y H1 e1 a1 => by
  have z : Rv.R K S H1 y o := a1.get m0
  obtain ⟨a, dx, fs, rfl, fx, hn, hA⟩ := Ob.ob z
  rw [← hn] at hm
  refine ⟨a, dx, fs, rfl, fx.2, lkp_none hm, h2 o s1 (.ref a) e1 σ H1 _ a1 fun as s2 vs H2 e2 a2 => ?_⟩
  obtain ⟨b, hb, e3⟩ := Option.bind_eq_some_iff.mp e2
  exact call_F (f := f) (as := (o, as)) ((a2.less (fun f hf => List.mem_cons_of_mem _ (List.mem_cons_of_mem _ hf))).add (v := .non) (A := allA (.ref a :: vs) (av K o :: Ra.avs K as)) ⟨a2.get m1, a2.get (v := .non) (A := allA vs (Ra.avs K as)) m0⟩) hb fun w H3 a3 => q b s2 w H3 e3 a3
/-- the same, the class's other arguments filled up by ds -/
theorem ev_methD [Ob K α] {m : Str} {ds : List V} {Ds : List AV} {F : As → Bs} {f : α × Bs → Option γ} {k1 : α → τ → Option ρ} {k : γ → τ → Option ρ} (hd : ∀ S H, AllV S H ds Ds) (hF : ∀ as, Ra.avs K (F as) = Ra.avs K as ++ Ds) (hm : lkp (Ob.ns K α) m = none) (h : Ev e S N ts ta L s p k1) (h2 : ∀ o s1 v, EvA e S N ts tA ((v, av K o) :: L) s1 (k1 o s1) fun as s2 => (f (o, F as)).bind fun b => k b s2) :
    Ev e S N ts (tMC (Ob.C K α) m (fun vs H Q => SpF K f (vs ++ ds) H Q E0) ta tA) L s p k := fun hp σ H Q at_ q => h hp σ H _ at_ fun o s1 y H1 e1 a1 => by
  have z : Rv.R K S H1 y o := a1.get m0
  obtain ⟨a, dx, fs, rfl, fx, hn, hA⟩ := Ob.ob z
  rw [← hn] at hm
  refine ⟨a, dx, fs, rfl, fx.2, lkp_none hm, h2 o s1 (.ref a) e1 σ H1 _ a1 fun as s2 vs H2 e2 a2 => ?_⟩
  obtain ⟨b, hb, e3⟩ := Option.bind_eq_some_iff.mp e2
  exact call_F (f := f) (as := (o, F as)) (vs := .ref a :: vs ++ ds) ((a2.less (fun f hf => List.mem_cons_of_mem _ (List.mem_cons_of_mem _ hf))).add (v := .non) (A := allA (.ref a :: vs ++ ds) (av K o :: Ra.avs K (F as))) (by
    rw [hF]
    exact ⟨a2.get m1, (a2.get (v := .non) (A := allA vs (Ra.avs K as)) m0 : AllV S H2 vs _).app (hd _ _)⟩)) hb fun w H3 a3 => q b s2 w H3 e3 a3
theorem ev_callD {ds : List V} {Ds : List AV} {F : As → Bs} {f : Bs → Option γ} {k : γ → τ → Option ρ} (hd : ∀ S H, AllV S H ds Ds) (hF : ∀ as, Ra.avs K (F as) = Ra.avs K as ++ Ds) (h : EvA e S N ts tA L s p fun as s1 => (f (F as)).bind fun c => k c s1) : Ev e S N ts (tCB (fun vs H Q => SpF K f (vs ++ ds) H Q E0) tA) L s p k := fun hp σ H Q at_ q =>
  h hp σ H _ at_ fun as s1 vs H1 e1 a1 => by
    obtain ⟨c, hc, e2⟩ := Option.bind_eq_some_iff.mp e1
    exact call_F (f := f) (as := F as) (vs := vs ++ ds) ((a1.less d1).add (v := .non) (A := allA (vs ++ ds) (Ra.avs K (F as))) (by
      rw [hF]
      exact (a1.get (v := .non) (A := allA vs (Ra.avs K as)) m0 : AllV S H1 vs _).app (hd _ _))) hc fun v H' a2 => q c s1 v H' e2 a2
/-- o.m(.., k=..) -/
theorem ev_methW [Ob K α] {m : Str} {n n' : Nat} {gV : List V → List V → List V} {F : α → As → Bs → Cs} {f : Cs → Option γ} {k1 : α → τ → Option ρ} {k2 : α → As → τ → Option ρ} {k : γ → τ → Option ρ} (hm : lkp (Ob.ns K α) m = none)
    (hF : ∀ {S : List Addr} {H : Hp} {vs zs : List V} {o : α} {as : As} {bs : Bs}, AllV S H vs (av K o :: Ra.avs K as) → AllV S H zs (Ra.avs K bs) → vs.length = n ∧ zs.length = n' ∧ AllV S H (gV vs zs) (Ra.avs K (F o as bs)))
    (h : Ev e S N ts ta L s p k1) (h2 : ∀ o s1 v, EvA e S N ts tA ((v, av K o) :: L) s1 (k1 o s1) (k2 o)) (h3 : ∀ o as s2 v w, EvA e S N ts tB ((.non, allA w (Ra.avs K as)) :: (v, av K o) :: L) s2 (k2 o as s2) fun bs s3 => (f (F o as bs)).bind fun b => k b s3) :
    Ev e S N ts (tMW (Ob.C K α) m n n' gV (SpF K f) E0 ta tA tB) L s p k := fun hp σ H Q at_ q => h hp σ H _ at_ fun o s1 y H1 e1 a1 => by
  have z : Rv.R K S H1 y o := a1.get m0
  obtain ⟨a, dx, fs, rfl, fx, hn, hA⟩ := Ob.ob z
  rw [← hn] at hm
  refine ⟨a, dx, fs, rfl, fx.2, lkp_none hm, h2 o s1 (.ref a) e1 σ H1 _ a1 fun as s2 vs H2 e2 a2 => h3 o as s2 (.ref a) vs e2 σ H2 _ a2 fun bs s3 zs H3 e3 a3 => ?_⟩
  obtain ⟨b, hb, e4⟩ := Option.bind_eq_some_iff.mp e3
  have w1 : AllV S H3 (.ref a :: vs) (av K o :: Ra.avs K as) := ⟨a3.get m2, a3.get (v := .non) (A := allA vs (Ra.avs K as)) m1⟩
  have w2 : AllV S H3 zs (Ra.avs K bs) := a3.get (v := .non) (A := allA zs (Ra.avs K bs)) m0
  obtain ⟨l1, l2, hv⟩ := hF w1 w2
  exact ⟨l1, l2, call_F (f := f) (as := F o as bs) (vs := gV (.ref a :: vs) zs) ((a3.less (fun f hf => List.mem_cons_of_mem _ (List.mem_cons_of_mem _ (List.mem_cons_of_mem _ hf)))).add (v := .non) (A := allA (gV (.ref a :: vs) zs) (Ra.avs K (F o as bs))) hv) hb fun w H3 a3 => q b s3 w H3 e4 a3⟩
theorem ev_callW {n n' : Nat} {gV : List V → List V → List V} {F : As → Bs → Cs} {f : Cs → Option γ} {k2 : As → τ → Option ρ} {k : γ → τ → Option ρ}
    (hF : ∀ {S : List Addr} {H : Hp} {vs zs : List V} {as : As} {bs : Bs}, AllV S H vs (Ra.avs K as) → AllV S H zs (Ra.avs K bs) → vs.length = n ∧ zs.length = n' ∧ AllV S H (gV vs zs) (Ra.avs K (F as bs)))
    (h2 : EvA e S N ts tA L s p k2) (h3 : ∀ as s2 w, EvA e S N ts tB ((.non, allA w (Ra.avs K as)) :: L) s2 (k2 as s2) fun bs s3 => (f (F as bs)).bind fun b => k b s3) :
    Ev e S N ts (tCW n n' gV (SpF K f) E0 tA tB) L s p k := fun hp σ H Q at_ q => h2 hp σ H _ at_ fun as s2 vs H2 e2 a2 => h3 as s2 vs e2 σ H2 _ a2 fun bs s3 zs H3 e3 a3 => by
  obtain ⟨b, hb, e4⟩ := Option.bind_eq_some_iff.mp e3
  have w1 : AllV S H3 vs (Ra.avs K as) := a3.get (v := .non) (A := allA vs (Ra.avs K as)) m1
  have w2 : AllV S H3 zs (Ra.avs K bs) := a3.get (v := .non) (A := allA zs (Ra.avs K bs)) m0
  obtain ⟨l1, l2, hv⟩ := hF w1 w2
  exact ⟨l1, l2, call_F (f := f) (as := F as bs) (vs := gV vs zs) ((a3.less (fun f hf => List.mem_cons_of_mem _ (List.mem_cons_of_mem _ hf))).add (v := .non) (A := allA (gV vs zs) (Ra.avs K (F as bs))) hv) hb fun w H3 a3 => q b s3 w H3 e4 a3⟩
theorem ev_methP [Ob K α] {m : Str} {f : α × As → Option γ} {o : α} {as : As} {k : γ → τ → Option ρ} (hm : lkp (Ob.ns K α) m = none) (h : Pu e S N ts ta L o) (h2 : ∀ v, PuA e S N ts tA ((v, av K o) :: L) as) :
    Ev e S N ts (tMC (Ob.C K α) m (fun vs H Q => SpF K f vs H Q E0) ta tA) L s ((f (o, as)).bind fun b => k b s) k := fun hp σ H Q at_ q => h s σ H _ at_ fun y H1 a1 => by
  have z : Rv.R K S H1 y o := a1.get m0
  obtain ⟨a, dx, fs, rfl, fx, hn, hA⟩ := Ob.ob z
  rw [← hn] at hm
  refine ⟨a, dx, fs, rfl, fx.2, lkp_none hm, h2 (.ref a) s σ H1 _ a1 fun vs H2 a2 => ?_⟩
  obtain ⟨b, hb, e3⟩ := Option.bind_eq_some_iff.mp hp
  exact call_F (f := f) (as := (o, as)) ((a2.less (fun f hf => List.mem_cons_of_mem _ (List.mem_cons_of_mem _ hf))).add (v := .non) (A := allA (.ref a :: vs) (av K o :: Ra.avs K as)) ⟨a2.get m1, a2.get (v := .non) (A := allA vs (Ra.avs K as)) m0⟩) hb fun w H3 a3 => q b s w H3 e3 a3
theorem ev_methWP [Ob K α] {m : Str} {n n' : Nat} {gV : List V → List V → List V} {F : α → As → Bs → Cs} {f : Cs → Option γ} {o : α} {as : As} {bs : Bs} {k : γ → τ → Option ρ} (hm : lkp (Ob.ns K α) m = none)
    (hF : ∀ {S : List Addr} {H : Hp} {vs zs : List V} {o : α} {as : As} {bs : Bs}, AllV S H vs (av K o :: Ra.avs K as) → AllV S H zs (Ra.avs K bs) → vs.length = n ∧ zs.length = n' ∧ AllV S H (gV vs zs) (Ra.avs K (F o as bs)))
    (h : Pu e S N ts ta L o) (h2 : ∀ v, PuA e S N ts tA ((v, av K o) :: L) as) (h3 : ∀ v w, PuA e S N ts tB ((.non, allA w (Ra.avs K as)) :: (v, av K o) :: L) bs) :
    Ev e S N ts (tMW (Ob.C K α) m n n' gV (SpF K f) E0 ta tA tB) L s ((f (F o as bs)).bind fun b => k b s) k := fun hp σ H Q at_ q => h s σ H _ at_ fun y H1 a1 => by
  have z : Rv.R K S H1 y o := a1.get m0
  obtain ⟨a, dx, fs, rfl, fx, hn, hA⟩ := Ob.ob z
  rw [← hn] at hm
  refine ⟨a, dx, fs, rfl, fx.2, lkp_none hm, h2 (.ref a) s σ H1 _ a1 fun vs H2 a2 => h3 (.ref a) vs s σ H2 _ a2 fun zs H3 a3 => ?_⟩
  obtain ⟨b, hb, e4⟩ := Option.bind_eq_some_iff.mp hp
  have w1 : AllV S H3 (.ref a :: vs) (av K o :: Ra.avs K as) := ⟨a3.get m2, a3.get (v := .non) (A := allA vs (Ra.avs K as)) m1⟩
  have w2 : AllV S H3 zs (Ra.avs K bs) := a3.get (v := .non) (A := allA zs (Ra.avs K bs)) m0
  obtain ⟨l1, l2, hv⟩ := hF w1 w2
  exact ⟨l1, l2, call_F (f := f) (as := F o as bs) (vs := gV (.ref a :: vs) zs) ((a3.less (fun f hf => List.mem_cons_of_mem _ (List.mem_cons_of_mem _ (List.mem_cons_of_mem _ hf)))).add (v := .non) (A := allA (gV (.ref a :: vs) zs) (Ra.avs K (F o as bs))) hv) hb fun w H3 a3 => q b s w H3 e4 a3⟩
/-! ### making one -/
def SpI (K : Frag) {As β : Type} [Ra K As] [Rv K β] (C : Addr) (f : As → Option β) : Sp := fun vs H Q _ => ∃ S x dx us as b, Old S H ∧ vs = .ref x :: us ∧ x ∉ S ∧ H x = some (.ins C dx []) ∧ AllV (x :: S) H us (Ra.avs K as) ∧ f as = some b ∧ ∀ H', Kp [x] H H' → Rv.R K S H' (.ref x) b → Q .non H'
theorem mk_I {C : Addr} {f : As → Option γ} {vs : List V} {as : As} {c : γ} {Q : VK} {E : XK} (at_ : e.At S N ts ((.non, allA vs (Ra.avs K as)) :: L) s σ H) (hc : f as = some c) (q : ∀ v H', e.At S N ts ((v, av K c) :: L) s σ H' → Q v H') : rMk C (SpI K C f) E vs H Q := fun x dx hx hdx ne => by
  have h1 : upd H dx (.own x) x = none := by rw [upd_ne (Ne.symm ne)]; exact hx
  have k : Kp [] H (upd (upd H dx (.own x)) x (.ins C dx [])) := (Kp.new hdx).trans (.new h1)
  have a2 := at_.pure k
  refine ⟨S, x, dx, vs, as, c, a2.c.old, rfl, at_.c.old.no hx, upd_same, AllV.keep (k.mono fun _ h => absurd h List.not_mem_nil) (AllV.wid (S' := x :: S) (fun y hy => (List.mem_cons.mp hy).elim (fun z => by rw [z]; exact .inr hx) .inl) (at_.get (v := .non) (A := allA vs (Ra.avs K as)) m0 : AllV S H vs _)), hc, fun H' k' r => ⟨rfl, ?_⟩⟩
  have k2 : Kp [] H H' := Kp.newS (p := x) ((k.mono fun _ h => absurd h List.not_mem_nil).trans k') hx
  exact q _ H' (((at_.pure k2).less d1).add (A := av K c) r)
theorem ev_mk {C : Addr} {f : As → Option γ} {k : γ → τ → Option ρ} (h : EvA e S N ts tA L s p fun as s1 => (f as).bind fun c => k c s1) : Ev e S N ts (tCB (rMk C (SpI K C f) E0) tA) L s p k := fun hp σ H Q at_ q =>
  h hp σ H _ at_ fun as s1 vs H1 e1 a1 => by
    obtain ⟨c, hc, e2⟩ := Option.bind_eq_some_iff.mp e1
    exact mk_I a1 hc fun v H' a2 => q c s1 v H' e2 a2
theorem ev_mkP {C : Addr} {f : As → Option γ} {as : As} {k : γ → τ → Option ρ} (h : PuA e S N ts tA L as) : Ev e S N ts (tCB (rMk C (SpI K C f) E0) tA) L s ((f as).bind fun c => k c s) k := ev_mk (h.ev (k := fun as s1 => (f as).bind fun c => k c s1))
theorem ev_mkD {C : Addr} {ds : List V} {Ds : List AV} {F : As → Bs} {f : Bs → Option γ} {k : γ → τ → Option ρ} (hd : ∀ S H, AllV S H ds Ds) (hF : ∀ as, Ra.avs K (F as) = Ra.avs K as ++ Ds) (h : EvA e S N ts tA L s p fun as s1 => (f (F as)).bind fun c => k c s1) : Ev e S N ts (tCB (rMk C (fun vs H Q E => SpI K C f (vs ++ ds) H Q E) E0) tA) L s p k := fun hp σ H Q at_ q =>
  h hp σ H _ at_ fun as s1 vs H1 e1 a1 => by
    obtain ⟨c, hc, e2⟩ := Option.bind_eq_some_iff.mp e1
    have z : rMk C (SpI K C f) E0 (vs ++ ds) H1 Q := mk_I (f := f) (as := F as) (vs := vs ++ ds) ((a1.less d1).add (v := .non) (A := allA (vs ++ ds) (Ra.avs K (F as))) (by
      rw [hF]
      exact (a1.get (v := .non) (A := allA vs (Ra.avs K as)) m0 : AllV S H1 vs _).app (hd _ _))) hc fun v H' a2 => q c s1 v H' e2 a2
    exact z
/-- an instance that is being made -/
def insD (x dx C : Addr) (ns : List Str) (As : List AV) : Mu where
  a := x
  loc := false
  P := fun S H => ∃ fs : List (Str × V), H x = some (.ins C dx fs) ∧ fs.map (·.1) = ns ∧ AllV S H (fs.map (·.2)) As
  keep := fun h k hs nn => by
    obtain ⟨fs, e, n, h⟩ := h
    exact ⟨fs, k x _ nn e, n, AllV.keep (Kp.mono k hs) h⟩
  wid := fun h w => by
    obtain ⟨fs, e, n, h⟩ := h
    exact ⟨fs, e, n, AllV.wid w h⟩
theorem putF_new {f : Str} {v : V} : ∀ {fs : List (Str × V)}, lkp (fs.map (·.1)) f = none → putF f v fs = fs ++ [(f, v)]
  | [], _ => rfl
  | (g, x) :: fs, h => by
    unfold lkp at h
    simp only [List.map_cons] at h
    split at h
    · cases h
    · rename_i hg
      unfold putF
      rw [if_neg (fun z => hg (by rw [z]; exact beq_self_eq_true f)), putF_new (by simpa using h)]
      rfl
theorem sv_fld {i j : Nat} {f : Str} {x dx C : Addr} {ns : List Str} {Fs : List AV} (k : γ → τ → Option ρ) {p0 : Option ρ} (c : Cls K C) (n : NoAttr K C f) (hi : ts[i]? = some (some (refA x))) (hj : N[j]? = some (insD x dx C ns Fs)) (hf : lkp ns f = none) (hz : ns.length < 1000) (h : Ev e S N ts te L s p0 k)
    (hu : ∀ a s1, Sv e S (N.set j (insD x dx C (ns ++ [f]) (Fs ++ [av K a]))) ts L u s1 (k a s1) nx ct bk) (e0 : p = p0) : Sv e S N ts L (tSeq (sFld K (tVar i) te f) u) s p nx ct bk := fun hp σ H D at_ rt n' c' b =>
  h (e0 ▸ hp) σ H _ at_ fun a s1 y H1 e1 a1 => by
    obtain ⟨z, hz', rz⟩ := a1.s.at_ i _ hi
    have rz' : z = .ref x := rz
    subst rz'
    refine ⟨.ref x, hz', ?_⟩
    have hjm : (N ++ e.m s1)[j]? = some (insD x dx C ns Fs) := by rw [List.getElem?_append_left (List.getElem?_eq_some_iff.mp hj).1]; exact hj
    obtain ⟨c1, ⟨fs, ex, hn, hA⟩, c3, c4⟩ := a1.c.mu _ (List.mem_of_getElem? hjm)
    have hl : fs.length < 1000 := by rw [← hn, List.length_map] at hz; exact hz
    refine ⟨x, C, dx, fs, rfl, ex, c, n, hl, ?_⟩
    rw [putF_new (by rw [hn]; exact hf)]
    have kk : Kp [x] H1 (upd H1 x (.ins C dx (fs ++ [(f, y)]))) := .mut (List.mem_singleton_self x)
    have kS : Kp S H1 (upd H1 x (.ins C dx (fs ++ [(f, y)]))) := .mut c1
    have hy : (av K a).R S H1 y := a1.get m0
    have c2 := a1.c.eff (i := j) (m := insD x dx C ns Fs) (m' := insD x dx C (ns ++ [f]) (Fs ++ [av K a])) hjm kk ⟨_, upd_same⟩ rfl rfl ⟨_, upd_same, by rw [List.map_append, hn]; rfl, by
      rw [List.map_append]
      exact (hA.keep kS).app (ws := [y]) (Bs := [av K a]) ⟨(av K a).keep hy kS, trivial⟩⟩
    rw [List.set_append_left _ _ (List.getElem?_eq_some_iff.mp hj).1] at c2
    exact hu a s1 e1 σ _ D ⟨c2.less d1, a1.s.keep kS⟩ rt n' c' b
/-- self.f, self being made -/
theorem pu_fldM {i j l : Nat} {f : Str} {x dx C : Addr} {ns : List Str} {Fs : List AV} {a : γ} (c : Cls K C) (n : NoAttr K C f) (hi : ts[i]? = some (some (refA x))) (hj : N[j]? = some (insD x dx C ns Fs)) (hf : lkp ns f = some l) (hx : Fs[l]? = some (av K a)) : Pu e S N ts (tFld K (tVar i) f) L a := fun s σ H Q at_ q => by
  obtain ⟨z, hz', rz⟩ := at_.s.at_ i _ hi
  have rz' : z = .ref x := rz
  subst rz'
  have hjm : (N ++ e.m s)[j]? = some (insD x dx C ns Fs) := by rw [List.getElem?_append_left (List.getElem?_eq_some_iff.mp hj).1]; exact hj
  obtain ⟨c1, ⟨fs, ex, hn, hA⟩, c3, c4⟩ := at_.c.mu _ (List.mem_of_getElem? hjm)
  rw [← hn] at hf
  obtain ⟨w, h1, h2⟩ := lkp_some hf
  exact ⟨.ref x, hz', x, C, dx, fs, w, rfl, ex, c, n, h1, q w H (at_.add (A := av K a) (hA.at h2 hx))⟩
/-! ### o == o' -/
theorem ev_eqO [Ob K α] {k' : Nat} {f : α × α × Unit → Option Bool} {k1 : α → τ → Option ρ} {k : Bool → τ → Option ρ} (h1 : Ev e S N ts ta L s p k1) (h2 : ∀ a s1 v, Ev e S N ts tb ((v, av K a) :: L) s1 (k1 a s1) fun b s2 => (f (a, b, ())).bind fun c => k c s2) :
    Ev e S N ts (tOp (rEqO K (Ob.C K α) (SpF K f) E0) ta tb) L s p k := fun hp σ H Q at_ q => h1 hp σ H _ at_ fun a s1 x H1 e1 a1 => h2 a s1 x e1 σ H1 _ a1 fun b s2 y H2 e2 a2 => by
  obtain ⟨c, hc, e3⟩ := Option.bind_eq_some_iff.mp e2
  have z1 : Rv.R K S H2 x a := a2.get m1
  have z2 : Rv.R K S H2 y b := a2.get m0
  obtain ⟨p1, dx, fs, rfl, fx, _, _⟩ := Ob.ob z1
  obtain ⟨p2, dy, gs, rfl, fy, _, _⟩ := Ob.ob z2
  exact ⟨p1, dx, fs, rfl, fx.2, .inr ⟨p2, dy, gs, rfl, fy.2⟩, call_F (f := f) (as := (a, b, ())) ((a2.less (fun f hf => List.mem_cons_of_mem _ (List.mem_cons_of_mem _ hf))).add (v := .non) (A := allA [.ref p1, .ref p2] [av K a, av K b]) ⟨z1, z2, trivial⟩) hc fun w H3 a3 => ⟨c, a3.get m0, q c s2 _ H3 e3 ((a3.less d1).add (A := av K c) rfl)⟩⟩
theorem ev_neO [Ob K α] {k' : Nat} {f : α × α × Unit → Option Bool} {k1 : α → τ → Option ρ} {k : Bool → τ → Option ρ} (h1 : Ev e S N ts ta L s p k1) (h2 : ∀ a s1 v, Ev e S N ts tb ((v, av K a) :: L) s1 (k1 a s1) fun b s2 => (f (a, b, ())).bind fun c => k (!c) s2) :
    Ev e S N ts (tOp (rNeO K (Ob.C K α) (SpF K f) E0) ta tb) L s p k := fun hp σ H Q at_ q => h1 hp σ H _ at_ fun a s1 x H1 e1 a1 => h2 a s1 x e1 σ H1 _ a1 fun b s2 y H2 e2 a2 => by
  obtain ⟨c, hc, e3⟩ := Option.bind_eq_some_iff.mp e2
  have z1 : Rv.R K S H2 x a := a2.get m1
  have z2 : Rv.R K S H2 y b := a2.get m0
  obtain ⟨p1, dx, fs, rfl, fx, _, _⟩ := Ob.ob z1
  obtain ⟨p2, dy, gs, rfl, fy, _, _⟩ := Ob.ob z2
  exact ⟨p1, dx, fs, rfl, fx.2, .inr ⟨p2, dy, gs, rfl, fy.2⟩, call_F (f := f) (as := (a, b, ())) ((a2.less (fun f hf => List.mem_cons_of_mem _ (List.mem_cons_of_mem _ hf))).add (v := .non) (A := allA [.ref p1, .ref p2] [av K a, av K b]) ⟨z1, z2, trivial⟩) hc fun w H3 a3 => ⟨c, a3.get m0, q (!c) s2 _ H3 e3 ((a3.less d1).add (A := av K (!c)) rfl)⟩⟩
/-- o op n -/
theorem ev_ownT [Ob K α] {f : α × γ × Unit → Option δ} {T : String} {k1 : α → τ → Option ρ} {k : δ → τ → Option ρ} (hT : ∀ S H v (a : γ), Rv.R K S H v a → TyOf K H v (.type T)) (h1 : Ev e S N ts ta L s p k1) (h2 : ∀ a s1 v, Ev e S N ts tb ((v, av K a) :: L) s1 (k1 a s1) fun b s2 => (f (a, b, ())).bind fun c => k c s2) :
    Ev e S N ts (tOp (rOwnT K (Ob.C K α) T (SpF K f) E0) ta tb) L s p k := fun hp σ H Q at_ q => h1 hp σ H _ at_ fun a s1 x H1 e1 a1 => h2 a s1 x e1 σ H1 _ a1 fun b s2 y H2 e2 a2 => by
  obtain ⟨c, hc, e3⟩ := Option.bind_eq_some_iff.mp e2
  have z1 : Rv.R K S H2 x a := a2.get m1
  have z2 : Rv.R K S H2 y b := a2.get m0
  obtain ⟨p1, dx, fs, rfl, fx, _, _⟩ := Ob.ob z1
  exact ⟨p1, dx, fs, rfl, fx.2, hT _ _ _ _ z2, call_F (f := f) (as := (a, b, ())) ((a2.less (fun f hf => List.mem_cons_of_mem _ (List.mem_cons_of_mem _ hf))).add (v := .non) (A := allA [.ref p1, y] [av K a, av K b]) ⟨z1, z2, trivial⟩) hc fun w H3 a3 => q c s2 w H3 e3 a3⟩
theorem ev_ownI [Ob K α] {f : α × α × Unit → Option δ} {k1 : α → τ → Option ρ} {k : δ → τ → Option ρ} (h1 : Ev e S N ts ta L s p k1) (h2 : ∀ a s1 v, Ev e S N ts tb ((v, av K a) :: L) s1 (k1 a s1) fun b s2 => (f (a, b, ())).bind fun c => k c s2) :
    Ev e S N ts (tOp (rOwnI (Ob.C K α) (SpF K f) E0) ta tb) L s p k := fun hp σ H Q at_ q => h1 hp σ H _ at_ fun a s1 x H1 e1 a1 => h2 a s1 x e1 σ H1 _ a1 fun b s2 y H2 e2 a2 => by
  obtain ⟨c, hc, e3⟩ := Option.bind_eq_some_iff.mp e2
  have z1 : Rv.R K S H2 x a := a2.get m1
  have z2 : Rv.R K S H2 y b := a2.get m0
  obtain ⟨p1, dx, fs, rfl, fx, _, _⟩ := Ob.ob z1
  obtain ⟨p2, dy, gs, rfl, fy, _, _⟩ := Ob.ob z2
  exact ⟨p1, dx, fs, p2, dy, gs, rfl, rfl, fx.2, fy.2, call_F (f := f) (as := (a, b, ())) ((a2.less (fun f hf => List.mem_cons_of_mem _ (List.mem_cons_of_mem _ hf))).add (v := .non) (A := allA [.ref p1, .ref p2] [av K a, av K b]) ⟨z1, z2, trivial⟩) hc fun w H3 a3 => q c s2 w H3 e3 a3⟩
/-- repr(o), len(o) -/
theorem ev_reprO [Ob K α] {f : α × Unit → Option Str} {k : Str → τ → Option ρ} (h : Ev e S N ts te L s p fun o s1 => (f (o, ())).bind fun b => k b s1) : Ev e S N ts (tCB (rRepr (Ob.C K α) (SpF K f) E0) (tCons te tNil)) L s p k := fun hp σ H Q at_ q => h hp σ H _ at_ fun o s1 y H1 e1 a1 => by
  obtain ⟨b, hb, e2⟩ := Option.bind_eq_some_iff.mp e1
  have z : Rv.R K S H1 y o := a1.get m0
  obtain ⟨a, dx, fs, rfl, fx, hn, hA⟩ := Ob.ob z
  exact ⟨a, dx, fs, rfl, fx.2, call_F (f := f) (as := (o, ())) ((a1.less d1).add (v := .non) (A := allA [.ref a] [av K o]) ⟨z, trivial⟩) hb fun w H2 a2 => ⟨b, a2.get m0, q b s1 _ H2 e2 ((a2.less d1).add (A := av K b) rfl)⟩⟩
/-! ### a def keeps its promise -/
theorem sl_start : ∀ {vs : List V} {As : List AV} {n : Nat}, AllV S H vs As → Sl (As.map some ++ List.replicate n none) S (vs.map some ++ List.replicate n none) H
  | [], [], n, _ => ⟨by simp, fun i A h => by
    simp only [List.map_nil, List.nil_append, List.getElem?_replicate] at h
    split at h <;> cases h⟩
  | v :: vs, A :: As, n, ⟨h1, h2⟩ => by
    have ih := sl_start (n := n) h2
    refine ⟨by simpa using ih.len, fun i B h => ?_⟩
    cases i with
    | zero =>
      simp at h
      subst h
      exact ⟨v, rfl, h1⟩
    | succ i => exact ih.at_ i B (by simpa using h)
  | [], _ :: _, _, h => h.elim
  | _ :: _, [], _, h => h.elim
theorem body_F {Nm : List Str} {f : As → Option β} {vs : List V} {Q : VK} {E : XK} (h : SpF K f vs H Q E) (n : Nat) (hn : ∀ as : As, (Ra.avs K as).length + n = Nm.length)
    (hb : ∀ (e : Env K Unit β) (as : As), e.m = (fun _ => []) → RetOk K (fun (a : β) (_ : Unit) => a) e → Sv e e.S0 [] ((Ra.avs K as).map some ++ List.replicate n none) [] t () (f as) (fun _ H => e.rt .non H) nF nF) : t { nx := fun _ H' => Q .non H', rt := Q } (L2.start Nm vs) H := by
  obtain ⟨S, as, b, oS, hA, hf, q⟩ := h
  have hl := hA.len
  have hs : L2.start Nm vs = vs.map some ++ List.replicate n none := by
    unfold L2.start
    rw [show Nm.length - vs.length = n by have := hn as; omega]
  rw [hs]
  refine hb ⟨H, [], S, fun _ => [], b, Q⟩ as rfl (fun S' N L v H' a s' ha c => ?_) hf _ H _ ⟨.start oS fun _ h => absurd h List.not_mem_nil, sl_start hA⟩ (fun _ _ z => z) (fun _ _ z => z) (fun _ _ z => z.elim) fun _ _ z => z.elim
  cases ha
  exact q v H' c.kp (c.outA (c.get (A := av K b) (List.mem_cons_self ..)))
/-- an instance is made -/
def InitOk (K : Frag) {β : Type} [Rv K β] (e : Env K Unit β) (x : Addr) : L2.St → Hp → Prop := fun _ H' => ∃ S N L dx C ns Fs, Ctx e.B e.T0 e.S0 S N L H' ∧ insD x dx C ns Fs ∈ N ∧ ∀ S H v, obR C ns Fs S H v → Rv.R K S H v e.r
theorem sv_endI {e : Env K Unit β} {j : Nat} {x dx C : Addr} {ns : List Str} {Fs : List AV} {a : β} {s : Unit} (hj : N[j]? = some (insD x dx C ns Fs)) (h : ∀ S H v, obR C ns Fs S H v → Rv.R K S H v a) : Sv e S N ts L tNext s (some a) (InitOk K e x) ct bk := fun hp σ H D at_ rt n _ _ =>
  n σ H ⟨S, _, _, dx, C, ns, Fs, at_.c, List.mem_append_left _ (List.mem_of_getElem? hj), by cases hp; exact h⟩
theorem body_I {Nm : List Str} {C : Addr} {f : As → Option β} {vs : List V} {Q : VK} {E : XK} (h : SpI K C f vs H Q E) (n : Nat) (hn : ∀ as : As, (Ra.avs K as).length + 1 + n = Nm.length)
    (hb : ∀ (e : Env K Unit β) (as : As) x dx, e.m = (fun _ => []) → Sv e e.S0 [insD x dx C [] []] ((refA x :: Ra.avs K as).map some ++ List.replicate n none) [] t () (f as) (InitOk K e x) nF nF) : t { nx := fun _ H' => Q .non H', rt := Q } (L2.start Nm vs) H := by
  obtain ⟨S, x, dx, us, as, b, oS, rfl, nx', hx, hA, hf, q⟩ := h
  have hl := hA.len
  have hs : L2.start Nm (.ref x :: us) = (.ref x :: us).map some ++ List.replicate n none := by
    unfold L2.start
    rw [show Nm.length - (V.ref x :: us).length = n by have := hn as; rw [List.length_cons]; omega]
  rw [hs]
  have oS' : Old (x :: S) H := .cons hx oS
  have c0 : Ctx H [x] (x :: S) (x :: S) [insD x dx C [] []] [] H := by
    refine ⟨oS', fun a h => by rw [List.mem_singleton.mp h]; exact List.mem_cons_self .., fun _ h => h, oS', .refl, fun m hm => ?_, by simp, fun _ h => absurd h List.not_mem_nil⟩
    rw [List.mem_singleton.mp hm]
    exact ⟨List.mem_cons_self .., ⟨[], hx, rfl, trivial⟩, .inl (List.mem_singleton_self x), fun z => nomatch z⟩
  refine hb ⟨H, [x], x :: S, fun _ => [], b, fun v H' => False⟩ as x dx rfl hf _ H { nx := fun _ H' => Q .non H', rt := Q } ⟨c0, sl_start (vs := .ref x :: us) (As := refA x :: Ra.avs K as) ⟨rfl, hA⟩⟩ (fun _ _ z => z.elim) (fun σ' H' z => ?_) (fun _ _ z => z.elim) fun _ _ z => z.elim
  obtain ⟨S', N, L, dx', C', ns, Fs, c, hm, hr⟩ := z
  obtain ⟨h1, ⟨fs, ex, hn', hA'⟩, _⟩ := c.mu _ hm
  refine q H' c.kp (hr _ _ _ ⟨x, dx', fs, rfl, ⟨nx', ex⟩, hn', hA'.wid fun y hy => .inl (c.sub y (List.mem_cons_of_mem _ hy))⟩)
/-- a def with a pot -/
theorem body_S {Nm : List Str} {f : As → Pot → Option (β × Pot)} {vs : List V} {Q : VK} {E : XK} (h : SpS K f vs H Q E) (n : Nat) (hn : ∀ as : As, (Ra.avs K as).length + 1 + n = Nm.length)
    (hb : ∀ (e : Env K Pot (β × Pot)) (q : Addr) (as : As) (st : Pot), (∀ st, e.m st = [potD q st]) → RetOk K (fun (a : β) (s : Pot) => (a, s)) e → Sv e e.S0 [] ((av K (PRef.mk (q := q)) :: Ra.avs K as).map some ++ List.replicate n none) [] t st (f as st) (fun _ H => e.rt .non H) nF nF) : t { nx := fun _ H' => Q .non H', rt := Q } (L2.start Nm vs) H := by
  obtain ⟨S, q, us, as, st, b, st', oS, qS, rfl, hq, hA, hf, qq⟩ := h
  have hl := hA.len
  have hs : L2.start Nm (.ref q :: us) = (.ref q :: us).map some ++ List.replicate n none := by
    unfold L2.start
    rw [show Nm.length - (V.ref q :: us).length = n by have := hn as; rw [List.length_cons]; omega]
  rw [hs]
  have one : ∀ a ∈ [q], a ∈ S := fun a h => by rw [List.mem_singleton.mp h]; exact qS
  have c0 : Ctx H [q] S S ([] ++ [potD q st]) [] H := by
    refine ⟨oS, one, fun _ h => h, oS, .refl, fun m hm => ?_, by simp, fun _ h => absurd h List.not_mem_nil⟩
    rw [List.mem_singleton.mp hm]
    exact ⟨qS, hq, .inl (List.mem_singleton_self q), fun z => nomatch z⟩
  refine hb ⟨H, [q], S, fun st => [potD q st], (b, st'), Q⟩ q as st (fun _ => rfl) (fun S' N L v H' a s' ha c => ?_) hf _ H _ ⟨c0, sl_start (vs := .ref q :: us) (As := av K (PRef.mk (q := q)) :: Ra.avs K as) ⟨rfl, hA⟩⟩ (fun _ _ z => z) (fun _ _ z => z) (fun _ _ z => z.elim) fun _ _ z => z.elim
  cases ha
  have hp := (c.mu (potD q st') (List.mem_append_right _ (List.mem_singleton_self _))).2.1
  exact qq v H' c.kp hp (c.outA (c.get (A := av K b) (List.mem_cons_self ..)))
/-! ### the pot itself -/
variable {q : Addr} {st : Pot}
theorem pot_at {e : Env K Pot ρ} (hm : ∀ st, e.m st = [potD q st]) (at_ : e.At S N ts L st σ H) : q ∈ S ∧ H q = some (.lst [.int st.1, .int st.2]) := by
  have c := at_.c
  rw [hm] at c
  exact Env.At.inT c N.length getApp
/-- pot[0], pot[1] -/
theorem ev_pot0 {e : Env K Pot ρ} {k : Int → Pot → Option ρ} (hm : ∀ st, e.m st = [potD q st]) (i : Nat) (hi : ts[i]? = some (some (av K (PRef.mk (q := q))))) : Ev e S N ts (tOp (rIxL K) (tVar i) (tC (.int 0))) L st (k st.1 st) k := fun hp σ H Q at_ q' => by
  obtain ⟨v, hv, r⟩ := at_.s.at_ i _ hi
  have r' : v = .ref q := r
  subst r'
  exact ⟨_, hv, q, _, 0, _, rfl, rfl, SqL.of (pot_at hm at_).2, rfl, q' st.1 st _ H hp (at_.add (A := av K st.1) rfl)⟩
theorem ev_pot1 {e : Env K Pot ρ} {k : Int → Pot → Option ρ} (hm : ∀ st, e.m st = [potD q st]) (i : Nat) (hi : ts[i]? = some (some (av K (PRef.mk (q := q))))) : Ev e S N ts (tOp (rIxL K) (tVar i) (tC (.int 1))) L st (k st.2 st) k := fun hp σ H Q at_ q' => by
  obtain ⟨v, hv, r⟩ := at_.s.at_ i _ hi
  have r' : v = .ref q := r
  subst r'
  exact ⟨_, hv, q, _, 1, _, rfl, rfl, SqL.of (pot_at hm at_).2, rfl, q' st.2 st _ H hp (at_.add (A := av K st.2) rfl)⟩
theorem set_pot {e : Env K Pot ρ} (hm : ∀ st, e.m st = [potD q st]) {st' : Pot} (at_ : e.At S N ts L st σ H) : e.At S N ts L st' σ (upd H q (.lst [.int st'.1, .int st'.2])) :=
  at_.eff hm (.mut (List.mem_singleton_self q)) upd_same
/-- pot[1] = e -/
theorem sv_pot1 {e : Env K Pot ρ} (k : Int → Pot → Option ρ) {p0 : Option ρ} (hm : ∀ st, e.m st = [potD q st]) (i : Nat) (hi : ts[i]? = some (some (av K (PRef.mk (q := q))))) (h : Ev e S N ts te L st p0 k) (hu : ∀ a st1, Sv e S N ts L u (st1.1, a) (k a st1) nx ct bk) (e0 : p = p0) : Sv e S N ts L (tSeq (tAsg te (gSub (tVar i) (tC (.int 1)) rSetL)) u) st p nx ct bk := fun hp σ H D at_ rt n c b =>
  h (e0 ▸ hp) σ H _ at_ fun a st1 x H1 e1 a1 => by
    obtain ⟨v, hv, r⟩ := a1.s.at_ i _ hi
    have r' : v = .ref q := r
    subst r'
    cases (show x = V.int a from a1.get (A := av K a) m0)
    exact ⟨_, hv, q, _, 1, 1, rfl, rfl, (pot_at hm a1).2, rfl, hu a st1 e1 σ _ D ((set_pot hm (st' := (st1.1, a)) a1).less d1) rt n c b⟩
/-- pot[0], x = e -/
theorem sv_pot0 {e : Env K Pot ρ} (k : Int × Int → Pot → Option ρ) {p0 : Option ρ} {j : Nat} (hm : ∀ st, e.m st = [potD q st]) (i : Nat) (hi : ts[i]? = some (some (av K (PRef.mk (q := q))))) (h : Ev e S N ts te L st p0 k) (hu : ∀ a st1, Sv e S N (ts.set j (some (av K a.2))) L u (a.1, st1.2) (k a st1) nx ct bk) (e0 : p = p0) : Sv e S N ts L (tSeq (tAsg te (gTup K 2 (gCons (gSub (tVar i) (tC (.int 0)) rSetL) (gCons (gName j) gNil)))) u) st p nx ct bk := fun hp σ H D at_ rt n c b =>
  h (e0 ▸ hp) σ H _ at_ fun a st1 x H1 e1 a1 => by
    obtain ⟨v, hv, r⟩ := a1.s.at_ i _ hi
    have r' : v = .ref q := r
    subst r'
    obtain ⟨p, y, z, rfl, fx, hy, hz⟩ := a1.get (A := av K a) m0
    cases (show y = V.int a.1 from hy)
    cases (show z = V.int a.2 from hz)
    exact ⟨p, _, rfl, fx.sqT, rfl, _, _, rfl, _, hv, q, _, 0, 0, rfl, rfl, (pot_at hm a1).2, rfl, _, _, rfl, rfl, hu a st1 e1 _ _ D (((set_pot hm (st' := (a.1, st1.2)) a1).less d1).set (i := j) (A := av K a.2) rfl) rt n c b⟩
end
end Lx

set_option Elab.async false
set_option linter.all false
set_option maxRecDepth 100000
set_option maxHeartbeats 4000000
/-! f-strings, isinstance, slices, values of classes, defaults -/
namespace Lx
open PySem PySem.Spec PyProof.Rows L2 He StX Lw
open Lw.En (enc)
section
variable {X : Cx} {K : Frag}
/-- {x!r}, x data -/
def tFmtRD (K : Frag) (te : TE) : TE := fun σ H Q => te σ H fun x H1 => rReprD K [x] H1 fun v H2 => Q v H2
theorem pe_fmtRD {e : Expr} {te : TE} {pos : Pos} (hK : X.K = K) (hg : X.A.guards = some []) (hu : X.A.units + 64 < cLine) (he : PE X e te) : PE X (.FormattedValue e 114 none pos) (tFmtRD K te) := by
  subst hK
  refine ⟨fun pins s σ H Q I h => ?_⟩
  refine wpAny_FormattedValue_repr (thn (he.run pins s σ H _ I h) fun v s1 hv => ?_)
  obtain ⟨x, H1, I1, r1, x', d, ex, hd, hs, hz, hdp, q⟩ := hv
  cases ex
  obtain ⟨as, hr⟩ := Dp.reads I1 d x v hd r1
  have nd := Dp.noDict d x hd
  have fin : ∀ (s2 : Shared) (t : Tok), Inv X pins σ H1 s2 → wpAny (model X.prog X.w) X.A (formatField (.str d.shown t) Str.empty) (EP X pins σ Q) X.xe s2 := fun s2 t I2 =>
    wpAny_formatField_str ⟨.str d.shown, H1, I2, ⟨t, rfl⟩, q⟩ ⟨.str d.shown, H1, I2.tok _, ⟨_, rfl⟩, q⟩ hz
  cases hd with
  | lst hsq ha =>
    cases (show v = Value.ref _ from r1)
    exact pyReprObj_of_reads hr hs (fun z => by rw [nd] at z; cases z) hg (by omega) (fun _ _ e => e) (fun h' t tk kp => fin _ _ (I1.kept (t' := tk) kp)) hz
  | tup hsq ha =>
    cases (show v = Value.ref _ from r1)
    exact pyReprObj_of_reads hr hs (fun z => by rw [nd] at z; cases z) hg (by omega) (fun _ _ e => e) (fun h' t tk kp => fin _ _ (I1.kept (t' := tk) kp)) hz
  | int i =>
    obtain ⟨t, rfl⟩ := r1
    exact pyReprObj_int (of_decide_eq_true (by simpa [PyData.showable] using hs)) (fin _ _ (I1.tok _))
  | non =>
    cases (show v = Value.none from r1)
    exact pyReprObj_none (fin _ _ (I1.tok _))
  | bl b =>
    cases (show v = Value.bool b from r1)
    refine pyReprObj_bool ?_
    have e : (if b = true then Str.ofString "True" else Str.ofString "False") = (PyData.bool b).shown := by cases b <;> rfl
    rw [show (if b = true then ("True" : Str) else "False") = (PyData.bool b).shown from e]
    exact fin _ _ (I1.tok _)
  | str z =>
    obtain ⟨t, rfl⟩ := r1
    exact pyReprObj_str (fin _ _ (I1.tok _)) hz
end
section
variable {K : Frag} {β τ ρ α γ δ ς : Type} [Rv K β] [Rv K α] [Rv K γ] [Rv K δ]
variable {e : Env K τ ρ} {S : List Addr} {N : List Mu} {ts ts' : List (Option AV)} {L L' : List (V × AV)} {s : τ} {σ : L2.St} {H H' : Hp} {v : V} {A : AV}
variable {te ta tb tc : TE} {p : Option ρ} {acc : Str} {js : List TE}
/-- the parts of an f-string from acc on -/
def EvJ (e : Env K τ ρ) (S : List Addr) (N : List Mu) (ts : List (Option AV)) (js : List TE) (acc : Str) (L : List (V × AV)) (s : τ) (p : Option ρ) (k : Str → τ → Option ρ) : Prop :=
  p = some e.r → ∀ σ H Q, e.At S N ts L s σ H → (∀ a s' H', k a s' = some e.r → e.At S N ts L s' σ H' → Q a H') → tJs js acc σ H Q
theorem js_nil {k : Str → τ → Option ρ} : EvJ e S N ts [] acc L s (k acc s) k := fun hp σ H Q at_ q => q acc s H hp at_
theorem js_c {x : Str} {k : Str → τ → Option ρ} {p1 : Option ρ} (h : EvJ e S N ts js (acc ++ x) L s p1 k) : EvJ e S N ts (tC (.str x) :: js) acc L s (if (acc ++ x).length ≤ sizeLine then p1 else none) k := fun hp σ H Q at_ q => by
  split at hp
  · rename_i hz
    exact ⟨x, rfl, hz, h hp σ H Q at_ q⟩
  · cases hp
theorem js_r [Dt K α] {k : Str → τ → Option ρ} {p2 : α → τ → Option ρ} (h : Ev e S N ts te L s p fun (a : α) s1 => if OkR (enc a) then if (acc ++ (enc a).shown).length ≤ sizeLine then p2 a s1 else none else none)
    (h2 : ∀ a s1 v, EvJ e S N ts js (acc ++ (enc a).shown) ((v, av K a) :: L) s1 (p2 a s1) k) : EvJ e S N ts (tFmtRD K te :: js) acc L s p k := fun hp σ H Q at_ q =>
  h hp σ H _ at_ fun a s1 x H1 e1 a1 => by
    dsimp only at e1
    split at e1
    · rename_i hc
      split at e1
      · rename_i hz
        exact ⟨x, enc a, rfl, Dt.toDp (a1.get m0), hc.s, hc.l, hc.d, (enc a).shown, rfl, hz, h2 a s1 x e1 σ H1 Q a1 fun a' s' H' e' a2 => q a' s' H' e' (a2.less d1)⟩
      · cases e1
    · cases e1
theorem js_i {k : Str → τ → Option ρ} {p2 : Int → τ → Option ρ} (h : Ev e S N ts te L s p fun (a : Int) s1 => if a.natAbs.log2 < 1920 then if (acc ++ Str.ofString (toString a)).length ≤ sizeLine then p2 a s1 else none else none)
    (h2 : ∀ a s1 v, EvJ e S N ts js (acc ++ Str.ofString (toString a)) ((v, av K a) :: L) s1 (p2 a s1) k) : EvJ e S N ts (tFmt te :: js) acc L s p k := fun hp σ H Q at_ q =>
  h hp σ H _ at_ fun a s1 x H1 e1 a1 => by
    dsimp only at e1
    split at e1
    · rename_i hc
      split at e1
      · rename_i hz
        cases (show x = V.int a from a1.get (A := av K a) m0)
        exact .inr ⟨a, rfl, hc, _, rfl, hz, h2 a s1 _ e1 σ H1 Q a1 fun a' s' H' e' a2 => q a' s' H' e' (a2.less d1)⟩
      · cases e1
    · cases e1
theorem js_s {k : Str → τ → Option ρ} {p2 : Str → τ → Option ρ} (h : Ev e S N ts te L s p fun (a : Str) s1 => if a.length ≤ sizeLine then if (acc ++ a).length ≤ sizeLine then p2 a s1 else none else none)
    (h2 : ∀ a s1 v, EvJ e S N ts js (acc ++ a) ((v, av K a) :: L) s1 (p2 a s1) k) : EvJ e S N ts (tFmt te :: js) acc L s p k := fun hp σ H Q at_ q =>
  h hp σ H _ at_ fun a s1 x H1 e1 a1 => by
    dsimp only at e1
    split at e1
    · rename_i hc
      split at e1
      · rename_i hz
        cases (show x = V.str a from a1.get (A := av K a) m0)
        exact .inl ⟨a, rfl, hc, _, rfl, hz, h2 a s1 _ e1 σ H1 Q a1 fun a' s' H' e' a2 => q a' s' H' e' (a2.less d1)⟩
      · cases e1
    · cases e1
theorem ev_js {k : Str → τ → Option ρ} (h : EvJ e S N ts js Str.empty L s p k) : Ev e S N ts (fun σ H Q => tJs js Str.empty σ H fun out H1 => Q (.str out) H1) L s p k := fun hp σ H Q at_ q =>
  h hp σ H _ at_ fun a s' H' e' a1 => q a s' _ H' e' (a1.add (A := av K a) rfl)
/-! ### isinstance -/
theorem tyR_int {a : Int} (h : Rv.R K S H v a) : TyX K H v (.type "int") := by cases h; exact .base (.int _)
theorem tyR_bool {a : Bool} (h : Rv.R K S H v a) : TyX K H v (.type "bool") := by cases h; exact .base (.bl _)
theorem tyR_str {a : Str} (h : Rv.R K S H v a) : TyX K H v (.type "str") := by cases h; exact .base (.str _)
theorem tyR_none {a : Unit} (h : Rv.R K S H v a) : TyX K H v (.type "NoneType") := by cases h; exact .base .non
theorem tyR_list {a : List α} (h : Rv.R K S H v a) : TyX K H v (.type "list") := by obtain ⟨p, xs, rfl, f, _⟩ := h; exact .base (.lst f.2)
theorem tyR_tu {a : Tu α} (h : Rv.R K S H v a) : TyX K H v (.type "tuple") := by
  obtain ⟨p, xs, rfl, f, _⟩ := h
  rcases f with f | ⟨o, its, n, h1, h2, _⟩
  · exact .base (.tup f.2)
  · exact .kTuple h1 h2
/-- the kinds of tuples -/
class Tp (K : Frag) (α : Type) [Rv K α] : Prop where
  tp : ∀ {S : List Addr} {H : Hp} {v : V} {a : α}, Rv.R K S H v a → TyX K H v (.type "tuple")
instance : Tp K (α × γ) := ⟨fun ⟨p, x, y, e, f, _⟩ => by subst e; exact .base (.tup f.2)⟩
instance : Tp K (T3 α γ δ) := ⟨fun ⟨p, x, y, z, e, f, _⟩ => by subst e; exact .base (.tup f.2)⟩
theorem tyR_tup [Tp K α] {a : α} (h : Rv.R K S H v a) : TyX K H v (.type "tuple") := Tp.tp h
theorem ty_int {a : Int} (h : Rv.R K S H v a) : TyOf K H v (.type "int") := by cases h; exact .int _
theorem pu_isi {a : α} {T U : String} {b : Bool} (ht : ∀ S H v, Rv.R K S H v a → TyX K H v (.type T)) (hk : kitB T U = some b) (h : Pu e S N ts te L a) : Pu e S N ts (tCB (rIsi K) (tCons te (tCons (tC (.ty U)) tNil))) L b := fun s σ H Q at_ q => h s σ H _ at_ fun x H1 a1 =>
  ⟨x, .ty U, .type T, .type U, b, rfl, .ty U, ht S H1 x (a1.get m0), kit_ty hk, q _ H1 ((a1.less d1).add (A := av K b) rfl)⟩
theorem pu_isiO [Ob K α] {a : α} (ht : TypOwn K (Ob.C K α)) (h : Pu e S N ts te L a) : Pu e S N ts (tCB (rIsi K) (tCons te (tCons (tC (.ref (Ob.C K α))) tNil))) L true := fun s σ H Q at_ q => h s σ H _ at_ fun x H1 a1 => by
  have z : Rv.R K S H1 x a := a1.get m0
  obtain ⟨p, dx, fs, rfl, fx, _⟩ := Ob.ob z
  exact ⟨_, _, _, _, true, rfl, .own _, ht.ty fx.2, ht.self, q _ H1 ((a1.less d1).add (A := av K true) rfl)⟩
def kitAny2 (t a b : String) : Option Bool := match kitB t a with
  | some true => some true
  | some false => (match kitB t b with
    | some true => some true
    | some false => some false
    | none => none)
  | none => none
theorem kitAny2_ok {t a b : String} {r : Bool} (h : kitAny2 t a b = some r) (K : Frag) : PySem.W.kitAny K (.type t) [.type a, .type b] = some r := h
/-- isinstance(x, (T, U)) -/
theorem pu_isiT {a : α} {T U1 U2 : String} {b : Bool} (ht : ∀ S H v, Rv.R K S H v a → TyX K H v (.type T)) (hk : kitAny2 T U1 U2 = some b) (h : Pu e S N ts te L a) :
    Pu e S N ts (tCB (rIsiT K) (tCons te (tCons (tTup (tCons (tC (.ty U1)) (tCons (tC (.ty U2)) tNil))) tNil))) L b := fun s σ H Q at_ q => h s σ H _ at_ fun x H1 a1 =>
  ⟨by rw [sizeLine_eq]; simp, fun pp hp => ⟨x, pp, [.ty U1, .ty U2], .type T, [.type U1, .type U2], b, rfl, upd_same, .cons (.ty U1) (.cons (.ty U2) .nil), ht S _ x ((a1.pure (.new hp)).get m0), kitAny2_ok hk K, q _ _ (((a1.pure (.new hp)).less d1).add (A := av K b) rfl)⟩⟩
/-! ### None -/
theorem pu_notN [NN K α] {a : α} (h : Pu e S N ts te L a) : Pu e S N ts (tNotN te) L (!false) := fun s σ H Q at_ q => h s σ H _ at_ fun x H1 a1 => by
  have n : x ≠ .non := NN.nn (K := K) (a1.get m0)
  rw [decide_eq_false n]
  exact q _ H1 ((a1.less d1).add (A := av K (!false)) rfl)
theorem pu_notN0 (h : Pu e S N ts te L ()) : Pu e S N ts (tNotN te) L (!true) := fun s σ H Q at_ q => h s σ H _ at_ fun x H1 a1 => by
  have n : x = .non := a1.get (A := av K ()) m0
  rw [decide_eq_true n]
  exact q _ H1 ((a1.less d1).add (A := av K (!true)) rfl)
theorem pu_notNO {a : Option α} (h : Pu e S N ts te L a) : Pu e S N ts (tNotN te) L (!a.isNone) := fun s σ H Q at_ q => h s σ H _ at_ fun x H1 a1 => by
  have n : Rv.R K S H1 x a := a1.get (A := av K a) m0
  refine q _ H1 ((a1.less d1).add (A := av K (!a.isNone)) ?_)
  show V.bl _ = V.bl _
  congr 1
  cases a with
  | none =>
    have n' : x = .non := n
    rw [decide_eq_true n']
    rfl
  | some z => rw [decide_eq_false n.1]; rfl
/-! ### slices -/
def cutL {α : Type} (xs : List α) (lo hi : Option Int) : List α := (xs.drop (HT.sIx xs.length 0 lo)).take (HT.sIx xs.length xs.length hi - HT.sIx xs.length 0 lo)
def PuO (e : Env K τ ρ) (S : List Addr) (N : List Mu) (ts : List (Option AV)) (t : TO) (L : List (V × AV)) (a : Option Int) : Prop :=
  ∀ s σ H Q, e.At S N ts L s σ H → (∀ H', e.At S N ts L s σ H' → Q a H') → t σ H Q
theorem puO_none : PuO e S N ts tNoPart L none := fun s σ H Q at_ q => q H at_
theorem puO_some {a : Int} (h : Pu e S N ts te L a) : PuO e S N ts (tPart te) L (some a) := fun s σ H Q at_ q => h s σ H _ at_ fun x H1 a1 => ⟨a, a1.get (A := av K a) m0, q H1 (a1.less d1)⟩
variable {tl th : TO} {lo hi : Option Int}
theorem cut_len {α : Type} (xs : List α) (lo hi : Option Int) : (cutL xs lo hi).length ≤ xs.length := by
  unfold cutL
  rw [List.length_take, List.length_drop]
  omega
theorem o_slL {l : List α} {x : V} {Q : VK} (oS : Old S H) (h : Rv.R K S H x l) (q : ∀ v H', Kp [] H H' → Rv.R K S H' v (cutL l lo hi) → Q v H') : rSlL K x lo hi H Q := by
  obtain ⟨p, xs, rfl, f, z, hr⟩ := h
  refine ⟨p, xs, rfl, f.sqL, fun m hm => q _ _ (.new hm) (new_lst oS hm (Nat.le_trans (cutV_length xs lo hi) z) ?_)⟩
  unfold cutL cutV
  rw [hr.len]
  exact (hr.drop _).take _
theorem o_slT {l : Tu α} {x : V} {Q : VK} (oS : Old S H) (h : Rv.R K S H x l) (q : ∀ v H', Kp [] H H' → Rv.R K S H' v (Tu.mk (cutL l.l lo hi)) → Q v H') : rSlA K x lo hi H Q := by
  obtain ⟨p, xs, rfl, f, z, hr⟩ := h
  refine ⟨p, xs, rfl, tu_sqT f, fun ⟨h1, h2⟩ => q _ H .refl ?_, fun _ m hm => q _ _ (.new hm) (new_tup oS hm (Nat.le_trans (cutV_length xs lo hi) z) ?_)⟩
  · refine ⟨p, xs, rfl, f, z, ?_⟩
    have e : cutL l.l lo hi = l.l := by
      unfold cutL
      rw [hr.len] at h1 h2
      rw [h1, h2]
      simp
    show RA _ xs (cutL l.l lo hi)
    rw [e]
    exact hr
  · unfold cutL cutV
    rw [hr.len]
    exact (hr.drop _).take _
theorem pu_slL {l : List α} (h : Pu e S N ts te L l) (h1 : ∀ v, PuO e S N ts tl ((v, av K l) :: L) lo) (h2 : ∀ v, PuO e S N ts th ((v, av K l) :: L) hi) : Pu e S N ts (L2.tSl (rSlL K) te tl th) L (cutL l lo hi) := fun s σ H Q at_ q =>
  h s σ H _ at_ fun x H1 a1 => h1 x s σ H1 _ a1 fun H2 a2 => h2 x s σ H2 _ a2 fun H3 a3 => o_slL a3.c.old (a3.get m0) fun v H' k r => q v H' (a3.res (L' := [_]) k r)
theorem ev_slL {k : List α → τ → Option ρ} (h : Ev e S N ts te L s p fun l s1 => k (cutL l lo hi) s1) (h1 : ∀ l v, PuO e S N ts tl ((v, av K (l : List α)) :: L) lo) (h2 : ∀ l v, PuO e S N ts th ((v, av K (l : List α)) :: L) hi) : Ev e S N ts (L2.tSl (rSlL K) te tl th) L s p k := fun hp σ H Q at_ q =>
  h hp σ H _ at_ fun l s1 x H1 e1 a1 => h1 l x s1 σ H1 _ a1 fun H2 a2 => h2 l x s1 σ H2 _ a2 fun H3 a3 => o_slL a3.c.old (a3.get m0) fun v H' k' r => q _ s1 v H' e1 (a3.res (L' := [_]) k' r)
theorem pu_slT {l : Tu α} (h : Pu e S N ts te L l) (h1 : ∀ v, PuO e S N ts tl ((v, av K l) :: L) lo) (h2 : ∀ v, PuO e S N ts th ((v, av K l) :: L) hi) : Pu e S N ts (L2.tSl (rSlA K) te tl th) L (Tu.mk (cutL l.l lo hi)) := fun s σ H Q at_ q =>
  h s σ H _ at_ fun x H1 a1 => h1 x s σ H1 _ a1 fun H2 a2 => h2 x s σ H2 _ a2 fun H3 a3 => o_slT a3.c.old (a3.get m0) fun v H' k r => q v H' (a3.res (L' := [_]) k r)
theorem ev_slT {k : Tu α → τ → Option ρ} (h : Ev e S N ts te L s p fun (l : Tu α) s1 => k (Tu.mk (cutL l.l lo hi)) s1) (h1 : ∀ l v, PuO e S N ts tl ((v, av K (l : Tu α)) :: L) lo) (h2 : ∀ l v, PuO e S N ts th ((v, av K (l : Tu α)) :: L) hi) : Ev e S N ts (L2.tSl (rSlA K) te tl th) L s p k := fun hp σ H Q at_ q =>
  h hp σ H _ at_ fun l s1 x H1 e1 a1 => h1 l x s1 σ H1 _ a1 fun H2 a2 => h2 l x s1 σ H2 _ a2 fun H3 a3 => o_slT a3.c.old (a3.get m0) fun v H' k' r => q _ s1 v H' e1 (a3.res (L' := [_]) k' r)
/-! ### a value of a class, an empty default -/
theorem pu_cval {C : Addr} {mc : Value} {f : Str} {i : Int} (r : ClX.CRead K C mc) (c : ∃ u, ClX.CVal K C mc f (.int i) u) : Pu e S N ts (ClX.tCVal K (tC (.ref C)) f) L i := fun s σ H Q at_ q =>
  c.elim fun u c => ⟨C, mc, .int i, u, rfl, r, c, q _ H (at_.add (A := av K i) rfl)⟩
theorem tu_nil {p : Addr} (h : ∀ H : Hp, SqT K H p []) : Rv.R K S H (.ref p) (Tu.mk ([] : List α)) := by
  refine ⟨p, [], rfl, .inr ?_, Nat.zero_le _, trivial⟩
  have z := h fun _ => none
  rcases z with z | z
  · rcases z with z | ⟨o, z⟩ <;> cases z
  · exact z
end
/-- divmod by a great divisor -/
def rbDivmodW : List V → Hp → VK → Prop := fun zs H Q => ∃ n d, zs = [.int n, .int d] ∧ CDivW n d ∧ ∀ p, H p = none → Q (.ref p) (upd H p (.tup [.int (n / d), .int (n % d)]))
theorem dm_wide {X : Cx} : CallR X (.builtin "divmod") rbDivmodW := by
  intro pins st sl hp zs vals want inv rel ask
  obtain ⟨n, d, ez, dw, fin⟩ := ask
  subst ez
  obtain ⟨v1, v2, ev, ⟨t1, e1⟩, ⟨t2, e2⟩⟩ := vals2 rel
  subst ev e1 e2
  have nn : 0 ≤ d := by have := dw.1; omega
  have free : hp st.heap.objs.size = none := inv.hok.fresh (Nat.le_refl _)
  refine divmod_int (by have := dw.1; omega) ?_ (.inl (PyProof.noPylong_of_log2 dw.2))
  rw [Int.fdiv_eq_ediv_of_nonneg n nn,
    Int.fmod_eq_emod_of_nonneg n nn]
  have two : ([V.int (n / d), V.int (n % d)] : List V).length ≤ sizeLine := by rw [sizeLine_eq]; simp
  refine ⟨.ref st.heap.objs.size, _, ?_, rfl, fin _ free⟩
  refine inv.laid
    (fun a ob ha => Heap.get?_push_of_some _ ha) (Nat.le_refl _) ?_
  exact ⟨two, [.int (n / d) st.toks, .int (n % d) (st.toks + 1)],
    .cons ⟨_, rfl⟩ (.cons ⟨_, rfl⟩ .nil),
    _, Heap.get?_push_size st.heap rfl, rfl, 0, rfl⟩
theorem o_divmodW {K : Frag} : Op2 K (fun x y => rbDivmodW [x, y]) CDivW (fun i j : Int => (i / j, i % j)) := fun S H x y a b Q oS ha hb hc q => by
  cases ha; cases hb
  exact ⟨_, _, rfl, hc, fun p hp => q _ _ (.new hp) ⟨p, _, _, rfl, ⟨oS.no hp, upd_same⟩, rfl, rfl⟩⟩
end Lx

set_option Elab.async false
set_option linter.all false
set_option maxRecDepth 100000
set_option maxHeartbeats 4000000
/-! more rules -/
namespace Lx
open PySem PySem.Spec PyProof.Rows L2 He StX Lw
section
variable {K : Frag} {β τ ρ α γ δ : Type} [Rv K β] [Rv K α] [Rv K γ] [Rv K δ]
variable {e : Env K τ ρ} {S : List Addr} {N : List Mu} {ts ts' : List (Option AV)} {L L' : List (V × AV)} {s : τ} {σ : L2.St} {H H' : Hp} {v : V} {A : AV}
variable {te ta tb tc : TE} {tt tu : TT} {r r' : R2} {b c : Bool} {p : Option ρ} {wi : TI} {g : TG}
variable {tA : TA}
theorem evL_tup {n : Nat} {k : Tu α → τ → Option ρ} (h : EvL e S N ts tA L s p n fun l s1 => k (Tu.mk l) s1) (hz : n ≤ 1000) : Ev e S N ts (tTup tA) L s p k := fun hp σ H Q at_ q => h hp σ H _ at_ fun l s1 vs H1 e1 hn a1 => by
  have hr := allA_RA (a1.get (v := .non) (A := allA vs (l.map (av K))) m0)
  have hz' : vs.length ≤ sizeLine := by rw [hr.len, sizeLine_eq]; omega
  exact ⟨hz', fun p hn => q _ _ _ _ e1 (a1.res (L' := [_]) (c := Tu.mk l) (.new hn) (new_tup a1.c.old hn hz' hr))⟩
end
section
variable {K : Frag} {β τ ρ α γ δ ς : Type} [Rv K β] [Rv K α] [Rv K γ] [Rv K δ]
variable {e : Env K Pot ρ} {S : List Addr} {N : List Mu} {ts ts' : List (Option AV)} {L L' : List (V × AV)} {s s' : Pot} {σ : L2.St} {H H' : Hp} {v : V} {A : AV} {q : Addr}
variable {te ta tb tc : TE} {t u t1 t2 : TS} {p : Option ρ} {g : TG} {nx ct bk : L2.St → Hp → Prop} {is : List Nat}
/-- a def that draws and returns a tuple of three, the last one a list that nothing else knows -/
def SpN3 (K : Frag) {α β γ : Type} [Rv K α] [Rv K β] [Rv K γ] (f : Pot → Option (T3 α β (List γ) × Pot)) : Sp := fun vs H Q _ => ∃ S q st b st', Old S H ∧ q ∈ S ∧ vs = [.ref q] ∧ H q = some (.lst [.int st.1, .int st.2]) ∧ f st = some (b, st') ∧
  ∀ v H' g xs, Kp [q] H H' → H' q = some (.lst [.int st'.1, .int st'.2]) → H g = none → H' g = some (.lst xs) → xs.length ≤ sizeLine → RA (Rv.R K (g :: S) H') xs b.c → Rv.R K (g :: S) H' v (⟨b.a, b.b, PRef.mk⟩ : T3 α β (PRef g)) → Q v H'
/-- where a fresh list has come in by a call -/
theorem At.fresh {D : Addr} {l : List γ} {xs : List V} (hm : ∀ st, e.m st = [potD q st]) (at_ : e.At S N ts L s σ H) (k : Kp [q] H H') (hq : H' q = some (.lst [.int s'.1, .int s'.2])) (hD : H D = none) (hD' : H' D = some (.lst xs)) (hz : xs.length ≤ sizeLine) (h : RA (Rv.R K (D :: S) H') xs l) :
    e.At (D :: S) (accD K D l :: N) ts L s' σ H' := by
  have a1 := At.push (γ := γ) at_ hD
  obtain ⟨qS, hq0⟩ := pot_at hm at_
  have ne : q ≠ D := fun z => by rw [z, hD] at hq0; cases hq0
  have kk : Kp [q, D] (upd H D (.lst [])) H' := fun a o n ea => by
    have n1 : a ≠ D := fun z => n (by simp [z])
    have n2 : a ∉ [q] := fun z => n (by simp at z; simp [z])
    rw [upd_ne n1] at ea
    exact k a o n2 ea
  have hT : ∀ a ∈ [q, D], a ∈ D :: S := fun a ha => by
    simp only [List.mem_cons, List.not_mem_nil, or_false] at ha
    rcases ha with z | z
    · exact List.mem_cons_of_mem _ (z ▸ qS)
    · exact z ▸ List.mem_cons_self ..
  have c := a1.c
  rw [hm] at c
  have mq := c.mu (potD q s) (by simp)
  have mD := c.mu (accD K D ([] : List γ)) (by simp)
  have dis := c.dis
  have c2 : Ctx e.B e.T0 e.S0 (D :: S) (accD K D l :: N ++ [potD q s']) L H' := c.step kk (fun a ha => by
      rcases List.mem_cons.mp ha with z | z
      · subst z
        exact ⟨_, hD'⟩
      · obtain ⟨o, ho⟩ := at_.c.old a z
        by_cases hq' : a = q
        · exact ⟨_, hq' ▸ hq⟩
        · exact ⟨o, k a o (by simpa using hq') ho⟩) hT (fun a ha => by
      simp only [List.mem_cons, List.not_mem_nil, or_false] at ha
      rcases ha with z | z
      · exact z ▸ mq.2.2.1
      · exact z ▸ mD.2.2.1) (by simp [accD, potD]) fun m hm' => by
    simp only [List.cons_append, List.mem_cons, List.mem_append, List.not_mem_nil, or_false] at hm'
    rcases hm' with z | z | z
    · subst z
      exact ⟨List.mem_cons_self .., ⟨xs, hD', hz, h⟩, mD.2.2.1, mD.2.2.2⟩
    · have hmu := c.mu m (by simp [z])
      refine ⟨hmu.1, m.keep hmu.2.1 kk hT fun hx => ?_, hmu.2.2.1, hmu.2.2.2⟩
      simp only [List.mem_cons, List.not_mem_nil, or_false] at hx
      simp only [List.cons_append, List.map_cons, List.map_append, List.map_nil, List.nodup_cons, List.nodup_append] at dis
      rcases hx with hx | hx
      · exact dis.2.2.2 m.a (List.mem_map.mpr ⟨m, z, rfl⟩) q (by simp [potD]) hx
      · exact dis.1 (List.mem_append_left _ (List.mem_map.mpr ⟨m, z, hx⟩))
    · subst z
      exact ⟨mq.1, hq, mq.2.2.1, fun z => nomatch z⟩
  exact ⟨by rw [hm]; exact c2, a1.s.keep (kk.mono hT)⟩
theorem sv_callN3 {i : Nat} (i1 i2 i3 : Nat) {f : Pot → Option (T3 α β (List γ) × Pot)} (k : T3 α β (List γ) → Pot → Option ρ) {p0 : Option ρ} (hm : ∀ st, e.m st = [potD q st]) (hi : ts[i]? = some (some (av K (PRef.mk (q := q))))) (e1 : p0 = (f s).bind fun c => k c.1 c.2)
    (hg : ∀ g0, Tg K g is fun (t : T3 α β (PRef g0)) ts => ((ts.set i1 (some (av K t.a))).set i2 (some (av K t.b))).set i3 (some (refA g0))) (hu : ∀ g0 (a : T3 α β (List γ)) s1, g0 ∉ S → Sv e (g0 :: S) (accD K g0 a.c :: N) (((ts.set i1 (some (av K a.a))).set i2 (some (av K a.b))).set i3 (some (refA g0))) L u s1 (k a s1) nx ct bk) (e0 : p = p0) :
    Sv e S N ts L (tSeq (tAsg (tCB (fun vs H Q => SpN3 K f vs H Q E0) (tCons (tVar i) tNil)) g) u) s p nx ct bk := fun hp σ H D at_ rt n c b => by
  rw [e0, e1] at hp
  obtain ⟨c0, hc, e2⟩ := Option.bind_eq_some_iff.mp hp
  obtain ⟨b0, s2⟩ := c0
  obtain ⟨v, hv, r⟩ := at_.s.at_ i _ hi
  have r' : v = .ref q := r
  subst r'
  obtain ⟨qS, hq⟩ := pot_at hm at_
  refine ⟨.ref q, hv, ?_⟩
  refine ⟨S, q, s, b0, s2, at_.c.old, qS, rfl, hq, hc, fun v H' g0 xs k1 hq' hg0 hg1 hz hr hv' => ?_⟩
  have a1 := At.fresh hm at_ k1 hq' hg0 hg1 hz hr
  exact Tg.at (hg g0) (a := ⟨b0.a, b0.b, PRef.mk⟩) a1 hv' fun σ' a2 => hu g0 b0 s2 (at_.c.old.no hg0) e2 σ' H' D a2 rt n c b
def RetOk3 (K : Frag) {α β γ : Type} [Rv K α] [Rv K β] [Rv K γ] (e : Env K Pot (T3 α β (List γ) × Pot)) : Prop := ∀ S N L g v H' (a : α) (b : β) (c : List γ) s', some ((⟨a, b, c⟩ : T3 α β (List γ)), s') = some e.r → Ctx e.B e.T0 e.S0 (g :: S) ((accD K g c :: N) ++ e.m s') ((v, av K (⟨a, b, PRef.mk⟩ : T3 α β (PRef g))) :: L) H' → e.rt v H'
theorem sv_retN3 {e : Env K Pot (T3 α β (List γ) × Pot)} {D : Addr} {a : α} {b : β} {l : List γ} (hR : RetOk3 K e) (h : Pu e (D :: S) (accD K D l :: N) ts te L (⟨a, b, PRef.mk⟩ : T3 α β (PRef D))) : Sv e (D :: S) (accD K D l :: N) ts L (tRet te) s (some (⟨a, b, l⟩, s)) nx ct bk := fun hp σ H DD at_ rt _ _ _ =>
  h s σ H DD.rt at_ fun v H' a1 => rt _ _ (hR S N L D v H' a b l s hp a1.c)
theorem body_N3 {Nm : List Str} {f : Pot → Option (T3 α β (List γ) × Pot)} {vs : List V} {Q : VK} {E : XK} (h : SpN3 K f vs H Q E) (n : Nat) (hn : 1 + n = Nm.length)
    (hb : ∀ (e : Env K Pot (T3 α β (List γ) × Pot)) (q : Addr) (st : Pot), (∀ st, e.m st = [potD q st]) → RetOk3 K e → Sv e e.S0 [] ([av K (PRef.mk (q := q))].map some ++ List.replicate n none) [] t st (f st) (fun _ H => e.rt .non H) nF nF) : t { nx := fun _ H' => Q .non H', rt := Q } (L2.start Nm vs) H := by
  obtain ⟨S, q, st, b, st', oS, qS, rfl, hq, hf, qq⟩ := h
  have hs : L2.start Nm [.ref q] = [V.ref q].map some ++ List.replicate n none := by
    unfold L2.start
    rw [show Nm.length - [V.ref q].length = n by rw [List.length_singleton]; omega]
  rw [hs]
  have one : ∀ a ∈ [q], a ∈ S := fun a h => by rw [List.mem_singleton.mp h]; exact qS
  have c0 : Ctx H [q] S S ([] ++ [potD q st]) [] H := by
    refine ⟨oS, one, fun _ h => h, oS, .refl, fun m hm => ?_, by simp, fun _ h => absurd h List.not_mem_nil⟩
    rw [List.mem_singleton.mp hm]
    exact ⟨qS, hq, .inl (List.mem_singleton_self q), fun z => nomatch z⟩
  refine hb ⟨H, [q], S, fun st => [potD q st], (b, st'), Q⟩ q st (fun _ => rfl) (fun S' N L g v H' a b' c s' ha cc => ?_) hf _ H _ ⟨c0, sl_start (vs := [.ref q]) (As := [av K (PRef.mk (q := q))]) ⟨rfl, trivial⟩⟩ (fun _ _ z => z) (fun _ _ z => z) (fun _ _ z => z.elim) fun _ _ z => z.elim
  cases ha
  have hp := (cc.mu (potD q st') (List.mem_append_right _ (List.mem_singleton_self _))).2.1
  obtain ⟨_, ⟨xs, ex, hz, hr⟩, _, h4⟩ := cc.mu (accD K g c) (by simp)
  have w : ∀ x, x ∈ g :: S → x ∈ g :: S' ∨ H' x = none := fun x hx => by
    rcases List.mem_cons.mp hx with z | z
    · exact .inl (z ▸ List.mem_cons_self ..)
    · exact .inl (cc.sub x z)
  exact qq v H' g xs cc.kp hp (h4 rfl) ex hz (hr.imp fun _ _ z => Rv.wid z w) (Rv.wid (cc.get (A := av K _) (List.mem_cons_self ..)) w)
end
end Lx
/-! ### a range of great ends -/
namespace L2
open PySem PySem.Spec PyProof.Rows
theorem turn_far {Pg : Program} {wd : World} {Kf : PySem.W.Frag} {tgt : Expr} (c : Addr) (b : Int) (m : Nat) : Turn Pg wd Kf tgt (Itr b m) [c] c (fun k hp => IsLongIter hp c (b + (k : Nat) * 1) ((m : Int) - (k : Nat)) 1) where
  mem := List.mem_singleton_self c
  obj := fun k hp z x hx => by
    cases List.mem_singleton.mp hx
    exact ⟨_, z, fun v y => by cases (show Data.fields _ = Data.cell v from y)⟩
  keep := fun k hp hq z kp => kp c (List.mem_singleton_self c) _ z
  item := by
    intro Y e1 e2 e3 cm k ps sh st hh EE IV fo z go
    subst e1 e2 e3
    obtain ⟨g0, g1, g2, g3, g4, g5⟩ := fo c (List.mem_singleton_self c)
    refine (Walks.longrange (prog := Y.prog) (w := Y.w) (IV.ok.hd cm) c b 1 m).item k sh _ _ go z fun v hp tok hv zz kk => ?_
    obtain ⟨t, rfl⟩ := hv
    have J : Inv Y ps st hh { sh with heap := hp, toks := tok } := IV.turned (fun x o hx e => kk x o (by simpa using hx) e) g0 g1 g3 g4 g5
    refine ⟨_, rfl, go_of (s := { sh with heap := hp, toks := tok }) (n := "longrange_iterator") zz rfl rfl (by decide) ⟨.int (b + k), hh, J, ⟨t, by rw [Int.mul_one]⟩, ⟨rfl, rfl⟩, zz, fun x hx => (fo x hx).1⟩⟩
  done := by
    intro Y e1 e2 e3 cm k ps sh st hh EE IV fo z go
    subst e1 e2 e3
    obtain ⟨g0, g1, g2, g3, g4, g5⟩ := fo c (List.mem_singleton_self c)
    have le : m ≤ k := go
    exact wpAny_pyNext_long_end (IV.ok.hd cm) z (by omega) fun hp kk => ⟨rfl, IV.turned (t' := sh.toks) (fun x o hx e => kk x o hx e) g0 g1 g3 g4 g5⟩
  self := fun _ _ _ _ _ z q => wpAny_pyIter_longiter z q
section
variable {X : Cx} {tg : Expr}
theorem range_far {pins : List (Addr × Obj)} {st : St} {hh : Hp} {sh : Shared} {R : It → Hp → Prop} {EE : Value → Shared → Prop} {i j : Int} {t u v : Tok} {tok : Nat} (IV : Inv X pins st hh sh) (q : R (Itr i (j - i).toNat) hh) :
    wpAny (model X.prog X.w) X.A (pyIter (.ref sh.heap.objs.size)) (PIE X pins st tg R) EE { sh with heap := sh.heap.push { cls := .type "range", data := .fields #[.int i t, .int j u, .int 1 v] }, toks := tok } := by
  have J : Inv X pins st hh { sh with heap := sh.heap.push { cls := .type "range", data := .fields #[.int i t, .int j u, .int 1 v] }, toks := tok } := IV.kept fun x o e => Heap.get?_push_of_some _ e
  have sz : (((j - i).toNat : Nat) : Int) - ((0 : Nat) : Int) = Builtin.Range.rangeSize i j 1 := by
    rw [rangeSize_one]
    split <;> omega
  have st0 : i + ((0 : Nat) : Int) * 1 = i := by omega
  cases big : Builtin.Range.small i j 1 with
  | true =>
    refine wpAny_pyIter_range (IsRange.new ..) big ?_
    refine ⟨_, [_], _, _, hh, rfl, J.kept (t' := tok) fun x o e => Heap.get?_push_of_some _ e, turn_range _ i (j - i).toNat, ?_, fun x hx => ?_, q⟩
    · show IsRangeIter _ _ (i + ((0 : Nat) : Int) * 1) (((j - i).toNat : Int) - ((0 : Nat) : Int)) 1
      rw [st0, sz]
      exact Heap.get?_push_size _ rfl
    · cases List.mem_singleton.mp hx
      exact J.fpOk (Nat.le_refl _) (J.hok.fresh (Nat.le_refl _))
  | false =>
    refine wpAny_pyIter_longrange (IsRange.new ..) big ?_
    refine ⟨_, [_], _, _, hh, rfl, J.kept (t' := tok) fun x o e => Heap.get?_push_of_some _ e, turn_far _ i (j - i).toNat, ?_, fun x hx => ?_, q⟩
    · show IsLongIter _ _ (i + ((0 : Nat) : Int) * 1) (((j - i).toNat : Int) - ((0 : Nat) : Int)) 1
      rw [st0, sz]
      exact Heap.get?_push_size _ rfl
    · cases List.mem_singleton.mp hx
      exact J.fpOk (Nat.le_refl _) (J.hok.fresh (Nat.le_refl _))
def iRngW (ta : TA) : TI := fun σ H R => ta σ H fun vs H1 => ∃ i j : Int, vs = [.int i, .int j] ∧ R (Itr i (j - i).toNat) H1
theorem pi_rangeW {a b : Expr} {ta : TA} {p pos : Pos} (hg : Gl X "range") (hm : X.mg "range" = none) (ha : PA X [a, b] ta)
    (h1 : starEach [a, b] X.env = [(false, eval a X.env), (false, eval b X.env)] := by rfl) (h2 : starEach [b] X.env = [(false, eval b X.env)] := by rfl) : PI X tg (.Call (.Name "range" p) [a, b] [] pos) (iRngW ta) := by
  constructor
  intro ps sh st hh R IV h
  refine Call_ (ld_blt IV hg hm boot_range (callWith_type1 (thn (ha.run pos ps sh st hh _ IV h) fun us s1 ⟨vs, H1, I1, r1, q1⟩ => ?_) (by rw [h1, h2]) (by rw [h2]; rfl)))
  obtain ⟨i, j, rfl, q⟩ := q1
  cases r1 with
  | cons ra rest => cases rest with
    | cons rb rest =>
      cases rest
      obtain ⟨⟨t, rfl⟩, ⟨t', rfl⟩⟩ := And.intro ra rb
      exact call_range_2 (range_far I1 q)
end
end L2
namespace Lx
open PySem PySem.Spec PyProof.Rows L2 He StX Lw
section
variable {K : Frag} {β τ ρ α γ δ : Type} [Rv K β] [Rv K α] [Rv K γ] [Rv K δ]
variable {e : Env K τ ρ} {S : List Addr} {N : List Mu} {ts ts' : List (Option AV)} {L L' : List (V × AV)} {s : τ} {σ : L2.St} {H H' : Hp} {v : V} {A : AV}
variable {te ta tb tc : TE} {tt tu : TT} {r r' : R2} {b c : Bool} {p : Option ρ} {wi : TI} {g : TG}
/-- so many turns of a range of any ends -/
def RgW (i j : Int) : Prop := (j - i).toNat ≤ sizeLine
instance (i j : Int) : Decidable (RgW i j) := inferInstanceAs (Decidable (_ ≤ _))
theorem evI_rgW {k1 : Int → τ → Option ρ} {k : List Int → τ → Option ρ} (h : Ev e S N ts ta L s p k1) (h' : ∀ i s1 v, Ev e S N ts tb ((v, av K i) :: L) s1 (k1 i s1) fun (j : Int) s2 => if RgW i j then k (rg i j) s2 else none) : EvI e S N ts (iRngW (tCons ta (tCons tb tNil))) L s p k := fun hp σ H R at_ q => h hp σ H _ at_ fun i s1 x H1 e1 a1 => h' i s1 x e1 σ H1 _ a1 fun j s2 y H2 e2 a2 => by
  dsimp only at e2
  split at e2
  · rename_i hj
    cases (show y = V.int j from a2.get (A := av K j) m0)
    cases (show x = V.int i from a2.get (A := av K i) m1)
    exact ⟨i, j, rfl, q _ s2 _ _ H2 e2 (wk_range rfl hj) ((a2.less (fun f hf => List.mem_cons_of_mem _ (List.mem_cons_of_mem _ hf))).add (A := trueA) trivial)⟩
  · cases e2
end
end Lx

set_option Elab.async false
set_option linter.all false
set_option maxRecDepth 100000
set_option maxHeartbeats 4000000
/-! a list of ints that a def has made anew and its caller changes -/
namespace Lx
open PySem PySem.Spec PyProof.Rows L2 He StX Lw
open Lw.En (enc)
section
variable {K : Frag} {β τ ρ α γ δ : Type} [Rv K β] [Rv K α] [Rv K γ] [Rv K δ]
variable {e : Env K τ ρ} {S : List Addr} {N : List Mu} {ts ts' : List (Option AV)} {L L' : List (V × AV)} {s : τ} {σ : L2.St} {H H' : Hp} {v : V} {A : AV}
variable {te ta tb tc : TE} {tt : TT} {t u : TS} {r r' : R2} {p : Option ρ} {wi : TI} {g : TG} {nx ct bk : L2.St → Hp → Prop} {is : List Nat} {As : Type} [Ra K As] {tA : TA}
theorem RA_int {S : List Addr} {H : Hp} : ∀ {vs : List V} {l : List Int}, RA (Rv.R K S H) vs l → vs = l.map V.int
  | [], [], _ => rfl
  | v :: vs, a :: as, ⟨h1, h2⟩ => by rw [show v = V.int a from h1, RA_int h2]; rfl
  | [], _ :: _, h => h.elim
  | _ :: _, [], h => h.elim
theorem int_RA {S : List Addr} {H : Hp} : ∀ (l : List Int), RA (Rv.R K S H) (l.map V.int) l
  | [] => trivial
  | a :: as => ⟨rfl, int_RA as⟩
def SpFI (K : Frag) {As : Type} [Ra K As] (f : As → Option (List Int)) : Sp := fun vs H Q _ => ∃ S as l, Old S H ∧ AllV S H vs (Ra.avs K as) ∧ f as = some l ∧ ∀ g H', Kp [] H H' → H g = none → H' g = some (.lst (l.map V.int)) → l.length ≤ sizeLine → Q (.ref g) H'
theorem SpFI.of {f : As → Option (List Int)} {vs : List V} {Q : VK} {E : XK} (h : SpF K f vs H Q E) : SpFI K f vs H Q E := by
  obtain ⟨S, as, l, oS, hA, hf, q⟩ := h
  refine ⟨S, as, l, oS, hA, hf, fun g H' k hg hg' hz => q _ _ k ⟨g, _, rfl, ⟨fun z => ?_, hg'⟩, by rw [List.length_map]; exact hz, int_RA l⟩⟩
  obtain ⟨o, ho⟩ := oS g z
  rw [hg] at ho
  cases ho
/-- a fresh list comes in -/
theorem At.fresh0 {D : Addr} {l : List Int} (at_ : e.At S N ts L s σ H) (k : Kp [] H H') (hD : H D = none) (hD' : H' D = some (.lst (l.map V.int))) (hz : l.length ≤ sizeLine) : e.At (D :: S) (accD K D l :: N) ts L s σ H' := by
  have a1 := At.push (γ := Int) at_ hD
  have kk : Kp [D] (upd H D (.lst [])) H' := fun a o n ea => by
    have n1 : a ≠ D := fun z => n (by simp [z])
    rw [upd_ne n1] at ea
    exact k a o (fun z => nomatch z) ea
  have hT : ∀ a ∈ [D], a ∈ D :: S := fun a ha => by
    rw [List.mem_singleton.mp ha]
    exact List.mem_cons_self ..
  have c := a1.c
  have mD := c.mu (accD K D ([] : List Int)) (by simp)
  have dis := c.dis
  have c2 : Ctx e.B e.T0 e.S0 (D :: S) (accD K D l :: N ++ e.m s) L H' := c.step kk (fun a ha => by
      rcases List.mem_cons.mp ha with z | z
      · subst z
        exact ⟨_, hD'⟩
      · obtain ⟨o, ho⟩ := at_.c.old a z
        exact ⟨o, k a o (fun z => nomatch z) ho⟩) hT (fun a ha => by
      rw [List.mem_singleton.mp ha]
      exact mD.2.2.1) (by simp [accD]) fun m hm' => by
    rcases List.mem_cons.mp hm' with z | z
    · subst z
      exact ⟨List.mem_cons_self .., ⟨_, hD', by rw [List.length_map]; exact hz, int_RA l⟩, mD.2.2.1, mD.2.2.2⟩
    · have hmu := c.mu m (List.mem_cons_of_mem _ z)
      refine ⟨hmu.1, m.keep hmu.2.1 kk hT fun hx => ?_, hmu.2.2.1, hmu.2.2.2⟩
      obtain ⟨n1, _⟩ := List.nodup_cons.mp dis
      exact n1 (List.mem_map.mpr ⟨m, z, List.mem_singleton.mp hx⟩)
  exact ⟨c2, a1.s.keep (kk.mono hT)⟩
theorem sv_methI [Ob K α] {i : Nat} {m : Str} {f : α × As → Option (List Int)} {o : α} {as : As} (k : List Int → τ → Option ρ) (hm : lkp (Ob.ns K α) m = none) (h : Pu e S N ts ta L o) (h2 : ∀ v, PuA e S N ts tA ((v, av K o) :: L) as)
    (hu : ∀ g l s1, g ∉ S → Sv e (g :: S) (accD K g l :: N) (ts.set i (some (refA g))) L u s1 (k l s1) nx ct bk) (e0 : p = (f (o, as)).bind fun b => k b s) :
    Sv e S N ts L (tSeq (tAsg (tMC (Ob.C K α) m (fun vs H Q => SpFI K f vs H Q E0) ta tA) (gName i)) u) s p nx ct bk := fun hp σ H D at_ rt n c b => h s σ H _ at_ fun y H1 a1 => by
  have z : Rv.R K S H1 y o := a1.get m0
  obtain ⟨a, dx, fs, rfl, fx, hn, hA⟩ := Ob.ob z
  rw [← hn] at hm
  refine ⟨a, dx, fs, rfl, fx.2, lkp_none hm, h2 (.ref a) s σ H1 _ a1 fun vs H2 a2 => ?_⟩
  rw [e0] at hp
  obtain ⟨l, hl, e3⟩ := Option.bind_eq_some_iff.mp hp
  refine ⟨S, (o, as), l, a2.c.old, ⟨a2.get m1, a2.get (v := .non) (A := allA vs (Ra.avs K as)) m0⟩, hl, fun g0 H3 k3 hg hg' hz => ?_⟩
  have a3 := At.fresh0 ((a2.less (L' := L) fun f hf => List.mem_cons_of_mem _ (List.mem_cons_of_mem _ hf))) k3 hg hg' hz
  exact hu g0 l s (a2.c.old.no hg) e3 _ _ D (a3.set (A := refA g0) rfl) rt n c b
/-- what stands nowhere -/
class Sc (K : Frag) (α : Type) [Rv K α] : Prop where
  sc : ∀ {S S' : List Addr} {H H' : Hp} {v : V} {a : α}, Rv.R K S H v a → Rv.R K S' H' v a
instance : Sc K Int := ⟨fun h => h⟩
instance : Sc K Bool := ⟨fun h => h⟩
instance : Sc K Str := ⟨fun h => h⟩
/-- a list that grows, looked at -/
theorem At.view {i : Nat} {f : Addr} {l : List γ} (hi : ts[i]? = some (some (refA f))) (nf : f ∉ S) (at_ : e.At (f :: S) (accD K f l :: N) ts L s σ H) : σ[i]? = some (some (.ref f)) ∧ Old S H ∧ Rv.R K S H (.ref f) l := by
  obtain ⟨hx, _⟩ := at_live hi (j := 0) rfl at_
  have a1 := At.freeze (σ0 := σ) at_ nf
  exact ⟨hx, a1.c.old, a1.get (A := av K l) m0⟩
theorem ev_cb1CM [Sc K δ] {i : Nat} {f : Addr} {l : List γ} {rb : List V → Hp → VK → Prop} {C : List γ → Prop} [∀ a, Decidable (C a)] {h : List γ → δ} {k : δ → τ → Option ρ} (hi : ts[i]? = some (some (refA f))) (nf : f ∉ S) (o : Op1 K (fun x => rb [x]) C h) :
    Ev e (f :: S) (accD K f l :: N) ts (tCB rb (tCons (tVar i) tNil)) L s (if C l then k (h l) s else none) k := fun hp σ H Q at_ q => by
  split at hp
  · rename_i hc
    obtain ⟨hx, oS, hv⟩ := At.view hi nf at_
    exact ⟨.ref f, hx, o S H (.ref f) l Q oS hv hc fun v H' kk r => q _ _ v H' hp ((at_.pure kk).add (A := av K (h l)) (Sc.sc r))⟩
  · cases hp
theorem ev_opM [Sc K δ] {i : Nat} {f : Addr} {l : List γ} {h : α → List γ → δ} {k : δ → τ → Option ρ} (hi : ts[i]? = some (some (refA f))) (nf : f ∉ S) (h1 : Ev e (f :: S) (accD K f l :: N) ts ta L s p fun a s1 => k (h a l) s1) (o : Op2 K r C2 h) :
    Ev e (f :: S) (accD K f l :: N) ts (tOp r ta (tVar i)) L s p k := fun hp σ H Q at_ q =>
  h1 hp σ H _ at_ fun a s1 x H1 e1 a1 => by
    obtain ⟨hx, oS, hv⟩ := At.view hi nf a1
    exact ⟨.ref f, hx, o S H1 x (.ref f) a l Q oS (Rv.wid (a1.get (A := av K a) m0) fun y hy => .inl (List.mem_cons_of_mem _ hy)) hv trivial fun v H' kk r => q _ _ v H' e1 (((a1.pure kk).less d1).add (A := av K (h a l)) (Sc.sc r))⟩
/-- a list of anything -/
def anyD (D : Addr) : Mu where
  a := D
  loc := true
  P := fun _ H => ∃ xs, H D = some (.lst xs)
  keep := fun ⟨xs, e⟩ k _ n => ⟨xs, k D _ n e⟩
  wid := fun h _ => h
theorem sv_setN {i : Nat} {f : Addr} {l : List γ} {p1 : Option ρ} (hi : ts[i]? = some (some (refA f))) (hu : Sv e (f :: S) (anyD f :: N) ts L u s p1 nx ct bk) (e0 : p = if 0 < l.length then p1 else none) :
    Sv e (f :: S) (accD K f l :: N) ts L (tSeq (tAsg (tC .non) (gSub (tVar i) (tC (.int 0)) rSetL)) u) s p nx ct bk := fun hp σ H D at_ rt n c b => by
  rw [e0] at hp
  split at hp
  · rename_i hl
    obtain ⟨hx, _⟩ := at_live hi (j := 0) rfl at_
    obtain ⟨c1, ⟨xs, ex, hz, hr⟩, c3, c4⟩ := at_.c.mu (accD K f l) (by simp)
    have hlen : 0 < xs.length := by rw [hr.len]; exact hl
    have hix : ixN xs.length 0 = some 0 := by
      unfold ixN
      rw [if_pos (by decide), if_pos (by omega)]
      rfl
    refine ⟨.ref f, hx, f, xs, 0, 0, rfl, rfl, ex, hix, ?_⟩
    have kk : Kp [f] H (upd H f (.lst (xs.set 0 .non))) := .mut (List.mem_singleton_self f)
    have kS : Kp (f :: S) H (upd H f (.lst (xs.set 0 .non))) := .mut c1
    have c2 := at_.c.eff (i := 0) (m := accD K f l) (m' := anyD f) rfl kk ⟨_, upd_same⟩ rfl rfl ⟨_, upd_same⟩
    exact hu hp σ _ D ⟨c2, at_.s.keep kS⟩ rt n c b
  · cases hp
end
section
variable {K : Frag} {α : Type} [Rv K α]
variable {e : Env K Unit (List Int)} {S : List Addr} {N : List Mu} {ts : List (Option AV)} {L : List (V × AV)} {s : Unit} {H : Hp} {te : TE} {t : TS} {wi : TI} {g : TG} {nx ct bk : L2.St → Hp → Prop} {is : List Nat} {As : Type} [Ra K As] {p p' : Option (List Int)}
def RetOkI (K : Frag) (e : Env K Unit (List Int)) : Prop := ∀ S N L D H' l, some l = some e.r → Ctx e.B e.T0 e.S0 S N ((.ref D, av K l) :: L) H' → e.B D = none → e.rt (.ref D) H'
theorem sv_retLcI {f : α → List (Option AV) → List (Option AV)} {vs : List Nat} {b : α → Unit → (Int → Unit → Option (List Int)) → Option (List Int)} (hR : RetOkI K e) (hi : EvI e S N ts wi L s p fun xs s1 => mapK xs s1 b fun l _ => some l) (hg : Tg K g is f) (hv : ∀ i ∈ is, i ∈ vs)
    (hb : ∀ D M L' x s1 nx, Ev e (D :: S) (M :: N) (f x (wipeT ts vs)) te L' s1 (b x s1 nx) nx) (e0 : p' = p) : Sv e S N ts L (tRet (tLc wi g tYes te vs)) s p' nx ct bk := fun hp σ H D at_ rt _ _ _ =>
  hi (e0 ▸ hp) σ H _ at_ fun xs s1 A J H1 e1 W a1 => fun D0 hD0 => by
    have hB : e.B D0 = none := by
      cases hq : e.B D0 with
      | none => rfl
      | some o =>
        have n : D0 ∉ e.T0 := fun z => by
          obtain ⟨o', ho⟩ := a1.c.old D0 (a1.c.sub _ (a1.c.tS _ z))
          rw [hD0] at ho
          cases ho
        rw [a1.c.kp D0 o n hq] at hD0
        cases hD0
    obtain ⟨W', w0, ws⟩ := lc_main (Q := fun v H' => v = .ref D0 → D.rt v H') (te := te) (tt := tYes) W hg hv a1 (fun i ys s' => mapK (xs.drop i) s' b (fun zs _ => some (ys ++ zs)) = some e.r) (by simpa using e1) (fun D M L' i x ys s' σ2 H2 QY QN hx hI a qy _ => by
      rw [drop_cons hx] at hI
      refine hb D M L' x s' _ hI σ2 H2 _ a fun y s3 v H4 e4 a4 => ?_
      refine qy y s3 v H4 _ ?_ (a4.get m0) (a4.less d1)
      simpa using e4) (fun D' ys s' H' hI a ed => by
      rw [List.drop_length] at hI
      cases ed
      exact rt _ _ (hR S _ _ D0 H' ys (by simpa [mapK] using hI) a.c hB)) D0 hD0
    exact ⟨W', w0, fun i m H hw => (ws i m H hw).imp (fun ⟨x, y⟩ => ⟨x, y rfl⟩) id⟩
theorem body_FI {Nm : List Str} {f : As → Option (List Int)} {vs : List V} {Q : VK} {E : XK} (h : SpFI K f vs H Q E) (n : Nat) (hn : ∀ as : As, (Ra.avs K as).length + n = Nm.length)
    (hb : ∀ (e : Env K Unit (List Int)) (as : As), e.m = (fun _ => []) → RetOkI K e → Sv e e.S0 [] ((Ra.avs K as).map some ++ List.replicate n none) [] t () (f as) nF nF nF) : t { nx := fun _ H' => Q .non H', rt := Q } (L2.start Nm vs) H := by
  obtain ⟨S, as, l, oS, hA, hf, q⟩ := h
  have hl := hA.len
  have hs : L2.start Nm vs = vs.map some ++ List.replicate n none := by
    unfold L2.start
    rw [show Nm.length - vs.length = n by have := hn as; omega]
  rw [hs]
  refine hb ⟨H, [], S, fun _ => [], l, Q⟩ as rfl (fun S' N L D H' l' ha c hB => ?_) hf _ H _ ⟨.start oS fun _ h => absurd h List.not_mem_nil, sl_start hA⟩ (fun _ _ z => z) (fun _ _ z => z.elim) (fun _ _ z => z.elim) fun _ _ z => z.elim
  cases ha
  obtain ⟨x, xs, ex, fx, hz, hr⟩ := c.get (A := av K l) (List.mem_cons_self ..)
  cases ex
  have := RA_int hr
  subst this
  exact q D H' c.kp hB fx.2 (by rw [List.length_map] at hz; exact hz)
end
end Lx

set_option Elab.async false
set_option linter.all false
set_option maxRecDepth 100000
set_option maxHeartbeats 4000000
/-! x += e -/
namespace Lx
open PySem PySem.Spec PyProof.Rows L2 He StX Lw
section
variable {K : Frag} {τ ρ : Type}
variable {e : Env K τ ρ} {S : List Addr} {N : List Mu} {ts : List (Option AV)} {L : List (V × AV)} {s : τ} {te : TE} {u : TS} {p : Option ρ} {nx ct bk : L2.St → Hp → Prop}
theorem sv_aug {i : Nat} {a : Int} (g : Int → Int → Int) (k : Int → τ → Option ρ) {p0 : Option ρ} (hi : ts[i]? = some (some (av K a))) (h : Ev e S N ts te L s p0 fun (b : Int) s1 => k (g a b) s1) (hu : ∀ c s1, Sv e S N (ts.set i (some (av K c))) L u s1 (k c s1) nx ct bk) (e0 : p = p0) :
    Sv e S N ts L (tSeq (tAug i te (ipI g)) u) s p nx ct bk := fun hp σ H D at_ rt n c b => by
  obtain ⟨v, hv, r⟩ := at_.s.at_ i _ hi
  have r' : v = .int a := r
  subst r'
  refine ⟨.int a, hv, h (e0 ▸ hp) σ H _ at_ fun b0 s1 y H1 e1 a1 => ?_⟩
  cases (show y = V.int b0 from a1.get (A := av K b0) m0)
  exact ⟨a, b0, rfl, rfl, hu (g a b0) s1 e1 _ _ D ((a1.less d1).set (A := av K (g a b0)) rfl) rt n c b⟩
end
section
variable {K : Frag} {τ ρ α : Type} [Rv K α]
variable {e : Env K τ ρ} {S : List Addr} {N : List Mu} {ts : List (Option AV)} {L : List (V × AV)} {s : τ} {te : TE} {p : Option ρ}
/-- what is not None -/
theorem ev_unopt {k : α → τ → Option ρ} (h : Ev e S N ts te L s p fun (o : Option α) s1 => o.bind fun x => k x s1) : Ev e S N ts te L s p k := fun hp σ H Q at_ q => h hp σ H _ at_ fun o s1 v H1 e1 a1 => by
  obtain ⟨x, hx, e2⟩ := Option.bind_eq_some_iff.mp e1
  subst hx
  have r := a1.get (A := av K (some x)) m0
  exact q x s1 v H1 e2 ((a1.less d1).add (A := av K x) r.2)
theorem ev_isi {T U : String} {b : Bool} {k : Bool → τ → Option ρ} (ht : ∀ (a : α) S H v, Rv.R K S H v a → TyX K H v (.type T)) (hk : kitB T U = some b) (h : Ev e S N ts te L s p fun (_ : α) s1 => k b s1) : Ev e S N ts (tCB (rIsi K) (tCons te (tCons (tC (.ty U)) tNil))) L s p k := fun hp σ H Q at_ q => h hp σ H _ at_ fun a s1 x H1 e1 a1 =>
  ⟨x, .ty U, .type T, .type U, b, rfl, .ty U, ht a S H1 x (a1.get m0), kit_ty hk, q _ s1 _ H1 e1 ((a1.less d1).add (A := av K b) rfl)⟩
theorem sv_narrow {u : TS} {nx ct bk : L2.St → Hp → Prop} {i : Nat} {o : Option α} (k : α → Option ρ) (hi : ts[i]? = some (some (av K o))) (hu : ∀ x, Sv e S N (ts.set i (some (av K x))) L u s (k x) nx ct bk) (e0 : p = o.bind k) : Sv e S N ts L u s p nx ct bk := fun hp σ H D at_ rt n c b => by
  rw [e0] at hp
  obtain ⟨x, hx, e2⟩ := Option.bind_eq_some_iff.mp hp
  subst hx
  obtain ⟨v, hv, r⟩ := at_.s.at_ i _ hi
  have a2 := at_.set (i := i) (A := av K x) r.2
  rw [show σ.set i (some v) = σ from set_self hv] at a2
  exact hu x e2 σ H D a2 rt n c b
end
end Lx
/-! ### own <= -/
namespace Lw
open PySem PySem.Spec PyProof.Rows L2 StX
section
open PySem.W (findIn isFn)
variable {X : Cx} {CX : CXT} {k : Nat} {f C : Addr} {sp : Sp} {E : XK}
theorem op_leO (h1 : findIn X.K (.ref C) "__le__" = some (some (.ref f))) (h2 : isFn X.K (.ref f) = true) (F : FnG X.prog X.w X.K X.mg X.base CX k f sp) (hr : RoomG k X.A) (hx : Passes CX X E) : OpR X (compareOp .LtE) (rEqO X.K C sp E) := by
  intro pins sh σ H x y v u Q I rx ry h
  obtain ⟨p, dx, fs, rfl, hp, hy, q⟩ := h
  cases (show v = Value.ref p from rx)
  obtain ⟨od, J⟩ := ins_at I hp
  obtain ⟨m, hF⟩ := I.fr
  obtain ⟨tb, hb, hn⟩ := eqTo_looks (M := model X.prog X.w) I ry hy
  show wpAny _ _ (richCompare .LtE (.ref p) u) _ _ _
  refine PySem.W.cmp_K (op := .LtE) (tb := tb) hr.units0 hF I.ok.mod.kin J hb hn h1 h2 (wpAny_mono (run_g (us := [.ref p, u]) (vs := [.ref p, y]) F hr hx I (.cons rfl (.cons ry .nil)) q) (fun w s' z => ?_) fun _ _ x => x)
  obtain ⟨z', H', I', rz, c, rfl, qz⟩ := z
  exact SlX.cmpback rz ⟨_, H', I', rz, qz⟩
end
end Lw

set_option Elab.async false
set_option linter.all false
set_option maxRecDepth 100000
set_option maxHeartbeats 4000000
/-! values that may be None, as data -/
namespace Lx
open PySem PySem.Spec PyProof.Rows L2 He StX Lw
open Lw.En (enc)
/-- a kind of data of which none is like None -/
class NfE (α : Type) [Py α] : Prop where
  l : ∀ a : α, PyData.eqv .none (enc a) = false
  r : ∀ a : α, PyData.eqv (enc a) .none = false
instance : NfE Int := ⟨fun a => by simp [enc, PyData.eqv], fun a => by simp [enc, PyData.eqv]⟩
instance {α β : Type} [Py α] [Py β] : NfE (α × β) := ⟨fun a => by simp [enc, PyData.eqv], fun a => by simp [enc, PyData.eqv]⟩
instance {α β γ : Type} [Py α] [Py β] [Py γ] : NfE (T3 α β γ) := ⟨fun a => by simp [enc, PyData.eqv], fun a => by simp [enc, PyData.eqv]⟩
instance {α : Type} [Py α] : NfE (List α) := ⟨fun a => by simp [enc, PyData.eqv], fun a => by simp [enc, PyData.eqv]⟩
instance {α : Type} [Py α] : NfE (Tu α) := ⟨fun a => by simp [enc, PyData.eqv], fun a => by simp [enc, PyData.eqv]⟩
def encO {α : Type} [Py α] : Option α → PyData
  | none => .none
  | some a => enc a
instance {α : Type} [Py α] [NfE α] : Py (Option α) where
  enc := encO
  dep := Py.dep α
  eqv := fun a b => by
    cases a with
    | none => cases b with
      | none => simp [encO, PyData.eqv]
      | some b => simp [encO, NfE.l]
    | some a => cases b with
      | none => simp [encO, NfE.r]
      | some b => simp [encO, Py.eqv]
  lay := fun a => by
    cases a with
    | none => simp [encO, PyData.canLay0]
    | some a => exact Py.lay a
  dle := fun a => by
    cases a with
    | none => simp [encO, PyData.depth]
    | some a => exact Py.dle a
section
variable {K : Frag}
instance {α : Type} [Rv K α] [Dt K α] [NfE α] : Dt K (Option α) := ⟨fun {S H v a} h => by
  cases a with
  | none =>
    have e : v = .non := h
    subst e
    exact .non
  | some a => exact Dt.toDp (α := α) h.2⟩
end
end Lx
namespace Lw
open PySem PySem.Spec PyProof.Rows L2 StX
open PySem.W (findIn clsIn subIn selfFirst isFn)
section
variable {K : PySem.W.Frag}
theorem int_mul_inst (a : Int) (t : Tok) (l C dx : Addr) :
    Meets (Builtin.«int.__mul__» ⟨[.int a t, .ref l], []⟩) (fun _ R s => s.heap.get? l = some (PySem.W.instObj C dx) ∧ R (.ok (.ret Value.notImplemented)) s) :=
  .of_wp fun prog w A R s h => by obtain ⟨hp, g, d, tk, os⟩ := s; obtain ⟨hl, h⟩ := h; wp_walk; exact ⟨_, rfl, h⟩
theorem mulT {prog : Program} {w : World} {A : Around} {E : Value → Shared → Prop} {s : Shared} {x C L g dx : Addr} {h₀ : Heap} {m : Str → Option Value} {od : Option Obj} {n : Int} {t : Tok} {Q : Value → Shared → Prop} (hF : Fr h₀ L s.heap m) (X₀ : K.In h₀) (I : PySem.W.InstAt s.heap x (PySem.W.instObj C dx) C od) (B : MulRef K C g)
    (h : wpAny (model prog w) A (call (.ref g) [.ref x, .int n t]) (PySem.W.CmpBack Q) E s) : wpAny (model prog w) A (binaryOp .Mult (.int n t) (.ref x)) Q E s := by
  have X := X₀.keeps hF.keep
  obtain ⟨cd, rest, hcd, hm⟩ := PySem.W.ksp_first B.first
  obtain ⟨_, ⟨f, hs⟩, hr, hf, hsub⟩ := B
  have one := PySem.W.ksp_try X I hr hf h
  have hx : s.heap.get? x = some (PySem.W.instObj C dx) := I.at_
  have L0 : PySem.W.Looks (model prog w) s.heap (typeOf (.int n t)) (.type "int") := PySem.W.Looks.of_pure rfl
  have L1 : PySem.W.Looks (model prog w) s.heap (typeOf (.ref x)) (.ref C) := I.type
  have L2 : PySem.W.Looks (model prog w) s.heap (fillsNumberSlot (.ref C) "mul") true := PySem.W.fills_K X hcd hm hs
  have L3 : PySem.W.Looks (model prog w) s.heap (fillsNumberSlot (.type "int") "mul") true := PySem.W.Looks.of_pure F.fills_int_mul
  have L5 : PySem.W.Looks (model prog w) s.heap (isSubtype (.ref C) (.type "int")) false := PySem.W.looks_subIn X hsub
  have L6 : PySem.W.Looks (model prog w) s.heap (numberSlotInPython (.type "int") "mul") false := PySem.W.Looks.of_pure rfl
  have hne : (Value.type "int" == Value.ref C) = false := Bool.eq_false_iff.mpr fun q => by cases beq_iff_eq.mp q
  have hop : Operator.Mult.info = ("*", "mul") := rfl
  simp only [binaryOp, hop]
  refine wpAny_holding (wpAny_bind ?_)
  unfold binaryOp1
  refine wpAny_bind (L0.here (wpAny_bind (L1.here (wpAny_bind (L3.here ?_)))))
  simp only [hne, Bool.false_eq_true, if_false]
  refine wpAny_bind (L2.here ?_)
  simp only [pure_bind, Bool.and_true, if_true]
  refine wpAny_bind (L5.here ?_)
  simp only [pure_bind, Bool.and_true, Bool.not_false, Bool.and_self, Bool.false_eq_true, if_false, if_true]
  refine wpAny_bind (L6.here ?_)
  simp only [pure_bind, Bool.and_true, Bool.not_false, Bool.and_self, Bool.false_eq_true, if_false, if_true]
  refine wpAny_bind (wpAny_tryMethod_declines (typeIs_int s n t) F.slot_int_mul (call_meets F.slot_int_mul (typeIs_int s n t) F.entry_int_mul (F.args_int_mul_2 _ _) (int_mul_inst n t x C dx) ⟨hx, rfl, ?_⟩))
  have one' : wpAny (model prog w) A (tryMethod (.ref x) (dunderR "mul") (.int n t)) (fun r s' => ∃ v, r = some v ∧ Q v s') E s := one
  refine wpAny_bind (wpAny_mono one' (fun r s' hr' => ?_) fun _ _ e => e)
  obtain ⟨v, rfl, hq⟩ := hr'
  exact wpAny_bind (wpAny_rule (wpAny_pure (wpAny_pure hq)))
end
section
variable {X : Cx} {C f g : Addr} {sp : Sp} {E : XK} {k : Nat} {CX : CXT}
abbrev rMulR (C : Addr) (sp : Sp) (E : XK) : R2 := fun x y H Q => ∃ a dx fs n, x = .int n ∧ y = .ref a ∧ H a = some (.ins C dx fs) ∧ sp [y, x] H Q E
theorem op_mulR (B : MulRef X.K C g) (F : FnG X.prog X.w X.K X.mg X.base CX k f sp) (hfg : f = g) (hr : RoomG k X.A) (hx : Passes CX X E) : OpR X (binaryOp .Mult) (rMulR C sp E) := by
  subst hfg
  intro pins s σ H x y v u Q I rx ry h
  obtain ⟨a, dx, fs, n, rfl, rfl, ha, q⟩ := h
  cases (show u = Value.ref a from ry)
  obtain ⟨t, rfl⟩ := rx
  obtain ⟨od, J⟩ := ins_at I ha
  obtain ⟨m, hF⟩ := I.fr
  refine mulT hF I.ok.mod.kin J B ?_
  refine wpAny_mono (run_g (us := [.ref a, .int n t]) (vs := [.ref a, .int n]) F hr hx I (.cons rfl (.cons ⟨t, rfl⟩ .nil)) q) (fun w s' z => ?_) fun _ _ x => x
  obtain ⟨z', H', I', rz, qz⟩ := z
  exact SlX.cmpback rz ⟨z', H', I', rz, qz⟩
end
end Lw

set_option Elab.async false
set_option linter.all false
set_option maxRecDepth 100000
set_option maxHeartbeats 4000000
/-! n * o; lists that grow, begun by a choice; two fors -/
namespace Lx
open PySem PySem.Spec PyProof.Rows L2 He StX Lw
section
variable {K : Frag} {β τ ρ α γ δ ς : Type} [Rv K β] [Rv K α] [Rv K γ] [Rv K δ]
variable {e : Env K τ ρ} {S : List Addr} {N : List Mu} {ts ts' : List (Option AV)} {L L' : List (V × AV)} {s : τ} {σ : L2.St} {H H' : Hp} {v : V} {A : AV}
variable {te ta tb tc : TE} {tt tu : TT} {t u t1 t2 : TS} {r r' : R2} {b c : Bool} {p : Option ρ} {wi wi1 : TI} {g g1 : TG} {nx ct bk : L2.St → Hp → Prop} {is is1 : List Nat}
theorem ev_mulR [Ob K α] {f : α × Int × Unit → Option δ} {k1 : Int → τ → Option ρ} {k : δ → τ → Option ρ} (h1 : Ev e S N ts ta L s p k1) (h2 : ∀ i s1 v, Ev e S N ts tb ((v, av K i) :: L) s1 (k1 i s1) fun a s2 => (f (a, i, ())).bind fun c => k c s2) :
    Ev e S N ts (tOp (rMulR (Ob.C K α) (SpF K f) E0) ta tb) L s p k := fun hp σ H Q at_ q => h1 hp σ H _ at_ fun i s1 x H1 e1 a1 => h2 i s1 x e1 σ H1 _ a1 fun a s2 y H2 e2 a2 => by
  obtain ⟨c, hc, e3⟩ := Option.bind_eq_some_iff.mp e2
  have z1 : Rv.R K S H2 y a := a2.get m0
  cases (show x = V.int i from a2.get (A := av K i) m1)
  obtain ⟨p1, dx, fs, rfl, fx, _, _⟩ := Ob.ob z1
  exact ⟨p1, dx, fs, i, rfl, rfl, fx.2, call_F (f := f) (as := (a, i, ())) ((a2.less (fun f hf => List.mem_cons_of_mem _ (List.mem_cons_of_mem _ hf))).add (v := .non) (A := allA [.ref p1, .int i] [av K a, av K i]) ⟨z1, rfl, trivial⟩) hc fun w H3 a3 => q c s2 w H3 e3 a3⟩
theorem ev_isNO {k : Bool → τ → Option ρ} (h : Ev e S N ts te L s p fun (a : Option α) s1 => k a.isNone s1) : Ev e S N ts (tIsN te) L s p k := fun hp σ H Q at_ q => h hp σ H _ at_ fun a s1 x H1 e1 a1 => by
  have n : Rv.R K S H1 x a := a1.get (A := av K a) m0
  refine q _ _ _ H1 e1 ((a1.less d1).add (A := av K a.isNone) ?_)
  show V.bl _ = V.bl _
  congr 1
  cases a with
  | none => exact decide_eq_true n
  | some z => exact decide_eq_false n.1
theorem ev_notNO {k : Bool → τ → Option ρ} (h : Ev e S N ts te L s p fun (a : Option α) s1 => k (!a.isNone) s1) : Ev e S N ts (tNotN te) L s p k := fun hp σ H Q at_ q => h hp σ H _ at_ fun a s1 x H1 e1 a1 => by
  have n : Rv.R K S H1 x a := a1.get (A := av K a) m0
  refine q _ _ _ H1 e1 ((a1.less d1).add (A := av K (!a.isNone)) ?_)
  show V.bl _ = V.bl _
  congr 1
  cases a with
  | none =>
    have n' : x = .non := n
    simp [n']
  | some z =>
    have n' : x ≠ .non := n.1
    simp [n']
theorem sv_newIf {i : Nat} {tA tB : TA} {l1 l2 : List γ} (k : List γ → τ → Option ρ) {p0 : Option ρ} (hc : EvT e S N ts tt L s p0 fun b s1 => k (if b = true then l1 else l2) s1) (h1 : PuL e S N ts tA L l1) (h2 : PuL e S N ts tB L l2) (hz : l1.length ≤ 1000) (hz2 : l2.length ≤ 1000)
    (hu : ∀ f l s1, f ∉ S → Sv e (f :: S) (accD K f l :: N) (ts.set i (some (refA f))) L u s1 (k l s1) nx ct bk) (e0 : p = p0) : Sv e S N ts L (tSeq (tAsg (tIf tt (tLst tA) (tLst tB)) (gName i)) u) s p nx ct bk := fun hp σ H D at_ rt n' c b =>
  hc (e0 ▸ hp) σ H _ at_ fun b0 s1 H1 e1 a1 => by
    cases b0 with
    | true =>
      exact h1 s1 σ H1 _ a1 fun vs H2 a2 => by
        have hr := allA_RA (a2.get (v := .non) (A := allA vs (l1.map (av K))) m0)
        have hz' : vs.length ≤ sizeLine := by rw [hr.len, sizeLine_eq]; omega
        exact ⟨hz', fun f hf => hu f l1 s1 (a2.c.old.no hf) e1 _ _ D (((At.pushL a2 hf hz' hr).less d1).set (A := refA f) rfl) rt n' c b⟩
    | false =>
      exact h2 s1 σ H1 _ a1 fun vs H2 a2 => by
        have hr := allA_RA (a2.get (v := .non) (A := allA vs (l2.map (av K))) m0)
        have hz' : vs.length ≤ sizeLine := by rw [hr.len, sizeLine_eq]; omega
        exact ⟨hz', fun f hf => hu f l2 s1 (a2.c.old.no hf) e1 _ _ D (((At.pushL a2 hf hz' hr).less d1).set (A := refA f) rfl) rt n' c b⟩
/-- a comprehension of two fors: lists one behind another -/
def bindK {α γ τ ρ : Type} : Nat → List α → τ → (Nat → α → τ → (List γ → τ → Option ρ) → Option ρ) → (List γ → τ → Option ρ) → Option ρ
  | _, [], s, _, k => k [] s
  | n, x :: xs, s, b, k => b n x s fun ys s' => bindK (n + ys.length) xs s' b fun zs s'' => k (ys ++ zs) s''
/-- the second loop of a comprehension: behind it Nx -/
theorem lc_in {f1 : δ → List (Option AV) → List (Option AV)} {vs1 : List Nat} {J : It} {ds : List δ} {H1 : Hp} {D : Addr} (W : WkR K A J ds) (hg : Tg K g1 is1 f1) (hv : ∀ i ∈ is1, i ∈ vs1) {l0 : List γ}
    (at_ : e.At (D :: S) (accD K D l0 :: N) ts ((.non, A) :: L) s σ H1)
    (I : Nat → List γ → τ → Prop) (h0 : I 0 [] s) (hl0 : l0.length + ds.length ≤ sizeLine) (Nx : Hp → Prop)
    (hs : ∀ L' i x ys s' σ2 H2 (QY : VK), ds[i]? = some x → I i ys s' → e.At (D :: S) (accD K D (l0 ++ ys) :: N) (f1 x (wipeT ts vs1)) L' s' σ2 H2 →
      (∀ a s'' y H4 ts', I (i + 1) (ys ++ [a]) s'' → Rv.R K (D :: S) H4 y a → e.At (D :: S) (accD K D (l0 ++ ys) :: N) ts' L' s'' σ2 H4 → QY y H4) → te σ2 H2 QY)
    (hd : ∀ ys s' H', I ds.length ys s' → e.At (D :: S) (accD K D (l0 ++ ys) :: N) ts L s' σ H' → Nx H') :
    ∃ W1 : Nat → Nat → Hp → Prop, (∃ m, W1 0 m H1) ∧ ∀ j k H, W1 j k H →
      (J.stop j H ∧ Nx H) ∨ (J.go j H ∧ ∃ Nx1 : Hp → Prop, (∀ H', Nx1 H' → ∃ k', k' < k ∧ W1 (j + 1) k' H') ∧ ∀ x H', J.yld j H x H' → g1 x (wipe σ vs1) H' fun σ3 H5 => wipe σ3 vs1 = wipe σ vs1 ∧ tYes σ3 H5 fun b H6 =>
        if b = true then te σ3 H6 fun y H7 => ∃ acc, H7 D = some (.lst acc) ∧ acc.length < sizeLine ∧ Nx1 (upd H7 D (.lst (acc ++ [y]))) else Nx1 H6) := by
  obtain ⟨⟨G, Y, w, hG, hY⟩, hz⟩ := W
  let Pv : Nat → Hp → Prop := fun i H' => ∃ ys s', I i ys s' ∧ ys.length ≤ i ∧ e.At (D :: S) (accD K D (l0 ++ ys) :: N) ts ((.non, slA ts σ) :: (.non, A) :: L) s' σ H'
  refine ⟨fun i m H => m = ds.length - i ∧ i ≤ ds.length ∧ Pv i H, ⟨ds.length, by simp, Nat.zero_le _, ⟨[], s, h0, Nat.le_refl _, by rw [List.append_nil]; exact at_.add (v := .non) (A := slA ts σ) at_.s⟩⟩, ?_⟩
  rintro i m H ⟨rfl, hi, p⟩
  obtain ⟨ys, s', hI, hl, a⟩ := p
  have q : G H := hG _ _ (a.get (v := .non) (A := A) m1)
  by_cases hlt : i < ds.length
  · refine .inr ⟨w.goes i H hlt q, Pv (i + 1), fun H' p' => ⟨ds.length - (i + 1), by omega, rfl, hlt, p'⟩, fun x H' y => ?_⟩
    obtain ⟨k, hr⟩ := hY (D :: S) i H x H' ds[i] (List.getElem?_eq_getElem hlt) (a.get (v := .non) (A := A) m1) a.c.old (w.yields i H x H' hlt q y)
    have a3 := a.pure k
    refine hg (wipe_sl a3.s vs1) hr fun σ2 s2 ch => ⟨wipe_ch ch hv, ?_⟩
    have a4 : e.At (D :: S) (accD K D (l0 ++ ys) :: N) (f1 ds[i] (wipeT ts vs1)) ((.non, slA ts σ) :: (.non, A) :: L) s' σ2 H' := ⟨a3.c, s2⟩
    unfold tYes
    dsimp only
    rw [if_pos rfl]
    refine hs _ i ds[i] ys s' σ2 H' _ (List.getElem?_eq_getElem hlt) hI a4 fun b s3 y H4 ts' hI' hy' a5 => ?_
    have a6 : e.At (D :: S) (accD K D (l0 ++ ys) :: N) ts ((.non, slA ts σ) :: (.non, A) :: L) s3 σ H4 := ⟨a5.c, a5.get (v := .non) (A := slA ts σ) m0⟩
    obtain ⟨acc, h1, h2, h3⟩ := At.app a6 hy' (by rw [List.length_append]; omega)
    rw [List.append_assoc] at h3
    exact ⟨acc, h1, h2, _, s3, hI', by rw [List.length_append]; simp; exact hl, h3⟩
  · have e0 : i = ds.length := by omega
    subst e0
    exact .inl ⟨w.stops H q, hd ys s' H hI (a.less fun f hf => List.mem_cons_of_mem _ (List.mem_cons_of_mem _ hf))⟩
theorem ev_lc2 {f : α → List (Option AV) → List (Option AV)} {f1 : δ → List (Option AV) → List (Option AV)} {vs vs1 : List Nat} {b : Nat → α → τ → (List γ → τ → Option ρ) → Option ρ} {b1 : α → δ → τ → (γ → τ → Option ρ) → Option ρ} {k : List γ → τ → Option ρ}
    (hi : EvI e S N ts wi L s p fun xs s1 => bindK 0 xs s1 b k) (hg : Tg K g is f) (hv : ∀ i ∈ is, i ∈ vs)
    (hi1 : ∀ D M L' n x s1 nx, EvI e (D :: S) (M :: N) (f x (wipeT ts vs)) wi1 L' s1 (b n x s1 nx) fun ds s2 => if n + ds.length ≤ sizeLine then mapK ds s2 (b1 x) nx else none)
    (hg1 : Tg K g1 is1 f1) (hv1 : ∀ i ∈ is1, i ∈ vs1)
    (hb : ∀ D M L' x y s1 nx, Ev e (D :: S) (M :: N) (f1 y (wipeT (f x (wipeT ts vs)) vs1)) te L' s1 (b1 x y s1 nx) nx) : Ev e S N ts (tLc2 wi g tYes wi1 g1 tYes te vs vs1) L s p k := fun hp σ H Q at_ q =>
  hi hp σ H _ at_ fun xs s1 A J H1 e1 W a1 => fun D hD => by
    obtain ⟨⟨G, Y, w, hG, hY⟩, hz⟩ := W
    have nD : D ∉ S := a1.c.old.no hD
    let Pv : Nat → Hp → Prop := fun i H' => ∃ ys s', (bindK ys.length (xs.drop i) s' b fun zs s'' => k (ys ++ zs) s'') = some e.r ∧ e.At (D :: S) (accD K D ys :: N) ts ((.non, slA ts σ) :: (.non, A) :: L) s' σ H'
    refine ⟨fun i m H => m = xs.length - i ∧ i ≤ xs.length ∧ Pv i H, ⟨xs.length, by simp, Nat.zero_le _, ⟨[], s1, by simpa using e1, At.push (a1.add (v := .non) (A := slA ts σ) a1.s) hD⟩⟩, ?_⟩
    rintro i m H ⟨rfl, hi', ys, s', hI, a⟩
    have hq : G H := hG _ _ (a.get (v := .non) (A := A) m1)
    by_cases hlt : i < xs.length
    · refine .inr ⟨w.goes i H hlt hq, Pv (i + 1), fun H' p' => ⟨xs.length - (i + 1), by omega, rfl, hlt, p'⟩, fun x H' y => ?_⟩
      obtain ⟨kk, hr⟩ := hY (D :: S) i H x H' xs[i] (List.getElem?_eq_getElem hlt) (a.get (v := .non) (A := A) m1) a.c.old (w.yields i H x H' hlt hq y)
      have a3 := a.pure kk
      refine hg (wipe_sl a3.s vs) hr fun σ2 s2 ch => ⟨wipe_ch ch hv, ?_⟩
      have a4 : e.At (D :: S) (accD K D ys :: N) (f xs[i] (wipeT ts vs)) ((.non, slA ts σ) :: (.non, A) :: L) s' σ2 H' := ⟨a3.c, s2⟩
      rw [drop_cons (List.getElem?_eq_getElem hlt)] at hI
      unfold bindK at hI
      unfold tYes
      dsimp only
      rw [if_pos rfl]
      refine hi1 _ _ _ _ _ _ _ hI σ2 H' _ a4 fun ds s5 A1 J1 H5 e5 W1 a5 => ?_
      dsimp only at e5
      split at e5
      · rename_i hle
        refine lc_in W1 hg1 hv1 a5 (fun j zs s6 => (mapK (ds.drop j) s6 (b1 xs[i]) fun ws s7 => bindK (ys.length + (zs ++ ws).length) (xs.drop (i + 1)) s7 b fun us s8 => k (ys ++ ((zs ++ ws) ++ us)) s8) = some e.r) (by simpa using e5) hle _ (fun L' j x zs s6 σ3 H6 QY hx hI6 a6 qy => ?_) (fun zs s6 H6 hI6 a6 => ?_)
        · rw [drop_cons hx] at hI6
          refine hb _ _ _ xs[i] x s6 _ hI6 σ3 H6 _ a6 fun v s7 y' H7 e7 a7 => ?_
          refine qy v s7 y' H7 _ ?_ (a7.get m0) (a7.less d1)
          simpa using e7
        · rw [List.drop_length] at hI6
          refine ⟨ys ++ zs, s6, ?_, ⟨a6.c, a6.get (v := .non) (A := slA ts σ) m0⟩⟩
          simpa [mapK] using hI6
      · cases e5
    · have e0 : i = xs.length := by omega
      subst e0
      rw [List.drop_length] at hI
      refine .inl ⟨w.stops H hq, ?_⟩
      have e2 : k ys s' = some e.r := by simpa [bindK] using hI
      exact q ys s' _ H e2 ((At.freeze (σ0 := σ) a nD).less fun f hf => (List.mem_cons.mp hf).elim (fun z => z ▸ m0) fun z => List.mem_cons_of_mem _ (List.mem_cons_of_mem _ (List.mem_cons_of_mem _ z)))
end
end Lx

set_option Elab.async false
set_option linter.all false
set_option maxRecDepth 100000
set_option maxHeartbeats 4000000
/-! displays of values of unlike kinds -/
namespace Lx
open PySem PySem.Spec PyProof.Rows L2 He StX Lw
open Lw.En (enc)
structure Hl (α : Type) where
  v : α
  deriving DecidableEq
section
variable {K : Frag}
instance {As : Type} [Ra K As] : Rv K (Hl As) where
  R := fun S H v a => ∃ p xs, v = .ref p ∧ Fx S H p (.lst xs) ∧ xs.length ≤ sizeLine ∧ AllV S H xs (Ra.avs K a.v)
  keep := fun ⟨p, xs, e, f, z, h⟩ k => ⟨p, xs, e, f.keep k, z, h.keep k⟩
  wid := fun ⟨p, xs, e, f, z, h⟩ w => ⟨p, xs, e, f.wid w, z, h.wid w⟩
end
/-- data one behind another -/
class Pys (As : Type) where
  encs : As → List PyData
  dep : Nat
  eqv : ∀ a b, PyData.eqvAll (encs a) (encs b) = true ↔ a = b
  lay : ∀ a, PyData.canLayAll0 (encs a) = true
  dle : ∀ a, PyData.depthAll (encs a) ≤ dep
instance : Pys Unit := ⟨fun _ => [], 0, fun _ _ => by simp [PyData.eqvAll], fun _ => by simp [PyData.canLayAll0], fun _ => by simp [PyData.depthAll]⟩
instance {α As : Type} [Py α] [Pys As] : Pys (α × As) where
  encs := fun x => enc x.1 :: Pys.encs x.2
  dep := max (Py.dep α) (Pys.dep As)
  eqv := fun a b => by
    simp only [PyData.eqvAll, Bool.and_eq_true, Py.eqv, Pys.eqv]
    exact ⟨fun h => Prod.ext h.1 h.2, fun h => by rw [h]; exact ⟨rfl, rfl⟩⟩
  lay := fun a => by simp [PyData.canLayAll0, Py.lay, Pys.lay]
  dle := fun a => by
    have h1 := Py.dle a.1
    have h2 := Pys.dle a.2
    simp only [PyData.depthAll]
    omega
instance {As : Type} [Pys As] : Py (Hl As) where
  enc := fun a => .list (Pys.encs a.v)
  dep := Pys.dep As + 1
  eqv := fun a b => by
    obtain ⟨a⟩ := a
    obtain ⟨b⟩ := b
    simp only [PyData.eqv, Pys.eqv, Hl.mk.injEq]
  lay := fun a => by simp [PyData.canLay0, Pys.lay]
  dle := fun a => by
    have h := Pys.dle a.v
    simp only [PyData.depth]
    omega
section
variable {K : Frag}
class Dts (K : Frag) (As : Type) [Ra K As] extends Pys As where
  toDp : ∀ {S : List Addr} {H : Hp} {vs : List V} {a : As}, AllV S H vs (Ra.avs K a) → DpAll K H vs (Pys.encs a)
instance : Dts K Unit := ⟨fun {S H vs a} h => by
  cases vs with
  | nil => exact .nil
  | cons v vs => exact h.elim⟩
instance {α As : Type} [Rv K α] [Ra K As] [Dt K α] [Dts K As] : Dts K (α × As) := ⟨fun {S H vs a} h => by
  cases vs with
  | nil => exact h.elim
  | cons v vs =>
    obtain ⟨h1, h2⟩ := h
    exact .cons (Dt.toDp (α := α) h1) (Dts.toDp (As := As) h2)⟩
instance {As : Type} [Ra K As] [Dts K As] : Dt K (Hl As) := ⟨fun ⟨p, xs, e, f, z, h⟩ => by subst e; exact .lst f.sqL (Dts.toDp h)⟩
variable {β τ ρ : Type} [Rv K β] {As : Type} [Ra K As]
variable {e : Env K τ ρ} {S : List Addr} {N : List Mu} {ts : List (Option AV)} {L : List (V × AV)} {s : τ} {p : Option ρ} {tA : TA}
theorem AllV.len' {S : List Addr} {H : Hp} : ∀ {vs : List V} {As : List AV}, AllV S H vs As → vs.length = As.length
  | [], [], _ => rfl
  | v :: vs, A :: As, ⟨_, h⟩ => congrArg (· + 1) (AllV.len' h)
  | [], _ :: _, h => h.elim
  | _ :: _, [], h => h.elim
theorem new_hl {vs : List V} {as : As} {S : List Addr} {H : Hp} {p : Addr} (oS : Old S H) (hn : H p = none) (hz : vs.length ≤ sizeLine) (h : AllV S H vs (Ra.avs K as)) : Rv.R K S (upd H p (.lst vs)) (.ref p) (Hl.mk as) :=
  ⟨p, vs, rfl, ⟨oS.no hn, upd_same⟩, hz, h.keep (.new hn)⟩
theorem pu_hl {as : As} (h : PuA e S N ts tA L as) (hz : (Ra.avs K as).length ≤ 1000) : Pu e S N ts (tLst tA) L (Hl.mk as) := fun s σ H Q at_ q => h s σ H _ at_ fun vs H1 a1 => by
  have hr : AllV S H1 vs (Ra.avs K as) := a1.get (v := .non) (A := allA vs (Ra.avs K as)) m0
  have hz' : vs.length ≤ sizeLine := by rw [hr.len', sizeLine_eq]; omega
  exact ⟨hz', fun p hn => q _ _ (a1.res (L' := [_]) (c := Hl.mk as) (.new hn) (new_hl a1.c.old hn hz' hr))⟩
theorem ev_hl {k : Hl As → τ → Option ρ} (h : EvA e S N ts tA L s p fun as s1 => k (Hl.mk as) s1) (hz : ∀ as : As, (Ra.avs K as).length ≤ 1000) : Ev e S N ts (tLst tA) L s p k := fun hp σ H Q at_ q => h hp σ H _ at_ fun as s1 vs H1 e1 a1 => by
  have hr : AllV S H1 vs (Ra.avs K as) := a1.get (v := .non) (A := allA vs (Ra.avs K as)) m0
  have hz' : vs.length ≤ sizeLine := by rw [hr.len', sizeLine_eq]; have := hz as; omega
  exact ⟨hz', fun p hn => q _ _ _ _ e1 (a1.res (L' := [_]) (c := Hl.mk as) (.new hn) (new_hl a1.c.old hn hz' hr))⟩
end
end Lx

set_option Elab.async false
set_option linter.all false
set_option maxRecDepth 100000
set_option maxHeartbeats 4000000
/-! min of a pair, a list so many times, a comprehension whose list is changed, a place that is set -/
namespace L2
open PySem PySem.Spec PyProof.Rows
section
variable {prog : Program} {w : World} {A : Around} {E : Value → Shared → Prop} {s : Shared} {l : Addr} {its : List Value} {ns : List Int} {Q : Value → Shared → Prop}
theorem min_tupRaw (hh : A.handled = none) (hl : s.heap.IsTuple l its.toArray) (hi : IntsAre its ns) (hne : 0 < ns.length)
    (h : ∀ h' tk M t', (∀ b o, s.heap.get? b = some o → h'.get? b = some o) → M ∈ ns → (∀ a, a ∈ ns → M ≤ a) → Q (.int M t') { s with heap := h', toks := tk }) : wpAny (model prog w) A (call (.builtin "min") [.ref l]) Q E s := by
  obtain ⟨xs, e⟩ := hi.allInts.items
  have hn : numsOf (intItems xs).toList = ns := by rw [← e]; exact hi.numsOf
  rw [nums_intItems] at hn
  subst hn
  rw [e] at hl
  have hsz : 0 < xs.size := by simpa using hne
  have hlt : l < s.heap.objs.size := by obtain ⟨_, e, _⟩ := hl; exact Heap.lt_size e
  have key : ∀ v h' tk, (intItems xs)[argBest (fun i j => decide (numAt xs i < numAt xs j)) (xs.size - 1)]? = some v → (∀ b o, s.heap.get? b = some o → h'.get? b = some o) → Q v { s with heap := h', toks := tk } := fun v h' tk hv hk => by
    obtain ⟨t, rfl⟩ := intItems_at hv
    obtain ⟨h1, h2⟩ := argBest_lt (numAt xs) (xs.size - 1)
    refine h h' tk _ t hk ?_ fun a ha => ?_
    · rw [numAt_eq]; exact PySem.getD_mem (by rw [List.length_map, Array.length_toList]; omega)
    · obtain ⟨j, hj, rfl⟩ := mem_getD ha
      rw [List.length_map, Array.length_toList] at hj
      rw [← numAt_eq]; exact h2 j (by omega)
  refine call_min_walk (wpAny_pyIter_tuple hl ?_)
  refine ⟨_, _, _, _, _, _, _, rfl, Walks.tuple (A := A.in1) hh _ l (Nat.ne_of_lt hlt) (intItems xs), ⟨⟨_, Heap.get?_push_size _ rfl, rfl, rfl⟩, hl.push _⟩, ?_, by simpa [intItems] using hsz, CmpOf.ints_lt (numAt xs) (fun _ _ => intItems_at), fun v h' tk hP hk => ?_⟩
  · intro b hb
    show b < (s.heap.push _).objs.size
    rw [Heap.size_push]
    rcases List.mem_cons.mp hb with rfl | hb
    · exact Nat.lt_succ_self _
    · rcases List.mem_cons.mp hb with rfl | hb
      · exact Nat.lt_succ_of_lt hlt
      · cases hb
  · refine key v h' tk (by simpa [intItems] using hP) fun b o e => hk b o (fun hm => ?_) (Heap.get?_push_of_some _ e)
    rcases List.mem_cons.mp hm with e1 | hm
    · exact absurd (e1 ▸ Heap.lt_size e) (Nat.lt_irrefl _)
    · cases hm
end
section
variable {X : Cx}
def rMinT (K : PySem.W.Frag) : List V → Hp → VK → Prop := fun vs H Q => ∃ (a : Addr) (ns : List Int), vs = [V.ref a] ∧ SqT K H a (ns.map V.int) ∧ 0 < ns.length ∧ ∀ m, m ∈ ns → (∀ y, y ∈ ns → m ≤ y) → Q (.int m) H
theorem cr_minT (hc : X.calm = true) : CallR X (.builtin "min") (rMinT X.K) := by
  intro pins s σ H vs us Q I r h
  obtain ⟨a, ns, rfl, hs, hne, q⟩ := h
  obtain ⟨its, rv, hl, _⟩ := I.tuple hs
  rw [Vals.ref1 r]
  exact min_tupRaw (I.ok.hd hc) (show s.heap.IsTuple a its.toArray from hl) (ints_of_vals rv) hne fun h' tk m t' hk h1 h2 => ⟨.int _, H, I.kept hk, ⟨_, rfl⟩, q m h1 h2⟩
end
end L2
namespace Lx
open PySem PySem.Spec PyProof.Rows L2 He StX Lw
section
variable {K : Frag} {β τ ρ α γ δ ς : Type} [Rv K β] [Rv K α] [Rv K γ] [Rv K δ]
variable {e : Env K τ ρ} {S : List Addr} {N : List Mu} {ts ts' : List (Option AV)} {L L' : List (V × AV)} {s : τ} {σ : L2.St} {H H' : Hp} {v : V} {A : AV}
variable {te ta tb tc : TE} {tt tu : TT} {t u t1 t2 : TS} {r r' : R2} {b c : Bool} {p : Option ρ} {wi wi1 : TI} {g g1 : TG} {nx ct bk : L2.St → Hp → Prop} {is is1 : List Nat}
theorem o_minP : Op1 K (fun x => rMinT K [x]) C1 (fun a : Int × Int => min a.1 a.2) := fun S H x a Q _ ha _ q => by
  obtain ⟨p, x1, x2, rfl, f, h1, h2⟩ := ha
  cases (show x1 = V.int a.1 from h1)
  cases (show x2 = V.int a.2 from h2)
  refine ⟨p, [a.1, a.2], rfl, f.sqT, by simp, fun m hm hle => q _ H .refl ?_⟩
  show V.int m = V.int (min a.1 a.2)
  congr 1
  have l1 := hle a.1 (by simp)
  have l2 := hle a.2 (by simp)
  simp only [List.mem_cons, List.not_mem_nil, or_false] at hm
  omega
theorem RA.rep {r : V → α → Prop} {xs : List V} {as : List α} (h : RA r xs as) : ∀ n : Nat, RA r (List.replicate n xs).flatten (List.replicate n as).flatten
  | 0 => by simp [RA]
  | n + 1 => by
    simp only [List.replicate_succ, List.flatten_cons]
    exact h.app (RA.rep h n)
def RepB {α : Type} (l : List α) (n : Int) : Prop := 0 ≤ n ∧ n < 2 ^ 62 ∧ l.length * n.toNat ≤ sizeLine
instance {α : Type} (l : List α) (n : Int) : Decidable (RepB l n) := inferInstanceAs (Decidable (_ ∧ _))
theorem flat_len {β : Type} (xs : List β) (n : Nat) : (List.replicate n xs).flatten.length = xs.length * n := by
  induction n with
  | zero => simp
  | succ n ih => rw [List.replicate_succ, List.flatten_cons, List.length_append, ih, Nat.mul_succ]; omega
theorem o_rep : Op2 K rRep (fun (l : List α) (n : Int) => RepB l n) (fun l n => (List.replicate n.toNat l).flatten) := fun S H x y l n Q oS ha hb hc q => by
  obtain ⟨p, xs, rfl, f, z, h⟩ := ha
  cases hb
  obtain ⟨h0, h1, h2⟩ := hc
  have hz : xs.length * n.toNat ≤ sizeLine := by rw [h.len]; exact h2
  refine ⟨p, n, xs, rfl, rfl, f.2, by omega, by omega, hz, fun p hn => q _ _ (.new hn) (new_lst oS hn ?_ (h.rep _))⟩
  rw [flat_len]
  exact hz
theorem sv_newLc {i : Nat} {f : α → List (Option AV) → List (Option AV)} {vs : List Nat} {h : α → γ} (k : List γ → τ → Option ρ) {p0 : Option ρ} (hi : EvI e S N ts wi L s p0 fun xs s1 => k (xs.map h) s1) (hg : Tg K g is f) (hv : ∀ i ∈ is, i ∈ vs) (hb : ∀ D M L' x, Pu e (D :: S) (M :: N) (f x (wipeT ts vs)) te L' (h x))
    (hu : ∀ f l s1, f ∉ S → Sv e (f :: S) (accD K f l :: N) (ts.set i (some (refA f))) L u s1 (k l s1) nx ct bk) (e0 : p = p0) : Sv e S N ts L (tSeq (tAsg (tLc wi g tYes te vs) (gName i)) u) s p nx ct bk := fun hp σ H DD at_ rt n c b =>
  hi (e0 ▸ hp) σ H _ at_ fun xs s1 A J H1 e1 W a1 => fun D hD => by
    obtain ⟨⟨G, Y, w, hG, hY⟩, hz⟩ := W
    have nD : D ∉ S := a1.c.old.no hD
    refine lc_it w (fun i H' => e.At (D :: S) (accD K D ((xs.take i).map h) :: N) ts ((.non, slA ts σ) :: (.non, A) :: L) s1 σ H') ?_ ?_ ?_ ?_
    · exact At.push (a1.add (v := .non) (A := slA ts σ) a1.s) hD
    · intro i H' _ a
      exact hG _ _ (a.get (v := .non) (A := A) m1)
    · intro i x H2 H3 hi' a hy
      obtain ⟨kk, hr⟩ := hY (D :: S) i H2 x H3 xs[i] (List.getElem?_eq_getElem hi') (a.get (v := .non) (A := A) m1) a.c.old hy
      have a3 := a.pure kk
      refine hg (wipe_sl a3.s vs) hr fun σ2 s2 ch => ⟨wipe_ch ch hv, ?_⟩
      have a4 : e.At (D :: S) (accD K D ((xs.take i).map h) :: N) (f xs[i] (wipeT ts vs)) ((.non, slA ts σ) :: (.non, A) :: L) s1 σ2 H3 := ⟨a3.c, s2⟩
      unfold tYes
      dsimp only
      rw [if_pos rfl]
      refine hb D _ _ xs[i] s1 σ2 H3 _ a4 fun y H4 a5 => ?_
      have a6 : e.At (D :: S) (accD K D ((xs.take i).map h) :: N) ts ((y, av K (h xs[i])) :: (.non, slA ts σ) :: (.non, A) :: L) s1 σ H4 := ⟨a5.c, a5.get (v := .non) (A := slA ts σ) m1⟩
      obtain ⟨acc, h1, h2, h3⟩ := At.app a6 (a5.get m0) (by rw [List.length_map, List.length_take]; omega)
      refine ⟨acc, h1, h2, ?_⟩
      rw [take_snoc (List.getElem?_eq_getElem hi'), List.map_append]
      exact h3.less fun f hf => List.mem_cons_of_mem _ hf
    · intro H' a
      rw [List.take_length] at a
      exact hu D _ s1 nD e1 _ _ DD ((a.less fun f hf => List.mem_cons_of_mem _ (List.mem_cons_of_mem _ hf)).set (A := refA D) rfl) rt n c b
theorem sv_setK {i j : Nat} {f : Addr} {l : List γ} {k1 : γ → τ → Option ρ} (k : γ → Nat → τ → Option ρ) {p0 : Option ρ} (hi : ts[i]? = some (some (refA f))) (hj : N[j]? = some (accD K f l)) (h : Ev e S N ts te L s p0 k1)
    (h2 : ∀ a s1 v, Ev e S N ts tb ((v, av K a) :: L) s1 (k1 a s1) fun (n : Int) s2 => (ixN l.length n).bind fun m => k a m s2) (hu : ∀ a m s1, Sv e S (N.set j (accD K f (l.set m a))) ts L u s1 (k a m s1) nx ct bk) (e0 : p = p0) :
    Sv e S N ts L (tSeq (tAsg te (gSub (tVar i) tb rSetL)) u) s p nx ct bk := fun hp σ H D at_ rt n c b => by
  refine h (e0 ▸ hp) σ H _ at_ fun a s1 y H1 e1 a1 => ?_
  obtain ⟨hx, _⟩ := at_live hi hj a1
  refine ⟨.ref f, hx, h2 a s1 y e1 σ H1 _ a1 fun m s2 z H2 e2 a2 => ?_⟩
  cases (show z = V.int m from a2.get (A := av K m) m0)
  obtain ⟨w, hw, e3⟩ := Option.bind_eq_some_iff.mp e2
  have hjm : (N ++ e.m s2)[j]? = some (accD K f l) := by rw [List.getElem?_append_left (List.getElem?_eq_some_iff.mp hj).1]; exact hj
  obtain ⟨c1, ⟨xs, ex, hz, hr⟩, c3, c4⟩ := a2.c.mu _ (List.mem_of_getElem? hjm)
  refine ⟨f, xs, m, w, rfl, rfl, ex, by rw [hr.len]; exact hw, ?_⟩
  have kk : Kp [f] H2 (upd H2 f (.lst (xs.set w y))) := .mut (List.mem_singleton_self f)
  have kS : Kp S H2 (upd H2 f (.lst (xs.set w y))) := .mut c1
  have hy : Rv.R K S H2 y a := a2.get m1
  have c2 := a2.c.eff (i := j) (m := accD K f l) (m' := accD K f (l.set w a)) hjm kk ⟨_, upd_same⟩ rfl rfl ⟨_, upd_same, by rw [List.length_set]; exact hz, (hr.set w hy).imp fun _ _ z => Rv.keep z kS⟩
  rw [List.set_append_left _ _ (List.getElem?_eq_some_iff.mp hj).1] at c2
  exact hu a w s2 e3 σ _ D ⟨c2.less (fun f hf => List.mem_cons_of_mem _ (List.mem_cons_of_mem _ hf)), a2.s.keep kS⟩ rt n c b
end
end Lx

set_option Elab.async false
set_option linter.all false
set_option maxRecDepth 100000
set_option maxHeartbeats 4000000
/-! enumerate over a zip of two lists -/
namespace PySem
open Sem (wp)
abbrev IsZipB (h : Heap) (z TI TO : Addr) (f0 : Value) (b : Bool) : Prop :=
  h.get? z = some { cls := .type "zip", dict := none, data := .fields #[f0, .bool b, .bool false, .ref TI, .ref TO], slots := #[] }
/-- nothing handed out, or the tuple at some place -/
def Hd0 (f : Value) : Prop := f = .none ∨ ∃ n t, f = .int n t
section
variable {prog : Program} {w : World} {A : Around} {E : Value → Shared → Prop} {s : Shared}
theorem wpAny_alive {a : Addr} {Q : Option Obj → Shared → Prop} (h : Q (s.heap.get? a) s) : wpAny (model prog w) A (loadIfAlive a) Q E s := fun Γ p _ => by
  unfold loadIfAlive
  rw [wp]
  exact h
theorem owned_free {z TI TO : Addr} {f0 : Value} {b : Bool} (hz : IsZipB s.heap z TI TO f0 b) (hf : Hd0 f0) {Q : Bool → Shared → Prop} (h1 : Q true s)
    (h2 : ∀ h', IsZipB h' z TI TO f0 true → Heap.SameBut z s.heap h' → Q false { s with heap := h' }) : wpAny (model prog w) A (Builtin.SmallTypes.ownedTupleIsFree (.ref z)) Q E s := by
  unfold Builtin.SmallTypes.ownedTupleIsFree
  rcases hf with rfl | ⟨n, t, rfl⟩
  · refine wpAny_bind (wpAny_field hz rfl (x := .none) rfl ?_)
    exact wpAny_pure h1
  · refine wpAny_bind (wpAny_field hz rfl (x := .int n t) rfl ?_)
    show wpAny _ _ (loadIfAlive n.toNat >>= _) _ _ _
    refine wpAny_bind (wpAny_alive ?_)
    cases s.heap.get? n.toNat with
    | none => exact wpAny_pure h1
    | some o =>
      show wpAny _ _ (field (.ref z) 1 >>= _) _ _ _
      refine wpAny_bind (wpAny_field hz rfl (x := .bool b) rfl ?_)
      cases b with
      | true => exact wpAny_pure (h2 s.heap hz ⟨rfl, fun _ _ => rfl⟩)
      | false =>
        show wpAny _ _ (setField (.ref z) 1 (.bool true) >>= _) _ _ _
        refine wpAny_bind (wpAny_setField_rec hz (by simp) fun h' hz' hs' => wpAny_pure (h2 h' hz' hs'))
theorem zip_next_any {z TI TO i1 i2 l1 l2 : Addr} {k1 k2 : Nat} {xs ys : Array Value} {x y a b f0 : Value} {fb : Bool} {Q : Value → Shared → Prop} (D : ZipApart z TI TO i1 i2 l1 l2)
    (hz : IsZipB s.heap z TI TO f0 fb) (hf : Hd0 f0) (hTI : IsPair s.heap TI (.ref i1) (.ref i2)) (hTO : IsPair s.heap TO a b)
    (h1 : s.heap.IsListIter i1 l1 k1) (h2 : s.heap.IsListIter i2 l2 k2) (hl1 : s.heap.IsList l1 xs) (hl2 : s.heap.IsList l2 ys) (hx : xs[k1]? = some x) (hy : ys[k2]? = some y)
    (hQ : ∀ h', (∃ f b, IsZipB h' z TI TO f b ∧ Hd0 f) → (∃ a b, IsPair h' TO a b) → h'.IsListIter i1 l1 (k1 + 1) → h'.IsListIter i2 l2 (k2 + 1) → IsPair h' s.heap.objs.size x y → h'.objs.size = s.heap.objs.size + 1 →
      (∀ c o, c ≠ z → c ≠ TO → c ≠ i1 → c ≠ i2 → s.heap.get? c = some o → h'.get? c = some o) → Q (.ref s.heap.objs.size) { s with heap := h' }) :
    wpAny (model prog w) A (Builtin.«zip.__next__» ⟨[.ref z], []⟩) (fun fin s' => ∃ v, fin = .done (.ret v) ∧ Q v s') E s := by
  show wpAny _ _ (field (.ref z) 2 >>= _) _ _ _
  refine wpAny_bind (wpAny_field hz rfl (x := .bool false) rfl ?_)
  show wpAny _ _ (field (.ref z) 3 >>= _) _ _ _
  refine wpAny_bind (wpAny_field hz rfl (x := .ref TI) rfl ?_)
  refine wpAny_bind (wpAny_seqItems hTI rfl ?_)
  show wpAny _ _ (Builtin.SmallTypes.ownedTupleIsFree (.ref z) >>= _) _ _ _
  refine wpAny_bind (owned_free hz hf ?_ fun h₀ hz₀ hs₀ => ?_)
  · simp only [if_true]
    refine wpAny_bind (wpAny_rule ?_)
    refine wpAny_bind (wpAny_field hz rfl (x := .ref TO) rfl ?_)
    refine wpAny_bind (wpAny_setField_rec hz (by simp) fun h₁ hz₁ hs₁ => ?_)
    replace hz₁ : IsZipB h₁ z TI TO .ellipsis fb := hz₁
    refine wpAny_bind ?_
    simp only [List.zipIdx_cons, List.zipIdx_nil, List.forIn_cons, List.forIn_nil]
    refine wpAny_bind (wpAny_bind (wpAny_onRaise ?_))
    show wpAny _ _ (Builtin.SmallTypes.nextOf (.ref i1) >>= _) _ _ _
    refine wpAny_bind (wpAny_nextOf_list_item (h1.extBut hs₁.extBut D.i1z) (hl1.extBut hs₁.extBut D.l1z) hx fun h₂ h1₂ hs₂ => wpAny_pure ?_)
    have hTO₂ : IsPair h₂ TO a b := hs₂.extBut _ _ D.TOi1 (hs₁.extBut _ _ D.TOz hTO)
    refine wpAny_bind (wpAny_seqItems hTO₂ rfl ?_)
    refine wpAny_bind (wpAny_updateSeq_pair hTO₂ fun h₃ hTO₃ hs₃ => ?_)
    replace hTO₃ : IsPair h₃ TO x b := hTO₃
    refine wpAny_bind (wpAny_letGo (wpAny_pure ?_))
    refine wpAny_bind (wpAny_bind (wpAny_onRaise ?_))
    show wpAny _ _ (Builtin.SmallTypes.nextOf (.ref i2) >>= _) _ _ _
    refine wpAny_bind (wpAny_nextOf_list_item (((h2.extBut hs₁.extBut D.i2z).extBut hs₂.extBut D.i12.symm).extBut hs₃.extBut D.TOi2.symm)
      (((hl2.extBut hs₁.extBut D.l2z).extBut hs₂.extBut D.l2i1).extBut hs₃.extBut D.l2TO) hy fun h₄ h2₄ hs₄ => wpAny_pure ?_)
    have hTO₄ : IsPair h₄ TO x b := hs₄.extBut _ _ D.TOi2 hTO₃
    refine wpAny_bind (wpAny_seqItems hTO₄ rfl ?_)
    refine wpAny_bind (wpAny_updateSeq_pair hTO₄ fun h₅ hTO₅ hs₅ => ?_)
    replace hTO₅ : IsPair h₅ TO x y := hTO₅
    refine wpAny_bind (wpAny_letGo (wpAny_pure (wpAny_pure ?_)))
    refine wpAny_bind (wpAny_seqItems hTO₅ rfl ?_)
    refine wpAny_bind (wpAny_newTuple ?_)
    have hsz : h₅.objs.size = s.heap.objs.size := by rw [hs₅.1, hs₄.1, hs₃.1, hs₂.1, hs₁.1]
    have hz₅ : IsZipB h₅ z TI TO .ellipsis fb := hs₅.extBut _ _ D.TOz.symm (hs₄.extBut _ _ D.i2z.symm (hs₃.extBut _ _ D.TOz.symm (hs₂.extBut _ _ D.i1z.symm hz₁)))
    have hk₅ : ∀ c o, c ≠ z → c ≠ TO → c ≠ i1 → c ≠ i2 → s.heap.get? c = some o → h₅.get? c = some o := fun c o c1 c2 c3 c4 e =>
      hs₅.extBut _ _ c2 (hs₄.extBut _ _ c4 (hs₃.extBut _ _ c2 (hs₂.extBut _ _ c3 (hs₁.extBut _ _ c1 e))))
    have h1₅ : h₅.IsListIter i1 l1 (k1 + 1) := ((h1₂.extBut hs₃.extBut D.TOi1.symm).extBut hs₄.extBut D.i12).extBut hs₅.extBut D.TOi1.symm
    have h2₅ : h₅.IsListIter i2 l2 (k2 + 1) := h2₄.extBut hs₅.extBut D.TOi2.symm
    have hzlt : z < h₅.objs.size := Heap.lt_size hz₅
    show wpAny _ _ (Builtin.SmallTypes.ownedTupleHandOut (.ref z) (.ref h₅.objs.size) >>= _) _ _ _
    refine wpAny_bind ?_
    unfold Builtin.SmallTypes.ownedTupleHandOut
    have hz₆ : IsZipB (h₅.push { cls := .type "tuple", data := .seq #[x, y] }) z TI TO .ellipsis fb := Heap.get?_push_of_some _ hz₅
    refine wpAny_bind (wpAny_setField_rec hz₆ (by simp) fun h₇ hz₇ hs₇ => ?_)
    replace hz₇ : IsZipB h₇ z TI TO (rawInt h₅.objs.size) fb := hz₇
    refine wpAny_setField_rec hz₇ (by simp) fun h₈ hz₈ hs₈ => ?_
    replace hz₈ : IsZipB h₈ z TI TO (rawInt h₅.objs.size) false := hz₈
    have up : ∀ c o, c ≠ z → h₅.get? c = some o → h₈.get? c = some o := fun c o c1 e => hs₈.extBut _ _ c1 (hs₇.extBut _ _ c1 (Heap.get?_push_of_some _ e))
    have hT₈ : IsPair h₈ h₅.objs.size x y := hs₈.extBut _ _ (Nat.ne_of_gt hzlt) (hs₇.extBut _ _ (Nat.ne_of_gt hzlt) (Heap.get?_push_size _ rfl))
    have hz8 : h₈.objs.size = h₅.objs.size + 1 := by rw [hs₈.1, hs₇.1, Heap.size_push]
    rw [hsz] at hz₈ hT₈ hz8
    refine wpAny_pure ⟨_, rfl, ?_⟩
    show Q (.ref h₅.objs.size) _
    rw [hsz]
    exact hQ h₈ ⟨_, _, hz₈, .inr ⟨_, _, rfl⟩⟩ ⟨_, _, up _ _ D.TOz hTO₅⟩ (h1₅.at fun o e => up _ o D.i1z e) (h2₅.at fun o e => up _ o D.i2z e) hT₈ hz8 fun c o c1 c2 c3 c4 e => up c o c1 (hk₅ c o c1 c2 c3 c4 e)
  · simp only [Bool.false_eq_true, if_false]
    simp only [List.forIn_toArray, List.forIn_cons, List.forIn_nil]
    refine wpAny_bind (wpAny_bind (wpAny_bind (wpAny_holding ?_)))
    show wpAny _ _ (Builtin.SmallTypes.nextOf (.ref i1) >>= _) _ _ _
    refine wpAny_bind (wpAny_nextOf_list_item (h1.extBut hs₀.extBut D.i1z) (hl1.extBut hs₀.extBut D.l1z) hx fun h₂ h1₂ hs₂ => wpAny_pure ?_)
    refine wpAny_pure ?_
    refine wpAny_bind (wpAny_bind (wpAny_holding ?_))
    show wpAny _ _ (Builtin.SmallTypes.nextOf (.ref i2) >>= _) _ _ _
    refine wpAny_bind (wpAny_nextOf_list_item ((h2.extBut hs₀.extBut D.i2z).extBut hs₂.extBut D.i12.symm) ((hl2.extBut hs₀.extBut D.l2z).extBut hs₂.extBut D.l2i1) hy fun h₄ h2₄ hs₄ => wpAny_pure ?_)
    refine wpAny_pure (wpAny_pure ?_)
    show wpAny _ _ (newTuple [x, y] >>= _) _ _ _
    refine wpAny_bind (wpAny_newTuple (wpAny_pure ⟨_, rfl, ?_⟩))
    have hsz : h₄.objs.size = s.heap.objs.size := by rw [hs₄.1, hs₂.1, hs₀.1]
    have hk : ∀ c o, c ≠ z → c ≠ i1 → c ≠ i2 → s.heap.get? c = some o → h₄.get? c = some o := fun c o c1 c3 c4 e => hs₄.extBut _ _ c4 (hs₂.extBut _ _ c3 (hs₀.extBut _ _ c1 e))
    have hz₄ : IsZipB h₄ z TI TO f0 true := hs₄.extBut _ _ D.i2z.symm (hs₂.extBut _ _ D.i1z.symm hz₀)
    have h1₄ : h₄.IsListIter i1 l1 (k1 + 1) := h1₂.extBut hs₄.extBut D.i12
    have up : ∀ c o, h₄.get? c = some o → (h₄.push { cls := .type "tuple", data := .seq #[x, y] }).get? c = some o := fun c o e => Heap.get?_push_of_some _ e
    show Q (.ref h₄.objs.size) _
    rw [hsz]
    refine hQ _ ⟨_, _, up _ _ hz₄, hf⟩ ⟨a, b, up _ _ (hk _ _ D.TOz D.TOi1 D.TOi2 hTO)⟩ (h1₄.at fun o e => up _ o e) (h2₄.at fun o e => up _ o e) ?_ ?_ fun c o c1 c2 c3 c4 e => up _ _ (hk c o c1 c3 c4 e)
    · have := Heap.get?_push_size h₄ (o := { cls := .type "tuple", data := .seq #[x, y] }) rfl
      rw [hsz] at this
      exact this
    · rw [Heap.size_push, hsz]
theorem zip_end_any {z TI TO i1 i2 l1 l2 : Addr} {k1 k2 : Nat} {xs ys : Array Value} {a b f0 : Value} {fb : Bool} {Q : Fin → Shared → Prop} (hh : A.handled = none) (D : ZipApart z TI TO i1 i2 l1 l2)
    (hz : IsZipB s.heap z TI TO f0 fb) (hf : Hd0 f0) (hTI : IsPair s.heap TI (.ref i1) (.ref i2)) (hTO : IsPair s.heap TO a b)
    (h1 : s.heap.IsListIter i1 l1 k1) (h2 : s.heap.IsListIter i2 l2 k2) (hl1 : s.heap.IsList l1 xs) (hl2 : s.heap.IsList l2 ys) (hend : xs[k1]? = none ∨ ys[k2]? = none)
    (hE : ∀ h' e, (∀ c o, c ≠ z → c ≠ TO → c ≠ i1 → c ≠ i2 → s.heap.get? c = some o → h'.get? c = some o) → (∃ o, h'.get? e = some o ∧ o.cls = .type "StopIteration") → E (.ref e) { s with heap := h' }) :
    wpAny (model prog w) A (Builtin.«zip.__next__» ⟨[.ref z], []⟩) Q E s := by
  show wpAny _ _ (field (.ref z) 2 >>= _) _ _ _
  refine wpAny_bind (wpAny_field hz rfl (x := .bool false) rfl ?_)
  show wpAny _ _ (field (.ref z) 3 >>= _) _ _ _
  refine wpAny_bind (wpAny_field hz rfl (x := .ref TI) rfl ?_)
  refine wpAny_bind (wpAny_seqItems hTI rfl ?_)
  show wpAny _ _ (Builtin.SmallTypes.ownedTupleIsFree (.ref z) >>= _) _ _ _
  refine wpAny_bind (owned_free hz hf ?_ fun h₀ hz₀ hs₀ => ?_)
  · simp only [if_true]
    refine wpAny_bind (wpAny_rule ?_)
    refine wpAny_bind (wpAny_field hz rfl (x := .ref TO) rfl ?_)
    refine wpAny_bind (wpAny_setField_rec hz (by simp) fun h₁ hz₁ hs₁ => ?_)
    replace hz₁ : IsZipB h₁ z TI TO .ellipsis fb := hz₁
    refine wpAny_bind ?_
    simp only [List.zipIdx_cons, List.zipIdx_nil, List.forIn_cons, List.forIn_nil]
    refine wpAny_bind (wpAny_bind (wpAny_onRaise ?_))
    show wpAny _ _ (Builtin.SmallTypes.nextOf (.ref i1) >>= _) _ _ _
    cases hx : xs[k1]? with
    | none =>
      refine wpAny_bind (wpAny_nextOf_list_end hh (h1.extBut hs₁.extBut D.i1z) (hl1.extBut hs₁.extBut D.l1z) hx fun h₂ e hs₂ he => ?_)
      obtain ⟨oe, hoe, hce⟩ := he
      have hz₂ : IsZipB h₂ z TI TO .ellipsis fb := hs₂ _ _ D.i1z.symm hz₁
      have hez : e ≠ z := fun x => by subst x; rw [hz₂] at hoe; cases hoe; simp at hce
      refine wpAny_setField_rec hz₂ (by simp) fun h₃ _ hs₃ => hE h₃ e (fun c o c1 _ c3 _ x => hs₃.extBut _ _ c1 (hs₂ _ _ c3 (hs₁.extBut _ _ c1 x))) ⟨oe, hs₃.extBut _ _ hez hoe, hce⟩
    | some x =>
      have hy : ys[k2]? = none := by rcases hend with h | h; rw [hx] at h; cases h; exact h
      refine wpAny_bind (wpAny_nextOf_list_item (h1.extBut hs₁.extBut D.i1z) (hl1.extBut hs₁.extBut D.l1z) hx fun h₂ h1₂ hs₂ => wpAny_pure ?_)
      have hTO₂ : IsPair h₂ TO a b := hs₂.extBut _ _ D.TOi1 (hs₁.extBut _ _ D.TOz hTO)
      refine wpAny_bind (wpAny_seqItems hTO₂ rfl ?_)
      refine wpAny_bind (wpAny_updateSeq_pair hTO₂ fun h₃ hTO₃ hs₃ => ?_)
      refine wpAny_bind (wpAny_letGo (wpAny_pure ?_))
      refine wpAny_bind (wpAny_bind (wpAny_onRaise ?_))
      show wpAny _ _ (Builtin.SmallTypes.nextOf (.ref i2) >>= _) _ _ _
      refine wpAny_bind (wpAny_nextOf_list_end hh (((h2.extBut hs₁.extBut D.i2z).extBut hs₂.extBut D.i12.symm).extBut hs₃.extBut D.TOi2.symm)
        (((hl2.extBut hs₁.extBut D.l2z).extBut hs₂.extBut D.l2i1).extBut hs₃.extBut D.l2TO) hy fun h₄ e hs₄ he => ?_)
      obtain ⟨oe, hoe, hce⟩ := he
      have hz₄ : IsZipB h₄ z TI TO .ellipsis fb := hs₄ _ _ D.i2z.symm (hs₃.extBut _ _ D.TOz.symm (hs₂.extBut _ _ D.i1z.symm hz₁))
      have hez : e ≠ z := fun x => by subst x; rw [hz₄] at hoe; cases hoe; simp at hce
      refine wpAny_setField_rec hz₄ (by simp) fun h₅ _ hs₅ => hE h₅ e (fun c o c1 c2 c3 c4 x => hs₅.extBut _ _ c1 (hs₄ _ _ c4 (hs₃.extBut _ _ c2 (hs₂.extBut _ _ c3 (hs₁.extBut _ _ c1 x))))) ⟨oe, hs₅.extBut _ _ hez hoe, hce⟩
  · simp only [Bool.false_eq_true, if_false]
    simp only [List.forIn_toArray, List.forIn_cons, List.forIn_nil]
    refine wpAny_bind (wpAny_bind (wpAny_bind (wpAny_holding ?_)))
    show wpAny _ _ (Builtin.SmallTypes.nextOf (.ref i1) >>= _) _ _ _
    cases hx : xs[k1]? with
    | none =>
      refine wpAny_bind (wpAny_nextOf_list_end hh (h1.extBut hs₀.extBut D.i1z) (hl1.extBut hs₀.extBut D.l1z) hx fun h₂ e hs₂ he => ?_)
      exact hE h₂ e (fun c o c1 _ c3 _ x => hs₂ _ _ c3 (hs₀.extBut _ _ c1 x)) he
    | some x =>
      have hy : ys[k2]? = none := by rcases hend with h | h; rw [hx] at h; cases h; exact h
      refine wpAny_bind (wpAny_nextOf_list_item (h1.extBut hs₀.extBut D.i1z) (hl1.extBut hs₀.extBut D.l1z) hx fun h₂ h1₂ hs₂ => wpAny_pure ?_)
      refine wpAny_pure ?_
      refine wpAny_bind (wpAny_bind (wpAny_holding ?_))
      show wpAny _ _ (Builtin.SmallTypes.nextOf (.ref i2) >>= _) _ _ _
      refine wpAny_bind (wpAny_nextOf_list_end hh ((h2.extBut hs₀.extBut D.i2z).extBut hs₂.extBut D.i12.symm) ((hl2.extBut hs₀.extBut D.l2z).extBut hs₂.extBut D.l2i1) hy fun h₄ e hs₄ he => ?_)
      exact hE h₄ e (fun c o c1 _ c3 c4 x => hs₄ _ _ c4 (hs₂.extBut _ _ c3 (hs₀.extBut _ _ c1 x))) he
/-- what the next thing of an iterator is that hands out new tuples -/
structure DrawsN (prog : Program) (w : World) (A : Around) (it : Addr) (fp ch : List Addr) (P : Nat → List Value → Prop) (St : Nat → Heap → Prop) (Go Stop : Nat → Prop) : Prop where
  live : ∀ i h, St i h → ∃ o, h.get? it = some o
  frame : ∀ i h h', St i h → (∀ b ∈ fp, ∀ o, h.get? b = some o → h'.get? b = some o) → St i h'
  item : ∀ i (s : Shared) (Q : Value → Shared → Prop) (E : Value → Shared → Prop), St i s.heap → Go i →
    (∀ vs h', P i vs → St (i + 1) h' → h'.get? s.heap.objs.size = some { cls := .type "tuple", data := .seq vs.toArray } → h'.objs.size = s.heap.objs.size + 1 → (∀ b o, b ∉ ch → s.heap.get? b = some o → h'.get? b = some o) → Q (.ref s.heap.objs.size) { s with heap := h' }) →
    wpAny (model prog w) A (Builtin.SmallTypes.nextOf (.ref it)) Q E s
  done : ∀ i (s : Shared) (Q : Value → Shared → Prop) (E : Value → Shared → Prop), St i s.heap → Stop i →
    (∀ h' e, (∀ b o, b ∉ ch → s.heap.get? b = some o → h'.get? b = some o) → (∃ o, h'.get? e = some o ∧ o.cls = .type "StopIteration") → E (.ref e) { s with heap := h' }) → wpAny (model prog w) A (Builtin.SmallTypes.nextOf (.ref it)) Q E s
theorem enum_itemN {e it : Addr} {fp ch : List Addr} {i : Nat} {c : Int} {P : Nat → List Value → Prop} {St : Nat → Heap → Prop} {Go Stop : Nat → Prop} {old : Value} {Q : Option Value → Shared → Prop}
    (D : DrawsN prog w A.in1 it fp ch P St Go Stop) (he : IsEnum s.heap e it c old) (hst : St i s.heap) (hgo : Go i) (hec : e ∉ ch)
    (hQ : ∀ vs h₁ h' tk, P i vs → St (i + 1) h₁ → h₁.get? s.heap.objs.size = some { cls := .type "tuple", data := .seq vs.toArray } → h₁.objs.size = s.heap.objs.size + 1 → (∀ b o, b ∉ ch → s.heap.get? b = some o → h₁.get? b = some o) →
      IsEnumOut h' e it (c + 1) (.ref s.heap.objs.size) (s.heap.objs.size + 1) →
      h'.get? (s.heap.objs.size + 1) = some { cls := .type "tuple", data := .seq #[.int c tk, .ref s.heap.objs.size] } → h'.objs.size = s.heap.objs.size + 2 →
      (∀ b o, b ≠ e → h₁.get? b = some o → h'.get? b = some o) → Q (some (.ref (s.heap.objs.size + 1))) { s with heap := h', toks := tk + 1 }) :
    wpAny (model prog w) A (pyNext (.ref e)) Q E s := by
  have hT : s.TypeIs (.ref e) "enumerate" := ⟨_, he, rfl⟩
  unfold pyNext
  refine wpAny_bind (wpAny_attempt (wpAny_callSpecial?_slot (name := Str.ofString "__next__") hT F.slot_enumerate_next
    (wpAny_call_entry F.slot_enumerate_next hT F.entry_enumerate_next ?_ (F.args_enumerate_next_1 _))))
  obtain ⟨hp, g, d, tk, os⟩ := s
  show wpAny _ _ (field (.ref e) 2 >>= _) _ _ _
  refine wpAny_bind (wpAny_field he rfl (x := .ref it) rfl ?_)
  refine wpAny_bind (D.item i _ _ _ hst hgo fun vs h₁ hPx hit₁ ht₁ hz₁ hk₁ => ?_)
  replace ht₁ : h₁.get? hp.objs.size = some { cls := .type "tuple", data := .seq vs.toArray } := ht₁
  replace hz₁ : h₁.objs.size = hp.objs.size + 1 := hz₁
  have he₁ : IsEnum h₁ e it c old := hk₁ e _ hec he
  show wpAny _ _ (field (.ref e) 3 >>= _) _ _ ⟨h₁, g, d, tk, os⟩
  refine wpAny_bind (wpAny_field he₁ rfl (x := rawInt c) rfl ?_)
  show wpAny _ _ (field (.ref e) 4 >>= _) _ _ ⟨h₁, g, d, tk, os⟩
  refine wpAny_bind (wpAny_field he₁ rfl (x := .none) rfl ?_)
  show wpAny _ _ (mkInt c >>= _) _ _ ⟨h₁, g, d, tk, os⟩
  refine wpAny_bind (wpAny_mkInt ?_)
  show wpAny _ _ (setField (.ref e) 3 (rawInt (c + 1)) >>= _) _ _ ⟨h₁, g, d, tk + 1, os⟩
  refine wpAny_bind (wpAny_setField_rec he₁ (by simp) fun h₂ he₂ hs₂ => ?_)
  replace hs₂ : Heap.SameBut e h₁ h₂ := hs₂
  replace he₂ : IsEnum h₂ e it (c + 1) old := he₂
  show wpAny _ _ (setField (.ref e) 4 .none >>= _) _ _ ⟨h₂, g, d, tk + 1, os⟩
  refine wpAny_bind (wpAny_setField_rec he₂ (by simp) fun h₃ he₃ hs₃ => ?_)
  replace hs₃ : Heap.SameBut e h₂ h₃ := hs₃
  replace he₃ : IsEnum h₃ e it (c + 1) old := he₃
  show wpAny _ _ (newTuple [.int c tk, .ref hp.objs.size] >>= _) _ _ ⟨h₃, g, d, tk + 1, os⟩
  refine wpAny_bind (wpAny_newTuple ?_)
  have he₄ : IsEnum (h₃.push { cls := .type "tuple", data := .seq #[.int c tk, .ref hp.objs.size] }) e it (c + 1) old := Heap.get?_push_of_some _ he₃
  generalize hh₄ : h₃.push { cls := .type "tuple", data := .seq #[.int c tk, .ref hp.objs.size] } = h₄ at he₄
  have hsz : h₃.objs.size = hp.objs.size + 1 := by rw [hs₃.1, hs₂.1, hz₁]
  have hel : e < hp.objs.size := Heap.lt_size he
  have ht₄ : h₄.get? (hp.objs.size + 1) = some { cls := .type "tuple", data := .seq #[.int c tk, .ref hp.objs.size] } := by rw [← hh₄, ← hsz]; exact Heap.get?_push_size _ rfl
  have hz₄ : h₄.objs.size = hp.objs.size + 2 := by rw [← hh₄, Heap.size_push, hsz]
  have hk₄ : ∀ b o, b ≠ e → h₁.get? b = some o → h₄.get? b = some o := fun b o hbe hb => by
    rw [← hh₄]; exact Heap.get?_push_of_some _ (hs₃.extBut b o hbe (hs₂.extBut b o hbe hb))
  have hne : hp.objs.size + 1 ≠ e := Nat.ne_of_gt (Nat.lt_succ_of_lt hel)
  show wpAny _ _ (Builtin.SmallTypes.ownedTupleIsFree (.ref e) >>= _) _ _ ⟨h₄, g, d, tk + 1, os⟩
  rw [hsz]
  clear hh₄ he₃ hs₃ he₂ hs₂ he₁ hsz h₃ h₂
  refine wpAny_bind ?_
  · unfold Builtin.SmallTypes.ownedTupleIsFree
    refine wpAny_bind (wpAny_field he₄ rfl (x := .none) rfl (wpAny_pure ?_))
    simp only [if_true]
    refine wpAny_bind (wpAny_rule ?_)
    refine wpAny_bind (wpAny_field he₄ rfl (x := old) rfl ?_)
    refine wpAny_bind (wpAny_setField_rec he₄ (by simp) fun h₅ he₅ hs₅ => ?_)
    replace hs₅ : Heap.SameBut e h₄ h₅ := hs₅
    replace he₅ : IsEnum h₅ e it (c + 1) (.ref hp.objs.size) := he₅
    show wpAny _ _ (Builtin.SmallTypes.ownedTupleHandOut (.ref e) (.ref (hp.objs.size + 1)) >>= _) _ _ ⟨h₅, g, d, tk + 1, os⟩
    refine wpAny_bind ?_
    · unfold Builtin.SmallTypes.ownedTupleHandOut
      refine wpAny_bind (wpAny_setField_rec he₅ (by simp) fun h₆ he₆ hs₆ => ?_)
      replace hs₆ : Heap.SameBut e h₅ h₆ := hs₆
      replace he₆ : IsEnumOut h₆ e it (c + 1) (.ref hp.objs.size) (hp.objs.size + 1) := he₆
      refine wpAny_setField_rec he₆ (by simp) fun h₇ he₇ hs₇ => ?_
      replace hs₇ : Heap.SameBut e h₆ h₇ := hs₇
      replace he₇ : IsEnumOut h₇ e it (c + 1) (.ref hp.objs.size) (hp.objs.size + 1) := he₇
      refine wpAny_bind (wpAny_letGo (wpAny_pure ⟨_, rfl, wpAny_pure (hQ vs h₁ h₇ tk hPx hit₁ ht₁ hz₁ hk₁ he₇ ?_ ?_ ?_)⟩))
      · exact hs₇.extBut _ _ hne (hs₆.extBut _ _ hne (hs₅.extBut _ _ hne ht₄))
      · rw [hs₇.1, hs₆.1, hs₅.1, hz₄]
      · exact fun b o hbe hb => hs₇.extBut b o hbe (hs₆.extBut b o hbe (hs₅.extBut b o hbe (hk₄ b o hbe hb)))
theorem enum_endN {e it : Addr} {fp ch : List Addr} {i : Nat} {c : Int} {P : Nat → List Value → Prop} {St : Nat → Heap → Prop} {Go Stop : Nat → Prop} {old : Value} {Q : Option Value → Shared → Prop}
    (D : DrawsN prog w A.in1 it fp ch P St Go Stop) (he : IsEnum s.heap e it c old) (hst : St i s.heap) (hs : Stop i)
    (hQ : ∀ h', (∀ b o, b ∉ ch → s.heap.get? b = some o → h'.get? b = some o) → Q none { s with heap := h' }) : wpAny (model prog w) A (pyNext (.ref e)) Q E s := by
  have hT : s.TypeIs (.ref e) "enumerate" := ⟨_, he, rfl⟩
  unfold pyNext
  refine wpAny_bind (wpAny_attempt (wpAny_callSpecial?_slot (name := Str.ofString "__next__") hT F.slot_enumerate_next
    (wpAny_call_entry F.slot_enumerate_next hT F.entry_enumerate_next ?_ (F.args_enumerate_next_1 _))))
  show wpAny _ _ (field (.ref e) 2 >>= _) _ _ _
  refine wpAny_bind (wpAny_field he rfl (x := .ref it) rfl ?_)
  refine wpAny_bind (D.done i _ _ _ hst hs fun h' x he' hx' => ?_)
  obtain ⟨o, ho, hc⟩ := hx'
  refine wpAny_bind (wpAny_isInstance (T := "StopIteration") (b := true) ⟨o, ho, hc⟩ isSubtype_stop ?_)
  exact wpAny_pure (hQ _ he')
end
section
variable {prog : Program} {w : World} {A : Around}
/-- a zip of two lists -/
def ZSt (z TI TO i1 i2 l1 l2 : Addr) (i : Nat) (h : Heap) : Prop := (∃ f b, IsZipB h z TI TO f b ∧ Hd0 f) ∧ IsPair h TI (.ref i1) (.ref i2) ∧ (∃ x y, IsPair h TO x y) ∧ h.IsListIter i1 l1 i ∧ h.IsListIter i2 l2 i
theorem draws_zip {z TI TO i1 i2 l1 l2 : Addr} {xs ys : Array Value} (hh : A.handled = none) (D : ZipApart z TI TO i1 i2 l1 l2) :
    DrawsN prog w A z [z, TI, TO, i1, i2, l1, l2] [z, TO, i1, i2] (fun i vs => ∃ x y, xs[i]? = some x ∧ ys[i]? = some y ∧ vs = [x, y]) (fun i h => ZSt z TI TO i1 i2 l1 l2 i h ∧ h.IsList l1 xs ∧ h.IsList l2 ys) (fun i => (∃ x, xs[i]? = some x) ∧ ∃ y, ys[i]? = some y) (fun i => xs[i]? = none ∨ ys[i]? = none) where
  live := fun i h st => let ⟨⟨⟨_, _, hz, _⟩, _⟩, _⟩ := st; ⟨_, hz⟩
  frame := fun i h h' st k => by
    obtain ⟨⟨⟨f, b, hz, hf⟩, hTI, ⟨x, y, hTO⟩, h1, h2⟩, hl1, hl2⟩ := st
    exact ⟨⟨⟨f, b, k z (by simp) _ hz, hf⟩, k TI (by simp) _ hTI, ⟨x, y, k TO (by simp) _ hTO⟩, h1.at fun o e => k i1 (by simp) o e, h2.at fun o e => k i2 (by simp) o e⟩, hl1.at fun o e => k l1 (by simp) o e, hl2.at fun o e => k l2 (by simp) o e⟩
  item := fun i s Q E st hgo hQ => by
    obtain ⟨⟨⟨f, b, hz, hf⟩, hTI, ⟨x0, y0, hTO⟩, h1, h2⟩, hl1, hl2⟩ := st
    obtain ⟨⟨x, hx⟩, y, hy⟩ := hgo
    have hT : s.TypeIs (.ref z) "zip" := ⟨_, hz, rfl⟩
    unfold Builtin.SmallTypes.nextOf
    refine wpAny_bind (wpAny_callSpecial?_slot (name := Str.ofString "__next__") hT F.slot_zip_next
      (wpAny_call_entry F.slot_zip_next hT F.entry_zip_next (zip_next_any D hz hf hTI hTO h1 h2 hl1 hl2 hx hy fun h' a1 a2 a3 a4 a5 a6 a7 => ?_) (F.args_zip_next_1 _)))
    refine wpAny_pure (hQ [x, y] h' ⟨x, y, hx, hy, rfl⟩ ⟨⟨a1, a7 _ _ D.TIz D.TITO D.TIi1 D.TIi2 hTI, a2, a3, a4⟩, hl1.at fun o e => a7 _ o D.l1z D.l1TO D.l1i1 D.l1i2 e, hl2.at fun o e => a7 _ o D.l2z D.l2TO D.l2i1 D.l2i2 e⟩ a5 a6 fun c o hc e => ?_)
    exact a7 c o (fun q => hc (by simp [q])) (fun q => hc (by simp [q])) (fun q => hc (by simp [q])) (fun q => hc (by simp [q])) e
  done := fun i s Q E st hs hE => by
    obtain ⟨⟨⟨f, b, hz, hf⟩, hTI, ⟨x0, y0, hTO⟩, h1, h2⟩, hl1, hl2⟩ := st
    have hT : s.TypeIs (.ref z) "zip" := ⟨_, hz, rfl⟩
    unfold Builtin.SmallTypes.nextOf
    refine wpAny_bind (wpAny_callSpecial?_slot (name := Str.ofString "__next__") hT F.slot_zip_next
      (wpAny_call_entry F.slot_zip_next hT F.entry_zip_next (zip_end_any hh D hz hf hTI hTO h1 h2 hl1 hl2 hs fun h' e hk he => hE h' e (fun c o hc x => hk c o (fun q => hc (by simp [q])) (fun q => hc (by simp [q])) (fun q => hc (by simp [q])) (fun q => hc (by simp [q])) x) he) (F.args_zip_next_1 _)))
end
end PySem
namespace PySem
section
variable {prog : Program} {w : World} {A : Around} {E : Value → Shared → Prop} {s : Shared}
set_option maxHeartbeats 1000000 in
theorem meets_enumerate_newZ {z TI TO : Addr} :
    Meets (Builtin.«enumerate.__new__» ⟨[.type "enumerate", .ref z], []⟩) (fun _ R s => IsZip s.heap z TI TO .none ∧
      R (.ok (.ret (.ref s.heap.objs.size))) { s with heap := s.heap.push { cls := .type "enumerate", data := .fields #[.none, .bool false, .ref z, rawInt 0, .none, .none] } }) :=
  .of_wp fun prog w A R s h => by
    obtain ⟨hp, g, d, tk, os⟩ := s; obtain ⟨h1, h⟩ := h
    have hsub := sub_enumerate
    have q1 : ∀ {A' : Around} {E : Value → Shared → Prop} {Q : Value → Shared → Prop}, Q (.ref z) ⟨hp, g, d, tk, os⟩ → wpAny (model prog w) A' (pyIter (.ref z)) Q E ⟨hp, g, d, tk, os⟩ :=
      fun q => wpAny_pyIter_zip (s := ⟨hp, g, d, tk, os⟩) h1 q
    wp_walk using q1
    refine wpAny_stack_any fun st => wpAny_pure ?_
    split
    · rename_i c _ _ _ _ _
      cases (c == Value.type "enumerate")
      · wp_walk using q1
        exact ⟨_, rfl, h⟩
      · wp_walk using q1
        exact ⟨_, rfl, h⟩
    · wp_walk using q1
      exact ⟨_, rfl, h⟩
theorem enum_beginsZ {z TI TO : Addr} {Q : Value → Shared → Prop} (h1 : IsZip s.heap z TI TO .none)
    (h : ∀ h', IsEnum h' s.heap.objs.size z 0 .none → h'.objs.size = s.heap.objs.size + 1 →
      (∀ b o, s.heap.get? b = some o → h'.get? b = some o) → Q (.ref s.heap.objs.size) { s with heap := h' }) :
    wpAny (model prog w) A (call (.type "enumerate") [.ref z]) Q E s := by
  refine callType_new F.called_enumerate (by decide) (F.typeCall_enumerate_1 _) (F.newCall_enumerate_1 _) (fun obj => F.args_object_init_2 obj _) F.entry_enumerate_new
    (meets_enumerate_newZ (z := z) (TI := TI) (TO := TO)) ⟨h1, ?_⟩
  show _ ∧ _
  have he : IsEnum (s.heap.push { cls := .type "enumerate", data := .fields #[.none, .bool false, .ref z, rawInt 0, .none, .none] }) s.heap.objs.size z 0 .none := Heap.get?_push_size _ rfl
  exact ⟨⟨_, he, rfl⟩, h _ he (Heap.size_push ..) fun b o x => Heap.get?_push_of_some _ x⟩
end
end PySem
namespace Lw
open PySem PySem.Spec PyProof.Rows L2 StX
/-- numbered pairs of the lists at a and b, each in new tuples -/
def IteZ (K : PySem.W.Frag) (a b : Addr) : It :=
  ⟨fun i H => ∃ (xs ys : List V) (x y : V), SqL K H a xs ∧ SqL K H b ys ∧ xs[i]? = some x ∧ ys[i]? = some y,
    fun i H v H' => ∃ P T x y, v = .ref P ∧ H T = none ∧ upd H T (.tup [x, y]) P = none ∧ H' = upd (upd H T (.tup [x, y])) P (.tup [.int (i : Nat), .ref T]) ∧ (∀ xs, SqL K H a xs → xs[i]? = some x) ∧ ∀ ys, SqL K H b ys → ys[i]? = some y,
    fun i H => ∃ xs ys : List V, SqL K H a xs ∧ SqL K H b ys ∧ (xs.length ≤ i ∨ ys.length ≤ i)⟩
theorem turn_enumZ {P : Program} {w : World} {K : PySem.W.Frag} {elts : List Expr} {kk : Nat} {tpos : Pos} {a b e z TI TO i1 i2 : Addr} (D : ZipApart z TI TO i1 i2 a b) (ez : e ≠ z) (eTI : e ≠ TI) (eTO : e ≠ TO) (e1 : e ≠ i1) (e2 : e ≠ i2) :
    Turn P w K (.Tuple elts kk tpos) (IteZ K a b) [e, z, TI, TO, i1, i2] e (fun i h => (∃ old, IsEnum h e z ((i : Nat) : Int) old) ∧ ZSt z TI TO i1 i2 a b i h) where
  mem := by simp
  obj := fun i h st c hc => by
    obtain ⟨⟨old, he⟩, ⟨f, bb, hz, _⟩, hTI, ⟨x, y, hTO⟩, ⟨o1, q1, _, d1⟩, ⟨o2, q2, _, d2⟩⟩ := st
    have e' : c = e ∨ c = z ∨ c = TI ∨ c = TO ∨ c = i1 ∨ c = i2 := by simpa using hc
    rcases e' with q | q | q | q | q | q
    · rw [q]; exact ⟨_, he, fun v q => nomatch q⟩
    · rw [q]; exact ⟨_, hz, fun v q => nomatch q⟩
    · rw [q]; exact ⟨_, hTI, fun v q => nomatch q⟩
    · rw [q]; exact ⟨_, hTO, fun v q => nomatch q⟩
    · rw [q]; exact ⟨o1, q1, fun v q => by rw [d1] at q; cases q⟩
    · rw [q]; exact ⟨o2, q2, fun v q => by rw [d2] at q; cases q⟩
  keep := fun i h h' st k => by
    obtain ⟨⟨old, he⟩, ⟨f, bb, hz, hf⟩, hTI, ⟨x, y, hTO⟩, h1, h2⟩ := st
    exact ⟨⟨old, k e (by simp) _ he⟩, ⟨f, bb, k z (by simp) _ hz, hf⟩, k TI (by simp) _ hTI, ⟨x, y, k TO (by simp) _ hTO⟩, h1.at fun o q => k i1 (by simp) o q, h2.at fun o q => k i2 (by simp) o q⟩
  item := by
    intro X hP hw hK hc i pins s σ H E I hf st hg
    subst hP hw hK
    obtain ⟨⟨old, he⟩, hZ⟩ := st
    obtain ⟨xs, ys, x, y, hqx, hqy, hx, hy⟩ := hg
    obtain ⟨its, rv, p, _⟩ := I.list hqx
    obtain ⟨its2, rv2, p2, _⟩ := I.list hqy
    obtain ⟨u, hu, ru⟩ := rv.get hx
    obtain ⟨u2, hu2, ru2⟩ := rv2.get hy
    have hel : e < s.heap.objs.size := Heap.lt_size he
    have hu' : its.toArray[i]? = some u := by simpa using hu
    have hu2' : its2.toArray[i]? = some u2 := by simpa using hu2
    refine enum_itemN (draws_zip (xs := its.toArray) (ys := its2.toArray) (I.ok.hd hc) D) he ⟨hZ, p.isList, p2.isList⟩ ⟨⟨u, hu'⟩, u2, hu2'⟩ (by simp [ez, eTO, e1, e2]) fun vs h₁ h' tk hP hst hT hz₁ hk₁ ho hPr hsz hk => ?_
    obtain ⟨y1, y2, g1, g2, rfl⟩ := hP
    rw [hu'] at g1
    cases g1
    rw [hu2'] at g2
    cases g2
    refine ⟨_, rfl, wpAny_letOwnedTupleGo_enum (s := { s with heap := h', toks := tk + 1 }) ho fun h'' he' sb => ?_⟩
    have nP : H s.heap.objs.size = none := I.hok.fresh (Nat.le_refl _)
    have newT : ObjOk X.prog X.w (upd H s.heap.objs.size (.tup [x, y])) h₁ s.heap.objs.size (.tup [x, y]) :=
      ⟨by show 2 ≤ sizeLine; decide, [u, u2], .cons ru (.cons ru2 .nil), ⟨_, hT, rfl, _, rfl⟩⟩
    have hfz : ∀ c ∈ [z, TO, i1, i2], FpOk X pins H c := fun c hcm => hf c (by simp at hcm ⊢; rcases hcm with q | q | q | q <;> simp [q])
    have I1 : Inv X pins σ (upd H s.heap.objs.size (.tup [x, y])) { s with heap := h₁, toks := s.toks } :=
      I.turnedNew (ch := [z, TO, i1, i2]) (fun c o hb q => hk₁ c o hb q) hfz (Nat.le_refl _) newT
    have heT : e ≠ s.heap.objs.size := Nat.ne_of_lt hel
    have hPr2 : h''.get? (s.heap.objs.size + 1) = some { cls := .type "tuple", data := .seq #[.int (i : Nat) tk, .ref s.heap.objs.size] } := (sb.2 _ (Nat.ne_of_gt (Nat.lt_succ_of_lt hel))).trans hPr
    have newP : ObjOk X.prog X.w (upd (upd H s.heap.objs.size (.tup [x, y])) (s.heap.objs.size + 1) (.tup [.int (i : Nat), .ref s.heap.objs.size])) h'' (s.heap.objs.size + 1) (.tup [.int (i : Nat), .ref s.heap.objs.size]) :=
      ⟨by show 2 ≤ sizeLine; decide, [.int (i : Nat) tk, .ref s.heap.objs.size], .cons ⟨_, rfl⟩ (.cons rfl .nil), ⟨_, hPr2, rfl, _, rfl⟩⟩
    have hle : ({ s with heap := h₁, toks := s.toks } : Shared).heap.objs.size ≤ s.heap.objs.size + 1 := Nat.le_of_eq hz₁
    have I2 : Inv X pins σ (upd (upd H s.heap.objs.size (.tup [x, y])) (s.heap.objs.size + 1) (.tup [.int (i : Nat), .ref s.heap.objs.size])) { s with heap := h'', toks := tk + 1 } :=
      I1.turnedNew (t' := tk + 1) (ch := [e]) (fun c o hb q => (sb.2 c (fun q' => hb (by simp [q']))).trans (hk c o (fun q' => hb (by simp [q'])) q)) (fun c hcm => by
        have e' : c = e := by simpa using hcm
        subst e'
        obtain ⟨f0, f1⟩ := hf c (by simp)
        exact ⟨by rw [upd_ne heT]; exact f0, f1⟩) hle newP
    have nP2 : upd H s.heap.objs.size (.tup [x, y]) (s.heap.objs.size + 1) = none := by
      rw [upd_ne (Nat.succ_ne_self _)]
      exact I.hok.fresh (Nat.le_succ _)
    have frE : ∀ c ∈ [z, TI, TO, i1, i2, a, b], ∀ o, h₁.get? c = some o → h''.get? c = some o := fun c hcm o q => by
      have ne : c ≠ e := by
        intro q'
        rw [q'] at hcm
        have hcm : e = z ∨ e = TI ∨ e = TO ∨ e = i1 ∨ e = i2 ∨ e = a ∨ e = b := by simpa using hcm
        rcases hcm with g | g | g | g | g | g | g
        · exact ez g
        · exact eTI g
        · exact eTO g
        · exact e1 g
        · exact e2 g
        · obtain ⟨o', ho', hcl', _⟩ := p.isList
          rw [← g, he] at ho'
          cases ho'
          simp at hcl'
        · obtain ⟨o', ho', hcl', _⟩ := p2.isList
          rw [← g, he] at ho'
          cases ho'
          simp at hcl'
      exact (sb.2 c ne).trans (hk c o ne q)
    have hst2 := (draws_zip (prog := X.prog) (w := X.w) (A := X.A.in1) (xs := its.toArray) (ys := its2.toArray) (I.ok.hd hc) D).frame (i + 1) h₁ h'' hst frE
    refine ⟨.ref (s.heap.objs.size + 1), _, I2, rfl, ⟨_, _, x, y, rfl, nP, nP2, rfl, fun l hl => by rw [I.list_inj hl hqx]; exact hx, fun l hl => by rw [I.list_inj hl hqy]; exact hy⟩, ⟨⟨.ref s.heap.objs.size, ?_⟩, hst2.1⟩, fun c hcm => ?_⟩
    · have e1 : ((i + 1 : Nat) : Int) = (i : Int) + 1 := by omega
      rw [e1]; exact he'
    · have hlt : c < s.heap.objs.size := by
        obtain ⟨⟨f, bb, hz, _⟩, hTI, ⟨x0, y0, hTO⟩, ⟨_, q1, _⟩, ⟨_, q2, _⟩⟩ := hZ
        have e' : c = e ∨ c = z ∨ c = TI ∨ c = TO ∨ c = i1 ∨ c = i2 := by simpa using hcm
        rcases e' with q | q | q | q | q | q
        · rw [q]; exact hel
        · rw [q]; exact Heap.lt_size hz
        · rw [q]; exact Heap.lt_size hTI
        · rw [q]; exact Heap.lt_size hTO
        · rw [q]; exact Heap.lt_size q1
        · rw [q]; exact Heap.lt_size q2
      rw [upd_ne (Nat.ne_of_lt (Nat.lt_succ_of_lt hlt)), upd_ne (Nat.ne_of_lt hlt)]
      exact (hf c hcm).1
  done := by
    intro X hP hw hK hc i pins s σ H E I hf st hg
    subst hP hw hK
    obtain ⟨⟨old, he⟩, hZ⟩ := st
    obtain ⟨xs, ys, hqx, hqy, hend⟩ := hg
    obtain ⟨its, rv, p, _⟩ := I.list hqx
    obtain ⟨its2, rv2, p2, _⟩ := I.list hqy
    have l1 := rv.length
    have l2 := rv2.length
    have hE : its.toArray[i]? = none ∨ its2.toArray[i]? = none := by
      rcases hend with q | q
      · exact .inl (by simp; omega)
      · exact .inr (by simp; omega)
    exact enum_endN (draws_zip (xs := its.toArray) (ys := its2.toArray) (I.ok.hd hc) D) he ⟨hZ, p.isList, p2.isList⟩ hE fun h' hk => ⟨rfl, I.turnedL (t' := s.toks) (ch := [z, TO, i1, i2]) (fun c o hb q => hk c o hb q) fun c hcm => hf c (by simp at hcm ⊢; rcases hcm with q | q | q | q <;> simp [q])⟩
  self := fun A i s Q E st h => let ⟨⟨_, he⟩, _⟩ := st; wpAny_pyIter_enum he h
def iEnumZ (K : PySem.W.Frag) (ta : TA) : TI := fun σ H R => ta σ H fun vs H1 => ∃ a b xs ys, vs = [.ref a, .ref b] ∧ SqL K H1 a xs ∧ SqL K H1 b ys ∧ R (IteZ K a b) H1
/-- enumerate(zip(x, y)) -/
theorem pi_enumZ {X : Cx} {e e2 : Expr} {ta : TA} {p p2 pos pos2 tpos : Pos} {elts : List Expr} {kk : Nat} (hg : Gl X "enumerate") (hm : X.mg "enumerate" = none) (hg2 : Gl X "zip") (hm2 : X.mg "zip" = none) (ha : PA X [e, e2] ta)
    (hs : starEach [e, e2] X.env = (false, eval e X.env) :: starEach [e2] X.env := by rfl) (hpl : (backTo pos2 (starEach [e2] X.env)).any (·.1) = false := by rfl)
    (hs2 : starEach [.Call (.Name "zip" p2) [e, e2] [] pos2] X.env = [(false, eval (.Call (.Name "zip" p2) [e, e2] [] pos2) X.env)] := by rfl) :
    PI X (.Tuple elts kk tpos) (.Call (.Name "enumerate" p) [.Call (.Name "zip" p2) [e, e2] [] pos2] [] pos) (iEnumZ X.K ta) := by
  refine ⟨fun pins s σ H R I h => ?_⟩
  refine Call_ (ld_blt I hg hm boot_enumerate (PyProof.Rows.callWith_type1 (PyProof.Rows.spliced_more ?_ hs2) hs2 rfl))
  refine Call_ (ld_blt I hg2 hm2 PyProof.Rows.boot_zip (PyProof.Rows.callWith_type1 (thn (ha.run pos2 pins s σ H _ I h) fun us s1 ⟨vs, H1, I1, r1, q1⟩ => ?_) hs hpl))
  obtain ⟨a, b, xs, ys, ex, hqx, hqy, q⟩ := q1
  subst ex
  cases r1 with
  | cons r rr =>
    cases rr with
    | cons r' rr =>
      cases rr
      cases r
      cases r'
      obtain ⟨its, rv, p1, _⟩ := I1.list hqx
      obtain ⟨its2, rv2, p2, _⟩ := I1.list hqy
      have la : a < s1.heap.objs.size := p1.lt
      have lb : b < s1.heap.objs.size := p2.lt
      refine call_zip_2 p1.isList p2.isList fun h' hz hTI hTO h1 h2 hsz hk => PyProof.Rows.args_nil ?_
      refine enum_beginsZ (s := { s1 with heap := h' }) hz fun h'' he hsz2 hk2 => wpAny_pyIter_enum he ?_
      have I3 : Inv X pins σ H1 { s1 with heap := h'' } := I1.kept (t' := s1.toks) fun b o x => hk2 b o (hk b o x)
      replace hsz2 : h''.objs.size = h'.objs.size + 1 := hsz2
      replace he : IsEnum h'' h'.objs.size (s1.heap.objs.size + 4) 0 .none := he
      rw [hsz] at he
      show PIE X pins σ _ R (.ref h'.objs.size) _
      rw [hsz]
      have ap : ∀ k, k < 5 → s1.heap.objs.size + 5 ≠ s1.heap.objs.size + k := fun k hk e => by omega
      refine ⟨s1.heap.objs.size + 5, [s1.heap.objs.size + 5, s1.heap.objs.size + 4, s1.heap.objs.size + 2, s1.heap.objs.size + 3, s1.heap.objs.size, s1.heap.objs.size + 1], _, _, H1, rfl, I3, turn_enumZ (PySem.W.ktu_apart s1.heap.objs.size a b la lb) (ap 4 (by omega)) (ap 2 (by omega)) (ap 3 (by omega)) (ap 0 (by omega)) (ap 1 (by omega)), ⟨⟨_, he⟩, ⟨_, _, hk2 _ _ hz, .inl rfl⟩, hk2 _ _ hTI, ⟨_, _, hk2 _ _ hTO⟩, h1.at fun o e => hk2 _ o e, h2.at fun o e => hk2 _ o e⟩, fun c hcm => ?_, q⟩
      have e' : c = s1.heap.objs.size + 5 ∨ c = s1.heap.objs.size + 4 ∨ c = s1.heap.objs.size + 2 ∨ c = s1.heap.objs.size + 3 ∨ c = s1.heap.objs.size ∨ c = s1.heap.objs.size + 1 := by simpa using hcm
      have hle : s1.heap.objs.size ≤ c := by
        rcases e' with z | z | z | z | z | z
        · rw [z]; exact Nat.le_add_right _ _
        · rw [z]; exact Nat.le_add_right _ _
        · rw [z]; exact Nat.le_add_right _ _
        · rw [z]; exact Nat.le_add_right _ _
        · rw [z]; exact Nat.le_refl _
        · rw [z]; exact Nat.le_add_right _ _
      exact I1.fpOk hle (I1.hok.fresh hle)
end Lw

set_option Elab.async false
set_option linter.all false
set_option maxRecDepth 100000
set_option maxHeartbeats 4000000
/-! enumerate(zip(x, y)), walked -/
namespace Lw
open PySem PySem.Spec PyProof.Rows L2 StX
def YEnZ (xs ys : List V) : Nat → Hp → V → Hp → Prop := fun i H v H' => ∃ P T x y, v = .ref P ∧ H T = none ∧ upd H T (.tup [x, y]) P = none ∧ H' = upd (upd H T (.tup [x, y])) P (.tup [.int (i : Nat), .ref T]) ∧ xs[i]? = some x ∧ ys[i]? = some y
theorem walk_enumZ {K : PySem.W.Frag} {a b : Addr} {xs ys : List V} {n : Nat} (hn : n = min xs.length ys.length) : Walk (IteZ K a b) n (fun H => SqL K H a xs ∧ SqL K H b ys)
    (YEnZ xs ys) := by
  subst hn
  refine ⟨fun i _ hi q => ?_, fun _ q => ⟨xs, ys, q.1, q.2, by omega⟩, fun i H v H' _ q y => ?_⟩
  · have h1 : i < xs.length := by omega
    have h2 : i < ys.length := by omega
    exact ⟨xs, ys, xs[i], ys[i], q.1, q.2, by simp [h1], by simp [h2]⟩
  · obtain ⟨P, T, x, z, h1, h2, h3, h4, h5, h6⟩ := y
    exact ⟨P, T, x, z, h1, h2, h3, h4, h5 xs q.1, h6 ys q.2⟩
end Lw
namespace Lx
open PySem PySem.Spec PyProof.Rows L2 He StX Lw
section
variable {K : Frag} {β τ ρ α γ δ ς : Type} [Rv K β] [Rv K α] [Rv K γ] [Rv K δ]
variable {e : Env K τ ρ} {S : List Addr} {N : List Mu} {ts ts' : List (Option AV)} {L L' : List (V × AV)} {s : τ} {σ : L2.St} {H H' : Hp} {v : V} {A : AV}
variable {te ta tb tc : TE} {p : Option ρ} {wi wi1 : TI}
theorem wk_enumZ {p q : Addr} {xs ys : List V} {l : List α} {m : List γ} (h : xs.length = l.length) (h' : ys.length = m.length) (hz : l.length ≤ sizeLine) : WkR K (bothA (lstA K p xs l) (lstA K q ys m)) (IteZ K p q) (en 0 (l.zip m)) :=
  ⟨⟨fun H => SqL K H p xs ∧ SqL K H q ys, YEnZ xs ys, by rw [en_len, List.length_zip, ← h, ← h']; exact walk_enumZ (K := K) (a := p) (b := q) (xs := xs) (ys := ys) rfl, fun S H h => ⟨h.1.1.sqL, h.2.1.sqL⟩, fun S i H x H' a ha h oS ⟨P, T, u, w, e1, hT, hP, e2, hu, hw⟩ => by
    subst e1 e2
    obtain ⟨h1, h2⟩ := en_at ha
    obtain ⟨b, hb, rb⟩ := h.1.2.at hu
    obtain ⟨c, hc, rc⟩ := h.2.2.at hw
    rw [List.getElem?_zip_eq_some] at h2
    rw [h2.1] at hb
    rw [h2.2] at hc
    cases hb
    cases hc
    have hPT : T ≠ P := fun z => by
      rw [← z, upd_same] at hP
      cases hP
    have hP0 : H P = none := by
      rw [upd_ne (Ne.symm hPT)] at hP
      exact hP
    refine ⟨Kp.trans (.new hT) (.new hP), P, .int (i : Nat), .ref T, rfl, ⟨oS.no hP0, upd_same⟩, by rw [h1]; show V.int _ = V.int _; rw [Int.zero_add], T, u, w, rfl, ⟨oS.no hT, ?_⟩, Rv.keep rb (Kp.trans (.new hT) (.new hP)), Rv.keep rc (Kp.trans (.new hT) (.new hP))⟩
    rw [upd_ne hPT]
    exact upd_same⟩, by rw [en_len, List.length_zip]; omega⟩
theorem puI_enumZ {l : List α} {m : List γ} (h : Pu e S N ts ta L l) (h' : ∀ v, Pu e S N ts tb ((v, av K l) :: L) m) : PuI e S N ts (iEnumZ K (tCons ta (tCons tb tNil))) L (en 0 (l.zip m)) := fun s σ H R at_ q => h s σ H _ at_ fun x H1 a1 => h' x s σ H1 _ a1 fun y H2 a2 => by
  have i1 := a2.get (A := av K m) m0
  have i2 := a2.get (v := x) (A := av K l) m1
  obtain ⟨p2, ys, rfl, g, z', hr'⟩ := i1
  obtain ⟨p1, xs, rfl, f, z, hr⟩ := i2
  exact ⟨p1, p2, xs, ys, rfl, f.sqL, g.sqL, q _ _ H2 (wk_enumZ hr.len hr'.len (hr.len ▸ z)) ((a2.less (fun f hf => List.mem_cons_of_mem _ (List.mem_cons_of_mem _ hf))).add (A := bothA (lstA K p1 xs l) (lstA K p2 ys m)) ⟨⟨f, hr⟩, ⟨g, hr'⟩⟩)⟩
theorem evI_enumZ {k1 : List α → τ → Option ρ} {k : List (Int × (α × γ)) → τ → Option ρ} (h : Ev e S N ts ta L s p k1) (h' : ∀ l s1 v, Ev e S N ts tb ((v, av K l) :: L) s1 (k1 l s1) fun (m : List γ) s2 => k (en 0 (l.zip m)) s2) : EvI e S N ts (iEnumZ K (tCons ta (tCons tb tNil))) L s p k := fun hp σ H R at_ q => h hp σ H _ at_ fun l s1 x H1 e1 a1 => h' l s1 x e1 σ H1 _ a1 fun m s2 y H2 e2 a2 => by
  have i1 := a2.get (A := av K m) m0
  have i2 := a2.get (v := x) (A := av K l) m1
  obtain ⟨p2, ys, rfl, g, z', hr'⟩ := i1
  obtain ⟨p1, xs, rfl, f, z, hr⟩ := i2
  exact ⟨p1, p2, xs, ys, rfl, f.sqL, g.sqL, q _ s2 _ _ H2 e2 (wk_enumZ hr.len hr'.len (hr.len ▸ z)) ((a2.less (fun f hf => List.mem_cons_of_mem _ (List.mem_cons_of_mem _ hf))).add (A := bothA (lstA K p1 xs l) (lstA K p2 ys m)) ⟨⟨f, hr⟩, ⟨g, hr'⟩⟩)⟩
end
end Lx

set_option Elab.async false
set_option linter.all false
set_option maxRecDepth 100000
set_option maxHeartbeats 4000000
/-! max of a pair; list(range(..)) -/
namespace L2
open PySem PySem.Spec PyProof.Rows
section
variable {prog : Program} {w : World} {A : Around} {E : Value → Shared → Prop} {s : Shared} {l : Addr} {its : List Value} {ns : List Int} {Q : Value → Shared → Prop}
theorem max_tupRaw (hh : A.handled = none) (hl : s.heap.IsTuple l its.toArray) (hi : IntsAre its ns) (hne : 0 < ns.length)
    (h : ∀ h' tk M t', (∀ b o, s.heap.get? b = some o → h'.get? b = some o) → M ∈ ns → (∀ a, a ∈ ns → a ≤ M) → Q (.int M t') { s with heap := h', toks := tk }) : wpAny (model prog w) A (call (.builtin "max") [.ref l]) Q E s := by
  obtain ⟨xs, e⟩ := hi.allInts.items
  have hn : numsOf (intItems xs).toList = ns := by rw [← e]; exact hi.numsOf
  rw [nums_intItems] at hn
  subst hn
  rw [e] at hl
  have hsz : 0 < xs.size := by simpa using hne
  have hlt : l < s.heap.objs.size := by obtain ⟨_, e, _⟩ := hl; exact Heap.lt_size e
  have key : ∀ v h' tk, (intItems xs)[argBest (fun i j => decide (numAt xs i > numAt xs j)) (xs.size - 1)]? = some v → (∀ b o, s.heap.get? b = some o → h'.get? b = some o) → Q v { s with heap := h', toks := tk } := fun v h' tk hv hk => by
    obtain ⟨t, rfl⟩ := intItems_at hv
    obtain ⟨h1, h2⟩ := argBest_gt (numAt xs) (xs.size - 1)
    refine h h' tk _ t hk ?_ fun a ha => ?_
    · rw [numAt_eq]; exact PySem.getD_mem (by rw [List.length_map, Array.length_toList]; omega)
    · obtain ⟨j, hj, rfl⟩ := mem_getD ha
      rw [List.length_map, Array.length_toList] at hj
      rw [← numAt_eq]; exact h2 j (by omega)
  refine call_max_walk (wpAny_pyIter_tuple hl ?_)
  refine ⟨_, _, _, _, _, _, _, rfl, Walks.tuple (A := A.in1) hh _ l (Nat.ne_of_lt hlt) (intItems xs), ⟨⟨_, Heap.get?_push_size _ rfl, rfl, rfl⟩, hl.push _⟩, ?_, by simpa [intItems] using hsz, CmpOf.ints_gt (numAt xs) (fun _ _ => intItems_at), fun v h' tk hP hk => ?_⟩
  · intro b hb
    show b < (s.heap.push _).objs.size
    rw [Heap.size_push]
    rcases List.mem_cons.mp hb with rfl | hb
    · exact Nat.lt_succ_self _
    · rcases List.mem_cons.mp hb with rfl | hb
      · exact Nat.lt_succ_of_lt hlt
      · cases hb
  · refine key v h' tk (by simpa [intItems] using hP) fun b o e => hk b o (fun hm => ?_) (Heap.get?_push_of_some _ e)
    rcases List.mem_cons.mp hm with e1 | hm
    · exact absurd (e1 ▸ Heap.lt_size e) (Nat.lt_irrefl _)
    · cases hm
end
section
variable {X : Cx}
def rMaxT (K : PySem.W.Frag) : List V → Hp → VK → Prop := fun vs H Q => ∃ (a : Addr) (ns : List Int), vs = [V.ref a] ∧ SqT K H a (ns.map V.int) ∧ 0 < ns.length ∧ ∀ m, m ∈ ns → (∀ y, y ∈ ns → y ≤ m) → Q (.int m) H
theorem cr_maxT (hc : X.calm = true) : CallR X (.builtin "max") (rMaxT X.K) := by
  intro pins s σ H vs us Q I r h
  obtain ⟨a, ns, rfl, hs, hne, q⟩ := h
  obtain ⟨its, rv, hl, _⟩ := I.tuple hs
  rw [Vals.ref1 r]
  exact max_tupRaw (I.ok.hd hc) (show s.heap.IsTuple a its.toArray from hl) (ints_of_vals rv) hne fun h' tk m t' hk h1 h2 => ⟨.int _, H, I.kept hk, ⟨_, rfl⟩, q m h1 h2⟩
end
instance (i j : Int) : Decidable (RgOk i j) := inferInstanceAs (Decidable (_ ∧ _))
end L2
namespace Lx
open PySem PySem.Spec PyProof.Rows L2 He StX Lw
section
variable {K : Frag} {β τ ρ α γ δ ς : Type} [Rv K β] [Rv K α] [Rv K γ] [Rv K δ]
variable {e : Env K τ ρ} {S : List Addr} {N : List Mu} {ts ts' : List (Option AV)} {L L' : List (V × AV)} {s : τ} {σ : L2.St} {H H' : Hp} {v : V} {A : AV}
variable {te ta tb tc : TE} {p : Option ρ}
theorem o_maxP : Op1 K (fun x => rMaxT K [x]) C1 (fun a : Int × Int => max a.1 a.2) := fun S H x a Q _ ha _ q => by
  obtain ⟨p, x1, x2, rfl, f, h1, h2⟩ := ha
  cases (show x1 = V.int a.1 from h1)
  cases (show x2 = V.int a.2 from h2)
  refine ⟨p, [a.1, a.2], rfl, f.sqT, by simp, fun m hm hle => q _ H .refl ?_⟩
  show V.int m = V.int (max a.1 a.2)
  congr 1
  have l1 := hle a.1 (by simp)
  have l2 := hle a.2 (by simp)
  simp only [List.mem_cons, List.not_mem_nil, or_false] at hm
  omega
theorem ra_rgV {S : List Addr} {H : Hp} (i j : Int) : RA (Rv.R K S H) (rgV i j) (rg i j) := by
  have : ∀ l : List Nat, RA (Rv.R K S H) (l.map fun n => V.int (i + (n : Nat))) (l.map fun n : Nat => i + (n : Int)) := by
    intro l
    induction l with
    | nil => simp [RA]
    | cons a l ih => exact ⟨rfl, ih⟩
  exact this _
theorem ev_listRg2 {k1 : Int → τ → Option ρ} {k : List Int → τ → Option ρ} (h : Ev e S N ts ta L s p k1) (h' : ∀ i s1 v, Ev e S N ts tb ((v, av K i) :: L) s1 (k1 i s1) fun j s2 => if RgOk i j then k (rg i j) s2 else none) : Ev e S N ts (tLstRg (tRg2 ta tb)) L s p k := fun hp σ H Q at_ q => h hp σ H _ at_ fun i s1 x H1 e1 a1 => h' i s1 x e1 σ H1 _ a1 fun j s2 y H2 e2 a2 => by
  cases (show y = V.int j from a2.get m0)
  cases (show x = V.int i from a2.get (A := av K i) m1)
  by_cases c : RgOk i j
  · dsimp only at e2
    rw [if_pos c] at e2
    refine ⟨i, j, rfl, rfl, c, fun p hn => q _ s2 _ _ e2 (a2.res (L' := [_, _]) (c := rg i j) (.new hn) (new_lst a2.c.old hn ?_ (ra_rgV i j)))⟩
    rw [rgV_length, sizeLine_eq]
    have := c.2.2.2.2
    omega
  · dsimp only at e2
    rw [if_neg c] at e2
    cases e2
theorem ev_listRg1 {k : List Int → τ → Option ρ} (h : Ev e S N ts ta L s p fun (j : Int) s2 => if RgOk 0 j then k (rg 0 j) s2 else none) : Ev e S N ts (tLstRg (tRg1 ta)) L s p k := fun hp σ H Q at_ q => h hp σ H _ at_ fun j s2 y H2 e2 a2 => by
  cases (show y = V.int j from a2.get m0)
  by_cases c : RgOk 0 j
  · dsimp only at e2
    rw [if_pos c] at e2
    refine ⟨j, rfl, c, fun p hn => q _ s2 _ _ e2 (a2.res (L' := [_]) (c := rg 0 j) (.new hn) (new_lst a2.c.old hn ?_ (ra_rgV 0 j)))⟩
    rw [rgV_length, sizeLine_eq]
    have := c.2.2.2.2
    omega
  · dsimp only at e2
    rw [if_neg c] at e2
    cases e2
/-- a value where something is so -/
def guardO (c : Prop) [Decidable c] (v : δ) : Option δ := if c then some v else none
theorem guardO_pos {c : Prop} [Decidable c] (h : c) (v : δ) : guardO c v = some v := if_pos h
variable {r : R2}
theorem ev_opP {C : α → γ → Prop} [∀ a b, Decidable (C a b)] {g : α → γ → δ} {k : δ → τ → Option ρ} {a : α} {b : γ} (h1 : Pu e S N ts ta L a) (h2 : ∀ v, Pu e S N ts tb ((v, av K a) :: L) b) (o : Op2 K r C g) : Ev e S N ts (tOp r ta tb) L s ((guardO (C a b) (g a b)).bind fun c => k c s) k := fun hp σ H Q at_ q =>
  h1 s σ H _ at_ fun x H1 a1 => h2 x s σ H1 _ a1 fun y H2 a2 => by
    unfold guardO at hp
    by_cases hc : C a b
    · rw [if_pos hc] at hp
      exact o S H2 x y a b Q a2.c.old (a2.get m1) (a2.get m0) hc fun v H' k r => q _ _ v H' hp (a2.res (L' := [_, _]) k r)
    · rw [if_neg hc] at hp
      cases hp
theorem ev_opB {C : α → γ → Prop} [∀ a b, Decidable (C a b)] {g : α → γ → δ} {k1 : α → τ → Option ρ} {k : δ → τ → Option ρ} (h1 : Ev e S N ts ta L s p k1) (h2 : ∀ a s1 v, Ev e S N ts tb ((v, av K a) :: L) s1 (k1 a s1) fun b s2 => (guardO (C a b) (g a b)).bind fun c => k c s2) (o : Op2 K r C g) : Ev e S N ts (tOp r ta tb) L s p k := fun hp σ H Q at_ q =>
  h1 hp σ H _ at_ fun a s1 x H1 e1 a1 => h2 a s1 x e1 σ H1 _ a1 fun b s2 y H2 e2 a2 => by
    dsimp only at e2
    unfold guardO at e2
    by_cases hc : C a b
    · rw [if_pos hc] at e2
      exact o S H2 x y a b Q a2.c.old (a2.get m1) (a2.get m0) hc fun v H' k r => q _ _ v H' e2 (a2.res (L' := [_, _]) k r)
    · rw [if_neg hc] at e2
      cases e2
theorem ev_opS {g : α → γ → δ} {k1 : α → τ → Option ρ} {k : δ → τ → Option ρ} (h1 : Ev e S N ts ta L s p k1) (h2 : ∀ a s1 v, Ev e S N ts tb ((v, av K a) :: L) s1 (k1 a s1) fun b s2 => (some (g a b)).bind fun c => k c s2) (o : Op2 K r C2 g) : Ev e S N ts (tOp r ta tb) L s p k := ev_op h1 h2 o
theorem ev_opY {g : α → γ → δ} {k1 : α → τ → Option ρ} {k : δ → τ → Option ρ} (h2 : ∀ a s1 v, Ev e S N ts tb ((v, av K a) :: L) s1 (k1 a s1) fun b s2 => k (g a b) s2) (o : Op2 K r C2 g) (h1 : Ev e S N ts ta L s p k1) : Ev e S N ts (tOp r ta tb) L s p k := ev_op h1 h2 o
theorem ev_opQ {C : α → γ → Prop} [∀ a b, Decidable (C a b)] {g : α → γ → δ} {k : δ → τ → Option ρ} {a : α} {b : γ} (h1 : Pu e S N ts ta L a) (h2 : ∀ v, Pu e S N ts tb ((v, av K a) :: L) b) (o : Op2 K r C g) (e0 : p = (guardO (C a b) (g a b)).bind fun c => k c s) : Ev e S N ts (tOp r ta tb) L s p k := by
  subst e0
  exact ev_opP (C := C) (g := g) h1 h2 o
theorem ev_opSR {g : α → γ → δ} {k : δ → τ → Option ρ} {a : α} (h1 : Pu e S N ts ta L a) (h2 : ∀ v, Ev e S N ts tb ((v, av K a) :: L) s p fun (b : γ) s2 => (some (g a b)).bind fun c => k c s2) (o : Op2 K r C2 g) : Ev e S N ts (tOp r ta tb) L s p k := fun hp σ H Q at_ q =>
  h1 s σ H _ at_ fun x H1 a1 => h2 x hp σ H1 _ a1 fun b s2 y H2 e2 a2 => o S H2 x y a b Q a2.c.old (a2.get m1) (a2.get m0) trivial fun v H' k r => q _ _ v H' e2 (a2.res (L' := [_, _]) k r)
theorem ev_opSL {g : α → γ → δ} {k : δ → τ → Option ρ} {b : γ} (h1 : Ev e S N ts ta L s p fun (a : α) s1 => (some (g a b)).bind fun c => k c s1) (h2 : ∀ (a : α) v, Pu e S N ts tb ((v, av K a) :: L) b) (o : Op2 K r C2 g) : Ev e S N ts (tOp r ta tb) L s p k := fun hp σ H Q at_ q =>
  h1 hp σ H _ at_ fun a s1 x H1 e1 a1 => h2 a x s1 σ H1 _ a1 fun y H2 a2 => o S H2 x y a b Q a2.c.old (a2.get m1) (a2.get m0) trivial fun v H' k r => q _ _ v H' e1 (a2.res (L' := [_, _]) k r)
theorem evA_consY {As : Type} [Ra K As] {tA : TA} {k1 : α → τ → Option ρ} {k : α × As → τ → Option ρ} (h2 : ∀ a s1 v, EvA e S N ts tA ((v, av K a) :: L) s1 (k1 a s1) fun as s2 => k (a, as) s2) (h1 : Ev e S N ts te L s p k1) : EvA e S N ts (tCons te tA) L s p k := evA_cons h1 h2
theorem ev_methWO {As Bs Cs : Type} [Ra K As] [Ra K Bs] [Ra K Cs] {tA tB : TA} [Ob K α] {m : Str} {n n' : Nat} {gV : List V → List V → List V} {F : α → As → Bs → Cs} {f : Cs → Option γ} {o : α} {as : As} {k : γ → τ → Option ρ} (hm : lkp (Ob.ns K α) m = none)
    (hF : ∀ {S : List Addr} {H : Hp} {vs zs : List V} {o : α} {as : As} {bs : Bs}, AllV S H vs (av K o :: Ra.avs K as) → AllV S H zs (Ra.avs K bs) → vs.length = n ∧ zs.length = n' ∧ AllV S H (gV vs zs) (Ra.avs K (F o as bs)))
    (h : Pu e S N ts ta L o) (h2 : ∀ v, PuA e S N ts tA ((v, av K o) :: L) as) (h3 : ∀ v w, EvA e S N ts tB ((.non, allA w (Ra.avs K as)) :: (v, av K o) :: L) s p fun bs s3 => (f (F o as bs)).bind fun b => k b s3) :
    Ev e S N ts (tMW (Ob.C K α) m n n' gV (SpF K f) E0 ta tA tB) L s p k := fun hp σ H Q at_ q => h s σ H _ at_ fun y H1 a1 => by
  have z : Rv.R K S H1 y o := a1.get m0
  obtain ⟨a, dx, fs, rfl, fx, hn, hA⟩ := Ob.ob z
  rw [← hn] at hm
  refine ⟨a, dx, fs, rfl, fx.2, lkp_none hm, h2 (.ref a) s σ H1 _ a1 fun vs H2 a2 => h3 (.ref a) vs hp σ H2 _ a2 fun bs s3 zs H3 e3 a3 => ?_⟩
  obtain ⟨b, hb, e4⟩ := Option.bind_eq_some_iff.mp e3
  have w1 : AllV S H3 (.ref a :: vs) (av K o :: Ra.avs K as) := ⟨a3.get m2, a3.get (v := .non) (A := allA vs (Ra.avs K as)) m1⟩
  have w2 : AllV S H3 zs (Ra.avs K bs) := a3.get (v := .non) (A := allA zs (Ra.avs K bs)) m0
  obtain ⟨l1, l2, hv⟩ := hF w1 w2
  exact ⟨l1, l2, call_F (f := f) (as := F o as bs) (vs := gV (.ref a :: vs) zs) ((a3.less (fun f hf => List.mem_cons_of_mem _ (List.mem_cons_of_mem _ (List.mem_cons_of_mem _ hf)))).add (v := .non) (A := allA (gV (.ref a :: vs) zs) (Ra.avs K (F o as bs))) hv) hb fun w H3 a3 => q b s3 w H3 e4 a3⟩
theorem ev_methO {As : Type} [Ra K As] {tA : TA} [Ob K α] {m : Str} {f : α × As → Option γ} {o : α} {k : γ → τ → Option ρ} (hm : lkp (Ob.ns K α) m = none) (h : Pu e S N ts ta L o) (h2 : ∀ v, EvA e S N ts tA ((v, av K o) :: L) s p fun as s2 => (f (o, as)).bind fun b => k b s2) :
    Ev e S N ts (tMC (Ob.C K α) m (fun vs H Q => SpF K f vs H Q E0) ta tA) L s p k := fun hp σ H Q at_ q => h s σ H _ at_ fun y H1 a1 => by
  have z : Rv.R K S H1 y o := a1.get m0
  obtain ⟨a, dx, fs, rfl, fx, hn, hA⟩ := Ob.ob z
  rw [← hn] at hm
  refine ⟨a, dx, fs, rfl, fx.2, lkp_none hm, h2 (.ref a) hp σ H1 _ a1 fun as s2 vs H2 e2 a2 => ?_⟩
  obtain ⟨b, hb, e3⟩ := Option.bind_eq_some_iff.mp e2
  exact call_F (f := f) (as := (o, as)) ((a2.less (fun f hf => List.mem_cons_of_mem _ (List.mem_cons_of_mem _ hf))).add (v := .non) (A := allA (.ref a :: vs) (av K o :: Ra.avs K as)) ⟨a2.get m1, a2.get (v := .non) (A := allA vs (Ra.avs K as)) m0⟩) hb fun w H3 a3 => q b s2 w H3 e3 a3
end
end Lx

set_option Elab.async false
set_option linter.all false
set_option maxRecDepth 100000
set_option maxHeartbeats 4000000
/-! enumerate over a zip of three lists -/
namespace PySem
open Sem (wp)
structure ZipApart3 (z TI TO i1 i2 i3 l1 l2 l3 : Addr) : Prop where
  TIz : TI ≠ z
  TOz : TO ≠ z
  i1z : i1 ≠ z
  i2z : i2 ≠ z
  i3z : i3 ≠ z
  TITO : TI ≠ TO
  TIi1 : TI ≠ i1
  TIi2 : TI ≠ i2
  TIi3 : TI ≠ i3
  TOi1 : TO ≠ i1
  TOi2 : TO ≠ i2
  TOi3 : TO ≠ i3
  i12 : i1 ≠ i2
  i13 : i1 ≠ i3
  i23 : i2 ≠ i3
  l1z : l1 ≠ z
  l1TO : l1 ≠ TO
  l1i1 : l1 ≠ i1
  l1i2 : l1 ≠ i2
  l1i3 : l1 ≠ i3
  l2z : l2 ≠ z
  l2TO : l2 ≠ TO
  l2i1 : l2 ≠ i1
  l2i2 : l2 ≠ i2
  l2i3 : l2 ≠ i3
  l3z : l3 ≠ z
  l3TO : l3 ≠ TO
  l3i1 : l3 ≠ i1
  l3i2 : l3 ≠ i2
  l3i3 : l3 ≠ i3
theorem apart3 (I l1 l2 l3 : Nat) (h1 : l1 < I) (h2 : l2 < I) (h3 : l3 < I) : ZipApart3 (I + 5) (I + 3) (I + 4) I (I + 1) (I + 2) l1 l2 l3 := by
  constructor <;> (refine PySem.W.neN ?_; omega)
section
variable {prog : Program} {w : World} {A : Around} {E : Value → Shared → Prop} {s : Shared}
theorem wpAny_updateSeq_tup {T : Addr} {a b c x : Value} {k : Nat} {Q : Unit → Shared → Prop} (hT : s.heap.get? T = some { cls := .type "tuple", data := .seq #[a, b, c] })
    (h : ∀ h', h'.get? T = some { cls := .type "tuple", data := .seq ((#[a, b, c] : Array Value).setIfInBounds k x) } → Heap.SameBut T s.heap h' → Q () { s with heap := h' }) :
    wpAny (model prog w) A (updateSeq T (·.setIfInBounds k x)) Q E s := by
  refine wpAny_updateSeq hT rfl (h _ ?_ (Heap.SameBut.update ..))
  rw [Heap.get?_update_self _ hT rfl]
  simp [Obj.mapSeq]
abbrev IsTri (h : Heap) (T : Addr) (a b c : Value) : Prop := h.get? T = some { cls := .type "tuple", data := .seq #[a, b, c] }
theorem zip_next_any3 {z TI TO i1 i2 i3 l1 l2 l3 : Addr} {k1 k2 k3 : Nat} {xs ys zs : Array Value} {x y u a b c f0 : Value} {fb : Bool} {Q : Value → Shared → Prop} (D : ZipApart3 z TI TO i1 i2 i3 l1 l2 l3)
    (hz : IsZipB s.heap z TI TO f0 fb) (hf : Hd0 f0) (hTI : IsTri s.heap TI (.ref i1) (.ref i2) (.ref i3)) (hTO : IsTri s.heap TO a b c)
    (h1 : s.heap.IsListIter i1 l1 k1) (h2 : s.heap.IsListIter i2 l2 k2) (h3 : s.heap.IsListIter i3 l3 k3) (hl1 : s.heap.IsList l1 xs) (hl2 : s.heap.IsList l2 ys) (hl3 : s.heap.IsList l3 zs) (hx : xs[k1]? = some x) (hy : ys[k2]? = some y) (hu : zs[k3]? = some u)
    (hQ : ∀ h', (∃ f b, IsZipB h' z TI TO f b ∧ Hd0 f) → (∃ a b c, IsTri h' TO a b c) → h'.IsListIter i1 l1 (k1 + 1) → h'.IsListIter i2 l2 (k2 + 1) → h'.IsListIter i3 l3 (k3 + 1) → IsTri h' s.heap.objs.size x y u → h'.objs.size = s.heap.objs.size + 1 →
      (∀ c₀ o, c₀ ≠ z → c₀ ≠ TO → c₀ ≠ i1 → c₀ ≠ i2 → c₀ ≠ i3 → s.heap.get? c₀ = some o → h'.get? c₀ = some o) → Q (.ref s.heap.objs.size) { s with heap := h' }) :
    wpAny (model prog w) A (Builtin.«zip.__next__» ⟨[.ref z], []⟩) (fun fin s' => ∃ v, fin = .done (.ret v) ∧ Q v s') E s := by
  show wpAny _ _ (field (.ref z) 2 >>= _) _ _ _
  refine wpAny_bind (wpAny_field hz rfl (x := .bool false) rfl ?_)
  show wpAny _ _ (field (.ref z) 3 >>= _) _ _ _
  refine wpAny_bind (wpAny_field hz rfl (x := .ref TI) rfl ?_)
  refine wpAny_bind (wpAny_seqItems hTI rfl ?_)
  show wpAny _ _ (Builtin.SmallTypes.ownedTupleIsFree (.ref z) >>= _) _ _ _
  refine wpAny_bind (owned_free hz hf ?_ fun h₀ hz₀ hs₀ => ?_)
  · simp only [if_true]
    refine wpAny_bind (wpAny_rule ?_)
    refine wpAny_bind (wpAny_field hz rfl (x := .ref TO) rfl ?_)
    refine wpAny_bind (wpAny_setField_rec hz (by simp) fun h₁ hz₁ hs₁ => ?_)
    replace hz₁ : IsZipB h₁ z TI TO .ellipsis fb := hz₁
    refine wpAny_bind ?_
    simp only [List.zipIdx_cons, List.zipIdx_nil, List.forIn_cons, List.forIn_nil]
    refine wpAny_bind (wpAny_bind (wpAny_onRaise ?_))
    show wpAny _ _ (Builtin.SmallTypes.nextOf (.ref i1) >>= _) _ _ _
    refine wpAny_bind (wpAny_nextOf_list_item (h1.extBut hs₁.extBut D.i1z) (hl1.extBut hs₁.extBut D.l1z) hx fun h₂ h1₂ hs₂ => wpAny_pure ?_)
    have hTO₂ : IsTri h₂ TO a b c := hs₂.extBut _ _ D.TOi1 (hs₁.extBut _ _ D.TOz hTO)
    refine wpAny_bind (wpAny_seqItems hTO₂ rfl ?_)
    refine wpAny_bind (wpAny_updateSeq_tup hTO₂ fun h₃ hTO₃ hs₃ => ?_)
    replace hTO₃ : IsTri h₃ TO x b c := hTO₃
    refine wpAny_bind (wpAny_letGo (wpAny_pure ?_))
    refine wpAny_bind (wpAny_bind (wpAny_onRaise ?_))
    show wpAny _ _ (Builtin.SmallTypes.nextOf (.ref i2) >>= _) _ _ _
    refine wpAny_bind (wpAny_nextOf_list_item (((h2.extBut hs₁.extBut D.i2z).extBut hs₂.extBut D.i12.symm).extBut hs₃.extBut D.TOi2.symm)
      (((hl2.extBut hs₁.extBut D.l2z).extBut hs₂.extBut D.l2i1).extBut hs₃.extBut D.l2TO) hy fun h₄ h2₄ hs₄ => wpAny_pure ?_)
    have hTO₄ : IsTri h₄ TO x b c := hs₄.extBut _ _ D.TOi2 hTO₃
    refine wpAny_bind (wpAny_seqItems hTO₄ rfl ?_)
    refine wpAny_bind (wpAny_updateSeq_tup hTO₄ fun h₅ hTO₅ hs₅ => ?_)
    replace hTO₅ : IsTri h₅ TO x y c := hTO₅
    refine wpAny_bind (wpAny_letGo (wpAny_pure ?_))
    refine wpAny_bind (wpAny_bind (wpAny_onRaise ?_))
    show wpAny _ _ (Builtin.SmallTypes.nextOf (.ref i3) >>= _) _ _ _
    refine wpAny_bind (wpAny_nextOf_list_item (((((h3.extBut hs₁.extBut D.i3z).extBut hs₂.extBut D.i13.symm).extBut hs₃.extBut D.TOi3.symm).extBut hs₄.extBut D.i23.symm).extBut hs₅.extBut D.TOi3.symm)
      (((((hl3.extBut hs₁.extBut D.l3z).extBut hs₂.extBut D.l3i1).extBut hs₃.extBut D.l3TO).extBut hs₄.extBut D.l3i2).extBut hs₅.extBut D.l3TO) hu fun h₆ h3₆ hs₆ => wpAny_pure ?_)
    have hTO₆ : IsTri h₆ TO x y c := hs₆.extBut _ _ D.TOi3 hTO₅
    refine wpAny_bind (wpAny_seqItems hTO₆ rfl ?_)
    refine wpAny_bind (wpAny_updateSeq_tup hTO₆ fun h₇ hTO₇ hs₇ => ?_)
    replace hTO₇ : IsTri h₇ TO x y u := hTO₇
    refine wpAny_bind (wpAny_letGo (wpAny_pure (wpAny_pure ?_)))
    refine wpAny_bind (wpAny_seqItems hTO₇ rfl ?_)
    refine wpAny_bind (wpAny_newTuple ?_)
    have hsz : h₇.objs.size = s.heap.objs.size := by rw [hs₇.1, hs₆.1, hs₅.1, hs₄.1, hs₃.1, hs₂.1, hs₁.1]
    have hz₇ : IsZipB h₇ z TI TO .ellipsis fb := hs₇.extBut _ _ D.TOz.symm (hs₆.extBut _ _ D.i3z.symm (hs₅.extBut _ _ D.TOz.symm (hs₄.extBut _ _ D.i2z.symm (hs₃.extBut _ _ D.TOz.symm (hs₂.extBut _ _ D.i1z.symm hz₁)))))
    have hk₇ : ∀ c₀ o, c₀ ≠ z → c₀ ≠ TO → c₀ ≠ i1 → c₀ ≠ i2 → c₀ ≠ i3 → s.heap.get? c₀ = some o → h₇.get? c₀ = some o := fun c₀ o c1 c2 c3 c4 c5 e =>
      hs₇.extBut _ _ c2 (hs₆.extBut _ _ c5 (hs₅.extBut _ _ c2 (hs₄.extBut _ _ c4 (hs₃.extBut _ _ c2 (hs₂.extBut _ _ c3 (hs₁.extBut _ _ c1 e))))))
    have h1₇ : h₇.IsListIter i1 l1 (k1 + 1) := ((((h1₂.extBut hs₃.extBut D.TOi1.symm).extBut hs₄.extBut D.i12).extBut hs₅.extBut D.TOi1.symm).extBut hs₆.extBut D.i13).extBut hs₇.extBut D.TOi1.symm
    have h2₇ : h₇.IsListIter i2 l2 (k2 + 1) := ((h2₄.extBut hs₅.extBut D.TOi2.symm).extBut hs₆.extBut D.i23).extBut hs₇.extBut D.TOi2.symm
    have h3₇ : h₇.IsListIter i3 l3 (k3 + 1) := h3₆.extBut hs₇.extBut D.TOi3.symm
    have hzlt : z < h₇.objs.size := Heap.lt_size hz₇
    show wpAny _ _ (Builtin.SmallTypes.ownedTupleHandOut (.ref z) (.ref h₇.objs.size) >>= _) _ _ _
    refine wpAny_bind ?_
    unfold Builtin.SmallTypes.ownedTupleHandOut
    have hz₈ : IsZipB (h₇.push { cls := .type "tuple", data := .seq #[x, y, u] }) z TI TO .ellipsis fb := Heap.get?_push_of_some _ hz₇
    refine wpAny_bind (wpAny_setField_rec hz₈ (by simp) fun h₉ hz₉ hs₉ => ?_)
    replace hz₉ : IsZipB h₉ z TI TO (rawInt h₇.objs.size) fb := hz₉
    refine wpAny_setField_rec hz₉ (by simp) fun hA hzA hsA => ?_
    replace hzA : IsZipB hA z TI TO (rawInt h₇.objs.size) false := hzA
    have up : ∀ c o, c ≠ z → h₇.get? c = some o → hA.get? c = some o := fun c o c1 e => hsA.extBut _ _ c1 (hs₉.extBut _ _ c1 (Heap.get?_push_of_some _ e))
    have hTA : IsTri hA h₇.objs.size x y u := hsA.extBut _ _ (Nat.ne_of_gt hzlt) (hs₉.extBut _ _ (Nat.ne_of_gt hzlt) (Heap.get?_push_size _ rfl))
    have hz8 : hA.objs.size = h₇.objs.size + 1 := by rw [hsA.1, hs₉.1, Heap.size_push]
    rw [hsz] at hzA hTA hz8
    refine wpAny_pure ⟨_, rfl, ?_⟩
    show Q (.ref h₇.objs.size) _
    rw [hsz]
    exact hQ hA ⟨_, _, hzA, .inr ⟨_, _, rfl⟩⟩ ⟨_, _, _, up _ _ D.TOz hTO₇⟩ (h1₇.at fun o e => up _ o D.i1z e) (h2₇.at fun o e => up _ o D.i2z e) (h3₇.at fun o e => up _ o D.i3z e) hTA hz8 fun c o c1 c2 c3 c4 c5 e => up c o c1 (hk₇ c o c1 c2 c3 c4 c5 e)
  · simp only [Bool.false_eq_true, if_false]
    simp only [List.forIn_toArray, List.forIn_cons, List.forIn_nil]
    refine wpAny_bind (wpAny_bind (wpAny_bind (wpAny_holding ?_)))
    show wpAny _ _ (Builtin.SmallTypes.nextOf (.ref i1) >>= _) _ _ _
    refine wpAny_bind (wpAny_nextOf_list_item (h1.extBut hs₀.extBut D.i1z) (hl1.extBut hs₀.extBut D.l1z) hx fun h₂ h1₂ hs₂ => wpAny_pure ?_)
    refine wpAny_pure ?_
    refine wpAny_bind (wpAny_bind (wpAny_holding ?_))
    show wpAny _ _ (Builtin.SmallTypes.nextOf (.ref i2) >>= _) _ _ _
    refine wpAny_bind (wpAny_nextOf_list_item ((h2.extBut hs₀.extBut D.i2z).extBut hs₂.extBut D.i12.symm) ((hl2.extBut hs₀.extBut D.l2z).extBut hs₂.extBut D.l2i1) hy fun h₄ h2₄ hs₄ => wpAny_pure ?_)
    refine wpAny_pure ?_
    refine wpAny_bind (wpAny_bind (wpAny_holding ?_))
    show wpAny _ _ (Builtin.SmallTypes.nextOf (.ref i3) >>= _) _ _ _
    refine wpAny_bind (wpAny_nextOf_list_item (((h3.extBut hs₀.extBut D.i3z).extBut hs₂.extBut D.i13.symm).extBut hs₄.extBut D.i23.symm) (((hl3.extBut hs₀.extBut D.l3z).extBut hs₂.extBut D.l3i1).extBut hs₄.extBut D.l3i2) hu fun h₆ h3₆ hs₆ => wpAny_pure ?_)
    refine wpAny_pure (wpAny_pure ?_)
    show wpAny _ _ (newTuple [x, y, u] >>= _) _ _ _
    refine wpAny_bind (wpAny_newTuple (wpAny_pure ⟨_, rfl, ?_⟩))
    have hsz : h₆.objs.size = s.heap.objs.size := by rw [hs₆.1, hs₄.1, hs₂.1, hs₀.1]
    have hk : ∀ c o, c ≠ z → c ≠ i1 → c ≠ i2 → c ≠ i3 → s.heap.get? c = some o → h₆.get? c = some o := fun c o c1 c3 c4 c5 e => hs₆.extBut _ _ c5 (hs₄.extBut _ _ c4 (hs₂.extBut _ _ c3 (hs₀.extBut _ _ c1 e)))
    have hz₆ : IsZipB h₆ z TI TO f0 true := hs₆.extBut _ _ D.i3z.symm (hs₄.extBut _ _ D.i2z.symm (hs₂.extBut _ _ D.i1z.symm hz₀))
    have h1₆ : h₆.IsListIter i1 l1 (k1 + 1) := (h1₂.extBut hs₄.extBut D.i12).extBut hs₆.extBut D.i13
    have h2₆ : h₆.IsListIter i2 l2 (k2 + 1) := h2₄.extBut hs₆.extBut D.i23
    have up : ∀ c o, h₆.get? c = some o → (h₆.push { cls := .type "tuple", data := .seq #[x, y, u] }).get? c = some o := fun c o e => Heap.get?_push_of_some _ e
    show Q (.ref h₆.objs.size) _
    rw [hsz]
    refine hQ _ ⟨_, _, up _ _ hz₆, hf⟩ ⟨a, b, c, up _ _ (hk _ _ D.TOz D.TOi1 D.TOi2 D.TOi3 hTO)⟩ (h1₆.at fun o e => up _ o e) (h2₆.at fun o e => up _ o e) (h3₆.at fun o e => up _ o e) ?_ ?_ fun c o c1 c2 c3 c4 c5 e => up _ _ (hk c o c1 c3 c4 c5 e)
    · have := Heap.get?_push_size h₆ (o := { cls := .type "tuple", data := .seq #[x, y, u] }) rfl
      rw [hsz] at this
      exact this
    · rw [Heap.size_push, hsz]
theorem zip_end_any3 {z TI TO i1 i2 i3 l1 l2 l3 : Addr} {k1 k2 k3 : Nat} {xs ys zs : Array Value} {a b c f0 : Value} {fb : Bool} {Q : Fin → Shared → Prop} (hh : A.handled = none) (D : ZipApart3 z TI TO i1 i2 i3 l1 l2 l3)
    (hz : IsZipB s.heap z TI TO f0 fb) (hf : Hd0 f0) (hTI : IsTri s.heap TI (.ref i1) (.ref i2) (.ref i3)) (hTO : IsTri s.heap TO a b c)
    (h1 : s.heap.IsListIter i1 l1 k1) (h2 : s.heap.IsListIter i2 l2 k2) (h3 : s.heap.IsListIter i3 l3 k3) (hl1 : s.heap.IsList l1 xs) (hl2 : s.heap.IsList l2 ys) (hl3 : s.heap.IsList l3 zs) (hend : xs[k1]? = none ∨ ys[k2]? = none ∨ zs[k3]? = none)
    (hE : ∀ h' e, (∀ c₀ o, c₀ ≠ z → c₀ ≠ TO → c₀ ≠ i1 → c₀ ≠ i2 → c₀ ≠ i3 → s.heap.get? c₀ = some o → h'.get? c₀ = some o) → (∃ o, h'.get? e = some o ∧ o.cls = .type "StopIteration") → E (.ref e) { s with heap := h' }) :
    wpAny (model prog w) A (Builtin.«zip.__next__» ⟨[.ref z], []⟩) Q E s := by
  show wpAny _ _ (field (.ref z) 2 >>= _) _ _ _
  refine wpAny_bind (wpAny_field hz rfl (x := .bool false) rfl ?_)
  show wpAny _ _ (field (.ref z) 3 >>= _) _ _ _
  refine wpAny_bind (wpAny_field hz rfl (x := .ref TI) rfl ?_)
  refine wpAny_bind (wpAny_seqItems hTI rfl ?_)
  show wpAny _ _ (Builtin.SmallTypes.ownedTupleIsFree (.ref z) >>= _) _ _ _
  refine wpAny_bind (owned_free hz hf ?_ fun h₀ hz₀ hs₀ => ?_)
  · simp only [if_true]
    refine wpAny_bind (wpAny_rule ?_)
    refine wpAny_bind (wpAny_field hz rfl (x := .ref TO) rfl ?_)
    refine wpAny_bind (wpAny_setField_rec hz (by simp) fun h₁ hz₁ hs₁ => ?_)
    replace hz₁ : IsZipB h₁ z TI TO .ellipsis fb := hz₁
    refine wpAny_bind ?_
    simp only [List.zipIdx_cons, List.zipIdx_nil, List.forIn_cons, List.forIn_nil]
    refine wpAny_bind (wpAny_bind (wpAny_onRaise ?_))
    show wpAny _ _ (Builtin.SmallTypes.nextOf (.ref i1) >>= _) _ _ _
    have stop : ∀ (h₂ : Heap) (e : Addr), (∀ c₀ o, c₀ ≠ z → c₀ ≠ TO → c₀ ≠ i1 → c₀ ≠ i2 → c₀ ≠ i3 → s.heap.get? c₀ = some o → h₂.get? c₀ = some o) → IsZipB h₂ z TI TO .ellipsis fb → (∃ o, h₂.get? e = some o ∧ o.cls = .type "StopIteration") → wpAny (model prog w) A (setField (.ref z) 0 .none) (fun _ s' => E (.ref e) s') E { s with heap := h₂ } := fun h₂ e hk hz₂ he => by
      obtain ⟨oe, hoe, hce⟩ := he
      have hez : e ≠ z := fun x => by subst x; rw [hz₂] at hoe; cases hoe; simp at hce
      exact wpAny_setField_rec hz₂ (by simp) fun h₃ _ hs₃ => hE h₃ e (fun c o c1 c2 c3 c4 c5 x => hs₃.extBut _ _ c1 (hk c o c1 c2 c3 c4 c5 x)) ⟨oe, hs₃.extBut _ _ hez hoe, hce⟩
    cases hx : xs[k1]? with
    | none =>
      refine wpAny_bind (wpAny_nextOf_list_end hh (h1.extBut hs₁.extBut D.i1z) (hl1.extBut hs₁.extBut D.l1z) hx fun h₂ e hs₂ he => ?_)
      exact stop h₂ e (fun c o c1 _ c3 _ _ x => hs₂ _ _ c3 (hs₁.extBut _ _ c1 x)) (hs₂ _ _ D.i1z.symm hz₁) he
    | some x =>
      refine wpAny_bind (wpAny_nextOf_list_item (h1.extBut hs₁.extBut D.i1z) (hl1.extBut hs₁.extBut D.l1z) hx fun h₂ h1₂ hs₂ => wpAny_pure ?_)
      have hTO₂ : IsTri h₂ TO a b c := hs₂.extBut _ _ D.TOi1 (hs₁.extBut _ _ D.TOz hTO)
      refine wpAny_bind (wpAny_seqItems hTO₂ rfl ?_)
      refine wpAny_bind (wpAny_updateSeq_tup hTO₂ fun h₃ hTO₃ hs₃ => ?_)
      replace hTO₃ : IsTri h₃ TO x b c := hTO₃
      refine wpAny_bind (wpAny_letGo (wpAny_pure ?_))
      refine wpAny_bind (wpAny_bind (wpAny_onRaise ?_))
      show wpAny _ _ (Builtin.SmallTypes.nextOf (.ref i2) >>= _) _ _ _
      have hz₃ : IsZipB h₃ z TI TO .ellipsis fb := hs₃.extBut _ _ D.TOz.symm (hs₂.extBut _ _ D.i1z.symm hz₁)
      cases hy : ys[k2]? with
      | none =>
        refine wpAny_bind (wpAny_nextOf_list_end hh (((h2.extBut hs₁.extBut D.i2z).extBut hs₂.extBut D.i12.symm).extBut hs₃.extBut D.TOi2.symm)
          (((hl2.extBut hs₁.extBut D.l2z).extBut hs₂.extBut D.l2i1).extBut hs₃.extBut D.l2TO) hy fun h₄ e hs₄ he => ?_)
        exact stop h₄ e (fun c o c1 c2 c3 c4 _ x => hs₄ _ _ c4 (hs₃.extBut _ _ c2 (hs₂.extBut _ _ c3 (hs₁.extBut _ _ c1 x)))) (hs₄ _ _ D.i2z.symm hz₃) he
      | some y =>
        have hu : zs[k3]? = none := by
          rcases hend with h | h | h
          · rw [hx] at h; cases h
          · rw [hy] at h; cases h
          · exact h
        refine wpAny_bind (wpAny_nextOf_list_item (((h2.extBut hs₁.extBut D.i2z).extBut hs₂.extBut D.i12.symm).extBut hs₃.extBut D.TOi2.symm)
          (((hl2.extBut hs₁.extBut D.l2z).extBut hs₂.extBut D.l2i1).extBut hs₃.extBut D.l2TO) hy fun h₄ h2₄ hs₄ => wpAny_pure ?_)
        have hTO₄ : IsTri h₄ TO x b c := hs₄.extBut _ _ D.TOi2 hTO₃
        refine wpAny_bind (wpAny_seqItems hTO₄ rfl ?_)
        refine wpAny_bind (wpAny_updateSeq_tup hTO₄ fun h₅ hTO₅ hs₅ => ?_)
        refine wpAny_bind (wpAny_letGo (wpAny_pure ?_))
        refine wpAny_bind (wpAny_bind (wpAny_onRaise ?_))
        show wpAny _ _ (Builtin.SmallTypes.nextOf (.ref i3) >>= _) _ _ _
        refine wpAny_bind (wpAny_nextOf_list_end hh (((((h3.extBut hs₁.extBut D.i3z).extBut hs₂.extBut D.i13.symm).extBut hs₃.extBut D.TOi3.symm).extBut hs₄.extBut D.i23.symm).extBut hs₅.extBut D.TOi3.symm)
          (((((hl3.extBut hs₁.extBut D.l3z).extBut hs₂.extBut D.l3i1).extBut hs₃.extBut D.l3TO).extBut hs₄.extBut D.l3i2).extBut hs₅.extBut D.l3TO) hu fun h₆ e hs₆ he => ?_)
        exact stop h₆ e (fun c o c1 c2 c3 c4 c5 x => hs₆ _ _ c5 (hs₅.extBut _ _ c2 (hs₄.extBut _ _ c4 (hs₃.extBut _ _ c2 (hs₂.extBut _ _ c3 (hs₁.extBut _ _ c1 x)))))) (hs₆ _ _ D.i3z.symm (hs₅.extBut _ _ D.TOz.symm (hs₄.extBut _ _ D.i2z.symm hz₃))) he
  · simp only [Bool.false_eq_true, if_false]
    simp only [List.forIn_toArray, List.forIn_cons, List.forIn_nil]
    refine wpAny_bind (wpAny_bind (wpAny_bind (wpAny_holding ?_)))
    show wpAny _ _ (Builtin.SmallTypes.nextOf (.ref i1) >>= _) _ _ _
    cases hx : xs[k1]? with
    | none =>
      refine wpAny_bind (wpAny_nextOf_list_end hh (h1.extBut hs₀.extBut D.i1z) (hl1.extBut hs₀.extBut D.l1z) hx fun h₂ e hs₂ he => ?_)
      exact hE h₂ e (fun c o c1 _ c3 _ _ x => hs₂ _ _ c3 (hs₀.extBut _ _ c1 x)) he
    | some x =>
      refine wpAny_bind (wpAny_nextOf_list_item (h1.extBut hs₀.extBut D.i1z) (hl1.extBut hs₀.extBut D.l1z) hx fun h₂ h1₂ hs₂ => wpAny_pure ?_)
      refine wpAny_pure ?_
      refine wpAny_bind (wpAny_bind (wpAny_holding ?_))
      show wpAny _ _ (Builtin.SmallTypes.nextOf (.ref i2) >>= _) _ _ _
      cases hy : ys[k2]? with
      | none =>
        refine wpAny_bind (wpAny_nextOf_list_end hh ((h2.extBut hs₀.extBut D.i2z).extBut hs₂.extBut D.i12.symm) ((hl2.extBut hs₀.extBut D.l2z).extBut hs₂.extBut D.l2i1) hy fun h₄ e hs₄ he => ?_)
        exact hE h₄ e (fun c o c1 _ c3 c4 _ x => hs₄ _ _ c4 (hs₂.extBut _ _ c3 (hs₀.extBut _ _ c1 x))) he
      | some y =>
        have hu : zs[k3]? = none := by
          rcases hend with h | h | h
          · rw [hx] at h; cases h
          · rw [hy] at h; cases h
          · exact h
        refine wpAny_bind (wpAny_nextOf_list_item ((h2.extBut hs₀.extBut D.i2z).extBut hs₂.extBut D.i12.symm) ((hl2.extBut hs₀.extBut D.l2z).extBut hs₂.extBut D.l2i1) hy fun h₄ h2₄ hs₄ => wpAny_pure ?_)
        refine wpAny_pure ?_
        refine wpAny_bind (wpAny_bind (wpAny_holding ?_))
        show wpAny _ _ (Builtin.SmallTypes.nextOf (.ref i3) >>= _) _ _ _
        refine wpAny_bind (wpAny_nextOf_list_end hh (((h3.extBut hs₀.extBut D.i3z).extBut hs₂.extBut D.i13.symm).extBut hs₄.extBut D.i23.symm) (((hl3.extBut hs₀.extBut D.l3z).extBut hs₂.extBut D.l3i1).extBut hs₄.extBut D.l3i2) hu fun h₆ e hs₆ he => ?_)
        exact hE h₆ e (fun c o c1 _ c3 c4 c5 x => hs₆ _ _ c5 (hs₄.extBut _ _ c4 (hs₂.extBut _ _ c3 (hs₀.extBut _ _ c1 x)))) he
end
end PySem

namespace PySem
section
variable {prog : Program} {w : World} {A : Around}
def ZSt3 (z TI TO i1 i2 i3 l1 l2 l3 : Addr) (i : Nat) (h : Heap) : Prop := (∃ f b, IsZipB h z TI TO f b ∧ Hd0 f) ∧ IsTri h TI (.ref i1) (.ref i2) (.ref i3) ∧ (∃ x y u, IsTri h TO x y u) ∧ h.IsListIter i1 l1 i ∧ h.IsListIter i2 l2 i ∧ h.IsListIter i3 l3 i
theorem draws_zip3 {z TI TO i1 i2 i3 l1 l2 l3 : Addr} {xs ys zs : Array Value} (hh : A.handled = none) (D : ZipApart3 z TI TO i1 i2 i3 l1 l2 l3) :
    DrawsN prog w A z [z, TI, TO, i1, i2, i3, l1, l2, l3] [z, TO, i1, i2, i3] (fun i vs => ∃ x y u, xs[i]? = some x ∧ ys[i]? = some y ∧ zs[i]? = some u ∧ vs = [x, y, u]) (fun i h => ZSt3 z TI TO i1 i2 i3 l1 l2 l3 i h ∧ h.IsList l1 xs ∧ h.IsList l2 ys ∧ h.IsList l3 zs) (fun i => (∃ x, xs[i]? = some x) ∧ (∃ y, ys[i]? = some y) ∧ ∃ u, zs[i]? = some u) (fun i => xs[i]? = none ∨ ys[i]? = none ∨ zs[i]? = none) where
  live := fun i h st => let ⟨⟨⟨_, _, hz, _⟩, _⟩, _⟩ := st; ⟨_, hz⟩
  frame := fun i h h' st k => by
    obtain ⟨⟨⟨f, b, hz, hf⟩, hTI, ⟨x, y, u, hTO⟩, h1, h2, h3⟩, hl1, hl2, hl3⟩ := st
    exact ⟨⟨⟨f, b, k z (by simp) _ hz, hf⟩, k TI (by simp) _ hTI, ⟨x, y, u, k TO (by simp) _ hTO⟩, h1.at fun o e => k i1 (by simp) o e, h2.at fun o e => k i2 (by simp) o e, h3.at fun o e => k i3 (by simp) o e⟩, hl1.at fun o e => k l1 (by simp) o e, hl2.at fun o e => k l2 (by simp) o e, hl3.at fun o e => k l3 (by simp) o e⟩
  item := fun i s Q E st hgo hQ => by
    obtain ⟨⟨⟨f, b, hz, hf⟩, hTI, ⟨x0, y0, u0, hTO⟩, h1, h2, h3⟩, hl1, hl2, hl3⟩ := st
    obtain ⟨⟨x, hx⟩, ⟨y, hy⟩, u, hu⟩ := hgo
    have hT : s.TypeIs (.ref z) "zip" := ⟨_, hz, rfl⟩
    unfold Builtin.SmallTypes.nextOf
    refine wpAny_bind (wpAny_callSpecial?_slot (name := Str.ofString "__next__") hT F.slot_zip_next
      (wpAny_call_entry F.slot_zip_next hT F.entry_zip_next (zip_next_any3 D hz hf hTI hTO h1 h2 h3 hl1 hl2 hl3 hx hy hu fun h' a1 a2 a3 a4 a5 a6 a7 a8 => ?_) (F.args_zip_next_1 _)))
    refine wpAny_pure (hQ [x, y, u] h' ⟨x, y, u, hx, hy, hu, rfl⟩ ⟨⟨a1, a8 _ _ D.TIz D.TITO D.TIi1 D.TIi2 D.TIi3 hTI, a2, a3, a4, a5⟩, hl1.at fun o e => a8 _ o D.l1z D.l1TO D.l1i1 D.l1i2 D.l1i3 e, hl2.at fun o e => a8 _ o D.l2z D.l2TO D.l2i1 D.l2i2 D.l2i3 e, hl3.at fun o e => a8 _ o D.l3z D.l3TO D.l3i1 D.l3i2 D.l3i3 e⟩ a6 a7 fun c o hc e => ?_)
    exact a8 c o (fun q => hc (by simp [q])) (fun q => hc (by simp [q])) (fun q => hc (by simp [q])) (fun q => hc (by simp [q])) (fun q => hc (by simp [q])) e
  done := fun i s Q E st hs hE => by
    obtain ⟨⟨⟨f, b, hz, hf⟩, hTI, ⟨x0, y0, u0, hTO⟩, h1, h2, h3⟩, hl1, hl2, hl3⟩ := st
    have hT : s.TypeIs (.ref z) "zip" := ⟨_, hz, rfl⟩
    unfold Builtin.SmallTypes.nextOf
    refine wpAny_bind (wpAny_callSpecial?_slot (name := Str.ofString "__next__") hT F.slot_zip_next
      (wpAny_call_entry F.slot_zip_next hT F.entry_zip_next (zip_end_any3 hh D hz hf hTI hTO h1 h2 h3 hl1 hl2 hl3 hs fun h' e hk he => hE h' e (fun c o hc x => hk c o (fun q => hc (by simp [q])) (fun q => hc (by simp [q])) (fun q => hc (by simp [q])) (fun q => hc (by simp [q])) (fun q => hc (by simp [q])) x) he) (F.args_zip_next_1 _)))
end
end PySem
namespace Lw
open PySem PySem.Spec PyProof.Rows L2 StX
/-- numbered pairs of the lists at a and b, each in new tuples -/
def IteZ3 (K : PySem.W.Frag) (a b d : Addr) : It :=
  ⟨fun i H => ∃ (xs ys zs : List V) (x y t : V), SqL K H a xs ∧ SqL K H b ys ∧ SqL K H d zs ∧ xs[i]? = some x ∧ ys[i]? = some y ∧ zs[i]? = some t,
    fun i H v H' => ∃ P T x y t, v = .ref P ∧ H T = none ∧ upd H T (.tup [x, y, t]) P = none ∧ H' = upd (upd H T (.tup [x, y, t])) P (.tup [.int (i : Nat), .ref T]) ∧ (∀ xs, SqL K H a xs → xs[i]? = some x) ∧ (∀ ys, SqL K H b ys → ys[i]? = some y) ∧ ∀ zs, SqL K H d zs → zs[i]? = some t,
    fun i H => ∃ xs ys zs : List V, SqL K H a xs ∧ SqL K H b ys ∧ SqL K H d zs ∧ (xs.length ≤ i ∨ ys.length ≤ i ∨ zs.length ≤ i)⟩
theorem turn_enumZ3 {P : Program} {w : World} {K : PySem.W.Frag} {elts : List Expr} {kk : Nat} {tpos : Pos} {a b d e z TI TO i1 i2 i3 : Addr} (D : ZipApart3 z TI TO i1 i2 i3 a b d) (ez : e ≠ z) (eTI : e ≠ TI) (eTO : e ≠ TO) (e1 : e ≠ i1) (e2 : e ≠ i2) (e3 : e ≠ i3) :
    Turn P w K (.Tuple elts kk tpos) (IteZ3 K a b d) [e, z, TI, TO, i1, i2, i3] e (fun i h => (∃ old, IsEnum h e z ((i : Nat) : Int) old) ∧ ZSt3 z TI TO i1 i2 i3 a b d i h) where
  mem := by simp
  obj := fun i h st c hc => by
    obtain ⟨⟨old, he⟩, ⟨f, bb, hz, _⟩, hTI, ⟨x, y, t, hTO⟩, ⟨o1, q1, _, d1⟩, ⟨o2, q2, _, d2⟩, ⟨o3, q3, _, d3⟩⟩ := st
    have e' : c = e ∨ c = z ∨ c = TI ∨ c = TO ∨ c = i1 ∨ c = i2 ∨ c = i3 := by simpa using hc
    rcases e' with q | q | q | q | q | q | q
    · rw [q]; exact ⟨_, he, fun v q => nomatch q⟩
    · rw [q]; exact ⟨_, hz, fun v q => nomatch q⟩
    · rw [q]; exact ⟨_, hTI, fun v q => nomatch q⟩
    · rw [q]; exact ⟨_, hTO, fun v q => nomatch q⟩
    · rw [q]; exact ⟨o1, q1, fun v q => by rw [d1] at q; cases q⟩
    · rw [q]; exact ⟨o2, q2, fun v q => by rw [d2] at q; cases q⟩
    · rw [q]; exact ⟨o3, q3, fun v q => by rw [d3] at q; cases q⟩
  keep := fun i h h' st k => by
    obtain ⟨⟨old, he⟩, ⟨f, bb, hz, hf⟩, hTI, ⟨x, y, t, hTO⟩, h1, h2, h3⟩ := st
    exact ⟨⟨old, k e (by simp) _ he⟩, ⟨f, bb, k z (by simp) _ hz, hf⟩, k TI (by simp) _ hTI, ⟨x, y, t, k TO (by simp) _ hTO⟩, h1.at fun o q => k i1 (by simp) o q, h2.at fun o q => k i2 (by simp) o q, h3.at fun o q => k i3 (by simp) o q⟩
  item := by
    intro X hP hw hK hc i pins s σ H E I hf st hg
    subst hP hw hK
    obtain ⟨⟨old, he⟩, hZ⟩ := st
    obtain ⟨xs, ys, zs, x, y, t, hqx, hqy, hqt, hx, hy, ht⟩ := hg
    obtain ⟨its, rv, p, _⟩ := I.list hqx
    obtain ⟨its2, rv2, p2, _⟩ := I.list hqy
    obtain ⟨u, hu, ru⟩ := rv.get hx
    obtain ⟨u2, hu2, ru2⟩ := rv2.get hy
    obtain ⟨its3, rv3, p3, _⟩ := I.list hqt
    obtain ⟨u3, hu3, ru3⟩ := rv3.get ht
    have hel : e < s.heap.objs.size := Heap.lt_size he
    have hu' : its.toArray[i]? = some u := by simpa using hu
    have hu2' : its2.toArray[i]? = some u2 := by simpa using hu2
    have hu3' : its3.toArray[i]? = some u3 := by simpa using hu3
    refine enum_itemN (draws_zip3 (xs := its.toArray) (ys := its2.toArray) (zs := its3.toArray) (I.ok.hd hc) D) he ⟨hZ, p.isList, p2.isList, p3.isList⟩ ⟨⟨u, hu'⟩, ⟨u2, hu2'⟩, u3, hu3'⟩ (by simp [ez, eTO, e1, e2, e3]) fun vs h₁ h' tk hP hst hT hz₁ hk₁ ho hPr hsz hk => ?_
    obtain ⟨y1, y2, y3, g1, g2, g3, rfl⟩ := hP
    rw [hu'] at g1
    cases g1
    rw [hu2'] at g2
    cases g2
    rw [hu3'] at g3
    cases g3
    refine ⟨_, rfl, wpAny_letOwnedTupleGo_enum (s := { s with heap := h', toks := tk + 1 }) ho fun h'' he' sb => ?_⟩
    have nP : H s.heap.objs.size = none := I.hok.fresh (Nat.le_refl _)
    have newT : ObjOk X.prog X.w (upd H s.heap.objs.size (.tup [x, y, t])) h₁ s.heap.objs.size (.tup [x, y, t]) :=
      ⟨by show 3 ≤ sizeLine; decide, [u, u2, u3], .cons ru (.cons ru2 (.cons ru3 .nil)), ⟨_, hT, rfl, _, rfl⟩⟩
    have hfz : ∀ c ∈ [z, TO, i1, i2, i3], FpOk X pins H c := fun c hcm => hf c (by simp at hcm ⊢; rcases hcm with q | q | q | q | q <;> simp [q])
    have I1 : Inv X pins σ (upd H s.heap.objs.size (.tup [x, y, t])) { s with heap := h₁, toks := s.toks } :=
      I.turnedNew (ch := [z, TO, i1, i2, i3]) (fun c o hb q => hk₁ c o hb q) hfz (Nat.le_refl _) newT
    have heT : e ≠ s.heap.objs.size := Nat.ne_of_lt hel
    have hPr2 : h''.get? (s.heap.objs.size + 1) = some { cls := .type "tuple", data := .seq #[.int (i : Nat) tk, .ref s.heap.objs.size] } := (sb.2 _ (Nat.ne_of_gt (Nat.lt_succ_of_lt hel))).trans hPr
    have newP : ObjOk X.prog X.w (upd (upd H s.heap.objs.size (.tup [x, y, t])) (s.heap.objs.size + 1) (.tup [.int (i : Nat), .ref s.heap.objs.size])) h'' (s.heap.objs.size + 1) (.tup [.int (i : Nat), .ref s.heap.objs.size]) :=
      ⟨by show 2 ≤ sizeLine; decide, [.int (i : Nat) tk, .ref s.heap.objs.size], .cons ⟨_, rfl⟩ (.cons rfl .nil), ⟨_, hPr2, rfl, _, rfl⟩⟩
    have hle : ({ s with heap := h₁, toks := s.toks } : Shared).heap.objs.size ≤ s.heap.objs.size + 1 := Nat.le_of_eq hz₁
    have I2 : Inv X pins σ (upd (upd H s.heap.objs.size (.tup [x, y, t])) (s.heap.objs.size + 1) (.tup [.int (i : Nat), .ref s.heap.objs.size])) { s with heap := h'', toks := tk + 1 } :=
      I1.turnedNew (t' := tk + 1) (ch := [e]) (fun c o hb q => (sb.2 c (fun q' => hb (by simp [q']))).trans (hk c o (fun q' => hb (by simp [q'])) q)) (fun c hcm => by
        have e' : c = e := by simpa using hcm
        subst e'
        obtain ⟨f0, f1⟩ := hf c (by simp)
        exact ⟨by rw [upd_ne heT]; exact f0, f1⟩) hle newP
    have nP2 : upd H s.heap.objs.size (.tup [x, y, t]) (s.heap.objs.size + 1) = none := by
      rw [upd_ne (Nat.succ_ne_self _)]
      exact I.hok.fresh (Nat.le_succ _)
    have frE : ∀ c ∈ [z, TI, TO, i1, i2, i3, a, b, d], ∀ o, h₁.get? c = some o → h''.get? c = some o := fun c hcm o q => by
      have ne : c ≠ e := by
        intro q'
        rw [q'] at hcm
        have hcm : e = z ∨ e = TI ∨ e = TO ∨ e = i1 ∨ e = i2 ∨ e = i3 ∨ e = a ∨ e = b ∨ e = d := by simpa using hcm
        rcases hcm with g | g | g | g | g | g | g | g | g
        · exact ez g
        · exact eTI g
        · exact eTO g
        · exact e1 g
        · exact e2 g
        · exact e3 g
        · obtain ⟨o', ho', hcl', _⟩ := p.isList
          rw [← g, he] at ho'
          cases ho'
          simp at hcl'
        · obtain ⟨o', ho', hcl', _⟩ := p2.isList
          rw [← g, he] at ho'
          cases ho'
          simp at hcl'
        · obtain ⟨o', ho', hcl', _⟩ := p3.isList
          rw [← g, he] at ho'
          cases ho'
          simp at hcl'
      exact (sb.2 c ne).trans (hk c o ne q)
    have hst2 := (draws_zip3 (prog := X.prog) (w := X.w) (A := X.A.in1) (xs := its.toArray) (ys := its2.toArray) (zs := its3.toArray) (I.ok.hd hc) D).frame (i + 1) h₁ h'' hst frE
    refine ⟨.ref (s.heap.objs.size + 1), _, I2, rfl, ⟨_, _, x, y, t, rfl, nP, nP2, rfl, fun l hl => by rw [I.list_inj hl hqx]; exact hx, fun l hl => by rw [I.list_inj hl hqy]; exact hy, fun l hl => by rw [I.list_inj hl hqt]; exact ht⟩, ⟨⟨.ref s.heap.objs.size, ?_⟩, hst2.1⟩, fun c hcm => ?_⟩
    · have e1 : ((i + 1 : Nat) : Int) = (i : Int) + 1 := by omega
      rw [e1]; exact he'
    · have hlt : c < s.heap.objs.size := by
        obtain ⟨⟨f, bb, hz, _⟩, hTI, ⟨x0, y0, t0, hTO⟩, ⟨_, q1, _⟩, ⟨_, q2, _⟩, ⟨_, q3, _⟩⟩ := hZ
        have e' : c = e ∨ c = z ∨ c = TI ∨ c = TO ∨ c = i1 ∨ c = i2 ∨ c = i3 := by simpa using hcm
        rcases e' with q | q | q | q | q | q | q
        · rw [q]; exact hel
        · rw [q]; exact Heap.lt_size hz
        · rw [q]; exact Heap.lt_size hTI
        · rw [q]; exact Heap.lt_size hTO
        · rw [q]; exact Heap.lt_size q1
        · rw [q]; exact Heap.lt_size q2
        · rw [q]; exact Heap.lt_size q3
      rw [upd_ne (Nat.ne_of_lt (Nat.lt_succ_of_lt hlt)), upd_ne (Nat.ne_of_lt hlt)]
      exact (hf c hcm).1
  done := by
    intro X hP hw hK hc i pins s σ H E I hf st hg
    subst hP hw hK
    obtain ⟨⟨old, he⟩, hZ⟩ := st
    obtain ⟨xs, ys, zs, hqx, hqy, hqt, hend⟩ := hg
    obtain ⟨its, rv, p, _⟩ := I.list hqx
    obtain ⟨its2, rv2, p2, _⟩ := I.list hqy
    have l1 := rv.length
    have l2 := rv2.length
    obtain ⟨its3, rv3, p3, _⟩ := I.list hqt
    have l3 := rv3.length
    have hE : its.toArray[i]? = none ∨ its2.toArray[i]? = none ∨ its3.toArray[i]? = none := by
      rcases hend with q | q | q
      · exact .inl (by simp; omega)
      · exact .inr (.inl (by simp; omega))
      · exact .inr (.inr (by simp; omega))
    exact enum_endN (draws_zip3 (xs := its.toArray) (ys := its2.toArray) (zs := its3.toArray) (I.ok.hd hc) D) he ⟨hZ, p.isList, p2.isList, p3.isList⟩ hE fun h' hk => ⟨rfl, I.turnedL (t' := s.toks) (ch := [z, TO, i1, i2, i3]) (fun c o hb q => hk c o hb q) fun c hcm => hf c (by simp at hcm ⊢; rcases hcm with q | q | q | q | q <;> simp [q])⟩
  self := fun A i s Q E st h => let ⟨⟨_, he⟩, _⟩ := st; wpAny_pyIter_enum he h
def iEnumZ3 (K : PySem.W.Frag) (ta : TA) : TI := fun σ H R => ta σ H fun vs H1 => ∃ a b d xs ys zs, vs = [.ref a, .ref b, .ref d] ∧ SqL K H1 a xs ∧ SqL K H1 b ys ∧ SqL K H1 d zs ∧ R (IteZ3 K a b d) H1
/-- enumerate(zip(x, y)) -/
theorem pi_enumZ3 {X : Cx} {e e2 e3 : Expr} {ta : TA} {p p2 pos pos2 tpos : Pos} {elts : List Expr} {kk : Nat} (hg : Gl X "enumerate") (hm : X.mg "enumerate" = none) (hg2 : Gl X "zip") (hm2 : X.mg "zip" = none) (ha : PA X [e, e2, e3] ta)
    (hs : starEach [e, e2, e3] X.env = (false, eval e X.env) :: starEach [e2, e3] X.env := by rfl) (hpl : (backTo pos2 (starEach [e2, e3] X.env)).any (·.1) = false := by rfl)
    (hs2 : starEach [.Call (.Name "zip" p2) [e, e2, e3] [] pos2] X.env = [(false, eval (.Call (.Name "zip" p2) [e, e2, e3] [] pos2) X.env)] := by rfl) :
    PI X (.Tuple elts kk tpos) (.Call (.Name "enumerate" p) [.Call (.Name "zip" p2) [e, e2, e3] [] pos2] [] pos) (iEnumZ3 X.K ta) := by
  refine ⟨fun pins s σ H R I h => ?_⟩
  refine Call_ (ld_blt I hg hm boot_enumerate (PyProof.Rows.callWith_type1 (PyProof.Rows.spliced_more ?_ hs2) hs2 rfl))
  refine Call_ (ld_blt I hg2 hm2 PyProof.Rows.boot_zip (PyProof.Rows.callWith_type1 (thn (ha.run pos2 pins s σ H _ I h) fun us s1 ⟨vs, H1, I1, r1, q1⟩ => ?_) hs hpl))
  obtain ⟨a, b, d, xs, ys, zs, ex, hqx, hqy, hqt, q⟩ := q1
  subst ex
  cases r1 with
  | cons r rr =>
    cases rr with
    | cons r' rr =>
      cases rr with
      | cons r'' rr =>
      cases rr
      cases r
      cases r'
      cases r''
      obtain ⟨its, rv, p1, _⟩ := I1.list hqx
      obtain ⟨its2, rv2, p2, _⟩ := I1.list hqy
      obtain ⟨its3, rv3, p3, _⟩ := I1.list hqt
      have la : a < s1.heap.objs.size := p1.lt
      have lb : b < s1.heap.objs.size := p2.lt
      have ld : d < s1.heap.objs.size := p3.lt
      refine zip_begins3 (begins_list a its.toArray) (begins_list b its2.toArray) (begins_list d its3.toArray) p1.isList p2.isList p3.isList fun h' hz hTI hTO h1 h2 h3 hsz hk => PyProof.Rows.args_nil ?_
      refine enum_beginsZ (s := { s1 with heap := h' }) hz fun h'' he hsz2 hk2 => wpAny_pyIter_enum he ?_
      have I3 : Inv X pins σ H1 { s1 with heap := h'' } := I1.kept (t' := s1.toks) fun b o x => hk2 b o (hk b o x)
      replace hsz2 : h''.objs.size = h'.objs.size + 1 := hsz2
      replace he : IsEnum h'' h'.objs.size (s1.heap.objs.size + 5) 0 .none := he
      rw [hsz] at he
      show PIE X pins σ _ R (.ref h'.objs.size) _
      rw [hsz]
      have ap : ∀ k, k < 6 → s1.heap.objs.size + 6 ≠ s1.heap.objs.size + k := fun k hk e => by omega
      refine ⟨s1.heap.objs.size + 6, [s1.heap.objs.size + 6, s1.heap.objs.size + 5, s1.heap.objs.size + 3, s1.heap.objs.size + 4, s1.heap.objs.size, s1.heap.objs.size + 1, s1.heap.objs.size + 2], _, _, H1, rfl, I3, turn_enumZ3 (apart3 s1.heap.objs.size a b d la lb ld) (ap 5 (by omega)) (ap 3 (by omega)) (ap 4 (by omega)) (ap 0 (by omega)) (ap 1 (by omega)) (ap 2 (by omega)), ⟨⟨_, he⟩, ⟨_, _, hk2 _ _ hz, .inl rfl⟩, hk2 _ _ hTI, ⟨_, _, _, hk2 _ _ hTO⟩, ⟨_, hk2 _ _ h1, rfl, rfl⟩, ⟨_, hk2 _ _ h2, rfl, rfl⟩, ⟨_, hk2 _ _ h3, rfl, rfl⟩⟩, fun c hcm => ?_, q⟩
      have e' : c = s1.heap.objs.size + 6 ∨ c = s1.heap.objs.size + 5 ∨ c = s1.heap.objs.size + 3 ∨ c = s1.heap.objs.size + 4 ∨ c = s1.heap.objs.size ∨ c = s1.heap.objs.size + 1 ∨ c = s1.heap.objs.size + 2 := by simpa using hcm
      have hle : s1.heap.objs.size ≤ c := by
        rcases e' with z | z | z | z | z | z | z
        · rw [z]; exact Nat.le_add_right _ _
        · rw [z]; exact Nat.le_add_right _ _
        · rw [z]; exact Nat.le_add_right _ _
        · rw [z]; exact Nat.le_add_right _ _
        · rw [z]; exact Nat.le_refl _
        · rw [z]; exact Nat.le_add_right _ _
        · rw [z]; exact Nat.le_add_right _ _
      exact I1.fpOk hle (I1.hok.fresh hle)
/-! walked -/
def YEnZ3 (xs ys zs : List V) : Nat → Hp → V → Hp → Prop := fun i H v H' => ∃ P T x y t, v = .ref P ∧ H T = none ∧ upd H T (.tup [x, y, t]) P = none ∧ H' = upd (upd H T (.tup [x, y, t])) P (.tup [.int (i : Nat), .ref T]) ∧ xs[i]? = some x ∧ ys[i]? = some y ∧ zs[i]? = some t
theorem walk_enumZ3 {K : PySem.W.Frag} {a b d : Addr} {xs ys zs : List V} {n : Nat} (hn : n = min xs.length (min ys.length zs.length)) : Walk (IteZ3 K a b d) n (fun H => SqL K H a xs ∧ SqL K H b ys ∧ SqL K H d zs) (YEnZ3 xs ys zs) := by
  subst hn
  refine ⟨fun i _ hi q => ?_, fun _ q => ⟨xs, ys, zs, q.1, q.2.1, q.2.2, by omega⟩, fun i H v H' _ q y => ?_⟩
  · have h1 : i < xs.length := by omega
    have h2 : i < ys.length := by omega
    have h3 : i < zs.length := by omega
    exact ⟨xs, ys, zs, xs[i], ys[i], zs[i], q.1, q.2.1, q.2.2, by simp [h1], by simp [h2], by simp [h3]⟩
  · obtain ⟨P, T, x, z, t, h1, h2, h3, h4, h5, h6, h7⟩ := y
    exact ⟨P, T, x, z, t, h1, h2, h3, h4, h5 xs q.1, h6 ys q.2.1, h7 zs q.2.2⟩
end Lw
namespace Lx
open PySem PySem.Spec PyProof.Rows L2 He StX Lw
section
variable {K : Frag} {β τ ρ α γ δ ς : Type} [Rv K β] [Rv K α] [Rv K γ] [Rv K δ]
variable {e : Env K τ ρ} {S : List Addr} {N : List Mu} {ts ts' : List (Option AV)} {L L' : List (V × AV)} {s : τ} {σ : L2.St} {H H' : Hp} {v : V} {A : AV}
variable {te ta tb tc : TE} {p : Option ρ} {wi wi1 : TI}
/-- three lists side by side -/
def zip3 {α γ δ : Type} (l : List α) (m : List γ) (n : List δ) : List (T3 α γ δ) := (l.zip (m.zip n)).map fun x => ⟨x.1, x.2.1, x.2.2⟩
theorem zip3_at {α γ δ : Type} {l : List α} {m : List γ} {n : List δ} {i : Nat} {x : T3 α γ δ} (h : (zip3 l m n)[i]? = some x) : l[i]? = some x.a ∧ m[i]? = some x.b ∧ n[i]? = some x.c := by
  unfold zip3 at h
  rw [List.getElem?_map] at h
  obtain ⟨y, hy, rfl⟩ := Option.map_eq_some_iff.mp h
  rw [List.getElem?_zip_eq_some, List.getElem?_zip_eq_some] at hy
  exact ⟨hy.1, hy.2.1, hy.2.2⟩
theorem zip3_len {α γ δ : Type} (l : List α) (m : List γ) (n : List δ) : (zip3 l m n).length = min l.length (min m.length n.length) := by
  unfold zip3
  rw [List.length_map, List.length_zip, List.length_zip]
def threeA (A B C : AV) : AV := ⟨fun S H v => A.R S H v ∧ B.R S H v ∧ C.R S H v, fun h k => ⟨A.keep h.1 k, B.keep h.2.1 k, C.keep h.2.2 k⟩, fun h w => ⟨A.wid h.1 w, B.wid h.2.1 w, C.wid h.2.2 w⟩⟩
theorem wk_enumZ3 {p q r : Addr} {xs ys zs : List V} {l : List α} {m : List γ} {n : List δ} (h : xs.length = l.length) (h' : ys.length = m.length) (h'' : zs.length = n.length) (hz : l.length ≤ sizeLine) : WkR K (threeA (lstA K p xs l) (lstA K q ys m) (lstA K r zs n)) (IteZ3 K p q r) (en 0 (zip3 l m n)) :=
  ⟨⟨fun H => SqL K H p xs ∧ SqL K H q ys ∧ SqL K H r zs, YEnZ3 xs ys zs, by rw [en_len, zip3_len, ← h, ← h', ← h'']; exact walk_enumZ3 (K := K) (a := p) (b := q) (d := r) (xs := xs) (ys := ys) (zs := zs) rfl, fun S H h => ⟨h.1.1.sqL, h.2.1.1.sqL, h.2.2.1.sqL⟩, fun S i H x H' a ha h oS ⟨P, T, u, w, t, e1, hT, hP, e2, hu, hw, ht⟩ => by
    subst e1 e2
    obtain ⟨h1, h2⟩ := en_at ha
    obtain ⟨g1, g2, g3⟩ := zip3_at h2
    obtain ⟨b, hb, rb⟩ := h.1.2.at hu
    obtain ⟨c, hc, rc⟩ := h.2.1.2.at hw
    obtain ⟨d, hd, rd⟩ := h.2.2.2.at ht
    rw [g1] at hb
    rw [g2] at hc
    rw [g3] at hd
    cases hb
    cases hc
    cases hd
    have hPT : T ≠ P := fun z => by
      rw [← z, upd_same] at hP
      cases hP
    have hP0 : H P = none := by
      rw [upd_ne (Ne.symm hPT)] at hP
      exact hP
    refine ⟨Kp.trans (.new hT) (.new hP), P, .int (i : Nat), .ref T, rfl, ⟨oS.no hP0, upd_same⟩, by rw [h1]; show V.int _ = V.int _; rw [Int.zero_add], T, u, w, t, rfl, ⟨oS.no hT, ?_⟩, Rv.keep rb (Kp.trans (.new hT) (.new hP)), Rv.keep rc (Kp.trans (.new hT) (.new hP)), Rv.keep rd (Kp.trans (.new hT) (.new hP))⟩
    rw [upd_ne hPT]
    exact upd_same⟩, by rw [en_len, zip3_len]; omega⟩
theorem puI_enumZ3 {l : List α} {m : List γ} {n : List δ} (h : Pu e S N ts ta L l) (h' : ∀ v, Pu e S N ts tb ((v, av K l) :: L) m) (h'' : ∀ v w, Pu e S N ts tc ((w, av K m) :: (v, av K l) :: L) n) : PuI e S N ts (iEnumZ3 K (tCons ta (tCons tb (tCons tc tNil)))) L (en 0 (zip3 l m n)) := fun s σ H R at_ q => h s σ H _ at_ fun x H1 a1 => h' x s σ H1 _ a1 fun y H2 a2 => h'' x y s σ H2 _ a2 fun z H3 a3 => by
  have i1 := a3.get (A := av K n) m0
  have i2 := a3.get (v := y) (A := av K m) m1
  have i3 := a3.get (v := x) (A := av K l) m2
  obtain ⟨p3, zs, rfl, g3, z3, hr3⟩ := i1
  obtain ⟨p2, ys, rfl, g2, z2, hr2⟩ := i2
  obtain ⟨p1, xs, rfl, g1, z1, hr1⟩ := i3
  exact ⟨p1, p2, p3, xs, ys, zs, rfl, g1.sqL, g2.sqL, g3.sqL, q _ _ H3 (wk_enumZ3 hr1.len hr2.len hr3.len (hr1.len ▸ z1)) ((a3.less (fun f hf => List.mem_cons_of_mem _ (List.mem_cons_of_mem _ (List.mem_cons_of_mem _ hf)))).add (A := threeA (lstA K p1 xs l) (lstA K p2 ys m) (lstA K p3 zs n)) ⟨⟨g1, hr1⟩, ⟨g2, hr2⟩, ⟨g3, hr3⟩⟩)⟩
end
end Lx

set_option Elab.async false
set_option linter.all false
set_option maxRecDepth 100000
set_option maxHeartbeats 4000000
/-! records: dicts of written keys; lists of unlike kinds, walked; a branch behind which two kinds go on -/
namespace Lx
open PySem PySem.Spec PyProof.Rows L2 He StX Lw
open Lw.En (enc)
def recR (ns : List Str) (As : List AV) (S : List Addr) (H : Hp) (v : V) : Prop := ∃ a kvs, v = .ref a ∧ Fx S H a (.dK kvs) ∧ kvs.map (·.1) = ns.map (Sum.inr (α := Int)) ∧ AllV S H (kvs.map (·.2)) As
theorem recR.keep {ns : List Str} {As : List AV} {S : List Addr} {H H' : Hp} {v : V} : recR ns As S H v → Kp S H H' → recR ns As S H' v := fun ⟨a, kvs, e, f, n, h⟩ k => ⟨a, kvs, e, f.keep k, n, h.keep k⟩
theorem recR.wid {ns : List Str} {As : List AV} {S S' : List Addr} {H : Hp} {v : V} : recR ns As S H v → (∀ x, x ∈ S' → x ∈ S ∨ H x = none) → recR ns As S' H v := fun ⟨a, kvs, e, f, n, h⟩ w => ⟨a, kvs, e, f.wid w, n, h.wid w⟩
def recA (ns : List Str) (As : List AV) : AV := ⟨fun S H v => recR ns As S H v, recR.keep, recR.wid⟩
/-- a kind whose values are dicts of these keys -/
class Rc (K : Frag) (α : Type) [Rv K α] where
  ns : List Str
  as : α → List AV
  rc : ∀ {S : List Addr} {H : Hp} {v : V} {a : α}, Rv.R K S H v a → recR ns (as a) S H v
def lkr : List Str → Str → Option Nat
  | [], _ => none
  | g :: ns, f => if g = f then some 0 else (lkr ns f).map (· + 1)
theorem lkr_val {f : Str} : ∀ {ns : List Str} {kvs : List (Key × V)} {j : Nat}, kvs.map (·.1) = ns.map (Sum.inr (α := Int)) → lkr ns f = some j → ∃ v, valV kvs (Sum.inr f) = some v ∧ (kvs.map (·.2))[j]? = some v
  | [], kvs, j, e, h => by cases h
  | g :: ns, [], j, e, h => by simp at e
  | g :: ns, (k, v) :: kvs, j, e, h => by
    simp only [List.map_cons, List.cons.injEq] at e
    obtain ⟨e1, e2⟩ := e
    subst e1
    unfold lkr at h
    split at h
    · rename_i hg
      cases h
      subst hg
      exact ⟨v, valV_pos rfl, rfl⟩
    · rename_i hg
      obtain ⟨i, hi, rfl⟩ := Option.map_eq_some_iff.mp h
      obtain ⟨w, h1, h2⟩ := lkr_val e2 hi
      exact ⟨w, by rw [valV_neg (p := (Sum.inr g, v)) (fun z => hg (by injection z))]; exact h1, by simpa using h2⟩
theorem rec_get {ns : List Str} {As : List AV} {S : List Addr} {H : Hp} {v : V} {f : Str} {j : Nat} {A : AV} (hj : lkr ns f = some j) (hx : As[j]? = some A) (h : recR ns As S H v) : ∃ a w, v = .ref a ∧ DGet H a (.str f) (some w) ∧ A.R S H w := by
  obtain ⟨a, kvs, rfl, fx, hn, hA⟩ := h
  obtain ⟨w, h1, h2⟩ := lkr_val hn hj
  refine ⟨a, w, rfl, ?_, hA.at h2 hx⟩
  have g := DGet.k (k := Sum.inr f) fx.2
  rw [h1] at g
  exact g
/-- what stands while a dict is made -/
def dkD (p : Addr) : Mu := ⟨p, true, fun _ H => H p = some (.dK []), fun h k _ n => k p _ n h, fun h _ => h⟩
theorem putK_app {κ : Type} [DecidableEq κ] {kvs : List (κ × V)} {k : κ} {v : V} (h : k ∉ kvs.map (·.1)) : putK kvs k v = kvs ++ [(k, v)] := by
  unfold putK
  rw [if_neg]
  intro z
  obtain ⟨x, hx, e⟩ := List.any_eq_true.mp z
  exact h (List.mem_map.mpr ⟨x, hx, by simpa using e⟩)
theorem merge_app : ∀ (more kvs : List (Key × V)), ((kvs ++ more).map (·.1)).Nodup → mergeK kvs more = kvs ++ more
  | [], kvs, _ => by simp [mergeK]
  | (k, v) :: r, kvs, h => by
    have hk : k ∉ kvs.map (·.1) := by
      intro z
      simp only [List.map_append, List.map_cons, List.nodup_append] at h
      exact h.2.2 k z k (List.mem_cons_self ..) rfl
    have e : mergeK kvs ((k, v) :: r) = mergeK (putK kvs k v) r := rfl
    rw [e, putK_app hk, merge_app r (kvs ++ [(k, v)]) (by simpa using h)]
    simp
section
variable {K : Frag} {β τ ρ α γ δ ς : Type} [Rv K β] [Rv K α] [Rv K γ] [Rv K δ]
variable {e : Env K τ ρ} {S : List Addr} {N : List Mu} {ts ts' : List (Option AV)} {L L' : List (V × AV)} {s : τ} {σ : L2.St} {H H' : Hp} {v : V} {A : AV}
variable {te ta tb to : TE} {tt tu : TT} {t u t1 t2 : TS} {r r' : R2} {b c : Bool} {p : Option ρ} {wi : TI} {g : TG} {nx ct bk : L2.St → Hp → Prop} {is : List Nat} {As : Type} [Ra K As] {tA : TA} {trs : List (TE × TE)}
theorem pu_rec [Rc K α] {o : α} {f : Str} (j : Nat) {x : γ} (h : Pu e S N ts te L o) (hj : lkr (Rc.ns K α) f = some j) (hx : (Rc.as (K := K) o)[j]? = some (av K x)) : Pu e S N ts (tDGet te (tC (.str f))) L x := fun s σ H Q at_ q => h s σ H _ at_ fun y H1 a1 => by
  obtain ⟨a, w, e1, g, hw⟩ := rec_get hj hx (Rc.rc (a1.get m0))
  exact ⟨a, w, e1, g, q w H1 ((a1.less d1).add (A := av K x) hw)⟩
theorem ev_rec [Rc K α] {f : Str} (j : Nat) {g : α → γ} {k : γ → τ → Option ρ} (h : Ev e S N ts te L s p fun o s1 => k (g o) s1) (hj : lkr (Rc.ns K α) f = some j) (hx : ∀ o, (Rc.as (K := K) o)[j]? = some (av K (g o))) : Ev e S N ts (tDGet te (tC (.str f))) L s p k := fun hp σ H Q at_ q => h hp σ H _ at_ fun o s1 y H1 e1' a1 => by
  obtain ⟨a, w, e1, g', hw⟩ := rec_get hj (hx o) (Rc.rc (a1.get m0))
  exact ⟨a, w, e1, g', q (g o) s1 w H1 e1' ((a1.less d1).add (A := av K (g o)) hw)⟩
/-- an expression that tells a list that grows -/
def PuR (e : Env K τ ρ) (S : List Addr) (N : List Mu) (ts : List (Option AV)) (te : TE) (f : Addr) : Prop := ∀ s L σ H Q, e.At S N ts L s σ H → Q (.ref f) H → te σ H Q
theorem puR_rec {i : Nat} {ns : List Str} {Bs : List AV} {fl : Str} {f : Addr} (j : Nat) (hi : ts[i]? = some (some (recA ns Bs))) (hj : lkr ns fl = some j) (hx : Bs[j]? = some (refA f)) : PuR e S N ts (tDGet (tVar i) (tC (.str fl))) f := fun s L σ H Q at_ q => by
  obtain ⟨x, hx', rx⟩ := at_.s.at_ i _ hi
  obtain ⟨a, w, e1, g', hw⟩ := rec_get hj hx (show recR ns Bs S H x from rx)
  have e2 : w = .ref f := hw
  subst e2
  exact ⟨x, hx', a, _, e1, g', q⟩
theorem live_at {j : Nat} {f : Addr} {l : List γ} (hj : N[j]? = some (accD K f l)) (at_ : e.At S N ts L s σ H) : ∃ xs, H f = some (.lst xs) ∧ RA (Rv.R K S H) xs l := by
  have hjm : (N ++ e.m s)[j]? = some (accD K f l) := by rw [List.getElem?_append_left (List.getElem?_eq_some_iff.mp hj).1]; exact hj
  obtain ⟨_, ⟨xs, ex, _, hr⟩, _⟩ := at_.c.mu _ (List.mem_of_getElem? hjm)
  exact ⟨xs, ex, hr⟩
theorem ev_ixR {j : Nat} {f : Addr} {l : List γ} {k : γ → τ → Option ρ} (h0 : PuR e S N ts te f) (hj : N[j]? = some (accD K f l)) (h : Ev e S N ts tb L s p fun (b : Int) s2 => (atI l b).bind fun c => k c s2) : Ev e S N ts (tOp (rIxL K) te tb) L s p k := fun hp σ H Q at_ q => by
  refine h0 s L σ H _ at_ (h hp σ H _ at_ fun b s2 y H2 e2 a2 => ?_)
  obtain ⟨xs, ex, hr⟩ := live_at hj a2
  obtain ⟨c, hc, e3⟩ := Option.bind_eq_some_iff.mp e2
  cases (show y = V.int b from a2.get (A := av K b) m0)
  obtain ⟨w, hw, rw_⟩ := hr.atI hc
  exact ⟨f, xs, b, w, rfl, rfl, SqL.of ex, hw, q c s2 w H2 e3 ((a2.less d1).add (A := av K c) rw_)⟩
theorem sv_appR {j : Nat} {f : Addr} {l : List γ} (k : γ → τ → Option ρ) {p0 : Option ρ} (h0 : PuR e S N ts to f) (hj : N[j]? = some (accD K f l)) (h : Ev e S N ts te L s p0 fun a s1 => if l.length < sizeLine then k a s1 else none) (hu : ∀ a s1, Sv e S (N.set j (accD K f (l ++ [a]))) ts L u s1 (k a s1) nx ct bk) (e0 : p = p0) :
    Sv e S N ts L (tSeq (tDrop (tBM K "list" rAppend to (tCons te tNil))) u) s p nx ct bk := fun hp σ H D at_ rt n c b => by
  refine h0 s L σ H _ at_ ?_
  have hjm : ∀ s, (N ++ e.m s)[j]? = some (accD K f l) := fun s => by rw [List.getElem?_append_left (List.getElem?_eq_some_iff.mp hj).1]; exact hj
  obtain ⟨_, ⟨xs0, ex0, _, _⟩, _⟩ := at_.c.mu _ (List.mem_of_getElem? (hjm s))
  refine ⟨.inl ⟨rfl, xs0, SqL.of ex0⟩, h (e0 ▸ hp) σ H _ at_ fun a s1 y H1 e1 a1 => ?_⟩
  dsimp only at e1
  split at e1
  · rename_i hl
    obtain ⟨c1, ⟨xs, ex, hz, hr⟩, c3, c4⟩ := a1.c.mu _ (List.mem_of_getElem? (hjm s1))
    refine ⟨f, xs, y, rfl, rfl, ex, by rw [hr.len]; exact hl, ?_⟩
    have kk : Kp [f] H1 (upd H1 f (.lst (xs ++ [y]))) := .mut (List.mem_singleton_self f)
    have kS : Kp S H1 (upd H1 f (.lst (xs ++ [y]))) := .mut c1
    have hy : Rv.R K S H1 y a := a1.get m0
    have c2 := a1.c.eff (i := j) (m := accD K f l) (m' := accD K f (l ++ [a])) (hjm s1) kk ⟨_, upd_same⟩ rfl rfl ⟨_, upd_same, by rw [List.length_append, hr.len]; exact hl, (hr.app (ws := [y]) (bs := [a]) ⟨hy, trivial⟩).imp fun _ _ z => Rv.keep z kS⟩
    rw [List.set_append_left _ _ (List.getElem?_eq_some_iff.mp hj).1] at c2
    exact hu a s1 e1 σ _ D ⟨c2.less d1, a1.s.keep kS⟩ rt n c b
  · cases e1
theorem AllV.setA {S : List Addr} {H : Hp} : ∀ {vs : List V} {Bs : List AV} {n : Nat} {B C : AV}, AllV S H vs Bs → Bs[n]? = some B → (∀ v, B.R S H v → C.R S H v) → AllV S H vs (Bs.set n C)
  | [], [], _, _, _, _, e, _ => by simp at e
  | v :: vs, A :: Bs, 0, B, C, ⟨h1, h2⟩, e, w => by
    simp at e
    subst e
    exact ⟨w v h1, h2⟩
  | v :: vs, A :: Bs, n + 1, B, C, ⟨h1, h2⟩, e, w => ⟨h1, h2.setA (by simpa using e) w⟩
  | [], _ :: _, _, _, _, h, _, _ => h.elim
  | _ :: _, [], _, _, _, h, _, _ => h.elim
theorem sv_freezeR {i : Nat} (n : Nat) {ns : List Str} {Bs : List AV} {f : Addr} {l : List γ} (hi : ts[i]? = some (some (recA ns Bs))) (hn : Bs[n]? = some (refA f)) (nf : f ∉ S) (hu : Sv e S N (ts.set i (some (recA ns (Bs.set n (av K l))))) L u s p nx ct bk) : Sv e (f :: S) (accD K f l :: N) ts L u s p nx ct bk := fun hp σ H D at_ rt nn c b => by
  have a1 := At.freeze (σ0 := σ) at_ nf
  have z : (av K l).R S H (.ref f) := a1.get (A := av K l) m0
  obtain ⟨x, hx, rx⟩ := (a1.less d1).s.at_ i _ hi
  obtain ⟨a, kvs, e1, fx, hk, hA⟩ := (show recR ns Bs S H x from rx)
  have a2 := (a1.less d1).set (i := i) (A := recA ns (Bs.set n (av K l))) (v := x) (show recR ns (Bs.set n (av K l)) S H x from ⟨a, kvs, e1, fx, hk, hA.setA hn fun v hv => by
    have hv' : v = .ref f := hv
    subst hv'
    exact z⟩)
  have es : σ.set i (some x) = σ := set_self hx
  rw [es] at a2
  exact hu hp σ H D a2 rt nn c b
/-- what was to change is written at last, and changes no more -/
theorem At.dropM {S2 : List Addr} {M N0 : List Mu} {m : Mu} (o : HO) (at_ : e.At S (M ++ m :: N0) ts L s σ H) (hl : m.loc = true) (h1 : ∀ x ∈ S, x = m.a ∨ x ∈ S2) (h2 : ∀ x ∈ S2, x ∈ S) (h3 : m.a ∉ S2) : e.At S2 (M ++ N0) ts L s σ (upd H m.a o) := by
  have C := at_.c
  obtain ⟨c1, c2, c3, c4⟩ := C.mu m (by simp)
  have nB : e.B m.a = none := c4 hl
  have k : Kp [m.a] H (upd H m.a o) := .mut (List.mem_singleton_self _)
  have kS : Kp S H (upd H m.a o) := .mut c1
  have n0 : m.a ∉ e.S0 := C.oB.no nB
  have one : ∀ a ∈ [m.a], a ∈ S := fun a h => by rw [List.mem_singleton.mp h]; exact c1
  have pm : (M ++ m :: N0 ++ e.m s).Perm (m :: (M ++ N0 ++ e.m s)) := by
    simp only [List.append_assoc, List.cons_append]
    exact List.perm_middle
  have dis : (m.a :: (M ++ N0 ++ e.m s).map (·.a)).Nodup := by
    have := (pm.map (·.a)).nodup_iff.mp C.dis
    simpa using this
  obtain ⟨d1', d2'⟩ := List.nodup_cons.mp dis
  have oS : Old S (upd H m.a o) := C.old.keep k fun a h => by
    rw [List.mem_singleton.mp h]
    exact ⟨o, upd_same⟩
  refine ⟨⟨C.oB, C.tS, fun a h => (h1 a (C.sub a h)).resolve_left fun z => n0 (z ▸ h), fun a h => oS a (h2 a h), fun a u' n' e' => k a u' (fun z => ?_) (C.kp a u' n' e'), fun n hn => ?_, d2', fun f hf => f.2.wid (f.2.keep (C.fa f hf) kS) fun x hx => .inl (h2 x hx)⟩, (at_.s.keep kS).wid fun x hx => .inl (h2 x hx)⟩
  · rw [List.mem_singleton.mp z, nB] at e'
    cases e'
  · have hn' : n ∈ M ++ m :: N0 ++ e.m s := pm.mem_iff.mpr (List.mem_cons_of_mem _ hn)
    obtain ⟨q1, q2, q3, q4⟩ := C.mu n hn'
    have ne : n.a ≠ m.a := fun z => d1' (z ▸ List.mem_map.mpr ⟨n, hn, rfl⟩)
    refine ⟨(h1 _ q1).resolve_left ne, n.wid (n.keep q2 k one fun z => ne (List.mem_singleton.mp z)) fun x hx => .inl (h2 x hx), q3, q4⟩
theorem At.pushD {q : Addr} (at_ : e.At S N ts L s σ H) (hq : H q = none) : e.At (q :: S) (dkD q :: N) ts L s σ (upd H q (.dK [])) := by
  have w : ∀ x, x ∈ q :: S → x ∈ S ∨ H x = none := fun x hx => by
    rcases List.mem_cons.mp hx with z | z
    · rw [z]; exact .inr hq
    · exact .inl z
  exact ⟨at_.c.push (m := dkD q) hq upd_same, (at_.s.wid w).keep (.new hq)⟩
/-- a new record, some of whose lists will grow -/
def SvP (e : Env K τ ρ) (S : List Addr) (N : List Mu) (ts : List (Option AV)) (L : List (V × AV)) (acc : List (Str × (V × AV))) (trs : List (TE × TE)) (s : τ) (p : Option ρ) (Fin : Ends → L2.St → List (V × V) → Hp → Prop) (nx ct bk : L2.St → Hp → Prop) : Prop :=
  p = some e.r → ∀ σ H D, e.At S N ts (acc.map (·.2) ++ L) s σ H → (∀ v H, e.rt v H → D.rt v H) → (∀ σ H, nx σ H → D.nx σ H) → (∀ σ H, ct σ H → D.ct σ H) → (∀ σ H, bk σ H → D.bk σ H) → tPairs trs σ H fun ps H' => Fin D σ (acc.map (fun x => (V.str x.1, x.2.1)) ++ ps) H'
variable {acc : List (Str × (V × AV))} {Fin : Ends → L2.St → List (V × V) → Hp → Prop}
theorem svP_cons {f : Str} (k : α → τ → Option ρ) {p0 : Option ρ} (h : Ev e S N ts te (acc.map (·.2) ++ L) s p0 k) (hu : ∀ a s1 v, SvP e S N ts L (acc ++ [(f, v, av K a)]) trs s1 (k a s1) Fin nx ct bk) (e0 : p = p0) : SvP e S N ts L acc ((tC (.str f), te) :: trs) s p Fin nx ct bk := fun hp σ H D at_ rt n c b =>
  h (e0 ▸ hp) σ H _ at_ fun a s1 x H1 e1 a1 => by
    have z := hu a s1 x e1 σ H1 D (by
      rw [List.map_append]
      exact a1.less snoc_less) rt n c b
    simpa using z
theorem svP_new {f : Str} (γ : Type) [Rv K γ] (hu : ∀ q, q ∉ S → SvP e (q :: S) (accD K q ([] : List γ) :: N) ts L (acc ++ [(f, .ref q, refA q)]) trs s p Fin nx ct bk) : SvP e S N ts L acc ((tC (.str f), tLst tNil) :: trs) s p Fin nx ct bk := fun hp σ H D at_ rt n c b =>
  ⟨Nat.zero_le _, fun q hq => by
    have a2 := (At.push (γ := γ) at_ hq).add (v := .ref q) (A := refA q) rfl
    have z := hu q (at_.c.old.no hq) hp σ _ D (by
      rw [List.map_append]
      exact a2.less snoc_less) rt n c b
    simpa using z⟩
def FinP (q : Addr) (i : Nat) (u : TS) : Ends → L2.St → List (V × V) → Hp → Prop := fun D σ ps H2 => H2 q = some (.dK []) ∧ ∃ kvs : List (Key × V), ps = kvs.map (fun kv => (kV kv.1, kv.2)) ∧ kvs.length ≤ 15 ∧ u D (σ.set i (some (.ref q))) (upd H2 q (.dK (mergeK [] kvs)))
theorem sv_newRec {i : Nat} (h : ∀ q, q ∉ S → SvP e (q :: S) (dkD q :: N) ts L [] trs s p (FinP q i u) nx ct bk) : Sv e S N ts L (tSeq (tAsg (tDisp trs) (gName i)) u) s p nx ct bk := fun hp σ H D at_ rt n c b => fun q hq =>
  h q (at_.c.old.no hq) hp σ _ D (At.pushD at_ hq) rt n c b
theorem accAll {S : List Addr} {H : Hp} : ∀ {acc : List (Str × (V × AV))}, (∀ f ∈ acc.map (·.2), f.2.R S H f.1) → AllV S H (acc.map (·.2.1)) (acc.map (·.2.2))
  | [], _ => trivial
  | x :: acc, h => ⟨h x.2 (by simp), accAll fun f hf => h f (by
    rw [List.map_cons]
    exact List.mem_cons_of_mem _ hf)⟩
theorem svP_end {S2 : List Addr} {M N0 : List Mu} {q : Addr} {i : Nat} (hk : (acc.map (·.1)).Nodup) (hz : acc.length ≤ 15) (h1 : ∀ x ∈ S, x = q ∨ x ∈ S2) (h2 : ∀ x ∈ S2, x ∈ S) (h3 : q ∉ S2) (hu : Sv e S2 (M ++ N0) (ts.set i (some (recA (acc.map (·.1)) (acc.map (·.2.2))))) L u s p nx ct bk) : SvP e S (M ++ dkD q :: N0) ts L acc [] s p (FinP q i u) nx ct bk := fun hp σ H D at_ rt n c b => by
  obtain ⟨_, hq, _⟩ := at_.c.mu (dkD q) (by simp)
  have hq' : H q = some (.dK []) := hq
  refine ⟨hq', acc.map (fun (x : Str × (V × AV)) => (Sum.inr x.1, x.2.1)), ?_, by rw [List.length_map]; exact hz, ?_⟩
  · simp only [List.append_nil, List.map_map]
    rfl
  · have nd : (([] ++ acc.map (fun (x : Str × (V × AV)) => ((Sum.inr x.1 : Key), x.2.1))).map (fun (y : Key × V) => y.1)).Nodup := by
      simp only [List.nil_append, List.map_map]
      have : (acc.map (·.1)).map (Sum.inr (α := Int)) = acc.map ((fun (y : Key × V) => y.1) ∘ fun (x : Str × (V × AV)) => ((Sum.inr x.1 : Key), x.2.1)) := by
        rw [List.map_map]
        rfl
      rw [← this]
      refine List.Pairwise.map _ (fun a b h z => h ?_) hk
      injection z
    rw [merge_app _ _ nd, List.nil_append]
    have a1 := At.dropM (S2 := S2) (m := dkD q) (.dK (acc.map (fun (x : Str × (V × AV)) => ((Sum.inr x.1 : Key), x.2.1)))) at_ rfl h1 h2 h3
    have hA : AllV S2 (upd H q (.dK (acc.map (fun (x : Str × (V × AV)) => ((Sum.inr x.1 : Key), x.2.1))))) (acc.map (·.2.1)) (acc.map (·.2.2)) := accAll fun f hf => a1.c.fa f (List.mem_append_left _ hf)
    have a2 := a1.set (i := i) (v := .ref q) (A := recA (acc.map (·.1)) (acc.map (·.2.2))) (show recR _ _ _ _ _ from ⟨q, _, rfl, ⟨h3, upd_same⟩, by simp only [List.map_map]; rfl, by
      rw [List.map_map]
      exact hA⟩)
    exact hu hp _ _ D (a2.less fun f hf => List.mem_append_right _ hf) rt n c b
/-- a record, made at once -/
def EvP {As : Type} [Ra K As] (e : Env K τ ρ) (S : List Addr) (N : List Mu) (ts : List (Option AV)) (trs : List (TE × TE)) (L : List (V × AV)) (s : τ) (p : Option ρ) (ns : List Str) (k : As → τ → Option ρ) : Prop :=
  p = some e.r → ∀ σ H Q, e.At S N ts L s σ H → (∀ as s' vs H', k as s' = some e.r → vs.length = ns.length → e.At S N ts ((.non, allA vs (Ra.avs K as)) :: L) s' σ H' → Q (List.zip (ns.map V.str) vs) H') → tPairs trs σ H Q
theorem evP_nil {k : Unit → τ → Option ρ} : EvP e S N ts [] L s (k () s) [] k := fun hp σ H Q at_ q => q () s [] H hp rfl (at_.add (v := .non) (A := allA [] []) trivial)
theorem evP_cons {f : Str} {ns : List Str} {k1 : α → τ → Option ρ} {k : α × As → τ → Option ρ} (h1 : Ev e S N ts te L s p k1) (h2 : ∀ a s1 v, EvP e S N ts trs ((v, av K a) :: L) s1 (k1 a s1) ns fun as s2 => k (a, as) s2) : EvP e S N ts ((tC (.str f), te) :: trs) L s p (f :: ns) k := fun hp σ H Q at_ q =>
  h1 hp σ H _ at_ fun a s1 x H1 e1 a1 => h2 a s1 x e1 σ H1 _ a1 fun as s2 vs H2 e2 hl a2 => q (a, as) s2 (x :: vs) H2 e2 (by simpa using hl) ((a2.less (fun f hf => List.mem_cons_of_mem _ (List.mem_cons_of_mem _ hf))).add (v := .non) (A := allA (x :: vs) (av K a :: Ra.avs K as)) ⟨a2.get m1, a2.get m0⟩)
theorem zip_kv : ∀ {ns : List Str} {vs : List V}, vs.length = ns.length → (List.zip (ns.map (Sum.inr (α := Int))) vs).map (·.1) = ns.map (Sum.inr (α := Int)) ∧ (List.zip (ns.map (Sum.inr (α := Int))) vs).map (·.2) = vs ∧ List.zip (ns.map V.str) vs = (List.zip (ns.map (Sum.inr (α := Int))) vs).map (fun kv => (kV kv.1, kv.2))
  | [], [], _ => ⟨rfl, rfl, rfl⟩
  | n :: ns, v :: vs, h => by
    obtain ⟨h1, h2, h3⟩ := zip_kv (ns := ns) (vs := vs) (by simpa using h)
    refine ⟨?_, ?_, ?_⟩
    · simp only [List.map_cons, List.zip_cons_cons, h1]
    · simp only [List.map_cons, List.zip_cons_cons, h2]
    · simp only [List.map_cons, List.zip_cons_cons, h3]
      rfl
  | [], _ :: _, h => by simp at h
  | _ :: _, [], h => by simp at h
theorem ev_disp {ns : List Str} {k : α → τ → Option ρ} (g : As → α) (hg : ∀ as S H v, recR ns (Ra.avs K as) S H v → Rv.R K S H v (g as)) (hk : ns.Nodup) (hz : ns.length ≤ 15) (h : ∀ q M, EvP e (q :: S) (M :: N) ts trs L s p ns fun as s1 => k (g as) s1) : Ev e S N ts (tDisp trs) L s p k := fun hp σ H Q at_ q => fun a ha =>
  h a (dkD a) hp σ _ _ (At.pushD at_ ha) fun as s1 vs H2 e2 hl a2 => by
    obtain ⟨_, hq, _⟩ := a2.c.mu (dkD a) (by simp)
    have hq' : H2 a = some (.dK []) := hq
    obtain ⟨z1, z2, z3⟩ := zip_kv hl
    refine ⟨hq', List.zip (ns.map (Sum.inr (α := Int))) vs, z3, by rw [List.length_zip, List.length_map]; omega, ?_⟩
    have nd : (([] ++ List.zip (ns.map (Sum.inr (α := Int))) vs).map (fun (y : Key × V) => y.1)).Nodup := by
      rw [List.nil_append, z1]
      refine List.Pairwise.map _ (fun a b h z => h ?_) hk
      injection z
    rw [merge_app _ _ nd, List.nil_append]
    have nS := at_.c.old.no ha
    have a3 := At.dropM (S2 := S) (M := []) (m := dkD a) (.dK (List.zip (ns.map (Sum.inr (α := Int))) vs)) a2 rfl (fun x hx => (List.mem_cons.mp hx).imp id id) (fun x hx => List.mem_cons_of_mem _ hx) nS
    have hA : AllV S _ vs (Ra.avs K as) := a3.get (v := .non) (A := allA vs (Ra.avs K as)) m0
    exact q (g as) s1 _ _ e2 ((a3.less d1).add (A := av K (g as)) (hg as _ _ _ ⟨a, _, rfl, ⟨nS, upd_same⟩, z1, by rw [z2]; exact hA⟩))
/-- xs[j] of a list of unlike kinds -/
theorem pu_ixH {a : As} (j : Nat) {x : γ} (h : Pu e S N ts te L (Hl.mk a)) (hx : (Ra.avs K a)[j]? = some (av K x)) : Pu e S N ts (tOp (rIxL K) te (tC (.int (j : Nat)))) L x := fun s σ H Q at_ q => h s σ H _ at_ fun y H1 a1 => by
  obtain ⟨p', xs, e1, f, hz, hA⟩ := (show Rv.R K S H1 y (Hl.mk a) from a1.get m0)
  have hj : j < xs.length := by rw [hA.len]; exact (List.getElem?_eq_some_iff.mp hx).1
  have hw := hA.at (List.getElem?_eq_getElem hj) hx
  refine ⟨p', xs, (j : Nat), xs[j], e1, rfl, f.sqL, ?_, q _ H1 ((a1.less d1).add (A := av K x) hw)⟩
  unfold L2.atI
  rw [show ixN xs.length ((j : Nat) : Int) = some j from by
    unfold ixN
    simp [hj]]
  exact List.getElem?_eq_getElem hj
/-- if, behind which each branch goes its own way -/
theorem sv_ifS (p1 p2 : τ → Option ρ) {p0 : Option ρ} (hc : EvT e S N ts tt L s p0 fun b s1 => if b = true then p1 s1 else p2 s1) (h1 : ∀ s1, Sv e S N ts L (tSeq t1 u) s1 (p1 s1) nx ct bk) (h2 : ∀ s1, Sv e S N ts L (tSeq t2 u) s1 (p2 s1) nx ct bk) (e0 : p = p0) : Sv e S N ts L (tSeq (tIfS tt t1 t2) u) s p nx ct bk := fun hp σ H D at_ rt n c b =>
  hc (e0 ▸ hp) σ H _ at_ fun b0 s1 H1 e1 a1 => by
    cases b0 with
    | true => exact h1 s1 e1 σ H1 D a1 rt n c b
    | false => exact h2 s1 e1 σ H1 D a1 rt n c b
/-! ### a list of three kinds, a value of each -/
instance {α β : Type} [Rv K α] [Rv K β] : Rv K (α ⊕ β) where
  R := fun S H v x => match x with
    | .inl a => Rv.R K S H v a
    | .inr b => Rv.R K S H v b
  keep := fun {S H H' v x} h k => by
    cases x with
    | inl a => exact Rv.keep (α := α) h k
    | inr b => exact Rv.keep (α := β) h k
  wid := fun {S S' H v x} h w => by
    cases x with
    | inl a => exact Rv.wid (α := α) h w
    | inr b => exact Rv.wid (α := β) h w
theorem pu_lcH3 {α1 α2 α3 β1 β2 β3 : Type} [Rv K α1] [Rv K α2] [Rv K α3] [Rv K β1] [Rv K β2] [Rv K β3] {a1 : α1} {a2 : α2} {a3 : α3} {i : Nat} {vs : List Nat} (h1 : α1 → β1) (h2 : α2 → β2) (h3 : α3 → β3) (h : Pu e S N ts te L (Hl.mk (a1, a2, a3, ()))) (hv : ∀ j ∈ [i], j ∈ vs)
    (b1 : ∀ D M L' x, Pu e (D :: S) (M :: N) ((wipeT ts vs).set i (some (av K x))) tb L' (h1 x)) (b2 : ∀ D M L' x, Pu e (D :: S) (M :: N) ((wipeT ts vs).set i (some (av K x))) tb L' (h2 x)) (b3 : ∀ D M L' x, Pu e (D :: S) (M :: N) ((wipeT ts vs).set i (some (av K x))) tb L' (h3 x)) :
    Pu e S N ts (tLc (iList K te) (gName i) tYes tb vs) L (Hl.mk (h1 a1, h2 a2, h3 a3, ())) := by
  refine pu_as (a := List.map (Sum.map h1 (Sum.map h2 h3)) ([.inl a1, .inr (.inl a2), .inr (.inr a3)] : List (α1 ⊕ α2 ⊕ α3))) (pu_lc (vs := vs) (puI_list (pu_as h ?_)) (tg_name i) hv fun D M L' x => ?_) ?_
  · rintro S H v ⟨p, xs, e, f, z, hA⟩
    obtain ⟨v1, us, rfl, q1, hA⟩ := AllV.cons_l hA
    obtain ⟨v2, us, rfl, q2, hA⟩ := AllV.cons_l hA
    obtain ⟨v3, us, rfl, q3, hA⟩ := AllV.cons_l hA
    have e0 := AllV.len hA
    cases us with
    | nil => exact ⟨p, _, e, f, z, q1, q2, q3, trivial⟩
    | cons _ _ => exact hA.elim
  · match x with
    | .inl x => exact b1 D M L' x
    | .inr (.inl x) => exact b2 D M L' x
    | .inr (.inr x) => exact b3 D M L' x
  · rintro S H v ⟨p, xs, e, f, z, hA⟩
    match xs, hA with
    | [v1, v2, v3], ⟨q1, q2, q3, _⟩ => exact ⟨p, _, e, f, z, q1, q2, q3, trivial⟩
/-! ### a call by which two kinds go -/
theorem ev_mkL {C : Addr} {f : As → Option γ} {sp2 : Sp} {k : γ → τ → Option ρ} (h : EvA e S N ts tA L s p fun as s1 => (f as).bind fun c => k c s1) : Ev e S N ts (tCB (rMk C (fun vs H Q E => SpI K C f vs H Q E ∨ sp2 vs H Q E) E0) tA) L s p k := fun hp σ H Q at_ q =>
  h hp σ H _ at_ fun as s1 vs H1 e1 a1 => by
    obtain ⟨c, hc, e2⟩ := Option.bind_eq_some_iff.mp e1
    have z : rMk C (SpI K C f) E0 vs H1 Q := mk_I a1 hc fun v H' a2 => q c s1 v H' e2 a2
    exact fun x dx h1 h2 h3 => .inl (z x dx h1 h2 h3)
theorem ev_mkR {C : Addr} {f : As → Option γ} {sp2 : Sp} {k : γ → τ → Option ρ} (h : EvA e S N ts tA L s p fun as s1 => (f as).bind fun c => k c s1) : Ev e S N ts (tCB (rMk C (fun vs H Q E => sp2 vs H Q E ∨ SpI K C f vs H Q E) E0) tA) L s p k := fun hp σ H Q at_ q =>
  h hp σ H _ at_ fun as s1 vs H1 e1 a1 => by
    obtain ⟨c, hc, e2⟩ := Option.bind_eq_some_iff.mp e1
    have z : rMk C (SpI K C f) E0 vs H1 Q := mk_I a1 hc fun v H' a2 => q c s1 v H' e2 a2
    exact fun x dx h1 h2 h3 => .inr (z x dx h1 h2 h3)
/-- a, b = [x, ..], ..: a new list of some values that will grow -/
theorem svA_newLs {acc : List (V × AV)} {Fin : Ends → L2.St → List V → Hp → Prop} {n : Nat} {tB : TA} (k : List γ → τ → Option ρ) {p0 : Option ρ} (h : EvL e S N ts tB (acc ++ L) s p0 n k) (hz : n ≤ 1000) (hu : ∀ f l s1, f ∉ S → SvA e (f :: S) (accD K f l :: N) ts L (acc ++ [(.ref f, refA f)]) tA s1 (k l s1) Fin nx ct bk) (e0 : p = p0) : SvA e S N ts L acc (tCons (tLst tB) tA) s p Fin nx ct bk := fun hp σ H D at_ rt n' c b =>
  h (e0 ▸ hp) σ H _ at_ fun l s1 vs H1 e1 hn a1 => by
    have hr := allA_RA (a1.get (v := .non) (A := allA vs (l.map (av K))) m0)
    have hz' : vs.length ≤ sizeLine := by rw [hr.len, sizeLine_eq]; omega
    exact ⟨hz', fun f hf => by
      have a2 := ((At.pushL a1 hf hz' hr).less d1).add (v := .ref f) (A := refA f) rfl
      have z := hu f l s1 (a1.c.old.no hf) e1 σ _ D (a2.less snoc_less) rt n' c b
      simpa using z⟩
end
end Lx
namespace Lw
open PySem PySem.Spec PyProof.Rows L2 He StX
theorem FnG.or2 {P : Program} {w : World} {K : PySem.W.Frag} {mg : Str → Option Value} {base : Heap} {CX : L2.CXT} {j1 j2 k : Nat} {f : Addr} {sp sp' : L2.Sp} (F : FnG P w K mg base CX j1 f sp) (F' : FnG P w K mg base CX j2 f sp') (h1 : j1 ≤ k) (h2 : j2 ≤ k) : FnG P w K mg base CX k f (fun vs H Q E => sp vs H Q E ∨ sp' vs H Q E) :=
  fun A outer s H us vs Q E hr e0 r hs => hs.elim (FnG.mono F h1 A outer s H us vs Q E hr e0 r) (FnG.mono F' h2 A outer s H us vs Q E hr e0 r)
end Lw

set_option Elab.async false
set_option linter.all false
set_option maxRecDepth 100000
set_option maxHeartbeats 4000000
/-! texts as data; a < b < c < d; lists that are new by a call; pop -/
namespace L2
open PySem PySem.Spec PyProof.Rows
section
variable {X : Cx} {a b c d : Expr} {ta tb tc td : TE} {pos : Pos}
def tChain3 (r r' r'' : R2) (ta tb tc td : TE) : TE := fun σ H Q => ta σ H fun x H1 => tb σ H1 fun y H2 => r x y H2 fun z H3 => ∃ k, z = .bl k ∧
  (if k = true then tc σ H3 fun w H4 => r' y w H4 fun z2 H5 => ∃ k2, z2 = .bl k2 ∧ (if k2 = true then td σ H5 fun w2 H6 => r'' w w2 H6 Q else Q (.bl false) H5) else Q (.bl false) H3)
theorem pe_chain3 {op op' op'' : CmpOp} {r r' r'' : R2} (ho : OpR X (compareOp op) r) (ho' : OpR X (compareOp op') r') (ho'' : OpR X (compareOp op'') r'') (ha : PE X a ta) (hb : PE X b tb) (hc : PE X c tc) (hd : PE X d td)
    (hm : lastMarks [op, op', op''] [b, c, d] = false := by with_unfolding_all rfl) : PE X (.Compare a [op, op', op''] [b, c, d] pos) (tChain3 r r' r'' ta tb tc td) := by
  refine ⟨fun pins s σ H Q I h => ?_⟩
  refine Compare_chain (thn (ha.run pins s σ H _ I h) fun v s1 ⟨x, H1, I1, r1, q1⟩ => chain_link (thn (hb.run pins s1 σ H1 _ I1 q1) fun u s2 ⟨y, H2, I2, r2, q2⟩ =>
    thn (ho pins s2 σ H2 x y v u _ I2 r1 r2 q2) fun d s3 ⟨z, H3, I3, r3, k, e, q3⟩ => ?_)) hm
  subst e
  cases r3
  refine wpAny_truthy_bool ?_
  cases k with
  | false => exact ite_ff ⟨.bl false, H3, I3, rfl, q3⟩
  | true =>
    refine ite_tt (chain_link (thn (hc.run pins s3 σ H3 _ I3 q3) fun w' s4 ⟨z', H4, I4, r4, q4⟩ => thn (ho' pins s4 σ H4 y z' u w' _ I4 r2 r4 q4) fun d' s5 ⟨z2, H5, I5, r5, k2, e2, q5⟩ => ?_))
    subst e2
    cases r5
    refine wpAny_truthy_bool ?_
    cases k2 with
    | false => exact ite_ff ⟨.bl false, H5, I5, rfl, q5⟩
    | true => exact ite_tt (chain_last (thn (hd.run pins s5 σ H5 _ I5 q5) fun w2 s6 ⟨z3, H6, I6, r6, q6⟩ => ho'' pins s6 σ H6 z' z3 w' w2 Q I6 r4 r6 q6))
theorem pt_chain3 {op op' op'' : CmpOp} {r r' r'' : R2} (ho : OpR X (compareOp op) r) (ho' : OpR X (compareOp op') r') (ho'' : OpR X (compareOp op'') r'') (ha : PE X a ta) (hb : PE X b tb) (hc : PE X c tc) (hd : PE X d td)
    (hm : lastMarks [op, op', op''] [b, c, d] = false := by with_unfolding_all rfl) : PT X (.Compare a [op, op', op''] [b, c, d] pos) (tTest (tChain3 r r' r'' ta tb tc td)) := by
  refine ⟨fun pins s σ H Q I h => ?_⟩
  refine isTrue_chain (thn (ha.run pins s σ H _ I h) fun v s1 ⟨x, H1, I1, r1, q1⟩ => test_link (thn (hb.run pins s1 σ H1 _ I1 q1) fun u s2 ⟨y, H2, I2, r2, q2⟩ =>
    thn (ho pins s2 σ H2 x y v u _ I2 r1 r2 q2) fun d s3 ⟨z, H3, I3, r3, k, e, q3⟩ => ?_)) hm
  subst e
  cases r3
  refine wpAny_truthy_bool ?_
  cases k with
  | false =>
    obtain ⟨k', e', q'⟩ := q3
    cases e'
    exact ite_ff ⟨H3, I3, q'⟩
  | true =>
    refine ite_tt (test_link (thn (hc.run pins s3 σ H3 _ I3 q3) fun w' s4 ⟨z', H4, I4, r4, q4⟩ => thn (ho' pins s4 σ H4 y z' u w' _ I4 r2 r4 q4) fun d' s5 ⟨z2, H5, I5, r5, k2, e2, q5⟩ => ?_))
    subst e2
    cases r5
    refine wpAny_truthy_bool ?_
    cases k2 with
    | false =>
      obtain ⟨k', e', q'⟩ := q5
      cases e'
      exact ite_ff ⟨H5, I5, q'⟩
    | true =>
      refine ite_tt (test_last (thn (hd.run pins s5 σ H5 _ I5 q5) fun w2 s6 ⟨z3, H6, I6, r6, q6⟩ => thn (ho'' pins s6 σ H6 z' z3 w' w2 _ I6 r4 r6 q6) fun d'' s7 ⟨z4, H7, I7, r7, k3, e3, q7⟩ => ?_))
      subst e3
      cases r7
      exact wpAny_truthy_bool ⟨H7, I7, q7⟩
end
end L2
namespace Lx
open PySem PySem.Spec PyProof.Rows L2 He StX Lw
open Lw.En (enc)
/-- texts whose signs are signs -/
def SOk (l : List Str) : Prop := l.all PyData.strOk = true
instance (l : List Str) : Decidable (SOk l) := inferInstanceAs (Decidable (_ = true))
section
variable {K : Frag}
theorem dp_strs {S : List Addr} {H : Hp} : ∀ {vs : List V} {as : List Str}, RA (Rv.R K S H) vs as → DpAll K H vs (as.map PyData.str)
  | [], [], _ => .nil
  | v :: vs, a :: as, ⟨h1, h2⟩ => by
    cases (show v = V.str a from h1)
    exact .cons (.str _) (dp_strs h2)
  | [], _ :: _, h => h.elim
  | _ :: _, [], h => h.elim
theorem eqvAll_strs : ∀ a b : List Str, PyData.eqvAll (a.map PyData.str) (b.map PyData.str) = decide (a = b)
  | [], [] => rfl
  | [], _ :: _ => rfl
  | _ :: _, [] => rfl
  | x :: xs, y :: ys => by
    have e := eqvAll_strs xs ys
    simp only [List.map_cons, PyData.eqvAll, PyData.eqv, e]
    by_cases h1 : x = y <;> by_cases h2 : xs = ys <;> simp [h1, h2]
theorem shaped_strs {a : List Str} (h : SOk a) : SeqAt.shaped (.list (a.map PyData.str)) = true := by
  unfold SeqAt.shaped
  have h1 : PyData.canLay0 (.list (a.map PyData.str)) = true := by
    simp only [PyData.canLay0]
    induction a with
    | nil => rfl
    | cons x xs ih =>
      have h' : PyData.strOk x = true ∧ xs.all PyData.strOk = true := by simpa [SOk] using h
      simp only [List.map_cons, PyData.canLayAll0, PyData.canLay0, h'.1, Bool.true_and]
      exact ih h'.2
  have h2 : PyData.depth (.list (a.map PyData.str)) ≤ 64 := by
    have : PyData.depthAll (a.map PyData.str) = 0 := by
      induction a with
      | nil => rfl
      | cons x xs ih =>
        have h' : PyData.strOk x = true ∧ xs.all PyData.strOk = true := by simpa [SOk] using h
        simp only [List.map_cons, PyData.depthAll, PyData.depth]
        rw [ih h'.2 (by
          simp only [PyData.canLay0, List.map_cons, PyData.canLayAll0, h'.1, Bool.true_and] at h1 ⊢
          exact h1)]
        rfl
    simp only [PyData.depth, this]
    omega
  rw [h1, decide_eq_true h2]
  rfl
theorem o_eqLS : Op2 K (rEqD K) (fun a b : List Str => SOk a ∧ SOk b) (fun a b => decide (a = b)) := fun S H x y a b Q _ ha hb hc q => by
  obtain ⟨p, xs, rfl, f, z, h⟩ := ha
  obtain ⟨p2, ys, rfl, f2, z2, h2⟩ := hb
  exact ⟨_, _, .lst f.sqL (dp_strs h), .lst f2.sqL (dp_strs h2), shaped_strs hc.1, shaped_strs hc.2, by
    simp only [PyData.eqv, eqvAll_strs]
    exact q _ H .refl rfl⟩
theorem o_neLS : Op2 K (rNeD K) (fun a b : List Str => SOk a ∧ SOk b) (fun a b => !decide (a = b)) := fun S H x y a b Q _ ha hb hc q => by
  obtain ⟨p, xs, rfl, f, z, h⟩ := ha
  obtain ⟨p2, ys, rfl, f2, z2, h2⟩ := hb
  exact ⟨_, _, .lst f.sqL (dp_strs h), .lst f2.sqL (dp_strs h2), shaped_strs hc.1, shaped_strs hc.2, by
    simp only [PyData.eqv, eqvAll_strs]
    exact q _ H .refl rfl⟩
end
/-- xs.pop(i) -/
def popI {γ : Type} (l : List γ) (n : Int) : Option (γ × List γ) := (ixN l.length n).bind fun m => l[m]?.map fun a => (a, l.eraseIdx m)
section
variable {K : Frag} {β τ ρ α γ δ ς : Type} [Rv K β] [Rv K α] [Rv K γ] [Rv K δ]
variable {e : Env K τ ρ} {S : List Addr} {N : List Mu} {ts ts' : List (Option AV)} {L L' : List (V × AV)} {s : τ} {σ : L2.St} {H H' : Hp} {v : V} {A : AV}
variable {te ta tb tc td : TE} {tt tu : TT} {t u t1 t2 : TS} {r r' r'' : R2} {b c : Bool} {p : Option ρ} {wi : TI} {g : TG} {nx ct bk : L2.St → Hp → Prop} {is : List Nat} {tA : TA}
theorem ev_chain3 {α1 α2 α3 α4 : Type} [Rv K α1] [Rv K α2] [Rv K α3] [Rv K α4] {g : α1 → α2 → Bool} {g' : α2 → α3 → Bool} {g'' : α3 → α4 → Bool} {k1 : α1 → τ → Option ρ} {k2 : α1 → α2 → τ → Option ρ} {k3 : α1 → α2 → α3 → τ → Option ρ} {k : Bool → τ → Option ρ} (h1 : Ev e S N ts ta L s p k1)
    (h2 : ∀ x s1 v, Ev e S N ts tb ((v, av K x) :: L) s1 (k1 x s1) fun y s2 => if g x y = true then k2 x y s2 else k false s2)
    (h3 : ∀ x y s2 v w, Ev e S N ts tc ((w, av K y) :: (v, av K x) :: L) s2 (k2 x y s2) fun z s3 => if g' y z = true then k3 x y z s3 else k false s3)
    (h4 : ∀ x y z s3 v w o, Ev e S N ts td ((o, av K z) :: (w, av K y) :: (v, av K x) :: L) s3 (k3 x y z s3) fun q s4 => k (g'' z q) s4)
    (o : Op2 K r C2 g) (o' : Op2 K r' C2 g') (o'' : Op2 K r'' C2 g'') : Ev e S N ts (tChain3 r r' r'' ta tb tc td) L s p k := fun hp σ H Q at_ q =>
  h1 hp σ H _ at_ fun x s1 x1 H1 e1 a1 => h2 x s1 x1 e1 σ H1 _ a1 fun y s2 y1 H2 e2 a2 => o S H2 x1 y1 x y _ a2.c.old (a2.get m1) (a2.get m0) trivial fun v H3 k3' r3 => ⟨g x y, bl_of r3, by
      have a3 := a2.pure k3'
      dsimp only at e2
      cases hg : g x y with
      | true =>
        rw [hg, if_pos rfl] at e2
        rw [if_pos rfl]
        exact h3 x y s2 x1 y1 e2 σ H3 _ a3 fun z s3 w H4 e4 a4 => o' S H4 y1 w y z _ a4.c.old (a4.get m1) (a4.get m0) trivial fun u5 H5 k5 r5 => ⟨g' y z, bl_of r5, by
          have a5 := a4.pure k5
          dsimp only at e4
          cases hg2 : g' y z with
          | true =>
            rw [hg2, if_pos rfl] at e4
            rw [if_pos rfl]
            exact h4 x y z s3 x1 y1 w e4 σ H5 _ a5 fun q' s4 w2 H6 e6 a6 => o'' S H6 w w2 z q' _ a6.c.old (a6.get m1) (a6.get m0) trivial fun u7 H7 k7 r7 => q _ s4 u7 H7 e6 (a6.res (L' := [_, _, _, _]) k7 r7)
          | false =>
            rw [hg2, if_neg (by decide)] at e4
            rw [if_neg (by decide)]
            exact q false s3 _ H5 e4 ((a5.less (fun f hf => List.mem_cons_of_mem _ (List.mem_cons_of_mem _ (List.mem_cons_of_mem _ hf)))).add (A := av K false) rfl)⟩
      | false =>
        rw [hg, if_neg (by decide)] at e2
        rw [if_neg (by decide)]
        exact q false s2 _ H3 e2 ((a3.less (fun f hf => List.mem_cons_of_mem _ (List.mem_cons_of_mem _ hf))).add (A := av K false) rfl)⟩
/-- xs op e, xs being built -/
theorem ev_opML [Sc K δ] {i : Nat} {f : Addr} {l : List γ} {a : α} {h : List γ → α → δ} {k : δ → τ → Option ρ} (hi : ts[i]? = some (some (refA f))) (nf : f ∉ S) (h1 : Pu e (f :: S) (accD K f l :: N) ts ta L a) (o : Op2 K r C2 h) (e0 : p = k (h l a) s) :
    Ev e (f :: S) (accD K f l :: N) ts (tOp r (tVar i) ta) L s p k := fun hp σ H Q at_ q => by
  rw [e0] at hp
  obtain ⟨hx, _, _⟩ := At.view hi nf at_
  refine ⟨.ref f, hx, h1 s σ H _ at_ fun x H1 a1 => ?_⟩
  obtain ⟨_, oS, hv⟩ := At.view hi nf a1
  exact o S H1 (.ref f) x l a Q oS hv (Rv.wid (a1.get (A := av K a) m0) fun y hy => .inl (List.mem_cons_of_mem _ hy)) trivial fun v H' kk r => q _ _ v H' hp (((a1.pure kk).less d1).add (A := av K (h l a)) (Sc.sc r))
/-- a reading that makes a list that nothing else knows -/
def EvN (K : Frag) {τ ρ γ : Type} [Rv K γ] (e : Env K τ ρ) (S : List Addr) (N : List Mu) (ts : List (Option AV)) (te : TE) (L : List (V × AV)) (s : τ) (p : Option ρ) (k : List γ → τ → Option ρ) : Prop :=
  p = some e.r → ∀ σ H Q, e.At S N ts L s σ H → (∀ D l s' H', k l s' = some e.r → D ∉ S → e.At (D :: S) (accD K D l :: N) ts L s' σ H' → Q (.ref D) H') → te σ H Q
theorem evN_listT {k : List γ → τ → Option ρ} (h : Ev e S N ts te L s p fun (l : Tu γ) s1 => k l.l s1) : EvN K e S N ts (tCB (rbList K) (tCons te tNil)) L s p k := fun hp σ H Q at_ q => h hp σ H _ at_ fun l s1 x H1 e1 a1 => by
  obtain ⟨p, xs, rfl, f, z, hr⟩ := a1.get (A := av K l) m0
  exact ⟨p, xs, rfl, .inr (tu_sqT f), fun m hm => q m l.l s1 _ e1 (a1.c.old.no hm) ((At.pushL a1 hm z hr).less d1)⟩
theorem evN_listL {k : List γ → τ → Option ρ} (h : Ev e S N ts te L s p fun (l : List γ) s1 => k l s1) : EvN K e S N ts (tCB (rbList K) (tCons te tNil)) L s p k := fun hp σ H Q at_ q => h hp σ H _ at_ fun l s1 x H1 e1 a1 => by
  obtain ⟨p, xs, rfl, f, z, hr⟩ := a1.get (A := av K l) m0
  exact ⟨p, xs, rfl, .inl f.sqL, fun m hm => q m l s1 _ e1 (a1.c.old.no hm) ((At.pushL a1 hm z hr).less d1)⟩
theorem evN_rg1 {k : List Int → τ → Option ρ} (h : Ev e S N ts ta L s p fun (j : Int) s2 => if RgOk 0 j then k (rg 0 j) s2 else none) : EvN K e S N ts (tLstRg (tRg1 ta)) L s p k := fun hp σ H Q at_ q => h hp σ H _ at_ fun j s2 y H2 e2 a2 => by
  cases (show y = V.int j from a2.get m0)
  by_cases c : RgOk 0 j
  · dsimp only at e2
    rw [if_pos c] at e2
    refine ⟨j, rfl, c, fun p hn => q p (rg 0 j) s2 _ e2 (a2.c.old.no hn) ((At.pushL a2 hn ?_ (ra_rgV 0 j)).less d1)⟩
    rw [rgV_length, sizeLine_eq]
    have := c.2.2.2.2
    omega
  · dsimp only at e2
    rw [if_neg c] at e2
    cases e2
theorem sv_newE {i : Nat} (k : List γ → τ → Option ρ) {p0 : Option ρ} (h : EvN K e S N ts te L s p0 k) (hu : ∀ f l s1, f ∉ S → Sv e (f :: S) (accD K f l :: N) (ts.set i (some (refA f))) L u s1 (k l s1) nx ct bk) (e0 : p = p0) : Sv e S N ts L (tSeq (tAsg te (gName i)) u) s p nx ct bk := fun hp σ H D at_ rt n c b =>
  h (e0 ▸ hp) σ H _ at_ fun f l s1 H1 e1 nf a1 => hu f l s1 nf e1 _ _ D (a1.set (A := refA f) rfl) rt n c b
theorem svA_newE {acc : List (V × AV)} {Fin : Ends → L2.St → List V → Hp → Prop} (k : List γ → τ → Option ρ) {p0 : Option ρ} (h : EvN K e S N ts te (acc ++ L) s p0 k) (hu : ∀ f l s1, f ∉ S → SvA e (f :: S) (accD K f l :: N) ts L (acc ++ [(.ref f, refA f)]) tA s1 (k l s1) Fin nx ct bk) (e0 : p = p0) : SvA e S N ts L acc (tCons te tA) s p Fin nx ct bk := fun hp σ H D at_ rt n' c b =>
  h (e0 ▸ hp) σ H _ at_ fun f l s1 H1 e1 nf a1 => by
    have z := hu f l s1 nf e1 σ H1 D ((a1.add (v := .ref f) (A := refA f) rfl).less snoc_less) rt n' c b
    simpa using z
theorem RA.erase {r : V → α → Prop} : ∀ (n : Nat) {vs : List V} {as : List α}, RA r vs as → RA r (vs.eraseIdx n) (as.eraseIdx n)
  | _, [], [], _ => by simp [RA]
  | 0, v :: vs, a :: as, ⟨h1, h2⟩ => h2
  | n + 1, v :: vs, a :: as, ⟨h1, h2⟩ => ⟨h1, RA.erase n h2⟩
  | _, [], _ :: _, h => h.elim
  | _, _ :: _, [], h => h.elim
theorem sv_popAt {i i2 j : Nat} {f : Addr} {l : List γ} (k : γ × List γ → τ → Option ρ) {p0 : Option ρ} (hi : ts[i]? = some (some (refA f))) (hj : N[j]? = some (accD K f l)) (h : Ev e S N ts te L s p0 fun (n : Int) s1 => (popI l n).bind fun c => k c s1) (hu : ∀ c s1, Sv e S (N.set j (accD K f c.2)) (ts.set i2 (some (av K c.1))) L u s1 (k c s1) nx ct bk) (e0 : p = p0) :
    Sv e S N ts L (tSeq (tAsg (tBM K "list" rPopAt (tVar i) (tCons te tNil)) (gName i2)) u) s p nx ct bk := fun hp σ H D at_ rt n c b => by
  obtain ⟨x, hx, rx⟩ := at_.s.at_ i _ hi
  have rx' : x = .ref f := rx
  subst rx'
  refine ⟨.ref f, hx, ?_⟩
  have hjm : ∀ s, (N ++ e.m s)[j]? = some (accD K f l) := fun s => by rw [List.getElem?_append_left (List.getElem?_eq_some_iff.mp hj).1]; exact hj
  obtain ⟨_, ⟨xs0, ex0, _, _⟩, _⟩ := at_.c.mu _ (List.mem_of_getElem? (hjm s))
  refine ⟨.inl ⟨rfl, xs0, SqL.of ex0⟩, h (e0 ▸ hp) σ H _ at_ fun a s1 y H1 e1 a1 => ?_⟩
  obtain ⟨c0, hc, e3⟩ := Option.bind_eq_some_iff.mp e1
  obtain ⟨m, hm, hc⟩ := Option.bind_eq_some_iff.mp hc
  obtain ⟨a0, ha0, rfl⟩ := Option.map_eq_some_iff.mp hc
  cases (show y = V.int a from a1.get (A := av K a) m0)
  obtain ⟨c1, ⟨xs, ex, hz, hr⟩, c3, c4⟩ := a1.c.mu _ (List.mem_of_getElem? (hjm s1))
  obtain ⟨q1, q2, q3, q4⟩ := ixN_seq hm
  obtain ⟨w, hw, hrw⟩ := hr.of ha0
  rw [← hr.len] at q1 q3 q4
  rw [sizeLine_eq] at hz
  refine ⟨f, xs, a, m, w, rfl, rfl, ex, by omega, by omega, q1, hw, ?_⟩
  have kk : Kp [f] H1 (upd H1 f (.lst (xs.eraseIdx m))) := .mut (List.mem_singleton_self f)
  have kS : Kp S H1 (upd H1 f (.lst (xs.eraseIdx m))) := .mut c1
  have c2 := a1.c.eff (i := j) (m := accD K f l) (m' := accD K f (l.eraseIdx m)) (hjm s1) kk ⟨_, upd_same⟩ rfl rfl ⟨_, upd_same, by rw [sizeLine_eq]; have := len_erase xs m; omega, (hr.erase m).imp fun _ _ z => Rv.keep z kS⟩
  rw [List.set_append_left _ _ (List.getElem?_eq_some_iff.mp hj).1] at c2
  have a3 : e.At S (N.set j (accD K f (l.eraseIdx m))) ts L s1 σ (upd H1 f (.lst (xs.eraseIdx m))) := ⟨c2.less d1, a1.s.keep kS⟩
  exact hu (a0, l.eraseIdx m) s1 e3 _ _ D (a3.set (A := av K a0) (Rv.keep hrw kS)) rt n c b
end
end Lx

set_option Elab.async false
set_option linter.all false
set_option maxRecDepth 100000
set_option maxHeartbeats 4000000
/-! mathematics of what is computed -/
namespace Lx
open PySem PySem.Spec PyProof.Rows L2 He StX Lw
section
variable {α γ ς τ ρ : Type}
theorem forK_inv {xs : List α} {c : ς} {s : τ} {b : α → ς → τ → (ς → τ → Option ρ) → (ς → τ → Option ρ) → Option ρ} {k : ς → τ → Option ρ} (I : Nat → ς → τ → Prop)
    (hs : ∀ i x c s, xs[i]? = some x → I i c s → ∃ c' s', I (i + 1) c' s' ∧ ∀ next done, b x c s next done = next c' s') (h0 : I 0 c s) : ∃ c' s', I xs.length c' s' ∧ forK xs c s b k = k c' s' := by
  induction xs generalizing c s I with
  | nil => exact ⟨c, s, h0, rfl⟩
  | cons x xs ih =>
    obtain ⟨c1, s1, h1, e1⟩ := hs 0 x c s rfl h0
    obtain ⟨c2, s2, h2, e2⟩ := ih (fun i => I (i + 1)) (fun i y c s hy hI => hs (i + 1) y c s (by simpa using hy) hI) h1
    exact ⟨c2, s2, h2, by unfold forK; rw [e1, e2]⟩
theorem forK_same {xs : List α} {c : ς} {s : τ} {b : α → ς → τ → (ς → τ → Option ρ) → (ς → τ → Option ρ) → Option ρ} {k : ς → τ → Option ρ} (hs : ∀ x ∈ xs, ∀ next done, b x c s next done = next c s) : forK xs c s b k = k c s := by
  induction xs with
  | nil => rfl
  | cons x xs ih =>
    unfold forK
    rw [hs x (List.mem_cons_self ..)]
    exact ih fun y hy => hs y (List.mem_cons_of_mem _ hy)
theorem mapK_inv {xs : List α} {s : τ} {b : α → τ → (γ → τ → Option ρ) → Option ρ} {k : List γ → τ → Option ρ} (I : τ → Prop) (J : α → γ → Prop)
    (hs : ∀ x ∈ xs, ∀ s, I s → ∃ y s', I s' ∧ J x y ∧ ∀ nx, b x s nx = nx y s') (h0 : I s) : ∃ (ys : List γ) (s' : τ), I s' ∧ ys.length = xs.length ∧ (∀ (i : Nat) (x : α) (y : γ), xs[i]? = some x → ys[i]? = some y → J x y) ∧ mapK xs s b k = k ys s' := by
  induction xs generalizing s k with
  | nil => exact ⟨[], s, h0, rfl, fun i x y h => by simp at h, rfl⟩
  | cons x xs ih =>
    obtain ⟨y, s1, h1, j1, e1⟩ := hs x (List.mem_cons_self ..) s h0
    obtain ⟨ys, s2, h2, l2, j2, e2⟩ := ih (k := fun ys s'' => k (y :: ys) s'') (fun z hz => hs z (List.mem_cons_of_mem _ hz)) h1
    refine ⟨y :: ys, s2, h2, by simp [l2], fun i a c ha hc => ?_, by unfold mapK; rw [e1]; exact e2⟩
    cases i with
    | zero =>
      simp at ha hc
      subst ha hc
      exact j1
    | succ i => exact j2 i a c (by simpa using ha) (by simpa using hc)
theorem mapK_all {xs : List α} {s : τ} {b : α → τ → (Bool → τ → Option ρ) → Option ρ} {k : List Bool → τ → Option ρ} (I : τ → Prop)
    (hs : ∀ x ∈ xs, ∀ s, I s → ∃ s', I s' ∧ ∀ nx, b x s nx = nx true s') (h0 : I s) : ∃ ys s', I s' ∧ ys.length = xs.length ∧ ys.all id = true ∧ mapK xs s b k = k ys s' := by
  obtain ⟨ys, s', h1, h2, h3, h4⟩ := mapK_inv (k := k) I (fun _ y => y = true) (fun x hx s h => let ⟨s', a, e⟩ := hs x hx s h; ⟨true, s', a, rfl, e⟩) h0
  refine ⟨ys, s', h1, h2, ?_, h4⟩
  rw [List.all_eq_true]
  intro y hy
  obtain ⟨i, hi, e⟩ := List.mem_iff_getElem.mp hy
  have := h3 i xs[i] y (List.getElem?_eq_getElem (by omega)) (by rw [List.getElem?_eq_getElem hi, e])
  rw [this]
  rfl
theorem forK_ex {xs : List α} {c : ς} {s : τ} {b : α → ς → τ → (ς → τ → Option ρ) → (ς → τ → Option ρ) → Option ρ} {k : ς → τ → Option ρ} (P : Option ρ → Prop) (I : Nat → ς → τ → Prop) (h0 : I 0 c s)
    (hs : ∀ i x c s, xs[i]? = some x → I i c s → ∃ c' s', I (i + 1) c' s' ∧ ∀ next done, b x c s next done = next c' s') (hk : ∀ c' s', I xs.length c' s' → P (k c' s')) : P (forK xs c s b k) := by
  obtain ⟨c', s', h, e⟩ := forK_inv (k := k) I hs h0
  rw [e]
  exact hk c' s' h
theorem mapK_ex {xs : List α} {s : τ} {b : α → τ → (γ → τ → Option ρ) → Option ρ} {k : List γ → τ → Option ρ} (P : Option ρ → Prop) (I : τ → Prop) (J : α → γ → Prop) (h0 : I s)
    (hs : ∀ x ∈ xs, ∀ s, I s → ∃ y s', I s' ∧ J x y ∧ ∀ nx, b x s nx = nx y s') (hk : ∀ (ys : List γ) (s' : τ), I s' → ys.length = xs.length → (∀ (i : Nat) (x : α) (y : γ), xs[i]? = some x → ys[i]? = some y → J x y) → P (k ys s')) : P (mapK xs s b k) := by
  obtain ⟨ys, s', h1, h2, h3, e⟩ := mapK_inv (k := k) I J hs h0
  rw [e]
  exact hk ys s' h1 h2 h3
theorem mapK_tt {xs : List α} {s : τ} {b : α → τ → (Bool → τ → Option ρ) → Option ρ} {k : List Bool → τ → Option ρ} (P : Option ρ → Prop) (I : τ → Prop) (h0 : I s)
    (hs : ∀ x ∈ xs, ∀ s, I s → ∃ s', I s' ∧ ∀ nx, b x s nx = nx true s') (hk : ∀ (ys : List Bool) (s' : τ), I s' → ys.length = xs.length → ys.all id = true → P (k ys s')) : P (mapK xs s b k) := by
  obtain ⟨ys, s', h1, h2, h3, e⟩ := mapK_all (k := k) I hs h0
  rw [e]
  exact hk ys s' h1 h2 h3
theorem mapK_pure {xs : List α} {s : τ} {b : α → τ → (γ → τ → Option ρ) → Option ρ} {k : List γ → τ → Option ρ} (g : α → γ) (hs : ∀ x ∈ xs, ∀ nx, b x s nx = nx (g x) s) : mapK xs s b k = k (xs.map g) s := by
  induction xs generalizing k with
  | nil => rfl
  | cons x xs ih =>
    unfold mapK
    rw [hs x (List.mem_cons_self ..)]
    exact ih fun y hy => hs y (List.mem_cons_of_mem _ hy)
end
/-- less than so many bits -/
def Sz (k : Nat) (x : Int) : Prop := x.natAbs < 2 ^ k
theorem Sz.mono {k m : Nat} {x : Int} (h : Sz k x) (w : k ≤ m) : Sz m x := Nat.lt_of_lt_of_le h (Nat.pow_le_pow_right (by decide) w)
theorem Sz.add {k m : Nat} {x y : Int} (h : Sz k x) (h' : Sz m y) : Sz (max k m + 1) (x + y) := by
  have a : x.natAbs < 2 ^ max k m := h.mono (by omega)
  have b : y.natAbs < 2 ^ max k m := h'.mono (by omega)
  show (x + y).natAbs < 2 ^ (max k m + 1)
  rw [Nat.pow_succ]
  omega
theorem Sz.neg {k : Nat} {x : Int} (h : Sz k x) : Sz k (-x) := by
  have a : x.natAbs < 2 ^ k := h
  show (-x).natAbs < 2 ^ k
  omega
theorem Sz.sub {k m : Nat} {x y : Int} (h : Sz k x) (h' : Sz m y) : Sz (max k m + 1) (x - y) := by
  have a : x.natAbs < 2 ^ max k m := h.mono (by omega)
  have b : y.natAbs < 2 ^ max k m := h'.mono (by omega)
  show (x - y).natAbs < 2 ^ (max k m + 1)
  rw [Nat.pow_succ]
  omega
theorem Sz.mul {k m : Nat} {x y : Int} (h : Sz k x) (h' : Sz m y) : Sz (k + m) (x * y) := wide_lt h h'
theorem Sz.div {k : Nat} {x y : Int} (h : Sz k x) : Sz k (x / y) := Nat.lt_of_le_of_lt (Int.natAbs_ediv_le_natAbs x y) h
theorem Sz.le {k : Nat} {x y : Int} (h : Sz k y) (h0 : 0 ≤ x) (h1 : x ≤ y) : Sz k x := by
  have a : y.natAbs < 2 ^ k := h
  show x.natAbs < 2 ^ k
  omega
theorem mulOk {k m : Nat} {x y : Int} (h : Sz k x) (h' : Sz m y) (w : k + m ≤ 900000) : CMulW x y :=
  wide_mul (a := k + 1) (b := m + 1) (Nat.lt_of_lt_of_le h (Nat.pow_le_pow_right (by decide) (by omega))) (Nat.lt_of_lt_of_le h' (Nat.pow_le_pow_right (by decide) (by omega))) (by omega) (by omega) (by omega)
theorem divOk {k : Nat} {x y : Int} (h0 : 0 < y) (h : Sz k y) (w : k ≤ 8000) : CDivW x y :=
  wide_div (b := k + 1) h0 (Nat.lt_of_lt_of_le h (Nat.pow_le_pow_right (by decide) (by omega))) (by omega) (by omega)
theorem sz_lit {x : Int} (k : Nat) (h : decide (x.natAbs < 2 ^ k) = true) : Sz k x := by
  show x.natAbs < 2 ^ k
  exact of_decide_eq_true h
theorem rgB_of {i j : Int} (h0 : -1000000 ≤ i) (h1 : i ≤ j) (h2 : j ≤ 1000000) : RgB i j := ⟨by omega, by omega, by omega, by omega, by rw [sizeLine_eq]; omega⟩
theorem rg_mem {lo hi x : Int} : x ∈ rg lo hi ↔ lo ≤ x ∧ x < hi := by
  unfold rg
  simp only [List.mem_map, List.mem_range]
  constructor
  · rintro ⟨i, hi', rfl⟩
    omega
  · intro h
    exact ⟨(x - lo).toNat, by omega, by omega⟩
theorem en_mem {α : Type} {k : Int} {l : List α} {x : Int × α} (h : x ∈ en k l) : ∃ i : Nat, x.1 = k + i ∧ l[i]? = some x.2 := by
  obtain ⟨i, hi, e⟩ := List.mem_iff_getElem.mp h
  exact ⟨i, en_at (by rw [List.getElem?_eq_getElem hi, e])⟩
theorem len_ok {α : Type} {l : List α} (h : l.length ≤ 1000000) : l.length < sizeLine := by rw [sizeLine_eq]; omega
theorem len_ok' {α : Type} {l m : List α} (h : l.length + m.length ≤ 1000000) : l.length + m.length ≤ sizeLine := by rw [sizeLine_eq]; omega
theorem atI_ok {α : Type} {l : List α} {i : Nat} {a : α} (h : l[i]? = some a) : atI l (i : Int) = some a := atI_nat h
theorem atI_lst {α : Type} (l : List α) (a : α) : atI (l ++ [a]) (-1) = some a := atI_last l a
theorem some_bind' {α β : Type} (a : α) (f : α → Option β) : (some a).bind f = f a := rfl
/-- a pot of draws -/
def Good (m : Int) (s : Pot) : Prop := 0 ≤ s.1 ∧ 0 ≤ s.2 ∧ s.2 < 1099511627776
theorem Sz.sm {k : Nat} {x : Int} (h : Sz k x) (w : k ≤ 160) : Sm x := Nat.lt_of_lt_of_le (h.mono w : x.natAbs < 2 ^ 160) (by decide +kernel)
theorem OkR_of {d : PyData} {n : Nat} (s : Shw d n) (hn : n ≤ 30000) (hd : d.depth ≤ 60) : OkR d ∧ d.shown.length ≤ 1600000 := by
  have h1 := PyData.shown_le 51 (by decide) d s.l
  have h2 := s.w
  have h3 : (51 + 2) * d.weight ≤ 53 * 30000 := Nat.mul_le_mul (by decide) (by omega)
  refine ⟨⟨s.s, ?_, hd⟩, by omega⟩
  rw [sizeLine_eq]
  omega
theorem Shw.pairs {es : List (Int × Int)} (h : ∀ p ∈ es, Sm p.1 ∧ Sm p.2) : Shw (Lw.En.enc es) (337 * es.length) := by
  have := Shw.list (n := 336) (ds := es.map Lw.En.enc) fun d hd => by
    obtain ⟨n, hn, rfl⟩ := List.mem_map.mp hd
    exact Shw.pair (h n hn).1 (h n hn).2
  rwa [List.length_map] at this
theorem app_len (x y : Str) : (x ++ y).length = x.length + y.length := strLen_append x y
theorem str_fit {n : Nat} (h : n ≤ 16000000) : n ≤ sizeLine := by rw [sizeLine_eq]; omega
end Lx

set_option Elab.async false
set_option linter.all false
set_option maxRecDepth 100000
set_option maxHeartbeats 4000000
/-! more mathematics -/
namespace Lx
open PySem PySem.Spec PyProof.Rows L2 He StX Lw
section
variable {α β γ : Type}
theorem atI_mem {l : List α} {r : Int} (h0 : 0 ≤ r) (h1 : r < l.length) : ∃ x, atI l r = some x ∧ x ∈ l := by
  obtain ⟨i, rfl⟩ := Int.eq_ofNat_of_zero_le h0
  have hi : i < l.length := by omega
  exact ⟨l[i], atI_ok (List.getElem?_eq_getElem hi), List.getElem_mem hi⟩
theorem cut_take {l : List α} {i : Nat} (h : i ≤ l.length) : cutL l none (some (i : Int)) = l.take i := by
  unfold cutL
  rw [HT.sIx_none, HT.sIx_nat, List.drop_zero, Nat.sub_zero, Nat.min_eq_left h]
theorem cut_drop {l : List α} {i : Nat} (h : i ≤ l.length) : cutL l (some (i : Int)) none = l.drop i := by
  unfold cutL
  rw [HT.sIx_none, HT.sIx_nat, Nat.min_eq_left h]
  exact List.take_of_length_le (by rw [List.length_drop]; exact Nat.le_refl _)
/-- one of a list exchanged, by slices -/
theorem cut_set {l : List α} {i : Nat} (x : α) (h : i < l.length) : (cutL l none (some (i : Int)) ++ [x]) ++ cutL l (some ((i : Int) + 1)) none = l.set i x := by
  rw [cut_take (Nat.le_of_lt h), show ((i : Int) + 1) = ((i + 1 : Nat) : Int) by omega, cut_drop (by omega)]
  rw [List.set_eq_take_append_cons_drop, if_pos h]
  simp
theorem min_cut {l : List α} {i : Nat} : (cutL l none (some (i : Int))).length ≤ l.length := by
  exact cut_len _ _ _
/-! ### pairs, one by one the greater, the lesser -/
abbrev Pr := Int × Int
def orP (a b : Pr) : Pr := (max a.1 b.1, max a.2 b.2)
def andP (a b : Pr) : Pr := (min a.1 b.1, min a.2 b.2)
def leP (a b : Pr) : Bool := decide (a.1 ≤ b.1) && decide (a.2 ≤ b.2)
def orL : List Pr → List Pr → List Pr
  | a :: as, b :: bs => orP a b :: orL as bs
  | _, _ => []
def andL : List Pr → List Pr → List Pr
  | a :: as, b :: bs => andP a b :: andL as bs
  | _, _ => []
def leL : List Pr → List Pr → Bool
  | a :: as, b :: bs => leP a b && leL as bs
  | _, _ => true
theorem orL_eq : ∀ p q : List Pr, List.map (fun (y : Pr × Pr) => ((max y.1.1 y.2.1, max y.1.2 y.2.2) : Pr)) (List.zip p q) = orL p q
  | [], _ => by simp [orL]
  | _ :: _, [] => by simp [orL]
  | a :: as, b :: bs => by
    rw [List.zip_cons_cons, List.map_cons, orL_eq as bs]
    rfl
theorem andL_eq : ∀ p q : List Pr, List.map (fun (y : Pr × Pr) => ((min y.1.1 y.2.1, min y.1.2 y.2.2) : Pr)) (List.zip p q) = andL p q
  | [], _ => by simp [andL]
  | _ :: _, [] => by simp [andL]
  | a :: as, b :: bs => by
    rw [List.zip_cons_cons, List.map_cons, andL_eq as bs]
    rfl
theorem leL_eq : ∀ p q : List Pr, (List.map (fun (y : Pr × Pr) => (decide (y.1.1 ≤ y.2.1) && decide (y.1.2 ≤ y.2.2))) (List.zip p q)).all id = leL p q
  | [], _ => by simp [leL]
  | _ :: _, [] => by simp [leL]
  | a :: as, b :: bs => by
    rw [List.zip_cons_cons, List.map_cons, List.all_cons, leL_eq as bs]
    rfl
theorem orL_len : ∀ {p q : List Pr}, q.length = p.length → (orL p q).length = p.length
  | [], _, _ => by simp [orL]
  | _ :: _, [], h => by simp at h
  | a :: as, b :: bs, h => by simp only [orL, List.length_cons]; rw [orL_len (by simpa using h)]
theorem andL_len : ∀ {p q : List Pr}, q.length = p.length → (andL p q).length = p.length
  | [], _, _ => by simp [andL]
  | _ :: _, [], h => by simp at h
  | a :: as, b :: bs, h => by simp only [andL, List.length_cons]; rw [andL_len (by simpa using h)]
theorem orL_at : ∀ {p q : List Pr} {i : Nat} {a b : Pr}, p[i]? = some a → q[i]? = some b → (orL p q)[i]? = some (orP a b)
  | [], _, _, _, _, h, _ => by simp at h
  | _ :: _, [], _, _, _, _, h => by simp at h
  | x :: xs, y :: ys, 0, _, _, h, h' => by simp at h h'; subst h h'; rfl
  | x :: xs, y :: ys, i + 1, _, _, h, h' => by simpa [orL] using orL_at (p := xs) (q := ys) (i := i) (by simpa using h) (by simpa using h')
theorem andL_at : ∀ {p q : List Pr} {i : Nat} {a b : Pr}, p[i]? = some a → q[i]? = some b → (andL p q)[i]? = some (andP a b)
  | [], _, _, _, _, h, _ => by simp at h
  | _ :: _, [], _, _, _, _, h => by simp at h
  | x :: xs, y :: ys, 0, _, _, h, h' => by simp at h h'; subst h h'; rfl
  | x :: xs, y :: ys, i + 1, _, _, h, h' => by simpa [andL] using andL_at (p := xs) (q := ys) (i := i) (by simpa using h) (by simpa using h')
theorem leL_at : ∀ {p q : List Pr} {i : Nat} {a b : Pr}, leL p q = true → p[i]? = some a → q[i]? = some b → a.1 ≤ b.1 ∧ a.2 ≤ b.2
  | [], _, _, _, _, _, h, _ => by simp at h
  | _ :: _, [], _, _, _, _, _, h => by simp at h
  | x :: xs, y :: ys, 0, _, _, hl, h, h' => by
    simp at h h'
    subst h h'
    simp only [leL, leP, Bool.and_eq_true, decide_eq_true_eq] at hl
    exact hl.1
  | x :: xs, y :: ys, i + 1, _, _, hl, h, h' => by
    simp only [leL, Bool.and_eq_true] at hl
    exact leL_at (p := xs) (q := ys) (i := i) hl.2 (by simpa using h) (by simpa using h')
/-- what no number is below 0 -/
def NnL (p : List Pr) : Prop := ∀ a ∈ p, 0 ≤ a.1 ∧ 0 ≤ a.2
theorem orL_nn : ∀ {p q : List Pr}, NnL p → NnL q → NnL (orL p q)
  | [], _, _, _ => fun a h => by simp [orL] at h
  | _ :: _, [], _, _ => fun a h => by simp [orL] at h
  | x :: xs, y :: ys, h, h' => fun a ha => by
    rcases List.mem_cons.mp ha with z | z
    · subst z
      have h1 := h x (List.mem_cons_self ..)
      have h2 := h' y (List.mem_cons_self ..)
      simp only [orP]
      omega
    · exact orL_nn (p := xs) (q := ys) (fun a ha => h a (List.mem_cons_of_mem _ ha)) (fun a ha => h' a (List.mem_cons_of_mem _ ha)) a z
theorem andL_nn : ∀ {p q : List Pr}, NnL p → NnL q → NnL (andL p q)
  | [], _, _, _ => fun a h => by simp [andL] at h
  | _ :: _, [], _, _ => fun a h => by simp [andL] at h
  | x :: xs, y :: ys, h, h' => fun a ha => by
    rcases List.mem_cons.mp ha with z | z
    · subst z
      have h1 := h x (List.mem_cons_self ..)
      have h2 := h' y (List.mem_cons_self ..)
      simp only [andP]
      omega
    · exact andL_nn (p := xs) (q := ys) (fun a ha => h a (List.mem_cons_of_mem _ ha)) (fun a ha => h' a (List.mem_cons_of_mem _ ha)) a z
/-! what holds of them -/
theorem orL_comm : ∀ p q : List Pr, orL p q = orL q p
  | [], q => by cases q <;> simp [orL]
  | _ :: _, [] => by simp [orL]
  | a :: as, b :: bs => by simp only [orL, orL_comm as bs, orP, List.cons.injEq, Prod.mk.injEq, and_true]; omega
theorem andL_comm : ∀ p q : List Pr, andL p q = andL q p
  | [], q => by cases q <;> simp [andL]
  | _ :: _, [] => by simp [andL]
  | a :: as, b :: bs => by simp only [andL, andL_comm as bs, andP, List.cons.injEq, Prod.mk.injEq, and_true]; omega
theorem orL_assoc : ∀ p q r : List Pr, orL (orL p q) r = orL p (orL q r)
  | [], q, r => by cases q <;> cases r <;> simp [orL]
  | _ :: _, [], r => by cases r <;> simp [orL]
  | _ :: _, _ :: _, [] => by simp [orL]
  | a :: as, b :: bs, c :: cs => by simp only [orL, orL_assoc as bs cs, orP, List.cons.injEq, Prod.mk.injEq, and_true]; omega
theorem andL_assoc : ∀ p q r : List Pr, andL (andL p q) r = andL p (andL q r)
  | [], q, r => by cases q <;> cases r <;> simp [andL]
  | _ :: _, [], r => by cases r <;> simp [andL]
  | _ :: _, _ :: _, [] => by simp [andL]
  | a :: as, b :: bs, c :: cs => by simp only [andL, andL_assoc as bs cs, andP, List.cons.injEq, Prod.mk.injEq, and_true]; omega
theorem orL_and : ∀ p q r : List Pr, orL p (andL q r) = andL (orL p q) (orL p r)
  | [], q, r => by cases q <;> cases r <;> simp [orL, andL]
  | _ :: _, [], r => by cases r <;> simp [orL, andL]
  | _ :: _, _ :: _, [] => by simp [orL, andL]
  | a :: as, b :: bs, c :: cs => by simp only [orL, andL, orL_and as bs cs, orP, andP, List.cons.injEq, Prod.mk.injEq, and_true]; omega
theorem andL_or : ∀ p q r : List Pr, andL p (orL q r) = orL (andL p q) (andL p r)
  | [], q, r => by cases q <;> cases r <;> simp [orL, andL]
  | _ :: _, [], r => by cases r <;> simp [orL, andL]
  | _ :: _, _ :: _, [] => by simp [orL, andL]
  | a :: as, b :: bs, c :: cs => by simp only [orL, andL, andL_or as bs cs, orP, andP, List.cons.injEq, Prod.mk.injEq, and_true]; omega
theorem orL_absorb : ∀ {p q : List Pr}, q.length = p.length → orL p (andL p q) = p
  | [], _, _ => by simp [orL]
  | _ :: _, [], h => by simp at h
  | a :: as, b :: bs, h => by
    obtain ⟨a1, a2⟩ := a
    simp only [orL, andL, orL_absorb (p := as) (q := bs) (by simpa using h), orP, andP, List.cons.injEq, Prod.mk.injEq, and_true]; omega
theorem andL_absorb : ∀ {p q : List Pr}, q.length = p.length → andL p (orL p q) = p
  | [], _, _ => by simp [andL]
  | _ :: _, [], h => by simp at h
  | a :: as, b :: bs, h => by
    obtain ⟨a1, a2⟩ := a
    simp only [orL, andL, andL_absorb (p := as) (q := bs) (by simpa using h), orP, andP, List.cons.injEq, Prod.mk.injEq, and_true]; omega
theorem orL_self : ∀ p : List Pr, orL p p = p
  | [] => by simp [orL]
  | a :: as => by
    obtain ⟨a1, a2⟩ := a
    simp only [orL, orL_self as, orP, List.cons.injEq, Prod.mk.injEq, and_true]; omega
theorem andL_self : ∀ p : List Pr, andL p p = p
  | [] => by simp [andL]
  | a :: as => by
    obtain ⟨a1, a2⟩ := a
    simp only [andL, andL_self as, andP, List.cons.injEq, Prod.mk.injEq, and_true]; omega
theorem leL_self : ∀ p : List Pr, leL p p = true
  | [] => by simp [leL]
  | a :: as => by simp [leL, leP, leL_self as]
theorem leL_and : ∀ p q : List Pr, leL (andL p q) p = true
  | [], q => by cases q <;> simp [leL, andL]
  | _ :: _, [] => by simp [leL, andL]
  | a :: as, b :: bs => by
    simp only [leL, andL, leL_and as bs, leP, andP, Bool.and_true, Bool.and_eq_true, decide_eq_true_eq]
    omega
theorem leL_or : ∀ p q : List Pr, leL p (orL p q) = true
  | [], q => by cases q <;> simp [leL, orL]
  | _ :: _, [] => by simp [leL, orL]
  | a :: as, b :: bs => by
    simp only [leL, orL, leL_or as bs, leP, orP, Bool.and_true, Bool.and_eq_true, decide_eq_true_eq]
    omega
theorem leL_iff_or : ∀ {p q : List Pr}, q.length = p.length → leL p q = decide (orL p q = q)
  | [], [], _ => by simp [leL, orL]
  | [], _ :: _, h => by simp at h
  | _ :: _, [], h => by simp at h
  | a :: as, b :: bs, h => by
    have ih := leL_iff_or (p := as) (q := bs) (by simpa using h)
    obtain ⟨b1, b2⟩ := b
    rw [Bool.eq_iff_iff, decide_eq_true_eq] at ih ⊢
    simp only [leL, orL, leP, orP, Bool.and_eq_true, decide_eq_true_eq, List.cons.injEq, Prod.mk.injEq, ih]
    constructor
    · rintro ⟨⟨h1, h2⟩, h3⟩
      exact ⟨⟨by omega, by omega⟩, h3⟩
    · rintro ⟨⟨h1, h2⟩, h3⟩
      exact ⟨⟨by omega, by omega⟩, h3⟩
theorem leL_anti : ∀ {p q : List Pr}, q.length = p.length → (leL p q && leL q p) = decide (p = q)
  | [], [], _ => by simp [leL]
  | [], _ :: _, h => by simp at h
  | _ :: _, [], h => by simp at h
  | a :: as, b :: bs, h => by
    have ih := leL_anti (p := as) (q := bs) (by simpa using h)
    obtain ⟨b1, b2⟩ := b
    obtain ⟨a1, a2⟩ := a
    rw [Bool.eq_iff_iff, decide_eq_true_eq] at ih ⊢
    simp only [leL, leP, Bool.and_eq_true, decide_eq_true_eq, List.cons.injEq, Prod.mk.injEq, ← ih]
    constructor
    · rintro ⟨⟨⟨h1, h2⟩, h3⟩, ⟨h4, h5⟩, h6⟩
      exact ⟨⟨by omega, by omega⟩, h3, h6⟩
    · rintro ⟨⟨h1, h2⟩, h3, h6⟩
      exact ⟨⟨⟨by omega, by omega⟩, h3⟩, ⟨by omega, by omega⟩, h6⟩
end
theorem div_mono {a b w : Int} (hw : 1 ≤ w) (h : a ≤ b) : a / w ≤ b / w := Int.ediv_le_ediv (by omega) h
/-- a loop, what is wanted of its end told of what is behind each turn -/
theorem forK_wp {α ς τ ρ : Type} {b : α → ς → τ → (ς → τ → Option ρ) → (ς → τ → Option ρ) → Option ρ} {k : ς → τ → Option ρ} (P : Option ρ → Prop) : ∀ {xs : List α} {c : ς} {s : τ} (I : Nat → ς → τ → Prop), I 0 c s → (∀ i x c s next done, xs[i]? = some x → I i c s → (∀ c' s', I (i + 1) c' s' → P (next c' s')) → P (b x c s next done)) → (∀ c s, I xs.length c s → P (k c s)) → P (forK xs c s b k)
  | [], c, s, I, h0, _, hk => hk c s h0
  | x :: xs, c, s, I, h0, hs, hk => hs 0 x c s _ _ rfl h0 fun c' s' h1 => forK_wp P (fun i => I (i + 1)) h1 (fun i y c s next done hy hi hn => hs (i + 1) y c s next done (by simpa using hy) hi hn) hk
theorem mapK_wp {α γ τ ρ : Type} {b : α → τ → (γ → τ → Option ρ) → Option ρ} {k : List γ → τ → Option ρ} (P : Option ρ → Prop) : ∀ {xs : List α} {s : τ} (I : Nat → List γ → τ → Prop), I 0 [] s → (∀ i x ys s nx, xs[i]? = some x → I i ys s → (∀ y s', I (i + 1) (ys ++ [y]) s' → P (nx y s')) → P (b x s nx)) → (∀ ys s, I xs.length ys s → P (k ys s)) → P (mapK xs s b k) := by
  have key : ∀ {xs : List α} {s : τ} {k : List γ → τ → Option ρ} (I : Nat → List γ → τ → Prop) (ys : List γ), I 0 ys s → (∀ i x ys s nx, xs[i]? = some x → I i ys s → (∀ y s', I (i + 1) (ys ++ [y]) s' → P (nx y s')) → P (b x s nx)) → (∀ zs s, I xs.length (ys ++ zs) s → P (k zs s)) → P (mapK xs s b k) := by
    intro xs
    induction xs with
    | nil =>
      intro s k I ys h0 _ hk
      exact hk [] s (by simpa using h0)
    | cons x xs ih =>
      intro s k I ys h0 hs hk
      refine hs 0 x ys s _ rfl h0 fun y s' h1 => ?_
      exact ih (fun i => I (i + 1)) (ys ++ [y]) h1 (fun i z zs s nx hz hi hn => hs (i + 1) z zs s nx (by simpa using hz) hi hn) fun zs s hz => hk (y :: zs) s (by simpa using hz)
  intro xs s I h0 hs hk
  exact key I [] h0 hs (by simpa using hk)
end Lx

set_option Elab.async false
set_option linter.all false
set_option maxRecDepth 100000
set_option maxHeartbeats 4000000
namespace Hd
open PySem PySem.Spec PyProof.Rows L2 He Lw StX Lx
variable {P : Program} {w : World} {K : Frag} {mg : Str → Option Value} {base : Heap}
theorem sc__law_draw : FnScope ["_law_pot_here", "_law_many", "_law_digit"] ["_law_pot_here", "_law_many"] (defScope s__law_draw) := ⟨rfl, rfl, rfl, by decide +kernel, rfl, by decide +kernel, by decide +kernel⟩
def f__law_draw (x_many : Int) (s : Pot) : Option (Int × Pot) :=
  if (decide (s.1 > (0 : Int))) = true then
    let s_1 : Pot := s
    if CDivW s_1.1 x_many then
      let a_3 : Int × Int := ((s_1.1 / x_many, s_1.1 % x_many) : Int × Int)
      let s_4 : Pot := s_1
      let digit_5 : Int := a_3.2
      let s_6 : Pot := (a_3.1, s_4.2)
      some (digit_5, s_6)
    else none
  else
  let s_2 : Pot := s
  let a_7 : Int := (((s_2.2 * 40693) + (30011 : Int)) % 2147483629)
  let s_8 : Pot := s_2
  let s_9 : Pot := (s_8.1, a_7)
  if CMulW s_9.2 s_9.2 then
    if 0 < x_many then
      some (((((s_9.2 * s_9.2) % 2147483563) / 13) % x_many), s_9)
    else none
  else none
abbrev P__law_draw (K : Frag) : Sp := SpS K (fun (as : Int × Unit) s => f__law_draw as.1 s)
theorem B__law_draw (T : Tx K mg) : BodyG CX0 P w K mg base ["_law_pot_here", "_law_many", "_law_digit"] "_law_draw" (defScope s__law_draw) (defBody s__law_draw) 0 (ga K "_law_draw") (P__law_draw K) := by
  intro cdv A outer s0 H vs Q E hr h
  have hu := hr.units
  have hu1 := hr.units1
  refine ⟨_, PSs.nox (pss_cons (ps_if (pt_cmpR (op_gt) (pe_ix (ix_list) (pv 0) pe_int (fun _ _ => rfl)) pe_int (nomark _)) (pss_cons (ps_asg (pe_callB (dm_wide) (by rfl) (z_divmod T) PyProof.Rows.boot_divmod (pa_cons (pe_ix (ix_list) (pv 0) pe_int (fun _ _ => rfl)) (pa_cons (pv 1) pa_nil))) (pg_tupK (K := K) (n := 2) rfl rfl (pgs_cons (pg_sub (pv 0) pe_int set_list) (pgs_cons (pg_name (i := 2) sc__law_draw.nd rfl (by first | exact Or.inl rfl | exact Or.inr rfl)) pgs_nil))))
    (pss_one (ps_ret (pv 2)))) pss_nil)
    (pss_cons (ps_asg (pe_op (op_mod) (pe_callTy (call_int1) (by rfl) (z_int T) PyProof.Rows.boot_int (pa_cons (pe_op (op_add) (pe_op (op_mul) (pe_ix (ix_list) (pv 0) pe_int (fun _ _ => rfl)) pe_int) pe_int) pa_nil)) pe_int) (pg_sub (pv 0) pe_int set_list))
    (pss_one (ps_ret (pe_op (op_mod) (pe_callTy (call_int1) (by rfl) (z_int T) PyProof.Rows.boot_int (pa_cons (pe_op (op_fdiv) (pe_op (op_mod) (pe_callTy (call_int1) (by rfl) (z_int T) PyProof.Rows.boot_int (pa_cons (pe_op (op_mulW) (pe_ix (ix_list) (pv 0) pe_int (fun _ _ => rfl)) (pe_ix (ix_list) (pv 0) pe_int (fun _ _ => rfl))) pa_nil)) pe_int) pe_int) pa_nil)) (pv 1)))))), ?_⟩
  refine body_S (f := fun (as : Int × Unit) s => f__law_draw as.1 s) h 1 (fun _ => rfl) fun e q as s hm hR => ?_
  obtain ⟨x_many, _⟩ := as
  exact ((sv_ifR (fun (s_1 : Pot) =>
if CDivW s_1.1 x_many then
  let a_3 : Int × Int := ((s_1.1 / x_many, s_1.1 % x_many) : Int × Int)
  let s_4 : Pot := s_1
  let digit_5 : Int := a_3.2
  let s_6 : Pot := (a_3.1, s_4.2)
  some (digit_5, s_6)
else none) (fun (s_2 : Pot) =>
let a_7 : Int := (((s_2.2 * 40693) + (30011 : Int)) % 2147483629)
let s_8 : Pot := s_2
let s_9 : Pot := (s_8.1, a_7)
if CMulW s_9.2 s_9.2 then
  if 0 < x_many then
    some (((((s_9.2 * s_9.2) % 2147483563) / 13) % x_many), s_9)
  else none
else none) (evT_test (ev_op (g := fun i j : Int => decide (i > j)) (ev_pot0 hm 0 rfl) (fun _ _ _ => (Pu.ev (pu_int 0))) o_gt)) (fun s_1 => (sv_pot0 (fun (a_3 : Int × Int) (s_4 : Pot) =>
let digit_5 : Int := a_3.2
let s_6 : Pot := (a_3.1, s_4.2)
some (digit_5, s_6)) (j := 2) hm 0 rfl (ev_cb2C (ev_pot0 hm 0 rfl) (fun _ _ _ => (Pu.ev (pu_var 1 rfl))) o_divmodW) (fun a_3 s_4 => let digit_5 : Int := a_3.2; let s_6 : Pot := (a_3.1, s_4.2); (sv_ret hR (Pu.ev (pu_var 2 rfl)) (by exact rfl))) (by exact rfl))) (fun s_2 => (sv_pot1 (fun (a_7 : Int) (s_8 : Pot) =>
let s_9 : Pot := (s_8.1, a_7)
if CMulW s_9.2 s_9.2 then
  if 0 < x_many then
    some (((((s_9.2 * s_9.2) % 2147483563) / 13) % x_many), s_9)
  else none
else none) hm 0 rfl (ev_opR (ev_cb1 (ev_op (ev_opR (ev_pot1 hm 0 rfl) (o_mulcR (n := 40693) (by decide +kernel))) (fun _ _ _ => (Pu.ev (pu_int 30011))) o_add) o_int) (o_modc (n := 2147483629) (by decide +kernel))) (fun a_7 s_8 => let s_9 : Pot := (s_8.1, a_7); (sv_ret hR (ev_opC (ev_cb1 (ev_opR (ev_opR (ev_cb1 (ev_opC (ev_pot1 hm 0 rfl) (fun _ _ _ => (ev_pot1 hm 0 rfl)) o_mul) o_int) (o_modc (n := 2147483563) (by decide +kernel))) (o_fdivc (n := 13) (by decide +kernel))) o_int) (fun _ _ _ => (Pu.ev (pu_var 1 rfl))) o_mod) (by exact rfl))) (by exact rfl))) (by exact rfl)) : Sv e e.S0 [] [some (av K (PRef.mk (q := q))), some (av K x_many), none] [] _ s _ (fun _ H => e.rt .non H) nF nF)
theorem sp_len__law_draw : ∀ vs H Q E, (P__law_draw K) vs H Q E → vs.length = 2 := fun vs H Q E h => by obtain ⟨_, _, us, as, _, _, _, _, _, e, _, hA, _⟩ := h; subst e; exact congrArg (· + 1) hA.len
theorem G__law_draw (T : Tx K mg) : FnG P w K mg base CX0 1 (ga K "_law_draw") (P__law_draw K) := by
  obtain ⟨fd, F⟩ := F__law_draw T
  have b : L2.Binds K fd ["_law_pot_here", "_law_many"] [] := F.bindsN fun _ _ _ _ _ _ us hl => match us, hl with | [_, _], _ => rfl
  exact fnG_pl F sc__law_draw b sp_len__law_draw (B__law_draw T)
theorem sc__law_pick : FnScope ["_law_pot_here", "_law_some"] ["_law_pot_here", "_law_some"] (defScope s__law_pick) := ⟨rfl, rfl, rfl, by decide +kernel, rfl, by decide +kernel, by decide +kernel⟩
def f__law_pick (x_some : (List Int)) (s : Pot) : Option (Int × Pot) :=
  (f__law_draw (x_some.length : Int) s).bind fun o_11 =>
  (atI x_some o_11.1).bind fun o_10 =>
  some (o_10, o_11.2)
abbrev P__law_pick (K : Frag) : Sp := SpS K (fun (as : (List Int) × Unit) s => f__law_pick as.1 s)
theorem B__law_pick (T : Tx K mg) : BodyG CX0 P w K mg base ["_law_pot_here", "_law_some"] "_law_pick" (defScope s__law_pick) (defBody s__law_pick) 2 (ga K "_law_pick") (P__law_pick K) := by
  intro cdv A outer s0 H vs Q E hr h
  have hu := hr.units
  have hu1 := hr.units1
  refine ⟨_, PSs.nox (pss_one (ps_ret (pe_ix (ix_list) (pv 1) (pe_c (call_g (G__law_draw T) (hr.mono (by decide)) pass0) (kp__law_draw T) rfl (g__law_draw T) (pa_cons (pv 0) (pa_cons (pe_callB (call_len_seq) (by rfl) (z_len T) PySem.boot_len (pa_cons (pv 1) pa_nil)) pa_nil))) (fun _ _ => rfl)))), ?_⟩
  refine body_S (f := fun (as : (List Int) × Unit) s => f__law_pick as.1 s) h 0 (fun _ => rfl) fun e q as s hm hR => ?_
  obtain ⟨x_some, _⟩ := as
  exact ((sv_ret hR (ev_opO (Pu.ev (pu_var 1 rfl)) (fun _ _ _ => (ev_callSP hm (f := fun (as : Int × Unit) (s : Pot) => f__law_draw as.1 s) (puA_cons (pu_var 0 rfl) fun _ => (puA_cons (pu_cb1 (pu_var 1 rfl) o_lenL) fun _ => puA_nil)))) o_ixL) (by exact rfl)) : Sv e e.S0 [] [some (av K (PRef.mk (q := q))), some (av K x_some)] [] _ s _ (fun _ H => e.rt .non H) nF nF)
theorem sp_len__law_pick : ∀ vs H Q E, (P__law_pick K) vs H Q E → vs.length = 2 := fun vs H Q E h => by obtain ⟨_, _, us, as, _, _, _, _, _, e, _, hA, _⟩ := h; subst e; exact congrArg (· + 1) hA.len
theorem G__law_pick (T : Tx K mg) : FnG P w K mg base CX0 3 (ga K "_law_pick") (P__law_pick K) := by
  obtain ⟨fd, F⟩ := F__law_pick T
  have b : L2.Binds K fd ["_law_pot_here", "_law_some"] [] := F.bindsN fun _ _ _ _ _ _ us hl => match us, hl with | [_, _], _ => rfl
  exact fnG_pl F sc__law_pick b sp_len__law_pick (B__law_pick T)
theorem sc__law_wides : FnScope ["_law_first", "_law_ups", "_law_found", "_law_up"] ["_law_first", "_law_ups"] (defScope s__law_wides) := ⟨rfl, rfl, rfl, by decide +kernel, rfl, by decide +kernel, by decide +kernel⟩
def f__law_wides (x_first : Int) (x_ups : (List Int)) : Option (List Int) :=
  let found_14 : List Int := [x_first]
  forK x_ups (found_14, ()) ()
    (fun (y_18 : Int) (c_17 : ((List Int) × Unit)) (_ : Unit) (next_15 : ((List Int) × Unit) → Unit → _) (done_16 : ((List Int) × Unit) → Unit → _) =>
      (atI c_17.1 (-(1 : Int))).bind fun o_21 =>
      if CMulW o_21 y_18 then
        if (c_17.1).length < sizeLine then
          let a_19 : Int := (o_21 * y_18)
          let found_20 : List Int := c_17.1 ++ [a_19]
          next_15 (found_20, ()) ()
        else none
      else none)
    (fun (c_22 : ((List Int) × Unit)) (_ : Unit) =>
      some c_22.1)
abbrev P__law_wides (K : Frag) : Sp := SpF K (fun as : Int × (List Int) × Unit => f__law_wides as.1 as.2.1)
theorem B__law_wides (T : Tx K mg) : BodyG CX0 P w K mg base ["_law_first", "_law_ups", "_law_found", "_law_up"] "_law_wides" (defScope s__law_wides) (defBody s__law_wides) 0 (ga K "_law_wides") (P__law_wides K) := by
  intro cdv A outer s0 H vs Q E hr h
  have hu := hr.units
  have hu1 := hr.units1
  refine ⟨_, PSs.nox (pss_cons (ps_set (i := 2) sc__law_wides.nd rfl (by first | exact Or.inl rfl | exact Or.inr rfl) (pe_lst (pa_cons (pv 0) pa_nil)))
    (pss_cons (ps_for PassesOwn.never rfl (pi_list (pv 1)) (pg_name (i := 3) sc__law_wides.nd rfl (by first | exact Or.inl rfl | exact Or.inr rfl))
    (pss_one (ps_expr (pe_bm PySem.F.plainAttrs_list PySem.F.slot_list_append PySem.F.type_list_append mt_append (pv 2) (pa_cons (pe_op (op_mulW) (pe_ix (ix_list) (pv 2) (pe_un un_neg pe_int) (fun _ _ => rfl)) (pv 3)) pa_nil)))))
    (pss_one (ps_ret (pv 2))))), ?_⟩
  refine body_F (f := fun as : Int × (List Int) × Unit => f__law_wides as.1 as.2.1) h 2 (fun _ => rfl) fun e as hm hR => ?_
  obtain ⟨x_first, x_ups, _⟩ := as
  exact ((sv_newLs (i := 2) (fun (found_14 : List Int) (_ : Unit) =>
forK x_ups (found_14, ()) ()
  (fun (y_18 : Int) (c_17 : ((List Int) × Unit)) (_ : Unit) (next_15 : ((List Int) × Unit) → Unit → _) (done_16 : ((List Int) × Unit) → Unit → _) =>
    (atI c_17.1 (-(1 : Int))).bind fun o_21 =>
    if CMulW o_21 y_18 then
      if (c_17.1).length < sizeLine then
        let a_19 : Int := (o_21 * y_18)
        let found_20 : List Int := c_17.1 ++ [a_19]
        next_15 (found_20, ()) ()
      else none
    else none)
  (fun (c_22 : ((List Int) × Unit)) (_ : Unit) =>
    some c_22.1)) (evL_cons (Pu.ev (pu_var 0 rfl)) fun _ _ _ => evL_nil) (by decide) (fun r_13 found_14 _ nf_r_13 => (sv_for (ς := ((List Int) × Unit)) (fun (y_18 : Int) (c_17 : ((List Int) × Unit)) (_ : Unit) (next_15 : ((List Int) × Unit) → Unit → _) (done_16 : ((List Int) × Unit) → Unit → _) =>
    (atI c_17.1 (-(1 : Int))).bind fun o_21 =>
    if CMulW o_21 y_18 then
      if (c_17.1).length < sizeLine then
        let a_19 : Int := (o_21 * y_18)
        let found_20 : List Int := c_17.1 ++ [a_19]
        next_15 (found_20, ()) ()
      else none
    else none) (fun (c_22 : ((List Int) × Unit)) (_ : Unit) =>
    some c_22.1) (NJ := fun c_17 => [accD K r_13 (c_17.1)]) (tJ := fun c_17 => [some (av K x_first), some (av K x_ups), some (refA r_13), none]) (found_14, ()) rfl (Sub.keep (Sub.keep (Sub.keep (Sub.keep Sub.nil)))) (PuI.ev (puI_list (pu_var 1 rfl))) (tg_name 3) (fun _ y_18 c_17 _ next_15 done_16 => (sv_last (sv_app (fun (a_19 : Int) (_ : Unit) =>
let found_20 : List Int := c_17.1 ++ [a_19]
next_15 (found_20, ()) ()) (i := 2) (j := 0) rfl rfl (ev_opC (ev_ixM (i := 2) (j := 0) rfl rfl (Pu.ev (pu_un (pu_int 1) o_neg))) (fun _ _ _ => (Pu.ev (pu_var 3 rfl))) o_mul) (fun a_19 _ => let found_20 : List Int := c_17.1 ++ [a_19]; (sv_endJ (found_20, ()) rfl (Sub.keep (Sub.keep (Sub.keep (Sub.drop Sub.nil)))))) (by exact rfl)))) (fun c_22 _ => (sv_freeze (i := 2) rfl nf_r_13 (sv_ret hR (Pu.ev (pu_var 2 rfl)) (by exact rfl)))) (by exact rfl))) (by exact rfl)) : Sv e e.S0 [] [some (av K x_first), some (av K x_ups), none, none] [] _ () _ (fun _ H => e.rt .non H) nF nF)
theorem sp_len__law_wides : ∀ vs H Q E, (P__law_wides K) vs H Q E → vs.length = 2 := fun vs H Q E h => by obtain ⟨_, as, _, _, hA, _⟩ := h; exact hA.len
theorem G__law_wides (T : Tx K mg) : FnG P w K mg base CX0 1 (ga K "_law_wides") (P__law_wides K) := by
  obtain ⟨fd, F⟩ := F__law_wides T
  have b : L2.Binds K fd ["_law_first", "_law_ups"] [] := F.bindsN fun _ _ _ _ _ _ us hl => match us, hl with | [_, _], _ => rfl
  exact fnG_pl F sc__law_wides b sp_len__law_wides (B__law_wides T)
theorem sc__law_small : FnScope ["_law_pot_here", "_law_first", "_law_ups", "_law_rims", "_law_turn", "_law_wide"] ["_law_pot_here"] (defScope s__law_small) := ⟨rfl, rfl, rfl, by decide +kernel, rfl, by decide +kernel, by decide +kernel⟩
def f__law_small  (s : Pot) : Option ((T3 Int (List Int) (List (Int × Int))) × Pot) :=
  (f__law_draw (3 : Int) s).bind fun o_57 =>
  let first_28 : Int := ((1 : Int) + o_57.1)
  let s_31 : Pot := o_57.2
  (f__law_draw (4 : Int) s_31).bind fun o_51 =>
  if RgB 0 o_51.1 then
    mapK (rg 0 o_51.1) o_51.2
      (fun (y_23 : Int) s_24 (nx_25 : Int → Pot → _) =>
        (f__law_pick ([(2 : Int), (3 : Int), (4 : Int)] : List Int) s_24).bind fun o_53 =>
        nx_25 o_53.1 o_53.2)
      (fun (l_55 : List Int) s_56 =>
        let ups_29 : (List Int) := l_55
        let s_32 : Pot := s_56
        (f__law_wides first_28 ups_29).bind fun o_50 =>
        forK o_50 (([] : List (Int × Int)), ()) s_32
          (fun (y_37 : Int) (c_36 : ((List (Int × Int)) × Unit)) (s_38 : Pot) (next_34 : ((List (Int × Int)) × Unit) → Pot → _) (done_35 : ((List (Int × Int)) × Unit) → Pot → _) =>
            (f__law_draw (y_37 + (1 : Int)) s_38).bind fun o_42 =>
            (f__law_draw (y_37 + (1 : Int)) o_42.2).bind fun o_44 =>
            (f__law_pick ([(0 : Int), y_37, o_44.1] : List Int) o_44.2).bind fun o_46 =>
            if (c_36.1).length < sizeLine then
              let a_39 : (Int × Int) := ((o_42.1, o_46.1) : (Int × Int))
              let s_40 : Pot := o_46.2
              let rims_41 : List (Int × Int) := c_36.1 ++ [a_39]
              next_34 (rims_41, ()) s_40
            else none)
          (fun (c_48 : ((List (Int × Int)) × Unit)) (s_49 : Pot) =>
            some ((⟨first_28, ups_29, c_48.1⟩ : (T3 Int (List Int) (List (Int × Int)))), s_49)))
  else none
abbrev P__law_small (K : Frag) : Sp := SpS K (fun (as : Unit) s => f__law_small s)
theorem B__law_small (T : Tx K mg) : BodyG CX0 P w K mg base ["_law_pot_here", "_law_first", "_law_ups", "_law_rims", "_law_turn", "_law_wide"] "_law_small" (defScope s__law_small) (defBody s__law_small) 4 (ga K "_law_small") (P__law_small K) := by
  intro cdv A outer s0 H vs Q E hr h
  have hu := hr.units
  have hu1 := hr.units1
  refine ⟨_, PSs.nox (pss_cons (ps_par3 (i := 1) (j := 2) (l := 3) rfl sc__law_small.nd rfl rfl rfl (by decide) (by decide) (by decide) rfl rfl rfl (pa_cons (pe_op (op_add) pe_int (pe_c (call_g (G__law_draw T) (hr.mono (by decide)) pass0) (kp__law_draw T) rfl (g__law_draw T) (pa_cons (pv 0) (pa_cons pe_int pa_nil)))) (pa_cons (pe_lc rfl sc__law_small.nd (pi_range1 rfl (z_range T) (pa_cons (pe_c (call_g (G__law_draw T) (hr.mono (by decide)) pass0) (kp__law_draw T) rfl (g__law_draw T) (pa_cons (pv 0) (pa_cons pe_int pa_nil))) pa_nil)) (blkOk_by (N := ["_law_pot_here", "_law_first", "_law_ups", "_law_rims", "_law_turn", "_law_wide"]) (sc := defScope s__law_small) (own := [("_law_turn", 4)]) (by decide +kernel)) (fun _ _ _ _ _ => (pg_name (i := 4) sc__law_small.nd rfl (by first | exact Or.inl rfl | exact Or.inr rfl))) (fun _ _ _ _ _ => pts_nil) (fun _ _ _ _ _ => (pe_c (call_g (G__law_pick T) (hr.mono (by decide)) pass0) (kp__law_pick T) rfl (g__law_pick T) (pa_cons (pv 0) (pa_cons (pe_lst (pa_cons pe_int (pa_cons pe_int (pa_cons pe_int pa_nil)))) pa_nil))))) (pa_cons (pe_lst pa_nil) pa_nil))) rfl)
    (pss_cons (ps_for PassesOwn.never rfl (pi_list (pe_c (call_g (G__law_wides T) (hr.mono (by decide)) pass0) (kp__law_wides T) rfl (g__law_wides T) (pa_cons (pv 1) (pa_cons (pv 2) pa_nil)))) (pg_name (i := 5) sc__law_small.nd rfl (by first | exact Or.inl rfl | exact Or.inr rfl))
    (pss_one (ps_expr (pe_bm PySem.F.plainAttrs_list PySem.F.slot_list_append PySem.F.type_list_append mt_append (pv 3) (pa_cons (pe_tup (pa_cons (pe_c (call_g (G__law_draw T) (hr.mono (by decide)) pass0) (kp__law_draw T) rfl (g__law_draw T) (pa_cons (pv 0) (pa_cons (pe_op (op_add) (pv 5) pe_int) pa_nil))) (pa_cons (pe_c (call_g (G__law_pick T) (hr.mono (by decide)) pass0) (kp__law_pick T) rfl (g__law_pick T) (pa_cons (pv 0) (pa_cons (pe_lst (pa_cons pe_int (pa_cons (pv 5) (pa_cons (pe_c (call_g (G__law_draw T) (hr.mono (by decide)) pass0) (kp__law_draw T) rfl (g__law_draw T) (pa_cons (pv 0) (pa_cons (pe_op (op_add) (pv 5) pe_int) pa_nil))) pa_nil)))) pa_nil))) pa_nil))) pa_nil)))))
    (pss_one (ps_ret (pe_tup (pa_cons (pv 1) (pa_cons (pv 2) (pa_cons (pv 3) pa_nil)))))))), ?_⟩
  refine body_S (f := fun (as : Unit) s => f__law_small s) h 5 (fun _ => rfl) fun e q as s hm hR => ?_
  obtain ⟨⟩ := as
  exact ((sv_par3 (svA_cons (fun (first_28 : Int) (s_31 : Pot) =>
(f__law_draw (4 : Int) s_31).bind fun o_51 =>
if RgB 0 o_51.1 then
  mapK (rg 0 o_51.1) o_51.2
    (fun (y_23 : Int) s_24 (nx_25 : Int → Pot → _) =>
      (f__law_pick ([(2 : Int), (3 : Int), (4 : Int)] : List Int) s_24).bind fun o_53 =>
      nx_25 o_53.1 o_53.2)
    (fun (l_55 : List Int) s_56 =>
      let ups_29 : (List Int) := l_55
      let s_32 : Pot := s_56
      (f__law_wides first_28 ups_29).bind fun o_50 =>
      forK o_50 (([] : List (Int × Int)), ()) s_32
        (fun (y_37 : Int) (c_36 : ((List (Int × Int)) × Unit)) (s_38 : Pot) (next_34 : ((List (Int × Int)) × Unit) → Pot → _) (done_35 : ((List (Int × Int)) × Unit) → Pot → _) =>
          (f__law_draw (y_37 + (1 : Int)) s_38).bind fun o_42 =>
          (f__law_draw (y_37 + (1 : Int)) o_42.2).bind fun o_44 =>
          (f__law_pick ([(0 : Int), y_37, o_44.1] : List Int) o_44.2).bind fun o_46 =>
          if (c_36.1).length < sizeLine then
            let a_39 : (Int × Int) := ((o_42.1, o_46.1) : (Int × Int))
            let s_40 : Pot := o_46.2
            let rims_41 : List (Int × Int) := c_36.1 ++ [a_39]
            next_34 (rims_41, ()) s_40
          else none)
        (fun (c_48 : ((List (Int × Int)) × Unit)) (s_49 : Pot) =>
          some ((⟨first_28, ups_29, c_48.1⟩ : (T3 Int (List Int) (List (Int × Int)))), s_49)))
else none) (ev_op (Pu.ev (pu_int 1)) (fun _ _ _ => (ev_callSP hm (f := fun (as : Int × Unit) (s : Pot) => f__law_draw as.1 s) (puA_cons (pu_var 0 rfl) fun _ => (puA_cons (pu_int 3) fun _ => puA_nil)))) o_add) (fun first_28 s_31 _ => (svA_cons (fun (ups_29 : (List Int)) (s_32 : Pot) =>
(f__law_wides first_28 ups_29).bind fun o_50 =>
forK o_50 (([] : List (Int × Int)), ()) s_32
  (fun (y_37 : Int) (c_36 : ((List (Int × Int)) × Unit)) (s_38 : Pot) (next_34 : ((List (Int × Int)) × Unit) → Pot → _) (done_35 : ((List (Int × Int)) × Unit) → Pot → _) =>
    (f__law_draw (y_37 + (1 : Int)) s_38).bind fun o_42 =>
    (f__law_draw (y_37 + (1 : Int)) o_42.2).bind fun o_44 =>
    (f__law_pick ([(0 : Int), y_37, o_44.1] : List Int) o_44.2).bind fun o_46 =>
    if (c_36.1).length < sizeLine then
      let a_39 : (Int × Int) := ((o_42.1, o_46.1) : (Int × Int))
      let s_40 : Pot := o_46.2
      let rims_41 : List (Int × Int) := c_36.1 ++ [a_39]
      next_34 (rims_41, ()) s_40
    else none)
  (fun (c_48 : ((List (Int × Int)) × Unit)) (s_49 : Pot) =>
    some ((⟨first_28, ups_29, c_48.1⟩ : (T3 Int (List Int) (List (Int × Int)))), s_49))) (ev_lc (vs := [4]) (evI_rg1 (ev_callSP hm (f := fun (as : Int × Unit) (s : Pot) => f__law_draw as.1 s) (puA_cons (pu_var 0 rfl) fun _ => (puA_cons (pu_int 4) fun _ => puA_nil)))) (tg_name 4) (by decide) fun _ _ _ y_23 _ _ => (ev_callSP hm (f := fun (as : (List Int) × Unit) (s : Pot) => f__law_pick as.1 s) (puA_cons (pu_var 0 rfl) fun _ => (puA_cons (puL_lst (puL_cons (pu_int 2) fun _ => (puL_cons (pu_int 3) fun _ => (puL_cons (pu_int 4) fun _ => (puL_nil (α := Int))))) (Nat.le_of_ble_eq_true rfl)) fun _ => puA_nil)))) (fun ups_29 s_32 _ => (svA_new (Int × Int) fun r_27 nf_r_27 => (svA_par3 (i := 1) (j := 2) (l := 3) (sv_for (ς := ((List (Int × Int)) × Unit)) (fun (y_37 : Int) (c_36 : ((List (Int × Int)) × Unit)) (s_38 : Pot) (next_34 : ((List (Int × Int)) × Unit) → Pot → _) (done_35 : ((List (Int × Int)) × Unit) → Pot → _) =>
    (f__law_draw (y_37 + (1 : Int)) s_38).bind fun o_42 =>
    (f__law_draw (y_37 + (1 : Int)) o_42.2).bind fun o_44 =>
    (f__law_pick ([(0 : Int), y_37, o_44.1] : List Int) o_44.2).bind fun o_46 =>
    if (c_36.1).length < sizeLine then
      let a_39 : (Int × Int) := ((o_42.1, o_46.1) : (Int × Int))
      let s_40 : Pot := o_46.2
      let rims_41 : List (Int × Int) := c_36.1 ++ [a_39]
      next_34 (rims_41, ()) s_40
    else none) (fun (c_48 : ((List (Int × Int)) × Unit)) (s_49 : Pot) =>
    some ((⟨first_28, ups_29, c_48.1⟩ : (T3 Int (List Int) (List (Int × Int)))), s_49)) (NJ := fun c_36 => [accD K r_27 (c_36.1)]) (tJ := fun c_36 => [some (av K (PRef.mk (q := q))), some (av K first_28), some (av K ups_29), some (refA r_27), none, none]) (([] : List (Int × Int)), ()) rfl (Sub.keep (Sub.keep (Sub.keep (Sub.keep (Sub.keep (Sub.keep Sub.nil)))))) (evI_list (ev_callP (f := fun (as : Int × (List Int) × Unit) => f__law_wides as.1 as.2.1) (puA_cons (pu_var 1 rfl) fun _ => (puA_cons (pu_var 2 rfl) fun _ => puA_nil)))) (tg_name 5) (fun _ y_37 c_36 s_38 next_34 done_35 => (sv_last (sv_app (fun (a_39 : (Int × Int)) (s_40 : Pot) =>
let rims_41 : List (Int × Int) := c_36.1 ++ [a_39]
next_34 (rims_41, ()) s_40) (i := 3) (j := 0) rfl rfl (ev_tup2 (ev_callSP hm (f := fun (as : Int × Unit) (s : Pot) => f__law_draw as.1 s) (puA_cons (pu_var 0 rfl) fun _ => (puA_cons (pu_op (pu_var 5 rfl) (fun _ => (pu_int 1)) o_add) fun _ => puA_nil))) (fun _ _ _ => (ev_callS hm (f := fun (as : (List Int) × Unit) (s : Pot) => f__law_pick as.1 s) (evA_consY (fun _ _ _ => (evA_consY (fun _ _ _ => (PuA.ev puA_nil)) (evL_lst (evL_cons (Pu.ev (pu_int 0)) fun _ _ _ => (evL_cons (Pu.ev (pu_var 5 rfl)) fun _ _ _ => (evL_cons (ev_callSP hm (f := fun (as : Int × Unit) (s : Pot) => f__law_draw as.1 s) (puA_cons (pu_var 0 rfl) fun _ => (puA_cons (pu_op (pu_var 5 rfl) (fun _ => (pu_int 1)) o_add) fun _ => puA_nil))) fun _ _ _ => evL_nil))) (Nat.le_of_ble_eq_true rfl)))) (Pu.ev (pu_var 0 rfl)))))) (fun a_39 s_40 => let rims_41 : List (Int × Int) := c_36.1 ++ [a_39]; (sv_endJ (rims_41, ()) rfl (Sub.keep (Sub.keep (Sub.keep (Sub.keep (Sub.keep (Sub.drop Sub.nil)))))))) (by exact rfl)))) (fun c_48 s_49 => (sv_freeze (i := 3) rfl nf_r_27 (sv_ret hR (Pu.ev (pu_tup3 (pu_var 1 rfl) (fun _ => (pu_var 2 rfl)) (fun _ _ => (pu_var 3 rfl)))) (by exact rfl)))) (by exact rfl))))) (by exact rfl))) (by exact rfl))) : Sv e e.S0 [] [some (av K (PRef.mk (q := q))), none, none, none, none, none] [] _ s _ (fun _ H => e.rt .non H) nF nF)
theorem sp_len__law_small : ∀ vs H Q E, (P__law_small K) vs H Q E → vs.length = 1 := fun vs H Q E h => by obtain ⟨_, _, us, as, _, _, _, _, _, e, _, hA, _⟩ := h; subst e; exact congrArg (· + 1) hA.len
theorem G__law_small (T : Tx K mg) : FnG P w K mg base CX0 5 (ga K "_law_small") (P__law_small K) := by
  obtain ⟨fd, F⟩ := F__law_small T
  have b : L2.Binds K fd ["_law_pot_here"] [] := F.bindsN fun _ _ _ _ _ _ us hl => match us, hl with | [_], _ => rfl
  exact fnG_pl F sc__law_small b sp_len__law_small (B__law_small T)
theorem sc_is_integer : FnScope ["value"] ["value"] (defScope s_is_integer) := ⟨rfl, rfl, rfl, by decide +kernel, rfl, by decide +kernel, by decide +kernel⟩
def f_is_integer (x_value : Int) : Option Bool :=
  some (true && (!false))
abbrev P_is_integer (K : Frag) : Sp := SpF K (fun as : Int × Unit => f_is_integer as.1)
theorem B_is_integer (T : Tx K mg) : BodyG CX0 P w K mg base ["value"] "is_integer" (defScope s_is_integer) (defBody s_is_integer) 0 (ga K "is_integer") (P_is_integer K) := by
  intro cdv A outer s0 H vs Q E hr h
  have hu := hr.units
  have hu1 := hr.units1
  refine ⟨_, PSs.nox (pss_one (ps_ret (pe_and (pe_callB (call_isi) (by rfl) (z_isinstance T) PyProof.Rows.boot_isinstance (pa_cons (pv 0) (pa_cons (pe_bltn (v := .ty "int") rfl (z_int T) PyProof.Rows.boot_int rfl) pa_nil))) (pe_one (pe_not (pe_callB (call_isi) (by rfl) (z_isinstance T) PyProof.Rows.boot_isinstance (pa_cons (pv 0) (pa_cons (pe_bltn (v := .ty "bool") rfl (z_bool T) PyProof.Rows.boot_bool rfl) pa_nil)))))))), ?_⟩
  refine body_F (f := fun as : Int × Unit => f_is_integer as.1) h 0 (fun _ => rfl) fun e as hm hR => ?_
  obtain ⟨x_value, _⟩ := as
  exact ((sv_ret hR (Pu.ev (pu_and (pu_isi (U := "int") (b := true) (fun _ _ _ h => tyR_int h) (by decide +kernel) (pu_var 0 rfl)) (pu_not (pu_isi (U := "bool") (b := false) (fun _ _ _ h => tyR_int h) (by decide +kernel) (pu_var 0 rfl))))) (by exact rfl)) : Sv e e.S0 [] [some (av K x_value)] [] _ () _ (fun _ H => e.rt .non H) nF nF)
theorem sp_len_is_integer : ∀ vs H Q E, (P_is_integer K) vs H Q E → vs.length = 1 := fun vs H Q E h => by obtain ⟨_, as, _, _, hA, _⟩ := h; exact hA.len
theorem G_is_integer (T : Tx K mg) : FnG P w K mg base CX0 1 (ga K "is_integer") (P_is_integer K) := by
  obtain ⟨fd, F⟩ := F_is_integer T
  have b : L2.Binds K fd ["value"] [] := F.bindsN fun _ _ _ _ _ _ us hl => match us, hl with | [_], _ => rfl
  exact fnG_pl F sc_is_integer b sp_len_is_integer (B_is_integer T)
theorem sc_is_list : FnScope ["value"] ["value"] (defScope s_is_list) := ⟨rfl, rfl, rfl, by decide +kernel, rfl, by decide +kernel, by decide +kernel⟩
def f_is_list (x_value : (List Int)) : Option Bool :=
  some true
abbrev P_is_list (K : Frag) : Sp := SpF K (fun as : (List Int) × Unit => f_is_list as.1)
theorem B_is_list (T : Tx K mg) : BodyG CX0 P w K mg base ["value"] "is_list" (defScope s_is_list) (defBody s_is_list) 0 (ga K "is_list") (P_is_list K) := by
  intro cdv A outer s0 H vs Q E hr h
  have hu := hr.units
  have hu1 := hr.units1
  refine ⟨_, PSs.nox (pss_one (ps_ret (pe_callB (call_isiT) (by rfl) (z_isinstance T) PyProof.Rows.boot_isinstance (pa_cons (pv 0) (pa_cons (pe_tup (pa_cons (pe_bltn (v := .ty "list") rfl (z_list T) PyProof.Rows.boot_list rfl) (pa_cons (pe_bltn (v := .ty "tuple") rfl (z_tuple T) PyProof.Rows.boot_tuple rfl) pa_nil))) pa_nil))))), ?_⟩
  refine body_F (f := fun as : (List Int) × Unit => f_is_list as.1) h 0 (fun _ => rfl) fun e as hm hR => ?_
  obtain ⟨x_value, _⟩ := as
  exact ((sv_ret hR (Pu.ev (pu_isiT (U1 := "list") (U2 := "tuple") (b := true) (fun _ _ _ h => tyR_list h) (by decide +kernel) (pu_var 0 rfl))) (by exact rfl)) : Sv e e.S0 [] [some (av K x_value)] [] _ () _ (fun _ H => e.rt .non H) nF nF)
theorem sp_len_is_list : ∀ vs H Q E, (P_is_list K) vs H Q E → vs.length = 1 := fun vs H Q E h => by obtain ⟨_, as, _, _, hA, _⟩ := h; exact hA.len
theorem G_is_list (T : Tx K mg) : FnG P w K mg base CX0 1 (ga K "is_list") (P_is_list K) := by
  obtain ⟨fd, F⟩ := F_is_list T
  have b : L2.Binds K fd ["value"] [] := F.bindsN fun _ _ _ _ _ _ us hl => match us, hl with | [_], _ => rfl
  exact fnG_pl F sc_is_list b sp_len_is_list (B_is_list T)
theorem sc__check_factors : FnScope ["factors", "position", "factor"] ["factors"] (defScope s__check_factors) := ⟨rfl, rfl, rfl, by decide +kernel, rfl, by decide +kernel, by decide +kernel⟩
def f__check_factors (x_factors : (List Int)) : Option Unit :=
  (f_is_list x_factors).bind fun o_65 =>
  if (!o_65) = true then
    none
  else
  forK (en 0 x_factors) (()) ()
    (fun (y_62 : (Int × Int)) (c_61 : (Unit)) (_ : Unit) (next_59 : (Unit) → Unit → _) (done_60 : (Unit) → Unit → _) =>
      (f_is_integer y_62.2).bind fun o_63 =>
      if (!o_63) = true then
        if true = true then
          none
        else
        next_59 (()) ()
      else
      if (!(decide ((2 : Int) ≤ y_62.2) && decide (y_62.2 ≤ (4 : Int)))) = true then
        none
      else
      next_59 (()) ())
    (fun (c_64 : (Unit)) (_ : Unit) =>
      some ())
abbrev P__check_factors (K : Frag) : Sp := SpF K (fun as : (List Int) × Unit => f__check_factors as.1)
theorem B__check_factors (T : Tx K mg) : BodyG CX0 P w K mg base ["factors", "position", "factor"] "_check_factors" (defScope s__check_factors) (defBody s__check_factors) 2 (ga K "_check_factors") (P__check_factors K) := by
  intro cdv A outer s0 H vs Q E hr h
  have hu := hr.units
  have hu1 := hr.units1
  refine ⟨_, PSs.nox (pss_cons (ps_if (pt_not (pt_val (pe_c (call_g (G_is_list T) (hr.mono (by decide)) pass0) (kp_is_list T) rfl (g_is_list T) (pa_cons (pv 0) pa_nil)))) (pss_one ps_never) pss_nil)
    (pss_one (ps_for PassesOwn.never rfl (pi_enum rfl (z_enumerate T) (pa_cons (pv 0) pa_nil)) (pg_tupK (K := K) (n := 2) rfl rfl (pgs_cons (pg_name (i := 1) sc__check_factors.nd rfl (by first | exact Or.inl rfl | exact Or.inr rfl)) (pgs_cons (pg_name (i := 2) sc__check_factors.nd rfl (by first | exact Or.inl rfl | exact Or.inr rfl)) pgs_nil)))
    (pss_one (ps_if (PW.pt (pw_or (pt_not (pt_val (pe_c (call_g (G_is_integer T) (hr.mono (by decide)) pass0) (kp_is_integer T) rfl (g_is_integer T) (pa_cons (pv 2) pa_nil)))) (pw_or1 (pt_not (pt_chain op_le op_le pe_int (pv 2) pe_int))))) (pss_one ps_never) pss_nil))))), ?_⟩
  refine body_F (f := fun as : (List Int) × Unit => f__check_factors as.1) h 2 (fun _ => rfl) fun e as hm hR => ?_
  obtain ⟨x_factors, _⟩ := as
  exact ((sv_ifR (fun (_ : Unit) =>
none) (fun (_ : Unit) =>
forK (en 0 x_factors) (()) ()
  (fun (y_62 : (Int × Int)) (c_61 : (Unit)) (_ : Unit) (next_59 : (Unit) → Unit → _) (done_60 : (Unit) → Unit → _) =>
    (f_is_integer y_62.2).bind fun o_63 =>
    if (!o_63) = true then
      if true = true then
        none
      else
      next_59 (()) ()
    else
    if (!(decide ((2 : Int) ≤ y_62.2) && decide (y_62.2 ≤ (4 : Int)))) = true then
      none
    else
    next_59 (()) ())
  (fun (c_64 : (Unit)) (_ : Unit) =>
    some ())) (evT_not (evT_B (ev_callP (f := fun (as : (List Int) × Unit) => f_is_list as.1) (puA_cons (pu_var 0 rfl) fun _ => puA_nil)))) (fun _ => sv_dead) (fun _ => (sv_last (sv_for (ς := (Unit)) (fun (y_62 : (Int × Int)) (c_61 : (Unit)) (_ : Unit) (next_59 : (Unit) → Unit → _) (done_60 : (Unit) → Unit → _) =>
    (f_is_integer y_62.2).bind fun o_63 =>
    if (!o_63) = true then
      if true = true then
        none
      else
      next_59 (()) ()
    else
    if (!(decide ((2 : Int) ≤ y_62.2) && decide (y_62.2 ≤ (4 : Int)))) = true then
      none
    else
    next_59 (()) ()) (fun (c_64 : (Unit)) (_ : Unit) =>
    some ()) (NJ := fun c_61 => []) (tJ := fun c_61 => [some (av K x_factors), none, none]) (()) rfl (Sub.keep (Sub.keep (Sub.keep Sub.nil))) (PuI.ev (puI_enumL (pu_var 0 rfl))) (tg_tup2 (tgs_cons (tg_name 1) (tgs_cons (tg_name 2) tgs_nil))) (fun _ y_62 c_61 _ next_59 done_60 => (sv_ifL (fun (_ : Unit) =>
none) (fun (_ : Unit) =>
next_59 (()) ()) (evT_or (evT_not (evT_B (ev_callP (f := fun (as : Int × Unit) => f_is_integer as.1) (puA_cons (pu_var 2 rfl) fun _ => puA_nil)))) fun _ => (PuT.ev (puT_not (puT_B (pu_chain (pu_int 2) (fun _ => (pu_var 2 rfl)) (fun _ _ => (pu_int 4)) o_le o_le))))) (fun _ => sv_dead) (fun _ => (sv_endJ (()) rfl (Sub.keep (Sub.drop (Sub.drop Sub.nil))))) (by exact rfl))) (fun c_64 _ => (sv_fall hR)) (by exact rfl)))) (by exact rfl)) : Sv e e.S0 [] [some (av K x_factors), none, none] [] _ () _ (fun _ H => e.rt .non H) nF nF)
theorem sp_len__check_factors : ∀ vs H Q E, (P__check_factors K) vs H Q E → vs.length = 1 := fun vs H Q E h => by obtain ⟨_, as, _, _, hA, _⟩ := h; exact hA.len
theorem G__check_factors (T : Tx K mg) : FnG P w K mg base CX0 3 (ga K "_check_factors") (P__check_factors K) := by
  obtain ⟨fd, F⟩ := F__check_factors T
  have b : L2.Binds K fd ["factors"] [] := F.bindsN fun _ _ _ _ _ _ us hl => match us, hl with | [_], _ => rfl
  exact fnG_pl F sc__check_factors b sp_len__check_factors (B__check_factors T)
theorem sc__sides : FnScope ["side", "factors", "sides", "factor"] ["side", "factors"] (defScope s__sides) := ⟨rfl, rfl, rfl, by decide +kernel, rfl, by decide +kernel, by decide +kernel⟩
def f__sides (x_side : Int) (x_factors : (List Int)) : Option (List Int) :=
  let sides_67 : List Int := [x_side]
  forK x_factors (sides_67, ()) ()
    (fun (y_71 : Int) (c_70 : ((List Int) × Unit)) (_ : Unit) (next_68 : ((List Int) × Unit) → Unit → _) (done_69 : ((List Int) × Unit) → Unit → _) =>
      (atI c_70.1 (-(1 : Int))).bind fun o_74 =>
      if CMulW o_74 y_71 then
        if (c_70.1).length < sizeLine then
          let a_72 : Int := (o_74 * y_71)
          let sides_73 : List Int := c_70.1 ++ [a_72]
          next_68 (sides_73, ()) ()
        else none
      else none)
    (fun (c_75 : ((List Int) × Unit)) (_ : Unit) =>
      some c_75.1)
abbrev P__sides (K : Frag) : Sp := SpF K (fun as : Int × (List Int) × Unit => f__sides as.1 as.2.1)
theorem B__sides (T : Tx K mg) : BodyG CX0 P w K mg base ["side", "factors", "sides", "factor"] "_sides" (defScope s__sides) (defBody s__sides) 0 (ga K "_sides") (P__sides K) := by
  intro cdv A outer s0 H vs Q E hr h
  have hu := hr.units
  have hu1 := hr.units1
  refine ⟨_, PSs.nox (pss_cons (ps_set (i := 2) sc__sides.nd rfl (by first | exact Or.inl rfl | exact Or.inr rfl) (pe_lst (pa_cons (pv 0) pa_nil)))
    (pss_cons (ps_for PassesOwn.never rfl (pi_list (pv 1)) (pg_name (i := 3) sc__sides.nd rfl (by first | exact Or.inl rfl | exact Or.inr rfl))
    (pss_one (ps_expr (pe_bm PySem.F.plainAttrs_list PySem.F.slot_list_append PySem.F.type_list_append mt_append (pv 2) (pa_cons (pe_op (op_mulW) (pe_ix (ix_list) (pv 2) (pe_un un_neg pe_int) (fun _ _ => rfl)) (pv 3)) pa_nil)))))
    (pss_one (ps_ret (pv 2))))), ?_⟩
  refine body_F (f := fun as : Int × (List Int) × Unit => f__sides as.1 as.2.1) h 2 (fun _ => rfl) fun e as hm hR => ?_
  obtain ⟨x_side, x_factors, _⟩ := as
  exact ((sv_newLs (i := 2) (fun (sides_67 : List Int) (_ : Unit) =>
forK x_factors (sides_67, ()) ()
  (fun (y_71 : Int) (c_70 : ((List Int) × Unit)) (_ : Unit) (next_68 : ((List Int) × Unit) → Unit → _) (done_69 : ((List Int) × Unit) → Unit → _) =>
    (atI c_70.1 (-(1 : Int))).bind fun o_74 =>
    if CMulW o_74 y_71 then
      if (c_70.1).length < sizeLine then
        let a_72 : Int := (o_74 * y_71)
        let sides_73 : List Int := c_70.1 ++ [a_72]
        next_68 (sides_73, ()) ()
      else none
    else none)
  (fun (c_75 : ((List Int) × Unit)) (_ : Unit) =>
    some c_75.1)) (evL_cons (Pu.ev (pu_var 0 rfl)) fun _ _ _ => evL_nil) (by decide) (fun r_66 sides_67 _ nf_r_66 => (sv_for (ς := ((List Int) × Unit)) (fun (y_71 : Int) (c_70 : ((List Int) × Unit)) (_ : Unit) (next_68 : ((List Int) × Unit) → Unit → _) (done_69 : ((List Int) × Unit) → Unit → _) =>
    (atI c_70.1 (-(1 : Int))).bind fun o_74 =>
    if CMulW o_74 y_71 then
      if (c_70.1).length < sizeLine then
        let a_72 : Int := (o_74 * y_71)
        let sides_73 : List Int := c_70.1 ++ [a_72]
        next_68 (sides_73, ()) ()
      else none
    else none) (fun (c_75 : ((List Int) × Unit)) (_ : Unit) =>
    some c_75.1) (NJ := fun c_70 => [accD K r_66 (c_70.1)]) (tJ := fun c_70 => [some (av K x_side), some (av K x_factors), some (refA r_66), none]) (sides_67, ()) rfl (Sub.keep (Sub.keep (Sub.keep (Sub.keep Sub.nil)))) (PuI.ev (puI_list (pu_var 1 rfl))) (tg_name 3) (fun _ y_71 c_70 _ next_68 done_69 => (sv_last (sv_app (fun (a_72 : Int) (_ : Unit) =>
let sides_73 : List Int := c_70.1 ++ [a_72]
next_68 (sides_73, ()) ()) (i := 2) (j := 0) rfl rfl (ev_opC (ev_ixM (i := 2) (j := 0) rfl rfl (Pu.ev (pu_un (pu_int 1) o_neg))) (fun _ _ _ => (Pu.ev (pu_var 3 rfl))) o_mul) (fun a_72 _ => let sides_73 : List Int := c_70.1 ++ [a_72]; (sv_endJ (sides_73, ()) rfl (Sub.keep (Sub.keep (Sub.keep (Sub.drop Sub.nil)))))) (by exact rfl)))) (fun c_75 _ => (sv_freeze (i := 2) rfl nf_r_66 (sv_ret hR (Pu.ev (pu_var 2 rfl)) (by exact rfl)))) (by exact rfl))) (by exact rfl)) : Sv e e.S0 [] [some (av K x_side), some (av K x_factors), none, none] [] _ () _ (fun _ H => e.rt .non H) nF nF)
theorem sp_len__sides : ∀ vs H Q E, (P__sides K) vs H Q E → vs.length = 2 := fun vs H Q E h => by obtain ⟨_, as, _, _, hA, _⟩ := h; exact hA.len
theorem G__sides (T : Tx K mg) : FnG P w K mg base CX0 1 (ga K "_sides") (P__sides K) := by
  obtain ⟨fd, F⟩ := F__sides T
  have b : L2.Binds K fd ["side", "factors"] [] := F.bindsN fun _ _ _ _ _ _ us hl => match us, hl with | [_, _], _ => rfl
  exact fnG_pl F sc__sides b sp_len__sides (B__sides T)
structure O_Ladder where
  factors : (Tu Int)
  all_sides : (Tu Int)
  edges : (Tu (Int × Int))
  deriving DecidableEq
instance : Rv K O_Ladder := ⟨fun S H v o => obR (ga K "Ladder") ["_factors", "_all_sides", "_edges"] [av K o.factors, av K o.all_sides, av K o.edges] S H v, obR.keep, obR.wid⟩
instance : Ob K O_Ladder := ⟨ga K "Ladder", ["_factors", "_all_sides", "_edges"], fun o => [av K o.factors, av K o.all_sides, av K o.edges], fun h => h⟩
theorem sc_Ladder_init : FnScope ["self", "side", "factors", "edges", "_"] ["self", "side", "factors", "edges"] (defScope s_Ladder_init) := ⟨rfl, rfl, rfl, by decide +kernel, rfl, by decide +kernel, by decide +kernel⟩
def f_Ladder_init (x_side : Int) (x_factors : (List Int)) (x_edges : Unit) : Option O_Ladder :=
  (f_is_integer x_side).bind fun o_83 =>
  if (!o_83) = true then
    if true = true then
      none
    else
    (f__check_factors x_factors).bind fun o_82 =>
    if (decide (((x_factors.length : Int) + (1 : Int)) > (4 : Int))) = true then
      none
    else
    let _factors_77 : (Tu Int) := (Tu.mk x_factors)
    (f__sides x_side x_factors).bind fun o_81 =>
    let _all_sides_78 : (Tu Int) := (Tu.mk o_81)
    if true = true then
      let _edges_80 : (Tu (Int × Int)) := (Tu.mk (List.map (fun (y_79 : Int) => (((0 : Int), (0 : Int)) : (Int × Int))) _all_sides_78.l))
      some (O_Ladder.mk _factors_77 _all_sides_78 _edges_80)
    else
    none
  else
  if (decide (x_side < (1 : Int))) = true then
    none
  else
  (f__check_factors x_factors).bind fun o_82 =>
  if (decide (((x_factors.length : Int) + (1 : Int)) > (4 : Int))) = true then
    none
  else
  let _factors_77 : (Tu Int) := (Tu.mk x_factors)
  (f__sides x_side x_factors).bind fun o_81 =>
  let _all_sides_78 : (Tu Int) := (Tu.mk o_81)
  if true = true then
    let _edges_80 : (Tu (Int × Int)) := (Tu.mk (List.map (fun (y_79 : Int) => (((0 : Int), (0 : Int)) : (Int × Int))) _all_sides_78.l))
    some (O_Ladder.mk _factors_77 _all_sides_78 _edges_80)
  else
  none
abbrev P_Ladder_init (K : Frag) : Sp := SpI K (ga K "Ladder") (fun as : Int × (List Int) × Unit × Unit => f_Ladder_init as.1 as.2.1 as.2.2.1)
theorem B_Ladder_init (T : Tx K mg) : BodyG CX0 P w K mg base ["self", "side", "factors", "edges", "_"] "Ladder.__init__" (defScope s_Ladder_init) (defBody s_Ladder_init) 4 (ma K (ga K "Ladder") "__init__") (P_Ladder_init K) := by
  intro cdv A outer s0 H vs Q E hr h
  have hu := hr.units
  have hu1 := hr.units1
  refine ⟨_, PSs.nox (pss_cons (ps_if (PW.pt (pw_or (pt_not (pt_val (pe_c (call_g (G_is_integer T) (hr.mono (by decide)) pass0) (kp_is_integer T) rfl (g_is_integer T) (pa_cons (pv 1) pa_nil)))) (pw_or1 (pt_cmpR (op_lt) (pv 1) pe_int (nomark _))))) (pss_one ps_never) pss_nil)
    (pss_cons (ps_expr (pe_c (call_g (G__check_factors T) (hr.mono (by decide)) pass0) (kp__check_factors T) rfl (g__check_factors T) (pa_cons (pv 2) pa_nil)))
    (pss_cons (ps_if (pt_cmpR (op_gt) (pe_op (op_add) (pe_callB (call_len_seq) (by rfl) (z_len T) PySem.boot_len (pa_cons (pv 2) pa_nil)) pe_int) (ClX.pe_cval (pe_glob (v := .ref (ga K "Ladder")) rfl (g_Ladder T) rfl)) (nomark _)) (pss_one ps_never) pss_nil)
    (pss_cons (ps_fld (pv 0) (pe_tupleOf rfl (z_tuple T) (pv 2)) rfl)
    (pss_cons (ps_fld (pv 0) (pe_tupleOf rfl (z_tuple T) (pe_c (call_g (G__sides T) (hr.mono (by decide)) pass0) (kp__sides T) rfl (g__sides T) (pa_cons (pv 1) (pa_cons (pv 2) pa_nil)))) rfl)
    (pss_one (ps_if (pt_cmp (pc_isN (pv 3))) (pss_one (ps_fld (pv 0) (pe_tupleOf rfl (z_tuple T) (pe_lc rfl sc_Ladder_init.nd (pi_tup (pe_fld (pv 0) rfl)) (blkOk_by (N := ["self", "side", "factors", "edges", "_"]) (sc := defScope s_Ladder_init) (own := [("_", 4)]) (by decide +kernel)) (fun _ _ _ _ _ => (pg_name (i := 4) sc_Ladder_init.nd rfl (by first | exact Or.inl rfl | exact Or.inr rfl))) (fun _ _ _ _ _ => pts_nil) (fun _ _ _ _ _ => (pe_tup (pa_cons pe_int (pa_cons pe_int pa_nil)))))) rfl)) (pss_cons ps_never (pss_one ps_never))))))))), ?_⟩
  refine body_I (f := fun as : Int × (List Int) × Unit × Unit => f_Ladder_init as.1 as.2.1 as.2.2.1) h 1 (fun _ => rfl) fun e as x dx hm => ?_
  obtain ⟨x_side, x_factors, x_edges, _⟩ := as
  exact ((sv_ifR (fun (_ : Unit) =>
none) (fun (_ : Unit) =>
(f__check_factors x_factors).bind fun o_82 =>
if (decide (((x_factors.length : Int) + (1 : Int)) > (4 : Int))) = true then
  none
else
let _factors_77 : (Tu Int) := (Tu.mk x_factors)
(f__sides x_side x_factors).bind fun o_81 =>
let _all_sides_78 : (Tu Int) := (Tu.mk o_81)
if true = true then
  let _edges_80 : (Tu (Int × Int)) := (Tu.mk (List.map (fun (y_79 : Int) => (((0 : Int), (0 : Int)) : (Int × Int))) _all_sides_78.l))
  some (O_Ladder.mk _factors_77 _all_sides_78 _edges_80)
else
none) (evT_or (evT_not (evT_B (ev_callP (f := fun (as : Int × Unit) => f_is_integer as.1) (puA_cons (pu_var 1 rfl) fun _ => puA_nil)))) fun _ => (PuT.ev (puT_test (pu_op (g := fun i j : Int => decide (i < j)) (pu_var 1 rfl) (fun _ => (pu_int 1)) o_lt)))) (fun _ => sv_dead) (fun _ => (sv_expr (fun (_ : Unit) (_ : Unit) =>
if (decide (((x_factors.length : Int) + (1 : Int)) > (4 : Int))) = true then
  none
else
let _factors_77 : (Tu Int) := (Tu.mk x_factors)
(f__sides x_side x_factors).bind fun o_81 =>
let _all_sides_78 : (Tu Int) := (Tu.mk o_81)
if true = true then
  let _edges_80 : (Tu (Int × Int)) := (Tu.mk (List.map (fun (y_79 : Int) => (((0 : Int), (0 : Int)) : (Int × Int))) _all_sides_78.l))
  some (O_Ladder.mk _factors_77 _all_sides_78 _edges_80)
else
none) (ev_callP (f := fun (as : (List Int) × Unit) => f__check_factors as.1) (puA_cons (pu_var 2 rfl) fun _ => puA_nil)) (fun _ _ => (sv_ifR (fun (_ : Unit) =>
none) (fun (_ : Unit) =>
let _factors_77 : (Tu Int) := (Tu.mk x_factors)
(f__sides x_side x_factors).bind fun o_81 =>
let _all_sides_78 : (Tu Int) := (Tu.mk o_81)
if true = true then
  let _edges_80 : (Tu (Int × Int)) := (Tu.mk (List.map (fun (y_79 : Int) => (((0 : Int), (0 : Int)) : (Int × Int))) _all_sides_78.l))
  some (O_Ladder.mk _factors_77 _all_sides_78 _edges_80)
else
none) (PuT.ev (puT_test (pu_op (g := fun i j : Int => decide (i > j)) (pu_op (pu_cb1 (pu_var 2 rfl) o_lenL) (fun _ => (pu_int 1)) o_add) (fun _ => (pu_cval (rd_Ladder T) (v_Ladder_MOST_LEVELS T))) o_gt))) (fun _ => sv_dead) (fun _ => (sv_fld (fun (_factors_77 : (Tu Int)) (_ : Unit) =>
(f__sides x_side x_factors).bind fun o_81 =>
let _all_sides_78 : (Tu Int) := (Tu.mk o_81)
if true = true then
  let _edges_80 : (Tu (Int × Int)) := (Tu.mk (List.map (fun (y_79 : Int) => (((0 : Int), (0 : Int)) : (Int × Int))) _all_sides_78.l))
  some (O_Ladder.mk _factors_77 _all_sides_78 _edges_80)
else
none) (i := 0) (j := 0) (c_Ladder T) (n_Ladder__factors T) rfl rfl (by decide +kernel) (by decide) (Pu.ev (pu_then (pu_var 2 rfl) o_tupL)) (fun _factors_77 _ => (sv_fld (fun (_all_sides_78 : (Tu Int)) (_ : Unit) =>
if true = true then
  let _edges_80 : (Tu (Int × Int)) := (Tu.mk (List.map (fun (y_79 : Int) => (((0 : Int), (0 : Int)) : (Int × Int))) _all_sides_78.l))
  some (O_Ladder.mk _factors_77 _all_sides_78 _edges_80)
else
none) (i := 0) (j := 0) (c_Ladder T) (n_Ladder__all_sides T) rfl rfl (by decide +kernel) (by decide) (ev_then (ev_callP (f := fun (as : Int × (List Int) × Unit) => f__sides as.1 as.2.1) (puA_cons (pu_var 1 rfl) fun _ => (puA_cons (pu_var 2 rfl) fun _ => puA_nil))) o_tupL) (fun _all_sides_78 _ => (sv_ifL (fun (_ : Unit) =>
let _edges_80 : (Tu (Int × Int)) := (Tu.mk (List.map (fun (y_79 : Int) => (((0 : Int), (0 : Int)) : (Int × Int))) _all_sides_78.l))
some (O_Ladder.mk _factors_77 _all_sides_78 _edges_80)) (fun (_ : Unit) =>
none) (PuT.ev (puT_test (pu_isN0 (pu_var 3 rfl)))) (fun _ => (sv_last (sv_fld (fun (_edges_80 : (Tu (Int × Int))) (_ : Unit) =>
some (O_Ladder.mk _factors_77 _all_sides_78 _edges_80)) (i := 0) (j := 0) (c_Ladder T) (n_Ladder__edges T) rfl rfl (by decide +kernel) (by decide) (Pu.ev (pu_then (pu_lc (vs := [4]) (puI_tup (pu_fldM (i := 0) (j := 0) (l := 1) (c_Ladder T) (n_Ladder__all_sides T) rfl rfl rfl rfl)) (tg_name 4) (by decide) fun _ _ _ y_79 => (pu_tup2 (pu_int 0) (fun _ => (pu_int 0)))) o_tupL)) (fun _edges_80 _ => (sv_endI (j := 0) (a := (O_Ladder.mk _factors_77 _all_sides_78 _edges_80)) rfl fun _ _ _ h => h)) (by exact rfl)))) (fun _ => sv_dead) (by exact rfl))) (by exact rfl))) (by exact rfl))) (by exact rfl))) (by exact rfl))) (by exact rfl)) : Sv e e.S0 [insD x dx (ga K "Ladder") [] []] [some (refA x), some (av K x_side), some (av K x_factors), some (av K x_edges), none] [] _ () _ (InitOk K e x) nF nF)
theorem sp_len_Ladder_init : ∀ vs H Q E, (P_Ladder_init K) vs H Q E → vs.length = 4 := fun vs H Q E h => by obtain ⟨_, _, _, us, as, _, _, e, _, _, hA, _⟩ := h; subst e; exact congrArg (· + 1) hA.len
theorem G_Ladder_init_dfl (T : Tx K mg) (j : Nat) (hj : j ≤ 2) : FnG P w K mg base CX0 5 (ma K (ga K "Ladder") "__init__") (fun vs H Q E => (P_Ladder_init K) (vs ++ ([(He.Dv.v K (.adr (He.dflAt ("Ladder", some "__init__") 0))), (He.Dv.v K (.non))] : List V).drop j) H Q E) := by
  obtain ⟨fd, F⟩ := F_Ladder_init T
  have hb : ∃ ds, Vals (([(He.Dv.v K (.adr (He.dflAt ("Ladder", some "__init__") 0))), (He.Dv.v K (.non))] : List V).drop j) ds ∧ L2.Binds K fd ["self", "side", "factors", "edges"] ds := by
    match j, hj with
    | 0, _ => exact (F.binds1 (ps := ["self", "side", "factors", "edges"]) 2 0 (List.cons_ne_nil _ _) rfl fun _ _ _ _ _ _ _ us its hl hi => match us, its, hl, hi with | [_, _], [_, _], _, _ => ⟨_, rfl, rfl⟩)
    | 1, _ => exact (F.binds1 (ps := ["self", "side", "factors", "edges"]) 3 1 (List.cons_ne_nil _ _) rfl fun _ _ _ _ _ _ _ us its hl hi => match us, its, hl, hi with | [_, _, _], [_, _], _, _ => ⟨_, rfl, rfl⟩)
    | 2, _ => exact (F.binds1 (ps := ["self", "side", "factors", "edges"]) 4 2 (List.cons_ne_nil _ _) rfl fun _ _ _ _ _ _ _ us its hl hi => match us, its, hl, hi with | [_, _, _, _], [_, _], _, _ => ⟨_, rfl, rfl⟩)
    | (n + 3), h => exact absurd h (by omega)
  obtain ⟨ds, hd, b⟩ := hb
  exact fnG_of F sc_Ladder_init b hd sp_len_Ladder_init (B_Ladder_init T)
theorem G_Ladder_init_2 (T : Tx K mg) : FnG P w K mg base CX0 5 (ma K (ga K "Ladder") "__init__") (fun vs H Q E => (P_Ladder_init K) (vs ++ ([He.Dv.v K (.adr (He.dflAt ("Ladder", some "__init__") 0)), He.Dv.v K (.non)] : List V)) H Q E) := G_Ladder_init_dfl T 0 (by decide)
theorem G_Ladder_init_3 (T : Tx K mg) : FnG P w K mg base CX0 5 (ma K (ga K "Ladder") "__init__") (fun vs H Q E => (P_Ladder_init K) (vs ++ ([He.Dv.v K (.non)] : List V)) H Q E) := G_Ladder_init_dfl T 1 (by decide)
theorem G_Ladder_init (T : Tx K mg) : FnG P w K mg base CX0 5 (ma K (ga K "Ladder") "__init__") (P_Ladder_init K) := (G_Ladder_init_dfl T 2 (by decide)).imp fun vs H Q E h => by rw [show List.drop 2 ([(He.Dv.v K (.adr (He.dflAt ("Ladder", some "__init__") 0))), (He.Dv.v K (.non))] : List V) = [] from rfl, List.append_nil]; exact h
theorem sc_Ladder_levels : FnScope ["self"] ["self"] (defScope s_Ladder_levels) := ⟨rfl, rfl, rfl, by decide +kernel, rfl, by decide +kernel, by decide +kernel⟩
def f_Ladder_levels (x_self : O_Ladder) : Option Int :=
  some (x_self.all_sides.l.length : Int)
abbrev P_Ladder_levels (K : Frag) : Sp := SpF K (fun as : O_Ladder × Unit => f_Ladder_levels as.1)
theorem B_Ladder_levels (T : Tx K mg) : BodyG CX0 P w K mg base ["self"] "Ladder.levels" (defScope s_Ladder_levels) (defBody s_Ladder_levels) 0 (pg K "Ladder" "levels") (P_Ladder_levels K) := by
  intro cdv A outer s0 H vs Q E hr h
  have hu := hr.units
  have hu1 := hr.units1
  refine ⟨_, PSs.nox (pss_one (ps_ret (pe_callB (call_len_seq) (by rfl) (z_len T) PySem.boot_len (pa_cons (pe_fld (pv 0) rfl) pa_nil)))), ?_⟩
  refine body_F (f := fun as : O_Ladder × Unit => f_Ladder_levels as.1) h 0 (fun _ => rfl) fun e as hm hR => ?_
  obtain ⟨x_self, _⟩ := as
  exact ((sv_ret hR (Pu.ev (pu_cb1 (pu_fld 1 (c_Ladder T) (n_Ladder__all_sides T) (pu_var 0 rfl) rfl rfl) o_lenT)) (by exact rfl)) : Sv e e.S0 [] [some (av K x_self)] [] _ () _ (fun _ H => e.rt .non H) nF nF)
theorem sp_len_Ladder_levels : ∀ vs H Q E, (P_Ladder_levels K) vs H Q E → vs.length = 1 := fun vs H Q E h => by obtain ⟨_, as, _, _, hA, _⟩ := h; exact hA.len
theorem G_Ladder_levels (T : Tx K mg) : FnG P w K mg base CX0 1 (pg K "Ladder" "levels") (P_Ladder_levels K) := by
  obtain ⟨fd, F⟩ := F_Ladder_levels T
  have b : L2.Binds K fd ["self"] [] := F.bindsN fun _ _ _ _ _ _ us hl => match us, hl with | [_], _ => rfl
  exact fnG_pl F sc_Ladder_levels b sp_len_Ladder_levels (B_Ladder_levels T)
theorem sc_is_count : FnScope ["value"] ["value"] (defScope s_is_count) := ⟨rfl, rfl, rfl, by decide +kernel, rfl, by decide +kernel, by decide +kernel⟩
def f_is_count (x_value : Int) : Option Bool :=
  (f_is_integer x_value).bind fun o_84 =>
  if o_84 = true then
    some (decide (x_value ≥ (0 : Int)))
  else
  some false
abbrev P_is_count (K : Frag) : Sp := SpF K (fun as : Int × Unit => f_is_count as.1)
theorem B_is_count (T : Tx K mg) : BodyG CX0 P w K mg base ["value"] "is_count" (defScope s_is_count) (defBody s_is_count) 2 (ga K "is_count") (P_is_count K) := by
  intro cdv A outer s0 H vs Q E hr h
  have hu := hr.units
  have hu1 := hr.units1
  refine ⟨_, PSs.nox (pss_one (ps_ret (pe_and (pe_c (call_g (G_is_integer T) (hr.mono (by decide)) pass0) (kp_is_integer T) rfl (g_is_integer T) (pa_cons (pv 0) pa_nil)) (pe_one (pe_cmpR op_ge (pv 0) pe_int (nomark _)))))), ?_⟩
  refine body_F (f := fun as : Int × Unit => f_is_count as.1) h 0 (fun _ => rfl) fun e as hm hR => ?_
  obtain ⟨x_value, _⟩ := as
  exact ((sv_ret hR (ev_and (ev_callP (f := fun (as : Int × Unit) => f_is_integer as.1) (puA_cons (pu_var 0 rfl) fun _ => puA_nil)) fun _ => (Pu.ev (pu_op (g := fun i j : Int => decide (i ≥ j)) (pu_var 0 rfl) (fun _ => (pu_int 0)) o_ge))) (by exact rfl)) : Sv e e.S0 [] [some (av K x_value)] [] _ () _ (fun _ H => e.rt .non H) nF nF)
theorem sp_len_is_count : ∀ vs H Q E, (P_is_count K) vs H Q E → vs.length = 1 := fun vs H Q E h => by obtain ⟨_, as, _, _, hA, _⟩ := h; exact hA.len
theorem G_is_count (T : Tx K mg) : FnG P w K mg base CX0 3 (ga K "is_count") (P_is_count K) := by
  obtain ⟨fd, F⟩ := F_is_count T
  have b : L2.Binds K fd ["value"] [] := F.bindsN fun _ _ _ _ _ _ us hl => match us, hl with | [_], _ => rfl
  exact fnG_pl F sc_is_count b sp_len_is_count (B_is_count T)
theorem sc_is_level : FnScope ["value", "levels"] ["value", "levels"] (defScope s_is_level) := ⟨rfl, rfl, rfl, by decide +kernel, rfl, by decide +kernel, by decide +kernel⟩
def f_is_level (x_value : Int) (x_levels : Int) : Option Bool :=
  (f_is_count x_value).bind fun o_85 =>
  if o_85 = true then
    some (decide (x_value < x_levels))
  else
  some false
abbrev P_is_level (K : Frag) : Sp := SpF K (fun as : Int × Int × Unit => f_is_level as.1 as.2.1)
theorem B_is_level (T : Tx K mg) : BodyG CX0 P w K mg base ["value", "levels"] "is_level" (defScope s_is_level) (defBody s_is_level) 4 (ga K "is_level") (P_is_level K) := by
  intro cdv A outer s0 H vs Q E hr h
  have hu := hr.units
  have hu1 := hr.units1
  refine ⟨_, PSs.nox (pss_one (ps_ret (pe_and (pe_c (call_g (G_is_count T) (hr.mono (by decide)) pass0) (kp_is_count T) rfl (g_is_count T) (pa_cons (pv 0) pa_nil)) (pe_one (pe_cmpR op_lt (pv 0) (pv 1) (nomark _)))))), ?_⟩
  refine body_F (f := fun as : Int × Int × Unit => f_is_level as.1 as.2.1) h 0 (fun _ => rfl) fun e as hm hR => ?_
  obtain ⟨x_value, x_levels, _⟩ := as
  exact ((sv_ret hR (ev_and (ev_callP (f := fun (as : Int × Unit) => f_is_count as.1) (puA_cons (pu_var 0 rfl) fun _ => puA_nil)) fun _ => (Pu.ev (pu_op (g := fun i j : Int => decide (i < j)) (pu_var 0 rfl) (fun _ => (pu_var 1 rfl)) o_lt))) (by exact rfl)) : Sv e e.S0 [] [some (av K x_value), some (av K x_levels)] [] _ () _ (fun _ H => e.rt .non H) nF nF)
theorem sp_len_is_level : ∀ vs H Q E, (P_is_level K) vs H Q E → vs.length = 2 := fun vs H Q E h => by obtain ⟨_, as, _, _, hA, _⟩ := h; exact hA.len
theorem G_is_level (T : Tx K mg) : FnG P w K mg base CX0 5 (ga K "is_level") (P_is_level K) := by
  obtain ⟨fd, F⟩ := F_is_level T
  have b : L2.Binds K fd ["value", "levels"] [] := F.bindsN fun _ _ _ _ _ _ us hl => match us, hl with | [_, _], _ => rfl
  exact fnG_pl F sc_is_level b sp_len_is_level (B_is_level T)
theorem sc_check_level : FnScope ["level", "levels"] ["level", "levels"] (defScope s_check_level) := ⟨rfl, rfl, rfl, by decide +kernel, rfl, by decide +kernel, by decide +kernel⟩
def f_check_level (x_level : Int) (x_levels : Int) : Option Unit :=
  (f_is_level x_level x_levels).bind fun o_86 =>
  if (!o_86) = true then
    none
  else
  some ()
abbrev P_check_level (K : Frag) : Sp := SpF K (fun as : Int × Int × Unit => f_check_level as.1 as.2.1)
theorem B_check_level (T : Tx K mg) : BodyG CX0 P w K mg base ["level", "levels"] "check_level" (defScope s_check_level) (defBody s_check_level) 6 (ga K "check_level") (P_check_level K) := by
  intro cdv A outer s0 H vs Q E hr h
  have hu := hr.units
  have hu1 := hr.units1
  refine ⟨_, PSs.nox (pss_one (ps_if (pt_not (pt_val (pe_c (call_g (G_is_level T) (hr.mono (by decide)) pass0) (kp_is_level T) rfl (g_is_level T) (pa_cons (pv 0) (pa_cons (pv 1) pa_nil))))) (pss_one ps_never) pss_nil)), ?_⟩
  refine body_F (f := fun as : Int × Int × Unit => f_check_level as.1 as.2.1) h 0 (fun _ => rfl) fun e as hm hR => ?_
  obtain ⟨x_level, x_levels, _⟩ := as
  exact ((sv_ifL (fun (_ : Unit) =>
none) (fun (_ : Unit) =>
some ()) (evT_not (evT_B (ev_callP (f := fun (as : Int × Int × Unit) => f_is_level as.1 as.2.1) (puA_cons (pu_var 0 rfl) fun _ => (puA_cons (pu_var 1 rfl) fun _ => puA_nil))))) (fun _ => sv_dead) (fun _ => (sv_fall hR)) (by exact rfl)) : Sv e e.S0 [] [some (av K x_level), some (av K x_levels)] [] _ () _ (fun _ H => e.rt .non H) nF nF)
theorem sp_len_check_level : ∀ vs H Q E, (P_check_level K) vs H Q E → vs.length = 2 := fun vs H Q E h => by obtain ⟨_, as, _, _, hA, _⟩ := h; exact hA.len
theorem G_check_level (T : Tx K mg) : FnG P w K mg base CX0 7 (ga K "check_level") (P_check_level K) := by
  obtain ⟨fd, F⟩ := F_check_level T
  have b : L2.Binds K fd ["level", "levels"] [] := F.bindsN fun _ _ _ _ _ _ us hl => match us, hl with | [_, _], _ => rfl
  exact fnG_pl F sc_check_level b sp_len_check_level (B_check_level T)
theorem sc_Ladder_side : FnScope ["self", "level"] ["self", "level"] (defScope s_Ladder_side) := ⟨rfl, rfl, rfl, by decide +kernel, rfl, by decide +kernel, by decide +kernel⟩
def f_Ladder_side (x_self : O_Ladder) (x_level : Int) : Option Int :=
  (f_Ladder_levels x_self).bind fun o_89 =>
  (f_check_level x_level o_89).bind fun o_90 =>
  (atI x_self.all_sides.l x_level).bind fun o_88 =>
  some o_88
abbrev P_Ladder_side (K : Frag) : Sp := SpF K (fun as : O_Ladder × Int × Unit => f_Ladder_side as.1 as.2.1)
theorem B_Ladder_side (T : Tx K mg) : BodyG CX0 P w K mg base ["self", "level"] "Ladder.side" (defScope s_Ladder_side) (defBody s_Ladder_side) 8 (ma K (ga K "Ladder") "side") (P_Ladder_side K) := by
  intro cdv A outer s0 H vs Q E hr h
  have hu := hr.units
  have hu1 := hr.units1
  refine ⟨_, PSs.nox (pss_cons (ps_expr (pe_c (call_g (G_check_level T) (hr.mono (by decide)) pass0) (kp_check_level T) rfl (g_check_level T) (pa_cons (pv 1) (pa_cons (pe_pr (pv 0) (c_Ladder T) (p_Ladder_levels T) (G_Ladder_levels T) (hr.mono (by decide)) pass0) pa_nil))))
    (pss_one (ps_ret (pe_ix (ix_tup) (pe_fld (pv 0) rfl) (pv 1) (fun _ _ => rfl))))), ?_⟩
  refine body_F (f := fun as : O_Ladder × Int × Unit => f_Ladder_side as.1 as.2.1) h 0 (fun _ => rfl) fun e as hm hR => ?_
  obtain ⟨x_self, x_level, _⟩ := as
  exact ((sv_expr (fun (_ : Unit) (_ : Unit) =>
(atI x_self.all_sides.l x_level).bind fun o_88 =>
some o_88) (ev_call (f := fun (as : Int × Int × Unit) => f_check_level as.1 as.2.1) (evA_consY (fun _ _ _ => (evA_consY (fun _ _ _ => (PuA.ev puA_nil)) (ev_prop (f := fun (as : O_Ladder × Unit) => f_Ladder_levels as.1) (Pu.ev (pu_var 0 rfl))))) (Pu.ev (pu_var 1 rfl)))) (fun _ _ => (sv_ret hR (ev_opO (Pu.ev (pu_fld 1 (c_Ladder T) (n_Ladder__all_sides T) (pu_var 0 rfl) rfl rfl)) (fun _ _ _ => (Pu.ev (pu_var 1 rfl))) o_ixT) (by exact rfl))) (by exact rfl)) : Sv e e.S0 [] [some (av K x_self), some (av K x_level)] [] _ () _ (fun _ H => e.rt .non H) nF nF)
theorem sp_len_Ladder_side : ∀ vs H Q E, (P_Ladder_side K) vs H Q E → vs.length = 2 := fun vs H Q E h => by obtain ⟨_, as, _, _, hA, _⟩ := h; exact hA.len
theorem G_Ladder_side (T : Tx K mg) : FnG P w K mg base CX0 9 (ma K (ga K "Ladder") "side") (P_Ladder_side K) := by
  obtain ⟨fd, F⟩ := F_Ladder_side T
  have b : L2.Binds K fd ["self", "level"] [] := F.bindsN fun _ _ _ _ _ _ us hl => match us, hl with | [_, _], _ => rfl
  exact fnG_pl F sc_Ladder_side b sp_len_Ladder_side (B_Ladder_side T)
theorem sc_is_couple : FnScope ["value"] ["value"] (defScope s_is_couple) := ⟨rfl, rfl, rfl, by decide +kernel, rfl, by decide +kernel, by decide +kernel⟩
def f_is_couple (x_value : (Int × Int)) : Option Bool :=
  some (true && decide ((2 : Int) = (2 : Int)))
abbrev P_is_couple (K : Frag) : Sp := SpF K (fun as : (Int × Int) × Unit => f_is_couple as.1)
theorem B_is_couple (T : Tx K mg) : BodyG CX0 P w K mg base ["value"] "is_couple" (defScope s_is_couple) (defBody s_is_couple) 0 (ga K "is_couple") (P_is_couple K) := by
  intro cdv A outer s0 H vs Q E hr h
  have hu := hr.units
  have hu1 := hr.units1
  refine ⟨_, PSs.nox (pss_one (ps_ret (pe_and (pe_callB (call_isi) (by rfl) (z_isinstance T) PyProof.Rows.boot_isinstance (pa_cons (pv 0) (pa_cons (pe_bltn (v := .ty "tuple") rfl (z_tuple T) PyProof.Rows.boot_tuple rfl) pa_nil))) (pe_one (pe_cmpR op_eq (pe_callB (call_len_seq) (by rfl) (z_len T) PySem.boot_len (pa_cons (pv 0) pa_nil)) pe_int (nomark _)))))), ?_⟩
  refine body_F (f := fun as : (Int × Int) × Unit => f_is_couple as.1) h 0 (fun _ => rfl) fun e as hm hR => ?_
  obtain ⟨x_value, _⟩ := as
  exact ((sv_ret hR (Pu.ev (pu_and (pu_isi (U := "tuple") (b := true) (fun _ _ _ h => tyR_tup h) (by decide +kernel) (pu_var 0 rfl)) (pu_op (pu_cb1 (pu_var 0 rfl) o_len2) (fun _ => (pu_int 2)) o_eqI))) (by exact rfl)) : Sv e e.S0 [] [some (av K x_value)] [] _ () _ (fun _ H => e.rt .non H) nF nF)
theorem sp_len_is_couple : ∀ vs H Q E, (P_is_couple K) vs H Q E → vs.length = 1 := fun vs H Q E h => by obtain ⟨_, as, _, _, hA, _⟩ := h; exact hA.len
theorem G_is_couple (T : Tx K mg) : FnG P w K mg base CX0 1 (ga K "is_couple") (P_is_couple K) := by
  obtain ⟨fd, F⟩ := F_is_couple T
  have b : L2.Binds K fd ["value"] [] := F.bindsN fun _ _ _ _ _ _ us hl => match us, hl with | [_], _ => rfl
  exact fnG_pl F sc_is_couple b sp_len_is_couple (B_is_couple T)
theorem sc_is_count_couple : FnScope ["value", "one", "other"] ["value"] (defScope s_is_count_couple) := ⟨rfl, rfl, rfl, by decide +kernel, rfl, by decide +kernel, by decide +kernel⟩
def f_is_count_couple (x_value : (Int × Int)) : Option Bool :=
  (f_is_couple x_value).bind fun o_94 =>
  if (!o_94) = true then
    some false
  else
  let t_91 : (Int × Int) := x_value
  (f_is_count t_91.1).bind fun o_92 =>
  if o_92 = true then
    (f_is_count t_91.2).bind fun o_93 =>
    some o_93
  else
  some false
abbrev P_is_count_couple (K : Frag) : Sp := SpF K (fun as : (Int × Int) × Unit => f_is_count_couple as.1)
theorem B_is_count_couple (T : Tx K mg) : BodyG CX0 P w K mg base ["value", "one", "other"] "is_count_couple" (defScope s_is_count_couple) (defBody s_is_count_couple) 4 (ga K "is_count_couple") (P_is_count_couple K) := by
  intro cdv A outer s0 H vs Q E hr h
  have hu := hr.units
  have hu1 := hr.units1
  refine ⟨_, PSs.nox (pss_cons (ps_if (pt_not (pt_val (pe_c (call_g (G_is_couple T) (hr.mono (by decide)) pass0) (kp_is_couple T) rfl (g_is_couple T) (pa_cons (pv 0) pa_nil)))) (pss_one (ps_ret pe_bl)) pss_nil)
    (pss_cons (ps_asg (pv 0) (pg_tupK (K := K) (n := 2) rfl rfl (pgs_cons (pg_name (i := 1) sc_is_count_couple.nd rfl (by first | exact Or.inl rfl | exact Or.inr rfl)) (pgs_cons (pg_name (i := 2) sc_is_count_couple.nd rfl (by first | exact Or.inl rfl | exact Or.inr rfl)) pgs_nil))))
    (pss_one (ps_ret (pe_and (pe_c (call_g (G_is_count T) (hr.mono (by decide)) pass0) (kp_is_count T) rfl (g_is_count T) (pa_cons (pv 1) pa_nil)) (pe_one (pe_c (call_g (G_is_count T) (hr.mono (by decide)) pass0) (kp_is_count T) rfl (g_is_count T) (pa_cons (pv 2) pa_nil)))))))), ?_⟩
  refine body_F (f := fun as : (Int × Int) × Unit => f_is_count_couple as.1) h 2 (fun _ => rfl) fun e as hm hR => ?_
  obtain ⟨x_value, _⟩ := as
  exact ((sv_ifR (fun (_ : Unit) =>
some false) (fun (_ : Unit) =>
let t_91 : (Int × Int) := x_value
(f_is_count t_91.1).bind fun o_92 =>
if o_92 = true then
  (f_is_count t_91.2).bind fun o_93 =>
  some o_93
else
some false) (evT_not (evT_B (ev_callP (f := fun (as : (Int × Int) × Unit) => f_is_couple as.1) (puA_cons (pu_var 0 rfl) fun _ => puA_nil)))) (fun _ => (sv_ret hR (Pu.ev (pu_bl false)) (by exact rfl))) (fun _ => (sv_asg (fun (t_91 : (Int × Int)) (_ : Unit) =>
(f_is_count t_91.1).bind fun o_92 =>
if o_92 = true then
  (f_is_count t_91.2).bind fun o_93 =>
  some o_93
else
some false) (Pu.ev (pu_var 0 rfl)) (tg_tup2 (tgs_cons (tg_name 1) (tgs_cons (tg_name 2) tgs_nil))) (fun t_91 _ => (sv_ret hR (ev_and (ev_callP (f := fun (as : Int × Unit) => f_is_count as.1) (puA_cons (pu_var 1 rfl) fun _ => puA_nil)) fun _ => (ev_callP (f := fun (as : Int × Unit) => f_is_count as.1) (puA_cons (pu_var 2 rfl) fun _ => puA_nil))) (by exact rfl))) (by exact rfl))) (by exact rfl)) : Sv e e.S0 [] [some (av K x_value), none, none] [] _ () _ (fun _ H => e.rt .non H) nF nF)
theorem sp_len_is_count_couple : ∀ vs H Q E, (P_is_count_couple K) vs H Q E → vs.length = 1 := fun vs H Q E h => by obtain ⟨_, as, _, _, hA, _⟩ := h; exact hA.len
theorem G_is_count_couple (T : Tx K mg) : FnG P w K mg base CX0 5 (ga K "is_count_couple") (P_is_count_couple K) := by
  obtain ⟨fd, F⟩ := F_is_count_couple T
  have b : L2.Binds K fd ["value"] [] := F.bindsN fun _ _ _ _ _ _ us hl => match us, hl with | [_], _ => rfl
  exact fnG_pl F sc_is_count_couple b sp_len_is_count_couple (B_is_count_couple T)
theorem sc_is_edge : FnScope ["value", "side", "low", "high"] ["value", "side"] (defScope s_is_edge) := ⟨rfl, rfl, rfl, by decide +kernel, rfl, by decide +kernel, by decide +kernel⟩
def f_is_edge (x_value : (Int × Int)) (x_side : Int) : Option Bool :=
  (f_is_count_couple x_value).bind fun o_96 =>
  if (!o_96) = true then
    some false
  else
  let t_95 : (Int × Int) := x_value
  some (decide (t_95.1 ≤ x_side) && decide (t_95.2 ≤ x_side))
abbrev P_is_edge (K : Frag) : Sp := SpF K (fun as : (Int × Int) × Int × Unit => f_is_edge as.1 as.2.1)
theorem B_is_edge (T : Tx K mg) : BodyG CX0 P w K mg base ["value", "side", "low", "high"] "is_edge" (defScope s_is_edge) (defBody s_is_edge) 6 (ga K "is_edge") (P_is_edge K) := by
  intro cdv A outer s0 H vs Q E hr h
  have hu := hr.units
  have hu1 := hr.units1
  refine ⟨_, PSs.nox (pss_cons (ps_if (pt_not (pt_val (pe_c (call_g (G_is_count_couple T) (hr.mono (by decide)) pass0) (kp_is_count_couple T) rfl (g_is_count_couple T) (pa_cons (pv 0) pa_nil)))) (pss_one (ps_ret pe_bl)) pss_nil)
    (pss_cons (ps_asg (pv 0) (pg_tupK (K := K) (n := 2) rfl rfl (pgs_cons (pg_name (i := 2) sc_is_edge.nd rfl (by first | exact Or.inl rfl | exact Or.inr rfl)) (pgs_cons (pg_name (i := 3) sc_is_edge.nd rfl (by first | exact Or.inl rfl | exact Or.inr rfl)) pgs_nil))))
    (pss_one (ps_ret (pe_and (pe_cmpR op_le (pv 2) (pv 1) (nomark _)) (pe_one (pe_cmpR op_le (pv 3) (pv 1) (nomark _)))))))), ?_⟩
  refine body_F (f := fun as : (Int × Int) × Int × Unit => f_is_edge as.1 as.2.1) h 2 (fun _ => rfl) fun e as hm hR => ?_
  obtain ⟨x_value, x_side, _⟩ := as
  exact ((sv_ifR (fun (_ : Unit) =>
some false) (fun (_ : Unit) =>
let t_95 : (Int × Int) := x_value
some (decide (t_95.1 ≤ x_side) && decide (t_95.2 ≤ x_side))) (evT_not (evT_B (ev_callP (f := fun (as : (Int × Int) × Unit) => f_is_count_couple as.1) (puA_cons (pu_var 0 rfl) fun _ => puA_nil)))) (fun _ => (sv_ret hR (Pu.ev (pu_bl false)) (by exact rfl))) (fun _ => (sv_asg (fun (t_95 : (Int × Int)) (_ : Unit) =>
some (decide (t_95.1 ≤ x_side) && decide (t_95.2 ≤ x_side))) (Pu.ev (pu_var 0 rfl)) (tg_tup2 (tgs_cons (tg_name 2) (tgs_cons (tg_name 3) tgs_nil))) (fun t_95 _ => (sv_ret hR (Pu.ev (pu_and (pu_op (g := fun i j : Int => decide (i ≤ j)) (pu_var 2 rfl) (fun _ => (pu_var 1 rfl)) o_le) (pu_op (g := fun i j : Int => decide (i ≤ j)) (pu_var 3 rfl) (fun _ => (pu_var 1 rfl)) o_le))) (by exact rfl))) (by exact rfl))) (by exact rfl)) : Sv e e.S0 [] [some (av K x_value), some (av K x_side), none, none] [] _ () _ (fun _ H => e.rt .non H) nF nF)
theorem sp_len_is_edge : ∀ vs H Q E, (P_is_edge K) vs H Q E → vs.length = 2 := fun vs H Q E h => by obtain ⟨_, as, _, _, hA, _⟩ := h; exact hA.len
theorem G_is_edge (T : Tx K mg) : FnG P w K mg base CX0 7 (ga K "is_edge") (P_is_edge K) := by
  obtain ⟨fd, F⟩ := F_is_edge T
  have b : L2.Binds K fd ["value", "side"] [] := F.bindsN fun _ _ _ _ _ _ us hl => match us, hl with | [_, _], _ => rfl
  exact fnG_pl F sc_is_edge b sp_len_is_edge (B_is_edge T)
def f_is_list_i1 (x_value : (Tu Int)) : Option Bool :=
  some true
abbrev P_is_list_i1 (K : Frag) : Sp := SpF K (fun as : (Tu Int) × Unit => f_is_list_i1 as.1)
theorem B_is_list_i1 (T : Tx K mg) : BodyG CX0 P w K mg base ["value"] "is_list" (defScope s_is_list) (defBody s_is_list) 0 (ga K "is_list") (P_is_list_i1 K) := by
  intro cdv A outer s0 H vs Q E hr h
  have hu := hr.units
  have hu1 := hr.units1
  refine ⟨_, PSs.nox (pss_one (ps_ret (pe_callB (call_isiT) (by rfl) (z_isinstance T) PyProof.Rows.boot_isinstance (pa_cons (pv 0) (pa_cons (pe_tup (pa_cons (pe_bltn (v := .ty "list") rfl (z_list T) PyProof.Rows.boot_list rfl) (pa_cons (pe_bltn (v := .ty "tuple") rfl (z_tuple T) PyProof.Rows.boot_tuple rfl) pa_nil))) pa_nil))))), ?_⟩
  refine body_F (f := fun as : (Tu Int) × Unit => f_is_list_i1 as.1) h 0 (fun _ => rfl) fun e as hm hR => ?_
  obtain ⟨x_value, _⟩ := as
  exact ((sv_ret hR (Pu.ev (pu_isiT (U1 := "list") (U2 := "tuple") (b := true) (fun _ _ _ h => tyR_tu h) (by decide +kernel) (pu_var 0 rfl))) (by exact rfl)) : Sv e e.S0 [] [some (av K x_value)] [] _ () _ (fun _ H => e.rt .non H) nF nF)
theorem sp_len_is_list_i1 : ∀ vs H Q E, (P_is_list_i1 K) vs H Q E → vs.length = 1 := fun vs H Q E h => by obtain ⟨_, as, _, _, hA, _⟩ := h; exact hA.len
theorem G_is_list_i1 (T : Tx K mg) : FnG P w K mg base CX0 1 (ga K "is_list") (P_is_list_i1 K) := by
  obtain ⟨fd, F⟩ := F_is_list T
  have b : L2.Binds K fd ["value"] [] := F.bindsN fun _ _ _ _ _ _ us hl => match us, hl with | [_], _ => rfl
  exact fnG_pl F sc_is_list b sp_len_is_list_i1 (B_is_list_i1 T)
def f__check_factors_i1 (x_factors : (Tu Int)) : Option Unit :=
  (f_is_list_i1 x_factors).bind fun o_103 =>
  if (!o_103) = true then
    none
  else
  forK (en 0 x_factors.l) (()) ()
    (fun (y_100 : (Int × Int)) (c_99 : (Unit)) (_ : Unit) (next_97 : (Unit) → Unit → _) (done_98 : (Unit) → Unit → _) =>
      (f_is_integer y_100.2).bind fun o_101 =>
      if (!o_101) = true then
        if true = true then
          none
        else
        next_97 (()) ()
      else
      if (!(decide ((2 : Int) ≤ y_100.2) && decide (y_100.2 ≤ (4 : Int)))) = true then
        none
      else
      next_97 (()) ())
    (fun (c_102 : (Unit)) (_ : Unit) =>
      some ())
abbrev P__check_factors_i1 (K : Frag) : Sp := SpF K (fun as : (Tu Int) × Unit => f__check_factors_i1 as.1)
theorem B__check_factors_i1 (T : Tx K mg) : BodyG CX0 P w K mg base ["factors", "position", "factor"] "_check_factors" (defScope s__check_factors) (defBody s__check_factors) 2 (ga K "_check_factors") (P__check_factors_i1 K) := by
  intro cdv A outer s0 H vs Q E hr h
  have hu := hr.units
  have hu1 := hr.units1
  refine ⟨_, PSs.nox (pss_cons (ps_if (pt_not (pt_val (pe_c (call_g (G_is_list_i1 T) (hr.mono (by decide)) pass0) (kp_is_list T) rfl (g_is_list T) (pa_cons (pv 0) pa_nil)))) (pss_one ps_never) pss_nil)
    (pss_one (ps_for PassesOwn.never rfl (pi_enumT rfl (z_enumerate T) (pa_cons (pv 0) pa_nil)) (pg_tupK (K := K) (n := 2) rfl rfl (pgs_cons (pg_name (i := 1) sc__check_factors.nd rfl (by first | exact Or.inl rfl | exact Or.inr rfl)) (pgs_cons (pg_name (i := 2) sc__check_factors.nd rfl (by first | exact Or.inl rfl | exact Or.inr rfl)) pgs_nil)))
    (pss_one (ps_if (PW.pt (pw_or (pt_not (pt_val (pe_c (call_g (G_is_integer T) (hr.mono (by decide)) pass0) (kp_is_integer T) rfl (g_is_integer T) (pa_cons (pv 2) pa_nil)))) (pw_or1 (pt_not (pt_chain op_le op_le pe_int (pv 2) pe_int))))) (pss_one ps_never) pss_nil))))), ?_⟩
  refine body_F (f := fun as : (Tu Int) × Unit => f__check_factors_i1 as.1) h 2 (fun _ => rfl) fun e as hm hR => ?_
  obtain ⟨x_factors, _⟩ := as
  exact ((sv_ifR (fun (_ : Unit) =>
none) (fun (_ : Unit) =>
forK (en 0 x_factors.l) (()) ()
  (fun (y_100 : (Int × Int)) (c_99 : (Unit)) (_ : Unit) (next_97 : (Unit) → Unit → _) (done_98 : (Unit) → Unit → _) =>
    (f_is_integer y_100.2).bind fun o_101 =>
    if (!o_101) = true then
      if true = true then
        none
      else
      next_97 (()) ()
    else
    if (!(decide ((2 : Int) ≤ y_100.2) && decide (y_100.2 ≤ (4 : Int)))) = true then
      none
    else
    next_97 (()) ())
  (fun (c_102 : (Unit)) (_ : Unit) =>
    some ())) (evT_not (evT_B (ev_callP (f := fun (as : (Tu Int) × Unit) => f_is_list_i1 as.1) (puA_cons (pu_var 0 rfl) fun _ => puA_nil)))) (fun _ => sv_dead) (fun _ => (sv_last (sv_for (ς := (Unit)) (fun (y_100 : (Int × Int)) (c_99 : (Unit)) (_ : Unit) (next_97 : (Unit) → Unit → _) (done_98 : (Unit) → Unit → _) =>
    (f_is_integer y_100.2).bind fun o_101 =>
    if (!o_101) = true then
      if true = true then
        none
      else
      next_97 (()) ()
    else
    if (!(decide ((2 : Int) ≤ y_100.2) && decide (y_100.2 ≤ (4 : Int)))) = true then
      none
    else
    next_97 (()) ()) (fun (c_102 : (Unit)) (_ : Unit) =>
    some ()) (NJ := fun c_99 => []) (tJ := fun c_99 => [some (av K x_factors), none, none]) (()) rfl (Sub.keep (Sub.keep (Sub.keep Sub.nil))) (PuI.ev (puI_enumT (pu_var 0 rfl))) (tg_tup2 (tgs_cons (tg_name 1) (tgs_cons (tg_name 2) tgs_nil))) (fun _ y_100 c_99 _ next_97 done_98 => (sv_ifL (fun (_ : Unit) =>
none) (fun (_ : Unit) =>
next_97 (()) ()) (evT_or (evT_not (evT_B (ev_callP (f := fun (as : Int × Unit) => f_is_integer as.1) (puA_cons (pu_var 2 rfl) fun _ => puA_nil)))) fun _ => (PuT.ev (puT_not (puT_B (pu_chain (pu_int 2) (fun _ => (pu_var 2 rfl)) (fun _ _ => (pu_int 4)) o_le o_le))))) (fun _ => sv_dead) (fun _ => (sv_endJ (()) rfl (Sub.keep (Sub.drop (Sub.drop Sub.nil))))) (by exact rfl))) (fun c_102 _ => (sv_fall hR)) (by exact rfl)))) (by exact rfl)) : Sv e e.S0 [] [some (av K x_factors), none, none] [] _ () _ (fun _ H => e.rt .non H) nF nF)
theorem sp_len__check_factors_i1 : ∀ vs H Q E, (P__check_factors_i1 K) vs H Q E → vs.length = 1 := fun vs H Q E h => by obtain ⟨_, as, _, _, hA, _⟩ := h; exact hA.len
theorem G__check_factors_i1 (T : Tx K mg) : FnG P w K mg base CX0 3 (ga K "_check_factors") (P__check_factors_i1 K) := by
  obtain ⟨fd, F⟩ := F__check_factors T
  have b : L2.Binds K fd ["factors"] [] := F.bindsN fun _ _ _ _ _ _ us hl => match us, hl with | [_], _ => rfl
  exact fnG_pl F sc__check_factors b sp_len__check_factors_i1 (B__check_factors_i1 T)
def f__sides_i1 (x_side : Int) (x_factors : (Tu Int)) : Option (List Int) :=
  let sides_105 : List Int := [x_side]
  forK x_factors.l (sides_105, ()) ()
    (fun (y_109 : Int) (c_108 : ((List Int) × Unit)) (_ : Unit) (next_106 : ((List Int) × Unit) → Unit → _) (done_107 : ((List Int) × Unit) → Unit → _) =>
      (atI c_108.1 (-(1 : Int))).bind fun o_112 =>
      if CMulW o_112 y_109 then
        if (c_108.1).length < sizeLine then
          let a_110 : Int := (o_112 * y_109)
          let sides_111 : List Int := c_108.1 ++ [a_110]
          next_106 (sides_111, ()) ()
        else none
      else none)
    (fun (c_113 : ((List Int) × Unit)) (_ : Unit) =>
      some c_113.1)
abbrev P__sides_i1 (K : Frag) : Sp := SpF K (fun as : Int × (Tu Int) × Unit => f__sides_i1 as.1 as.2.1)
theorem B__sides_i1 (T : Tx K mg) : BodyG CX0 P w K mg base ["side", "factors", "sides", "factor"] "_sides" (defScope s__sides) (defBody s__sides) 0 (ga K "_sides") (P__sides_i1 K) := by
  intro cdv A outer s0 H vs Q E hr h
  have hu := hr.units
  have hu1 := hr.units1
  refine ⟨_, PSs.nox (pss_cons (ps_set (i := 2) sc__sides.nd rfl (by first | exact Or.inl rfl | exact Or.inr rfl) (pe_lst (pa_cons (pv 0) pa_nil)))
    (pss_cons (ps_for PassesOwn.never rfl (pi_tup (pv 1)) (pg_name (i := 3) sc__sides.nd rfl (by first | exact Or.inl rfl | exact Or.inr rfl))
    (pss_one (ps_expr (pe_bm PySem.F.plainAttrs_list PySem.F.slot_list_append PySem.F.type_list_append mt_append (pv 2) (pa_cons (pe_op (op_mulW) (pe_ix (ix_list) (pv 2) (pe_un un_neg pe_int) (fun _ _ => rfl)) (pv 3)) pa_nil)))))
    (pss_one (ps_ret (pv 2))))), ?_⟩
  refine body_F (f := fun as : Int × (Tu Int) × Unit => f__sides_i1 as.1 as.2.1) h 2 (fun _ => rfl) fun e as hm hR => ?_
  obtain ⟨x_side, x_factors, _⟩ := as
  exact ((sv_newLs (i := 2) (fun (sides_105 : List Int) (_ : Unit) =>
forK x_factors.l (sides_105, ()) ()
  (fun (y_109 : Int) (c_108 : ((List Int) × Unit)) (_ : Unit) (next_106 : ((List Int) × Unit) → Unit → _) (done_107 : ((List Int) × Unit) → Unit → _) =>
    (atI c_108.1 (-(1 : Int))).bind fun o_112 =>
    if CMulW o_112 y_109 then
      if (c_108.1).length < sizeLine then
        let a_110 : Int := (o_112 * y_109)
        let sides_111 : List Int := c_108.1 ++ [a_110]
        next_106 (sides_111, ()) ()
      else none
    else none)
  (fun (c_113 : ((List Int) × Unit)) (_ : Unit) =>
    some c_113.1)) (evL_cons (Pu.ev (pu_var 0 rfl)) fun _ _ _ => evL_nil) (by decide) (fun r_104 sides_105 _ nf_r_104 => (sv_for (ς := ((List Int) × Unit)) (fun (y_109 : Int) (c_108 : ((List Int) × Unit)) (_ : Unit) (next_106 : ((List Int) × Unit) → Unit → _) (done_107 : ((List Int) × Unit) → Unit → _) =>
    (atI c_108.1 (-(1 : Int))).bind fun o_112 =>
    if CMulW o_112 y_109 then
      if (c_108.1).length < sizeLine then
        let a_110 : Int := (o_112 * y_109)
        let sides_111 : List Int := c_108.1 ++ [a_110]
        next_106 (sides_111, ()) ()
      else none
    else none) (fun (c_113 : ((List Int) × Unit)) (_ : Unit) =>
    some c_113.1) (NJ := fun c_108 => [accD K r_104 (c_108.1)]) (tJ := fun c_108 => [some (av K x_side), some (av K x_factors), some (refA r_104), none]) (sides_105, ()) rfl (Sub.keep (Sub.keep (Sub.keep (Sub.keep Sub.nil)))) (PuI.ev (puI_tup (pu_var 1 rfl))) (tg_name 3) (fun _ y_109 c_108 _ next_106 done_107 => (sv_last (sv_app (fun (a_110 : Int) (_ : Unit) =>
let sides_111 : List Int := c_108.1 ++ [a_110]
next_106 (sides_111, ()) ()) (i := 2) (j := 0) rfl rfl (ev_opC (ev_ixM (i := 2) (j := 0) rfl rfl (Pu.ev (pu_un (pu_int 1) o_neg))) (fun _ _ _ => (Pu.ev (pu_var 3 rfl))) o_mul) (fun a_110 _ => let sides_111 : List Int := c_108.1 ++ [a_110]; (sv_endJ (sides_111, ()) rfl (Sub.keep (Sub.keep (Sub.keep (Sub.drop Sub.nil)))))) (by exact rfl)))) (fun c_113 _ => (sv_freeze (i := 2) rfl nf_r_104 (sv_ret hR (Pu.ev (pu_var 2 rfl)) (by exact rfl)))) (by exact rfl))) (by exact rfl)) : Sv e e.S0 [] [some (av K x_side), some (av K x_factors), none, none] [] _ () _ (fun _ H => e.rt .non H) nF nF)
theorem sp_len__sides_i1 : ∀ vs H Q E, (P__sides_i1 K) vs H Q E → vs.length = 2 := fun vs H Q E h => by obtain ⟨_, as, _, _, hA, _⟩ := h; exact hA.len
theorem G__sides_i1 (T : Tx K mg) : FnG P w K mg base CX0 1 (ga K "_sides") (P__sides_i1 K) := by
  obtain ⟨fd, F⟩ := F__sides T
  have b : L2.Binds K fd ["side", "factors"] [] := F.bindsN fun _ _ _ _ _ _ us hl => match us, hl with | [_, _], _ => rfl
  exact fnG_pl F sc__sides b sp_len__sides_i1 (B__sides_i1 T)
def f_is_list_i2 (x_value : (List (Int × Int))) : Option Bool :=
  some true
abbrev P_is_list_i2 (K : Frag) : Sp := SpF K (fun as : (List (Int × Int)) × Unit => f_is_list_i2 as.1)
theorem B_is_list_i2 (T : Tx K mg) : BodyG CX0 P w K mg base ["value"] "is_list" (defScope s_is_list) (defBody s_is_list) 0 (ga K "is_list") (P_is_list_i2 K) := by
  intro cdv A outer s0 H vs Q E hr h
  have hu := hr.units
  have hu1 := hr.units1
  refine ⟨_, PSs.nox (pss_one (ps_ret (pe_callB (call_isiT) (by rfl) (z_isinstance T) PyProof.Rows.boot_isinstance (pa_cons (pv 0) (pa_cons (pe_tup (pa_cons (pe_bltn (v := .ty "list") rfl (z_list T) PyProof.Rows.boot_list rfl) (pa_cons (pe_bltn (v := .ty "tuple") rfl (z_tuple T) PyProof.Rows.boot_tuple rfl) pa_nil))) pa_nil))))), ?_⟩
  refine body_F (f := fun as : (List (Int × Int)) × Unit => f_is_list_i2 as.1) h 0 (fun _ => rfl) fun e as hm hR => ?_
  obtain ⟨x_value, _⟩ := as
  exact ((sv_ret hR (Pu.ev (pu_isiT (U1 := "list") (U2 := "tuple") (b := true) (fun _ _ _ h => tyR_list h) (by decide +kernel) (pu_var 0 rfl))) (by exact rfl)) : Sv e e.S0 [] [some (av K x_value)] [] _ () _ (fun _ H => e.rt .non H) nF nF)
theorem sp_len_is_list_i2 : ∀ vs H Q E, (P_is_list_i2 K) vs H Q E → vs.length = 1 := fun vs H Q E h => by obtain ⟨_, as, _, _, hA, _⟩ := h; exact hA.len
theorem G_is_list_i2 (T : Tx K mg) : FnG P w K mg base CX0 1 (ga K "is_list") (P_is_list_i2 K) := by
  obtain ⟨fd, F⟩ := F_is_list T
  have b : L2.Binds K fd ["value"] [] := F.bindsN fun _ _ _ _ _ _ us hl => match us, hl with | [_], _ => rfl
  exact fnG_pl F sc_is_list b sp_len_is_list_i2 (B_is_list_i2 T)
theorem sc__check_edges : FnScope ["edges", "sides", "position", "edge"] ["edges", "sides"] (defScope s__check_edges) := ⟨rfl, rfl, rfl, by decide +kernel, rfl, by decide +kernel, by decide +kernel⟩
def f__check_edges (x_edges : (List (Int × Int))) (x_sides : (Tu Int)) : Option Unit :=
  (f_is_list_i2 x_edges).bind fun o_121 =>
  if (!o_121) = true then
    if true = true then
      none
    else
    forK (en 0 x_edges) (()) ()
      (fun (y_117 : (Int × (Int × Int))) (c_116 : (Unit)) (_ : Unit) (next_114 : (Unit) → Unit → _) (done_115 : (Unit) → Unit → _) =>
        (atI x_sides.l y_117.1).bind fun o_118 =>
        (f_is_edge y_117.2 o_118).bind fun o_119 =>
        if (!o_119) = true then
          none
        else
        next_114 (()) ())
      (fun (c_120 : (Unit)) (_ : Unit) =>
        some ())
  else
  if (!decide ((x_edges.length : Int) = (x_sides.l.length : Int))) = true then
    none
  else
  forK (en 0 x_edges) (()) ()
    (fun (y_117 : (Int × (Int × Int))) (c_116 : (Unit)) (_ : Unit) (next_114 : (Unit) → Unit → _) (done_115 : (Unit) → Unit → _) =>
      (atI x_sides.l y_117.1).bind fun o_118 =>
      (f_is_edge y_117.2 o_118).bind fun o_119 =>
      if (!o_119) = true then
        none
      else
      next_114 (()) ())
    (fun (c_120 : (Unit)) (_ : Unit) =>
      some ())
abbrev P__check_edges (K : Frag) : Sp := SpF K (fun as : (List (Int × Int)) × (Tu Int) × Unit => f__check_edges as.1 as.2.1)
theorem B__check_edges (T : Tx K mg) : BodyG CX0 P w K mg base ["edges", "sides", "position", "edge"] "_check_edges" (defScope s__check_edges) (defBody s__check_edges) 8 (ga K "_check_edges") (P__check_edges K) := by
  intro cdv A outer s0 H vs Q E hr h
  have hu := hr.units
  have hu1 := hr.units1
  refine ⟨_, PSs.nox (pss_cons (ps_if (PW.pt (pw_or (pt_not (pt_val (pe_c (call_g (G_is_list_i2 T) (hr.mono (by decide)) pass0) (kp_is_list T) rfl (g_is_list T) (pa_cons (pv 0) pa_nil)))) (pw_or1 (pt_cmpR op_ne (pe_callB (call_len_seq) (by rfl) (z_len T) PySem.boot_len (pa_cons (pv 0) pa_nil)) (pe_callB (call_len_seq) (by rfl) (z_len T) PySem.boot_len (pa_cons (pv 1) pa_nil)) (nomark _))))) (pss_one ps_never) pss_nil)
    (pss_one (ps_for PassesOwn.never rfl (pi_enum rfl (z_enumerate T) (pa_cons (pv 0) pa_nil)) (pg_tupK (K := K) (n := 2) rfl rfl (pgs_cons (pg_name (i := 2) sc__check_edges.nd rfl (by first | exact Or.inl rfl | exact Or.inr rfl)) (pgs_cons (pg_name (i := 3) sc__check_edges.nd rfl (by first | exact Or.inl rfl | exact Or.inr rfl)) pgs_nil)))
    (pss_one (ps_if (pt_not (pt_val (pe_c (call_g (G_is_edge T) (hr.mono (by decide)) pass0) (kp_is_edge T) rfl (g_is_edge T) (pa_cons (pv 3) (pa_cons (pe_ix (ix_tup) (pv 1) (pv 2) (fun _ _ => rfl)) pa_nil))))) (pss_one ps_never) pss_nil))))), ?_⟩
  refine body_F (f := fun as : (List (Int × Int)) × (Tu Int) × Unit => f__check_edges as.1 as.2.1) h 2 (fun _ => rfl) fun e as hm hR => ?_
  obtain ⟨x_edges, x_sides, _⟩ := as
  exact ((sv_ifR (fun (_ : Unit) =>
none) (fun (_ : Unit) =>
forK (en 0 x_edges) (()) ()
  (fun (y_117 : (Int × (Int × Int))) (c_116 : (Unit)) (_ : Unit) (next_114 : (Unit) → Unit → _) (done_115 : (Unit) → Unit → _) =>
    (atI x_sides.l y_117.1).bind fun o_118 =>
    (f_is_edge y_117.2 o_118).bind fun o_119 =>
    if (!o_119) = true then
      none
    else
    next_114 (()) ())
  (fun (c_120 : (Unit)) (_ : Unit) =>
    some ())) (evT_or (evT_not (evT_B (ev_callP (f := fun (as : (List (Int × Int)) × Unit) => f_is_list_i2 as.1) (puA_cons (pu_var 0 rfl) fun _ => puA_nil)))) fun _ => (PuT.ev (puT_test (pu_op (pu_cb1 (pu_var 0 rfl) o_lenL) (fun _ => (pu_cb1 (pu_var 1 rfl) o_lenT)) o_neI)))) (fun _ => sv_dead) (fun _ => (sv_last (sv_for (ς := (Unit)) (fun (y_117 : (Int × (Int × Int))) (c_116 : (Unit)) (_ : Unit) (next_114 : (Unit) → Unit → _) (done_115 : (Unit) → Unit → _) =>
    (atI x_sides.l y_117.1).bind fun o_118 =>
    (f_is_edge y_117.2 o_118).bind fun o_119 =>
    if (!o_119) = true then
      none
    else
    next_114 (()) ()) (fun (c_120 : (Unit)) (_ : Unit) =>
    some ()) (NJ := fun c_116 => []) (tJ := fun c_116 => [some (av K x_edges), some (av K x_sides), none, none]) (()) rfl (Sub.keep (Sub.keep (Sub.keep (Sub.keep Sub.nil)))) (PuI.ev (puI_enumL (pu_var 0 rfl))) (tg_tup2 (tgs_cons (tg_name 2) (tgs_cons (tg_name 3) tgs_nil))) (fun _ y_117 c_116 _ next_114 done_115 => (sv_ifL (fun (_ : Unit) =>
none) (fun (_ : Unit) =>
next_114 (()) ()) (evT_not (evT_B (ev_call (f := fun (as : (Int × Int) × Int × Unit) => f_is_edge as.1 as.2.1) (evA_consY (fun _ _ _ => (evA_consY (fun _ _ _ => (PuA.ev puA_nil)) (ev_opO (Pu.ev (pu_var 1 rfl)) (fun _ _ _ => (Pu.ev (pu_var 2 rfl))) o_ixT))) (Pu.ev (pu_var 3 rfl)))))) (fun _ => sv_dead) (fun _ => (sv_endJ (()) rfl (Sub.keep (Sub.keep (Sub.drop (Sub.drop Sub.nil)))))) (by exact rfl))) (fun c_120 _ => (sv_fall hR)) (by exact rfl)))) (by exact rfl)) : Sv e e.S0 [] [some (av K x_edges), some (av K x_sides), none, none] [] _ () _ (fun _ H => e.rt .non H) nF nF)
theorem sp_len__check_edges : ∀ vs H Q E, (P__check_edges K) vs H Q E → vs.length = 2 := fun vs H Q E h => by obtain ⟨_, as, _, _, hA, _⟩ := h; exact hA.len
theorem G__check_edges (T : Tx K mg) : FnG P w K mg base CX0 9 (ga K "_check_edges") (P__check_edges K) := by
  obtain ⟨fd, F⟩ := F__check_edges T
  have b : L2.Binds K fd ["edges", "sides"] [] := F.bindsN fun _ _ _ _ _ _ us hl => match us, hl with | [_, _], _ => rfl
  exact fnG_pl F sc__check_edges b sp_len__check_edges (B__check_edges T)
def f_Ladder_init_i1 (x_side : Int) (x_factors : (Tu Int)) (x_edges : (List (Int × Int))) : Option O_Ladder :=
  (f_is_integer x_side).bind fun o_130 =>
  if (!o_130) = true then
    if true = true then
      none
    else
    (f__check_factors_i1 x_factors).bind fun o_129 =>
    if (decide (((x_factors.l.length : Int) + (1 : Int)) > (4 : Int))) = true then
      none
    else
    let _factors_123 : (Tu Int) := x_factors
    (f__sides_i1 x_side x_factors).bind fun o_128 =>
    let _all_sides_124 : (Tu Int) := (Tu.mk o_128)
    if false = true then
      none
    else
    (f__check_edges x_edges _all_sides_124).bind fun o_127 =>
    let _edges_126 : (Tu (Int × Int)) := (Tu.mk x_edges)
    some (O_Ladder.mk _factors_123 _all_sides_124 _edges_126)
  else
  if (decide (x_side < (1 : Int))) = true then
    none
  else
  (f__check_factors_i1 x_factors).bind fun o_129 =>
  if (decide (((x_factors.l.length : Int) + (1 : Int)) > (4 : Int))) = true then
    none
  else
  let _factors_123 : (Tu Int) := x_factors
  (f__sides_i1 x_side x_factors).bind fun o_128 =>
  let _all_sides_124 : (Tu Int) := (Tu.mk o_128)
  if false = true then
    none
  else
  (f__check_edges x_edges _all_sides_124).bind fun o_127 =>
  let _edges_126 : (Tu (Int × Int)) := (Tu.mk x_edges)
  some (O_Ladder.mk _factors_123 _all_sides_124 _edges_126)
abbrev P_Ladder_init_i1 (K : Frag) : Sp := SpI K (ga K "Ladder") (fun as : Int × (Tu Int) × (List (Int × Int)) × Unit => f_Ladder_init_i1 as.1 as.2.1 as.2.2.1)
theorem B_Ladder_init_i1 (T : Tx K mg) : BodyG CX0 P w K mg base ["self", "side", "factors", "edges", "_"] "Ladder.__init__" (defScope s_Ladder_init) (defBody s_Ladder_init) 10 (ma K (ga K "Ladder") "__init__") (P_Ladder_init_i1 K) := by
  intro cdv A outer s0 H vs Q E hr h
  have hu := hr.units
  have hu1 := hr.units1
  refine ⟨_, PSs.nox (pss_cons (ps_if (PW.pt (pw_or (pt_not (pt_val (pe_c (call_g (G_is_integer T) (hr.mono (by decide)) pass0) (kp_is_integer T) rfl (g_is_integer T) (pa_cons (pv 1) pa_nil)))) (pw_or1 (pt_cmpR (op_lt) (pv 1) pe_int (nomark _))))) (pss_one ps_never) pss_nil)
    (pss_cons (ps_expr (pe_c (call_g (G__check_factors_i1 T) (hr.mono (by decide)) pass0) (kp__check_factors T) rfl (g__check_factors T) (pa_cons (pv 2) pa_nil)))
    (pss_cons (ps_if (pt_cmpR (op_gt) (pe_op (op_add) (pe_callB (call_len_seq) (by rfl) (z_len T) PySem.boot_len (pa_cons (pv 2) pa_nil)) pe_int) (ClX.pe_cval (pe_glob (v := .ref (ga K "Ladder")) rfl (g_Ladder T) rfl)) (nomark _)) (pss_one ps_never) pss_nil)
    (pss_cons (ps_fld (pv 0) (pe_tupleOf rfl (z_tuple T) (pv 2)) rfl)
    (pss_cons (ps_fld (pv 0) (pe_tupleOf rfl (z_tuple T) (pe_c (call_g (G__sides_i1 T) (hr.mono (by decide)) pass0) (kp__sides T) rfl (g__sides T) (pa_cons (pv 1) (pa_cons (pv 2) pa_nil)))) rfl)
    (pss_one (ps_if (pt_cmp (pc_isN (pv 3))) (pss_one ps_never) (pss_cons (ps_expr (pe_c (call_g (G__check_edges T) (hr.mono (by decide)) pass0) (kp__check_edges T) rfl (g__check_edges T) (pa_cons (pv 3) (pa_cons (pe_fld (pv 0) rfl) pa_nil))))
    (pss_one (ps_fld (pv 0) (pe_tupleOf rfl (z_tuple T) (pv 3)) rfl)))))))))), ?_⟩
  refine body_I (f := fun as : Int × (Tu Int) × (List (Int × Int)) × Unit => f_Ladder_init_i1 as.1 as.2.1 as.2.2.1) h 1 (fun _ => rfl) fun e as x dx hm => ?_
  obtain ⟨x_side, x_factors, x_edges, _⟩ := as
  exact ((sv_ifR (fun (_ : Unit) =>
none) (fun (_ : Unit) =>
(f__check_factors_i1 x_factors).bind fun o_129 =>
if (decide (((x_factors.l.length : Int) + (1 : Int)) > (4 : Int))) = true then
  none
else
let _factors_123 : (Tu Int) := x_factors
(f__sides_i1 x_side x_factors).bind fun o_128 =>
let _all_sides_124 : (Tu Int) := (Tu.mk o_128)
if false = true then
  none
else
(f__check_edges x_edges _all_sides_124).bind fun o_127 =>
let _edges_126 : (Tu (Int × Int)) := (Tu.mk x_edges)
some (O_Ladder.mk _factors_123 _all_sides_124 _edges_126)) (evT_or (evT_not (evT_B (ev_callP (f := fun (as : Int × Unit) => f_is_integer as.1) (puA_cons (pu_var 1 rfl) fun _ => puA_nil)))) fun _ => (PuT.ev (puT_test (pu_op (g := fun i j : Int => decide (i < j)) (pu_var 1 rfl) (fun _ => (pu_int 1)) o_lt)))) (fun _ => sv_dead) (fun _ => (sv_expr (fun (_ : Unit) (_ : Unit) =>
if (decide (((x_factors.l.length : Int) + (1 : Int)) > (4 : Int))) = true then
  none
else
let _factors_123 : (Tu Int) := x_factors
(f__sides_i1 x_side x_factors).bind fun o_128 =>
let _all_sides_124 : (Tu Int) := (Tu.mk o_128)
if false = true then
  none
else
(f__check_edges x_edges _all_sides_124).bind fun o_127 =>
let _edges_126 : (Tu (Int × Int)) := (Tu.mk x_edges)
some (O_Ladder.mk _factors_123 _all_sides_124 _edges_126)) (ev_callP (f := fun (as : (Tu Int) × Unit) => f__check_factors_i1 as.1) (puA_cons (pu_var 2 rfl) fun _ => puA_nil)) (fun _ _ => (sv_ifR (fun (_ : Unit) =>
none) (fun (_ : Unit) =>
let _factors_123 : (Tu Int) := x_factors
(f__sides_i1 x_side x_factors).bind fun o_128 =>
let _all_sides_124 : (Tu Int) := (Tu.mk o_128)
if false = true then
  none
else
(f__check_edges x_edges _all_sides_124).bind fun o_127 =>
let _edges_126 : (Tu (Int × Int)) := (Tu.mk x_edges)
some (O_Ladder.mk _factors_123 _all_sides_124 _edges_126)) (PuT.ev (puT_test (pu_op (g := fun i j : Int => decide (i > j)) (pu_op (pu_cb1 (pu_var 2 rfl) o_lenT) (fun _ => (pu_int 1)) o_add) (fun _ => (pu_cval (rd_Ladder T) (v_Ladder_MOST_LEVELS T))) o_gt))) (fun _ => sv_dead) (fun _ => (sv_fld (fun (_factors_123 : (Tu Int)) (_ : Unit) =>
(f__sides_i1 x_side x_factors).bind fun o_128 =>
let _all_sides_124 : (Tu Int) := (Tu.mk o_128)
if false = true then
  none
else
(f__check_edges x_edges _all_sides_124).bind fun o_127 =>
let _edges_126 : (Tu (Int × Int)) := (Tu.mk x_edges)
some (O_Ladder.mk _factors_123 _all_sides_124 _edges_126)) (i := 0) (j := 0) (c_Ladder T) (n_Ladder__factors T) rfl rfl (by decide +kernel) (by decide) (Pu.ev (pu_then (pu_var 2 rfl) o_tupT)) (fun _factors_123 _ => (sv_fld (fun (_all_sides_124 : (Tu Int)) (_ : Unit) =>
if false = true then
  none
else
(f__check_edges x_edges _all_sides_124).bind fun o_127 =>
let _edges_126 : (Tu (Int × Int)) := (Tu.mk x_edges)
some (O_Ladder.mk _factors_123 _all_sides_124 _edges_126)) (i := 0) (j := 0) (c_Ladder T) (n_Ladder__all_sides T) rfl rfl (by decide +kernel) (by decide) (ev_then (ev_callP (f := fun (as : Int × (Tu Int) × Unit) => f__sides_i1 as.1 as.2.1) (puA_cons (pu_var 1 rfl) fun _ => (puA_cons (pu_var 2 rfl) fun _ => puA_nil))) o_tupL) (fun _all_sides_124 _ => (sv_ifL (fun (_ : Unit) =>
none) (fun (_ : Unit) =>
(f__check_edges x_edges _all_sides_124).bind fun o_127 =>
let _edges_126 : (Tu (Int × Int)) := (Tu.mk x_edges)
some (O_Ladder.mk _factors_123 _all_sides_124 _edges_126)) (PuT.ev (puT_test (pu_isN (pu_var 3 rfl)))) (fun _ => sv_dead) (fun _ => (sv_expr (fun (_ : Unit) (_ : Unit) =>
let _edges_126 : (Tu (Int × Int)) := (Tu.mk x_edges)
some (O_Ladder.mk _factors_123 _all_sides_124 _edges_126)) (ev_callP (f := fun (as : (List (Int × Int)) × (Tu Int) × Unit) => f__check_edges as.1 as.2.1) (puA_cons (pu_var 3 rfl) fun _ => (puA_cons (pu_fldM (i := 0) (j := 0) (l := 1) (c_Ladder T) (n_Ladder__all_sides T) rfl rfl rfl rfl) fun _ => puA_nil))) (fun _ _ => (sv_last (sv_fld (fun (_edges_126 : (Tu (Int × Int))) (_ : Unit) =>
some (O_Ladder.mk _factors_123 _all_sides_124 _edges_126)) (i := 0) (j := 0) (c_Ladder T) (n_Ladder__edges T) rfl rfl (by decide +kernel) (by decide) (Pu.ev (pu_then (pu_var 3 rfl) o_tupL)) (fun _edges_126 _ => (sv_endI (j := 0) (a := (O_Ladder.mk _factors_123 _all_sides_124 _edges_126)) rfl fun _ _ _ h => h)) (by exact rfl)))) (by exact rfl))) (by exact rfl))) (by exact rfl))) (by exact rfl))) (by exact rfl))) (by exact rfl))) (by exact rfl)) : Sv e e.S0 [insD x dx (ga K "Ladder") [] []] [some (refA x), some (av K x_side), some (av K x_factors), some (av K x_edges), none] [] _ () _ (InitOk K e x) nF nF)
theorem sp_len_Ladder_init_i1 : ∀ vs H Q E, (P_Ladder_init_i1 K) vs H Q E → vs.length = 4 := fun vs H Q E h => by obtain ⟨_, _, _, us, as, _, _, e, _, _, hA, _⟩ := h; subst e; exact congrArg (· + 1) hA.len
theorem G_Ladder_init_i1_dfl (T : Tx K mg) (j : Nat) (hj : j ≤ 2) : FnG P w K mg base CX0 11 (ma K (ga K "Ladder") "__init__") (fun vs H Q E => (P_Ladder_init_i1 K) (vs ++ ([(He.Dv.v K (.adr (He.dflAt ("Ladder", some "__init__") 0))), (He.Dv.v K (.non))] : List V).drop j) H Q E) := by
  obtain ⟨fd, F⟩ := F_Ladder_init T
  have hb : ∃ ds, Vals (([(He.Dv.v K (.adr (He.dflAt ("Ladder", some "__init__") 0))), (He.Dv.v K (.non))] : List V).drop j) ds ∧ L2.Binds K fd ["self", "side", "factors", "edges"] ds := by
    match j, hj with
    | 0, _ => exact (F.binds1 (ps := ["self", "side", "factors", "edges"]) 2 0 (List.cons_ne_nil _ _) rfl fun _ _ _ _ _ _ _ us its hl hi => match us, its, hl, hi with | [_, _], [_, _], _, _ => ⟨_, rfl, rfl⟩)
    | 1, _ => exact (F.binds1 (ps := ["self", "side", "factors", "edges"]) 3 1 (List.cons_ne_nil _ _) rfl fun _ _ _ _ _ _ _ us its hl hi => match us, its, hl, hi with | [_, _, _], [_, _], _, _ => ⟨_, rfl, rfl⟩)
    | 2, _ => exact (F.binds1 (ps := ["self", "side", "factors", "edges"]) 4 2 (List.cons_ne_nil _ _) rfl fun _ _ _ _ _ _ _ us its hl hi => match us, its, hl, hi with | [_, _, _, _], [_, _], _, _ => ⟨_, rfl, rfl⟩)
    | (n + 3), h => exact absurd h (by omega)
  obtain ⟨ds, hd, b⟩ := hb
  exact fnG_of F sc_Ladder_init b hd sp_len_Ladder_init_i1 (B_Ladder_init_i1 T)
theorem G_Ladder_init_i1_2 (T : Tx K mg) : FnG P w K mg base CX0 11 (ma K (ga K "Ladder") "__init__") (fun vs H Q E => (P_Ladder_init_i1 K) (vs ++ ([He.Dv.v K (.adr (He.dflAt ("Ladder", some "__init__") 0)), He.Dv.v K (.non)] : List V)) H Q E) := G_Ladder_init_i1_dfl T 0 (by decide)
theorem G_Ladder_init_i1_3 (T : Tx K mg) : FnG P w K mg base CX0 11 (ma K (ga K "Ladder") "__init__") (fun vs H Q E => (P_Ladder_init_i1 K) (vs ++ ([He.Dv.v K (.non)] : List V)) H Q E) := G_Ladder_init_i1_dfl T 1 (by decide)
theorem G_Ladder_init_i1 (T : Tx K mg) : FnG P w K mg base CX0 11 (ma K (ga K "Ladder") "__init__") (P_Ladder_init_i1 K) := (G_Ladder_init_i1_dfl T 2 (by decide)).imp fun vs H Q E h => by rw [show List.drop 2 ([(He.Dv.v K (.adr (He.dflAt ("Ladder", some "__init__") 0))), (He.Dv.v K (.non))] : List V) = [] from rfl, List.append_nil]; exact h
theorem sc_Ladder_with_edge : FnScope ["self", "level", "edge", "edges"] ["self", "level", "edge"] (defScope s_Ladder_with_edge) := ⟨rfl, rfl, rfl, by decide +kernel, rfl, by decide +kernel, by decide +kernel⟩
def f_Ladder_with_edge (x_self : O_Ladder) (x_level : Int) (x_edge : (Int × Int)) : Option O_Ladder :=
  (f_Ladder_side x_self x_level).bind fun o_138 =>
  (f_is_edge x_edge o_138).bind fun o_139 =>
  if (!o_139) = true then
    none
  else
  let edges_132 : List (Int × Int) := x_self.edges.l
  let a_133 : (Int × Int) := x_edge
  (ixN (edges_132).length x_level).bind fun m_134 =>
  let edges_135 : List (Int × Int) := (edges_132).set m_134 a_133
  (atI x_self.all_sides.l (0 : Int)).bind fun o_136 =>
  (f_Ladder_init_i1 o_136 x_self.factors edges_135).bind fun o_137 =>
  some o_137
abbrev P_Ladder_with_edge (K : Frag) : Sp := SpF K (fun as : O_Ladder × Int × (Int × Int) × Unit => f_Ladder_with_edge as.1 as.2.1 as.2.2.1)
theorem B_Ladder_with_edge (T : Tx K mg) : BodyG CX0 P w K mg base ["self", "level", "edge", "edges"] "Ladder.with_edge" (defScope s_Ladder_with_edge) (defBody s_Ladder_with_edge) 12 (ma K (ga K "Ladder") "with_edge") (P_Ladder_with_edge K) := by
  intro cdv A outer s0 H vs Q E hr h
  have hu := hr.units
  have hu1 := hr.units1
  refine ⟨_, PSs.nox (pss_cons (ps_if (pt_not (pt_val (pe_c (call_g (G_is_edge T) (hr.mono (by decide)) pass0) (kp_is_edge T) rfl (g_is_edge T) (pa_cons (pv 2) (pa_cons (pe_m (call_g (G_Ladder_side T) (hr.mono (by decide)) pass0) (pv 0) (c_Ladder T) (m_Ladder_side T) (pa_cons (pv 1) pa_nil)) pa_nil))))) (pss_one ps_never) pss_nil)
    (pss_cons (ps_set (i := 3) sc_Ladder_with_edge.nd rfl (by first | exact Or.inl rfl | exact Or.inr rfl) (pe_callTy (call_list_of) (by rfl) (z_list T) PyProof.Rows.boot_list (pa_cons (pe_fld (pv 0) rfl) pa_nil)))
    (pss_cons (ps_asg (pv 2) (pg_sub (pv 3) (pv 1) set_list))
    (pss_one (ps_ret (pe_c (call_mk (k_Ladder T) (G_Ladder_init_i1 T) (hr.mono (by decide)) pass0) (k_Ladder T).kp rfl (g_Ladder T) (pa_cons (pe_ix (ix_tup) (pe_fld (pv 0) rfl) pe_int (fun _ _ => rfl)) (pa_cons (pe_fld (pv 0) rfl) (pa_cons (pv 3) pa_nil))))))))), ?_⟩
  refine body_F (f := fun as : O_Ladder × Int × (Int × Int) × Unit => f_Ladder_with_edge as.1 as.2.1 as.2.2.1) h 1 (fun _ => rfl) fun e as hm hR => ?_
  obtain ⟨x_self, x_level, x_edge, _⟩ := as
  exact ((sv_ifR (fun (_ : Unit) =>
none) (fun (_ : Unit) =>
let edges_132 : List (Int × Int) := x_self.edges.l
let a_133 : (Int × Int) := x_edge
(ixN (edges_132).length x_level).bind fun m_134 =>
let edges_135 : List (Int × Int) := (edges_132).set m_134 a_133
(atI x_self.all_sides.l (0 : Int)).bind fun o_136 =>
(f_Ladder_init_i1 o_136 x_self.factors edges_135).bind fun o_137 =>
some o_137) (evT_not (evT_B (ev_call (f := fun (as : (Int × Int) × Int × Unit) => f_is_edge as.1 as.2.1) (evA_consY (fun _ _ _ => (evA_consY (fun _ _ _ => (PuA.ev puA_nil)) (ev_methP (m := "side") (f := fun (as : O_Ladder × Int × Unit) => f_Ladder_side as.1 as.2.1) rfl (pu_var 0 rfl) fun _ => (puA_cons (pu_var 1 rfl) fun _ => puA_nil)))) (Pu.ev (pu_var 2 rfl)))))) (fun _ => sv_dead) (fun _ => (sv_newE (i := 3) (fun (edges_132 : List (Int × Int)) (_ : Unit) =>
let a_133 : (Int × Int) := x_edge
(ixN (edges_132).length x_level).bind fun m_134 =>
let edges_135 : List (Int × Int) := (edges_132).set m_134 a_133
(atI x_self.all_sides.l (0 : Int)).bind fun o_136 =>
(f_Ladder_init_i1 o_136 x_self.factors edges_135).bind fun o_137 =>
some o_137) (evN_listT (Pu.ev (pu_fld 2 (c_Ladder T) (n_Ladder__edges T) (pu_var 0 rfl) rfl rfl))) (fun r_131 edges_132 _ nf_r_131 => (sv_setK (i := 3) (j := 0) (fun (a_133 : (Int × Int)) (m_134 : Nat) (_ : Unit) =>
let edges_135 : List (Int × Int) := (edges_132).set m_134 a_133
(atI x_self.all_sides.l (0 : Int)).bind fun o_136 =>
(f_Ladder_init_i1 o_136 x_self.factors edges_135).bind fun o_137 =>
some o_137) rfl rfl (Pu.ev (pu_var 2 rfl)) (fun _ _ _ => (Pu.ev (pu_var 1 rfl))) (fun a_133 m_134 _ => let edges_135 : List (Int × Int) := (edges_132).set m_134 a_133; (sv_freeze (i := 3) rfl nf_r_131 (sv_ret hR (ev_mk (f := fun (as : Int × (Tu Int) × (List (Int × Int)) × Unit) => f_Ladder_init_i1 as.1 as.2.1 as.2.2.1) (evA_consY (fun _ _ _ => (PuA.ev (puA_cons (pu_fld 0 (c_Ladder T) (n_Ladder__factors T) (pu_var 0 rfl) rfl rfl) fun _ => (puA_cons (pu_var 3 rfl) fun _ => puA_nil)))) (ev_opO (Pu.ev (pu_fld 1 (c_Ladder T) (n_Ladder__all_sides T) (pu_var 0 rfl) rfl rfl)) (fun _ _ _ => (Pu.ev (pu_int 0))) o_ixT))) (by exact rfl)))) (by exact rfl))) (by exact rfl))) (by exact rfl)) : Sv e e.S0 [] [some (av K x_self), some (av K x_level), some (av K x_edge), none] [] _ () _ (fun _ H => e.rt .non H) nF nF)
theorem sp_len_Ladder_with_edge : ∀ vs H Q E, (P_Ladder_with_edge K) vs H Q E → vs.length = 3 := fun vs H Q E h => by obtain ⟨_, as, _, _, hA, _⟩ := h; exact hA.len
theorem G_Ladder_with_edge (T : Tx K mg) : FnG P w K mg base CX0 13 (ma K (ga K "Ladder") "with_edge") (P_Ladder_with_edge K) := by
  obtain ⟨fd, F⟩ := F_Ladder_with_edge T
  have b : L2.Binds K fd ["self", "level", "edge"] [] := F.bindsN fun _ _ _ _ _ _ us hl => match us, hl with | [_, _, _], _ => rfl
  exact fnG_pl F sc_Ladder_with_edge b sp_len_Ladder_with_edge (B_Ladder_with_edge T)
theorem sc__law_built : FnScope ["_law_pot_here", "_law_first", "_law_ups", "_law_rims", "_law_one", "_law_left", "_law_at"] ["_law_pot_here", "_law_first", "_law_ups", "_law_rims"] (defScope s__law_built) := ⟨rfl, rfl, rfl, by decide +kernel, rfl, by decide +kernel, by decide +kernel⟩
def f__law_built (x_first : Int) (x_ups : (List Int)) (x_rims : (List (Int × Int))) (s : Pot) : Option (O_Ladder × Pot) :=
  (f_Ladder_init x_first x_ups (() : Unit)).bind fun o_160 =>
  let one_141 : O_Ladder := o_160
  let s_143 : Pot := s
  if RgOk 0 (x_rims.length : Int) then
    let left_142 : List Int := (rg 0 (x_rims.length : Int))
    let s_144 : Pot := s_143
    whileK 1000000 (one_141, left_142, ()) s_144
      (fun (c_147 : (O_Ladder × (List Int) × Unit)) (s_148 : Pot) (next_145 : (O_Ladder × (List Int) × Unit) → Pot → _) (done_146 : (O_Ladder × (List Int) × Unit) → Pot → _) =>
        if (!decide (c_147.2.1 = ([] : List Int))) = true then
          let s_149 : Pot := s_148
          (f__law_draw (c_147.2.1.length : Int) s_149).bind fun o_156 =>
          (popI c_147.2.1 o_156.1).bind fun (at_150 : Int × List Int) =>
          let s_151 : Pot := o_156.2
          (atI x_rims at_150.1).bind fun o_154 =>
          (f_Ladder_with_edge c_147.1 at_150.1 o_154).bind fun o_155 =>
          let one_152 : O_Ladder := o_155
          let s_153 : Pot := s_151
          next_145 (one_152, at_150.2, ()) s_153
        else
        done_146 c_147 s_148)
      (fun (c_158 : (O_Ladder × (List Int) × Unit)) (s_159 : Pot) =>
        some (c_158.1, s_159))
  else none
abbrev P__law_built (K : Frag) : Sp := SpS K (fun (as : Int × (List Int) × (List (Int × Int)) × Unit) s => f__law_built as.1 as.2.1 as.2.2.1 s)
theorem B__law_built (T : Tx K mg) : BodyG CX0 P w K mg base ["_law_pot_here", "_law_first", "_law_ups", "_law_rims", "_law_one", "_law_left", "_law_at"] "_law_built" (defScope s__law_built) (defBody s__law_built) 14 (ga K "_law_built") (P__law_built K) := by
  intro cdv A outer s0 H vs Q E hr h
  have hu := hr.units
  have hu1 := hr.units1
  refine ⟨_, PSs.nox (pss_cons (ps_par (i := 4) (j := 5) rfl sc__law_built.nd rfl rfl (by decide) rfl rfl (pa_cons (pe_c (call_mk (k_Ladder T) (G_Ladder_init_3 T) (hr.mono (by decide)) pass0) (k_Ladder T).kp rfl (g_Ladder T) (pa_cons (pv 1) (pa_cons (pv 2) pa_nil))) (pa_cons (pe_listRg rfl rfl (z_list T) (prg_1 rfl (z_range T) (pe_callB (call_len_seq) (by rfl) (z_len T) PySem.boot_len (pa_cons (pv 3) pa_nil)))) pa_nil)) rfl)
    (pss_cons (ps_while PassesOwn.never (pt_cmpR (op_neD hu) (pv 5) (pe_lst pa_nil) (nomark _))
    (pss_cons (ps_set (i := 6) sc__law_built.nd rfl (by first | exact Or.inl rfl | exact Or.inr rfl) (pe_bm PySem.F.plainAttrs_list PySem.F.slot_list_pop PySem.F.type_list_pop mt_popAt (pv 5) (pa_cons (pe_c (call_g (G__law_draw T) (hr.mono (by decide)) pass0) (kp__law_draw T) rfl (g__law_draw T) (pa_cons (pv 0) (pa_cons (pe_callB (call_len_seq) (by rfl) (z_len T) PySem.boot_len (pa_cons (pv 5) pa_nil)) pa_nil))) pa_nil)))
    (pss_one (ps_set (i := 4) sc__law_built.nd rfl (by first | exact Or.inl rfl | exact Or.inr rfl) (pe_m (call_g (G_Ladder_with_edge T) (hr.mono (by decide)) pass0) (pv 4) (c_Ladder T) (m_Ladder_with_edge T) (pa_cons (pv 6) (pa_cons (pe_ix (ix_list) (pv 3) (pv 6) (fun _ _ => rfl)) pa_nil)))))))
    (pss_one (ps_ret (pv 4))))), ?_⟩
  refine body_S (f := fun (as : Int × (List Int) × (List (Int × Int)) × Unit) s => f__law_built as.1 as.2.1 as.2.2.1 s) h 3 (fun _ => rfl) fun e q as s hm hR => ?_
  obtain ⟨x_first, x_ups, x_rims, _⟩ := as
  exact ((sv_par (svA_cons (fun (one_141 : O_Ladder) (s_143 : Pot) =>
if RgOk 0 (x_rims.length : Int) then
  let left_142 : List Int := (rg 0 (x_rims.length : Int))
  let s_144 : Pot := s_143
  whileK 1000000 (one_141, left_142, ()) s_144
    (fun (c_147 : (O_Ladder × (List Int) × Unit)) (s_148 : Pot) (next_145 : (O_Ladder × (List Int) × Unit) → Pot → _) (done_146 : (O_Ladder × (List Int) × Unit) → Pot → _) =>
      if (!decide (c_147.2.1 = ([] : List Int))) = true then
        let s_149 : Pot := s_148
        (f__law_draw (c_147.2.1.length : Int) s_149).bind fun o_156 =>
        (popI c_147.2.1 o_156.1).bind fun (at_150 : Int × List Int) =>
        let s_151 : Pot := o_156.2
        (atI x_rims at_150.1).bind fun o_154 =>
        (f_Ladder_with_edge c_147.1 at_150.1 o_154).bind fun o_155 =>
        let one_152 : O_Ladder := o_155
        let s_153 : Pot := s_151
        next_145 (one_152, at_150.2, ()) s_153
      else
      done_146 c_147 s_148)
    (fun (c_158 : (O_Ladder × (List Int) × Unit)) (s_159 : Pot) =>
      some (c_158.1, s_159))
else none) (ev_mkD (ds := [He.Dv.v K (.non)]) (Ds := [av K (() : Unit)]) (F := fun (as : Int × (List Int) × Unit) => (as.1, as.2.1, (() : Unit), ())) (f := fun (as : Int × (List Int) × Unit × Unit) => f_Ladder_init as.1 as.2.1 as.2.2.1) (fun _ _ => ⟨rfl, trivial⟩) (fun _ => rfl) (PuA.ev (puA_cons (pu_var 1 rfl) fun _ => (puA_cons (pu_var 2 rfl) fun _ => puA_nil)))) (fun one_141 s_143 _ => (svA_newE (fun (left_142 : List Int) (s_144 : Pot) =>
whileK 1000000 (one_141, left_142, ()) s_144
  (fun (c_147 : (O_Ladder × (List Int) × Unit)) (s_148 : Pot) (next_145 : (O_Ladder × (List Int) × Unit) → Pot → _) (done_146 : (O_Ladder × (List Int) × Unit) → Pot → _) =>
    if (!decide (c_147.2.1 = ([] : List Int))) = true then
      let s_149 : Pot := s_148
      (f__law_draw (c_147.2.1.length : Int) s_149).bind fun o_156 =>
      (popI c_147.2.1 o_156.1).bind fun (at_150 : Int × List Int) =>
      let s_151 : Pot := o_156.2
      (atI x_rims at_150.1).bind fun o_154 =>
      (f_Ladder_with_edge c_147.1 at_150.1 o_154).bind fun o_155 =>
      let one_152 : O_Ladder := o_155
      let s_153 : Pot := s_151
      next_145 (one_152, at_150.2, ()) s_153
    else
    done_146 c_147 s_148)
  (fun (c_158 : (O_Ladder × (List Int) × Unit)) (s_159 : Pot) =>
    some (c_158.1, s_159))) (evN_rg1 (Pu.ev (pu_cb1 (pu_var 3 rfl) o_lenL))) (fun r_140 left_142 s_144 nf_r_140 => (svA_par (i := 4) (j := 5) (sv_while (ς := (O_Ladder × (List Int) × Unit)) (n0 := 1000000) (body := (fun (c_147 : (O_Ladder × (List Int) × Unit)) (s_148 : Pot) (next_145 : (O_Ladder × (List Int) × Unit) → Pot → _) (done_146 : (O_Ladder × (List Int) × Unit) → Pot → _) =>
    if (!decide (c_147.2.1 = ([] : List Int))) = true then
      let s_149 : Pot := s_148
      (f__law_draw (c_147.2.1.length : Int) s_149).bind fun o_156 =>
      (popI c_147.2.1 o_156.1).bind fun (at_150 : Int × List Int) =>
      let s_151 : Pot := o_156.2
      (atI x_rims at_150.1).bind fun o_154 =>
      (f_Ladder_with_edge c_147.1 at_150.1 o_154).bind fun o_155 =>
      let one_152 : O_Ladder := o_155
      let s_153 : Pot := s_151
      next_145 (one_152, at_150.2, ()) s_153
    else
    done_146 c_147 s_148)) (p1 := (fun (c_147 : (O_Ladder × (List Int) × Unit)) (s_149 : Pot) (next_145 : (O_Ladder × (List Int) × Unit) → Pot → _) (done_146 : (O_Ladder × (List Int) × Unit) → Pot → _) =>
    (f__law_draw (c_147.2.1.length : Int) s_149).bind fun o_156 =>
    (popI c_147.2.1 o_156.1).bind fun (at_150 : Int × List Int) =>
    let s_151 : Pot := o_156.2
    (atI x_rims at_150.1).bind fun o_154 =>
    (f_Ladder_with_edge c_147.1 at_150.1 o_154).bind fun o_155 =>
    let one_152 : O_Ladder := o_155
    let s_153 : Pot := s_151
    next_145 (one_152, at_150.2, ()) s_153)) (kf := (fun (c_158 : (O_Ladder × (List Int) × Unit)) (s_159 : Pot) =>
    some (c_158.1, s_159))) (NJ := fun c_147 => [accD K r_140 (c_147.2.1)]) (tJ := fun c_147 => [some (av K (PRef.mk (q := q))), some (av K x_first), some (av K x_ups), some (av K x_rims), some (av K c_147.1), some (refA r_140), none]) (one_141, left_142, ()) rfl (Sub.keep (Sub.keep (Sub.keep (Sub.keep (Sub.keep (Sub.keep (Sub.keep Sub.nil))))))) (by exact rfl) (fun _ c_147 s_148 next_145 done_146 => (evT_test (ev_opML (i := 5) rfl nf_r_140 (puL_lst (puL_nil (α := Int)) (Nat.le_of_ble_eq_true rfl)) (o_neD (Nat.le_of_ble_eq_true rfl)) (by exact rfl)))) (fun _ c_147 s_149 next_145 done_146 => (sv_popAt (i := 5) (i2 := 6) (j := 0) (fun (at_150 : Int × List Int) (s_151 : Pot) =>
(atI x_rims at_150.1).bind fun o_154 =>
(f_Ladder_with_edge c_147.1 at_150.1 o_154).bind fun o_155 =>
let one_152 : O_Ladder := o_155
let s_153 : Pot := s_151
next_145 (one_152, at_150.2, ()) s_153) rfl rfl (ev_callSP hm (f := fun (as : Int × Unit) (s : Pot) => f__law_draw as.1 s) (puA_cons (pu_var 0 rfl) fun _ => (puA_cons (pu_lenM (i := 5) (j := 0) rfl rfl) fun _ => puA_nil))) (fun at_150 s_151 => (sv_last (sv_asg (fun (one_152 : O_Ladder) (s_153 : Pot) =>
next_145 (one_152, at_150.2, ()) s_153) (ev_methO (m := "with_edge") (f := fun (as : O_Ladder × Int × (Int × Int) × Unit) => f_Ladder_with_edge as.1 as.2.1 as.2.2.1) (o := c_147.1) rfl (pu_var 4 rfl) fun _ => (evA_consY (fun _ _ _ => (evA_consY (fun _ _ _ => (PuA.ev puA_nil)) (ev_opO (Pu.ev (pu_var 3 rfl)) (fun _ _ _ => (Pu.ev (pu_var 6 rfl))) o_ixL))) (Pu.ev (pu_var 6 rfl)))) (tg_name 4) (fun one_152 s_153 => (sv_endJ (one_152, at_150.2, ()) rfl (Sub.keep (Sub.keep (Sub.keep (Sub.keep (Sub.keep (Sub.keep (Sub.drop Sub.nil))))))))) (by exact rfl)))) (by exact rfl))) (fun c_158 s_159 => (sv_freeze (i := 5) rfl nf_r_140 (sv_ret hR (Pu.ev (pu_var 4 rfl)) (by exact rfl))))))) (by exact rfl))) (by exact rfl))) : Sv e e.S0 [] [some (av K (PRef.mk (q := q))), some (av K x_first), some (av K x_ups), some (av K x_rims), none, none, none] [] _ s _ (fun _ H => e.rt .non H) nF nF)
theorem sp_len__law_built : ∀ vs H Q E, (P__law_built K) vs H Q E → vs.length = 4 := fun vs H Q E h => by obtain ⟨_, _, us, as, _, _, _, _, _, e, _, hA, _⟩ := h; subst e; exact congrArg (· + 1) hA.len
theorem G__law_built (T : Tx K mg) : FnG P w K mg base CX0 15 (ga K "_law_built") (P__law_built K) := by
  obtain ⟨fd, F⟩ := F__law_built T
  have b : L2.Binds K fd ["_law_pot_here", "_law_first", "_law_ups", "_law_rims"] [] := F.bindsN fun _ _ _ _ _ _ us hl => match us, hl with | [_, _, _, _], _ => rfl
  exact fnG_pl F sc__law_built b sp_len__law_built (B__law_built T)
theorem sc_Ladder_repr : FnScope ["self"] ["self"] (defScope s_Ladder_repr) := ⟨rfl, rfl, rfl, by decide +kernel, rfl, by decide +kernel, by decide +kernel⟩
def f_Ladder_repr (x_self : O_Ladder) : Option Str :=
  if (PySem.Str.empty ++ ("Ladder(" : PySem.Str)).length ≤ sizeLine then
  let t_161 : PySem.Str := (PySem.Str.empty ++ ("Ladder(" : PySem.Str))
  (atI x_self.all_sides.l (0 : Int)).bind fun o_163 =>
  if o_163.natAbs.log2 < 1920 then
  if (t_161 ++ (PySem.Str.ofString (toString o_163))).length ≤ sizeLine then
  let t_162 : PySem.Str := (t_161 ++ (PySem.Str.ofString (toString o_163)))
  if (t_162 ++ (", " : PySem.Str)).length ≤ sizeLine then
  let t_164 : PySem.Str := (t_162 ++ (", " : PySem.Str))
  if OkR (En.enc (x_self.factors.l : (List Int))) then
  if (t_164 ++ (En.enc (x_self.factors.l : (List Int))).shown).length ≤ sizeLine then
  let t_165 : PySem.Str := (t_164 ++ (En.enc (x_self.factors.l : (List Int))).shown)
  if (t_165 ++ (", " : PySem.Str)).length ≤ sizeLine then
  let t_166 : PySem.Str := (t_165 ++ (", " : PySem.Str))
  if OkR (En.enc (x_self.edges.l : (List (Int × Int)))) then
  if (t_166 ++ (En.enc (x_self.edges.l : (List (Int × Int)))).shown).length ≤ sizeLine then
  let t_167 : PySem.Str := (t_166 ++ (En.enc (x_self.edges.l : (List (Int × Int)))).shown)
  if (t_167 ++ (")" : PySem.Str)).length ≤ sizeLine then
  let t_168 : PySem.Str := (t_167 ++ (")" : PySem.Str))
  some t_168
  else none
  else none
  else none
  else none
  else none
  else none
  else none
  else none
  else none
  else none
abbrev P_Ladder_repr (K : Frag) : Sp := SpF K (fun as : O_Ladder × Unit => f_Ladder_repr as.1)
theorem B_Ladder_repr (T : Tx K mg) : BodyG CX0 P w K mg base ["self"] "Ladder.__repr__" (defScope s_Ladder_repr) (defBody s_Ladder_repr) 0 (ma K (ga K "Ladder") "__repr__") (P_Ladder_repr K) := by
  intro cdv A outer s0 H vs Q E hr h
  have hu := hr.units
  have hu1 := hr.units1
  refine ⟨_, PSs.nox (pss_one (ps_ret (pe_joined (PJ.cons pe_str (PJ.cons (pe_fmt (pe_ix (ix_tup) (pe_fld (pv 0) rfl) pe_int (fun _ _ => rfl))) (PJ.cons pe_str (PJ.cons (pe_fmtRD (K := K) rfl hr.gd hu (pe_callTy (call_list_of) (by rfl) (z_list T) PyProof.Rows.boot_list (pa_cons (pe_fld (pv 0) rfl) pa_nil))) (PJ.cons pe_str (PJ.cons (pe_fmtRD (K := K) rfl hr.gd hu (pe_callTy (call_list_of) (by rfl) (z_list T) PyProof.Rows.boot_list (pa_cons (pe_fld (pv 0) rfl) pa_nil))) (PJ.cons pe_str PJ.nil)))))))))), ?_⟩
  refine body_F (f := fun as : O_Ladder × Unit => f_Ladder_repr as.1) h 0 (fun _ => rfl) fun e as hm hR => ?_
  obtain ⟨x_self, _⟩ := as
  exact ((sv_ret hR (ev_js (js_c (js_i (ev_opO (Pu.ev (pu_fld 1 (c_Ladder T) (n_Ladder__all_sides T) (pu_var 0 rfl) rfl rfl)) (fun _ _ _ => (Pu.ev (pu_int 0))) o_ixT) fun _ _ _ => (js_c (js_r (Pu.ev (pu_cb1 (pu_fld 0 (c_Ladder T) (n_Ladder__factors T) (pu_var 0 rfl) rfl rfl) o_listT)) fun _ _ _ => (js_c (js_r (Pu.ev (pu_cb1 (pu_fld 2 (c_Ladder T) (n_Ladder__edges T) (pu_var 0 rfl) rfl rfl) o_listT)) fun _ _ _ => (js_c js_nil)))))))) (by exact rfl)) : Sv e e.S0 [] [some (av K x_self)] [] _ () _ (fun _ H => e.rt .non H) nF nF)
theorem sp_len_Ladder_repr : ∀ vs H Q E, (P_Ladder_repr K) vs H Q E → vs.length = 1 := fun vs H Q E h => by obtain ⟨_, as, _, _, hA, _⟩ := h; exact hA.len
theorem G_Ladder_repr (T : Tx K mg) : FnG P w K mg base CX0 1 (ma K (ga K "Ladder") "__repr__") (P_Ladder_repr K) := by
  obtain ⟨fd, F⟩ := F_Ladder_repr T
  have b : L2.Binds K fd ["self"] [] := F.bindsN fun _ _ _ _ _ _ us hl => match us, hl with | [_], _ => rfl
  exact fnG_pl F sc_Ladder_repr b sp_len_Ladder_repr (B_Ladder_repr T)
def f_Ladder_init_i2 (x_side : Int) (x_factors : (List Int)) (x_edges : (List (Int × Int))) : Option O_Ladder :=
  (f_is_integer x_side).bind fun o_177 =>
  if (!o_177) = true then
    if true = true then
      none
    else
    (f__check_factors x_factors).bind fun o_176 =>
    if (decide (((x_factors.length : Int) + (1 : Int)) > (4 : Int))) = true then
      none
    else
    let _factors_170 : (Tu Int) := (Tu.mk x_factors)
    (f__sides x_side x_factors).bind fun o_175 =>
    let _all_sides_171 : (Tu Int) := (Tu.mk o_175)
    if false = true then
      none
    else
    (f__check_edges x_edges _all_sides_171).bind fun o_174 =>
    let _edges_173 : (Tu (Int × Int)) := (Tu.mk x_edges)
    some (O_Ladder.mk _factors_170 _all_sides_171 _edges_173)
  else
  if (decide (x_side < (1 : Int))) = true then
    none
  else
  (f__check_factors x_factors).bind fun o_176 =>
  if (decide (((x_factors.length : Int) + (1 : Int)) > (4 : Int))) = true then
    none
  else
  let _factors_170 : (Tu Int) := (Tu.mk x_factors)
  (f__sides x_side x_factors).bind fun o_175 =>
  let _all_sides_171 : (Tu Int) := (Tu.mk o_175)
  if false = true then
    none
  else
  (f__check_edges x_edges _all_sides_171).bind fun o_174 =>
  let _edges_173 : (Tu (Int × Int)) := (Tu.mk x_edges)
  some (O_Ladder.mk _factors_170 _all_sides_171 _edges_173)
abbrev P_Ladder_init_i2 (K : Frag) : Sp := SpI K (ga K "Ladder") (fun as : Int × (List Int) × (List (Int × Int)) × Unit => f_Ladder_init_i2 as.1 as.2.1 as.2.2.1)
theorem B_Ladder_init_i2 (T : Tx K mg) : BodyG CX0 P w K mg base ["self", "side", "factors", "edges", "_"] "Ladder.__init__" (defScope s_Ladder_init) (defBody s_Ladder_init) 10 (ma K (ga K "Ladder") "__init__") (P_Ladder_init_i2 K) := by
  intro cdv A outer s0 H vs Q E hr h
  have hu := hr.units
  have hu1 := hr.units1
  refine ⟨_, PSs.nox (pss_cons (ps_if (PW.pt (pw_or (pt_not (pt_val (pe_c (call_g (G_is_integer T) (hr.mono (by decide)) pass0) (kp_is_integer T) rfl (g_is_integer T) (pa_cons (pv 1) pa_nil)))) (pw_or1 (pt_cmpR (op_lt) (pv 1) pe_int (nomark _))))) (pss_one ps_never) pss_nil)
    (pss_cons (ps_expr (pe_c (call_g (G__check_factors T) (hr.mono (by decide)) pass0) (kp__check_factors T) rfl (g__check_factors T) (pa_cons (pv 2) pa_nil)))
    (pss_cons (ps_if (pt_cmpR (op_gt) (pe_op (op_add) (pe_callB (call_len_seq) (by rfl) (z_len T) PySem.boot_len (pa_cons (pv 2) pa_nil)) pe_int) (ClX.pe_cval (pe_glob (v := .ref (ga K "Ladder")) rfl (g_Ladder T) rfl)) (nomark _)) (pss_one ps_never) pss_nil)
    (pss_cons (ps_fld (pv 0) (pe_tupleOf rfl (z_tuple T) (pv 2)) rfl)
    (pss_cons (ps_fld (pv 0) (pe_tupleOf rfl (z_tuple T) (pe_c (call_g (G__sides T) (hr.mono (by decide)) pass0) (kp__sides T) rfl (g__sides T) (pa_cons (pv 1) (pa_cons (pv 2) pa_nil)))) rfl)
    (pss_one (ps_if (pt_cmp (pc_isN (pv 3))) (pss_one ps_never) (pss_cons (ps_expr (pe_c (call_g (G__check_edges T) (hr.mono (by decide)) pass0) (kp__check_edges T) rfl (g__check_edges T) (pa_cons (pv 3) (pa_cons (pe_fld (pv 0) rfl) pa_nil))))
    (pss_one (ps_fld (pv 0) (pe_tupleOf rfl (z_tuple T) (pv 3)) rfl)))))))))), ?_⟩
  refine body_I (f := fun as : Int × (List Int) × (List (Int × Int)) × Unit => f_Ladder_init_i2 as.1 as.2.1 as.2.2.1) h 1 (fun _ => rfl) fun e as x dx hm => ?_
  obtain ⟨x_side, x_factors, x_edges, _⟩ := as
  exact ((sv_ifR (fun (_ : Unit) =>
none) (fun (_ : Unit) =>
(f__check_factors x_factors).bind fun o_176 =>
if (decide (((x_factors.length : Int) + (1 : Int)) > (4 : Int))) = true then
  none
else
let _factors_170 : (Tu Int) := (Tu.mk x_factors)
(f__sides x_side x_factors).bind fun o_175 =>
let _all_sides_171 : (Tu Int) := (Tu.mk o_175)
if false = true then
  none
else
(f__check_edges x_edges _all_sides_171).bind fun o_174 =>
let _edges_173 : (Tu (Int × Int)) := (Tu.mk x_edges)
some (O_Ladder.mk _factors_170 _all_sides_171 _edges_173)) (evT_or (evT_not (evT_B (ev_callP (f := fun (as : Int × Unit) => f_is_integer as.1) (puA_cons (pu_var 1 rfl) fun _ => puA_nil)))) fun _ => (PuT.ev (puT_test (pu_op (g := fun i j : Int => decide (i < j)) (pu_var 1 rfl) (fun _ => (pu_int 1)) o_lt)))) (fun _ => sv_dead) (fun _ => (sv_expr (fun (_ : Unit) (_ : Unit) =>
if (decide (((x_factors.length : Int) + (1 : Int)) > (4 : Int))) = true then
  none
else
let _factors_170 : (Tu Int) := (Tu.mk x_factors)
(f__sides x_side x_factors).bind fun o_175 =>
let _all_sides_171 : (Tu Int) := (Tu.mk o_175)
if false = true then
  none
else
(f__check_edges x_edges _all_sides_171).bind fun o_174 =>
let _edges_173 : (Tu (Int × Int)) := (Tu.mk x_edges)
some (O_Ladder.mk _factors_170 _all_sides_171 _edges_173)) (ev_callP (f := fun (as : (List Int) × Unit) => f__check_factors as.1) (puA_cons (pu_var 2 rfl) fun _ => puA_nil)) (fun _ _ => (sv_ifR (fun (_ : Unit) =>
none) (fun (_ : Unit) =>
let _factors_170 : (Tu Int) := (Tu.mk x_factors)
(f__sides x_side x_factors).bind fun o_175 =>
let _all_sides_171 : (Tu Int) := (Tu.mk o_175)
if false = true then
  none
else
(f__check_edges x_edges _all_sides_171).bind fun o_174 =>
let _edges_173 : (Tu (Int × Int)) := (Tu.mk x_edges)
some (O_Ladder.mk _factors_170 _all_sides_171 _edges_173)) (PuT.ev (puT_test (pu_op (g := fun i j : Int => decide (i > j)) (pu_op (pu_cb1 (pu_var 2 rfl) o_lenL) (fun _ => (pu_int 1)) o_add) (fun _ => (pu_cval (rd_Ladder T) (v_Ladder_MOST_LEVELS T))) o_gt))) (fun _ => sv_dead) (fun _ => (sv_fld (fun (_factors_170 : (Tu Int)) (_ : Unit) =>
(f__sides x_side x_factors).bind fun o_175 =>
let _all_sides_171 : (Tu Int) := (Tu.mk o_175)
if false = true then
  none
else
(f__check_edges x_edges _all_sides_171).bind fun o_174 =>
let _edges_173 : (Tu (Int × Int)) := (Tu.mk x_edges)
some (O_Ladder.mk _factors_170 _all_sides_171 _edges_173)) (i := 0) (j := 0) (c_Ladder T) (n_Ladder__factors T) rfl rfl (by decide +kernel) (by decide) (Pu.ev (pu_then (pu_var 2 rfl) o_tupL)) (fun _factors_170 _ => (sv_fld (fun (_all_sides_171 : (Tu Int)) (_ : Unit) =>
if false = true then
  none
else
(f__check_edges x_edges _all_sides_171).bind fun o_174 =>
let _edges_173 : (Tu (Int × Int)) := (Tu.mk x_edges)
some (O_Ladder.mk _factors_170 _all_sides_171 _edges_173)) (i := 0) (j := 0) (c_Ladder T) (n_Ladder__all_sides T) rfl rfl (by decide +kernel) (by decide) (ev_then (ev_callP (f := fun (as : Int × (List Int) × Unit) => f__sides as.1 as.2.1) (puA_cons (pu_var 1 rfl) fun _ => (puA_cons (pu_var 2 rfl) fun _ => puA_nil))) o_tupL) (fun _all_sides_171 _ => (sv_ifL (fun (_ : Unit) =>
none) (fun (_ : Unit) =>
(f__check_edges x_edges _all_sides_171).bind fun o_174 =>
let _edges_173 : (Tu (Int × Int)) := (Tu.mk x_edges)
some (O_Ladder.mk _factors_170 _all_sides_171 _edges_173)) (PuT.ev (puT_test (pu_isN (pu_var 3 rfl)))) (fun _ => sv_dead) (fun _ => (sv_expr (fun (_ : Unit) (_ : Unit) =>
let _edges_173 : (Tu (Int × Int)) := (Tu.mk x_edges)
some (O_Ladder.mk _factors_170 _all_sides_171 _edges_173)) (ev_callP (f := fun (as : (List (Int × Int)) × (Tu Int) × Unit) => f__check_edges as.1 as.2.1) (puA_cons (pu_var 3 rfl) fun _ => (puA_cons (pu_fldM (i := 0) (j := 0) (l := 1) (c_Ladder T) (n_Ladder__all_sides T) rfl rfl rfl rfl) fun _ => puA_nil))) (fun _ _ => (sv_last (sv_fld (fun (_edges_173 : (Tu (Int × Int))) (_ : Unit) =>
some (O_Ladder.mk _factors_170 _all_sides_171 _edges_173)) (i := 0) (j := 0) (c_Ladder T) (n_Ladder__edges T) rfl rfl (by decide +kernel) (by decide) (Pu.ev (pu_then (pu_var 3 rfl) o_tupL)) (fun _edges_173 _ => (sv_endI (j := 0) (a := (O_Ladder.mk _factors_170 _all_sides_171 _edges_173)) rfl fun _ _ _ h => h)) (by exact rfl)))) (by exact rfl))) (by exact rfl))) (by exact rfl))) (by exact rfl))) (by exact rfl))) (by exact rfl))) (by exact rfl)) : Sv e e.S0 [insD x dx (ga K "Ladder") [] []] [some (refA x), some (av K x_side), some (av K x_factors), some (av K x_edges), none] [] _ () _ (InitOk K e x) nF nF)
theorem sp_len_Ladder_init_i2 : ∀ vs H Q E, (P_Ladder_init_i2 K) vs H Q E → vs.length = 4 := fun vs H Q E h => by obtain ⟨_, _, _, us, as, _, _, e, _, _, hA, _⟩ := h; subst e; exact congrArg (· + 1) hA.len
theorem G_Ladder_init_i2_dfl (T : Tx K mg) (j : Nat) (hj : j ≤ 2) : FnG P w K mg base CX0 11 (ma K (ga K "Ladder") "__init__") (fun vs H Q E => (P_Ladder_init_i2 K) (vs ++ ([(He.Dv.v K (.adr (He.dflAt ("Ladder", some "__init__") 0))), (He.Dv.v K (.non))] : List V).drop j) H Q E) := by
  obtain ⟨fd, F⟩ := F_Ladder_init T
  have hb : ∃ ds, Vals (([(He.Dv.v K (.adr (He.dflAt ("Ladder", some "__init__") 0))), (He.Dv.v K (.non))] : List V).drop j) ds ∧ L2.Binds K fd ["self", "side", "factors", "edges"] ds := by
    match j, hj with
    | 0, _ => exact (F.binds1 (ps := ["self", "side", "factors", "edges"]) 2 0 (List.cons_ne_nil _ _) rfl fun _ _ _ _ _ _ _ us its hl hi => match us, its, hl, hi with | [_, _], [_, _], _, _ => ⟨_, rfl, rfl⟩)
    | 1, _ => exact (F.binds1 (ps := ["self", "side", "factors", "edges"]) 3 1 (List.cons_ne_nil _ _) rfl fun _ _ _ _ _ _ _ us its hl hi => match us, its, hl, hi with | [_, _, _], [_, _], _, _ => ⟨_, rfl, rfl⟩)
    | 2, _ => exact (F.binds1 (ps := ["self", "side", "factors", "edges"]) 4 2 (List.cons_ne_nil _ _) rfl fun _ _ _ _ _ _ _ us its hl hi => match us, its, hl, hi with | [_, _, _, _], [_, _], _, _ => ⟨_, rfl, rfl⟩)
    | (n + 3), h => exact absurd h (by omega)
  obtain ⟨ds, hd, b⟩ := hb
  exact fnG_of F sc_Ladder_init b hd sp_len_Ladder_init_i2 (B_Ladder_init_i2 T)
theorem G_Ladder_init_i2_2 (T : Tx K mg) : FnG P w K mg base CX0 11 (ma K (ga K "Ladder") "__init__") (fun vs H Q E => (P_Ladder_init_i2 K) (vs ++ ([He.Dv.v K (.adr (He.dflAt ("Ladder", some "__init__") 0)), He.Dv.v K (.non)] : List V)) H Q E) := G_Ladder_init_i2_dfl T 0 (by decide)
theorem G_Ladder_init_i2_3 (T : Tx K mg) : FnG P w K mg base CX0 11 (ma K (ga K "Ladder") "__init__") (fun vs H Q E => (P_Ladder_init_i2 K) (vs ++ ([He.Dv.v K (.non)] : List V)) H Q E) := G_Ladder_init_i2_dfl T 1 (by decide)
theorem G_Ladder_init_i2 (T : Tx K mg) : FnG P w K mg base CX0 11 (ma K (ga K "Ladder") "__init__") (P_Ladder_init_i2 K) := (G_Ladder_init_i2_dfl T 2 (by decide)).imp fun vs H Q E h => by rw [show List.drop 2 ([(He.Dv.v K (.adr (He.dflAt ("Ladder", some "__init__") 0))), (He.Dv.v K (.non))] : List V) = [] from rfl, List.append_nil]; exact h
theorem sc__law_great : FnScope ["_law_pot_here", "_law_found", "_law_turn"] ["_law_pot_here"] (defScope s__law_great) := ⟨rfl, rfl, rfl, by decide +kernel, rfl, by decide +kernel, by decide +kernel⟩
def f__law_great  (s : Pot) : Option (Int × Pot) :=
  (f__law_draw (3 : Int) s).bind fun o_197 =>
  if (decide (o_197.1 > (0 : Int))) = true then
    let s_178 : Pot := o_197.2
    (f__law_draw (20 : Int) s_178).bind fun o_180 =>
    some (o_180.1, o_180.2)
  else
  let s_179 : Pot := o_197.2
  let found_182 : Int := (0 : Int)
  let s_183 : Pot := s_179
  (f__law_pick ([(1 : Int), (2 : Int), (4 : Int)] : List Int) s_183).bind fun o_195 =>
  if RgB 0 o_195.1 then
    forK (rg 0 o_195.1) (found_182, ()) o_195.2
      (fun (y_187 : Int) (c_186 : (Int × Unit)) (s_188 : Pot) (next_184 : (Int × Unit) → Pot → _) (done_185 : (Int × Unit) → Pot → _) =>
        if CMulW c_186.1 (10000000 : Int) then
          (f__law_draw (10000000 : Int) s_188).bind fun o_191 =>
          let found_189 : Int := ((c_186.1 * (10000000 : Int)) + o_191.1)
          let s_190 : Pot := o_191.2
          next_184 (found_189, ()) s_190
        else none)
      (fun (c_193 : (Int × Unit)) (s_194 : Pot) =>
        some (c_193.1, s_194))
  else none
abbrev P__law_great (K : Frag) : Sp := SpS K (fun (as : Unit) s => f__law_great s)
theorem B__law_great (T : Tx K mg) : BodyG CX0 P w K mg base ["_law_pot_here", "_law_found", "_law_turn"] "_law_great" (defScope s__law_great) (defBody s__law_great) 4 (ga K "_law_great") (P__law_great K) := by
  intro cdv A outer s0 H vs Q E hr h
  have hu := hr.units
  have hu1 := hr.units1
  refine ⟨_, PSs.nox (pss_cons (ps_if (pt_cmpR (op_gt) (pe_c (call_g (G__law_draw T) (hr.mono (by decide)) pass0) (kp__law_draw T) rfl (g__law_draw T) (pa_cons (pv 0) (pa_cons pe_int pa_nil))) pe_int (nomark _)) (pss_one (ps_ret (pe_c (call_g (G__law_draw T) (hr.mono (by decide)) pass0) (kp__law_draw T) rfl (g__law_draw T) (pa_cons (pv 0) (pa_cons pe_int pa_nil))))) pss_nil)
    (pss_cons (ps_set (i := 1) sc__law_great.nd rfl (by first | exact Or.inl rfl | exact Or.inr rfl) pe_int)
    (pss_cons (ps_for PassesOwn.never rfl (pi_range1 rfl (z_range T) (pa_cons (pe_c (call_g (G__law_pick T) (hr.mono (by decide)) pass0) (kp__law_pick T) rfl (g__law_pick T) (pa_cons (pv 0) (pa_cons (pe_lst (pa_cons pe_int (pa_cons pe_int (pa_cons pe_int pa_nil)))) pa_nil))) pa_nil)) (pg_name (i := 2) sc__law_great.nd rfl (by first | exact Or.inl rfl | exact Or.inr rfl))
    (pss_one (ps_set (i := 1) sc__law_great.nd rfl (by first | exact Or.inl rfl | exact Or.inr rfl) (pe_op (op_add) (pe_op (op_mulW) (pv 1) (pe_op (op_pow) pe_int pe_int)) (pe_c (call_g (G__law_draw T) (hr.mono (by decide)) pass0) (kp__law_draw T) rfl (g__law_draw T) (pa_cons (pv 0) (pa_cons (pe_op (op_pow) pe_int pe_int) pa_nil)))))))
    (pss_one (ps_ret (pv 1)))))), ?_⟩
  refine body_S (f := fun (as : Unit) s => f__law_great s) h 2 (fun _ => rfl) fun e q as s hm hR => ?_
  obtain ⟨⟩ := as
  exact ((sv_ifR (fun (s_178 : Pot) =>
(f__law_draw (20 : Int) s_178).bind fun o_180 =>
some (o_180.1, o_180.2)) (fun (s_179 : Pot) =>
let found_182 : Int := (0 : Int)
let s_183 : Pot := s_179
(f__law_pick ([(1 : Int), (2 : Int), (4 : Int)] : List Int) s_183).bind fun o_195 =>
if RgB 0 o_195.1 then
  forK (rg 0 o_195.1) (found_182, ()) o_195.2
    (fun (y_187 : Int) (c_186 : (Int × Unit)) (s_188 : Pot) (next_184 : (Int × Unit) → Pot → _) (done_185 : (Int × Unit) → Pot → _) =>
      if CMulW c_186.1 (10000000 : Int) then
        (f__law_draw (10000000 : Int) s_188).bind fun o_191 =>
        let found_189 : Int := ((c_186.1 * (10000000 : Int)) + o_191.1)
        let s_190 : Pot := o_191.2
        next_184 (found_189, ()) s_190
      else none)
    (fun (c_193 : (Int × Unit)) (s_194 : Pot) =>
      some (c_193.1, s_194))
else none) (evT_test (ev_op (g := fun i j : Int => decide (i > j)) (ev_callSP hm (f := fun (as : Int × Unit) (s : Pot) => f__law_draw as.1 s) (puA_cons (pu_var 0 rfl) fun _ => (puA_cons (pu_int 3) fun _ => puA_nil))) (fun _ _ _ => (Pu.ev (pu_int 0))) o_gt)) (fun s_178 => (sv_ret hR (ev_callSP hm (f := fun (as : Int × Unit) (s : Pot) => f__law_draw as.1 s) (puA_cons (pu_var 0 rfl) fun _ => (puA_cons (pu_int 20) fun _ => puA_nil))) (by exact rfl))) (fun s_179 => (sv_asg (fun (found_182 : Int) (s_183 : Pot) =>
(f__law_pick ([(1 : Int), (2 : Int), (4 : Int)] : List Int) s_183).bind fun o_195 =>
if RgB 0 o_195.1 then
  forK (rg 0 o_195.1) (found_182, ()) o_195.2
    (fun (y_187 : Int) (c_186 : (Int × Unit)) (s_188 : Pot) (next_184 : (Int × Unit) → Pot → _) (done_185 : (Int × Unit) → Pot → _) =>
      if CMulW c_186.1 (10000000 : Int) then
        (f__law_draw (10000000 : Int) s_188).bind fun o_191 =>
        let found_189 : Int := ((c_186.1 * (10000000 : Int)) + o_191.1)
        let s_190 : Pot := o_191.2
        next_184 (found_189, ()) s_190
      else none)
    (fun (c_193 : (Int × Unit)) (s_194 : Pot) =>
      some (c_193.1, s_194))
else none) (Pu.ev (pu_int 0)) (tg_name 1) (fun found_182 s_183 => (sv_for (ς := (Int × Unit)) (fun (y_187 : Int) (c_186 : (Int × Unit)) (s_188 : Pot) (next_184 : (Int × Unit) → Pot → _) (done_185 : (Int × Unit) → Pot → _) =>
    if CMulW c_186.1 (10000000 : Int) then
      (f__law_draw (10000000 : Int) s_188).bind fun o_191 =>
      let found_189 : Int := ((c_186.1 * (10000000 : Int)) + o_191.1)
      let s_190 : Pot := o_191.2
      next_184 (found_189, ()) s_190
    else none) (fun (c_193 : (Int × Unit)) (s_194 : Pot) =>
    some (c_193.1, s_194)) (NJ := fun c_186 => []) (tJ := fun c_186 => [some (av K (PRef.mk (q := q))), some (av K c_186.1), none]) (found_182, ()) rfl (Sub.keep (Sub.keep (Sub.keep Sub.nil))) (evI_rg1 (ev_callSP hm (f := fun (as : (List Int) × Unit) (s : Pot) => f__law_pick as.1 s) (puA_cons (pu_var 0 rfl) fun _ => (puA_cons (puL_lst (puL_cons (pu_int 1) fun _ => (puL_cons (pu_int 2) fun _ => (puL_cons (pu_int 4) fun _ => (puL_nil (α := Int))))) (Nat.le_of_ble_eq_true rfl)) fun _ => puA_nil)))) (tg_name 2) (fun _ y_187 c_186 s_188 next_184 done_185 => (sv_last (sv_asg (fun (found_189 : Int) (s_190 : Pot) =>
next_184 (found_189, ()) s_190) (ev_op (ev_opC (Pu.ev (pu_var 1 rfl)) (fun _ _ _ => (Pu.ev (pu_pow (i := 10) (j := 7) (c := 10000000) (by decide +kernel) (by decide +kernel)))) o_mul) (fun _ _ _ => (ev_callSP hm (f := fun (as : Int × Unit) (s : Pot) => f__law_draw as.1 s) (puA_cons (pu_var 0 rfl) fun _ => (puA_cons (pu_pow (i := 10) (j := 7) (c := 10000000) (by decide +kernel) (by decide +kernel)) fun _ => puA_nil)))) o_add) (tg_name 1) (fun found_189 s_190 => (sv_endJ (found_189, ()) rfl (Sub.keep (Sub.keep (Sub.drop Sub.nil))))) (by exact rfl)))) (fun c_193 s_194 => (sv_ret hR (Pu.ev (pu_var 1 rfl)) (by exact rfl))) (by exact rfl))) (by exact rfl))) (by exact rfl)) : Sv e e.S0 [] [some (av K (PRef.mk (q := q))), none, none] [] _ s _ (fun _ H => e.rt .non H) nF nF)
theorem sp_len__law_great : ∀ vs H Q E, (P__law_great K) vs H Q E → vs.length = 1 := fun vs H Q E h => by obtain ⟨_, _, us, as, _, _, _, _, _, e, _, hA, _⟩ := h; subst e; exact congrArg (· + 1) hA.len
theorem G__law_great (T : Tx K mg) : FnG P w K mg base CX0 5 (ga K "_law_great") (P__law_great K) := by
  obtain ⟨fd, F⟩ := F__law_great T
  have b : L2.Binds K fd ["_law_pot_here"] [] := F.bindsN fun _ _ _ _ _ _ us hl => match us, hl with | [_], _ => rfl
  exact fnG_pl F sc__law_great b sp_len__law_great (B__law_great T)
theorem sc__law_far : FnScope ["_law_pot_here", "_law_found"] ["_law_pot_here"] (defScope s__law_far) := ⟨rfl, rfl, rfl, by decide +kernel, rfl, by decide +kernel, by decide +kernel⟩
def f__law_far  (s : Pot) : Option (Int × Pot) :=
  (f__law_great s).bind fun o_214 =>
  let found_199 : Int := o_214.1
  let s_200 : Pot := o_214.2
  let j_203 : (Int × Unit) → Pot → _ := (fun (c_208 : (Int × Unit)) (s_209 : Pot) =>
    (f__law_pick ([(1 : Int), (-(1 : Int))] : List Int) s_209).bind fun o_210 =>
    if CMulW c_208.1 o_210.1 then
      some ((c_208.1 * o_210.1), o_210.2)
    else none)
  (f__law_draw (4 : Int) s_200).bind fun o_212 =>
  if (decide (o_212.1 = (0 : Int))) = true then
    let s_201 : Pot := o_212.2
    if CMulW found_199 (10000000 : Int) then
      (f__law_draw (10000000 : Int) s_201).bind fun o_206 =>
      let found_204 : Int := ((found_199 * (10000000 : Int)) + o_206.1)
      let s_205 : Pot := o_206.2
      j_203 (found_204, ()) s_205
    else none
  else
  let s_202 : Pot := o_212.2
  j_203 (found_199, ()) s_202
abbrev P__law_far (K : Frag) : Sp := SpS K (fun (as : Unit) s => f__law_far s)
theorem B__law_far (T : Tx K mg) : BodyG CX0 P w K mg base ["_law_pot_here", "_law_found"] "_law_far" (defScope s__law_far) (defBody s__law_far) 6 (ga K "_law_far") (P__law_far K) := by
  intro cdv A outer s0 H vs Q E hr h
  have hu := hr.units
  have hu1 := hr.units1
  refine ⟨_, PSs.nox (pss_cons (ps_set (i := 1) sc__law_far.nd rfl (by first | exact Or.inl rfl | exact Or.inr rfl) (pe_c (call_g (G__law_great T) (hr.mono (by decide)) pass0) (kp__law_great T) rfl (g__law_great T) (pa_cons (pv 0) pa_nil)))
    (pss_cons (ps_if (pt_cmpR op_eq (pe_c (call_g (G__law_draw T) (hr.mono (by decide)) pass0) (kp__law_draw T) rfl (g__law_draw T) (pa_cons (pv 0) (pa_cons pe_int pa_nil))) pe_int (nomark _)) (pss_one (ps_set (i := 1) sc__law_far.nd rfl (by first | exact Or.inl rfl | exact Or.inr rfl) (pe_op (op_add) (pe_op (op_mulW) (pv 1) (pe_op (op_pow) pe_int pe_int)) (pe_c (call_g (G__law_draw T) (hr.mono (by decide)) pass0) (kp__law_draw T) rfl (g__law_draw T) (pa_cons (pv 0) (pa_cons (pe_op (op_pow) pe_int pe_int) pa_nil)))))) pss_nil)
    (pss_one (ps_ret (pe_op (op_mulW) (pv 1) (pe_c (call_g (G__law_pick T) (hr.mono (by decide)) pass0) (kp__law_pick T) rfl (g__law_pick T) (pa_cons (pv 0) (pa_cons (pe_lst (pa_cons pe_int (pa_cons (pe_un un_neg pe_int) pa_nil))) pa_nil)))))))), ?_⟩
  refine body_S (f := fun (as : Unit) s => f__law_far s) h 1 (fun _ => rfl) fun e q as s hm hR => ?_
  obtain ⟨⟩ := as
  exact ((sv_asg (fun (found_199 : Int) (s_200 : Pot) =>
let j_203 : (Int × Unit) → Pot → _ := (fun (c_208 : (Int × Unit)) (s_209 : Pot) =>
  (f__law_pick ([(1 : Int), (-(1 : Int))] : List Int) s_209).bind fun o_210 =>
  if CMulW c_208.1 o_210.1 then
    some ((c_208.1 * o_210.1), o_210.2)
  else none)
(f__law_draw (4 : Int) s_200).bind fun o_212 =>
if (decide (o_212.1 = (0 : Int))) = true then
  let s_201 : Pot := o_212.2
  if CMulW found_199 (10000000 : Int) then
    (f__law_draw (10000000 : Int) s_201).bind fun o_206 =>
    let found_204 : Int := ((found_199 * (10000000 : Int)) + o_206.1)
    let s_205 : Pot := o_206.2
    j_203 (found_204, ()) s_205
  else none
else
let s_202 : Pot := o_212.2
j_203 (found_199, ()) s_202) (ev_callSP hm (f := fun (as : Unit) (s : Pot) => f__law_great s) (puA_cons (pu_var 0 rfl) fun _ => puA_nil)) (tg_name 1) (fun found_199 s_200 => (let j_203 : (Int × Unit) → Pot → _ := (fun (c_208 : (Int × Unit)) (s_209 : Pot) =>
  (f__law_pick ([(1 : Int), (-(1 : Int))] : List Int) s_209).bind fun o_210 =>
  if CMulW c_208.1 o_210.1 then
    some ((c_208.1 * o_210.1), o_210.2)
  else none); sv_join j_203 (ς := (Int × Unit)) (NJ := fun c_208 => []) (tJ := fun c_208 => [some (av K (PRef.mk (q := q))), some (av K c_208.1)]) (sv_ifL (fun (s_201 : Pot) =>
if CMulW found_199 (10000000 : Int) then
  (f__law_draw (10000000 : Int) s_201).bind fun o_206 =>
  let found_204 : Int := ((found_199 * (10000000 : Int)) + o_206.1)
  let s_205 : Pot := o_206.2
  j_203 (found_204, ()) s_205
else none) (fun (s_202 : Pot) =>
j_203 (found_199, ()) s_202) (evT_test (ev_op (ev_callSP hm (f := fun (as : Int × Unit) (s : Pot) => f__law_draw as.1 s) (puA_cons (pu_var 0 rfl) fun _ => (puA_cons (pu_int 4) fun _ => puA_nil))) (fun _ _ _ => (Pu.ev (pu_int 0))) o_eqI)) (fun s_201 => (sv_last (sv_asg (fun (found_204 : Int) (s_205 : Pot) =>
j_203 (found_204, ()) s_205) (ev_op (ev_opC (Pu.ev (pu_var 1 rfl)) (fun _ _ _ => (Pu.ev (pu_pow (i := 10) (j := 7) (c := 10000000) (by decide +kernel) (by decide +kernel)))) o_mul) (fun _ _ _ => (ev_callSP hm (f := fun (as : Int × Unit) (s : Pot) => f__law_draw as.1 s) (puA_cons (pu_var 0 rfl) fun _ => (puA_cons (pu_pow (i := 10) (j := 7) (c := 10000000) (by decide +kernel) (by decide +kernel)) fun _ => puA_nil)))) o_add) (tg_name 1) (fun found_204 s_205 => (sv_endJ (j := j_203) (s := s_205) (found_204, ()) rfl (Sub.keep (Sub.keep Sub.nil)))) (by exact rfl)))) (fun s_202 => (sv_endJ (j := j_203) (s := s_202) (found_199, ()) rfl (Sub.keep (Sub.keep Sub.nil)))) (by exact rfl)) fun c_208 s_209 => (sv_ret hR (ev_opC (Pu.ev (pu_var 1 rfl)) (fun _ _ _ => (ev_callSP hm (f := fun (as : (List Int) × Unit) (s : Pot) => f__law_pick as.1 s) (puA_cons (pu_var 0 rfl) fun _ => (puA_cons (puL_lst (puL_cons (pu_int 1) fun _ => (puL_cons (pu_un (pu_int 1) o_neg) fun _ => (puL_nil (α := Int)))) (Nat.le_of_ble_eq_true rfl)) fun _ => puA_nil)))) o_mul) (by exact rfl)))) (by exact rfl)) : Sv e e.S0 [] [some (av K (PRef.mk (q := q))), none] [] _ s _ (fun _ H => e.rt .non H) nF nF)
theorem sp_len__law_far : ∀ vs H Q E, (P__law_far K) vs H Q E → vs.length = 1 := fun vs H Q E h => by obtain ⟨_, _, us, as, _, _, _, _, _, e, _, hA, _⟩ := h; subst e; exact congrArg (· + 1) hA.len
theorem G__law_far (T : Tx K mg) : FnG P w K mg base CX0 7 (ga K "_law_far") (P__law_far K) := by
  obtain ⟨fd, F⟩ := F__law_far T
  have b : L2.Binds K fd ["_law_pot_here"] [] := F.bindsN fun _ _ _ _ _ _ us hl => match us, hl with | [_], _ => rfl
  exact fnG_pl F sc__law_far b sp_len__law_far (B__law_far T)
theorem sc_check_cell : FnScope ["cell"] ["cell"] (defScope s_check_cell) := ⟨rfl, rfl, rfl, by decide +kernel, rfl, by decide +kernel, by decide +kernel⟩
def f_check_cell (x_cell : Int) : Option Unit :=
  (f_is_integer x_cell).bind fun o_216 =>
  if (!o_216) = true then
    none
  else
  some ()
abbrev P_check_cell (K : Frag) : Sp := SpF K (fun as : Int × Unit => f_check_cell as.1)
theorem B_check_cell (T : Tx K mg) : BodyG CX0 P w K mg base ["cell"] "check_cell" (defScope s_check_cell) (defBody s_check_cell) 2 (ga K "check_cell") (P_check_cell K) := by
  intro cdv A outer s0 H vs Q E hr h
  have hu := hr.units
  have hu1 := hr.units1
  refine ⟨_, PSs.nox (pss_one (ps_if (pt_not (pt_val (pe_c (call_g (G_is_integer T) (hr.mono (by decide)) pass0) (kp_is_integer T) rfl (g_is_integer T) (pa_cons (pv 0) pa_nil)))) (pss_one ps_never) pss_nil)), ?_⟩
  refine body_F (f := fun as : Int × Unit => f_check_cell as.1) h 0 (fun _ => rfl) fun e as hm hR => ?_
  obtain ⟨x_cell, _⟩ := as
  exact ((sv_ifL (fun (_ : Unit) =>
none) (fun (_ : Unit) =>
some ()) (evT_not (evT_B (ev_callP (f := fun (as : Int × Unit) => f_is_integer as.1) (puA_cons (pu_var 0 rfl) fun _ => puA_nil)))) (fun _ => sv_dead) (fun _ => (sv_fall hR)) (by exact rfl)) : Sv e e.S0 [] [some (av K x_cell)] [] _ () _ (fun _ H => e.rt .non H) nF nF)
theorem sp_len_check_cell : ∀ vs H Q E, (P_check_cell K) vs H Q E → vs.length = 1 := fun vs H Q E h => by obtain ⟨_, as, _, _, hA, _⟩ := h; exact hA.len
theorem G_check_cell (T : Tx K mg) : FnG P w K mg base CX0 3 (ga K "check_cell") (P_check_cell K) := by
  obtain ⟨fd, F⟩ := F_check_cell T
  have b : L2.Binds K fd ["cell"] [] := F.bindsN fun _ _ _ _ _ _ us hl => match us, hl with | [_], _ => rfl
  exact fnG_pl F sc_check_cell b sp_len_check_cell (B_check_cell T)
theorem sc_Ladder_holders : FnScope ["self", "level", "cell", "side", "low", "high"] ["self", "level", "cell"] (defScope s_Ladder_holders) := ⟨rfl, rfl, rfl, by decide +kernel, rfl, by decide +kernel, by decide +kernel⟩
def f_Ladder_holders (x_self : O_Ladder) (x_level : Int) (x_cell : Int) : Option (Int × Int) :=
  (f_Ladder_side x_self x_level).bind fun o_222 =>
  let side_217 : Int := o_222
  (f_check_cell x_cell).bind fun o_221 =>
  (atI x_self.edges.l x_level).bind fun o_220 =>
  let t_219 : (Int × Int) := o_220
  if CDivW (x_cell - t_219.2) side_217 then
    if CDivW (x_cell + t_219.1) side_217 then
      some ((((x_cell - t_219.2) / side_217), ((x_cell + t_219.1) / side_217)) : (Int × Int))
    else none
  else none
abbrev P_Ladder_holders (K : Frag) : Sp := SpF K (fun as : O_Ladder × Int × Int × Unit => f_Ladder_holders as.1 as.2.1 as.2.2.1)
theorem B_Ladder_holders (T : Tx K mg) : BodyG CX0 P w K mg base ["self", "level", "cell", "side", "low", "high"] "Ladder.holders" (defScope s_Ladder_holders) (defBody s_Ladder_holders) 10 (ma K (ga K "Ladder") "holders") (P_Ladder_holders K) := by
  intro cdv A outer s0 H vs Q E hr h
  have hu := hr.units
  have hu1 := hr.units1
  refine ⟨_, PSs.nox (pss_cons (ps_set (i := 3) sc_Ladder_holders.nd rfl (by first | exact Or.inl rfl | exact Or.inr rfl) (pe_m (call_g (G_Ladder_side T) (hr.mono (by decide)) pass0) (pv 0) (c_Ladder T) (m_Ladder_side T) (pa_cons (pv 1) pa_nil)))
    (pss_cons (ps_expr (pe_c (call_g (G_check_cell T) (hr.mono (by decide)) pass0) (kp_check_cell T) rfl (g_check_cell T) (pa_cons (pv 2) pa_nil)))
    (pss_cons (ps_asg (pe_ix (ix_tup) (pe_fld (pv 0) rfl) (pv 1) (fun _ _ => rfl)) (pg_tupK (K := K) (n := 2) rfl rfl (pgs_cons (pg_name (i := 4) sc_Ladder_holders.nd rfl (by first | exact Or.inl rfl | exact Or.inr rfl)) (pgs_cons (pg_name (i := 5) sc_Ladder_holders.nd rfl (by first | exact Or.inl rfl | exact Or.inr rfl)) pgs_nil))))
    (pss_one (ps_ret (pe_tup (pa_cons (pe_op (op_fdivW) (pe_op (op_sub) (pv 2) (pv 5)) (pv 3)) (pa_cons (pe_op (op_fdivW) (pe_op (op_add) (pv 2) (pv 4)) (pv 3)) pa_nil)))))))), ?_⟩
  refine body_F (f := fun as : O_Ladder × Int × Int × Unit => f_Ladder_holders as.1 as.2.1 as.2.2.1) h 3 (fun _ => rfl) fun e as hm hR => ?_
  obtain ⟨x_self, x_level, x_cell, _⟩ := as
  exact ((sv_asg (fun (side_217 : Int) (_ : Unit) =>
(f_check_cell x_cell).bind fun o_221 =>
(atI x_self.edges.l x_level).bind fun o_220 =>
let t_219 : (Int × Int) := o_220
if CDivW (x_cell - t_219.2) side_217 then
  if CDivW (x_cell + t_219.1) side_217 then
    some ((((x_cell - t_219.2) / side_217), ((x_cell + t_219.1) / side_217)) : (Int × Int))
  else none
else none) (ev_methP (m := "side") (f := fun (as : O_Ladder × Int × Unit) => f_Ladder_side as.1 as.2.1) rfl (pu_var 0 rfl) fun _ => (puA_cons (pu_var 1 rfl) fun _ => puA_nil)) (tg_name 3) (fun side_217 _ => (sv_expr (fun (_ : Unit) (_ : Unit) =>
(atI x_self.edges.l x_level).bind fun o_220 =>
let t_219 : (Int × Int) := o_220
if CDivW (x_cell - t_219.2) side_217 then
  if CDivW (x_cell + t_219.1) side_217 then
    some ((((x_cell - t_219.2) / side_217), ((x_cell + t_219.1) / side_217)) : (Int × Int))
  else none
else none) (ev_callP (f := fun (as : Int × Unit) => f_check_cell as.1) (puA_cons (pu_var 2 rfl) fun _ => puA_nil)) (fun _ _ => (sv_asg (fun (t_219 : (Int × Int)) (_ : Unit) =>
if CDivW (x_cell - t_219.2) side_217 then
  if CDivW (x_cell + t_219.1) side_217 then
    some ((((x_cell - t_219.2) / side_217), ((x_cell + t_219.1) / side_217)) : (Int × Int))
  else none
else none) (ev_opO (Pu.ev (pu_fld 2 (c_Ladder T) (n_Ladder__edges T) (pu_var 0 rfl) rfl rfl)) (fun _ _ _ => (Pu.ev (pu_var 1 rfl))) o_ixT) (tg_tup2 (tgs_cons (tg_name 4) (tgs_cons (tg_name 5) tgs_nil))) (fun t_219 _ => (sv_ret hR (ev_tup2 (ev_opC (Pu.ev (pu_op (pu_var 2 rfl) (fun _ => (pu_var 5 rfl)) o_sub)) (fun _ _ _ => (Pu.ev (pu_var 3 rfl))) o_fdiv) (fun _ _ _ => (ev_opC (Pu.ev (pu_op (pu_var 2 rfl) (fun _ => (pu_var 4 rfl)) o_add)) (fun _ _ _ => (Pu.ev (pu_var 3 rfl))) o_fdiv))) (by exact rfl))) (by exact rfl))) (by exact rfl))) (by exact rfl)) : Sv e e.S0 [] [some (av K x_self), some (av K x_level), some (av K x_cell), none, none, none] [] _ () _ (fun _ H => e.rt .non H) nF nF)
theorem sp_len_Ladder_holders : ∀ vs H Q E, (P_Ladder_holders K) vs H Q E → vs.length = 3 := fun vs H Q E h => by obtain ⟨_, as, _, _, hA, _⟩ := h; exact hA.len
theorem G_Ladder_holders (T : Tx K mg) : FnG P w K mg base CX0 11 (ma K (ga K "Ladder") "holders") (P_Ladder_holders K) := by
  obtain ⟨fd, F⟩ := F_Ladder_holders T
  have b : L2.Binds K fd ["self", "level", "cell"] [] := F.bindsN fun _ _ _ _ _ _ us hl => match us, hl with | [_, _, _], _ => rfl
  exact fnG_pl F sc_Ladder_holders b sp_len_Ladder_holders (B_Ladder_holders T)
theorem sc_check_tile : FnScope ["tile"] ["tile"] (defScope s_check_tile) := ⟨rfl, rfl, rfl, by decide +kernel, rfl, by decide +kernel, by decide +kernel⟩
def f_check_tile (x_tile : Int) : Option Unit :=
  (f_is_integer x_tile).bind fun o_223 =>
  if (!o_223) = true then
    none
  else
  some ()
abbrev P_check_tile (K : Frag) : Sp := SpF K (fun as : Int × Unit => f_check_tile as.1)
theorem B_check_tile (T : Tx K mg) : BodyG CX0 P w K mg base ["tile"] "check_tile" (defScope s_check_tile) (defBody s_check_tile) 2 (ga K "check_tile") (P_check_tile K) := by
  intro cdv A outer s0 H vs Q E hr h
  have hu := hr.units
  have hu1 := hr.units1
  refine ⟨_, PSs.nox (pss_one (ps_if (pt_not (pt_val (pe_c (call_g (G_is_integer T) (hr.mono (by decide)) pass0) (kp_is_integer T) rfl (g_is_integer T) (pa_cons (pv 0) pa_nil)))) (pss_one ps_never) pss_nil)), ?_⟩
  refine body_F (f := fun as : Int × Unit => f_check_tile as.1) h 0 (fun _ => rfl) fun e as hm hR => ?_
  obtain ⟨x_tile, _⟩ := as
  exact ((sv_ifL (fun (_ : Unit) =>
none) (fun (_ : Unit) =>
some ()) (evT_not (evT_B (ev_callP (f := fun (as : Int × Unit) => f_is_integer as.1) (puA_cons (pu_var 0 rfl) fun _ => puA_nil)))) (fun _ => sv_dead) (fun _ => (sv_fall hR)) (by exact rfl)) : Sv e e.S0 [] [some (av K x_tile)] [] _ () _ (fun _ H => e.rt .non H) nF nF)
theorem sp_len_check_tile : ∀ vs H Q E, (P_check_tile K) vs H Q E → vs.length = 1 := fun vs H Q E h => by obtain ⟨_, as, _, _, hA, _⟩ := h; exact hA.len
theorem G_check_tile (T : Tx K mg) : FnG P w K mg base CX0 3 (ga K "check_tile") (P_check_tile K) := by
  obtain ⟨fd, F⟩ := F_check_tile T
  have b : L2.Binds K fd ["tile"] [] := F.bindsN fun _ _ _ _ _ _ us hl => match us, hl with | [_], _ => rfl
  exact fnG_pl F sc_check_tile b sp_len_check_tile (B_check_tile T)
theorem sc_Ladder_owned : FnScope ["self", "level", "tile", "side"] ["self", "level", "tile"] (defScope s_Ladder_owned) := ⟨rfl, rfl, rfl, by decide +kernel, rfl, by decide +kernel, by decide +kernel⟩
def f_Ladder_owned (x_self : O_Ladder) (x_level : Int) (x_tile : Int) : Option (Int × Int) :=
  (f_Ladder_side x_self x_level).bind fun o_227 =>
  let side_224 : Int := o_227
  (f_check_tile x_tile).bind fun o_226 =>
  if CMulW x_tile side_224 then
    if CMulW x_tile side_224 then
      some (((x_tile * side_224), (((x_tile * side_224) + side_224) - (1 : Int))) : (Int × Int))
    else none
  else none
abbrev P_Ladder_owned (K : Frag) : Sp := SpF K (fun as : O_Ladder × Int × Int × Unit => f_Ladder_owned as.1 as.2.1 as.2.2.1)
theorem B_Ladder_owned (T : Tx K mg) : BodyG CX0 P w K mg base ["self", "level", "tile", "side"] "Ladder.owned" (defScope s_Ladder_owned) (defBody s_Ladder_owned) 10 (ma K (ga K "Ladder") "owned") (P_Ladder_owned K) := by
  intro cdv A outer s0 H vs Q E hr h
  have hu := hr.units
  have hu1 := hr.units1
  refine ⟨_, PSs.nox (pss_cons (ps_set (i := 3) sc_Ladder_owned.nd rfl (by first | exact Or.inl rfl | exact Or.inr rfl) (pe_m (call_g (G_Ladder_side T) (hr.mono (by decide)) pass0) (pv 0) (c_Ladder T) (m_Ladder_side T) (pa_cons (pv 1) pa_nil)))
    (pss_cons (ps_expr (pe_c (call_g (G_check_tile T) (hr.mono (by decide)) pass0) (kp_check_tile T) rfl (g_check_tile T) (pa_cons (pv 2) pa_nil)))
    (pss_one (ps_ret (pe_tup (pa_cons (pe_op (op_mulW) (pv 2) (pv 3)) (pa_cons (pe_op (op_sub) (pe_op (op_add) (pe_op (op_mulW) (pv 2) (pv 3)) (pv 3)) pe_int) pa_nil))))))), ?_⟩
  refine body_F (f := fun as : O_Ladder × Int × Int × Unit => f_Ladder_owned as.1 as.2.1 as.2.2.1) h 1 (fun _ => rfl) fun e as hm hR => ?_
  obtain ⟨x_self, x_level, x_tile, _⟩ := as
  exact ((sv_asg (fun (side_224 : Int) (_ : Unit) =>
(f_check_tile x_tile).bind fun o_226 =>
if CMulW x_tile side_224 then
  if CMulW x_tile side_224 then
    some (((x_tile * side_224), (((x_tile * side_224) + side_224) - (1 : Int))) : (Int × Int))
  else none
else none) (ev_methP (m := "side") (f := fun (as : O_Ladder × Int × Unit) => f_Ladder_side as.1 as.2.1) rfl (pu_var 0 rfl) fun _ => (puA_cons (pu_var 1 rfl) fun _ => puA_nil)) (tg_name 3) (fun side_224 _ => (sv_expr (fun (_ : Unit) (_ : Unit) =>
if CMulW x_tile side_224 then
  if CMulW x_tile side_224 then
    some (((x_tile * side_224), (((x_tile * side_224) + side_224) - (1 : Int))) : (Int × Int))
  else none
else none) (ev_callP (f := fun (as : Int × Unit) => f_check_tile as.1) (puA_cons (pu_var 2 rfl) fun _ => puA_nil)) (fun _ _ => (sv_ret hR (ev_tup2 (ev_opC (Pu.ev (pu_var 2 rfl)) (fun _ _ _ => (Pu.ev (pu_var 3 rfl))) o_mul) (fun _ _ _ => (ev_op (ev_op (ev_opC (Pu.ev (pu_var 2 rfl)) (fun _ _ _ => (Pu.ev (pu_var 3 rfl))) o_mul) (fun _ _ _ => (Pu.ev (pu_var 3 rfl))) o_add) (fun _ _ _ => (Pu.ev (pu_int 1))) o_sub))) (by exact rfl))) (by exact rfl))) (by exact rfl)) : Sv e e.S0 [] [some (av K x_self), some (av K x_level), some (av K x_tile), none] [] _ () _ (fun _ H => e.rt .non H) nF nF)
theorem sp_len_Ladder_owned : ∀ vs H Q E, (P_Ladder_owned K) vs H Q E → vs.length = 3 := fun vs H Q E h => by obtain ⟨_, as, _, _, hA, _⟩ := h; exact hA.len
theorem G_Ladder_owned (T : Tx K mg) : FnG P w K mg base CX0 11 (ma K (ga K "Ladder") "owned") (P_Ladder_owned K) := by
  obtain ⟨fd, F⟩ := F_Ladder_owned T
  have b : L2.Binds K fd ["self", "level", "tile"] [] := F.bindsN fun _ _ _ _ _ _ us hl => match us, hl with | [_, _, _], _ => rfl
  exact fnG_pl F sc_Ladder_owned b sp_len_Ladder_owned (B_Ladder_owned T)
theorem sc_Ladder_held : FnScope ["self", "level", "tile", "first", "last", "low", "high"] ["self", "level", "tile"] (defScope s_Ladder_held) := ⟨rfl, rfl, rfl, by decide +kernel, rfl, by decide +kernel, by decide +kernel⟩
def f_Ladder_held (x_self : O_Ladder) (x_level : Int) (x_tile : Int) : Option (Int × Int) :=
  (f_Ladder_owned x_self x_level x_tile).bind fun o_231 =>
  let t_228 : (Int × Int) := o_231
  (atI x_self.edges.l x_level).bind fun o_230 =>
  let t_229 : (Int × Int) := o_230
  some (((t_228.1 - t_229.1), (t_228.2 + t_229.2)) : (Int × Int))
abbrev P_Ladder_held (K : Frag) : Sp := SpF K (fun as : O_Ladder × Int × Int × Unit => f_Ladder_held as.1 as.2.1 as.2.2.1)
theorem B_Ladder_held (T : Tx K mg) : BodyG CX0 P w K mg base ["self", "level", "tile", "first", "last", "low", "high"] "Ladder.held" (defScope s_Ladder_held) (defBody s_Ladder_held) 12 (ma K (ga K "Ladder") "held") (P_Ladder_held K) := by
  intro cdv A outer s0 H vs Q E hr h
  have hu := hr.units
  have hu1 := hr.units1
  refine ⟨_, PSs.nox (pss_cons (ps_asg (pe_m (call_g (G_Ladder_owned T) (hr.mono (by decide)) pass0) (pv 0) (c_Ladder T) (m_Ladder_owned T) (pa_cons (pv 1) (pa_cons (pv 2) pa_nil))) (pg_tupK (K := K) (n := 2) rfl rfl (pgs_cons (pg_name (i := 3) sc_Ladder_held.nd rfl (by first | exact Or.inl rfl | exact Or.inr rfl)) (pgs_cons (pg_name (i := 4) sc_Ladder_held.nd rfl (by first | exact Or.inl rfl | exact Or.inr rfl)) pgs_nil))))
    (pss_cons (ps_asg (pe_ix (ix_tup) (pe_fld (pv 0) rfl) (pv 1) (fun _ _ => rfl)) (pg_tupK (K := K) (n := 2) rfl rfl (pgs_cons (pg_name (i := 5) sc_Ladder_held.nd rfl (by first | exact Or.inl rfl | exact Or.inr rfl)) (pgs_cons (pg_name (i := 6) sc_Ladder_held.nd rfl (by first | exact Or.inl rfl | exact Or.inr rfl)) pgs_nil))))
    (pss_one (ps_ret (pe_tup (pa_cons (pe_op (op_sub) (pv 3) (pv 5)) (pa_cons (pe_op (op_add) (pv 4) (pv 6)) pa_nil))))))), ?_⟩
  refine body_F (f := fun as : O_Ladder × Int × Int × Unit => f_Ladder_held as.1 as.2.1 as.2.2.1) h 4 (fun _ => rfl) fun e as hm hR => ?_
  obtain ⟨x_self, x_level, x_tile, _⟩ := as
  exact ((sv_asg (fun (t_228 : (Int × Int)) (_ : Unit) =>
(atI x_self.edges.l x_level).bind fun o_230 =>
let t_229 : (Int × Int) := o_230
some (((t_228.1 - t_229.1), (t_228.2 + t_229.2)) : (Int × Int))) (ev_methP (m := "owned") (f := fun (as : O_Ladder × Int × Int × Unit) => f_Ladder_owned as.1 as.2.1 as.2.2.1) rfl (pu_var 0 rfl) fun _ => (puA_cons (pu_var 1 rfl) fun _ => (puA_cons (pu_var 2 rfl) fun _ => puA_nil))) (tg_tup2 (tgs_cons (tg_name 3) (tgs_cons (tg_name 4) tgs_nil))) (fun t_228 _ => (sv_asg (fun (t_229 : (Int × Int)) (_ : Unit) =>
some (((t_228.1 - t_229.1), (t_228.2 + t_229.2)) : (Int × Int))) (ev_opO (Pu.ev (pu_fld 2 (c_Ladder T) (n_Ladder__edges T) (pu_var 0 rfl) rfl rfl)) (fun _ _ _ => (Pu.ev (pu_var 1 rfl))) o_ixT) (tg_tup2 (tgs_cons (tg_name 5) (tgs_cons (tg_name 6) tgs_nil))) (fun t_229 _ => (sv_ret hR (Pu.ev (pu_tup2 (pu_op (pu_var 3 rfl) (fun _ => (pu_var 5 rfl)) o_sub) (fun _ => (pu_op (pu_var 4 rfl) (fun _ => (pu_var 6 rfl)) o_add)))) (by exact rfl))) (by exact rfl))) (by exact rfl)) : Sv e e.S0 [] [some (av K x_self), some (av K x_level), some (av K x_tile), none, none, none, none] [] _ () _ (fun _ H => e.rt .non H) nF nF)
theorem sp_len_Ladder_held : ∀ vs H Q E, (P_Ladder_held K) vs H Q E → vs.length = 3 := fun vs H Q E h => by obtain ⟨_, as, _, _, hA, _⟩ := h; exact hA.len
theorem G_Ladder_held (T : Tx K mg) : FnG P w K mg base CX0 13 (ma K (ga K "Ladder") "held") (P_Ladder_held K) := by
  obtain ⟨fd, F⟩ := F_Ladder_held T
  have b : L2.Binds K fd ["self", "level", "tile"] [] := F.bindsN fun _ _ _ _ _ _ us hl => match us, hl with | [_, _, _], _ => rfl
  exact fnG_pl F sc_Ladder_held b sp_len_Ladder_held (B_Ladder_held T)
theorem sc_Ladder_holds : FnScope ["self", "level", "tile", "cell", "first", "last"] ["self", "level", "tile", "cell"] (defScope s_Ladder_holds) := ⟨rfl, rfl, rfl, by decide +kernel, rfl, by decide +kernel, by decide +kernel⟩
def f_Ladder_holds (x_self : O_Ladder) (x_level : Int) (x_tile : Int) (x_cell : Int) : Option Bool :=
  (f_Ladder_held x_self x_level x_tile).bind fun o_235 =>
  let t_232 : (Int × Int) := o_235
  (f_check_cell x_cell).bind fun o_234 =>
  some (decide (t_232.1 ≤ x_cell) && decide (x_cell ≤ t_232.2))
abbrev P_Ladder_holds (K : Frag) : Sp := SpF K (fun as : O_Ladder × Int × Int × Int × Unit => f_Ladder_holds as.1 as.2.1 as.2.2.1 as.2.2.2.1)
theorem B_Ladder_holds (T : Tx K mg) : BodyG CX0 P w K mg base ["self", "level", "tile", "cell", "first", "last"] "Ladder.holds" (defScope s_Ladder_holds) (defBody s_Ladder_holds) 14 (ma K (ga K "Ladder") "holds") (P_Ladder_holds K) := by
  intro cdv A outer s0 H vs Q E hr h
  have hu := hr.units
  have hu1 := hr.units1
  refine ⟨_, PSs.nox (pss_cons (ps_asg (pe_m (call_g (G_Ladder_held T) (hr.mono (by decide)) pass0) (pv 0) (c_Ladder T) (m_Ladder_held T) (pa_cons (pv 1) (pa_cons (pv 2) pa_nil))) (pg_tupK (K := K) (n := 2) rfl rfl (pgs_cons (pg_name (i := 4) sc_Ladder_holds.nd rfl (by first | exact Or.inl rfl | exact Or.inr rfl)) (pgs_cons (pg_name (i := 5) sc_Ladder_holds.nd rfl (by first | exact Or.inl rfl | exact Or.inr rfl)) pgs_nil))))
    (pss_cons (ps_expr (pe_c (call_g (G_check_cell T) (hr.mono (by decide)) pass0) (kp_check_cell T) rfl (g_check_cell T) (pa_cons (pv 3) pa_nil)))
    (pss_one (ps_ret (pe_chain op_le op_le (pv 4) (pv 3) (pv 5)))))), ?_⟩
  refine body_F (f := fun as : O_Ladder × Int × Int × Int × Unit => f_Ladder_holds as.1 as.2.1 as.2.2.1 as.2.2.2.1) h 2 (fun _ => rfl) fun e as hm hR => ?_
  obtain ⟨x_self, x_level, x_tile, x_cell, _⟩ := as
  exact ((sv_asg (fun (t_232 : (Int × Int)) (_ : Unit) =>
(f_check_cell x_cell).bind fun o_234 =>
some (decide (t_232.1 ≤ x_cell) && decide (x_cell ≤ t_232.2))) (ev_methP (m := "held") (f := fun (as : O_Ladder × Int × Int × Unit) => f_Ladder_held as.1 as.2.1 as.2.2.1) rfl (pu_var 0 rfl) fun _ => (puA_cons (pu_var 1 rfl) fun _ => (puA_cons (pu_var 2 rfl) fun _ => puA_nil))) (tg_tup2 (tgs_cons (tg_name 4) (tgs_cons (tg_name 5) tgs_nil))) (fun t_232 _ => (sv_expr (fun (_ : Unit) (_ : Unit) =>
some (decide (t_232.1 ≤ x_cell) && decide (x_cell ≤ t_232.2))) (ev_callP (f := fun (as : Int × Unit) => f_check_cell as.1) (puA_cons (pu_var 3 rfl) fun _ => puA_nil)) (fun _ _ => (sv_ret hR (Pu.ev (pu_chain (pu_var 4 rfl) (fun _ => (pu_var 3 rfl)) (fun _ _ => (pu_var 5 rfl)) o_le o_le)) (by exact rfl))) (by exact rfl))) (by exact rfl)) : Sv e e.S0 [] [some (av K x_self), some (av K x_level), some (av K x_tile), some (av K x_cell), none, none] [] _ () _ (fun _ H => e.rt .non H) nF nF)
theorem sp_len_Ladder_holds : ∀ vs H Q E, (P_Ladder_holds K) vs H Q E → vs.length = 4 := fun vs H Q E h => by obtain ⟨_, as, _, _, hA, _⟩ := h; exact hA.len
theorem G_Ladder_holds (T : Tx K mg) : FnG P w K mg base CX0 15 (ma K (ga K "Ladder") "holds") (P_Ladder_holds K) := by
  obtain ⟨fd, F⟩ := F_Ladder_holds T
  have b : L2.Binds K fd ["self", "level", "tile", "cell"] [] := F.bindsN fun _ _ _ _ _ _ us hl => match us, hl with | [_, _, _, _], _ => rfl
  exact fnG_pl F sc_Ladder_holds b sp_len_Ladder_holds (B_Ladder_holds T)
theorem sc__law_counted : FnScope ["_law_one", "_law_at", "_law_start", "_law_wide", "_law_found", "_law_place", "_law_early", "_law_late", "_law_spots", "_law_spot"] ["_law_one", "_law_at", "_law_start", "_law_wide"] (defScope s__law_counted) := ⟨rfl, rfl, rfl, by decide +kernel, rfl, by decide +kernel, by decide +kernel⟩
def f__law_counted (x_one : O_Ladder) (x_at : Int) (x_start : Int) (x_wide : Int) : Option (List Int) :=
  if RgW x_start (x_start + x_wide) then
    forK (rg x_start (x_start + x_wide)) (([] : List Int), ()) ()
      (fun (y_240 : Int) (c_239 : ((List Int) × Unit)) (_ : Unit) (next_237 : ((List Int) × Unit) → Unit → _) (done_238 : ((List Int) × Unit) → Unit → _) =>
        (f_Ladder_holders x_one x_at y_240).bind fun o_250 =>
        let t_241 : (Int × Int) := o_250
        let spots_242 : (List Int) := ([(t_241.1 - (1 : Int)), t_241.1, t_241.2, (t_241.2 + (1 : Int))] : List Int)
        mapK spots_242 ()
          (fun (y_243 : Int) _ (nx_244 : Bool → Unit → _) =>
            (f_Ladder_holds x_one x_at y_243 y_240).bind fun o_248 =>
            nx_244 o_248 ())
          (fun (l_249 : List Bool) _ =>
            if (!decide (l_249 = ([false, true, true, false] : List Bool))) = true then
              some ([] : List Int)
            else
            if (c_239.1).length < sizeLine then
              let a_246 : Int := ((t_241.2 - t_241.1) + (1 : Int))
              let found_247 : List Int := c_239.1 ++ [a_246]
              next_237 (found_247, ()) ()
            else none))
      (fun (c_251 : ((List Int) × Unit)) (_ : Unit) =>
        some c_251.1)
  else none
abbrev P__law_counted (K : Frag) : Sp := SpF K (fun as : O_Ladder × Int × Int × Int × Unit => f__law_counted as.1 as.2.1 as.2.2.1 as.2.2.2.1)
theorem B__law_counted (T : Tx K mg) : BodyG CX0 P w K mg base ["_law_one", "_law_at", "_law_start", "_law_wide", "_law_found", "_law_place", "_law_early", "_law_late", "_law_spots", "_law_spot"] "_law_counted" (defScope s__law_counted) (defBody s__law_counted) 16 (ga K "_law_counted") (P__law_counted K) := by
  intro cdv A outer s0 H vs Q E hr h
  have hu := hr.units
  have hu1 := hr.units1
  refine ⟨_, PSs.nox (pss_cons (ps_set (i := 4) sc__law_counted.nd rfl (by first | exact Or.inl rfl | exact Or.inr rfl) (pe_lst pa_nil))
    (pss_cons (ps_for PassesOwn.never rfl (pi_rangeW rfl (z_range T) (pa_cons (pv 2) (pa_cons (pe_op (op_add) (pv 2) (pv 3)) pa_nil))) (pg_name (i := 5) sc__law_counted.nd rfl (by first | exact Or.inl rfl | exact Or.inr rfl))
    (pss_cons (ps_asg (pe_m (call_g (G_Ladder_holders T) (hr.mono (by decide)) pass0) (pv 0) (c_Ladder T) (m_Ladder_holders T) (pa_cons (pv 1) (pa_cons (pv 5) pa_nil))) (pg_tupK (K := K) (n := 2) rfl rfl (pgs_cons (pg_name (i := 6) sc__law_counted.nd rfl (by first | exact Or.inl rfl | exact Or.inr rfl)) (pgs_cons (pg_name (i := 7) sc__law_counted.nd rfl (by first | exact Or.inl rfl | exact Or.inr rfl)) pgs_nil))))
    (pss_cons (ps_set (i := 8) sc__law_counted.nd rfl (by first | exact Or.inl rfl | exact Or.inr rfl) (pe_lst (pa_cons (pe_op (op_sub) (pv 6) pe_int) (pa_cons (pv 6) (pa_cons (pv 7) (pa_cons (pe_op (op_add) (pv 7) pe_int) pa_nil))))))
    (pss_cons (ps_if (pt_cmpR (op_neD hu) (pe_lc rfl sc__law_counted.nd (pi_list (pv 8)) (blkOk_by (N := ["_law_one", "_law_at", "_law_start", "_law_wide", "_law_found", "_law_place", "_law_early", "_law_late", "_law_spots", "_law_spot"]) (sc := defScope s__law_counted) (own := [("_law_spot", 9)]) (by decide +kernel)) (fun _ _ _ _ _ => (pg_name (i := 9) sc__law_counted.nd rfl (by first | exact Or.inl rfl | exact Or.inr rfl))) (fun _ _ _ _ _ => pts_nil) (fun _ _ _ _ _ => (pe_m (call_g (G_Ladder_holds T) (hr.mono (by decide)) pass0) (pv 0) (c_Ladder T) (m_Ladder_holds T) (pa_cons (pv 1) (pa_cons (pv 9) (pa_cons (pv 5) pa_nil)))))) (pe_lst (pa_cons pe_bl (pa_cons pe_bl (pa_cons pe_bl (pa_cons pe_bl pa_nil))))) (nomark _)) (pss_one (ps_ret (pe_lst pa_nil))) pss_nil)
    (pss_one (ps_expr (pe_bm PySem.F.plainAttrs_list PySem.F.slot_list_append PySem.F.type_list_append mt_append (pv 4) (pa_cons (pe_op (op_add) (pe_op (op_sub) (pv 7) (pv 6)) pe_int) pa_nil))))))))
    (pss_one (ps_ret (pv 4))))), ?_⟩
  refine body_F (f := fun as : O_Ladder × Int × Int × Int × Unit => f__law_counted as.1 as.2.1 as.2.2.1 as.2.2.2.1) h 6 (fun _ => rfl) fun e as hm hR => ?_
  obtain ⟨x_one, x_at, x_start, x_wide, _⟩ := as
  exact ((sv_newL (i := 4) Int fun r_236 nf_r_236 => (sv_for (ς := ((List Int) × Unit)) (fun (y_240 : Int) (c_239 : ((List Int) × Unit)) (_ : Unit) (next_237 : ((List Int) × Unit) → Unit → _) (done_238 : ((List Int) × Unit) → Unit → _) =>
    (f_Ladder_holders x_one x_at y_240).bind fun o_250 =>
    let t_241 : (Int × Int) := o_250
    let spots_242 : (List Int) := ([(t_241.1 - (1 : Int)), t_241.1, t_241.2, (t_241.2 + (1 : Int))] : List Int)
    mapK spots_242 ()
      (fun (y_243 : Int) _ (nx_244 : Bool → Unit → _) =>
        (f_Ladder_holds x_one x_at y_243 y_240).bind fun o_248 =>
        nx_244 o_248 ())
      (fun (l_249 : List Bool) _ =>
        if (!decide (l_249 = ([false, true, true, false] : List Bool))) = true then
          some ([] : List Int)
        else
        if (c_239.1).length < sizeLine then
          let a_246 : Int := ((t_241.2 - t_241.1) + (1 : Int))
          let found_247 : List Int := c_239.1 ++ [a_246]
          next_237 (found_247, ()) ()
        else none)) (fun (c_251 : ((List Int) × Unit)) (_ : Unit) =>
    some c_251.1) (NJ := fun c_239 => [accD K r_236 (c_239.1)]) (tJ := fun c_239 => [some (av K x_one), some (av K x_at), some (av K x_start), some (av K x_wide), some (refA r_236), none, none, none, none, none]) (([] : List Int), ()) rfl (Sub.keep (Sub.keep (Sub.keep (Sub.keep (Sub.keep (Sub.keep (Sub.keep (Sub.keep (Sub.keep (Sub.keep Sub.nil)))))))))) (evI_rgW (Pu.ev (pu_var 2 rfl)) fun _ _ _ => (Pu.ev (pu_op (pu_var 2 rfl) (fun _ => (pu_var 3 rfl)) o_add))) (tg_name 5) (fun _ y_240 c_239 _ next_237 done_238 => (sv_asg (fun (t_241 : (Int × Int)) (_ : Unit) =>
let spots_242 : (List Int) := ([(t_241.1 - (1 : Int)), t_241.1, t_241.2, (t_241.2 + (1 : Int))] : List Int)
mapK spots_242 ()
  (fun (y_243 : Int) _ (nx_244 : Bool → Unit → _) =>
    (f_Ladder_holds x_one x_at y_243 y_240).bind fun o_248 =>
    nx_244 o_248 ())
  (fun (l_249 : List Bool) _ =>
    if (!decide (l_249 = ([false, true, true, false] : List Bool))) = true then
      some ([] : List Int)
    else
    if (c_239.1).length < sizeLine then
      let a_246 : Int := ((t_241.2 - t_241.1) + (1 : Int))
      let found_247 : List Int := c_239.1 ++ [a_246]
      next_237 (found_247, ()) ()
    else none)) (ev_methP (m := "holders") (f := fun (as : O_Ladder × Int × Int × Unit) => f_Ladder_holders as.1 as.2.1 as.2.2.1) rfl (pu_var 0 rfl) fun _ => (puA_cons (pu_var 1 rfl) fun _ => (puA_cons (pu_var 5 rfl) fun _ => puA_nil))) (tg_tup2 (tgs_cons (tg_name 6) (tgs_cons (tg_name 7) tgs_nil))) (fun t_241 _ => (sv_asg (fun (spots_242 : (List Int)) (_ : Unit) =>
mapK spots_242 ()
  (fun (y_243 : Int) _ (nx_244 : Bool → Unit → _) =>
    (f_Ladder_holds x_one x_at y_243 y_240).bind fun o_248 =>
    nx_244 o_248 ())
  (fun (l_249 : List Bool) _ =>
    if (!decide (l_249 = ([false, true, true, false] : List Bool))) = true then
      some ([] : List Int)
    else
    if (c_239.1).length < sizeLine then
      let a_246 : Int := ((t_241.2 - t_241.1) + (1 : Int))
      let found_247 : List Int := c_239.1 ++ [a_246]
      next_237 (found_247, ()) ()
    else none)) (Pu.ev (puL_lst (puL_cons (pu_op (pu_var 6 rfl) (fun _ => (pu_int 1)) o_sub) fun _ => (puL_cons (pu_var 6 rfl) fun _ => (puL_cons (pu_var 7 rfl) fun _ => (puL_cons (pu_op (pu_var 7 rfl) (fun _ => (pu_int 1)) o_add) fun _ => (puL_nil (α := Int)))))) (Nat.le_of_ble_eq_true rfl))) (tg_name 8) (fun spots_242 _ => (sv_ifR (fun (_ : Unit) =>
some ([] : List Int)) (fun (_ : Unit) =>
if (c_239.1).length < sizeLine then
  let a_246 : Int := ((t_241.2 - t_241.1) + (1 : Int))
  let found_247 : List Int := c_239.1 ++ [a_246]
  next_237 (found_247, ()) ()
else none) (evT_test (ev_op (ev_lc (vs := [9]) (PuI.ev (puI_list (pu_var 8 rfl))) (tg_name 9) (by decide) fun _ _ _ y_243 _ _ => (ev_methP (m := "holds") (f := fun (as : O_Ladder × Int × Int × Int × Unit) => f_Ladder_holds as.1 as.2.1 as.2.2.1 as.2.2.2.1) rfl (pu_var 0 rfl) fun _ => (puA_cons (pu_var 1 rfl) fun _ => (puA_cons (pu_var 9 rfl) fun _ => (puA_cons (pu_var 5 rfl) fun _ => puA_nil))))) (fun _ _ _ => (Pu.ev (puL_lst (puL_cons (pu_bl false) fun _ => (puL_cons (pu_bl true) fun _ => (puL_cons (pu_bl true) fun _ => (puL_cons (pu_bl false) fun _ => (puL_nil (α := Bool)))))) (Nat.le_of_ble_eq_true rfl)))) (o_neD (Nat.le_of_ble_eq_true rfl)))) (fun _ => (sv_ret hR (Pu.ev (puL_lst (puL_nil (α := Int)) (Nat.le_of_ble_eq_true rfl))) (by exact rfl))) (fun _ => (sv_last (sv_app (fun (a_246 : Int) (_ : Unit) =>
let found_247 : List Int := c_239.1 ++ [a_246]
next_237 (found_247, ()) ()) (i := 4) (j := 0) rfl rfl (Pu.ev (pu_op (pu_op (pu_var 7 rfl) (fun _ => (pu_var 6 rfl)) o_sub) (fun _ => (pu_int 1)) o_add)) (fun a_246 _ => let found_247 : List Int := c_239.1 ++ [a_246]; (sv_endJ (found_247, ()) rfl (Sub.keep (Sub.keep (Sub.keep (Sub.keep (Sub.keep (Sub.drop (Sub.drop (Sub.drop (Sub.drop (Sub.keep Sub.nil)))))))))))) (by exact rfl)))) (by exact rfl))) (by exact rfl))) (by exact rfl))) (fun c_251 _ => (sv_freeze (i := 4) rfl nf_r_236 (sv_ret hR (Pu.ev (pu_var 4 rfl)) (by exact rfl)))) (by exact rfl))) : Sv e e.S0 [] [some (av K x_one), some (av K x_at), some (av K x_start), some (av K x_wide), none, none, none, none, none, none] [] _ () _ (fun _ H => e.rt .non H) nF nF)
theorem sp_len__law_counted : ∀ vs H Q E, (P__law_counted K) vs H Q E → vs.length = 4 := fun vs H Q E h => by obtain ⟨_, as, _, _, hA, _⟩ := h; exact hA.len
theorem G__law_counted (T : Tx K mg) : FnG P w K mg base CX0 17 (ga K "_law_counted") (P__law_counted K) := by
  obtain ⟨fd, F⟩ := F__law_counted T
  have b : L2.Binds K fd ["_law_one", "_law_at", "_law_start", "_law_wide"] [] := F.bindsN fun _ _ _ _ _ _ us hl => match us, hl with | [_, _, _, _], _ => rfl
  exact fnG_pl F sc__law_counted b sp_len__law_counted (B__law_counted T)
theorem sc_Ladder_owner : FnScope ["self", "level", "cell", "side"] ["self", "level", "cell"] (defScope s_Ladder_owner) := ⟨rfl, rfl, rfl, by decide +kernel, rfl, by decide +kernel, by decide +kernel⟩
def f_Ladder_owner (x_self : O_Ladder) (x_level : Int) (x_cell : Int) : Option Int :=
  (f_Ladder_side x_self x_level).bind fun o_255 =>
  let side_252 : Int := o_255
  (f_check_cell x_cell).bind fun o_254 =>
  if CDivW x_cell side_252 then
    some (x_cell / side_252)
  else none
abbrev P_Ladder_owner (K : Frag) : Sp := SpF K (fun as : O_Ladder × Int × Int × Unit => f_Ladder_owner as.1 as.2.1 as.2.2.1)
theorem B_Ladder_owner (T : Tx K mg) : BodyG CX0 P w K mg base ["self", "level", "cell", "side"] "Ladder.owner" (defScope s_Ladder_owner) (defBody s_Ladder_owner) 10 (ma K (ga K "Ladder") "owner") (P_Ladder_owner K) := by
  intro cdv A outer s0 H vs Q E hr h
  have hu := hr.units
  have hu1 := hr.units1
  refine ⟨_, PSs.nox (pss_cons (ps_set (i := 3) sc_Ladder_owner.nd rfl (by first | exact Or.inl rfl | exact Or.inr rfl) (pe_m (call_g (G_Ladder_side T) (hr.mono (by decide)) pass0) (pv 0) (c_Ladder T) (m_Ladder_side T) (pa_cons (pv 1) pa_nil)))
    (pss_cons (ps_expr (pe_c (call_g (G_check_cell T) (hr.mono (by decide)) pass0) (kp_check_cell T) rfl (g_check_cell T) (pa_cons (pv 2) pa_nil)))
    (pss_one (ps_ret (pe_op (op_fdivW) (pv 2) (pv 3)))))), ?_⟩
  refine body_F (f := fun as : O_Ladder × Int × Int × Unit => f_Ladder_owner as.1 as.2.1 as.2.2.1) h 1 (fun _ => rfl) fun e as hm hR => ?_
  obtain ⟨x_self, x_level, x_cell, _⟩ := as
  exact ((sv_asg (fun (side_252 : Int) (_ : Unit) =>
(f_check_cell x_cell).bind fun o_254 =>
if CDivW x_cell side_252 then
  some (x_cell / side_252)
else none) (ev_methP (m := "side") (f := fun (as : O_Ladder × Int × Unit) => f_Ladder_side as.1 as.2.1) rfl (pu_var 0 rfl) fun _ => (puA_cons (pu_var 1 rfl) fun _ => puA_nil)) (tg_name 3) (fun side_252 _ => (sv_expr (fun (_ : Unit) (_ : Unit) =>
if CDivW x_cell side_252 then
  some (x_cell / side_252)
else none) (ev_callP (f := fun (as : Int × Unit) => f_check_cell as.1) (puA_cons (pu_var 2 rfl) fun _ => puA_nil)) (fun _ _ => (sv_ret hR (ev_opC (Pu.ev (pu_var 2 rfl)) (fun _ _ _ => (Pu.ev (pu_var 3 rfl))) o_fdiv) (by exact rfl))) (by exact rfl))) (by exact rfl)) : Sv e e.S0 [] [some (av K x_self), some (av K x_level), some (av K x_cell), none] [] _ () _ (fun _ H => e.rt .non H) nF nF)
theorem sp_len_Ladder_owner : ∀ vs H Q E, (P_Ladder_owner K) vs H Q E → vs.length = 3 := fun vs H Q E h => by obtain ⟨_, as, _, _, hA, _⟩ := h; exact hA.len
theorem G_Ladder_owner (T : Tx K mg) : FnG P w K mg base CX0 11 (ma K (ga K "Ladder") "owner") (P_Ladder_owner K) := by
  obtain ⟨fd, F⟩ := F_Ladder_owner T
  have b : L2.Binds K fd ["self", "level", "cell"] [] := F.bindsN fun _ _ _ _ _ _ us hl => match us, hl with | [_, _, _], _ => rfl
  exact fnG_pl F sc_Ladder_owner b sp_len_Ladder_owner (B_Ladder_owner T)
theorem sc__law_level_right : FnScope ["_law_one", "_law_rim", "_law_at", "_law_start", "_law_wide", "_law_counts", "_law_lines", "_law_spot", "_law_owned", "_law_line"] ["_law_one", "_law_rim", "_law_at", "_law_start", "_law_wide"] (defScope s__law_level_right) := ⟨rfl, rfl, rfl, by decide +kernel, rfl, by decide +kernel, by decide +kernel⟩
def f__law_level_right (x_one : O_Ladder) (x_rim : (Int × Int)) (x_at : Int) (x_start : Int) (x_wide : Int) : Option Bool :=
  (f__law_counted x_one x_at x_start x_wide).bind fun o_269 =>
  let counts_256 : (List Int) := o_269
  let k_267 : Bool → Unit → _ := fun b_268 _ =>
    if b_268 = true then
      some false
    else
    (f_Ladder_owner x_one x_at x_start).bind fun o_263 =>
    (f_Ladder_owner x_one x_at ((x_start + x_wide) - (1 : Int))).bind fun o_264 =>
    if RgW o_263 (o_264 + (1 : Int)) then
      mapK (rg o_263 (o_264 + (1 : Int))) ()
        (fun (y_257 : Int) _ (nx_258 : (Int × Int) → Unit → _) =>
          (f_Ladder_owned x_one x_at y_257).bind fun o_265 =>
          nx_258 o_265 ())
        (fun (l_266 : List (Int × Int)) _ =>
          let lines_260 : (List (Int × Int)) := l_266
          let owned_262 : (List Int) := (List.map (fun (y_261 : (Int × Int)) => ((min (x_start + x_wide) (y_261.2 + (1 : Int))) - (max x_start y_261.1))) lines_260)
          if (decide (owned_262.sum = x_wide)) = true then
            if owned_262 ≠ [] then
              some (decide ((minL owned_262) ≥ (1 : Int)))
            else none
          else
          some false)
    else none
  if (!decide ((counts_256.length : Int) = x_wide)) = true then
    k_267 true ()
  else
  if (!decide (counts_256.sum = ((x_wide + x_rim.1) + x_rim.2))) = true then
    k_267 true ()
  else
  if counts_256 ≠ [] then
    if decide ((1 : Int) ≤ (minL counts_256)) = true then
      if counts_256 ≠ [] then
        if decide ((minL counts_256) ≤ (maxL counts_256)) = true then
          k_267 (!(decide ((maxL counts_256) ≤ (3 : Int)))) ()
        else
        k_267 (!false) ()
      else none
    else
    k_267 (!false) ()
  else none
abbrev P__law_level_right (K : Frag) : Sp := SpF K (fun as : O_Ladder × (Int × Int) × Int × Int × Int × Unit => f__law_level_right as.1 as.2.1 as.2.2.1 as.2.2.2.1 as.2.2.2.2.1)
theorem B__law_level_right (T : Tx K mg) : BodyG CX0 P w K mg base ["_law_one", "_law_rim", "_law_at", "_law_start", "_law_wide", "_law_counts", "_law_lines", "_law_spot", "_law_owned", "_law_line"] "_law_level_right" (defScope s__law_level_right) (defBody s__law_level_right) 18 (ga K "_law_level_right") (P__law_level_right K) := by
  intro cdv A outer s0 H vs Q E hr h
  have hu := hr.units
  have hu1 := hr.units1
  refine ⟨_, PSs.nox (pss_cons (ps_set (i := 5) sc__law_level_right.nd rfl (by first | exact Or.inl rfl | exact Or.inr rfl) (pe_c (call_g (G__law_counted T) (hr.mono (by decide)) pass0) (kp__law_counted T) rfl (g__law_counted T) (pa_cons (pv 0) (pa_cons (pv 2) (pa_cons (pv 3) (pa_cons (pv 4) pa_nil))))))
    (pss_cons (ps_if (PW.pt (pw_or (pt_cmpR op_ne (pe_callB (call_len_seq) (by rfl) (z_len T) PySem.boot_len (pa_cons (pv 5) pa_nil)) (pv 4) (nomark _)) (pw_or (pt_cmpR op_ne (pe_callB (cr_sum rfl) (by rfl) (z_sum T) PyProof.Rows.boot_sum (pa_cons (pv 5) pa_nil)) (pe_op (op_add) (pe_op (op_add) (pv 4) (pe_ix (ix_tup) (pv 1) pe_int (fun _ _ => rfl))) (pe_ix (ix_tup) (pv 1) pe_int (fun _ _ => rfl))) (nomark _)) (pw_or1 (pt_not (pt_chain3 op_le op_le op_le pe_int (pe_callB (cr_min rfl) (by rfl) (z_min T) PyProof.Rows.boot_min (pa_cons (pv 5) pa_nil)) (pe_callB (cr_max rfl) (by rfl) (z_max T) PyProof.Rows.boot_max (pa_cons (pv 5) pa_nil)) pe_int)))))) (pss_one (ps_ret pe_bl)) pss_nil)
    (pss_cons (ps_setLc (i := 6) rfl sc__law_level_right.nd rfl rfl (sw_true rfl rfl rfl (by decide +kernel)) (pi_rangeW rfl (z_range T) (pa_cons (pe_m (call_g (G_Ladder_owner T) (hr.mono (by decide)) pass0) (pv 0) (c_Ladder T) (m_Ladder_owner T) (pa_cons (pv 2) (pa_cons (pv 3) pa_nil))) (pa_cons (pe_op (op_add) (pe_m (call_g (G_Ladder_owner T) (hr.mono (by decide)) pass0) (pv 0) (c_Ladder T) (m_Ladder_owner T) (pa_cons (pv 2) (pa_cons (pe_op (op_sub) (pe_op (op_add) (pv 3) (pv 4)) pe_int) pa_nil))) pe_int) pa_nil))) (blkOk_by (N := ["_law_one", "_law_rim", "_law_at", "_law_start", "_law_wide", "_law_counts", "_law_lines", "_law_spot", "_law_owned", "_law_line"]) (sc := defScope s__law_level_right) (own := [("_law_spot", 7)]) (by decide +kernel)) (fun _ _ _ _ _ => (pg_name (i := 7) sc__law_level_right.nd rfl (by first | exact Or.inl rfl | exact Or.inr rfl))) (fun _ _ _ _ _ => pts_nil) (fun _ _ _ _ _ => (pe_m (call_g (G_Ladder_owned T) (hr.mono (by decide)) pass0) (pv 0) (c_Ladder T) (m_Ladder_owned T) (pa_cons (pv 2) (pa_cons (pv 7) pa_nil)))))
    (pss_cons (ps_setLc (i := 8) rfl sc__law_level_right.nd rfl rfl (sw_true rfl rfl rfl (by decide +kernel)) (pi_list (pv 6)) (blkOk_by (N := ["_law_one", "_law_rim", "_law_at", "_law_start", "_law_wide", "_law_counts", "_law_lines", "_law_spot", "_law_owned", "_law_line"]) (sc := defScope s__law_level_right) (own := [("_law_line", 9)]) (by decide +kernel)) (fun _ _ _ _ _ => (pg_name (i := 9) sc__law_level_right.nd rfl (by first | exact Or.inl rfl | exact Or.inr rfl))) (fun _ _ _ _ _ => pts_nil) (fun _ _ _ _ _ => (pe_op (op_sub) (pe_callB (call_min2 rfl) (by rfl) (z_min T) PyProof.Rows.boot_min (pa_cons (pe_op (op_add) (pv 3) (pv 4)) (pa_cons (pe_op (op_add) (pe_ix (show IxR _ (rIxT K) from ix_tup) (pv 9) pe_int (fun _ _ => rfl)) pe_int) pa_nil))) (pe_callB (call_max2 rfl) (by rfl) (z_max T) PyProof.Rows.boot_max (pa_cons (pv 3) (pa_cons (pe_ix (show IxR _ (rIxT K) from ix_tup) (pv 9) pe_int (fun _ _ => rfl)) pa_nil))))))
    (pss_one (ps_ret (pe_and (pe_cmpR op_eq (pe_callB (cr_sum rfl) (by rfl) (z_sum T) PyProof.Rows.boot_sum (pa_cons (pv 8) pa_nil)) (pv 4) (nomark _)) (pe_one (pe_cmpR op_ge (pe_callB (cr_min rfl) (by rfl) (z_min T) PyProof.Rows.boot_min (pa_cons (pv 8) pa_nil)) pe_int (nomark _)))))))))), ?_⟩
  refine body_F (f := fun as : O_Ladder × (Int × Int) × Int × Int × Int × Unit => f__law_level_right as.1 as.2.1 as.2.2.1 as.2.2.2.1 as.2.2.2.2.1) h 5 (fun _ => rfl) fun e as hm hR => ?_
  obtain ⟨x_one, x_rim, x_at, x_start, x_wide, _⟩ := as
  exact ((sv_asg (fun (counts_256 : (List Int)) (_ : Unit) =>
let k_267 : Bool → Unit → _ := fun b_268 _ =>
  if b_268 = true then
    some false
  else
  (f_Ladder_owner x_one x_at x_start).bind fun o_263 =>
  (f_Ladder_owner x_one x_at ((x_start + x_wide) - (1 : Int))).bind fun o_264 =>
  if RgW o_263 (o_264 + (1 : Int)) then
    mapK (rg o_263 (o_264 + (1 : Int))) ()
      (fun (y_257 : Int) _ (nx_258 : (Int × Int) → Unit → _) =>
        (f_Ladder_owned x_one x_at y_257).bind fun o_265 =>
        nx_258 o_265 ())
      (fun (l_266 : List (Int × Int)) _ =>
        let lines_260 : (List (Int × Int)) := l_266
        let owned_262 : (List Int) := (List.map (fun (y_261 : (Int × Int)) => ((min (x_start + x_wide) (y_261.2 + (1 : Int))) - (max x_start y_261.1))) lines_260)
        if (decide (owned_262.sum = x_wide)) = true then
          if owned_262 ≠ [] then
            some (decide ((minL owned_262) ≥ (1 : Int)))
          else none
        else
        some false)
  else none
if (!decide ((counts_256.length : Int) = x_wide)) = true then
  k_267 true ()
else
if (!decide (counts_256.sum = ((x_wide + x_rim.1) + x_rim.2))) = true then
  k_267 true ()
else
if counts_256 ≠ [] then
  if decide ((1 : Int) ≤ (minL counts_256)) = true then
    if counts_256 ≠ [] then
      if decide ((minL counts_256) ≤ (maxL counts_256)) = true then
        k_267 (!(decide ((maxL counts_256) ≤ (3 : Int)))) ()
      else
      k_267 (!false) ()
    else none
  else
  k_267 (!false) ()
else none) (ev_callP (f := fun (as : O_Ladder × Int × Int × Int × Unit) => f__law_counted as.1 as.2.1 as.2.2.1 as.2.2.2.1) (puA_cons (pu_var 0 rfl) fun _ => (puA_cons (pu_var 2 rfl) fun _ => (puA_cons (pu_var 3 rfl) fun _ => (puA_cons (pu_var 4 rfl) fun _ => puA_nil))))) (tg_name 5) (fun counts_256 _ => (sv_ifR (fun (_ : Unit) =>
some false) (fun (_ : Unit) =>
(f_Ladder_owner x_one x_at x_start).bind fun o_263 =>
(f_Ladder_owner x_one x_at ((x_start + x_wide) - (1 : Int))).bind fun o_264 =>
if RgW o_263 (o_264 + (1 : Int)) then
  mapK (rg o_263 (o_264 + (1 : Int))) ()
    (fun (y_257 : Int) _ (nx_258 : (Int × Int) → Unit → _) =>
      (f_Ladder_owned x_one x_at y_257).bind fun o_265 =>
      nx_258 o_265 ())
    (fun (l_266 : List (Int × Int)) _ =>
      let lines_260 : (List (Int × Int)) := l_266
      let owned_262 : (List Int) := (List.map (fun (y_261 : (Int × Int)) => ((min (x_start + x_wide) (y_261.2 + (1 : Int))) - (max x_start y_261.1))) lines_260)
      if (decide (owned_262.sum = x_wide)) = true then
        if owned_262 ≠ [] then
          some (decide ((minL owned_262) ≥ (1 : Int)))
        else none
      else
      some false)
else none) (evT_or (PuT.ev (puT_test (pu_op (pu_cb1 (pu_var 5 rfl) o_lenL) (fun _ => (pu_var 4 rfl)) o_neI))) fun _ => (evT_or (PuT.ev (puT_test (pu_op (pu_cb1 (pu_var 5 rfl) o_sum) (fun _ => (pu_op (pu_op (pu_var 4 rfl) (fun _ => (pu_opR (pu_var 1 rfl) o_ix20)) o_add) (fun _ => (pu_opR (pu_var 1 rfl) o_ix21)) o_add)) o_neI))) fun _ => (evT_not (evT_test (ev_chain3 (Pu.ev (pu_int 1)) (fun _ _ _ => (ev_cb1C (Pu.ev (pu_var 5 rfl)) o_minL)) (fun _ _ _ _ _ => (ev_cb1C (Pu.ev (pu_var 5 rfl)) o_maxL)) (fun _ _ _ _ _ _ _ => (Pu.ev (pu_int 3))) o_le o_le o_le))))) (fun _ => (sv_ret hR (Pu.ev (pu_bl false)) (by exact rfl))) (fun _ => (sv_asg (fun (lines_260 : (List (Int × Int))) (_ : Unit) =>
let owned_262 : (List Int) := (List.map (fun (y_261 : (Int × Int)) => ((min (x_start + x_wide) (y_261.2 + (1 : Int))) - (max x_start y_261.1))) lines_260)
if (decide (owned_262.sum = x_wide)) = true then
  if owned_262 ≠ [] then
    some (decide ((minL owned_262) ≥ (1 : Int)))
  else none
else
some false) (ev_lc (vs := [7]) (evI_rgW (ev_methP (m := "owner") (f := fun (as : O_Ladder × Int × Int × Unit) => f_Ladder_owner as.1 as.2.1 as.2.2.1) rfl (pu_var 0 rfl) fun _ => (puA_cons (pu_var 2 rfl) fun _ => (puA_cons (pu_var 3 rfl) fun _ => puA_nil))) fun _ _ _ => (ev_op (ev_methP (m := "owner") (f := fun (as : O_Ladder × Int × Int × Unit) => f_Ladder_owner as.1 as.2.1 as.2.2.1) rfl (pu_var 0 rfl) fun _ => (puA_cons (pu_var 2 rfl) fun _ => (puA_cons (pu_op (pu_op (pu_var 3 rfl) (fun _ => (pu_var 4 rfl)) o_add) (fun _ => (pu_int 1)) o_sub) fun _ => puA_nil))) (fun _ _ _ => (Pu.ev (pu_int 1))) o_add)) (tg_name 7) (by decide) fun _ _ _ y_257 _ _ => (ev_methP (m := "owned") (f := fun (as : O_Ladder × Int × Int × Unit) => f_Ladder_owned as.1 as.2.1 as.2.2.1) rfl (pu_var 0 rfl) fun _ => (puA_cons (pu_var 2 rfl) fun _ => (puA_cons (pu_var 7 rfl) fun _ => puA_nil)))) (tg_name 6) (fun lines_260 _ => (sv_asg (fun (owned_262 : (List Int)) (_ : Unit) =>
if (decide (owned_262.sum = x_wide)) = true then
  if owned_262 ≠ [] then
    some (decide ((minL owned_262) ≥ (1 : Int)))
  else none
else
some false) (Pu.ev (pu_lc (vs := [9]) (puI_list (pu_var 6 rfl)) (tg_name 9) (by decide) fun _ _ _ y_261 => (pu_op (pu_cb2 (pu_op (pu_var 3 rfl) (fun _ => (pu_var 4 rfl)) o_add) (fun _ => (pu_op (pu_opR (pu_var 9 rfl) o_ix21) (fun _ => (pu_int 1)) o_add)) o_min2) (fun _ => (pu_cb2 (pu_var 3 rfl) (fun _ => (pu_opR (pu_var 9 rfl) o_ix20)) o_max2)) o_sub))) (tg_name 8) (fun owned_262 _ => (sv_ret hR (ev_and (Pu.ev (pu_op (pu_cb1 (pu_var 8 rfl) o_sum) (fun _ => (pu_var 4 rfl)) o_eqI)) fun _ => (ev_op (g := fun i j : Int => decide (i ≥ j)) (ev_cb1C (Pu.ev (pu_var 8 rfl)) o_minL) (fun _ _ _ => (Pu.ev (pu_int 1))) o_ge)) (by exact rfl))) (by exact rfl))) (by exact rfl))) (by exact rfl))) (by exact rfl)) : Sv e e.S0 [] [some (av K x_one), some (av K x_rim), some (av K x_at), some (av K x_start), some (av K x_wide), none, none, none, none, none] [] _ () _ (fun _ H => e.rt .non H) nF nF)
theorem sp_len__law_level_right : ∀ vs H Q E, (P__law_level_right K) vs H Q E → vs.length = 5 := fun vs H Q E h => by obtain ⟨_, as, _, _, hA, _⟩ := h; exact hA.len
theorem G__law_level_right (T : Tx K mg) : FnG P w K mg base CX0 19 (ga K "_law_level_right") (P__law_level_right K) := by
  obtain ⟨fd, F⟩ := F__law_level_right T
  have b : L2.Binds K fd ["_law_one", "_law_rim", "_law_at", "_law_start", "_law_wide"] [] := F.bindsN fun _ _ _ _ _ _ us hl => match us, hl with | [_, _, _, _, _], _ => rfl
  exact fnG_pl F sc__law_level_right b sp_len__law_level_right (B__law_level_right T)
theorem sc_check_positive : FnScope ["value"] ["value"] (defScope s_check_positive) := ⟨rfl, rfl, rfl, by decide +kernel, rfl, by decide +kernel, by decide +kernel⟩
def f_check_positive (x_value : Int) : Option Unit :=
  (f_is_integer x_value).bind fun o_270 =>
  if (!o_270) = true then
    if true = true then
      none
    else
    some ()
  else
  if (decide (x_value < (1 : Int))) = true then
    none
  else
  some ()
abbrev P_check_positive (K : Frag) : Sp := SpF K (fun as : Int × Unit => f_check_positive as.1)
theorem B_check_positive (T : Tx K mg) : BodyG CX0 P w K mg base ["value"] "check_positive" (defScope s_check_positive) (defBody s_check_positive) 2 (ga K "check_positive") (P_check_positive K) := by
  intro cdv A outer s0 H vs Q E hr h
  have hu := hr.units
  have hu1 := hr.units1
  refine ⟨_, PSs.nox (pss_one (ps_if (PW.pt (pw_or (pt_not (pt_val (pe_c (call_g (G_is_integer T) (hr.mono (by decide)) pass0) (kp_is_integer T) rfl (g_is_integer T) (pa_cons (pv 0) pa_nil)))) (pw_or1 (pt_cmpR (op_lt) (pv 0) pe_int (nomark _))))) (pss_one ps_never) pss_nil)), ?_⟩
  refine body_F (f := fun as : Int × Unit => f_check_positive as.1) h 0 (fun _ => rfl) fun e as hm hR => ?_
  obtain ⟨x_value, _⟩ := as
  exact ((sv_ifL (fun (_ : Unit) =>
none) (fun (_ : Unit) =>
some ()) (evT_or (evT_not (evT_B (ev_callP (f := fun (as : Int × Unit) => f_is_integer as.1) (puA_cons (pu_var 0 rfl) fun _ => puA_nil)))) fun _ => (PuT.ev (puT_test (pu_op (g := fun i j : Int => decide (i < j)) (pu_var 0 rfl) (fun _ => (pu_int 1)) o_lt)))) (fun _ => sv_dead) (fun _ => (sv_fall hR)) (by exact rfl)) : Sv e e.S0 [] [some (av K x_value)] [] _ () _ (fun _ H => e.rt .non H) nF nF)
theorem sp_len_check_positive : ∀ vs H Q E, (P_check_positive K) vs H Q E → vs.length = 1 := fun vs H Q E h => by obtain ⟨_, as, _, _, hA, _⟩ := h; exact hA.len
theorem G_check_positive (T : Tx K mg) : FnG P w K mg base CX0 3 (ga K "check_positive") (P_check_positive K) := by
  obtain ⟨fd, F⟩ := F_check_positive T
  have b : L2.Binds K fd ["value"] [] := F.bindsN fun _ _ _ _ _ _ us hl => match us, hl with | [_], _ => rfl
  exact fnG_pl F sc_check_positive b sp_len_check_positive (B_check_positive T)
theorem sc_Ladder_mul : FnScope ["self", "other", "edges", "low", "high"] ["self", "other"] (defScope s_Ladder_mul) := ⟨rfl, rfl, rfl, by decide +kernel, rfl, by decide +kernel, by decide +kernel⟩
def f_Ladder_mul (x_self : O_Ladder) (x_other : Int) : Option O_Ladder :=
  (f_check_positive x_other).bind fun o_279 =>
  mapK x_self.edges.l ()
    (fun (y_272 : (Int × Int)) _ (nx_273 : (Int × Int) → Unit → _) =>
      if CMulW y_272.1 x_other then
        if CMulW y_272.2 x_other then
          nx_273 (((y_272.1 * x_other), (y_272.2 * x_other)) : (Int × Int)) ()
        else none
      else none)
    (fun (l_278 : List (Int × Int)) _ =>
      let edges_275 : (List (Int × Int)) := l_278
      (atI x_self.all_sides.l (0 : Int)).bind fun o_276 =>
      if CMulW o_276 x_other then
        (f_Ladder_init_i1 (o_276 * x_other) x_self.factors edges_275).bind fun o_277 =>
        some o_277
      else none)
abbrev P_Ladder_mul (K : Frag) : Sp := SpF K (fun as : O_Ladder × Int × Unit => f_Ladder_mul as.1 as.2.1)
theorem B_Ladder_mul (T : Tx K mg) : BodyG CX0 P w K mg base ["self", "other", "edges", "low", "high"] "Ladder.__mul__" (defScope s_Ladder_mul) (defBody s_Ladder_mul) 12 (ma K (ga K "Ladder") "__mul__") (P_Ladder_mul K) := by
  intro cdv A outer s0 H vs Q E hr h
  have hu := hr.units
  have hu1 := hr.units1
  refine ⟨_, PSs.nox (pss_cons (ps_expr (pe_c (call_g (G_check_positive T) (hr.mono (by decide)) pass0) (kp_check_positive T) rfl (g_check_positive T) (pa_cons (pv 1) pa_nil)))
    (pss_cons (ps_setLc (i := 2) rfl sc_Ladder_mul.nd rfl rfl (sw_true rfl rfl rfl (by decide +kernel)) (pi_tup (pe_fld (pv 0) rfl)) (blkOk_by (N := ["self", "other", "edges", "low", "high"]) (sc := defScope s_Ladder_mul) (own := [("low", 3), ("high", 4)]) (by decide +kernel)) (fun _ _ _ _ _ => (pg_tupK (K := K) (n := 2) rfl rfl (pgs_cons (pg_name (i := 3) sc_Ladder_mul.nd rfl (by first | exact Or.inl rfl | exact Or.inr rfl)) (pgs_cons (pg_name (i := 4) sc_Ladder_mul.nd rfl (by first | exact Or.inl rfl | exact Or.inr rfl)) pgs_nil)))) (fun _ _ _ _ _ => pts_nil) (fun _ _ _ _ _ => (pe_tup (pa_cons (pe_op (op_mulW) (pv 3) (pv 1)) (pa_cons (pe_op (op_mulW) (pv 4) (pv 1)) pa_nil)))))
    (pss_one (ps_ret (pe_c (call_mk (k_Ladder T) (G_Ladder_init_i1 T) (hr.mono (by decide)) pass0) (k_Ladder T).kp rfl (g_Ladder T) (pa_cons (pe_op (op_mulW) (pe_ix (ix_tup) (pe_fld (pv 0) rfl) pe_int (fun _ _ => rfl)) (pv 1)) (pa_cons (pe_fld (pv 0) rfl) (pa_cons (pv 2) pa_nil)))))))), ?_⟩
  refine body_F (f := fun as : O_Ladder × Int × Unit => f_Ladder_mul as.1 as.2.1) h 3 (fun _ => rfl) fun e as hm hR => ?_
  obtain ⟨x_self, x_other, _⟩ := as
  exact ((sv_expr (fun (_ : Unit) (_ : Unit) =>
mapK x_self.edges.l ()
  (fun (y_272 : (Int × Int)) _ (nx_273 : (Int × Int) → Unit → _) =>
    if CMulW y_272.1 x_other then
      if CMulW y_272.2 x_other then
        nx_273 (((y_272.1 * x_other), (y_272.2 * x_other)) : (Int × Int)) ()
      else none
    else none)
  (fun (l_278 : List (Int × Int)) _ =>
    let edges_275 : (List (Int × Int)) := l_278
    (atI x_self.all_sides.l (0 : Int)).bind fun o_276 =>
    if CMulW o_276 x_other then
      (f_Ladder_init_i1 (o_276 * x_other) x_self.factors edges_275).bind fun o_277 =>
      some o_277
    else none)) (ev_callP (f := fun (as : Int × Unit) => f_check_positive as.1) (puA_cons (pu_var 1 rfl) fun _ => puA_nil)) (fun _ _ => (sv_asg (fun (edges_275 : (List (Int × Int))) (_ : Unit) =>
(atI x_self.all_sides.l (0 : Int)).bind fun o_276 =>
if CMulW o_276 x_other then
  (f_Ladder_init_i1 (o_276 * x_other) x_self.factors edges_275).bind fun o_277 =>
  some o_277
else none) (ev_lc (vs := [3, 4]) (PuI.ev (puI_tup (pu_fld 2 (c_Ladder T) (n_Ladder__edges T) (pu_var 0 rfl) rfl rfl))) (tg_tup2 (tgs_cons (tg_name 3) (tgs_cons (tg_name 4) tgs_nil))) (by decide) fun _ _ _ y_272 _ _ => (ev_tup2 (ev_opC (Pu.ev (pu_var 3 rfl)) (fun _ _ _ => (Pu.ev (pu_var 1 rfl))) o_mul) (fun _ _ _ => (ev_opC (Pu.ev (pu_var 4 rfl)) (fun _ _ _ => (Pu.ev (pu_var 1 rfl))) o_mul)))) (tg_name 2) (fun edges_275 _ => (sv_ret hR (ev_mk (f := fun (as : Int × (Tu Int) × (List (Int × Int)) × Unit) => f_Ladder_init_i1 as.1 as.2.1 as.2.2.1) (evA_consY (fun _ _ _ => (PuA.ev (puA_cons (pu_fld 0 (c_Ladder T) (n_Ladder__factors T) (pu_var 0 rfl) rfl rfl) fun _ => (puA_cons (pu_var 2 rfl) fun _ => puA_nil)))) (ev_opC (ev_opO (Pu.ev (pu_fld 1 (c_Ladder T) (n_Ladder__all_sides T) (pu_var 0 rfl) rfl rfl)) (fun _ _ _ => (Pu.ev (pu_int 0))) o_ixT) (fun _ _ _ => (Pu.ev (pu_var 1 rfl))) o_mul))) (by exact rfl))) (by exact rfl))) (by exact rfl)) : Sv e e.S0 [] [some (av K x_self), some (av K x_other), none, none, none] [] _ () _ (fun _ H => e.rt .non H) nF nF)
theorem sp_len_Ladder_mul : ∀ vs H Q E, (P_Ladder_mul K) vs H Q E → vs.length = 2 := fun vs H Q E h => by obtain ⟨_, as, _, _, hA, _⟩ := h; exact hA.len
theorem G_Ladder_mul (T : Tx K mg) : FnG P w K mg base CX0 13 (ma K (ga K "Ladder") "__mul__") (P_Ladder_mul K) := by
  obtain ⟨fd, F⟩ := F_Ladder_mul T
  have b : L2.Binds K fd ["self", "other"] [] := F.bindsN fun _ _ _ _ _ _ us hl => match us, hl with | [_, _], _ => rfl
  exact fnG_pl F sc_Ladder_mul b sp_len_Ladder_mul (B_Ladder_mul T)
theorem sc_Ladder_rmul : FnScope ["self", "other"] ["self", "other"] (defScope s_Ladder_rmul) := ⟨rfl, rfl, rfl, by decide +kernel, rfl, by decide +kernel, by decide +kernel⟩
def f_Ladder_rmul (x_self : O_Ladder) (x_other : Int) : Option O_Ladder :=
  (f_Ladder_mul x_self x_other).bind fun o_280 =>
  some o_280
abbrev P_Ladder_rmul (K : Frag) : Sp := SpF K (fun as : O_Ladder × Int × Unit => f_Ladder_rmul as.1 as.2.1)
theorem B_Ladder_rmul (T : Tx K mg) : BodyG CX0 P w K mg base ["self", "other"] "Ladder.__rmul__" (defScope s_Ladder_rmul) (defBody s_Ladder_rmul) 14 (ma K (ga K "Ladder") "__rmul__") (P_Ladder_rmul K) := by
  intro cdv A outer s0 H vs Q E hr h
  have hu := hr.units
  have hu1 := hr.units1
  refine ⟨_, PSs.nox (pss_one (ps_ret (pe_op (op_ownB (b_Ladder_Mult T) (bt_Ladder_Mult_int T) (G_Ladder_mul T) (hr.mono (by decide)) pass0) (pv 0) (pv 1)))), ?_⟩
  refine body_F (f := fun as : O_Ladder × Int × Unit => f_Ladder_rmul as.1 as.2.1) h 0 (fun _ => rfl) fun e as hm hR => ?_
  obtain ⟨x_self, x_other, _⟩ := as
  exact ((sv_ret hR (ev_ownT (T := "int") (f := fun (as : O_Ladder × Int × Unit) => f_Ladder_mul as.1 as.2.1) (fun _ _ _ _ h => ty_int h) (Pu.ev (pu_var 0 rfl)) fun _ _ _ => (Pu.ev (pu_var 1 rfl))) (by exact rfl)) : Sv e e.S0 [] [some (av K x_self), some (av K x_other)] [] _ () _ (fun _ H => e.rt .non H) nF nF)
theorem sp_len_Ladder_rmul : ∀ vs H Q E, (P_Ladder_rmul K) vs H Q E → vs.length = 2 := fun vs H Q E h => by obtain ⟨_, as, _, _, hA, _⟩ := h; exact hA.len
theorem G_Ladder_rmul (T : Tx K mg) : FnG P w K mg base CX0 15 (ma K (ga K "Ladder") "__rmul__") (P_Ladder_rmul K) := by
  obtain ⟨fd, F⟩ := F_Ladder_rmul T
  have b : L2.Binds K fd ["self", "other"] [] := F.bindsN fun _ _ _ _ _ _ us hl => match us, hl with | [_, _], _ => rfl
  exact fnG_pl F sc_Ladder_rmul b sp_len_Ladder_rmul (B_Ladder_rmul T)
theorem sc__law_great_right : FnScope ["_law_pot_here", "_law_one", "_law_start", "_law_at", "_law_many", "_law_big", "_law_away", "_law_place"] ["_law_pot_here", "_law_one", "_law_start", "_law_at"] (defScope s__law_great_right) := ⟨rfl, rfl, rfl, by decide +kernel, rfl, by decide +kernel, by decide +kernel⟩
def f__law_great_right (x_one : O_Ladder) (x_start : Int) (x_at : Int) (s : Pot) : Option (Bool × Pot) :=
  (f__law_draw (1000000000 : Int) s).bind fun o_305 =>
  let many_281 : Int := ((2 : Int) + o_305.1)
  let s_282 : Pot := o_305.2
  (f_Ladder_rmul x_one many_281).bind fun o_304 =>
  let big_283 : O_Ladder := o_304
  let s_284 : Pot := s_282
  forK (rg 0 (6 : Int)) (()) s_284
    (fun (y_288 : Int) (c_287 : (Unit)) (s_289 : Pot) (next_285 : (Unit) → Pot → _) (done_286 : (Unit) → Pot → _) =>
      let place_290 : Int := (x_start + y_288)
      let s_291 : Pot := s_289
      if CMulW place_290 many_281 then
        (f_Ladder_holders big_283 x_at (place_290 * many_281)).bind fun o_298 =>
        (f_Ladder_holders x_one x_at place_290).bind fun o_299 =>
        if (!decide (o_298 = o_299)) = true then
          let s_292 : Pot := s_291
          some (false, s_292)
        else
        let s_293 : Pot := s_291
        if CMulW place_290 many_281 then
          (f_Ladder_holders big_283 x_at (((place_290 * many_281) + many_281) - (1 : Int))).bind fun o_296 =>
          (f_Ladder_holders x_one x_at place_290).bind fun o_297 =>
          if (!decide (o_296 = o_297)) = true then
            let s_294 : Pot := s_293
            some (false, s_294)
          else
          let s_295 : Pot := s_293
          next_285 (()) s_295
        else none
      else none)
    (fun (c_300 : (Unit)) (s_301 : Pot) =>
      (f_Ladder_side big_283 x_at).bind fun o_302 =>
      (f_Ladder_side x_one x_at).bind fun o_303 =>
      if CMulW o_303 many_281 then
        some (decide (o_302 = (o_303 * many_281)), s_301)
      else none)
abbrev P__law_great_right (K : Frag) : Sp := SpS K (fun (as : O_Ladder × Int × Int × Unit) s => f__law_great_right as.1 as.2.1 as.2.2.1 s)
theorem B__law_great_right (T : Tx K mg) : BodyG CX0 P w K mg base ["_law_pot_here", "_law_one", "_law_start", "_law_at", "_law_many", "_law_big", "_law_away", "_law_place"] "_law_great_right" (defScope s__law_great_right) (defBody s__law_great_right) 16 (ga K "_law_great_right") (P__law_great_right K) := by
  intro cdv A outer s0 H vs Q E hr h
  have hu := hr.units
  have hu1 := hr.units1
  refine ⟨_, PSs.nox (pss_cons (ps_set (i := 4) sc__law_great_right.nd rfl (by first | exact Or.inl rfl | exact Or.inr rfl) (pe_op (op_add) pe_int (pe_c (call_g (G__law_draw T) (hr.mono (by decide)) pass0) (kp__law_draw T) rfl (g__law_draw T) (pa_cons (pv 0) (pa_cons (pe_op (op_pow) pe_int pe_int) pa_nil)))))
    (pss_cons (ps_set (i := 5) sc__law_great_right.nd rfl (by first | exact Or.inl rfl | exact Or.inr rfl) (pe_op (op_mulR (rb_Ladder T) (G_Ladder_rmul T) rfl (hr.mono (by decide)) pass0) (pv 4) (pv 1)))
    (pss_cons (ps_for PassesOwn.never rfl (pi_range1 rfl (z_range T) (pa_cons pe_int pa_nil)) (pg_name (i := 6) sc__law_great_right.nd rfl (by first | exact Or.inl rfl | exact Or.inr rfl))
    (pss_cons (ps_set (i := 7) sc__law_great_right.nd rfl (by first | exact Or.inl rfl | exact Or.inr rfl) (pe_op (op_add) (pv 2) (pv 6)))
    (pss_cons (ps_if (pt_cmpR (op_neD hu) (pe_m (call_g (G_Ladder_holders T) (hr.mono (by decide)) pass0) (pv 5) (c_Ladder T) (m_Ladder_holders T) (pa_cons (pv 3) (pa_cons (pe_op (op_mulW) (pv 7) (pv 4)) pa_nil))) (pe_m (call_g (G_Ladder_holders T) (hr.mono (by decide)) pass0) (pv 1) (c_Ladder T) (m_Ladder_holders T) (pa_cons (pv 3) (pa_cons (pv 7) pa_nil))) (nomark _)) (pss_one (ps_ret pe_bl)) pss_nil)
    (pss_one (ps_if (pt_cmpR (op_neD hu) (pe_m (call_g (G_Ladder_holders T) (hr.mono (by decide)) pass0) (pv 5) (c_Ladder T) (m_Ladder_holders T) (pa_cons (pv 3) (pa_cons (pe_op (op_sub) (pe_op (op_add) (pe_op (op_mulW) (pv 7) (pv 4)) (pv 4)) pe_int) pa_nil))) (pe_m (call_g (G_Ladder_holders T) (hr.mono (by decide)) pass0) (pv 1) (c_Ladder T) (m_Ladder_holders T) (pa_cons (pv 3) (pa_cons (pv 7) pa_nil))) (nomark _)) (pss_one (ps_ret pe_bl)) pss_nil)))))
    (pss_one (ps_ret (pe_cmpR op_eq (pe_m (call_g (G_Ladder_side T) (hr.mono (by decide)) pass0) (pv 5) (c_Ladder T) (m_Ladder_side T) (pa_cons (pv 3) pa_nil)) (pe_op (op_mulW) (pe_m (call_g (G_Ladder_side T) (hr.mono (by decide)) pass0) (pv 1) (c_Ladder T) (m_Ladder_side T) (pa_cons (pv 3) pa_nil)) (pv 4)) (nomark _))))))), ?_⟩
  refine body_S (f := fun (as : O_Ladder × Int × Int × Unit) s => f__law_great_right as.1 as.2.1 as.2.2.1 s) h 4 (fun _ => rfl) fun e q as s hm hR => ?_
  obtain ⟨x_one, x_start, x_at, _⟩ := as
  exact ((sv_asg (fun (many_281 : Int) (s_282 : Pot) =>
(f_Ladder_rmul x_one many_281).bind fun o_304 =>
let big_283 : O_Ladder := o_304
let s_284 : Pot := s_282
forK (rg 0 (6 : Int)) (()) s_284
  (fun (y_288 : Int) (c_287 : (Unit)) (s_289 : Pot) (next_285 : (Unit) → Pot → _) (done_286 : (Unit) → Pot → _) =>
    let place_290 : Int := (x_start + y_288)
    let s_291 : Pot := s_289
    if CMulW place_290 many_281 then
      (f_Ladder_holders big_283 x_at (place_290 * many_281)).bind fun o_298 =>
      (f_Ladder_holders x_one x_at place_290).bind fun o_299 =>
      if (!decide (o_298 = o_299)) = true then
        let s_292 : Pot := s_291
        some (false, s_292)
      else
      let s_293 : Pot := s_291
      if CMulW place_290 many_281 then
        (f_Ladder_holders big_283 x_at (((place_290 * many_281) + many_281) - (1 : Int))).bind fun o_296 =>
        (f_Ladder_holders x_one x_at place_290).bind fun o_297 =>
        if (!decide (o_296 = o_297)) = true then
          let s_294 : Pot := s_293
          some (false, s_294)
        else
        let s_295 : Pot := s_293
        next_285 (()) s_295
      else none
    else none)
  (fun (c_300 : (Unit)) (s_301 : Pot) =>
    (f_Ladder_side big_283 x_at).bind fun o_302 =>
    (f_Ladder_side x_one x_at).bind fun o_303 =>
    if CMulW o_303 many_281 then
      some (decide (o_302 = (o_303 * many_281)), s_301)
    else none)) (ev_op (Pu.ev (pu_int 2)) (fun _ _ _ => (ev_callSP hm (f := fun (as : Int × Unit) (s : Pot) => f__law_draw as.1 s) (puA_cons (pu_var 0 rfl) fun _ => (puA_cons (pu_pow (i := 10) (j := 9) (c := 1000000000) (by decide +kernel) (by decide +kernel)) fun _ => puA_nil)))) o_add) (tg_name 4) (fun many_281 s_282 => (sv_asg (fun (big_283 : O_Ladder) (s_284 : Pot) =>
forK (rg 0 (6 : Int)) (()) s_284
  (fun (y_288 : Int) (c_287 : (Unit)) (s_289 : Pot) (next_285 : (Unit) → Pot → _) (done_286 : (Unit) → Pot → _) =>
    let place_290 : Int := (x_start + y_288)
    let s_291 : Pot := s_289
    if CMulW place_290 many_281 then
      (f_Ladder_holders big_283 x_at (place_290 * many_281)).bind fun o_298 =>
      (f_Ladder_holders x_one x_at place_290).bind fun o_299 =>
      if (!decide (o_298 = o_299)) = true then
        let s_292 : Pot := s_291
        some (false, s_292)
      else
      let s_293 : Pot := s_291
      if CMulW place_290 many_281 then
        (f_Ladder_holders big_283 x_at (((place_290 * many_281) + many_281) - (1 : Int))).bind fun o_296 =>
        (f_Ladder_holders x_one x_at place_290).bind fun o_297 =>
        if (!decide (o_296 = o_297)) = true then
          let s_294 : Pot := s_293
          some (false, s_294)
        else
        let s_295 : Pot := s_293
        next_285 (()) s_295
      else none
    else none)
  (fun (c_300 : (Unit)) (s_301 : Pot) =>
    (f_Ladder_side big_283 x_at).bind fun o_302 =>
    (f_Ladder_side x_one x_at).bind fun o_303 =>
    if CMulW o_303 many_281 then
      some (decide (o_302 = (o_303 * many_281)), s_301)
    else none)) (ev_mulR (f := fun (as : O_Ladder × Int × Unit) => f_Ladder_rmul as.1 as.2.1) (Pu.ev (pu_var 4 rfl)) fun _ _ _ => (Pu.ev (pu_var 1 rfl))) (tg_name 5) (fun big_283 s_284 => (sv_for (ς := (Unit)) (fun (y_288 : Int) (c_287 : (Unit)) (s_289 : Pot) (next_285 : (Unit) → Pot → _) (done_286 : (Unit) → Pot → _) =>
    let place_290 : Int := (x_start + y_288)
    let s_291 : Pot := s_289
    if CMulW place_290 many_281 then
      (f_Ladder_holders big_283 x_at (place_290 * many_281)).bind fun o_298 =>
      (f_Ladder_holders x_one x_at place_290).bind fun o_299 =>
      if (!decide (o_298 = o_299)) = true then
        let s_292 : Pot := s_291
        some (false, s_292)
      else
      let s_293 : Pot := s_291
      if CMulW place_290 many_281 then
        (f_Ladder_holders big_283 x_at (((place_290 * many_281) + many_281) - (1 : Int))).bind fun o_296 =>
        (f_Ladder_holders x_one x_at place_290).bind fun o_297 =>
        if (!decide (o_296 = o_297)) = true then
          let s_294 : Pot := s_293
          some (false, s_294)
        else
        let s_295 : Pot := s_293
        next_285 (()) s_295
      else none
    else none) (fun (c_300 : (Unit)) (s_301 : Pot) =>
    (f_Ladder_side big_283 x_at).bind fun o_302 =>
    (f_Ladder_side x_one x_at).bind fun o_303 =>
    if CMulW o_303 many_281 then
      some (decide (o_302 = (o_303 * many_281)), s_301)
    else none) (NJ := fun c_287 => []) (tJ := fun c_287 => [some (av K (PRef.mk (q := q))), some (av K x_one), some (av K x_start), some (av K x_at), some (av K many_281), some (av K big_283), none, none]) (()) rfl (Sub.keep (Sub.keep (Sub.keep (Sub.keep (Sub.keep (Sub.keep (Sub.keep (Sub.keep Sub.nil)))))))) (PuI.ev (puI_rg1 (pu_int 6) (by decide +kernel))) (tg_name 6) (fun _ y_288 c_287 s_289 next_285 done_286 => (sv_asg (fun (place_290 : Int) (s_291 : Pot) =>
if CMulW place_290 many_281 then
  (f_Ladder_holders big_283 x_at (place_290 * many_281)).bind fun o_298 =>
  (f_Ladder_holders x_one x_at place_290).bind fun o_299 =>
  if (!decide (o_298 = o_299)) = true then
    let s_292 : Pot := s_291
    some (false, s_292)
  else
  let s_293 : Pot := s_291
  if CMulW place_290 many_281 then
    (f_Ladder_holders big_283 x_at (((place_290 * many_281) + many_281) - (1 : Int))).bind fun o_296 =>
    (f_Ladder_holders x_one x_at place_290).bind fun o_297 =>
    if (!decide (o_296 = o_297)) = true then
      let s_294 : Pot := s_293
      some (false, s_294)
    else
    let s_295 : Pot := s_293
    next_285 (()) s_295
  else none
else none) (Pu.ev (pu_op (pu_var 2 rfl) (fun _ => (pu_var 6 rfl)) o_add)) (tg_name 7) (fun place_290 s_291 => (sv_ifR (fun (s_292 : Pot) =>
some (false, s_292)) (fun (s_293 : Pot) =>
if CMulW place_290 many_281 then
  (f_Ladder_holders big_283 x_at (((place_290 * many_281) + many_281) - (1 : Int))).bind fun o_296 =>
  (f_Ladder_holders x_one x_at place_290).bind fun o_297 =>
  if (!decide (o_296 = o_297)) = true then
    let s_294 : Pot := s_293
    some (false, s_294)
  else
  let s_295 : Pot := s_293
  next_285 (()) s_295
else none) (evT_test (ev_op (ev_methO (m := "holders") (f := fun (as : O_Ladder × Int × Int × Unit) => f_Ladder_holders as.1 as.2.1 as.2.2.1) (o := big_283) rfl (pu_var 5 rfl) fun _ => (evA_consY (fun _ _ _ => (evA_consY (fun _ _ _ => (PuA.ev puA_nil)) (ev_opC (Pu.ev (pu_var 7 rfl)) (fun _ _ _ => (Pu.ev (pu_var 4 rfl))) o_mul))) (Pu.ev (pu_var 3 rfl)))) (fun _ _ _ => (ev_methP (m := "holders") (f := fun (as : O_Ladder × Int × Int × Unit) => f_Ladder_holders as.1 as.2.1 as.2.2.1) rfl (pu_var 1 rfl) fun _ => (puA_cons (pu_var 3 rfl) fun _ => (puA_cons (pu_var 7 rfl) fun _ => puA_nil)))) (o_neD (Nat.le_of_ble_eq_true rfl)))) (fun s_292 => (sv_ret hR (Pu.ev (pu_bl false)) (by exact rfl))) (fun s_293 => (sv_ifL (fun (s_294 : Pot) =>
some (false, s_294)) (fun (s_295 : Pot) =>
next_285 (()) s_295) (evT_test (ev_op (ev_methO (m := "holders") (f := fun (as : O_Ladder × Int × Int × Unit) => f_Ladder_holders as.1 as.2.1 as.2.2.1) (o := big_283) rfl (pu_var 5 rfl) fun _ => (evA_consY (fun _ _ _ => (evA_consY (fun _ _ _ => (PuA.ev puA_nil)) (ev_op (ev_op (ev_opC (Pu.ev (pu_var 7 rfl)) (fun _ _ _ => (Pu.ev (pu_var 4 rfl))) o_mul) (fun _ _ _ => (Pu.ev (pu_var 4 rfl))) o_add) (fun _ _ _ => (Pu.ev (pu_int 1))) o_sub))) (Pu.ev (pu_var 3 rfl)))) (fun _ _ _ => (ev_methP (m := "holders") (f := fun (as : O_Ladder × Int × Int × Unit) => f_Ladder_holders as.1 as.2.1 as.2.2.1) rfl (pu_var 1 rfl) fun _ => (puA_cons (pu_var 3 rfl) fun _ => (puA_cons (pu_var 7 rfl) fun _ => puA_nil)))) (o_neD (Nat.le_of_ble_eq_true rfl)))) (fun s_294 => (sv_ret hR (Pu.ev (pu_bl false)) (by exact rfl))) (fun s_295 => (sv_endJ (()) rfl (Sub.keep (Sub.keep (Sub.keep (Sub.keep (Sub.keep (Sub.keep (Sub.drop (Sub.drop Sub.nil)))))))))) (by exact rfl))) (by exact rfl))) (by exact rfl))) (fun c_300 s_301 => (sv_ret hR (ev_op (ev_methP (m := "side") (f := fun (as : O_Ladder × Int × Unit) => f_Ladder_side as.1 as.2.1) rfl (pu_var 5 rfl) fun _ => (puA_cons (pu_var 3 rfl) fun _ => puA_nil)) (fun _ _ _ => (ev_opC (ev_methP (m := "side") (f := fun (as : O_Ladder × Int × Unit) => f_Ladder_side as.1 as.2.1) rfl (pu_var 1 rfl) fun _ => (puA_cons (pu_var 3 rfl) fun _ => puA_nil)) (fun _ _ _ => (Pu.ev (pu_var 4 rfl))) o_mul)) o_eqI) (by exact rfl))) (by exact rfl))) (by exact rfl))) (by exact rfl)) : Sv e e.S0 [] [some (av K (PRef.mk (q := q))), some (av K x_one), some (av K x_start), some (av K x_at), none, none, none, none] [] _ s _ (fun _ H => e.rt .non H) nF nF)
theorem sp_len__law_great_right : ∀ vs H Q E, (P__law_great_right K) vs H Q E → vs.length = 4 := fun vs H Q E h => by obtain ⟨_, _, us, as, _, _, _, _, _, e, _, hA, _⟩ := h; subst e; exact congrArg (· + 1) hA.len
theorem G__law_great_right (T : Tx K mg) : FnG P w K mg base CX0 17 (ga K "_law_great_right") (P__law_great_right K) := by
  obtain ⟨fd, F⟩ := F__law_great_right T
  have b : L2.Binds K fd ["_law_pot_here", "_law_one", "_law_start", "_law_at"] [] := F.bindsN fun _ _ _ _ _ _ us hl => match us, hl with | [_, _, _, _], _ => rfl
  exact fnG_pl F sc__law_great_right b sp_len__law_great_right (B__law_great_right T)
theorem sc_Ladder_eq : FnScope ["self", "other"] ["self", "other"] (defScope s_Ladder_eq) := ⟨rfl, rfl, rfl, by decide +kernel, rfl, by decide +kernel, by decide +kernel⟩
def f_Ladder_eq (x_self : O_Ladder) (x_other : O_Ladder) : Option Bool :=
  some (true && (decide (x_self.all_sides = x_other.all_sides) && decide (x_self.edges = x_other.edges)))
abbrev P_Ladder_eq (K : Frag) : Sp := SpF K (fun as : O_Ladder × O_Ladder × Unit => f_Ladder_eq as.1 as.2.1)
theorem B_Ladder_eq (T : Tx K mg) : BodyG CX0 P w K mg base ["self", "other"] "Ladder.__eq__" (defScope s_Ladder_eq) (defBody s_Ladder_eq) 0 (ma K (ga K "Ladder") "__eq__") (P_Ladder_eq K) := by
  intro cdv A outer s0 H vs Q E hr h
  have hu := hr.units
  have hu1 := hr.units1
  refine ⟨_, PSs.nox (pss_one (ps_ret (pe_and (pe_callB (call_isi) (by rfl) (z_isinstance T) PyProof.Rows.boot_isinstance (pa_cons (pv 1) (pa_cons (pe_glob (v := .ref (ga K "Ladder")) rfl (g_Ladder T) rfl) pa_nil))) (pe_and (pe_cmpR (op_eqD hu) (pe_fld (pv 0) rfl) (pe_fld (pv 1) rfl) (nomark _)) (pe_one (pe_cmpR (op_eqD hu) (pe_fld (pv 0) rfl) (pe_fld (pv 1) rfl) (nomark _))))))), ?_⟩
  refine body_F (f := fun as : O_Ladder × O_Ladder × Unit => f_Ladder_eq as.1 as.2.1) h 0 (fun _ => rfl) fun e as hm hR => ?_
  obtain ⟨x_self, x_other, _⟩ := as
  exact ((sv_ret hR (Pu.ev (pu_and (pu_isiO (ty_Ladder T) (pu_var 1 rfl)) (pu_and (pu_op (pu_fld 1 (c_Ladder T) (n_Ladder__all_sides T) (pu_var 0 rfl) rfl rfl) (fun _ => (pu_fld 1 (c_Ladder T) (n_Ladder__all_sides T) (pu_var 1 rfl) rfl rfl)) (o_eqD (Nat.le_of_ble_eq_true rfl))) (pu_op (pu_fld 2 (c_Ladder T) (n_Ladder__edges T) (pu_var 0 rfl) rfl rfl) (fun _ => (pu_fld 2 (c_Ladder T) (n_Ladder__edges T) (pu_var 1 rfl) rfl rfl)) (o_eqD (Nat.le_of_ble_eq_true rfl)))))) (by exact rfl)) : Sv e e.S0 [] [some (av K x_self), some (av K x_other)] [] _ () _ (fun _ H => e.rt .non H) nF nF)
theorem sp_len_Ladder_eq : ∀ vs H Q E, (P_Ladder_eq K) vs H Q E → vs.length = 2 := fun vs H Q E h => by obtain ⟨_, as, _, _, hA, _⟩ := h; exact hA.len
theorem G_Ladder_eq (T : Tx K mg) : FnG P w K mg base CX0 1 (ma K (ga K "Ladder") "__eq__") (P_Ladder_eq K) := by
  obtain ⟨fd, F⟩ := F_Ladder_eq T
  have b : L2.Binds K fd ["self", "other"] [] := F.bindsN fun _ _ _ _ _ _ us hl => match us, hl with | [_, _], _ => rfl
  exact fnG_pl F sc_Ladder_eq b sp_len_Ladder_eq (B_Ladder_eq T)
theorem sc__law_right : FnScope ["_law_pot_here", "_law_made", "_law_some", "_law_first", "_law_ups", "_law_rims", "_law_one", "_law_start", "_law_at", "_law_wides_here"] ["_law_pot_here"] (defScope s__law_right) := ⟨rfl, rfl, rfl, by decide +kernel, rfl, by decide +kernel, by decide +kernel⟩
def f__law_right  (s : Pot) : Option (Bool × Pot) :=
  (f__law_small s).bind fun o_380 =>
  (f__law_small o_380.2).bind fun o_382 =>
  let made_307 : (List (T3 Int (List Int) (List (Int × Int)))) := ([o_380.1, o_382.1] : List (T3 Int (List Int) (List (Int × Int))))
  let s_308 : Pot := o_382.2
  mapK made_307 s_308
    (fun (y_309 : (T3 Int (List Int) (List (Int × Int)))) s_310 (nx_311 : O_Ladder → Pot → _) =>
      (f__law_built y_309.a y_309.b y_309.c s_310).bind fun o_376 =>
      nx_311 o_376.1 o_376.2)
    (fun (l_378 : List O_Ladder) s_379 =>
      let some_313 : (List O_Ladder) := l_378
      let s_314 : Pot := s_379
      mapK some_313 s_314
        (fun (y_315 : O_Ladder) s_316 (nx_317 : Str → Pot → _) =>
          (f_Ladder_repr y_315).bind fun o_369 =>
          nx_317 o_369 s_316)
        (fun (l_370 : List Str) s_371 =>
          mapK made_307 s_371
            (fun (y_319 : (T3 Int (List Int) (List (Int × Int)))) s_320 (nx_321 : Str → Pot → _) =>
              (f_Ladder_init_i2 y_319.a y_319.b y_319.c).bind fun o_373 =>
              (f_Ladder_repr o_373).bind fun o_372 =>
              nx_321 o_372 s_320)
            (fun (l_374 : List Str) s_375 =>
              if SOk l_370 ∧ SOk l_374 then
                if (!decide (l_370 = l_374)) = true then
                  let s_323 : Pot := s_375
                  some (false, s_323)
                else
                let s_324 : Pot := s_375
                (f__law_draw (999 : Int) s_324).bind fun o_363 =>
                (f__law_far o_363.2).bind fun o_365 =>
                if CDivW o_365.1 (10000000 : Int) then
                  (f__law_pick ([(0 : Int), (-(1 : Int)), (o_363.1 - (500 : Int)), (o_365.1 / (10000000 : Int))] : List Int) o_365.2).bind fun o_367 =>
                  let start_325 : Int := o_367.1
                  let s_326 : Pot := o_367.2
                  forK (rg 0 (4 : Int)) (()) s_326
                    (fun (y_330 : Int) (c_329 : (Unit)) (s_331 : Pot) (next_327 : (Unit) → Pot → _) (done_328 : (Unit) → Pot → _) =>
                      forK (List.zip some_313 made_307) (()) s_331
                        (fun (y_335 : (O_Ladder × (T3 Int (List Int) (List (Int × Int))))) (c_334 : (Unit)) (s_336 : Pot) (next_332 : (Unit) → Pot → _) (done_333 : (Unit) → Pot → _) =>
                          (f__law_wides y_335.2.a y_335.2.b).bind fun o_350 =>
                          let wides_here_337 : (List Int) := o_350
                          let s_338 : Pot := s_336
                          if (decide (y_330 ≥ (wides_here_337.length : Int))) = true then
                            let s_339 : Pot := s_338
                            next_332 (()) s_339
                          else
                          let s_340 : Pot := s_338
                          (atI y_335.2.c y_330).bind fun o_347 =>
                          (atI wides_here_337 y_330).bind fun o_348 =>
                          (f__law_level_right y_335.1 o_347 y_330 start_325 o_348).bind fun o_349 =>
                          if (!o_349) = true then
                            let s_341 : Pot := s_340
                            some (false, s_341)
                          else
                          let s_342 : Pot := s_340
                          (f__law_great_right y_335.1 start_325 y_330 s_342).bind fun o_345 =>
                          if (!o_345.1) = true then
                            let s_343 : Pot := o_345.2
                            some (false, s_343)
                          else
                          let s_344 : Pot := o_345.2
                          next_332 (()) s_344)
                        (fun (c_351 : (Unit)) (s_352 : Pot) =>
                          next_327 (()) s_352))
                    (fun (c_353 : (Unit)) (s_354 : Pot) =>
                      mapK (List.zip some_313 made_307) s_354
                        (fun (y_355 : (O_Ladder × (T3 Int (List Int) (List (Int × Int))))) s_356 (nx_357 : Bool → Pot → _) =>
                          (f_Ladder_init_i2 y_355.2.a y_355.2.b y_355.2.c).bind fun o_360 =>
                          (f_Ladder_eq y_355.1 o_360).bind fun o_359 =>
                          nx_357 o_359 s_356)
                        (fun (l_361 : List Bool) s_362 =>
                          some ((l_361.all id), s_362)))
                else none
              else none)))
abbrev P__law_right (K : Frag) : Sp := SpS K (fun (as : Unit) s => f__law_right s)
theorem B__law_right (T : Tx K mg) : BodyG CX0 P w K mg base ["_law_pot_here", "_law_made", "_law_some", "_law_first", "_law_ups", "_law_rims", "_law_one", "_law_start", "_law_at", "_law_wides_here"] "_law_right" (defScope s__law_right) (defBody s__law_right) 20 (ga K "_law_right") (P__law_right K) := by
  intro cdv A outer s0 H vs Q E hr h
  have hu := hr.units
  have hu1 := hr.units1
  refine ⟨_, PSs.nox (pss_cons (ps_set (i := 1) sc__law_right.nd rfl (by first | exact Or.inl rfl | exact Or.inr rfl) (pe_lst (pa_cons (pe_c (call_g (G__law_small T) (hr.mono (by decide)) pass0) (kp__law_small T) rfl (g__law_small T) (pa_cons (pv 0) pa_nil)) (pa_cons (pe_c (call_g (G__law_small T) (hr.mono (by decide)) pass0) (kp__law_small T) rfl (g__law_small T) (pa_cons (pv 0) pa_nil)) pa_nil))))
    (pss_cons (ps_setLc (i := 2) rfl sc__law_right.nd rfl rfl (sw_true rfl rfl rfl (by decide +kernel)) (pi_list (pv 1)) (blkOk_by (N := ["_law_pot_here", "_law_made", "_law_some", "_law_first", "_law_ups", "_law_rims", "_law_one", "_law_start", "_law_at", "_law_wides_here"]) (sc := defScope s__law_right) (own := [("_law_first", 3), ("_law_ups", 4), ("_law_rims", 5)]) (by decide +kernel)) (fun _ _ _ _ _ => (pg_tupK (K := K) (n := 3) rfl rfl (pgs_cons (pg_name (i := 3) sc__law_right.nd rfl (by first | exact Or.inl rfl | exact Or.inr rfl)) (pgs_cons (pg_name (i := 4) sc__law_right.nd rfl (by first | exact Or.inl rfl | exact Or.inr rfl)) (pgs_cons (pg_name (i := 5) sc__law_right.nd rfl (by first | exact Or.inl rfl | exact Or.inr rfl)) pgs_nil))))) (fun _ _ _ _ _ => pts_nil) (fun _ _ _ _ _ => (pe_c (call_g (G__law_built T) (hr.mono (by decide)) pass0) (kp__law_built T) rfl (g__law_built T) (pa_cons (pv 0) (pa_cons (pv 3) (pa_cons (pv 4) (pa_cons (pv 5) pa_nil)))))))
    (pss_cons (ps_if (pt_cmpR (op_neD hu) (pe_lc rfl sc__law_right.nd (pi_list (pv 2)) (blkOk_by (N := ["_law_pot_here", "_law_made", "_law_some", "_law_first", "_law_ups", "_law_rims", "_law_one", "_law_start", "_law_at", "_law_wides_here"]) (sc := defScope s__law_right) (own := [("_law_one", 6)]) (by decide +kernel)) (fun _ _ _ _ _ => (pg_name (i := 6) sc__law_right.nd rfl (by first | exact Or.inl rfl | exact Or.inr rfl))) (fun _ _ _ _ _ => pts_nil) (fun _ _ _ _ _ => (pe_callB (call_reprOwn (m_Ladder_repr T).at_ (m_Ladder_repr T).fn (G_Ladder_repr T) (hr.mono (by decide)) pass0) (by rfl) (z_repr T) PyProof.Rows.boot_repr (pa_cons (pv 6) pa_nil)))) (pe_lc rfl sc__law_right.nd (pi_list (pv 1)) (blkOk_by (N := ["_law_pot_here", "_law_made", "_law_some", "_law_first", "_law_ups", "_law_rims", "_law_one", "_law_start", "_law_at", "_law_wides_here"]) (sc := defScope s__law_right) (own := [("_law_first", 3), ("_law_ups", 4), ("_law_rims", 5)]) (by decide +kernel)) (fun _ _ _ _ _ => (pg_tupK (K := K) (n := 3) rfl rfl (pgs_cons (pg_name (i := 3) sc__law_right.nd rfl (by first | exact Or.inl rfl | exact Or.inr rfl)) (pgs_cons (pg_name (i := 4) sc__law_right.nd rfl (by first | exact Or.inl rfl | exact Or.inr rfl)) (pgs_cons (pg_name (i := 5) sc__law_right.nd rfl (by first | exact Or.inl rfl | exact Or.inr rfl)) pgs_nil))))) (fun _ _ _ _ _ => pts_nil) (fun _ _ _ _ _ => (pe_callB (call_reprOwn (m_Ladder_repr T).at_ (m_Ladder_repr T).fn (G_Ladder_repr T) (hr.mono (by decide)) pass0) (by rfl) (z_repr T) PyProof.Rows.boot_repr (pa_cons (pe_c (call_mk (k_Ladder T) (G_Ladder_init_i2 T) (hr.mono (by decide)) pass0) (k_Ladder T).kp rfl (g_Ladder T) (pa_cons (pv 3) (pa_cons (pv 4) (pa_cons (pv 5) pa_nil)))) pa_nil)))) (nomark _)) (pss_one (ps_ret pe_bl)) pss_nil)
    (pss_cons (ps_set (i := 7) sc__law_right.nd rfl (by first | exact Or.inl rfl | exact Or.inr rfl) (pe_c (call_g (G__law_pick T) (hr.mono (by decide)) pass0) (kp__law_pick T) rfl (g__law_pick T) (pa_cons (pv 0) (pa_cons (pe_lst (pa_cons pe_int (pa_cons (pe_un un_neg pe_int) (pa_cons (pe_op (op_sub) (pe_c (call_g (G__law_draw T) (hr.mono (by decide)) pass0) (kp__law_draw T) rfl (g__law_draw T) (pa_cons (pv 0) (pa_cons pe_int pa_nil))) pe_int) (pa_cons (pe_op (op_fdivW) (pe_c (call_g (G__law_far T) (hr.mono (by decide)) pass0) (kp__law_far T) rfl (g__law_far T) (pa_cons (pv 0) pa_nil)) (pe_op (op_pow) pe_int pe_int)) pa_nil))))) pa_nil))))
    (pss_cons (ps_for PassesOwn.never rfl (pi_range1 rfl (z_range T) (pa_cons pe_int pa_nil)) (pg_name (i := 8) sc__law_right.nd rfl (by first | exact Or.inl rfl | exact Or.inr rfl))
    (pss_one (ps_for PassesOwn.never rfl (pi_zip rfl (z_zip T) (pa_cons (pv 2) (pa_cons (pv 1) pa_nil))) (pg_tupK (K := K) (n := 2) rfl rfl (pgs_cons (pg_name (i := 6) sc__law_right.nd rfl (by first | exact Or.inl rfl | exact Or.inr rfl)) (pgs_cons (pg_tupK (K := K) (n := 3) rfl rfl (pgs_cons (pg_name (i := 3) sc__law_right.nd rfl (by first | exact Or.inl rfl | exact Or.inr rfl)) (pgs_cons (pg_name (i := 4) sc__law_right.nd rfl (by first | exact Or.inl rfl | exact Or.inr rfl)) (pgs_cons (pg_name (i := 5) sc__law_right.nd rfl (by first | exact Or.inl rfl | exact Or.inr rfl)) pgs_nil)))) pgs_nil)))
    (pss_cons (ps_set (i := 9) sc__law_right.nd rfl (by first | exact Or.inl rfl | exact Or.inr rfl) (pe_c (call_g (G__law_wides T) (hr.mono (by decide)) pass0) (kp__law_wides T) rfl (g__law_wides T) (pa_cons (pv 3) (pa_cons (pv 4) pa_nil))))
    (pss_cons (ps_if (pt_cmpR (op_ge) (pv 8) (pe_callB (call_len_seq) (by rfl) (z_len T) PySem.boot_len (pa_cons (pv 9) pa_nil)) (nomark _)) (pss_one ps_continue) pss_nil)
    (pss_cons (ps_if (pt_not (pt_val (pe_c (call_g (G__law_level_right T) (hr.mono (by decide)) pass0) (kp__law_level_right T) rfl (g__law_level_right T) (pa_cons (pv 6) (pa_cons (pe_ix (ix_list) (pv 5) (pv 8) (fun _ _ => rfl)) (pa_cons (pv 8) (pa_cons (pv 7) (pa_cons (pe_ix (ix_list) (pv 9) (pv 8) (fun _ _ => rfl)) pa_nil)))))))) (pss_one (ps_ret pe_bl)) pss_nil)
    (pss_one (ps_if (pt_not (pt_val (pe_c (call_g (G__law_great_right T) (hr.mono (by decide)) pass0) (kp__law_great_right T) rfl (g__law_great_right T) (pa_cons (pv 0) (pa_cons (pv 6) (pa_cons (pv 7) (pa_cons (pv 8) pa_nil))))))) (pss_one (ps_ret pe_bl)) pss_nil))))))))
    (pss_one (ps_ret (pe_callB (cr_all rfl) (by rfl) (z_all T) PyProof.Rows.boot_all (pa_cons (pe_lc rfl sc__law_right.nd (pi_zip rfl (z_zip T) (pa_cons (pv 2) (pa_cons (pv 1) pa_nil))) (blkOk_by (N := ["_law_pot_here", "_law_made", "_law_some", "_law_first", "_law_ups", "_law_rims", "_law_one", "_law_start", "_law_at", "_law_wides_here"]) (sc := defScope s__law_right) (own := [("_law_one", 6), ("_law_first", 3), ("_law_ups", 4), ("_law_rims", 5)]) (by decide +kernel)) (fun _ _ _ _ _ => (pg_tupK (K := K) (n := 2) rfl rfl (pgs_cons (pg_name (i := 6) sc__law_right.nd rfl (by first | exact Or.inl rfl | exact Or.inr rfl)) (pgs_cons (pg_tupK (K := K) (n := 3) rfl rfl (pgs_cons (pg_name (i := 3) sc__law_right.nd rfl (by first | exact Or.inl rfl | exact Or.inr rfl)) (pgs_cons (pg_name (i := 4) sc__law_right.nd rfl (by first | exact Or.inl rfl | exact Or.inr rfl)) (pgs_cons (pg_name (i := 5) sc__law_right.nd rfl (by first | exact Or.inl rfl | exact Or.inr rfl)) pgs_nil)))) pgs_nil)))) (fun _ _ _ _ _ => pts_nil) (fun _ _ _ _ _ => (pe_cmpR (show OpR _ _ (rEqO K (ga K "Ladder") (P_Ladder_eq K) E0) from (op_eqO (eq_Ladder T) (G_Ladder_eq T) (hr.mono (by decide)) pass0)) (pv 6) (pe_c (call_mk (k_Ladder T) (G_Ladder_init_i2 T) (hr.mono (by decide)) pass0) (k_Ladder T).kp rfl (g_Ladder T) (pa_cons (pv 3) (pa_cons (pv 4) (pa_cons (pv 5) pa_nil)))) (nomark _)))) pa_nil))))))))), ?_⟩
  refine body_S (f := fun (as : Unit) s => f__law_right s) h 9 (fun _ => rfl) fun e q as s hm hR => ?_
  obtain ⟨⟩ := as
  exact ((sv_asg (fun (made_307 : (List (T3 Int (List Int) (List (Int × Int))))) (s_308 : Pot) =>
mapK made_307 s_308
  (fun (y_309 : (T3 Int (List Int) (List (Int × Int)))) s_310 (nx_311 : O_Ladder → Pot → _) =>
    (f__law_built y_309.a y_309.b y_309.c s_310).bind fun o_376 =>
    nx_311 o_376.1 o_376.2)
  (fun (l_378 : List O_Ladder) s_379 =>
    let some_313 : (List O_Ladder) := l_378
    let s_314 : Pot := s_379
    mapK some_313 s_314
      (fun (y_315 : O_Ladder) s_316 (nx_317 : Str → Pot → _) =>
        (f_Ladder_repr y_315).bind fun o_369 =>
        nx_317 o_369 s_316)
      (fun (l_370 : List Str) s_371 =>
        mapK made_307 s_371
          (fun (y_319 : (T3 Int (List Int) (List (Int × Int)))) s_320 (nx_321 : Str → Pot → _) =>
            (f_Ladder_init_i2 y_319.a y_319.b y_319.c).bind fun o_373 =>
            (f_Ladder_repr o_373).bind fun o_372 =>
            nx_321 o_372 s_320)
          (fun (l_374 : List Str) s_375 =>
            if SOk l_370 ∧ SOk l_374 then
              if (!decide (l_370 = l_374)) = true then
                let s_323 : Pot := s_375
                some (false, s_323)
              else
              let s_324 : Pot := s_375
              (f__law_draw (999 : Int) s_324).bind fun o_363 =>
              (f__law_far o_363.2).bind fun o_365 =>
              if CDivW o_365.1 (10000000 : Int) then
                (f__law_pick ([(0 : Int), (-(1 : Int)), (o_363.1 - (500 : Int)), (o_365.1 / (10000000 : Int))] : List Int) o_365.2).bind fun o_367 =>
                let start_325 : Int := o_367.1
                let s_326 : Pot := o_367.2
                forK (rg 0 (4 : Int)) (()) s_326
                  (fun (y_330 : Int) (c_329 : (Unit)) (s_331 : Pot) (next_327 : (Unit) → Pot → _) (done_328 : (Unit) → Pot → _) =>
                    forK (List.zip some_313 made_307) (()) s_331
                      (fun (y_335 : (O_Ladder × (T3 Int (List Int) (List (Int × Int))))) (c_334 : (Unit)) (s_336 : Pot) (next_332 : (Unit) → Pot → _) (done_333 : (Unit) → Pot → _) =>
                        (f__law_wides y_335.2.a y_335.2.b).bind fun o_350 =>
                        let wides_here_337 : (List Int) := o_350
                        let s_338 : Pot := s_336
                        if (decide (y_330 ≥ (wides_here_337.length : Int))) = true then
                          let s_339 : Pot := s_338
                          next_332 (()) s_339
                        else
                        let s_340 : Pot := s_338
                        (atI y_335.2.c y_330).bind fun o_347 =>
                        (atI wides_here_337 y_330).bind fun o_348 =>
                        (f__law_level_right y_335.1 o_347 y_330 start_325 o_348).bind fun o_349 =>
                        if (!o_349) = true then
                          let s_341 : Pot := s_340
                          some (false, s_341)
                        else
                        let s_342 : Pot := s_340
                        (f__law_great_right y_335.1 start_325 y_330 s_342).bind fun o_345 =>
                        if (!o_345.1) = true then
                          let s_343 : Pot := o_345.2
                          some (false, s_343)
                        else
                        let s_344 : Pot := o_345.2
                        next_332 (()) s_344)
                      (fun (c_351 : (Unit)) (s_352 : Pot) =>
                        next_327 (()) s_352))
                  (fun (c_353 : (Unit)) (s_354 : Pot) =>
                    mapK (List.zip some_313 made_307) s_354
                      (fun (y_355 : (O_Ladder × (T3 Int (List Int) (List (Int × Int))))) s_356 (nx_357 : Bool → Pot → _) =>
                        (f_Ladder_init_i2 y_355.2.a y_355.2.b y_355.2.c).bind fun o_360 =>
                        (f_Ladder_eq y_355.1 o_360).bind fun o_359 =>
                        nx_357 o_359 s_356)
                      (fun (l_361 : List Bool) s_362 =>
                        some ((l_361.all id), s_362)))
              else none
            else none)))) (evL_lst (evL_cons (ev_callSP hm (f := fun (as : Unit) (s : Pot) => f__law_small s) (puA_cons (pu_var 0 rfl) fun _ => puA_nil)) fun _ _ _ => (evL_cons (ev_callSP hm (f := fun (as : Unit) (s : Pot) => f__law_small s) (puA_cons (pu_var 0 rfl) fun _ => puA_nil)) fun _ _ _ => evL_nil)) (Nat.le_of_ble_eq_true rfl)) (tg_name 1) (fun made_307 s_308 => (sv_asg (fun (some_313 : (List O_Ladder)) (s_314 : Pot) =>
mapK some_313 s_314
  (fun (y_315 : O_Ladder) s_316 (nx_317 : Str → Pot → _) =>
    (f_Ladder_repr y_315).bind fun o_369 =>
    nx_317 o_369 s_316)
  (fun (l_370 : List Str) s_371 =>
    mapK made_307 s_371
      (fun (y_319 : (T3 Int (List Int) (List (Int × Int)))) s_320 (nx_321 : Str → Pot → _) =>
        (f_Ladder_init_i2 y_319.a y_319.b y_319.c).bind fun o_373 =>
        (f_Ladder_repr o_373).bind fun o_372 =>
        nx_321 o_372 s_320)
      (fun (l_374 : List Str) s_375 =>
        if SOk l_370 ∧ SOk l_374 then
          if (!decide (l_370 = l_374)) = true then
            let s_323 : Pot := s_375
            some (false, s_323)
          else
          let s_324 : Pot := s_375
          (f__law_draw (999 : Int) s_324).bind fun o_363 =>
          (f__law_far o_363.2).bind fun o_365 =>
          if CDivW o_365.1 (10000000 : Int) then
            (f__law_pick ([(0 : Int), (-(1 : Int)), (o_363.1 - (500 : Int)), (o_365.1 / (10000000 : Int))] : List Int) o_365.2).bind fun o_367 =>
            let start_325 : Int := o_367.1
            let s_326 : Pot := o_367.2
            forK (rg 0 (4 : Int)) (()) s_326
              (fun (y_330 : Int) (c_329 : (Unit)) (s_331 : Pot) (next_327 : (Unit) → Pot → _) (done_328 : (Unit) → Pot → _) =>
                forK (List.zip some_313 made_307) (()) s_331
                  (fun (y_335 : (O_Ladder × (T3 Int (List Int) (List (Int × Int))))) (c_334 : (Unit)) (s_336 : Pot) (next_332 : (Unit) → Pot → _) (done_333 : (Unit) → Pot → _) =>
                    (f__law_wides y_335.2.a y_335.2.b).bind fun o_350 =>
                    let wides_here_337 : (List Int) := o_350
                    let s_338 : Pot := s_336
                    if (decide (y_330 ≥ (wides_here_337.length : Int))) = true then
                      let s_339 : Pot := s_338
                      next_332 (()) s_339
                    else
                    let s_340 : Pot := s_338
                    (atI y_335.2.c y_330).bind fun o_347 =>
                    (atI wides_here_337 y_330).bind fun o_348 =>
                    (f__law_level_right y_335.1 o_347 y_330 start_325 o_348).bind fun o_349 =>
                    if (!o_349) = true then
                      let s_341 : Pot := s_340
                      some (false, s_341)
                    else
                    let s_342 : Pot := s_340
                    (f__law_great_right y_335.1 start_325 y_330 s_342).bind fun o_345 =>
                    if (!o_345.1) = true then
                      let s_343 : Pot := o_345.2
                      some (false, s_343)
                    else
                    let s_344 : Pot := o_345.2
                    next_332 (()) s_344)
                  (fun (c_351 : (Unit)) (s_352 : Pot) =>
                    next_327 (()) s_352))
              (fun (c_353 : (Unit)) (s_354 : Pot) =>
                mapK (List.zip some_313 made_307) s_354
                  (fun (y_355 : (O_Ladder × (T3 Int (List Int) (List (Int × Int))))) s_356 (nx_357 : Bool → Pot → _) =>
                    (f_Ladder_init_i2 y_355.2.a y_355.2.b y_355.2.c).bind fun o_360 =>
                    (f_Ladder_eq y_355.1 o_360).bind fun o_359 =>
                    nx_357 o_359 s_356)
                  (fun (l_361 : List Bool) s_362 =>
                    some ((l_361.all id), s_362)))
          else none
        else none))) (ev_lc (vs := [3, 4, 5]) (PuI.ev (puI_list (pu_var 1 rfl))) (tg_tup3 (tgs_cons (tg_name 3) (tgs_cons (tg_name 4) (tgs_cons (tg_name 5) tgs_nil)))) (by decide) fun _ _ _ y_309 _ _ => (ev_callSP hm (f := fun (as : Int × (List Int) × (List (Int × Int)) × Unit) (s : Pot) => f__law_built as.1 as.2.1 as.2.2.1 s) (puA_cons (pu_var 0 rfl) fun _ => (puA_cons (pu_var 3 rfl) fun _ => (puA_cons (pu_var 4 rfl) fun _ => (puA_cons (pu_var 5 rfl) fun _ => puA_nil)))))) (tg_name 2) (fun some_313 s_314 => (sv_ifR (fun (s_323 : Pot) =>
some (false, s_323)) (fun (s_324 : Pot) =>
(f__law_draw (999 : Int) s_324).bind fun o_363 =>
(f__law_far o_363.2).bind fun o_365 =>
if CDivW o_365.1 (10000000 : Int) then
  (f__law_pick ([(0 : Int), (-(1 : Int)), (o_363.1 - (500 : Int)), (o_365.1 / (10000000 : Int))] : List Int) o_365.2).bind fun o_367 =>
  let start_325 : Int := o_367.1
  let s_326 : Pot := o_367.2
  forK (rg 0 (4 : Int)) (()) s_326
    (fun (y_330 : Int) (c_329 : (Unit)) (s_331 : Pot) (next_327 : (Unit) → Pot → _) (done_328 : (Unit) → Pot → _) =>
      forK (List.zip some_313 made_307) (()) s_331
        (fun (y_335 : (O_Ladder × (T3 Int (List Int) (List (Int × Int))))) (c_334 : (Unit)) (s_336 : Pot) (next_332 : (Unit) → Pot → _) (done_333 : (Unit) → Pot → _) =>
          (f__law_wides y_335.2.a y_335.2.b).bind fun o_350 =>
          let wides_here_337 : (List Int) := o_350
          let s_338 : Pot := s_336
          if (decide (y_330 ≥ (wides_here_337.length : Int))) = true then
            let s_339 : Pot := s_338
            next_332 (()) s_339
          else
          let s_340 : Pot := s_338
          (atI y_335.2.c y_330).bind fun o_347 =>
          (atI wides_here_337 y_330).bind fun o_348 =>
          (f__law_level_right y_335.1 o_347 y_330 start_325 o_348).bind fun o_349 =>
          if (!o_349) = true then
            let s_341 : Pot := s_340
            some (false, s_341)
          else
          let s_342 : Pot := s_340
          (f__law_great_right y_335.1 start_325 y_330 s_342).bind fun o_345 =>
          if (!o_345.1) = true then
            let s_343 : Pot := o_345.2
            some (false, s_343)
          else
          let s_344 : Pot := o_345.2
          next_332 (()) s_344)
        (fun (c_351 : (Unit)) (s_352 : Pot) =>
          next_327 (()) s_352))
    (fun (c_353 : (Unit)) (s_354 : Pot) =>
      mapK (List.zip some_313 made_307) s_354
        (fun (y_355 : (O_Ladder × (T3 Int (List Int) (List (Int × Int))))) s_356 (nx_357 : Bool → Pot → _) =>
          (f_Ladder_init_i2 y_355.2.a y_355.2.b y_355.2.c).bind fun o_360 =>
          (f_Ladder_eq y_355.1 o_360).bind fun o_359 =>
          nx_357 o_359 s_356)
        (fun (l_361 : List Bool) s_362 =>
          some ((l_361.all id), s_362)))
else none) (evT_test (ev_opC (ev_lc (vs := [6]) (PuI.ev (puI_list (pu_var 2 rfl))) (tg_name 6) (by decide) fun _ _ _ y_315 _ _ => (ev_reprO (f := fun (as : O_Ladder × Unit) => f_Ladder_repr as.1) (Pu.ev (pu_var 6 rfl)))) (fun _ _ _ => (ev_lc (vs := [3, 4, 5]) (PuI.ev (puI_list (pu_var 1 rfl))) (tg_tup3 (tgs_cons (tg_name 3) (tgs_cons (tg_name 4) (tgs_cons (tg_name 5) tgs_nil)))) (by decide) fun _ _ _ y_319 _ _ => (ev_reprO (f := fun (as : O_Ladder × Unit) => f_Ladder_repr as.1) (ev_mkP (f := fun (as : Int × (List Int) × (List (Int × Int)) × Unit) => f_Ladder_init_i2 as.1 as.2.1 as.2.2.1) (puA_cons (pu_var 3 rfl) fun _ => (puA_cons (pu_var 4 rfl) fun _ => (puA_cons (pu_var 5 rfl) fun _ => puA_nil))))))) o_neLS)) (fun s_323 => (sv_ret hR (Pu.ev (pu_bl false)) (by exact rfl))) (fun s_324 => (sv_asg (fun (start_325 : Int) (s_326 : Pot) =>
forK (rg 0 (4 : Int)) (()) s_326
  (fun (y_330 : Int) (c_329 : (Unit)) (s_331 : Pot) (next_327 : (Unit) → Pot → _) (done_328 : (Unit) → Pot → _) =>
    forK (List.zip some_313 made_307) (()) s_331
      (fun (y_335 : (O_Ladder × (T3 Int (List Int) (List (Int × Int))))) (c_334 : (Unit)) (s_336 : Pot) (next_332 : (Unit) → Pot → _) (done_333 : (Unit) → Pot → _) =>
        (f__law_wides y_335.2.a y_335.2.b).bind fun o_350 =>
        let wides_here_337 : (List Int) := o_350
        let s_338 : Pot := s_336
        if (decide (y_330 ≥ (wides_here_337.length : Int))) = true then
          let s_339 : Pot := s_338
          next_332 (()) s_339
        else
        let s_340 : Pot := s_338
        (atI y_335.2.c y_330).bind fun o_347 =>
        (atI wides_here_337 y_330).bind fun o_348 =>
        (f__law_level_right y_335.1 o_347 y_330 start_325 o_348).bind fun o_349 =>
        if (!o_349) = true then
          let s_341 : Pot := s_340
          some (false, s_341)
        else
        let s_342 : Pot := s_340
        (f__law_great_right y_335.1 start_325 y_330 s_342).bind fun o_345 =>
        if (!o_345.1) = true then
          let s_343 : Pot := o_345.2
          some (false, s_343)
        else
        let s_344 : Pot := o_345.2
        next_332 (()) s_344)
      (fun (c_351 : (Unit)) (s_352 : Pot) =>
        next_327 (()) s_352))
  (fun (c_353 : (Unit)) (s_354 : Pot) =>
    mapK (List.zip some_313 made_307) s_354
      (fun (y_355 : (O_Ladder × (T3 Int (List Int) (List (Int × Int))))) s_356 (nx_357 : Bool → Pot → _) =>
        (f_Ladder_init_i2 y_355.2.a y_355.2.b y_355.2.c).bind fun o_360 =>
        (f_Ladder_eq y_355.1 o_360).bind fun o_359 =>
        nx_357 o_359 s_356)
      (fun (l_361 : List Bool) s_362 =>
        some ((l_361.all id), s_362)))) (ev_callS hm (f := fun (as : (List Int) × Unit) (s : Pot) => f__law_pick as.1 s) (evA_consY (fun _ _ _ => (evA_consY (fun _ _ _ => (PuA.ev puA_nil)) (evL_lst (evL_cons (Pu.ev (pu_int 0)) fun _ _ _ => (evL_cons (Pu.ev (pu_un (pu_int 1) o_neg)) fun _ _ _ => (evL_cons (ev_op (ev_callSP hm (f := fun (as : Int × Unit) (s : Pot) => f__law_draw as.1 s) (puA_cons (pu_var 0 rfl) fun _ => (puA_cons (pu_int 999) fun _ => puA_nil))) (fun _ _ _ => (Pu.ev (pu_int 500))) o_sub) fun _ _ _ => (evL_cons (ev_opC (ev_callSP hm (f := fun (as : Unit) (s : Pot) => f__law_far s) (puA_cons (pu_var 0 rfl) fun _ => puA_nil)) (fun _ _ _ => (Pu.ev (pu_pow (i := 10) (j := 7) (c := 10000000) (by decide +kernel) (by decide +kernel)))) o_fdiv) fun _ _ _ => evL_nil)))) (Nat.le_of_ble_eq_true rfl)))) (Pu.ev (pu_var 0 rfl)))) (tg_name 7) (fun start_325 s_326 => (sv_for (ς := (Unit)) (fun (y_330 : Int) (c_329 : (Unit)) (s_331 : Pot) (next_327 : (Unit) → Pot → _) (done_328 : (Unit) → Pot → _) =>
    forK (List.zip some_313 made_307) (()) s_331
      (fun (y_335 : (O_Ladder × (T3 Int (List Int) (List (Int × Int))))) (c_334 : (Unit)) (s_336 : Pot) (next_332 : (Unit) → Pot → _) (done_333 : (Unit) → Pot → _) =>
        (f__law_wides y_335.2.a y_335.2.b).bind fun o_350 =>
        let wides_here_337 : (List Int) := o_350
        let s_338 : Pot := s_336
        if (decide (y_330 ≥ (wides_here_337.length : Int))) = true then
          let s_339 : Pot := s_338
          next_332 (()) s_339
        else
        let s_340 : Pot := s_338
        (atI y_335.2.c y_330).bind fun o_347 =>
        (atI wides_here_337 y_330).bind fun o_348 =>
        (f__law_level_right y_335.1 o_347 y_330 start_325 o_348).bind fun o_349 =>
        if (!o_349) = true then
          let s_341 : Pot := s_340
          some (false, s_341)
        else
        let s_342 : Pot := s_340
        (f__law_great_right y_335.1 start_325 y_330 s_342).bind fun o_345 =>
        if (!o_345.1) = true then
          let s_343 : Pot := o_345.2
          some (false, s_343)
        else
        let s_344 : Pot := o_345.2
        next_332 (()) s_344)
      (fun (c_351 : (Unit)) (s_352 : Pot) =>
        next_327 (()) s_352)) (fun (c_353 : (Unit)) (s_354 : Pot) =>
    mapK (List.zip some_313 made_307) s_354
      (fun (y_355 : (O_Ladder × (T3 Int (List Int) (List (Int × Int))))) s_356 (nx_357 : Bool → Pot → _) =>
        (f_Ladder_init_i2 y_355.2.a y_355.2.b y_355.2.c).bind fun o_360 =>
        (f_Ladder_eq y_355.1 o_360).bind fun o_359 =>
        nx_357 o_359 s_356)
      (fun (l_361 : List Bool) s_362 =>
        some ((l_361.all id), s_362))) (NJ := fun c_329 => []) (tJ := fun c_329 => [some (av K (PRef.mk (q := q))), some (av K made_307), some (av K some_313), none, none, none, none, some (av K start_325), none, none]) (()) rfl (Sub.keep (Sub.keep (Sub.keep (Sub.keep (Sub.keep (Sub.keep (Sub.keep (Sub.keep (Sub.keep (Sub.keep Sub.nil)))))))))) (PuI.ev (puI_rg1 (pu_int 4) (by decide +kernel))) (tg_name 8) (fun _ y_330 c_329 s_331 next_327 done_328 => (sv_last (sv_for (ς := (Unit)) (fun (y_335 : (O_Ladder × (T3 Int (List Int) (List (Int × Int))))) (c_334 : (Unit)) (s_336 : Pot) (next_332 : (Unit) → Pot → _) (done_333 : (Unit) → Pot → _) =>
    (f__law_wides y_335.2.a y_335.2.b).bind fun o_350 =>
    let wides_here_337 : (List Int) := o_350
    let s_338 : Pot := s_336
    if (decide (y_330 ≥ (wides_here_337.length : Int))) = true then
      let s_339 : Pot := s_338
      next_332 (()) s_339
    else
    let s_340 : Pot := s_338
    (atI y_335.2.c y_330).bind fun o_347 =>
    (atI wides_here_337 y_330).bind fun o_348 =>
    (f__law_level_right y_335.1 o_347 y_330 start_325 o_348).bind fun o_349 =>
    if (!o_349) = true then
      let s_341 : Pot := s_340
      some (false, s_341)
    else
    let s_342 : Pot := s_340
    (f__law_great_right y_335.1 start_325 y_330 s_342).bind fun o_345 =>
    if (!o_345.1) = true then
      let s_343 : Pot := o_345.2
      some (false, s_343)
    else
    let s_344 : Pot := o_345.2
    next_332 (()) s_344) (fun (c_351 : (Unit)) (s_352 : Pot) =>
    next_327 (()) s_352) (NJ := fun c_334 => []) (tJ := fun c_334 => [some (av K (PRef.mk (q := q))), some (av K made_307), some (av K some_313), none, none, none, none, some (av K start_325), some (av K y_330), none]) (()) rfl (Sub.keep (Sub.keep (Sub.keep (Sub.keep (Sub.keep (Sub.keep (Sub.keep (Sub.keep (Sub.keep (Sub.keep Sub.nil)))))))))) (PuI.ev (puI_zip (pu_var 2 rfl) fun _ => (pu_var 1 rfl))) (tg_tup2 (tgs_cons (tg_name 6) (tgs_cons (tg_tup3 (tgs_cons (tg_name 3) (tgs_cons (tg_name 4) (tgs_cons (tg_name 5) tgs_nil)))) tgs_nil))) (fun _ y_335 c_334 s_336 next_332 done_333 => (sv_asg (fun (wides_here_337 : (List Int)) (s_338 : Pot) =>
if (decide (y_330 ≥ (wides_here_337.length : Int))) = true then
  let s_339 : Pot := s_338
  next_332 (()) s_339
else
let s_340 : Pot := s_338
(atI y_335.2.c y_330).bind fun o_347 =>
(atI wides_here_337 y_330).bind fun o_348 =>
(f__law_level_right y_335.1 o_347 y_330 start_325 o_348).bind fun o_349 =>
if (!o_349) = true then
  let s_341 : Pot := s_340
  some (false, s_341)
else
let s_342 : Pot := s_340
(f__law_great_right y_335.1 start_325 y_330 s_342).bind fun o_345 =>
if (!o_345.1) = true then
  let s_343 : Pot := o_345.2
  some (false, s_343)
else
let s_344 : Pot := o_345.2
next_332 (()) s_344) (ev_callP (f := fun (as : Int × (List Int) × Unit) => f__law_wides as.1 as.2.1) (puA_cons (pu_var 3 rfl) fun _ => (puA_cons (pu_var 4 rfl) fun _ => puA_nil))) (tg_name 9) (fun wides_here_337 s_338 => (sv_ifR (fun (s_339 : Pot) =>
next_332 (()) s_339) (fun (s_340 : Pot) =>
(atI y_335.2.c y_330).bind fun o_347 =>
(atI wides_here_337 y_330).bind fun o_348 =>
(f__law_level_right y_335.1 o_347 y_330 start_325 o_348).bind fun o_349 =>
if (!o_349) = true then
  let s_341 : Pot := s_340
  some (false, s_341)
else
let s_342 : Pot := s_340
(f__law_great_right y_335.1 start_325 y_330 s_342).bind fun o_345 =>
if (!o_345.1) = true then
  let s_343 : Pot := o_345.2
  some (false, s_343)
else
let s_344 : Pot := o_345.2
next_332 (()) s_344) (PuT.ev (puT_test (pu_op (g := fun i j : Int => decide (i ≥ j)) (pu_var 8 rfl) (fun _ => (pu_cb1 (pu_var 9 rfl) o_lenL)) o_ge))) (fun s_339 => (sv_cont (()) rfl (Sub.keep (Sub.keep (Sub.keep (Sub.drop (Sub.drop (Sub.drop (Sub.drop (Sub.keep (Sub.keep (Sub.drop Sub.nil)))))))))))) (fun s_340 => (sv_ifR (fun (s_341 : Pot) =>
some (false, s_341)) (fun (s_342 : Pot) =>
(f__law_great_right y_335.1 start_325 y_330 s_342).bind fun o_345 =>
if (!o_345.1) = true then
  let s_343 : Pot := o_345.2
  some (false, s_343)
else
let s_344 : Pot := o_345.2
next_332 (()) s_344) (evT_not (evT_B (ev_call (f := fun (as : O_Ladder × (Int × Int) × Int × Int × Int × Unit) => f__law_level_right as.1 as.2.1 as.2.2.1 as.2.2.2.1 as.2.2.2.2.1) (evA_consY (fun _ _ _ => (evA_consY (fun _ _ _ => (evA_consY (fun _ _ _ => (evA_consY (fun _ _ _ => (evA_consY (fun _ _ _ => (PuA.ev puA_nil)) (ev_opO (Pu.ev (pu_var 9 rfl)) (fun _ _ _ => (Pu.ev (pu_var 8 rfl))) o_ixL))) (Pu.ev (pu_var 7 rfl)))) (Pu.ev (pu_var 8 rfl)))) (ev_opO (Pu.ev (pu_var 5 rfl)) (fun _ _ _ => (Pu.ev (pu_var 8 rfl))) o_ixL))) (Pu.ev (pu_var 6 rfl)))))) (fun s_341 => (sv_ret hR (Pu.ev (pu_bl false)) (by exact rfl))) (fun s_342 => (sv_ifL (fun (s_343 : Pot) =>
some (false, s_343)) (fun (s_344 : Pot) =>
next_332 (()) s_344) (evT_not (evT_B (ev_callSP hm (f := fun (as : O_Ladder × Int × Int × Unit) (s : Pot) => f__law_great_right as.1 as.2.1 as.2.2.1 s) (puA_cons (pu_var 0 rfl) fun _ => (puA_cons (pu_var 6 rfl) fun _ => (puA_cons (pu_var 7 rfl) fun _ => (puA_cons (pu_var 8 rfl) fun _ => puA_nil))))))) (fun s_343 => (sv_ret hR (Pu.ev (pu_bl false)) (by exact rfl))) (fun s_344 => (sv_endJ (()) rfl (Sub.keep (Sub.keep (Sub.keep (Sub.drop (Sub.drop (Sub.drop (Sub.drop (Sub.keep (Sub.keep (Sub.drop Sub.nil)))))))))))) (by exact rfl))) (by exact rfl))) (by exact rfl))) (by exact rfl))) (fun c_351 s_352 => (sv_endJ (()) rfl (Sub.keep (Sub.keep (Sub.keep (Sub.keep (Sub.keep (Sub.keep (Sub.keep (Sub.keep (Sub.drop (Sub.keep Sub.nil)))))))))))) (by exact rfl)))) (fun c_353 s_354 => (sv_ret hR (ev_cb1 (ev_lc (vs := [6, 3, 4, 5]) (PuI.ev (puI_zip (pu_var 2 rfl) fun _ => (pu_var 1 rfl))) (tg_tup2 (tgs_cons (tg_name 6) (tgs_cons (tg_tup3 (tgs_cons (tg_name 3) (tgs_cons (tg_name 4) (tgs_cons (tg_name 5) tgs_nil)))) tgs_nil))) (by decide) fun _ _ _ y_355 _ _ => (ev_eqO (k' := 0) (f := fun (as : O_Ladder × O_Ladder × Unit) => f_Ladder_eq as.1 as.2.1) (Pu.ev (pu_var 6 rfl)) fun _ _ _ => (ev_mkP (f := fun (as : Int × (List Int) × (List (Int × Int)) × Unit) => f_Ladder_init_i2 as.1 as.2.1 as.2.2.1) (puA_cons (pu_var 3 rfl) fun _ => (puA_cons (pu_var 4 rfl) fun _ => (puA_cons (pu_var 5 rfl) fun _ => puA_nil)))))) o_all) (by exact rfl))) (by exact rfl))) (by exact rfl))) (by exact rfl))) (by exact rfl))) (by exact rfl)) : Sv e e.S0 [] [some (av K (PRef.mk (q := q))), none, none, none, none, none, none, none, none, none] [] _ s _ (fun _ H => e.rt .non H) nF nF)
theorem sp_len__law_right : ∀ vs H Q E, (P__law_right K) vs H Q E → vs.length = 1 := fun vs H Q E h => by obtain ⟨_, _, us, as, _, _, _, _, _, e, _, hA, _⟩ := h; subst e; exact congrArg (· + 1) hA.len
theorem G__law_right (T : Tx K mg) : FnG P w K mg base CX0 21 (ga K "_law_right") (P__law_right K) := by
  obtain ⟨fd, F⟩ := F__law_right T
  have b : L2.Binds K fd ["_law_pot_here"] [] := F.bindsN fun _ _ _ _ _ _ us hl => match us, hl with | [_], _ => rfl
  exact fnG_pl F sc__law_right b sp_len__law_right (B__law_right T)
end Hd

set_option Elab.async false
set_option linter.all false
set_option maxRecDepth 100000
set_option maxHeartbeats 4000000
namespace Hd
open PySem PySem.Spec PyProof.Rows L2 He Lw StX Lx
abbrev mP : Int := 2147483629
/-! mathematics: draws, ladders -/
theorem draw_ok {n : Int} {s : Pot} (hs : Good mP s) (h0 : 0 < n) (h1 : Sz 8000 n) : ∃ r s', f__law_draw n s = some (r, s') ∧ Good mP s' ∧ 0 ≤ r ∧ r < n := by
  obtain ⟨g1, g2, g3⟩ := hs
  unfold f__law_draw
  by_cases h : s.1 > 0
  · refine ⟨s.1 % n, (s.1 / n, s.2), ?_, ⟨Int.ediv_nonneg g1 (by omega), g2, g3⟩, Int.emod_nonneg _ (by omega), Int.emod_lt_of_pos _ h0⟩
    rw [if_pos (decide_eq_true h), if_pos (divOk h0 h1 (by omega))]
  · rw [if_neg (by simpa using h)]
    dsimp only
    generalize hc : (s.2 * _ + _) % _ = c
    have c0 : 0 ≤ c := by rw [← hc]; exact Int.emod_nonneg _ (by omega)
    have c1 : c < mP := by rw [← hc]; exact Int.emod_lt_of_pos _ (by decide)
    have c2 : Sz 40 c := by
      show c.natAbs < 2 ^ 40
      have : mP < 2 ^ 40 := by decide
      omega
    rw [if_pos (mulOk c2 c2 (by omega)), if_pos h0]
    have c3 : c < 1099511627776 := by
      have : mP < 1099511627776 := by decide
      omega
    exact ⟨_, _, rfl, ⟨g1, c0, c3⟩, Int.emod_nonneg _ (by omega), Int.emod_lt_of_pos _ h0⟩
theorem pick_ok {l : List Int} {s : Pot} (hs : Good mP s) (h0 : l ≠ []) (h1 : l.length ≤ 1000) : ∃ r s', f__law_pick l s = some (r, s') ∧ Good mP s' ∧ r ∈ l := by
  have hl : 0 < l.length := List.length_pos_iff.mpr h0
  obtain ⟨r, s', e, g, r0, r1⟩ := draw_ok (n := (l.length : Int)) hs (by omega) (show (l.length : Int).natAbs < 2 ^ 8000 from Nat.lt_of_lt_of_le (show (l.length : Int).natAbs < 2 ^ 10 by omega) (Nat.pow_le_pow_right (by decide) (by omega)))
  unfold f__law_pick
  rw [e]
  obtain ⟨i, rfl⟩ := Int.eq_ofNat_of_zero_le r0
  have hi : i < l.length := by omega
  refine ⟨l[i], s', ?_, g, List.getElem_mem hi⟩
  rw [some_bind']
  dsimp only
  rw [atI_ok (List.getElem?_eq_getElem hi)]
  rfl
theorem great_ok {s : Pot} (hs : Good mP s) : ∃ r s', f__law_great s = some (r, s') ∧ Good mP s' ∧ 0 ≤ r ∧ r < 10000000000000000000000000000 := by
  unfold f__law_great
  obtain ⟨r, s1, e, g, r0, r1⟩ := draw_ok (n := 3) hs (by omega) (sz_lit _ (by decide))
  rw [e, some_bind']
  dsimp only
  by_cases h : r > 0
  · rw [if_pos (decide_eq_true h)]
    obtain ⟨r, s1, e, g, r0, r1⟩ := draw_ok (n := 20) g (by omega) (sz_lit _ (by decide))
    rw [e, some_bind']
    exact ⟨r, s1, rfl, g, r0, by omega⟩
  · rw [if_neg (by simpa using h)]
    obtain ⟨q, s2, e2, g2, hq⟩ := pick_ok (l := [1, 2, 4]) g (by simp) (by simp)
    rw [e2, some_bind']
    dsimp only
    have q0 : 0 ≤ q ∧ q ≤ 4 := by
      simp only [List.mem_cons, List.not_mem_nil, or_false] at hq
      omega
    rw [if_pos (rgB_of (by omega) q0.1 (by omega))]
    obtain ⟨c, s3, ⟨g3, c0, c1⟩, e3⟩ := forK_inv (xs := rg 0 q) (c := ((0 : Int), ())) (s := s2)
      (b := fun (y_22 : Int) (c_21 : (Int × Unit)) (s_23 : Pot) (next_19 : (Int × Unit) → Pot → Option (Int × Pot)) (done_20 : (Int × Unit) → Pot → Option (Int × Pot)) =>
        if CMulW c_21.1 (10000000 : Int) then
          (f__law_draw (10000000 : Int) s_23).bind fun o_26 =>
          let found_24 : Int := ((c_21.1 * (10000000 : Int)) + o_26.1)
          let s_25 : Pot := o_26.2
          next_19 (found_24, ()) s_25
        else none) (k := fun c s => some (c.1, s)) (fun i c s => Good mP s ∧ 0 ≤ c.1 ∧ c.1 < 10000000 ^ i) (fun i x c s hx ⟨g, c0, c1⟩ => by
        have hi : i < 4 := by
          have := (List.getElem?_eq_some_iff.mp hx).1
          rw [rg_len] at this
          omega
        have hp : (10000000 : Int) ^ i ≤ 10000000 ^ 4 := by
          match i, hi with
          | 0, _ => decide
          | 1, _ => decide
          | 2, _ => decide
          | 3, _ => decide
        have hz : Sz 200 c.1 := by
          have e4 : (10000000 : Int) ^ 4 = 10000000000000000000000000000 := by decide
          rw [e4] at hp
          show c.1.natAbs < 2 ^ 200
          omega
        obtain ⟨r, s1, e, g, r0, r1⟩ := draw_ok (n := 10000000) g (by omega) (sz_lit _ (by decide))
        refine ⟨(c.1 * 10000000 + r, ()), s1, ⟨g, ?_, ?_⟩, fun next done => ?_⟩
        · show 0 ≤ c.1 * 10000000 + r
          omega
        · show c.1 * 10000000 + r < 10000000 ^ (i + 1)
          rw [Int.pow_succ]
          omega
        · rw [if_pos (mulOk hz (sz_lit 24 (by decide)) (by omega)), e]
          rfl) ⟨g2, Int.le_refl _, by decide⟩
    refine ⟨c.1, s3, e3, g3, c0, ?_⟩
    rw [rg_len] at c1
    have : (10000000 : Int) ^ (q - 0).toNat ≤ 10000000000000000000000000000 := by
      have h4 : (q - 0).toNat ≤ 4 := by omega
      generalize (q - 0).toNat = n at h4
      match n, h4 with
      | 0, _ => decide
      | 1, _ => decide
      | 2, _ => decide
      | 3, _ => decide
      | 4, _ => decide
    omega
/-- how wide the levels are -/
def wides : Int → List Int → List Int
  | f, [] => [f]
  | f, u :: us => f :: wides (f * u) us
theorem wides_ne (f : Int) (us : List Int) : wides f us ≠ [] := by cases us <;> simp [wides]
theorem wides_len (f : Int) (us : List Int) : (wides f us).length = us.length + 1 := by
  induction us generalizing f with
  | nil => rfl
  | cons u us ih => simp [wides, ih]
/-- the last one -/
def wideL (f : Int) (us : List Int) : Int := us.foldl (· * ·) f
theorem wides_last (f : Int) (us : List Int) : ∃ l, wides f us = l ++ [wideL f us] := by
  induction us generalizing f with
  | nil => exact ⟨[], rfl⟩
  | cons u us ih =>
    obtain ⟨l, e⟩ := ih (f * u)
    exact ⟨f :: l, by simp only [wides, e]; rfl⟩
theorem wides_snoc (f : Int) (us : List Int) (u : Int) : wides f (us ++ [u]) = wides f us ++ [wideL f us * u] := by
  induction us generalizing f with
  | nil => rfl
  | cons v us ih => simp only [List.cons_append, wides, ih]; rfl
/-- right factors -/
def Ups (us : List Int) : Prop := us.length ≤ 3 ∧ ∀ u ∈ us, 2 ≤ u ∧ u ≤ 4
theorem Ups.cons {u : Int} {us : List Int} (h : Ups (u :: us)) : (2 ≤ u ∧ u ≤ 4) ∧ Ups us := ⟨h.2 u (List.mem_cons_self ..), by have := h.1; simp at this; omega, fun v hv => h.2 v (List.mem_cons_of_mem _ hv)⟩
theorem wides_all {f : Int} {us : List Int} (hf : 1 ≤ f) (hz : Sz 200 f) (h : Ups us) : ∀ w ∈ wides f us, 1 ≤ w ∧ Sz 210 w := by
  have key : ∀ (us : List Int) (f : Int) (k : Nat), 1 ≤ f → Sz k f → (∀ u ∈ us, 2 ≤ u ∧ u ≤ 4) → ∀ w ∈ wides f us, 1 ≤ w ∧ Sz (k + 3 * us.length) w := by
    intro us
    induction us with
    | nil =>
      intro f k hf hz _ w hw
      rw [List.mem_singleton.mp hw]
      exact ⟨hf, hz.mono (by simp)⟩
    | cons u us ih =>
      intro f k hf hz hu w hw
      obtain ⟨u1, u2⟩ := hu u (List.mem_cons_self ..)
      rcases List.mem_cons.mp hw with e | hw
      · rw [e]
        exact ⟨hf, hz.mono (by omega)⟩
      · have hu3 : Sz 3 u := by
          show u.natAbs < 2 ^ 3
          omega
        have hfu : 1 ≤ f * u := by
          have := Int.mul_le_mul hf (show 1 ≤ u by omega) (by omega) (by omega)
          simpa using this
        obtain ⟨a, b⟩ := ih (f * u) (k + 3) hfu (hz.mul hu3) (fun v hv => hu v (List.mem_cons_of_mem _ hv)) w hw
        exact ⟨a, b.mono (by simp only [List.length_cons]; omega)⟩
  intro w hw
  obtain ⟨a, b⟩ := key us f 200 hf hz h.2 w hw
  exact ⟨a, b.mono (by have := h.1; omega)⟩
theorem wideL_mem (f : Int) (us : List Int) : wideL f us ∈ wides f us := by
  obtain ⟨l, e⟩ := wides_last f us
  rw [e]
  simp
theorem Ups.take {us : List Int} (h : Ups us) (n : Nat) : Ups (us.take n) := ⟨by rw [List.length_take]; have := h.1; omega, fun u hu => h.2 u (List.mem_of_mem_take hu)⟩
theorem f_sides_ok {f : Int} {us : List Int} (hf : 1 ≤ f) (hz : Sz 200 f) (h : Ups us) : f__sides f us = some (wides f us) := by
  unfold f__sides
  dsimp only
  obtain ⟨c, s, hc, e⟩ := forK_inv (xs := us) (c := ([f], ())) (s := ()) (k := fun (c : List Int × Unit) (_ : Unit) => some c.1)
    (b := fun (y_87 : Int) (c_86 : ((List Int) × Unit)) (_ : Unit) (next_84 : ((List Int) × Unit) → Unit → Option (List Int)) (done_85 : ((List Int) × Unit) → Unit → Option (List Int)) =>
      (atI c_86.1 (-(1 : Int))).bind fun o_90 =>
      if CMulW o_90 y_87 then
        if (c_86.1).length < sizeLine then
          let a_88 : Int := (o_90 * y_87)
          let sides_89 : List Int := c_86.1 ++ [a_88]
          next_84 (sides_89, ()) ()
        else none
      else none) (fun i c _ => c.1 = wides f (us.take i)) (fun i x c s hx hc => by
      have hu := h.2 x (List.mem_of_getElem? hx)
      refine ⟨(wides f (us.take (i + 1)), ()), (), rfl, fun next done => ?_⟩
      rw [hc]
      obtain ⟨l, el⟩ := wides_last f (us.take i)
      rw [el, atI_lst, some_bind', ← el]
      have hw := (wides_all hf hz (h.take i) _ (wideL_mem f (us.take i))).2
      have hu3 : Sz 3 x := by
        show x.natAbs < 2 ^ 3
        omega
      rw [if_pos (mulOk hw hu3 (by omega)), if_pos (len_ok (by rw [wides_len, List.length_take]; have := h.1; omega))]
      rw [take_snoc hx, wides_snoc]) rfl
  rw [List.take_length] at hc
  exact e.trans (by rw [hc])
theorem check_factors_ok {us : List Int} (h : Ups us) : f__check_factors us = some () := by
  unfold f__check_factors f_is_list
  rw [some_bind', if_neg (by decide)]
  rw [forK_same (fun x hx next done => ?_)]
  obtain ⟨i, _, hi⟩ := en_mem hx
  have hu := h.2 x.2 (List.mem_of_getElem? hi)
  unfold f_is_integer
  rw [some_bind', if_neg (by decide), if_neg (by simp; omega)]
theorem is_edge_ok {e : Int × Int} {w : Int} (h : 0 ≤ e.1 ∧ e.1 ≤ w ∧ 0 ≤ e.2 ∧ e.2 ≤ w) : f_is_edge e w = some true := by
  obtain ⟨h1, h2, h3, h4⟩ := h
  simp [f_is_edge, f_is_count_couple, f_is_couple, f_is_count, f_is_integer, h1, h2, h3, h4]
/-- right edges of levels so wide -/
def Edg (ws : List Int) (es : List (Int × Int)) : Prop := es.length = ws.length ∧ ∀ (i : Nat) (w : Int) (e : Int × Int), ws[i]? = some w → es[i]? = some e → 0 ≤ e.1 ∧ e.1 ≤ w ∧ 0 ≤ e.2 ∧ e.2 ≤ w
theorem check_edges_ok {ws : List Int} {es : List (Int × Int)} (h : Edg ws es) : f__check_edges es (Tu.mk ws) = some () := by
  unfold f__check_edges f_is_list_i2
  rw [some_bind', if_neg (by decide), if_neg (by simp [h.1])]
  rw [forK_same (fun x hx next done => ?_)]
  obtain ⟨i, e1, hi⟩ := en_mem hx
  have hl : i < ws.length := by
    have := (List.getElem?_eq_some_iff.mp hi).1
    rw [h.1] at this
    exact this
  rw [e1, Int.zero_add, atI_ok (List.getElem?_eq_getElem hl), some_bind', is_edge_ok (h.2 i _ _ (List.getElem?_eq_getElem hl) hi), some_bind', if_neg (by decide)]
/-- a ladder as it is made -/
abbrev mkL (f : Int) (us : List Int) (es : List (Int × Int)) : O_Ladder := ⟨⟨us⟩, ⟨wides f us⟩, ⟨es⟩⟩
theorem init_ok {f : Int} {us : List Int} {es : List (Int × Int)} (hf : 1 ≤ f) (hz : Sz 200 f) (h : Ups us) (he : Edg (wides f us) es) : f_Ladder_init_i2 f us es = some (mkL f us es) := by
  unfold f_Ladder_init_i2 f_is_integer
  have h3 := h.1
  rw [some_bind', if_neg (by decide), if_neg (by simp; omega), check_factors_ok h, some_bind', if_neg (by simp; omega)]
  dsimp only
  rw [f_sides_ok hf hz h, some_bind', if_neg (by decide), check_edges_ok he]
  rfl
/-- where a ladder stands at a level -/
structure At (o : O_Ladder) (i : Int) (w : Int) (e : Int × Int) : Prop where
  i0 : 0 ≤ i
  side : atI o.all_sides.l i = some w
  edge : atI o.edges.l i = some e
  lt : i < o.all_sides.l.length
  w1 : 1 ≤ w
  wz : Sz 210 w
  e1 : 0 ≤ e.1 ∧ e.1 ≤ w
  e2 : 0 ≤ e.2 ∧ e.2 ≤ w
theorem at_of {f : Int} {us : List Int} {es : List (Int × Int)} (hf : 1 ≤ f) (hz : Sz 200 f) (h : Ups us) (he : Edg (wides f us) es) {i : Nat} {w : Int} (hw : (wides f us)[i]? = some w) : ∃ e, es[i]? = some e ∧ At (mkL f us es) i w e := by
  have hl := (List.getElem?_eq_some_iff.mp hw).1
  obtain ⟨a, b⟩ := wides_all hf hz h w (List.mem_of_getElem? hw)
  obtain ⟨e, hes⟩ : ∃ e, es[i]? = some e := ⟨_, List.getElem?_eq_getElem (by rw [he.1]; exact hl)⟩
  obtain ⟨e1, e2, e3, e4⟩ := he.2 i w _ hw hes
  exact ⟨_, hes, by omega, atI_ok hw, atI_ok hes, by show (i : Int) < ((wides f us).length : Int); omega, a, b, ⟨e1, e2⟩, ⟨e3, e4⟩⟩
section
variable {o : O_Ladder} {i w : Int} {e : Int × Int}
theorem side_ok (h : At o i w e) : f_Ladder_side o i = some w := by
  have h0 := h.i0
  have h1 := h.lt
  have h2 : ¬ (o.all_sides.l.length : Int) ≤ i := by omega
  simp [f_Ladder_side, f_Ladder_levels, f_check_level, f_is_level, f_is_count, f_is_integer, h0, h1, h2, h.side]
end
section
variable {o : O_Ladder} {i w : Int} {e : Int × Int}
theorem owned_ok (h : At o i w e) {t : Int} (ht : Sz 1000 t) : f_Ladder_owned o i t = some (t * w, t * w + w - 1) := by
  unfold f_Ladder_owned
  rw [side_ok h, some_bind']
  try dsimp only
  rw [show f_check_tile t = some () from rfl, some_bind', if_pos (mulOk ht h.wz (by omega)), if_pos (mulOk ht h.wz (by omega))]
theorem held_ok (h : At o i w e) {t : Int} (ht : Sz 1000 t) : f_Ladder_held o i t = some (t * w - e.1, t * w + w - 1 + e.2) := by
  unfold f_Ladder_held
  rw [owned_ok h ht, some_bind']
  try dsimp only
  rw [h.edge, some_bind']
theorem holders_ok (h : At o i w e) (c : Int) : f_Ladder_holders o i c = some ((c - e.2) / w, (c + e.1) / w) := by
  unfold f_Ladder_holders
  rw [side_ok h, some_bind']
  try dsimp only
  rw [show f_check_cell c = some () from rfl, some_bind', h.edge, some_bind']
  rw [if_pos (divOk (by have := h.w1; omega) h.wz (by omega)), if_pos (divOk (by have := h.w1; omega) h.wz (by omega))]
theorem owner_ok (h : At o i w e) (c : Int) : f_Ladder_owner o i c = some (c / w) := by
  unfold f_Ladder_owner
  rw [side_ok h, some_bind']
  dsimp only
  rw [show f_check_cell c = some () from rfl, some_bind', if_pos (divOk (by have := h.w1; omega) h.wz (by omega))]
theorem div_lo (c : Int) {w : Int} (hw : 1 ≤ w) : c / w * w ≤ c ∧ c < c / w * w + w := by
  have h1 := Int.emod_add_mul_ediv c w
  have h2 := Int.emod_nonneg c (show w ≠ 0 by omega)
  have h3 := Int.emod_lt_of_pos c (show 0 < w by omega)
  rw [Int.mul_comm] at h1
  omega
end
structure Made (f : Int) (us : List Int) (es : List (Int × Int)) : Prop where
  f1 : 1 ≤ f
  fz : Sz 200 f
  hu : Ups us
  he : Edg (wides f us) es
theorem law_wides_ok {f : Int} {us : List Int} (hf : 1 ≤ f) (hz : Sz 200 f) (h : Ups us) : f__law_wides f us = some (wides f us) := f_sides_ok hf hz h
/-! texts whose signs are signs -/
theorem strOk_app (x y : Str) : PyData.strOk (x ++ y) = (PyData.strOk x && PyData.strOk y) := by
  show (x.cps ++ y.cps).all _ = _
  rw [Array.all_append]
  rfl
theorem strOk_ofString (z : String) : PyData.strOk (PySem.Str.ofString z) = true := by
  rw [PySem.Str.ofString_eq_toList]
  unfold PyData.strOk
  simp only [List.all_toArray, List.all_map, List.all_eq_true]
  intro c _
  have h := c.valid
  simp only [Function.comp, decide_eq_true_eq]
  have h2 : c.toNat = c.val.toNat := rfl
  rw [h2]
  rcases h with h | ⟨_, h⟩
  · have : c.val.toNat < 0xd800 := h
    omega
  · have : c.val.toNat < 0x110000 := h
    omega
theorem strOk_join {sep : Str} (hs : PyData.strOk sep = true) : ∀ {l : List Str}, (∀ x ∈ l, PyData.strOk x = true) → PyData.strOk (PySem.Str.join sep l) = true
  | [], _ => by
    show PyData.strOk PySem.Str.empty = true
    decide +kernel
  | [x], h => h x (List.mem_singleton_self x)
  | x :: y :: l, h => by
    show PyData.strOk (x ++ sep ++ PySem.Str.join sep (y :: l)) = true
    rw [strOk_app, strOk_app, h x (List.mem_cons_self ..), hs, strOk_join hs (fun z hz => h z (List.mem_cons_of_mem _ hz))]
    rfl
theorem strOk_textFrom : ∀ {ts : List Str} {k : Nat} {acc : Str}, PyData.strOk acc = true → (∀ x ∈ ts, PyData.strOk x = true) → PyData.strOk (PySem.textFrom k acc ts) = true
  | [], _, _, h, _ => h
  | t :: r, k, acc, h, hr => by
    have hk : PyData.strOk ((if k > 0 then ", " else "" : String) : Str) = true := strOk_ofString _
    show PyData.strOk (PySem.textFrom (k + 1) (acc ++ (if k > 0 then ", " else "" : String) ++ t) r) = true
    refine strOk_textFrom ?_ fun x hx => hr x (List.mem_cons_of_mem _ hx)
    rw [strOk_app, strOk_app, h, hk, hr t (List.mem_cons_self ..)]
    rfl
theorem strOk_listText {ts : List Str} (h : ∀ x ∈ ts, PyData.strOk x = true) : PyData.strOk (PySem.listText ts) = true := by
  show PyData.strOk (PySem.textFrom 0 (("[" : String) : Str) ts ++ (("]" : String) : Str)) = true
  rw [strOk_app, strOk_textFrom (strOk_ofString _) h, strOk_ofString]
  rfl
theorem shownAll_map : ∀ xs : List PyData, PyData.shownAll xs = xs.map PyData.shown
  | [] => rfl
  | x :: xs => by
    rw [PyData.shownAll, shownAll_map xs]
    rfl
theorem strOk_int (i : Int) : PyData.strOk (PyData.int i).shown = true := strOk_ofString _
theorem strOk_ints (l : List Int) : PyData.strOk (En.enc l).shown = true := by
  show PyData.strOk (PySem.listText (PyData.shownAll _)) = true
  refine strOk_listText fun x hx => ?_
  rw [shownAll_map] at hx
  obtain ⟨d, hd, rfl⟩ := List.mem_map.mp hx
  obtain ⟨i, _, rfl⟩ := List.mem_map.mp hd
  exact strOk_int i
theorem strOk_pair (p : Int × Int) : PyData.strOk (En.enc p).shown = true := by
  show PyData.strOk (PySem.tupleText (PyData.shownAll [.int p.1, .int p.2])) = true
  have e : PySem.tupleText (PyData.shownAll [.int p.1, .int p.2]) = (("(" : String) : Str) ++ PySem.Str.join ((", " : String) : Str) [(PyData.int p.1).shown, (PyData.int p.2).shown] ++ (((")" : String)) : Str) := rfl
  rw [e, strOk_app, strOk_app, strOk_ofString, strOk_ofString, strOk_join (strOk_ofString _) (fun x hx => by
    simp only [List.mem_cons, List.not_mem_nil, or_false] at hx
    rcases hx with rfl | rfl
    · exact strOk_int _
    · exact strOk_int _)]
  rfl
theorem strOk_pairs (l : List (Int × Int)) : PyData.strOk (En.enc l).shown = true := by
  show PyData.strOk (PySem.listText (PyData.shownAll _)) = true
  refine strOk_listText fun x hx => ?_
  rw [shownAll_map] at hx
  obtain ⟨d, hd, rfl⟩ := List.mem_map.mp hx
  obtain ⟨p, _, rfl⟩ := List.mem_map.mp hd
  exact strOk_pair p
theorem wides_szk {k : Nat} : ∀ {us : List Int} {f : Int}, Sz k f → (∀ u ∈ us, 2 ≤ u ∧ u ≤ 4) → ∀ w ∈ wides f us, Sz (k + 3 * us.length) w
  | [], f, hz, _, w, hw => by
    rw [List.mem_singleton.mp hw]
    exact hz.mono (by simp)
  | u :: us, f, hz, hu, w, hw => by
    obtain ⟨u1, u2⟩ := hu u (List.mem_cons_self ..)
    rcases List.mem_cons.mp hw with e | hw
    · rw [e]
      exact hz.mono (by omega)
    · have hu3 : Sz 3 u := by
        show u.natAbs < 2 ^ 3
        omega
      exact (wides_szk (k := k + 3) (hz.mul hu3) (fun v hv => hu v (List.mem_cons_of_mem _ hv)) w hw).mono (by simp only [List.length_cons]; omega)
theorem repr_ok {f : Int} {us : List Int} {es : List (Int × Int)} (h : Made f us es) (hf : Sz 140 f) : ∃ t, f_Ladder_repr (mkL f us es) = some t ∧ PyData.strOk t = true := by
  have hsz : ∀ w ∈ wides f us, 1 ≤ w ∧ Sz 149 w := fun w hw => ⟨(wides_all h.f1 h.fz h.hu w hw).1, (wides_szk hf h.hu.2 w hw).mono (by have := h.hu.1; omega)⟩
  have hU : ∀ u ∈ us, Sm u := fun u hu => by
    have := h.hu.2 u hu
    have : Sz 3 u := by
      show u.natAbs < 2 ^ 3
      omega
    exact this.sm (by omega)
  have hl := h.hu.1
  have hel : es.length ≤ 4 := by
    rw [h.he.1, wides_len]
    omega
  have hE : ∀ p ∈ es, Sm p.1 ∧ Sm p.2 := fun p hp => by
    obtain ⟨i, hi, ei⟩ := List.mem_iff_getElem.mp hp
    have hw : i < (wides f us).length := by rw [← h.he.1]; exact hi
    obtain ⟨a1, a2, a3, a4⟩ := h.he.2 i _ p (List.getElem?_eq_getElem hw) (by rw [List.getElem?_eq_getElem hi, ei])
    have hz := (hsz _ (List.getElem_mem hw)).2
    exact ⟨(hz.le a1 a2).sm (by omega), (hz.le a3 a4).sm (by omega)⟩
  obtain ⟨r1, l1⟩ := OkR_of (Shw.ints hU) (by omega) (by have := Py.dle (α := List Int) us; exact Nat.le_trans this (by decide))
  obtain ⟨r2, l2⟩ := OkR_of (Shw.pairs hE) (by omega) (by have := Py.dle (α := List (Int × Int)) es; exact Nat.le_trans this (by decide))
  have hat : atI (wides f us) (0 : Int) = some f := by
    have : (wides f us)[0]? = some f := by cases us <;> rfl
    exact atI_ok (i := 0) this
  have hfs := (hf.sm (by omega))
  have hfl := hfs.len
  have hlog := hfs.log
  have n1 : ("Ladder(" : PySem.Str).length = 7 := by decide +kernel
  have n2 : (", " : PySem.Str).length = 2 := by decide +kernel
  have n3 : (")" : PySem.Str).length = 1 := by decide +kernel
  have n0 : PySem.Str.empty.length = 0 := by decide +kernel
  unfold f_Ladder_repr
  simp only [app_len, n0, n1, n2, n3]
  rw [if_pos (str_fit (by omega))]
  rw [hat, some_bind', if_pos hlog, if_pos (str_fit (by omega))]
  rw [if_pos (str_fit (by omega)), if_pos r1, if_pos (str_fit (by omega)), if_pos (str_fit (by omega)), if_pos r2, if_pos (str_fit (by omega)), if_pos (str_fit (by omega))]
  refine ⟨_, rfl, ?_⟩
  simp only [strOk_app, strOk_ofString, strOk_ints, strOk_pairs, Bool.and_true, Bool.and_self]
  decide +kernel
theorem far_ok {s : Pot} (hs : Good mP s) : ∃ r s', f__law_far s = some (r, s') ∧ Good mP s' ∧ Sz 140 r := by
  unfold f__law_far
  obtain ⟨a, s1, e, g, a0, a1⟩ := great_ok hs
  rw [e, some_bind']
  dsimp only
  have key : ∀ (c : Int) (s : Pot), Sz 137 c → Good mP s → ∃ r s', ((f__law_pick ([(1 : Int), (-(1 : Int))] : List Int) s).bind fun o_137 =>
    if CMulW c o_137.1 then
      some ((c * o_137.1), o_137.2)
    else none) = some (r, s') ∧ Good mP s' ∧ Sz 140 r := by
    intro c s hc hs
    obtain ⟨q, s2, e2, g2, hq⟩ := pick_ok (l := [1, -1]) hs (by simp) (by simp)
    have hq2 : Sz 2 q := by
      simp only [List.mem_cons, List.not_mem_nil, or_false] at hq
      show q.natAbs < 2 ^ 2
      omega
    rw [e2, some_bind', if_pos (mulOk hc hq2 (by omega))]
    exact ⟨_, _, rfl, g2, (hc.mul hq2).mono (by omega)⟩
  obtain ⟨n, s2, e2, g2, n0, n1⟩ := draw_ok (n := 4) g (by omega) (sz_lit _ (by decide))
  rw [e2, some_bind']
  dsimp only
  have az : Sz 110 a := by
    show a.natAbs < 2 ^ 110
    omega
  by_cases h : n = 0
  · rw [if_pos (decide_eq_true h), if_pos (mulOk az (sz_lit 24 (by decide)) (by omega))]
    obtain ⟨m, s3, e3, g3, m0, m1⟩ := draw_ok (n := 10000000) g2 (by omega) (sz_lit _ (by decide))
    rw [e3, some_bind']
    refine key _ s3 ?_ g3
    have mz : Sz 24 m := by
      show m.natAbs < 2 ^ 24
      omega
    exact ((az.mul (sz_lit 24 (by decide))).add mz).mono (by omega)
  · rw [if_neg (by simpa using h)]
    exact key a s2 (az.mono (by omega)) g2
theorem small_ok {s : Pot} (hs : Good mP s) : ∃ f us es s', f__law_small s = some (⟨f, us, es⟩, s') ∧ Good mP s' ∧ Made f us es ∧ f ≤ 3 := by
  unfold f__law_small
  obtain ⟨a, s1, e, g, a0, a1⟩ := draw_ok (n := 3) hs (by omega) (sz_lit _ (by decide))
  rw [e, some_bind']
  dsimp only
  obtain ⟨n, s2, e2, g2, n0, n1⟩ := draw_ok (n := 4) g (by omega) (sz_lit _ (by decide))
  rw [e2, some_bind']
  dsimp only
  rw [if_pos (rgB_of (by omega) n0 (by omega))]
  obtain ⟨us, s3, g3, hl, hu, e3⟩ := mapK_inv (xs := rg 0 n) (s := s2) (b := fun (y_40 : Int) s_41 (nx_42 : Int → Pot → Option ((T3 Int (List Int) (List (Int × Int))) × Pot)) =>
        (f__law_pick ([(2 : Int), (3 : Int), (4 : Int)] : List Int) s_41).bind fun o_69 =>
        nx_42 o_69.1 o_69.2) (k := fun us s => _) (Good mP) (fun _ u => 2 ≤ u ∧ u ≤ 4) (fun x _ s hs => by
      obtain ⟨q, s2, e2, g2, hq⟩ := pick_ok (l := [2, 3, 4]) hs (by simp) (by simp)
      refine ⟨q, s2, g2, ?_, fun nx => by rw [e2]; rfl⟩
      simp only [List.mem_cons, List.not_mem_nil, or_false] at hq
      omega) g2
  rw [e3]
  clear e3
  rw [rg_len] at hl
  have hU : Ups us := ⟨by omega, fun u hm => by
    obtain ⟨i, hi, ei⟩ := List.mem_iff_getElem.mp hm
    exact hu i _ u (List.getElem?_eq_getElem (by rw [rg_len]; omega)) (by rw [List.getElem?_eq_getElem hi, ei])⟩
  have hf : 1 ≤ 1 + a := by omega
  have hz : Sz 200 (1 + a) := by
    show (1 + a).natAbs < 2 ^ 200
    omega
  rw [law_wides_ok hf hz hU, some_bind']
  obtain ⟨c, s4, ⟨g4, c2, c3⟩, e4⟩ := forK_inv (xs := wides (1 + a) us) (c := (([] : List (Int × Int)), ())) (s := s3)
    (b := fun (y_37 : Int) (c_36 : ((List (Int × Int)) × Unit)) (s_38 : Pot) (next_34 : ((List (Int × Int)) × Unit) → Pot → Option ((T3 Int (List Int) (List (Int × Int))) × Pot)) (done_35 : ((List (Int × Int)) × Unit) → Pot → Option ((T3 Int (List Int) (List (Int × Int))) × Pot)) =>
            (f__law_draw (y_37 + (1 : Int)) s_38).bind fun o_42 =>
            (f__law_draw (y_37 + (1 : Int)) o_42.2).bind fun o_44 =>
            (f__law_pick ([(0 : Int), y_37, o_44.1] : List Int) o_44.2).bind fun o_46 =>
            if (c_36.1).length < sizeLine then
              let a_39 : (Int × Int) := ((o_42.1, o_46.1) : (Int × Int))
              let s_40 : Pot := o_46.2
              let rims_41 : List (Int × Int) := c_36.1 ++ [a_39]
              next_34 (rims_41, ()) s_40
            else none) (k := fun c s => some (⟨1 + a, us, c.1⟩, s))
    (fun i c s => Good mP s ∧ c.1.length = i ∧ ∀ (j : Nat) (w : Int) (e : Int × Int), (wides (1 + a) us)[j]? = some w → c.1[j]? = some e → 0 ≤ e.1 ∧ e.1 ≤ w ∧ 0 ≤ e.2 ∧ e.2 ≤ w) (fun i x c s hx ⟨g, h2, h3⟩ => by
      have hi : i < us.length + 1 := by
        have := (List.getElem?_eq_some_iff.mp hx).1
        rw [wides_len] at this
        exact this
      have hl3 := hU.1
      obtain ⟨w1, wz⟩ := wides_all hf hz hU _ (List.mem_of_getElem? hx)
      have hz1 : Sz 8000 (x + 1) := (wz.add (sz_lit 1 (by decide) : Sz 1 1)).mono (by omega)
      obtain ⟨r1, s1, e1, g1, r10, r11⟩ := draw_ok (n := x + 1) g (by omega) hz1
      obtain ⟨r2, s2, e2, g2, r20, r21⟩ := draw_ok (n := x + 1) g1 (by omega) hz1
      obtain ⟨q, s5, e5, g5, hq⟩ := pick_ok (l := [0, x, r2]) g2 (by simp) (by simp)
      simp only [List.mem_cons, List.not_mem_nil, or_false] at hq
      refine ⟨(c.1 ++ [(r1, q)], ()), s5, ⟨g5, by simp [h2], fun j w e hj he => ?_⟩, fun next done => ?_⟩
      · rw [List.getElem?_append] at he
        split at he
        · exact h3 j w e hj he
        · rename_i hji
          have : j = i := by
            have := (List.getElem?_eq_some_iff.mp he).1
            simp at this
            omega
          subst this
          rw [hx] at hj
          cases hj
          rw [h2, Nat.sub_self] at he
          simp at he
          subst he
          exact ⟨r10, by dsimp only; omega, by dsimp only; omega, by dsimp only; omega⟩
      · rw [e1, some_bind']
        dsimp only
        rw [e2, some_bind']
        dsimp only
        rw [e5, some_bind', if_pos (len_ok (by omega))]) ⟨g3, rfl, fun j w e _ h => by simp at h⟩
  exact ⟨1 + a, us, c.1, s4, e4, g4, ⟨hf, hz, hU, c2, c3⟩, by omega⟩
end Hd

set_option Elab.async false
set_option linter.all false
set_option maxRecDepth 100000
set_option maxHeartbeats 4000000
namespace Hd
open PySem PySem.Spec PyProof.Rows L2 He Lw StX Lx
/-! so many times, turned about -/
def mulL (n : Int) (l : List (Int × Int)) : List (Int × Int) := l.map fun y => (y.1 * n, y.2 * n)
def swL (l : List (Int × Int)) : List (Int × Int) := l.map fun y => (y.2, y.1)
theorem mulL_len (n : Int) (l : List (Int × Int)) : (mulL n l).length = l.length := List.length_map _
theorem swL_len (l : List (Int × Int)) : (swL l).length = l.length := List.length_map _
theorem mulL_at {n : Int} {l : List (Int × Int)} {i : Nat} {x : Int × Int} (h : l[i]? = some x) : (mulL n l)[i]? = some (x.1 * n, x.2 * n) := by
  unfold mulL
  rw [List.getElem?_map, h]
  rfl
theorem swL_at {l : List (Int × Int)} {i : Nat} {x : Int × Int} (h : l[i]? = some x) : (swL l)[i]? = some (x.2, x.1) := by
  unfold swL
  rw [List.getElem?_map, h]
  rfl
theorem mulL_mul (n m : Int) (l : List (Int × Int)) : mulL m (mulL n l) = mulL (n * m) l := by
  unfold mulL
  rw [List.map_map]
  refine List.map_congr_left fun y _ => ?_
  simp [Int.mul_assoc]
theorem mulL_one (l : List (Int × Int)) : mulL 1 l = l := by
  unfold mulL
  simp
theorem swL_sw (l : List (Int × Int)) : swL (swL l) = l := by
  unfold swL
  rw [List.map_map]
  simp [Function.comp_def]
theorem swL_mul (n : Int) (l : List (Int × Int)) : swL (mulL n l) = mulL n (swL l) := by
  unfold swL mulL
  rw [List.map_map, List.map_map]
  rfl
theorem max_mul {n : Int} (hn : 0 ≤ n) (a b : Int) : max (a * n) (b * n) = max a b * n := by
  rcases Int.le_total a b with h | h
  · rw [Int.max_eq_right h, Int.max_eq_right (Int.mul_le_mul_of_nonneg_right h hn)]
  · rw [Int.max_eq_left h, Int.max_eq_left (Int.mul_le_mul_of_nonneg_right h hn)]
theorem min_mul {n : Int} (hn : 0 ≤ n) (a b : Int) : min (a * n) (b * n) = min a b * n := by
  rcases Int.le_total a b with h | h
  · rw [Int.min_eq_left h, Int.min_eq_left (Int.mul_le_mul_of_nonneg_right h hn)]
  · rw [Int.min_eq_right h, Int.min_eq_right (Int.mul_le_mul_of_nonneg_right h hn)]
theorem mulL_or {n : Int} (hn : 0 ≤ n) : ∀ p q : List (Int × Int), orL (mulL n p) (mulL n q) = mulL n (orL p q)
  | [], _ => by simp [mulL, orL]
  | _ :: _, [] => by simp [mulL, orL]
  | a :: as, b :: bs => by
    have ih := mulL_or hn as bs
    simp only [mulL, List.map_cons, orL, orP, List.cons.injEq] at ih ⊢
    exact ⟨by rw [max_mul hn, max_mul hn], ih⟩
theorem mulL_and {n : Int} (hn : 0 ≤ n) : ∀ p q : List (Int × Int), andL (mulL n p) (mulL n q) = mulL n (andL p q)
  | [], _ => by simp [mulL, andL]
  | _ :: _, [] => by simp [mulL, andL]
  | a :: as, b :: bs => by
    have ih := mulL_and hn as bs
    simp only [mulL, List.map_cons, andL, andP, List.cons.injEq] at ih ⊢
    exact ⟨by rw [min_mul hn, min_mul hn], ih⟩
theorem swL_or : ∀ p q : List (Int × Int), orL (swL p) (swL q) = swL (orL p q)
  | [], _ => by simp [swL, orL]
  | _ :: _, [] => by simp [swL, orL]
  | a :: as, b :: bs => by
    have ih := swL_or as bs
    simp only [swL, List.map_cons, orL, orP, List.cons.injEq] at ih ⊢
    exact ⟨trivial, ih⟩
theorem wides_mul (n : Int) : ∀ (us : List Int) (f : Int), wides (f * n) us = (wides f us).map (· * n)
  | [], f => rfl
  | u :: us, f => by
    simp only [wides, List.map_cons]
    rw [show f * n * u = f * u * n by rw [Int.mul_assoc, Int.mul_comm n u, ← Int.mul_assoc], wides_mul n us]
theorem wideL_mul (n : Int) : ∀ (us : List Int) (f : Int), wideL (f * n) us = wideL f us * n
  | [], f => rfl
  | u :: us, f => by
    show wideL (f * n * u) us = wideL (f * u) us * n
    rw [show f * n * u = f * u * n by rw [Int.mul_assoc, Int.mul_comm n u, ← Int.mul_assoc], wideL_mul n us]
theorem wides_at {n : Int} {f : Int} {us : List Int} {i : Nat} {w : Int} (h : (wides f us)[i]? = some w) : (wides (f * n) us)[i]? = some (w * n) := by
  rw [wides_mul, List.getElem?_map, h]
  rfl
theorem wides_hd (f : Int) (us : List Int) : (wides f us)[0]? = some f := by cases us <;> rfl
theorem Edg.mul {n f : Int} {us : List Int} {es : List (Int × Int)} (hn : 1 ≤ n) (h : Edg (wides f us) es) : Edg (wides (f * n) us) (mulL n es) := by
  refine ⟨by rw [mulL_len, h.1, wides_len, wides_len], fun i w e hw he => ?_⟩
  have hi := (List.getElem?_eq_some_iff.mp he).1
  rw [mulL_len] at hi
  have he' := mulL_at (n := n) (List.getElem?_eq_getElem hi)
  rw [he] at he'
  cases he'
  have hj : i < (wides f us).length := by rw [← h.1]; exact hi
  have hw' := wides_at (n := n) (List.getElem?_eq_getElem hj)
  rw [hw] at hw'
  cases hw'
  obtain ⟨a, b, c, d⟩ := h.2 i _ _ (List.getElem?_eq_getElem hj) (List.getElem?_eq_getElem hi)
  have n0 : 0 ≤ n := by omega
  exact ⟨Int.mul_nonneg a n0, Int.mul_le_mul_of_nonneg_right b n0, Int.mul_nonneg c n0, Int.mul_le_mul_of_nonneg_right d n0⟩
theorem Edg.sw {ws : List Int} {es : List (Int × Int)} (h : Edg ws es) : Edg ws (swL es) := by
  refine ⟨by rw [swL_len, h.1], fun i w e hw he => ?_⟩
  have hi := (List.getElem?_eq_some_iff.mp he).1
  rw [swL_len] at hi
  have he' := swL_at (List.getElem?_eq_getElem hi)
  rw [he] at he'
  cases he'
  obtain ⟨a, b, c, d⟩ := h.2 i _ _ hw (List.getElem?_eq_getElem hi)
  exact ⟨c, d, a, b⟩
def SzP (k : Nat) (p : List (Int × Int)) : Prop := ∀ a ∈ p, Sz k a.1 ∧ Sz k a.2
theorem SzP.mul {k m : Nat} {n : Int} {p : List (Int × Int)} (h : SzP k p) (hn : Sz m n) : SzP (k + m) (mulL n p) := fun a ha => by
  obtain ⟨x, hx, rfl⟩ := List.mem_map.mp ha
  exact ⟨(h x hx).1.mul hn, (h x hx).2.mul hn⟩
theorem SzP.sw {k : Nat} {p : List (Int × Int)} (h : SzP k p) : SzP k (swL p) := fun a ha => by
  obtain ⟨x, hx, rfl⟩ := List.mem_map.mp ha
  exact ⟨(h x hx).2, (h x hx).1⟩
theorem SzP.mono {k m : Nat} {p : List (Int × Int)} (h : SzP k p) (w : k ≤ m) : SzP m p := fun a ha => ⟨(h a ha).1.mono w, (h a ha).2.mono w⟩
theorem SzP.or {k : Nat} : ∀ {p q : List (Int × Int)}, SzP k p → SzP k q → SzP k (orL p q)
  | [], _, _, _ => fun a h => by simp [orL] at h
  | _ :: _, [], _, _ => fun a h => by simp [orL] at h
  | x :: xs, y :: ys, h, h' => fun a ha => by
    rcases List.mem_cons.mp ha with z | z
    · subst z
      obtain ⟨h1, h2⟩ := h x (List.mem_cons_self ..)
      obtain ⟨h3, h4⟩ := h' y (List.mem_cons_self ..)
      unfold Sz at *
      simp only [orP]
      omega
    · exact SzP.or (p := xs) (q := ys) (fun a ha => h a (List.mem_cons_of_mem _ ha)) (fun a ha => h' a (List.mem_cons_of_mem _ ha)) a z
theorem SzP.and {k : Nat} : ∀ {p q : List (Int × Int)}, SzP k p → SzP k q → SzP k (andL p q)
  | [], _, _, _ => fun a h => by simp [andL] at h
  | _ :: _, [], _, _ => fun a h => by simp [andL] at h
  | x :: xs, y :: ys, h, h' => fun a ha => by
    rcases List.mem_cons.mp ha with z | z
    · subst z
      obtain ⟨h1, h2⟩ := h x (List.mem_cons_self ..)
      obtain ⟨h3, h4⟩ := h' y (List.mem_cons_self ..)
      unfold Sz at *
      simp only [andP]
      omega
    · exact SzP.and (p := xs) (q := ys) (fun a ha => h a (List.mem_cons_of_mem _ ha)) (fun a ha => h' a (List.mem_cons_of_mem _ ha)) a z
theorem Made.mul {n f : Int} {us : List Int} {es : List (Int × Int)} {k m : Nat} (hn : 1 ≤ n) (h : Made f us es) (hf : Sz k f) (hz : Sz m n) (hk : k + m ≤ 200) : Made (f * n) us (mulL n es) :=
  ⟨by have := Int.mul_le_mul h.f1 hn (by omega) (by have := h.f1; omega); simpa using this, (hf.mul hz).mono hk, h.hu, h.he.mul hn⟩
theorem Made.sw {f : Int} {us : List Int} {es : List (Int × Int)} (h : Made f us es) : Made f us (swL es) := ⟨h.f1, h.fz, h.hu, h.he.sw⟩
theorem Made.szE {f : Int} {us : List Int} {es : List (Int × Int)} (h : Made f us es) : SzP 210 es := fun a ha => by
  obtain ⟨i, hi, ei⟩ := List.mem_iff_getElem.mp ha
  have hj : i < (wides f us).length := by rw [← h.he.1]; exact hi
  obtain ⟨a1, a2, a3, a4⟩ := h.he.2 i _ a (List.getElem?_eq_getElem hj) (by rw [List.getElem?_eq_getElem hi, ei])
  have hz := (wides_all h.f1 h.fz h.hu _ (List.getElem_mem hj)).2
  exact ⟨hz.le a1 a2, hz.le a3 a4⟩
/-! the program's -/
theorem init1_eq (f : Int) (us : List Int) (es : List (Int × Int)) : f_Ladder_init_i1 f ⟨us⟩ es = f_Ladder_init_i2 f us es := rfl
theorem pos_ok {n : Int} (hn : 1 ≤ n) : f_check_positive n = some () := by
  have : ¬ n < 1 := by omega
  simp [f_check_positive, f_is_integer, this]
section
variable {f n : Int} {us : List Int} {es p q : List (Int × Int)}
theorem lmul_ok (h : Made f us es) (hn : 1 ≤ n) {m k : Nat} (hf : Sz k f) (hz : Sz m n) (hk : k + m ≤ 200) : f_Ladder_mul (mkL f us es) n = some (mkL (f * n) us (mulL n es)) := by
  unfold f_Ladder_mul
  have hE := h.szE
  have g := h.mul hn hf hz hk
  rw [pos_ok hn, some_bind']
  rw [mapK_pure (fun y : Int × Int => (y.1 * n, y.2 * n)) (fun y hy nx => by rw [if_pos (mulOk (hE y hy).1 hz (by omega)), if_pos (mulOk (hE y hy).2 hz (by omega))])]
  dsimp only
  rw [show atI (wides f us) (0 : Int) = some f from atI_ok (i := 0) (wides_hd f us), some_bind', if_pos (mulOk hf hz (by omega)), init1_eq]
  rw [show List.map (fun y : Int × Int => (y.1 * n, y.2 * n)) es = mulL n es from rfl, init_ok g.f1 g.fz g.hu g.he, some_bind']
end
/-! a stretch, so many times as great, and mirrored -/
theorem div_times {c n r w : Int} (hn : 1 ≤ n) (hr : 0 ≤ r ∧ r < n) : (c * n + r) / (w * n) = c / w := by
  rw [Int.mul_comm w n, ← Int.ediv_ediv_of_nonneg (show 0 ≤ n by omega)]
  congr 1
  rw [Int.add_comm, Int.add_mul_ediv_right _ _ (by omega), Int.ediv_eq_zero_of_lt hr.1 hr.2, Int.zero_add]
theorem div_mir {c w : Int} (hw : 1 ≤ w) : (-1 - c) / w = -1 - c / w := by
  have h1 := Int.emod_add_mul_ediv c w
  have h2 := Int.emod_nonneg c (show w ≠ 0 by omega)
  have h3 := Int.emod_lt_of_pos c (show 0 < w by omega)
  have e : -1 - c = (w - 1 - c % w) + w * (-1 - c / w) := by
    rw [Int.mul_sub, Int.mul_neg, Int.mul_one]
    omega
  rw [e, Int.add_mul_ediv_left _ _ (by omega), Int.ediv_eq_zero_of_lt (by omega) (by omega), Int.zero_add]
theorem wides_le {f : Int} {us : List Int} (hf : 1 ≤ f) (f9 : f ≤ 9) (h : Ups us) : ∀ w ∈ wides f us, w ≤ 576 := by
  have key : ∀ (us : List Int) (f c : Int), 1 ≤ f → f ≤ c → (∀ u ∈ us, 2 ≤ u ∧ u ≤ 4) → ∀ w ∈ wides f us, w ≤ c * 4 ^ us.length := by
    intro us
    induction us with
    | nil =>
      intro f c _ hc _ w hw
      rw [List.mem_singleton.mp hw]
      simpa using hc
    | cons u us ih =>
      intro f c hf hc hu w hw
      obtain ⟨u1, u2⟩ := hu u (List.mem_cons_self ..)
      have e : c * 4 ^ (u :: us).length = c * 4 * 4 ^ us.length := by
        rw [List.length_cons, Int.pow_succ, Int.mul_assoc, Int.mul_comm (4 ^ us.length) 4]
      rw [e]
      have hfu : f * u ≤ c * 4 := Int.le_trans (Int.mul_le_mul_of_nonneg_left u2 (by omega)) (Int.mul_le_mul_of_nonneg_right hc (by omega))
      have hfu1 : 1 ≤ f * u := by
        have := Int.mul_le_mul hf (show 1 ≤ u by omega) (by omega) (by omega)
        simpa using this
      rcases List.mem_cons.mp hw with z | hw
      · have p1 : (1 : Int) ≤ 4 ^ us.length := Int.pow_pos (by omega)
        have := Int.mul_le_mul (show c ≤ c * 4 by omega) p1 (by omega) (by omega)
        omega
      · exact ih (f * u) (c * 4) hfu1 hfu (fun v hv => hu v (List.mem_cons_of_mem _ hv)) w hw
  intro w hw
  have h1 := key us f 9 hf f9 h.2 w hw
  have h2 := h.1
  have : us.length = 0 ∨ us.length = 1 ∨ us.length = 2 ∨ us.length = 3 := by omega
  rcases this with z | z | z | z <;> (rw [z] at h1; simp at h1; omega)
/-! ladders whose edges are put one by one -/
theorem whileK_ex {ς τ ρ : Type} {b : ς → τ → (ς → τ → Option ρ) → (ς → τ → Option ρ) → Option ρ} {k : ς → τ → Option ρ} (P : Option ρ → Prop) (I F : ς → τ → Prop) (μ : ς → Nat) (hs : ∀ c s, I c s → (F c s ∧ ∀ next done, b c s next done = done c s) ∨ ∃ c' s', I c' s' ∧ μ c' < μ c ∧ ∀ next done, b c s next done = next c' s') (hk : ∀ c s, I c s → F c s → P (k c s)) : ∀ (n : Nat) (c : ς) (s : τ), μ c < n → I c s → P (whileK n c s b k)
  | 0, _, _, h, _ => absurd h (Nat.not_lt_zero _)
  | n + 1, c, s, h, hI => by
    unfold whileK
    rcases hs c s hI with ⟨f, e⟩ | ⟨c', s', i, m, e⟩
    · rw [e]
      exact hk c s hI f
    · rw [e]
      exact whileK_ex P I F μ hs hk n c' s' (by omega) i
def e0L (f : Int) (us : List Int) : List (Int × Int) := (wides f us).map fun _ => (0, 0)
theorem init0_ok {f : Int} {us : List Int} (hf : 1 ≤ f) (hz : Sz 200 f) (h : Ups us) : f_Ladder_init f us () = some (mkL f us (e0L f us)) := by
  unfold f_Ladder_init f_is_integer
  have h3 := h.1
  rw [some_bind', if_neg (by decide), if_neg (by simp; omega), check_factors_ok h, some_bind', if_neg (by simp; omega)]
  try dsimp only
  rw [f_sides_ok hf hz h, some_bind']
  rfl
theorem e0_edg {f : Int} {us : List Int} (hf : 1 ≤ f) (hz : Sz 200 f) (h : Ups us) : Edg (wides f us) (e0L f us) := by
  refine ⟨by unfold e0L; rw [List.length_map], fun i w e hw he => ?_⟩
  unfold e0L at he
  rw [List.getElem?_map, hw] at he
  simp at he
  subst he
  have := (wides_all hf hz h w (List.mem_of_getElem? hw)).1
  exact ⟨by decide, by try dsimp only; omega, by decide, by try dsimp only; omega⟩
theorem Edg.set {ws : List Int} {es : List (Int × Int)} {i : Nat} {w : Int} {e : Int × Int} (h : Edg ws es) (hw : ws[i]? = some w) (he : 0 ≤ e.1 ∧ e.1 ≤ w ∧ 0 ≤ e.2 ∧ e.2 ≤ w) : Edg ws (es.set i e) := by
  refine ⟨by rw [List.length_set]; exact h.1, fun j w' e' hw' he' => ?_⟩
  rw [List.getElem?_set] at he'
  split at he'
  · rename_i hij
    subst hij
    split at he'
    · cases he'
      rw [hw] at hw'
      cases hw'
      exact he
    · cases he'
  · exact h.2 j w' e' hw' he'
section
variable {f n : Int} {us : List Int} {es p q : List (Int × Int)}
theorem with_edge_ok (m : Made f us es) {i : Nat} {w : Int} {e : Int × Int} (hw : (wides f us)[i]? = some w) (he : 0 ≤ e.1 ∧ e.1 ≤ w ∧ 0 ≤ e.2 ∧ e.2 ≤ w) : f_Ladder_with_edge (mkL f us es) i e = some (mkL f us (es.set i e)) := by
  obtain ⟨_, _, A⟩ := at_of m.f1 m.fz m.hu m.he hw
  have hl : i < es.length := by
    rw [m.he.1]
    exact (List.getElem?_eq_some_iff.mp hw).1
  unfold f_Ladder_with_edge
  rw [side_ok A, some_bind', is_edge_ok he, some_bind', if_neg (by decide)]
  try dsimp only
  rw [show ixN es.length (i : Int) = some i by unfold ixN; simp [hl], some_bind']
  rw [show atI (wides f us) (0 : Int) = some f from atI_ok (i := 0) (wides_hd f us), some_bind', init1_eq, init_ok m.f1 m.fz m.hu (m.he.set hw he), some_bind']
theorem mem_erase {α : Type} (a : α) : ∀ (l : List α) (k : Nat) (h : k < l.length), a ∈ l → a = l[k] ∨ a ∈ l.eraseIdx k
  | [], _, h, _ => absurd h (Nat.not_lt_zero _)
  | x :: l, 0, _, ha => by
    rcases List.mem_cons.mp ha with z | z
    · exact .inl z
    · exact .inr z
  | x :: l, k + 1, h, ha => by
    rcases List.mem_cons.mp ha with z | z
    · exact .inr (by rw [z]; exact List.mem_cons_self ..)
    · rcases mem_erase a l k (by simpa using h) z with y | y
      · exact .inl y
      · exact .inr (List.mem_cons_of_mem _ y)
theorem popI_ok {α : Type} {l : List α} {k : Nat} (h : k < l.length) : popI l (k : Int) = some (l[k], l.eraseIdx k) := by
  unfold popI
  rw [show ixN l.length (k : Int) = some k by unfold ixN; simp [h]]
  simp [h]
theorem built_ok (m : Made f us es) {s : Pot} (hs : Good mP s) : ∃ s', f__law_built f us es s = some (mkL f us es, s') ∧ Good mP s' := by
  show (fun r => ∃ s', r = some (mkL f us es, (s' : Pot)) ∧ Good mP s') _
  have hel := m.he.1
  have wl := wides_len f us
  have hul := m.hu.1
  unfold f__law_built
  rw [init0_ok m.f1 m.fz m.hu, some_bind']
  try dsimp only
  rw [if_pos (RgOk.of_le (by omega) (by omega) (by omega) (by omega))]
  refine whileK_ex (fun r => ∃ s', r = some (mkL f us es, (s' : Pot)) ∧ Good mP s') (fun (c : O_Ladder × List Int × Unit) s => Good mP s ∧ (∃ ds, c.1 = mkL f us ds ∧ Edg (wides f us) ds ∧ ∀ j : Nat, j < es.length → (j : Int) ∈ c.2.1 ∨ ds[j]? = es[j]?) ∧ (∀ x : Int, x ∈ c.2.1 → 0 ≤ x ∧ x < (es.length : Int)) ∧ c.2.1.length ≤ 1000) (fun c _ => c.2.1 = []) (fun c => c.2.1.length) (fun c s hI => ?_) (fun c s hI hF => ?_) 1000000 _ _ ?_ ?_
  · obtain ⟨g, ⟨ds, e1, hd, hj⟩, hx, hl⟩ := hI
    by_cases k : c.2.1 = []
    · exact .inl ⟨k, fun next done => by rw [if_neg (by simp [k])]⟩
    · have hpos : 0 < c.2.1.length := List.length_pos_iff.mpr k
      obtain ⟨r, s1, e2, g1, r0, r1⟩ := draw_ok (n := (c.2.1.length : Int)) g (by omega) (show (c.2.1.length : Int).natAbs < 2 ^ 8000 from Nat.lt_of_lt_of_le (show (c.2.1.length : Int).natAbs < 2 ^ 10 by omega) (Nat.pow_le_pow_right (by decide) (by omega)))
      obtain ⟨a, rfl⟩ := Int.eq_ofNat_of_zero_le r0
      have ha : a < c.2.1.length := by omega
      obtain ⟨x0, x1⟩ := hx _ (List.getElem_mem ha)
      obtain ⟨b, hb⟩ := Int.eq_ofNat_of_zero_le x0
      have hbl : b < es.length := by omega
      have hbw : b < (wides f us).length := by omega
      have eb : es[b]? = some es[b] := List.getElem?_eq_getElem hbl
      have hw : (wides f us)[b]? = some (wides f us)[b] := List.getElem?_eq_getElem hbw
      refine .inr ⟨(mkL f us (ds.set b es[b]), c.2.1.eraseIdx a, ()), s1, ⟨g1, ⟨_, rfl, hd.set hw (m.he.2 b _ _ hw eb), fun j hjl => ?_⟩, fun y hy => hx y (List.mem_of_mem_eraseIdx hy), by try dsimp only; rw [List.length_eraseIdx]; split <;> omega⟩, by try dsimp only; rw [List.length_eraseIdx, if_pos ha]; omega, fun next done => ?_⟩
      · by_cases hjb : j = b
        · right
          subst hjb
          rw [List.getElem?_set_self (by rw [hd.1]; exact hbw), eb]
        · rw [List.getElem?_set_ne (fun z => hjb z.symm)]
          rcases hj j hjl with z | z
          · rcases mem_erase _ _ a ha z with y | y
            · rw [hb] at y
              omega
            · exact .inl y
          · exact .inr z
      · rw [if_pos (by simp [k])]
        try dsimp only
        rw [e2, some_bind']
        try dsimp only
        rw [popI_ok ha, some_bind']
        try dsimp only
        rw [hb, atI_ok eb, some_bind', e1, with_edge_ok ⟨m.f1, m.fz, m.hu, hd⟩ hw (m.he.2 b _ _ hw eb), some_bind']
  · obtain ⟨g, ⟨ds, e1, hd, hj⟩, _, _⟩ := hI
    refine ⟨s, ?_, g⟩
    have e : ds = es := by
      refine List.ext_getElem? fun j => ?_
      by_cases hjl : j < es.length
      · rcases hj j hjl with z | z
        · rw [hF] at z
          cases z
        · exact z
      · rw [List.getElem?_eq_none (by rw [hd.1]; omega), List.getElem?_eq_none (by omega)]
    rw [e1, e]
  · rw [rg_len]
    omega
  · refine ⟨hs, ⟨_, rfl, e0_edg m.f1 m.fz m.hu, fun j hjl => .inl (rg_mem.mpr ⟨by omega, by omega⟩)⟩, fun x hx => rg_mem.mp hx, by try dsimp only; rw [rg_len]; omega⟩
end
end Hd

set_option Elab.async false
set_option linter.all false
set_option maxRecDepth 100000
set_option maxHeartbeats 4000000
namespace Hd
open PySem PySem.Spec PyProof.Rows L2 He Lw StX Lx
/-! sums over a side -/
def Fl (w x : Int) (i : Nat) : Int := (i : Int) * (x / w) + max 0 (x % w + i - w)
theorem Fl_zero {w x : Int} (hw : 1 ≤ w) : Fl w x 0 = 0 := by
  have := Int.emod_lt_of_pos x (show 0 < w by omega)
  unfold Fl
  rw [show ((0 : Nat) : Int) = 0 from rfl, Int.zero_mul]
  omega
theorem Fl_step {w x : Int} {i : Nat} (hw : 1 ≤ w) (hi : (i : Int) < w) : Fl w x (i + 1) = Fl w x i + (x + i) / w := by
  have h1 := Int.emod_add_mul_ediv x w
  have h2 := Int.emod_nonneg x (show w ≠ 0 by omega)
  have h3 := Int.emod_lt_of_pos x (show 0 < w by omega)
  unfold Fl
  generalize x / w = q at *
  generalize x % w = r at *
  have e : (x + i) / w = (r + i) / w + q := by
    rw [show x + i = (r + i) + w * q by omega, Int.add_mul_ediv_left _ _ (by omega)]
  rw [e, show ((i + 1 : Nat) : Int) = i + 1 by omega, Int.add_mul, Int.one_mul]
  by_cases k : r + i < w
  · rw [Int.ediv_eq_zero_of_lt (by omega) k]
    omega
  · have e2 : (r + i) / w = 1 := by
      rw [show r + i = (r + i - w) + w * 1 by omega, Int.add_mul_ediv_left _ _ (by omega), Int.ediv_eq_zero_of_lt (by omega) (by omega)]
      rfl
    rw [e2]
    omega
theorem Fl_end {w x : Int} {n : Nat} (hw : 1 ≤ w) (hn : (n : Int) = w) : Fl w x n = x := by
  have h1 := Int.emod_add_mul_ediv x w
  have h2 := Int.emod_nonneg x (show w ≠ 0 by omega)
  unfold Fl
  rw [hn]
  omega
theorem rg_at {lo hi x : Int} {i : Nat} (h : (rg lo hi)[i]? = some x) : x = lo + i ∧ (i : Int) < hi - lo := by
  have hi := (List.getElem?_eq_some_iff.mp h)
  obtain ⟨h1, h2⟩ := hi
  have h3 := h1
  rw [rg_len] at h3
  constructor
  · rw [← h2]
    simp [rg]
  · omega
section
variable {o : O_Ladder} {i w : Int} {e : Int × Int}
theorem holds_ok (h : At o i w e) {t : Int} (ht : Sz 1000 t) (c : Int) : f_Ladder_holds o i t c = some (decide (t * w - e.1 ≤ c) && decide (c ≤ t * w + w - 1 + e.2)) := by
  unfold f_Ladder_holds
  rw [held_ok h ht, some_bind']
  try dsimp only
  rw [show f_check_cell c = some () from rfl, some_bind']
theorem div_lo2 (c : Int) {w : Int} (hw : 1 ≤ w) : c / w * w ≤ c ∧ c < c / w * w + w := by
  have h1 := Int.emod_add_mul_ediv c w
  have h2 := Int.emod_nonneg c (show w ≠ 0 by omega)
  have h3 := Int.emod_lt_of_pos c (show 0 < w by omega)
  rw [Int.mul_comm] at h1
  omega
theorem cnt_ok (h : At o i w e) (wb : w ≤ 1000) {b : Int} (bz : Sz 300 b) : ∃ l, f__law_counted o i b w = some l ∧ (l.length : Int) = w ∧ l.sum = w + e.1 + e.2 ∧ ∀ x ∈ l, 1 ≤ x ∧ x ≤ 3 := by
  have w1 := h.w1
  obtain ⟨e10, e11⟩ := h.e1
  obtain ⟨e20, e21⟩ := h.e2
  have bz' : b.natAbs < 2 ^ 300 := bz
  show (fun r => ∃ l : List Int, r = some l ∧ (l.length : Int) = w ∧ l.sum = w + e.1 + e.2 ∧ ∀ x ∈ l, 1 ≤ x ∧ x ≤ 3) _
  unfold f__law_counted
  rw [if_pos (show RgW b (b + w) by show (b + w - b).toNat ≤ sizeLine; rw [sizeLine_eq]; omega)]
  have hn : (((rg b (b + w)).length : Nat) : Int) = w := by rw [rg_len]; omega
  refine forK_ex (fun r => ∃ l : List Int, r = some l ∧ (l.length : Int) = w ∧ l.sum = w + e.1 + e.2 ∧ ∀ x ∈ l, 1 ≤ x ∧ x ≤ 3) (fun j (c : List Int × Unit) _ => c.1.length = j ∧ c.1.sum = Fl w (b + e.1) j - Fl w (b - e.2) j + j ∧ ∀ x ∈ c.1, 1 ≤ x ∧ x ≤ 3) ⟨rfl, by rw [Fl_zero w1, Fl_zero w1]; rfl, fun x hx => by cases hx⟩ (fun j x c s hx hc => ?_) fun c s hc => ?_
  · obtain ⟨hx1, hx2⟩ := rg_at hx
    have hj : (j : Int) < w := by omega
    obtain ⟨c0, c1, c2⟩ := hc
    obtain ⟨p1, p2⟩ := div_lo2 (x - e.2) w1
    obtain ⟨q1, q2⟩ := div_lo2 (x + e.1) w1
    have d := div_mono w1 (show x - e.2 ≤ x + e.1 by omega)
    have d3 : (x + e.1) / w - (x - e.2) / w < 3 := by
      refine Int.lt_of_mul_lt_mul_right (a := w) ?_ (by omega)
      rw [Int.sub_mul]
      omega
    have pw : (2 : Nat) ^ 300 + 4000 < 2 ^ 301 := by decide +kernel
    have z1 : ((x - e.2) / w).natAbs < 2 ^ 301 := Nat.lt_of_le_of_lt (Int.natAbs_ediv_le_natAbs _ w) (by omega)
    have z2 : ((x + e.1) / w).natAbs < 2 ^ 301 := Nat.lt_of_le_of_lt (Int.natAbs_ediv_le_natAbs _ w) (by omega)
    have pw2 : (2 : Nat) ^ 301 + 1 < 2 ^ 1000 := by decide +kernel
    refine ⟨(c.1 ++ [(x + e.1) / w - (x - e.2) / w + 1], ()), (), ⟨by simp [c0], ?_, fun y hy => ?_⟩, fun next done => ?_⟩
    · dsimp only
      rw [Fl_step w1 hj, Fl_step w1 hj, List.sum_append, c1, hx1, show b + e.1 + (j : Int) = b + (j : Int) + e.1 by omega, show b - e.2 + (j : Int) = b + (j : Int) - e.2 by omega]
      simp only [List.sum_cons, List.sum_nil]
      omega
    · rcases List.mem_append.mp hy with k | k
      · exact c2 y k
      · rw [List.mem_singleton.mp k]
        omega
    · rw [holders_ok h, some_bind']
      try dsimp only
      rw [mapK_pure (fun t : Int => decide (t * w - e.1 ≤ x) && decide (x ≤ t * w + w - 1 + e.2)) (fun t ht nx => by
        rw [holds_ok h (show t.natAbs < 2 ^ 1000 by
          simp only [List.mem_cons, List.not_mem_nil, or_false] at ht
          generalize (x - e.2) / w = y1 at *
          generalize (x + e.1) / w = y2 at *
          omega) x, some_bind'])]
      have f1 : ¬ x ≤ ((x - e.2) / w - 1) * w + w - 1 + e.2 := by
        rw [Int.sub_mul, Int.one_mul]
        omega
      have f4 : ¬ ((x + e.1) / w + 1) * w - e.1 ≤ x := by
        rw [Int.add_mul, Int.one_mul]
        omega
      have g2 : (x - e.2) / w * w - e.1 ≤ x ∧ x ≤ (x - e.2) / w * w + w - 1 + e.2 := by omega
      have g3 : (x + e.1) / w * w - e.1 ≤ x ∧ x ≤ (x + e.1) / w * w + w - 1 + e.2 := by omega
      rw [if_neg (by
        simp only [List.map_cons, List.map_nil, decide_eq_false f1, decide_eq_false f4, decide_eq_true g2.1, decide_eq_true g2.2, decide_eq_true g3.1, decide_eq_true g3.2, Bool.and_false, Bool.false_and, Bool.and_self]
        decide), if_pos (len_ok (by omega))]
  · obtain ⟨c0, c1, c2⟩ := hc
    refine ⟨c.1, rfl, by rw [c0]; exact hn, ?_, c2⟩
    rw [Fl_end w1 hn, Fl_end w1 hn] at c1
    omega
theorem rg_one (q : Int) : rg q (q + 1) = [q] := by
  unfold rg
  rw [show (q + 1 - q).toNat = 1 by omega]
  simp [List.range_succ]
theorem rg_two (q : Int) : rg q (q + 1 + 1) = [q, q + 1] := by
  unfold rg
  rw [show (q + 1 + 1 - q).toNat = 2 by omega]
  simp [List.range_succ]
theorem level_ok (h : At o i w e) (wb : w ≤ 1000) {b : Int} (bz : Sz 300 b) : f__law_level_right o e i b w = some true := by
  obtain ⟨l, e1, l1, l2, l3⟩ := cnt_ok h wb bz
  have w1 := h.w1
  have bz' : b.natAbs < 2 ^ 300 := bz
  have ne : l ≠ [] := by
    intro z
    rw [z] at l1
    simp at l1
    omega
  unfold f__law_level_right
  rw [e1, some_bind']
  try dsimp only
  have m1 := l3 _ (minL_mem ne)
  have m2 := l3 _ (maxL_mem ne)
  have m3 := minL_le (maxL_mem ne)
  rw [if_neg (by simp [l1]), if_neg (by simp [l2]), if_pos ne, if_pos (decide_eq_true m1.1), if_pos ne, if_pos (decide_eq_true m3), if_neg (by simp; omega)]
  rw [owner_ok h, some_bind', owner_ok h, some_bind']
  obtain ⟨p1, p2⟩ := div_lo2 b w1
  have pz : (b / w).natAbs < 2 ^ 300 := Nat.lt_of_le_of_lt (Int.natAbs_ediv_le_natAbs _ w) bz'
  have pw2 : (2 : Nat) ^ 300 + 1 < 2 ^ 1000 := by decide +kernel
  have two : (b + w - 1) / w = b / w ∨ (b + w - 1) / w = b / w + 1 := by
    have d1 := div_mono w1 (show b ≤ b + w - 1 by omega)
    have d2 : (b + w - 1) / w ≤ b / w + 1 := by
      have := div_mono w1 (show b + w - 1 ≤ b + w * 1 by omega)
      rw [Int.add_mul_ediv_left _ _ (by omega)] at this
      exact this
    omega
  have hz : ∀ t ∈ rg (b / w) ((b + w - 1) / w + 1), Sz 1000 t := fun t ht => by
    have := rg_mem.mp ht
    show t.natAbs < 2 ^ 1000
    omega
  rw [if_pos (show RgW (b / w) ((b + w - 1) / w + 1) by show (_ - _ : Int).toNat ≤ sizeLine; rw [sizeLine_eq]; omega)]
  rw [mapK_pure (fun t : Int => (t * w, t * w + w - 1)) (fun t ht nx => by rw [owned_ok h (hz t ht), some_bind'])]
  try dsimp only
  rcases two with k | k
  · rw [k, rg_one]
    obtain ⟨q1, q2⟩ := div_lo2 (b + w - 1) w1
    rw [k] at q1 q2
    simp only [List.map_cons, List.map_nil, List.sum_cons, List.sum_nil]
    generalize b / w * w = y at *
    have ey : b = y := by omega
    rw [if_pos (decide_eq_true (by omega)), if_pos (by simp)]
    have : minL [min (b + w) (y + w - 1 + 1) - max b y] = min (b + w) (y + w - 1 + 1) - max b y := rfl
    rw [this, decide_eq_true (by omega)]
  · rw [k, rg_two]
    obtain ⟨q1, q2⟩ := div_lo2 (b + w - 1) w1
    rw [k, Int.add_mul, Int.one_mul] at q1 q2
    simp only [List.map_cons, List.map_nil, List.sum_cons, List.sum_nil, Int.add_mul, Int.one_mul]
    generalize b / w * w = y at *
    rw [if_pos (decide_eq_true (by omega)), if_pos (by simp)]
    have : minL [min (b + w) (y + w - 1 + 1) - max b y, min (b + w) (y + w + w - 1 + 1) - max b (y + w)] = min (min (b + w) (y + w - 1 + 1) - max b y) (min (b + w) (y + w + w - 1 + 1) - max b (y + w)) := rfl
    rw [this, decide_eq_true (by omega)]
end
section
variable {f n : Int} {us : List Int} {es p q : List (Int × Int)}
theorem rmul_ok (h : Made f us es) (hn : 1 ≤ n) {m k : Nat} (hf : Sz k f) (hz : Sz m n) (hk : k + m ≤ 200) : f_Ladder_rmul (mkL f us es) n = some (mkL (f * n) us (mulL n es)) := by
  unfold f_Ladder_rmul
  rw [lmul_ok h hn hf hz hk]
  rfl
theorem great_right_ok (m : Made f us es) (f3 : f ≤ 3) {i : Nat} {w : Int} {e : Int × Int} (hw : (wides f us)[i]? = some w) (he : es[i]? = some e) {b : Int} (bz : Sz 300 b) {s : Pot} (hs : Good mP s) : ∃ s', f__law_great_right (mkL f us es) b i s = some (true, s') ∧ Good mP s' := by
  have f1 := m.f1
  have bz' : b.natAbs < 2 ^ 300 := bz
  obtain ⟨e', he', A⟩ := at_of m.f1 m.fz m.hu m.he hw
  rw [he] at he'
  cases he'
  show (fun r => ∃ s', r = some (true, (s' : Pot)) ∧ Good mP s') _
  unfold f__law_great_right
  obtain ⟨a, s1, e1, g1, a0, a1⟩ := draw_ok (n := 1000000000) hs (by omega) (sz_lit _ (by decide))
  rw [e1, some_bind']
  try dsimp only
  have hn : 1 ≤ 2 + a := by omega
  have nz : Sz 31 (2 + a) := by
    show (2 + a).natAbs < 2 ^ 31
    omega
  have fz : Sz 2 f := by
    show f.natAbs < 2 ^ 2
    omega
  have M := m.mul hn fz nz (by omega)
  rw [rmul_ok m hn fz nz (by omega), some_bind']
  have hw2 : (wides (f * (2 + a)) us)[i]? = some (w * (2 + a)) := by
    rw [wides_mul, List.getElem?_map, hw]
    rfl
  obtain ⟨e2, he2, B⟩ := at_of M.f1 M.fz M.hu M.he hw2
  rw [mulL_at he] at he2
  cases he2
  generalize 2 + a = n at *
  refine forK_ex (fun r => ∃ s', r = some (true, (s' : Pot)) ∧ Good mP s') (fun _ _ s => Good mP s) g1 (fun j x c s hx g => ?_) fun c s g => ?_
  · obtain ⟨hx1, hx2⟩ := rg_at hx
    have pz : Sz 301 (b + x) := by
      have pw : (2 : Nat) ^ 300 + 6 < 2 ^ 301 := by decide +kernel
      show (b + x).natAbs < 2 ^ 301
      omega
    have t1 : ((b + x) * n - e.2 * n) / (w * n) = (b + x - e.2) / w := by
      rw [show (b + x) * n - e.2 * n = (b + x - e.2) * n + 0 by rw [Int.sub_mul]; omega]
      exact div_times hn ⟨by omega, by omega⟩
    have t2 : ((b + x) * n + e.1 * n) / (w * n) = (b + x + e.1) / w := by
      rw [show (b + x) * n + e.1 * n = (b + x + e.1) * n + 0 by rw [Int.add_mul (b + x)]; omega]
      exact div_times hn ⟨by omega, by omega⟩
    have t3 : ((b + x) * n + n - 1 - e.2 * n) / (w * n) = (b + x - e.2) / w := by
      rw [show (b + x) * n + n - 1 - e.2 * n = (b + x - e.2) * n + (n - 1) by rw [Int.sub_mul]; omega]
      exact div_times hn ⟨by omega, by omega⟩
    have t4 : ((b + x) * n + n - 1 + e.1 * n) / (w * n) = (b + x + e.1) / w := by
      rw [show (b + x) * n + n - 1 + e.1 * n = (b + x + e.1) * n + (n - 1) by rw [Int.add_mul (b + x)]; omega]
      exact div_times hn ⟨by omega, by omega⟩
    refine ⟨(), s, g, fun next done => ?_⟩
    try dsimp only
    rw [if_pos (mulOk pz nz (by omega)), holders_ok B, some_bind', holders_ok A, some_bind']
    try dsimp only
    rw [if_neg (by simp [t1, t2]), if_pos (mulOk pz nz (by omega)), holders_ok B, some_bind', some_bind']
    try dsimp only
    rw [if_neg (by simp [t3, t4])]
  · refine ⟨s, ?_, g⟩
    rw [side_ok B, some_bind', side_ok A, some_bind', if_pos (mulOk A.wz nz (by omega))]
    simp
/-- a ladder and what it is made of -/
def Pr29 (y : O_Ladder × T3 Int (List Int) (List (Int × Int))) : Prop := ∃ f us es, y = (mkL f us es, ⟨f, us, es⟩) ∧ Made f us es ∧ f ≤ 3
theorem right_ok {s : Pot} (hs : Good mP s) : ∃ s', f__law_right s = some (true, s') := by
  show (fun r => ∃ s', r = some (true, (s' : Pot))) _
  unfold f__law_right
  obtain ⟨fa, ua, ea, s1, e1, g1, ma, fa3⟩ := small_ok hs
  rw [e1, some_bind']
  try dsimp only
  obtain ⟨fb, ub, eb, s2, e2, g2, mb, fb3⟩ := small_ok g1
  rw [e2, some_bind']
  try dsimp only
  have fza : Sz 140 fa := by
    have := ma.f1
    show fa.natAbs < 2 ^ 140
    omega
  have fzb : Sz 140 fb := by
    have := mb.f1
    show fb.natAbs < 2 ^ 140
    omega
  obtain ⟨s3, e3, g3⟩ := built_ok ma g2
  obtain ⟨s4, e4, g4⟩ := built_ok mb g3
  obtain ⟨ta, ra, oa⟩ := repr_ok ma fza
  obtain ⟨tb, rb, ob⟩ := repr_ok mb fzb
  simp only [mapK, e3, e4, some_bind', ra, rb, init_ok ma.f1 ma.fz ma.hu ma.he, init_ok mb.f1 mb.fz mb.hu mb.he]
  have hz : ∀ y ∈ List.zip [mkL fa ua ea, mkL fb ub eb] ([⟨fa, ua, ea⟩, ⟨fb, ub, eb⟩] : List (T3 Int (List Int) (List (Int × Int)))), Pr29 y := fun y hy => by
    simp only [List.zip_cons_cons, List.zip_nil_right, List.mem_cons, List.not_mem_nil, or_false] at hy
    rcases hy with rfl | rfl
    · exact ⟨_, _, _, rfl, ma, fa3⟩
    · exact ⟨_, _, _, rfl, mb, fb3⟩
  have so : SOk [ta, tb] := by
    show ([ta, tb].all PyData.strOk) = true
    simp [oa, ob]
  rw [if_pos ⟨so, so⟩, if_neg (by simp)]
  obtain ⟨r5, s5, e5, g5, r50, r51⟩ := draw_ok (n := 999) g4 (by omega) (sz_lit _ (by decide))
  rw [e5, some_bind']
  try dsimp only
  obtain ⟨r6, s6, e6, g6, z6⟩ := far_ok g5
  rw [e6, some_bind']
  try dsimp only
  rw [if_pos (divOk (by decide) (sz_lit 24 (by decide)) (by omega))]
  obtain ⟨b, s7, e7, g7, hb⟩ := pick_ok (l := [0, -1, r5 - 500, r6 / 10000000]) g6 (by simp) (by simp)
  rw [e7, some_bind']
  try dsimp only
  have bz : Sz 300 b := by
    have z7 : (r6 / 10000000).natAbs < 2 ^ 140 := z6.div
    have pw : (2 : Nat) ^ 140 < 2 ^ 300 := by decide +kernel
    simp only [List.mem_cons, List.not_mem_nil, or_false] at hb
    show b.natAbs < 2 ^ 300
    omega
  refine forK_wp (fun r => ∃ s', r = some (true, (s' : Pot))) (fun _ _ s => Good mP s) g7 (fun j x c s next done hx g hn => ?_) fun c s g => ?_
  · obtain ⟨hx1, hx2⟩ := rg_at hx
    refine forK_wp (fun r => ∃ s', r = some (true, (s' : Pot))) (fun _ _ s => Good mP s) g (fun i y c s next1 done1 hy g hn1 => ?_) fun c s g => hn _ _ g
    obtain ⟨f, us, es, rfl, m, f3⟩ := hz y (List.mem_of_getElem? hy)
    try dsimp only
    rw [law_wides_ok m.f1 m.fz m.hu, some_bind']
    try dsimp only
    by_cases k : x ≥ ((wides f us).length : Int)
    · rw [if_pos (decide_eq_true k)]
      exact hn1 _ _ g
    · have hl : j < (wides f us).length := by omega
      have hle : j < es.length := by rw [m.he.1]; exact hl
      have hxj : x = (j : Int) := by omega
      have hw : (wides f us)[j]? = some (wides f us)[j] := List.getElem?_eq_getElem hl
      have he : es[j]? = some es[j] := List.getElem?_eq_getElem hle
      obtain ⟨e', he', A⟩ := at_of m.f1 m.fz m.hu m.he hw
      rw [he] at he'
      cases he'
      have wb := wides_le m.f1 (by omega) m.hu _ (List.mem_of_getElem? hw)
      obtain ⟨s8, e8, g8⟩ := great_right_ok m f3 hw he bz g
      rw [if_neg (by simpa using k), hxj, atI_ok he, some_bind', atI_ok hw, some_bind', level_ok A (by omega) bz, some_bind', if_neg (by decide), e8, some_bind']
      try dsimp only
      rw [if_neg (by decide)]
      exact hn1 _ _ g8
  · refine ⟨s, ?_⟩
    simp [List.zip, mapK, init_ok ma.f1 ma.fz ma.hu ma.he, init_ok mb.f1 mb.fz mb.hu mb.he, f_Ladder_eq]
end
end Hd

set_option Elab.async false
set_option linter.all false
set_option maxRecDepth 100000
set_option maxHeartbeats 4000000
namespace Hd
open PySem PySem.Spec PyProof.Rows L2 He Lw StX Lx
open Lw.En (enc)
local macro_rules | `(tactic| walk_at "vc") => `(tactic| simp only [tSeq, tAsg, tRet, tRetN, tDrop, tNext, tIfS, tNever, tVar, tC, tOp, tUn, tTest, tB, tNot, tAnd, tOr, tAndV, tOrV, tNotV, tIf, tChain, tCmp, t2I, tCB, tCons, tNil, tTup, tLst, tMC, tFld, sFld, tPr, gName, wipe, List.foldl_cons, List.foldl_nil, tYes, iTup, iList, iEnum, iEnumT, iEnumK, iRng1, iRng2, iRng3, gNil, gCons, gTup, gUnl, gSub, tPar, rI, rI0, rU, tIsN, tNotN, tSl, tPart, tNoPart, tThen, rMk, tStar, tBM, tM1, tLoc, tCM, tCMW, tMW, tCW,
  assignEach, cxOf, L2.start, List.map_cons, List.map_nil, List.length_cons, List.length_nil, List.replicate, List.cons_append, List.nil_append, List.getElem?_cons_zero, List.getElem?_cons_succ, List.set_cons_zero, List.set_cons_succ, Option.some.injEq, V.int.injEq, V.bl.injEq, V.ref.injEq, V.str.injEq, exists_eq_left', exists_eq_left, exists_eq_right', exists_eq_right, exists_and_left, exists_and_right, true_and, and_true, List.cons.injEq, List.cons_ne_nil, reduceCtorEq, false_and, and_false, exists_false, if_true, if_false, Bool.false_eq_true, Bool.true_eq_false, eq_self, forall_eq, forall_eq', rEq_int, rNe_int, rEq_str, rNe_str])

local macro_rules | `(tactic| walk_at "m") => `(tactic| first | exact List.Mem.head _ | (apply List.Mem.tail; walk_at "m"))

local macro_rules | `(tactic| walk_at "fact") => `(tactic| first
  | exact Ctx.old ‹_›
  | exact (Ctx.potAt ‹_› 0 rfl).1
  | exact Ctx.d ‹_› (by walk_at "m")
  | exact Ctx.get (A := hist K _) ‹_› (by walk_at "m"))
local macro_rules | `(tactic| walk_at "go") => `(tactic| ((try dsimp only); repeat' (first
  | exact rfl
  | assumption
  | walk_at "fact"
  | exact List.mem_singleton_self _
  | exact SqT.of upd_same
  | exact SqT.of ‹_›
  | exact SqL.of ‹_›
  | (with_reducible refine iteF rfl ?_)
  | (with_reducible refine iteT' rfl ?_)
  | omega
  | decide
  | (with_reducible apply And.intro)
  | (with_reducible apply Exists.intro))))

variable {P : Program} {w : World} {K : Frag} {mg : Str → Option Value} {base : Heap}
abbrev P__law_pot (K : Frag) : Sp := sp2 fun x y H Q _ => ∃ a, ∃ ns : List Int, ∃ i : Nat, x = .ref a ∧ SqL K H a (ns.map V.int) ∧ y = .int i ∧ i ≤ 4 ∧ ∀ p H' st, Kp [] H H' → H p = none → H' p = some (.lst [.int (st : Pot).1, .int st.2]) → Good mP st → Q (.ref p) H'
theorem sc__law_pot : FnScope ["_law_script", "_law_k", "_law_start"] ["_law_script", "_law_k"] (defScope s__law_pot) := ⟨rfl, rfl, rfl, by decide +kernel, rfl, by decide +kernel, by decide +kernel⟩
theorem B__law_pot (T : Tx K mg) : BodyG CX0 P w K mg base ["_law_script", "_law_k", "_law_start"] "_law_pot" (defScope s__law_pot) (defBody s__law_pot) 58 (ga K "_law_pot") (P__law_pot K) := by
  intro cdv A outer s H vs Q E hr h
  have hu := hr.units
  have hu1 := hr.units1
  obtain ⟨x_script, x_k, rfl, h⟩ := h
  refine ⟨_, PSs.nox (pss_cons (ps_set (i := 2) sc__law_pot.nd rfl (by first | exact Or.inl rfl | exact Or.inr rfl) (pe_op (op_add) (pe_op (op_mul) pe_int (pv 1)) pe_int))
    (pss_cons (ps_if (pt_cmpR (op_lt) (pv 1) (pe_callB (call_len_seq) (by rfl) (z_len T) PySem.boot_len (pa_cons (pv 0) pa_nil)) (nomark _)) (pss_one (ps_set (i := 2) sc__law_pot.nd rfl (by first | exact Or.inl rfl | exact Or.inr rfl) (pe_callB (call_abs) (by rfl) (z_abs T) PyProof.Rows.boot_abs (pa_cons (pe_ix ix_list (pv 0) (pv 1) (fun _ _ => rfl)) pa_nil)))) pss_nil)
    (pss_one (ps_ret (pe_lst (pa_cons (pe_callB (call_max2 rfl) (by rfl) (z_max T) PyProof.Rows.boot_max (pa_cons pe_int (pa_cons (pe_op (op_sub) (pv 2) (pe_op (op_pow) pe_int pe_int)) pa_nil))) (pa_cons (pe_op (op_add) (pe_op (op_mod) (pe_callTy (call_int1) (by rfl) (z_int T) PyProof.Rows.boot_int (pa_cons (pe_op (op_add) (pe_op (op_add) (pe_op (op_mul) (pe_op (op_mod) (pe_callTy (call_int1) (by rfl) (z_int T) PyProof.Rows.boot_int (pa_cons (pv 2) pa_nil)) pe_int) pe_int) (pe_op (op_mul) pe_int (pv 1))) pe_int) pa_nil)) pe_int) pe_int) pa_nil))))))), ?_⟩
  walk_at "vc"
  obtain ⟨a, ns, i, rfl, hq, rfl, hi, q⟩ := h
  have sl2 : 0 + 1 + 1 ≤ sizeLine := by rw [sizeLine_eq]; decide
  have c18 : CPow 10 18 := ⟨by omega, by omega, by decide⟩
  refine ⟨_, rfl, .inl (by omega), a, rfl, _, .inl hq, _, rfl, ?_⟩
  rw [List.length_map]
  split
  · rename_i hd
    have hlt : i < ns.length := by simpa using hd
    refine ⟨a, _, _, .int (ns[i]), rfl, rfl, hq, atI_nat (by simp [hlt]), ?_⟩
    generalize ns[i] = z
    refine ⟨_, rfl, c18, _, _, ⟨rfl, rfl⟩, .inl ⟨by omega, .inr ⟨by omega, by omega⟩, _, rfl, .inl ⟨by omega, by omega⟩, .inl ⟨by omega, sl2, fun p hp => ?_⟩⟩⟩
    have m0 := Int.emod_nonneg ((if z < 0 then -z else z) % 2147483587 * 48271 + 9973 * (i : Int) + 41) (b := 2147483629) (by omega)
    have m1 := Int.emod_lt_of_pos ((if z < 0 then -z else z) % 2147483587 * 48271 + 9973 * (i : Int) + 41) (b := 2147483629) (by omega)
    refine q p _ (if (if z < 0 then -z else z) - 10 ^ Int.toNat 18 > 0 then (if z < 0 then -z else z) - 10 ^ Int.toNat 18 else 0, ((if z < 0 then -z else z) % 2147483587 * 48271 + 9973 * (i : Int) + 41) % 2147483629 + 1) (.new hp) hp upd_same ⟨?_, ?_, ?_⟩
    · show 0 ≤ (if _ > (0 : Int) then _ else _)
      split <;> omega
    · show 0 ≤ _ % _ + 1
      omega
    · show _ % _ + 1 < (1099511627776 : Int)
      omega
  · refine ⟨c18, _, _, ⟨rfl, rfl⟩, .inl ⟨by omega, .inr ⟨by omega, by omega⟩, _, rfl, .inl ⟨by omega, by omega⟩, .inl ⟨by omega, sl2, fun p hp => ?_⟩⟩⟩
    have m0 := Int.emod_nonneg ((31 * (i : Int) + 13) % 2147483587 * 48271 + 9973 * (i : Int) + 41) (b := 2147483629) (by omega)
    have m1 := Int.emod_lt_of_pos ((31 * (i : Int) + 13) % 2147483587 * 48271 + 9973 * (i : Int) + 41) (b := 2147483629) (by omega)
    refine q p _ (if (31 * (i : Int) + 13) - 10 ^ Int.toNat 18 > 0 then (31 * (i : Int) + 13) - 10 ^ Int.toNat 18 else 0, ((31 * (i : Int) + 13) % 2147483587 * 48271 + 9973 * (i : Int) + 41) % 2147483629 + 1) (.new hp) hp upd_same ⟨?_, ?_, ?_⟩
    · show 0 ≤ (if _ > (0 : Int) then _ else _)
      split <;> omega
    · show 0 ≤ _ % _ + 1
      omega
    · show _ % _ + 1 < (1099511627776 : Int)
      omega

theorem G__law_pot (T : Tx K mg) : FnG P w K mg base CX0 59 (ga K "_law_pot") (P__law_pot K) := by
  obtain ⟨fd, F⟩ := F__law_pot T
  have b : L2.Binds K fd ["_law_script", "_law_k"] [] := F.bindsN fun _ _ _ _ _ _ us hl => match us, hl with | [_, _], _ => rfl
  exact fnG_pl F sc__law_pot b sp2_len (B__law_pot T)
abbrev P_law (K : Frag) : Sp := sp1 fun x H Q _ => ∃ a, ∃ ns : List Int, x = .ref a ∧ SqL K H a (ns.map V.int) ∧ ns.length ≤ 63 ∧ ∀ H', Q (.bl true) H'
theorem sc_law : FnScope ["_law_script", "_law_k"] ["_law_script"] (defScope s_law) := ⟨rfl, rfl, rfl, by decide +kernel, rfl, by decide +kernel, by decide +kernel⟩
theorem B_law (T : Tx K mg) : BodyG CX0 P w K mg base ["_law_script", "_law_k"] "law" (defScope s_law) (defBody s_law) 59 (ga K "law") (P_law K) := by
  intro cdv A outer s H vs Q E hr h
  have hu := hr.units
  have hu1 := hr.units1
  obtain ⟨x_script, rfl, h⟩ := h
  refine ⟨_, PSs.nox (pss_one (ps_ret (pe_callB (cr_all rfl) (by rfl) (z_all T) PyProof.Rows.boot_all (pa_cons (pe_lc rfl sc_law.nd (pi_range1 rfl (z_range T) (pa_cons (pe_callB (call_max2 rfl) (by rfl) (z_max T) PyProof.Rows.boot_max (pa_cons pe_int (pa_cons (pe_callB (call_min2 rfl) (by rfl) (z_min T) PyProof.Rows.boot_min (pa_cons pe_int (pa_cons (pe_callB (call_len_seq) (by rfl) (z_len T) PySem.boot_len (pa_cons (pv 0) pa_nil)) pa_nil))) pa_nil))) pa_nil)) (blkOk_by (N := ["_law_script", "_law_k"]) (sc := defScope s_law) (own := [("_law_k", 1)]) (by decide +kernel)) (fun _ _ _ _ _ => (pg_name (i := 1) sc_law.nd rfl (by first | exact Or.inl rfl | exact Or.inr rfl))) (fun _ _ _ _ _ => pts_nil) (fun _ _ _ _ _ => (pe_c (call_g (G__law_right T) (hr.mono (by decide)) pass0) (kp__law_right T) rfl (g__law_right T) (pa_cons (pe_c (call_g (G__law_pot T) (hr.mono (by decide)) pass0) (kp__law_pot T) rfl (g__law_pot T) (pa_cons (pv 0) (pa_cons (pv 1) pa_nil))) pa_nil)))) pa_nil)))), ?_⟩
  walk_at "vc"
  obtain ⟨a, ns, rfl, hq, hz, q⟩ := h
  refine tLc_d H [] [] (fun i => List.replicate i true) (walk_range (lo := 0) (n := max 1 (min ns.length 3))) (fun R hR => ?_) rfl (fun _ _ _ _ => trivial) ?_ ?_
  · walk_at "vc"
    refine ⟨_, .inl hq, _, _, ⟨rfl, rfl⟩, _, _, ⟨rfl, rfl⟩, ?_⟩
    rw [List.length_map]
    have e : (if (if (3 : Int) < (ns.length : Int) then 3 else (ns.length : Int)) > 1 then (if (3 : Int) < (ns.length : Int) then 3 else (ns.length : Int)) else 1) = ((max 1 (min ns.length 3) : Nat) : Int) := by
      split <;> split <;> omega
    first
      | (rw [e]; exact ⟨by omega, by omega, by rw [Int.toNat_natCast]; exact hR⟩)
      | (have e2 : (if (if (ns.length : Int) < 3 then (ns.length : Int) else 3) > 1 then (if (ns.length : Int) < 3 then (ns.length : Int) else 3) else 1) = ((max 1 (min ns.length 3) : Nat) : Int) := by
          split <;> split <;> omega
         rw [e2]; exact ⟨by omega, by omega, by rw [Int.toNat_natCast]; exact hR⟩)
  · rintro D i x H1 H2 hi pp ⟨rfl, rfl⟩
    walk_at "vc"
    have hq2 : SqL K H2 a (ns.map V.int) := SqL_kp hq pp.kp fun o e z => by
      rw [List.mem_singleton.mp z, pp.new] at e
      cases e
    refine ⟨_, _, rfl, a, ns, i, rfl, hq2, by rw [Int.zero_add], by omega, fun t H3 st k3 hn ht hg => ?_⟩
    obtain ⟨s', hs'⟩ := right_ok hg
    refine ⟨[t], t, [], (), st, true, s', Old.cons ht Old.nil, List.mem_singleton_self t, rfl, ht, trivial, hs', fun v H4 k4 _ r => ?_⟩
    cases (show v = V.bl true from r)
    refine pp.put ((k3.of0.trans k4).newS hn) Old.nil subNil (v := true) (Dx.bl true) (by rw [List.replicate_succ']) ?_
    have := sizeLine_eq
    rw [List.length_replicate]
    omega
  · intro D H1 pp
    obtain ⟨k, d⟩ := pp.done Old.nil
    obtain ⟨b, ys, e1, nb, eb, db⟩ := d.ls
    cases e1
    have eb2 := db.bools
    subst eb2
    refine ⟨D, _, rfl, SqL.of eb, ?_⟩
    rw [show (List.replicate (max 1 (min ns.length 3)) true).all id = true by simp]
    exact q _

theorem G_law (T : Tx K mg) : FnG P w K mg base CX0 60 (ga K "law") (P_law K) := by
  obtain ⟨fd, F⟩ := F_law T
  have b : L2.Binds K fd ["_law_script"] [] := F.bindsN fun _ _ _ _ _ _ us hl => match us, hl with | [_], _ => rfl
  exact fnG_pl F sc_law b sp1_len (B_law T)
theorem Tx.of {h : Heap} (X : K.In h) (G : h.Ns mainGlobals mg) (c : SaysB fs fn K) : Tx K mg := ⟨c, fun x hx => He.glo_ok X G hx, fun x hx => He.free_ok X G hx⟩
end Hd
open PySem PySem.W PySem.Calls PyProof.Rows
set_option maxHeartbeats 0 in
theorem PySem.Challenge.cw_onceseen_k29_whole_holders_counted_holds : PySem.Challenge.rw_onceseen_k29_whole_holders_counted.Holds := by
  w_on; o_law
  refine HandSHeadRun.head_any (r := OpenLaw.row PySem.Challenge.rw_onceseen_k29_whole_holders_counted) (q := view (OpenLaw.row PySem.Challenge.rw_onceseen_k29_whole_holders_counted).prog [Hd.ilaw]) (H := Hd.hk) (ob := Hd.ob) (M := 20000) (loose := Hd.loose) (d := HandSHeadRun.topDef (OpenLaw.row PySem.Challenge.rw_onceseen_k29_whole_holders_counted).prog Hd.ilaw) (kwd := []) Hd.ob_eq
    (by kernel_rfl) (fun s => by kernel_rfl) Hd.run (by kernel_rfl) (by kernel_rfl) (by kernel_rfl) (by rfl) (by first | assumption | decide +kernel) (by decide +kernel) ⟨rfl, rfl, rfl, rfl, rfl, by decide +kernel⟩ ?hw ?hc
  case hw => w_witness2
  case hc =>
    refine Lw.end_law (l := PySem.Challenge.rw_onceseen_k29_whole_holders_counted) (n := 63) (k := 60) rfl (by decide) (by kernel_rfl) ⟨rfl, by decide, by decide⟩ ?F
    intro w mg fa h Y G hmg0
    obtain ⟨K, KX, c⟩ := Y
    have T := Hd.Tx.of KX G c
    have hmg : mg ("law" : PySem.Str) = some (.ref fa) := by
      have e : (HandSHeadRun.topDef (OpenLaw.row PySem.Challenge.rw_onceseen_k29_whole_holders_counted).prog Hd.ilaw).name = ("law" : PySem.Str) := by kernel_rfl
      rw [← e]
      exact hmg0
    have e := hmg.symm.trans (Hd.g_law T)
    cases e
    exact ⟨K, Hd.P_law K, KX, fun H a ns hl hS => ⟨_, rfl, a, ns, rfl, hS, hl, fun _ => rfl⟩, fun base _ _ => Hd.G_law T⟩


